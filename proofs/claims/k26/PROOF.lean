import PyProof.Rows.All
import Wide.All
import OpenK.AllK
import Wide.FinOn
import Lean
import PyProof.EqAt
import PyProof.EqKinds
import PyProof.TupleCall
import KE.KSortTup
import PySem.SetTable
import KE.KDictList
import PyProof.Rows.SeqMore
import PyProof.StrLawsIn
import PyProof.MeetsStr3
import PyProof.Rows.StrSplitMax
import KE.KDictLaws
import PyProof.Rows.CallKwBuiltin
import PyProof.ZipIter
import PyProof.Rows.ZipGen
import PyProof.Rows.StrWeight2
import KE.KDictSum
import KE.KTryMore
import PyProof.Rows.TopTwo
import PyProof.ExcBaseAll.ValueError
import KE.RegKIsAll
import KE.RegKTryMore
import PyProof.ExcAttrAll.ValueError
import PySem.Challenge.RW_folk_k26_chains
set_option Elab.async false
set_option linter.all false
set_option maxRecDepth 100000
namespace L2
open PySem PySem.Spec PyProof.Rows

abbrev Key := Sum Int Str
def keyIs : Key → Value → Bool
  | .inl k, v => Value.isInt k v
  | .inr x, v => Value.isStrOf x v
def keyH (w : World) : Key → Int
  | .inl k => hashInt k
  | .inr x => hashStr w x
theorem keyIs_shape : ∀ {k : Key} {v : Value}, keyIs k v = true → (∃ i t, k = Sum.inl i ∧ v = Value.int i t) ∨ (∃ x t, k = Sum.inr x ∧ v = Value.str x t)
  | .inl i, v, h => by
    obtain ⟨t, e⟩ := Value.isInt_shape (k := i) (v := v) h
    exact .inl ⟨i, t, rfl, e⟩
  | .inr x, v, h => by
    obtain ⟨t, e⟩ := Value.isStrOf_shape (x := x) (v := v) h
    exact .inr ⟨x, t, rfl, e⟩
theorem keyIs_int (i : Int) (t : Tok) : keyIs (.inl i) (.int i t) = true := by simp [keyIs, Value.isInt]
theorem keyIs_str (x : Str) (t : Tok) : keyIs (.inr x) (.str x t) = true := by simp [keyIs, Value.isStrOf]
theorem key_ll (a b : Int) : decide ((Sum.inl a : Key) = Sum.inl b) = (a == b) := by
  by_cases e : a = b
  · subst e; simp
  · have h : ¬ (Sum.inl a : Key) = Sum.inl b := fun q => e (Sum.inl.inj q)
    rw [decide_eq_false h]
    exact (beq_eq_false_iff_ne.mpr e).symm
theorem key_rr (a b : Str) : decide ((Sum.inr a : Key) = Sum.inr b) = decide (a = b) := by
  by_cases e : a = b
  · subst e; simp
  · have h : ¬ (Sum.inr a : Key) = Sum.inr b := fun q => e (Sum.inr.inj q)
    rw [decide_eq_false h, decide_eq_false e]
theorem key_lr (a : Int) (b : Str) : decide ((Sum.inl a : Key) = Sum.inr b) = false := decide_eq_false (fun q => nomatch q)
theorem key_rl (a : Str) (b : Int) : decide ((Sum.inr a : Key) = Sum.inl b) = false := decide_eq_false (fun q => nomatch q)

def mixKind (prog : Program) (w : World) : PySem.KeyKind prog w Key where
  is := keyIs
  hash := keyH w
  inj := fun v a b ha hb => by
    rcases keyIs_shape ha with ⟨i, t, rfl, rfl⟩ | ⟨x, t, rfl, rfl⟩
    · rcases keyIs_shape hb with ⟨j, u, rfl, e⟩ | ⟨y, u, rfl, e⟩
      · injection e with e1 _; rw [e1]
      · exact nomatch e
    · rcases keyIs_shape hb with ⟨j, u, rfl, e⟩ | ⟨y, u, rfl, e⟩
      · exact nomatch e
      · injection e with e1 _; rw [e1]
  byValue := fun k v h => by
    rcases keyIs_shape h with ⟨i, t, rfl, rfl⟩ | ⟨x, t, rfl, rfl⟩ <;> rfl
  pyHash := fun hv h => by
    rcases keyIs_shape hv with ⟨i, t, rfl, rfl⟩ | ⟨x, t, rfl, rfl⟩
    · exact wpAny_pyHash_int h
    · exact wpAny_pyHash_str h
  eqBool := fun hu hv h => by
    rcases keyIs_shape hu with ⟨i, t, rfl, rfl⟩ | ⟨x, t, rfl, rfl⟩
    · rcases keyIs_shape hv with ⟨j, u, rfl, rfl⟩ | ⟨y, u, rfl, rfl⟩
      · rw [key_ll] at h; exact wpAny_eqBool_int h
      · rw [key_lr] at h; exact SeqAt.EqAt.int_str i t y u _ _ _ _ h
    · rcases keyIs_shape hv with ⟨j, u, rfl, rfl⟩ | ⟨y, u, rfl, rfl⟩
      · rw [key_rl] at h; exact SeqAt.EqAt.str_int x t j u _ _ _ _ h
      · rw [key_rr] at h; exact wpAny_eqBool_str h
  «strs» := fun k x t v h => by
    rcases keyIs_shape h with ⟨i, u, rfl, e⟩ | ⟨y, u, rfl, e⟩
    · exact nomatch e
    · injection e with e1 _
      subst e1
      cases v <;> rfl

theorem mixKind_int (prog : Program) (w : World) (i : Int) (t : Tok) : (mixKind prog w).is (.inl i) (.int i t) = true := keyIs_int i t
theorem mixKind_str (prog : Program) (w : World) (x : Str) (t : Tok) : (mixKind prog w).is (.inr x) (.str x t) = true := keyIs_str x t
end L2

namespace L2
open PySem PySem.Spec PyProof.Rows

inductive V where
  | non | bl (b : Bool) | int (i : Int) | str (x : Str) | byt (b : Array UInt8) | flt (b : UInt64) | ref (a : Addr) | ty (n : String)
  deriving DecidableEq

def RelV : V → Value → Prop
  | .non, u => u = Value.none
  | .bl b, u => u = Value.bool b
  | .int i, u => ∃ t, u = Value.int i t
  | .str x, u => ∃ t, u = Value.str x t
  | .byt b, u => ∃ t, u = Value.bytes b t
  | .flt b, u => ∃ t, u = Value.float b t
  | .ref a, u => u = Value.ref a
  | .ty n, u => u = Value.type n

abbrev Vals : List V → List Value → Prop := Paired RelV
theorem Vals.length {xs : List V} {us : List Value} (r : Vals xs us) : xs.length = us.length := Paired.length r
theorem Vals.get : ∀ {xs : List V} {us : List Value} {i : Nat} {x : V}, Vals xs us → xs[i]? = some x → ∃ u, us[i]? = some u ∧ RelV x u
  | _, _, _, _, .nil, e => by simp at e
  | _, _, 0, _, .cons r _, e => by simp at e; subst e; exact ⟨_, rfl, r⟩
  | _, _, i + 1, x, .cons _ t, e => by
    obtain ⟨u, h1, h2⟩ := Vals.get (i := i) (x := x) t (by simpa using e)
    exact ⟨u, by simpa using h1, h2⟩
theorem Vals.set {x : V} {u : Value} (r : RelV x u) : ∀ {xs : List V} {us : List Value} (i : Nat), Vals xs us → Vals (xs.set i x) (us.set i u)
  | _, _, _, .nil => .nil
  | _, _, 0, .cons _ t => .cons r t
  | _, _, i + 1, .cons q t => .cons q (Vals.set r i t)
theorem Vals.append : ∀ {xs ys : List V} {us ws : List Value}, Vals xs us → Vals ys ws → Vals (xs ++ ys) (us ++ ws)
  | _, _, _, _, .nil, s => s
  | _, _, _, _, .cons r t, s => .cons r (Vals.append t s)
theorem Vals.take : ∀ {xs : List V} {us : List Value} (n : Nat), Vals xs us → Vals (xs.take n) (us.take n)
  | _, _, 0, _ => .nil
  | _, _, _ + 1, .nil => .nil
  | _, _, n + 1, .cons r t => .cons r (Vals.take n t)
theorem Vals.drop : ∀ {xs : List V} {us : List Value} (n : Nat), Vals xs us → Vals (xs.drop n) (us.drop n)
  | _, _, 0, r => r
  | _, _, _ + 1, .nil => .nil
  | _, _, n + 1, .cons _ t => Vals.drop n t
def RelO : Option V → Option Value → Prop
  | some v, some u => RelV v u
  | none, none => True
  | _, _ => False
def KV {κ : Type} : List (κ × V) → List (κ × Value) → Prop := Paired fun (p : κ × V) (q : κ × Value) => p.1 = q.1 ∧ RelV p.2 q.2

def kV : Key → V
  | .inl i => .int i
  | .inr x => .str x

inductive HO where
  /-- a list -/
  | lst (xs : List V)
  /-- a tuple (never changes) -/
  | tup (xs : List V)
  /-- a dict whose keys are ints and texts; one whose keys are tuples of ints and texts (the empty one is both) -/
  | dK (kvs : List (Key × V)) | dT (kvs : List (List Key × V))
  /-- a set of ints: its members, its size -/
  | set (S : Int → Bool) (n : Nat)
  /-- an instance of the class at C, its dict at dx, its attributes -/
  | ins (C dx : Addr) (fs : List (Str × V))
  /-- the dict of the instance at x -/
  | own (x : Addr)
  /-- the dict of an exception -/
  | xd (fs : List (Str × V))
  /-- a bound method, f of x -/
  | met (f x : Addr)
  /-- a range object lo, lo + 1, .. below hi -/
  | rng (lo hi : Int)
  /-- a thing that is known to the object (the script; a dict while a loop walks it): read, never written while it is so -/
  | frz (o : Obj) (u : HO)
  /-- a code object's table -/
  | tbl (ps : Array Value)
  /-- any other thing, by what is true of its one object (a def of one's own: SetO a S n := HO.ext fun h => ..) -/
  | ext (φ : Heap → Prop)

abbrev Hp := Addr → Option HO
def upd (H : Hp) (a : Addr) (o : HO) : Hp := fun b => if b = a then some o else H b
theorem upd_same {H : Hp} {a : Addr} {o : HO} : upd H a o a = some o := by unfold upd; rw [if_pos rfl]
theorem upd_ne {H : Hp} {a b : Addr} {o : HO} (h : b ≠ a) : upd H a o b = H b := by unfold upd; rw [if_neg h]
theorem ne_of {H : Hp} {a b : Addr} {o u : HO} (h : H a = some o) (h' : H b = some u) (d : o ≠ u) : a ≠ b := by
  intro e; subst e; rw [h] at h'; exact d (Option.some.inj h')
theorem ne_of_none {H : Hp} {a b : Addr} {o : HO} (h : H a = some o) (h' : H b = none) : a ≠ b := by
  intro e; subst e; rw [h] at h'; cases h'

section
variable (P : Program) (w : World)
def ObjOk (H : Hp) (h : Heap) (a : Addr) : HO → Prop
  | .lst xs => xs.length ≤ sizeLine ∧ ∃ (its : List Value) (n : Nat), Vals xs its ∧ h.get? a = some { cls := .type "list", data := .seq its.toArray n }
  | .tup xs => xs.length ≤ sizeLine ∧ ∃ its : List Value, Vals xs its ∧ IsTup h a its.toArray
  | .dK kvs => kvs.length ≤ sizeLine ∧ (a == sysModules) = false ∧ ∃ vs, KV kvs vs ∧ h.DictOf (mixKind P w) a vs
  | .dT kvs => kvs.length ≤ sizeLine ∧ (a == sysModules) = false ∧ ∃ xs : List (List Key × Addr × Value),
      Paired (fun (p : List Key × V) (q : List Key × Addr × Value) => p.1 = q.1 ∧ H q.2.1 = some (.tup (p.1.map kV)) ∧ RelV p.2 q.2.2) kvs xs ∧
      ∃ o es ep, h.get? a = some o ∧ o.ExactDict ∧ o.data = .dict es ep ∧ es.toList = xs.map (entryOfKey (tupleKind (mixKind P w))) ∧ (xs.map (·.1)).Nodup
  | .set S n => h.SetOf (intKind P w) a S n
  | .ins C dx fs => H dx = some (.own a) ∧ fs.length ≤ 1000 ∧ dx ≠ a ∧ h.get? a = some (PySem.W.instObj C dx) ∧
      ∃ mA, h.Ns1 dx mA ∧ (∀ f, RelO (fs.lookup f) (mA f)) ∧ PySem.Within mA (fs.map (·.1))
  | .own _ => ∃ o, h.get? a = some o
  | .xd fs => ∃ mA, h.Ns1 a mA ∧ ∀ f, RelO (fs.lookup f) (mA f)
  | .rng lo hi => ∃ t u v, h.get? a = some { cls := .type "range", data := .fields #[.int lo t, .int hi u, .int 1 v] }
  | .frz o u => h.get? a = some o ∧ ObjOk H h a u
  | .tbl ps => h.get? a = some { cls := .none, data := .fields ps }
  | .met f x => h.get? a = some (PySem.W.methodObj (.ref f) (.ref x))
  | .ext φ => φ h ∧ (∃ o, h.get? a = some o) ∧ ∀ h1 h2 : Heap, φ h1 → (∀ o, h1.get? a = some o → h2.get? a = some o) → φ h2
def HOk (H : Hp) (h : Heap) : Prop := ∀ a o, H a = some o → ObjOk P w H h a o
end

section
variable {P : Program} {w : World} {H H' : Hp} {h h' : Heap} {a : Addr} {o : HO}
theorem ObjOk.lt (x : ObjOk P w H h a o) : a < h.objs.size := by
  cases o with
  | lst xs => obtain ⟨_, _, _, _, e⟩ := x; exact Heap.lt_size e
  | tup xs => obtain ⟨_, _, _, p⟩ := x; exact p.lt
  | dK kvs => obtain ⟨_, _, _, _, o, _, _, e, _⟩ := x; exact Heap.lt_size e
  | dT kvs => obtain ⟨_, _, _, _, o, _, _, e, _⟩ := x; exact Heap.lt_size e
  | set S n => obtain ⟨o, _, _, _, e, _⟩ := x; exact Heap.lt_size e
  | ins C dx fs => obtain ⟨_, _, _, e, _⟩ := x; exact Heap.lt_size e
  | own y => obtain ⟨_, e⟩ := x; exact Heap.lt_size e
  | xd fs => obtain ⟨_, ⟨_, _, _, e, _⟩, _⟩ := x; exact Heap.lt_size e
  | rng lo hi => obtain ⟨_, _, _, e⟩ := x; exact Heap.lt_size e
  | frz ob u => obtain ⟨e, _⟩ := x; exact Heap.lt_size e
  | tbl ps => exact Heap.lt_size (show h.get? a = some _ from x)
  | met f y => exact Heap.lt_size (show h.get? a = some _ from x)
  | ext φ => obtain ⟨_, ⟨_, e⟩, _⟩ := x; exact Heap.lt_size e
theorem Paired.mapP {α β : Type} {F G : α → β → Prop} : ∀ {l₁ : List α} {l₂ : List β}, Paired F l₁ l₂ → (∀ a b, F a b → G a b) → Paired G l₁ l₂
  | _, _, .nil, _ => .nil
  | _, _, .cons r t, f => .cons (f _ _ r) (Paired.mapP t f)
theorem ObjOk.stay (x : ObjOk P w H h a o) (k : ∀ b u, (b = a ∨ H b = some (.own a)) → h.get? b = some u → h'.get? b = some u)
    (ho : ∀ b, H b = some (.own a) → H' b = some (.own a)) (ht : ∀ b xs, H b = some (.tup xs) → H' b = some (.tup xs)) : ObjOk P w H' h' a o := by
  induction o with
  | lst xs => obtain ⟨z, its, n, r, e⟩ := x; exact ⟨z, its, n, r, k _ _ (.inl rfl) e⟩
  | tup xs => obtain ⟨z, its, r, ob, e, c⟩ := x; exact ⟨z, its, r, ob, k _ _ (.inl rfl) e, c⟩
  | dK kvs => obtain ⟨z, y, vs, r, ob, es, ep, e, c⟩ := x; exact ⟨z, y, vs, r, ob, es, ep, k _ _ (.inl rfl) e, c⟩
  | dT kvs =>
    obtain ⟨z, y, xs, r, ob, es, ep, e, c⟩ := x
    exact ⟨z, y, xs, Paired.mapP r fun p q z => ⟨z.1, ht _ _ z.2.1, z.2.2⟩, ob, es, ep, k _ _ (.inl rfl) e, c⟩
  | set S n => obtain ⟨ob, es, ep, t, e, c⟩ := x; exact ⟨ob, es, ep, t, k _ _ (.inl rfl) e, c⟩
  | ins C dx fs =>
    obtain ⟨d, z, ne, e, mA, ⟨od, es, ep, e2, c⟩, r⟩ := x
    exact ⟨ho _ d, z, ne, k _ _ (.inl rfl) e, mA, ⟨od, es, ep, k _ _ (.inr d) e2, c⟩, r⟩
  | own y => obtain ⟨ob, e⟩ := x; exact ⟨ob, k _ _ (.inl rfl) e⟩
  | xd fs => obtain ⟨mA, ⟨od, es, ep, e, c⟩, r⟩ := x; exact ⟨mA, ⟨od, es, ep, k _ _ (.inl rfl) e, c⟩, r⟩
  | rng lo hi => obtain ⟨t, u, v, e⟩ := x; exact ⟨t, u, v, k _ _ (.inl rfl) e⟩
  | frz ob u ih => obtain ⟨e, q⟩ := x; exact ⟨k _ _ (.inl rfl) e, ih q⟩
  | tbl ps =>
    have e : h.get? a = some { cls := .none, data := .fields ps } := x
    show h'.get? a = some { cls := .none, data := .fields ps }
    exact k a _ (.inl rfl) e
  | met f y =>
    have e : h.get? a = some (PySem.W.methodObj (.ref f) (.ref y)) := x
    show h'.get? a = some (PySem.W.methodObj (.ref f) (.ref y))
    exact k a _ (.inl rfl) e
  | ext φ => obtain ⟨p, ⟨o, e⟩, st⟩ := x; exact ⟨st _ _ p fun o q => k _ _ (.inl rfl) q, ⟨o, k _ _ (.inl rfl) e⟩, st⟩
theorem HOk.lt (x : HOk P w H h) (e : H a = some o) : a < h.objs.size := (x a o e).lt
theorem HOk.fresh (x : HOk P w H h) (e : h.objs.size ≤ a) : H a = none := by
  cases q : H a with
  | none => rfl
  | some u => exact absurd (Nat.lt_of_lt_of_le (x.lt q) e) (Nat.lt_irrefl _)
theorem HOk.kept (x : HOk P w H h) (k : ∀ b u, h.get? b = some u → h'.get? b = some u) : HOk P w H h' := fun a o e =>
  (x a o e).stay (fun b u _ q => k b u q) (fun _ q => q) fun _ _ q => q
theorem HOk.laid (x : HOk P w H h) (k : ∀ b u, h.get? b = some u → h'.get? b = some u) (hp : h.objs.size ≤ a) (new : ObjOk P w (upd H a o) h' a o) : HOk P w (upd H a o) h' := fun b u e => by
  have hn := x.fresh hp
  by_cases hb : b = a
  · subst hb; rw [upd_same] at e; cases e; exact new
  · rw [upd_ne hb] at e
    exact (x b u e).stay (fun c v _ q => k c v q) (fun c q => by rw [upd_ne (ne_of_none q hn)]; exact q) fun c xs q => by rw [upd_ne (ne_of_none q hn)]; exact q
end

def Rd (H : Hp) (a : Addr) (u : HO) : Prop := H a = some u ∨ ∃ o, H a = some (.frz o u)
theorem Rd.of {H : Hp} {a : Addr} {u : HO} (h : H a = some u) : Rd H a u := .inl h
theorem Rd.ok {P : Program} {w : World} {H : Hp} {h : Heap} {a : Addr} {u : HO} (r : Rd H a u) (x : HOk P w H h) : ObjOk P w H h a u := by
  rcases r with r | ⟨o, r⟩
  · exact x a u r
  · obtain ⟨_, q⟩ := x a _ r
    exact q
def Mut : Option HO → Prop
  | some (.lst _) => True
  | some (.dK _) => True
  | some (.dT _) => True
  | some (.set _ _) => True
  | some (.ins _ _ _) => True
  | some (.ext _) => True
  | _ => False
section
variable {P : Program} {w : World} {H : Hp} {h h' : Heap} {x e : Addr} {o' : HO}
theorem HOk.write (ok : HOk P w H h) (mu : Mut (H x)) (he : e = x ∨ H e = some (.own x)) (k : ∀ b u, b ≠ e → h.get? b = some u → h'.get? b = some u) (heo : ∃ u, h'.get? e = some u)
    (new : ObjOk P w (upd H x o') h' x o') : HOk P w (upd H x o') h' := fun b u q => by
  have nown : ∀ c y, H c = some (.own y) → c ≠ x := fun c y r z => by subst z; rw [r] at mu; exact mu
  have ntup : ∀ c xs, H c = some (.tup xs) → c ≠ x := fun c xs r z => by subst z; rw [r] at mu; exact mu
  by_cases hb : b = x
  · subst hb; rw [upd_same] at q; cases q; exact new
  · rw [upd_ne hb] at q
    by_cases hbe : b = e
    · have q' : H b = some (.own x) := by
        rcases he with z | z
        · exact absurd (hbe.trans z) hb
        · rw [hbe]; exact z
      rw [q] at q'; cases q'
      obtain ⟨v, hv⟩ := heo
      exact ⟨v, by rw [hbe]; exact hv⟩
    · refine (ok b u q).stay (fun c v hc r => k c v ?_ r) (fun c r => by rw [upd_ne (nown c b r)]; exact r) fun c xs r => by rw [upd_ne (ntup c xs r)]; exact r
      rcases hc with rfl | hc
      · exact hbe
      · rintro rfl
        rcases he with z | z
        · exact nown c b hc z
        · rw [hc] at z; cases z; exact hb rfl
end

structure Un (fs ex : List Addr) (H H' : Hp) (h h' : Heap) : Prop where
  keep : ∀ b o, h.get? b = some o → H b = none → b ∉ fs → b ∉ ex → h'.get? b = some o
  slot : ∀ b o, h.get? b = some o → H b = none → b ∈ fs → b ∉ ex → ∃ sl, h'.get? b = some { o with slots := sl }
  free : ∀ b o, h.get? b = some o → H b = none → b ∉ ex → H' b = none
  there : ∀ b o, h.get? b = some o → b ∉ ex → ∃ o', h'.get? b = some o'
  tups : ∀ b xs, H b = some (.tup xs) → H' b = some (.tup xs)
  frzs : ∀ b o u, H b = some (.frz o u) → H' b = some (.frz o u)
  tbls : ∀ b ps, H b = some (.tbl ps) → ∃ more, H' b = some (.tbl (ps ++ more))
section
variable {fs fs' ex ex' : List Addr} {H H1 H2 : Hp} {h h1 h2 h' : Heap} {a x e : Addr} {o : HO}
theorem Un.any (u : Un fs ex H H1 h h1) {b : Addr} {ob : Obj} (q : h.get? b = some ob) (n : H b = none) (hx : b ∉ ex) : ∃ sl, h1.get? b = some { ob with slots := sl } := by
  by_cases hb : b ∈ fs
  · exact u.slot b ob q n hb hx
  · exact ⟨ob.slots, u.keep b ob q n hb hx⟩
theorem Un.trans (a : Un fs ex H H1 h h1) (b : Un fs ex H1 H2 h1 h2) : Un fs ex H H2 h h2 where
  keep := fun c ob q n hc hx => b.keep c ob (a.keep c ob q n hc hx) (a.free c ob q n hx) hc hx
  slot := fun c ob q n hc hx => by
    obtain ⟨sl, e1⟩ := a.slot c ob q n hc hx
    obtain ⟨sl', e2⟩ := b.slot c _ e1 (a.free c ob q n hx) hc hx
    exact ⟨sl', e2⟩
  free := fun c ob q n hx => by
    obtain ⟨o', e1⟩ := a.there c ob q hx
    exact b.free c o' e1 (a.free c ob q n hx) hx
  there := fun c ob q hx => by
    obtain ⟨o', e1⟩ := a.there c ob q hx
    exact b.there c o' e1 hx
  tups := fun c xs q => b.tups c xs (a.tups c xs q)
  frzs := fun c ob xs q => b.frzs c ob xs (a.frzs c ob xs q)
  tbls := fun c ps q => by
    obtain ⟨m1, e1⟩ := a.tbls c ps q
    obtain ⟨m2, e2⟩ := b.tbls c _ e1
    exact ⟨m1 ++ m2, by rw [e2, Array.append_assoc]⟩
theorem Un.kept (k : ∀ b u, h.get? b = some u → h'.get? b = some u) : Un fs ex H H h h' :=
  ⟨fun b ob q _ _ _ => k b ob q, fun b ob q _ _ _ => ⟨ob.slots, k b ob q⟩, fun _ _ _ n _ => n, fun b ob q _ => ⟨ob, k b ob q⟩, fun _ _ q => q, fun _ _ _ q => q, fun _ ps q => ⟨#[], by rw [q]; simp⟩⟩
theorem Un.refl : Un fs ex H H h h := Un.kept fun _ _ q => q
theorem Un.laid (k : ∀ b u, h.get? b = some u → h'.get? b = some u) (hp : h.objs.size ≤ a) (hn : H a = none) : Un fs ex H (upd H a o) h h' where
  keep := fun b u q _ _ _ => k b u q
  slot := fun b u q _ _ _ => ⟨u.slots, k b u q⟩
  free := fun b u q n _ => by rw [upd_ne (Nat.ne_of_lt (Nat.lt_of_lt_of_le (Heap.lt_size q) hp))]; exact n
  there := fun b u q _ => ⟨u, k b u q⟩
  tups := fun b xs q => by rw [upd_ne (ne_of_none q hn)]; exact q
  frzs := fun b u xs q => by rw [upd_ne (ne_of_none q hn)]; exact q
  tbls := fun b ps q => ⟨#[], by rw [upd_ne (ne_of_none q hn), q]; simp⟩
theorem Un.write (mu : Mut (H x)) (he : e = x ∨ H e = some (.own x)) (k : ∀ b u, b ≠ e → h.get? b = some u → h'.get? b = some u) (heo : ∃ u, h'.get? e = some u) : Un fs ex H (upd H x o) h h' := by
  have hx : ∀ b, H b = none → b ≠ x := fun b n z => by subst z; rw [n] at mu; exact mu
  have hb : ∀ b, H b = none → b ≠ e := fun b n z => by
    subst z
    rcases he with r | r
    · exact hx b n r
    · rw [n] at r; cases r
  have hm : ∀ b u, H b = some u → ¬ Mut (some u) → b ≠ x := fun b u q nm z => by subst z; rw [q] at mu; exact nm mu
  refine ⟨fun b u q n _ _ => k b u (hb b n) q, fun b u q n _ _ => ⟨u.slots, k b u (hb b n) q⟩, fun b u q n _ => by rw [upd_ne (hx b n)]; exact n, fun b u q _ => ?_,
    fun b xs q => by rw [upd_ne (hm b _ q fun z => z)]; exact q, fun b u xs q => by rw [upd_ne (hm b _ q fun z => z)]; exact q, fun b ps q => ⟨#[], by rw [upd_ne (hm b _ q fun z => z), q]; simp⟩⟩
  by_cases hbe : b = e
  · subst hbe; exact heo
  · exact ⟨u, k b u hbe q⟩
theorem Un.mono (u : Un fs ex H H1 h h1) (hs : ∀ b ∈ fs, b ∈ fs') (hx : ∀ b ∈ ex, b ∈ ex') : Un fs' ex' H H1 h h1 :=
  ⟨fun b ob q n hb he => u.keep b ob q n (fun z => hb (hs b z)) fun z => he (hx b z), fun _ _ q n _ he => u.any q n fun z => he (hx _ z), fun b ob q n he => u.free b ob q n fun z => he (hx b z), fun b ob q he => u.there b ob q fun z => he (hx b z), u.tups, u.frzs, u.tbls⟩
end

def trk (h : Heap) (H : Hp) : List Addr := (List.range h.objs.size).filter fun a => (H a).isSome
def hidT (h : Heap) (H : Hp) : Heap := PySem.W.hideAll h (trk h H)
theorem hidT_size (h : Heap) (H : Hp) : (hidT h H).objs.size = h.objs.size := PySem.W.hideAll_size _ _
theorem hidT_get {h : Heap} {H : Hp} {b : Addr} {o : Obj} (e : h.get? b = some o) (n : H b = none) : (hidT h H).get? b = some o :=
  PySem.W.hideAll_get _ e fun hm => by
    have q : (H b).isSome = true := (List.mem_filter.mp hm).2
    rw [n] at q; simp at q
theorem of_hidT {h : Heap} {H : Hp} {b : Addr} {o : Obj} (e : (hidT h H).get? b = some o) : h.get? b = some o ∧ H b = none := by
  have e' : h.get? b = some o := PySem.W.of_hideAll (trk h H) e
  refine ⟨e', ?_⟩
  cases q : H b with
  | none => rfl
  | some x =>
    have hm : b ∈ trk h H := List.mem_filter.mpr ⟨List.mem_range.mpr (Heap.lt_size e'), by simp [q]⟩
    have z : (hidT h H).get? b = none := PySem.W.hideAll_none (trk h H) hm
    rw [z] at e; cases e

def allNews (g h : Heap) (L : Addr) : List (Addr × Obj) := (List.range h.objs.size).filterMap fun a => if a = L ∨ (g.get? a).isSome = true then none else (h.get? a).map fun o => (a, o)
def rest (g h : Heap) (L d : Addr) : List (Addr × Obj) := (allNews g h L).filter fun p => decide (p.1 ≠ d)
end L2

namespace L2
open PySem PySem.Spec PyProof.Rows

structure Mod (K : PySem.W.Frag) (mg : Str → Option Value) (base : Heap) : Prop where
  kin : K.In base
  glob : base.Ns mainGlobals mg
  blt : ∃ mb, base.Ns builtinsNs mb ∧ ∀ x : Str, x ≠ "__name__" → mb x = bootBuiltins x
  nolimit : base.NoLimit

structure Cx where
  prog : Program
  w : World
  K : PySem.W.Frag
  mg : Str → Option Value
  base : Heap
  A : Around
  N : List Str
  s₀ : Shared
  H₀ : Hp
  env : Env
  outer : List Env
  stack : List Env
  ex : List Addr
  fn : Str → Bool
  calm : Bool
  pn : List (Addr × Obj)
  xe : Value → Shared → Prop
def frs (l : List Env) : List Addr := l.filterMap (·.frame)
abbrev Cx.fs (X : Cx) : List Addr := frs X.outer

def Vis (sc : Scope) (x : Str) : Prop := sc.names.lookup x = some .local ∨ sc.names.lookup x = some .cell ∨ sc.names.lookup x = some .free
def Loc (sc : Scope) (x : Str) : Prop := sc.names.lookup x = some .local ∨ sc.names.lookup x = some .cell
def Look (env : Env) (h : Heap) (m : Str → Option Value) (x : Str) (u : Value) : Prop :=
  (env.kindOf x = some .local ∧ m x = some u) ∨ ((env.kindOf x = some .cell ∨ env.kindOf x = some .free) ∧ ∃ c, env.cells.lookup x = some c ∧ h.IsCell c (some u))

structure Cx.Ok (X : Cx) : Prop where
  mod : Mod X.K X.mg X.base
  kind : X.env.scope.kind = .function
  glob : X.env.globals = mainGlobals
  blt : X.env.builtins = builtinsNs
  above : X.s₀.heap.objs.size ≤ X.env.locals
  inj : ∀ x y c, X.env.cells.lookup x = some c → X.env.cells.lookup y = some c → x = y
  has : ∀ x, (X.env.kindOf x = some .cell ∨ X.env.kindOf x = some .free) → ∃ c, X.env.cells.lookup x = some c
  cab : ∀ x c, X.fn x = true → X.env.cells.lookup x = some c → X.s₀.heap.objs.size ≤ c
  hd : X.calm = true → X.A.handled = none
  frames : X.A.frames = some X.stack
  stk : X.stack = X.outer ∨ (X.stack = X.env :: X.outer ∧ X.env.frame = some X.env.locals)
  exf : ∀ b ∈ X.ex, b ≠ X.env.locals ∧ ∀ x c, X.env.cells.lookup x = some c → c ≠ b
  bs : ∀ b o, X.base.get? b = some o → X.s₀.heap.get? b = some o ∧ X.H₀ b = none
  bsz : X.base.objs.size ≤ X.s₀.heap.objs.size
  noex : ∀ b o, X.base.get? b = some o → b ∉ X.ex
  exfs : ∀ b ∈ X.ex, b ∉ X.fs
  funs : X.s₀.heap.FunFrames X.base X.outer
  frf : ∀ b ∈ X.fs, X.H₀ b = none

structure Inv (X : Cx) (pins : List (Addr × Obj)) (σ : List (Option V)) (H : Hp) (s : Shared) : Prop where
  ok : X.Ok
  os : s.os = X.s₀.os
  bare : AllBare s.gens
  base : Un X.fs X.ex X.H₀ H X.s₀.heap s.heap
  loc : ∃ m, s.heap.Ns X.env.locals m ∧ ∀ (i : Nat) (x : Str) (v : V), X.N[i]? = some x → σ[i]? = some (some v) → Vis X.env.scope x → ∃ u, RelV v u ∧ Look X.env s.heap m x u
  cell : ∀ x c, X.env.cells.lookup x = some c → ∃ v, s.heap.IsCell c v
  free : H X.env.locals = none
  freeC : ∀ x c, X.env.cells.lookup x = some c → H c = none
  pin : ∀ p ∈ X.pn ++ pins, s.heap.get? p.1 = some p.2 ∧ H p.1 = none ∧ p.1 ≠ X.env.locals ∧ p.1 ∉ X.fs ∧ ∀ v, p.2.data ≠ .cell v
  hok : HOk X.prog X.w H s.heap
  len : σ.length = X.N.length

section
variable {X : Cx} {pins : List (Addr × Obj)} {σ : List (Option V)} {H H' : Hp} {s : Shared} {h' : Heap}

theorem Cx.Ok.nofr (ok : X.Ok) {b : Addr} {o : Obj} (e : X.base.get? b = some o) : b ∉ X.fs := fun hb => by
  have := (ok.funs.mem hb).1
  rw [e] at this; cases this
theorem Inv.bs (I : Inv X pins σ H s) : ∀ b o, X.base.get? b = some o → s.heap.get? b = some o ∧ H b = none := fun b o e =>
  ⟨I.base.keep b o (I.ok.bs b o e).1 (I.ok.bs b o e).2 (I.ok.nofr e) (I.ok.noex b o e), I.base.free b o (I.ok.bs b o e).1 (I.ok.bs b o e).2 (I.ok.noex b o e)⟩
theorem Inv.bk (I : Inv X pins σ H s) : ∀ b o, X.base.get? b = some o → s.heap.get? b = some o := fun b o e => (I.bs b o e).1
theorem Inv.mod (I : Inv X pins σ H s) : Mod X.K X.mg X.base := I.ok.mod
theorem Inv.kIn (I : Inv X pins σ H s) : X.K.In s.heap := I.ok.mod.kin.keeps I.bk
theorem Inv.nolimit (I : Inv X pins σ H s) : s.heap.NoLimit := I.ok.mod.nolimit.keeps I.bk
theorem Inv.fr (I : Inv X pins σ H s) : ∃ m, Fr X.base X.env.locals s.heap m :=
  let ⟨m, hn, _⟩ := I.loc
  ⟨m, hn, I.bk, Nat.le_trans I.ok.bsz I.ok.above⟩
theorem Inv.lt (I : Inv X pins σ H s) : X.env.locals < s.heap.objs.size := let ⟨_, hn, _⟩ := I.loc; hn.lt
theorem Inv.sz (I : Inv X pins σ H s) : X.s₀.heap.objs.size ≤ s.heap.objs.size := Nat.le_trans I.ok.above (Nat.le_of_lt I.lt)
theorem Inv.nofs (I : Inv X pins σ H s) {a : Addr} (h : s.heap.objs.size ≤ a) : a ∉ X.fs := fun hb => by
  obtain ⟨_, o, ho, _⟩ := I.ok.funs.mem hb
  exact absurd (Nat.lt_of_lt_of_le (Heap.lt_size ho) (Nat.le_trans I.sz h)) (Nat.lt_irrefl _)
theorem Inv.cne (I : Inv X pins σ H s) : ∀ x c, X.env.cells.lookup x = some c → c ≠ X.env.locals := fun x c e z => by
  obtain ⟨v, o, ho, hd⟩ := I.cell x c e
  obtain ⟨m, ⟨o', es, ep, ho', hd', _⟩, _⟩ := I.loc
  rw [z, ho'] at ho; cases ho; rw [hd'] at hd; cases hd
theorem Inv.funs (I : Inv X pins σ H s) : s.heap.FunFrames X.base X.outer := by
  have all : ∀ (l : List Env), (∀ b ∈ frs l, b ∈ X.fs) → X.s₀.heap.FunFrames X.base l → s.heap.FunFrames X.base l := by
    intro l
    induction l with
    | nil => intro _ _; trivial
    | cons env r ih =>
      intro hs hl
      obtain ⟨hk, ⟨L, o, hf, hn, ho, hd⟩, hr⟩ := hl
      have hL : L ∈ X.fs := hs L (by unfold frs; rw [List.filterMap_cons, hf]; exact List.mem_cons_self)
      obtain ⟨sl, e⟩ := I.base.slot L o ho (I.ok.frf L hL) hL fun z => I.ok.exfs L z hL
      exact ⟨hk, ⟨L, _, hf, hn, e, hd⟩, ih (fun b hb => hs b (by unfold frs; rw [List.filterMap_cons, hf]; exact List.mem_cons_of_mem _ hb)) hr⟩
  exact all X.outer (fun _ hb => hb) I.ok.funs

theorem Inv.stack (I : Inv X pins σ H s) : s.heap.FunFrames X.base X.stack := by
  rcases I.ok.stk with e | ⟨e, hf⟩
  · rw [e]; exact I.funs
  · rw [e]
    obtain ⟨m, hn, _⟩ := I.loc
    refine .cons (by rw [I.ok.kind]; decide) hf hn ?_ I.funs
    exact Heap.get?_none_of_le (Nat.le_trans I.ok.bsz I.ok.above)
theorem Inv.stkSub (I : Inv X pins σ H s) : ∀ b ∈ frs X.stack, b ∈ X.env.locals :: X.fs := fun b hb => by
  rcases I.ok.stk with e | ⟨e, hf⟩
  · rw [e] at hb; exact List.mem_cons_of_mem _ hb
  · rw [e] at hb
    unfold frs at hb
    rw [List.filterMap_cons, hf] at hb
    exact hb
theorem Inv.stkFree (I : Inv X pins σ H s) : ∀ b ∈ frs X.stack, H b = none := fun b hb => by
  rcases List.mem_cons.mp (I.stkSub b hb) with e | hb
  · rw [e]; exact I.free
  · obtain ⟨_, o, ho, _⟩ := I.ok.funs.mem hb
    exact I.base.free b o ho (I.ok.frf b hb) fun z => I.ok.exfs b z hb

theorem Inv.step {g' : Array GenState} {t' : Nat} {d' : Drawn} {ch : List Addr} (I : Inv X pins σ H s)
    (hch : ∀ b ∈ ch, (b ∈ X.ex ∨ X.s₀.heap.objs.size ≤ b) ∧ b ≠ X.env.locals ∧ (∀ x c, X.env.cells.lookup x = some c → c ≠ b) ∧ ∀ p ∈ X.pn ++ pins, p.1 ≠ b)
    (keep : ∀ b o, b ≠ X.env.locals → b ∉ X.fs → b ∉ ch → s.heap.get? b = some o → H b = none → h'.get? b = some o)
    (slot : ∀ b o, b ≠ X.env.locals → b ∈ X.fs → b ∉ ch → s.heap.get? b = some o → H b = none → ∃ sl, h'.get? b = some { o with slots := sl }) (free : ∀ b o, b ∉ ch → s.heap.get? b = some o → H b = none → H' b = none)
    (there : ∀ b o, b ∉ ch → s.heap.get? b = some o → ∃ o', h'.get? b = some o')
    (tups : ∀ b xs, H b = some (.tup xs) → H' b = some (.tup xs)) (frzs : ∀ b o u, H b = some (.frz o u) → H' b = some (.frz o u)) (tbls : ∀ b ps, H b = some (.tbl ps) → ∃ more, H' b = some (.tbl (ps ++ more)))
    (ns : ∀ m, s.heap.Ns X.env.locals m → h'.Ns X.env.locals m) (hok : HOk X.prog X.w H' h') (hg : AllBare g') :
    Inv X pins σ H' { s with heap := h', gens := g', drawn := d', toks := t' } := by
  have neL : ∀ b o, X.s₀.heap.get? b = some o → b ≠ X.env.locals := fun b o e => Nat.ne_of_lt (Nat.lt_of_lt_of_le (Heap.lt_size e) I.ok.above)
  have neC : ∀ b o, X.s₀.heap.get? b = some o → b ∉ X.ex → b ∉ ch := fun b o e hx hb => by
    rcases (hch b hb).1 with z | z
    · exact hx z
    · exact absurd (Nat.lt_of_lt_of_le (Heap.lt_size e) z) (Nat.lt_irrefl _)
  have cellK : ∀ x c, X.env.cells.lookup x = some c → ∀ v, s.heap.IsCell c v → h'.IsCell c v := fun x c e v ⟨o, ho, hd⟩ => by
    have nch : c ∉ ch := fun z => (hch c z).2.2.1 x c e rfl
    by_cases hc : c ∈ X.fs
    · obtain ⟨sl, q⟩ := slot c o (I.cne x c e) hc nch ho (I.freeC x c e)
      exact ⟨_, q, hd⟩
    · exact ⟨o, keep c o (I.cne x c e) hc nch ho (I.freeC x c e), hd⟩
  refine ⟨I.ok, I.os, hg, ⟨fun b o e n hb hx => ?_, fun b o e n hb hx => ?_, fun b o e n hx => ?_, fun b o e hx => ?_, fun b xs e => tups b xs (I.base.tups b xs e), fun b o xs e => frzs b o xs (I.base.frzs b o xs e), fun b ps e => ?_⟩, ?_, fun x c e => ?_, ?_, fun x c e => ?_, fun p hp => ?_, hok, I.len⟩
  · exact keep b o (neL b o e) hb (neC b o e hx) (I.base.keep b o e n hb hx) (I.base.free b o e n hx)
  · obtain ⟨sl, e1⟩ := I.base.slot b o e n hb hx
    obtain ⟨sl', e2⟩ := slot b _ (neL b o e) hb (neC b o e hx) e1 (I.base.free b o e n hx)
    exact ⟨sl', e2⟩
  · obtain ⟨o', e1⟩ := I.base.there b o e hx
    exact free b o' (neC b o e hx) e1 (I.base.free b o e n hx)
  · obtain ⟨o', e1⟩ := I.base.there b o e hx
    exact there b o' (neC b o e hx) e1
  · obtain ⟨m1, e1⟩ := I.base.tbls b ps e
    obtain ⟨m2, e2⟩ := tbls b _ e1
    exact ⟨m1 ++ m2, by rw [e2, Array.append_assoc]⟩
  · obtain ⟨m, hn, hl⟩ := I.loc
    refine ⟨m, ns m hn, fun i x v e1 e2 e3 => ?_⟩
    obtain ⟨u, r, l⟩ := hl i x v e1 e2 e3
    refine ⟨u, r, ?_⟩
    rcases l with l | ⟨k, c, e, z⟩
    · exact .inl l
    · exact .inr ⟨k, c, e, cellK x c e _ z⟩
  · obtain ⟨v, z⟩ := I.cell x c e
    exact ⟨v, cellK x c e v z⟩
  · obtain ⟨m, ⟨o, _, _, ho, _⟩, _⟩ := I.loc
    exact free _ o (fun z => (hch _ z).2.1 rfl) ho I.free
  · obtain ⟨v, o, ho, hd⟩ := I.cell x c e
    exact free c o (fun z => (hch c z).2.2.1 x c e rfl) ho (I.freeC x c e)
  · obtain ⟨e, n, ne, nf, d⟩ := I.pin p hp
    have nch : p.1 ∉ ch := fun z => (hch p.1 z).2.2.2 p hp rfl
    exact ⟨keep p.1 p.2 ne nf nch e n, free p.1 p.2 nch e n, ne, nf, d⟩
theorem Inv.un {t' : Nat} (I : Inv X pins σ H s) (u : Un X.fs [] H H' s.heap h') (hok : HOk X.prog X.w H' h') : Inv X pins σ H' { s with heap := h', toks := t' } := by
  obtain ⟨m, ⟨o, es, ep, ho, r⟩, _⟩ := id I.loc
  obtain ⟨sl, hL⟩ := u.any ho I.free (by simp)
  exact I.step (g' := s.gens) (d' := s.drawn) (ch := []) (fun _ z => nomatch z) (fun b o _ hb _ e n => u.keep b o e n hb (by simp)) (fun b o _ hb _ e n => u.slot b o e n hb (by simp)) (fun b o _ e n => u.free b o e n (by simp)) (fun b o _ e => u.there b o e (by simp)) u.tups u.frzs u.tbls (fun m' hm => by
    obtain ⟨o', es', ep', ho', r'⟩ := hm
    rw [ho] at ho'; cases ho'
    exact ⟨_, es', ep', hL, r'⟩) hok I.bare
theorem Inv.call {g' : Array GenState} {t' : Nat} {d' : Drawn} {ch : List Addr} (I : Inv X pins σ H s) (u : Un (frs X.stack) ch H H' s.heap h') (hok : HOk X.prog X.w H' h') (hg : AllBare g')
    (hch : ∀ b ∈ ch, (b ∈ X.ex ∨ X.s₀.heap.objs.size ≤ b) ∧ b ≠ X.env.locals ∧ (∀ x c, X.env.cells.lookup x = some c → c ≠ b) ∧ ∀ p ∈ X.pn ++ pins, p.1 ≠ b) :
    Inv X pins σ H' { s with heap := h', gens := g', drawn := d', toks := t' } := by
  obtain ⟨m, ⟨o, es, ep, ho, r⟩, _⟩ := id I.loc
  obtain ⟨sl, hL⟩ := u.any ho I.free fun z => (hch _ z).2.1 rfl
  exact I.step (ch := ch) hch (fun b o hL hb hc e n => u.keep b o e n (fun z => (List.mem_cons.mp (I.stkSub b z)).elim hL hb) hc) (fun b o _ _ hc e n => u.any e n hc) (fun b o hc e n => u.free b o e n hc) (fun b o hc e => u.there b o e hc) u.tups u.frzs u.tbls (fun m' hm => by
    obtain ⟨o', es', ep', ho', r'⟩ := hm
    rw [ho] at ho'; cases ho'
    exact ⟨_, es', ep', hL, r'⟩) hok hg
theorem Inv.turned {t' : Nat} {it : Addr} (I : Inv X pins σ H s) (k : ∀ b o, b ≠ it → s.heap.get? b = some o → h'.get? b = some o) (hn : H it = none) (hL : it ≠ X.env.locals)
    (h1 : it ∈ X.ex ∨ X.s₀.heap.objs.size ≤ it) (h2 : ∀ x c, X.env.cells.lookup x = some c → c ≠ it) (h3 : ∀ p ∈ X.pn ++ pins, p.1 ≠ it) : Inv X pins σ H { s with heap := h', toks := t' } := by
  have nit : ∀ b u, H b = some u → b ≠ it := fun b u e z => by rw [z, hn] at e; cases e
  refine I.step (g' := s.gens) (d' := s.drawn) (ch := [it]) (fun b hb => ?_) (fun b o _ _ hc e _ => k b o (fun z => hc (by simp [z])) e) (fun b o _ _ hc e _ => ⟨o.slots, k b o (fun z => hc (by simp [z])) e⟩) (fun _ _ _ _ n => n)
    (fun b o hc e => ⟨o, k b o (fun z => hc (by simp [z])) e⟩) (fun _ _ e => e) (fun _ _ _ e => e) (fun b ps e => ⟨#[], by rw [e]; simp⟩) (fun m hm => ?_) (fun b u e => ?_) I.bare
  · have e : b = it := by simpa using hb
    subst e
    exact ⟨h1, hL, h2, h3⟩
  · obtain ⟨o, es, ep, ho, r⟩ := hm
    exact ⟨o, es, ep, k _ o (Ne.symm hL) ho, r⟩
  · refine (I.hok b u e).stay (fun c v hc q => k c v ?_ q) (fun _ q => q) fun _ _ q => q
    rcases hc with z | z
    · rw [z]; exact nit b u e
    · exact nit c _ z
theorem Inv.tok (I : Inv X pins σ H s) (t : Nat) : Inv X pins σ H { s with toks := t } := I.un (h' := s.heap) (t' := t) Un.refl I.hok
theorem Inv.kept {t' : Nat} (I : Inv X pins σ H s) (k : ∀ b u, s.heap.get? b = some u → h'.get? b = some u) : Inv X pins σ H { s with heap := h', toks := t' } := I.un (Un.kept k) (I.hok.kept k)
theorem Inv.laid {a : Addr} {o : HO} {t' : Nat} (I : Inv X pins σ H s) (k : ∀ b u, s.heap.get? b = some u → h'.get? b = some u) (hp : s.heap.objs.size ≤ a) (new : ObjOk X.prog X.w (upd H a o) h' a o) :
    Inv X pins σ (upd H a o) { s with heap := h', toks := t' } := I.un (Un.laid k hp (I.hok.fresh hp)) (I.hok.laid k hp new)
theorem Inv.write {x e : Addr} {o : HO} {t' : Nat} (I : Inv X pins σ H s) (mu : Mut (H x)) (he : e = x ∨ H e = some (.own x)) (k : ∀ b u, b ≠ e → s.heap.get? b = some u → h'.get? b = some u) (heo : ∃ u, h'.get? e = some u)
    (new : ObjOk X.prog X.w (upd H x o) h' x o) : Inv X pins σ (upd H x o) { s with heap := h', toks := t' } := I.un (Un.write mu he k heo) (I.hok.write mu he k heo new)
theorem Inv.weak {σ' : List (Option V)} (I : Inv X pins σ H s) (hl : σ'.length = σ.length) (w : ∀ (i : Nat) v, σ'[i]? = some (some v) → σ[i]? = some (some v)) : Inv X pins σ' H s :=
  ⟨I.ok, I.os, I.bare, I.base, let ⟨m, hn, hl'⟩ := I.loc; ⟨m, hn, fun i x v e1 e2 e3 => hl' i x v e1 (w i v e2) e3⟩, I.cell, I.free, I.freeC, I.pin, I.hok, hl.trans I.len⟩
theorem Inv.pins_of {pins' : List (Addr × Obj)} (I : Inv X pins σ H s) (h : ∀ p ∈ pins', s.heap.get? p.1 = some p.2 ∧ H p.1 = none ∧ p.1 ≠ X.env.locals ∧ p.1 ∉ X.fs ∧ ∀ v, p.2.data ≠ .cell v) : Inv X pins' σ H s :=
  ⟨I.ok, I.os, I.bare, I.base, I.loc, I.cell, I.free, I.freeC, fun p hp => (List.mem_append.mp hp).elim (fun z => I.pin p (List.mem_append_left _ z)) (h p), I.hok, I.len⟩

theorem nodup_ix {N : List Str} (hN : N.Nodup) {i j : Nat} {x : Str} (a : N[i]? = some x) (b : N[j]? = some x) : i = j := by
  obtain ⟨h1, e1⟩ := List.getElem?_eq_some_iff.mp a
  obtain ⟨h2, e2⟩ := List.getElem?_eq_some_iff.mp b
  exact (List.getElem_inj hN).mp (e1.trans e2.symm)

theorem store_ok2 {M : Model} {A : Around} {E : Value → Shared → Prop} {i : Nat} {x : Str} {v : V} {u : Value} {Q : Unit → Shared → Prop} (I : Inv X pins σ H s) (hN : X.N.Nodup) (hi : X.N[i]? = some x) (hx : Loc X.env.scope x) (r : RelV v u)
    (h : ∀ s', Inv X pins (σ.set i (some v)) H s' → (∃ a, Heap.SameBut a s.heap s'.heap ∧ (a = X.env.locals ∨ X.env.cells.lookup x = some a)) → Q () s') (hf : X.fn x = true ∨ X.env.scope.names.lookup x = some .local := by first | exact .inl rfl | exact .inr rfl | assumption) : wpAny M A (storeName X.env x u) Q E s := by
  obtain ⟨m, hn, hl⟩ := id I.loc
  have hcls : (X.env.scope.kind == .class || (X.env.scope.kind == .module && X.env.locals != X.env.globals)) = false := by rw [I.ok.kind]; rfl
  have hiσ : i < σ.length := by rw [I.len]; exact (List.getElem?_eq_some_iff.mp hi).1
  have cne := I.cne
  have tracked : ∀ {a : Addr} {h' : Heap}, (∃ o, s.heap.get? a = some o ∧ H a = none) → Heap.SameBut a s.heap h' → HOk X.prog X.w H h' := fun {a h'} ha hs b ob e => by
    obtain ⟨_, _, hfree⟩ := ha
    refine (I.hok b ob e).stay (fun c w' hc q => (hs.2 c ?_).trans q) (fun _ q => q) fun _ _ q => q
    rintro rfl
    rcases hc with rfl | hc
    · rw [hfree] at e; cases e
    · rw [hfree] at hc; cases hc
  rcases hx with hk | hk
  · refine wpAny_storeName_local hk hn (fun h' hn' hs => ?_) hcls
    obtain ⟨oL, _, _, hoL, _⟩ := id hn
    refine h _ ⟨I.ok, I.os, I.bare, ⟨fun b o e n hb hx => ?_, fun b o e n hb hx => ?_, I.base.free, fun b o e hx => ?_, I.base.tups, I.base.frzs, I.base.tbls⟩, ⟨_, hn', fun j y v' e1 e2 e3 => ?_⟩, fun y c e => ?_, I.free, I.freeC, fun p hp => ?_, tracked ⟨oL, hoL, I.free⟩ hs, by simpa using I.len⟩ ⟨_, hs, .inl rfl⟩
    · exact (hs.2 b (Nat.ne_of_lt (Nat.lt_of_lt_of_le (Heap.lt_size e) I.ok.above))).trans (I.base.keep b o e n hb hx)
    · obtain ⟨sl, e1⟩ := I.base.slot b o e n hb hx
      exact ⟨sl, (hs.2 b (Nat.ne_of_lt (Nat.lt_of_lt_of_le (Heap.lt_size e) I.ok.above))).trans e1⟩
    · obtain ⟨o', e1⟩ := I.base.there b o e hx
      exact ⟨o', (hs.2 b (Nat.ne_of_lt (Nat.lt_of_lt_of_le (Heap.lt_size e) I.ok.above))).trans e1⟩
    · by_cases hj : j = i
      · subst hj
        rw [hi] at e1; cases e1
        rw [List.getElem?_set_self hiσ] at e2
        cases e2
        exact ⟨u, r, .inl ⟨hk, by simp⟩⟩
      · rw [List.getElem?_set_ne (Ne.symm hj)] at e2
        obtain ⟨u', r', q⟩ := hl j y v' e1 e2 e3
        refine ⟨u', r', ?_⟩
        rcases q with ⟨k, e⟩ | ⟨k, c, e, z⟩
        · refine .inl ⟨k, ?_⟩
          have : y ≠ x := fun e => hj (nodup_ix hN e1 (e ▸ hi))
          simp [this, e]
        · exact .inr ⟨k, c, e, z.sameBut hs (cne y c e)⟩
    · obtain ⟨w', z⟩ := I.cell y c e
      exact ⟨w', z.sameBut hs (cne y c e)⟩
    · obtain ⟨e, n, ne, nf, d⟩ := I.pin p hp
      exact ⟨(hs.2 p.1 ne).trans e, n, ne, nf, d⟩
  · have hfn : X.fn x = true := by
      rcases hf with z | z
      · exact z
      · rw [z] at hk; cases hk
    obtain ⟨c, hc⟩ := I.ok.has x (.inl hk)
    obtain ⟨w', z⟩ := I.cell x c hc
    refine wpAny_storeName_cell I.ok.kind hk hc z (fun h' hc' hs => ?_)
    obtain ⟨oc, hoc, hocd⟩ := id z
    refine h { s with heap := h' } ⟨I.ok, I.os, I.bare, ⟨fun b o e n hb hx => ?_, fun b o e n hb hx => ?_, I.base.free, fun b o e hx => ?_, I.base.tups, I.base.frzs, I.base.tbls⟩, ⟨m, hn.sameBut hs (Ne.symm (cne x c hc)), fun j y v' e1 e2 e3 => ?_⟩, fun y c' e => ?_, I.free, I.freeC, fun p hp => ?_, tracked ⟨oc, hoc, I.freeC x c hc⟩ hs, by simpa using I.len⟩ ⟨c, hs, .inr hc⟩
    · exact (hs.2 b (Nat.ne_of_lt (Nat.lt_of_lt_of_le (Heap.lt_size e) (I.ok.cab x c hfn hc)))).trans (I.base.keep b o e n hb hx)
    · obtain ⟨sl, e1⟩ := I.base.slot b o e n hb hx
      exact ⟨sl, (hs.2 b (Nat.ne_of_lt (Nat.lt_of_lt_of_le (Heap.lt_size e) (I.ok.cab x c hfn hc)))).trans e1⟩
    · obtain ⟨o', e1⟩ := I.base.there b o e hx
      exact ⟨o', (hs.2 b (Nat.ne_of_lt (Nat.lt_of_lt_of_le (Heap.lt_size e) (I.ok.cab x c hfn hc)))).trans e1⟩
    · by_cases hj : j = i
      · subst hj
        rw [hi] at e1; cases e1
        rw [List.getElem?_set_self hiσ] at e2
        cases e2
        exact ⟨u, r, .inr ⟨.inl hk, c, hc, hc'⟩⟩
      · rw [List.getElem?_set_ne (Ne.symm hj)] at e2
        obtain ⟨u', r', q⟩ := hl j y v' e1 e2 e3
        refine ⟨u', r', ?_⟩
        rcases q with q | ⟨k, c', e, z'⟩
        · exact .inl q
        · refine .inr ⟨k, c', e, z'.sameBut hs ?_⟩
          rintro rfl
          exact hj (nodup_ix hN e1 (I.ok.inj _ _ _ e hc ▸ hi))
    · by_cases hcc : c' = c
      · subst hcc; exact ⟨_, hc'⟩
      · obtain ⟨w2, z2⟩ := I.cell y c' e
        exact ⟨w2, z2.sameBut hs hcc⟩
    · obtain ⟨e, n, ne, nf, d⟩ := I.pin p hp
      refine ⟨(hs.2 p.1 ?_).trans e, n, ne, nf, d⟩
      intro q
      rw [q, hoc] at e
      have q' : oc = p.2 := Option.some.inj e
      exact d w' (by rw [← q']; exact hocd)
theorem store_ok {M : Model} {A : Around} {E : Value → Shared → Prop} {i : Nat} {x : Str} {v : V} {u : Value} {Q : Unit → Shared → Prop} (I : Inv X pins σ H s) (hN : X.N.Nodup) (hi : X.N[i]? = some x) (hx : Loc X.env.scope x) (r : RelV v u)
    (h : ∀ s', Inv X pins (σ.set i (some v)) H s' → Q () s') (hf : X.fn x = true ∨ X.env.scope.names.lookup x = some .local := by first | exact .inl rfl | exact .inr rfl | assumption) : wpAny M A (storeName X.env x u) Q E s :=
  store_ok2 I hN hi hx r (fun s' I' _ => h s' I') hf
theorem Inv.call' {s' : Shared} {ch : List Addr} (I : Inv X pins σ H s) (ho : s'.os = s.os) (u : Un (frs X.stack) ch H H' s.heap s'.heap) (hok : HOk X.prog X.w H' s'.heap) (hg : AllBare s'.gens)
    (hch : ∀ b ∈ ch, (b ∈ X.ex ∨ X.s₀.heap.objs.size ≤ b) ∧ b ≠ X.env.locals ∧ (∀ x c, X.env.cells.lookup x = some c → c ≠ b) ∧ ∀ p ∈ X.pn ++ pins, p.1 ≠ b) : Inv X pins σ H' s' := by
  obtain ⟨h', g', d', t', o'⟩ := s'
  have e : o' = s.os := ho
  subst e
  exact I.call (g' := g') (t' := t') (d' := d') u hok hg hch
end

abbrev XK := Value → Option Addr → Hp → Prop
abbrev St := List (Option V)
abbrev VK := V → Hp → Prop
abbrev TE := St → Hp → VK → Prop
abbrev TT := St → Hp → (Bool → Hp → Prop) → Prop
abbrev TA := St → Hp → (List V → Hp → Prop) → Prop
structure Ends where
  nx : St → Hp → Prop
  rt : VK
  bk : St → Hp → Prop := fun _ _ => False
  ct : St → Hp → Prop := fun _ _ => False
abbrev TS := Ends → St → Hp → Prop

def EP (X : Cx) (pins : List (Addr × Obj)) (σ : St) (Q : VK) (u : Value) (s' : Shared) : Prop := ∃ v H', Inv X pins σ H' s' ∧ RelV v u ∧ Q v H'
def TP (X : Cx) (pins : List (Addr × Obj)) (σ : St) (Q : Bool → Hp → Prop) (b : Bool) (s' : Shared) : Prop := ∃ H', Inv X pins σ H' s' ∧ Q b H'
def AP (X : Cx) (pins : List (Addr × Obj)) (σ : St) (Q : List V → Hp → Prop) (us : List Value) (s' : Shared) : Prop := ∃ vs H', Inv X pins σ H' s' ∧ Vals vs us ∧ Q vs H'
def SP (X : Cx) (pins : List (Addr × Obj)) (D : Ends) (f : Flow) (s' : Shared) : Prop :=
  match f with
  | .next => ∃ σ' H', Inv X pins σ' H' s' ∧ D.nx σ' H'
  | .brk => ∃ σ' H', Inv X pins σ' H' s' ∧ D.bk σ' H'
  | .cont => ∃ σ' H', Inv X pins σ' H' s' ∧ D.ct σ' H'
  | .ret u => ∃ v σ' H', Inv X pins σ' H' s' ∧ RelV v u ∧ D.rt v H'

def PE (X : Cx) (e : Expr) (t : TE) : Prop :=
  ∀ (pins : List (Addr × Obj)) (s : Shared) (σ : St) (H : Hp) (Q : VK), Inv X pins σ H s → t σ H Q → wpAny (model X.prog X.w) X.A (eval e X.env) (EP X pins σ Q) X.xe s
def PT (X : Cx) (e : Expr) (t : TT) : Prop :=
  ∀ (pins : List (Addr × Obj)) (s : Shared) (σ : St) (H : Hp) (Q : Bool → Hp → Prop), Inv X pins σ H s → t σ H Q → wpAny (model X.prog X.w) X.A (isTrue e X.env (eval e X.env)) (TP X pins σ Q) X.xe s
def PW (X : Cx) (e : Expr) (t : TT) : Prop :=
  ∀ (whole : Sem Value) (pins : List (Addr × Obj)) (s : Shared) (σ : St) (H : Hp) (Q : Bool → Hp → Prop), Inv X pins σ H s → t σ H Q → wpAny (model X.prog X.w) X.A (isTrue e X.env whole) (TP X pins σ Q) X.xe s
theorem PW.pt {X : Cx} {e : Expr} {t : TT} (h : PW X e t) : PT X e t := h _
def PA (X : Cx) (es : List Expr) (t : TA) : Prop :=
  ∀ (pos : Pos) (pins : List (Addr × Obj)) (s : Shared) (σ : St) (H : Hp) (Q : List V → Hp → Prop), Inv X pins σ H s → t σ H Q → wpAny (model X.prog X.w) X.A (spliced (backTo pos (starEach es X.env))) (AP X pins σ Q) X.xe s
def PS (X : Cx) (st : Stmt) (t : TS) : Prop :=
  ∀ (pins : List (Addr × Obj)) (s : Shared) (σ : St) (H : Hp) (D : Ends), Inv X pins σ H s → t D σ H → wpAny (model X.prog X.w) X.A (exec st X.env) (SP X pins D) X.xe s
def PSs (X : Cx) (st : List Stmt) (t : TS) : Prop :=
  ∀ (pins : List (Addr × Obj)) (s : Shared) (σ : St) (H : Hp) (D : Ends), Inv X pins σ H s → t D σ H → wpAny (model X.prog X.w) X.A (execs st X.env) (SP X pins D) X.xe s
theorem thn {α : Type} {t : Sem α} {Q Q' : α → Shared → Prop} {M : Model} {A : Around} {E : Value → Shared → Prop} {s : Shared} (h : wpAny M A t Q E s) (hQ : ∀ a s, Q a s → Q' a s) : wpAny M A t Q' E s := wpAny_mono h hQ fun _ _ x => x
end L2

namespace L2
open PySem PySem.Spec PyProof.Rows
section
variable {X : Cx}

def tVar (i : Nat) : TE := fun σ H Q => ∃ v, σ[i]? = some (some v) ∧ Q v H
def tC (v : V) : TE := fun _ H Q => Q v H
theorem pe_var {i : Nat} {x : Str} {pos : Pos} (hN : X.N[i]? = some x) (hv : Vis X.env.scope x) (hd : (x == ("__debug__" : Str)) = false := by decide) (hcd : (x == ("__classdict__" : Str)) = false := by decide) : PE X (.Name x pos) (tVar i) := by
  intro pins s σ H Q I h
  obtain ⟨v, e, h⟩ := h
  obtain ⟨m, hn, hl⟩ := I.loc
  obtain ⟨u, r, l⟩ := hl i x v hN e hv
  have fin : EP X pins σ Q u s := ⟨v, H, I, r, h⟩
  rcases l with ⟨hk, hm⟩ | ⟨hk, c, hc, hcell⟩
  · exact wpAny_Name (wpAny_loadName_local I.ok.kind hk hn hm fin) hd
  · rcases hk with hk | hk
    · exact wpAny_Name (wpAny_loadName_cell I.ok.kind hk hc hcell fin) hd
    · exact wpAny_Name (wpAny_loadName_free I.ok.kind hk hc hcell fin hcd) hd
theorem pe_int {i j pos} : PE X (.Constant (.int i) j pos) (tC (.int i)) := fun _ _ _ H _ I h => wpAny_Constant_int ⟨.int i, H, I.tok _, ⟨_, rfl⟩, h⟩
theorem pe_bl {b j pos} : PE X (.Constant (.bool b) j pos) (tC (.bl b)) := fun _ _ _ H _ I h => Constant_bool ⟨.bl b, H, I, rfl, h⟩
theorem pe_non {j pos} : PE X (.Constant .none j pos) (tC .non) := fun _ _ _ H _ I h => Constant_none ⟨.non, H, I, rfl, h⟩
theorem pe_str {x j pos} : PE X (.Constant (.str x) j pos) (tC (.str x)) := fun _ _ _ H _ I h => Calls.Constant_str ⟨.str x, H, I.tok _, ⟨_, rfl⟩, h⟩

def Gl (X : Cx) (x : Str) : Prop := X.env.kindOf x = some .globalImplicit
theorem ld_glob {E : Value → Shared → Prop} {pins : List (Addr × Obj)} {s : Shared} {σ : St} {H : Hp} {x : Str} {u : Value} {pos : Pos} {Q : Value → Shared → Prop} (I : Inv X pins σ H s) (hg : Gl X x) (hm : X.mg x = some u) (h : Q u s)
    (hd : (x == ("__debug__" : Str)) = false := by decide) : wpAny (model X.prog X.w) X.A (eval (.Name x pos) X.env) Q E s :=
  Calls.Name_function_global I.ok.kind hg (Calls.loadGlobal_global (by rw [I.ok.glob]; exact I.mod.glob.keeps I.bk) hm h) hd
theorem ld_blt {E : Value → Shared → Prop} {pins : List (Addr × Obj)} {s : Shared} {σ : St} {H : Hp} {x : Str} {u : Value} {pos : Pos} {Q : Value → Shared → Prop} (I : Inv X pins σ H s) (hg : Gl X x) (hm : X.mg x = none) (hv : bootBuiltins x = some u) (h : Q u s)
    (hn : x ≠ "__name__" := by decide) (hd : (x == ("__debug__" : Str)) = false := by decide) : wpAny (model X.prog X.w) X.A (eval (.Name x pos) X.env) Q E s := by
  obtain ⟨mb, h1, h2⟩ := I.mod.blt
  exact Calls.Name_function_global I.ok.kind hg (Calls.loadGlobal_builtin (by rw [I.ok.glob]; exact I.mod.glob.keeps I.bk) hm (by rw [I.ok.blt]; exact h1.keeps I.bk) ((h2 x hn).trans hv) h) hd
theorem pe_bltn {x : Str} {v : V} {u : Value} {pos : Pos} (hg : Gl X x) (hm : X.mg x = none) (hv : bootBuiltins x = some u) (r : RelV v u) (hn : x ≠ "__name__" := by decide) (hd : (x == ("__debug__" : Str)) = false := by decide) : PE X (.Name x pos) (tC v) :=
  fun _ _ _ H _ I h => ld_blt I hg hm hv ⟨v, H, I, r, h⟩ hn hd

variable {a b : Expr} {ta tb : TE} {pos : Pos}
def PC (X : Cx) (op : CmpOp) (a b : Expr) (t : TE) : Prop :=
  ∀ (pins : List (Addr × Obj)) (s : Shared) (σ : St) (H : Hp) (Q : VK), Inv X pins σ H s → t σ H Q →
    wpAny (model X.prog X.w) X.A (eval a X.env) (fun v s₁ => wpAny (model X.prog X.w) X.A (eval b X.env) (fun u s₂ => wpAny (model X.prog X.w) X.A (compareOp op v u) (EP X pins σ Q) X.xe s₂) X.xe s₁) X.xe s
theorem nobehind (b : Expr) {op : CmpOp} (h : op ≠ .In) (h2 : op ≠ .NotIn) : behindInMarks op b = false := by
  have e1 : (op == CmpOp.In) = false := by cases op <;> first | rfl | exact absurd rfl h
  have e2 : (op == CmpOp.NotIn) = false := by cases op <;> first | rfl | exact absurd rfl h2
  cases b <;> simp [behindInMarks, e1, e2]
def tB (t : TE) : TT := fun σ H Q => t σ H fun x H1 => ∃ c, x = .bl c ∧ Q c H1
theorem pt_cmp {op : CmpOp} {t : TE} (h : PC X op a b t) (h1 : behindInMarks op b = false := by first | exact nobehind _ (by decide) (by decide) | rfl) : PT X (.Compare a [op] [b] pos) (tB t) := by
  intro pins s σ H Q I hw
  refine wpAny_isTrue_Compare1 (thn (h pins s σ H _ I hw) fun v s1 h1 => thn h1 fun u s2 h2 => thn h2 fun c s3 ⟨x, H1, I1, r1, q1⟩ => ?_) h1
  obtain ⟨d, rfl, q⟩ := q1
  cases r1
  exact wpAny_truthy_bool ⟨H1, I1, q⟩
theorem pt_val {e : Expr} {t : TE} (h : PE X e t) (he : ∀ whole, isTrue e X.env whole = (do let v ← whole; standAt e.pos; holding [v] (truthy v)) := by intro _; rfl) : PT X e (tB t) := by
  intro pins s σ H Q I hw
  refine isTrue_plain (thn (h pins s σ H _ I hw) fun v s1 ⟨x, H1, I1, r1, q1⟩ => ?_) (he _)
  obtain ⟨d, rfl, q⟩ := q1
  cases r1
  exact wpAny_truthy_bool ⟨H1, I1, q⟩

variable {tA tB' : TT} {rest : List Expr}
def tAnd (t u : TT) : TT := fun σ H Q => t σ H fun c H1 => if c = true then u σ H1 Q else Q false H1
def tOr (t u : TT) : TT := fun σ H Q => t σ H fun c H1 => if c = true then Q true H1 else u σ H1 Q
def tNot (t : TT) : TT := fun σ H Q => t σ H fun c H1 => Q (!c) H1
theorem pw_and1 (ha : PT X a tA) : PW X (.BoolOp .And [a] pos) tA := by
  intro wh pins s σ H Q I h
  refine isTrue_and (thn (ha pins s σ H Q I h) fun c s1 e => ?_)
  cases c with
  | true => exact isTrue_and_nil e
  | false => exact e
theorem pw_or1 (ha : PT X a tA) : PW X (.BoolOp .Or [a] pos) tA := by
  intro wh pins s σ H Q I h
  refine isTrue_or (thn (ha pins s σ H Q I h) fun c s1 e => ?_)
  cases c with
  | false => exact isTrue_or_nil e
  | true => exact e
theorem pw_and (ha : PT X a tA) (hb : PW X (.BoolOp .And (b :: rest) pos) tB') : PW X (.BoolOp .And (a :: b :: rest) pos) (tAnd tA tB') := by
  intro wh pins s σ H Q I h
  refine isTrue_and (thn (ha pins s σ H _ I h) fun c s1 ⟨H1, I1, q1⟩ => ?_)
  cases c with
  | true => exact hb wh pins s1 σ H1 Q I1 q1
  | false => exact ⟨H1, I1, q1⟩
theorem pw_or (ha : PT X a tA) (hb : PW X (.BoolOp .Or (b :: rest) pos) tB') : PW X (.BoolOp .Or (a :: b :: rest) pos) (tOr tA tB') := by
  intro wh pins s σ H Q I h
  refine isTrue_or (thn (ha pins s σ H _ I h) fun c s1 ⟨H1, I1, q1⟩ => ?_)
  cases c with
  | true => exact ⟨H1, I1, q1⟩
  | false => exact hb wh pins s1 σ H1 Q I1 q1
theorem pt_not (ha : PT X a tA) : PT X (.UnaryOp .Not a pos) (tNot tA) := by
  intro pins s σ H Q I h
  exact isTrue_not (ha pins s σ H (fun c H1 => Q (!c) H1) I h)
def tAndV (ta tb : TE) : TE := fun σ H Q => ta σ H fun x H1 => ∃ c, x = .bl c ∧ if c = true then tb σ H1 Q else Q (.bl false) H1
def tOrV (ta tb : TE) : TE := fun σ H Q => ta σ H fun x H1 => ∃ c, x = .bl c ∧ if c = true then Q (.bl true) H1 else tb σ H1 Q
theorem pe_one {op} {t : TE} (h : PE X a t) : PE X (.BoolOp op [a] pos) t := fun pins s σ H Q I hw => BoolOp_one (h pins s σ H Q I hw)
theorem pe_and (ha : PE X a ta) (hb : PE X (.BoolOp .And (b :: rest) pos) tb) : PE X (.BoolOp .And (a :: b :: rest) pos) (tAndV ta tb) := by
  intro pins s σ H Q I h
  refine BoolOp_and (thn (ha pins s σ H _ I h) fun v s1 ⟨x, H1, I1, r1, q1⟩ => ?_)
  obtain ⟨c, rfl, q1⟩ := q1
  cases r1
  refine wpAny_truthy_bool ?_
  cases c with
  | true => exact hb pins s1 σ H1 Q I1 q1
  | false => exact ⟨.bl false, H1, I1, rfl, q1⟩
theorem pe_or (ha : PE X a ta) (hb : PE X (.BoolOp .Or (b :: rest) pos) tb) : PE X (.BoolOp .Or (a :: b :: rest) pos) (tOrV ta tb) := by
  intro pins s σ H Q I h
  refine BoolOp_or (thn (ha pins s σ H _ I h) fun v s1 ⟨x, H1, I1, r1, q1⟩ => ?_)
  obtain ⟨c, rfl, q1⟩ := q1
  cases r1
  refine wpAny_truthy_bool ?_
  cases c with
  | false => exact hb pins s1 σ H1 Q I1 q1
  | true => exact ⟨.bl true, H1, I1, rfl, q1⟩
end
end L2

namespace L2
open PySem PySem.Spec PyProof.Rows

def SqL (K : PySem.W.Frag) (H : Hp) (a : Addr) (xs : List V) : Prop :=
  Rd H a (.lst xs) ∨
    ∃ (o : Obj) (its : Array Value) (n : Nat), K.lookup a = some o ∧ o.cls = .type "list" ∧ o.dict = none ∧ o.data = .seq its n ∧ its.size ≤ sizeLine ∧ Vals xs its.toList
def SqT (K : PySem.W.Frag) (H : Hp) (a : Addr) (xs : List V) : Prop :=
  Rd H a (.tup xs) ∨
    ∃ (o : Obj) (its : Array Value) (n : Nat), K.lookup a = some o ∧ o.cls = .type "tuple" ∧ o.data = .seq its n ∧ its.size ≤ sizeLine ∧ Vals xs its.toList
def absV : Value → Option V
  | .none => some .non
  | .bool b => some (.bl b)
  | .int i _ => some (.int i)
  | .str x _ => some (.str x)
  | .bytes b _ => some (.byt b)
  | .float b _ => some (.flt b)
  | .ref a => some (.ref a)
  | .type n => some (.ty n)
  | _ => none
theorem RelV.abs {x : V} {u : Value} (r : RelV x u) : absV u = some x := by
  cases x with
  | non => cases r; rfl
  | bl _ => cases r; rfl
  | int _ => obtain ⟨t, rfl⟩ := r; rfl
  | str _ => obtain ⟨t, rfl⟩ := r; rfl
  | byt _ => obtain ⟨t, rfl⟩ := r; rfl
  | flt _ => obtain ⟨t, rfl⟩ := r; rfl
  | ref _ => cases r; rfl
  | ty _ => cases r; rfl
theorem RelV.inj {x y : V} {u : Value} (r : RelV x u) (q : RelV y u) : x = y := Option.some.inj (r.abs.symm.trans q.abs)
theorem Vals.inj : ∀ {xs ys : List V} {us : List Value}, Vals xs us → Vals ys us → xs = ys
  | _, _, _, .nil, .nil => rfl
  | _, _, _, .cons r t, .cons r' t' => by rw [r.inj r', Vals.inj t t']
section
variable {X : Cx} {pins : List (Addr × Obj)} {σ : St} {H : Hp} {s : Shared} {a : Addr} {xs ys : List V}
theorem SqL.of {K : PySem.W.Frag} (h : H a = some (.lst xs)) : SqL K H a xs := .inl (.inl h)
theorem SqT.of {K : PySem.W.Frag} (h : H a = some (.tup xs)) : SqT K H a xs := .inl (.inl h)
theorem Inv.list (I : Inv X pins σ H s) (h : SqL X.K H a xs) : ∃ its : List Value, Vals xs its ∧ PlainL s.heap a its.toArray ∧ xs.length ≤ sizeLine := by
  rcases h with h | ⟨o, its, n, hk, hc, hd, hs, hz, r⟩
  · obtain ⟨z, its, n, r, e⟩ := h.ok I.hok
    exact ⟨its, r, ⟨_, n, e, rfl, rfl, rfl⟩, z⟩
  · refine ⟨its.toList, r, ⟨o, n, I.kIn a o hk, hc, hd, by simpa using hs⟩, ?_⟩
    have e := r.length
    simp only [Array.length_toList] at e
    omega
theorem Inv.tuple (I : Inv X pins σ H s) (h : SqT X.K H a xs) : ∃ its : List Value, Vals xs its ∧ IsTup s.heap a its.toArray ∧ xs.length ≤ sizeLine := by
  rcases h with h | ⟨o, its, n, hk, hc, hs, hz, r⟩
  · obtain ⟨z, its, r, p⟩ := h.ok I.hok
    exact ⟨its, r, p, z⟩
  · refine ⟨its.toList, r, ⟨o, I.kIn a o hk, hc, n, by simpa using hs⟩, ?_⟩
    have e := r.length
    simp only [Array.length_toList] at e
    omega
theorem Inv.list_inj (I : Inv X pins σ H s) (h : SqL X.K H a xs) (h' : SqL X.K H a ys) : xs = ys := by
  obtain ⟨its, r, ⟨o, n, e, _, _, d⟩, _⟩ := I.list h
  obtain ⟨its', r', ⟨o', n', e', _, _, d'⟩, _⟩ := I.list h'
  rw [e] at e'; cases e'
  rw [d] at d'
  injection d' with d1 _
  have : its = its' := by simpa using congrArg Array.toList d1
  subst this
  exact r.inj r'
end

abbrev Cx.wish (X : Cx) (E : Value → Shared → Prop) : Cx := { X with xe := E }
abbrev Cx.nox (X : Cx) : Cx := X.wish fun _ _ => False
theorem Cx.Ok.wish {X : Cx} (ok : X.Ok) (E : Value → Shared → Prop) : (X.wish E).Ok :=
  ⟨ok.mod, ok.kind, ok.glob, ok.blt, ok.above, ok.inj, ok.has, ok.cab, ok.hd, ok.frames, ok.stk, ok.exf, ok.bs, ok.bsz, ok.noex, ok.exfs, ok.funs, ok.frf⟩
theorem Cx.Ok.unwish {X : Cx} {E : Value → Shared → Prop} (ok : (X.wish E).Ok) : X.Ok :=
  ⟨ok.mod, ok.kind, ok.glob, ok.blt, ok.above, ok.inj, ok.has, ok.cab, ok.hd, ok.frames, ok.stk, ok.exf, ok.bs, ok.bsz, ok.noex, ok.exfs, ok.funs, ok.frf⟩
section
variable {X : Cx} {pins : List (Addr × Obj)} {σ : St} {H : Hp} {s : Shared} {E : Value → Shared → Prop}
theorem Inv.wish (I : Inv X pins σ H s) (E : Value → Shared → Prop) : Inv (X.wish E) pins σ H s := ⟨I.ok.wish E, I.os, I.bare, I.base, I.loc, I.cell, I.free, I.freeC, I.pin, I.hok, I.len⟩
theorem Inv.unwish (I : Inv (X.wish E) pins σ H s) : Inv X pins σ H s := ⟨I.ok.unwish, I.os, I.bare, I.base, I.loc, I.cell, I.free, I.freeC, I.pin, I.hok, I.len⟩
theorem SP.unwish {D : Ends} {f : Flow} {s' : Shared} (h : SP (X.wish E) pins D f s') : SP X pins D f s' := by
  cases f with
  | next => obtain ⟨σ', H', I, q⟩ := h; exact ⟨σ', H', I.unwish, q⟩
  | brk => obtain ⟨σ', H', I, q⟩ := h; exact ⟨σ', H', I.unwish, q⟩
  | cont => obtain ⟨σ', H', I, q⟩ := h; exact ⟨σ', H', I.unwish, q⟩
  | ret u => obtain ⟨v, σ', H', I, r, q⟩ := h; exact ⟨v, σ', H', I.unwish, r, q⟩
theorem PE.nox {e : Expr} {t : TE} (h : PE X.nox e t) : PE X e t := fun pins s σ H Q I hw =>
  wpAny_mono (h pins s σ H Q (I.wish _) hw) (fun _ _ ⟨v, H', I', r, q⟩ => ⟨v, H', I'.unwish, r, q⟩) fun _ _ z => False.elim z
theorem PT.nox {e : Expr} {t : TT} (h : PT X.nox e t) : PT X e t := fun pins s σ H Q I hw =>
  wpAny_mono (h pins s σ H Q (I.wish _) hw) (fun _ _ ⟨H', I', q⟩ => ⟨H', I'.unwish, q⟩) fun _ _ z => False.elim z
theorem PSs.nox {st : List Stmt} {t : TS} (h : PSs X.nox st t) : PSs X st t := fun pins s σ H D I hw =>
  wpAny_mono (h pins s σ H D (I.wish _) hw) (fun _ _ q => q.unwish) fun _ _ z => False.elim z
end

section
variable {X : Cx} {st : Stmt} {rest : List Stmt} {t u : TS} {e : Expr} {te : TE} {pos : Pos}
def tNext : TS := fun D σ H => D.nx σ H
def tSeq (t u : TS) : TS := fun D σ H => t { D with nx := u D } σ H
theorem pss_nil : PSs X [] tNext := fun _ _ σ H _ I h => wpAny_execs_nil ⟨σ, H, I, h⟩
theorem pss_cons (h1 : PS X st t) (h2 : PSs X rest u) : PSs X (st :: rest) (tSeq t u) := by
  intro pins s σ H D I h
  refine wpAny_execs_cons (thn (h1 pins s σ H { D with nx := u D } I h) fun f s1 q => ?_)
  cases f with
  | next =>
    obtain ⟨σ', H', I', q⟩ := q
    exact h2 pins s1 σ' H' D I' q
  | ret v => exact q
  | brk => exact q
  | cont => exact q
theorem pss_one (h1 : PS X st t) : PSs X [st] t := by
  intro pins s σ H D I h
  refine wpAny_execs_cons (thn (h1 pins s σ H D I h) fun f s1 q => ?_)
  cases f with
  | next => exact wpAny_execs_nil q
  | ret v => exact q
  | brk => exact q
  | cont => exact q
theorem Inv.quiet {pins : List (Addr × Obj)} {σ : St} {H : Hp} {s : Shared} (I : Inv X pins σ H s) : interactive X.env = false := by simp [interactive, I.ok.kind]
def tDrop (te : TE) : TS := fun D σ H => te σ H fun _ H1 => D.nx σ H1
theorem ps_expr (he : PE X e te) (hs : swapsWith e none pos.line X.env = pure false := by rfl) : PS X (.Expr e pos) (tDrop te) := by
  intro pins s σ H D I h
  exact wpAny_Expr_any (thn (he pins s σ H _ I h) fun v s1 ⟨x, H1, I1, r1, q1⟩ => ⟨σ, H1, I1, q1⟩) I.quiet hs
def tRet (te : TE) : TS := fun D σ H => te σ H D.rt
theorem ps_ret (he : PE X e te) : PS X (.Return (some e) pos) (tRet te) := by
  intro pins s σ H D I h
  exact wpAny_Return_some (thn (he pins s σ H _ I h) fun v s1 ⟨x, H1, I1, r1, q1⟩ => ⟨x, σ, H1, I1, r1, q1⟩)
def tIfS (c : TT) (t u : TS) : TS := fun D σ H => c σ H fun b H1 => if b = true then t D σ H1 else u D σ H1
theorem ps_if {c : Expr} {a b : List Stmt} {tc : TT} (hc : PT X c tc) (ha : PSs X a t) (hb : PSs X b u) : PS X (.If c a b pos) (tIfS tc t u) := by
  intro pins s σ H D I h
  refine wpAny_If (thn (hc pins s σ H _ I h) fun d s1 ⟨H1, I1, q1⟩ => ?_)
  cases d with
  | true => exact ha pins s1 σ H1 D I1 q1
  | false => exact hb pins s1 σ H1 D I1 q1
end

abbrev TG := V → St → Hp → (St → Hp → Prop) → Prop
abbrev TGs := List V → St → Hp → (St → Hp → Prop) → Prop
def PG (X : Cx) (target : Expr) (t : TG) : Prop :=
  ∀ (pins : List (Addr × Obj)) (s : Shared) (σ : St) (H : Hp) (v : V) (u : Value) (Q : St → Hp → Prop), Inv X pins σ H s → RelV v u → t v σ H Q →
    wpAny (model X.prog X.w) X.A (assign target X.env u) (fun _ s' => ∃ σ' H', Inv X pins σ' H' s' ∧ Q σ' H') X.xe s
def PGs (X : Cx) (ts : List Expr) (t : TGs) : Prop :=
  ∀ (pins : List (Addr × Obj)) (s : Shared) (σ : St) (H : Hp) (vs : List V) (us : List Value) (Q : St → Hp → Prop), Inv X pins σ H s → Vals vs us → t vs σ H Q →
    wpAny (model X.prog X.w) X.A (assignInOrder ((assignEach ts X.env).map (·.2)) us) (fun _ s' => ∃ σ' H', Inv X pins σ' H' s' ∧ Q σ' H') X.xe s
section
variable {X : Cx} {pos : Pos}
def gName (i : Nat) : TG := fun v σ H Q => Q (σ.set i (some v)) H
theorem pg_name {i : Nat} {x : Str} (hN : X.N.Nodup) (hi : X.N[i]? = some x) (hx : Loc X.env.scope x) (hf : X.fn x = true ∨ X.env.scope.names.lookup x = some .local := by first | exact .inl rfl | exact .inr rfl | assumption) : PG X (.Name x pos) (gName i) := by
  intro pins s σ H v u Q I r h
  exact wpAny_assign_Name (store_ok I hN hi hx r (fun s' I' => ⟨_, H, I', h⟩) hf)
def gNil : TGs := fun vs σ H Q => vs = [] ∧ Q σ H
def gCons (t : TG) (u : TGs) : TGs := fun vs σ H Q => ∃ v r, vs = v :: r ∧ t v σ H fun σ' H' => u r σ' H' Q
theorem pgs_nil : PGs X [] gNil := by
  intro pins s σ H vs us Q I r h
  obtain ⟨e, h⟩ := h
  subst e
  cases r
  exact assignInOrder_nil ⟨σ, H, I, h⟩
theorem pgs_cons {e : Expr} {es : List Expr} {t : TG} {u : TGs} (h1 : PG X e t) (h2 : PGs X es u)
    (hs : (assignEach (e :: es) X.env).map (·.2) = assign e X.env :: (assignEach es X.env).map (·.2) := by rfl) : PGs X (e :: es) (gCons t u) := by
  intro pins s σ H vs us Q I r h
  obtain ⟨v, vr, e1, h⟩ := h
  subst e1
  cases r with
  | cons r rr =>
    rw [hs]
    refine assignInOrder_cons (thn (h1 pins s σ H _ _ _ I r h) fun _ s1 ⟨σ1, H1, I1, q1⟩ => ?_)
    exact h2 pins s1 σ1 H1 _ _ Q I1 rr q1
def gTup (K : PySem.W.Frag) (n : Nat) (t : TGs) : TG := fun v σ H Q => ∃ a xs, v = .ref a ∧ SqT K H a xs ∧ xs.length = n ∧ t xs σ H Q
theorem pg_tup {es : List Expr} {k : Nat} {t : TGs} {n : Nat} (hc : X.calm = true) (h : PGs X es t)
    (hn : (assignEach es X.env).length = n := by rfl) (hst : (assignEach es X.env).findIdx? (·.1) = none := by rfl) : PG X (.Tuple es k pos) (gTup X.K n t) := by
  intro pins s σ H v u Q I r hw
  obtain ⟨a, xs, e1, hq, hl, hw⟩ := hw
  subst e1
  cases r
  obtain ⟨its, rv, ht, hz⟩ := I.tuple hq
  refine assign_Tuple_tuple (I.ok.hd hc) ht (by simp [hn, ← hl, rv.length]) hst fun h' hx => ?_
  have I1 : Inv X pins σ H { s with heap := h' } := I.kept (t' := s.toks) fun b o e => hx b o (Nat.ne_of_lt (Heap.lt_size e)) e
  exact h pins _ σ H xs _ Q I1 (by simpa using rv) hw
def tAsg (te : TE) (g : TG) : TS := fun D σ H => te σ H fun x H1 => g x σ H1 D.nx
theorem ps_set {i : Nat} {x : Str} {e : Expr} {te : TE} {pos' : Pos} (hN : X.N.Nodup) (hi : X.N[i]? = some x) (hx : Loc X.env.scope x) (he : PE X e te) (hs : swapsWith e (some (.Name x pos')) pos.line X.env = pure false := by rfl) (hf : X.fn x = true ∨ X.env.scope.names.lookup x = some .local := by first | exact .inl rfl | exact .inr rfl | assumption) :
    PS X (.Assign [.Name x pos'] e pos) (tAsg te (gName i)) := by
  intro pins s σ H D I h
  refine wpAny_Assign_Name (thn (he pins s σ H _ I h) fun v s1 ⟨y, H1, I1, r1, q1⟩ => ?_) hs
  exact store_ok I1 hN hi hx r1 (fun s2 I2 => ⟨_, H1, I2, q1⟩) hf
end

section
variable {X : Cx} {pos : Pos}
def tWhile (c : TT) (tb : TS) : TS := fun D σ H => ∃ W : Nat → St → Hp → Prop, (∃ m, W m σ H) ∧ ∀ m σ H, W m σ H →
  c σ H fun b H1 => if b = true then ∃ N : St → Hp → Prop, (∀ σ' H', N σ' H' → ∃ m', m' < m ∧ W m' σ' H') ∧ tb { D with nx := N, ct := N, bk := D.nx } σ H1 else D.nx σ H1
theorem ps_while {c : Expr} {body : List Stmt} {tc : TT} {tb : TS} (hp : PassesOwn (model X.prog X.w) X.A X.env X.xe) (hc : PT X c tc) (hb : PSs X body tb) : PS X (.While c body [] pos) (tWhile tc tb) := by
  intro pins s σ H D I h
  obtain ⟨W, ⟨m0, w0⟩, turn⟩ := h
  refine wpAny_While (codeAny_whileLoop (fun n s' => ∃ σ' H', Inv X pins σ' H' s' ∧ W n σ' H') ?_ m0 ⟨σ, H, I, w0⟩)
  rintro n s1 ⟨σ1, H1, I1, w1⟩
  refine wpAny_passesOwn hp (thn (hc pins s1 σ1 H1 _ I1 (turn n σ1 H1 w1)) fun b s2 ⟨H2, I2, q2⟩ => ?_)
  cases b with
  | true =>
    obtain ⟨N, hN, q2⟩ := q2
    rw [if_pos rfl]
    refine wpAny_passesOwn hp (thn (hb pins s2 σ1 H2 _ I2 q2) fun f s3 q3 => ?_)
    cases f with
    | next =>
      obtain ⟨σ3, H3, I3, n3⟩ := q3
      obtain ⟨m', hm, w3⟩ := hN σ3 H3 n3
      exact ⟨m', hm, σ3, H3, I3, w3⟩
    | cont =>
      obtain ⟨σ3, H3, I3, n3⟩ := q3
      obtain ⟨m', hm, w3⟩ := hN σ3 H3 n3
      exact ⟨m', hm, σ3, H3, I3, w3⟩
    | brk => exact q3
    | ret v => exact q3
  | false =>
    rw [if_neg Bool.false_ne_true]
    exact wpAny_execs_nil ⟨σ1, H2, I2, q2⟩
end

structure It where
  go : Nat → Hp → Prop
  yld : Nat → Hp → V → Hp → Prop
  stop : Nat → Hp → Prop
def FpOk (X : Cx) (pins : List (Addr × Obj)) (H : Hp) (b : Addr) : Prop :=
  H b = none ∧ b ≠ X.env.locals ∧ b ∉ X.fs ∧ (b ∈ X.ex ∨ X.s₀.heap.objs.size ≤ b) ∧ (∀ x c, X.env.cells.lookup x = some c → c ≠ b) ∧ ∀ p ∈ X.pn ++ pins, p.1 ≠ b
theorem Inv.fpOk {X : Cx} {pins : List (Addr × Obj)} {σ : St} {H H' : Hp} {s : Shared} {b : Addr} (I : Inv X pins σ H s) (hb : s.heap.objs.size ≤ b) (hn : H' b = none) : FpOk X pins H' b := by
  refine ⟨hn, Nat.ne_of_gt (Nat.lt_of_lt_of_le I.lt hb), I.nofs hb, .inr (Nat.le_trans I.sz hb), fun x c e z => ?_, fun p hp z => ?_⟩
  · obtain ⟨v, q⟩ := I.cell x c e
    exact absurd (Nat.lt_of_lt_of_le q.lt (by rw [z]; exact hb)) (Nat.lt_irrefl _)
  · exact absurd (Nat.lt_of_lt_of_le (Heap.lt_size (I.pin p hp).1) (by rw [z]; exact hb)) (Nat.lt_irrefl _)
structure Turn (P : Program) (w : World) (K : PySem.W.Frag) (tg : Expr) (J : It) (fp : List Addr) (it : Addr) (tn : Nat → Heap → Prop) : Prop where
  mem : it ∈ fp
  obj : ∀ i h, tn i h → ∀ b ∈ fp, ∃ o, h.get? b = some o ∧ ∀ v, o.data ≠ .cell v
  keep : ∀ i h h', tn i h → (∀ b ∈ fp, ∀ o, h.get? b = some o → h'.get? b = some o) → tn i h'
  item : ∀ (X : Cx), X.prog = P → X.w = w → X.K = K → X.calm = true → ∀ (i : Nat) (pins : List (Addr × Obj)) (s : Shared) (σ : St) (H : Hp) (E : Value → Shared → Prop), Inv X pins σ H s → (∀ b ∈ fp, FpOk X pins H b) → tn i s.heap → J.go i H →
    wpAny (model P w) X.A (pyNext (.ref it)) (fun r s1 => ∃ u, r = some u ∧
      wpAny (model P w) X.A (letOwnedTupleGo tg (.ref it) u) (fun _ s2 => ∃ x H', Inv X pins σ H' s2 ∧ RelV x u ∧ J.yld i H x H' ∧ tn (i + 1) s2.heap ∧ ∀ b ∈ fp, H' b = none) E s1) E s
  done : ∀ (X : Cx), X.prog = P → X.w = w → X.K = K → X.calm = true → ∀ (i : Nat) (pins : List (Addr × Obj)) (s : Shared) (σ : St) (H : Hp) (E : Value → Shared → Prop), Inv X pins σ H s → (∀ b ∈ fp, FpOk X pins H b) → tn i s.heap → J.stop i H →
    wpAny (model P w) X.A (pyNext (.ref it)) (fun r s1 => r = none ∧ Inv X pins σ H s1) E s
  self : ∀ (A : Around) (i : Nat) (s : Shared) (Q : Value → Shared → Prop) (E : Value → Shared → Prop), tn i s.heap → Q (.ref it) s → wpAny (model P w) A (pyIter (.ref it)) Q E s
abbrev TI := St → Hp → (It → Hp → Prop) → Prop
def PIE (X : Cx) (pins : List (Addr × Obj)) (σ : St) (tg : Expr) (R : It → Hp → Prop) (itv : Value) (s2 : Shared) : Prop :=
  ∃ (it : Addr) (fp : List Addr) (tn : Nat → Heap → Prop) (J : It) (H' : Hp), itv = .ref it ∧ Inv X pins σ H' s2 ∧ Turn X.prog X.w X.K tg J fp it tn ∧ tn 0 s2.heap ∧ (∀ b ∈ fp, FpOk X pins H' b) ∧ R J H'
def PI (X : Cx) (tg iter : Expr) (wi : TI) : Prop :=
  ∀ (pins : List (Addr × Obj)) (s : Shared) (σ : St) (H : Hp) (R : It → Hp → Prop), Inv X pins σ H s → wi σ H R →
    wpAny (model X.prog X.w) X.A (eval iter X.env) (fun v s1 => wpAny (model X.prog X.w) X.A (pyIter v) (PIE X pins σ tg R) X.xe s1) X.xe s

theorem go_of {M : Model} {A : Around} {E : Value → Shared → Prop} {s : Shared} {tg : Expr} {it : Addr} {u : Value} {o : Obj} {n : String} {vs : Array Value} {Q : Unit → Shared → Prop} (ho : s.heap.get? it = some o) (hc : o.cls = .type n) (hd : o.data = .fields vs)
    (hn : ["enumerate", "zip", "dict_itemiterator", "dict_reverseitemiterator", "odict_iterator", "itertools.zip_longest", "itertools.pairwise"].contains n = false) (hQ : Q () s) : wpAny M A (letOwnedTupleGo tg (.ref it) u) Q E s := by
  unfold letOwnedTupleGo
  cases tg <;> first
    | exact wpAny_pure hQ
    | (cases u <;> first
        | exact wpAny_pure hQ
        | (refine wpAny_bind (wpAny_load ho ?_)
           rw [hc, hd]
           show wpAny M A (if (["enumerate", "zip", "dict_itemiterator", "dict_reverseitemiterator", "odict_iterator", "itertools.zip_longest", "itertools.pairwise"].contains n && vs[0]? == some (rawInt _)) = true then _ else _) Q E s
           rw [if_neg (by intro h; rw [hn, Bool.false_and] at h; cases h)]
           exact wpAny_pure hQ))

def Itl (K : PySem.W.Frag) (a : Addr) : It :=
  ⟨fun i H => ∃ xs x, SqL K H a xs ∧ xs[i]? = some x, fun i H x H' => H' = H ∧ ∀ xs, SqL K H a xs → xs[i]? = some x, fun i H => ∃ xs, SqL K H a xs ∧ xs.length ≤ i⟩
def Itr (lo : Int) (n : Nat) : It := ⟨fun i _ => i < n, fun i H x H' => H' = H ∧ x = .int (lo + i), fun i _ => n ≤ i⟩
theorem turn_list {P : Program} {w : World} {K : PySem.W.Frag} {tg : Expr} (a it : Addr) : Turn P w K tg (Itl K a) [it] it (fun i h => h.IsListIter it a i) where
  mem := by simp
  obj := fun i h st b hb => by
    have e : b = it := by simpa using hb
    subst e
    obtain ⟨o, e, c, d⟩ := st
    exact ⟨o, e, fun v z => by rw [d] at z; cases z⟩
  keep := fun i h h' st k => st.at fun o e => k it (by simp) o e
  item := by
    intro X hP hw hK hc i pins s σ H E I hf st hg
    subst hP hw hK
    obtain ⟨xs, x, hq, hx⟩ := hg
    obtain ⟨its, rv, p, hz⟩ := I.list hq
    obtain ⟨u, hu, ru⟩ := rv.get hx
    obtain ⟨f0, f1, f2, f3, f4, f5⟩ := hf it (by simp)
    refine wpAny_pyNext_list_item st p.isList (x := u) (by simpa using hu) fun h' st' sb => ?_
    have I1 : Inv X pins σ H { s with heap := h' } := I.turned (t' := s.toks) (fun b o hb e => (sb.2 b hb).trans e) f0 f1 f3 f4 f5
    obtain ⟨o, e, c, d⟩ := id st'
    exact ⟨u, rfl, go_of (s := { s with heap := h' }) e c d (by decide) ⟨x, H, I1, ru, ⟨rfl, fun ys hy => by rw [I.list_inj hy hq]; exact hx⟩, st', fun b hb => (hf b hb).1⟩⟩
  done := by
    intro X hP hw hK hc i pins s σ H E I hf st hg
    subst hP hw hK
    obtain ⟨xs, hq, hx⟩ := hg
    obtain ⟨its, rv, p, hz⟩ := I.list hq
    obtain ⟨f0, f1, f2, f3, f4, f5⟩ := hf it (by simp)
    have hl := rv.length
    exact wpAny_pyNext_list_end (I.ok.hd hc) st p.isList (by simp; omega) fun h' eb => ⟨rfl, I.turned (t' := s.toks) (fun b o hb e => eb b o hb e) f0 f1 f3 f4 f5⟩
  self := fun _ _ _ _ _ st h => wpAny_pyIter_listiter st h
theorem turn_range {P : Program} {w : World} {K : PySem.W.Frag} {tg : Expr} (it : Addr) (lo : Int) (n : Nat) : Turn P w K tg (Itr lo n) [it] it (fun i h => IsRangeIter h it (lo + (i : Nat) * 1) ((n : Int) - (i : Nat)) 1) where
  mem := by simp
  obj := fun i h st b hb => by
    have e : b = it := by simpa using hb
    subst e
    exact ⟨_, st, fun v z => by
      have z' : Data.fields _ = Data.cell v := z
      cases z'⟩
  keep := fun i h h' st k => k it (by simp) _ st
  item := by
    intro X hP hw hK hc i pins s σ H E I hf st hg
    subst hP hw hK
    obtain ⟨f0, f1, f2, f3, f4, f5⟩ := hf it (by simp)
    have W := Walks.range (prog := X.prog) (w := X.w) (I.ok.hd hc) it lo 1 n
    refine W.item i s _ _ hg st fun v h' tk hv st' kk => ?_
    obtain ⟨t, rfl⟩ := hv
    have I1 : Inv X pins σ H { s with heap := h', toks := tk } := I.turned (fun b o hb e => kk b o (by simpa using hb) e) f0 f1 f3 f4 f5
    refine ⟨_, rfl, go_of (s := { s with heap := h', toks := tk }) (n := "range_iterator") st' rfl rfl (by decide) ⟨.int (lo + i), H, I1, ⟨t, ?_⟩, ⟨rfl, rfl⟩, st', fun b hb => (hf b hb).1⟩⟩
    rw [Int.mul_one]
  done := by
    intro X hP hw hK hc i pins s σ H E I hf st hg
    subst hP hw hK
    obtain ⟨f0, f1, f2, f3, f4, f5⟩ := hf it (by simp)
    exact wpAny_pyNext_range_end (I.ok.hd hc) st (by have : n ≤ i := hg; omega) fun h' eb => ⟨rfl, I.turned (t' := s.toks) (fun b o hb e => eb b o hb e) f0 f1 f3 f4 f5⟩
  self := fun _ _ _ _ _ st h => wpAny_pyIter_rangeiter st h
end L2

namespace L2
open PySem PySem.Spec PyProof.Rows
section
variable {X : Cx} {tg : Expr}
def iList (K : PySem.W.Frag) (tl : TE) : TI := fun σ H R => tl σ H fun x H1 => ∃ a, x = .ref a ∧ (∃ xs, SqL K H1 a xs) ∧ R (Itl K a) H1
theorem pi_list {l : Expr} {tl : TE} (hl : PE X l tl) : PI X tg l (iList X.K tl) := by
  intro pins s σ H R I h
  refine thn (hl pins s σ H _ I h) fun v s1 ⟨x, H1, I1, r1, q1⟩ => ?_
  obtain ⟨a, e, ⟨xs, hq⟩, q⟩ := q1
  subst e
  cases r1
  obtain ⟨its, rv, p, hz⟩ := I1.list hq
  refine wpAny_pyIter_list p.isList ?_
  refine ⟨s1.heap.objs.size, [s1.heap.objs.size], _, _, H1, rfl, I1.kept (t' := s1.toks) fun b o e => Heap.get?_push_of_some _ e, turn_list a _, ⟨_, Heap.get?_push_size _ rfl, rfl, rfl⟩, fun b hb => ?_, q⟩
  have e : b = s1.heap.objs.size := by simpa using hb
  subst e
  exact I1.fpOk (Nat.le_refl _) (I1.hok.fresh (Nat.le_refl _))
theorem range_it {pins : List (Addr × Obj)} {σ : St} {H : Hp} {s : Shared} {R : It → Hp → Prop} {E : Value → Shared → Prop} {lo hi : Int} {t u v : Tok} {tk : Nat} (I : Inv X pins σ H s) (h1 : -(2 ^ 62) ≤ lo) (h2 : lo < 2 ^ 62) (h3 : -(2 ^ 62) ≤ hi) (h4 : hi < 2 ^ 62)
    (q : R (Itr lo (hi - lo).toNat) H) : wpAny (model X.prog X.w) X.A (pyIter (.ref s.heap.objs.size)) (PIE X pins σ tg R) E { s with heap := s.heap.push { cls := .type "range", data := .fields #[.int lo t, .int hi u, .int 1 v] }, toks := tk } := by
  refine wpAny_pyIter_range (IsRange.new ..) (small_one h1 h2 h3 h4) ?_
  have I1 : Inv X pins σ H { s with heap := s.heap.push { cls := .type "range", data := .fields #[.int lo t, .int hi u, .int 1 v] }, toks := tk } := I.kept fun b o e => Heap.get?_push_of_some _ e
  refine ⟨(s.heap.push { cls := .type "range", data := .fields #[.int lo t, .int hi u, .int 1 v] }).objs.size, [(s.heap.push { cls := .type "range", data := .fields #[.int lo t, .int hi u, .int 1 v] }).objs.size], _, _, H, rfl,
    I1.kept (t' := tk) fun b o e => Heap.get?_push_of_some _ e, turn_range _ lo (hi - lo).toNat, ?_, fun b hb => ?_, q⟩
  · have e1 : lo + ((0 : Nat) : Int) * 1 = lo := by simp
    have e2 : (((hi - lo).toNat : Nat) : Int) - ((0 : Nat) : Int) = Builtin.Range.rangeSize lo hi 1 := by rw [rangeSize_one]; split <;> omega
    show IsRangeIter _ _ (lo + ((0 : Nat) : Int) * 1) ((((hi - lo).toNat : Nat) : Int) - ((0 : Nat) : Int)) 1
    rw [e1, e2]
    exact Heap.get?_push_size _ rfl
  · have e : b = (s.heap.push { cls := .type "range", data := .fields #[.int lo t, .int hi u, .int 1 v] }).objs.size := by simpa using hb
    subst e
    exact I1.fpOk (Nat.le_refl _) (I1.hok.fresh (Nat.le_refl _))
def iRng1 (ta : TA) : TI := fun σ H R => ta σ H fun vs H1 => ∃ j : Int, vs = [.int j] ∧ -(2 ^ 62) ≤ j ∧ j < 2 ^ 62 ∧ R (Itr 0 j.toNat) H1
theorem pi_range1 {a : Expr} {ta : TA} {p pos : Pos} (hg : Gl X "range") (hm : X.mg "range" = none) (ha : PA X [a] ta) (hs : starEach [a] X.env = [(false, eval a X.env)] := by rfl) : PI X tg (.Call (.Name "range" p) [a] [] pos) (iRng1 ta) := by
  intro pins s σ H R I h
  refine Call_ (ld_blt I hg hm boot_range (PyProof.Rows.callWith_type1 (thn (ha pos pins s σ H _ I h) fun us s1 ⟨vs, H1, I1, r1, q1⟩ => ?_) hs rfl))
  obtain ⟨j, e, q1, q2, q⟩ := q1
  subst e
  cases r1 with
  | cons r rr =>
    cases rr
    obtain ⟨t, rfl⟩ := r
    exact call_range_1 (range_it I1 (by omega) (by omega) q1 q2 (by simpa using q))
def tFor (wi : TI) (g : TG) (tb : TS) : TS := fun D σ H => wi σ H fun J H1 => ∃ W : Nat → Nat → St → Hp → Prop, (∃ m, W 0 m σ H1) ∧ ∀ i m σ H, W i m σ H →
  (J.stop i H ∧ D.nx σ H) ∨ (J.go i H ∧ ∃ N : St → Hp → Prop, (∀ σ' H', N σ' H' → ∃ m', m' < m ∧ W (i + 1) m' σ' H') ∧ ∀ x H', J.yld i H x H' → g x σ H' fun σ2 H2 => tb { D with nx := N, ct := N, bk := D.nx } σ2 H2)
def pinsAt (fp : List Addr) (h : Heap) : List (Addr × Obj) := fp.filterMap fun b => (h.get? b).map fun o => (b, o)
theorem mem_pinsAt {fp : List Addr} {h : Heap} {b : Addr} {o : Obj} (hb : b ∈ fp) (e : h.get? b = some o) : (b, o) ∈ pinsAt fp h := List.mem_filterMap.mpr ⟨b, hb, by rw [e]; rfl⟩
theorem of_pinsAt {fp : List Addr} {h : Heap} {p : Addr × Obj} (hp : p ∈ pinsAt fp h) : p.1 ∈ fp ∧ h.get? p.1 = some p.2 := by
  obtain ⟨b, hb, e⟩ := List.mem_filterMap.mp hp
  cases q : h.get? b with
  | none => rw [q] at e; cases e
  | some o =>
    rw [q] at e
    have e' : (b, o) = p := Option.some.inj e
    subst e'
    exact ⟨hb, q⟩
theorem Inv.pinned {pins : List (Addr × Obj)} {σ : St} {H : Hp} {s : Shared} {fp : List Addr} (I : Inv X pins σ H s) (hf : ∀ b ∈ fp, FpOk X pins H b) (ho : ∀ b ∈ fp, ∃ o, s.heap.get? b = some o ∧ ∀ v, o.data ≠ .cell v) : Inv X (pins ++ pinsAt fp s.heap) σ H s :=
  I.pins_of fun p hp => (List.mem_append.mp hp).elim (fun z => I.pin p (List.mem_append_right _ z)) fun z => by
    obtain ⟨hb, e⟩ := of_pinsAt z
    obtain ⟨f0, f1, f2, _⟩ := hf p.1 hb
    obtain ⟨o, e', d⟩ := ho p.1 hb
    rw [e] at e'; cases e'
    exact ⟨e, f0, f1, f2, d⟩
theorem Inv.unpinned {pins pl : List (Addr × Obj)} {σ : St} {H : Hp} {s : Shared} (I : Inv X (pins ++ pl) σ H s) : Inv X pins σ H s := I.pins_of fun p hp => I.pin p (List.mem_append_right _ (List.mem_append_left _ hp))
theorem ps_for {iter : Expr} {body : List Stmt} {wi : TI} {g : TG} {tb : TS} {pos : Pos} (hp : PassesOwn (model X.prog X.w) X.A X.env X.xe) (hc : X.calm = true) (hi : PI X tg iter wi) (hg : PG X tg g) (hb : PSs X body tb)
    (hs : ∀ x, foldedSetIterable iter X.env x = pure x := by intro _; rfl) : PS X (.For tg iter body [] pos) (tFor wi g tb) := by
  intro pins s σ H D I h
  refine wpAny_For (thn (hi pins s σ H _ I h) fun v s1 h1 => thn h1 fun itv s2 h2 => ?_) hs
  obtain ⟨it, fp, tn, J, H2, e, I2, T, st2, f2, W, ⟨m0, w0⟩, turn⟩ := h2
  subst e
  -- what stays true of the iterator's objects through the loop
  have stat : ∀ {H' : Hp}, (∀ b ∈ fp, H' b = none) → ∀ b ∈ fp, FpOk X pins H' b := fun hn b hb => ⟨hn b hb, (f2 b hb).2⟩
  refine codeAny_forLoop_any (fun n s' => ∃ i σ' H', Inv X pins σ' H' s' ∧ tn i s'.heap ∧ (∀ b ∈ fp, H' b = none) ∧ W i n σ' H') ?_ m0 ⟨0, σ, H2, I2, st2, fun b hb => (f2 b hb).1, w0⟩
  rintro n s3 ⟨i, σ3, H3, I3, st3, fr3, w3⟩
  rcases turn i n σ3 H3 w3 with ⟨stop, qn⟩ | ⟨go, N, hN, step⟩
  · refine wpAny_passesOwn hp (thn (T.done X rfl rfl rfl hc i pins s3 σ3 H3 X.xe I3 (stat fr3) st3 stop) fun r s4 ⟨hr, I4⟩ => ?_)
    subst hr
    exact wpAny_execs_nil ⟨σ3, H3, I4, qn⟩
  · refine wpAny_passesOwn hp (thn (T.item X rfl rfl rfl hc i pins s3 σ3 H3 X.xe I3 (stat fr3) st3 go) fun r s4 ⟨u, hr, h4⟩ => ?_)
    subst hr
    refine wpAny_passesOwn hp (thn h4 fun _ s5 ⟨x, H5, I5, r5, y5, st5, fr5⟩ => ?_)
    have I5' := I5.pinned (stat fr5) (T.obj _ _ st5)
    refine wpAny_passesOwn hp (thn (hg _ s5 σ3 H5 x u _ I5' r5 (step x H5 y5)) fun _ s6 ⟨σ6, H6, I6, q6⟩ => ?_)
    refine wpAny_passesOwn hp (thn (hb _ s6 σ6 H6 _ I6 q6) fun f s7 q7 => ?_)
    have again : ∀ {σ7 : St} {H7 : Hp}, Inv X (pins ++ pinsAt fp s5.heap) σ7 H7 s7 → N σ7 H7 → ∃ m, m < n ∧ ∃ i σ' H', Inv X pins σ' H' s7 ∧ tn i s7.heap ∧ (∀ b ∈ fp, H' b = none) ∧ W i m σ' H' := fun {σ7 H7} I7 n7 => by
      obtain ⟨m', hm, w7⟩ := hN σ7 H7 n7
      refine ⟨m', hm, i + 1, σ7, H7, I7.unpinned, T.keep _ _ _ st5 fun b hb o e => (I7.pin (b, o) (List.mem_append_right _ (List.mem_append_right _ (mem_pinsAt hb e)))).1, fun b hb => ?_, w7⟩
      obtain ⟨o, e, d⟩ := T.obj _ _ st5 b hb
      exact (I7.pin (b, o) (List.mem_append_right _ (List.mem_append_right _ (mem_pinsAt hb e)))).2.1
    cases f with
    | next => obtain ⟨σ7, H7, I7, n7⟩ := q7; exact again I7 n7
    | cont => obtain ⟨σ7, H7, I7, n7⟩ := q7; exact again I7 n7
    | brk => obtain ⟨σ7, H7, I7, q7⟩ := q7; exact ⟨σ7, H7, I7.unpinned, q7⟩
    | ret v => obtain ⟨x7, σ7, H7, I7, r7, q7⟩ := q7; exact ⟨x7, σ7, H7, I7.unpinned, r7, q7⟩
end

end L2

namespace L2
open PySem PySem.Spec PyProof.Rows

abbrev R2 := V → V → Hp → VK → Prop
def OpR (X : Cx) (f : Value → Value → Sem Value) (r : R2) : Prop :=
  ∀ (pins : List (Addr × Obj)) (s : Shared) (σ : St) (H : Hp) (x y : V) (v u : Value) (Q : VK), Inv X pins σ H s → RelV x v → RelV y u → r x y H Q →
    wpAny (model X.prog X.w) X.A (f v u) (EP X pins σ Q) X.xe s
def UnR (X : Cx) (f : Value → Sem Value) (r : V → Hp → VK → Prop) : Prop :=
  ∀ (pins : List (Addr × Obj)) (s : Shared) (σ : St) (H : Hp) (x : V) (v : Value) (Q : VK), Inv X pins σ H s → RelV x v → r x H Q →
    wpAny (model X.prog X.w) X.A (f v) (EP X pins σ Q) X.xe s
def CallR (X : Cx) (f : Value) (r : List V → Hp → VK → Prop) : Prop :=
  ∀ (pins : List (Addr × Obj)) (s : Shared) (σ : St) (H : Hp) (xs : List V) (us : List Value) (Q : VK), Inv X pins σ H s → Vals xs us → r xs H Q →
    wpAny (model X.prog X.w) X.A (call f us) (EP X pins σ Q) X.xe s
def tOp (r : R2) (ta tb : TE) : TE := fun σ H Q => ta σ H fun x H1 => tb σ H1 fun y H2 => r x y H2 Q
def tUn (r : V → Hp → VK → Prop) (ta : TE) : TE := fun σ H Q => ta σ H fun x H1 => r x H1 Q
def rI (C : Int → Int → Prop) (g : Int → Int → V) : R2 := fun x y H Q => ∃ i j, x = .int i ∧ y = .int j ∧ C i j ∧ Q (g i j) H
def rI0 (g : Int → Int → V) : R2 := fun x y H Q => ∃ i j, x = .int i ∧ y = .int j ∧ Q (g i j) H
def rU (g : Int → V) : V → Hp → VK → Prop := fun x H Q => ∃ i, x = .int i ∧ Q (g i) H

section
variable {X : Cx} {a b c : Expr} {ta tb tc : TE} {pos : Pos}

theorem binT (ha : PE X a ta) (hb : PE X b tb) {pins : List (Addr × Obj)} {s : Shared} {σ : St} {H : Hp} {R : V → V → Hp → Prop} (I : Inv X pins σ H s)
    (h : ta σ H fun x H1 => tb σ H1 fun y H2 => R x y H2) {Q : Value → Shared → Prop} {f : Value → Value → Sem Value}
    (hf : ∀ v u s2 x y H2, Inv X pins σ H2 s2 → RelV x v → RelV y u → R x y H2 → wpAny (model X.prog X.w) X.A (f v u) Q X.xe s2) :
    wpAny (model X.prog X.w) X.A (eval a X.env) (fun v s₁ => wpAny (model X.prog X.w) X.A (eval b X.env) (fun u s₂ => wpAny (model X.prog X.w) X.A (f v u) Q X.xe s₂) X.xe s₁) X.xe s := by
  refine thn (ha pins s σ H _ I h) fun v s1 ⟨x, H1, I1, r1, q1⟩ => ?_
  refine thn (hb pins s1 σ H1 _ I1 q1) fun u s2 ⟨y, H2, I2, r2, q2⟩ => ?_
  exact hf v u s2 x y H2 I2 r1 r2 q2

theorem pe_op {op : Operator} {r : R2} (ho : OpR X (binaryOp op) r) (ha : PE X a ta) (hb : PE X b tb) : PE X (.BinOp a op b pos) (tOp r ta tb) := by
  intro pins s σ H Q I h
  exact wpAny_BinOp (binT ha hb I h fun v u s2 x y H2 I2 rx ry q => ho pins s2 σ H2 x y v u Q I2 rx ry q)
theorem pe_un {op : UnaryOp} {r : V → Hp → VK → Prop} (ho : UnR X (unaryOp op) r) (ha : PE X a ta) : PE X (.UnaryOp op a pos) (tUn r ta) := by
  intro pins s σ H Q I h
  exact UnaryOp_ (thn (ha pins s σ H _ I h) fun v s1 ⟨x, H1, I1, r1, q1⟩ => ho pins s1 σ H1 x v Q I1 r1 q1)
theorem opI {f : Value → Value → Sem Value} {C : Int → Int → Prop} {g : Int → Int → Int}
    (rule : ∀ (i j : Int) (t u : Tok) (s : Shared) (Q : Value → Shared → Prop) (E : Value → Shared → Prop), C i j → Q (.int (g i j) s.toks) { s with toks := s.toks + 1 } → wpAny (model X.prog X.w) X.A (f (.int i t) (.int j u)) Q E s) :
    OpR X f (rI C fun i j => .int (g i j)) := by
  intro pins s σ H x y v u Q I rx ry h
  obtain ⟨i, j, rfl, rfl, hc, q⟩ := h
  obtain ⟨t, rfl⟩ := rx
  obtain ⟨t', rfl⟩ := ry
  exact rule i j t t' s _ _ hc ⟨.int (g i j), H, I.tok _, ⟨_, rfl⟩, q⟩
theorem opI0 {f : Value → Value → Sem Value} {g : Int → Int → Int}
    (rule : ∀ (i j : Int) (t u : Tok) (s : Shared) (Q : Value → Shared → Prop) (E : Value → Shared → Prop), Q (.int (g i j) s.toks) { s with toks := s.toks + 1 } → wpAny (model X.prog X.w) X.A (f (.int i t) (.int j u)) Q E s) :
    OpR X f (rI0 fun i j => .int (g i j)) := by
  intro pins s σ H x y v u Q I rx ry h
  obtain ⟨i, j, rfl, rfl, q⟩ := h
  obtain ⟨t, rfl⟩ := rx
  obtain ⟨t', rfl⟩ := ry
  exact rule i j t t' s _ _ ⟨.int (g i j), H, I.tok _, ⟨_, rfl⟩, q⟩
theorem opB0 {f : Value → Value → Sem Value} {g : Int → Int → Bool}
    (rule : ∀ (i j : Int) (t u : Tok) (s : Shared) (Q : Value → Shared → Prop) (E : Value → Shared → Prop), Q (.bool (g i j)) s → wpAny (model X.prog X.w) X.A (f (.int i t) (.int j u)) Q E s) :
    OpR X f (rI0 fun i j => .bl (g i j)) := by
  intro pins s σ H x y v u Q I rx ry h
  obtain ⟨i, j, rfl, rfl, q⟩ := h
  obtain ⟨t, rfl⟩ := rx
  obtain ⟨t', rfl⟩ := ry
  exact rule i j t t' s _ _ ⟨.bl (g i j), H, I, rfl, q⟩

def CDiv (i j : Int) : Prop := 0 < j ∧ j < 1073741824
def CMul (i j : Int) : Prop := (-(2 ^ 64) < i ∧ i < 2 ^ 64) ∨ (-(2 ^ 64) < j ∧ j < 2 ^ 64)
theorem CMul.ok {i j : Int} (h : CMul i j) : IntMulOk i j := by
  rcases h with ⟨h1, h2⟩ | ⟨h1, h2⟩
  · exact .of_left (intBits_le_64 h1 h2)
  · exact .of_right (intBits_le_64 h1 h2)
theorem op_add : OpR X (binaryOp .Add) (rI0 fun i j => .int (i + j)) := opI0 fun _ _ _ _ _ _ _ q => add_int q
theorem op_sub : OpR X (binaryOp .Sub) (rI0 fun i j => .int (i - j)) := opI0 fun _ _ _ _ _ _ _ q => sub_int q
theorem op_mul : OpR X (binaryOp .Mult) (rI CMul fun i j => .int (i * j)) := opI fun _ _ _ _ _ _ _ hc q => mul_int q hc.ok
theorem op_fdiv : OpR X (binaryOp .FloorDiv) (rI CDiv fun i j => .int (i / j)) := opI fun i j _ _ _ _ _ hc q => by
  have h1 : (0 : Int) < j := hc.1
  have h2 : j < 1073741824 := hc.2
  exact floordiv_int (by omega) (by rw [Int.fdiv_eq_ediv_of_nonneg i (by omega)]; exact q) (.inl (PyProof.noPylong_small (by omega)))
theorem op_mod : OpR X (binaryOp .Mod) (rI (fun _ j => 0 < j) fun i j => .int (i % j)) := opI fun i j _ _ _ _ _ hc q => by
  have h1 : (0 : Int) < j := hc
  exact mod_int' (by omega) (by rw [Int.fmod_eq_emod_of_nonneg i (by omega)]; exact q)
theorem unI {f : Value → Sem Value} {g : Int → Int}
    (rule : ∀ (i : Int) (t : Tok) (s : Shared) (Q : Value → Shared → Prop) (E : Value → Shared → Prop), Q (.int (g i) s.toks) { s with toks := s.toks + 1 } → wpAny (model X.prog X.w) X.A (f (.int i t)) Q E s) :
    UnR X f (rU fun i => .int (g i)) := by
  intro pins s σ H x v Q I rx h
  obtain ⟨i, rfl, q⟩ := h
  obtain ⟨t, rfl⟩ := rx
  exact rule i t s _ _ ⟨.int (g i), H, I.tok _, ⟨_, rfl⟩, q⟩
theorem un_neg : UnR X (unaryOp .USub) (rU fun i => .int (-i)) := unI fun _ _ _ _ _ q => neg_int q
end

def scal : V → V → Bool
  | .non, .non => true | .non, .int _ => true | .int _, .non => true | .non, .bl _ => true | .bl _, .non => true | .non, .str _ => true | .str _, .non => true
  | .int _, .int _ => true | .bl _, .bl _ => true | .str _, .str _ => true | .byt _, .byt _ => true
  | .int _, .str _ => true | .str _, .int _ => true | .bl _, .str _ => true | .str _, .bl _ => true
  | _, _ => false
def rEq : R2 := fun x y H Q => scal x y = true ∧ Q (.bl (decide (x = y))) H
def rNe : R2 := fun x y H Q => scal x y = true ∧ Q (.bl (!decide (x = y))) H

theorem dec_int {i j : Int} : decide (V.int i = V.int j) = (i == j) := by
  rw [Bool.eq_iff_iff]
  simp
theorem dec_bl {i j : Bool} : decide (V.bl i = V.bl j) = (i == j) := by
  rw [Bool.eq_iff_iff]
  simp
theorem dec_str {i j : Str} : decide (V.str i = V.str j) = (i == j) := by
  rw [Bool.eq_iff_iff]
  simp
theorem dec_byt {i j : Array UInt8} : decide (V.byt i = V.byt j) = (i.toList == j.toList) := by
  rw [Bool.eq_iff_iff]
  cases i
  cases j
  simp

section
variable {X : Cx} {a b c : Expr} {ta tb tc : TE} {pos : Pos}
theorem fin_bl {pins : List (Addr × Obj)} {σ : St} {H : Hp} {s : Shared} {Q : VK} {k k' : Bool} (I : Inv X pins σ H s) (q : Q (.bl k) H) (e : k = k') : EP X pins σ Q (.bool k') s := by
  subst e
  exact ⟨.bl k, H, I, rfl, q⟩
theorem op_eq : OpR X (compareOp .Eq) rEq := by
  intro pins s σ H x y v u Q I rx ry h
  obtain ⟨hs, q⟩ := h
  cases x with
  | non =>
    cases rx
    cases y with
    | non => cases ry; exact PySem.EqNone.eq_none_none (fin_bl I q (by simp))
    | bl j => cases ry; exact PySem.EqNone.eq_none_bool (fin_bl I q (by simp))
    | int j => obtain ⟨t', rfl⟩ := ry; exact PySem.EqNone.eq_none_int (fin_bl I q (by simp))
    | str j => obtain ⟨t', rfl⟩ := ry; exact PySem.EqNone.eq_none_str (fin_bl I q (by simp))
    | _ => exact absurd (show false = true from hs) Bool.false_ne_true
  | bl i =>
    cases rx
    cases y with
    | non => cases ry; exact PySem.EqNone.eq_bool_none (fin_bl I q (by simp))
    | bl j => cases ry; exact eq_bool (fin_bl I q dec_bl)
    | str j => obtain ⟨t', rfl⟩ := ry; exact PySem.EqMixed.eq_bool_str (fin_bl I q (by simp))
    | _ => exact absurd (show false = true from hs) Bool.false_ne_true
  | int i =>
    obtain ⟨t, rfl⟩ := rx
    cases y with
    | non => cases ry; exact PySem.EqNone.eq_int_none (fin_bl I q (by simp))
    | int j => obtain ⟨t', rfl⟩ := ry; exact eq_int (fin_bl I q dec_int)
    | str j => obtain ⟨t', rfl⟩ := ry; exact PySem.EqMixed.eq_int_str (fin_bl I q (by simp))
    | _ => exact absurd (show false = true from hs) Bool.false_ne_true
  | str i =>
    obtain ⟨t, rfl⟩ := rx
    cases y with
    | non => cases ry; exact PySem.EqNone.eq_str_none (fin_bl I q (by simp))
    | bl j => cases ry; exact PySem.EqMixed.eq_str_bool (fin_bl I q (by simp))
    | int j => obtain ⟨t', rfl⟩ := ry; exact PySem.EqMixed.eq_str_int (fin_bl I q (by simp))
    | str j => obtain ⟨t', rfl⟩ := ry; exact eq_str (fin_bl I q dec_str)
    | _ => exact absurd (show false = true from hs) Bool.false_ne_true
  | byt i =>
    obtain ⟨t, rfl⟩ := rx
    cases y with
    | byt j => obtain ⟨t', rfl⟩ := ry; exact PySem.W.eq_bytes (fin_bl I q dec_byt)
    | _ => exact absurd (show false = true from hs) Bool.false_ne_true
  | _ => cases y <;> exact absurd (show false = true from hs) Bool.false_ne_true
theorem op_ne : OpR X (compareOp .NotEq) rNe := by
  intro pins s σ H x y v u Q I rx ry h
  obtain ⟨hs, q⟩ := h
  cases x with
  | non =>
    cases rx
    cases y with
    | non => cases ry; exact PySem.EqNone.ne_none_none (fin_bl I q (by simp))
    | bl j => cases ry; exact PySem.EqNone.ne_none_bool (fin_bl I q (by simp))
    | int j => obtain ⟨t', rfl⟩ := ry; exact PySem.EqNone.ne_none_int (fin_bl I q (by simp))
    | str j => obtain ⟨t', rfl⟩ := ry; exact PySem.EqNone.ne_none_str (fin_bl I q (by simp))
    | _ => exact absurd (show false = true from hs) Bool.false_ne_true
  | bl i =>
    cases rx
    cases y with
    | non => cases ry; exact PySem.EqNone.ne_bool_none (fin_bl I q (by simp))
    | bl j => cases ry; exact ne_bool (fin_bl I q (congrArg not dec_bl))
    | str j => obtain ⟨t', rfl⟩ := ry; exact PySem.EqMixed.ne_bool_str (fin_bl I q (by simp))
    | _ => exact absurd (show false = true from hs) Bool.false_ne_true
  | int i =>
    obtain ⟨t, rfl⟩ := rx
    cases y with
    | non => cases ry; exact PySem.EqNone.ne_int_none (fin_bl I q (by simp))
    | int j => obtain ⟨t', rfl⟩ := ry; exact ne_int (fin_bl I q (congrArg not dec_int))
    | str j => obtain ⟨t', rfl⟩ := ry; exact PySem.EqMixed.ne_int_str (fin_bl I q (by simp))
    | _ => exact absurd (show false = true from hs) Bool.false_ne_true
  | str i =>
    obtain ⟨t, rfl⟩ := rx
    cases y with
    | non => cases ry; exact PySem.EqNone.ne_str_none (fin_bl I q (by simp))
    | bl j => cases ry; exact PySem.EqMixed.ne_str_bool (fin_bl I q (by simp))
    | int j => obtain ⟨t', rfl⟩ := ry; exact PySem.EqMixed.ne_str_int (fin_bl I q (by simp))
    | str j => obtain ⟨t', rfl⟩ := ry; exact ne_str (fin_bl I q (congrArg not dec_str))
    | _ => exact absurd (show false = true from hs) Bool.false_ne_true
  | byt i =>
    obtain ⟨t, rfl⟩ := rx
    cases y with
    | byt j => obtain ⟨t', rfl⟩ := ry; exact PySem.W.ne_bytes (fin_bl I q (congrArg not dec_byt))
    | _ => exact absurd (show false = true from hs) Bool.false_ne_true
  | _ => cases y <;> exact absurd (show false = true from hs) Bool.false_ne_true

theorem op_lt : OpR X (compareOp .Lt) (rI0 fun i j => .bl (decide (i < j))) := opB0 fun _ _ _ _ _ _ _ q => lt_int q
theorem op_gt : OpR X (compareOp .Gt) (rI0 fun i j => .bl (decide (j < i))) := opB0 fun _ _ _ _ _ _ _ q => gt_int q
theorem op_isN : OpR X (compareOp .Is) (fun x y H Q => y = .non ∧ Q (.bl (decide (x = .non))) H) := by
  intro pins s σ H x y v u Q I rx ry h
  obtain ⟨rfl, q⟩ := h
  cases ry
  refine is_none_gen (fin_bl I q ?_)
  cases x <;> first
    | (cases rx; rfl)
    | (obtain ⟨t, rfl⟩ := rx; rfl)
theorem op_notN : OpR X (compareOp .IsNot) (fun x y H Q => y = .non ∧ Q (.bl (!decide (x = .non))) H) := by
  intro pins s σ H x y v u Q I rx ry h
  obtain ⟨rfl, q⟩ := h
  cases ry
  refine isnot_none_gen (fin_bl I q ?_)
  cases x <;> first
    | (cases rx; rfl)
    | (obtain ⟨t, rfl⟩ := rx; rfl)

theorem OpR.or {f : Value → Value → Sem Value} {r r' : R2} (h : OpR X f r) (h' : OpR X f r') : OpR X f (fun x y H Q => r x y H Q ∨ r' x y H Q) := by
  intro pins s σ H x y v u Q I rx ry q
  rcases q with q | q
  · exact h pins s σ H x y v u Q I rx ry q
  · exact h' pins s σ H x y v u Q I rx ry q

theorem nomark (b : Expr) {op : CmpOp} (h : op ≠ .In := by decide) (h2 : op ≠ .NotIn := by decide) : behindInMarks op b = false := by
  have e1 : (op == CmpOp.In) = false := by cases op <;> first | rfl | exact absurd rfl h
  have e2 : (op == CmpOp.NotIn) = false := by cases op <;> first | rfl | exact absurd rfl h2
  cases b <;> simp [behindInMarks, e1, e2]
theorem pe_cmpR {op : CmpOp} {r : R2} (ho : OpR X (compareOp op) r) (ha : PE X a ta) (hb : PE X b tb) (hm : behindInMarks op b = false) : PE X (.Compare a [op] [b] pos) (tOp r ta tb) := by
  intro pins s σ H Q I h
  exact wpAny_Compare1 (binT ha hb I h fun v u s2 x y H2 I2 rx ry q => ho pins s2 σ H2 x y v u Q I2 rx ry q) hm
def tTest (t : TE) : TT := fun σ H Q => t σ H fun x H' => ∃ k, x = .bl k ∧ Q k H'
theorem pt_cmpR {op : CmpOp} {r : R2} (ho : OpR X (compareOp op) r) (ha : PE X a ta) (hb : PE X b tb) (hm : behindInMarks op b = false) : PT X (.Compare a [op] [b] pos) (tTest (tOp r ta tb)) := by
  intro pins s σ H Q I h
  refine wpAny_isTrue_Compare1 (thn (ha pins s σ H _ I h) fun v s1 ⟨x, H1, I1, r1, q1⟩ => thn (hb pins s1 σ H1 _ I1 q1) fun u s2 ⟨y, H2, I2, r2, q2⟩ =>
    thn (ho pins s2 σ H2 x y v u _ I2 r1 r2 q2) fun c s3 ⟨z, H3, I3, r3, k, e, q3⟩ => ?_) hm
  subst e
  cases r3
  exact wpAny_truthy_bool ⟨H3, I3, q3⟩
theorem line63 : (sizeLine : Nat) < 2 ^ 63 := by rw [sizeLine_eq]; decide
theorem op_add_str : OpR X (binaryOp .Add) (fun x y H Q => ∃ i j, x = .str i ∧ y = .str j ∧ i.length + j.length ≤ sizeLine ∧ Q (.str (i ++ j)) H) := by
  intro pins s σ H x y v u Q I rx ry h
  obtain ⟨i, j, rfl, rfl, hz, q⟩ := h
  obtain ⟨t, rfl⟩ := rx
  obtain ⟨t', rfl⟩ := ry
  exact add_str (fun t' tk => ⟨.str (i ++ j), H, I.tok _, ⟨_, rfl⟩, q⟩) hz
theorem vals1 {x : V} {us : List Value} (r : Vals [x] us) : ∃ u, us = [u] ∧ RelV x u := by
  cases r with
  | cons r1 r2 => cases r2; exact ⟨_, rfl, r1⟩
theorem vals2 {x y : V} {us : List Value} (r : Vals [x, y] us) : ∃ u w', us = [u, w'] ∧ RelV x u ∧ RelV y w' := by
  cases r with
  | cons r1 r2 =>
    cases r2 with
    | cons r3 r4 => cases r4; exact ⟨_, _, rfl, r1, r3⟩
theorem call_max2 (hc : X.calm = true) : CallR X (.builtin "max") (fun xs H Q => ∃ i j, xs = [.int i, .int j] ∧ Q (.int (if j > i then j else i)) H) := by
  intro pins s σ H xs us Q I r h
  obtain ⟨i, j, rfl, q⟩ := h
  obtain ⟨u, w', rfl, ⟨t, rfl⟩, ⟨t', rfl⟩⟩ := vals2 r
  refine max_two_ints (I.ok.hd hc) fun h' tk k => ⟨_, H, I.kept k, ?_, q⟩
  by_cases hj : j > i
  · rw [if_pos hj, if_pos hj]; exact ⟨_, rfl⟩
  · rw [if_neg hj, if_neg hj]; exact ⟨_, rfl⟩
theorem call_min2 (hc : X.calm = true) : CallR X (.builtin "min") (fun xs H Q => ∃ i j, xs = [.int i, .int j] ∧ Q (.int (if j < i then j else i)) H) := by
  intro pins s σ H xs us Q I r h
  obtain ⟨i, j, rfl, q⟩ := h
  obtain ⟨u, w', rfl, ⟨t, rfl⟩, ⟨t', rfl⟩⟩ := vals2 r
  refine min_two_ints (I.ok.hd hc) fun h' tk k => ⟨_, H, I.kept k, ?_, q⟩
  by_cases hj : j < i
  · rw [if_pos hj, if_pos hj]; exact ⟨_, rfl⟩
  · rw [if_neg hj, if_neg hj]; exact ⟨_, rfl⟩
theorem call_int1 : CallR X (.type "int") (fun xs H Q => (∃ i, xs = [.int i] ∧ Q (.int i) H) ∨ ∃ k, xs = [.bl k] ∧ Q (.int (if k then 1 else 0)) H) := by
  intro pins s σ H xs us Q I r h
  rcases h with ⟨i, rfl, q⟩ | ⟨k, rfl, q⟩
  · obtain ⟨u, rfl, t, rfl⟩ := vals1 r
    exact call_int_int ⟨.int i, H, I, ⟨_, rfl⟩, q⟩
  · obtain ⟨u, rfl, r1⟩ := vals1 r
    cases r1
    exact call_int_bool ⟨.int (if k then 1 else 0), H, I.tok _, ⟨_, rfl⟩, q⟩
end
end L2

namespace L2
open PySem PySem.Spec PyProof.Rows

structure ObjM (h : Heap) (x dx C : Addr) (mA : Str → Option Value) : Prop where
  obj : h.get? x = some (PySem.W.instObj C dx)
  ns : h.Ns1 dx mA
  ne : dx ≠ x

section
variable {prog : Program} {w : World} {A : Around} {E : Value → Shared → Prop} {s : Shared} {K : PySem.W.Frag} {x dx C f : Addr} {mA : Str → Option Value} {name : Str} {v : Value}

end

theorem RelO.some_of {v : V} {o : Option Value} (r : RelO (some v) o) : ∃ u, o = some u ∧ RelV v u := by
  cases o with
  | none => exact (show False from r).elim
  | some u => exact ⟨u, rfl, r⟩

structure Cls (K : PySem.W.Frag) (C : Addr) : Prop where
  pg : PySem.W.plainGet K C Str.empty = true
  hd : PySem.W.hasDictIn K C = true
  po : PySem.W.plainOver K C = true
  sa : PySem.W.findIn K (.ref C) "__setattr__" = some (some (.builtin "object.__setattr__"))
theorem Cls.get {K : PySem.W.Frag} {C : Addr} (c : Cls K C) (f : Str) : PySem.W.plainGet K C f = true := c.pg
structure Con (K : PySem.W.Frag) (C : Addr) (f : Str) (v : V) (u : Value) : Prop where
  at_ : PySem.W.findIn K (.ref C) f = some (some u)
  rel : RelV v u
  get : PySem.W.specialIn K u "__get__" = some none
  cp : PySem.W.copiedNames.contains f = false
structure Meth (K : PySem.W.Frag) (C : Addr) (m : Str) (f : Addr) : Prop where
  at_ : PySem.W.findIn K (.ref C) m = some (some (.ref f))
  fn : PySem.W.isFn K (.ref f) = true
  kp : PySem.W.keepIn K (.ref f) = true

section
variable {X : Cx} {pins : List (Addr × Obj)} {σ : St} {H : Hp} {s : Shared} {a C dx : Addr} {fs : List (Str × V)} {f : Str} {v : V} {A : Around} {E : Value → Shared → Prop}

theorem Inv.made (I : Inv X pins σ H s) : Inv X pins σ (upd (upd H s.heap.objs.size (.own (s.heap.objs.size + 1))) (s.heap.objs.size + 1) (.ins C s.heap.objs.size []))
    { s with heap := (s.heap.push PySem.W.emptyDict).push (PySem.W.instObj C s.heap.objs.size) } := by
  have e1 : (s.heap.push PySem.W.emptyDict).get? s.heap.objs.size = some PySem.W.emptyDict := Heap.get?_push_size s.heap rfl
  have e2 : ((s.heap.push PySem.W.emptyDict).push (PySem.W.instObj C s.heap.objs.size)).get? (s.heap.objs.size + 1) = some (PySem.W.instObj C s.heap.objs.size) := by
    have := Heap.get?_push_size (s.heap.push PySem.W.emptyDict) (o := PySem.W.instObj C s.heap.objs.size) rfl
    rwa [Heap.size_push] at this
  have e3 : (s.heap.push PySem.W.emptyDict).Ns s.heap.objs.size (fun _ => none) := ⟨PySem.W.emptyDict, #[], _, e1, rfl, (fun e he => absurd he (by simp)), fun _ => rfl⟩
  have I1 := I.laid (a := s.heap.objs.size) (o := .own (s.heap.objs.size + 1)) (h' := s.heap.push PySem.W.emptyDict) (t' := s.toks) (fun b u q => Heap.get?_push_of_some _ q) (Nat.le_refl _) ⟨_, e1⟩
  refine I1.laid (a := s.heap.objs.size + 1) (o := .ins C s.heap.objs.size []) (t' := s.toks) (fun b u q => Heap.get?_push_of_some _ q) (Nat.le_of_eq (Heap.size_push _ _)) ?_
  have ne : s.heap.objs.size ≠ s.heap.objs.size + 1 := Nat.ne_of_lt (Nat.lt_succ_self _)
  refine ⟨by rw [upd_ne ne, upd_same], Nat.zero_le _, ne, e2, fun _ => none, (Heap.Ns1.of_empty e3).at fun o q => Heap.get?_push_of_some _ q, fun _ => True.intro, fun y hy => absurd rfl hy⟩

end


section
variable {X : Cx} {pins : List (Addr × Obj)} {σ : St} {H : Hp} {s : Shared} {A : Around} {E : Value → Shared → Prop} {Q : Value → Shared → Prop} {c : Value} {b : Bool}
inductive TyOf (K : PySem.W.Frag) (H : Hp) : V → Value → Prop where
  | non : TyOf K H .non (.type "NoneType")
  | bl (x : Bool) : TyOf K H (.bl x) (.type "bool")
  | int (i : Int) : TyOf K H (.int i) (.type "int")
  | str (x : Str) : TyOf K H (.str x) (.type "str")
  | flt (x : UInt64) : TyOf K H (.flt x) (.type "float")
  | lst {a : Addr} {xs : List V} (e : H a = some (.lst xs)) : TyOf K H (.ref a) (.type "list")
  | frz {a : Addr} {o : Obj} {xs : List V} (e : H a = some (.frz o (.lst xs))) : TyOf K H (.ref a) (.type "list")
  | tup {a : Addr} {xs : List V} (e : H a = some (.tup xs)) : TyOf K H (.ref a) (.type "tuple")
  | dK {a : Addr} {kvs : List (Key × V)} (e : H a = some (.dK kvs)) : TyOf K H (.ref a) (.type "dict")
  | dT {a : Addr} {kvs : List (List Key × V)} (e : H a = some (.dT kvs)) : TyOf K H (.ref a) (.type "dict")
  | ins {a C dx : Addr} {fs : List (Str × V)} (e : H a = some (.ins C dx fs)) (cl : Cls K C) (ha : PySem.W.findIn K (.ref C) "__class__" = some (some (.builtin "object.__class__")))
      (hn : PySem.W.specialIn K (.builtin "object.__class__") "__get__" = some (some (.builtin "getset_descriptor.__get__"))) (htk : PySem.W.takesIn K (.builtin "object.__class__") = some true)
      (hm : PySem.W.mroIn K C (.type "object") = some true) : TyOf K H (.ref a) (.ref C)
end
end L2

namespace L2
open PySem PySem.Spec PyProof.Rows

structure Room (k : Nat) (A : Around) : Prop where
  hd : A.handled = none
  dp : A.depth + 3 * k + 5 < recursionLimit
  un : A.units + 16 * k + 200 < cLine
theorem Room.mono {j k : Nat} {A : Around} (r : Room k A) (h : j ≤ k) : Room j A := ⟨r.hd, by have := r.dp; omega, by have := r.un; omega⟩
theorem Room.deeper {k : Nat} {A : Around} (r : Room (k + 1) A) (env : Env) : Room k (A.deeper env) :=
  ⟨r.hd, by have := r.dp; show A.depth + 1 + 3 * k + 5 < _; omega, by have := r.un; show A.units + 3 + 16 * k + 200 < _; omega⟩
theorem Room.in1 {k : Nat} {A : Around} (r : Room (k + 1) A) : Room k A.in1 :=
  ⟨r.hd, by have := r.dp; show A.depth + 3 * k + 5 < _; omega, by have := r.un; show A.units + 1 + 16 * k + 200 < _; omega⟩
theorem Room.depth {k : Nat} {A : Around} (r : Room k A) : A.depth < recursionLimit := by have := r.dp; omega
theorem Room.units {k : Nat} {A : Around} (r : Room k A) : A.units + 64 < cLine := by have := r.un; omega
def tNil : TA := fun _ H Q => Q [] H
def tCons (ta : TE) (tr : TA) : TA := fun σ H Q => ta σ H fun x H1 => tr σ H1 fun xs H2 => Q (x :: xs) H2
section
variable {X : Cx} {e : Expr} {es : List Expr} {te : TE} {t : TA} {pos : Pos}
theorem pa_nil : PA X [] tNil := fun _ _ _ _ H Q I h => Calls.spliced_nil ⟨[], H, I, .nil, h⟩
theorem pa_cons (ha : PE X e te) (hr : PA X es t) (hs : starEach (e :: es) X.env = (false, eval e X.env) :: starEach es X.env := by rfl) : PA X (e :: es) (tCons te t) := by
  intro pos pins s σ H Q I h
  rw [hs]
  show wpAny _ _ (spliced ((false, eval e X.env) :: backTo pos (starEach es X.env))) _ _ s
  refine Calls.spliced_cons (thn (ha pins s σ H _ I h) fun u s1 ⟨x, H1, I1, r1, q1⟩ => ?_)
  exact thn (hr pos pins s1 σ H1 _ I1 q1) fun us s2 ⟨xs, H2, I2, r2, q2⟩ => ⟨x :: xs, H2, I2, .cons r1 r2, q2⟩

def tTup (t : TA) : TE := fun σ H Q => t σ H fun xs H1 => xs.length ≤ sizeLine ∧ ∀ p, H1 p = none → Q (.ref p) (upd H1 p (.tup xs))
def tLst (t : TA) : TE := fun σ H Q => t σ H fun xs H1 => xs.length ≤ sizeLine ∧ ∀ p, H1 p = none → Q (.ref p) (upd H1 p (.lst xs))
theorem pe_tup {x1} (h : PA X es t) : PE X (.Tuple es x1 pos) (tTup t) := by
  intro pins s σ H Q I hq
  refine wpAny_Tuple_spliced (thn (h pos pins s σ H _ I hq) fun us s1 ⟨xs, H1, I1, r, z, q⟩ => ⟨by rw [← r.length]; exact z, ?_⟩)
  have hf : H1 s1.heap.objs.size = none := I1.hok.fresh (Nat.le_refl _)
  refine ⟨.ref s1.heap.objs.size, upd H1 s1.heap.objs.size (.tup xs), I1.laid (t' := s1.toks) (fun b u e => Heap.get?_push_of_some _ e) (Nat.le_refl _) ?_, rfl, q _ hf⟩
  exact ⟨z, us, r, ⟨_, Heap.get?_push_size _ rfl, rfl, _, rfl⟩⟩
theorem pe_lst (h : PA X es t) : PE X (.List es pos) (tLst t) := by
  intro pins s σ H Q I hq
  refine wpAny_List_spliced (thn (h pos pins s σ H _ I hq) fun us s1 ⟨xs, H1, I1, r, z, q⟩ => ⟨by rw [← r.length]; exact z, ?_⟩)
  have hf : H1 s1.heap.objs.size = none := I1.hok.fresh (Nat.le_refl _)
  refine ⟨.ref s1.heap.objs.size, upd H1 s1.heap.objs.size (.lst xs), I1.laid (t' := s1.toks) (fun b u e => Heap.get?_push_of_some _ e) (Nat.le_refl _) ?_, rfl, q _ hf⟩
  exact ⟨z, us, 0, r, Heap.get?_push_size _ rfl⟩
end

abbrev Sp := List V → Hp → VK → XK → Prop
abbrev CXT := List Env → Hp → Shared → XK → Value → Shared → Prop

structure Env0 (P : Program) (w : World) (K : PySem.W.Frag) (mg : Str → Option Value) (base : Heap) (A : Around) (outer : List Env) (s : Shared) (H : Hp) : Prop where
  frames : A.frames = some outer
  mod : Mod K mg base
  bs : ∀ b o, base.get? b = some o → s.heap.get? b = some o ∧ H b = none
  bsz : base.objs.size ≤ s.heap.objs.size
  funs : s.heap.FunFrames base outer
  frf : ∀ b ∈ frs outer, H b = none
  hok : HOk P w H s.heap
  bare : AllBare s.gens
def CE (outer : List Env) (P : Program) (w : World) (H : Hp) (s : Shared) (Q : VK) (u : Value) (s' : Shared) : Prop :=
  ∃ v H', s'.os = s.os ∧ AllBare s'.gens ∧ Un (frs outer) [] H H' s.heap s'.heap ∧ HOk P w H' s'.heap ∧ RelV v u ∧ Q v H'
def CR (CX : CXT) (outer : List Env) (P : Program) (w : World) (H : Hp) (s : Shared) (Q : VK) (E : XK) (r : Result) (s' : Shared) : Prop :=
  match r with
  | .ok (.ret u) => CE outer P w H s Q u s'
  | .ok _ => False
  | .error e => CX outer H s E e s'
structure FnOk (P : Program) (w : World) (K : PySem.W.Frag) (mg : Str → Option Value) (base : Heap) (CX : CXT) (k : Nat) (f : Addr) (fd : FuncData) (ps : List Str) (sp : Sp) : Prop where
  len : ∀ vs H Q E, sp vs H Q E → vs.length = ps.length
  run : ∀ (A : Around) (outer : List Env) (s : Shared) (H : Hp) (args : Args) (us : List Value) (vs : List V) (Q : VK) (E : XK), Room k A → Env0 P w K mg base A outer s H → BindsTo s fd args (ps.zip us) → Vals vs us → sp vs H Q E →
    codeAny (model P w) A (.call (.ref f) args) (CR CX outer P w H s Q E) s
theorem FnOk.mono {P : Program} {w : World} {K : PySem.W.Frag} {mg : Str → Option Value} {base : Heap} {CX : CXT} {j k : Nat} {f : Addr} {fd : FuncData} {ps : List Str} {sp : Sp} (F : FnOk P w K mg base CX j f fd ps sp) (h : j ≤ k) :
    FnOk P w K mg base CX k f fd ps sp := ⟨F.len, fun A outer s H args us vs Q E hr => F.run A outer s H args us vs Q E (hr.mono h)⟩
theorem FnOk.imp {P : Program} {w : World} {K : PySem.W.Frag} {mg : Str → Option Value} {base : Heap} {CX : CXT} {k : Nat} {f : Addr} {fd : FuncData} {ps : List Str} {sp sp' : Sp} (F : FnOk P w K mg base CX k f fd ps sp)
    (h : ∀ vs H Q E, sp' vs H Q E → sp vs H Q E) : FnOk P w K mg base CX k f fd ps sp' :=
  ⟨fun vs H Q E q => F.len vs H Q E (h _ _ _ _ q), fun A outer s H args us vs Q E hr he hb hv hs => F.run A outer s H args us vs Q E hr he hb hv (h _ _ _ _ hs)⟩

theorem Env0.in1 {P : Program} {w : World} {K : PySem.W.Frag} {mg : Str → Option Value} {base : Heap} {A : Around} {outer : List Env} {s : Shared} {H : Hp} (e : Env0 P w K mg base A outer s H) :
    Env0 P w K mg base A.in1 outer s H := ⟨e.frames, e.mod, e.bs, e.bsz, e.funs, e.frf, e.hok, e.bare⟩

section
variable {X : Cx} {pins : List (Addr × Obj)} {σ : St} {H : Hp} {s s' : Shared}
theorem Inv.env0 (I : Inv X pins σ H s) : Env0 X.prog X.w X.K X.mg X.base X.A X.stack s H :=
  ⟨I.ok.frames, I.ok.mod, I.bs, Nat.le_trans I.ok.bsz I.sz, I.stack, I.stkFree, I.hok, I.bare⟩
theorem Inv.after {Q : VK} {u : Value} (I : Inv X pins σ H s) (h : CE X.stack X.prog X.w H s Q u s') : EP X pins σ Q u s' := by
  obtain ⟨v, H', os, bare, un, hok, r, q⟩ := h
  obtain ⟨hh, g, d, t, os'⟩ := s'
  obtain rfl : os' = s.os := os
  exact ⟨v, H', I.call (h' := hh) (g' := g) (d' := d) (t' := t) (ch := []) un hok bare (fun b z => absurd z (by simp)), r, q⟩
end

def tCall (sp : Sp) (dvs : List V) (E : XK) (t : TA) : TE := fun σ H Q => t σ H fun vs H1 => sp (vs ++ dvs) H1 Q E
def Binds (K : PySem.W.Frag) (fd : FuncData) (ps : List Str) (ds : List Value) : Prop :=
  ∀ (s : Shared) (us : List Value), K.In s.heap → (us ++ ds).length = ps.length → BindsTo s fd ⟨us, []⟩ (ps.zip (us ++ ds))
theorem Binds.all {K : PySem.W.Frag} {fd : FuncData} {ps : List Str} (h : ∀ us : List Value, us.length = ps.length → bindArgs fd ⟨us, []⟩ = pure (ps.zip us)) : Binds K fd ps [] := fun s us _ hl => by
  rw [List.append_nil] at hl ⊢
  exact .of_eq (h us hl)

def Passes (CX : CXT) (X : Cx) (E : XK) : Prop := ∀ (pins : List (Addr × Obj)) (σ : St) (H : Hp) (s : Shared) (e : Value) (s' : Shared), Inv X pins σ H s → CX X.stack H s E e s' → X.xe e s'

section
variable {X : Cx} {CX : CXT} {k : Nat} {f C : Addr} {fd : FuncData} {ps : List Str} {sp : Sp} {dvs : List V} {ds : List Value} {E : XK} {x m : Str} {p pos apos : Pos} {e o : Expr} {es : List Expr} {ta : TE} {t : TA}

theorem run_fn {pins : List (Addr × Obj)} {σ : St} {H : Hp} {s : Shared} {Q : VK} {us : List Value} {vs : List V} (F : FnOk X.prog X.w X.K X.mg X.base CX k f fd ps sp) (hr : Room k X.A) (hb : Binds X.K fd ps ds) (hd : Vals dvs ds) (hx : Passes CX X E)
    (I : Inv X pins σ H s) (r : Vals vs us) (h : sp (vs ++ dvs) H Q E) : wpAny (model X.prog X.w) X.A (call (.ref f) us) (EP X pins σ Q) X.xe s := by
  have r2 : Vals (vs ++ dvs) (us ++ ds) := r.append hd
  have hl : (us ++ ds).length = ps.length := by rw [← r2.length]; exact F.len _ _ _ _ h
  refine wpAny_call (codeAny_mono (F.run X.A X.stack s H ⟨us, []⟩ (us ++ ds) (vs ++ dvs) Q E hr I.env0 (hb s us I.kIn hl) r2 h) fun r s' hq => ?_)
  cases r with
  | error e => exact hx pins σ H s e s' I hq
  | ok fl =>
    cases fl with
    | ret u => exact I.after hq
    | next => exact False.elim hq
    | brk => exact False.elim hq
    | cont => exact False.elim hq

theorem pe_call (F : FnOk X.prog X.w X.K X.mg X.base CX k f fd ps sp) (hr : Room k X.A) (hg : Gl X x) (hm : X.mg x = some (.ref f)) (hk : PySem.W.keepIn X.K (.ref f) = true) (hb : Binds X.K fd ps ds) (hd : Vals dvs ds) (hx : Passes CX X E)
    (ha : PA X (e :: es) t) (hdb : (x == ("__debug__" : Str)) = false := by decide) (he : starEach (e :: es) X.env = (false, eval e X.env) :: starEach es X.env := by rfl) (hpl : (backTo pos (starEach es X.env)).any (·.1) = false := by rfl) :
    PE X (.Call (.Name x p) (e :: es) [] pos) (tCall sp dvs E t) := by
  intro pins s σ H Q I h
  refine wpAny_Call_Name_kw (ld_glob I hg hm ?_ hdb)
  refine PySem.W.callWith_K (h₀ := X.base) I.ok.mod.kin hk (thn (ha pos pins s σ H _ I h) fun us s1 ⟨vs, H1, I1, r, q⟩ => ⟨I1.kIn, ?_⟩) he hpl
  exact run_fn F hr hb hd hx I1 r q
structure Mk (K : PySem.W.Frag) (C f : Addr) : Prop where
  makes : PySem.W.makesIn K C = true
  init : PySem.W.findIn K (.ref C) "__init__" = some (some (.ref f))
  fn : PySem.W.isFn K (.ref f) = true
  kp : PySem.W.keepIn K (.ref C) = true

end

section
variable {X : Cx} {CX : CXT} {k : Nat} {f C : Addr} {fd : FuncData} {ps ks : List Str} {sp : Sp} {E : XK} {x m : Str} {p pos apos kpos : Pos} {e o : Expr} {es : List Expr} {kws : List Keyword} {te ta : TE} {t tk : TA} {nm : Option Str}
structure KBinds (K : PySem.W.Frag) (fd : FuncData) (ps ks : List Str) (g : List Value → List Value → List Value) (gV : List V → List V → List V) : Prop where
  to : ∀ (s : Shared) (us ws : List Value), K.In s.heap → (g us ws).length = ps.length → BindsTo s fd ⟨us, ks.zip ws⟩ (ps.zip (g us ws))
  rel : ∀ {vs : List V} {us : List Value} {zs : List V} {ws : List Value}, Vals vs us → Vals zs ws → Vals (gV vs zs) (g us ws)
variable {g : List Value → List Value → List Value} {gV : List V → List V → List V}
end

structure FnScope (N P : List Str) (sc : Scope) : Prop where
  kind : sc.kind = .function
  co : sc.isCoroutine = false
  gen : sc.isGenerator = false
  nd : N.Nodup
  pre : N.take P.length = P
  par : ∀ x ∈ P, sc.names.lookup x = some .local ∨ sc.names.lookup x = some .cell
  nofree : ∀ y ∈ sc.names, y.2 ≠ .free

theorem bindL_out {kindOf : Str → Option NameKind} {x : Str} : ∀ {binds : List (Str × Value)} {m : Str → Option Value}, (∀ v, (x, v) ∉ binds) → bindL kindOf binds m x = m x
  | [], _, _ => rfl
  | (n, v) :: r, m, h => by
    unfold bindL
    rw [bindL_out fun w hw => h w (List.mem_cons_of_mem _ hw)]
    split
    · have : x ≠ n := by rintro rfl; exact h v List.mem_cons_self
      simp [this]
    · rfl
theorem bindC_out {kindOf : Str → Option NameKind} {x : Str} : ∀ {binds : List (Str × Value)} {m : Str → Option Value}, (∀ v, (x, v) ∉ binds) → bindC kindOf binds m x = m x
  | [], _, _ => rfl
  | (n, v) :: r, m, h => by
    unfold bindC
    rw [bindC_out fun w hw => h w (List.mem_cons_of_mem _ hw)]
    split
    · rfl
    · have : x ≠ n := by rintro rfl; exact h v List.mem_cons_self
      simp [this]
theorem bindL_get {kindOf : Str → Option NameKind} {x : Str} {v : Value} : ∀ {P : List Str} {vs : List Value} {i : Nat} {m : Str → Option Value}, P.Nodup → P[i]? = some x → vs[i]? = some v → kindOf x = some .local →
    bindL kindOf (P.zip vs) m x = some v
  | [], _, _, _, _, h, _, _ => by simp at h
  | _ :: _, [], _, _, _, _, h, _ => by simp at h
  | p :: P, w :: vs, 0, m, nd, h1, h2, hk => by
    simp at h1 h2; subst h1; subst h2
    show bindL kindOf ((p, w) :: P.zip vs) m p = _
    unfold bindL
    rw [bindL_out fun v hv => (List.nodup_cons.mp nd).1 (List.of_mem_zip hv).1, if_pos hk]
    simp
  | p :: P, w :: vs, i + 1, m, nd, h1, h2, hk => by
    show bindL kindOf ((p, w) :: P.zip vs) m x = _
    unfold bindL
    exact bindL_get (i := i) (List.nodup_cons.mp nd).2 (by simpa using h1) (by simpa using h2) hk
theorem bindC_get {kindOf : Str → Option NameKind} {x : Str} {v : Value} : ∀ {P : List Str} {vs : List Value} {i : Nat} {m : Str → Option Value}, P.Nodup → P[i]? = some x → vs[i]? = some v → kindOf x ≠ some .local →
    bindC kindOf (P.zip vs) m x = some v
  | [], _, _, _, _, h, _, _ => by simp at h
  | _ :: _, [], _, _, _, _, h, _ => by simp at h
  | p :: P, w :: vs, 0, m, nd, h1, h2, hk => by
    simp at h1 h2; subst h1; subst h2
    show bindC kindOf ((p, w) :: P.zip vs) m p = _
    unfold bindC
    rw [bindC_out fun v hv => (List.nodup_cons.mp nd).1 (List.of_mem_zip hv).1, if_neg hk]
    simp
  | p :: P, w :: vs, i + 1, m, nd, h1, h2, hk => by
    show bindC kindOf ((p, w) :: P.zip vs) m x = _
    unfold bindC
    exact bindC_get (i := i) (List.nodup_cons.mp nd).2 (by simpa using h1) (by simpa using h2) hk

def start (N : List Str) (vs : List V) : St := vs.map some ++ List.replicate (N.length - vs.length) none

def cxOf (CX : CXT) (P : Program) (w : World) (K : PySem.W.Frag) (mg : Str → Option Value) (base : Heap) (N : List Str) (qual : Str) (scope : Scope) (f : Addr) (cd : Value) (A : Around) (outer : List Env) (s : Shared) (H : Hp) (E : XK) : Cx where
  prog := P
  w := w
  K := K
  mg := mg
  base := base
  A := A.deeper (envOfC qual scope s.heap.objs.size f cd)
  N := N
  s₀ := s
  H₀ := H
  env := envOfC qual scope s.heap.objs.size f cd
  outer := outer
  stack := envOfC qual scope s.heap.objs.size f cd :: outer
  ex := []
  calm := true
  fn := fun _ => true
  pn := []
  xe := fun e s' => wpAny (model P w) (A.deeper (envOfC qual scope s.heap.objs.size f cd)) (leaving (envOfC qual scope s.heap.objs.size f cd) e) (fun _ s'' => CX outer H s E e s'') (fun e' s'' => CX outer H s E e' s'') s'

theorem cell_has {sc : Scope} {n : Nat} {x : Str} (h : sc.names.lookup x = some .cell) : ∃ c, (cellsFrom n sc.names []).lookup x = some c := by
  have q := PySem.W.cellsFrom_some sc.names n [] (.inl h)
  exact Option.isSome_iff_exists.mp q

theorem inv_start {CX : CXT} {P : Program} {w : World} {K : PySem.W.Frag} {mg : Str → Option Value} {base : Heap} {N ps : List Str} {qual : Str} {scope : Scope} {f : Addr} {cd : Value} {A : Around} {outer : List Env} {s s1 : Shared} {H : Hp} {E : XK} {us : List Value} {vs : List V}
    (S : FnScope N ps scope) (hd : A.handled = none) (e0 : Env0 P w K mg base A outer s H) (hl : vs.length = ps.length) (r : Vals vs us)
    (x : InCallC s s.heap.objs.size (bindL (envOfC qual scope s.heap.objs.size f cd).kindOf (ps.zip us) fun _ => none) (cellsFrom (s.heap.objs.size + 1) scope.names []) (bindC (envOfC qual scope s.heap.objs.size f cd).kindOf (ps.zip us) fun _ => none) s1) :
    Inv (cxOf CX P w K mg base N qual scope f cd A outer s H E) [] (start N vs) H s1 := by
  have hpl : ps.length ≤ N.length := by have := congrArg List.length S.pre; rw [List.length_take] at this; omega
  obtain ⟨h1, tk, rfl, hk⟩ := x.done
  have noA : ∀ b : Addr, b ∉ (cxOf CX P w K mg base N qual scope f cd A outer s H E).ex := fun b z => absurd (show b ∈ ([] : List Addr) from z) (by simp)
  refine ⟨⟨e0.mod, S.kind, rfl, rfl, Nat.le_refl _, fun y z c h1 h2 => ?_, fun y hy => ?_, fun y c _ h => ?_, fun _ => hd, Around.frames_deeper e0.frames, .inr ⟨rfl, rfl⟩, fun b z => absurd z (noA b), e0.bs, e0.bsz, fun b _ _ => noA b, fun b z => absurd z (noA b), e0.funs, e0.frf⟩,
    rfl, e0.bare, Un.kept hk, ⟨_, x.toInCall.ns, fun i y v h1 h2 h3 => ?_⟩, fun y c h => ⟨_, x.cell y c h⟩, e0.hok.fresh (Nat.le_refl _), fun y c h => ?_, fun p hp => absurd (show p ∈ ([] : List (Addr × Obj)) from hp) (by simp), e0.hok.kept hk, ?_⟩
  · exact name_of_addr x.apart (PySem.mem_of_lookup h1) (PySem.mem_of_lookup h2)
  · have hy : scope.names.lookup y = some .cell ∨ scope.names.lookup y = some .free := hy
    rcases hy with hy | hy
    · exact cell_has hy
    · exact absurd rfl (S.nofree _ (PySem.mem_of_lookup hy))
  · exact Nat.le_of_lt (x.above y c (PySem.mem_of_lookup h))
  · have hi : i < vs.length := by
      unfold start at h2
      by_cases hi : i < vs.length
      · exact hi
      · rw [List.getElem?_append_right (by simpa using hi)] at h2
        rw [List.getElem?_replicate] at h2
        split at h2 <;> cases h2
    have ha : vs[i]? = some v := by
      unfold start at h2
      rw [List.getElem?_append_left (by simpa using hi), List.getElem?_map] at h2
      cases e : vs[i]? with
      | none => rw [e] at h2; cases h2
      | some a => rw [e] at h2; cases h2; rfl
    obtain ⟨u, hu, rv⟩ := r.get ha
    have hp : ps[i]? = some y := by
      rw [← S.pre, List.getElem?_take_of_lt (by omega)]; exact h1
    have ndP : ps.Nodup := by rw [← S.pre]; exact S.nd.sublist (List.take_sublist _ _)
    refine ⟨u, rv, ?_⟩
    rcases S.par y (List.mem_of_getElem? hp) with k | k
    · exact .inl ⟨k, bindL_get ndP hp hu k⟩
    · obtain ⟨c, e⟩ := cell_has (n := s.heap.objs.size + 1) k
      refine .inr ⟨.inl k, c, e, ?_⟩
      have q := x.cell y c e
      rw [bindC_get ndP hp hu (by show scope.names.lookup y ≠ _; rw [k]; decide)] at q
      exact q
  · exact e0.hok.fresh (Nat.le_of_lt (x.above y c (PySem.mem_of_lookup h)))
  · unfold start
    show _ = N.length
    rw [List.length_append, List.length_map, List.length_replicate]
    omega

theorem fn_of {CX : CXT} {P : Program} {w : World} {K : PySem.W.Frag} {mg : Str → Option Value} {base : Heap} {k : Nat} {f : Addr} {name qual : Str} {params : Arguments} {body : List Stmt} {scope : Scope} {dV kV doc pm cdv ct oc : Value} {an od : Option Addr}
    {osl : Array (Option Value)} {N ps : List Str} {sp : Sp} (lk : K.lookup f = some ⟨oc, od, .func (PySem.W.fnOf name qual params body scope dV kV doc pm an cdv ct), osl⟩) (hcd : PySem.W.codeIn K cdv qual = true) (S : FnScope N ps scope)
    (len : ∀ vs H Q E, sp vs H Q E → vs.length = ps.length)
    (hbody : ∀ (A : Around) (outer : List Env) (s : Shared) (H : Hp) (vs : List V) (Q : VK) (E : XK), Room k (A.deeper (envOfC qual scope s.heap.objs.size f cdv)) → sp vs H Q E →
      ∃ t, PSs (cxOf CX P w K mg base N qual scope f cdv A outer s H E) body t ∧ t { nx := fun _ H' => Q .non H', rt := Q } (start N vs) H) :
    FnOk P w K mg base CX (k + 1) f (PySem.W.fnOf name qual params body scope dV kV doc pm an cdv ct) ps sp := by
  refine ⟨len, fun A outer s H args us vs Q E hr e0 hb r hsp => ?_⟩
  have hl := len _ _ _ _ hsp
  have KX : K.In s.heap := e0.mod.kin.keeps fun b o e => (e0.bs b o e).1
  have lim : s.heap.NoLimit := e0.mod.nolimit.keeps fun b o e => (e0.bs b o e).1
  have hkind : ∀ y ∈ ps.zip us, scope.names.lookup y.1 = some .local ∨ (scope.names.lookup y.1 = some .cell ∧ ((cellsFrom (s.heap.objs.size + 1) scope.names []).lookup y.1).isSome = true) := fun ⟨n, v⟩ hy => by
    rcases S.par n (List.of_mem_zip hy).1 with q | q
    · exact .inl q
    · exact .inr ⟨q, PySem.W.cellsFrom_some _ _ _ (.inl q)⟩
  refine codeAny_call_function hr.depth (KX _ _ lk) rfl S.co S.gen rfl (PySem.W.codeRec_of KX hcd) (hb _ _ _ _ ?_)
  refine wpAny_newFunctionEnv_cells S.kind hkind fun env he s1 x => ?_
  subst he
  refine ⟨lim.keeps x.toInCall.keep, codeAny_func ?_⟩
  obtain ⟨t, ht, hq⟩ := hbody A outer s H vs Q E (hr.deeper _) hsp
  have I : Inv (cxOf CX P w K mg base N qual scope f cdv A outer s H E) [] (start N vs) H s1 := inv_start S hr.hd e0 hl r x
  refine wpAny_mono (ht [] s1 (start N vs) H _ I hq) (fun fl s' hs => ?_) fun e s' hs => hs
  have fin : ∀ {σ' : St} {H' : Hp} {v : V} {u : Value}, Inv (cxOf CX P w K mg base N qual scope f cdv A outer s H E) [] σ' H' s' → RelV v u → Q v H' → CE outer P w H s Q u s' :=
    fun {σ' H' v u} J rv q => ⟨v, H', J.os, J.bare, J.base, J.hok, rv, q⟩
  cases fl with
  | ret u =>
    obtain ⟨v, σ', H', J, rv, q⟩ := hs
    exact fin J rv q
  | next =>
    obtain ⟨σ', H', J, q⟩ := hs
    exact fin (v := V.non) (u := Value.none) J rfl q
  | brk =>
    obtain ⟨_, _, _, q⟩ := hs
    exact False.elim q
  | cont =>
    obtain ⟨_, _, _, q⟩ := hs
    exact False.elim q
end L2

namespace L2
open PySem PySem.Spec PyProof.Rows
section
variable {X : Cx} {x : Str} {p pos : Pos} {e : Expr} {es : List Expr} {t : TA} {id T : String} {r : List V → Hp → VK → Prop}

def tCB (r : List V → Hp → VK → Prop) (t : TA) : TE := fun σ H Q => t σ H fun vs H1 => r vs H1 Q
theorem pe_callB (hc : CallR X (.builtin id) r) (hg : Gl X x) (hm : X.mg x = none) (hv : bootBuiltins x = some (.builtin id)) (ha : PA X (e :: es) t) (hn : x ≠ "__name__" := by decide) (hdb : (x == ("__debug__" : Str)) = false := by decide)
    (he : starEach (e :: es) X.env = (false, eval e X.env) :: starEach es X.env := by rfl) (hpl : (backTo pos (starEach es X.env)).any (·.1) = false := by rfl) : PE X (.Call (.Name x p) (e :: es) [] pos) (tCB r t) := by
  intro pins s σ H Q I h
  refine wpAny_Call_Name_kw (ld_blt I hg hm hv ?_ hn hdb)
  exact PyProof.Rows.callWith_builtin1 (thn (ha pos pins s σ H _ I h) fun us s1 ⟨vs, H1, I1, r1, q1⟩ => hc pins s1 σ H1 vs us Q I1 r1 q1) he hpl
theorem pe_callTy (hc : CallR X (.type T) r) (hg : Gl X x) (hm : X.mg x = none) (hv : bootBuiltins x = some (.type T)) (ha : PA X (e :: es) t) (hn : x ≠ "__name__" := by decide) (hdb : (x == ("__debug__" : Str)) = false := by decide)
    (he : starEach (e :: es) X.env = (false, eval e X.env) :: starEach es X.env := by rfl) (hpl : (backTo pos (starEach es X.env)).any (·.1) = false := by rfl) : PE X (.Call (.Name x p) (e :: es) [] pos) (tCB r t) := by
  intro pins s σ H Q I h
  refine wpAny_Call_Name_kw (ld_blt I hg hm hv ?_ hn hdb)
  exact PyProof.Rows.callWith_type1 (thn (ha pos pins s σ H _ I h) fun us s1 ⟨vs, H1, I1, r1, q1⟩ => hc pins s1 σ H1 vs us Q I1 r1 q1) he hpl
end
end L2

namespace HT
open PySem PyProof.Rows

section
open PySem.SeqAt
open PySem.AutoSeq1 (wpAny_loadPart')
open PySem.MeetsSeq PySem.MeetsSeq2 PySem.MeetsSeq3

end

section
variable {prog : Program} {w : World} {A : Around} {E : Value → Shared → Prop} {s : Shared}

def sIx (n d : Nat) : Option Int → Nat
  | none => d
  | some v => if v < 0 then (v + (n : Int)).toNat else min v.toNat n
end
end HT

namespace L2
open PySem PySem.Spec PyProof.Rows

abbrev TO := St → Hp → (Option Int → Hp → Prop) → Prop
def PO (X : Cx) (e : Option Expr) (t : TO) : Prop :=
  ∀ (pins : List (Addr × Obj)) (s : Shared) (σ : St) (H : Hp) (Q : Option Int → Hp → Prop), Inv X pins σ H s → t σ H Q →
    wpAny (model X.prog X.w) X.A (evalPart e X.env) (fun u s' => ∃ o H', Inv X pins σ H' s' ∧ IsPart u o ∧ Q o H') X.xe s
def tPart (t : TE) : TO := fun σ H Q => t σ H fun x H1 => ∃ i, x = .int i ∧ Q (some i) H1

section
variable {X : Cx} {e : Expr} {te : TE} {lo hi : Option Expr} {tl th : TO} {pos p2 : Pos}

theorem po_some (h : PE X e te) : PO X (some e) (tPart te) := by
  intro pins s σ H Q I hw
  rw [evalPart_some]
  refine thn (h pins s σ H _ I hw) fun u s1 ⟨x, H1, I1, r1, q1⟩ => ?_
  obtain ⟨i, rfl, q⟩ := q1
  obtain ⟨t, rfl⟩ := r1
  exact ⟨some i, H1, I1, .int i t, q⟩

def SlR (X : Cx) (r : V → Option Int → Option Int → Hp → VK → Prop) : Prop :=
  ∀ (pins : List (Addr × Obj)) (s : Shared) (σ : St) (H : Hp) (x : V) (v vl vu : Value) (lo hi : Option Int) (sl : Addr) (Q : VK), Inv X pins σ H s → RelV x v → s.heap.IsSliceOf sl vl vu .none → IsPart vl lo → IsPart vu hi → r x lo hi H Q →
    ∃ T id, typeLookup (.type T) "__getitem__" = pure (some (.builtin id)) ∧ s.TypeIs v T ∧ wpAny (model X.prog X.w) X.A (getItem v (.ref sl)) (EP X pins σ Q) X.xe s
theorem SlR.or {r r' : V → Option Int → Option Int → Hp → VK → Prop} (h : SlR X r) (h' : SlR X r') : SlR X (fun x lo hi H Q => r x lo hi H Q ∨ r' x lo hi H Q) := by
  intro pins s σ H x v vl vu lo hi sl Q I rx hs pl pu q
  rcases q with q | q
  · exact h pins s σ H x v vl vu lo hi sl Q I rx hs pl pu q
  · exact h' pins s σ H x v vl vu lo hi sl Q I rx hs pl pu q
def tSl (r : V → Option Int → Option Int → Hp → VK → Prop) (te : TE) (tl th : TO) : TE := fun σ H Q => te σ H fun x H1 => tl σ H1 fun l H2 => th σ H2 fun u H3 => r x l u H3 Q
theorem pe_slice {r : V → Option Int → Option Int → Hp → VK → Prop} (hr : SlR X r) (he : PE X e te) (hl : PO X lo tl) (hu : PO X hi th) : PE X (.Subscript e (.Slice lo hi none p2) pos) (tSl r te tl th) := by
  intro pins s σ H Q I h
  refine Subscript_ (thn (he pins s σ H _ I h) fun v s1 ⟨x, H1, I1, r1, q1⟩ => ?_)
  refine wpAny_Slice (thn (hl pins s1 σ H1 _ I1 q1) fun vl s2 ⟨l, H2, I2, pl, q2⟩ => thn (hu pins s2 σ H2 _ I2 q2) fun vu s3 ⟨u, H3, I3, pu, q3⟩ => ?_)
  rw [evalPart_none]
  refine wpAny_pure ?_
  have I4 : Inv X pins σ H3 { s3 with heap := s3.heap.push { cls := .type "slice", data := .fields #[vl, vu, .none] } } := I3.kept (t' := s3.toks) fun b ob q => Heap.get?_push_of_some _ q
  obtain ⟨T, id, hT, ht, hg⟩ := hr pins { s3 with heap := s3.heap.push { cls := .type "slice", data := .fields #[vl, vu, .none] } } σ H3 x v vl vu l u s3.heap.objs.size Q I4 r1 (Heap.IsSliceOf.new ..) pl pu q3
  show wpAny (model X.prog X.w) X.A (subscriptTail e (.Slice lo hi none p2) v (.ref s3.heap.objs.size)) (EP X pins σ Q) X.xe { s3 with heap := s3.heap.push { cls := .type "slice", data := .fields #[vl, vu, .none] } }
  exact tail_any (ops := [.ref s3.heap.objs.size, v]) ht hT hg (by with_unfolding_all rfl)

def cutV (xs : List V) (lo hi : Option Int) : List V := (xs.drop (HT.sIx xs.length 0 lo)).take (HT.sIx xs.length xs.length hi - HT.sIx xs.length 0 lo)
theorem cutV_length (xs : List V) (lo hi : Option Int) : (cutV xs lo hi).length ≤ xs.length := by
  unfold cutV
  rw [List.length_take, List.length_drop]
  omega
end
end L2

namespace L2
open PySem PySem.Spec PyProof.Rows

def ixN (n : Nat) (i : Int) : Option Nat := if 0 ≤ i then (if i < n then some i.toNat else none) else if -(n : Int) ≤ i then some (i + n).toNat else none
def atI {α : Type} (xs : List α) (i : Int) : Option α := (ixN xs.length i).bind fun j => xs[j]?
theorem ixN_seq {n : Nat} {i : Int} {j : Nat} (h : ixN n i = some j) : seqIndex? i n = some j ∧ j < n ∧ -(n : Int) ≤ i ∧ i < n := by
  unfold ixN at h
  by_cases h0 : 0 ≤ i
  · rw [if_pos h0] at h
    by_cases h1 : i < n
    · rw [if_pos h1] at h
      have e : i.toNat = j := Option.some.inj h
      exact ⟨by rw [seqIndex_of h0 h1, e], by omega, by omega, h1⟩
    · rw [if_neg h1] at h; cases h
  · rw [if_neg h0] at h
    by_cases h1 : -(n : Int) ≤ i
    · rw [if_pos h1] at h
      have e : (i + n).toNat = j := Option.some.inj h
      exact ⟨by rw [seqIndex_neg (by omega) h1, e], by omega, h1, by omega⟩
    · rw [if_neg h1] at h; cases h
theorem atI_get {α : Type} {xs : List α} {i : Int} {v : α} (h : atI xs i = some v) : ∃ j, seqIndex? i xs.length = some j ∧ xs[j]? = some v ∧ j < xs.length ∧ -(xs.length : Int) ≤ i ∧ i < xs.length := by
  unfold atI at h
  cases e : ixN xs.length i with
  | none => rw [e] at h; cases h
  | some j =>
    rw [e] at h
    obtain ⟨h1, h2, h3, h4⟩ := ixN_seq e
    exact ⟨j, h1, h, h2, h3, h4⟩
theorem atI_nat {α : Type} {xs : List α} {j : Nat} {v : α} (h : xs[j]? = some v) : atI xs (j : Int) = some v := by
  have hj : j < xs.length := (List.getElem?_eq_some_iff.mp h).1
  have e : ixN xs.length (j : Int) = some j := by
    unfold ixN
    rw [if_pos (by omega), if_pos (by omega)]; simp
  unfold atI; rw [e]; exact h
theorem atI_last {α : Type} (xs : List α) (v : α) : atI (xs ++ [v]) (-1) = some v := by
  have hl : (xs ++ [v]).length = xs.length + 1 := by simp
  have e : ixN (xs ++ [v]).length (-1) = some xs.length := by
    unfold ixN
    rw [hl, if_neg (by decide), if_pos (by omega)]
    congr 1
    omega
  unfold atI
  rw [e]
  show (xs ++ [v])[xs.length]? = some v
  simp

def PlainIx (b : Expr) : Prop := ∀ o i, subscripted b false o i = operate [o, i] (getItem o i)
def IxR (X : Cx) (r : R2) : Prop :=
  ∀ (value slice : Expr) (pins : List (Addr × Obj)) (s : Shared) (σ : St) (H : Hp) (x y : V) (v u : Value) (Q : VK), Inv X pins σ H s → RelV x v → RelV y u → r x y H Q →
    subscripted slice false v u = operate [v, u] (getItem v u) → wpAny (model X.prog X.w) X.A (subscriptTail value slice v u) (EP X pins σ Q) X.xe s
def MtR (X : Cx) (id : String) (r : V → List V → Hp → VK → Prop) : Prop :=
  ∀ (pins : List (Addr × Obj)) (s : Shared) (σ : St) (H : Hp) (x : V) (xs : List V) (v : Value) (us : List Value) (Q : VK), Inv X pins σ H s → RelV x v → Vals xs us → r x xs H Q →
    wpAny (model X.prog X.w) X.A (call (.builtin id) (v :: us)) (EP X pins σ Q) X.xe s
section
variable {X : Cx} {a b : Expr} {ta tb : TE} {pos : Pos}
theorem IxR.or {r r' : R2} (h : IxR X r) (h' : IxR X r') : IxR X (fun x y H Q => r x y H Q ∨ r' x y H Q) := by
  intro value slice pins s σ H x y v u Q I rx ry q hs
  rcases q with q | q
  · exact h value slice pins s σ H x y v u Q I rx ry q hs
  · exact h' value slice pins s σ H x y v u Q I rx ry q hs
theorem MtR.or {id : String} {r r' : V → List V → Hp → VK → Prop} (h : MtR X id r) (h' : MtR X id r') : MtR X id (fun x xs H Q => r x xs H Q ∨ r' x xs H Q) := by
  intro pins s σ H x xs v us Q I rx rs q
  rcases q with q | q
  · exact h pins s σ H x xs v us Q I rx rs q
  · exact h' pins s σ H x xs v us Q I rx rs q
theorem pe_ix {r : R2} (hr : IxR X r) (ha : PE X a ta) (hb : PE X b tb) (hs : PlainIx b) : PE X (.Subscript a b pos) (tOp r ta tb) := by
  intro pins s σ H Q I h
  exact Subscript_ (binT ha hb I h fun v u s2 x y H2 I2 rx ry q => hr a b pins s2 σ H2 x y v u Q I2 rx ry q (hs _ _))

def rIxL (K : PySem.W.Frag) : R2 := fun x y H Q => ∃ p xs i v, x = .ref p ∧ y = .int i ∧ SqL K H p xs ∧ atI xs i = some v ∧ Q v H
def rIxT (K : PySem.W.Frag) : R2 := fun x y H Q => ∃ p xs i v, x = .ref p ∧ y = .int i ∧ SqT K H p xs ∧ atI xs i = some v ∧ Q v H
def rIxS : R2 := fun x y H Q => ∃ z i c, x = .str z ∧ y = .int i ∧ z.length ≤ sizeLine ∧ atI z.cps.toList i = some c ∧ Q (.str ⟨#[c]⟩) H
theorem ix_list : IxR X (rIxL X.K) := by
  intro value slice pins s σ H x y v u Q I rx ry h hs
  obtain ⟨p, xs, i, z, rfl, rfl, hq, he, q⟩ := h
  cases rx
  obtain ⟨t, rfl⟩ := ry
  obtain ⟨its, r, pl, hz⟩ := I.list hq
  obtain ⟨j, h1, h2, h3, h4, h5⟩ := atI_get he
  obtain ⟨w, ew, rw'⟩ := r.get h2
  have hl := r.length
  have hn := line63
  have fin : EP X pins σ Q w s := ⟨z, H, I, rw', q⟩
  by_cases h0 : 0 ≤ i
  · have hj : i.toNat = j := by
      rw [seqIndex_of h0 h5] at h1
      exact Option.some.inj h1
    exact item_listR pl.isList h0 (by omega) (by rw [hj]; simpa using ew) fin hs
  · have hj : (i + (its.toArray.size : Int)).toNat = j := by
      rw [seqIndex_neg (by omega) h4] at h1
      rw [List.size_toArray, ← hl]
      exact Option.some.inj h1
    exact subscriptTail_builtinR (x := w) pl.isList.typeIs slot_list_getitem.lookup
      (wpAny_getItem_list_neg (Q := fun r s' => r = w ∧ EP X pins σ Q r s') pl.isList (by omega) (by rw [List.size_toArray] <;> omega) (by omega) (by rw [hj]; simpa using ew) ⟨rfl, fin⟩) hs
theorem ix_tup : IxR X (rIxT X.K) := by
  intro value slice pins s σ H x y v u Q I rx ry h hs
  obtain ⟨p, xs, i, z, rfl, rfl, hq, he, q⟩ := h
  cases rx
  obtain ⟨t, rfl⟩ := ry
  obtain ⟨its, r, pl, hz⟩ := I.tuple hq
  obtain ⟨j, h1, h2, h3, h4, h5⟩ := atI_get he
  obtain ⟨w, ew, rw'⟩ := r.get h2
  have hl := r.length
  have hn := line63
  have fin : EP X pins σ Q w s := ⟨z, H, I, rw', q⟩
  exact subscriptTail_builtinR (x := w) pl.typeIs slot_tuple_getitem.lookup
    (getItem_tuple (j := j) (Q := fun r s' => r = w ∧ EP X pins σ Q r s') pl (by omega) (by omega) (by rw [List.size_toArray, ← hl]; exact h1) (by simpa using ew) ⟨rfl, fin⟩) hs
theorem ix_str : IxR X rIxS := by
  intro value slice pins s σ H x y v u Q I rx ry h hs
  obtain ⟨z, i, c, rfl, rfl, hz, he, q⟩ := h
  obtain ⟨t, rfl⟩ := rx
  obtain ⟨t', rfl⟩ := ry
  obtain ⟨j, h1, h2, h3, h4, h5⟩ := atI_get he
  have hl : z.cps.toList.length = z.length := by simp [Str.length]
  rw [hl] at h1 h4 h5
  have hn := line63
  exact tail_any (typeIs_str s z t) slot_str_getitem.lookup (getItem_str (c := c) (by
    have e1 : decide (i < -(2 ^ 63 : Int)) = false := decide_eq_false (by omega)
    have e2 : decide (i ≥ 2 ^ 63) = false := decide_eq_false (by omega)
    rw [e1, e2, Bool.or_false]) (by rw [h1]; simpa using h2) ⟨.str ⟨#[c]⟩, H, I.tok _, ⟨_, rfl⟩, q⟩) hs
theorem Inv.lst {pins : List (Addr × Obj)} {σ : St} {H : Hp} {s : Shared} {p : Addr} {xs : List V} (I : Inv X pins σ H s) (h : H p = some (.lst xs)) :
    ∃ (its : List Value) (n : Nat), Vals xs its ∧ s.heap.get? p = some { cls := .type "list", data := .seq its.toArray n } ∧ xs.length ≤ sizeLine := by
  obtain ⟨z, its, n, r, e⟩ := I.hok p _ h
  exact ⟨its, n, r, e, z⟩
theorem slice_bounds (lo hi : Option Int) (n : Nat) : (sliceBounds lo hi none n).1 = ((HT.sIx n 0 lo : Nat) : Int) ∧ (sliceBounds lo hi none n).2.1 = ((HT.sIx n n hi : Nat) : Int) ∧ (sliceBounds lo hi none n).2.2 = 1 := by
  refine ⟨?_, ?_, rfl⟩
  · cases lo with
    | none => simp [sliceBounds, HT.sIx]
    | some i =>
      simp only [sliceBounds, HT.sIx, Option.getD_none, show (1 : Int) > 0 by decide, if_true]
      by_cases h : i < 0
      · simp only [h, if_true] <;> omega
      · simp only [h, if_false] <;> omega
  · cases hi with
    | none => simp [sliceBounds, HT.sIx]
    | some i =>
      simp only [sliceBounds, HT.sIx, Option.getD_none, show (1 : Int) > 0 by decide, if_true]
      by_cases h : i < 0
      · simp only [h, if_true] <;> omega
      · simp only [h, if_false] <;> omega
theorem slicePick_cut (its : List Value) (lo hi : Option Int) : slicePick its.toArray lo hi none = ((its.drop (HT.sIx its.length 0 lo)).take (HT.sIx its.length its.length hi - HT.sIx its.length 0 lo)).toArray := by
  obtain ⟨h1, h2, h3⟩ := slice_bounds lo hi its.toArray.size
  unfold slicePick
  rw [h1, h2, h3]
  simp only [sliceRange_one, pick_run, List.size_toArray] <;> rfl
def rSlL (K : PySem.W.Frag) : V → Option Int → Option Int → Hp → VK → Prop := fun x lo hi H Q => ∃ a xs, x = .ref a ∧ SqL K H a xs ∧ ∀ p, H p = none → Q (.ref p) (upd H p (.lst (cutV xs lo hi)))
theorem sl_list : SlR X (rSlL X.K) := by
  intro pins s σ H x v vl vu lo hi sl Q I rx hs pl pu h
  obtain ⟨a, xs, rfl, hx, q⟩ := h
  cases rx
  obtain ⟨its, r, ht, hz⟩ := I.list hx
  have hlen := r.length
  refine ⟨"list", _, slot_list_getitem.lookup, ht.isList.typeIs, ?_⟩
  refine wpAny_getItem_list_slice ht.isList hs pl pu .none (by simp) ?_ (by rw [List.size_toArray] <;> omega)
  rw [slicePick_cut, ← hlen]
  refine ⟨.ref s.heap.objs.size, _, I.laid (t' := s.toks) (o := .lst (cutV xs lo hi)) (fun b ob q => Heap.get?_push_of_some _ q) (Nat.le_refl _) ?_, rfl, q _ (I.hok.fresh (Nat.le_refl _))⟩
  exact ⟨Nat.le_trans (cutV_length xs lo hi) hz, _, 0, (r.drop (HT.sIx xs.length 0 lo)).take (HT.sIx xs.length xs.length hi - HT.sIx xs.length 0 lo), Heap.get?_push_size _ rfl⟩

theorem call_len_seq : CallR X (.builtin "len") (fun xs H Q => ∃ p ys, xs = [.ref p] ∧ (SqL X.K H p ys ∨ SqT X.K H p ys) ∧ Q (.int ys.length) H) := by
  intro pins s σ H xs us Q I r h
  obtain ⟨p, ys, rfl, hq, q⟩ := h
  obtain ⟨u, rfl, rx⟩ := vals1 r
  cases rx
  have hn := line63
  rcases hq with hq | hq
  · obtain ⟨its, r', pl, hz⟩ := I.list hq
    have hlen := r'.length
    exact Calls.call_len_list pl.isList (by simp only [List.size_toArray] <;> omega) ⟨.int ys.length, H, I.tok _, ⟨s.toks + 1, by rw [List.size_toArray, hlen]⟩, q⟩
  · obtain ⟨its, r', pl, hz⟩ := I.tuple hq
    have hlen := r'.length
    exact len_tuple pl (by simp only [List.size_toArray] <;> omega) ⟨.int ys.length, H, I.tok _, ⟨s.toks + 1, by rw [List.size_toArray, hlen]⟩, q⟩
theorem CallR.or {f : Value} {r r' : List V → Hp → VK → Prop} (h : CallR X f r) (h' : CallR X f r') : CallR X f (fun xs H Q => r xs H Q ∨ r' xs H Q) := by
  intro pins s σ H xs us Q I rs q
  rcases q with q | q
  · exact h pins s σ H xs us Q I rs q
  · exact h' pins s σ H xs us Q I rs q
theorem call_list_of : CallR X (.type "list") (fun xs H Q => ∃ p ys, xs = [.ref p] ∧ (SqL X.K H p ys ∨ SqT X.K H p ys) ∧ ∀ l, H l = none → Q (.ref l) (upd H l (.lst ys))) := by
  intro pins s σ H xs us Q I r h
  obtain ⟨p, ys, rfl, hq, q⟩ := h
  obtain ⟨u, rfl, rx⟩ := vals1 r
  cases rx
  have fin : ∀ (its : List Value), Vals ys its → ys.length ≤ sizeLine → ∀ (h' : Heap) (c' : Nat), (∀ b o', s.heap.get? b = some o' → h'.get? b = some o') →
      h'.get? s.heap.objs.size = some { cls := .type "list", dict := none, data := .seq its.toArray c', slots := #[] } → EP X pins σ Q (.ref s.heap.objs.size) { s with heap := h' } := fun its r' hz h' c' kp e =>
    ⟨.ref s.heap.objs.size, _, I.laid (t' := s.toks) kp (Nat.le_refl _) (show ObjOk X.prog X.w _ h' _ (.lst ys) from ⟨hz, its, c', r', e⟩), rfl, q _ (I.hok.fresh (Nat.le_refl _))⟩
  rcases hq with hq | hq
  · obtain ⟨its, r', pl, hz⟩ := I.list hq
    have hlen := r'.length
    obtain ⟨o, ho, hc, n, hd⟩ := pl.isList
    exact call_list_seq p (.inl rfl) ho hc hd (fun h' c' kp e => fin its r' hz h' c' kp e) (by simp only [List.size_toArray] <;> omega)
  · obtain ⟨its, r', pl, hz⟩ := I.tuple hq
    have hlen := r'.length
    obtain ⟨o, ho, hc, n, hd⟩ := pl
    exact call_list_seq p (.inr rfl) ho hc hd (fun h' c' kp e => fin its r' hz h' c' kp e) (by simp only [List.size_toArray] <;> omega)
def tyV (K : PySem.W.Frag) (T : String) (x : V) (H : Hp) : Prop := match x with
  | .str _ => T = "str"
  | .int _ => T = "int"
  | .ref p => (T = "list" ∧ ∃ xs, SqL K H p xs) ∨ (T = "tuple" ∧ ∃ o, K.lookup p = some o ∧ o.cls = .type "tuple" ∧ o.dict = none) ∨
      (T = "dict" ∧ ((∃ kvs, H p = some (.dK kvs)) ∨ ∃ kvs, H p = some (.dT kvs))) ∨ (T = "set" ∧ ∃ S n, H p = some (.set S n))
  | _ => False
theorem tyV_is {pins : List (Addr × Obj)} {σ : St} {H : Hp} {s : Shared} {T : String} {x : V} {v : Value} (I : Inv X pins σ H s) (r : RelV x v) (ty : tyV X.K T x H) :
    s.TypeIs v T ∧ ∀ a, v = .ref a → ∃ ob, s.heap.get? a = some ob ∧ ob.dict = none := by
  cases x with
  | str z =>
    obtain ⟨t, rfl⟩ := r
    cases (show T = "str" from ty)
    exact ⟨typeIs_str s z t, fun _ e => nomatch e⟩
  | int i =>
    obtain ⟨t, rfl⟩ := r
    cases (show T = "int" from ty)
    exact ⟨typeIs_int s i t, fun _ e => nomatch e⟩
  | ref p =>
    cases r
    rcases ty with ⟨rfl, xs, hq⟩ | ⟨rfl, o, hk, hc, hd⟩ | ⟨rfl, hk⟩ | ⟨rfl, S, n, hk⟩
    · obtain ⟨its, _, pl, _⟩ := I.list hq
      refine ⟨pl.isList.typeIs, fun a e => ?_⟩
      cases e
      obtain ⟨o, n, e, c, hd, _⟩ := pl
      exact ⟨o, e, hd⟩
    · refine ⟨⟨o, I.kIn p o hk, hc⟩, fun a e => ?_⟩
      cases e
      exact ⟨o, I.kIn _ o hk, hd⟩
    · have z : ∃ o, s.heap.get? p = some o ∧ o.ExactDict := by
        rcases hk with ⟨kvs, hk⟩ | ⟨kvs, hk⟩
        · obtain ⟨_, _, _, _, o, _, _, e, ex, _⟩ := I.hok p _ hk
          exact ⟨o, e, ex⟩
        · obtain ⟨_, _, _, _, o, _, _, e, ex, _⟩ := I.hok p _ hk
          exact ⟨o, e, ex⟩
      obtain ⟨o, e, ex⟩ := z
      refine ⟨⟨o, e, ex.1⟩, fun a e2 => ?_⟩
      cases e2
      exact ⟨o, e, ex.2.1⟩
    · obtain ⟨o, _, _, _, e, ex, _⟩ := I.hok p _ hk
      refine ⟨⟨o, e, ex.1⟩, fun a e2 => ?_⟩
      cases e2
      exact ⟨o, e, ex.2.1⟩
  | _ => exact False.elim ty
def tBM (K : PySem.W.Frag) (T : String) (r : V → List V → Hp → VK → Prop) (to : TE) (t : TA) : TE := fun σ H Q => to σ H fun x H1 => tyV K T x H1 ∧ t σ H1 fun xs H2 => r x xs H2 Q
variable {o e : Expr} {es : List Expr} {to : TE} {t : TA} {name : Str} {apos cpos : Pos} {T id : String} {r : V → List V → Hp → VK → Prop}
theorem pe_bm (pa : PlainAttrs T) (slot : Slot T name id) (hty : typeOf (.builtin id) = pure (.type "method_descriptor")) (hm : MtR X id r) (ho : PE X o to) (ha : PA X (e :: es) t)
    (hbase : attributeBase o name X.env (eval o X.env) = eval o X.env := by rfl)
    (hfew : ((backTo cpos (starEach (e :: es) X.env)).all (fun x => !x.1) && (backToKw cpos (keywordEach [] X.env)).all (fun x => x.1.isSome)
      && decide ((e :: es).length + ([] : List Keyword).length + (if ([] : List Keyword).isEmpty then 0 else 1) < 30)) = true := by rfl)
    (hline : (apos.endLine == cpos.line) = true := by rfl) (hs : starEach (e :: es) X.env = (false, eval e X.env) :: starEach es X.env := by rfl) (hplain : (backTo cpos (starEach es X.env)).any (·.1) = false := by rfl) :
    PE X (.Call (.Attribute o name apos) (e :: es) [] cpos) (tBM X.K T r to t) := by
  intro pins s σ H Q I h
  refine wpAny_Call_method_late hbase hfew hline rfl (thn (ho pins s σ H _ I h) fun v s1 ⟨x, H1, I1, r1, ty, q1⟩ => ?_)
  obtain ⟨h1, h2⟩ := tyV_is I1 r1 ty
  refine ⟨T, id, pa, slot, hty, h1, h2, ?_⟩
  have hA := ha cpos pins s1 σ H1 _ I1 q1
  rw [hs] at hA ⊢
  refine Calls.callWith_builtin (by show (false || (backTo cpos (starEach es X.env)).any (·.1)) = false; rw [hplain] <;> rfl) (Calls.evalArgs_plain ?_)
  exact thn hA fun us s2 ⟨vs, H2, I2, r2, q2⟩ => hm pins s2 σ H2 x vs v us Q I2 r1 r2 q2
/- xs.append(e), list.index on a module's tuple .. are MtR facts of 06m -/
end
end L2

namespace L2
open PySem PySem.Spec PyProof.Rows

def MtM (X : Cx) (id : String) (r : V → List V → Hp → VK → Prop) : Prop :=
  ∀ (pins : List (Addr × Obj)) (s : Shared) (σ : St) (H : Hp) (x : V) (xs : List V) (v : Value) (us : List Value) (Q : VK), Inv X pins σ H s → RelV x v → Vals xs us → r x xs H Q →
    wpAny (model X.prog X.w) X.A (call (.builtin id) (v :: us)) (EP X pins σ Q) X.xe s

theorem Vals.one : ∀ {x : V} {us : List Value}, Vals [x] us → ∃ u, us = [u] ∧ RelV x u
  | _, _, .cons r .nil => ⟨_, rfl, r⟩
theorem Vals.two : ∀ {x y : V} {us : List Value}, Vals [x, y] us → ∃ u v, us = [u, v] ∧ RelV x u ∧ RelV y v
  | _, _, _, .cons r (.cons q .nil) => ⟨_, _, rfl, r, q⟩
theorem Vals.zero : ∀ {us : List Value}, Vals [] us → us = []
  | _, .nil => rfl
theorem Vals.eraseIdx : ∀ {xs : List V} {us : List Value} (i : Nat), Vals xs us → Vals (xs.eraseIdx i) (us.eraseIdx i)
  | _, _, _, .nil => .nil
  | _, _, 0, .cons _ t => t
  | _, _, i + 1, .cons r t => .cons r (Vals.eraseIdx i t)
theorem Vals.reverse {xs : List V} {us : List Value} (h : Vals xs us) : Vals xs.reverse us.reverse := by
  induction h with
  | nil => exact .nil
  | cons r t ih => rw [List.reverse_cons, List.reverse_cons]; exact Vals.append ih (.cons r .nil)
section
variable {X : Cx} {pins : List (Addr × Obj)} {σ : St} {H : Hp} {s : Shared} {l b : Addr} {xs ys zs : List V}

theorem Inv.lset {its its' : List Value} {n : Nat} {f : Array Value → Array Value} {t' : Nat} (I : Inv X pins σ H s) (hH : H l = some (.lst xs))
    (e : s.heap.get? l = some { cls := .type "list", data := .seq its.toArray n }) (hf : f its.toArray = its'.toArray) (hv : Vals ys its') (hz : ys.length ≤ sizeLine) :
    Inv X pins σ (upd H l (.lst ys)) { s with heap := s.heap.update l (Obj.mapSeq f), toks := t' } := by
  have q := PySem.IsL.update e f
  rw [hf] at q
  refine I.write (x := l) (e := l) (by rw [hH]; exact trivial) (.inl rfl) (fun b' u hb hu => (Heap.get?_update_other s.heap (Obj.mapSeq f) (Ne.symm hb)).trans hu) ⟨_, q⟩ ?_
  exact ⟨hz, its', _, hv, q⟩
theorem Inv.lnew {its : List Value} {t' : Nat} (I : Inv X pins σ H s) (hv : Vals ys its) (hz : ys.length ≤ sizeLine) :
    Inv X pins σ (upd H s.heap.objs.size (.lst ys)) { s with heap := s.heap.push { cls := .type "list", data := .seq its.toArray }, toks := t' } :=
  I.laid (fun _ _ q => Heap.get?_push_of_some _ q) (Nat.le_refl _) ⟨hz, its, 0, hv, Heap.get?_push_size _ rfl⟩
theorem Inv.fresh (I : Inv X pins σ H s) : H s.heap.objs.size = none := I.hok.fresh (Nat.le_refl _)
theorem Inv.lstM (I : Inv X pins σ H s) (hH : H l = some (.lst xs)) : xs.length ≤ sizeLine ∧ ∃ (its : List Value) (n : Nat), Vals xs its ∧ xs.length = its.length ∧ s.heap.get? l = some { cls := .type "list", data := .seq its.toArray n } := by
  obtain ⟨z, its, n, r, e⟩ := I.hok l _ hH
  exact ⟨z, its, n, r, r.length, e⟩

end

section
variable {X : Cx}

def rAppend : V → List V → Hp → VK → Prop := fun x vs H Q => ∃ l xs y, x = .ref l ∧ vs = [y] ∧ H l = some (.lst xs) ∧ xs.length < sizeLine ∧ Q .non (upd H l (.lst (xs ++ [y])))
theorem mt_append : MtM X "list.append" rAppend := by
  intro pins s σ H x vs v us Q I rx rv h
  obtain ⟨l, xs, y, rfl, rfl, hH, hz, q⟩ := h
  cases rx
  obtain ⟨u, rfl, ru⟩ := rv.one
  obtain ⟨z, its, n, r, hl, e⟩ := I.lstM hH
  refine call_meets F.slot_list_append ⟨_, e, rfl⟩ F.entry_list_append (F.args_list_append_2 _ _) (PySem.list_append l its.toArray n u (by rw [List.size_toArray]; omega)) ⟨e, ?_⟩
  refine ⟨.non, _, I.lset (its' := its ++ [u]) hH e (by simp) (r.append (.cons ru .nil)) ?_, rfl, q⟩
  rw [List.length_append, List.length_singleton]
  omega

end


end L2

namespace Att
open PySem PySem.W PySem.Calls PyProof.Rows

theorem ints_of_wellAll {P : Params} {h : Heap} : ∀ (ns : List Int) (vs : List Value), WellAll P h vs (ns.map WData.int) → IntsAre vs ns := by
  intro ns
  induction ns with
  | nil =>
    intro vs w
    rw [List.map_nil] at w
    cases w
    exact .nil
  | cons n ns ih =>
    intro vs w
    rw [List.map_cons] at w
    cases w with
    | cons a b =>
      cases a
      exact .cons _ _ (ih _ b)

theorem script_of {l : OpenLaw} {n : Nat} (hn : l.most = some n) {P : Params} {h : Heap} {args : List WData} {vals : List Value}
    (hpre : l.row.toRowW.claim.pre args = true) (hwl : WellAll P h vals args) :
    ∃ a vs ns, vals = [Value.ref a] ∧ args = [WData.list (ns.map WData.int)] ∧ h.get? a = some { cls := .type "list", data := .seq vs.toArray } ∧ IntsAre vs ns ∧ ns.length ≤ n := by
  have hsh : WShape.hasAll [] args [.list .int] = true := (pre_splitW hpre).1
  have hc : l.pre.holds [] { args := args } = true := (pre_splitW hpre).2
  obtain ⟨d, r, rfl, h1, h2⟩ := hasAllW_cons hsh
  obtain rfl := hasAllW_nil h2
  obtain ⟨xs, rfl, h3⟩ := hasW_list h1
  obtain ⟨ns, rfl⟩ := items_int h3
  have hlen : ns.length ≤ n := by
    unfold OpenLaw.pre at hc
    have h4 : (WTm.not (.lt (.lit (.int (n : Int))) (.len (.arg 0)))).holds [] { args := [.list (ns.map .int)] } = true := by
      have h4 := (holds_andW hc).1
      rw [hn] at h4
      exact h4
    have h5 := condW_of h4 (w_not (w_lt w_lit (w_len_list (w_arg rfl))))
    rw [List.length_map] at h5
    refine Nat.le_of_not_lt fun q => ?_
    have q' : (n : Int) < ((ns.length : Nat) : Int) := by omega
    first
      | (rw [decide_eq_true q'] at h5; exact absurd h5 (by decide))
      | (simp at h5; omega)
  cases hwl with
  | cons w1 w2 =>
    cases w2
    cases w1 with
    | list ho hall => exact ⟨_, _, ns, rfl, rfl, ho, ints_of_wellAll ns _ hall, hlen⟩

theorem post_true (l : OpenLaw) (args : List WData) : l.row.toRowW.claim.post args (.bool true) args = true :=
  postW_of (r := l.row.toRowW) (X := (true == true))
    (show WShape.has [] (.bool true) .bool = true by first | rfl | decide | simp [WShape.has, WShape.arms, WShape.armsAll])
    (show (WTm.eq .res (.lit (.bool true))).value [] { args := args, res := some (.bool true), after := args } = some (.bool (true == true)) from w_eq_bool (w_res rfl) w_lit) rfl

theorem attach_call {l : OpenLaw} {n : Nat} {q : Program} {loose : List Str} {XP : (Str → Option Value) → Heap → Prop} {YP : World → Heap → Prop} {d : DefRec}
    (hn : l.most = some n) (hdf : d.params.defaults = [])
    (call : ∀ (w : World) (s₀ s₁ : Shared) (mg mb : Str → Option Value) (fa : Addr) (o : Obj) (pm cd doc : Value) (a : Addr) (vs : List Value) (ns : List Int),
      Ground q loose [] XP w s₀ mg mb s₁.heap → YP w s₁.heap →
      s₁.heap.get? fa = some o → o.data = .func (docDef d.name d.params d.body d.scope pm cd doc) → s₁.heap.CodeRec cd d.name → mg d.name = some (.ref fa) →
      s₁.heap.get? a = some { cls := .type "list", data := .seq vs.toArray } → IntsAre vs ns → ns.length ≤ n → s₁.gens = #[] →
      codeAny (model l.prog w) callerA (.call (.ref fa) ⟨[.ref a], []⟩) (fun r s' => r = .ok (.ret (.bool true)) ∧ OldK s₁.heap s'.heap ∧ s'.os = s₁.os ∧ AllBare s'.gens) s₁) :
    WalkO q loose XP YP l.row.toRowW d [] (fun f vs => PySem.call f vs) := by
  intro w s₀ s₁ mg mb G Y fa o pm cd doc dV kV ho hd hcd hD hmg hg args vals as hpre hlay hrd hwl hlo
  obtain rfl : dV = .none := Dflts.none hD hdf
  obtain rfl : kV = .none := Dflts.noKw hD
  obtain ⟨a, vs, ns, rfl, rfl, hobj, hints, hlen⟩ := script_of hn hpre hwl
  refine enter_call (codeAny_mono (call w s₀ s₁ mg mb fa o pm cd doc a vs ns G Y ho (fd_plain hd) hcd hmg hobj hints hlen hg) fun r s' hq => ?_)
  obtain ⟨rfl, h2, h3, h4⟩ := hq
  exact ⟨.inl ⟨.bool true, .bool true, [], rfl, fun _ => rfl, .bool true, post_true l _, fun _ => ⟨List.Pairwise.nil, fun _ hm => (nomatch hm)⟩⟩, h2, h3, h4⟩

section
variable {prog : Program} {w : World} {A : Around} {E : Value → Shared → Prop} {s : Shared} {K : Frag}

def ledger (h : Heap) (L d : Addr) : List (Addr × Obj) := (List.range h.objs.size).filterMap fun a => if a = L ∨ a = d then none else (h.get? a).map fun o => (a, o)
end
end Att

namespace L2
open PySem PySem.Spec PyProof.Rows

theorem vals_ints : ∀ {vs : List Value} {ns : List Int}, IntsAre vs ns → Vals (ns.map V.int) vs
  | _, _, .nil => .nil
  | _, _, .cons n t h => .cons ⟨t, rfl⟩ (vals_ints h)

def Only (H : Hp) : Prop := ∀ b, H b = none ∨ ∃ o xs, H b = some (.frz o (.lst xs))

theorem law_call {P : Program} {w : World} {K : PySem.W.Frag} {mg mb : Str → Option Value} {CX : CXT} {k : Nat} {fa a : Addr} {fd : FuncData} {x : Str} {sp : Sp} {s₁ : Shared} {vs : List Value} {ns : List Int}
    (KX : K.In s₁.heap) (hns : s₁.heap.Ns mainGlobals mg) (hb : s₁.heap.Ns builtinsNs mb) (hbb : ∀ x : Str, x ≠ "__name__" → mb x = bootBuiltins x) (hlim : s₁.heap.NoLimit) (hg : s₁.gens = #[])
    (ha : s₁.heap.get? a = some { cls := .type "list", data := .seq vs.toArray }) (hi : IntsAre vs ns) (hl : ns.length ≤ sizeLine) (hr : Room k callerA)
    (F : ∀ base : Heap, K.In base → base.Ns mainGlobals mg → FnOk P w K mg base CX k fa fd [x] sp) (hbind : ∀ (s : Shared) (u : Value), BindsTo s fd ⟨[u], []⟩ [(x, u)])
    (hsp : ∀ H : Hp, Only H → SqL K H a (ns.map V.int) → sp [.ref a] H (fun v _ => v = .bl true) fun _ _ _ => False)
    (hCX : ∀ H e s', CX [] H s₁ (fun _ _ _ => False) e s' → False) :
    codeAny (model P w) callerA (.call (.ref fa) ⟨[.ref a], []⟩) (fun r s' => r = .ok (.ret (.bool true)) ∧ OldK s₁.heap s'.heap ∧ s'.os = s₁.os ∧ AllBare s'.gens) s₁ := by
  have rv := vals_ints hi
  have lenV := hi.length
  -- from an abstract heap in which nothing but the script may be tracked
  have core : ∀ H : Hp, Only H → SqL K H a (ns.map V.int) → HOk P w H s₁.heap → (∀ b, H b ≠ none → b = a) → (H a ≠ none → K.lookup a = none) →
      codeAny (model P w) callerA (.call (.ref fa) ⟨[.ref a], []⟩) (fun r s' => r = .ok (.ret (.bool true)) ∧ OldK s₁.heap s'.heap ∧ s'.os = s₁.os ∧ AllBare s'.gens) s₁ := by
    intro H hO hS hok hA hK
    have base_of : ∀ {b : Addr} {o : Obj}, s₁.heap.get? b = some o → H b = none → (hidT s₁.heap H).get? b = some o := fun e n => hidT_get e n
    have noA : ∀ {b : Addr} {o : Obj} {es : Array DictEntry} {ep : Nat}, s₁.heap.get? b = some o → o.data = .dict es ep → H b = none := fun {b o es ep} e d => by
      cases q : H b with
      | none => rfl
      | some u =>
        have e' : b = a := hA b (by rw [q]; simp)
        subst e'
        rw [ha] at e; cases e
        have d' : Data.seq vs.toArray _ = Data.dict es ep := d
        cases d'
    have nsK : ∀ {b : Addr} {m : Str → Option Value}, s₁.heap.Ns b m → (hidT s₁.heap H).Ns b m := fun {b m} ⟨o, es, ep, e, d, r⟩ => ⟨o, es, ep, base_of e (noA e d), d, r⟩
    have hKb : K.In (hidT s₁.heap H) := fun b o e => base_of (KX b o e) (by
      cases q : H b with
      | none => rfl
      | some u =>
        have e' : b = a := hA b (by rw [q]; simp)
        subst e'
        rw [hK (by rw [q]; simp)] at e; cases e)
    have hM : Mod K mg (hidT s₁.heap H) := ⟨hKb, nsK hns, ⟨mb, nsK hb, hbb⟩, let ⟨mc, h1, h2⟩ := hlim; ⟨mc, nsK h1, h2⟩⟩
    have e0 : Env0 P w K mg (hidT s₁.heap H) callerA [] s₁ H := ⟨rfl, hM, fun b o e => of_hidT e, Nat.le_of_eq (hidT_size _ _), trivial, fun b hb => absurd (show b ∈ ([] : List Addr) from hb) (by simp), hok, .of_eq hg⟩
    refine codeAny_mono ((F _ hKb (nsK hns)).run callerA [] s₁ H ⟨[.ref a], []⟩ [.ref a] [.ref a] _ _ hr e0 (hbind s₁ (.ref a)) (.cons rfl .nil) (hsp H hO hS)) fun r s' h => ?_
    cases r with
    | error e => exact (hCX H e s' h).elim
    | ok fl =>
      cases fl with
      | next => exact False.elim h
      | brk => exact False.elim h
      | cont => exact False.elim h
      | ret u =>
        obtain ⟨v, H', os, bare, un, hok', r', q⟩ := h
        have q' : v = .bl true := q
        subst q'
        obtain rfl : u = Value.bool true := r'
        refine ⟨rfl, OldK.of_keep fun b o e => ?_, os, bare⟩
        cases q : H b with
        | none => exact un.keep b o e q (by intro z; exact absurd (show b ∈ ([] : List Addr) from z) (by simp)) (by simp)
        | some u =>
          rcases hO b with z | ⟨ob, xs, z⟩
          · rw [q] at z; cases z
          · have z2 := un.frzs b ob _ z
            obtain ⟨e1, _⟩ := hok b _ z
            obtain ⟨e2, _⟩ := hok' b _ z2
            rw [e] at e1; cases e1
            exact e2
  cases hk : K.lookup a with
  | some o =>
    -- the script is one of the module's own objects
    have e := KX a o hk
    rw [ha] at e
    cases e
    refine core (fun _ => none) (fun _ => .inl rfl) (.inr ⟨_, vs.toArray, _, hk, rfl, rfl, rfl, by rw [List.size_toArray, lenV]; exact hl, by simpa using rv⟩) (fun b u z => by have z' : (none : Option HO) = some u := z; cases z') (fun b z => absurd rfl z) fun z => absurd rfl z
  | none =>
    refine core (fun b => if b = a then some (.frz { cls := .type "list", data := .seq vs.toArray } (.lst (ns.map V.int))) else none) (fun b => ?_) (.inl (.inr ⟨{ cls := .type "list", data := .seq vs.toArray }, if_pos rfl⟩)) (fun b u z => ?_) (fun b z => ?_) fun _ => hk
    · by_cases hb : b = a
      · exact .inr ⟨_, _, if_pos hb⟩
      · exact .inl (if_neg hb)
    · by_cases hb : b = a
      · have z' := (if_pos hb).symm.trans z
        cases z'
        subst hb
        exact ⟨ha, by rw [List.length_map]; exact hl, vs, _, rv, ha⟩
      · have z' := (if_neg hb).symm.trans z
        cases z'
    · by_cases hb : b = a
      · exact hb
      · exact absurd (if_neg hb) z
end L2

namespace L2
open PySem PySem.Spec PyProof.Rows

abbrev KOf {K : PySem.W.Frag} {h : Heap} (_ : K.In h) : PySem.W.Frag := K

theorem walk_of {l : PySem.W.OpenLaw} {n k : Nat} {q : Program} {loose : List Str} {XP : (Str → Option Value) → Heap → Prop} {YP : World → Heap → Prop} {d : DefRec} {K : Params → PySem.W.Frag} {CX : World → CXT} {sp : World → Sp} {x : Str}
    (hn : l.most = some n) (hn2 : n ≤ sizeLine) (hdf : d.params.defaults = []) (hr : Room k callerA)
    (hY : ∀ (w : World) (h : Heap), YP w h → (K w.params).In h)
    (F : ∀ (w : World) (mg : Str → Option Value) (fa : Addr) (h : Heap), (K w.params).In h → h.Ns mainGlobals mg → mg d.name = some (.ref fa) →
      ∃ fd : FuncData, (∀ (s : Shared) (u : Value), BindsTo s fd ⟨[u], []⟩ [(x, u)]) ∧
        ∀ base : Heap, (K w.params).In base → base.Ns mainGlobals mg → FnOk l.prog w (K w.params) mg base (CX w) k fa fd [x] (sp w))
    (hsp : ∀ (w : World) (H : Hp) (a : Addr) (ns : List Int), ns.length ≤ n → Only H → SqL (K w.params) H a (ns.map V.int) → sp w [.ref a] H (fun v _ => v = .bl true) fun _ _ _ => False)
    (hCX : ∀ (w : World) (H : Hp) (s : Shared) (e : Value) (s' : Shared), CX w [] H s (fun _ _ _ => False) e s' → False) :
    PySem.W.WalkO q loose XP YP l.row.toRowW d [] (fun f vs => PySem.call f vs) := by
  refine Att.attach_call hn hdf fun w s₀ s₁ mg mb fa o pm cd doc a vs ns G Y ho hd hcd hmg hobj hints hlen hg => ?_
  have KX := hY w _ Y
  obtain ⟨fd, hb, hF⟩ := F w mg fa _ KX G.T.g hmg
  exact law_call KX G.T.g G.T.b G.T.builtins G.T.nolimit hg hobj hints (Nat.le_trans hlen hn2) hr hF hb (fun H hO hS => hsp w H a ns hlen hO hS) fun H e s' => hCX w H s₁ e s'
end L2

/- THE LAST THEOREM (shape; LID, My.* are yours):
   My.Adr: a structure of the addresses that your layer names (classes, functions); My.Txt K t: a structure (Prop) of the equations over K;
   My.txt_mk : {K} {implicit addresses ..} (e1 : nsIn K mainGlobals "law" = some (some (.ref f))) (e2 : K.lookup f = some ⟨oc, od, .func (fnOf "law" "law" params body scope dV kV doc pm an cdv ct), sl⟩) (e3 : codeIn K cdv "law" = true) .. : ∃ t, My.Txt K t

set_option maxRecDepth 100000 in
set_option maxHeartbeats 0 in
theorem PySem.Challenge.cw_LID_holds : PySem.Challenge.rw_LID.Holds := by
  w_on; o_law; k_head; (case hw => w_witness2)
  k_fill
  refine L2.walk_of (l := PySem.Challenge.rw_LID) (n := 63) (k := 40) (x := "script") (CX := fun w => ..) (sp := fun _ => My.sp_law) rfl (by decide) rfl ⟨rfl, by decide, by decide⟩ (fun w h Y => PySem.W.kIn_of Y) ?F ?S ?C
  case F =>
    intro w mg fa h KX G hmg
    have T : ∃ t, My.Txt (L2.KOf KX) t := by
      dsimp only [L2.KOf]                          -- K must stand as «<heap const> w.params» for k_is
      refine' My.txt_mk ?e1 ?e2 ?e3 ..
      (case e1 => PySem.W.k_is)                    -- in the order: a name -> its address -> its object -> its parts
      (case e2 => PySem.W.k_is)
      ..
    obtain ⟨t, T⟩ := T
    have e0 := hmg.symm.trans (PySem.W.mg_of KX G T.law)
    cases e0                                       -- fa is the law's own address
    exact ⟨_, fun s u => .of_eq rfl, fun base kb nb => My.law_fn T kb nb⟩     -- if «.of_eq rfl» comes too early: refine' ⟨_, ?b, fun base kb nb => My.law_fn T kb nb⟩; exact fun s u => .of_eq rfl
  case S => exact fun w H a ns hl hO hS => ..
  case C => exact ..
(the tactic k_is has no namespace: write k_is) -/

namespace L2
open PySem PySem.Spec PyProof.Rows

def defArgs (s : Stmt) : Arguments := match s with
  | .FunctionDef _ a _ _ _ _ _ _ _ _ => a
  | _ => { posonlyargs := [], args := [], vararg := none, kwonlyargs := [], kw_defaults := [], kwarg := none, defaults := [] }
def defBody (s : Stmt) : List Stmt := match s with
  | .FunctionDef _ _ b _ _ _ _ _ _ _ => b
  | _ => []
def defScope (s : Stmt) : Scope := match s with
  | .FunctionDef _ _ _ _ _ _ sc _ _ _ => sc
  | _ => { kind := .function, names := [], isGenerator := false, isCoroutine := false }

abbrev CX0 : CXT := fun _ _ _ _ _ _ => False
abbrev E0 : XK := fun _ _ _ => False
theorem pass0 {X : Cx} : Passes CX0 X E0 := fun _ _ _ _ _ _ _ h => h.elim

structure Fun (K : PySem.W.Frag) (x qual : Str) (st : Stmt) (f : Addr) (fd : FuncData) : Prop where
  ex : ∃ (oc : Value) (od : Option Addr) (kV doc pm : Value) (an : Option Addr) (cdv ct : Value) (osl : Array (Option Value)),
    fd = PySem.W.fnOf x qual (defArgs st) (defBody st) (defScope st) .none kV doc pm an cdv ct ∧ K.lookup f = some ⟨oc, od, .func fd, osl⟩ ∧ PySem.W.codeIn K cdv qual = true
  kp : PySem.W.keepIn K (.ref f) = true
section
variable {P : Program} {w : World} {K : PySem.W.Frag} {mg : Str → Option Value} {base : Heap}
theorem Fun.ok {x qual : Str} {st : Stmt} {f : Addr} {fd : FuncData} {N ps : List Str} {k : Nat} {sp : Sp} (F : Fun K x qual st f fd) (S : FnScope N ps (defScope st)) (len : ∀ vs H Q E, sp vs H Q E → vs.length = ps.length)
    (hbody : ∀ (cdv : Value) (A : Around) (outer : List Env) (s : Shared) (H : Hp) (vs : List V) (Q : VK) (E : XK), Room k (A.deeper (envOfC qual (defScope st) s.heap.objs.size f cdv)) → sp vs H Q E →
      ∃ t, PSs (cxOf CX0 P w K mg base N qual (defScope st) f cdv A outer s H E).nox (defBody st) t ∧ t { nx := fun _ H' => Q .non H', rt := Q } (start N vs) H) : FnOk P w K mg base CX0 (k + 1) f fd ps sp := by
  obtain ⟨oc, od, kV, doc, pm, an, cdv, ct, osl, rfl, lk, hcd⟩ := F.ex
  refine fn_of lk hcd S len fun A outer s H vs Q E hr hsp => ?_
  obtain ⟨t, h, q⟩ := hbody cdv A outer s H vs Q E hr hsp
  exact ⟨t, h.nox, q⟩
theorem Fun.binds {x qual : Str} {st : Stmt} {f : Addr} {fd : FuncData} {ps : List Str} (F : Fun K x qual st f fd)
    (h : ∀ (kV doc pm : Value) (an : Option Addr) (cdv ct : Value) (us : List Value), us.length = ps.length → bindArgs (PySem.W.fnOf x qual (defArgs st) (defBody st) (defScope st) .none kV doc pm an cdv ct) ⟨us, []⟩ = pure (ps.zip us)) : Binds K fd ps [] := by
  obtain ⟨oc, od, kV, doc, pm, an, cdv, ct, osl, rfl, lk, hcd⟩ := F.ex
  exact .all (h kV doc pm an cdv ct)
theorem fun_mk {x qual : Str} {st : Stmt} {f : Addr} {oc : Value} {od an : Option Addr} {osl : Array (Option Value)} {kV doc pm cdv ct : Value} (l : K.lookup f = some ⟨oc, od, .func (PySem.W.fnOf x qual (defArgs st) (defBody st) (defScope st) .none kV doc pm an cdv ct), osl⟩)
    (c : PySem.W.codeIn K cdv qual = true) (k : PySem.W.keepIn K (.ref f) = true) : Fun K x qual st f (PySem.W.fnOf x qual (defArgs st) (defBody st) (defScope st) .none kV doc pm an cdv ct) := ⟨⟨oc, od, kV, doc, pm, an, cdv, ct, osl, rfl, l, c⟩, k⟩
end
theorem hu_of {A : Around} {k : Nat} (hr : Room k A) : A.units + 1 < cLine := Nat.lt_of_le_of_lt (Nat.add_le_add_left (by decide : 1 ≤ 64) _) hr.units
section
variable {X : Cx}
theorem pv (i : Nat) {x : Str} {pos : Pos} (hN : X.N[i]? = some x := by rfl) (hv : Vis X.env.scope x := by first | exact Or.inl rfl | exact Or.inr (Or.inl rfl) | exact Or.inr (Or.inr rfl)) (hd : (x == ("__debug__" : Str)) = false := by decide)
    (hcd : (x == ("__classdict__" : Str)) = false := by decide) : PE X (.Name x pos) (tVar i) := pe_var hN hv hd hcd
end

theorem iteF {A B : Prop} (h : B) : if false = true then A else B := by
  rw [if_neg Bool.false_ne_true]
  exact h
theorem iteT {A B : Prop} (h : A) : if true = true then A else B := by
  rw [if_pos rfl]
  exact h
def Same (H H' : Hp) : Prop := ∀ b o, H b = some o → H' b = some o
theorem Same.refl (H : Hp) : Same H H := fun _ _ h => h
theorem Same.trans {H H1 H2 : Hp} (a : Same H H1) (b : Same H1 H2) : Same H H2 := fun c o h => b c o (a c o h)
theorem Same.free {H H' : Hp} (e : Same H H') {l : Addr} (h : H' l = Option.none) : H l = Option.none := by
  cases q : H l with
  | none => rfl
  | some o =>
    rw [e l o q] at h
    cases h
theorem Same.seq {K : PySem.W.Frag} {H H' : Hp} {a : Addr} {xs : List V} (e : Same H H') (h : SqL K H a xs) : SqL K H' a xs := by
  rcases h with (h | ⟨o, h⟩) | h
  · exact .inl (.inl (e _ _ h))
  · exact .inl (.inr ⟨o, e _ _ h⟩)
  · exact .inr h

end L2

set_option maxHeartbeats 4000000
namespace L2
open PySem PySem.Spec PyProof.Rows

section
variable {κ : Type} [DecidableEq κ]
def valV (kvs : List (κ × V)) (k : κ) : Option V := (kvs.find? fun kv => decide (kv.1 = k)).map (·.2)
def putK (kvs : List (κ × V)) (k : κ) (v : V) : List (κ × V) :=
  if (kvs.any fun kv => decide (kv.1 = k)) = true then kvs.map (fun kv => if kv.1 = k then (kv.1, v) else kv) else kvs ++ [(k, v)]
def dropK (kvs : List (κ × V)) (k : κ) : List (κ × V) := kvs.filter fun kv => decide (kv.1 ≠ k)

theorem valV_pos {p : κ × V} {r : List (κ × V)} {k : κ} (e : p.1 = k) : valV (p :: r) k = some p.2 := by simp [valV, List.find?_cons, e]
theorem valV_neg {p : κ × V} {r : List (κ × V)} {k : κ} (e : ¬ p.1 = k) : valV (p :: r) k = valV r k := by simp [valV, List.find?_cons, e]
theorem valV_any (k : κ) : ∀ kvs : List (κ × V), (kvs.any fun kv => decide (kv.1 = k)) = (valV kvs k).isSome
  | [] => rfl
  | p :: r => by
    rw [List.any_cons]
    by_cases e : p.1 = k
    · simp only [valV_pos e, decide_eq_true e, Bool.true_or, Option.isSome_some]
    · rw [valV_neg e, decide_eq_false e, Bool.false_or]; exact valV_any k r
theorem length_putK (kvs : List (κ × V)) (k : κ) (v : V) : (putK kvs k v).length ≤ kvs.length + 1 := by
  unfold putK
  split
  · rw [List.length_map]; omega
  · rw [List.length_append, List.length_cons, List.length_nil]; omega
theorem putK_new {kvs : List (κ × V)} {k : κ} (v : V) (h : valV kvs k = none) : putK kvs k v = kvs ++ [(k, v)] := by
  unfold putK
  rw [valV_any, h]
  exact if_neg (by decide)

theorem RelO.isSome_eq {o : Option V} {u : Option Value} (r : RelO o u) : o.isSome = u.isSome := by
  cases o with
  | none => cases u with
    | none => rfl
    | some _ => exact (show False from r).elim
  | some _ => cases u with
    | none => exact (show False from r).elim
    | some _ => rfl
theorem RelO.getD {o : Option V} {u : Option Value} {d : V} {d' : Value} (r : RelO o u) (rd : RelV d d') : RelV (o.getD d) (u.getD d') := by
  cases o with
  | none => cases u with
    | none => exact rd
    | some _ => exact (show False from r).elim
  | some _ => cases u with
    | none => exact (show False from r).elim
    | some _ => exact r

theorem KV.val {kvs : List (κ × V)} {vs : List (κ × Value)} (r : KV kvs vs) (k : κ) : RelO (valV kvs k) (valueAt vs k) := by
  unfold KV at r
  induction r with
  | nil => exact True.intro
  | @cons p q ps qs h t ih =>
    obtain ⟨h1, h2⟩ := h
    by_cases e : p.1 = k
    · have e' : q.1 = k := h1.symm.trans e
      have b : valueAt (q :: qs) k = some q.2 := by simp [valueAt, List.find?_cons, e']
      rw [valV_pos e, b]; exact h2
    · have e' : ¬ q.1 = k := fun z => e (h1.trans z)
      have b : valueAt (q :: qs) k = valueAt qs k := by simp [valueAt, List.find?_cons, e']
      rw [valV_neg e, b]; exact ih
theorem KV.any {kvs : List (κ × V)} {vs : List (κ × Value)} (r : KV kvs vs) (k : κ) : (kvs.any fun kv => decide (kv.1 = k)) = vs.any fun kv => decide (kv.1 = k) := by
  unfold KV at r
  induction r with
  | nil => rfl
  | cons h t ih => rw [List.any_cons, List.any_cons, ih, h.1]
theorem KV.repl {kvs : List (κ × V)} {vs : List (κ × Value)} (r : KV kvs vs) (k : κ) {y : V} {u : Value} (ry : RelV y u) :
    KV (kvs.map fun kv => if kv.1 = k then (kv.1, y) else kv) (vs.map fun kv => if kv.1 = k then (kv.1, u) else kv) := by
  unfold KV at r ⊢
  induction r with
  | nil => exact .nil
  | @cons p q ps qs h t ih =>
    rw [List.map_cons, List.map_cons]
    refine .cons ?_ ih
    obtain ⟨h1, h2⟩ := h
    by_cases e : p.1 = k
    · rw [if_pos e, if_pos (h1.symm.trans e)]; exact ⟨h1, ry⟩
    · rw [if_neg e, if_neg (fun z => e (h1.trans z))]; exact ⟨h1, h2⟩
theorem KV.put {kvs : List (κ × V)} {vs : List (κ × Value)} (r : KV kvs vs) (k : κ) {y : V} {u : Value} (ry : RelV y u) : KV (putK kvs k y) (stored vs k u) := by
  unfold putK stored
  rw [r.any k]
  by_cases e : (vs.any fun kv => decide (kv.1 = k)) = true
  · rw [if_pos e, if_pos e]; exact r.repl k ry
  · rw [if_neg e, if_neg e]; exact Paired.snoc r ⟨rfl, ry⟩
theorem KV.drop {kvs : List (κ × V)} {vs : List (κ × Value)} (r : KV kvs vs) (k : κ) : KV (dropK kvs k) (without vs k) := by
  unfold KV at r ⊢
  unfold dropK without
  induction r with
  | nil => exact .nil
  | @cons p q ps qs h t ih =>
    obtain ⟨h1, h2⟩ := h
    rw [List.filter_cons, List.filter_cons]
    by_cases e : p.1 = k
    · have a : ¬ decide (p.1 ≠ k) = true := by simp [e]
      have b : ¬ decide (q.1 ≠ k) = true := by simp [h1.symm.trans e]
      rw [if_neg a, if_neg b]; exact ih
    · have e' : ¬ q.1 = k := fun z => e (h1.trans z)
      have a : decide (p.1 ≠ k) = true := by simp [e]
      have b : decide (q.1 ≠ k) = true := by simp [e']
      rw [if_pos a, if_pos b]; exact .cons ⟨h1, h2⟩ ih
theorem KV.keys {kvs : List (κ × V)} {vs : List (κ × Value)} (r : KV kvs vs) : kvs.map (·.1) = vs.map (·.1) := by
  unfold KV at r
  induction r with
  | nil => rfl
  | cons h t ih => rw [List.map_cons, List.map_cons, ih, h.1]
theorem KV.length {kvs : List (κ × V)} {vs : List (κ × Value)} (r : KV kvs vs) : kvs.length = vs.length := Paired.length r
end

theorem kV_is {P : Program} {w : World} {k : Key} {u : Value} (r : RelV (kV k) u) : (mixKind P w).is k u = true := by
  cases k with
  | inl i => obtain ⟨t, e⟩ := (show ∃ t, u = Value.int i t from r); subst e; exact mixKind_int P w i t
  | inr x => obtain ⟨t, e⟩ := (show ∃ t, u = Value.str x t from r); subst e; exact mixKind_str P w x t
theorem items_are {P : Program} {w : World} : ∀ {ks : List Key} {us : List Value}, Vals (ks.map kV) us → ItemsAre (mixKind P w) ks us
  | [], _, r => by rw [List.map_nil] at r; cases r; exact .nil
  | k :: ks, _, r => by
    rw [List.map_cons] at r
    cases r with
    | cons h t => exact .cons (kV_is h) (items_are t)

abbrev KT (H : Hp) : List (List Key × V) → List (List Key × Addr × Value) → Prop := Paired fun p q => p.1 = q.1 ∧ H q.2.1 = some (.tup (p.1.map kV)) ∧ RelV p.2 q.2.2
theorem KT.val {H : Hp} {kvs : List (List Key × V)} {xs : List (List Key × Addr × Value)} (r : KT H kvs xs) (k : List Key) : RelO (valV kvs k) ((atKey xs k).map (·.2)) := by
  induction r with
  | nil => exact True.intro
  | @cons p q ps qs h t ih =>
    obtain ⟨h1, _, h2⟩ := h
    by_cases e : p.1 = k
    · have e' : q.1 = k := h1.symm.trans e
      have b : atKey (q :: qs) k = some q.2 := by simp [atKey, List.find?_cons, e']
      rw [valV_pos e, b]; exact h2
    · have e' : ¬ q.1 = k := fun z => e (h1.trans z)
      have b : atKey (q :: qs) k = atKey qs k := by simp [atKey, List.find?_cons, e']
      rw [valV_neg e, b]; exact ih
theorem KT.repl {H : Hp} {kvs : List (List Key × V)} {xs : List (List Key × Addr × Value)} (r : KT H kvs xs) (k : List Key) {y : V} {u : Value} (ry : RelV y u) :
    KT H (kvs.map fun kv => if kv.1 = k then (kv.1, y) else kv) (xs.map (putAt k u)) := by
  induction r with
  | nil => exact .nil
  | @cons p q ps qs h t ih =>
    rw [List.map_cons, List.map_cons]
    refine .cons ?_ ih
    obtain ⟨h1, h2, h3⟩ := h
    unfold putAt
    by_cases e : p.1 = k
    · rw [if_pos e, if_pos (h1.symm.trans e)]; exact ⟨h1, h2, ry⟩
    · rw [if_neg e, if_neg (fun z => e (h1.trans z))]; exact ⟨h1, h2, h3⟩
theorem KT.put {H : Hp} {kvs : List (List Key × V)} {xs : List (List Key × Addr × Value)} (r : KT H kvs xs) (k : List Key) {b : Addr} {y : V} {u : Value} (hb : H b = some (.tup (k.map kV))) (ry : RelV y u) :
    KT H (putK kvs k y) (storedH xs k b u) := by
  have e : (kvs.any fun kv => decide (kv.1 = k)) = (atKey xs k).isSome := by
    rw [valV_any, (r.val k).isSome_eq, Option.isSome_map]
  unfold putK storedH
  rw [e]
  by_cases q : (atKey xs k).isSome = true
  · rw [if_pos q, if_pos q]; exact r.repl k ry
  · rw [if_neg q, if_neg q]; exact Paired.snoc r ⟨rfl, hb, ry⟩
theorem KT.keeps {H H' : Hp} {kvs : List (List Key × V)} {xs : List (List Key × Addr × Value)} (r : KT H kvs xs) (ht : ∀ b ys, H b = some (.tup ys) → H' b = some (.tup ys)) : KT H' kvs xs :=
  Paired.mapP r fun _ _ z => ⟨z.1, ht _ _ z.2.1, z.2.2⟩

section
variable {P : Program} {w : World} {H : Hp} {h : Heap} {a : Addr}
theorem rd_of {u : HO} (ok : HOk P w H h) (e : Rd H a u) : ObjOk P w H h a u := e.ok ok
theorem dk_rd {kvs : List (Key × V)} (ok : HOk P w H h) (e : Rd H a (.dK kvs)) : kvs.length ≤ sizeLine ∧ (a == sysModules) = false ∧ ∃ vs, KV kvs vs ∧ h.DictOf (mixKind P w) a vs :=
  show ObjOk P w H h a (.dK kvs) from rd_of ok e
theorem dk_of {kvs : List (Key × V)} (ok : HOk P w H h) (e : H a = some (.dK kvs)) : kvs.length ≤ sizeLine ∧ (a == sysModules) = false ∧ ∃ vs, KV kvs vs ∧ h.DictOf (mixKind P w) a vs := dk_rd ok (.inl e)
theorem key_of {ks : List Key} (ok : HOk P w H h) (e : H a = some (.tup (ks.map kV))) : (tupleKind (mixKind P w)).is h ks a := by
  obtain ⟨_, its, r, o, h1, h2, n, h3⟩ := (show ObjOk P w H h a (.tup (ks.map kV)) from ok a _ e)
  exact ⟨o, its.toArray, n, h1, h2, h3, by simpa using items_are r⟩
theorem dt_rd {kvs : List (List Key × V)} (ok : HOk P w H h) (e : Rd H a (.dT kvs)) : kvs.length ≤ sizeLine ∧ (a == sysModules) = false ∧
    ∃ xs, KT H kvs xs ∧ h.DictOfH (tupleKind (mixKind P w)) a xs := by
  obtain ⟨z, y, xs, r, o, es, ep, h1, h2, h3, h4, h5⟩ := (show ObjOk P w H h a (.dT kvs) from rd_of ok e)
  refine ⟨z, y, xs, r, o, es, ep, h1, h2, h3, h4, fun x hx => ?_, h5⟩
  have all : ∀ {l : List (List Key × V)} {m : List (List Key × Addr × Value)}, KT H l m → ∀ x ∈ m, (tupleKind (mixKind P w)).is h x.1 x.2.1 := by
    intro l m q
    induction q with
    | nil => intro x hx; exact nomatch hx
    | @cons p q ps qs hq t ih =>
      intro x hx
      rcases List.mem_cons.mp hx with e | hx
      · subst e
        exact key_of ok (by rw [← hq.1]; exact hq.2.1)
      · exact ih x hx
  exact all r x hx
theorem dt_of {kvs : List (List Key × V)} (ok : HOk P w H h) (e : H a = some (.dT kvs)) : kvs.length ≤ sizeLine ∧ (a == sysModules) = false ∧
    ∃ xs, KT H kvs xs ∧ h.DictOfH (tupleKind (mixKind P w)) a xs := dt_rd ok (.inl e)
end

def DGet (H : Hp) (a : Addr) (y : V) (r : Option V) : Prop :=
  (∃ kvs k, Rd H a (.dK kvs) ∧ y = kV k ∧ r = valV kvs k) ∨ ∃ kvs k b, Rd H a (.dT kvs) ∧ y = .ref b ∧ H b = some (.tup (k.map kV)) ∧ r = valV kvs k
def DPut (H : Hp) (a : Addr) (y v : V) (H' : Hp) : Prop :=
  (∃ kvs k, H a = some (.dK kvs) ∧ y = kV k ∧ kvs.length < sizeLine ∧ H' = upd H a (.dK (putK kvs k v))) ∨
  ∃ kvs k b, H a = some (.dT kvs) ∧ y = .ref b ∧ H b = some (.tup (k.map kV)) ∧ kvs.length < sizeLine ∧ H' = upd H a (.dT (putK kvs k v))
theorem DGet.k {H : Hp} {a : Addr} {kvs : List (Key × V)} {k : Key} (e : H a = some (.dK kvs)) : DGet H a (kV k) (valV kvs k) := .inl ⟨kvs, k, .inl e, rfl, rfl⟩
theorem DGet.t {H : Hp} {a b : Addr} {kvs : List (List Key × V)} {k : List Key} (e : H a = some (.dT kvs)) (eb : H b = some (.tup (k.map kV))) : DGet H a (.ref b) (valV kvs k) := .inr ⟨kvs, k, b, .inl e, rfl, eb, rfl⟩
theorem DPut.k {H : Hp} {a : Addr} {kvs : List (Key × V)} {k : Key} {v : V} (e : H a = some (.dK kvs)) (hl : kvs.length < sizeLine) : DPut H a (kV k) v (upd H a (.dK (putK kvs k v))) := .inl ⟨kvs, k, e, rfl, hl, rfl⟩
theorem DPut.t {H : Hp} {a b : Addr} {kvs : List (List Key × V)} {k : List Key} {v : V} (e : H a = some (.dT kvs)) (eb : H b = some (.tup (k.map kV))) (hl : kvs.length < sizeLine) :
    DPut H a (.ref b) v (upd H a (.dT (putK kvs k v))) := .inr ⟨kvs, k, b, e, rfl, eb, hl, rfl⟩

section
variable {X : Cx} {pins : List (Addr × Obj)} {σ : St} {H : Hp} {s : Shared} {a : Addr} {y v : V} {u r : Value} {o : Option V} {A : Around} {E : Value → Shared → Prop}

theorem Inv.big (I : Inv X pins σ H s) : sysModules < s.heap.objs.size := by
  have h : mainGlobals < s.heap.objs.size := (I.mod.glob.keeps I.bk).lt
  exact Nat.lt_trans (by decide) h

theorem d_getItem {Q : Value → Shared → Prop} (hu : A.units + 1 < cLine) (I : Inv X pins σ H s) (g : DGet H a y (some v)) (ry : RelV y u) (h : ∀ w' s', Inv X pins σ H s' → RelV v w' → Q w' s') :
    wpAny (model X.prog X.w) A (getItem (.ref a) u) Q E s := by
  rcases g with ⟨kvs, k, e, ey, l⟩ | ⟨kvs, k, b, e, ey, eb, l⟩
  · subst ey
    obtain ⟨z, hd, vs, rel, dd⟩ := dk_rd I.hok e
    obtain ⟨w', hw, rw'⟩ := RelO.some_of (v := v) (o := valueAt vs k) (by rw [l]; exact rel.val k)
    exact wpAny_getItem_of (kV_is ry) dd.mapOf hw (h w' _ (I.tok _) rw')
  · subst ey
    cases (show u = Value.ref b from ry)
    obtain ⟨z, hd, xs, rel, dd⟩ := dt_rd I.hok e
    obtain ⟨w', hw, rw'⟩ := RelO.some_of (v := v) (o := (atKey xs k).map (·.2)) (by rw [l]; exact rel.val k)
    obtain ⟨p, hp, hp2⟩ := Option.map_eq_some_iff.mp hw
    refine wpAny_getItem_heap (tupleKind_room_in1 hu) (key_of I.hok eb) dd hp ?_
    rw [hp2]
    exact h w' _ (I.tok _) rw'
theorem d_notIn {Q : Value → Shared → Prop} (hu : A.units + 1 < cLine) (I : Inv X pins σ H s) (g : DGet H a y o) (ry : RelV y u) (h : ∀ s', Inv X pins σ H s' → Q (.bool (!o.isSome)) s') :
    wpAny (model X.prog X.w) A (compareOp .NotIn u (.ref a)) Q E s := by
  rcases g with ⟨kvs, k, e, ey, l⟩ | ⟨kvs, k, b, e, ey, eb, l⟩
  · subst ey
    obtain ⟨z, hd, vs, rel, dd⟩ := dk_rd I.hok e
    refine wpAny_notIn_of (kV_is ry) hd dd.mapOf ?_
    rw [← (rel.val k).isSome_eq, ← l]
    exact h _ (I.tok _)
  · subst ey
    cases (show u = Value.ref b from ry)
    obtain ⟨z, hd, xs, rel, dd⟩ := dt_rd I.hok e
    refine wpAny_notIn_heap (tupleKind_room_in1 hu) (key_of I.hok eb) hd dd ?_
    have q := (rel.val k).isSome_eq
    rw [Option.isSome_map] at q
    rw [← q, ← l]
    exact h _ (I.tok _)
theorem d_write {h' : Heap} {t' : Nat} {ob : HO} (I : Inv X pins σ H s) (mu : Mut (H a)) (hs : Heap.SameBut a s.heap h') (he : ∃ q, h'.get? a = some q) (new : ObjOk X.prog X.w (upd H a ob) h' a ob) :
    Inv X pins σ (upd H a ob) { s with heap := h', toks := t' } :=
  I.write (x := a) (e := a) mu (.inl rfl) (fun b q hb z => (hs.2 b hb).trans z) he new
theorem dk_new {P : Program} {w : World} {H' : Hp} {h' : Heap} {kvs : List (Key × V)} {vs : List (Key × Value)} (z : kvs.length ≤ sizeLine) (hd : (a == sysModules) = false) (rel : KV kvs vs) (dd : h'.DictOf (mixKind P w) a vs) :
    ObjOk P w H' h' a (.dK kvs) := ⟨z, hd, vs, rel, dd⟩
theorem d_setItem {H' : Hp} {Q : Unit → Shared → Prop} (hu : A.units + 1 < cLine) (I : Inv X pins σ H s) (g : DPut H a y v H') (ry : RelV y u) (rv : RelV v r) (h : ∀ s', Inv X pins σ H' s' → Q () s') :
    wpAny (model X.prog X.w) A (setItem (.ref a) u r) Q E s := by
  rcases g with ⟨kvs, k, e, ey, l, eH⟩ | ⟨kvs, k, b, e, ey, eb, l, eH⟩
  · subst ey eH
    obtain ⟨z, hd, vs, rel, dd⟩ := dk_of I.hok e
    have hz : vs.length ≤ sizeLine := by rw [← rel.length]; exact z
    have hl : (putK kvs k v).length ≤ sizeLine := by have := length_putK kvs k v; omega
    refine wpAny_setItem_pairs (hsz := hz) (kV_is ry) dd fun h' dd' hs => h _ ?_
    have he : ∃ q, h'.get? a = some q := let ⟨q, _, _, hq, _⟩ := dd'; ⟨q, hq⟩
    exact d_write I (by rw [e]; exact True.intro) hs he (dk_new hl hd (rel.put k rv) dd')
  · subst ey eH
    cases (show u = Value.ref b from ry)
    obtain ⟨z, hd, xs, rel, dd⟩ := dt_of I.hok e
    have hz : xs.length ≤ sizeLine := by rw [← Paired.length rel]; exact z
    have hl : (putK kvs k v).length ≤ sizeLine := by have := length_putK kvs k v; omega
    refine wpAny_setItem_heap (hsz := hz) (tupleKind_room_in1 hu) (key_of I.hok eb) dd fun h' dd' hs => h _ ?_
    obtain ⟨q, es, ep, hq, h2, h3, h4, _, h5⟩ := dd'
    refine d_write I (by rw [e]; exact True.intro) hs ⟨q, hq⟩ ⟨hl, hd, _, (rel.put k eb rv).keeps fun c ys ec => ?_, q, es, ep, hq, h2, h3, h4, h5⟩
    rw [upd_ne (ne_of ec e (fun z => nomatch z))]
    exact ec
end


def NoSl (i : Expr) : Prop := ∀ ov iv, subscripted i false ov iv = operate [ov, iv] (getItem ov iv)
theorem subD_of {prog : Program} {w : World} {A : Around} {E : Value → Shared → Prop} {s : Shared} {env : Env} {value slice : Expr} {pos : Pos} {T id : String} {Q : Value → Shared → Prop}
    (hl : typeLookup (.type T) "__getitem__" = pure (some (.builtin id))) (hs : NoSl slice)
    (h : wpAny (model prog w) A (eval value env) (fun o s₁ => wpAny (model prog w) A (eval slice env) (fun i s₂ => s₂.TypeIs o T ∧ wpAny (model prog w) A (getItem o i) Q E s₂) E s₁) E s) :
    wpAny (model prog w) A (eval (.Subscript value slice pos) env) Q E s := by
  refine Subscript_ (wpAny_mono h (fun o s₁ h₁ => wpAny_mono h₁ (fun i s₂ h₂ => ?_) fun _ _ x => x) fun _ _ x => x)
  obtain ⟨hT, h₂⟩ := h₂
  unfold subscriptTail
  refine wpAny_bind ?_
  rw [getitemInPython_of_ne hT.not_modules]
  refine wpAny_bind (wpAny_specialOf hT hl ?_)
  have fin : wpAny (model prog w) A (subscripted slice false o i) (fun r s₃ => wpAny (model prog w) A (letTemporaryGo value o r >>= fun _ => pure r) Q E s₃) E s₂ := by
    rw [hs o i]
    exact wpAny_operating (wpAny_mono h₂ (fun r s₃ h₃ => wpAny_bind (wpAny_letTemporaryGo (wpAny_pure h₃))) fun _ _ x => x)
  first
    | exact wpAny_pure (wpAny_bind fin)
    | exact wpAny_bind (wpAny_pure (wpAny_bind fin))
    | exact wpAny_bind fin

theorem dict_typeIs {X : Cx} {pins : List (Addr × Obj)} {σ : St} {H : Hp} {s : Shared} {a : Addr} {y : V} {o : Option V} (I : Inv X pins σ H s) (g : DGet H a y o) : s.TypeIs (.ref a) "dict" := by
  rcases g with ⟨kvs, k, e, _, _⟩ | ⟨kvs, k, b, e, _, _, _⟩
  · obtain ⟨_, _, vs, _, dd⟩ := dk_rd I.hok e
    exact dd.typeIs
  · obtain ⟨_, _, xs, _, dd⟩ := dt_rd I.hok e
    exact dd.typeIs
def tDGet (td ty : TE) : TE := fun σ H Q => td σ H fun x H1 => ty σ H1 fun y H2 => ∃ a v, x = .ref a ∧ DGet H2 a y (some v) ∧ Q v H2
def tDNotIn (ty td : TE) : TE := fun σ H Q => ty σ H fun y H1 => td σ H1 fun x H2 => ∃ a o, x = .ref a ∧ DGet H2 a y o ∧ Q (.bl (!o.isSome)) H2
def sDPut (td ty tv : TE) : TS := fun D σ H => tv σ H fun v H1 => td σ H1 fun x H2 => ty σ H2 fun y H3 => ∃ a H4, x = .ref a ∧ DPut H3 a y v H4 ∧ D.nx σ H4
section
variable {X : Cx} {o i e value : Expr} {pos pos' tpos : Pos} {td ty tv : TE}
theorem pe_dget (hu : X.A.units + 1 < cLine) (ho : PE X o td) (hi : PE X i ty) (hs : NoSl i) : PE X (.Subscript o i pos) (tDGet td ty) := by
  intro pins s σ H Q I h
  refine subD_of PySem.F.slot_dict_getitem.lookup hs (thn (ho pins s σ H _ I h) fun u s1 ⟨x, H1, I1, rx, q1⟩ => thn (hi pins s1 σ H1 _ I1 q1) fun iv s2 ⟨y, H2, I2, ry, a, v, ex, g, q2⟩ => ?_)
  subst ex
  obtain rfl : u = Value.ref a := rx
  exact ⟨dict_typeIs I2 g, d_getItem hu I2 g ry fun w' s3 I3 rw' => ⟨v, H2, I3, rw', q2⟩⟩
theorem pc_dnotin (hu : X.A.units + 1 < cLine) (hi : PE X i ty) (ho : PE X o td) : PC X .NotIn i o (tDNotIn ty td) := by
  intro pins s σ H Q I h
  refine thn (hi pins s σ H _ I h) fun iv s1 ⟨y, H1, I1, ry, q1⟩ => thn (ho pins s1 σ H1 _ I1 q1) fun u s2 ⟨x, H2, I2, rx, a, ov, ex, g, q2⟩ => ?_
  subst ex
  obtain rfl : u = Value.ref a := rx
  exact d_notIn hu I2 g ry fun s3 I3 => ⟨.bl (!ov.isSome), H2, I3, rfl, q2⟩
theorem ps_dput (hu : X.A.units + 1 < cLine) (ho : PE X o td) (hi : PE X i ty) (hv : PE X value tv) (hs : swapsWith value (some (.Subscript o i pos')) pos.line X.env = pure false) :
    PS X (.Assign [.Subscript o i pos'] value pos) (sDPut td ty tv) := by
  intro pins s σ H D I h
  refine wpAny_Assign_Subscript (thn (hv pins s σ H _ I h) fun r s1 ⟨v, H1, I1, rv, q1⟩ => thn (ho pins s1 σ H1 _ I1 q1) fun u s2 ⟨x, H2, I2, rx, q2⟩ => thn (hi pins s2 σ H2 _ I2 q2) fun iv s3 ⟨y, H3, I3, ry, a, H4, ex, g, q3⟩ => ?_) hs
  subst ex
  obtain rfl : u = Value.ref a := rx
  exact d_setItem hu I3 g ry rv fun s4 I4 => ⟨σ, H4, I4, q3⟩
end

theorem dk_empty {P : Program} {w : World} {H : Hp} (h : Heap) (hb : sysModules < h.objs.size) : ObjOk P w H (h.push { cls := .type "dict", data := .dict #[] }) h.objs.size (.dK []) :=
  ⟨Nat.zero_le _, beq_eq_false_iff_ne.mpr (Ne.symm (Nat.ne_of_lt hb)), [], .nil, Heap.DictOf.new h⟩
def tDNewK : TE := fun _ H Q => ∀ p, H p = none → Q (.ref p) (upd H p (.dK []))
section
variable {X : Cx} {pos : Pos}
theorem pe_dnewK : PE X (.Dict [] [] pos) tDNewK := fun pins s σ H Q I h =>
  wpAny_Dict_empty ⟨.ref s.heap.objs.size, _, I.laid (a := s.heap.objs.size) (o := .dK []) (t' := s.toks) (fun _ _ q => Heap.get?_push_of_some _ q) (Nat.le_refl _) (dk_empty s.heap I.big), rfl, h _ (I.hok.fresh (Nat.le_refl _))⟩
end

def tPairs : List (TE × TE) → St → Hp → (List (V × V) → Hp → Prop) → Prop
  | [], _, H, Q => Q [] H
  | (tk, tv) :: r, σ, H, Q => tk σ H fun x H1 => tv σ H1 fun y H2 => tPairs r σ H2 fun ps H3 => Q ((x, y) :: ps) H3
abbrev VV : List (V × V) → List (Value × Value) → Prop := Paired fun p q => RelV p.1 q.1 ∧ RelV p.2 q.2
def PPs (X : Cx) (pos : Pos) (keys : List (Option Expr)) (values : List Expr) (trs : List (TE × TE)) : Prop :=
  ∀ (pins : List (Addr × Obj)) (s : Shared) (σ : St) (H : Hp) (Q : List (V × V) → Hp → Prop), Inv X pins σ H s → tPairs trs σ H Q →
    wpAny (model X.prog X.w) X.A (evalPairs (pairTrees keys values X.env pos)) (fun vs s' => ∃ ps H', Inv X pins σ H' s' ∧ VV ps vs ∧ Q ps H') X.xe s
theorem pps_nil {X : Cx} {pos : Pos} : PPs X pos [] [] [] := fun pins s σ H Q I h => pairTrees_nil_walk ⟨[], H, I, .nil, h⟩
theorem pps_cons {X : Cx} {pos : Pos} {k v : Expr} {ks : List (Option Expr)} {vs : List Expr} {tk tv : TE} {trs : List (TE × TE)} (hk : PE X k tk) (hv : PE X v tv) (hr : PPs X pos ks vs trs) :
    PPs X pos (some k :: ks) (v :: vs) ((tk, tv) :: trs) := fun pins s σ H Q I h =>
  pairTrees_cons_walk (thn (hk pins s σ H _ I h) fun u s1 ⟨x, H1, I1, rx, q1⟩ => thn (hv pins s1 σ H1 _ I1 q1) fun w2 s2 ⟨y, H2, I2, ry, q2⟩ =>
    thn (hr pins s2 σ H2 _ I2 q2) fun ws s3 ⟨ps, H3, I3, rel, q3⟩ => ⟨(x, y) :: ps, H3, I3, .cons ⟨rx, ry⟩ rel, q3⟩)

def mergeK (kvs more : List (Key × V)) : List (Key × V) := more.foldl (fun acc kv => putK acc kv.1 kv.2) kvs
theorem KV.merge : ∀ {more : List (Key × V)} {rs : List (Key × Value)} {kvs : List (Key × V)} {vs : List (Key × Value)}, KV more rs → KV kvs vs → KV (mergeK kvs more) (merged vs rs) := by
  intro more rs kvs vs r
  unfold KV at r
  induction r generalizing kvs vs with
  | nil => intro q; exact q
  | @cons p q ps qs h t ih =>
    intro r0
    have e : KV (putK kvs p.1 p.2) (stored vs q.1 q.2) := by
      have := r0.put p.1 h.2
      rw [← h.1]; exact this
    exact ih e
theorem length_mergeK : ∀ (more kvs : List (Key × V)), (mergeK kvs more).length ≤ kvs.length + more.length
  | [], kvs => by show kvs.length ≤ kvs.length + 0; omega
  | p :: r, kvs => by
    have h1 := length_mergeK r (putK kvs p.1 p.2)
    have h2 := length_putK kvs p.1 p.2
    show (mergeK (putK kvs p.1 p.2) r).length ≤ _
    rw [List.length_cons]; omega
theorem carries_of {P : Program} {w : World} : ∀ {kvs : List (Key × V)} {ws : List (Value × Value)}, VV (kvs.map fun kv => (kV kv.1, kv.2)) ws → ∃ rs, Carries (mixKind P w) ws rs ∧ KV kvs rs
  | [], _, r => by rw [List.map_nil] at r; cases r; exact ⟨[], True.intro, .nil⟩
  | p :: kvs, _, r => by
    rw [List.map_cons] at r
    cases r with
    | @cons a b as bs h t =>
      obtain ⟨rs, c, q⟩ := carries_of (P := P) (w := w) t
      obtain ⟨b1, b2⟩ := b
      exact ⟨(p.1, b2) :: rs, ⟨kV_is h.1, rfl, c⟩, .cons ⟨rfl, h.2⟩ q⟩
def tDisp (trs : List (TE × TE)) : TE := fun σ H Q => ∀ p, H p = none → tPairs trs σ (upd H p (.dK [])) fun ps H2 => H2 p = some (.dK []) ∧ ∃ kvs : List (Key × V), ps = kvs.map (fun kv => (kV kv.1, kv.2)) ∧ kvs.length ≤ 15 ∧ Q (.ref p) (upd H2 p (.dK (mergeK [] kvs)))
theorem pe_disp {X : Cx} {pos : Pos} {keys : List (Option Expr)} {values : List Expr} {trs : List (TE × TE)} (h : PPs X pos keys values trs) (hall : keys.all (·.isSome) = true) (hl : keys.length = values.length) (h0 : keys ≠ [])
    (h15 : keys.length ≤ 15) : PE X (.Dict keys values pos) (tDisp trs) := by
  intro pins s σ H Q I q
  have hn := I.hok.fresh (Nat.le_refl s.heap.objs.size)
  have I1 := I.laid (a := s.heap.objs.size) (o := .dK []) (h' := s.heap.push { cls := .type "dict", data := .dict #[] }) (t' := s.toks) (fun _ _ q => Heap.get?_push_of_some _ q) (Nat.le_refl _) (dk_empty s.heap I.big)
  refine wpAny_Dict_walk (knd := mixKind X.prog X.w) hall hl h0 h15 (thn (h pins _ σ _ _ I1 (q _ hn)) fun ws s2 ⟨ps, H2, I2, rel, e, kvs, ep, lk, q2⟩ => ?_)
  subst ep
  obtain ⟨rs, c, rk⟩ := carries_of (P := X.prog) (w := X.w) rel
  obtain ⟨z, hd, vs0, r0, dd⟩ := dk_of I2.hok e
  cases r0
  refine ⟨rs, c, dd, fun h' dd' hs => ⟨.ref s.heap.objs.size, _, ?_, rfl, q2⟩⟩
  have hz : (mergeK [] kvs).length ≤ sizeLine := by
    have h1 := length_mergeK kvs []
    rw [List.length_nil] at h1
    rw [sizeLine_eq]; omega
  have he : ∃ q, h'.get? s.heap.objs.size = some q := let ⟨q, _, _, hq, _⟩ := dd'; ⟨q, hq⟩
  exact d_write I2 (by rw [e]; exact True.intro) hs he (dk_new hz hd (rk.merge .nil) dd')

structure M1 (X : Cx) (o : Expr) (m : Str) (apos : Pos) (e : Expr) (cpos : Pos) : Prop where
  base : attributeBase o m X.env (eval o X.env) = eval o X.env
  few : ((backTo cpos (starEach [e] X.env)).all (fun x => !x.1) && (backToKw cpos (keywordEach [] X.env)).all (fun x => x.1.isSome)
    && decide (([e] : List Expr).length + ([] : List Keyword).length + (if ([] : List Keyword).isEmpty then 0 else 1) < 30)) = true
  line : (apos.endLine == cpos.line) = true
  trees : backTo cpos (starEach [e] X.env) = [(false, eval e X.env)]
structure M2 (X : Cx) (o : Expr) (m : Str) (apos : Pos) (e f : Expr) (cpos : Pos) : Prop where
  base : attributeBase o m X.env (eval o X.env) = eval o X.env
  few : ((backTo cpos (starEach [e, f] X.env)).all (fun x => !x.1) && (backToKw cpos (keywordEach [] X.env)).all (fun x => x.1.isSome)
    && decide (([e, f] : List Expr).length + ([] : List Keyword).length + (if ([] : List Keyword).isEmpty then 0 else 1) < 30)) = true
  line : (apos.endLine == cpos.line) = true
  trees : backTo cpos (starEach [e, f] X.env) = [(false, eval e X.env), (false, eval f X.env)]

def IsD (H : Hp) (a : Addr) : Prop := (∃ kvs, Rd H a (.dK kvs)) ∨ ∃ kvs, Rd H a (.dT kvs)
theorem isD_at {X : Cx} {pins : List (Addr × Obj)} {σ : St} {H : Hp} {s : Shared} {a : Addr} (I : Inv X pins σ H s) (d : IsD H a) :
    s.TypeIs (.ref a) "dict" ∧ (∀ b, Value.ref a = .ref b → ∃ ob, s.heap.get? b = some ob ∧ ob.dict = none) ∧ (a == sysModules) = false := by
  rcases d with ⟨kvs, e⟩ | ⟨kvs, e⟩
  · obtain ⟨_, hd, vs, _, dd⟩ := dk_rd I.hok e
    refine ⟨dd.typeIs, fun b q => ?_, hd⟩
    cases q
    obtain ⟨ob, _, _, h1, h2, _⟩ := dd
    exact ⟨ob, h1, h2.2.1⟩
  · obtain ⟨_, hd, xs, _, dd⟩ := dt_rd I.hok e
    refine ⟨dd.typeIs, fun b q => ?_, hd⟩
    cases q
    obtain ⟨ob, _, _, h1, h2, _⟩ := dd
    exact ⟨ob, h1, h2.2.1⟩

section
variable {X : Cx} {pins : List (Addr × Obj)} {σ : St} {H : Hp} {s : Shared} {a : Addr} {y d : V} {u r : Value} {o : Option V} {A : Around} {E : Value → Shared → Prop}
theorem d_get2 {Q : Value → Shared → Prop} (hu : A.units + 1 < cLine) (I : Inv X pins σ H s) (g : DGet H a y o) (ry : RelV y u) (rd : RelV d r) (h : ∀ w' s', Inv X pins σ H s' → RelV (o.getD d) w' → Q w' s') :
    wpAny (model X.prog X.w) A (call (.builtin "dict.get") [.ref a, u, r]) Q E s := by
  rcases g with ⟨kvs, k, e, ey, l⟩ | ⟨kvs, k, b, e, ey, eb, l⟩
  · subst ey
    obtain ⟨z, hd, vs, rel, dd⟩ := dk_rd I.hok e
    refine call_meetsIn PySem.F.slot_dict_get dd.typeIs PySem.F.entry_dict_get (PySem.F.args_dict_get_3 _ _ _) (meets_dict_get_default (mixKind X.prog X.w) a (kV_is ry) hd r) ⟨_, dd.mapOf, h _ _ (I.tok _) ?_⟩
    rw [l]
    exact (rel.val k).getD rd
  · subst ey
    cases (show u = Value.ref b from ry)
    obtain ⟨z, hd, xs, rel, dd⟩ := dt_rd I.hok e
    refine call_meetsIn PySem.F.slot_dict_get dd.typeIs PySem.F.entry_dict_get (PySem.F.args_dict_get_3 _ _ _) (meetsH_dict_get_default (tupleKind (mixKind X.prog X.w)) a b hd r) ⟨tupleKind_room_in1 hu, k, xs, key_of I.hok eb, dd, h _ _ (I.tok _) ?_⟩
    rw [l]
    exact (rel.val k).getD rd
end

def tDGet2 (td ty tx : TE) : TE := fun σ H Q => td σ H fun x H1 => ∃ a, x = .ref a ∧ IsD H1 a ∧ ty σ H1 fun y H2 => tx σ H2 fun z H3 => ∃ o, DGet H3 a y o ∧ Q (o.getD z) H3
section
variable {X : Cx} {o e f : Expr} {apos cpos : Pos} {td ty tx : TE}
theorem pe_dget2 (hu : X.A.units + 1 < cLine) (ho : PE X o td) (he : PE X e ty) (hf : PE X f tx) (m : M2 X o "get" apos e f cpos) : PE X (.Call (.Attribute o "get" apos) [e, f] [] cpos) (tDGet2 td ty tx) := by
  intro pins s σ H Q I h
  refine wpAny_Call_method m.base m.few m.line PySem.F.plainAttrs_dict PySem.F.slot_dict_get PySem.F.type_dict_get (thn (ho pins s σ H _ I h) fun u s1 ⟨x, H1, I1, rx, a, ex, d, q1⟩ => ?_)
  subst ex
  obtain rfl : u = Value.ref a := rx
  obtain ⟨t1, t2, _⟩ := isD_at I1 d
  refine ⟨t1, t2, ?_⟩
  rw [m.trees]
  refine Calls.callWith_builtin rfl (Calls.evalArgs_plain (Calls.spliced_cons (thn (he pins s1 σ H1 _ I1 q1) fun iv s2 ⟨y, H2, I2, ry, q2⟩ =>
    Calls.spliced_cons (thn (hf pins s2 σ H2 _ I2 q2) fun fv s3 ⟨z, H3, I3, rz, ov, g, q3⟩ => Calls.spliced_nil ?_))))
  exact d_get2 hu I3 g ry rz fun w' s4 I4 rw' => ⟨_, H3, I4, rw', q3⟩
end


end L2

namespace L2
open PySem PySem.Spec PyProof.Rows
end L2

namespace L2
open PySem PySem.Spec PyProof.Rows PySem.Builtin PySem.Builtin.Str

def T (l : List Nat) : Str := ⟨l.toArray⟩
theorem T_cps (l : List Nat) : (T l).cps.toList = l := by simp [T]
theorem T_inj {a b : List Nat} : T a = T b ↔ a = b := by
  constructor
  · intro h
    have := congrArg (fun x : Str => x.cps.toList) h
    simpa [T] using this
  · rintro rfl; rfl
theorem T_len (l : List Nat) : (T l).length = l.length := by simp [T, Str.length]
theorem T_app (a b : List Nat) : T a ++ T b = T (a ++ b) := by
  show Str.append (T a) (T b) = _
  simp [Str.append, T]
theorem T_decide (a b : List Nat) : decide ((V.str (T a)) = V.str (T b)) = decide (a = b) := by
  by_cases h : a = b
  · subst h; simp
  · rw [decide_eq_false h, decide_eq_false]
    intro q; injection q with q; exact h (T_inj.mp q)


end L2

namespace L2
open PySem PySem.Spec PyProof.Rows

def clos (cells : List (Str × Addr)) : List (Str × NameKind) → List (Str × Addr) → List (Str × Addr)
  | [], acc => acc
  | (n, k) :: r, acc => if k == .free then (match cells.lookup n with | some c => clos cells r ((n, c) :: acc) | none => clos cells r acc) else clos cells r acc
theorem clos_sub {cells : List (Str × Addr)} : ∀ (names : List (Str × NameKind)) (acc : List (Str × Addr)), (∀ x c, acc.lookup x = some c → cells.lookup x = some c) → ∀ x c, (clos cells names acc).lookup x = some c → cells.lookup x = some c
  | [], _, h => h
  | (n, k) :: r, acc, h => by
    intro x c
    unfold clos
    split
    · cases e : cells.lookup n with
      | none => exact clos_sub r acc h x c
      | some d =>
        refine clos_sub r _ (fun y z hy => ?_) x c
        rw [List.lookup_cons] at hy
        cases q : y == n with
        | true =>
          rw [q] at hy
          have : y = n := by simpa using q
          subst this
          simpa [e] using hy
        | false => rw [q] at hy; exact h y z hy
    · exact clos_sub r acc h x c
theorem clos_acc {cells : List (Str × Addr)} : ∀ (names : List (Str × NameKind)) (acc : List (Str × Addr)) (x : Str), (acc.lookup x).isSome = true → ((clos cells names acc).lookup x).isSome = true
  | [], _, _, h => h
  | (n, k) :: r, acc, x, h => by
    unfold clos
    split
    · cases e : cells.lookup n with
      | none => exact clos_acc r acc x h
      | some d =>
        refine clos_acc r _ x ?_
        rw [List.lookup_cons]
        cases q : x == n with
        | true => rfl
        | false => exact h
    · exact clos_acc r acc x h
theorem clos_has {cells : List (Str × Addr)} : ∀ (names : List (Str × NameKind)) (acc : List (Str × Addr)) (x : Str), (x, NameKind.free) ∈ names → (cells.lookup x).isSome = true → ((clos cells names acc).lookup x).isSome = true
  | (n, k) :: r, acc, x, hm, hs => by
    unfold clos
    rcases List.mem_cons.mp hm with e | hm
    · cases e
      simp only [beq_self_eq_true, if_true]
      obtain ⟨c, hc⟩ := Option.isSome_iff_exists.mp hs
      rw [hc]
      refine clos_acc r _ _ ?_
      simp [List.lookup_cons]
    · split
      · cases e : cells.lookup n with
        | none => exact clos_has r acc x hm hs
        | some d => exact clos_has r _ x hm hs
      · exact clos_has r acc x hm hs
theorem closure_eq {scope : Scope} {env : Env} (h : ∀ x, (x, NameKind.free) ∈ scope.names → (env.cells.lookup x).isSome = true) : closureFor scope env = pure (clos env.cells scope.names []) := by
  have gen : ∀ (names : List (Str × NameKind)) (acc : List (Str × Addr)), (∀ x, (x, NameKind.free) ∈ names → (env.cells.lookup x).isSome = true) →
      (forIn names acc (fun (p : Str × NameKind) (r : List (Str × Addr)) => (if p.2 == NameKind.free then (do let c ← cellOf env p.1; pure (ForInStep.yield ((p.1, c) :: r))) else pure (ForInStep.yield r) : Sem (ForInStep (List (Str × Addr)))))) = pure (clos env.cells names acc) := by
    intro names
    induction names with
    | nil => intro acc _; rfl
    | cons p r ih =>
      obtain ⟨n, k⟩ := p
      intro acc hh
      rw [List.forIn_cons]
      unfold clos
      cases hk : k == NameKind.free with
      | false =>
        simp only [hk, Bool.false_eq_true, if_false]
        exact ih acc fun x hx => hh x (List.mem_cons_of_mem _ hx)
      | true =>
        have hk' : k = .free := by simpa using hk
        subst hk'
        obtain ⟨c, hc⟩ := Option.isSome_iff_exists.mp (hh n List.mem_cons_self)
        have e : cellOf env n = pure c := by unfold cellOf; rw [hc]
        simp only [beq_self_eq_true, if_true, e, hc]
        exact ih _ fun x hx => hh x (List.mem_cons_of_mem _ hx)
  exact (congrArg (fun (m : Sem (List (Str × Addr))) => m >>= fun cs => pure cs) (gen scope.names [] h)).trans rfl

def lcS (nt : Nat) (cs : List Nat) (σ : St) : St := List.replicate nt none ++ cs.map fun i => (σ[i]?).getD none
def lcCx (X : Cx) (N' : List Str) (scope : Scope) (s : Shared) (H : Hp) (C : Addr) (fp : List Addr) : Cx :=
  { X with N := N', s₀ := s, H₀ := H, env := compEnvC scope (clos X.env.cells scope.names []) C X.env, outer := X.stack, stack := X.stack, ex := fp, fn := fun _ => false, pn := [], xe := fun _ _ => False }
def lcOk (Nx : List Str) (sc scope : Scope) (N' : List Str) (nt : Nat) (cs : List Nat) : Bool :=
  decide (scope.kind = .function) && (scope.names.all fun p => match p.2 with
    | .cell => false
    | .local => decide (scope.names.lookup p.1 = some .local)
    | .free => decide (sc.names.lookup p.1 = some .cell) || decide (sc.names.lookup p.1 = some .free)
    | _ => true) && decide (N'.length = nt + cs.length) && (((N'.drop nt).zip cs).all fun p => decide (Nx[p.2]? = some p.1) && decide (scope.names.lookup p.1 = some .free) && (decide (sc.names.lookup p.1 = some .cell) || decide (sc.names.lookup p.1 = some .free)))
structure LcOk (X : Cx) (scope : Scope) (N' : List Str) (nt : Nat) (cs : List Nat) : Prop where
  kind : scope.kind = .function
  nocell : ∀ y ∈ scope.names, y.2 ≠ .cell
  loc : ∀ y ∈ scope.names, y.2 = .local → scope.names.lookup y.1 = some .local
  fr : ∀ x, (x, NameKind.free) ∈ scope.names → X.env.kindOf x = some .cell ∨ X.env.kindOf x = some .free
  len : N'.length = nt + cs.length
  cap : ∀ j i, cs[j]? = some i → ∃ x, N'[nt + j]? = some x ∧ X.N[i]? = some x ∧ scope.names.lookup x = some .free ∧ Vis X.env.scope x ∧ X.env.kindOf x ≠ some .local
theorem LcOk.of {X : Cx} {scope : Scope} {N' : List Str} {nt : Nat} {cs : List Nat} {Nx : List Str} {sc : Scope} (hN : X.N = Nx) (hs : X.env.scope = sc) (h : lcOk Nx sc scope N' nt cs = true) : LcOk X scope N' nt cs := by
  subst hN hs
  unfold lcOk at h
  simp only [Bool.and_eq_true, decide_eq_true_eq, List.all_eq_true] at h
  obtain ⟨⟨⟨h1, h2⟩, h3⟩, h4⟩ := h
  refine ⟨h1, fun y hy e => ?_, fun y hy e => ?_, fun x hx => ?_, h3, fun j i e => ?_⟩
  · have := h2 y hy; rw [e] at this; exact Bool.false_ne_true this
  · have := h2 y hy; rw [e] at this; exact of_decide_eq_true this
  · have := h2 _ hx
    simp only [Bool.or_eq_true, decide_eq_true_eq] at this
    exact this
  · have hj : j < cs.length := (List.getElem?_eq_some_iff.mp e).1
    have hd : (N'.drop nt).length = cs.length := by rw [List.length_drop, h3]; omega
    have hx : (N'.drop nt)[j]? = some ((N'.drop nt)[j]'(by omega)) := by simp [hd, hj]
    generalize (N'.drop nt)[j]'(by omega) = x at hx
    have hz : (x, i) ∈ (N'.drop nt).zip cs := by
      refine List.mem_of_getElem? (i := j) ?_
      rw [List.getElem?_zip_eq_some]
      exact ⟨hx, e⟩
    have q := h4 _ hz
    simp only [Bool.and_eq_true, Bool.or_eq_true, decide_eq_true_eq] at q
    refine ⟨x, by rw [List.getElem?_drop] at hx; exact hx, q.1.1, q.1.2, ?_, fun z => ?_⟩
    · exact q.2.elim (fun z => .inr (.inl z)) fun z => .inr (.inr z)
    · have z' : X.env.scope.names.lookup x = some .local := z
      rcases q.2 with y | y <;> · rw [z'] at y; cases y
theorem relabel_free {env : Env} : ∀ {names : List (Str × NameKind)} {x : Str}, names.lookup x = some .free →
    (names.map fun (n, k) => if (k == NameKind.free && env.scope.kind == .function && env.kindOf n == some .cell) then (n, NameKind.cell) else (n, k)).lookup x = some .cell ∨
    (names.map fun (n, k) => if (k == NameKind.free && env.scope.kind == .function && env.kindOf n == some .cell) then (n, NameKind.cell) else (n, k)).lookup x = some .free
  | [], _, h => by simp at h
  | (n, k) :: r, x, h => by
    have ih := @relabel_free env r x
    show List.lookup x ((if (k == NameKind.free && env.scope.kind == .function && env.kindOf n == some .cell) = true then (n, NameKind.cell) else (n, k)) :: _) = _ ∨ List.lookup x ((if (k == NameKind.free && env.scope.kind == .function && env.kindOf n == some .cell) = true then (n, NameKind.cell) else (n, k)) :: _) = _
    cases hx : x == n with
    | true =>
      simp only [List.lookup_cons, hx] at h
      cases h
      by_cases hc : (NameKind.free == NameKind.free && env.scope.kind == .function && env.kindOf n == some .cell) = true
      · rw [if_pos hc]; left; simp only [List.lookup_cons, hx]
      · rw [if_neg hc]; right; simp only [List.lookup_cons, hx]
    | false =>
      simp only [List.lookup_cons, hx] at h
      by_cases hc : (k == NameKind.free && env.scope.kind == .function && env.kindOf n == some .cell) = true
      · rw [if_pos hc]; simp only [List.lookup_cons, hx]; exact ih h
      · rw [if_neg hc]; simp only [List.lookup_cons, hx]; exact ih h
theorem relabel_back {env : Env} : ∀ {names : List (Str × NameKind)} {x : Str} {q : NameKind}, (∀ y ∈ names, y.2 ≠ .cell) → (q = .cell ∨ q = .free) →
    (names.map fun (n, k) => if (k == NameKind.free && env.scope.kind == .function && env.kindOf n == some .cell) then (n, NameKind.cell) else (n, k)).lookup x = some q → (x, NameKind.free) ∈ names
  | [], _, _, _, _, h => by simp at h
  | (n, k) :: r, x, q, hn, hq, h => by
    have ih := @relabel_back env r x q (fun y hy => hn y (List.mem_cons_of_mem _ hy)) hq
    have h' : List.lookup x ((if (k == NameKind.free && env.scope.kind == .function && env.kindOf n == some .cell) = true then (n, NameKind.cell) else (n, k)) :: (r.map fun (n, k) => if (k == NameKind.free && env.scope.kind == .function && env.kindOf n == some .cell) then (n, NameKind.cell) else (n, k))) = some q := h
    cases hx : x == n with
    | true =>
      have e : x = n := by simpa using hx
      subst e
      by_cases hc : (k == NameKind.free && env.scope.kind == .function && env.kindOf x == some .cell) = true
      · simp only [Bool.and_eq_true, beq_iff_eq] at hc
        rw [hc.1.1]; exact List.mem_cons_self
      · rw [if_neg hc] at h'
        simp only [List.lookup_cons, beq_self_eq_true] at h'
        cases h'
        rcases hq with rfl | rfl
        · exact absurd rfl (hn (x, .cell) List.mem_cons_self)
        · exact List.mem_cons_self
    | false =>
      refine List.mem_cons_of_mem _ (ih ?_)
      by_cases hc : (k == NameKind.free && env.scope.kind == .function && env.kindOf n == some .cell) = true
      · rw [if_pos hc] at h'; simp only [List.lookup_cons, hx] at h'; exact h'
      · rw [if_neg hc] at h'; simp only [List.lookup_cons, hx] at h'; exact h'

section
variable {X : Cx} {pins : List (Addr × Obj)} {σ : St} {H : Hp} {s s' : Shared} {scope : Scope} {N' : List Str} {nt : Nat} {cs : List Nat} {C : Addr} {fp : List Addr} {h' : Heap} {t' : Nat}
theorem lc_enter (I : Inv X pins σ H s) (L : LcOk X scope N' nt cs) (hf : ∀ b ∈ fp, FpOk X pins H b) (hC : s.heap.objs.size ≤ C) (k : ∀ b u, s.heap.get? b = some u → h'.get? b = some u) (hns : h'.Ns C fun _ => none) (fpo : ∀ b ∈ fp, b < s.heap.objs.size) :
    Inv (lcCx X N' scope s H C fp) [] (lcS nt cs σ) H { s with heap := h', toks := t' } := by
  have hfree : H C = none := I.hok.fresh hC
  have csub : ∀ x c, (clos X.env.cells scope.names []).lookup x = some c → X.env.cells.lookup x = some c := clos_sub _ _ fun x c h => by simp at h
  have chas : ∀ x, (x, NameKind.free) ∈ scope.names → ((clos X.env.cells scope.names []).lookup x).isSome = true := fun x hx => by
    refine clos_has _ _ x hx ?_
    obtain ⟨c, e⟩ := I.ok.has x (L.fr x hx)
    rw [e]; rfl
  have I4 : Inv X pins σ H { s with heap := h', toks := t' } := I.kept k
  refine ⟨⟨I.ok.mod, L.kind, I.ok.glob, I.ok.blt, hC, fun x y c h1 h2 => I.ok.inj x y c (csub x c h1) (csub y c h2), fun x hx => ?_, fun x c hx => (nomatch hx), I.ok.hd, I.ok.frames, .inl rfl, fun b hb => ⟨?_, fun x c e => ?_⟩, I.bs, Nat.le_trans I.ok.bsz I.sz, fun b o e hb => ?_, fun b hb => ?_, I.stack, I.stkFree⟩,
    rfl, I.bare, Un.kept k, ⟨_, hns, fun i x v e1 e2 e3 => ?_⟩, fun x c e => ?_, hfree, fun x c e => I.freeC x c (csub x c e), fun p hp => absurd (show p ∈ ([] : List (Addr × Obj)) from hp) (by simp), I4.hok, ?_⟩
  · have hx' : (x, NameKind.free) ∈ scope.names := by
      rcases hx with hx | hx
      · exact relabel_back (env := X.env) L.nocell (.inl rfl) hx
      · exact relabel_back (env := X.env) L.nocell (.inr rfl) hx
    exact Option.isSome_iff_exists.mp (chas x hx')
  · exact Nat.ne_of_lt (Nat.lt_of_lt_of_le (fpo b hb) hC)
  · exact (hf b hb).2.2.2.2.1 x c (csub x c e)
  · obtain ⟨f0, f1, f2, f3, _⟩ := hf b hb
    rcases f3 with z | z
    · exact I.ok.noex b o e z
    · exact absurd (Nat.lt_of_lt_of_le (Heap.lt_size e) (Nat.le_trans I.ok.bsz z)) (Nat.lt_irrefl _)
  · obtain ⟨f0, f1, f2, f3, _⟩ := hf b hb
    intro z
    rcases List.mem_cons.mp (I.stkSub b z) with q | q
    · exact f1 q
    · exact f2 q
  · -- a captured name
    have e2' : (lcS nt cs σ)[i]? = some (some v) := e2
    unfold lcS at e2'
    by_cases hi : i < nt
    · rw [List.getElem?_append_left (by simpa using hi), List.getElem?_replicate] at e2'
      split at e2' <;> cases e2'
    · rw [List.getElem?_append_right (by simpa using hi), List.length_replicate, List.getElem?_map] at e2'
      cases ej : cs[i - nt]? with
      | none => rw [ej] at e2'; cases e2'
      | some j =>
        rw [ej] at e2'
        have e2'' : (σ[j]?).getD none = some v := Option.some.inj e2'
        have hσ : σ[j]? = some (some v) := by
          cases q : σ[j]? with
          | none => rw [q] at e2''; cases e2''
          | some z => rw [q] at e2''; exact congrArg some e2''
        obtain ⟨y, y1, y2, y3, y4, y5⟩ := L.cap _ _ ej
        have hxy : x = y := by
          have e1' : N'[i]? = some x := e1
          rw [show nt + (i - nt) = i by omega, e1'] at y1
          exact Option.some.inj y1
        subst hxy
        obtain ⟨m, hn, hl⟩ := I4.loc
        obtain ⟨u, r, l⟩ := hl j x v y2 hσ y4
        refine ⟨u, r, .inr ⟨relabel_free (env := X.env) y3, ?_⟩⟩
        rcases l with ⟨l, _⟩ | ⟨_, c, hc, hcell⟩
        · exact absurd l y5
        · refine ⟨c, ?_, hcell⟩
          obtain ⟨d, hd⟩ := Option.isSome_iff_exists.mp (chas x (PySem.mem_of_lookup y3))
          have := csub x d hd
          rw [hc] at this
          cases this
          exact hd
  · exact I4.cell x c (csub x c e)
  · show (lcS nt cs σ).length = N'.length
    unfold lcS
    rw [L.len]; simp
theorem lc_leave {σ2 : St} {H2 : Hp} (I : Inv X pins σ H s) (hf : ∀ b ∈ fp, FpOk X pins H b) (J : Inv (lcCx X N' scope s H C fp) [] σ2 H2 s') : Inv X pins σ H2 s' :=
  I.call' (ch := fp) J.os J.base J.hok J.bare fun b hb => by
    obtain ⟨f0, f1, f2, f3, f4, f5⟩ := hf b hb
    exact ⟨f3, f1, f4, f5⟩
end

def PIfs (X : Cx) (ifs : List Expr) (t : TT) : Prop :=
  ∀ (pins : List (Addr × Obj)) (s : Shared) (σ : St) (H : Hp) (Q : Bool → Hp → Prop), Inv X pins σ H s → t σ H Q →
    wpAny (model X.prog X.w) X.A (forIn ifs true fun c r => if r = true then do let ok ← isTrue c X.env (eval c X.env); pure (ForInStep.yield ok) else pure (ForInStep.yield r)) (TP X pins σ Q) X.xe s
def tTrue : TT := fun _ H Q => Q true H
theorem pifs_nil {X : Cx} : PIfs X [] tTrue := fun _ _ _ H _ I h => wpAny_tests_nil ⟨H, I, h⟩
def LCG (nt : Nat) (cs : List Nat) (g : TG) (tt : TT) (te : TE) (σ : St) (Q : VK) (J : It) (H1 : Hp) : Prop := ∀ l, H1 l = none → ∃ W : Nat → Nat → Hp → Prop, (∃ m, W 0 m (upd H1 l (.lst []))) ∧ ∀ i m H2, W i m H2 →
  (J.stop i H2 ∧ Q (.ref l) H2) ∨ (J.go i H2 ∧ ∃ N : Hp → Prop, (∀ H', N H' → ∃ m', m' < m ∧ W (i + 1) m' H') ∧ ∀ x H3, J.yld i H2 x H3 → g x (lcS nt cs σ) H3 fun σ2 H4 =>
    (σ2.length = nt + cs.length ∧ σ2.drop nt = (lcS nt cs σ).drop nt) ∧ tt σ2 H4 fun b H5 => if b = true then te σ2 H5 fun y H6 => ∃ xs, H6 l = some (.lst xs) ∧ xs.length < sizeLine ∧ N (upd H6 l (.lst (xs ++ [y]))) else N H5)
def tLC (nt : Nat) (cs : List Nat) (wi : TI) (g : TG) (tt : TT) (te : TE) : TE := fun σ H Q => wi σ H fun J H1 => LCG nt cs g tt te σ Q J H1

theorem lc_turn {prog : Program} {w : World} {A : Around} {R : Result → Shared → Prop} {s : Shared} {elt target iter : Expr} {ifs : List Expr} {scope : Scope} {pos : Pos} {it acc : Value} {env : Env} (I : Nat → Shared → Prop)
    (turn : ∀ n s, I n s → wpAny (model prog w) A (pyNext it) (fun r s₁ => match r with
      | none => R (.ok .next) s₁
      | some v => wpAny (model prog w) A (letOwnedTupleGo target it v) (fun _ s₁' => wpAny (model prog w) A (assign target env v) (fun _ s₂ =>
          wpAny (model prog w) A (forIn ifs true fun c r => if r = true then do let ok ← isTrue c env (eval c env); pure (ForInStep.yield ok) else pure (ForInStep.yield r)) (fun ok s₃ =>
            if ok = true then wpAny (model prog w) A (eval elt env) (fun x s₄ =>
              wpAny (model prog w) A (call (.builtin "list.append") [acc, x]) (fun _ s₅ => ∃ m, m < n ∧ I m s₅) (fun _ _ => False) s₄) (fun _ _ => False) s₃
            else ∃ m, m < n ∧ I m s₃) (fun _ _ => False) s₂) (fun _ _ => False) s₁') (fun _ _ => False) s₁) (fun _ _ => False) s)
    (n : Nat) (h : I n s) : codeAny (model prog w) A (.compLoop (.ListComp elt [⟨target, iter, ifs, 0⟩] scope pos) 0 it acc env) R s := by
  refine codeAny_loop rfl I (fun n s hI => ?_) n h
  show wpAny _ A ((compTurn (.ListComp elt [⟨target, iter, ifs, 0⟩] scope pos) 0 it acc env).onRaise (fun x => do noteFrame x env; theTreesLotGoes x)) _ _ s
  refine wpAny_noted ?_
  rw [compTurn_list]
  refine wpAny_bind (wpAny_standAt (wpAny_bind (wpAny_mono (turn n s hI) (fun r s₁ h₁ => ?_) fun _ _ h' => h'.elim)))
  cases r with
  | none => exact wpAny_pure h₁
  | some v =>
    refine wpAny_bind (wpAny_mono h₁ (fun _ s₁' h₁' => ?_) fun _ _ h' => h'.elim)
    refine wpAny_bind (wpAny_mono h₁' (fun _ s₂ h₂ => wpAny_bind (wpAny_mono h₂ (fun ok s₃ h₃ => ?_) fun _ _ h' => h'.elim)) fun _ _ h' => h'.elim)
    cases ok with
    | false => exact wpAny_pure ⟨rfl, h₃⟩
    | true =>
      exact wpAny_bind (wpAny_bind (wpAny_mono h₃ (fun x s₄ h₄ => wpAny_bind (wpAny_mono h₄ (fun _ s₅ h₅ => wpAny_pure (wpAny_pure ⟨rfl, h₅⟩)) fun _ _ h' => h'.elim)) fun _ _ h' => h'.elim))

section
variable {X : Cx} {elt target iter : Expr} {ifs : List Expr} {scope : Scope} {pos : Pos} {N' : List Str} {nt : Nat} {cs : List Nat} {wi : TI} {g : TG} {tt : TT} {te : TE}
theorem lc_core {use : Option (Value → Sem Unit)} {QQ : Value → Shared → Prop} {p2 : Pos} (hc : X.calm = true) (L : LcOk X scope N' nt cs) (hi : PI X target iter wi)
    (hg : ∀ s H C fp, PG (lcCx X N' scope s H C fp) target g) (ht : ∀ s H C fp, PIfs (lcCx X N' scope s H C fp) ifs tt) (he : ∀ s H C fp, PE (lcCx X N' scope s H C fp) elt te)
    {pins : List (Addr × Obj)} {s : Shared} {σ : St} {H : Hp} {Q : VK} (I : Inv X pins σ H s) (h : tLC nt cs wi g tt te σ H Q)
    (fin : ∀ (l : Addr) (H' : Hp) (s' : Shared) (C : Addr), Inv X pins σ H' s' → FpOk X pins H' C → (∃ m, s'.heap.Ns C m) → Q (.ref l) H' → compPost (model X.prog X.w) X.A X.xe use QQ (.ref l) C (.ok .next) s')
    (hs : ∀ x, foldedSetIterable iter X.env x = pure x := by intro _; rfl) :
    wpAny (model X.prog X.w) X.A (comprehension (.ListComp elt [⟨target, iter, ifs, 0⟩] scope pos) scope X.env p2 (newList []) false (eval iter X.env) use) QQ X.xe s := by
  have hcl : closureFor scope X.env = pure (clos X.env.cells scope.names []) := closure_eq fun x hx => by
    obtain ⟨c, e⟩ := I.ok.has x (L.fr x hx)
    rw [e]; rfl
  refine wpAny_comprehension_free (env := X.env) rfl hs hcl L.kind L.loc (thn (hi pins s σ H _ I h) fun v s1 h1 => thn h1 fun itv s2 h2 => ?_)
  obtain ⟨it, fp, tn, J, H1, e, I2, T, st2, f2, R⟩ := h2
  subst e
  refine wpAny_newObj_type ?_
  have hv : Vals [] ([] : List Value) := .nil
  have I3 := I2.lnew (t' := s2.toks) hv (Nat.zero_le _)
  have hfr : H1 s2.heap.objs.size = none := I2.fresh
  have ne3 : ∀ b ∈ fp, b ≠ s2.heap.objs.size := fun b hb z => by
    obtain ⟨o, e, _⟩ := T.obj _ _ st2 b hb
    have := Heap.lt_size e
    rw [z] at this
    exact Nat.lt_irrefl _ this
  have f3 : ∀ b ∈ fp, FpOk X pins (upd H1 s2.heap.objs.size (.lst [])) b := fun b hb => ⟨by rw [upd_ne (ne3 b hb)]; exact (f2 b hb).1, (f2 b hb).2⟩
  obtain ⟨W, ⟨m0, w0⟩, turn⟩ := R _ hfr
  refine wpAny_newFunctionEnv L.nocell (by intro y hy; simp at hy) (fun h4 hns hsb => ?_) L.kind
  dsimp only at hns hsb ⊢
  generalize hH3 : s2.heap.push { cls := .type "list", dict := none, data := .seq ([] : List Value).toArray } = h3 at hns hsb I3 ⊢
  have hsz3 : h3.objs.size = s2.heap.objs.size + 1 := by rw [← hH3, Heap.size_push]
  have up4 : ∀ b u, h3.get? b = some u → h4.get? b = some u := fun b u e => hsb.extBut b u (Nat.ne_of_lt (Heap.lt_size e)) (Heap.get?_push_of_some _ e)
  have fpo : ∀ b ∈ fp, b < h3.objs.size := fun b hb => by
    obtain ⟨o, e, _⟩ := T.obj _ _ st2 b hb
    exact Nat.lt_of_lt_of_le (Heap.lt_size e) (by rw [hsz3]; exact Nat.le_succ _)
  have up3 : ∀ b u, s2.heap.get? b = some u → h3.get? b = some u := fun b u e => hH3 ▸ Heap.get?_push_of_some _ e
  have J4 : Inv (lcCx X N' scope { s2 with heap := h3 } (upd H1 s2.heap.objs.size (.lst [])) h3.objs.size fp) [] (lcS nt cs σ) (upd H1 s2.heap.objs.size (.lst [])) { s2 with heap := h4, toks := s2.toks + ([] : List (Str × Value)).length } :=
    lc_enter (t' := s2.toks + ([] : List (Str × Value)).length) I3 L f3 (Nat.le_refl _) up4 (by simpa using hns) fpo
  have st4 : tn 0 h4 := T.keep _ _ _ st2 fun b hb o e => up4 b o (up3 b o e)
  generalize hs3 : ({ s2 with heap := h3 } : Shared) = s3 at I3 J4
  generalize hX' : lcCx X N' scope s3 (upd H1 s2.heap.objs.size (.lst [])) h3.objs.size fp = X' at J4
  have hg' : PG X' target g := hX' ▸ hg _ _ _ _
  have ht' : PIfs X' ifs tt := hX' ▸ ht _ _ _ _
  have he' : PE X' elt te := hX' ▸ he _ _ _ _
  have stat : ∀ {H' : Hp}, (∀ b ∈ fp, H' b = none) → ∀ b ∈ fp, FpOk X' [] H' b := fun hn b hb => by
    subst hX'
    refine ⟨hn b hb, Nat.ne_of_lt (fpo b hb), J4.ok.exfs b hb, .inl hb, (J4.ok.exf b hb).2, fun p hp => absurd (show p ∈ ([] : List (Addr × Obj)) from hp) (by simp)⟩
  have loop : codeAny (model X.prog X.w) X.A (.compLoop (.ListComp elt [⟨target, iter, ifs, 0⟩] scope pos) 0 (.ref it) (.ref s2.heap.objs.size) (compEnvC scope (clos X.env.cells scope.names []) h3.objs.size X.env))
      (compPost (model X.prog X.w) X.A X.xe use QQ (.ref s2.heap.objs.size) h3.objs.size) { s2 with heap := h4, toks := s2.toks + ([] : List (Str × Value)).length } := by
    have eA : X'.A = X.A := by subst hX'; rfl
    have eP : X'.prog = X.prog := by subst hX'; rfl
    have eW : X'.w = X.w := by subst hX'; rfl
    have eK : X'.K = X.K := by subst hX'; rfl
    have eC : X'.calm = true := by subst hX'; exact hc
    have eE : X'.env = compEnvC scope (clos X.env.cells scope.names []) h3.objs.size X.env := by subst hX'; rfl
    have eX : X'.xe = fun _ _ => False := by subst hX'; rfl
    refine lc_turn (fun n s' => ∃ i H', Inv X' [] (lcS nt cs σ) H' s' ∧ tn i s'.heap ∧ (∀ b ∈ fp, H' b = none) ∧ W i n H') ?_ m0 ⟨0, _, J4, st4, fun b hb => (f3 b hb).1, w0⟩
    rintro n s5 ⟨i, H5, J5, st5, fr5, w5⟩
    rcases turn i n H5 w5 with ⟨stop, qn⟩ | ⟨go, N, hN, step⟩
    · have d := T.done X' eP eW eK eC i [] s5 (lcS nt cs σ) H5 (fun _ _ => False) J5 (stat fr5) st5 stop
      rw [eA] at d
      refine thn d fun r s6 ⟨hr, J6⟩ => ?_
      subst hr
      have I6 : Inv X pins σ H5 s6 := by subst hX'; subst hs3; exact lc_leave I3 f3 J6
      refine fin _ H5 s6 h3.objs.size I6 ?_ ?_ qn
      · have hn : H5 h3.objs.size = none := by subst hX'; exact J6.free
        subst hs3
        exact I3.fpOk (Nat.le_refl _) hn
      · obtain ⟨m, hm, _⟩ := J6.loc
        subst hX'
        exact ⟨m, hm⟩
    · have d := T.item X' eP eW eK eC i [] s5 (lcS nt cs σ) H5 (fun _ _ => False) J5 (stat fr5) st5 go
      rw [eA] at d
      refine thn d fun r s6 ⟨u, hr, h6⟩ => ?_
      subst hr
      refine thn h6 fun _ s7 ⟨x, H7, J7, r7, y7, st7, fr7⟩ => ?_
      have J7' := J7.pinned (stat fr7) (T.obj _ _ st7)
      have a := hg' _ s7 (lcS nt cs σ) H7 x u _ J7' r7 (step x H7 y7)
      rw [eA, eP, eW, eE, eX] at a
      refine thn a fun _ s8 ⟨σ8, H8, J8, ⟨e8, d8⟩, q8⟩ => ?_
      have b := ht' _ s8 σ8 H8 _ J8 q8
      rw [eA, eP, eW, eE, eX] at b
      have again : ∀ {s9 : Shared} {H9 : Hp}, Inv X' ([] ++ pinsAt fp s7.heap) σ8 H9 s9 → N H9 → ∃ m, m < n ∧ ∃ i H', Inv X' [] (lcS nt cs σ) H' s9 ∧ tn i s9.heap ∧ (∀ b ∈ fp, H' b = none) ∧ W i m H' := fun {s9 H9} J9 n9 => by
        obtain ⟨m', hm, w9⟩ := hN H9 n9
        refine ⟨m', hm, i + 1, H9, ?_, T.keep _ _ _ st7 fun b hb o e => (J9.pin (b, o) (List.mem_append_right _ (List.mem_append_right _ (mem_pinsAt hb e)))).1, fun b hb => ?_, w9⟩
        · refine J9.unpinned.weak ?_ fun j v ej => ?_
          · rw [e8]; unfold lcS; simp
          · by_cases hj : j < nt
            · unfold lcS at ej
              rw [List.getElem?_append_left (by simpa using hj), List.getElem?_replicate] at ej
              split at ej <;> cases ej
            · have z := congrArg (fun l : St => l[j - nt]?) d8
              simp only [List.getElem?_drop] at z
              rw [show nt + (j - nt) = j by omega] at z
              rw [z]; exact ej
        · obtain ⟨o, e, _⟩ := T.obj _ _ st7 b hb
          exact (J9.pin (b, o) (List.mem_append_right _ (List.mem_append_right _ (mem_pinsAt hb e)))).2.1
      refine thn b fun ok s9 ⟨H9, J9, q9⟩ => ?_
      cases ok with
      | false =>
        rw [if_neg Bool.false_ne_true] at q9 ⊢
        exact again J9 q9
      | true =>
        rw [if_pos rfl] at q9 ⊢
        have c := he' _ s9 σ8 H9 _ J9 q9
        rw [eA, eP, eW, eE, eX] at c
        refine thn c fun y sA ⟨vy, HA, JA, ry, xs, hl, hz, nA⟩ => ?_
        have ap := mt_append (X := X') _ sA σ8 HA (.ref s2.heap.objs.size) [vy] (.ref s2.heap.objs.size) [y] (fun _ H' => N H') JA rfl (.cons ry .nil) ⟨_, xs, vy, rfl, rfl, hl, hz, nA⟩
        rw [eA, eP, eW, eX] at ap
        exact thn ap fun _ sB ⟨_, HB, JB, _, nB⟩ => again JB nB
  exact codeAny_compStart_list loop (T.self X.A 0 _ _ _ st4 loop)

theorem pe_lc (hc : X.calm = true) (L : LcOk X scope N' nt cs) (hi : PI X target iter wi)
    (hg : ∀ s H C fp, PG (lcCx X N' scope s H C fp) target g) (ht : ∀ s H C fp, PIfs (lcCx X N' scope s H C fp) ifs tt) (he : ∀ s H C fp, PE (lcCx X N' scope s H C fp) elt te)
    (hs : ∀ x, foldedSetIterable iter X.env x = pure x := by intro _; rfl) : PE X (.ListComp elt [⟨target, iter, ifs, 0⟩] scope pos) (tLC nt cs wi g tt te) := by
  intro pins s σ H Q I h
  rw [eval_ListComp]
  refine lc_core (use := none) hc L hi hg ht he I h (fun l H' s' C I' f ⟨m, hm⟩ q => ⟨m, hm, fun h' hs' => ?_⟩) hs
  obtain ⟨f0, f1, f2, f3, f4, f5⟩ := f
  exact ⟨.ref l, H', I'.turned (t' := s'.toks) (fun b o hb e => hs'.extBut b o hb e) f0 f1 f3 f4 f5, rfl, q⟩
theorem ps_setLC {i : Nat} {y : Str} {py spos : Pos} (hN : X.N.Nodup) (hy : X.N[i]? = some y) (hx : Loc X.env.scope y) (hc : X.calm = true) (L : LcOk X scope N' nt cs) (hi : PI X target iter wi)
    (hg : ∀ s H C fp, PG (lcCx X N' scope s H C fp) target g) (ht : ∀ s H C fp, PIfs (lcCx X N' scope s H C fp) ifs tt) (he : ∀ s H C fp, PE (lcCx X N' scope s H C fp) elt te)
    (hsw : swapsWith (.ListComp elt [⟨target, iter, ifs, 0⟩] scope pos) (some (.Name y py)) spos.line X.env = pure true := by rfl)
    (hs : ∀ x, foldedSetIterable iter X.env x = pure x := by intro _; rfl) (hf : X.fn y = true ∨ X.env.scope.names.lookup y = some .local := by first | exact .inl rfl | exact .inr rfl | assumption) :
    PS X (.Assign [.Name y py] (.ListComp elt [⟨target, iter, ifs, 0⟩] scope pos) spos) (tAsg (tLC nt cs wi g tt te) (gName i)) := by
  intro pins s σ H D I h
  rw [exec_Assign_Name_used _ _ _ _ hsw]
  refine wpAny_bind (wpAny_standAt (wpAny_bind ?_))
  show wpAny _ X.A (do let _ ← comprehension (.ListComp elt [⟨target, iter, ifs, 0⟩] scope pos) scope X.env _ (newList []) false (eval iter X.env) (some (assign (.Name y py) X.env))) _ _ s
  refine wpAny_bind (thn (lc_core (QQ := fun _ s' => SP X pins D .next s') (use := some (assign (.Name y py) X.env)) hc L hi hg ht he I h (fun l H' s' C I' f hm q => ?_) hs) (fun _ s' hq => wpAny_pure (wpAny_pure hq)))
  show wpAny _ X.A (assign (.Name y py) X.env (.ref l)) _ _ _
  refine wpAny_assign_Name (store_ok2 I' hN hy hx (v := .ref l) rfl (fun s2 I2 ⟨a, hsb, ha⟩ => ?_) hf)
  obtain ⟨m, hm⟩ := hm
  obtain ⟨f0, f1, f2, f3, f4, f5⟩ := f
  have hCa : C ≠ a := by
    rcases ha with rfl | ha
    · exact f1
    · exact fun z => f4 y a ha z.symm
  refine ⟨m, hm.sameBut hsb hCa, fun h' hs' => ?_⟩
  exact ⟨_, H', I2.turned (t' := s2.toks) (fun b o hb e => hs'.extBut b o hb e) f0 f1 f3 f4 f5, q⟩
end
end L2

namespace L2
open PySem PySem.Spec PyProof.Rows
section
variable {X : Cx} {a b : Expr} {ta tb : TE} {pos : Pos}
theorem call_isi_str_str : CallR X (.builtin "isinstance") (fun xs H Q => ∃ x, xs = [.str x, .ty "str"] ∧ Q (.bl true) H) := by
  intro pins s σ H xs us Q I r h
  obtain ⟨x, rfl, q⟩ := h
  obtain ⟨u, v, rfl, ⟨t, rfl⟩, rfl⟩ := vals2 r
  exact IsiPair.str_str ⟨.bl true, H, I, rfl, q⟩
theorem call_isi_list_list : CallR X (.builtin "isinstance") (fun xs H Q => ∃ p ys, xs = [.ref p, .ty "list"] ∧ SqL X.K H p ys ∧ Q (.bl true) H) := by
  intro pins s σ H xs us Q I r h
  obtain ⟨p, ys, rfl, hq, q⟩ := h
  obtain ⟨u, v, rfl, rfl, rfl⟩ := vals2 r
  obtain ⟨its, _, pl, _⟩ := I.list hq
  obtain ⟨o, n, e, c, hd, _⟩ := pl
  exact IsiPair.list_list e c ⟨.bl true, H, I, rfl, q⟩
end
end L2
namespace L2
open PySem PySem.Spec PyProof.Rows
theorem SqL.same {K : PySem.W.Frag} {H H' : Hp} {a : Addr} {xs : List V} (e : Same H H') (h : SqL K H a xs) : SqL K H' a xs := e.seq h
theorem SqT.same {K : PySem.W.Frag} {H H' : Hp} {a : Addr} {xs : List V} (e : Same H H') (h : SqT K H a xs) : SqT K H' a xs := by
  rcases h with (h | ⟨o, h⟩) | h
  · exact .inl (.inl (e _ _ h))
  · exact .inl (.inr ⟨o, e _ _ h⟩)
  · exact .inr h
theorem Same.upd {H : Hp} {l : Addr} {o : HO} (h : H l = none) : Same H (upd H l o) := fun b u e => by rw [upd_ne (ne_of_none e h)]; exact e
end L2
namespace L2
open PySem
end L2
namespace L2
open PySem
end L2
namespace L2
open PySem
end L2

namespace L2
open PySem PySem.Spec PyProof.Rows
end L2

namespace L2
open PySem PySem.Spec PyProof.Rows
def RngO (r : Addr) (a b c : Int) : HO := .ext fun h => ∃ t u v, IsRange h r a b c t u v
section
variable {X : Cx} {pins : List (Addr × Obj)} {σ : St} {H : Hp} {s : Shared}
theorem Inv.rng {a b c : Int} {t u v : Tok} {t' : Nat} (I : Inv X pins σ H s) : Inv X pins σ (upd H s.heap.objs.size (RngO s.heap.objs.size a b c)) { s with heap := s.heap.push { cls := .type "range", data := .fields #[.int a t, .int b u, .int c v] }, toks := t' } :=
  I.laid (fun _ _ q => Heap.get?_push_of_some _ q) (Nat.le_refl _) ⟨⟨t, u, v, Heap.get?_push_size _ rfl⟩, ⟨_, Heap.get?_push_size _ rfl⟩, fun h1 h2 ⟨t1, u1, v1, z⟩ k => ⟨t1, u1, v1, k _ z⟩⟩
end
end L2
namespace L2
open PySem PySem.Spec PyProof.Rows
end L2
namespace L2
open PySem
end L2

namespace L2
open PySem PySem.Spec PyProof.Rows
structure ZipAp (z TI TO i1 i2 : Addr) (fp1 fp2 : List Addr) : Prop where
  TIz : TI ≠ z
  TOz : TO ≠ z
  i1z : i1 ≠ z
  i2z : i2 ≠ z
  TITO : TI ≠ TO
  TIi1 : TI ≠ i1
  TIi2 : TI ≠ i2
  TOi1 : TO ≠ i1
  TOi2 : TO ≠ i2
  i12 : i1 ≠ i2
  m1 : i1 ∈ fp1
  m2 : i2 ∈ fp2
  f1 : ∀ b ∈ fp1, b ≠ z ∧ b ≠ TO ∧ b ≠ i2
  f2 : ∀ b ∈ fp2, b ≠ z ∧ b ≠ TO ∧ b ≠ i1
end L2

namespace L2
open PySem PySem.Spec PyProof.Rows
theorem lri_no_len : typeLookup (.type "list_reverseiterator") "__len__" = pure none := by rw [typeLookup_type, builtinLookup_eq_fast]; kernel_rfl
theorem slot_lri_hint : Slot "list_reverseiterator" "__length_hint__" "list_reverseiterator.__length_hint__" :=
  .of (owner := "list_reverseiterator") (n := "__length_hint__") (by rw [typeLookup_type, builtinLookup_eq_fast]; kernel_rfl) (by decide +kernel) (by decide +kernel) (by decide +kernel)
    (by first | exact .inl (by decide +kernel) | exact .inr (by decide +kernel)) (by rw [isSubtype_type]; kernel_rfl)
section
variable {prog : Program} {w : World} {A : Around} {E : Value → Shared → Prop} {s : Shared}
theorem hint_rev {it l : Addr} {i : Int} {Q : Bool → Shared → Prop} (hit : s.heap.IsRevIter it l i) (h : Q false s) : wpAny (model prog w) A (Builtin.List.listLengthHint (.ref it)) Q E s := by
  unfold Builtin.List.listLengthHint
  refine wpAny_bind (wpAny_specialOf hit.typeIs lri_no_len ?_)
  show wpAny _ A (specialOf (Value.ref it) (Str.ofString "__length_hint__") >>= _) _ _ _
  refine wpAny_bind (wpAny_specialOf hit.typeIs slot_lri_hint.lookup ?_)
  generalize hid : ("list_reverseiterator.__length_hint__" : String) = id0
  wp_delta
  rw [show splitId id0 = some ("list_reverseiterator", "__length_hint__") from by subst hid; decide +kernel]
  subst hid
  refine wpAny_bind (wpAny_isInstance (T := "list_reverseiterator") (b := true) hit.typeIs (by rw [isSubtype_type]; kernel_rfl) ?_)
  refine wpAny_ite_split (fun hab => absurd hab (by decide)) (fun _ => ?_)
  refine wpAny_ite_split (fun _ => ?_) (fun hab => absurd (by decide +kernel) hab)
  refine wpAny_ite_split (fun hab => absurd hab (by decide +kernel)) (fun _ => ?_)
  exact wpAny_pure h
theorem extend_rev {R : Result → Shared → Prop} {r l : Addr} {items : Array Value} (hh : A.handled = none) (hr : s.heap.IsRevIter r l ((items.size : Int) - 1)) (hl : s.heap.IsList l items) (hlen : items.size ≤ sizeLine) (S : Addr) (res : Value) (c₀ : Nat) (hS : s.heap.get? S = some { cls := .type "list", data := .seq #[] c₀ }) (hSl : S ≠ l) (hlr : l ≠ r)
    (hR : ∀ h' tk acc' c', (∀ b o, b ≠ S → b ≠ r → s.heap.get? b = some o → h'.get? b = some o) → h'.get? S = some { cls := .type "list", dict := none, data := .seq acc' c', slots := #[] } →
      ItemsOf (fun i v => items[items.size - 1 - i]? = some v) acc' items.size → R (.ok (.ret res)) { s with heap := h', toks := tk }) :
    wpAny (model prog w) A.in1 (Builtin.List.listExtendWith (.ref S) (.ref r) res)
      (fun fin s' => match fin with | .done f => R (.ok f) s' | .again c' => c'.quiet = true ∧ codeAny (model prog w) A c' R s') (fun e s' => R (.error e) s') s := by
  have hSr : S ≠ r := fun e => by obtain ⟨o, ho, hc, _⟩ := hr; rw [e, ho] at hS; cases hS; simp at hc
  have W := (Walks.listRev (prog := prog) (w := w) (A := A.in1) hh r l hlr items).toS
  unfold Builtin.List.listExtendWith
  refine wpAny_bind (wpAny_typeOf hr.typeIs ?_)
  have h1 : Builtin.List.listSameRef (.ref S) (.ref r) = false := by simp [Builtin.List.listSameRef, hSr]
  have h2 : (Value.type "list_reverseiterator" == Value.type "list") = false := by decide
  have h3 : (Value.type "list_reverseiterator" == Value.type "tuple") = false := by decide
  simp only [h1, h2, h3, Bool.or_false, Bool.false_eq_true, if_false]
  refine wpAny_bind (wpAny_pyIter_revIter hr ?_)
  refine wpAny_bind (wpAny_holding (hint_rev hr ?_))
  refine wpAny_ite_split (fun hab => absurd hab (by decide +kernel)) (fun _ => ?_)
  have hSf : S ∉ [r, l] := by simp [hSr, hSl]
  refine wpAny_pure ⟨plainId_quiet F.plain_extend_loop _, codeAny_extend_loopS W hlen _ hSf _ items.size 0 _ _ _ rfl (Nat.zero_le _) ⟨Nat.zero_le _, by simpa using hr, hl⟩ hS (ItemsOf.nil _) fun s' acc' c' hm hS' hacc => ?_⟩
  rw [hm.eq_with]
  exact hR _ _ acc' c' (fun b o hb hbr e => hm.heap b o (by simp [hb, hbr]) e) hS' hacc
theorem call_list_revit {Q : Value → Shared → Prop} {r l : Addr} {items : Array Value} (hh : A.handled = none) (hr : s.heap.IsRevIter r l ((items.size : Int) - 1)) (hl : s.heap.IsList l items) (hlr : l ≠ r) (hlen : items.size ≤ sizeLine)
    (hQ : ∀ h' tk acc' c', (∀ b o, b ≠ r → s.heap.get? b = some o → h'.get? b = some o) →
      h'.get? s.heap.objs.size = some { cls := .type "list", dict := none, data := .seq acc' c', slots := #[] } → ItemsOf (fun i v => items[items.size - 1 - i]? = some v) acc' items.size → Q (.ref s.heap.objs.size) { s with heap := h', toks := tk }) :
    wpAny (model prog w) A (call (.type "list") [.ref r]) Q E s := by
  refine callType_codes (Q₁ := fun obj s₁ => obj = .ref s.heap.objs.size ∧ s₁ = { s with heap := s.heap.push { cls := .type "list", data := .seq #[] } }) F.called_list (F.typeCall_list_1 _) F.entry_list_init
    (code_list_new _ ⟨rfl, rfl⟩) fun obj s₁ h₁ => ?_
  obtain ⟨rfl, rfl⟩ := h₁
  have hS : (s.heap.push { cls := .type "list", data := .seq #[] }).get? s.heap.objs.size = some { cls := .type "list", data := .seq #[] } := Heap.get?_push_size _ rfl
  have hr2 : (s.heap.push { cls := .type "list", data := .seq #[] }).IsRevIter r l ((items.size : Int) - 1) := hr.at fun o e => Heap.get?_push_of_some _ e
  have hl2 : (s.heap.push { cls := .type "list", data := .seq #[] }).IsList l items := hl.at fun o e => Heap.get?_push_of_some _ e
  have hrlt : r < s.heap.objs.size := by obtain ⟨o, ho, _⟩ := hr; exact Heap.lt_size ho
  have hllt : l < s.heap.objs.size := by obtain ⟨o, ho, _⟩ := hl; exact Heap.lt_size ho
  refine ⟨⟨_, hS, rfl⟩, F.args_list_init_2 _ _, ?_⟩
  show wpAny _ A.in1.in1 (do let old ← Builtin.List.listItems (.ref s.heap.objs.size); Builtin.List.listUpdate (.ref s.heap.objs.size) (fun _ => #[]); letGo old.toList.reverse; Builtin.List.listExtendWith (.ref s.heap.objs.size) (.ref r) .none) _ _ _
  refine wpAny_bind ?_
  unfold Builtin.List.listItems
  refine wpAny_bind (wpAny_seqItems hS rfl (wpAny_pure ?_))
  show wpAny _ _ (updateSeq s.heap.objs.size (fun _ => #[]) >>= fun _ => letGo (#[] : Array Value).toList.reverse >>= fun _ => Builtin.List.listExtendWith (.ref s.heap.objs.size) (.ref r) .none) _ _ _
  refine wpAny_bind (wpAny_updateSeq hS rfl ?_)
  have hS₂ := Heap.get?_update_self (Obj.mapSeq (fun _ => (#[] : Array Value))) hS rfl
  have oth : ∀ b o, b ≠ s.heap.objs.size → (s.heap.push { cls := .type "list", data := .seq #[] }).get? b = some o → ((s.heap.push { cls := .type "list", data := .seq #[] }).update s.heap.objs.size (Obj.mapSeq (fun _ => (#[] : Array Value)))).get? b = some o :=
    fun b o hb e => (Heap.get?_update_other _ _ (Ne.symm hb)).trans e
  refine wpAny_bind (wpAny_letGo ?_)
  refine extend_rev (A := A.in1) hh (hr2.at fun o e => oth r o (Nat.ne_of_lt hrlt) e) (hl2.at fun o e => oth l o (Nat.ne_of_lt hllt) e) hlen _ .none _ hS₂ (Nat.ne_of_gt hllt) hlr fun h' tk acc' c' hk hS' hacc => ?_
  exact ⟨rfl, hQ h' tk acc' c' (fun b o hbr e => hk b o (Nat.ne_of_lt (Heap.lt_size e)) hbr (oth b o (Nat.ne_of_lt (Heap.lt_size e)) (Heap.get?_push_of_some _ e))) hS' hacc⟩
end
section
variable {X : Cx} {pins : List (Addr × Obj)} {σ : St} {H : Hp} {s : Shared} {h' : Heap} {t' : Nat} {wr : List Addr}
theorem Inv.turnsO (I : Inv X pins σ H s) {T0 : Addr} {nw0 : HO} (hf : ∀ b ∈ wr, FpOk X pins H b) (k : ∀ b o, b ∉ wr → s.heap.get? b = some o → h'.get? b = some o) (hT : s.heap.objs.size ≤ T0) (new : ObjOk X.prog X.w (upd H T0 nw0) h' T0 nw0) :
    Inv X pins σ (upd H T0 nw0) { s with heap := h', toks := t' } := by
  have nw : ∀ b u, H b = some u → b ∉ wr := fun b u e z => by have := (hf b z).1; rw [e] at this; cases this
  have nL : X.env.locals ∉ wr := fun z => (hf _ z).2.1 rfl
  have fresh : H T0 = none := I.hok.fresh hT
  have ne : ∀ b o, s.heap.get? b = some o → b ≠ T0 := fun b o e => Nat.ne_of_lt (Nat.lt_of_lt_of_le (Heap.lt_size e) hT)
  refine I.step (g' := s.gens) (d' := s.drawn) (ch := wr) (fun b hb => ?_) (fun b o _ _ hc e _ => k b o hc e) (fun b o _ _ hc e _ => ⟨o.slots, k b o hc e⟩) (fun b o _ e n => by rw [upd_ne (ne b o e)]; exact n)
    (fun b o hc e => ⟨o, k b o hc e⟩) (fun b xs e => by rw [upd_ne (ne_of_none e fresh)]; exact e) (fun b o u e => by rw [upd_ne (ne_of_none e fresh)]; exact e) (fun b ps e => ⟨#[], by rw [upd_ne (ne_of_none e fresh), e]; simp⟩) (fun m hm => ?_) (fun b u e => ?_) I.bare
  · obtain ⟨f0, f1, f2, f3, f4, f5⟩ := hf b hb
    exact ⟨f3, f1, f4, f5⟩
  · obtain ⟨o, es, ep, ho, r⟩ := hm
    exact ⟨o, es, ep, k _ o nL ho, r⟩
  · by_cases hb : b = T0
    · subst hb
      rw [upd_same] at e
      cases e
      exact new
    · rw [upd_ne hb] at e
      refine (I.hok b u e).stay (fun c v hc q => k c v ?_ q) (fun c q => by rw [upd_ne (ne_of_none q fresh)]; exact q) fun c xs q => by rw [upd_ne (ne_of_none q fresh)]; exact q
      rcases hc with z | z
      · rw [z]; exact nw b u e
      · exact nw c _ z
end
section
variable {X : Cx} {e1 : Expr} {ta : TA} {p pos p2 pos2 : Pos}
def tListRev (K : PySem.W.Frag) (ta : TA) : TE := fun σ H Q => ta σ H fun vs H1 => ∃ a xs, vs = [.ref a] ∧ SqL K H1 a xs ∧ ∀ l, H1 l = none → Q (.ref l) (upd H1 l (.lst xs.reverse))
theorem pe_listrev (hc : X.calm = true) (hgl : Gl X "list") (hml : X.mg "list" = none) (hg : Gl X "reversed") (hm : X.mg "reversed" = none) (hA : PA X [e1] ta) (hs : starEach [e1] X.env = [(false, eval e1 X.env)] := by rfl)
    (hs2 : starEach [.Call (.Name "reversed" p) [e1] [] pos] X.env = [(false, eval (.Call (.Name "reversed" p) [e1] [] pos) X.env)] := by rfl) :
    PE X (.Call (.Name "list" p2) [.Call (.Name "reversed" p) [e1] [] pos] [] pos2) (tListRev X.K ta) := by
  intro pins s σ H Q I h
  refine Call_ (ld_blt I hgl hml boot_list (PyProof.Rows.callWith_type1 (?_ : wpAny (model X.prog X.w) X.A (spliced (backTo pos2 (starEach [.Call (.Name "reversed" p) [e1] [] pos] X.env))) _ X.xe s) hs2 rfl))
  rw [hs2]
  show wpAny _ _ (spliced ((false, eval (.Call (.Name "reversed" p) [e1] [] pos) X.env) :: [])) _ _ s
  refine Calls.spliced_cons ?_
  refine Call_ (ld_blt I hg hm boot_reversed (PyProof.Rows.callWith_type1 (thn (hA pos pins s σ H _ I h) fun us s1 ⟨vs, H1, I1, r1, q1⟩ => ?_) hs rfl))
  obtain ⟨a, xs, rfl, hq, q⟩ := q1
  obtain ⟨u, rfl, ru⟩ := vals1 r1
  cases ru
  obtain ⟨its, rv, pl, hz⟩ := I1.list hq
  have hn : its.toArray.size = xs.length := by rw [rv.length]; simp
  refine call_reversed_list pl.isList (Calls.spliced_nil ?_)
  have up : ∀ b o, s1.heap.get? b = some o → (s1.heap.push (revObj a ((its.toArray.size : Int) - 1))).get? b = some o := fun b o e => Heap.get?_push_of_some _ e
  have hR : (s1.heap.push (revObj a ((its.toArray.size : Int) - 1))).IsRevIter s1.heap.objs.size a ((its.toArray.size : Int) - 1) := ⟨_, Heap.get?_push_size _ rfl, rfl, rfl⟩
  have I2 : Inv X pins σ H1 { s1 with heap := s1.heap.push (revObj a ((its.toArray.size : Int) - 1)) } := I1.kept (t' := s1.toks) up
  have hal : a < s1.heap.objs.size := by obtain ⟨o, _, ho, _⟩ := id pl; exact Heap.lt_size ho
  have f1 := I1.fpOk (Nat.le_refl _) (I1.hok.fresh (Nat.le_refl _))
  generalize hh2 : s1.heap.push (revObj a ((its.toArray.size : Int) - 1)) = h2 at hR I2 up
  refine call_list_revit (s := { s1 with heap := h2 }) (I1.ok.hd hc) hR (pl.isList.at fun o e => up _ _ e) (Nat.ne_of_lt hal) (by rw [hn]; exact hz) fun h' tk acc c hk hS hacc => ?_
  have hv : Vals xs.reverse acc.toList := by
    obtain ⟨hsz, hit⟩ := hacc
    have e : acc.toList = its.reverse := by
      refine List.ext_getElem? fun i => ?_
      by_cases hi : i < acc.size
      · have h1 := hit i acc[i] (by simp [hi])
        have h2 : acc.toList[i]? = some acc[i] := by simp [hi]
        rw [h2]
        rw [List.getElem?_reverse (by rw [hsz] at hi; simpa using hi)]
        have : its.toArray[its.toArray.size - 1 - i]? = its[its.length - 1 - i]? := by simp
        rw [← this, h1]
      · rw [List.getElem?_eq_none (by simpa using hi), List.getElem?_eq_none (by rw [hsz] at hi; simpa using hi)]
    rw [e]; exact rv.reverse
  have hsz2 : h2.objs.size = s1.heap.objs.size + 1 := by rw [← hh2, Heap.size_push]
  have hf : ∀ b ∈ [s1.heap.objs.size], FpOk X pins H1 b := fun b hb => by rw [List.mem_singleton.mp hb]; exact f1
  exact ⟨.ref h2.objs.size, _, I2.turnsO (t' := tk) hf (fun b o hb e => hk b o (by simpa using hb) e) (Nat.le_refl _) (show ObjOk X.prog X.w _ _ _ (.lst _) from ⟨by rw [List.length_reverse]; exact hz, acc.toList, c, hv, by simpa using hS⟩), rfl, q _ I2.fresh⟩
end
end L2

namespace L2
open PySem
end L2

namespace L2
open PySem PySem.Spec PyProof.Rows
inductive D where
  | non | bl (b : Bool) | int (i : Int) | str (l : List Nat) | lst (xs : List D) | tup (xs : List D) | dct (ks vs : List D) | dctT (ks vs : List D) | ins (C : Addr) (ns : List Str) (vs : List D)
instance : Inhabited D := ⟨.non⟩
mutual
def D.beq : D → D → Bool
  | .non, .non => true
  | .bl a, .bl b => a == b
  | .int a, .int b => a == b
  | .str a, .str b => a == b
  | .lst a, .lst b => D.beqs a b
  | .tup a, .tup b => D.beqs a b
  | .dct a b, .dct c d => D.beqs a c && D.beqs b d
  | .dctT a b, .dctT c d => D.beqs a c && D.beqs b d
  | .ins C n a, .ins E m b => (decide (C = E) && decide (n = m)) && D.beqs a b
  | _, _ => false
def D.beqs : List D → List D → Bool
  | [], [] => true
  | a :: x, b :: y => a.beq b && D.beqs x y
  | _, _ => false
end
mutual
theorem D.beq_iff : ∀ a b : D, a.beq b = true ↔ a = b
  | .non, b => by cases b <;> simp [D.beq]
  | .bl _, b => by cases b <;> simp [D.beq]
  | .int _, b => by cases b <;> simp [D.beq]
  | .str _, b => by cases b <;> simp [D.beq]
  | .lst a, b => by cases b <;> simp [D.beq, D.beqs_iff a]
  | .tup a, b => by cases b <;> simp [D.beq, D.beqs_iff a]
  | .dct a b, c => by cases c <;> simp [D.beq, D.beqs_iff a, D.beqs_iff b]
  | .dctT a b, c => by cases c <;> simp [D.beq, D.beqs_iff a, D.beqs_iff b]
  | .ins C n a, c => by cases c <;> simp [D.beq, D.beqs_iff a, and_assoc]
theorem D.beqs_iff : ∀ a b : List D, D.beqs a b = true ↔ a = b
  | [], b => by cases b <;> simp [D.beqs]
  | a :: x, b => by cases b <;> simp [D.beqs, D.beq_iff a, D.beqs_iff x]
end
instance : DecidableEq D := fun a b => decidable_of_iff _ (D.beq_iff a b)
mutual
def D.dep : D → Nat
  | .lst a => D.deps a + 1
  | .tup a => D.deps a + 1
  | _ => 0
def D.deps : List D → Nat
  | [] => 0
  | a :: x => max a.dep (D.deps x)
end
mutual
def D.nb : D → Bool
  | .bl _ => false
  | .dct _ _ => false
  | .dctT _ _ => false
  | .ins _ _ _ => false
  | .lst a => D.nbs a
  | .tup a => D.nbs a
  | _ => true
def D.nbs : List D → Bool
  | [] => true
  | a :: x => a.nb && D.nbs x
end

section
variable (K : PySem.W.Frag) (H : Hp)
mutual
def Rep : D → V → Prop
  | .non, v => v = .non
  | .bl b, v => v = .bl b
  | .int i, v => v = .int i
  | .str l, v => v = .str (T l) ∧ ∀ c ∈ l, c < 128
  | .lst ds, v => ∃ p xs, v = .ref p ∧ SqL K H p xs ∧ Reps ds xs
  | .tup ds, v => ∃ p xs, v = .ref p ∧ SqT K H p xs ∧ Reps ds xs
  | .dct ks vs, v => ∃ p kv, v = .ref p ∧ H p = some (.dK kv) ∧ Reps ks (kv.map fun q => kV q.1) ∧ Reps vs (kv.map fun q => q.2)
  | .dctT ks vs, v => ∃ p kv, v = .ref p ∧ H p = some (.dT kv) ∧ TKs ks (kv.map fun q => q.1) ∧ Reps vs (kv.map fun q => q.2)
  | .ins C ns vs, v => ∃ x dx fs, v = .ref x ∧ H x = some (.ins C dx fs) ∧ H dx = some (.own x) ∧ fs.map (fun q => q.1) = ns ∧ Reps vs (fs.map fun q => q.2)
def TK : D → List Key → Prop
  | .tup es, k => Reps es (k.map kV)
  | _, _ => False
def TKs : List D → List (List Key) → Prop
  | [], ks => ks = []
  | d :: ds, ks => ∃ k r, ks = k :: r ∧ TK d k ∧ TKs ds r
def Reps : List D → List V → Prop
  | [], xs => xs = []
  | d :: ds, xs => ∃ x r, xs = x :: r ∧ Rep d x ∧ Reps ds r
end
end
section
variable {K : PySem.W.Frag} {H H' : Hp}
mutual
theorem Rep.mono (s : Same H H') : ∀ {d : D} {v : V}, Rep K H d v → Rep K H' d v
  | .non, _, h => by simpa [Rep] using h
  | .bl _, _, h => by simpa [Rep] using h
  | .int _, _, h => by simpa [Rep] using h
  | .str _, _, h => by simpa [Rep] using h
  | .lst ds, _, h => by
    rw [Rep] at h ⊢
    obtain ⟨p, xs, e, q, r⟩ := h
    exact ⟨p, xs, e, SqL.same s q, Reps.mono s r⟩
  | .tup ds, _, h => by
    rw [Rep] at h ⊢
    obtain ⟨p, xs, e, q, r⟩ := h
    exact ⟨p, xs, e, SqT.same s q, Reps.mono s r⟩
  | .dct ks vs, _, h => by
    rw [Rep] at h ⊢
    obtain ⟨p, kv, e, q, r1, r2⟩ := h
    exact ⟨p, kv, e, s _ _ q, Reps.mono s r1, Reps.mono s r2⟩
  | .dctT ks vs, _, h => by
    rw [Rep] at h ⊢
    obtain ⟨p, kv, e, q, r1, r2⟩ := h
    exact ⟨p, kv, e, s _ _ q, TKs.mono s r1, Reps.mono s r2⟩
  | .ins C ns vs, _, h => by
    rw [Rep] at h ⊢
    obtain ⟨x, dx, fs, e, q1, q2, hn, r⟩ := h
    exact ⟨x, dx, fs, e, s _ _ q1, s _ _ q2, hn, Reps.mono s r⟩
theorem TK.mono (s : Same H H') : ∀ {d : D} {k : List Key}, TK K H d k → TK K H' d k
  | .tup es, _, h => by rw [TK] at h ⊢; exact Reps.mono s h
  | .non, _, h => by simp [TK] at h
  | .bl _, _, h => by simp [TK] at h
  | .int _, _, h => by simp [TK] at h
  | .str _, _, h => by simp [TK] at h
  | .lst _, _, h => by simp [TK] at h
  | .dct _ _, _, h => by simp [TK] at h
  | .dctT _ _, _, h => by simp [TK] at h
  | .ins _ _ _, _, h => by simp [TK] at h
theorem TKs.mono (s : Same H H') : ∀ {ds : List D} {ks : List (List Key)}, TKs K H ds ks → TKs K H' ds ks
  | [], _, h => by rw [TKs] at h ⊢; exact h
  | d :: ds, _, h => by
    rw [TKs] at h ⊢
    obtain ⟨k, r, e, a, b⟩ := h
    exact ⟨k, r, e, TK.mono s a, TKs.mono s b⟩
theorem Reps.mono (s : Same H H') : ∀ {ds : List D} {xs : List V}, Reps K H ds xs → Reps K H' ds xs
  | [], _, h => by simpa [Reps] using h
  | d :: ds, _, h => by
    rw [Reps] at h ⊢
    obtain ⟨x, r, e, a, b⟩ := h
    exact ⟨x, r, e, Rep.mono s a, Reps.mono s b⟩
end
theorem Reps.nil : Reps K H [] [] := by rw [Reps]
theorem Reps.cons {d : D} {ds : List D} {x : V} {xs : List V} (a : Rep K H d x) (b : Reps K H ds xs) : Reps K H (d :: ds) (x :: xs) := by rw [Reps]; exact ⟨x, xs, rfl, a, b⟩
theorem Reps.length : ∀ {ds : List D} {xs : List V}, Reps K H ds xs → ds.length = xs.length
  | [], _, h => by rw [Reps] at h; subst h; rfl
  | d :: ds, _, h => by
    rw [Reps] at h
    obtain ⟨x, r, rfl, _, b⟩ := h
    simp [b.length]
theorem Reps.get : ∀ {ds : List D} {xs : List V} {i : Nat} {x : V}, Reps K H ds xs → xs[i]? = some x → ∃ d, ds[i]? = some d ∧ Rep K H d x
  | [], _, _, _, h, e => by rw [Reps] at h; subst h; simp at e
  | d :: ds, _, 0, _, h, e => by
    rw [Reps] at h
    obtain ⟨y, r, rfl, a, _⟩ := h
    cases e
    exact ⟨d, rfl, a⟩
  | d :: ds, _, i + 1, _, h, e => by
    rw [Reps] at h
    obtain ⟨y, r, rfl, _, b⟩ := h
    exact Reps.get (i := i) b e
theorem Reps.get' : ∀ {ds : List D} {xs : List V} {i : Nat} {d : D}, Reps K H ds xs → ds[i]? = some d → ∃ x, xs[i]? = some x ∧ Rep K H d x := fun {ds xs i d} h e => by
  have hl := h.length
  have hi := (List.getElem?_eq_some_iff.mp e).1
  obtain ⟨d', e', r⟩ := h.get (i := i) (x := xs[i]'(by omega)) (List.getElem?_eq_getElem _)
  rw [e] at e'; cases e'
  exact ⟨_, List.getElem?_eq_getElem _, r⟩
theorem Reps.append : ∀ {ds es : List D} {xs ys : List V}, Reps K H ds xs → Reps K H es ys → Reps K H (ds ++ es) (xs ++ ys)
  | [], _, _, _, h, h2 => by rw [Reps] at h; subst h; exact h2
  | d :: ds, _, _, _, h, h2 => by
    rw [Reps] at h
    obtain ⟨y, r, rfl, a, b⟩ := h
    exact Reps.cons a (Reps.append b h2)
theorem Reps.snoc {ds : List D} {xs : List V} {d : D} {x : V} (h : Reps K H ds xs) (a : Rep K H d x) : Reps K H (ds ++ [d]) (xs ++ [x]) := h.append (.cons a .nil)
theorem Reps.drop : ∀ (n : Nat) {ds : List D} {xs : List V}, Reps K H ds xs → Reps K H (ds.drop n) (xs.drop n)
  | 0, _, _, h => h
  | n + 1, [], _, h => by rw [Reps] at h; subst h; exact Reps.nil
  | n + 1, d :: ds, _, h => by
    rw [Reps] at h
    obtain ⟨y, r, rfl, _, b⟩ := h
    exact Reps.drop n b
theorem Reps.take : ∀ (n : Nat) {ds : List D} {xs : List V}, Reps K H ds xs → Reps K H (ds.take n) (xs.take n)
  | 0, _, _, h => Reps.nil
  | n + 1, [], _, h => by rw [Reps] at h; subst h; exact Reps.nil
  | n + 1, d :: ds, _, h => by
    rw [Reps] at h
    obtain ⟨y, r, rfl, a, b⟩ := h
    exact Reps.cons a (Reps.take n b)
theorem Reps.set {d : D} {x : V} (a : Rep K H d x) : ∀ (n : Nat) {ds : List D} {xs : List V}, Reps K H ds xs → Reps K H (ds.set n d) (xs.set n x)
  | _, [], _, h => by rw [Reps] at h; subst h; exact Reps.nil
  | 0, e :: ds, _, h => by
    rw [Reps] at h
    obtain ⟨y, r, rfl, _, b⟩ := h
    exact Reps.cons a b
  | n + 1, e :: ds, _, h => by
    rw [Reps] at h
    obtain ⟨y, r, rfl, c, b⟩ := h
    exact Reps.cons c (Reps.set a n b)
theorem Reps.reverse : ∀ {ds : List D} {xs : List V}, Reps K H ds xs → Reps K H ds.reverse xs.reverse
  | [], _, h => by rw [Reps] at h; subst h; exact Reps.nil
  | d :: ds, _, h => by
    rw [Reps] at h
    obtain ⟨y, r, rfl, a, b⟩ := h
    rw [List.reverse_cons, List.reverse_cons]
    exact (Reps.reverse b).snoc a
theorem Rep.lst {ds : List D} {p : Addr} {xs : List V} (q : SqL K H p xs) (r : Reps K H ds xs) : Rep K H (.lst ds) (.ref p) := by rw [Rep]; exact ⟨p, xs, rfl, q, r⟩
theorem Rep.tup {ds : List D} {p : Addr} {xs : List V} (q : SqT K H p xs) (r : Reps K H ds xs) : Rep K H (.tup ds) (.ref p) := by rw [Rep]; exact ⟨p, xs, rfl, q, r⟩
theorem Rep.int {i : Int} : Rep K H (.int i) (.int i) := by rw [Rep]
theorem Rep.bl {b : Bool} : Rep K H (.bl b) (.bl b) := by rw [Rep]
theorem Rep.str {l : List Nat} (h : ∀ c ∈ l, c < 128) : Rep K H (.str l) (.str (T l)) := by rw [Rep]; exact ⟨rfl, h⟩
theorem Rep.non : Rep K H .non .non := by rw [Rep]
theorem Rep.of_int {i : Int} {v : V} (h : Rep K H (.int i) v) : v = .int i := by rw [Rep] at h; exact h
theorem Rep.of_bl {b : Bool} {v : V} (h : Rep K H (.bl b) v) : v = .bl b := by rw [Rep] at h; exact h
theorem Rep.of_str {l : List Nat} {v : V} (h : Rep K H (.str l) v) : v = .str (T l) := by rw [Rep] at h; exact h.1
theorem Rep.asc {l : List Nat} {v : V} (h : Rep K H (.str l) v) : ∀ c ∈ l, c < 128 := by rw [Rep] at h; exact h.2
theorem Rep.of_non {v : V} (h : Rep K H .non v) : v = .non := by rw [Rep] at h; exact h
theorem Rep.of_lst {ds : List D} {v : V} (h : Rep K H (.lst ds) v) : ∃ p xs, v = .ref p ∧ SqL K H p xs ∧ Reps K H ds xs := by rw [Rep] at h; exact h
theorem Rep.of_tup {ds : List D} {v : V} (h : Rep K H (.tup ds) v) : ∃ p xs, v = .ref p ∧ SqT K H p xs ∧ Reps K H ds xs := by rw [Rep] at h; exact h
theorem Rep.of_dct {ks vs : List D} {v : V} (h : Rep K H (.dct ks vs) v) : ∃ p kv, v = .ref p ∧ H p = some (.dK kv) ∧ Reps K H ks (kv.map fun q => kV q.1) ∧ Reps K H vs (kv.map fun q => q.2) := by rw [Rep] at h; exact h
theorem Rep.of_ins {C : Addr} {ns : List Str} {vs : List D} {v : V} (h : Rep K H (.ins C ns vs) v) : ∃ x dx fs, v = .ref x ∧ H x = some (.ins C dx fs) ∧ H dx = some (.own x) ∧ fs.map (fun q => q.1) = ns ∧ Reps K H vs (fs.map fun q => q.2) := by rw [Rep] at h; exact h
theorem Rep.dct {ks vs : List D} {p : Addr} {kv : List (Key × V)} (q : H p = some (.dK kv)) (r1 : Reps K H ks (kv.map fun q => kV q.1)) (r2 : Reps K H vs (kv.map fun q => q.2)) : Rep K H (.dct ks vs) (.ref p) := by rw [Rep]; exact ⟨p, kv, rfl, q, r1, r2⟩
theorem Rep.ins {C x dx : Addr} {fs : List (Str × V)} {vs : List D} (q1 : H x = some (.ins C dx fs)) (q2 : H dx = some (.own x)) (r : Reps K H vs (fs.map fun q => q.2)) : Rep K H (.ins C (fs.map fun q => q.1) vs) (.ref x) := by rw [Rep]; exact ⟨x, dx, fs, rfl, q1, q2, rfl, r⟩
theorem Reps.ints {p : Addr} : ∀ (ns : List Int), Reps K H (ns.map D.int) (ns.map V.int)
  | [] => Reps.nil
  | n :: ns => Reps.cons Rep.int (Reps.ints (p := p) ns)
end

structure Ext (G H₀ F H : Hp) : Prop where
  gf : Same G F
  fh : Same F H
  hh : Same H₀ H
  no : ∀ b o, H₀ b = some o → F b = G b
theorem Ext.refl {G H : Hp} (s : Same G H) : Ext G H G H := ⟨Same.refl _, s, Same.refl _, fun _ _ _ => rfl⟩
theorem Ext.trans {G H F1 H1 F2 H2 : Hp} (a : Ext G H F1 H1) (b : Ext F1 H1 F2 H2) : Ext G H F2 H2 :=
  ⟨a.gf.trans b.gf, b.fh, a.hh.trans b.hh, fun c o e => (b.no c o (a.hh c o e)).trans (a.no c o e)⟩
theorem Ext.newF {G H₀ F H : Hp} (x : Ext G H₀ F H) {p : Addr} {o : HO} (hp : H p = none) : Ext G H₀ (upd F p o) (upd H p o) := by
  have fp : F p = none := x.fh.free hp
  refine ⟨x.gf.trans (Same.upd fp), fun b u e => ?_, x.hh.trans (Same.upd hp), fun b u e => ?_⟩
  · by_cases hb : b = p
    · subst hb; rw [upd_same] at e ⊢; exact e
    · rw [upd_ne hb] at e ⊢; exact x.fh b u e
  · have hb : b ≠ p := fun z => by subst z; have := x.hh b u e; rw [hp] at this; cases this
    rw [upd_ne hb]; exact x.no b u e
theorem Ext.newO {G H₀ F H : Hp} (x : Ext G H₀ F H) {p : Addr} {o : HO} (hp : H p = none) : Ext G H₀ F (upd H p o) :=
  ⟨x.gf, x.fh.trans (Same.upd hp), x.hh.trans (Same.upd hp), x.no⟩
theorem Ext.write {G H₀ F H : Hp} (x : Ext G H₀ F H) {p : Addr} {o : HO} (fp : F p = none) (hp : H₀ p = none) : Ext G H₀ F (upd H p o) :=
  ⟨x.gf, fun b u e => by rw [upd_ne (ne_of_none e fp)]; exact x.fh b u e, fun b u e => by rw [upd_ne (ne_of_none e hp)]; exact x.hh b u e, x.no⟩
theorem Ext.freeze {G H₀ F H : Hp} (x : Ext G H₀ F H) {p : Addr} {o : HO} (fp : F p = none) (hp : H₀ p = none) (e : H p = some o) : Ext G H₀ (upd F p o) H := by
  refine ⟨x.gf.trans (Same.upd fp), fun b u q => ?_, x.hh, fun b u q => ?_⟩
  · by_cases hb : b = p
    · subst hb; rw [upd_same] at q; cases q; exact e
    · rw [upd_ne hb] at q; exact x.fh b u q
  · rw [upd_ne (ne_of_none q hp)]; exact x.no b u q

inductive Sl where
  | un | d (x : D) | o (p : Addr) (xs : List D) | oo (p : Addr) (qs : List (Addr × List D)) | g (v : V) (as : List Addr) (W : Hp → Hp → Prop)
def Sl.ads : Sl → List Addr
  | .un => [] | .d _ => [] | .o p _ => [p] | .oo p qs => p :: qs.map (·.1) | .g _ as _ => as
def OwnL (K : PySem.W.Frag) (H₀ F H : Hp) (p : Addr) (xs : List D) : Prop := H₀ p = none ∧ F p = none ∧ ∃ vs, H p = some (.lst vs) ∧ Reps K F xs vs
def Stab (as : List Addr) (W : Hp → Hp → Prop) : Prop := ∀ F1 H1 F2 H2 : Hp, Same F1 F2 → (∀ a ∈ as, H2 a = H1 a) → W F1 H1 → W F2 H2
def SlOk (K : PySem.W.Frag) (H₀ F H : Hp) (ov : Option V) : Sl → Prop
  | .un => True
  | .d x => ∃ v, ov = some v ∧ Rep K F x v
  | .o p xs => ov = some (.ref p) ∧ OwnL K H₀ F H p xs
  | .oo p qs => ov = some (.ref p) ∧ H₀ p = none ∧ F p = none ∧ H p = some (.lst (qs.map fun q => V.ref q.1)) ∧ ∀ q ∈ qs, OwnL K H₀ F H q.1 q.2
  | .g v as W => ov = some v ∧ (∀ a ∈ as, H₀ a = none ∧ F a = none ∧ ∃ o, H a = some o) ∧ W F H ∧ Stab as W
structure Sat (K : PySem.W.Frag) (G H₀ L F H : Hp) (σ : St) (ss : List Sl) : Prop where
  ext : Ext G H₀ F H
  fl : Same L F
  len : σ.length = ss.length
  ok : ∀ (i : Nat) s, ss[i]? = some s → SlOk K H₀ F H (σ.getD i none) s
  nd : ∀ (i : Nat) s, ss[i]? = some s → s.ads.Nodup
  ne : ∀ (i j : Nat) s s', i ≠ j → ss[i]? = some s → ss[j]? = some s' → ∀ p ∈ s.ads, p ∉ s'.ads
section
variable {K : PySem.W.Frag} {H₀ F H F' H' : Hp}
theorem OwnL.ext2 {p : Addr} {xs : List D} (h : OwnL K H₀ F H p xs) (e : Ext F H F' H') : OwnL K H₀ F' H' p xs := by
  obtain ⟨h0, fp, vs, hp, r⟩ := h
  exact ⟨h0, (e.no p _ hp).trans fp, vs, e.hh p _ hp, r.mono e.gf⟩
theorem SlOk.ext2 {ov : Option V} {s : Sl} (h : SlOk K H₀ F H ov s) (e : Ext F H F' H') : SlOk K H₀ F' H' ov s := by
  cases s with
  | un => trivial
  | d x => obtain ⟨v, ev, r⟩ := h; exact ⟨v, ev, r.mono e.gf⟩
  | o p xs => exact ⟨h.1, h.2.ext2 e⟩
  | oo p qs =>
    obtain ⟨ev, h0, fp, hp, hq⟩ := h
    exact ⟨ev, h0, (e.no p _ hp).trans fp, e.hh p _ hp, fun q hm => (hq q hm).ext2 e⟩
  | g v as W =>
    obtain ⟨ev, ha, hw, st⟩ := h
    refine ⟨ev, fun a hm => ?_, st _ _ _ _ e.gf (fun a hm => ?_) hw, st⟩
    · obtain ⟨h0, fa, o, ho⟩ := ha a hm
      exact ⟨h0, (e.no a _ ho).trans fa, o, e.hh a _ ho⟩
    · obtain ⟨h0, fa, o, ho⟩ := ha a hm
      rw [e.hh a _ ho, ho]
theorem OwnL.updNe {p a : Addr} {o : HO} {xs : List D} (h : OwnL K H₀ F H p xs) (hn : p ≠ a) : OwnL K H₀ F (upd H a o) p xs := by
  obtain ⟨h0, fp, vs, hp, r⟩ := h
  exact ⟨h0, fp, vs, by rw [upd_ne hn]; exact hp, r⟩
theorem SlOk.updNe {ov : Option V} {s : Sl} {a : Addr} {o : HO} (h : SlOk K H₀ F H ov s) (hn : a ∉ s.ads) : SlOk K H₀ F (upd H a o) ov s := by
  cases s with
  | un => trivial
  | d x => exact h
  | o p xs => exact ⟨h.1, h.2.updNe fun z => hn (by simp [Sl.ads, z])⟩
  | oo p qs =>
    obtain ⟨ev, h0, fp, hp, hq⟩ := h
    refine ⟨ev, h0, fp, by rw [upd_ne fun z => hn (by simp [Sl.ads, z])]; exact hp, fun q hm => (hq q hm).updNe fun z => hn ?_⟩
    rw [← z]
    exact List.mem_cons_of_mem _ (List.mem_map_of_mem hm)
  | g v as W =>
    obtain ⟨ev, ha, hw, st⟩ := h
    have hne : ∀ b ∈ as, b ≠ a := fun b hm z => hn (by rw [← z]; exact hm)
    refine ⟨ev, fun b hm => ?_, st _ _ _ _ (Same.refl _) (fun b hm => upd_ne (hne b hm)) hw, st⟩
    obtain ⟨h0, fa, x, ho⟩ := ha b hm
    exact ⟨h0, fa, x, by rw [upd_ne (hne b hm)]; exact ho⟩
theorem OwnL.frz {p a : Addr} {o : HO} {xs : List D} (h : OwnL K H₀ F H p xs) (fa : F a = none) (hn : p ≠ a) : OwnL K H₀ (upd F a o) H p xs := by
  obtain ⟨h0, fp, vs, hp, r⟩ := h
  exact ⟨h0, by rw [upd_ne hn]; exact fp, vs, hp, r.mono (Same.upd fa)⟩
theorem SlOk.frz {ov : Option V} {s : Sl} {a : Addr} {o : HO} (h : SlOk K H₀ F H ov s) (fa : F a = none) (hn : a ∉ s.ads) : SlOk K H₀ (upd F a o) H ov s := by
  cases s with
  | un => trivial
  | d x => obtain ⟨v, ev, r⟩ := h; exact ⟨v, ev, r.mono (Same.upd fa)⟩
  | o p xs => exact ⟨h.1, h.2.frz fa fun z => hn (by simp [Sl.ads, z])⟩
  | oo p qs =>
    obtain ⟨ev, h0, fp, hp, hq⟩ := h
    refine ⟨ev, h0, by rw [upd_ne fun z => hn (by simp [Sl.ads, z])]; exact fp, hp, fun q hm => (hq q hm).frz fa fun z => hn ?_⟩
    rw [← z]
    exact List.mem_cons_of_mem _ (List.mem_map_of_mem hm)
  | g v as W =>
    obtain ⟨ev, ha, hw, st⟩ := h
    have hne : ∀ b ∈ as, b ≠ a := fun b hm z => hn (by rw [← z]; exact hm)
    refine ⟨ev, fun b hm => ?_, st _ _ _ _ (Same.upd fa) (fun _ _ => rfl) hw, st⟩
    obtain ⟨h0, fb, x, ho⟩ := ha b hm
    exact ⟨h0, by rw [upd_ne (hne b hm)]; exact fb, x, ho⟩
theorem SlOk.live {ov : Option V} {s : Sl} (h : SlOk K H₀ F H ov s) {p : Addr} (hp : p ∈ s.ads) : H p ≠ none := by
  cases s with
  | un => simp [Sl.ads] at hp
  | d x => simp [Sl.ads] at hp
  | o q xs =>
    obtain ⟨_, _, _, vs, hq, _⟩ := h
    simp [Sl.ads] at hp; subst hp; rw [hq]; simp
  | oo q qs =>
    obtain ⟨ev, h0, fp, hq, hqs⟩ := h
    rcases List.mem_cons.mp hp with rfl | hp
    · rw [hq]; simp
    · obtain ⟨r, hr, rfl⟩ := List.mem_map.mp hp
      obtain ⟨_, _, vs, hv, _⟩ := hqs r hr
      rw [hv]; simp
  | g v as W =>
    obtain ⟨ev, ha, hw, st⟩ := h
    obtain ⟨_, _, x, ho⟩ := ha p hp
    rw [ho]; simp
end
end L2

namespace L2
open PySem PySem.Spec PyProof.Rows
section
variable {K : PySem.W.Frag} {G H₀ L F H F' H' : Hp} {σ : St} {ss : List Sl}
theorem Sat.ext2 (S : Sat K G H₀ L F H σ ss) (e : Ext F H F' H') : Sat K G H₀ L F' H' σ ss :=
  ⟨S.ext.trans e, S.fl.trans e.gf, S.len, fun i s hs => (S.ok i s hs).ext2 e, S.nd, S.ne⟩
theorem Sat.get (S : Sat K G H₀ L F H σ ss) {i : Nat} {s : Sl} (hs : ss[i]? = some s) (hn : s ≠ .un) : ∃ v, σ[i]? = some (some v) ∧ SlOk K H₀ F H (some v) s := by
  have hi : i < σ.length := by rw [S.len]; exact (List.getElem?_eq_some_iff.mp hs).1
  have := S.ok i s hs
  rw [List.getD_eq_getElem?_getD, List.getElem?_eq_getElem hi] at this
  simp only [Option.getD_some] at this
  cases hv : σ[i] with
  | none =>
    rw [hv] at this
    cases s with
    | un => exact absurd rfl hn
    | d x => obtain ⟨v, ev, _⟩ := this; cases ev
    | o p xs => obtain ⟨ev, _⟩ := this; cases ev
    | oo p qs => obtain ⟨ev, _⟩ := this; cases ev
    | g v as W => obtain ⟨ev, _⟩ := this; cases ev
  | some v =>
    rw [hv] at this
    exact ⟨v, by rw [List.getElem?_eq_getElem hi, hv], this⟩
theorem Sat.getD (S : Sat K G H₀ L F H σ ss) {i : Nat} {x : D} (hs : ss[i]? = some (.d x)) : ∃ v, σ[i]? = some (some v) ∧ Rep K F x v := by
  obtain ⟨v, e, w, ew, r⟩ := S.get hs (by intro z; cases z)
  cases ew
  exact ⟨v, e, r⟩
theorem Sat.getO (S : Sat K G H₀ L F H σ ss) {i : Nat} {p : Addr} {xs : List D} (hs : ss[i]? = some (.o p xs)) : σ[i]? = some (some (.ref p)) ∧ OwnL K H₀ F H p xs := by
  obtain ⟨v, e, ew, r⟩ := S.get hs (by intro z; cases z)
  cases ew
  exact ⟨e, r⟩
theorem getD_set_self {σ : St} {i : Nat} {v : Option V} (h : i < σ.length) : (σ.set i v).getD i none = v := by
  rw [List.getD_eq_getElem?_getD, List.getElem?_set_self h]; rfl
theorem getD_set_ne {σ : St} {i j : Nat} {v : Option V} (h : i ≠ j) : (σ.set i v).getD j none = σ.getD j none := by
  rw [List.getD_eq_getElem?_getD, List.getElem?_set_ne h, List.getD_eq_getElem?_getD]
theorem set_cases {i j : Nat} {s t : Sl} (h : (ss.set i s)[j]? = some t) : (i = j ∧ t = s ∧ i < ss.length) ∨ (i ≠ j ∧ ss[j]? = some t) := by
  by_cases hj : i = j
  · subst hj
    have hi := (List.getElem?_eq_some_iff.mp h).1
    rw [List.length_set] at hi
    rw [List.getElem?_set_self hi] at h
    exact .inl ⟨rfl, (Option.some.inj h).symm, hi⟩
  · rw [List.getElem?_set_ne hj] at h; exact .inr ⟨hj, h⟩
theorem Sat.put {σ' : St} (S : Sat K G H₀ L F H σ ss) {i : Nat} {s : Sl} (ex : Ext G H₀ F' H') (fl : Same L F') (hl : σ'.length = σ.length) (hσ : ∀ j, j ≠ i → σ'.getD j none = σ.getD j none) (hi : i < ss.length → SlOk K H₀ F' H' (σ'.getD i none) s)
    (nd : s.ads.Nodup) (dj : ∀ (j : Nat) s', j ≠ i → ss[j]? = some s' → ∀ p ∈ s.ads, p ∉ s'.ads) (st : ∀ (j : Nat) s', j ≠ i → ss[j]? = some s' → SlOk K H₀ F' H' (σ.getD j none) s') : Sat K G H₀ L F' H' σ' (ss.set i s) := by
  refine ⟨ex, fl, by rw [List.length_set, hl, S.len], fun j t ht => ?_, fun j t ht => ?_, fun j k t u hjk ht hu => ?_⟩
  · rcases set_cases ht with ⟨rfl, rfl, hlt⟩ | ⟨hj, ht⟩
    · exact hi hlt
    · rw [hσ j (Ne.symm hj)]; exact st j t (Ne.symm hj) ht
  · rcases set_cases ht with ⟨rfl, rfl, _⟩ | ⟨hj, ht⟩
    · exact nd
    · exact S.nd j t ht
  · rcases set_cases ht with ⟨rfl, rfl, _⟩ | ⟨hj, ht'⟩
    · rcases set_cases hu with ⟨rfl, rfl, _⟩ | ⟨hk, hu'⟩
      · exact absurd rfl hjk
      · exact dj k u (Ne.symm hk) hu'
    · rcases set_cases hu with ⟨rfl, rfl, _⟩ | ⟨hk, hu'⟩
      · exact fun p hp hp' => dj j t (Ne.symm hj) ht' p hp' hp
      · exact S.ne j k t u hjk ht' hu'
theorem Sat.setD (S : Sat K G H₀ L F H σ ss) {i : Nat} {x : D} {v : V} (r : Rep K F x v) : Sat K G H₀ L F H (σ.set i (some v)) (ss.set i (.d x)) :=
  S.put S.ext S.fl (by simp) (fun j hj => getD_set_ne (Ne.symm hj)) (fun hi => by rw [getD_set_self (by rw [S.len]; exact hi)]; exact ⟨v, rfl, r⟩) (by simp [Sl.ads]) (fun _ _ _ _ p hp => by simp [Sl.ads] at hp) fun j s' _ h => S.ok j s' h
theorem Sat.setO (S : Sat K G H₀ L F H σ ss) {i : Nat} {xs : List D} {p : Addr} (r : OwnL K H₀ F H p xs) (hne : ∀ (j : Nat) s', j ≠ i → ss[j]? = some s' → p ∉ s'.ads) : Sat K G H₀ L F H (σ.set i (some (.ref p))) (ss.set i (.o p xs)) :=
  S.put S.ext S.fl (by simp) (fun j hj => getD_set_ne (Ne.symm hj)) (fun hi => by rw [getD_set_self (by rw [S.len]; exact hi)]; exact ⟨rfl, r⟩) (by simp [Sl.ads]) (fun j s' hj h q hq => by simp [Sl.ads] at hq; subst hq; exact hne j s' hj h) fun j s' _ h => S.ok j s' h
theorem Sat.write (S : Sat K G H₀ L F H σ ss) {i : Nat} {xs ys : List D} {p : Addr} {vs : List V} (hs : ss[i]? = some (.o p xs)) (r : Reps K F ys vs) : Sat K G H₀ L F (upd H p (.lst vs)) σ (ss.set i (.o p ys)) := by
  obtain ⟨e, h0, fp, ws, hp, _⟩ := S.getO hs
  have hget : σ.getD i none = some (.ref p) := by rw [List.getD_eq_getElem?_getD, e]; rfl
  refine S.put (S.ext.write fp h0) S.fl rfl (fun _ _ => rfl) (fun _ => by rw [hget]; exact ⟨rfl, h0, fp, vs, upd_same, r⟩) (by simp [Sl.ads]) (fun j s' hj h q hq => ?_) fun j s' hj h => (S.ok j s' h).updNe (S.ne i j _ s' (Ne.symm hj) hs h p (by simp [Sl.ads]))
  simp [Sl.ads] at hq; subst hq
  exact S.ne i j _ s' (Ne.symm hj) hs h q (by simp [Sl.ads])
theorem Sat.freeze (S : Sat K G H₀ L F H σ ss) {i : Nat} {p : Addr} {xs : List D} (hs : ss[i]? = some (.o p xs)) : ∃ F', Sat K G H₀ L F' H σ (ss.set i (.d (.lst xs))) := by
  obtain ⟨e, h0, fp, vs, hp, r⟩ := S.getO hs
  have hget : σ.getD i none = some (.ref p) := by rw [List.getD_eq_getElem?_getD, e]; rfl
  exact ⟨upd F p (.lst vs), S.put (S.ext.freeze fp h0 hp) (S.fl.trans (Same.upd fp)) rfl (fun _ _ => rfl) (fun _ => by rw [hget]; exact ⟨_, rfl, Rep.lst (SqL.of upd_same) (r.mono (Same.upd fp))⟩) (by simp [Sl.ads]) (fun _ _ _ _ q hq => by simp [Sl.ads] at hq)
    fun j s' hj h => (S.ok j s' h).frz fp (S.ne i j _ s' (Ne.symm hj) hs h p (by simp [Sl.ads]))⟩
theorem Sat.raise (S : Sat K G H₀ L F H σ ss) : Sat K G H₀ F F H σ ss := ⟨S.ext, Same.refl _, S.len, S.ok, S.nd, S.ne⟩
theorem Sat.lower {L' : Hp} (S : Sat K G H₀ L' F H σ ss) (h : Same L L') : Sat K G H₀ L F H σ ss := ⟨S.ext, h.trans S.fl, S.len, S.ok, S.nd, S.ne⟩
end

section
variable (K : PySem.W.Frag) (G H₀ L : Hp) (ss : List Sl)
def Ev (t : TE) (d : D) : Prop := ∀ F H σ Q, Sat K G H₀ L F H σ ss → (∀ v F' H', Ext F H F' H' → Rep K F' d v → Q v H') → t σ H Q
def EvO (t : TE) (ds : List D) : Prop := ∀ F H σ Q, Sat K G H₀ L F H σ ss → (∀ p vs F' H', Ext F H F' H' → H p = none → F' p = none → H' p = some (.lst vs) → Reps K F' ds vs → Q (.ref p) H') → t σ H Q
def EvL (t : TE) (ds : List D) : Prop := ∀ F H σ Q, Sat K G H₀ L F H σ ss → (∀ p vs F' H', Ext F H F' H' → SqL K H' p vs → Reps K F' ds vs → Q (.ref p) H') → t σ H Q
def EvB (t : TE) (d : D) : Prop := ∀ F H σ Q, Sat K G H₀ L F H σ ss → (∀ v F' H', Ext F H F' H' → Rep K H' d v → Q v H') → t σ H Q
def EvT (t : TT) (b : Bool) : Prop := ∀ F H σ (Q : Bool → Hp → Prop), Sat K G H₀ L F H σ ss → (∀ F' H', Ext F H F' H' → Q b H') → t σ H Q
def EvA (t : TA) (ds : List D) : Prop := ∀ F H σ (Q : List V → Hp → Prop), Sat K G H₀ L F H σ ss → (∀ vs F' H', Ext F H F' H' → Reps K H' ds vs → Q vs H') → t σ H Q
def EvAF (t : TA) (ds : List D) : Prop := ∀ F H σ (Q : List V → Hp → Prop), Sat K G H₀ L F H σ ss → (∀ vs F' H', Ext F H F' H' → Reps K F' ds vs → Q vs H') → t σ H Q
end
section
variable {K : PySem.W.Frag} {G H₀ L : Hp} {ss : List Sl} {t ta tb : TE} {d d1 d2 : D} {ds es : List D}
theorem EvO.ev (h : EvO K G H₀ L ss t ds) : Ev K G H₀ L ss t (.lst ds) := fun F H σ Q S q => h F H σ Q S fun p vs F' H' e hp fp hp' r => q _ _ _ (e.freeze fp hp hp') (Rep.lst (SqL.of upd_same) (r.mono (Same.upd fp)))
theorem EvO.l (h : EvO K G H₀ L ss t ds) : EvL K G H₀ L ss t ds := fun F H σ Q S q => h F H σ Q S fun p vs F' H' e hp fp hp' r => q _ _ _ _ e (SqL.of hp') r
theorem Ev.l (h : Ev K G H₀ L ss t (.lst ds)) : EvL K G H₀ L ss t ds := fun F H σ Q S q => h F H σ Q S fun v F' H' e r => by
  obtain ⟨p, xs, rfl, sq, rs⟩ := r.of_lst
  exact q _ _ _ _ e (SqL.same e.fh sq) rs
theorem Ev.b (h : Ev K G H₀ L ss t d) : EvB K G H₀ L ss t d := fun F H σ Q S q => h F H σ Q S fun v F' H' e r => q _ _ _ e (r.mono e.fh)
theorem EvL.b (h : EvL K G H₀ L ss t ds) : EvB K G H₀ L ss t (.lst ds) := fun F H σ Q S q => h F H σ Q S fun p vs F' H' e sq r => q _ _ _ e (Rep.lst sq (r.mono e.fh))
theorem ev_var {i : Nat} (hs : ss[i]? = some (.d d)) : Ev K G H₀ L ss (tVar i) d := fun F H σ Q S q => by
  obtain ⟨v, e, r⟩ := S.getD hs
  exact ⟨v, e, q _ _ _ (Ext.refl S.ext.fh) r⟩
theorem evl_own {i : Nat} {p : Addr} (hs : ss[i]? = some (.o p ds)) : EvL K G H₀ L ss (tVar i) ds := fun F H σ Q S q => by
  obtain ⟨e, h0, fp, vs, hp, r⟩ := S.getO hs
  exact ⟨.ref p, e, q _ _ _ _ (Ext.refl S.ext.fh) (SqL.of hp) r⟩
theorem ev_int {i : Int} : Ev K G H₀ L ss (tC (.int i)) (.int i) := fun F H σ Q S q => q _ _ _ (Ext.refl S.ext.fh) Rep.int
theorem ev_bl {b : Bool} : Ev K G H₀ L ss (tC (.bl b)) (.bl b) := fun F H σ Q S q => q _ _ _ (Ext.refl S.ext.fh) Rep.bl
theorem ev_non : Ev K G H₀ L ss (tC .non) .non := fun F H σ Q S q => q _ _ _ (Ext.refl S.ext.fh) Rep.non
theorem ev_str {x : Str} {l : List Nat} (h : x = T l) (ha : ∀ c ∈ l, c < 128) : Ev K G H₀ L ss (tC (.str x)) (.str l) := fun F H σ Q S q => by subst h; exact q _ _ _ (Ext.refl S.ext.fh) (Rep.str ha)
theorem ev_op2 {r : R2} {w : V} (a : EvB K G H₀ L ss ta d1) (b : EvB K G H₀ L ss tb d2) (hr : ∀ H x y (Q : VK), Rep K H d1 x → Rep K H d2 y → Q w H → r x y H Q) (hw : ∀ F H x y, Rep K H d1 x → Rep K H d2 y → Rep K F d w) : Ev K G H₀ L ss (tOp r ta tb) d := fun F H σ Q S q =>
  a F H σ _ S fun x F1 H1 e1 r1 => b F1 H1 σ _ (S.ext2 e1) fun y F2 H2 e2 r2 => hr H2 x y Q (r1.mono e2.hh) r2 (q _ _ _ (e1.trans e2) (hw _ _ _ _ (r1.mono e2.hh) r2))
theorem ev_add {i j : Int} (a : EvB K G H₀ L ss ta (.int i)) (b : EvB K G H₀ L ss tb (.int j)) : Ev K G H₀ L ss (tOp (rI0 fun i j => .int (i + j)) ta tb) (.int (i + j)) :=
  ev_op2 a b (fun H x y Q r1 r2 q => ⟨i, j, r1.of_int, r2.of_int, q⟩) fun _ _ _ _ _ _ => Rep.int
theorem ev_sub {i j : Int} (a : EvB K G H₀ L ss ta (.int i)) (b : EvB K G H₀ L ss tb (.int j)) : Ev K G H₀ L ss (tOp (rI0 fun i j => .int (i - j)) ta tb) (.int (i - j)) :=
  ev_op2 a b (fun H x y Q r1 r2 q => ⟨i, j, r1.of_int, r2.of_int, q⟩) fun _ _ _ _ _ _ => Rep.int
theorem ev_opI {C : Int → Int → Prop} {g : Int → Int → Int} {i j : Int} (a : EvB K G H₀ L ss ta (.int i)) (b : EvB K G H₀ L ss tb (.int j)) (hC : C i j) : Ev K G H₀ L ss (tOp (rI C fun i j => .int (g i j)) ta tb) (.int (g i j)) :=
  ev_op2 a b (fun H x y Q r1 r2 q => ⟨i, j, r1.of_int, r2.of_int, hC, q⟩) fun _ _ _ _ _ _ => Rep.int
theorem ev_cmpI {g : Int → Int → Bool} {i j : Int} (a : EvB K G H₀ L ss ta (.int i)) (b : EvB K G H₀ L ss tb (.int j)) : Ev K G H₀ L ss (tOp (rI0 fun i j => .bl (g i j)) ta tb) (.bl (g i j)) :=
  ev_op2 a b (fun H x y Q r1 r2 q => ⟨i, j, r1.of_int, r2.of_int, q⟩) fun _ _ _ _ _ _ => Rep.bl
theorem ev_eqI {i j : Int} (a : EvB K G H₀ L ss ta (.int i)) (b : EvB K G H₀ L ss tb (.int j)) : Ev K G H₀ L ss (tOp rEq ta tb) (.bl (decide (i = j))) :=
  ev_op2 (w := .bl (decide (i = j))) a b (fun H x y Q r1 r2 q => by rw [r1.of_int, r2.of_int]; exact ⟨rfl, by simpa using q⟩) fun _ _ _ _ _ _ => Rep.bl
theorem ev_neI {i j : Int} (a : EvB K G H₀ L ss ta (.int i)) (b : EvB K G H₀ L ss tb (.int j)) : Ev K G H₀ L ss (tOp rNe ta tb) (.bl (!decide (i = j))) :=
  ev_op2 (w := .bl (!decide (i = j))) a b (fun H x y Q r1 r2 q => by rw [r1.of_int, r2.of_int]; exact ⟨rfl, by simpa using q⟩) fun _ _ _ _ _ _ => Rep.bl
theorem ev_eqS {l m : List Nat} (a : EvB K G H₀ L ss ta (.str l)) (b : EvB K G H₀ L ss tb (.str m)) : Ev K G H₀ L ss (tOp rEq ta tb) (.bl (decide (l = m))) :=
  ev_op2 (w := .bl (decide (l = m))) a b (fun H x y Q r1 r2 q => by rw [r1.of_str, r2.of_str]; exact ⟨rfl, by rw [T_decide]; exact q⟩) fun _ _ _ _ _ _ => Rep.bl
theorem ev_neS {l m : List Nat} (a : EvB K G H₀ L ss ta (.str l)) (b : EvB K G H₀ L ss tb (.str m)) : Ev K G H₀ L ss (tOp rNe ta tb) (.bl (!decide (l = m))) :=
  ev_op2 (w := .bl (!decide (l = m))) a b (fun H x y Q r1 r2 q => by rw [r1.of_str, r2.of_str]; exact ⟨rfl, by rw [T_decide]; exact q⟩) fun _ _ _ _ _ _ => Rep.bl
theorem ev_catS {l m : List Nat} (a : EvB K G H₀ L ss ta (.str l)) (b : EvB K G H₀ L ss tb (.str m)) (hz : l.length + m.length ≤ sizeLine) :
    Ev K G H₀ L ss (tOp (fun x y H Q => ∃ i j, x = .str i ∧ y = .str j ∧ i.length + j.length ≤ sizeLine ∧ Q (.str (i ++ j)) H) ta tb) (.str (l ++ m)) :=
  ev_op2 (w := .str (T (l ++ m))) a b (fun H x y Q r1 r2 q => ⟨_, _, r1.of_str, r2.of_str, by rw [T_len, T_len]; exact hz, by rw [T_app]; exact q⟩) fun _ _ _ _ r1 r2 => Rep.str fun c hc => (List.mem_append.mp hc).elim (r1.asc c) (r2.asc c)
theorem atI_mem {α : Type} {xs : List α} {i : Int} {x : α} (h : atI xs i = some x) : x ∈ xs := by
  unfold atI at h
  cases hx : ixN xs.length i with
  | none => rw [hx] at h; cases h
  | some j => rw [hx] at h; exact List.mem_of_getElem? h
theorem ev_ixS {l : List Nat} {i : Int} {c : Nat} (a : EvB K G H₀ L ss ta (.str l)) (b : EvB K G H₀ L ss tb (.int i)) (hz : l.length ≤ sizeLine) (hc : atI l i = some c) : Ev K G H₀ L ss (tOp rIxS ta tb) (.str [c]) :=
  ev_op2 (w := .str (T [c])) a b (fun H x y Q r1 r2 q => ⟨_, _, c, r1.of_str, r2.of_int, by rw [T_len]; exact hz, by rw [T_cps]; exact hc, q⟩) fun _ _ _ _ r1 r2 => Rep.str fun c' hc' => by
    rw [List.mem_singleton.mp hc']
    exact r1.asc c (atI_mem hc)
theorem Reps.atI {H : Hp} {ds : List D} {vs : List V} {i : Int} {d : D} (r : Reps K H ds vs) (h : L2.atI ds i = some d) : ∃ v, L2.atI vs i = some v ∧ Rep K H d v := by
  unfold L2.atI at h ⊢
  rw [r.length] at h
  cases hx : ixN vs.length i with
  | none => rw [hx] at h; cases h
  | some j => rw [hx] at h; exact r.get' h
theorem ev_ixL {i : Int} (a : EvL K G H₀ L ss ta ds) (b : EvB K G H₀ L ss tb (.int i)) (hc : atI ds i = some d) : Ev K G H₀ L ss (tOp (rIxL K) ta tb) d := fun F H σ Q S q =>
  a F H σ _ S fun p vs F1 H1 e1 sq r1 => b F1 H1 σ _ (S.ext2 e1) fun y F2 H2 e2 r2 => by
    obtain ⟨v, hv, rv⟩ := r1.atI hc
    exact ⟨p, vs, i, v, rfl, r2.of_int, SqL.same e2.hh sq, hv, q _ _ _ (e1.trans e2) (rv.mono e2.gf)⟩
theorem ev_ixT {i : Int} (a : Ev K G H₀ L ss ta (.tup ds)) (b : EvB K G H₀ L ss tb (.int i)) (hc : atI ds i = some d) : Ev K G H₀ L ss (tOp (rIxT K) ta tb) d := fun F H σ Q S q =>
  a F H σ _ S fun x F1 H1 e1 r1 => b F1 H1 σ _ (S.ext2 e1) fun y F2 H2 e2 r2 => by
    obtain ⟨p, vs, rfl, sq, rs⟩ := r1.of_tup
    obtain ⟨v, hv, rv⟩ := rs.atI hc
    exact ⟨p, vs, i, v, rfl, r2.of_int, SqT.same (e1.fh.trans e2.hh) sq, hv, q _ _ _ (e1.trans e2) (rv.mono e2.gf)⟩
theorem eva_nil : EvA K G H₀ L ss tNil [] := fun F H σ Q S q => q _ _ _ (Ext.refl S.ext.fh) Reps.nil
theorem eva_cons {t : TA} (a : EvB K G H₀ L ss ta d) (b : EvA K G H₀ L ss t ds) : EvA K G H₀ L ss (tCons ta t) (d :: ds) := fun F H σ Q S q =>
  a F H σ _ S fun x F1 H1 e1 r1 => b F1 H1 σ _ (S.ext2 e1) fun vs F2 H2 e2 r2 => q _ _ _ (e1.trans e2) (Reps.cons (r1.mono e2.hh) r2)
theorem evaf_nil : EvAF K G H₀ L ss tNil [] := fun F H σ Q S q => q _ _ _ (Ext.refl S.ext.fh) Reps.nil
theorem evaf_cons {t : TA} (a : Ev K G H₀ L ss ta d) (b : EvAF K G H₀ L ss t ds) : EvAF K G H₀ L ss (tCons ta t) (d :: ds) := fun F H σ Q S q =>
  a F H σ _ S fun x F1 H1 e1 r1 => b F1 H1 σ _ (S.ext2 e1) fun vs F2 H2 e2 r2 => q _ _ _ (e1.trans e2) (Reps.cons (r1.mono e2.gf) r2)
theorem ev_tup {t : TA} (a : EvAF K G H₀ L ss t ds) (hz : ds.length ≤ sizeLine) : Ev K G H₀ L ss (tTup t) (.tup ds) := fun F H σ Q S q =>
  a F H σ _ S fun vs F1 H1 e1 r1 => ⟨by rw [← r1.length]; exact hz, fun p hp => q _ _ _ (e1.newF hp) (Rep.tup (SqT.of upd_same) (r1.mono (Same.upd (e1.fh.free hp))))⟩
theorem evo_lst {t : TA} (a : EvAF K G H₀ L ss t ds) (hz : ds.length ≤ sizeLine) : EvO K G H₀ L ss (tLst t) ds := fun F H σ Q S q =>
  a F H σ _ S fun vs F1 H1 e1 r1 => ⟨by rw [← r1.length]; exact hz, fun p hp => q p vs F1 _ (e1.newO hp) (e1.hh.free hp) (e1.fh.free hp) upd_same r1⟩
theorem evt_test {b : Bool} (a : Ev K G H₀ L ss t (.bl b)) : EvT K G H₀ L ss (tTest t) b := fun F H σ Q S q => a F H σ _ S fun v F' H' e r => ⟨b, r.of_bl, q _ _ e⟩
theorem evt_b {b : Bool} (a : Ev K G H₀ L ss t (.bl b)) : EvT K G H₀ L ss (tB t) b := fun F H σ Q S q => a F H σ _ S fun v F' H' e r => ⟨b, r.of_bl, q _ _ e⟩
theorem evt_not {u : TT} {b : Bool} (a : EvT K G H₀ L ss u b) : EvT K G H₀ L ss (tNot u) (!b) := fun F H σ Q S q => a F H σ _ S fun F' H' e => q _ _ e
theorem evt_and {u v : TT} {b c : Bool} (a : EvT K G H₀ L ss u b) (h : b = true → EvT K G H₀ L ss v c) : EvT K G H₀ L ss (tAnd u v) (b && c) := fun F H σ Q S q => a F H σ _ S fun F' H' e => by
  cases b with
  | false => exact iteF (q _ _ e)
  | true => exact iteT (h rfl _ _ _ _ (S.ext2 e) fun F'' H'' e' => q _ _ (e.trans e'))
theorem evt_or {u v : TT} {b c : Bool} (a : EvT K G H₀ L ss u b) (h : b = false → EvT K G H₀ L ss v c) : EvT K G H₀ L ss (tOr u v) (b || c) := fun F H σ Q S q => a F H σ _ S fun F' H' e => by
  cases b with
  | true => exact iteT (q _ _ e)
  | false => exact iteF (h rfl _ _ _ _ (S.ext2 e) fun F'' H'' e' => q _ _ (e.trans e'))
theorem ev_and {b c : Bool} (a : Ev K G H₀ L ss ta (.bl b)) (h : b = true → Ev K G H₀ L ss tb (.bl c)) : Ev K G H₀ L ss (tAndV ta tb) (.bl (b && c)) := fun F H σ Q S q => a F H σ _ S fun v F' H' e r => by
  refine ⟨b, r.of_bl, ?_⟩
  cases b with
  | false => exact iteF (q _ _ _ e Rep.bl)
  | true => exact iteT (h rfl _ _ _ _ (S.ext2 e) fun v F'' H'' e' r' => q _ _ _ (e.trans e') r')
theorem ev_or {b c : Bool} (a : Ev K G H₀ L ss ta (.bl b)) (h : b = false → Ev K G H₀ L ss tb (.bl c)) : Ev K G H₀ L ss (tOrV ta tb) (.bl (b || c)) := fun F H σ Q S q => a F H σ _ S fun v F' H' e r => by
  refine ⟨b, r.of_bl, ?_⟩
  cases b with
  | true => exact iteT (q _ _ _ e Rep.bl)
  | false => exact iteF (h rfl _ _ _ _ (S.ext2 e) fun v F'' H'' e' r' => q _ _ _ (e.trans e') r')
end
end L2

namespace L2
open PySem PySem.Spec PyProof.Rows
def SpD (K : PySem.W.Frag) (pre : List D → Prop) (res : List D → D) : Sp := fun vs H Q _ => ∃ G ds, Same G H ∧ Reps K G ds vs ∧ pre ds ∧ ∀ v G' H', Ext G H G' H' → Rep K G' (res ds) v → Q v H'
def D.flat : D → Bool
  | .lst _ => false | .tup _ => false | .dct _ _ => false | .dctT _ _ => false | .ins _ _ _ => false | _ => true
theorem Rep.flat {K : PySem.W.Frag} {H H' : Hp} {d : D} {v : V} (f : d.flat = true) (r : Rep K H d v) : Rep K H' d v := by
  cases d with
  | lst _ => cases f
  | tup _ => cases f
  | dct _ _ => cases f
  | dctT _ _ => cases f
  | ins _ _ _ => cases f
  | non => rw [r.of_non]; exact Rep.non
  | bl b => rw [r.of_bl]; exact Rep.bl
  | int i => rw [r.of_int]; exact Rep.int
  | str l => rw [r.of_str]; exact Rep.str r.asc
section
variable {K : PySem.W.Frag} {G H₀ L : Hp} {ss : List Sl} {t : TA} {ds : List D} {pre : List D → Prop} {E : XK}
theorem ev_call {res : List D → D} (a : EvAF K G H₀ L ss t ds) (hp : pre ds) : Ev K G H₀ L ss (tCall (SpD K pre res) [] E t) (res ds) := fun F H σ Q S q =>
  a F H σ _ S fun vs F1 H1 e1 r1 => ⟨F1, ds, e1.fh, by rw [List.append_nil]; exact r1, hp, fun v G' H' e2 r => q _ _ _ (e1.trans e2) r⟩
end

section
variable (K : PySem.W.Frag) (G H₀ L : Hp)
def Nx (P : St → Hp → Prop) (ss : List Sl) : Prop := ∀ F H σ, Sat K G H₀ L F H σ ss → P σ H
def Go (E : Ends) (ss : List Sl) (t : TS) : Prop := ∀ F H σ, Sat K G H₀ L F H σ ss → t E σ H
def Tg (g : TG) (d : D) (ss ss' : List Sl) : Prop := ∀ F H σ v (Q : St → Hp → Prop), Sat K G H₀ L F H σ ss → Rep K F d v → (∀ σ' , Sat K G H₀ L F H σ' ss' → Q σ' H) → g v σ H Q
def Tgs (g : TGs) (ds : List D) (ss ss' : List Sl) : Prop := ∀ F H σ vs (Q : St → Hp → Prop), Sat K G H₀ L F H σ ss → Reps K F ds vs → (∀ σ' , Sat K G H₀ L F H σ' ss' → Q σ' H) → g vs σ H Q
def At (I : List Sl → Prop) : St → Hp → Prop := fun σ H => ∃ ss F, Sat K G H₀ L F H σ ss ∧ I ss
end
def RtD (K : PySem.W.Frag) (G H₀ : Hp) (rt : VK) (d : D) : Prop := ∀ v F H, Ext G H₀ F H → Rep K F d v → rt v H
def RtO (K : PySem.W.Frag) (G H₀ : Hp) (rt : VK) (ds : List D) : Prop := ∀ p vs F H, Ext G H₀ F H → H₀ p = none → F p = none → H p = some (.lst vs) → Reps K F ds vs → rt (.ref p) H
section
variable {K : PySem.W.Frag} {G H₀ L : Hp} {ss ss' : List Sl} {E : Ends} {t u : TS} {te : TE} {d : D} {ds : List D} {P : St → Hp → Prop}
theorem go_seq (h : Go K G H₀ L { E with nx := u E } ss t) : Go K G H₀ L E ss (tSeq t u) := h
theorem go_set {i : Nat} (a : Ev K G H₀ L ss te d) (h : Nx K G H₀ L E.nx (ss.set i (.d d))) : Go K G H₀ L E ss (tAsg te (gName i)) := fun F H σ S => a F H σ _ S fun v F' H' e r => h F' H' _ ((S.ext2 e).setD r)
theorem Sat.notin {F H : Hp} {σ : St} {p : Addr} (S : Sat K G H₀ L F H σ ss) (hp : H p = none) (j : Nat) (s : Sl) (h : ss[j]? = some s) : p ∉ s.ads := fun z => (S.ok j s h).live z hp
theorem Sat.newO {F H F' H' : Hp} {σ : St} {p : Addr} {vs : List V} {i : Nat} (S : Sat K G H₀ L F H σ ss) (e : Ext F H F' H') (hp : H p = none) (fp : F' p = none) (hp' : H' p = some (.lst vs)) (r : Reps K F' ds vs) : Sat K G H₀ L F' H' (σ.set i (some (.ref p))) (ss.set i (.o p ds)) :=
  (S.ext2 e).setO ⟨S.ext.hh.free hp, fp, vs, hp', r⟩ fun j s _ h => S.notin hp j s h
theorem go_setO {i : Nat} (a : EvO K G H₀ L ss te ds) (h : ∀ p, Nx K G H₀ L E.nx (ss.set i (.o p ds))) : Go K G H₀ L E ss (tAsg te (gName i)) := fun F H σ S => a F H σ _ S fun p vs F' H' e hp fp hp' r => h p F' H' _ (S.newO e hp fp hp' r)
theorem go_if {c : TT} {b : Bool} (a : EvT K G H₀ L ss c b) (h1 : b = true → Go K G H₀ L E ss t) (h2 : b = false → Go K G H₀ L E ss u) : Go K G H₀ L E ss (tIfS c t u) := fun F H σ S => a F H σ _ S fun F' H' e => by
  cases b with
  | true => exact iteT (h1 rfl F' H' σ (S.ext2 e))
  | false => exact iteF (h2 rfl F' H' σ (S.ext2 e))
theorem go_next (h : Nx K G H₀ L E.nx ss) : Go K G H₀ L E ss tNext := h
theorem go_ret (a : Ev K G H₀ L ss te d) (h : RtD K G H₀ E.rt d) : Go K G H₀ L E ss (tRet te) := fun F H σ S => a F H σ _ S fun v F' H' e r => h v F' H' (S.ext.trans e) r
theorem go_retV {i : Nat} {p : Addr} (hs : ss[i]? = some (.o p ds)) (h : RtO K G H₀ E.rt ds) : Go K G H₀ L E ss (tRet (tVar i)) := fun F H σ S => by
  obtain ⟨e, h0, fp, vs, hp, r⟩ := S.getO hs
  exact ⟨.ref p, e, h p vs F H S.ext h0 fp hp r⟩
theorem nx_freeze {i : Nat} {p : Addr} (hs : ss[i]? = some (.o p ds)) (h : Nx K G H₀ L P (ss.set i (.d (.lst ds)))) : Nx K G H₀ L P ss := fun F H σ S => by
  obtain ⟨F', S'⟩ := S.freeze hs
  exact h F' H σ S'
theorem nx_go (h : Go K G H₀ L E ss t) : Nx K G H₀ L (t E) ss := h
theorem nx_at {I : List Sl → Prop} (h : I ss) : Nx K G H₀ L (At K G H₀ L I) ss := fun F H σ S => ⟨ss, F, S, h⟩
theorem go_join (I : List Sl → Prop) (h1 : ∀ N : St → Hp → Prop, (∀ ss, I ss → Nx K G H₀ L N ss) → Go K G H₀ L { E with nx := N } ss t) (h2 : ∀ ss, I ss → Go K G H₀ L E ss u) : Go K G H₀ L E ss (tSeq t u) := h1 _ h2
theorem tg_name {i : Nat} : Tg K G H₀ L (gName i) d ss (ss.set i (.d d)) := fun F H σ v Q S r q => q _ (S.setD r)
theorem tgs_nil : Tgs K G H₀ L gNil [] ss ss := fun F H σ vs Q S r q => by
  rw [Reps] at r
  exact ⟨r, q _ S⟩
theorem tgs_cons {g : TG} {gs : TGs} {ss1 ss2 : List Sl} (a : Tg K G H₀ L g d ss ss1) (b : Tgs K G H₀ L gs ds ss1 ss2) : Tgs K G H₀ L (gCons g gs) (d :: ds) ss ss2 := fun F H σ vs Q S r q => by
  rw [Reps] at r
  obtain ⟨x, xs, rfl, r1, r2⟩ := r
  exact ⟨x, xs, rfl, a F H σ x _ S r1 fun σ' S' => b F H σ' xs _ S' r2 q⟩
theorem tg_tup {g : TGs} {n : Nat} (hn : ds.length = n) (a : Tgs K G H₀ L g ds ss ss') : Tg K G H₀ L (gTup K n g) (.tup ds) ss ss' := fun F H σ v Q S r q => by
  obtain ⟨p, xs, rfl, sq, rs⟩ := r.of_tup
  exact ⟨p, xs, rfl, SqT.same S.ext.fh sq, by rw [← rs.length]; exact hn, a F H σ xs _ S rs q⟩
theorem go_append {i : Nat} {p : Addr} {t1 : TE} (hs : ss[i]? = some (.o p ds)) (a : Ev K G H₀ L ss t1 d) (hz : ds.length < sizeLine) (h : Nx K G H₀ L E.nx (ss.set i (.o p (ds ++ [d])))) :
    Go K G H₀ L E ss (tDrop (tBM K "list" rAppend (tVar i) (tCons t1 tNil))) := fun F H σ S => by
  obtain ⟨e, h0, fp, vs, hp, r⟩ := S.getO hs
  refine ⟨.ref p, e, .inl ⟨rfl, _, SqL.of hp⟩, a F H σ _ S fun v F' H' e' r' => ?_⟩
  have S' := S.ext2 e'
  obtain ⟨e2, h02, fp2, vs', hp2, r2⟩ := S'.getO hs
  exact ⟨p, vs', v, rfl, rfl, hp2, by rw [← r2.length]; exact hz, h F' _ σ (S'.write hs (r2.snoc r'))⟩
theorem Rep.itl {F H : Hp} {p : Addr} (h : Same F H) (r : Rep K F (.lst ds) (.ref p)) : ∃ vs, SqL K H p vs ∧ Reps K F ds vs := by
  obtain ⟨q, xs, e, sq, rs⟩ := r.of_lst
  cases e
  exact ⟨xs, SqL.same h sq, rs⟩
theorem go_for {tl : TE} {g : TG} {tb : TS} {α : Type} (enc : α → D) (xs : List α) (I : Nat → List Sl → Prop) (a : Ev K G H₀ L ss tl (.lst (xs.map enc))) (h0 : I 0 ss)
    (hs : ∀ L' k x ss, Same L L' → xs[k]? = some x → I k ss → ∃ ss', Tg K G H₀ L' g (enc x) ss ss' ∧ ∀ N, (∀ ss, I (k + 1) ss → Nx K G H₀ L' N ss) → Go K G H₀ L' { E with nx := N, ct := N, bk := E.nx } ss' tb)
    (hd : ∀ ss, I xs.length ss → Nx K G H₀ L E.nx ss) : Go K G H₀ L E ss (tFor (iList K tl) g tb) := fun F H σ S =>
  a F H σ _ S fun v F1 H1 e1 r1 => by
    obtain ⟨p, vs, rfl, sq, rs⟩ := r1.of_lst
    refine ⟨p, rfl, ⟨vs, SqL.same e1.fh sq⟩, ?_⟩
    refine ⟨fun i m σ' H' => m = xs.length - i ∧ i ≤ xs.length ∧ At K G H₀ F1 (I i) σ' H', ⟨_, rfl, Nat.zero_le _, ss, F1, (S.ext2 e1).raise, h0⟩, ?_⟩
    rintro i m σ' H' ⟨rfl, hi, ss1, F2, S2, h2⟩
    have rp : Rep K F2 (.lst (xs.map enc)) (.ref p) := r1.mono S2.fl
    obtain ⟨ws, sq2, rs2⟩ := rp.itl S2.ext.fh
    have hlen : ws.length = xs.length := by rw [← rs2.length, List.length_map]
    by_cases hlt : i < xs.length
    · refine .inr ⟨⟨ws, ws[i]'(by omega), sq2, List.getElem?_eq_getElem _⟩, fun σ'' H'' => At K G H₀ F1 (I (i + 1)) σ'' H'', fun σ'' H'' h => ⟨xs.length - (i + 1), by omega, rfl, hlt, h⟩, fun x H'' y => ?_⟩
      obtain ⟨rfl, y⟩ := y
      have hx := y ws sq2
      obtain ⟨dx, hdx, rx⟩ := rs2.get hx
      rw [List.getElem?_map, List.getElem?_eq_getElem hlt] at hdx
      cases hdx
      obtain ⟨ss', tg, go⟩ := hs F1 i _ ss1 (S.fl.trans e1.gf) (List.getElem?_eq_getElem hlt) h2
      exact tg F2 _ σ' x _ S2 rx fun σ3 S3 => go _ (fun ss h => nx_at h) F2 _ σ3 S3
    · have e : i = xs.length := by omega
      subst e
      exact .inl ⟨⟨ws, sq2, by omega⟩, hd ss1 h2 F2 H' σ' (S2.lower (S.fl.trans e1.gf))⟩
theorem go_range {ta : TA} {j : Nat} {tb : TS} {n : Int} (I : Nat → List Sl → Prop) (a : EvA K G H₀ L ss ta [.int n]) (hb : -(2 ^ 62) ≤ n ∧ n < 2 ^ 62) (h0 : I 0 ss)
    (hs : ∀ (k : Nat) ss, (k : Int) < n → I k ss → ∀ N, (∀ ss, I (k + 1) ss → Nx K G H₀ L N ss) → Go K G H₀ L { E with nx := N, ct := N, bk := E.nx } (ss.set j (.d (.int (k : Int)))) tb)
    (hd : ∀ ss, I n.toNat ss → Nx K G H₀ L E.nx ss) {ti : TI} (hti : ∀ σ H R, (ta σ H fun vs H1 => ∃ m : Int, vs = [.int m] ∧ -(2 ^ 62) ≤ m ∧ m < 2 ^ 62 ∧ R (Itr 0 m.toNat) H1) → ti σ H R) : Go K G H₀ L E ss (tFor ti (gName j) tb) := fun F H σ S => by
  refine hti σ H _ (a F H σ _ S fun vs F1 H1 e1 r1 => ?_)
  rw [Reps] at r1
  obtain ⟨x, r, rfl, rx, r1⟩ := r1
  rw [Reps] at r1
  subst r1
  rw [rx.of_int]
  refine ⟨n, rfl, hb.1, hb.2, fun i m σ' H' => m = n.toNat - i ∧ i ≤ n.toNat ∧ At K G H₀ L (I i) σ' H', ⟨_, rfl, Nat.zero_le _, ss, F1, S.ext2 e1, h0⟩, ?_⟩
  rintro i m σ' H' ⟨rfl, hi, ss1, F2, S2, h2⟩
  by_cases hlt : i < n.toNat
  · refine .inr ⟨hlt, fun σ'' H'' => At K G H₀ L (I (i + 1)) σ'' H'', fun σ'' H'' h => ⟨n.toNat - (i + 1), by omega, rfl, hlt, h⟩, fun x H'' y => ?_⟩
    obtain ⟨rfl, rfl⟩ := y
    refine hs i ss1 (by omega) h2 _ (fun ss h => nx_at h) F2 _ _ ?_
    have e : (0 : Int) + (i : Int) = (i : Int) := by omega
    rw [e]
    exact S2.setD Rep.int
  · have e : i = n.toNat := by omega
    subst e
    exact .inl ⟨Nat.le_refl _, hd ss1 h2 F2 H' σ' S2⟩
end
end L2

namespace L2
open PySem PySem.Spec PyProof.Rows
mutual
def D.toP : D → PyData
  | .non => .none
  | .bl b => .bool b
  | .int i => .int i
  | .str l => .str (T l)
  | .lst a => .list (D.toPs a)
  | .tup a => .tuple (D.toPs a)
  | .dct _ _ => .none
  | .dctT _ _ => .none
  | .ins _ _ _ => .none
def D.toPs : List D → List PyData
  | [] => []
  | a :: x => a.toP :: D.toPs x
end
mutual
theorem D.toP_depth : ∀ d : D, d.toP.depth = d.dep
  | .non => rfl
  | .bl _ => rfl
  | .int _ => rfl
  | .str _ => rfl
  | .lst a => by simp [D.toP, PyData.depth, D.dep, D.toPs_depth a]
  | .tup a => by simp [D.toP, PyData.depth, D.dep, D.toPs_depth a]
  | .dct _ _ => rfl
  | .dctT _ _ => rfl
  | .ins _ _ _ => rfl
theorem D.toPs_depth : ∀ a : List D, PyData.depthAll (D.toPs a) = D.deps a
  | [] => rfl
  | d :: a => by simp [D.toPs, PyData.depthAll, D.deps, D.toP_depth d, D.toPs_depth a]
end
mutual
theorem D.eqv : ∀ d e : D, d.nb = true → e.nb = true → PyData.eqv d.toP e.toP = decide (d = e)
  | .non, e, _, h2 => by cases e <;> simp [D.toP, PyData.eqv, D.nb] at h2 ⊢
  | .bl _, _, h1, _ => by simp [D.nb] at h1
  | .dct _ _, _, h1, _ => by simp [D.nb] at h1
  | .dctT _ _, _, h1, _ => by simp [D.nb] at h1
  | .ins _ _ _, _, h1, _ => by simp [D.nb] at h1
  | .int i, e, _, h2 => by
    cases e <;> simp [D.toP, PyData.eqv, D.nb] at h2 ⊢
    exact Bool.beq_eq_decide_eq _ _
  | .str l, e, _, h2 => by
    cases e <;> simp [D.toP, PyData.eqv, D.nb] at h2 ⊢
    rename_i m
    rw [Bool.eq_iff_iff]; simp [T_inj]
  | .lst a, e, h1, h2 => by
    cases e with
    | lst b =>
      simp only [D.nb] at h1 h2
      simp only [D.toP, PyData.eqv, D.lst.injEq]
      exact D.eqvs a b h1 h2
    | _ => simp [D.toP, PyData.eqv, D.nb] at h2 ⊢
  | .tup a, e, h1, h2 => by
    cases e with
    | tup b =>
      simp only [D.nb] at h1 h2
      simp only [D.toP, PyData.eqv, D.tup.injEq]
      exact D.eqvs a b h1 h2
    | _ => simp [D.toP, PyData.eqv, D.nb] at h2 ⊢
theorem D.eqvs : ∀ a b : List D, D.nbs a = true → D.nbs b = true → PyData.eqvAll (D.toPs a) (D.toPs b) = decide (a = b)
  | [], b, _, _ => by cases b <;> simp [D.toPs, PyData.eqvAll]
  | d :: a, b, h1, h2 => by
    cases b with
    | nil => simp [D.toPs, PyData.eqvAll]
    | cons e b =>
      simp only [D.nbs, Bool.and_eq_true] at h1 h2
      simp only [D.toPs, PyData.eqvAll, D.eqv d e h1.1 h2.1, D.eqvs a b h1.2 h2.2, List.cons.injEq]
      by_cases x : d = e <;> by_cases y : a = b <;> simp [x, y]
end
section
variable {X : Cx} {pins : List (Addr × Obj)} {σ : St} {H : Hp} {s : Shared}
theorem strOk_T {l : List Nat} (h : ∀ c ∈ l, c < 128) : PyData.strOk (T l) = true := by
  unfold PyData.strOk T
  simp
  intro c hc
  have := h c hc
  omega
mutual
theorem Inv.reads (I : Inv X pins σ H s) : ∀ {d : D} {v : V} {u : Value}, d.nb = true → Rep X.K H d v → RelV v u → (∃ as, Reads s.heap u d.toP as) ∧ d.toP.canLay0 = true
  | .non, _, _, _, r, q => by rw [r.of_non] at q; cases q; exact ⟨⟨_, Reads.none⟩, rfl⟩
  | .bl b, _, _, n, _, _ => by simp [D.nb] at n
  | .dct _ _, _, _, n, _, _ => by simp [D.nb] at n
  | .dctT _ _, _, _, n, _, _ => by simp [D.nb] at n
  | .ins _ _ _, _, _, n, _, _ => by simp [D.nb] at n
  | .int i, _, _, _, r, q => by rw [r.of_int] at q; obtain ⟨t, rfl⟩ := q; exact ⟨⟨_, Reads.int i t⟩, rfl⟩
  | .str l, _, _, _, r, q => by
    have ha := r.asc
    rw [r.of_str] at q; obtain ⟨t, rfl⟩ := q
    exact ⟨⟨_, Reads.str _ t⟩, strOk_T ha⟩
  | .lst ds, _, _, nn, r, q => by
    obtain ⟨p, xs, rfl, sq, rs⟩ := r.of_lst
    cases q
    obtain ⟨its, rv, ⟨o, n, e, c, _, hd⟩, _⟩ := I.list sq
    obtain ⟨⟨as, ra⟩, hc⟩ := I.readsAll (by simpa [D.nb] using nn) rs rv
    exact ⟨⟨_, Reads.list e c hd (by simpa using ra)⟩, by simpa [D.toP, PyData.canLay0] using hc⟩
  | .tup ds, _, _, nn, r, q => by
    obtain ⟨p, xs, rfl, sq, rs⟩ := r.of_tup
    cases q
    obtain ⟨its, rv, ⟨o, e, c, n, hd⟩, _⟩ := I.tuple sq
    obtain ⟨⟨as, ra⟩, hc⟩ := I.readsAll (by simpa [D.nb] using nn) rs rv
    exact ⟨⟨_, Reads.tuple e c hd (by simpa using ra)⟩, by simpa [D.toP, PyData.canLay0] using hc⟩
theorem Inv.readsAll (I : Inv X pins σ H s) : ∀ {ds : List D} {vs : List V} {us : List Value}, D.nbs ds = true → Reps X.K H ds vs → Vals vs us → (∃ as, ReadsAll s.heap us (D.toPs ds) as) ∧ PyData.canLayAll0 (D.toPs ds) = true
  | [], _, _, _, r, q => by
    rw [Reps] at r; subst r
    cases q
    exact ⟨⟨_, ReadsAll.nil⟩, rfl⟩
  | d :: ds, _, _, n, r, q => by
    simp only [D.nbs, Bool.and_eq_true] at n
    rw [Reps] at r
    obtain ⟨x, xs, rfl, r1, r2⟩ := r
    cases q with
    | cons q1 q2 =>
      obtain ⟨⟨as, a⟩, hc⟩ := I.reads n.1 r1 q1
      obtain ⟨⟨bs, b⟩, hc2⟩ := I.readsAll n.2 r2 q2
      exact ⟨⟨_, ReadsAll.cons a b⟩, by simp [D.toPs, PyData.canLayAll0, hc, hc2]⟩
end
end
def rEqD (K : PySem.W.Frag) : R2 := fun x y H Q => ∃ d e, Rep K H d x ∧ Rep K H e y ∧ d.nb = true ∧ e.nb = true ∧ d.dep ≤ 60 ∧ Q (.bl (decide (d = e))) H
def rNeD (K : PySem.W.Frag) : R2 := fun x y H Q => ∃ d e, Rep K H d x ∧ Rep K H e y ∧ d.nb = true ∧ e.nb = true ∧ d.dep ≤ 60 ∧ Q (.bl (!decide (d = e))) H
section
variable {X : Cx}
theorem op_eqD (hu : X.A.units + 64 < cLine) : OpR X (compareOp .Eq) (rEqD X.K) := by
  intro pins s σ H x y v u Q I rx ry h
  obtain ⟨d, e, r1, r2, n1, n2, hd, q⟩ := h
  obtain ⟨⟨as, a⟩, c1⟩ := I.reads n1 r1 rx
  obtain ⟨⟨bs, b⟩, c2⟩ := I.reads n2 r2 ry
  have h1 := D.toP_depth d
  refine SeqAt.compareEq_reads a b c1 c2 (by omega) ?_
  rw [D.eqv d e n1 n2]
  exact ⟨.bl _, H, I, rfl, q⟩
theorem op_neD (hu : X.A.units + 64 < cLine) : OpR X (compareOp .NotEq) (rNeD X.K) := by
  intro pins s σ H x y v u Q I rx ry h
  obtain ⟨d, e, r1, r2, n1, n2, hd, q⟩ := h
  obtain ⟨⟨as, a⟩, c1⟩ := I.reads n1 r1 rx
  obtain ⟨⟨bs, b⟩, c2⟩ := I.reads n2 r2 ry
  have h1 := D.toP_depth d
  refine SeqAt.compareNe_reads a b c1 c2 (by omega) ?_
  rw [D.eqv d e n1 n2]
  exact ⟨.bl _, H, I, rfl, q⟩
theorem any_toPs (d : D) (hd : d.nb = true) : ∀ ds : List D, D.nbs ds = true → ((D.toPs ds).any fun y => PyData.eqv y d.toP) = decide (d ∈ ds)
  | [], _ => by simp [D.toPs]
  | e :: ds, h => by
    simp only [D.nbs, Bool.and_eq_true] at h
    rw [D.toPs, List.any_cons, any_toPs d hd ds h.2, D.eqv e d h.1 hd]
    by_cases x : e = d
    · subst x; simp
    · have : ¬ d = e := fun z => x z.symm
      simp [x, this]
def rInD (K : PySem.W.Frag) (neg : Bool) : R2 := fun x y H Q => ∃ d ds, Rep K H d x ∧ (Rep K H (.lst ds) y ∨ Rep K H (.tup ds) y) ∧ d.nb = true ∧ D.nbs ds = true ∧ d.dep ≤ 60 ∧ Q (.bl (if neg then !decide (d ∈ ds) else decide (d ∈ ds))) H
theorem op_inD (hu : X.A.units + 64 < cLine) : OpR X (compareOp .In) (rInD X.K false) := by
  intro pins s σ H x y v u Q I rx ry h
  obtain ⟨d, ds, r1, r2, n1, n2, hd, q⟩ := h
  obtain ⟨⟨as, a⟩, c1⟩ := I.reads n1 r1 rx
  have h1 := D.toP_depth d
  have fin : EP X pins σ Q (.bool ((D.toPs ds).any fun y => PyData.eqv y d.toP)) s := by rw [any_toPs d n1 ds n2]; exact ⟨.bl _, H, I, rfl, q⟩
  rcases r2 with r2 | r2
  · obtain ⟨⟨bs, b⟩, c2⟩ := I.reads (by simpa [D.nb] using n2) r2 ry
    rw [D.toP] at b c2
    exact SeqAt.in_list_reads b a (by simpa [PyData.canLay0] using c2) c1 (by omega) fin
  · obtain ⟨⟨bs, b⟩, c2⟩ := I.reads (by simpa [D.nb] using n2) r2 ry
    rw [D.toP] at b c2
    exact SeqAt.in_tuple_reads b a (by simpa [PyData.canLay0] using c2) c1 (by omega) fin
theorem op_notInD (hu : X.A.units + 64 < cLine) : OpR X (compareOp .NotIn) (rInD X.K true) := by
  intro pins s σ H x y v u Q I rx ry h
  obtain ⟨d, ds, r1, r2, n1, n2, hd, q⟩ := h
  obtain ⟨⟨as, a⟩, c1⟩ := I.reads n1 r1 rx
  have h1 := D.toP_depth d
  have fin : EP X pins σ Q (.bool (!(D.toPs ds).any fun y => PyData.eqv y d.toP)) s := by rw [any_toPs d n1 ds n2]; exact ⟨.bl _, H, I, rfl, q⟩
  rcases r2 with r2 | r2
  · obtain ⟨⟨bs, b⟩, c2⟩ := I.reads (by simpa [D.nb] using n2) r2 ry
    rw [D.toP] at b c2
    exact SeqAt.notIn_list_reads b a (by simpa [PyData.canLay0] using c2) c1 (by omega) fin
  · obtain ⟨⟨bs, b⟩, c2⟩ := I.reads (by simpa [D.nb] using n2) r2 ry
    rw [D.toP] at b c2
    exact SeqAt.notIn_tuple_reads b a (by simpa [PyData.canLay0] using c2) c1 (by omega) fin
end
section
variable {K : PySem.W.Frag} {G H₀ L : Hp} {ss : List Sl} {t ta tb : TE} {d d1 d2 : D} {ds es : List D}
theorem ev_eqD (a : EvB K G H₀ L ss ta d1) (b : EvB K G H₀ L ss tb d2) (n1 : d1.nb = true) (n2 : d2.nb = true) (hd : d1.dep ≤ 60) : Ev K G H₀ L ss (tOp (rEqD K) ta tb) (.bl (decide (d1 = d2))) :=
  ev_op2 (w := .bl (decide (d1 = d2))) a b (fun H x y Q r1 r2 q => ⟨d1, d2, r1, r2, n1, n2, hd, q⟩) fun _ _ _ _ _ _ => Rep.bl
theorem ev_neD (a : EvB K G H₀ L ss ta d1) (b : EvB K G H₀ L ss tb d2) (n1 : d1.nb = true) (n2 : d2.nb = true) (hd : d1.dep ≤ 60) : Ev K G H₀ L ss (tOp (rNeD K) ta tb) (.bl (!decide (d1 = d2))) :=
  ev_op2 (w := .bl (!decide (d1 = d2))) a b (fun H x y Q r1 r2 q => ⟨d1, d2, r1, r2, n1, n2, hd, q⟩) fun _ _ _ _ _ _ => Rep.bl
theorem ev_inD (a : EvB K G H₀ L ss ta d) (b : EvB K G H₀ L ss tb (.lst ds)) (n1 : d.nb = true) (n2 : D.nbs ds = true) (hd : d.dep ≤ 60) : Ev K G H₀ L ss (tOp (rInD K false) ta tb) (.bl (decide (d ∈ ds))) :=
  ev_op2 (w := .bl (decide (d ∈ ds))) a b (fun H x y Q r1 r2 q => ⟨d, ds, r1, .inl r2, n1, n2, hd, q⟩) fun _ _ _ _ _ _ => Rep.bl
theorem ev_inT (a : EvB K G H₀ L ss ta d) (b : EvB K G H₀ L ss tb (.tup ds)) (n1 : d.nb = true) (n2 : D.nbs ds = true) (hd : d.dep ≤ 60) : Ev K G H₀ L ss (tOp (rInD K false) ta tb) (.bl (decide (d ∈ ds))) :=
  ev_op2 (w := .bl (decide (d ∈ ds))) a b (fun H x y Q r1 r2 q => ⟨d, ds, r1, .inr r2, n1, n2, hd, q⟩) fun _ _ _ _ _ _ => Rep.bl
theorem ev_notInD (a : EvB K G H₀ L ss ta d) (b : EvB K G H₀ L ss tb (.lst ds)) (n1 : d.nb = true) (n2 : D.nbs ds = true) (hd : d.dep ≤ 60) : Ev K G H₀ L ss (tOp (rInD K true) ta tb) (.bl (!decide (d ∈ ds))) :=
  ev_op2 (w := .bl (!decide (d ∈ ds))) a b (fun H x y Q r1 r2 q => ⟨d, ds, r1, .inl r2, n1, n2, hd, q⟩) fun _ _ _ _ _ _ => Rep.bl
end
theorem D.nbs_map {α : Type} {enc : α → D} (h : ∀ x, (enc x).nb = true) : ∀ xs : List α, D.nbs (xs.map enc) = true
  | [] => rfl
  | x :: xs => by simp [D.nbs, h x, D.nbs_map h xs]
theorem D.deps_map {α : Type} {enc : α → D} {n : Nat} (h : ∀ x, (enc x).dep ≤ n) : ∀ xs : List α, D.deps (xs.map enc) ≤ n
  | [] => Nat.zero_le _
  | x :: xs => by
    have h1 := h x
    have h2 := D.deps_map h xs
    simp only [List.map_cons, D.deps]; omega
theorem D.nb_lst {ds : List D} : (D.lst ds).nb = D.nbs ds := by rw [D.nb]
theorem D.dep_lst {ds : List D} : (D.lst ds).dep = D.deps ds + 1 := by rw [D.dep]
end L2

namespace L2
open PySem PySem.Spec PyProof.Rows
def ItOk (K : PySem.W.Frag) (J : It) (F' H' : Hp) (n : Nat) (y : Nat → D) : Prop := ∀ F2 H2, Same F' F2 → Same H' H2 → Same F2 H2 →
  (∀ i, i < n → J.go i H2 ∧ ∀ x H3, J.yld i H2 x H3 → ∃ F3, Ext F2 H2 F3 H3 ∧ Rep K F3 (y i) x) ∧ J.stop n H2
def EvI (K : PySem.W.Frag) (G H₀ L : Hp) (ss : List Sl) (wi : TI) (n : Nat) (y : Nat → D) : Prop := ∀ F H σ R, Sat K G H₀ L F H σ ss → (∀ F' H' J, Ext F H F' H' → ItOk K J F' H' n y → R J H') → wi σ H R
section
variable {K : PySem.W.Frag} {G H₀ L : Hp} {ss : List Sl}
theorem evi_list {tl : TE} {ds : List D} (a : EvL K G H₀ L ss tl ds) : EvI K G H₀ L ss (iList K tl) ds.length fun i => ds.getD i .non := fun F H σ R S q =>
  a F H σ _ S fun p vs F' H' e sq r => ⟨p, rfl, ⟨vs, sq⟩, q F' H' _ e fun F2 H2 f1 h1 fh => by
    have sq2 := SqL.same h1 sq
    have hl := r.length
    refine ⟨fun i hi => ⟨⟨vs, vs[i]'(by omega), sq2, List.getElem?_eq_getElem _⟩, fun x H3 y => ?_⟩, ⟨vs, sq2, by omega⟩⟩
    obtain ⟨rfl, y⟩ := y
    obtain ⟨d, hd, rd⟩ := r.get (y vs sq2)
    refine ⟨F2, Ext.refl fh, ?_⟩
    show Rep K F2 (ds.getD i D.non) x
    rw [List.getD_eq_getElem?_getD, hd]
    exact rd.mono f1⟩
def lcSl (nt : Nat) (cs : List Nat) (ss : List Sl) : List Sl := List.replicate nt .un ++ cs.map fun i => ss.getD i .un
theorem Sat.lc {F H : Hp} {σ : St} {nt : Nat} {cs : List Nat} (S : Sat K G H₀ L F H σ ss) (hc : cs.Nodup) : Sat K G H₀ L F H (lcS nt cs σ) (lcSl nt cs ss) := by
  have cut : ∀ (i : Nat) s, (lcSl nt cs ss)[i]? = some s → s = .un ∨ ∃ j, nt ≤ i ∧ cs[i - nt]? = some j ∧ ss[j]? = some s := by
    intro i s h
    unfold lcSl at h
    by_cases hi : i < nt
    · rw [List.getElem?_append_left (by simpa using hi), List.getElem?_replicate, if_pos hi] at h
      exact .inl (Option.some.inj h).symm
    · rw [List.getElem?_append_right (by simpa using hi), List.length_replicate, List.getElem?_map] at h
      cases hj : cs[i - nt]? with
      | none => rw [hj] at h; cases h
      | some j =>
        rw [hj] at h
        have h : ss.getD j .un = s := Option.some.inj h
        rw [List.getD_eq_getElem?_getD] at h
        cases hs : ss[j]? with
        | none => rw [hs] at h; exact .inl h.symm
        | some s' => rw [hs] at h; exact .inr ⟨j, by omega, rfl, by rw [hs]; exact congrArg some h⟩
  have val : ∀ (i j : Nat), nt ≤ i → cs[i - nt]? = some j → (lcS nt cs σ).getD i none = σ.getD j none := by
    intro i j hi hj
    unfold lcS
    rw [List.getD_eq_getElem?_getD, List.getElem?_append_right (by simpa using hi), List.length_replicate, List.getElem?_map, hj]
    simp [List.getD_eq_getElem?_getD]
  refine ⟨S.ext, S.fl, by unfold lcS lcSl; simp, fun i s h => ?_, fun i s h => ?_, fun i j s s' hij h h' p hp => ?_⟩
  · rcases cut i s h with rfl | ⟨j, hi, hj, hs⟩
    · trivial
    · rw [val i j hi hj]; exact S.ok j s hs
  · rcases cut i s h with rfl | ⟨j, hi, hj, hs⟩
    · simp [Sl.ads]
    · exact S.nd j s hs
  · rcases cut i s h with rfl | ⟨k, hi, hk, hs⟩
    · simp [Sl.ads] at hp
    · rcases cut j s' h' with rfl | ⟨m, hj, hm, hs'⟩
      · simp [Sl.ads]
      · have : k ≠ m := fun z => by
          subst z
          obtain ⟨l1, e1⟩ := List.getElem?_eq_some_iff.mp hk
          obtain ⟨l2, e2⟩ := List.getElem?_eq_some_iff.mp hm
          have := (List.getElem_inj hc).mp (e1.trans e2.symm)
          omega
        exact S.ne k m s s' this hs hs' p hp
def GK (nt : Nat) (g : TG) : Prop := ∀ v σ H (Q Q' : St → Hp → Prop), (∀ σ' H', Q σ' H' → σ'.length = σ.length → σ'.drop nt = σ.drop nt → Q' σ' H') → g v σ H Q → g v σ H Q'
theorem gk_name {nt i : Nat} (h : i < nt) : GK nt (gName i) := fun v σ H Q Q' f q => f _ _ q (by simp) (by rw [List.drop_set_of_lt h])
theorem evo_lcI {wi : TI} {g : TG} {tt : TT} {te : TE} {nt : Nat} {cs : List Nat} {n : Nat} {y : Nat → D} (p : Nat → Bool) (f : Nat → D) (a : EvI K G H₀ L ss wi n y) (hk : GK nt g) (hc : cs.Nodup) (hz : n < sizeLine)
    (hs : ∀ i, i < n → ∃ ss', Tg K G H₀ L g (y i) (lcSl nt cs ss) ss' ∧ EvT K G H₀ L ss' tt (p i) ∧ (p i = true → Ev K G H₀ L ss' te (f i))) :
    EvO K G H₀ L ss (tLC nt cs wi g tt te) (((List.range n).filter p).map f) := fun F H σ Q S q =>
  a F H σ _ S fun F1 H1 J e1 it => by
    intro l hl
    have S1 := S.ext2 e1
    refine ⟨fun i m H2 => m = n - i ∧ i ≤ n ∧ ∃ F2 vs, Ext F1 H1 F2 H2 ∧ F2 l = none ∧ H2 l = some (.lst vs) ∧ Reps K F2 (((List.range i).filter p).map f) vs ∧ vs.length ≤ i,
      ⟨n, by omega, Nat.zero_le _, F1, [], (Ext.refl e1.fh).newO hl, e1.fh.free hl, upd_same, Reps.nil, Nat.le_refl _⟩, ?_⟩
    rintro i m H2 ⟨rfl, hi, F2, vs, e2, fl, hl2, rs, hvs⟩
    obtain ⟨it1, it2⟩ := it F2 H2 e2.gf e2.hh e2.fh
    by_cases hlt : i < n
    · obtain ⟨go, yl⟩ := it1 i hlt
      refine .inr ⟨go, fun H' => ∃ F2 vs, Ext F1 H1 F2 H' ∧ F2 l = none ∧ H' l = some (.lst vs) ∧ Reps K F2 (((List.range (i + 1)).filter p).map f) vs ∧ vs.length ≤ i + 1, fun H' h => ⟨n - (i + 1), by omega, rfl, hlt, h⟩, fun x H3 yx => ?_⟩
      obtain ⟨F3, e3, rx⟩ := yl x H3 yx
      obtain ⟨ss', tg, evt, ev⟩ := hs i hlt
      have S3 := ((S1.ext2 e2).ext2 e3).lc (nt := nt) hc
      have hl3 : H3 l = some (.lst vs) := e3.hh l _ hl2
      have fl3 : F3 l = none := (e3.no l _ hl2).trans fl
      have base := tg F3 H3 (lcS nt cs σ) x (fun σ2 H4 => H4 = H3 ∧ Sat K G H₀ L F3 H3 σ2 ss') S3 rx fun σ' S' => ⟨rfl, S'⟩
      have fin : ∀ σ2, Sat K G H₀ L F3 H3 σ2 ss' → tt σ2 H3 fun b H5 => if b = true then te σ2 H5 fun y H6 => ∃ xs, H6 l = some (.lst xs) ∧ xs.length < sizeLine ∧ (∃ F2 vs, Ext F1 H1 F2 (upd H6 l (.lst (xs ++ [y]))) ∧ F2 l = none ∧ (upd H6 l (.lst (xs ++ [y]))) l = some (.lst vs) ∧ Reps K F2 (((List.range (i + 1)).filter p).map f) vs ∧ vs.length ≤ i + 1) else ∃ F2 vs, Ext F1 H1 F2 H5 ∧ F2 l = none ∧ H5 l = some (.lst vs) ∧ Reps K F2 (((List.range (i + 1)).filter p).map f) vs ∧ vs.length ≤ i + 1 := fun σ2 S2 => by
        refine evt F3 H3 σ2 _ S2 fun F5 H5 e5 => ?_
        have S5 := S2.ext2 e5
        have hl5 : H5 l = some (.lst vs) := e5.hh l _ hl3
        have fl5 : F5 l = none := (e5.no l _ hl3).trans fl3
        have gf : Same F2 F5 := e3.gf.trans e5.gf
        cases hp : p i with
        | false =>
          refine iteF ⟨F5, vs, (e2.trans e3).trans e5, fl5, hl5, ?_, by omega⟩
          rw [List.range_succ, List.filter_append, List.filter_cons, hp]
          simpa using rs.mono gf
        | true =>
          refine iteT (ev hp F5 H5 σ2 _ S5 fun v F6 H6 e6 rv => ?_)
          have hl6 : H6 l = some (.lst vs) := e6.hh l _ hl5
          have fl6 : F6 l = none := (e6.no l _ hl5).trans fl5
          refine ⟨vs, hl6, by omega, F6, vs ++ [v], (((e2.trans e3).trans e5).trans e6).write fl6 hl, fl6, upd_same, ?_, by simp; omega⟩
          rw [List.range_succ, List.filter_append, List.filter_cons, hp, if_pos rfl, List.map_append]
          exact (rs.mono (gf.trans e6.gf)).snoc rv
      refine hk x (lcS nt cs σ) H3 _ _ (fun σ2 H4 h l1 d1 => ?_) base
      obtain ⟨rfl, S2⟩ := h
      exact ⟨⟨by rw [l1]; unfold lcS; simp, d1⟩, fin σ2 S2⟩
    · have e : i = n := by omega
      subst e
      exact .inl ⟨it2, q l vs F2 H2 (e1.trans e2) (e1.hh.free hl) fl hl2 rs⟩
end
end L2

namespace L2
open PySem PySem.W PyProof.Rows
section
variable (key : Nat → Int)
def kk (p : Array Nat) (i : Nat) : Int := key (p.getD i 0)
def Up (p : Array Nat) (n : Nat) : Prop := ∀ i j, i ≤ j → j < n → kk key p i ≤ kk key p j
def Dn (p : Array Nat) (n : Nat) : Prop := ∀ i j, i ≤ j → j < n → kk key p j ≤ kk key p i
variable {key}
theorem Up.snoc {p : Array Nat} {n : Nat} (h : Up key p n) (h0 : 0 < n) (hn : kk key p (n - 1) ≤ kk key p n) : Up key p (n + 1) := fun i j h1 h2 => by
  by_cases hj : j < n
  · exact h i j h1 hj
  · have : j = n := by omega
    subst this
    by_cases hi : i = j
    · subst hi; exact Int.le_refl _
    · exact Int.le_trans (h i (j - 1) (by omega) (by omega)) hn
theorem Dn.snoc {p : Array Nat} {n : Nat} (h : Dn key p n) (h0 : 0 < n) (hn : kk key p n ≤ kk key p (n - 1)) : Dn key p (n + 1) := fun i j h1 h2 => by
  by_cases hj : j < n
  · exact h i j h1 hj
  · have : j = n := by omega
    subst this
    by_cases hi : i = j
    · subst hi; exact Int.le_refl _
    · exact Int.le_trans hn (h i (j - 1) (by omega) (by omega))
theorem getD_rev {p : Array Nat} {i j : Nat} (hj : j ≤ p.size) (k : Nat) : (kas_rev p i j).getD k 0 = if i ≤ k ∧ k < j then p.getD (i + j - 1 - k) 0 else p.getD k 0 := by
  have h := getElem?_mirror_all (xs := p) (i := i) hj k
  unfold kas_rev
  have e : ∀ (q : Array Nat) (m : Nat), q.getD m 0 = (q[m]?).getD 0 := fun q m => by simp [Array.getD_eq_getD_getElem?]
  rw [e, e, e, h]
  split <;> rfl
theorem rev_size (p : Array Nat) (i j : Nat) : (kas_rev p i j).size = p.size := mirror_size _ _ _ _
theorem rev_perm (p : Array Nat) (i j : Nat) : (kas_rev p i j).Perm p := mirror_perm _ _ _ _
theorem kk_rev_same {p : Array Nat} {i j : Nat} (hj : j ≤ p.size) {c : Int} (hc : ∀ k, i ≤ k → k < j → kk key p k = c) (k : Nat) : kk key (kas_rev p i j) k = kk key p k := by
  unfold kk
  rw [getD_rev hj]
  split
  · rename_i h
    have h1 := hc (i + j - 1 - k) (by omega) (by omega)
    have h2 := hc k h.1 h.2
    unfold kk at h1 h2
    rw [h1, h2]
  · rfl
theorem kk_rev_all {p : Array Nat} {n : Nat} (hn : n ≤ p.size) (k : Nat) (hk : k < n) : kk key (kas_rev p 0 n) k = kk key p (n - 1 - k) := by
  unfold kk
  rw [getD_rev hn, if_pos ⟨Nat.zero_le _, hk⟩, show 0 + n - 1 - k = n - 1 - k by omega]
theorem Dn.rev {p : Array Nat} {n : Nat} (h : Dn key p n) (hn : n ≤ p.size) : Up key (kas_rev p 0 n) n := fun i j h1 h2 => by
  rw [kk_rev_all hn i (by omega), kk_rev_all hn j h2]
  exact h _ _ (by omega) (by omega)
def Good (key : Nat → Int) (p : Array Nat) (nrem : Nat) (r : Nat × Array Nat) : Prop := 1 ≤ r.1 ∧ r.1 ≤ nrem ∧ r.2.size = p.size ∧ r.2.Perm p ∧ Up key r.2 r.1
theorem Good.perm {p q : Array Nat} {nrem : Nat} {r : Nat × Array Nat} (h : Good key p nrem r) (hp : p.Perm q) (hs : p.size = q.size) : Good key q nrem r := ⟨h.1, h.2.1, h.2.2.1.trans hs, h.2.2.2.1.trans hp, h.2.2.2.2⟩
theorem getD_bub {p : Array Nat} {k d : Nat} (hk : k < p.size) (hd : d ≤ k) (i : Nat) : (bubble p k d).getD i 0 = if i = k - d then p.getD k 0 else if k - d < i ∧ i ≤ k then p.getD (i - 1) 0 else p.getD i 0 := by
  have h := getElem?_bubble hk d hd i
  have e : ∀ (q : Array Nat) (m : Nat), q.getD m 0 = (q[m]?).getD 0 := fun q m => by simp [Array.getD_eq_getD_getElem?]
  rw [e, e, e, e, h]
  split
  · rfl
  · split <;> rfl
end
end L2

namespace L2
open PySem PySem.W PyProof.Rows
section
variable {prog : Program} {w : World} {A : Around} {E : Value → Shared → Prop} {s : Shared}
def Keeps (h h' : Heap) : Prop := ∀ b o, h.get? b = some o → h'.get? b = some o
def Sorts (prog : Program) (w : World) (A : Around) (s : Shared) (vs : List Value) (Out : Array Value → Prop) : Prop :=
  ∃ κ, (∀ (Q : SortKind → Shared → Prop) (E : Value → Shared → Prop), Q κ s → wpAny (model prog w) A (keyKind' vs.toArray) Q E s) ∧
    ∀ (Q : SortSt → Shared → Prop) (E : Value → Shared → Prop), (∀ st', failedOf st' = none → (arrOf st').size = vs.length → Out ((arrOf st').map (·.2)) → Q st' s) → wpAny (model prog w) A (sortRuns'.run (SortSt.mk' κ (vs.toArray.zip vs.toArray) #[] 7 none)) (fun r s' => Q r.2 s') E s
theorem sort_shell {a : Addr} {vs : List Value} {n0 : Nat} {P : PySem.Fin → Shared → Prop} (Out : Array Value → Prop) (ho : s.heap.get? a = some (seqObj "list" vs.toArray n0)) (hz : vs.length ≤ sizeLine)
    (hs : 2 ≤ vs.length → ∀ h', (∀ b o, b ≠ a → s.heap.get? b = some o → h'.get? b = some o) → Sorts prog w A { s with heap := h' } vs Out) (h1 : vs.length < 2 → Out vs.toArray)
    (h : ∀ out c h', (∀ b o, b ≠ a → s.heap.get? b = some o → h'.get? b = some o) → h'.get? a = some (seqObj "list" out c) → out.size = vs.length → Out out → P (.done (.ret .none)) { s with heap := h' }) :
    wpAny (model prog w) A (Builtin.«list.sort» ⟨[.ref a], []⟩) P E s := by
  have alt : a < s.heap.objs.size := Heap.lt_size ho
  rw [list_sort_plain]
  refine wpAny_bind (listItems_at ho rfl ?_)
  refine wpAny_bind (listUpdate_at ho rfl ?_ (by simpa using hz) (Nat.zero_le _))
  generalize hg1 : s.heap.update a (Obj.mapSeq fun _ => (#[] : Array Value)) = g1
  have k1 : ∀ b o, b ≠ a → s.heap.get? b = some o → g1.get? b = some o := fun b o hb e => by rw [← hg1]; exact (Heap.get?_update_other _ _ (Ne.symm hb)).trans e
  obtain ⟨e1, ho1⟩ : ∃ e1, g1.get? a = some (seqObj "list" #[] e1) := by rw [← hg1]; exact ⟨_, get?_update_seq ho fun _ => #[]⟩
  have sz1 : g1.objs.size = s.heap.objs.size := by rw [← hg1, Heap.size_update]
  refine wpAny_bind (seqEpoch_at ho1 rfl ?_)
  refine wpAny_bind (wpAny_newTuple ?_ (by show vs.length ≤ _; exact hz))
  refine wpAny_bind (wpAny_newList ?_ (Nat.zero_le _))
  refine wpAny_holding ?_
  dsimp only
  generalize hg3 : (g1.push { cls := .type "tuple", data := .seq vs.toArray }).push { cls := .type "list", data := .seq #[] } = g3
  have k3 : ∀ b o, g1.get? b = some o → g3.get? b = some o := fun b o e => by rw [← hg3]; exact Heap.get?_push_of_some _ (Heap.get?_push_of_some _ e)
  have ho3 := k3 a _ ho1
  have keep : ∀ b o, b ≠ a → s.heap.get? b = some o → g3.get? b = some o := fun b o hb e => k3 b o (k1 b o hb e)
  have fin : ∀ (st' : SortSt), failedOf st' = none → (arrOf st').size = vs.length → Out ((arrOf st').map (·.2)) → P (.done (.ret .none)) { s with heap := g3.update a (Obj.mapSeq fun _ => (arrOf st').map (·.2)) } := fun st' hf hsz hO => by
    obtain ⟨c2, hc2⟩ : ∃ c2, (g3.update a (Obj.mapSeq fun _ => (arrOf st').map (·.2))).get? a = some (seqObj "list" ((arrOf st').map (·.2)) c2) := ⟨_, get?_update_seq ho3 fun _ => (arrOf st').map (·.2)⟩
    exact h _ c2 _ (fun b o hb e => (Heap.get?_update_other _ _ (Ne.symm hb)).trans (keep b o hb e)) hc2 (by simpa using hsz) hO
  have hsz : vs.toArray.size = vs.length := by simp
  by_cases h2 : vs.length < 2
  · rw [if_pos (by omega), if_pos (by omega)]
    refine wpAny_bind (wpAny_pure ?_)
    rw [StateT.run_pure]
    refine wpAny_bind (wpAny_pure ?_)
    have eo : (arrOf (SortSt.mk' general' (vs.toArray.zip vs.toArray) #[] 7 none)).map (·.2) = vs.toArray := by
      show (vs.toArray.zip vs.toArray).map (·.2) = vs.toArray
      apply Array.toList_inj.mp
      rw [Array.toList_map]
      have : (vs.toArray.zip vs.toArray).toList = vs.zip vs := by simp
      rw [this]
      simp [List.map_snd_zip]
    dsimp only
    refine wpAny_bind (seqEpoch_at ho3 rfl ?_)
    refine wpAny_bind (listUpdate_at ho3 rfl ?_ (Nat.zero_le _) (by rw [eo]; simp only [List.size_toArray]; omega))
    simp only [bne_self_eq_false, Bool.false_eq_true, if_false]
    exact wpAny_pure (fin (SortSt.mk' general' (vs.toArray.zip vs.toArray) #[] 7 none) rfl (by show (vs.toArray.zip vs.toArray).size = _; simp) (by rw [eo]; exact h1 h2))
  · rw [if_neg (by omega), if_neg (by omega)]
    obtain ⟨κ, hk, hr⟩ := hs (by omega) g3 keep
    refine wpAny_bind (hk _ _ ?_)
    refine wpAny_bind (wpAny_mono (hr (fun st' s' => s' = { s with heap := g3 } ∧ failedOf st' = none ∧ (arrOf st').size = vs.length ∧ Out ((arrOf st').map (·.2))) (fun _ _ => False) fun st' hf hsz hO => ⟨rfl, hf, hsz, hO⟩) ?_ fun _ _ x => x.elim)
    rintro ⟨⟨⟩, st'⟩ s' ⟨rfl, hf, hsz, hO⟩
    dsimp only at hf hsz hO ⊢
    refine wpAny_bind (seqEpoch_at ho3 rfl ?_)
    refine wpAny_bind (listUpdate_at ho3 rfl ?_ (Nat.zero_le _) (by simp only [Array.size_map]; omega))
    rw [hf]
    simp only [bne_self_eq_false, Bool.false_eq_true, if_false]
    exact wpAny_pure (fin st' hf hsz hO)
theorem sorted_call {l : Addr} {vs : List Value} {Q : Value → Shared → Prop} (Out : Array Value → Prop) (hl : s.heap.IsList l vs.toArray) (hz : vs.length ≤ sizeLine)
    (hs : 2 ≤ vs.length → ∀ h', Keeps s.heap h' → Sorts prog w A.in1.in1 { s with heap := h' } vs Out) (h1 : vs.length < 2 → Out vs.toArray)
    (h : ∀ out c h', Keeps s.heap h' → h'.get? (s.heap.objs.size + 1) = some (seqObj "list" out c) → out.size = vs.length → Out out → Q (.ref (s.heap.objs.size + 1)) { s with heap := h' }) :
    wpAny (model prog w) A (call (.builtin "sorted") [.ref l]) Q E s := by
  refine Calls.call_function_entry kind_sorted plain_sorted entry_sorted (args_sorted1 _) ?_
  unfold Builtin.«sorted»
  refine wpAny_bind (m := checkCount "sorted" 1 1 _) (wpAny_pure ?_)
  refine wpAny_bind (collect_list hl ?_ hz)
  refine wpAny_bind (wpAny_newList ?_ hz)
  generalize hg1 : (s.heap.push (seqObj "list" #[] 0)).update s.heap.objs.size (Obj.mapSeq (· ++ vs.toArray)) = g1
  have sz1 : g1.objs.size = s.heap.objs.size + 1 := by rw [← hg1, Heap.size_update, size_push']
  have k1 : Keeps s.heap g1 := fun b o e => by
    have hlt := Heap.lt_size e
    rw [← hg1]
    exact (Heap.get?_update_other _ _ (Nat.ne_of_gt hlt)).trans (Heap.get?_push_of_some _ e)
  dsimp only
  have ho : (g1.push { cls := .type "list", data := .seq vs.toArray }).get? (s.heap.objs.size + 1) = some (seqObj "list" vs.toArray 0) := by rw [← sz1]; exact Heap.get?_push_size _ rfl
  have k2 : Keeps s.heap (g1.push { cls := .type "list", data := .seq vs.toArray }) := fun b o e => Heap.get?_push_of_some _ (k1 b o e)
  rw [sz1]
  have ne : ∀ b o, s.heap.get? b = some o → b ≠ s.heap.objs.size + 1 := fun b o e => Nat.ne_of_lt (Nat.lt_succ_of_lt (Heap.lt_size e))
  refine wpAny_bind (wpAny_holding (wpAny_call_entry slot_list_sort ⟨_, ho, rfl⟩ entry_list_sort (sort_shell (s := { s with heap := g1.push { cls := .type "list", data := .seq vs.toArray } }) Out ho hz
    (fun h2 h' k => hs h2 h' fun b o e => k b o (ne b o e) (k2 b o e)) h1 fun out c h' k hc hsz hO => ⟨_, rfl, ?_⟩) (args_list_sort _)))
  exact wpAny_pure ⟨_, rfl, h out c h' (fun b o e => k b o (ne b o e) (k2 b o e)) hc hsz hO⟩
end
end L2

namespace L2
open PySem PySem.W PyProof.Rows
def InR {α : Type} (n : Nat) (P : α → Prop) : KasT α → Prop
  | .ret a => P a
  | .ask i j k => i < n ∧ j < n ∧ ∀ b, InR n P (k b)
theorem InR.bind {α β : Type} {n : Nat} {f : α → KasT β} {P : α → Prop} {Q : β → Prop} (hf : ∀ a, P a → InR n Q (f a)) : ∀ {t : KasT α}, InR n P t → InR n Q (t.bind f)
  | .ret a, h => hf a h
  | .ask i j k, h => ⟨h.1, h.2.1, fun b => InR.bind hf (h.2.2 b)⟩
def Ent (n : Nat) (p : Array Nat) : Prop := ∀ i, p.getD i 0 < n
theorem Ent.perm {n : Nat} {p q : Array Nat} (h : Ent n p) (hp : q.Perm p) (hn : 0 < n) : Ent n q := fun i => by
  have e : ∀ (q : Array Nat) (m : Nat), q.getD m 0 = (q[m]?).getD 0 := fun q m => by simp [Array.getD_eq_getD_getElem?]
  rw [e]
  cases hq : q[i]? with
  | none => exact hn
  | some x =>
    have hx : x ∈ q := Array.mem_of_getElem? hq
    have hx2 : x ∈ p := hp.mem_iff.mp hx
    obtain ⟨j, hj, ej⟩ := Array.mem_iff_getElem.mp hx2
    have := h j
    rw [e, Array.getElem?_eq_getElem hj, ej] at this
    exact this
theorem Ent.rev {n : Nat} {p : Array Nat} (h : Ent n p) (hn : 0 < n) (i j : Nat) : Ent n (kas_rev p i j) := h.perm (mirror_perm _ _ _ _) hn
section
variable {n : Nat} (hn : 0 < n)
include hn in
include hn in
include hn in
include hn in
include hn in
include hn in
end
section
variable {prog : Program} {w : World} {A : Around} {s : Shared}
def OutK (key : Nat → Int) (vs : List Value) (out : Array Value) : Prop := ∃ p : List Nat, p.Perm (List.range vs.length) ∧ out.toList = p.map (fun i => vs.getD i Value.none) ∧ p.Pairwise fun i j => key i ≤ key j
end
end L2

namespace L2
open PySem PySem.W PyProof.Rows
def D.fo : D → List Int
  | .str l => l.map Int.ofNat
  | .int i => [i]
  | _ => []
def D.ord : D → List (List Int)
  | .tup ds => ds.map D.fo
  | .lst ds => ds.map D.fo
  | d => [d.fo]
def D.leB (a b : D) : Bool := decide (a.ord ≤ b.ord)
def sortD (ds : List D) : List D := ds.mergeSort D.leB
inductive Ty where | s | i
def Ty.ok : Ty → D → Bool
  | .s, .str _ => true
  | .i, .int _ => true
  | _, _ => false
def shOk : List Ty → List D → Bool
  | [], [] => true
  | t :: ts, d :: ds => t.ok d && shOk ts ds
  | _, _ => false
def Alike (ds : List D) : Prop := (∀ d ∈ ds, Ty.ok .s d = true) ∨ (∀ d ∈ ds, Ty.ok .i d = true) ∨ ∃ t ts, ∀ d ∈ ds, ∃ es, d = .tup es ∧ shOk (t :: ts) es = true
theorem ofNat_inj {l m : List Nat} (h : l.map Int.ofNat = m.map Int.ofNat) : l = m := by
  induction l generalizing m with
  | nil => cases m with
    | nil => rfl
    | cons _ _ => simp at h
  | cons a l ih => cases m with
    | nil => simp at h
    | cons b m =>
      simp only [List.map_cons, List.cons.injEq, Int.ofNat_eq_natCast] at h
      rw [show a = b by omega, ih h.2]
theorem ofNat_lt (l m : List Nat) : l < m ↔ l.map Int.ofNat < m.map Int.ofNat := by
  induction l generalizing m with
  | nil => cases m <;> simp
  | cons a l ih => cases m with
    | nil => simp
    | cons b m =>
      simp only [List.map_cons, List.cons_lt_cons_iff, ih m, Int.ofNat_eq_natCast]
      constructor
      · rintro (h | ⟨h, x⟩)
        · exact .inl (by omega)
        · exact .inr ⟨by omega, x⟩
      · rintro (h | ⟨h, x⟩)
        · exact .inl (by omega)
        · exact .inr ⟨by omega, x⟩
theorem fo_inj {t : Ty} {d e : D} (h1 : t.ok d = true) (h2 : t.ok e = true) (h : d.fo = e.fo) : d = e := by
  cases t <;> cases d <;> simp [Ty.ok] at h1 <;> cases e <;> simp [Ty.ok] at h2
  · rw [ofNat_inj h]
  · simp [D.fo] at h; rw [h]
theorem fos_inj : ∀ {ts : List Ty} {ds es : List D}, shOk ts ds = true → shOk ts es = true → ds.map D.fo = es.map D.fo → ds = es
  | [], ds, es, h1, h2, _ => by cases ds <;> cases es <;> simp [shOk] at h1 h2; rfl
  | t :: ts, ds, es, h1, h2, h => by
    cases ds with
    | nil => simp [shOk] at h1
    | cons d ds => cases es with
      | nil => simp [shOk] at h2
      | cons e es =>
        simp only [shOk, Bool.and_eq_true] at h1 h2
        simp only [List.map_cons, List.cons.injEq] at h
        rw [fo_inj h1.1 h2.1 h.1, fos_inj h1.2 h2.2 h.2]
theorem one_lt (x y : List Int) : [x] < [y] ↔ x < y := by simp [List.cons_lt_cons_iff]
theorem ord_inj {ds : List D} (h : Alike ds) {a b : D} (ha : a ∈ ds) (hb : b ∈ ds) (e : a.ord = b.ord) : a = b := by
  rcases h with h | h | ⟨t, ts, h⟩
  · have h1 := h a ha
    have h2 := h b hb
    cases a <;> simp [Ty.ok] at h1
    cases b <;> simp [Ty.ok] at h2
    simp only [D.ord, List.cons.injEq, and_true] at e
    exact fo_inj (t := .s) rfl rfl e
  · have h1 := h a ha
    have h2 := h b hb
    cases a <;> simp [Ty.ok] at h1
    cases b <;> simp [Ty.ok] at h2
    simp only [D.ord, List.cons.injEq, and_true] at e
    exact fo_inj (t := .i) rfl rfl e
  · obtain ⟨es, rfl, h1⟩ := h a ha
    obtain ⟨fs, rfl, h2⟩ := h b hb
    simp only [D.ord] at e
    rw [fos_inj h1 h2 e]
theorem leB_trans (a b c : D) (h1 : a.leB b = true) (h2 : b.leB c = true) : a.leB c = true := decide_eq_true (List.le_trans (of_decide_eq_true h1) (of_decide_eq_true h2))
theorem leB_total (a b : D) : (a.leB b || b.leB a) = true := by
  rcases List.le_total a.ord b.ord with h | h
  · simp [D.leB, h]
  · simp [D.leB, h]
theorem sortD_perm (ds : List D) : (sortD ds).Perm ds := List.mergeSort_perm _ _
theorem sortD_sorted (ds : List D) : (sortD ds).Pairwise fun a b => a.leB b = true := List.pairwise_mergeSort leB_trans leB_total ds
theorem sortD_eq {ds es : List D} (h : Alike ds) (hp : es.Perm ds) (hs : es.Pairwise fun a b => a.leB b = true) : es = sortD ds := by
  refine List.Perm.eq_of_pairwise (le := fun a b => a.leB b = true) (fun a b ha hb h1 h2 => ?_) hs (sortD_sorted ds) (hp.trans (sortD_perm ds).symm)
  exact ord_inj h (hp.mem_iff.mp ha) ((sortD_perm ds).mem_iff.mp hb) (List.le_antisymm (of_decide_eq_true h1) (of_decide_eq_true h2))
def rk (ds : List D) (i : Nat) : Int := ((ds.filter fun d => decide (d.ord < (ds.getD i .non).ord)).length : Nat)
theorem filter_len_le {α : Type} {p q : α → Bool} (h : ∀ x, p x = true → q x = true) : ∀ l : List α, (l.filter p).length ≤ (l.filter q).length
  | [] => Nat.le_refl _
  | x :: l => by
    have ih := filter_len_le h l
    simp only [List.filter_cons]
    cases hp : p x with
    | false =>
      cases hq : q x with
      | false => simpa using ih
      | true => simp; omega
    | true => rw [h x hp]; simp; omega
theorem filter_len_lt {α : Type} {p q : α → Bool} (h : ∀ x, p x = true → q x = true) {y : α} (hy : q y = true) (hn : p y = false) : ∀ l : List α, y ∈ l → (l.filter p).length < (l.filter q).length
  | [], hm => by simp at hm
  | x :: l, hm => by
    have le := filter_len_le h l
    simp only [List.filter_cons]
    rcases List.mem_cons.mp hm with rfl | hm
    · rw [hy, hn]; simp; omega
    · have ih := filter_len_lt h hy hn l hm
      cases hp : p x with
      | false =>
        cases hq : q x with
        | false => simpa using ih
        | true => simp; omega
      | true => rw [h x hp]; simp; omega
theorem rk_lt {ds : List D} {i j : Nat} (hi : i < ds.length) : decide (rk ds i < rk ds j) = decide ((ds.getD i .non).ord < (ds.getD j .non).ord) := by
  have hm : ds.getD i .non ∈ ds := by rw [List.getD_eq_getElem?_getD, List.getElem?_eq_getElem hi]; exact List.getElem_mem _
  unfold rk
  generalize ds.getD i .non = a at hm
  generalize ds.getD j .non = b
  by_cases h : a.ord < b.ord
  · rw [decide_eq_true h]
    refine decide_eq_true ?_
    have := filter_len_lt (p := fun d : D => decide (d.ord < a.ord)) (q := fun d : D => decide (d.ord < b.ord)) (fun x hx => decide_eq_true (List.lt_trans (of_decide_eq_true hx) h)) (y := a) (decide_eq_true h) (decide_eq_false (List.lt_irrefl _)) ds hm
    omega
  · rw [decide_eq_false h]
    refine decide_eq_false ?_
    have := filter_len_le (p := fun d : D => decide (d.ord < b.ord)) (q := fun d : D => decide (d.ord < a.ord)) (fun x hx => by
      have hx := of_decide_eq_true hx
      refine decide_eq_true ?_
      by_cases hxa : x.ord < a.ord
      · exact hxa
      · exact absurd hx (List.not_lt.mpr (List.le_trans (List.not_lt.mp h) (List.not_lt.mp hxa)))) ds
    omega
theorem rk_le {ds : List D} {i j : Nat} (hi : i < ds.length) (hj : j < ds.length) (h : rk ds i ≤ rk ds j) : (ds.getD i .non).leB (ds.getD j .non) = true := by
  have := rk_lt (ds := ds) (i := j) (j := i) hj
  rw [decide_eq_false (by omega)] at this
  exact decide_eq_true (List.not_lt.mp (of_decide_eq_false this.symm))
section
variable {prog : Program} {w : World} {A : Around} {E : Value → Shared → Prop} {s : Shared}
def FV : D → Value → Prop
  | .str l, u => ∃ t, u = .str (T l) t
  | .int i, u => ∃ t, u = .int i t
  | _, _ => False
theorem flat_eq {t : Ty} {d e : D} {u v : Value} (h1 : t.ok d = true) (h2 : t.ok e = true) (ru : FV d u) (rv : FV e v) {Q : Bool → Shared → Prop} (q : Q (decide (d = e)) s) : wpAny (model prog w) A (eqBool u v) Q E s := by
  cases t <;> cases d <;> simp [Ty.ok] at h1 <;> cases e <;> simp [Ty.ok] at h2
  · obtain ⟨t, rfl⟩ := ru
    obtain ⟨t', rfl⟩ := rv
    refine SeqAt.EqAt.str_str _ _ _ _ prog w E Q ?_
    rename_i l m
    have : (T l == T m) = decide (D.str l = D.str m) := by
      rw [Bool.eq_iff_iff]; simp [T_inj]
    rw [this]; exact q
  · obtain ⟨t, rfl⟩ := ru
    obtain ⟨t', rfl⟩ := rv
    refine SeqAt.EqAt.int_int _ _ _ _ prog w E Q ?_
    rename_i i j
    have : (i == j) = decide (D.int i = D.int j) := by
      rw [Bool.eq_iff_iff]; simp
    rw [this]; exact q
theorem flat_lt {t : Ty} {d e : D} {u v : Value} (h1 : t.ok d = true) (h2 : t.ok e = true) (ru : FV d u) (rv : FV e v) (f : Bool) {Q : Bool → Shared → Prop} (q : Q (decide (d.fo < e.fo)) s) : wpAny (model prog w) A (oneLt' f u v) Q E s := by
  cases t <;> cases d <;> simp [Ty.ok] at h1 <;> cases e <;> simp [Ty.ok] at h2
  · obtain ⟨t, rfl⟩ := ru
    obtain ⟨t', rfl⟩ := rv
    rename_i l m
    have ee : decide ((T l).cps.toList < (T m).cps.toList) = decide ((D.str l).fo < (D.str m).fo) := by
      rw [T_cps, T_cps, Bool.eq_iff_iff, decide_eq_true_eq, decide_eq_true_eq]
      exact ofNat_lt l m
    cases f with
    | true => exact oneLt_str (by rw [ee]; exact q)
    | false => exact kat_one _ _ (lt_str (by show Q _ _; rw [ee]; exact q))
  · obtain ⟨t, rfl⟩ := ru
    obtain ⟨t', rfl⟩ := rv
    rename_i i j
    have ee : decide (i < j) = decide ((D.int i).fo < (D.int j).fo) := by
      rw [Bool.eq_iff_iff]
      simp [D.fo, List.cons_lt_cons_iff]
    cases f with
    | true => exact oneLt_int (by rw [ee]; exact q)
    | false => exact kat_one _ _ (lt_int (by show Q _ _; rw [ee]; exact q))
inductive FVs : List D → List Value → Prop
  | nil : FVs [] []
  | cons {d ds u us} : FV d u → FVs ds us → FVs (d :: ds) (u :: us)
theorem lex_flat {b : Bool} {Q : Bool → Shared → Prop} : ∀ {ts : List Ty} {ds es : List D} {us vs : List Value} (i : Nat), shOk ts ds = true → shOk ts es = true → FVs ds us → FVs es vs → Q (decide (ds.map D.fo < es.map D.fo)) s → KatLex prog w A b false Q (us.zip vs) i s
  | [], ds, es, _, _, i, h1, h2, r1, r2, q => by
    cases ds <;> cases es <;> simp [shOk] at h1 h2
    cases r1; cases r2
    exact kat_nil (by simpa using q)
  | t :: ts, ds, es, _, _, i, h1, h2, r1, r2, q => by
    cases r1 with
    | nil => simp [shOk] at h1
    | cons a1 a2 =>
      cases r2 with
      | nil => simp [shOk] at h2
      | cons b1 b2 =>
        rename_i d ds u us e es v vs
        simp only [shOk, Bool.and_eq_true] at h1 h2
        rw [List.zip_cons_cons]
        refine kat_cons (flat_eq h1.1 h2.1 a1 b1 ?_)
        by_cases hde : d = e
        · subst hde
          rw [decide_eq_true rfl]
          refine kat_yes (lex_flat (i + 1) h1.2 h2.2 a2 b2 ?_)
          have : decide (ds.map D.fo < es.map D.fo) = decide ((d :: ds).map D.fo < (d :: es).map D.fo) := by
            rw [Bool.eq_iff_iff]
            simp only [decide_eq_true_eq, List.map_cons, List.cons_lt_cons_iff]
            exact ⟨fun h => .inr ⟨trivial, h⟩, fun h => h.elim (fun z => absurd z (List.lt_irrefl _)) fun z => z.2⟩
          rw [this]; exact q
        · rw [decide_eq_false hde]
          refine kat_no (flat_lt h1.1 h2.1 a1 b1 _ ?_)
          have hf : ¬ d.fo = e.fo := fun z => hde (fo_inj h1.1 h2.1 z)
          have : decide (d.fo < e.fo) = decide ((d :: ds).map D.fo < (e :: es).map D.fo) := by
            rw [Bool.eq_iff_iff]
            simp only [decide_eq_true_eq, List.map_cons, List.cons_lt_cons_iff]
            exact ⟨fun h => .inl h, fun h => h.elim id fun z => absurd z.1 hf⟩
          rw [this]; exact q
end
end L2

set_option maxHeartbeats 1000000
namespace L2
open PySem PySem.W PyProof.Rows
def gallop' : Bool → Keyed → Array Keyed → Nat → Nat → Nat → StateT SortSt Sem (Option Nat) := sortPriv% PySem.Builtin.gallop
def mergeLo' : Array Keyed → Array Keyed → StateT SortSt Sem (Array Keyed) := sortPriv% PySem.Builtin.mergeLo
def mergeHi' : Array Keyed → Array Keyed → StateT SortSt Sem (Array Keyed) := sortPriv% PySem.Builtin.mergeHi
section
variable {prog : Program} {w : World} {A : Around} {E : Value → Shared → Prop} {s : Shared} {κ : SortKind} {it : Array Keyed} {n : Nat} {key : Nat → Int}
def Cmp (prog : Program) (w : World) (A : Around) (s : Shared) (κ : SortKind) (it : Array Keyed) (n : Nat) (key : Nat → Int) : Prop :=
  ∀ i j (C : Bool → Shared → Prop), i < n → j < n → C (decide (key i < key j)) s → wpAny (model prog w) A (keyLt' κ (kas_item it i).1 (kas_item it j).1) C (fun _ _ => False) s
theorem lt_w (hc : Cmp prog w A s κ it n key) {st : SortSt} {i j : Nat} {Q : Option Bool → SortSt → Prop} (hk : kindOf st = κ) (hi : i < n) (hj : j < n) (q : Q (some (decide (key i < key j))) st) : wpS (model prog w) A E s (lt' (kas_item it i) (kas_item it j)) Q st := by
  rw [lt'_eq]
  refine wpS_bind (wpS_get ?_)
  rw [hk]
  refine wpS_bind (wpS_lift (wpAny_attempt (wpAny_mono (hc i j (fun b s' => s' = s ∧ b = decide (key i < key j)) hi hj ⟨rfl, rfl⟩) (fun b s' hb => ?_) fun _ _ x => x.elim)))
  obtain ⟨rfl, rfl⟩ := hb
  exact ⟨rfl, wpS_pure q⟩
theorem elem_w {p : Array Nat} {i : Nat} {st : SortSt} {Q : Keyed → SortSt → Prop} (hi : i < p.size) (q : Q (kas_item it (p.getD i 0)) st) : wpS (model prog w) A E s (elem' (p.map (kas_item it)) i) Q st := by
  rw [elem'_eq]
  have e : (p.map (kas_item it))[i]? = some (kas_item it (p.getD i 0)) := by
    simp [Array.getD, hi]
  rw [e]
  exact wpS_pure q
def byd (key : Nat → Int) (left : Bool) (x : Nat) (p : Array Nat) (base i : Nat) : Bool := if left then decide (key (p.getD (base + i) 0) < key x) else !decide (key x < key (p.getD (base + i) 0))
theorem by_w (hc : Cmp prog w A s κ it n key) {left : Bool} {x : Nat} {p : Array Nat} {base i : Nat} {st : SortSt} {Q : Option Bool → SortSt → Prop} (hk : kindOf st = κ) (hx : x < n) (hp : Ent n p) (hb : base + i < p.size) (q : Q (some (byd key left x p base i)) st) :
    wpS (model prog w) A E s (elem' (p.map (kas_item it)) (base + i) >>= fun y => if left = true then lt' y (kas_item it x) else (lt' (kas_item it x) y >>= fun b => pure (b.map fun c => !c))) Q st := by
  refine wpS_bind (elem_w hb ?_)
  cases left with
  | true => simp only [if_true]; exact lt_w hc hk (hp _) hx q
  | false =>
    simp only [Bool.false_eq_true, if_false]
    exact wpS_bind (lt_w hc hk hx (hp _) (wpS_pure q))
theorem gallop_w (hc : Cmp prog w A s κ it n key) {left : Bool} {x : Nat} {p : Array Nat} {base m hint : Nat} {st : SortSt} {Q : Option Nat → SortSt → Prop} (hk : kindOf st = κ) (hx : x < n) (hp : Ent n p) (hb : base + m ≤ p.size) (hh : hint < m)
    (anti : ∀ i j, i ≤ j → j < m → byd key left x p base j = true → byd key left x p base i = true)
    (q : ∀ k, k ≤ m → (∀ i, i < k → byd key left x p base i = true) → (∀ i, k ≤ i → i < m → byd key left x p base i = false) → Q (some k) st) :
    wpS (model prog w) A E s (gallop' left (kas_item it x) (p.map (kas_item it)) base m hint) Q st := by
  have anti' : ∀ i j, i ≤ j → j < m → byd key left x p base i = false → byd key left x p base j = false := fun i j h1 h2 h3 => by
    cases hj : byd key left x p base j with
    | false => rfl
    | true => rw [anti i j h1 h2 hj] at h3; exact h3
  unfold gallop'
  show wpS _ _ _ _ (_ >>= _) _ _
  try dsimp only
  refine wpS_bind (by_w hc hk hx hp (by omega) ?_)
  dsimp only
  split
  · rename_i hr
    refine wpS_bind (wpS_mono (wpS_forRange (I := fun k c st' => st = st' ∧ ∃ la of, c = (none, la, of) ∧ k + 1 ≤ of ∧ la < of ∧ hint + la < m ∧ byd key left x p base (hint + la) = true)
      (Q := fun c st' => st = st' ∧ ∃ la of, c = (none, la, of) ∧ la < of ∧ hint + la < m ∧ byd key left x p base (hint + la) = true ∧ (m - hint ≤ of ∨ byd key left x p base (hint + of) = false)) ?_ ?_ ⟨rfl, 0, 1, rfl, by omega, by omega, by omega, hr⟩) ?_)
    · rintro k c st' _ hkm ⟨rfl, la, of, rfl, h1, h2, h3, h4⟩
      dsimp only
      split
      · exact wpS_pure ⟨rfl, la, of, rfl, h2, h3, h4, .inl (by omega)⟩
      · refine wpS_bind (by_w hc hk hx hp (by omega) ?_)
        dsimp only
        split
        · rename_i hm
          exact wpS_pure ⟨rfl, la, of, rfl, h2, h3, h4, .inr (by simpa using hm)⟩
        · rename_i hm
          exact wpS_pure ⟨rfl, of, 2 * of + 1, rfl, by omega, by omega, by omega, by simpa using hm⟩
    · rintro c st' ⟨rfl, la, of, rfl, h1, h2, h3, h4⟩
      exact ⟨rfl, la, of, rfl, h2, h3, h4, .inl (by omega)⟩
    · rintro c st' ⟨rfl, la, of, rfl, h2, h3, h4, h5⟩
      dsimp only
      have g1 : hint + la + 1 ≤ hint + min of (m - hint) := by omega
      have g2 : hint + min of (m - hint) ≤ m := by omega
      have g3 : ∀ i, i < hint + la + 1 → byd key left x p base i = true := fun i hi => anti i _ (by omega) h3 h4
      have g4 : ∀ i, hint + min of (m - hint) ≤ i → i < m → byd key left x p base i = false := fun i h1 h2 => by
        rcases h5 with h5 | h5
        · omega
        · by_cases hof : m - hint ≤ of
          · omega
          · exact anti' (hint + of) i (by omega) h2 h5
      refine wpS_bind (wpS_mono (wpS_forRange (I := fun k c st' => st = st' ∧ ∃ lo hi, c = (none, lo, hi) ∧ lo ≤ hi ∧ hi ≤ m ∧ hi - lo ≤ m - k ∧ (∀ i, i < lo → byd key left x p base i = true) ∧ (∀ i, hi ≤ i → i < m → byd key left x p base i = false))
        (Q := fun c st' => st = st' ∧ ∃ lo hi, c = (none, lo, hi) ∧ hi ≤ lo ∧ lo ≤ hi ∧ hi ≤ m ∧ (∀ i, i < lo → byd key left x p base i = true) ∧ (∀ i, hi ≤ i → i < m → byd key left x p base i = false)) ?_ ?_ ⟨rfl, _, _, rfl, g1, g2, by omega, g3, g4⟩) ?_)
      · rintro k c st' _ hkm ⟨rfl, lo, hi, rfl, h1, h2, h3, h4, h5⟩
        dsimp only
        split
        · exact wpS_pure ⟨rfl, lo, hi, rfl, by omega, by omega, h2, h4, h5⟩
        · refine wpS_bind (by_w hc hk hx hp (by omega) ?_)
          dsimp only
          split
          · rename_i hm
            exact wpS_pure ⟨rfl, lo + (hi - lo) / 2 + 1, hi, rfl, by omega, by omega, by omega, fun i hi' => anti i _ (by omega) (by omega) hm, h5⟩
          · rename_i hm
            exact wpS_pure ⟨rfl, lo, lo + (hi - lo) / 2, rfl, by omega, by omega, by omega, h4, fun i hi' h' => anti' _ i hi' h' (by simpa using hm)⟩
      · rintro c st' ⟨rfl, lo, hi, rfl, h1, h2, h3, h4, h5⟩
        exact ⟨rfl, lo, hi, rfl, by omega, by omega, h2, h4, h5⟩
      · rintro c st' ⟨rfl, lo, hi, rfl, h1, h2, h3, h4, h5⟩
        exact wpS_pure (q hi h3 (fun i hi' => h4 i (by omega)) h5)
  · rename_i hr
    have hr' : byd key left x p base hint = false := by simpa using hr
    refine wpS_bind (wpS_mono (wpS_forRange (I := fun k c st' => st = st' ∧ ∃ la of, c = (none, la, of) ∧ k + 1 ≤ of ∧ la < of ∧ la ≤ hint ∧ byd key left x p base (hint - la) = false)
      (Q := fun c st' => st = st' ∧ ∃ la of, c = (none, la, of) ∧ la < of ∧ la ≤ hint ∧ byd key left x p base (hint - la) = false ∧ (hint + 1 ≤ of ∨ byd key left x p base (hint - of) = true)) ?_ ?_ ⟨rfl, 0, 1, rfl, by omega, by omega, by omega, hr'⟩) ?_)
    · rintro k c st' _ hkm ⟨rfl, la, of, rfl, h1, h2, h3, h4⟩
      dsimp only
      split
      · exact wpS_pure ⟨rfl, la, of, rfl, h2, h3, h4, .inl (by omega)⟩
      · refine wpS_bind (by_w hc hk hx hp (by omega) ?_)
        dsimp only
        split
        · rename_i hm
          exact wpS_pure ⟨rfl, la, of, rfl, h2, h3, h4, .inr hm⟩
        · rename_i hm
          exact wpS_pure ⟨rfl, of, 2 * of + 1, rfl, by omega, by omega, by omega, by simpa using hm⟩
    · rintro c st' ⟨rfl, la, of, rfl, h1, h2, h3, h4⟩
      exact ⟨rfl, la, of, rfl, h2, h3, h4, .inl (by omega)⟩
    · rintro c st' ⟨rfl, la, of, rfl, h2, h3, h4, h5⟩
      dsimp only
      have g1 : hint + 1 - min of (hint + 1) ≤ hint - la := by omega
      have g2 : hint - la ≤ m := by omega
      have g3 : ∀ i, i < hint + 1 - min of (hint + 1) → byd key left x p base i = true := fun i hi => by
        rcases h5 with h5 | h5
        · omega
        · exact anti i _ (by omega) (by omega) h5
      have g4 : ∀ i, hint - la ≤ i → i < m → byd key left x p base i = false := fun i h1 h2 => anti' _ i h1 h2 h4
      refine wpS_bind (wpS_mono (wpS_forRange (I := fun k c st' => st = st' ∧ ∃ lo hi, c = (none, lo, hi) ∧ lo ≤ hi ∧ hi ≤ m ∧ hi - lo ≤ m - k ∧ (∀ i, i < lo → byd key left x p base i = true) ∧ (∀ i, hi ≤ i → i < m → byd key left x p base i = false))
        (Q := fun c st' => st = st' ∧ ∃ lo hi, c = (none, lo, hi) ∧ hi ≤ lo ∧ lo ≤ hi ∧ hi ≤ m ∧ (∀ i, i < lo → byd key left x p base i = true) ∧ (∀ i, hi ≤ i → i < m → byd key left x p base i = false)) ?_ ?_ ⟨rfl, _, _, rfl, g1, g2, by omega, g3, g4⟩) ?_)
      · rintro k c st' _ hkm ⟨rfl, lo, hi, rfl, h1, h2, h3, h4, h5⟩
        dsimp only
        split
        · exact wpS_pure ⟨rfl, lo, hi, rfl, by omega, by omega, h2, h4, h5⟩
        · refine wpS_bind (by_w hc hk hx hp (by omega) ?_)
          dsimp only
          split
          · rename_i hm
            exact wpS_pure ⟨rfl, lo + (hi - lo) / 2 + 1, hi, rfl, by omega, by omega, by omega, fun i hi' => anti i _ (by omega) (by omega) hm, h5⟩
          · rename_i hm
            exact wpS_pure ⟨rfl, lo, lo + (hi - lo) / 2, rfl, by omega, by omega, by omega, h4, fun i hi' h' => anti' _ i hi' h' (by simpa using hm)⟩
      · rintro c st' ⟨rfl, lo, hi, rfl, h1, h2, h3, h4, h5⟩
        exact ⟨rfl, lo, hi, rfl, by omega, by omega, h2, h4, h5⟩
      · rintro c st' ⟨rfl, lo, hi, rfl, h1, h2, h3, h4, h5⟩
        exact wpS_pure (q hi h3 (fun i hi' => h4 i (by omega)) h5)
end
end L2

namespace L2
open PySem PySem.W PyProof.Rows
structure MI (R : Nat → Nat → Prop) (ua ub o : List Nat) (i j : Nat) : Prop where
  hi : i ≤ ua.length
  hj : j ≤ ub.length
  pw : o.Pairwise R
  pa : ∀ x ∈ o, ∀ y ∈ ua.drop i, R x y
  pb : ∀ x ∈ o, ∀ y ∈ ub.drop j, R x y
  pm : o.Perm (ua.take i ++ ub.take j)
section
variable {R : Nat → Nat → Prop} {ua ub o : List Nat} {i j : Nat}
theorem MI.swap (h : MI R ua ub o i j) : MI R ub ua o j i := ⟨h.hj, h.hi, h.pw, h.pb, h.pa, h.pm.trans List.perm_append_comm⟩
theorem mem_drop_of_lt {u : List Nat} {i t : Nat} (h : i ≤ t) (ht : t < u.length) : u.getD t 0 ∈ u.drop i := by
  rw [List.mem_drop_iff_getElem]
  refine ⟨t - i, by omega, ?_⟩
  rw [List.getD_eq_getElem?_getD, List.getElem?_eq_getElem ht]
  simp only [Option.getD_some]
  congr 1; omega
theorem mem_drop_elim {u : List Nat} {i y : Nat} (h : y ∈ u.drop i) : ∃ t, i ≤ t ∧ t < u.length ∧ y = u.getD t 0 := by
  rw [List.mem_drop_iff_getElem] at h
  obtain ⟨k, hk, e⟩ := h
  refine ⟨i + k, by omega, by omega, ?_⟩
  rw [List.getD_eq_getElem?_getD, List.getElem?_eq_getElem (by omega)]
  exact e.symm
theorem pw_getD {u : List Nat} (h : u.Pairwise R) {s t : Nat} (hs : s < t) (ht : t < u.length) : R (u.getD s 0) (u.getD t 0) := by
  have := List.pairwise_iff_getElem.mp h s t (by omega) ht hs
  rw [List.getD_eq_getElem?_getD, List.getElem?_eq_getElem (by omega), List.getD_eq_getElem?_getD, List.getElem?_eq_getElem ht]
  exact this
theorem take_succ_getD {u : List Nat} {i : Nat} (h : i < u.length) : u.take (i + 1) = u.take i ++ [u.getD i 0] := by
  rw [List.take_add_one, List.getElem?_eq_getElem h, List.getD_eq_getElem?_getD, List.getElem?_eq_getElem h]; rfl
theorem MI.pushA (h : MI R ua ub o i j) (hi : i < ua.length) (sa : ua.Pairwise R) (hR : ∀ y ∈ ub.drop j, R (ua.getD i 0) y) : MI R ua ub (o ++ [ua.getD i 0]) (i + 1) j := by
  refine ⟨hi, h.hj, ?_, ?_, ?_, ?_⟩
  · rw [List.pairwise_append]
    refine ⟨h.pw, List.pairwise_singleton _ _, fun x hx y hy => ?_⟩
    rw [List.mem_singleton.mp hy]
    exact h.pa x hx _ (mem_drop_of_lt (Nat.le_refl _) hi)
  · intro x hx y hy
    obtain ⟨t, h1, h2, rfl⟩ := mem_drop_elim hy
    rcases List.mem_append.mp hx with hx | hx
    · exact h.pa x hx _ (mem_drop_of_lt (by omega) h2)
    · rw [List.mem_singleton.mp hx]; exact pw_getD sa (by omega) h2
  · intro x hx y hy
    rcases List.mem_append.mp hx with hx | hx
    · exact h.pb x hx _ hy
    · rw [List.mem_singleton.mp hx]; exact hR y hy
  · rw [take_succ_getD hi, List.append_assoc]
    refine (h.pm.append_right _).trans ?_
    rw [List.append_assoc]
    exact List.Perm.append_left _ List.perm_append_comm
theorem take_drop_succ {u : List Nat} {i k : Nat} (h : i + k < u.length) : (u.drop i).take (k + 1) = (u.drop i).take k ++ [u.getD (i + k) 0] := by
  rw [List.take_add_one, List.getElem?_drop, List.getElem?_eq_getElem h, List.getD_eq_getElem?_getD, List.getElem?_eq_getElem h]; rfl
theorem MI.takeA (h : MI R ua ub o i j) (sa : ua.Pairwise R) : ∀ k, i + k ≤ ua.length → (∀ t, i ≤ t → t < i + k → ∀ y ∈ ub.drop j, R (ua.getD t 0) y) → MI R ua ub (o ++ (ua.drop i).take k) (i + k) j
  | 0, _, _ => by simpa using h
  | k + 1, hk, hR => by
    have ih := MI.takeA h sa k (by omega) fun t h1 h2 => hR t h1 (by omega)
    have := ih.pushA (by omega) sa (hR (i + k) (by omega) (by omega))
    rw [take_drop_succ (by omega), ← List.append_assoc]
    exact this
theorem MI.endB (h : MI R ua ub o i ub.length) (sa : ua.Pairwise R) : MI R ua ub (o ++ ua.drop i) ua.length ub.length := by
  have := h.takeA sa (ua.length - i) (by have := h.hi; omega) fun t _ _ y hy => by simp at hy
  rw [show i + (ua.length - i) = ua.length by have := h.hi; omega, List.take_of_length_le (by simp)] at this
  exact this
theorem MI.endA (h : MI R ua ub o ua.length j) (sb : ub.Pairwise R) : MI R ua ub (o ++ ub.drop j) ua.length ub.length := (h.swap.endB sb).swap
theorem MI.lastA (h : MI R ua ub o i j) (sa : ua.Pairwise R) (sb : ub.Pairwise R) (hi : i + 1 = ua.length) (hl : ∀ y ∈ ub, R y (ua.getD i 0)) : MI R ua ub (o ++ ub.drop j ++ ua.drop i) ua.length ub.length := by
  have h1 := h.swap.takeA sb (ub.length - j) (by have := h.hj; omega) fun t _ ht y hy => by
    obtain ⟨t', a1, a2, rfl⟩ := mem_drop_elim hy
    have : t' = i := by omega
    subst this
    exact hl _ (by have hjl := h.hj; have := mem_drop_of_lt (u := ub) (i := 0) (Nat.zero_le t) (by omega); simpa using this)
  rw [show j + (ub.length - j) = ub.length by have := h.hj; omega, List.take_of_length_le (by simp)] at h1
  exact h1.swap.endB sa
theorem MI.fin (h : MI R ua ub o ua.length ub.length) : o.Pairwise R ∧ o.Perm (ua ++ ub) := ⟨h.pw, by simpa using h.pm⟩
theorem MI.len (h : MI R ua ub o i j) : o.length = i + j := by
  have := h.pm.length_eq
  have h1 := h.hi
  have h2 := h.hj
  simp at this; omega
theorem low {u : List Nat} {key : Nat → Int} (su : u.Pairwise fun x y => key x ≤ key y) {x i : Nat} (h : key x ≤ key (u.getD i 0)) : ∀ y ∈ u.drop i, key x ≤ key y := fun y hy => by
  obtain ⟨t, h1, h2, rfl⟩ := mem_drop_elim hy
  by_cases e : i = t
  · subst e; exact h
  · exact Int.le_trans h (pw_getD su (by omega) h2)
end
def AK (it : Array Keyed) (o : List Nat) : Array Keyed := (o.map (kas_item it)).toArray
theorem AK_push (it : Array Keyed) (o : List Nat) (x : Nat) : (AK it o).push (kas_item it x) = AK it (o ++ [x]) := by simp [AK]
theorem AK_ext (it : Array Keyed) (o : List Nat) (p : Array Nat) (i k : Nat) : AK it o ++ (p.map (kas_item it)).extract i (i + k) = AK it (o ++ (p.toList.drop i).take k) := by
  apply Array.toList_inj.mp
  simp [AK, List.extract, List.map_take, List.map_drop]
theorem AK_end (it : Array Keyed) (o : List Nat) (p : Array Nat) (i : Nat) : AK it o ++ (p.map (kas_item it)).extract i p.size = AK it (o ++ p.toList.drop i) := by
  apply Array.toList_inj.mp
  simp only [AK, Array.toList_append, Array.toList_extract, Array.toList_map, List.map_append, List.map_drop, List.extract]
  rw [List.take_of_length_le (by simp)]
def SS (st st' : SortSt) : Prop := kindOf st' = kindOf st ∧ arrOf st' = arrOf st ∧ pendingOf st' = pendingOf st ∧ failedOf st' = failedOf st
theorem SS.refl (st : SortSt) : SS st st := ⟨rfl, rfl, rfl, rfl⟩
section
variable {prog : Program} {w : World} {A : Around} {E : Value → Shared → Prop} {s : Shared} {κ : SortKind} {it : Array Keyed} {n : Nat} {key : Nat → Int}
def setG : Nat → StateT SortSt Sem Unit := sortPriv% PySem.Builtin.setMinGallop
theorem setG_w {st st0 : SortSt} {g : Nat} {Q : Unit → SortSt → Prop} (h : SS st0 st) (q : ∀ st', SS st0 st' → Q () st') : wpS (model prog w) A E s (setG g) Q st := by
  unfold setG
  exact wpS_modify (q _ h)
def Res (it : Array Keyed) (key : Nat → Int) (ua ub : List Nat) (r : Array Keyed) : Prop := ∃ q : List Nat, r = AK it q ∧ q.Perm (ua ++ ub) ∧ q.Pairwise fun x y => key x ≤ key y
theorem Res.of {ua ub o : List Nat} (h : MI (fun x y => key x ≤ key y) ua ub o ua.length ub.length) : Res it key ua ub (AK it o) := ⟨o, rfl, h.fin.2, h.fin.1⟩
end
end L2

set_option maxHeartbeats 2000000
namespace L2
open PySem PySem.W PyProof.Rows
section
variable {prog : Program} {w : World} {A : Around} {E : Value → Shared → Prop} {s : Shared} {κ : SortKind} {it : Array Keyed} {n : Nat} {key : Nat → Int}
abbrev RK (key : Nat → Int) : Nat → Nat → Prop := fun x y => key x ≤ key y
theorem ent_getD {pa : Array Nat} (i : Nat) : pa.getD i 0 = pa.toList.getD i 0 := by
  rw [List.getD_eq_getElem?_getD, Array.getElem?_toList, Array.getD_eq_getD_getElem?]
theorem byd_f {key : Nat → Int} {x : Nat} {p : Array Nat} {base i : Nat} : (byd key false x p base i = true ↔ key (p.toList.getD (base + i) 0) ≤ key x) ∧ (byd key false x p base i = false ↔ key x < key (p.toList.getD (base + i) 0)) := by
  unfold byd
  rw [ent_getD]
  simp
theorem byd_t {key : Nat → Int} {x : Nat} {p : Array Nat} {base i : Nat} : (byd key true x p base i = true ↔ key (p.toList.getD (base + i) 0) < key x) ∧ (byd key true x p base i = false ↔ key x ≤ key (p.toList.getD (base + i) 0)) := by
  unfold byd
  rw [ent_getD]
  simp
theorem pw_le {u : List Nat} (h : u.Pairwise (RK key)) {s t : Nat} (hs : s ≤ t) (ht : t < u.length) : key (u.getD s 0) ≤ key (u.getD t 0) := by
  by_cases e : s = t
  · subst e; exact Int.le_refl _
  · exact pw_getD h (by omega) ht
theorem anti_f {x : Nat} {p : Array Nat} {base m : Nat} (hb : base + m ≤ p.size) (sp : p.toList.Pairwise (RK key)) : ∀ i j, i ≤ j → j < m → byd key false x p base j = true → byd key false x p base i = true := fun i j h1 h2 h => by
  rw [byd_f.1] at h ⊢
  exact Int.le_trans (pw_le sp (by omega) (by simp; omega)) h
theorem anti_t {x : Nat} {p : Array Nat} {base m : Nat} (hb : base + m ≤ p.size) (sp : p.toList.Pairwise (RK key)) : ∀ i j, i ≤ j → j < m → byd key true x p base j = true → byd key true x p base i = true := fun i j h1 h2 h => by
  rw [byd_t.1] at h ⊢
  exact Int.lt_of_le_of_lt (pw_le sp (by omega) (by simp; omega)) h
theorem ite_w {α : Type} {c : Prop} [Decidable c] {m1 m2 : StateT SortSt Sem α} {Q : α → SortSt → Prop} {st : SortSt} (h1 : c → wpS (model prog w) A E s m1 Q st) (h2 : ¬ c → wpS (model prog w) A E s m2 Q st) : wpS (model prog w) A E s (if c then m1 else m2) Q st := by
  by_cases h : c
  · rw [if_pos h]; exact h1 h
  · rw [if_neg h]; exact h2 h
theorem beq_w {α : Type} {x y : Nat} {m1 m2 : StateT SortSt Sem α} {Q : α → SortSt → Prop} {st : SortSt} (h1 : x = y → wpS (model prog w) A E s m1 Q st) (h2 : ¬ x = y → wpS (model prog w) A E s m2 Q st) : wpS (model prog w) A E s (if (x == y) = true then m1 else m2) Q st :=
  ite_w (fun h => h1 (beq_iff_eq.mp h)) fun h => h2 fun e => h (beq_iff_eq.mpr e)
theorem lo_w (hc : Cmp prog w A s κ it n key) {pa pb : Array Nat} {st : SortSt} {Q : Array Keyed → SortSt → Prop} (hk : kindOf st = κ) (ea : Ent n pa) (eb : Ent n pb) (sa : pa.toList.Pairwise (RK key)) (sb : pb.toList.Pairwise (RK key)) (ha : 0 < pa.size) (hb : 0 < pb.size)
    (h0 : key (pb.toList.getD 0 0) ≤ key (pa.toList.getD 0 0)) (hl : ∀ y ∈ pb.toList, key y ≤ key (pa.toList.getD (pa.size - 1) 0)) (q : ∀ r st', SS st st' → Res it key pa.toList pb.toList r → Q r st') :
    wpS (model prog w) A E s (mergeLo' (pa.map (kas_item it)) (pb.map (kas_item it))) Q st := by
  have la : pa.toList.length = pa.size := by simp
  have lb : pb.toList.length = pb.size := by simp
  have dn : ∀ {o : List Nat} {i j : Nat}, MI (RK key) pa.toList pb.toList o i j → j = pb.size → Res it key pa.toList pb.toList (AK it o ++ (pa.map (kas_item it)).extract i pa.size ++ (pb.map (kas_item it)).extract j pb.size) := fun {o i j} h hj => by
    subst hj
    rw [AK_end, AK_end, List.drop_of_length_le (l := pb.toList) (by simp), List.append_nil]
    rw [← lb] at h
    exact Res.of (h.endB sa)
  have dn' : ∀ {o : List Nat} {i j : Nat}, MI (RK key) pa.toList pb.toList o i j → i = pa.size → Res it key pa.toList pb.toList (AK it o ++ (pa.map (kas_item it)).extract i pa.size ++ (pb.map (kas_item it)).extract j pb.size) := fun {o i j} h hi => by
    subst hi
    rw [AK_end, AK_end, List.drop_of_length_le (l := pa.toList) (by simp), List.append_nil]
    rw [← la] at h
    exact Res.of (h.endA sb)
  have ls : ∀ {o : List Nat} {i j : Nat}, MI (RK key) pa.toList pb.toList o i j → i + 1 = pa.size → Res it key pa.toList pb.toList (AK it o ++ (pb.map (kas_item it)).extract j pb.size ++ (pa.map (kas_item it)).extract i pa.size) := fun {o i j} h hi => by
    rw [AK_end, AK_end]
    exact Res.of (h.lastA sa sb (by omega) fun y hy => by have := hl y hy; rwa [show pa.size - 1 = i by omega] at this)
  have m0 : MI (RK key) pa.toList pb.toList [] 0 0 := ⟨Nat.zero_le _, Nat.zero_le _, List.Pairwise.nil, by simp, by simp, by simp⟩
  have m1 : MI (RK key) pa.toList pb.toList [pb.toList.getD 0 0] 0 1 := (m0.swap.pushA (by omega) sb (low sa h0)).swap
  unfold mergeLo'
  show wpS _ _ _ _ (_ >>= _) _ _
  rw [show (pa.map (kas_item it)).size = pa.size from Array.size_map .., show (pb.map (kas_item it)).size = pb.size from Array.size_map ..]
  dsimp only
  refine wpS_bind (wpS_lift (wpAny_rule ⟨rfl, ?_⟩))
  refine wpS_bind (elem_w hb ?_)
  have e1 : #[kas_item it (pb.getD 0 0)] = AK it [pb.toList.getD 0 0] := by rw [ent_getD]; rfl
  rw [e1]
  refine beq_w (fun hq1 => ?_) fun hq1 => ?_
  · exact wpS_pure (q _ _ (SS.refl _) (dn m1 (by omega)))
  refine beq_w (fun hq2 => ?_) fun hq2 => ?_
  · exact wpS_pure (q _ _ (SS.refl _) (ls m1 (by omega)))
  refine wpS_bind (wpS_get ?_)
  refine wpS_bind (wpS_mono (wpS_forRange
    (I := fun k c st' => SS st st' ∧ ∃ o ia ib mg, c = (none, AK it o, ia, ib, mg) ∧ MI (RK key) pa.toList pb.toList o ia ib ∧ ia + 1 < pa.size ∧ ib < pb.size ∧ k + 1 ≤ o.length)
    (Q := fun c st' => SS st st' ∧ ∃ r z, c = (some r, z) ∧ Res it key pa.toList pb.toList r) ?_ ?_ ⟨SS.refl _, _, 0, 1, _, rfl, m1, by omega, by omega, by simp⟩) ?_)
  · rintro k c st' _ hkm ⟨hS, o, ia, ib, mg, rfl, mi, hia, hib, hlen⟩
    dsimp only
    refine wpS_bind (wpS_mono (wpS_forRange
      (I := fun k' c st2 => SS st st2 ∧ ∃ o' ia ib ac bc, c = (none, AK it o', ia, ib, ac, bc) ∧ MI (RK key) pa.toList pb.toList o' ia ib ∧ ia + 1 < pa.size ∧ ib < pb.size ∧ o.length ≤ o'.length)
      (Q := fun c st2 => SS st st2 ∧ ((∃ r z, c = (some r, z) ∧ Res it key pa.toList pb.toList r) ∨ ∃ o' ia ib ac bc, c = (none, AK it o', ia, ib, ac, bc) ∧ MI (RK key) pa.toList pb.toList o' ia ib ∧ ia + 1 < pa.size ∧ ib < pb.size ∧ o.length ≤ o'.length)) ?_ ?_ ⟨hS, o, ia, ib, 0, 0, rfl, mi, hia, hib, Nat.le_refl _⟩) ?_)
    · rintro k' c st2 _ _ ⟨hS, o', ia, ib, ac, bc, rfl, mi, hia, hib, hlen'⟩
      dsimp only
      refine wpS_bind (elem_w hib (wpS_bind (elem_w (show ia < pa.size by omega) (wpS_bind (lt_w hc (hS.1.trans hk) (eb _) (ea _) ?_)))))
      dsimp only
      rw [ent_getD, ent_getD]
      refine ite_w (fun hlt => ?_) fun hlt => ?_
      · simp only [decide_eq_true_eq] at hlt
        refine wpS_bind (elem_w hib ?_)
        rw [AK_push, ent_getD]
        have mi' := (mi.swap.pushA (by omega) sb (low sa (Int.le_of_lt hlt))).swap
        refine beq_w (fun hq3 => ?_) fun hq3 => ?_
        · exact wpS_pure ⟨hS, .inl ⟨_, _, rfl, dn mi' (by omega)⟩⟩
        refine ite_w (fun hq4 => ?_) fun hq4 => ?_
        · exact wpS_pure ⟨hS, .inr ⟨_, _, _, _, _, rfl, mi', hia, by omega, by simp; omega⟩⟩
        · exact wpS_pure ⟨hS, _, _, _, _, _, rfl, mi', hia, by omega, by simp; omega⟩
      · simp only [decide_eq_true_eq, Int.not_lt] at hlt
        refine wpS_bind (elem_w (show ia < pa.size by omega) ?_)
        rw [AK_push, ent_getD]
        have mi' := mi.pushA (by omega) sa (low sb hlt)
        refine beq_w (fun hq3 => ?_) fun hq3 => ?_
        · exact wpS_pure ⟨hS, .inl ⟨_, _, rfl, ls mi' (by omega)⟩⟩
        refine ite_w (fun hq4 => ?_) fun hq4 => ?_
        · exact wpS_pure ⟨hS, .inr ⟨_, _, _, _, _, rfl, mi', by omega, by omega, by simp; omega⟩⟩
        · exact wpS_pure ⟨hS, _, _, _, _, _, rfl, mi', by omega, by omega, by simp; omega⟩
    · rintro c st2 ⟨hS, h⟩
      exact ⟨hS, .inr h⟩
    · rintro c st2 ⟨hS, ⟨r, z, rfl, hr⟩ | ⟨o1, ia, ib, ac, bc, rfl, mi, hia, hib, hlen1⟩⟩
      · exact wpS_pure ⟨hS, r, _, rfl, hr⟩
      · dsimp only
        refine wpS_bind (wpS_lift (wpAny_rule ⟨rfl, ?_⟩))
        refine wpS_bind (wpS_mono (wpS_forRange
          (I := fun k' c st3 => SS st st3 ∧ ∃ o' ia ib mg ac bc, c = (none, AK it o', ia, ib, mg, ac, bc) ∧ MI (RK key) pa.toList pb.toList o' ia ib ∧ ia + 1 < pa.size ∧ ib < pb.size ∧ o1.length + k' ≤ o'.length)
          (Q := fun c st3 => SS st st3 ∧ ((∃ r z, c = (some r, z) ∧ Res it key pa.toList pb.toList r) ∨ ∃ o' ia ib mg ac bc, c = (none, AK it o', ia, ib, mg, ac, bc) ∧ MI (RK key) pa.toList pb.toList o' ia ib ∧ ia + 1 < pa.size ∧ ib < pb.size ∧ o1.length + 1 ≤ o'.length)) ?_ ?_ ⟨hS, o1, ia, ib, _, ac, bc, rfl, mi, hia, hib, Nat.le_refl _⟩) ?_)
        · clear mi hia hib
          rintro k' c st3 _ _ ⟨hS, o', ia, ib, mg, ac, bc, rfl, mi, hia, hib, hlen'⟩
          dsimp only
          refine ite_w (fun hmg => ?_) fun hmg => ?_
          all_goals
            refine wpS_bind (setG_w hS fun st4 hS4 => wpS_bind (elem_w hib (wpS_bind (gallop_w hc (hS4.1.trans hk) (eb _) ea (by omega) (by omega) (anti_f (by omega) sa) fun k1 i1 i2 i3 => ?_))))
            dsimp only
            rw [ent_getD] at i2 i3
            have mi2' := mi.takeA sa k1 (by omega) fun t h1 h2 => low sb (by have := byd_f.1.mp (i2 (t - ia) (by omega)); rwa [show ia + (t - ia) = t by omega] at this)
            have hg' : ia + k1 < pa.size → key (pb.toList.getD ib 0) < key (pa.toList.getD (ia + k1) 0) := fun h => byd_f.2.mp (i3 k1 (Nat.le_refl _) (by omega))
            refine ite_w (fun hk0 => ?_) fun hk0 => ?_
            · rw [AK_ext]
              have hlen2 : o1.length + k' ≤ (o' ++ (pa.toList.drop ia).take k1).length := by simp; omega
              refine beq_w (fun hq => ?_) fun hq1 => ?_
              · exact wpS_pure ⟨hS4, .inl ⟨_, _, rfl, ls mi2' hq⟩⟩
              refine beq_w (fun hq => ?_) fun hq2 => ?_
              · exact wpS_pure ⟨hS4, .inl ⟨_, _, rfl, dn' mi2' hq⟩⟩
              have hg := hg' (by omega)
              have mi2 := mi2'
              generalize o' ++ (pa.toList.drop ia).take k1 = o2 at mi2 hlen2 ⊢
              have hia2 : ia + k1 + 1 < pa.size := by omega
              clear mi2' hg'
              generalize ia + k1 = ia2 at mi2 hia2 hg ⊢
              refine wpS_bind (elem_w hib ?_)
              rw [AK_push, ent_getD]
              have mi3 := (mi2.swap.pushA (by omega) sb (low sa (Int.le_of_lt hg))).swap
              have hlen3 : o1.length + k' + 1 ≤ (o2 ++ [pb.toList.getD ib 0]).length := by simp; omega
              refine beq_w (fun hq => ?_) fun hq => ?_
              · exact wpS_pure ⟨hS4, .inl ⟨_, _, rfl, dn mi3 hq⟩⟩
              refine wpS_bind (elem_w (show ia2 < pa.size by omega) (wpS_bind (gallop_w hc (hS4.1.trans hk) (ea _) eb (by omega) (by omega) (anti_t (by omega) sb) fun k2 j1 j2 j3 => ?_)))
              dsimp only
              rw [ent_getD] at j2 j3
              generalize o2 ++ [pb.toList.getD ib 0] = o3 at mi3 hlen3 ⊢
              have mi4' := (mi3.swap.takeA sb k2 (by omega) fun t h1 h2 => low sa (by have := byd_t.1.mp (j2 (t - (ib + 1)) (by omega)); rw [show ib + 1 + (t - (ib + 1)) = t by omega] at this; exact Int.le_of_lt this)).swap
              have hg2' : ib + 1 + k2 < pb.size → key (pa.toList.getD ia2 0) ≤ key (pb.toList.getD (ib + 1 + k2) 0) := fun h => byd_t.2.mp (j3 k2 (Nat.le_refl _) (by omega))
              refine ite_w (fun hk0 => ?_) fun hk0 => ?_
              · rw [AK_ext]
                have hlen4 : o1.length + k' + 1 ≤ (o3 ++ (pb.toList.drop (ib + 1)).take k2).length := by simp; omega
                refine beq_w (fun hq => ?_) fun hq => ?_
                · exact wpS_pure ⟨hS4, .inl ⟨_, _, rfl, dn mi4' hq⟩⟩
                have hg2 := hg2' (by omega)
                have mi4 := mi4'
                generalize o3 ++ (pb.toList.drop (ib + 1)).take k2 = o4 at mi4 hlen4 ⊢
                have hib4 : ib + 1 + k2 < pb.size := by omega
                clear mi4' hg2'
                generalize ib + 1 + k2 = ib4 at mi4 hib4 hg2 ⊢
                refine wpS_bind (elem_w (show ia2 < pa.size by omega) ?_)
                rw [AK_push, ent_getD]
                have mi5 := mi4.pushA (by omega) sa (low sb hg2)
                refine beq_w (fun hq => ?_) fun hq => ?_
                · exact wpS_pure ⟨hS4, .inl ⟨_, _, rfl, ls mi5 hq⟩⟩
                refine ite_w (fun hq4 => ?_) fun hq4 => ?_
                · exact wpS_pure ⟨hS4, .inr ⟨_, _, _, _, _, _, rfl, mi5, by omega, by omega, by simp; omega⟩⟩
                · exact wpS_pure ⟨hS4, _, _, _, _, _, _, rfl, mi5, by omega, by omega, by simp; omega⟩
              · have hk00 : k2 = 0 := by omega
                subst hk00
                have hg2 := hg2' (by omega)
                rw [Nat.add_zero] at hg2
                have mi4 := mi3
                have hib4 : ib + 1 < pb.size := by omega
                refine wpS_bind (elem_w (show ia2 < pa.size by omega) ?_)
                rw [AK_push, ent_getD]
                have mi5 := mi4.pushA (by omega) sa (low sb hg2)
                refine beq_w (fun hq => ?_) fun hq => ?_
                · exact wpS_pure ⟨hS4, .inl ⟨_, _, rfl, ls mi5 hq⟩⟩
                refine ite_w (fun hq4 => ?_) fun hq4 => ?_
                · exact wpS_pure ⟨hS4, .inr ⟨_, _, _, _, _, _, rfl, mi5, by omega, by omega, by simp; omega⟩⟩
                · exact wpS_pure ⟨hS4, _, _, _, _, _, _, rfl, mi5, by omega, by omega, by simp; omega⟩
            · have hk00 : k1 = 0 := by omega
              subst hk00
              have hg := hg' (by omega)
              rw [Nat.add_zero] at hg
              obtain ⟨o2, eo2⟩ : ∃ o2, o2 = o' := ⟨_, rfl⟩
              obtain ⟨ia2, eia2⟩ : ∃ i, i = ia := ⟨_, rfl⟩
              have mi2 := mi
              have hlen2 := hlen'
              have hia2 : ia + 1 < pa.size := hia
              clear mi2' hg'
              rw [← eo2] at mi2 hlen2 ⊢
              rw [← eia2] at mi2 hia2 hg ⊢
              refine wpS_bind (elem_w hib ?_)
              rw [AK_push, ent_getD]
              have mi3 := (mi2.swap.pushA (by omega) sb (low sa (Int.le_of_lt hg))).swap
              have hlen3 : o1.length + k' + 1 ≤ (o2 ++ [pb.toList.getD ib 0]).length := by simp; omega
              refine beq_w (fun hq => ?_) fun hq => ?_
              · exact wpS_pure ⟨hS4, .inl ⟨_, _, rfl, dn mi3 hq⟩⟩
              refine wpS_bind (elem_w (show ia2 < pa.size by omega) (wpS_bind (gallop_w hc (hS4.1.trans hk) (ea _) eb (by omega) (by omega) (anti_t (by omega) sb) fun k2 j1 j2 j3 => ?_)))
              dsimp only
              rw [ent_getD] at j2 j3
              generalize o2 ++ [pb.toList.getD ib 0] = o3 at mi3 hlen3 ⊢
              have mi4' := (mi3.swap.takeA sb k2 (by omega) fun t h1 h2 => low sa (by have := byd_t.1.mp (j2 (t - (ib + 1)) (by omega)); rw [show ib + 1 + (t - (ib + 1)) = t by omega] at this; exact Int.le_of_lt this)).swap
              have hg2' : ib + 1 + k2 < pb.size → key (pa.toList.getD ia2 0) ≤ key (pb.toList.getD (ib + 1 + k2) 0) := fun h => byd_t.2.mp (j3 k2 (Nat.le_refl _) (by omega))
              refine ite_w (fun hk0 => ?_) fun hk0 => ?_
              · rw [AK_ext]
                have hlen4 : o1.length + k' + 1 ≤ (o3 ++ (pb.toList.drop (ib + 1)).take k2).length := by simp; omega
                refine beq_w (fun hq => ?_) fun hq => ?_
                · exact wpS_pure ⟨hS4, .inl ⟨_, _, rfl, dn mi4' hq⟩⟩
                have hg2 := hg2' (by omega)
                have mi4 := mi4'
                generalize o3 ++ (pb.toList.drop (ib + 1)).take k2 = o4 at mi4 hlen4 ⊢
                have hib4 : ib + 1 + k2 < pb.size := by omega
                clear mi4' hg2'
                generalize ib + 1 + k2 = ib4 at mi4 hib4 hg2 ⊢
                refine wpS_bind (elem_w (show ia2 < pa.size by omega) ?_)
                rw [AK_push, ent_getD]
                have mi5 := mi4.pushA (by omega) sa (low sb hg2)
                refine beq_w (fun hq => ?_) fun hq => ?_
                · exact wpS_pure ⟨hS4, .inl ⟨_, _, rfl, ls mi5 hq⟩⟩
                refine ite_w (fun hq4 => ?_) fun hq4 => ?_
                · exact wpS_pure ⟨hS4, .inr ⟨_, _, _, _, _, _, rfl, mi5, by omega, by omega, by simp; omega⟩⟩
                · exact wpS_pure ⟨hS4, _, _, _, _, _, _, rfl, mi5, by omega, by omega, by simp; omega⟩
              · have hk00 : k2 = 0 := by omega
                subst hk00
                have hg2 := hg2' (by omega)
                rw [Nat.add_zero] at hg2
                have mi4 := mi3
                have hib4 : ib + 1 < pb.size := by omega
                refine wpS_bind (elem_w (show ia2 < pa.size by omega) ?_)
                rw [AK_push, ent_getD]
                have mi5 := mi4.pushA (by omega) sa (low sb hg2)
                refine beq_w (fun hq => ?_) fun hq => ?_
                · exact wpS_pure ⟨hS4, .inl ⟨_, _, rfl, ls mi5 hq⟩⟩
                refine ite_w (fun hq4 => ?_) fun hq4 => ?_
                · exact wpS_pure ⟨hS4, .inr ⟨_, _, _, _, _, _, rfl, mi5, by omega, by omega, by simp; omega⟩⟩
                · exact wpS_pure ⟨hS4, _, _, _, _, _, _, rfl, mi5, by omega, by omega, by simp; omega⟩
        · rintro c st3 ⟨hS, o', ia, ib, mg, ac, bc, rfl, mi, hia, hib, hlen'⟩
          exact ⟨hS, .inr ⟨_, _, _, _, _, _, rfl, mi, hia, hib, by omega⟩⟩
        · rintro c st3 ⟨hS, ⟨r, z, rfl, hr⟩ | ⟨o', ia, ib, mg, ac, bc, rfl, mi, hia, hib, hlen'⟩⟩
          · exact wpS_pure ⟨hS, r, _, rfl, hr⟩
          · dsimp only
            exact wpS_bind (setG_w hS fun st4 hS4 => wpS_pure ⟨hS4, _, _, _, _, rfl, mi, hia, hib, by omega⟩)
  · rintro c st' ⟨hS, o, ia, ib, mg, rfl, mi, hia, hib, hlen⟩
    exfalso
    have := mi.len
    omega
  · rintro c st' ⟨hS, r, z, rfl, hr⟩
    exact wpS_pure (q _ _ hS hr)
end
end L2

namespace L2
open PySem PySem.W PyProof.Rows
abbrev RG (key : Nat → Int) : Nat → Nat → Prop := fun x y => key y ≤ key x
def MH (key : Nat → Int) (pa pb o : List Nat) (na nb : Nat) : Prop := na ≤ pa.length ∧ nb ≤ pb.length ∧ MI (RG key) pa.reverse pb.reverse o (pa.length - na) (pb.length - nb)
section
variable {key : Nat → Int} {pa pb o : List Nat} {na nb : Nat}
theorem rev_getD {u : List Nat} {m : Nat} (h1 : 1 ≤ m) (h2 : m ≤ u.length) : u.reverse.getD (u.length - m) 0 = u.getD (m - 1) 0 := by
  rw [List.getD_eq_getElem?_getD, List.getD_eq_getElem?_getD, List.getElem?_reverse (by omega)]
  congr 2; omega
theorem drop_rev {u : List Nat} {m : Nat} (h2 : m ≤ u.length) : u.reverse.drop (u.length - m) = (u.take m).reverse := by
  rw [List.drop_reverse]; congr 2; omega
theorem pw_rev {u : List Nat} (h : u.Pairwise (RK key)) : u.reverse.Pairwise (RG key) := List.pairwise_reverse.mpr h
theorem MH.swap (h : MH key pa pb o na nb) : MH key pb pa o nb na := ⟨h.2.1, h.1, h.2.2.swap⟩
theorem MH.pushA (h : MH key pa pb o na nb) (h1 : 1 ≤ na) (sa : pa.Pairwise (RK key)) (hR : ∀ y ∈ pb.take nb, key y ≤ key (pa.getD (na - 1) 0)) : MH key pa pb (o ++ [pa.getD (na - 1) 0]) (na - 1) nb := by
  have h2 := h.1
  refine ⟨by omega, h.2.1, ?_⟩
  have := h.2.2.pushA (by simp; omega) (pw_rev sa) (by rw [rev_getD h1 h.1, drop_rev h.2.1]; intro y hy; exact hR y (by simpa using hy))
  rw [rev_getD h1 h.1] at this
  rw [show pa.length - (na - 1) = pa.length - na + 1 by omega]
  exact this
theorem MH.takeA (h : MH key pa pb o na nb) (sa : pa.Pairwise (RK key)) {m : Nat} (hm : m ≤ na) (hR : ∀ t, m ≤ t → t < na → ∀ y ∈ pb.take nb, key y ≤ key (pa.getD t 0)) : MH key pa pb (o ++ ((pa.drop m).take (na - m)).reverse) m nb := by
  have h2 := h.1
  refine ⟨by omega, h.2.1, ?_⟩
  have := h.2.2.takeA (pw_rev sa) (na - m) (by simp; omega) (by
    intro t t1 t2 y hy
    rw [drop_rev h.2.1] at hy
    have e := rev_getD (u := pa) (m := pa.length - t) (by omega) (by omega)
    rw [show pa.length - (pa.length - t) = t by omega] at e
    rw [show RG key (pa.reverse.getD t 0) y ↔ key y ≤ key (pa.reverse.getD t 0) from Iff.rfl, e]
    exact hR _ (by omega) (by omega) y (by simpa using hy))
  rw [drop_rev h.1, List.take_reverse, List.drop_take] at this
  have e1 : (List.take na pa).length - (na - m) = m := by simp; omega
  rw [e1] at this
  rw [show pa.length - m = pa.length - na + (na - m) by omega]
  exact this
theorem MI.finR {r : List Nat} (h : MI (RG key) pa.reverse pb.reverse r pa.reverse.length pb.reverse.length) : r.reverse.Pairwise (RK key) ∧ r.reverse.Perm (pa ++ pb) := by
  refine ⟨List.pairwise_reverse.mpr h.fin.1, ?_⟩
  refine (List.reverse_perm r).trans (h.fin.2.trans ?_)
  exact (List.reverse_perm pa).append (List.reverse_perm pb)
theorem MH.endB (h : MH key pa pb o na 0) (sa : pa.Pairwise (RK key)) : (pa.take na ++ o.reverse).Pairwise (RK key) ∧ (pa.take na ++ o.reverse).Perm (pa ++ pb) := by
  have h3 := h.2.2
  rw [Nat.sub_zero, ← List.length_reverse (as := pb)] at h3
  have := (h3.endB (pw_rev sa)).finR
  rw [drop_rev h.1] at this
  simpa using this
theorem MH.lastB (h : MH key pa pb o na 1) (sa : pa.Pairwise (RK key)) (sb : pb.Pairwise (RK key)) (hl : ∀ y ∈ pa, key (pb.getD 0 0) ≤ key y) : (pb.take 1 ++ pa.take na ++ o.reverse).Pairwise (RK key) ∧ (pb.take 1 ++ pa.take na ++ o.reverse).Perm (pa ++ pb) := by
  have hb := h.2.1
  have := (h.2.2.swap.lastA (pw_rev sb) (pw_rev sa) (by simp; omega) (by
    intro y hy
    have := hl y (by simpa using hy)
    rw [rev_getD (Nat.le_refl _) hb]; exact this)).swap.finR
  rw [drop_rev h.1, drop_rev h.2.1] at this
  simpa using this
theorem MH.len (h : MH key pa pb o na nb) : o.length + na + nb = pa.length + pb.length := by
  have := h.2.2.len
  have h1 := h.1
  have h2 := h.2.1
  omega
theorem upp {u : List Nat} (su : u.Pairwise (RK key)) {x m : Nat} (hm : m ≤ u.length) (h : 0 < m → key (u.getD (m - 1) 0) ≤ key x) : ∀ y ∈ u.take m, key y ≤ key x := fun y hy => by
  obtain ⟨t, ht, rfl⟩ := List.mem_iff_getElem.mp hy
  have ht' : t < m := by simp at ht; omega
  have h3 := pw_le su (s := t) (t := m - 1) (by omega) (by omega)
  have e : (u.take m)[t] = u.getD t 0 := by
    rw [List.getElem_take, List.getD_eq_getElem?_getD, List.getElem?_eq_getElem]; rfl
  rw [e]
  exact Int.le_trans h3 (h (by omega))
end
theorem AK_extR (it : Array Keyed) (o : List Nat) (p : Array Nat) (i k : Nat) : AK it o ++ ((p.map (kas_item it)).extract i k).reverse = AK it (o ++ ((p.toList.drop i).take (k - i)).reverse) := by
  apply Array.toList_inj.mp
  simp [AK, List.extract, List.map_take, List.map_drop]
theorem AK_fin (it : Array Keyed) (o : List Nat) (p q : Array Nat) (i j : Nat) : (p.map (kas_item it)).extract 0 i ++ (q.map (kas_item it)).extract 0 j ++ (AK it o).reverse = AK it (p.toList.take i ++ q.toList.take j ++ o.reverse) := by
  apply Array.toList_inj.mp
  simp [AK, List.extract, List.map_take, List.map_drop]
section
variable {prog : Program} {w : World} {A : Around} {E : Value → Shared → Prop} {s : Shared} {κ : SortKind} {it : Array Keyed} {n : Nat} {key : Nat → Int}
theorem hi_w (hc : Cmp prog w A s κ it n key) {pa pb : Array Nat} {st : SortSt} {Q : Array Keyed → SortSt → Prop} (hk : kindOf st = κ) (ea : Ent n pa) (eb : Ent n pb) (sa : pa.toList.Pairwise (RK key)) (sb : pb.toList.Pairwise (RK key)) (ha : 0 < pa.size) (hb : 0 < pb.size)
    (h0 : ∀ y ∈ pa.toList, key (pb.toList.getD 0 0) ≤ key y) (hl : ∀ y ∈ pb.toList, key y ≤ key (pa.toList.getD (pa.size - 1) 0)) (q : ∀ r st', SS st st' → Res it key pa.toList pb.toList r → Q r st') :
    wpS (model prog w) A E s (mergeHi' (pa.map (kas_item it)) (pb.map (kas_item it))) Q st := by
  have la : pa.toList.length = pa.size := by simp
  have lb : pb.toList.length = pb.size := by simp
  have dn : ∀ {o : List Nat} {i j : Nat}, MH key pa.toList pb.toList o i j → j = 0 → Res it key pa.toList pb.toList ((pa.map (kas_item it)).extract 0 i ++ (pb.map (kas_item it)).extract 0 j ++ (AK it o).reverse) := fun {o i j} h hj => by
    subst hj
    rw [AK_fin, List.take_zero, List.append_nil]
    exact ⟨_, rfl, (h.endB sa).2, (h.endB sa).1⟩
  have dn' : ∀ {o : List Nat} {i j : Nat}, MH key pa.toList pb.toList o i j → i = 0 → Res it key pa.toList pb.toList ((pa.map (kas_item it)).extract 0 i ++ (pb.map (kas_item it)).extract 0 j ++ (AK it o).reverse) := fun {o i j} h hi => by
    subst hi
    rw [AK_fin, List.take_zero, List.nil_append]
    have := h.swap.endB sb
    exact ⟨_, rfl, this.2.trans List.perm_append_comm, this.1⟩
  have ls : ∀ {o : List Nat} {i j : Nat}, MH key pa.toList pb.toList o i j → j = 1 → Res it key pa.toList pb.toList ((pb.map (kas_item it)).extract 0 j ++ (pa.map (kas_item it)).extract 0 i ++ (AK it o).reverse) := fun {o i j} h hj => by
    subst hj
    rw [AK_fin]
    have := h.lastB sa sb h0
    exact ⟨_, rfl, this.2, this.1⟩
  have m0 : MH key pa.toList pb.toList [] pa.size pb.size := ⟨by omega, by omega, by simp, by simp, List.Pairwise.nil, by simp, by simp, by simp⟩
  have m1 : MH key pa.toList pb.toList [pa.toList.getD (pa.size - 1) 0] (pa.size - 1) pb.size := m0.pushA (by omega) sa fun y hy => hl y (List.mem_of_mem_take hy)
  unfold mergeHi'
  show wpS _ _ _ _ (_ >>= _) _ _
  rw [show (pa.map (kas_item it)).size = pa.size from Array.size_map .., show (pb.map (kas_item it)).size = pb.size from Array.size_map ..]
  dsimp only
  refine wpS_bind (wpS_lift (wpAny_rule ⟨rfl, ?_⟩))
  refine wpS_bind (elem_w (show pa.size - 1 < pa.size by omega) ?_)
  have e1 : #[kas_item it (pa.getD (pa.size - 1) 0)] = AK it [pa.toList.getD (pa.size - 1) 0] := by rw [ent_getD]; rfl
  rw [e1]
  refine beq_w (fun hq1 => ?_) fun hq1 => ?_
  · exact wpS_pure (q _ _ (SS.refl _) (dn' m1 hq1))
  refine beq_w (fun hq2 => ?_) fun hq2 => ?_
  · exact wpS_pure (q _ _ (SS.refl _) (ls m1 hq2))
  refine wpS_bind (wpS_get ?_)
  refine wpS_bind (wpS_mono (wpS_forRange
    (I := fun k c st' => SS st st' ∧ ∃ o ia ib mg, c = (none, ia, ib, AK it o, mg) ∧ MH key pa.toList pb.toList o ia ib ∧ 0 < ia ∧ 1 < ib ∧ k + 1 ≤ o.length)
    (Q := fun c st' => SS st st' ∧ ∃ r z, c = (some r, z) ∧ Res it key pa.toList pb.toList r) ?_ ?_ ⟨SS.refl _, _, _, _, _, rfl, m1, by omega, by omega, by simp⟩) ?_)
  · rintro k c st' _ hkm ⟨hS, o, ia, ib, mg, rfl, mi, hia, hib, hlen⟩
    dsimp only
    refine wpS_bind (wpS_mono (wpS_forRange
      (I := fun k' c st2 => SS st st2 ∧ ∃ o' ia ib ac bc, c = (none, ia, ib, AK it o', ac, bc) ∧ MH key pa.toList pb.toList o' ia ib ∧ 0 < ia ∧ 1 < ib ∧ o.length ≤ o'.length)
      (Q := fun c st2 => SS st st2 ∧ ((∃ r z, c = (some r, z) ∧ Res it key pa.toList pb.toList r) ∨ ∃ o' ia ib ac bc, c = (none, ia, ib, AK it o', ac, bc) ∧ MH key pa.toList pb.toList o' ia ib ∧ 0 < ia ∧ 1 < ib ∧ o.length ≤ o'.length)) ?_ ?_ ⟨hS, o, ia, ib, 0, 0, rfl, mi, hia, hib, Nat.le_refl _⟩) ?_)
    · rintro k' c st2 _ _ ⟨hS, o', ia, ib, ac, bc, rfl, mi, hia, hib, hlen'⟩
      have za := mi.1
      have zb := mi.2.1
      dsimp only
      refine wpS_bind (elem_w (show ib - 1 < pb.size by omega) (wpS_bind (elem_w (show ia - 1 < pa.size by omega) (wpS_bind (lt_w hc (hS.1.trans hk) (eb _) (ea _) ?_)))))
      dsimp only
      rw [ent_getD, ent_getD]
      refine ite_w (fun hlt => ?_) fun hlt => ?_
      · simp only [decide_eq_true_eq] at hlt
        refine wpS_bind (elem_w (show ia - 1 < pa.size by omega) ?_)
        rw [AK_push, ent_getD]
        have mi' := mi.pushA hia sa (upp sb zb fun _ => Int.le_of_lt hlt)
        refine beq_w (fun hq3 => ?_) fun hq3 => ?_
        · exact wpS_pure ⟨hS, .inl ⟨_, _, rfl, dn' mi' hq3⟩⟩
        refine ite_w (fun hq4 => ?_) fun hq4 => ?_
        · exact wpS_pure ⟨hS, .inr ⟨_, _, _, _, _, rfl, mi', by omega, by omega, by simp; omega⟩⟩
        · exact wpS_pure ⟨hS, _, _, _, _, _, rfl, mi', by omega, by omega, by simp; omega⟩
      · simp only [decide_eq_true_eq, Int.not_lt] at hlt
        refine wpS_bind (elem_w (show ib - 1 < pb.size by omega) ?_)
        rw [AK_push, ent_getD]
        have mi' := (mi.swap.pushA (by omega) sb (upp sa za fun _ => hlt)).swap
        refine beq_w (fun hq3 => ?_) fun hq3 => ?_
        · exact wpS_pure ⟨hS, .inl ⟨_, _, rfl, ls mi' hq3⟩⟩
        refine ite_w (fun hq4 => ?_) fun hq4 => ?_
        · exact wpS_pure ⟨hS, .inr ⟨_, _, _, _, _, rfl, mi', by omega, by omega, by simp; omega⟩⟩
        · exact wpS_pure ⟨hS, _, _, _, _, _, rfl, mi', by omega, by omega, by simp; omega⟩
    · rintro c st2 ⟨hS, h⟩
      exact ⟨hS, .inr h⟩
    · rintro c st2 ⟨hS, ⟨r, z, rfl, hr⟩ | ⟨o1, ia, ib, ac, bc, rfl, mi, hia, hib, hlen1⟩⟩
      · exact wpS_pure ⟨hS, r, _, rfl, hr⟩
      · dsimp only
        refine wpS_bind (wpS_lift (wpAny_rule ⟨rfl, ?_⟩))
        refine wpS_bind (wpS_mono (wpS_forRange
          (I := fun k' c st3 => SS st st3 ∧ ∃ o' ia ib mg ac bc, c = (none, ia, ib, AK it o', mg, ac, bc) ∧ MH key pa.toList pb.toList o' ia ib ∧ 0 < ia ∧ 1 < ib ∧ o1.length + k' ≤ o'.length)
          (Q := fun c st3 => SS st st3 ∧ ((∃ r z, c = (some r, z) ∧ Res it key pa.toList pb.toList r) ∨ ∃ o' ia ib mg ac bc, c = (none, ia, ib, AK it o', mg, ac, bc) ∧ MH key pa.toList pb.toList o' ia ib ∧ 0 < ia ∧ 1 < ib ∧ o1.length + 1 ≤ o'.length)) ?_ ?_ ⟨hS, o1, ia, ib, _, ac, bc, rfl, mi, hia, hib, Nat.le_refl _⟩) ?_)
        · clear mi hia hib
          rintro k' c st3 _ _ ⟨hS, o', ia, ib, mg, ac, bc, rfl, mi, hia, hib, hlen'⟩
          have za := mi.1
          have zb := mi.2.1
          dsimp only
          refine ite_w (fun hmg => ?_) fun hmg => ?_
          all_goals
            refine wpS_bind (setG_w hS fun st4 hS4 => wpS_bind (elem_w (show ib - 1 < pb.size by omega) (wpS_bind (gallop_w hc (hS4.1.trans hk) (eb _) ea (by omega) (by omega) (anti_f (by omega) sa) fun at1 i1 i2 i3 => ?_))))
            dsimp only
            rw [ent_getD] at i2 i3
            have mi2' := mi.takeA sa i1 fun t h1 h2 => upp sb zb fun _ => by have := byd_f.2.mp (i3 t h1 h2); rw [Nat.zero_add] at this; exact Int.le_of_lt this
            have hg' : ∀ y ∈ pa.toList.take at1, key y ≤ key (pb.toList.getD (ib - 1) 0) := upp sa (by omega) fun h => by have := byd_f.1.mp (i2 (at1 - 1) (by omega)); rwa [Nat.zero_add] at this
            refine ite_w (fun hk0 => ?_) fun hk0 => ?_
            · rw [AK_extR]
              have hlen2 : o1.length + k' ≤ (o' ++ ((pa.toList.drop at1).take (ia - at1)).reverse).length := by simp; omega
              refine beq_w (fun hq => ?_) fun hq1 => ?_
              · exact wpS_pure ⟨hS4, .inl ⟨_, _, rfl, dn' mi2' hq⟩⟩
              have hg := hg'
              have mi2 := mi2'
              generalize o' ++ ((pa.toList.drop at1).take (ia - at1)).reverse = o2 at mi2 hlen2 ⊢
              have hia2 : 0 < at1 := by omega
              have za2 : at1 ≤ pa.size := by omega
              clear mi2' hg'
              obtain ⟨ia2, eia2⟩ : ∃ i, i = at1 := ⟨_, rfl⟩
              rw [← eia2] at mi2 hia2 hg za2 ⊢
              refine wpS_bind (elem_w (show ib - 1 < pb.size by omega) ?_)
              rw [AK_push, ent_getD]
              have mi3 := (mi2.swap.pushA (by omega) sb hg).swap
              have hlen3 : o1.length + k' + 1 ≤ (o2 ++ [pb.toList.getD (ib - 1) 0]).length := by simp; omega
              refine beq_w (fun hq => ?_) fun hqb => ?_
              · exact wpS_pure ⟨hS4, .inl ⟨_, _, rfl, ls mi3 hq⟩⟩
              refine wpS_bind (elem_w (show ia2 - 1 < pa.size by omega) (wpS_bind (gallop_w hc (hS4.1.trans hk) (ea _) eb (by omega) (by omega) (anti_t (by omega) sb) fun at2 j1 j2 j3 => ?_)))
              dsimp only
              rw [ent_getD] at j2 j3
              generalize o2 ++ [pb.toList.getD (ib - 1) 0] = o3 at mi3 hlen3 ⊢
              have mi4' := (mi3.swap.takeA sb j1 fun t h1 h2 => upp sa (by omega) fun _ => by have := byd_t.2.mp (j3 t h1 h2); rwa [Nat.zero_add] at this).swap
              have hg2 : ∀ y ∈ pb.toList.take at2, key y ≤ key (pa.toList.getD (ia2 - 1) 0) := upp sb (by omega) fun h => by have := byd_t.1.mp (j2 (at2 - 1) (by omega)); rw [Nat.zero_add] at this; exact Int.le_of_lt this
              refine ite_w (fun hk0 => ?_) fun hk0 => ?_
              · rw [AK_extR]
                have hlen4 : o1.length + k' + 1 ≤ (o3 ++ ((pb.toList.drop at2).take (ib - 1 - at2)).reverse).length := by simp; omega
                refine beq_w (fun hq => ?_) fun hqc => ?_
                · exact wpS_pure ⟨hS4, .inl ⟨_, _, rfl, ls mi4' hq⟩⟩
                refine beq_w (fun hq => ?_) fun hqd => ?_
                · exact wpS_pure ⟨hS4, .inl ⟨_, _, rfl, dn mi4' hq⟩⟩
                have mi4 := mi4'
                generalize o3 ++ ((pb.toList.drop at2).take (ib - 1 - at2)).reverse = o4 at mi4 hlen4 ⊢
                refine wpS_bind (elem_w (show ia2 - 1 < pa.size by omega) ?_)
                rw [AK_push, ent_getD]
                have mi5 := mi4.pushA hia2 sa hg2
                refine beq_w (fun hq => ?_) fun hq => ?_
                · exact wpS_pure ⟨hS4, .inl ⟨_, _, rfl, dn' mi5 hq⟩⟩
                refine ite_w (fun hq4 => ?_) fun hq4 => ?_
                · exact wpS_pure ⟨hS4, .inr ⟨_, _, _, _, _, _, rfl, mi5, by omega, by omega, by simp; omega⟩⟩
                · exact wpS_pure ⟨hS4, _, _, _, _, _, _, rfl, mi5, by omega, by omega, by simp; omega⟩
              · have e2 : at2 = ib - 1 := by omega
                subst e2
                have mi4 := mi3
                refine wpS_bind (elem_w (show ia2 - 1 < pa.size by omega) ?_)
                rw [AK_push, ent_getD]
                have mi5 := mi4.pushA hia2 sa hg2
                refine beq_w (fun hq => ?_) fun hq => ?_
                · exact wpS_pure ⟨hS4, .inl ⟨_, _, rfl, dn' mi5 hq⟩⟩
                refine ite_w (fun hq4 => ?_) fun hq4 => ?_
                · exact wpS_pure ⟨hS4, .inr ⟨_, _, _, _, _, _, rfl, mi5, by omega, by omega, by simp; omega⟩⟩
                · exact wpS_pure ⟨hS4, _, _, _, _, _, _, rfl, mi5, by omega, by omega, by simp; omega⟩
            · have e2 : at1 = ia := by omega
              rw [e2] at hg'
              have hg := hg'
              obtain ⟨o2, eo2⟩ : ∃ o2, o2 = o' := ⟨_, rfl⟩
              obtain ⟨ia2, eia2⟩ : ∃ i, i = ia := ⟨_, rfl⟩
              have mi2 := mi
              have hlen2 := hlen'
              have hia2 : 0 < ia := hia
              have za2 : ia ≤ pa.size := by omega
              clear mi2' hg'
              rw [← eo2] at mi2 hlen2 ⊢
              rw [← eia2] at mi2 hia2 hg za2 ⊢
              refine wpS_bind (elem_w (show ib - 1 < pb.size by omega) ?_)
              rw [AK_push, ent_getD]
              have mi3 := (mi2.swap.pushA (by omega) sb hg).swap
              have hlen3 : o1.length + k' + 1 ≤ (o2 ++ [pb.toList.getD (ib - 1) 0]).length := by simp; omega
              refine beq_w (fun hq => ?_) fun hqb => ?_
              · exact wpS_pure ⟨hS4, .inl ⟨_, _, rfl, ls mi3 hq⟩⟩
              refine wpS_bind (elem_w (show ia2 - 1 < pa.size by omega) (wpS_bind (gallop_w hc (hS4.1.trans hk) (ea _) eb (by omega) (by omega) (anti_t (by omega) sb) fun at2 j1 j2 j3 => ?_)))
              dsimp only
              rw [ent_getD] at j2 j3
              generalize o2 ++ [pb.toList.getD (ib - 1) 0] = o3 at mi3 hlen3 ⊢
              have mi4' := (mi3.swap.takeA sb j1 fun t h1 h2 => upp sa (by omega) fun _ => by have := byd_t.2.mp (j3 t h1 h2); rwa [Nat.zero_add] at this).swap
              have hg2 : ∀ y ∈ pb.toList.take at2, key y ≤ key (pa.toList.getD (ia2 - 1) 0) := upp sb (by omega) fun h => by have := byd_t.1.mp (j2 (at2 - 1) (by omega)); rw [Nat.zero_add] at this; exact Int.le_of_lt this
              refine ite_w (fun hk0 => ?_) fun hk0 => ?_
              · rw [AK_extR]
                have hlen4 : o1.length + k' + 1 ≤ (o3 ++ ((pb.toList.drop at2).take (ib - 1 - at2)).reverse).length := by simp; omega
                refine beq_w (fun hq => ?_) fun hqc => ?_
                · exact wpS_pure ⟨hS4, .inl ⟨_, _, rfl, ls mi4' hq⟩⟩
                refine beq_w (fun hq => ?_) fun hqd => ?_
                · exact wpS_pure ⟨hS4, .inl ⟨_, _, rfl, dn mi4' hq⟩⟩
                have mi4 := mi4'
                generalize o3 ++ ((pb.toList.drop at2).take (ib - 1 - at2)).reverse = o4 at mi4 hlen4 ⊢
                refine wpS_bind (elem_w (show ia2 - 1 < pa.size by omega) ?_)
                rw [AK_push, ent_getD]
                have mi5 := mi4.pushA hia2 sa hg2
                refine beq_w (fun hq => ?_) fun hq => ?_
                · exact wpS_pure ⟨hS4, .inl ⟨_, _, rfl, dn' mi5 hq⟩⟩
                refine ite_w (fun hq4 => ?_) fun hq4 => ?_
                · exact wpS_pure ⟨hS4, .inr ⟨_, _, _, _, _, _, rfl, mi5, by omega, by omega, by simp; omega⟩⟩
                · exact wpS_pure ⟨hS4, _, _, _, _, _, _, rfl, mi5, by omega, by omega, by simp; omega⟩
              · have e2 : at2 = ib - 1 := by omega
                subst e2
                have mi4 := mi3
                refine wpS_bind (elem_w (show ia2 - 1 < pa.size by omega) ?_)
                rw [AK_push, ent_getD]
                have mi5 := mi4.pushA hia2 sa hg2
                refine beq_w (fun hq => ?_) fun hq => ?_
                · exact wpS_pure ⟨hS4, .inl ⟨_, _, rfl, dn' mi5 hq⟩⟩
                refine ite_w (fun hq4 => ?_) fun hq4 => ?_
                · exact wpS_pure ⟨hS4, .inr ⟨_, _, _, _, _, _, rfl, mi5, by omega, by omega, by simp; omega⟩⟩
                · exact wpS_pure ⟨hS4, _, _, _, _, _, _, rfl, mi5, by omega, by omega, by simp; omega⟩
        · rintro c st3 ⟨hS, o', ia, ib, mg, ac, bc, rfl, mi, hia, hib, hlen'⟩
          exact ⟨hS, .inr ⟨_, _, _, _, _, _, rfl, mi, hia, hib, by omega⟩⟩
        · rintro c st3 ⟨hS, ⟨r, z, rfl, hr⟩ | ⟨o', ia, ib, mg, ac, bc, rfl, mi, hia, hib, hlen'⟩⟩
          · exact wpS_pure ⟨hS, r, _, rfl, hr⟩
          · dsimp only
            exact wpS_bind (setG_w hS fun st4 hS4 => wpS_pure ⟨hS4, _, _, _, _, rfl, mi, hia, hib, by omega⟩)
  · rintro c st' ⟨hS, o, ia, ib, mg, rfl, mi, hia, hib, hlen⟩
    exfalso
    have := mi.len
    omega
  · rintro c st' ⟨hS, r, z, rfl, hr⟩
    exact wpS_pure (q _ _ hS hr)
end
end L2

namespace L2
open PySem PySem.W PyProof.Rows
def Seg (key : Nat → Int) (p : Array Nat) (i j : Nat) : Prop := ∀ s t, i ≤ s → s ≤ t → t < j → kk key p s ≤ kk key p t
theorem set_fold {α : Type} (b : Nat) : ∀ (q : List α) (j : Nat) (a : Array α), b + j + q.length ≤ a.size → ∀ t, ((q.zipIdx j).foldl (fun a x => match x with | (p, j) => a.setIfInBounds (b + j) p) a)[t]? = if b + j ≤ t ∧ t < b + j + q.length then q[t - (b + j)]? else a[t]?
  | [], j, a, h, t => by
    simp only [List.zipIdx_nil, List.foldl_nil, List.length_nil]
    rw [if_neg (by omega)]
  | x :: q, j, a, h, t => by
    rw [List.zipIdx_cons, List.foldl_cons]
    simp only [List.length_cons] at h ⊢
    rw [set_fold b q (j + 1) _ (by simp; omega) t]
    by_cases h1 : b + (j + 1) ≤ t ∧ t < b + (j + 1) + q.length
    · rw [if_pos h1, if_pos (by omega), show t - (b + j) = (t - (b + (j + 1))) + 1 by omega, List.getElem?_cons_succ]
    · rw [if_neg h1]
      rw [Array.getElem?_setIfInBounds]
      by_cases h2 : b + j = t
      · subst h2
        rw [if_pos rfl, if_pos (by omega), if_pos (by omega), Nat.sub_self, List.getElem?_cons_zero]
      · rw [if_neg h2, if_neg (by omega)]
def spl (p : Array Nat) (b : Nat) (q : List Nat) (e : Nat) : Array Nat := (p.toList.take b ++ q ++ p.toList.drop e).toArray
theorem spl_get {p : Array Nat} {b e : Nat} {q : List Nat} (h1 : b + q.length = e) (h2 : e ≤ p.size) (t : Nat) : (spl p b q e)[t]? = if b ≤ t ∧ t < e then q[t - b]? else p[t]? := by
  unfold spl
  rw [List.getElem?_toArray]
  by_cases hb : t < b
  · rw [if_neg (by omega), List.append_assoc, List.getElem?_append_left (by simp; omega), List.getElem?_take_of_lt hb, Array.getElem?_toList]
  · by_cases he : t < e
    · rw [if_pos (by omega), List.append_assoc, List.getElem?_append_right (by simp; omega), List.getElem?_append_left (by simp; omega)]
      congr 1; simp; omega
    · rw [if_neg (by omega), List.getElem?_append_right (by simp; omega), List.getElem?_drop, Array.getElem?_toList]
      congr 1; simp; omega
theorem spl_getD {p : Array Nat} {b e : Nat} {q : List Nat} (h1 : b + q.length = e) (h2 : e ≤ p.size) (t : Nat) : (spl p b q e).getD t 0 = if b ≤ t ∧ t < e then q.getD (t - b) 0 else p.getD t 0 := by
  rw [Array.getD_eq_getD_getElem?, spl_get h1 h2]
  split
  · rw [List.getD_eq_getElem?_getD]
  · rw [Array.getD_eq_getD_getElem?]
theorem spl_size {p : Array Nat} {b e : Nat} {q : List Nat} (h1 : b + q.length = e) (h2 : e ≤ p.size) : (spl p b q e).size = p.size := by
  simp [spl]; omega
theorem ext_toList (p : Array Nat) (i j : Nat) : (p.extract i j).toList = (p.toList.drop i).take (j - i) := by
  rw [Array.toList_extract]
theorem spl_perm {p : Array Nat} {b m e : Nat} {q : List Nat} (h1 : b ≤ m) (hm : m ≤ e) (h2 : e ≤ p.size) (hq : q.Perm ((p.extract b m).toList ++ (p.extract m e).toList)) : (spl p b q e).Perm p := by
  rw [Array.perm_iff_toList_perm]
  unfold spl
  have e1 : p.toList = p.toList.take b ++ ((p.extract b m).toList ++ (p.extract m e).toList) ++ p.toList.drop e := by
    rw [ext_toList, ext_toList]
    have a1 : (p.toList.drop b).take (m - b) ++ (p.toList.drop m).take (e - m) = (p.toList.drop b).take (e - b) := by
      rw [show e - b = (m - b) + (e - m) by omega, List.take_add, List.drop_drop, show b + (m - b) = m by omega]
    rw [a1]
    have a2 : (p.toList.drop b).take (e - b) ++ p.toList.drop e = p.toList.drop b := by
      have := List.take_append_drop (e - b) (p.toList.drop b)
      rw [List.drop_drop, show b + (e - b) = e by omega] at this
      exact this
    rw [List.append_assoc, a2, List.take_append_drop]
  have : (p.toList.take b ++ q ++ p.toList.drop e).Perm p.toList := by
    rw [e1]
    have l1 : (p.toList.take b ++ ((p.extract b m).toList ++ (p.extract m e).toList) ++ p.toList.drop e).take b = p.toList.take b := by rw [← e1]
    have l2 : (p.toList.take b ++ ((p.extract b m).toList ++ (p.extract m e).toList) ++ p.toList.drop e).drop e = p.toList.drop e := by rw [← e1]
    rw [l1, l2]
    exact (hq.append_left _).append_right _
  exact this
theorem mem_ext {p : Array Nat} {i j x : Nat} (h : x ∈ (p.extract i j).toList) : ∃ t, i ≤ t ∧ t < j ∧ t < p.size ∧ x = p.getD t 0 := by
  rw [ext_toList] at h
  obtain ⟨k, hk, e⟩ := List.mem_iff_getElem.mp h
  have hk' : k < j - i ∧ k < p.size - i := by simp at hk; omega
  refine ⟨i + k, by omega, by omega, by omega, ?_⟩
  rw [← e, List.getElem_take, List.getElem_drop, ent_getD, List.getD_eq_getElem?_getD, List.getElem?_eq_getElem (by simp; omega)]; rfl
theorem ext_pw {key : Nat → Int} {p : Array Nat} {i j : Nat} (h : Seg key p i j) : (p.extract i j).toList.Pairwise (RK key) := by
  rw [List.pairwise_iff_getElem]
  intro s t hs ht hst
  have hj : t < j - i ∧ t < p.size - i := by rw [ext_toList] at ht; simp at ht; omega
  have e : ∀ u (hu : u < (p.extract i j).toList.length), (p.extract i j).toList[u] = p.getD (i + u) 0 := fun u hu => by
    have hu' : u < j - i ∧ u < p.size - i := by rw [ext_toList] at hu; simp at hu; omega
    have : (p.extract i j).toList[u] = ((p.toList.drop i).take (j - i))[u]'(by rw [ext_toList] at hu; exact hu) := by congr 1; exact ext_toList p i j
    rw [this, List.getElem_take, List.getElem_drop, ent_getD, List.getD_eq_getElem?_getD, List.getElem?_eq_getElem (by simp; omega)]; rfl
  rw [e s hs, e t ht]
  exact h (i + s) (i + t) (by omega) (by omega) (by omega)
theorem ext_getD {p : Array Nat} {i j u : Nat} (h : u < j - i) (hj : j ≤ p.size) : (p.extract i j).toList.getD u 0 = p.getD (i + u) 0 := by
  rw [ext_toList, List.getD_eq_getElem?_getD, List.getElem?_take_of_lt h, List.getElem?_drop, ent_getD, List.getD_eq_getElem?_getD]
theorem ent_ext {n : Nat} {p : Array Nat} (hp : Ent n p) (hn : 0 < n) (i j : Nat) : Ent n (p.extract i j) := fun k => by
  rw [ent_getD]
  by_cases h : k < (p.extract i j).toList.length
  · rw [List.getD_eq_getElem?_getD, List.getElem?_eq_getElem h]
    obtain ⟨t, _, _, _, e⟩ := mem_ext (p := p) (i := i) (j := j) (x := (p.extract i j).toList[k]) (List.getElem_mem h)
    rw [Option.getD_some, e]; exact hp t
  · rw [List.getD_eq_getElem?_getD, List.getElem?_eq_none (by omega)]; exact hn
theorem fold_spl {it : Array Keyed} {p : Array Nat} {b e : Nat} {q : List Nat} (h1 : b + q.length = e) (h2 : e ≤ p.size) : ((AK it q).toList.zipIdx 0).foldl (fun a x => match x with | (p, j) => a.setIfInBounds (b + j) p) (p.map (kas_item it)) = (spl p b q e).map (kas_item it) := by
  apply Array.ext_getElem?
  intro t
  rw [set_fold b _ 0 _ (by simp [AK]; omega) t, Array.getElem?_map, Array.getElem?_map, spl_get h1 h2]
  have l : (AK it q).toList = q.map (kas_item it) := by simp [AK]
  rw [l]
  by_cases h : b ≤ t ∧ t < e
  · rw [if_pos h, if_pos (by simp; omega), List.getElem?_map, Nat.add_zero]
  · rw [if_neg h, if_neg (by simp; omega)]
section
variable {prog : Program} {w : World} {A : Around} {E : Value → Shared → Prop} {s : Shared} {κ : SortKind} {it : Array Keyed} {n : Nat} {key : Nat → Int}
theorem anti_fS {x : Nat} {p : Array Nat} {base m : Nat} (sp : Seg key p base (base + m)) : ∀ i j, i ≤ j → j < m → byd key false x p base j = true → byd key false x p base i = true := fun i j h1 h2 h => by
  rw [byd_f.1, ← ent_getD] at h ⊢
  exact Int.le_trans (sp (base + i) (base + j) (by omega) (by omega) (by omega)) h
theorem anti_tS {x : Nat} {p : Array Nat} {base m : Nat} (sp : Seg key p base (base + m)) : ∀ i j, i ≤ j → j < m → byd key true x p base j = true → byd key true x p base i = true := fun i j h1 h2 h => by
  rw [byd_t.1, ← ent_getD] at h ⊢
  exact Int.lt_of_le_of_lt (sp (base + i) (base + j) (by omega) (by omega) (by omega)) h
def Sta (κ : SortKind) (it : Array Keyed) (st : SortSt) (p : Array Nat) (pend : Array (Nat × Nat × Nat)) : Prop := kindOf st = κ ∧ arrOf st = p.map (kas_item it) ∧ pendingOf st = pend ∧ failedOf st = none
theorem wpS_set {x : SortSt} {Q : PUnit → SortSt → Prop} {st : SortSt} (h : ∀ st1, st1 = x → Q ⟨⟩ st1) : wpS (model prog w) A E s (set x : StateT SortSt Sem PUnit) Q st := by
  unfold wpS; rw [StateT.run_set]; exact wpAny_pure ⟨rfl, h _ rfl⟩
theorem wpS_mod {f : SortSt → SortSt} {Q : PUnit → SortSt → Prop} {st : SortSt} (h : ∀ st1, st1 = f st → Q ⟨⟩ st1) : wpS (model prog w) A E s (modify f : StateT SortSt Sem PUnit) Q st := wpS_modify (h _ rfl)
theorem at_w (hc : Cmp prog w A s κ it n key) (hn : 0 < n) {i sa na pw sb nb pw2 : Nat} {p : Array Nat} {pend : Array (Nat × Nat × Nat)} {st : SortSt} {Q : Bool → SortSt → Prop} (hs : Sta κ it st p pend) (hp : Ent n p) (e1 : pend[i]? = some (sa, na, pw)) (e2 : pend[i + 1]? = some (sb, nb, pw2))
    (hsb : sb = sa + na) (hna : 0 < na) (hnb : 0 < nb) (hz : sb + nb ≤ p.size) (ha : Seg key p sa sb) (hb : Seg key p sb (sb + nb))
    (q : ∀ st' p', Sta κ it st' p' ((pend.setIfInBounds i (sa, na + nb, pw)).eraseIdxIfInBounds (i + 1)) → p'.size = p.size → p'.Perm p → (∀ t, t < sa ∨ sb + nb ≤ t → p'.getD t 0 = p.getD t 0) → Seg key p' sa (sb + nb) → Q true st') :
    wpS (model prog w) A E s (mergeAt' i) Q st := by
  obtain ⟨hk, harr, hpd, hf⟩ := hs
  unfold mergeAt'
  show wpS _ _ _ _ (_ >>= _) _ _
  try dsimp only
  refine wpS_bind (wpS_get ?_)
  have x1 : pendingOf st = pend := hpd
  have x2 : arrOf st = p.map (kas_item it) := harr
  unfold pendingOf at x1
  unfold arrOf at x2
  rw [x1, e1, e2, x2]
  dsimp only
  refine wpS_bind (wpS_set fun st1 est => ?_)
  have hS1 : Sta κ it st1 p ((pend.setIfInBounds i (sa, na + nb, pw)).eraseIdxIfInBounds (i + 1)) := by
    rw [est]; exact ⟨hk, rfl, rfl, hf⟩
  clear est
  refine wpS_bind (elem_w (show sb < p.size by omega) ?_)
  refine wpS_bind (gallop_w hc hS1.1 (hp _) hp (by omega) hna (anti_fS (by rw [← hsb]; exact ha)) fun k k1 k2 k3 => ?_)
  dsimp only
  have u1 : ∀ t, sa ≤ t → t < sa + k → kk key p t ≤ kk key p sb := fun t h1 h2 => by
    have := byd_f.1.mp (k2 (t - sa) (by omega))
    rw [← ent_getD, show sa + (t - sa) = t by omega] at this; exact this
  have u2 : ∀ t, sa + k ≤ t → t < sb → kk key p sb < kk key p t := fun t h1 h2 => by
    have := byd_f.2.mp (k3 (t - sa) (by omega) (by omega))
    rw [← ent_getD, show sa + (t - sa) = t by omega] at this; exact this
  have whole : kk key p (sb - 1) ≤ kk key p sb → Seg key p sa (sb + nb) := fun h s t h1 h2 h3 => by
    by_cases c1 : t < sb
    · exact ha s t h1 h2 c1
    · by_cases c2 : s < sb
      · exact Int.le_trans (ha s (sb - 1) h1 (by omega) (by omega)) (Int.le_trans h (hb sb t (by omega) (by omega) h3))
      · exact hb s t (by omega) h2 h3
  refine beq_w (fun hq => ?_) fun hq => ?_
  · exact wpS_pure (q st1 p hS1 rfl (Array.Perm.refl _) (fun _ _ => rfl) (whole (u1 (sb - 1) (by omega) (by omega))))
  rw [show sa + k + (na - k) - 1 = sb - 1 by omega]
  refine wpS_bind (elem_w (show sb - 1 < p.size by omega) ?_)
  refine wpS_bind (gallop_w hc hS1.1 (hp _) hp hz (by omega) (anti_tS hb) fun m m1 m2 m3 => ?_)
  dsimp only
  have v1 : ∀ t, sb ≤ t → t < sb + m → kk key p t < kk key p (sb - 1) := fun t h1 h2 => by
    have := byd_t.1.mp (m2 (t - sb) (by omega))
    rw [← ent_getD, show sb + (t - sb) = t by omega] at this; exact this
  have v2 : ∀ t, sb + m ≤ t → t < sb + nb → kk key p (sb - 1) ≤ kk key p t := fun t h1 h2 => by
    have := byd_t.2.mp (m3 (t - sb) (by omega) (by omega))
    rw [← ent_getD, show sb + (t - sb) = t by omega] at this; exact this
  refine beq_w (fun hm => ?_) fun hm => ?_
  · exact wpS_pure (q st1 p hS1 rfl (Array.Perm.refl _) (fun _ _ => rfl) (whole (v2 sb (by omega) (by omega))))
  have ex1 : (p.map (kas_item it)).extract (sa + k) sb = (p.extract (sa + k) sb).map (kas_item it) := by simp
  have ex2 : (p.map (kas_item it)).extract sb (sb + m) = (p.extract sb (sb + m)).map (kas_item it) := by simp
  rw [ex1, ex2]
  have zx : (p.extract (sa + k) sb).size = sb - (sa + k) := by simp; omega
  have zy : (p.extract sb (sb + m)).size = m := by simp; omega
  have sx : (p.extract (sa + k) sb).toList.Pairwise (RK key) := ext_pw fun s t h1 h2 h3 => ha s t (by omega) h2 h3
  have sy : (p.extract sb (sb + m)).toList.Pairwise (RK key) := ext_pw fun s t h1 h2 h3 => hb s t h1 h2 (by omega)
  have g0 : (p.extract sb (sb + m)).toList.getD 0 0 = p.getD sb 0 := ext_getD (by omega) (by omega)
  have gl : (p.extract (sa + k) sb).toList.getD ((p.extract (sa + k) sb).size - 1) 0 = p.getD (sb - 1) 0 := by
    rw [zx, ext_getD (by omega) (by omega)]; congr 1; omega
  have h0 : ∀ y ∈ (p.extract (sa + k) sb).toList, key ((p.extract sb (sb + m)).toList.getD 0 0) ≤ key y := fun y hy => by
    obtain ⟨t, t1, t2, _, rfl⟩ := mem_ext hy
    rw [g0]; exact Int.le_of_lt (u2 t t1 t2)
  have hl : ∀ y ∈ (p.extract sb (sb + m)).toList, key y ≤ key ((p.extract (sa + k) sb).toList.getD ((p.extract (sa + k) sb).size - 1) 0) := fun y hy => by
    obtain ⟨t, t1, t2, _, rfl⟩ := mem_ext hy
    rw [gl]; exact Int.le_of_lt (v1 t t1 t2)
  have ex : Ent n (p.extract (sa + k) sb) := ent_ext hp hn _ _
  have ey : Ent n (p.extract sb (sb + m)) := ent_ext hp hn _ _
  refine ite_w (fun _ => wpS_bind (lo_w hc hS1.1 ex ey sx sy (by omega) (by omega) (by
      have := h0 _ (show (p.extract (sa + k) sb).toList.getD 0 0 ∈ _ from by
        have := mem_drop_of_lt (u := (p.extract (sa + k) sb).toList) (i := 0) (t := 0) (Nat.le_refl _) (by simp only [Array.length_toList]; omega)
        simpa using this)
      exact this) hl fun r st' hSS hR => ?_)) fun _ => wpS_bind (hi_w hc hS1.1 ex ey sx sy (by omega) (by omega) h0 hl fun r st' hSS hR => ?_)
  all_goals
    obtain ⟨l, rfl, lp, ls⟩ := hR
    have ll : l.length = sb - (sa + k) + m := by rw [lp.length_eq]; simp only [List.length_append, Array.length_toList]; omega
    have le : sa + k + l.length = sb + m := by omega
    refine wpS_bind (wpS_mod fun st2 est => ?_)
    have hS2 : Sta κ it st2 (spl p (sa + k) l (sb + m)) ((pend.setIfInBounds i (sa, na + nb, pw)).eraseIdxIfInBounds (i + 1)) := by
      obtain ⟨a1, a2, a3, a4⟩ := hSS
      obtain ⟨b1, b2, b3, b4⟩ := hS1
      rw [est]
      refine ⟨a1.trans b1, ?_, a3.trans b3, a4.trans b4⟩
      have a5 := a2.trans b2
      rw [← fold_spl le (by omega), ← a5]
    clear est
    refine wpS_bind (wpS_get ?_)
    have hfin : (failedOf st2).isNone = true := by rw [hS2.2.2.2]; rfl
    have mid : ∀ t, sa + k ≤ t → t < sb + m → ∃ u, sa + k ≤ u ∧ u < sb + m ∧ (spl p (sa + k) l (sb + m)).getD t 0 = p.getD u 0 := fun t h1 h2 => by
      rw [spl_getD le (by omega), if_pos ⟨h1, h2⟩]
      have hm := mem_drop_of_lt (u := l) (i := 0) (t := t - (sa + k)) (Nat.zero_le _) (by omega)
      rw [List.drop_zero] at hm
      rcases List.mem_append.mp (lp.mem_iff.mp hm) with h | h
      · obtain ⟨u, c1, c2, _, e⟩ := mem_ext h
        exact ⟨u, c1, by omega, e⟩
      · obtain ⟨u, c1, c2, _, e⟩ := mem_ext h
        exact ⟨u, by omega, c2, e⟩
    have out : ∀ t, t < sa + k ∨ sb + m ≤ t → (spl p (sa + k) l (sb + m)).getD t 0 = p.getD t 0 := fun t h => by
      rw [spl_getD le (by omega), if_neg (by omega)]
    have res := wpS_pure (M := model prog w) (A := A) (E := E) (s := s) (a := (failedOf st2).isNone) (Q := Q) (st := st2) (by
      rw [hfin]
      refine q st2 _ hS2 (spl_size le (by omega)) (spl_perm (m := sb) (by omega) (by omega) (by omega) lp) (fun t ht => out t (by omega)) ?_
      intro s t h1 h2 h3
      unfold kk
      by_cases c1 : s < sa + k
      · rw [out s (.inl c1)]
        by_cases c2 : t < sa + k
        · rw [out t (.inl c2)]; exact ha s t h1 h2 (by omega)
        · by_cases c3 : t < sb + m
          · obtain ⟨u, d1, d2, e⟩ := mid t (by omega) c3
            rw [e]
            by_cases c4 : u < sb
            · exact ha s u h1 (by omega) c4
            · exact Int.le_trans (u1 s h1 c1) (hb sb u (by omega) (by omega) (by omega))
          · rw [out t (.inr (by omega))]
            exact Int.le_trans (u1 s h1 c1) (hb sb t (by omega) (by omega) h3)
      · by_cases c2 : s < sb + m
        · by_cases c3 : t < sb + m
          · rw [spl_getD le (by omega), spl_getD le (by omega), if_pos (by omega), if_pos (by omega)]
            exact pw_le ls (by omega) (by omega)
          · obtain ⟨u, d1, d2, e⟩ := mid s (by omega) c2
            rw [e, out t (.inr (by omega))]
            by_cases c4 : u < sb
            · exact Int.le_trans (ha u (sb - 1) (by omega) (by omega) (by omega)) (v2 t (by omega) h3)
            · exact hb u t (by omega) (by omega) h3
        · rw [out s (.inr (by omega)), out t (.inr (by omega))]
          exact hb s t (by omega) h2 h3)
    exact res
end
end L2

namespace L2
open PySem PySem.W PyProof.Rows
def Mv (p p' : Array Nat) (lo hi : Nat) : Prop := p'.size = p.size ∧ p'.Perm p ∧ ∀ t, t < lo ∨ hi ≤ t → p'.getD t 0 = p.getD t 0
theorem Mv.refl (p : Array Nat) (lo hi : Nat) : Mv p p lo hi := ⟨rfl, Array.Perm.refl _, fun _ _ => rfl⟩
theorem Mv.trans {p q r : Array Nat} {lo hi : Nat} (h : Mv p q lo hi) (k : Mv q r lo hi) : Mv p r lo hi := ⟨k.1.trans h.1, k.2.1.trans h.2.1, fun t ht => (k.2.2 t ht).trans (h.2.2 t ht)⟩
theorem Mv.rev {p q : Array Nat} {lo hi i j : Nat} (h : Mv p q lo hi) (h1 : lo ≤ i) (h2 : j ≤ hi) (h3 : hi ≤ p.size) : Mv p (kas_rev q i j) lo hi := by
  have hz := h.1
  exact h.trans ⟨rev_size _ _ _, rev_perm _ _ _, fun t ht => by rw [getD_rev (by omega), if_neg (by omega)]⟩
theorem Mv.bub {p q : Array Nat} {lo hi k d : Nat} (h : Mv p q lo hi) (h1 : lo + d ≤ k) (h2 : k < hi) (h3 : hi ≤ p.size) : Mv p (bubble q k d) lo hi := by
  have hz := h.1
  exact h.trans ⟨bubble_size _ _ _, bubble_perm _ _ _, fun t ht => by rw [getD_bub (by omega) (by omega), if_neg (by omega), if_neg (by omega)]⟩
def Sgd (key : Nat → Int) (p : Array Nat) (i j : Nat) : Prop := ∀ s t, i ≤ s → s ≤ t → t < j → kk key p t ≤ kk key p s
section
variable {key : Nat → Int} {p : Array Nat} {i j : Nat}
theorem Seg.snoc (h : Seg key p i j) (hij : i < j) (hn : kk key p (j - 1) ≤ kk key p j) : Seg key p i (j + 1) := fun s t h1 h2 h3 => by
  by_cases e : t = j
  · subst e
    by_cases e2 : s = t
    · subst e2; exact Int.le_refl _
    · exact Int.le_trans (h s (t - 1) h1 (by omega) (by omega)) hn
  · exact h s t h1 h2 (by omega)
theorem Sgd.snoc (h : Sgd key p i j) (hij : i < j) (hn : kk key p j ≤ kk key p (j - 1)) : Sgd key p i (j + 1) := fun s t h1 h2 h3 => by
  by_cases e : t = j
  · subst e
    by_cases e2 : s = t
    · subst e2; exact Int.le_refl _
    · exact Int.le_trans hn (h s (t - 1) h1 (by omega) (by omega))
  · exact h s t h1 h2 (by omega)
theorem Seg.one : Seg key p i (i + 1) := fun s t h1 h2 h3 => by
  have : s = t := by omega
  subst this; exact Int.le_refl _
theorem Sgd.congr {p' : Array Nat} (h : Sgd key p i j) (e : ∀ k, kk key p' k = kk key p k) : Sgd key p' i j := fun s t h1 h2 h3 => by rw [e, e]; exact h s t h1 h2 h3
theorem Sgd.rev (h : Sgd key p i j) (hj : j ≤ p.size) : Seg key (kas_rev p i j) i j := fun s t h1 h2 h3 => by
  unfold kk
  rw [getD_rev hj, getD_rev hj, if_pos (by omega), if_pos (by omega)]
  exact h _ _ (by omega) (by omega) (by omega)
end
section
variable {prog : Program} {w : World} {A : Around} {E : Value → Shared → Prop} {s : Shared} {κ : SortKind} {it : Array Keyed} {n : Nat} {key : Nat → Int}
theorem Sta.get {st : SortSt} {p : Array Nat} {pend : Array (Nat × Nat × Nat)} (h : Sta κ it st p pend) {i : Nat} (hi : i < p.size) : (arrOf st)[i]? = some (kas_item it (p.getD i 0)) := by
  rw [h.2.1]
  have e : p.getD i 0 = p[i] := by simp [Array.getD, hi]
  rw [e]; simp [hi]
theorem ltAt_w (hc : Cmp prog w A s κ it n key) {st : SortSt} {p : Array Nat} {pend : Array (Nat × Nat × Nat)} (hs : Sta κ it st p pend) (hp : Ent n p) {i j : Nat} (hi : i < p.size) (hj : j < p.size) {Q : Option Bool → SortSt → Prop} (q : Q (some (decide (kk key p i < kk key p j))) st) : wpS (model prog w) A E s (ltAt' i j) Q st := by
  rw [ltAt'_eq]
  refine wpS_bind (wpS_get ?_)
  dsimp only
  rw [elem'_eq, elem'_eq, hs.get hi, hs.get hj]
  exact wpS_bind (wpS_pure (wpS_bind (wpS_pure (lt_w hc hs.1 (hp _) (hp _) q))))
theorem rev_w {st : SortSt} {p : Array Nat} {pend : Array (Nat × Nat × Nat)} (hs : Sta κ it st p pend) {i j : Nat} {Q : Unit → SortSt → Prop} (q : ∀ st', Sta κ it st' (kas_rev p i j) pend → Q () st') : wpS (model prog w) A E s (reverseSlice' i j) Q st := by
  rw [reverseSlice'_eq]
  refine wpS_modify (q _ ⟨hs.1, ?_, hs.2.2.1, hs.2.2.2⟩)
  show mirror (arrOf st) i j ((j - i) / 2) = _
  rw [hs.2.1]
  exact kas_swaps_map (kas_item it) (fun k => i + k) (fun k => j - 1 - k) _ p
theorem move_w {st : SortSt} {p : Array Nat} {pend : Array (Nat × Nat × Nat)} (hs : Sta κ it st p pend) {k l : Nat} {Q : Unit → SortSt → Prop} (q : ∀ st', Sta κ it st' (bubble p k (k - l)) pend → Q () st') : wpS (model prog w) A E s (moveDown' k l) Q st := by
  rw [moveDown'_eq]
  refine wpS_modify (q _ ⟨hs.1, ?_, hs.2.2.1, hs.2.2.2⟩)
  show bubble (arrOf st) k (k - l) = _
  rw [hs.2.1]
  exact kas_swaps_map (kas_item it) (fun i => k - i) (fun i => k - i - 1) _ p
theorem Ent.mv {p p' : Array Nat} {lo hi : Nat} (h : Ent n p) (hn : 0 < n) (m : Mv p p' lo hi) : Ent n p' := h.perm m.2.1 hn
theorem count_w (hc : Cmp prog w A s κ it n key) (hn : 0 < n) {lo nrem : Nat} {p : Array Nat} {pend : Array (Nat × Nat × Nat)} {st : SortSt} {Q : Option Nat → SortSt → Prop} (hs : Sta κ it st p pend) (hp : Ent n p) (h1 : 1 ≤ nrem) (hz : lo + nrem ≤ p.size)
    (q : ∀ m p' st', Sta κ it st' p' pend → Mv p p' lo (lo + nrem) → 1 ≤ m → m ≤ nrem → Seg key p' lo (lo + m) → Q (some m) st') : wpS (model prog w) A E s (countRun' lo nrem) Q st := by
  rw [countRun'_eq]
  dsimp only
  refine wpS_bind (wpS_mono (wpS_forRange (I := fun v c st' => c = (none, v) ∧ v ≤ nrem ∧ Sta κ it st' p pend ∧ Seg key p lo (lo + v))
    (Q := fun c st' => ∃ v, c = (none, v) ∧ 1 ≤ v ∧ v ≤ nrem ∧ Sta κ it st' p pend ∧ Seg key p lo (lo + v) ∧ (v < nrem → kk key p (lo + v) < kk key p (lo + v - 1))) ?_ ?_ ⟨rfl, by omega, hs, Seg.one⟩) ?_)
  · rintro v c st' hv1 hv2 ⟨rfl, _, hs', hg⟩
    dsimp only
    refine wpS_bind (ltAt_w hc hs' hp (by omega) (by omega) ?_)
    dsimp only
    refine ite_w (fun h => ?_) fun h => ?_
    · exact wpS_pure ⟨v, rfl, hv1, by omega, hs', hg, fun _ => by simpa using h⟩
    · exact wpS_pure ⟨rfl, by omega, hs', hg.snoc (by omega) (by simpa using h)⟩
  · rintro c st' ⟨rfl, h1, hs', hg⟩
    exact ⟨_, rfl, by omega, by omega, hs', hg, fun h => by omega⟩
  · rintro c st' ⟨m, rfl, m1, m2, hs', hg, hlt⟩
    dsimp only
    refine beq_w (fun hq => ?_) fun hq => ?_
    · exact wpS_pure (q m p st' hs' (Mv.refl _ _ _) m1 m2 hg)
    have hlt' := hlt (by omega)
    refine ite_w (fun hm => ?_) fun hm => ?_
    · refine wpS_bind (ltAt_w hc hs' hp (by omega) (by omega) ?_)
      dsimp only
      refine ite_w (fun h => ?_) fun h => ?_
      · exact wpS_pure (q m p st' hs' (Mv.refl _ _ _) m1 m2 hg)
      have h' : ¬ kk key p lo < kk key p (lo + m - 1) := by simpa using h
      have same : ∀ k, lo ≤ k → k < lo + m → kk key p k = kk key p lo := fun k k1 k2 => by
        have a1 := hg lo k (Nat.le_refl _) k1 k2
        have a2 := hg k (lo + m - 1) k1 (by omega) (by omega)
        omega
      have ks := kk_rev_same (key := key) (p := p) (i := lo) (j := lo + m) (by omega) (c := kk key p lo) same
      refine wpS_bind (rev_w hs' fun st2 hs2 => ?_)
      have mvd := (Mv.refl p lo (lo + nrem)).rev (i := lo) (j := lo + m) (Nat.le_refl _) (by omega) hz
      have gdd : Sgd key (kas_rev p lo (lo + m)) lo (lo + (m + 1)) := by
        refine Sgd.congr (p := p) ?_ ks
        refine Sgd.snoc (j := lo + m) (fun s t a1 a2 a3 => ?_) (by omega) (Int.le_of_lt hlt')
        rw [same s a1 (by omega), same t (by omega) a3]; exact Int.le_refl _
      generalize kas_rev p lo (lo + m) = pd at hs2 mvd gdd
      refine wpS_bind (wpS_lift (wpAny_rule ⟨rfl, ?_⟩))
      refine wpS_bind (wpS_mono (wpS_forRange (I := fun x c st' => x ≤ nrem ∧ ∃ p' qn, c = (none, x, qn) ∧ Sta κ it st' p' pend ∧ Mv p p' lo (lo + nrem) ∧ Sgd key p' lo (lo + x) ∧ qn < x ∧ (∀ k, lo + x - 1 - qn ≤ k → k < lo + x → kk key p' k = kk key p' (lo + x - 1)))
        (Q := fun c st' => ∃ p' x qn, c = (none, x, qn) ∧ 1 ≤ x ∧ x ≤ nrem ∧ Sta κ it st' p' pend ∧ Mv p p' lo (lo + nrem) ∧ Sgd key p' lo (lo + x) ∧ qn < x ∧ (∀ k, lo + x - 1 - qn ≤ k → k < lo + x → kk key p' k = kk key p' (lo + x - 1))) ?_ ?_ ⟨by omega, pd, 0, rfl, hs2, mvd, gdd, by omega, fun k h1 h2 => congrArg (kk key pd) (by omega)⟩) ?_)
      · rintro x c st' hx1 hx2 ⟨_, p', qn, rfl, hs', mv, gd, hq, he⟩
        have z' := mv.1
        have e' := hp.mv hn mv
        dsimp only
        refine wpS_bind (ltAt_w hc hs' e' (by omega) (by omega) ?_)
        dsimp only
        refine ite_w (fun h => ?_) fun h => ?_
        · have h' : kk key p' (lo + x) < kk key p' (lo + x - 1) := by simpa using h
          refine ite_w (fun h0 => ?_) fun h0 => ?_
          · refine wpS_bind (rev_w hs' fun st2 hs2 => ?_)
            have ks := kk_rev_same (key := key) (p := p') (i := lo + x - (qn + 1)) (j := lo + x) (by omega) (c := kk key p' (lo + x - 1)) (fun k h1 h2 => he k (by omega) h2)
            refine wpS_pure ⟨by omega, _, 0, rfl, hs2, mv.rev (by omega) (by omega) hz, ?_, by omega, fun k h1 h2 => ?_⟩
            · exact Sgd.snoc (j := lo + x) (Sgd.congr gd ks) (by omega) (by rw [ks, ks]; exact Int.le_of_lt h')
            · have : k = lo + (x + 1) - 1 := by omega
              rw [this]
          · refine wpS_pure ⟨by omega, p', 0, rfl, hs', mv, gd.snoc (by omega) (Int.le_of_lt h'), by omega, fun k h1 h2 => ?_⟩
            have : k = lo + (x + 1) - 1 := by omega
            rw [this]
        · have h' : ¬ kk key p' (lo + x) < kk key p' (lo + x - 1) := by simpa using h
          refine wpS_bind (ltAt_w hc hs' e' (by omega) (by omega) ?_)
          dsimp only
          refine ite_w (fun h2 => ?_) fun h2 => ?_
          · exact wpS_pure ⟨p', x, qn, rfl, by omega, by omega, hs', mv, gd, hq, he⟩
          · have h2' : ¬ kk key p' (lo + x - 1) < kk key p' (lo + x) := by simpa using h2
            refine wpS_pure ⟨by omega, p', qn + 1, rfl, hs', mv, gd.snoc (by omega) (by omega), by omega, fun k h1 h3 => ?_⟩
            rw [show lo + (x + 1) - 1 = lo + x by omega]
            by_cases ek : k = lo + x
            · rw [ek]
            · rw [he k (by omega) (by omega)]; omega
      · rintro c st' ⟨h0, p', qn, rfl, hs', mv, gd, hq, he⟩
        exact ⟨p', _, qn, rfl, by omega, by omega, hs', mv, gd, hq, he⟩
      · rintro c st' ⟨p', x, qn, rfl, hx1, hx2, hs', mv, gd, hq, he⟩
        have z' := mv.1
        have e' := hp.mv hn mv
        dsimp only
        refine ite_w (fun h0 => ?_) fun h0 => ?_
        · have ks := kk_rev_same (key := key) (p := p') (i := lo + x - (qn + 1)) (j := lo + x) (by omega) (c := kk key p' (lo + x - 1)) (fun k h1 h2 => he k (by omega) h2)
          refine wpS_bind (rev_w hs' fun st2 hs2 => ?_)
          have mv2 := mv.rev (i := lo + x - (qn + 1)) (j := lo + x) (by omega) (by omega) hz
          have gd2 := Sgd.congr gd ks
          have z2 := mv2.1
          generalize kas_rev p' (lo + x - (qn + 1)) (lo + x) = p2 at hs2 mv2 gd2 z2
          refine wpS_bind (rev_w hs2 fun st5 hs5 => ?_)
          have mv5 := Mv.rev mv2 (Nat.le_refl lo) (show lo + x ≤ lo + nrem by omega) hz
          have z5 := mv5.1
          have e5 : Ent n (kas_rev p2 lo (lo + x)) := hp.mv hn mv5
          have g5 := Sgd.rev gd2 (show lo + x ≤ p2.size by omega)
          generalize kas_rev p2 lo (lo + x) = p5 at hs5 mv5 z5 e5 g5
          refine wpS_bind (wpS_mono (wpS_forRange (I := fun v c st' => c = (none, v) ∧ v ≤ nrem ∧ Sta κ it st' p5 pend ∧ Seg key p5 lo (lo + v))
            (Q := fun c st' => ∃ v, c = (none, v) ∧ x ≤ v ∧ v ≤ nrem ∧ Sta κ it st' p5 pend ∧ Seg key p5 lo (lo + v) ∧ (v < nrem → kk key p5 (lo + v) < kk key p5 (lo + v - 1))) ?_ ?_ ⟨rfl, by omega, hs5, g5⟩) ?_)
          · rintro v c st' hv1 hv2 ⟨rfl, _, hs', hg⟩
            dsimp only
            refine wpS_bind (ltAt_w hc hs' e5 (by omega) (by omega) ?_)
            dsimp only
            refine ite_w (fun h => ?_) fun h => ?_
            · exact wpS_pure ⟨v, rfl, hv1, by omega, hs', hg, fun _ => by simpa using h⟩
            · exact wpS_pure ⟨rfl, by omega, hs', hg.snoc (by omega) (by simpa using h)⟩
          · rintro c st' ⟨rfl, h1, hs', hg⟩
            exact ⟨_, rfl, by omega, by omega, hs', hg, fun h => by omega⟩
          · rintro c st' ⟨y, rfl, y1, y2, hs', hg, _⟩
            exact wpS_pure (q y p5 st' hs' mv5 (by omega) y2 hg)
        · skip
          refine wpS_bind (rev_w hs' fun st5 hs5 => ?_)
          have mv5 := Mv.rev mv (Nat.le_refl lo) (show lo + x ≤ lo + nrem by omega) hz
          have z5 := mv5.1
          have e5 : Ent n (kas_rev p' lo (lo + x)) := hp.mv hn mv5
          have g5 := Sgd.rev gd (show lo + x ≤ p'.size by omega)
          generalize kas_rev p' lo (lo + x) = p5 at hs5 mv5 z5 e5 g5
          refine wpS_bind (wpS_mono (wpS_forRange (I := fun v c st' => c = (none, v) ∧ v ≤ nrem ∧ Sta κ it st' p5 pend ∧ Seg key p5 lo (lo + v))
            (Q := fun c st' => ∃ v, c = (none, v) ∧ x ≤ v ∧ v ≤ nrem ∧ Sta κ it st' p5 pend ∧ Seg key p5 lo (lo + v) ∧ (v < nrem → kk key p5 (lo + v) < kk key p5 (lo + v - 1))) ?_ ?_ ⟨rfl, by omega, hs5, g5⟩) ?_)
          · rintro v c st' hv1 hv2 ⟨rfl, _, hs', hg⟩
            dsimp only
            refine wpS_bind (ltAt_w hc hs' e5 (by omega) (by omega) ?_)
            dsimp only
            refine ite_w (fun h => ?_) fun h => ?_
            · exact wpS_pure ⟨v, rfl, hv1, by omega, hs', hg, fun _ => by simpa using h⟩
            · exact wpS_pure ⟨rfl, by omega, hs', hg.snoc (by omega) (by simpa using h)⟩
          · rintro c st' ⟨rfl, h1, hs', hg⟩
            exact ⟨_, rfl, by omega, by omega, hs', hg, fun h => by omega⟩
          · rintro c st' ⟨y, rfl, y1, y2, hs', hg, _⟩
            exact wpS_pure (q y p5 st' hs' mv5 (by omega) y2 hg)
    · have em : m = 1 := by omega
      subst em
      have gdd : Sgd key p lo (lo + (1 + 1)) := Sgd.snoc (j := lo + 1) (fun s t a1 a2 a3 => by
        have : s = t := by omega
        subst this; exact Int.le_refl _) (by omega) (Int.le_of_lt hlt')
      refine wpS_bind (wpS_lift (wpAny_rule ⟨rfl, ?_⟩))
      refine wpS_bind (wpS_mono (wpS_forRange (I := fun x c st' => x ≤ nrem ∧ ∃ p' qn, c = (none, x, qn) ∧ Sta κ it st' p' pend ∧ Mv p p' lo (lo + nrem) ∧ Sgd key p' lo (lo + x) ∧ qn < x ∧ (∀ k, lo + x - 1 - qn ≤ k → k < lo + x → kk key p' k = kk key p' (lo + x - 1)))
        (Q := fun c st' => ∃ p' x qn, c = (none, x, qn) ∧ 1 ≤ x ∧ x ≤ nrem ∧ Sta κ it st' p' pend ∧ Mv p p' lo (lo + nrem) ∧ Sgd key p' lo (lo + x) ∧ qn < x ∧ (∀ k, lo + x - 1 - qn ≤ k → k < lo + x → kk key p' k = kk key p' (lo + x - 1))) ?_ ?_ ⟨by omega, p, 0, rfl, hs', Mv.refl _ _ _, gdd, by omega, fun k h1 h2 => congrArg (kk key p) (by omega)⟩) ?_)
      · rintro x c st' hx1 hx2 ⟨_, p', qn, rfl, hs', mv, gd, hq, he⟩
        have z' := mv.1
        have e' := hp.mv hn mv
        dsimp only
        refine wpS_bind (ltAt_w hc hs' e' (by omega) (by omega) ?_)
        dsimp only
        refine ite_w (fun h => ?_) fun h => ?_
        · have h' : kk key p' (lo + x) < kk key p' (lo + x - 1) := by simpa using h
          refine ite_w (fun h0 => ?_) fun h0 => ?_
          · refine wpS_bind (rev_w hs' fun st2 hs2 => ?_)
            have ks := kk_rev_same (key := key) (p := p') (i := lo + x - (qn + 1)) (j := lo + x) (by omega) (c := kk key p' (lo + x - 1)) (fun k h1 h2 => he k (by omega) h2)
            refine wpS_pure ⟨by omega, _, 0, rfl, hs2, mv.rev (by omega) (by omega) hz, ?_, by omega, fun k h1 h2 => ?_⟩
            · exact Sgd.snoc (j := lo + x) (Sgd.congr gd ks) (by omega) (by rw [ks, ks]; exact Int.le_of_lt h')
            · have : k = lo + (x + 1) - 1 := by omega
              rw [this]
          · refine wpS_pure ⟨by omega, p', 0, rfl, hs', mv, gd.snoc (by omega) (Int.le_of_lt h'), by omega, fun k h1 h2 => ?_⟩
            have : k = lo + (x + 1) - 1 := by omega
            rw [this]
        · have h' : ¬ kk key p' (lo + x) < kk key p' (lo + x - 1) := by simpa using h
          refine wpS_bind (ltAt_w hc hs' e' (by omega) (by omega) ?_)
          dsimp only
          refine ite_w (fun h2 => ?_) fun h2 => ?_
          · exact wpS_pure ⟨p', x, qn, rfl, by omega, by omega, hs', mv, gd, hq, he⟩
          · have h2' : ¬ kk key p' (lo + x - 1) < kk key p' (lo + x) := by simpa using h2
            refine wpS_pure ⟨by omega, p', qn + 1, rfl, hs', mv, gd.snoc (by omega) (by omega), by omega, fun k h1 h3 => ?_⟩
            rw [show lo + (x + 1) - 1 = lo + x by omega]
            by_cases ek : k = lo + x
            · rw [ek]
            · rw [he k (by omega) (by omega)]; omega
      · rintro c st' ⟨h0, p', qn, rfl, hs', mv, gd, hq, he⟩
        exact ⟨p', _, qn, rfl, by omega, by omega, hs', mv, gd, hq, he⟩
      · rintro c st' ⟨p', x, qn, rfl, hx1, hx2, hs', mv, gd, hq, he⟩
        have z' := mv.1
        have e' := hp.mv hn mv
        dsimp only
        refine ite_w (fun h0 => ?_) fun h0 => ?_
        · have ks := kk_rev_same (key := key) (p := p') (i := lo + x - (qn + 1)) (j := lo + x) (by omega) (c := kk key p' (lo + x - 1)) (fun k h1 h2 => he k (by omega) h2)
          refine wpS_bind (rev_w hs' fun st2 hs2 => ?_)
          have mv2 := mv.rev (i := lo + x - (qn + 1)) (j := lo + x) (by omega) (by omega) hz
          have gd2 := Sgd.congr gd ks
          have z2 := mv2.1
          generalize kas_rev p' (lo + x - (qn + 1)) (lo + x) = p2 at hs2 mv2 gd2 z2
          refine wpS_bind (rev_w hs2 fun st5 hs5 => ?_)
          have mv5 := Mv.rev mv2 (Nat.le_refl lo) (show lo + x ≤ lo + nrem by omega) hz
          have z5 := mv5.1
          have e5 : Ent n (kas_rev p2 lo (lo + x)) := hp.mv hn mv5
          have g5 := Sgd.rev gd2 (show lo + x ≤ p2.size by omega)
          generalize kas_rev p2 lo (lo + x) = p5 at hs5 mv5 z5 e5 g5
          refine wpS_bind (wpS_mono (wpS_forRange (I := fun v c st' => c = (none, v) ∧ v ≤ nrem ∧ Sta κ it st' p5 pend ∧ Seg key p5 lo (lo + v))
            (Q := fun c st' => ∃ v, c = (none, v) ∧ x ≤ v ∧ v ≤ nrem ∧ Sta κ it st' p5 pend ∧ Seg key p5 lo (lo + v) ∧ (v < nrem → kk key p5 (lo + v) < kk key p5 (lo + v - 1))) ?_ ?_ ⟨rfl, by omega, hs5, g5⟩) ?_)
          · rintro v c st' hv1 hv2 ⟨rfl, _, hs', hg⟩
            dsimp only
            refine wpS_bind (ltAt_w hc hs' e5 (by omega) (by omega) ?_)
            dsimp only
            refine ite_w (fun h => ?_) fun h => ?_
            · exact wpS_pure ⟨v, rfl, hv1, by omega, hs', hg, fun _ => by simpa using h⟩
            · exact wpS_pure ⟨rfl, by omega, hs', hg.snoc (by omega) (by simpa using h)⟩
          · rintro c st' ⟨rfl, h1, hs', hg⟩
            exact ⟨_, rfl, by omega, by omega, hs', hg, fun h => by omega⟩
          · rintro c st' ⟨y, rfl, y1, y2, hs', hg, _⟩
            exact wpS_pure (q y p5 st' hs' mv5 (by omega) y2 hg)
        · skip
          refine wpS_bind (rev_w hs' fun st5 hs5 => ?_)
          have mv5 := Mv.rev mv (Nat.le_refl lo) (show lo + x ≤ lo + nrem by omega) hz
          have z5 := mv5.1
          have e5 : Ent n (kas_rev p' lo (lo + x)) := hp.mv hn mv5
          have g5 := Sgd.rev gd (show lo + x ≤ p'.size by omega)
          generalize kas_rev p' lo (lo + x) = p5 at hs5 mv5 z5 e5 g5
          refine wpS_bind (wpS_mono (wpS_forRange (I := fun v c st' => c = (none, v) ∧ v ≤ nrem ∧ Sta κ it st' p5 pend ∧ Seg key p5 lo (lo + v))
            (Q := fun c st' => ∃ v, c = (none, v) ∧ x ≤ v ∧ v ≤ nrem ∧ Sta κ it st' p5 pend ∧ Seg key p5 lo (lo + v) ∧ (v < nrem → kk key p5 (lo + v) < kk key p5 (lo + v - 1))) ?_ ?_ ⟨rfl, by omega, hs5, g5⟩) ?_)
          · rintro v c st' hv1 hv2 ⟨rfl, _, hs', hg⟩
            dsimp only
            refine wpS_bind (ltAt_w hc hs' e5 (by omega) (by omega) ?_)
            dsimp only
            refine ite_w (fun h => ?_) fun h => ?_
            · exact wpS_pure ⟨v, rfl, hv1, by omega, hs', hg, fun _ => by simpa using h⟩
            · exact wpS_pure ⟨rfl, by omega, hs', hg.snoc (by omega) (by simpa using h)⟩
          · rintro c st' ⟨rfl, h1, hs', hg⟩
            exact ⟨_, rfl, by omega, by omega, hs', hg, fun h => by omega⟩
          · rintro c st' ⟨y, rfl, y1, y2, hs', hg, _⟩
            exact wpS_pure (q y p5 st' hs' mv5 (by omega) y2 hg)
theorem bin_w (hc : Cmp prog w A s κ it n key) (hn : 0 < n) {lo m ok : Nat} {p : Array Nat} {pend : Array (Nat × Nat × Nat)} {st : SortSt} {Q : Bool → SortSt → Prop} (hs : Sta κ it st p pend) (hp : Ent n p) (h1 : 1 ≤ ok) (hok : ok ≤ m) (hz : lo + m ≤ p.size) (hg : Seg key p lo (lo + ok))
    (q : ∀ p' st', Sta κ it st' p' pend → Mv p p' lo (lo + m) → Seg key p' lo (lo + m) → Q true st') : wpS (model prog w) A E s (binarySort' lo m ok) Q st := by
  rw [binarySort'_eq]
  dsimp only
  refine wpS_bind (wpS_mono (wpS_forRange (I := fun k c st' => k ≤ m ∧ ∃ p', c = (none, ()) ∧ Sta κ it st' p' pend ∧ Mv p p' lo (lo + m) ∧ Seg key p' lo (lo + k))
    (Q := fun c st' => ∃ p', c = (none, ()) ∧ Sta κ it st' p' pend ∧ Mv p p' lo (lo + m) ∧ Seg key p' lo (lo + m)) ?_ ?_ ⟨by omega, p, rfl, hs, Mv.refl _ _ _, by rw [show max ok 1 = ok by omega]; exact hg⟩) ?_)
  · rintro k c st' hk1 hk2 ⟨_, p', rfl, hs', mv, g⟩
    have z' := mv.1
    have e' := hp.mv hn mv
    try dsimp only
    refine wpS_bind (wpS_mono (wpS_forRange (I := fun x c st2 => st' = st2 ∧ ∃ l r, c = (none, l, r) ∧ l ≤ r ∧ r ≤ k ∧ r - l ≤ k - x ∧ (∀ i, lo ≤ i → i < lo + l → kk key p' i ≤ kk key p' (lo + k)) ∧ (∀ i, lo + r ≤ i → i < lo + k → kk key p' (lo + k) ≤ kk key p' i))
      (Q := fun c st2 => st' = st2 ∧ ∃ l r, c = (none, l, r) ∧ l ≤ r ∧ r ≤ l ∧ r ≤ k ∧ (∀ i, lo ≤ i → i < lo + l → kk key p' i ≤ kk key p' (lo + k)) ∧ (∀ i, lo + r ≤ i → i < lo + k → kk key p' (lo + k) ≤ kk key p' i)) ?_ ?_ ⟨rfl, 0, k, rfl, by omega, by omega, by omega, fun i a b => by omega, fun i a b => by omega⟩) ?_)
    · rintro x c st2 _ _ ⟨rfl, l, r, rfl, a1, a2, a3, a4, a5⟩
      dsimp only
      refine ite_w (fun h => ?_) fun h => ?_
      · exact wpS_pure ⟨rfl, l, r, rfl, a1, by omega, a2, a4, a5⟩
      refine wpS_bind (ltAt_w hc hs' e' (by omega) (by omega) ?_)
      dsimp only
      refine ite_w (fun h2 => ?_) fun h2 => ?_
      · have h2' : kk key p' (lo + k) < kk key p' (lo + (l + r) / 2) := by simpa using h2
        exact wpS_pure ⟨rfl, l, (l + r) / 2, rfl, by omega, by omega, by omega, a4, fun i b1 b2 => Int.le_trans (Int.le_of_lt h2') (g _ _ (by omega) b1 b2)⟩
      · have h2' : ¬ kk key p' (lo + k) < kk key p' (lo + (l + r) / 2) := by simpa using h2
        exact wpS_pure ⟨rfl, (l + r) / 2 + 1, r, rfl, by omega, by omega, by omega, fun i b1 b2 => Int.le_trans (g i (lo + (l + r) / 2) b1 (by omega) (by omega)) (by omega), a5⟩
    · rintro c st2 ⟨rfl, l, r, rfl, a1, a2, a3, a4, a5⟩
      exact ⟨rfl, l, r, rfl, a1, by omega, a2, a4, a5⟩
    · rintro c st2 ⟨rfl, l, r, rfl, a1, a2, a3, g2, g3⟩
      have e : l = r := by omega
      subst e
      dsimp only
      refine wpS_bind (move_w hs' fun st3 hs3 => ?_)
      have hb : ∀ i, kk key (bubble p' (lo + k) (lo + k - (lo + l))) i = if i = lo + l then kk key p' (lo + k) else if lo + l < i ∧ i ≤ lo + k then kk key p' (i - 1) else kk key p' i := fun i => by
        unfold kk
        rw [getD_bub (by omega) (by omega), show lo + k - (lo + k - (lo + l)) = lo + l by omega]
        split
        · rfl
        · split <;> rfl
      refine wpS_pure ⟨by omega, _, rfl, hs3, mv.bub (by omega) (by omega) hz, ?_⟩
      intro i j hi0 hij hj
      rw [hb, hb]
      by_cases hi1 : i = lo + l
      · rw [if_pos hi1]
        by_cases hj1 : j = lo + l
        · rw [if_pos hj1]; exact Int.le_refl _
        · rw [if_neg hj1, if_pos ⟨by omega, by omega⟩]
          exact g3 (j - 1) (by omega) (by omega)
      · rw [if_neg hi1]
        by_cases hi2 : lo + l < i ∧ i ≤ lo + k
        · rw [if_pos hi2]
          rw [if_neg (by omega), if_pos ⟨by omega, by omega⟩]
          exact g _ _ (by omega) (by omega) (by omega)
        · rw [if_neg hi2]
          have hil : i < lo + l := by omega
          by_cases hj1 : j = lo + l
          · rw [if_pos hj1]; exact g2 i hi0 hil
          · rw [if_neg hj1]
            by_cases hj2 : lo + l < j ∧ j ≤ lo + k
            · rw [if_pos hj2]; exact g _ _ (by omega) (by omega) (by omega)
            · rw [if_neg hj2]; exact g _ _ hi0 hij (by omega)
  · rintro c st' ⟨h0, p', rfl, hs', mv, g⟩
    exact ⟨p', rfl, hs', mv, by rw [show max (max ok 1) m = m by omega] at g; exact g⟩
  · rintro c st' ⟨p', rfl, hs', mv, g⟩
    exact wpS_pure (q p' st' hs' mv g)
end
end L2

namespace L2
open PySem PySem.W PyProof.Rows
def Runs (key : Nat → Int) (p : Array Nat) : List (Nat × Nat × Nat) → Nat → Nat → Prop
  | [], lo, hi => lo = hi
  | r :: l, lo, hi => r.1 = lo ∧ 0 < r.2.1 ∧ Seg key p lo (lo + r.2.1) ∧ Runs key p l (lo + r.2.1) hi
section
variable {key : Nat → Int} {p : Array Nat}
theorem Runs.len : ∀ {l : List (Nat × Nat × Nat)} {lo hi : Nat}, Runs key p l lo hi → lo + l.length ≤ hi
  | [], _, _, h => by simp [Runs] at h; simp; omega
  | r :: l, lo, hi, h => by
    have := Runs.len h.2.2.2
    have := h.2.1
    simp; omega
theorem Runs.congr {p' : Array Nat} : ∀ {l : List (Nat × Nat × Nat)} {lo hi : Nat}, Runs key p l lo hi → (∀ t, lo ≤ t → t < hi → p'.getD t 0 = p.getD t 0) → Runs key p' l lo hi
  | [], _, _, h, _ => h
  | r :: l, lo, hi, h, e => by
    have hl := h.2.2.2.len
    refine ⟨h.1, h.2.1, fun s t h1 h2 h3 => ?_, h.2.2.2.congr fun t h1 h2 => e t (by omega) h2⟩
    unfold kk
    rw [e s h1 (by omega), e t (by omega) (by omega)]
    exact h.2.2.1 s t h1 h2 h3
theorem Runs.push : ∀ {l : List (Nat × Nat × Nat)} {lo hi m pw : Nat}, Runs key p l lo hi → 0 < m → Seg key p hi (hi + m) → Runs key p (l ++ [(hi, m, pw)]) lo (hi + m)
  | [], lo, hi, m, pw, h, hm, hs => by
    simp only [Runs] at h
    subst h
    exact ⟨rfl, hm, hs, rfl⟩
  | r :: l, lo, hi, m, pw, h, hm, hs => ⟨h.1, h.2.1, h.2.2.1, h.2.2.2.push hm hs⟩
theorem Runs.modify {f : Nat × Nat × Nat → Nat × Nat × Nat} (hf : ∀ r, (f r).1 = r.1 ∧ (f r).2.1 = r.2.1) : ∀ {l : List (Nat × Nat × Nat)} {i lo hi : Nat}, Runs key p l lo hi → Runs key p (l.modify i f) lo hi
  | [], i, lo, hi, h => by cases i <;> simpa using h
  | r :: l, 0, lo, hi, h => by
    rw [List.modify_zero_cons]
    simp only [Runs] at h ⊢
    rw [(hf r).1, (hf r).2]
    exact h
  | r :: l, i + 1, lo, hi, h => by
    rw [List.modify_succ_cons]
    exact ⟨h.1, h.2.1, h.2.2.1, h.2.2.2.modify hf⟩
theorem Runs.merge : ∀ {l : List (Nat × Nat × Nat)} {i lo hi : Nat}, Runs key p l lo hi → i + 1 < l.length → ∃ sa na pw sb nb pw2, l[i]? = some (sa, na, pw) ∧ l[i + 1]? = some (sb, nb, pw2) ∧ sb = sa + na ∧ 0 < na ∧ 0 < nb ∧ lo ≤ sa ∧ sb + nb ≤ hi ∧ Seg key p sa sb ∧ Seg key p sb (sb + nb) ∧
    ∀ p' : Array Nat, (∀ t, t < sa ∨ sb + nb ≤ t → p'.getD t 0 = p.getD t 0) → Seg key p' sa (sb + nb) → Runs key p' ((l.set i (sa, na + nb, pw)).eraseIdx (i + 1)) lo hi
  | [], i, lo, hi, h, hi1 => by simp at hi1
  | [r], 0, lo, hi, h, hi1 => by simp at hi1
  | (a1, a2, a3) :: (b1, b2, b3) :: l, 0, lo, hi, h, hi1 => by
    obtain ⟨e1, e2, e3, f1, f2, f3, f4⟩ := h
    dsimp only at e1 e2 e3 f1 f2 f3 f4
    have hl := f4.len
    subst e1
    subst f1
    refine ⟨a1, a2, a3, a1 + a2, b2, b3, rfl, rfl, rfl, e2, f2, Nat.le_refl _, by omega, e3, f3, fun p' hp hs => ?_⟩
    show Runs key p' ((a1, a2 + b2, a3) :: l) a1 hi
    refine ⟨rfl, by show 0 < a2 + b2; omega, ?_, ?_⟩
    · show Seg key p' a1 (a1 + (a2 + b2))
      rw [← Nat.add_assoc]; exact hs
    · show Runs key p' l (a1 + (a2 + b2)) hi
      rw [← Nat.add_assoc]
      exact f4.congr fun t h1 h2 => hp t (.inr h1)
  | r :: l, i + 1, lo, hi, h, hi1 => by
    obtain ⟨e1, e2, e3, e4⟩ := h
    obtain ⟨sa, na, pw, sb, nb, pw2, g1, g2, g3, g4, g5, g6, g7, g8, g9, g10⟩ := e4.merge (i := i) (by simpa using hi1)
    refine ⟨sa, na, pw, sb, nb, pw2, by simpa using g1, by simpa using g2, g3, g4, g5, by omega, g7, g8, g9, fun p' hp hs => ?_⟩
    show Runs key p' (r :: ((l.set i (sa, na + nb, pw)).eraseIdx (i + 1))) lo hi
    refine ⟨e1, e2, fun s t h1 h2 h3 => ?_, g10 p' hp hs⟩
    unfold kk
    rw [hp s (.inl (by omega)), hp t (.inl (by omega))]
    exact e3 s t h1 h2 h3
theorem Runs.whole {l : List (Nat × Nat × Nat)} {hi : Nat} (h : Runs key p l 0 hi) (hl : l.length ≤ 1) : Seg key p 0 hi := by
  match l, hl with
  | [], _ => simp only [Runs] at h; subst h; intro s t h1 h2 h3; omega
  | [r], _ =>
    obtain ⟨e1, e2, e3, e4⟩ := h
    simp only [Runs] at e4
    subst e4
    exact e3
theorem pend_toList (pend : Array (Nat × Nat × Nat)) (i : Nat) (x : Nat × Nat × Nat) : ((pend.setIfInBounds i x).eraseIdxIfInBounds (i + 1)).toList = (pend.toList.set i x).eraseIdx (i + 1) := by
  simp
end
section
variable {prog : Program} {w : World} {A : Around} {E : Value → Shared → Prop} {s : Shared} {κ : SortKind} {it : Array Keyed} {n : Nat} {key : Nat → Int}
def Now (κ : SortKind) (it : Array Keyed) (key : Nat → Int) (p0 : Array Nat) (lo : Nat) (T : Array Nat) (st : SortSt) (len : Nat) : Prop := ∃ p pend, Sta κ it st p pend ∧ p.size = p0.size ∧ p.Perm p0 ∧ Runs key p pend.toList 0 lo ∧ pend.size = len ∧ ∀ t, lo ≤ t → p.getD t 0 = T.getD t 0
theorem atN_w (hc : Cmp prog w A s κ it n key) (hn : 0 < n) {p0 : Array Nat} (hp : Ent n p0) {lo len i : Nat} {T : Array Nat} {st : SortSt} {Q : Bool → SortSt → Prop} (h : Now κ it key p0 lo T st len) (hlo : lo ≤ p0.size) (hi : i + 1 < len) (q : ∀ st', Now κ it key p0 lo T st' (len - 1) → Q true st') : wpS (model prog w) A E s (mergeAt' i) Q st := by
  obtain ⟨p, pend, hs, hz, hpm, hr, hlen, ht⟩ := h
  have hl : pend.toList.length = len := by simpa using hlen
  obtain ⟨sa, na, pw, sb, nb, pw2, g1, g2, g3, g4, g5, g6, g7, g8, g9, g10⟩ := hr.merge (i := i) (by omega)
  refine at_w hc hn hs (hp.perm hpm hn) (by simpa using g1) (by simpa using g2) g3 g4 g5 (by omega) g8 g9 fun st' p' hs' z' pm' out sg => q st' ⟨p', _, hs', z'.trans hz, pm'.trans hpm, ?_, ?_, fun t h1 => (out t (.inr (by omega))).trans (ht t h1)⟩
  · rw [pend_toList]; exact g10 p' out sg
  · have : ((pend.setIfInBounds i (sa, na + nb, pw)).eraseIdxIfInBounds (i + 1)).toList.length = len - 1 := by
      rw [pend_toList, List.length_eraseIdx_of_lt (by simp; omega), List.length_set, hl]
    rw [← Array.length_toList]; exact this
theorem Now.pow {p0 T : Array Nat} {lo len i : Nat} {st st5 : SortSt} {f : Nat × Nat × Nat → Nat × Nat × Nat} (hN : Now κ it key p0 lo T st len) (e5 : st5 = setPending st ((pendingOf st).modify i f)) (hf : ∀ r, (f r).1 = r.1 ∧ (f r).2.1 = r.2.1) : ∃ len', Now κ it key p0 lo T st5 len' := by
  obtain ⟨p, pend, hs, z, pm, hr, e, t⟩ := hN
  refine ⟨_, p, pend.modify i f, ?_, z, pm, ?_, rfl, t⟩
  · rw [e5]
    refine ⟨hs.1, hs.2.1, ?_, hs.2.2.2⟩
    show (pendingOf st).modify _ _ = _
    rw [hs.2.2.1]
  · rw [Array.toList_modify]
    exact hr.modify hf
theorem ite_bd {c : Prop} [Decidable c] {a b m : Nat} (ha : a + 1 < m) (hb : b + 1 < m) : (if c then a else b) + 1 < m := by split <;> assumption
theorem runs_w (hc : Cmp prog w A s κ it n key) (hn : 0 < n) {p0 : Array Nat} (hp : Ent n p0) {st : SortSt} {Q : Unit → SortSt → Prop} (hs : Sta κ it st p0 #[])
    (q : ∀ p' st' pend, Sta κ it st' p' pend → p'.size = p0.size → p'.Perm p0 → Seg key p' 0 p0.size → Q () st') : wpS (model prog w) A E s sortRuns' Q st := by
  rw [sortRuns'_eq]
  refine wpS_bind (wpS_get ?_)
  rw [show (arrOf st).size = p0.size from by rw [hs.2.1]; simp]
  dsimp only
  refine wpS_bind (wpS_mono (wpS_forRange (I := fun k c st' => ∃ lo T len, c = (none, lo) ∧ k ≤ lo ∧ lo ≤ p0.size ∧ Now κ it key p0 lo T st' len)
    (Q := fun c st' => ∃ T len, c = (none, p0.size) ∧ Now κ it key p0 p0.size T st' len) ?_ ?_ ⟨0, p0, 0, rfl, Nat.le_refl _, Nat.zero_le _, p0, #[], hs, rfl, Array.Perm.refl _, rfl, rfl, fun _ _ => rfl⟩) ?_)
  · rintro k c st1 _ hk ⟨lo, T, len, rfl, h1, h2, p1, pend, hs1, z1, pm1, hr1, hlen, ht1⟩
    dsimp only
    refine ite_w (fun h => ?_) fun h => ?_
    · have : lo = p0.size := by omega
      subst this
      exact wpS_pure ⟨T, len, rfl, p1, pend, hs1, z1, pm1, hr1, hlen, ht1⟩
    refine wpS_bind (count_w hc hn hs1 (hp.perm pm1 hn) (by omega) (by omega) fun m p2 st2 hs2 mv2 m1 m2 sg2 => ?_)
    dsimp only
    have hr2 : Runs key p2 pend.toList 0 lo := hr1.congr fun t _ h => mv2.2.2 t (.inl h)
    have z2 : p2.size = p0.size := mv2.1.trans z1
    have pm2 : p2.Perm p0 := mv2.2.1.trans pm1
    refine ite_w (fun hmr => ?_) fun hmr => ?_
    · refine wpS_bind (wpS_lift (wpAny_rule ⟨rfl, ?_⟩))
      generalize hfc : min (p0.size - lo) (minRun' p0.size p0.size 0) = fc
      refine wpS_bind (bin_w hc hn hs2 (hp.perm pm2 hn) m1 (by omega) (by omega) sg2 fun p3 st3 hs3 mv3 sg3 => ?_)
      try dsimp only
      rw [if_neg (by simp)]
      have hr3 : Runs key p3 pend.toList 0 lo := hr2.congr fun t _ h => mv3.2.2 t (.inl h)
      have z3 : p3.size = p0.size := mv3.1.trans z2
      have pm3 : p3.Perm p0 := mv3.2.1.trans pm2
      have hm1 : 0 < fc := by omega
      have hm2 : lo + fc ≤ p0.size := by omega
      refine wpS_bind (wpS_get ?_)
      have fin : ∀ st5, Now κ it key p0 lo p3 st5 0 ∨ (∃ len', Now κ it key p0 lo p3 st5 len') → ∀ st6, st6 = setPending st5 ((pendingOf st5).push (lo, fc, 0)) → ∃ lo' T len, ((none, lo + fc) : Option Unit × Nat) = (none, lo') ∧ k + 1 ≤ lo' ∧ lo' ≤ p0.size ∧ Now κ it key p0 lo' T st6 len := fun st5 hN5 st6 e6 => by
        obtain ⟨len', p5, pend5, hs5, z5, pm5, hr5, e5, t5⟩ : ∃ len', Now κ it key p0 lo p3 st5 len' := hN5.elim (fun h => ⟨_, h⟩) id
        refine ⟨lo + fc, p5, pend5.size + 1, rfl, by omega, hm2, p5, pend5.push (lo, fc, 0), ?_, z5, pm5, ?_, by simp, fun _ _ => rfl⟩
        · rw [e6]
          refine ⟨hs5.1, hs5.2.1, ?_, hs5.2.2.2⟩
          show (pendingOf st5).push _ = _
          rw [hs5.2.2.1]
        · rw [Array.toList_push]
          refine hr5.push hm1 fun s t a1 a2 a3 => ?_
          unfold kk
          rw [t5 s a1, t5 t (by omega)]
          exact sg3 s t a1 a2 a3
      have hN : Now κ it key p0 lo p3 st3 len := ⟨p3, pend, hs3, z3, pm3, hr3, hlen, fun _ _ => rfl⟩
      cases hb : (pendingOf st3).back? with
      | none =>
        dsimp only
        exact wpS_bind (wpS_mod fun st6 e6 => wpS_pure (fin st3 (.inr ⟨_, hN⟩) st6 e6))
      | some r =>
        obtain ⟨s1, n1, pw1⟩ := r
        dsimp only
        refine wpS_bind (wpS_mono (wpS_forRange (I := fun x c st' => ∃ len, c = (none, ()) ∧ Now κ it key p0 lo p3 st' len)
          (Q := fun c st' => ∃ len, c = (none, ()) ∧ Now κ it key p0 lo p3 st' len) ?_ ?_ ⟨len, rfl, hN⟩) ?_)
        · clear hN
          rintro x c st4 _ _ ⟨len, rfl, hN⟩
          try dsimp only
          refine wpS_bind (wpS_get ?_)
          have hsz : (pendingOf st4).size = len := by
            obtain ⟨p, pend, hs, _, _, _, e, _⟩ := hN
            rw [hs.2.2.1]; exact e
          by_cases hgt : (pendingOf st4).size > 1
          · rw [if_pos hgt]
            cases hb2 : (pendingOf st4)[(pendingOf st4).size - 2]? with
            | none => exact wpS_pure ⟨len, rfl, hN⟩
            | some r2 =>
              obtain ⟨x1, x2, x3⟩ := r2
              dsimp only
              refine ite_w (fun h => ?_) fun h => ?_
              · exact wpS_pure ⟨len, rfl, hN⟩
              · refine wpS_bind (atN_w hc hn hp hN h2 (by omega) fun st5 hN5 => ?_)
                rw [if_neg (by simp)]
                exact wpS_pure ⟨_, rfl, hN5⟩
          · rw [if_neg hgt]
            exact wpS_pure ⟨len, rfl, hN⟩
        · rintro c st4 h
          exact h
        · rintro c st4 ⟨len, rfl, hN⟩
          dsimp only
          refine wpS_bind (wpS_mod fun st5 e5 => ?_)
          have hN5 := hN.pow e5 (fun r => ⟨rfl, rfl⟩)
          exact wpS_bind (wpS_mod fun st6 e6 => wpS_pure (fin st5 (.inr hN5) st6 e6))
    · have hm1 : 0 < m := by omega
      have hm2 : lo + m ≤ p0.size := by omega
      refine wpS_bind (wpS_get ?_)
      have fin : ∀ st5, Now κ it key p0 lo p2 st5 0 ∨ (∃ len', Now κ it key p0 lo p2 st5 len') → ∀ st6, st6 = setPending st5 ((pendingOf st5).push (lo, m, 0)) → ∃ lo' T len, ((none, lo + m) : Option Unit × Nat) = (none, lo') ∧ k + 1 ≤ lo' ∧ lo' ≤ p0.size ∧ Now κ it key p0 lo' T st6 len := fun st5 hN5 st6 e6 => by
        obtain ⟨len', p5, pend5, hs5, z5, pm5, hr5, e5, t5⟩ : ∃ len', Now κ it key p0 lo p2 st5 len' := hN5.elim (fun h => ⟨_, h⟩) id
        refine ⟨lo + m, p5, pend5.size + 1, rfl, by omega, hm2, p5, pend5.push (lo, m, 0), ?_, z5, pm5, ?_, by simp, fun _ _ => rfl⟩
        · rw [e6]
          refine ⟨hs5.1, hs5.2.1, ?_, hs5.2.2.2⟩
          show (pendingOf st5).push _ = _
          rw [hs5.2.2.1]
        · rw [Array.toList_push]
          refine hr5.push hm1 fun s t a1 a2 a3 => ?_
          unfold kk
          rw [t5 s a1, t5 t (by omega)]
          exact sg2 s t a1 a2 a3
      have hN : Now κ it key p0 lo p2 st2 len := ⟨p2, pend, hs2, z2, pm2, hr2, hlen, fun _ _ => rfl⟩
      cases hb : (pendingOf st2).back? with
      | none =>
        dsimp only
        exact wpS_bind (wpS_mod fun st6 e6 => wpS_pure (fin st2 (.inr ⟨_, hN⟩) st6 e6))
      | some r =>
        obtain ⟨s1, n1, pw1⟩ := r
        dsimp only
        refine wpS_bind (wpS_mono (wpS_forRange (I := fun x c st' => ∃ len, c = (none, ()) ∧ Now κ it key p0 lo p2 st' len)
          (Q := fun c st' => ∃ len, c = (none, ()) ∧ Now κ it key p0 lo p2 st' len) ?_ ?_ ⟨len, rfl, hN⟩) ?_)
        · clear hN
          rintro x c st4 _ _ ⟨len, rfl, hN⟩
          try dsimp only
          refine wpS_bind (wpS_get ?_)
          have hsz : (pendingOf st4).size = len := by
            obtain ⟨p, pend, hs, _, _, _, e, _⟩ := hN
            rw [hs.2.2.1]; exact e
          by_cases hgt : (pendingOf st4).size > 1
          · rw [if_pos hgt]
            cases hb2 : (pendingOf st4)[(pendingOf st4).size - 2]? with
            | none => exact wpS_pure ⟨len, rfl, hN⟩
            | some r2 =>
              obtain ⟨x1, x2, x3⟩ := r2
              dsimp only
              refine ite_w (fun h => ?_) fun h => ?_
              · exact wpS_pure ⟨len, rfl, hN⟩
              · refine wpS_bind (atN_w hc hn hp hN h2 (by omega) fun st5 hN5 => ?_)
                rw [if_neg (by simp)]
                exact wpS_pure ⟨_, rfl, hN5⟩
          · rw [if_neg hgt]
            exact wpS_pure ⟨len, rfl, hN⟩
        · rintro c st4 h
          exact h
        · rintro c st4 ⟨len, rfl, hN⟩
          dsimp only
          refine wpS_bind (wpS_mod fun st5 e5 => ?_)
          have hN5 := hN.pow e5 (fun r => ⟨rfl, rfl⟩)
          exact wpS_bind (wpS_mod fun st6 e6 => wpS_pure (fin st5 (.inr hN5) st6 e6))
  · rintro c st' ⟨lo, T, len, rfl, h1, h2, h⟩
    have : lo = p0.size := by omega
    subst this
    exact ⟨T, len, rfl, h⟩
  · rintro c st1 ⟨T, len, rfl, hN⟩
    dsimp only
    have hlen : len ≤ p0.size := by
      obtain ⟨p, pend, _, _, _, hr, e, _⟩ := hN
      have := hr.len
      simp at this; omega
    refine wpS_bind (wpS_mono (wpS_forRange (I := fun k c st' => ∃ len, c = (none, ()) ∧ len ≤ p0.size - k ∧ Now κ it key p0 p0.size T st' len)
      (Q := fun c st' => ∃ len, c = (none, ()) ∧ len ≤ 1 ∧ Now κ it key p0 p0.size T st' len) ?_ ?_ ⟨len, rfl, by omega, hN⟩) ?_)
    · clear hN
      rintro k c st2 _ hk ⟨len, rfl, hl, hN⟩
      try dsimp only
      refine wpS_bind (wpS_get ?_)
      have hsz : (pendingOf st2).size = len := by
        obtain ⟨p, pend, hs, _, _, _, e, _⟩ := hN
        rw [hs.2.2.1]; exact e
      refine ite_w (fun h => ?_) fun h => ?_
      · exact wpS_pure ⟨len, rfl, by omega, hN⟩
      · refine wpS_bind (atN_w hc hn hp hN (Nat.le_refl _) (ite_bd (by omega) (by omega)) fun st3 hN3 => ?_)
        rw [if_neg (by simp)]
        exact wpS_pure ⟨len - 1, rfl, by omega, hN3⟩
    · rintro c st2 ⟨len, rfl, hl, hN⟩
      exact ⟨len, rfl, by omega, hN⟩
    · rintro c st2 ⟨len, rfl, hl, p, pend, hs, hz, hpm, hr, e, _⟩
      dsimp only
      exact wpS_pure (q p st2 pend hs hz hpm (hr.whole (by simp; omega)))
end
end L2

set_option maxHeartbeats 4000000
namespace L2
open PySem PySem.W PyProof.Rows
section
variable {prog : Program} {w : World} {A : Around} {s : Shared}
theorem sorts_any {κ : SortKind} {vs : List Value} {key : Nat → Int} (h2 : 2 ≤ vs.length)
    (hk : ∀ (Q : SortKind → Shared → Prop) (E : Value → Shared → Prop), Q κ s → wpAny (model prog w) A (keyKind' vs.toArray) Q E s)
    (hlt : ∀ i j (C : Bool → Shared → Prop), i < vs.length → j < vs.length → C (decide (key i < key j)) s → wpAny (model prog w) A (keyLt' κ (vs.getD i Value.none) (vs.getD j Value.none)) C (fun _ _ => False) s) :
    Sorts prog w A s vs (OutK key vs) := by
  refine ⟨κ, hk, fun Q E hQ => ?_⟩
  have hc : Cmp prog w A s κ (vs.toArray.zip vs.toArray) vs.length key := fun i j C hi hj h => by
    rw [kat_item rfl, kat_item rfl]
    exact hlt i j C hi hj h
  have h0 : Ent vs.length (List.toArray (List.range vs.length)) := fun i => by
    rw [ent_getD]
    by_cases hi : i < vs.length
    · simp [hi]
    · rw [List.getD_eq_getElem?_getD, List.getElem?_eq_none (by simpa using hi)]; show 0 < _; omega
  have hs : Sta κ (vs.toArray.zip vs.toArray) (SortSt.mk' κ (vs.toArray.zip vs.toArray) #[] 7 none) (List.toArray (List.range vs.length)) #[] := by
    refine ⟨rfl, ?_, rfl, rfl⟩
    have e := kas_range (vs.toArray.zip vs.toArray)
    rw [show (vs.toArray.zip vs.toArray).size = vs.length by simp] at e
    exact e.symm
  have sz : (List.toArray (List.range vs.length)).size = vs.length := by simp
  have run := runs_w (E := E) (Q := fun _ st' => Q st' s) hc (by omega) h0 hs fun p' st' pend hs' z' pm' sg' => by
    have hout := kat_snds rfl hs'.2.1
    rw [sz] at z' sg'
    refine hQ st' hs'.2.2.2 (by rw [hs'.2.1, Array.size_map, z']) ⟨p'.toList, ?_, ?_, ?_⟩
    · have := pm'.toList
      simpa using this
    · rw [hout]
    · rw [List.pairwise_iff_getElem]
      intro i j hi hj hij
      have h := sg' i j (Nat.zero_le _) (by omega) (by simpa [z'] using hj)
      unfold kk at h
      have e : ∀ m (hm : m < p'.toList.length), p'.getD m 0 = p'.toList[m] := fun m hm => by
        have hm' : m < p'.size := by simpa using hm
        simp [Array.getD, hm']
      rw [e i hi, e j hj] at h
      exact h
  exact wpAny_mono run (fun r s' h => by obtain ⟨rfl, h⟩ := h; exact h) fun _ _ e => e
end
def rSortD (K : PySem.W.Frag) : List V → Hp → VK → Prop := fun vs H Q => ∃ a xs ds, vs = [.ref a] ∧ SqL K H a xs ∧ Reps K H ds xs ∧ Alike ds ∧
  ∀ l (p : List Nat), p.Perm (List.range ds.length) → p.map (fun i => ds.getD i .non) = sortD ds → H l = none → Q (.ref l) (upd H l (.lst (p.map fun i => xs.getD i .non)))
theorem Vals.pick {xs : List V} {us : List Value} (r : Vals xs us) : ∀ p : List Nat, (∀ i ∈ p, i < xs.length) → Vals (p.map fun i => xs.getD i .non) (p.map fun i => us.getD i Value.none)
  | [], _ => .nil
  | i :: p, h => by
    have hi := h i List.mem_cons_self
    obtain ⟨u, hu, ru⟩ := r.get (List.getElem?_eq_getElem hi)
    refine .cons ?_ (Vals.pick r p fun j hj => h j (List.mem_cons_of_mem _ hj))
    show RelV (xs.getD i .non) (us.getD i Value.none)
    rw [List.getD_eq_getElem?_getD, List.getElem?_eq_getElem hi, List.getD_eq_getElem?_getD, hu]
    exact ru
theorem Reps.pick {K : PySem.W.Frag} {H : Hp} {ds : List D} {xs : List V} (r : Reps K H ds xs) : ∀ p : List Nat, (∀ i ∈ p, i < ds.length) → Reps K H (p.map fun i => ds.getD i .non) (p.map fun i => xs.getD i .non)
  | [], _ => Reps.nil
  | i :: p, h => by
    have hi := h i List.mem_cons_self
    obtain ⟨u, hu, ru⟩ := r.get' (List.getElem?_eq_getElem hi)
    refine Reps.cons ?_ (Reps.pick r p fun j hj => h j (List.mem_cons_of_mem _ hj))
    show Rep K H (ds.getD i .non) (xs.getD i .non)
    rw [List.getD_eq_getElem?_getD, List.getElem?_eq_getElem hi, List.getD_eq_getElem?_getD, hu]
    exact ru
section
variable {X : Cx} {pins : List (Addr × Obj)} {σ : St} {H : Hp} {s : Shared}
theorem FV.of {t : Ty} {d : D} {x : V} {u : Value} (ht : t.ok d = true) (r : Rep X.K H d x) (q : RelV x u) : FV d u := by
  cases t <;> cases d <;> simp [Ty.ok] at ht
  · rw [r.of_str] at q; exact q
  · rw [r.of_int] at q; exact q
theorem FVs.of : ∀ {ts : List Ty} {ds : List D} {xs : List V} {us : List Value}, shOk ts ds = true → Reps X.K H ds xs → Vals xs us → FVs ds us
  | [], ds, _, _, ht, r, q => by
    cases ds <;> simp [shOk] at ht
    rw [Reps] at r; subst r; cases q; exact .nil
  | t :: ts, ds, _, _, ht, r, q => by
    cases ds with
    | nil => simp [shOk] at ht
    | cons d ds =>
      simp only [shOk, Bool.and_eq_true] at ht
      rw [Reps] at r
      obtain ⟨x, xs, rfl, r1, r2⟩ := r
      cases q with
      | cons q1 q2 => exact .cons (FV.of ht.1 r1 q1) (FVs.of ht.2 r2 q2)
def TV (h : Heap) (es : List D) (u : Value) : Prop := ∃ a o its n, u = .ref a ∧ h.get? a = some o ∧ o.cls = .type "tuple" ∧ o.data = .seq its n ∧ FVs es its.toList
theorem Inv.tv (I : Inv X pins σ H s) {ts : List Ty} {es : List D} {x : V} {u : Value} (ht : shOk ts es = true) (r : Rep X.K H (.tup es) x) (q : RelV x u) : TV s.heap es u := by
  obtain ⟨p, xs, rfl, sq, rs⟩ := r.of_tup
  cases q
  obtain ⟨its, rv, ⟨o, e, c, n, hd⟩, _⟩ := I.tuple sq
  exact ⟨p, o, its.toArray, n, rfl, e, c, hd, by simpa using FVs.of ht rs rv⟩
theorem getD_rel {ds : List D} {xs : List V} {us : List Value} (rs : Reps X.K H ds xs) (rv : Vals xs us) {i : Nat} (hi : i < us.length) : ∃ x, Rep X.K H (ds.getD i .non) x ∧ RelV x (us.getD i Value.none) ∧ ds.getD i .non ∈ ds := by
  have l1 := rs.length
  have l2 := rv.length
  obtain ⟨x, hx, r⟩ := rs.get' (List.getElem?_eq_getElem (show i < ds.length by omega))
  obtain ⟨u, hu, ru⟩ := rv.get hx
  refine ⟨x, ?_, ?_, ?_⟩
  · rw [List.getD_eq_getElem?_getD, List.getElem?_eq_getElem (show i < ds.length by omega)]; exact r
  · rw [List.getD_eq_getElem?_getD, hu]; exact ru
  · rw [List.getD_eq_getElem?_getD, List.getElem?_eq_getElem (show i < ds.length by omega)]; exact List.getElem_mem _
theorem mem_getD {us : List Value} {v : Value} (h : v ∈ us) : ∃ i, i < us.length ∧ v = us.getD i Value.none := by
  obtain ⟨i, hi, e⟩ := List.getElem_of_mem h
  exact ⟨i, hi, by rw [List.getD_eq_getElem?_getD, List.getElem?_eq_getElem hi]; exact e.symm⟩
def Ty.tv : Ty → Value
  | .s => .type "str"
  | .i => .type "int"
def CmpOk (prog : Program) (w : World) (A : Around) (s : Shared) (vs : List Value) (key : Nat → Int) : Prop :=
  ∃ κ, (∀ (Q : SortKind → Shared → Prop) (E : Value → Shared → Prop), Q κ s → wpAny (model prog w) A (keyKind' vs.toArray) Q E s) ∧
    ∀ i j (C : Bool → Shared → Prop), i < vs.length → j < vs.length → C (decide (key i < key j)) s → wpAny (model prog w) A (keyLt' κ (vs.getD i Value.none) (vs.getD j Value.none)) C (fun _ _ => False) s
theorem cmp_alike {h' : Heap} {ds : List D} {xs : List V} {us : List Value} {A' : Around} (I : Inv X pins σ H s) (rs : Reps X.K H ds xs) (rv : Vals xs us) (hal : Alike ds) (h2 : 2 ≤ us.length) (k : Keeps s.heap h') :
    CmpOk X.prog X.w A' { s with heap := h' } us (rk ds) := by
  have l1 := rs.length
  have l2 := rv.length
  have flat : ∀ (t : Ty) (T0 : Value), (∀ d u, t.ok d = true → FV d u → typeOf u = pure T0) → (T0 != Value.type "tuple") = true → (T0 == T0) = true → (∀ d ∈ ds, t.ok d = true) → CmpOk X.prog X.w A' { s with heap := h' } us (rk ds) := fun t T0 hty hT1 hT2 ht => by
    have fv : ∀ i, i < us.length → FV (ds.getD i .non) (us.getD i Value.none) ∧ t.ok (ds.getD i .non) = true := fun i hi => by
      obtain ⟨x, r, q, hm⟩ := getD_rel rs rv hi
      exact ⟨FV.of (ht _ hm) r q, ht _ hm⟩
    refine ⟨oneType', fun Q E q => kas_kind h2 (T := T0) (fun v hv => ?_) hT1 hT2 q, fun i j C hi hj hC => ?_⟩
    · obtain ⟨i, hi, rfl⟩ := mem_getD hv
      obtain ⟨f, o⟩ := fv i hi
      rw [hty _ _ o f]
      exact .now
    · obtain ⟨f1, o1⟩ := fv i hi
      obtain ⟨f2, o2⟩ := fv j hj
      rw [keyLt'_oneType]
      refine flat_lt o1 o2 f1 f2 true ?_
      rw [rk_lt (by omega)] at hC
      have e : ∀ d : D, t.ok d = true → d.ord = [d.fo] := fun d hd => by cases t <;> cases d <;> simp [Ty.ok] at hd <;> rfl
      rw [e _ o1, e _ o2] at hC
      have : decide ((ds.getD i .non).fo < (ds.getD j .non).fo) = decide ([(ds.getD i .non).fo] < [(ds.getD j .non).fo]) := by
        rw [Bool.eq_iff_iff, decide_eq_true_eq, decide_eq_true_eq]; exact (one_lt _ _).symm
      rw [this]; exact hC
  rcases hal with ht | ht | ⟨t, ts, ht⟩
  · exact flat .s (.type "str") (fun d u hd f => by cases d <;> simp [Ty.ok] at hd; obtain ⟨t, rfl⟩ := f; rfl) (by decide) (by decide) ht
  · exact flat .i (.type "int") (fun d u hd f => by cases d <;> simp [Ty.ok] at hd; obtain ⟨t, rfl⟩ := f; rfl) (by decide) (by decide) ht
  · have tv : ∀ i, i < us.length → ∃ es, ds.getD i .non = .tup es ∧ shOk (t :: ts) es = true ∧ TV h' es (us.getD i Value.none) := fun i hi => by
      obtain ⟨x, r, q, hm⟩ := getD_rel rs rv hi
      obtain ⟨es, e, ho⟩ := ht _ hm
      rw [e] at r
      obtain ⟨a, o, its, n, eu, ho', hc, hd, fv⟩ := I.tv ho r q
      exact ⟨es, e, ho, a, o, its, n, eu, k a o ho', hc, hd, fv⟩
    obtain ⟨T0, hT0, hb, hbb⟩ : ∃ T0 : Value, (T0 = t.tv) ∧ (T0 != Value.type "tuple") = true ∧ (T0 == T0) = true := ⟨t.tv, rfl, by cases t <;> decide, by cases t <;> decide⟩
    have hfs : ∀ (l : List Value), (∀ v ∈ l, ∃ es, shOk (t :: ts) es = true ∧ TV h' es v) → ∃ fs, KatTups h' l fs ∧ fs.length = l.length ∧ ∀ f ∈ fs, typeOf f = pure T0 := by
      intro l
      induction l with
      | nil => intro _; exact ⟨[], KatTups.nil, rfl, by simp⟩
      | cons v l ih =>
        intro h
        obtain ⟨fs, h1, h2, h3⟩ := ih fun u hu => h u (List.mem_cons_of_mem _ hu)
        obtain ⟨es, ho, a, o, its, n, rfl, hg, hc, hd, fv⟩ := h v List.mem_cons_self
        cases es with
        | nil => simp [shOk] at ho
        | cons d es =>
          simp only [shOk, Bool.and_eq_true] at ho
          cases hits : its.toList with
          | nil => rw [hits] at fv; cases fv
          | cons f fr =>
            rw [hits] at fv
            cases fv with
            | cons fd _ =>
              have h0 : its[0]? = some f := by
                have : its.toList[0]? = some f := by rw [hits]; rfl
                simpa using this
              refine ⟨f :: fs, KatTups.cons hg hc hd h0 h1, by simp [h2], fun g hgm => ?_⟩
              rcases List.mem_cons.mp hgm with rfl | hgm
              · cases t <;> cases d <;> simp [Ty.ok] at ho
                · obtain ⟨t', rfl⟩ := fd; rw [hT0]; rfl
                · obtain ⟨t', rfl⟩ := fd; rw [hT0]; rfl
              · exact h3 g hgm
    obtain ⟨fs, hk1, hk2, hk3⟩ := hfs us fun v hv => by
      obtain ⟨i, hi, rfl⟩ := mem_getD hv
      obtain ⟨es, _, ho, tvv⟩ := tv i hi
      exact ⟨es, ho, tvv⟩
    refine ⟨tuples' (T0 != Value.type "tuple"), fun Q E q => kat_kind (s := { s with heap := h' }) (T := T0) hk1 (by omega) (fun v hv => ?_) hbb q, fun i j C hi hj hC => ?_⟩
    · rw [hk3 v hv]; exact .now
    · obtain ⟨es, e1, o1, a, o, its, n, eu, hg, hc, hd, fv⟩ := tv i hi
      obtain ⟨es', e1', o1', a', o', its', n', eu', hg', hc', hd', fv'⟩ := tv j hj
      rw [eu, eu']
      rw [rk_lt (by omega), e1, e1'] at hC
      have sz : ∀ {ts : List Ty} {es : List D} {us : List Value}, shOk ts es = true → FVs es us → us.length = ts.length := by
        intro ts
        induction ts with
        | nil => intro es us h f; cases f with
          | nil => rfl
          | cons _ _ => simp [shOk] at h
        | cons t ts ih => intro es us h f; cases f with
          | nil => simp [shOk] at h
          | cons _ f => simp only [shOk, Bool.and_eq_true] at h; simp [ih h.2 f]
      have z1 := sz o1 fv
      have z2 := sz o1' fv'
      refine kat_lt (s := { s with heap := h' }) hg hd hg' hd' ?_
      rw [decide_eq_false (by simp at z1 z2; omega)]
      exact lex_flat 0 o1 o1' fv fv' hC
theorem sorts_alike {h' : Heap} {ds : List D} {xs : List V} {us : List Value} {A' : Around} (I : Inv X pins σ H s) (rs : Reps X.K H ds xs) (rv : Vals xs us) (hal : Alike ds) (h2 : 2 ≤ us.length) (k : Keeps s.heap h') :
    Sorts X.prog X.w A' { s with heap := h' } us (OutK (rk ds) us) := by
  obtain ⟨κ, hk, hlt⟩ := cmp_alike (A' := A') I rs rv hal h2 k
  exact sorts_any h2 hk hlt
theorem outK_short {r : Nat → Int} {us : List Value} (h : us.length < 2) : OutK r us us.toArray := by
  refine ⟨List.range us.length, List.Perm.refl _, ?_, ?_⟩
  · match us, h with
    | [], _ => rfl
    | [v], _ => rfl
  · match us, h with
    | [], _ => simp
    | [v], _ => simp
theorem call_sorted : CallR X (.builtin "sorted") (rSortD X.K) := by
  intro pins s σ H xs us Q I r h
  obtain ⟨a, vs, ds, rfl, hq, rs, hal, q⟩ := h
  obtain ⟨u, rfl, ru⟩ := vals1 r
  cases ru
  obtain ⟨its, rv, pl, hz⟩ := I.list hq
  have l1 := rs.length
  have l2 := rv.length
  refine sorted_call (OutK (rk ds) its) pl.isList (by omega) (fun h2 h' k => sorts_alike I rs rv hal h2 k) (fun h1 => ?_) fun out c h' k hc hsz hO => ?_
  · exact outK_short h1
  · obtain ⟨p, hp, ho, hs⟩ := hO
    have hmem : ∀ i ∈ p, i < its.length := fun i hi => List.mem_range.mp (hp.mem_iff.mp hi)
    have hpm : (p.map fun i => ds.getD i .non).Perm ds := by
      have h1 := hp.map (fun i => ds.getD i D.non)
      have h2 : (List.range its.length).map (fun i => ds.getD i D.non) = ds := by
        rw [← l2, ← l1]
        refine List.ext_getElem? fun i => ?_
        rw [List.getElem?_map]
        by_cases hi : i < ds.length
        · rw [List.getElem?_range hi, List.getElem?_eq_getElem hi]
          simp [List.getD_eq_getElem?_getD, hi]
        · rw [List.getElem?_eq_none (by simpa using hi), List.getElem?_eq_none (by simpa using hi)]; rfl
      rw [h2] at h1; exact h1
    have hso : (p.map fun i => ds.getD i .non).Pairwise fun a b => a.leB b = true := by
      rw [List.pairwise_map]
      refine List.Pairwise.imp_of_mem (fun {i j} hi hj h => rk_le (by have := hmem i hi; omega) (by have := hmem j hj; omega) h) hs
    have eD := sortD_eq hal hpm hso
    have hv := rv.pick p (by rw [l2]; exact hmem)
    rw [← ho] at hv
    have hplen : p.length = its.length := by rw [hp.length_eq, List.length_range]
    refine ⟨.ref (s.heap.objs.size + 1), _, I.laid (t' := s.toks) k (Nat.le_succ _) (show ObjOk X.prog X.w _ _ _ (.lst _) from ⟨by rw [List.length_map]; omega, out.toList, c, hv, by simpa [seqObj] using hc⟩), rfl, q _ p (by rw [l1, l2]; exact hp) eD (I.hok.fresh (Nat.le_succ _))⟩
end
section
variable {K : PySem.W.Frag} {G H₀ L : Hp} {ss : List Sl} {t : TE} {ds : List D}
theorem evo_sorted (a : EvL K G H₀ L ss t ds) (hal : Alike ds) : EvO K G H₀ L ss (tCB (rSortD K) (tCons t tNil)) (sortD ds) := fun F H σ Q S q =>
  a F H σ _ S fun p vs F' H' e sq r => ⟨p, vs, ds, rfl, sq, r.mono e.fh, hal, fun l pm hp hs hl => by
    have hmem : ∀ i ∈ pm, i < ds.length := fun i hi => List.mem_range.mp (hp.mem_iff.mp hi)
    have := r.pick pm hmem
    rw [hs] at this
    exact q l _ F' _ (e.newO hl) (e.hh.free hl) (e.fh.free hl) upd_same this⟩
end
end L2

set_option maxHeartbeats 2000000
namespace L2
open PySem PySem.W PySem.Spec PyProof.Rows
def cutD (xs : List D) (lo hi : Option Int) : List D := (xs.drop (HT.sIx xs.length 0 lo)).take (HT.sIx xs.length xs.length hi - HT.sIx xs.length 0 lo)
theorem Reps.cut {K : PySem.W.Frag} {H : Hp} {ds : List D} {xs : List V} (lo hi : Option Int) (h : Reps K H ds xs) : Reps K H (cutD ds lo hi) (cutV xs lo hi) := by
  unfold cutD cutV
  rw [← h.length]
  exact (h.drop _).take _
section
variable {K : PySem.W.Frag} {G H₀ L : Hp} {ss : List Sl} {t ta tb : TE} {d : D} {ds : List D}
theorem ev_lenL (a : EvL K G H₀ L ss t ds) : Ev K G H₀ L ss (tCB (fun xs H Q => ∃ p ys, xs = [.ref p] ∧ (SqL K H p ys ∨ SqT K H p ys) ∧ Q (.int ys.length) H) (tCons t tNil)) (.int ds.length) := fun F H σ Q S q =>
  a F H σ _ S fun p vs F' H' e sq r => ⟨p, vs, rfl, .inl sq, q _ _ _ e (by rw [← r.length]; exact Rep.int)⟩
theorem evo_list (a : EvL K G H₀ L ss t ds) : EvO K G H₀ L ss (tCB (fun xs H Q => ∃ p ys, xs = [.ref p] ∧ (SqL K H p ys ∨ SqT K H p ys) ∧ ∀ l, H l = none → Q (.ref l) (upd H l (.lst ys))) (tCons t tNil)) ds := fun F H σ Q S q =>
  a F H σ _ S fun p vs F' H' e sq r => ⟨p, vs, rfl, .inl sq, fun l hl => q l vs F' _ (e.newO hl) (e.hh.free hl) (e.fh.free hl) upd_same r⟩
def EvP (K : PySem.W.Frag) (G H₀ L : Hp) (ss : List Sl) (t : TO) (o : Option Int) : Prop := ∀ F H σ (Q : Option Int → Hp → Prop), Sat K G H₀ L F H σ ss → (∀ F' H', Ext F H F' H' → Q o H') → t σ H Q
theorem evp_part {i : Int} (a : EvB K G H₀ L ss t (.int i)) : EvP K G H₀ L ss (tPart t) (some i) := fun F H σ Q S q => a F H σ _ S fun v F' H' e r => ⟨i, r.of_int, q _ _ e⟩
theorem evo_slL {tl th : TO} {lo hi : Option Int} (a : EvL K G H₀ L ss t ds) (b : EvP K G H₀ L ss tl lo) (c : EvP K G H₀ L ss th hi) : EvO K G H₀ L ss (tSl (rSlL K) t tl th) (cutD ds lo hi) := fun F H σ Q S q =>
  a F H σ _ S fun p vs F1 H1 e1 sq r => b F1 H1 σ _ (S.ext2 e1) fun F2 H2 e2 => c F2 H2 σ _ ((S.ext2 e1).ext2 e2) fun F3 H3 e3 =>
    ⟨p, vs, rfl, SqL.same e3.hh (SqL.same e2.hh sq), fun l hl => q l _ F3 _ (((e1.trans e2).trans e3).newO hl) (((e1.trans e2).trans e3).hh.free hl) (((e1.trans e2).trans e3).fh.free hl) upd_same (((r.mono e2.gf).mono e3.gf).cut lo hi)⟩
end
theorem Reps.strs {K : PySem.W.Frag} {H : Hp} : ∀ {ls : List (List Nat)} {vs : List V}, Reps K H (ls.map D.str) vs → vs = (ls.map T).map V.str ∧ ∀ l ∈ ls, ∀ c ∈ l, c < 128
  | [], vs, h => by rw [List.map_nil, Reps] at h; subst h; exact ⟨rfl, by simp⟩
  | l :: ls, vs, h => by
    rw [List.map_cons, Reps] at h
    obtain ⟨x, xs, rfl, h1, h2⟩ := h
    obtain ⟨e, ha⟩ := h2.strs
    refine ⟨by rw [h1.of_str, e]; rfl, fun m hm => ?_⟩
    rcases List.mem_cons.mp hm with rfl | hm
    · exact h1.asc
    · exact ha m hm
section
variable {K : PySem.W.Frag} {G H₀ L : Hp} {ss : List Sl} {t ta tb : TE} {d : D} {ds : List D}
theorem ev_isS {l : List Nat} (a : EvB K G H₀ L ss t (.str l)) : Ev K G H₀ L ss (tCB (fun xs H Q => ∃ x, xs = [.str x, .ty "str"] ∧ Q (.bl true) H) (tCons t (tCons (tC (.ty "str")) tNil))) (.bl true) := fun F H σ Q S q =>
  a F H σ _ S fun v F1 H1 e1 r1 => ⟨T l, by rw [r1.of_str], q _ _ _ e1 Rep.bl⟩
theorem ev_isL (a : EvL K G H₀ L ss t ds) : Ev K G H₀ L ss (tCB (fun xs H Q => ∃ p ys, xs = [.ref p, .ty "list"] ∧ SqL K H p ys ∧ Q (.bl true) H) (tCons t (tCons (tC (.ty "list")) tNil))) (.bl true) := fun F H σ Q S q =>
  a F H σ _ S fun p vs F1 H1 e1 sq r1 => ⟨p, vs, rfl, sq, q _ _ _ e1 Rep.bl⟩
end
end L2

namespace L2
open PySem PySem.W PySem.Spec PyProof.Rows
def rAny (K : PySem.W.Frag) : List V → Hp → VK → Prop := fun xs H Q => ∃ p, ∃ bs : List Bool, xs = [.ref p] ∧ SqL K H p (bs.map V.bl) ∧ Q (.bl (bs.any id)) H
section
variable {X : Cx} {prog : Program} {w : World} {A : Around} {E : Value → Shared → Prop} {s : Shared}
theorem old_kept {h' : Heap} {o : Obj} {k : Nat} (hk : ∀ b x, b ∉ [s.heap.objs.size] → (s.heap.push o).get? b = some x → h'.get? b = some x) : Keeps s.heap h' := fun b x e => by
  refine hk b x (fun hm => ?_) (Heap.get?_push_of_some _ e)
  have h1 := Heap.lt_size e
  rw [List.mem_singleton.mp hm] at h1
  exact Nat.lt_irrefl _ h1
theorem vals_bl : ∀ {bs : List Bool} {us : List Value}, Vals (bs.map V.bl) us → us = bs.map Value.bool
  | [], _, .nil => rfl
  | b :: bs, _, .cons r1 r2 => by rw [vals_bl r2]; cases r1; rfl
theorem range_anyB : ∀ bs : List Bool, ((List.range bs.length).any fun i => (bs[i]?).getD false) = bs.any id := fun bs => by
  rw [Bool.eq_iff_iff, List.any_eq_true, List.any_eq_true]
  constructor
  · rintro ⟨i, hi, h⟩
    have hi' := List.mem_range.mp hi
    rw [List.getElem?_eq_getElem hi', Option.getD_some] at h
    exact ⟨_, List.getElem_mem hi', h⟩
  · rintro ⟨b, hb, h⟩
    obtain ⟨i, hi, e⟩ := List.getElem_of_mem hb
    refine ⟨i, List.mem_range.mpr hi, ?_⟩
    rw [List.getElem?_eq_getElem hi, Option.getD_some, e]; exact h
theorem call_any (hc : X.calm = true) : CallR X (.builtin "any") (rAny X.K) := by
  intro pins s σ H xs us Q I r h
  obtain ⟨p, bs, rfl, hq, q⟩ := h
  obtain ⟨u, rfl, ru⟩ := vals1 r
  cases ru
  obtain ⟨its, rv, pl, _⟩ := I.list hq
  obtain rfl := vals_bl rv
  have hl := pl.isList
  have hlt : p < s.heap.objs.size := by obtain ⟨_, e, _⟩ := hl; exact Heap.lt_size e
  refine call_any_walk (wpAny_pyIter_list hl ⟨s.heap.objs.size, [s.heap.objs.size, p], [s.heap.objs.size], (bs.map Value.bool).toArray.size, _, _, fun i => (bs[i]?).getD false, rfl,
    Walks.list (A := X.A.in1) (I.ok.hd hc) _ p (Nat.ne_of_lt hlt) _, ⟨⟨_, Heap.get?_push_size _ rfl, rfl, rfl⟩, hl.push _⟩, fun i v s' Q' E' hP hQ => ?_, fun h' tk hk => ?_⟩)
  · have hP' : (bs.map Value.bool)[i]? = some v := by simpa using hP
    rw [List.getElem?_map] at hP'
    cases hb : bs[i]? with
    | none => rw [hb] at hP'; cases hP'
    | some b =>
      rw [hb] at hP'
      cases hP'
      simp only [hb, Option.getD_some] at hQ
      exact wpAny_truthy_bool hQ
  · have e : ((List.range (bs.map Value.bool).toArray.size).any fun i => (bs[i]?).getD false) = bs.any id := by
      rw [List.size_toArray, List.length_map]; exact range_anyB bs
    rw [e]
    exact ⟨.bl _, H, I.kept (old_kept (k := 0) hk), rfl, q⟩
def two (x y : Str) (t u : Tok) : Array Value := #[.str x t, .str y u]
end
end L2

namespace L2
open PySem PySem.W PySem.Spec PyProof.Rows PySem.Calls
open PySem.MeetsSeq PySem.MeetsSeq2 PySem.MeetsSeq3
theorem FVs.len {ds : List D} {us : List Value} (h : FVs ds us) : us.length = ds.length := by
  induction h with
  | nil => rfl
  | cons _ _ ih => simp [ih]
section
variable {K : PySem.W.Frag} {G H₀ L : Hp} {ss : List Sl} {t ta tb : TE} {d : D} {ds es : List D}
theorem Reps.bools {H : Hp} : ∀ {bs : List Bool} {vs : List V}, Reps K H (bs.map D.bl) vs → vs = bs.map V.bl
  | [], vs, h => by rw [List.map_nil, Reps] at h; exact h
  | b :: bs, vs, h => by
    rw [List.map_cons, Reps] at h
    obtain ⟨x, xs, rfl, h1, h2⟩ := h
    rw [h1.of_bl, h2.bools]; rfl
theorem ev_any {bs : List Bool} (a : EvL K G H₀ L ss t (bs.map D.bl)) : Ev K G H₀ L ss (tCB (rAny K) (tCons t tNil)) (.bl (bs.any id)) := fun F H σ Q S q =>
  a F H σ _ S fun p vs F1 H1 e1 sq r1 => ⟨p, bs, rfl, by rw [r1.bools] at sq; exact sq, q _ _ _ e1 Rep.bl⟩
def minL (l m : List Nat) : List Nat := if m < l then m else l
def maxL (l m : List Nat) : List Nat := if l < m then m else l
end
end L2

namespace L2
open PySem PySem.W PySem.Spec PyProof.Rows
def slots (n : Nat) (ds : List D) : List Sl := ds.map Sl.d ++ List.replicate (n - ds.length) .un
section
variable {K : PySem.W.Frag} {H : Hp} {vs : List V} {Q : VK} {X : XK} {N : List Str} {t : TS} {pre : List D → Prop}
theorem sat_start {G : Hp} {ds : List D} (sm : Same G H) (r : Reps K G ds vs) (hN : vs.length ≤ N.length) : Sat K G H G G H (start N vs) (slots N.length ds) := by
  have hl := r.length
  have ads : ∀ (i : Nat) s, (slots N.length ds)[i]? = some s → s.ads = [] := fun i s hs => by
    have hm := List.mem_of_getElem? hs
    unfold slots at hm
    rcases List.mem_append.mp hm with h | h
    · obtain ⟨d, _, rfl⟩ := List.mem_map.mp h; rfl
    · rw [List.eq_of_mem_replicate h]; rfl
  refine ⟨Ext.refl sm, Same.refl _, ?_, fun i s hs => ?_, fun i s hs => by rw [ads i s hs]; exact List.nodup_nil, fun i j s s' _ hs _ p hp => by rw [ads i s hs] at hp; cases hp⟩
  · unfold start slots; simp; omega
  · by_cases hi : i < ds.length
    · have e : (slots N.length ds)[i]? = some (.d ds[i]) := by
        unfold slots
        rw [List.getElem?_append_left (by simpa using hi), List.getElem?_map, List.getElem?_eq_getElem hi]; rfl
      rw [e] at hs
      cases hs
      obtain ⟨v, hv, rv⟩ := r.get' (List.getElem?_eq_getElem hi)
      refine ⟨v, ?_, rv⟩
      unfold start
      rw [List.getD_eq_getElem?_getD, List.getElem?_append_left (by simp; omega), List.getElem?_map, hv]; rfl
    · have hm : s = .un := by
        unfold slots at hs
        rw [List.getElem?_append_right (by simp; omega)] at hs
        exact List.eq_of_mem_replicate (List.mem_of_getElem? hs)
      rw [hm]; trivial
theorem go_spD {res : List D → D} (h : SpD K pre res vs H Q X) (hN : vs.length ≤ N.length) (body : ∀ G ds, pre ds → RtD K G H Q (res ds) → Go K G H G { nx := fun _ H' => Q .non H', rt := Q } (slots N.length ds) t) : t { nx := fun _ H' => Q .non H', rt := Q } (start N vs) H := by
  obtain ⟨G, ds, sm, r, hp, q⟩ := h
  exact body G ds hp (fun v F H' e r => q v F H' e r) G H _ (sat_start sm r hN)
theorem spD_len {res : List D → D} {n : Nat} (hpre : ∀ ds, pre ds → ds.length = n) (h : SpD K pre res vs H Q X) : vs.length = n := by
  obtain ⟨G, ds, sm, r, hp, q⟩ := h
  rw [← r.length]; exact hpre ds hp
end
section
variable {K : PySem.W.Frag} {G H₀ L : Hp} {ss : List Sl} {t ta tb : TE} {d : D} {ds es : List D} {i j : Int}
theorem ev_mod (a : EvB K G H₀ L ss ta (.int i)) (b : EvB K G H₀ L ss tb (.int j)) (h : 0 < j) : Ev K G H₀ L ss (tOp (rI (fun _ j => 0 < j) fun i j => .int (i % j)) ta tb) (.int (i % j)) := ev_opI (C := fun _ j => 0 < j) (g := fun i j => i % j) a b h
theorem ev_mul (a : EvB K G H₀ L ss ta (.int i)) (b : EvB K G H₀ L ss tb (.int j)) (h : CMul i j) : Ev K G H₀ L ss (tOp (rI CMul fun i j => .int (i * j)) ta tb) (.int (i * j)) := ev_opI (C := CMul) (g := fun i j => i * j) a b h
theorem ev_fdiv (a : EvB K G H₀ L ss ta (.int i)) (b : EvB K G H₀ L ss tb (.int j)) (h : CDiv i j) : Ev K G H₀ L ss (tOp (rI CDiv fun i j => .int (i / j)) ta tb) (.int (i / j)) := ev_opI (C := CDiv) (g := fun i j => i / j) a b h
theorem ev_lt (a : EvB K G H₀ L ss ta (.int i)) (b : EvB K G H₀ L ss tb (.int j)) : Ev K G H₀ L ss (tOp (rI0 fun i j => .bl (decide (i < j))) ta tb) (.bl (decide (i < j))) := ev_cmpI (g := fun i j => decide (i < j)) a b
end
theorem sIx_at (n d : Nat) {a : Int} (h : 0 ≤ a) : HT.sIx n d (some a) = min a.toNat n := by
  show (if a < 0 then (a + (n : Int)).toNat else min a.toNat n) = _
  rw [if_neg (by omega)]
theorem cutD_mid (m : List D) {a b : Int} (h : 0 ≤ a) (h2 : a ≤ b) : cutD m (some a) (some b) = (m.drop a.toNat).take (b.toNat - a.toNat) := by
  unfold cutD
  rw [sIx_at _ _ h, sIx_at _ _ (by omega)]
  by_cases h3 : a.toNat ≤ m.length
  · rw [Nat.min_eq_left h3]
    by_cases h4 : b.toNat ≤ m.length
    · rw [Nat.min_eq_left h4]
    · rw [Nat.min_eq_right (by omega), List.take_of_length_le (by simp), List.take_of_length_le (by simp; omega)]
  · rw [List.drop_eq_nil_of_le (as := m) (i := a.toNat) (by omega), List.drop_eq_nil_of_le (by omega)]; simp
end L2

namespace L2
open PySem PySem.W PySem.Spec PyProof.Rows
theorem range_fm {α β : Type} (xs : List α) (z : α) (p : α → Bool) (f : α → β) : ((List.range xs.length).filter fun i => p (xs.getD i z)).map (fun i => f (xs.getD i z)) = (xs.filter p).map f := by
  have e : xs = (List.range xs.length).map fun i => xs.getD i z := by
    refine List.ext_getElem? fun i => ?_
    rw [List.getElem?_map]
    by_cases hi : i < xs.length
    · rw [List.getElem?_range hi, List.getElem?_eq_getElem hi]; simp [List.getD_eq_getElem?_getD, hi]
    · rw [List.getElem?_eq_none (by omega), List.getElem?_eq_none (by simp; omega)]; rfl
  conv => rhs; rw [e]
  rw [List.filter_map, List.map_map]
  rfl
section
variable {K : PySem.W.Frag} {G H₀ L : Hp} {ss : List Sl}
theorem evo_lcX {α : Type} (xs : List α) (enc : α → D) (p : α → Bool) (f : α → D) {tl : TE} {g : TG} {tt : TT} {te : TE} {nt : Nat} {cs : List Nat} (a : EvL K G H₀ L ss tl (xs.map enc)) (hk : GK nt g) (hc : cs.Nodup) (hz : xs.length < sizeLine)
    (hs : ∀ x ∈ xs, ∃ ss', Tg K G H₀ L g (enc x) (lcSl nt cs ss) ss' ∧ EvT K G H₀ L ss' tt (p x) ∧ (p x = true → Ev K G H₀ L ss' te (f x))) :
    EvO K G H₀ L ss (tLC nt cs (iList K tl) g tt te) ((xs.filter p).map f) := by
  cases xs with
  | nil =>
    have := evo_lcI (p := fun _ => true) (f := fun _ => .non) (tt := tt) (te := te) (evi_list a) hk hc (by simpa using hz) (fun i hi => by simp at hi)
    simpa using this
  | cons z zs =>
    have hl : ((z :: zs).map enc).length = (z :: zs).length := by simp
    have := evo_lcI (p := fun i => p ((z :: zs).getD i z)) (f := fun i => f ((z :: zs).getD i z)) (tt := tt) (te := te) (evi_list a) hk hc (by rw [hl]; exact hz) (fun i hi => by
      rw [hl] at hi
      have hm : (z :: zs).getD i z ∈ (z :: zs) := by
        rw [List.getD_eq_getElem?_getD, List.getElem?_eq_getElem hi]; exact List.getElem_mem hi
      have e : ((z :: zs).map enc).getD i .non = enc ((z :: zs).getD i z) := by
        rw [List.getD_eq_getElem?_getD, List.getElem?_map, List.getD_eq_getElem?_getD, List.getElem?_eq_getElem hi]; rfl
      rw [e]
      exact hs _ hm)
    rw [hl, range_fm] at this
    exact this
theorem evt_true : EvT K G H₀ L ss tTrue true := fun F H σ Q S q => q _ _ (Ext.refl S.ext.fh)
theorem evo_lcM {α : Type} (xs : List α) (enc : α → D) (f : α → D) {tl : TE} {g : TG} {te : TE} {nt : Nat} {cs : List Nat} (a : EvL K G H₀ L ss tl (xs.map enc)) (hk : GK nt g) (hc : cs.Nodup) (hz : xs.length < sizeLine)
    (hs : ∀ x ∈ xs, ∃ ss', Tg K G H₀ L g (enc x) (lcSl nt cs ss) ss' ∧ Ev K G H₀ L ss' te (f x)) :
    EvO K G H₀ L ss (tLC nt cs (iList K tl) g tTrue te) (xs.map f) := by
  have := evo_lcX xs enc (fun _ => true) f a hk hc hz (tt := tTrue) (te := te) fun x hx => by
    obtain ⟨ss', h1, h2⟩ := hs x hx
    exact ⟨ss', h1, evt_true, fun _ => h2⟩
  rw [show xs.filter (fun _ => true) = xs from List.filter_eq_self.mpr (by simp)] at this
  exact this
theorem ev_anyM {α : Type} {xs : List α} {g : α → Bool} {t : TE} (b : EvL K G H₀ L ss t (xs.map fun x => D.bl (g x))) : Ev K G H₀ L ss (tCB (rAny K) (tCons t tNil)) (.bl (xs.any g)) := by
  have := ev_any (K := K) (G := G) (H₀ := H₀) (L := L) (ss := ss) (t := t) (bs := xs.map g) (by rw [List.map_map]; exact b)
  rw [List.any_map] at this
  exact this
theorem ev_lit {x : Str} (ha : ∀ c ∈ x.cps.toList, c < 128) : Ev K G H₀ L ss (tC (.str x)) (.str x.cps.toList) := ev_str (by cases x; rfl) ha
end
theorem Reps.cat {K : PySem.W.Frag} {H : Hp} : ∀ {ds es : List D} {xs ys : List V}, Reps K H ds xs → Reps K H es ys → Reps K H (ds ++ es) (xs ++ ys)
  | [], es, xs, ys, h, k => by rw [Reps] at h; subst h; exact k
  | d :: ds, es, xs, ys, h, k => by
    rw [Reps] at h
    obtain ⟨x, xs', rfl, h1, h2⟩ := h
    exact Reps.cons h1 (h2.cat k)
end L2

set_option maxHeartbeats 4000000
namespace L2T
open PySem

structure TOk (t : SetTable) : Prop where
  pl : t.place.toList.Pairwise (· < ·)
  du : t.dummies.toList.Pairwise (· < ·)
  ple : ∀ j ∈ t.place.toList, j ≤ t.mask
  dle : ∀ j ∈ t.dummies.toList, j ≤ t.mask
  dis : ∀ j ∈ t.dummies.toList, j ∉ t.place.toList
  pow : ∃ k, t.mask + 1 = 2 ^ (k + 3)
  big : t.mask ≤ 8191

end L2T

namespace L2T
open PySem SetTable

def advM (mask : Nat) (p : Probe) : Probe :=
  if p.more > 0 then { p with j := p.j + 1, more := p.more - 1 } else
  let (i, perturb) := leap mask p.i p.perturb
  { p with j := i, more := runEnd mask i - i, i, perturb }
def stM (mask i perturb : Nat) : Probe := { j := i, more := runEnd mask i - i, i, perturb, dummy := none }
def prM (mask : Nat) (h : Int) : Nat → Probe
  | 0 => stM mask (bits h % (mask + 1)) (bits h)
  | n + 1 => advM mask (prM mask h n)
def posM (mask : Nat) (h : Int) (n : Nat) : Nat := (prM mask h n).j

def Reach (t : SetTable) (h : Int) (j : Nat) : Prop := ∃ n, posM t.mask h n = j ∧ ∀ m, m < n → t.slot (posM t.mask h m) ≠ .empty

end L2T

namespace L2T
open PySem SetTable

structure SOk {α : Type} (t : SetTable) (es : List (Int × α)) : Prop where
  ok : TOk t
  room : t.fill * 5 < t.mask * 3
  size : t.place.size = es.length
  reach : ∀ c ∈ t.place.toList.zip es, Reach t c.2.1 c.1

def lives (mask : Nat) (owner : Array (Option Nat)) : List (Nat × Nat) := (List.range (mask + 1)).filterMap fun j => (owner.getD j none).map (j, ·)

structure LInv (mask : Nat) (hs : List Int) (owner : Array (Option Nat)) : Prop where
  size : owner.size = mask + 1
  perm : ((lives mask owner).map (·.2)).Perm (List.range hs.length)
  reach : ∀ j i, owner.getD j none = some i → ∃ h, hs[i]? = some h ∧ ∃ n, posM mask h n = j ∧ ∀ q, q < n → owner.getD (posM mask h q) (some 0) ≠ none

end L2T

namespace L2T
open PySem SetTable

end L2T

namespace L2
open PySem PySem.Spec PyProof.Rows L2T

inductive SK where
  | one (k : Key)
  | many (ks : List Key)
  deriving DecidableEq
def SK.flat : SK → Bool
  | .one _ => true
  | .many _ => false
section
variable (prog : Program) (w : World)
def SK.is (h : Heap) : SK → Value → Prop
  | .one k, v => (mixKind prog w).is k v = true
  | .many ks, v => ∃ a, v = .ref a ∧ IsTupleKey (mixKind prog w) h ks a
def SK.hash : SK → Int
  | .one k => (mixKind prog w).hash k
  | .many ks => tupleKeyHash (mixKind prog w) ks
inductive Es (h : Heap) : List SK → List (Int × Value) → Prop
  | nil : Es h [] []
  | cons {k : SK} {e : Int × Value} {ks : List SK} {es : List (Int × Value)} : e.1 = k.hash prog w → k.is prog w h e.2 → Es h ks es → Es h (k :: ks) (e :: es)
def KeepT (h h' : Heap) : Prop := ∀ b o, o.cls = .type "tuple" → h.get? b = some o → h'.get? b = some o
def led0 : Bool := !w.params.followText "set-order"
structure SetO (h : Heap) (o : Obj) (ks : List SK) (es : Array (Int × Value)) (ep : Nat) (t : SetTable) : Prop where
  ex : o.ExactSet
  data : o.data = .set es ep t
  tab : SOk t es.toList
  ent : Es prog w h ks es.toList
  nod : ks.Nodup
  small : ks.length ≤ 1000
  led : t.led = led0 w
  kind : ∃ f, ∀ k ∈ ks, k.flat = f
def SetE (h : Heap) (a : Addr) (ks : List SK) (es : Array (Int × Value)) : Prop := ∃ o ep t, h.get? a = some o ∧ SetO prog w h o ks es ep t
end
section
variable {prog : Program} {w : World} {h h' : Heap}
theorem SK.is_mono {k : SK} {v : Value} (K : KeepT h h') (x : k.is prog w h v) : k.is prog w h' v := by
  cases k with
  | one k => exact x
  | many ks =>
    obtain ⟨a, rfl, o, its, n, e, c, d, i⟩ := x
    exact ⟨a, rfl, o, its, n, K a o c e, c, d, i⟩
theorem Es.mono {ks : List SK} {es : List (Int × Value)} (K : KeepT h h') (x : Es prog w h ks es) : Es prog w h' ks es := by
  induction x with
  | nil => exact .nil
  | cons a b _ ih => exact .cons a (SK.is_mono K b) ih
theorem Es.length {ks : List SK} {es : List (Int × Value)} (x : Es prog w h ks es) : ks.length = es.length := by
  induction x with
  | nil => rfl
  | cons a b _ ih => simp [ih]
theorem Es.get {ks : List SK} {es : List (Int × Value)} (x : Es prog w h ks es) : ∀ (i : Nat) (e : Int × Value), es[i]? = some e → ∃ k, ks[i]? = some k ∧ e.1 = k.hash prog w ∧ k.is prog w h e.2 := by
  induction x with
  | nil => intro i e he; simp at he
  | cons a b _ ih =>
    intro i e he
    cases i with
    | zero => simp at he; subst he; exact ⟨_, rfl, a, b⟩
    | succ i => exact ih i e he
theorem Es.perm {ks : List SK} {es es' : List (Int × Value)} (x : Es prog w h ks es) (p : es'.Perm es) : ∃ ks', ks'.Perm ks ∧ Es prog w h ks' es' := by
  have p' := p.symm
  clear p
  induction p' generalizing ks with
  | nil => exact ⟨ks, .refl _, x⟩
  | cons e _ ih =>
    cases x with
    | cons a b y =>
      obtain ⟨k2, q, z⟩ := ih y
      exact ⟨_ :: k2, q.cons _, .cons a b z⟩
  | swap e f l =>
    cases x with
    | cons a b y => cases y with
      | cons c d z => exact ⟨_ :: _ :: _, List.Perm.swap _ _ _, .cons c d (.cons a b z)⟩
  | trans _ _ ih1 ih2 =>
    obtain ⟨k1, q1, z1⟩ := ih1 x
    obtain ⟨k2, q2, z2⟩ := ih2 z1
    exact ⟨k2, q2.trans q1, z2⟩
theorem SetO.mono {o : Obj} {ks : List SK} {es : Array (Int × Value)} {ep : Nat} {t : SetTable} (K : KeepT h h') (S : SetO prog w h o ks es ep t) : SetO prog w h' o ks es ep t :=
  ⟨S.ex, S.data, S.tab, S.ent.mono K, S.nod, S.small, S.led, S.kind⟩
theorem SetO.same {o o' : Obj} {ks : List SK} {es es' : Array (Int × Value)} {ep ep' : Nat} {t t' : SetTable} (S : SetO prog w h o ks es ep t) (S' : SetO prog w h o' ks es' ep' t') : es.size = es'.size := by
  have a := S.ent.length
  have b := S'.ent.length
  simp at a b; omega
end
end L2

namespace L2
open PySem PySem.Spec PyProof.Rows L2T
end L2

namespace L2
open PySem PySem.Spec PyProof.Rows L2T
end L2

namespace L2
open PySem PySem.Spec PyProof.Rows L2T
end L2

namespace L2
open PySem PySem.Spec PyProof.Rows L2T
section
variable {prog : Program} {w : World} {A : Around} {E : Value → Shared → Prop} {s : Shared}
structure SetL (w : World) (o : Obj) (es : Array (Int × Value)) (ep : Nat) (t : SetTable) : Prop where
  data : o.data = .set es ep t
  tab : SOk t es.toList
  led : t.led = led0 w
def SetIt (h : Heap) (I a : Addr) (first : Value) (i n ep : Nat) : Prop := ∃ o, h.get? I = some o ∧ o.cls = .type "set_iterator" ∧ o.data = .fields #[first, .int i 0, .ref a, .int n 0, .int ep 0]
theorem SetIt.typeIs {I a : Addr} {first : Value} {i n ep : Nat} (x : SetIt s.heap I a first i n ep) : s.TypeIs (.ref I) "set_iterator" := let ⟨o, ho, hc, _⟩ := x; ⟨o, ho, hc⟩
theorem SetIt.at {h h' : Heap} {I a : Addr} {first : Value} {i n ep : Nat} (x : SetIt h I a first i n ep) (k : ∀ o, h.get? I = some o → h'.get? I = some o) : SetIt h' I a first i n ep := let ⟨o, ho, r⟩ := x; ⟨o, k o ho, r⟩
end
end L2

namespace L2
open PySem PySem.Spec PyProof.Rows L2T
end L2

namespace L2
open PySem PySem.Spec PyProof.Rows L2T
def Keeps' (h h' : Heap) : Prop := ∀ b o, h.get? b = some o → h'.get? b = some o
theorem Keeps'.T {h h' : Heap} (k : Keeps' h h') : KeepT h h' := fun b o _ e => k b o e
end L2

namespace L2
open PySem PySem.Spec PyProof.Rows L2T
section
variable {prog : Program} {w : World} {A : Around} {E : Value → Shared → Prop} {s : Shared}
structure Part (prog : Program) (w : World) (k0 : List SK) (items : Array Value) (i : Nat) (ks : List SK) (es : Array (Int × Value)) : Prop where
  mem : ∀ k, k ∈ ks ↔ ∃ j : Nat, j < i ∧ k0[j]? = some k
  len : ks.length ≤ i
  ent : ∀ e ∈ es.toList, ∃ j : Nat, items[j]? = some e.2
end
end L2

namespace L2
open PySem PySem.Spec PyProof.Rows L2T
end L2

namespace L2
open PySem PySem.Spec PyProof.Rows L2T
end L2

namespace L2
open PySem PySem.Spec PyProof.Rows L2T
section
variable {prog : Program} {w : World} {A : Around} {E : Value → Shared → Prop} {s : Shared}
theorem SetE.mono {h h' : Heap} {a : Addr} {ks : List SK} {es : Array (Int × Value)} (x : SetE prog w h a ks es) (g : ∀ o, h.get? a = some o → h'.get? a = some o) (K : KeepT h h') : SetE prog w h' a ks es :=
  let ⟨o, ep, t, ho, S⟩ := x; ⟨o, ep, t, g o ho, S.mono K⟩
theorem SetE.typeIs {a : Addr} {ks : List SK} {es : Array (Int × Value)} (x : SetE prog w s.heap a ks es) : s.TypeIs (.ref a) "set" := let ⟨o, _, _, ho, S⟩ := x; ⟨o, ho, S.ex.1⟩
structure Took (kb : List SK) (p : SK → Bool) (es0 : List (Int × Value)) (kd : List SK) (kr : List SK) (er : Array (Int × Value)) : Prop where
  mem : ∀ k, k ∈ kr ↔ k ∈ kb ∨ (k ∈ kd ∧ p k = true)
  len : kr.length ≤ kb.length + kd.length
  ent : ∀ e ∈ er.toList, e ∈ es0
end
end L2

namespace L2
open PySem PySem.Spec PyProof.Rows L2T
section
variable {prog : Program} {w : World} {A : Around} {E : Value → Shared → Prop} {s : Shared}
theorem Es.mem {h : Heap} {ks : List SK} {es : List (Int × Value)} (x : Es prog w h ks es) {e : Int × Value} (he : e ∈ es) : ∃ k ∈ ks, e.1 = k.hash prog w ∧ k.is prog w h e.2 := by
  obtain ⟨i, hi⟩ := List.mem_iff_getElem?.mp he
  obtain ⟨k, a, b, c⟩ := x.get i e hi
  exact ⟨k, List.mem_of_getElem? a, b, c⟩
end
end L2

namespace L2
open PySem PySem.Spec PyProof.Rows L2T
end L2

namespace L2
open PySem PySem.Spec PyProof.Rows L2T
end L2

namespace L2
open PySem PySem.Spec PyProof.Rows L2T
section
variable {prog : Program} {w : World} {A : Around} {E : Value → Shared → Prop} {s : Shared}
theorem Es.erase {h : Heap} {ks : List SK} {es : List (Int × Value)} (x : Es prog w h ks es) : ∀ i, Es prog w h (ks.eraseIdx i) (es.eraseIdx i) := by
  induction x with
  | nil => intro i; exact .nil
  | cons a b y ih =>
    intro i
    cases i with
    | zero => exact y
    | succ i => exact .cons a b (ih i)
end
end L2

namespace L2
open PySem PySem.Spec PyProof.Rows L2T
end L2

namespace L2
open PySem PySem.Spec PyProof.Rows L2T
end L2

namespace L2
open PySem PySem.Spec PyProof.Rows L2T
def D.kk : D → Key
  | .int i => .inl i
  | .str l => .inr (T l)
  | _ => .inl 0
def D.fl : D → Bool
  | .int _ => true
  | .str _ => true
  | _ => false
def D.hk : Bool → D → Bool
  | true, d => d.fl
  | false, .tup ds => ds.all D.fl
  | false, _ => false
section
variable {X : Cx} {pins : List (Addr × Obj)} {σ : St} {H : Hp} {s : Shared}
def Src (da : List D) (xa : List V) (db : List D) (xb : List V) (dr : List D) (xr : List V) : Prop :=
  dr.length = xr.length ∧ ∀ (i : Nat) d x, dr[i]? = some d → xr[i]? = some x → ∃ j : Nat, (da[j]? = some d ∧ xa[j]? = some x) ∨ (db[j]? = some d ∧ xb[j]? = some x)
theorem Src.reps {K : PySem.W.Frag} {F : Hp} {da db dr : List D} {xa xb xr : List V} (h : Src da xa db xb dr xr) (ra : Reps K F da xa) (rb : Reps K F db xb) : Reps K F dr xr := by
  obtain ⟨hl, h⟩ := h
  induction dr generalizing xr with
  | nil => cases xr with
    | nil => exact Reps.nil
    | cons _ _ => simp at hl
  | cons d dr ih => cases xr with
    | nil => simp at hl
    | cons x xr =>
      refine Reps.cons ?_ (ih (by simpa using hl) fun i d' x' h1 h2 => h (i + 1) d' x' h1 h2)
      obtain ⟨j, ⟨h1, h2⟩ | ⟨h1, h2⟩⟩ := h 0 d x rfl rfl
      · obtain ⟨x', e, r⟩ := ra.get' h1
        rw [h2] at e; cases e; exact r
      · obtain ⟨x', e, r⟩ := rb.get' h1
        rw [h2] at e; cases e; exact r
theorem Src.mem {da db dr : List D} {xa xb xr : List V} (h : Src da xa db xb dr xr) {d : D} (hd : d ∈ dr) : d ∈ da ∨ d ∈ db := by
  obtain ⟨i, hi⟩ := List.mem_iff_getElem?.mp hd
  have hil := (List.getElem?_eq_some_iff.mp hi).1
  obtain ⟨j, ⟨h1, _⟩ | ⟨h1, _⟩⟩ := h.2 i d (xr[i]'(by have := h.1; omega)) hi (List.getElem?_eq_getElem _)
  · exact .inl (List.mem_of_getElem? h1)
  · exact .inr (List.mem_of_getElem? h1)
end
end L2

namespace L2
open PySem PySem.Spec PyProof.Rows L2T
end L2

namespace L2
open PySem PySem.W PyProof.Rows L2T
end L2

namespace L2
open PySem PySem.W PyProof.Rows L2T
theorem Alike.perm {ds es : List D} (h : Alike ds) (p : es.Perm ds) : Alike es := by
  rcases h with h | h | ⟨t, ts, h⟩
  · exact .inl fun d hd => h d (p.mem_iff.mp hd)
  · exact .inr (.inl fun d hd => h d (p.mem_iff.mp hd))
  · exact .inr (.inr ⟨t, ts, fun d hd => h d (p.mem_iff.mp hd)⟩)
theorem sortD_congr {ds es : List D} (h : Alike ds) (p : es.Perm ds) : sortD es = sortD ds := sortD_eq h ((sortD_perm es).trans p) (sortD_sorted es)
theorem Src.refl {ds : List D} {xs : List V} (h : ds.length = xs.length) : Src ds xs [] [] ds xs := ⟨h, fun i d x h1 h2 => ⟨i, .inl ⟨h1, h2⟩⟩⟩
end L2

namespace L2
open PySem PySem.W PyProof.Rows L2T
def ded : List D → List D
  | [] => []
  | d :: ds => if d ∈ ds then ded ds else d :: ded ds
theorem ded_mem {d : D} : ∀ {ds : List D}, d ∈ ded ds ↔ d ∈ ds
  | [] => Iff.rfl
  | e :: ds => by
    unfold ded
    split
    · rw [ded_mem, List.mem_cons]
      exact ⟨.inr, fun h => h.elim (fun z => z ▸ by assumption) id⟩
    · rw [List.mem_cons, List.mem_cons, ded_mem]
theorem ded_nodup : ∀ ds : List D, (ded ds).Nodup
  | [] => List.nodup_nil
  | e :: ds => by
    unfold ded
    split
    · exact ded_nodup ds
    · rw [List.nodup_cons, ded_mem]; exact ⟨by assumption, ded_nodup ds⟩
theorem ded_len : ∀ ds : List D, (ded ds).length ≤ ds.length
  | [] => Nat.le_refl _
  | e :: ds => by
    have := ded_len ds
    unfold ded
    split <;> simp <;> omega
end L2

namespace L2
open PySem PySem.W PyProof.Rows L2T
def rCatD (K : PySem.W.Frag) : R2 := fun x y H Q => ∃ l b xs zs, x = .ref l ∧ y = .ref b ∧ SqL K H l xs ∧ SqL K H b zs ∧ xs.length + zs.length ≤ sizeLine ∧ ∀ p, H p = none → Q (.ref p) (upd H p (.lst (xs ++ zs)))
theorem op_catD {X : Cx} : OpR X (binaryOp .Add) (rCatD X.K) := by
  intro pins s σ H x y v u Q I rx ry h
  obtain ⟨l, b, xs, zs, rfl, rfl, hl, hb, hz, q⟩ := h
  cases rx
  cases ry
  obtain ⟨its, r, pl, _⟩ := I.list hl
  obtain ⟨its2, r2, pl2, _⟩ := I.list hb
  have z1 := r.length
  have z2 := r2.length
  obtain ⟨⟨cls, dd, data, sl⟩, ho, hc, n, hd⟩ := pl.isList
  obtain ⟨⟨cls2, dd2, data2, sl2⟩, ho2, hc2, n2, hd2⟩ := pl2.isList
  dsimp only at hc hd hc2 hd2
  subst hc; subst hd; subst hc2; subst hd2
  refine concat_meets ⟨_, ho, rfl⟩ ⟨_, ho2, rfl⟩ noFill_list_add seq_list_add PySem.F.slot_list_add PySem.F.entry_list_add (PySem.F.args_list_add_2 _ _) (list_addW l b its.toArray its2.toArray n n2 dd dd2 sl sl2 (by simp; omega)) ⟨ho, ho2, ?_⟩
  have ea : its.toArray ++ its2.toArray = (its ++ its2).toArray := by simp
  rw [ea]
  exact ⟨.ref _, _, I.lnew (t' := s.toks) (r.append r2) (by rw [List.length_append]; omega), rfl, q _ I.fresh⟩
section
variable {K : PySem.W.Frag} {G H₀ L : Hp} {ss : List Sl} {ta tb : TE} {da db : List D}
theorem evo_cat (a : EvL K G H₀ L ss ta da) (b : EvL K G H₀ L ss tb db) (hz : da.length + db.length ≤ sizeLine) : EvO K G H₀ L ss (tOp (rCatD K) ta tb) (da ++ db) := fun F H σ Q S q =>
  a F H σ _ S fun p vs F1 H1 e1 sq1 r1 => b F1 H1 σ _ (S.ext2 e1) fun p2 vs2 F2 H2 e2 sq2 r2 => by
    have l1 := r1.length
    have l2 := r2.length
    refine ⟨p, p2, vs, vs2, rfl, rfl, SqL.same e2.hh sq1, sq2, by omega, fun l hl => ?_⟩
    have e12 := e1.trans e2
    exact q l _ F2 _ (e12.newO hl) (e12.hh.free hl) (e12.fh.free hl) upd_same ((r1.mono e2.gf).append r2)
end
end L2

namespace L2
open PySem PySem.W PyProof.Rows L2T
end L2

namespace L2
open PySem PySem.W PyProof.Rows L2T
end L2

namespace L2
open PySem PySem.W PyProof.Rows L2T
end L2

namespace L2
open PySem PySem.W PySem.Spec PyProof.Rows
def SpR (K : PySem.W.Frag) (pre : List D → Prop) (R : List D → List D → Prop) : Sp := fun vs H Q _ => ∃ G ds, Same G H ∧ Reps K G ds vs ∧ pre ds ∧ ∀ rs, R ds rs → ∀ p ws G' H', Ext G H G' H' → H p = none → G' p = none → H' p = some (.lst ws) → Reps K G' rs ws → Q (.ref p) H'
section
variable {K : PySem.W.Frag} {H : Hp} {vs : List V} {Q : VK} {X : XK} {N : List Str} {t : TS} {pre : List D → Prop} {R : List D → List D → Prop}
theorem go_spR (h : SpR K pre R vs H Q X) (hN : vs.length ≤ N.length) (body : ∀ G ds, pre ds → (∀ rs, R ds rs → RtO K G H Q rs) → Go K G H G { nx := fun _ H' => Q .non H', rt := Q } (slots N.length ds) t) : t { nx := fun _ H' => Q .non H', rt := Q } (start N vs) H := by
  obtain ⟨G, ds, sm, r, hp, q⟩ := h
  exact body G ds hp (fun rs hR p ws F H' e h1 h2 h3 r => q rs hR p ws F H' e h1 h2 h3 r) G H _ (sat_start sm r hN)
theorem spR_len {n : Nat} (hpre : ∀ ds, pre ds → ds.length = n) (h : SpR K pre R vs H Q X) : vs.length = n := by
  obtain ⟨G, ds, sm, r, hp, q⟩ := h
  rw [← r.length]; exact hpre ds hp
end
section
variable {K : PySem.W.Frag} {G H₀ L : Hp} {ss : List Sl} {t : TA} {ds : List D} {pre : List D → Prop} {R : List D → List D → Prop} {E : XK} {D0 : Ends}
theorem go_setR {i : Nat} (a : EvAF K G H₀ L ss t ds) (hp : pre ds) (h : ∀ rs, R ds rs → ∀ p, Nx K G H₀ L D0.nx (ss.set i (.o p rs))) : Go K G H₀ L D0 ss (tAsg (tCall (SpR K pre R) [] E t) (gName i)) := fun F H σ S =>
  a F H σ _ S fun vs F1 H1 e1 r1 => ⟨F1, ds, e1.fh, by rw [List.append_nil]; exact r1, hp, fun rs hR p ws G' H' e2 h1 h2 h3 r => h rs hR p _ _ _ (S.newO (e1.trans e2) (e1.hh.free h1) h2 h3 r)⟩
end
end L2

namespace L2
open PySem PySem.W PySem.Spec PyProof.Rows
end L2

namespace L2
open PySem PySem.W PyProof.Rows L2T
theorem Reps.rev {K : PySem.W.Frag} {H : Hp} : ∀ {ds : List D} {xs : List V}, Reps K H ds xs → Reps K H ds.reverse xs.reverse
  | [], xs, h => by rw [Reps] at h; subst h; exact Reps.nil
  | d :: ds, xs, h => by
    rw [Reps] at h
    obtain ⟨x, xs', rfl, h1, h2⟩ := h
    rw [List.reverse_cons, List.reverse_cons]
    exact h2.rev.snoc h1
section
variable {K : PySem.W.Frag} {G H₀ L : Hp} {ss : List Sl} {ta tb t : TE}
theorem ev_maxI {i j : Int} (a : EvB K G H₀ L ss ta (.int i)) (b : EvB K G H₀ L ss tb (.int j)) : Ev K G H₀ L ss (tCB (fun xs H Q => ∃ i j, xs = [.int i, .int j] ∧ Q (.int (if j > i then j else i)) H) (tCons ta (tCons tb tNil))) (.int (if j > i then j else i)) := fun F H σ Q S q =>
  a F H σ _ S fun v F1 H1 e1 r1 => b F1 H1 σ _ (S.ext2 e1) fun v2 F2 H2 e2 r2 => by
    rw [r1.of_int, r2.of_int]
    exact ⟨i, j, rfl, q _ F2 H2 (e1.trans e2) Rep.int⟩
theorem ev_minI {i j : Int} (a : EvB K G H₀ L ss ta (.int i)) (b : EvB K G H₀ L ss tb (.int j)) : Ev K G H₀ L ss (tCB (fun xs H Q => ∃ i j, xs = [.int i, .int j] ∧ Q (.int (if j < i then j else i)) H) (tCons ta (tCons tb tNil))) (.int (if j < i then j else i)) := fun F H σ Q S q =>
  a F H σ _ S fun v F1 H1 e1 r1 => b F1 H1 σ _ (S.ext2 e1) fun v2 F2 H2 e2 r2 => by
    rw [r1.of_int, r2.of_int]
    exact ⟨i, j, rfl, q _ F2 H2 (e1.trans e2) Rep.int⟩
theorem ev_gt {i j : Int} (a : EvB K G H₀ L ss ta (.int i)) (b : EvB K G H₀ L ss tb (.int j)) : Ev K G H₀ L ss (tOp (rI0 fun i j => .bl (decide (j < i))) ta tb) (.bl (decide (j < i))) := ev_cmpI (g := fun i j => decide (j < i)) a b
theorem evo_listrev {ds : List D} (a : EvL K G H₀ L ss t ds) : EvO K G H₀ L ss (tListRev K (tCons t tNil)) ds.reverse := fun F H σ Q S q =>
  a F H σ _ S fun p vs F' H' e sq r => ⟨p, vs, rfl, sq, fun l hl => q l vs.reverse F' _ (e.newO hl) (e.hh.free hl) (e.fh.free hl) upd_same r.rev⟩
end
end L2

namespace L2
open PySem PySem.W PySem.Spec PyProof.Rows
def SpRD (K : PySem.W.Frag) (pre : List D → Prop) (R : List D → D → Prop) : Sp := fun vs H Q _ => ∃ G ds, Same G H ∧ Reps K G ds vs ∧ pre ds ∧ ∀ r, R ds r → ∀ v G' H', Ext G H G' H' → Rep K G' r v → Q v H'
section
variable {K : PySem.W.Frag} {H : Hp} {vs : List V} {Q : VK} {X : XK} {N : List Str} {t : TS} {pre : List D → Prop} {R : List D → D → Prop}
theorem go_spRD (h : SpRD K pre R vs H Q X) (hN : vs.length ≤ N.length) (body : ∀ G ds, pre ds → (∀ r, R ds r → RtD K G H Q r) → Go K G H G { nx := fun _ H' => Q .non H', rt := Q } (slots N.length ds) t) : t { nx := fun _ H' => Q .non H', rt := Q } (start N vs) H := by
  obtain ⟨G, ds, sm, r, hp, q⟩ := h
  exact body G ds hp (fun rs hR v F H' e r => q rs hR v F H' e r) G H _ (sat_start sm r hN)
theorem spRD_len {n : Nat} (hpre : ∀ ds, pre ds → ds.length = n) (h : SpRD K pre R vs H Q X) : vs.length = n := by
  obtain ⟨G, ds, sm, r, hp, q⟩ := h
  rw [← r.length]; exact hpre ds hp
end
section
variable {K : PySem.W.Frag} {G H₀ L : Hp} {ss : List Sl} {t : TA} {ds : List D} {pre : List D → Prop} {R : List D → D → Prop} {E : XK} {D0 : Ends} {ta tb te : TE} {i j : Int}
theorem go_asgRD {g : TG} (a : EvAF K G H₀ L ss t ds) (hp : pre ds) (h : ∀ r, R ds r → ∃ ss', Tg K G H₀ L g r ss ss' ∧ Nx K G H₀ L D0.nx ss') : Go K G H₀ L D0 ss (tAsg (tCall (SpRD K pre R) [] E t) g) := fun F H σ S =>
  a F H σ _ S fun vs F1 H1 e1 r1 => ⟨F1, ds, e1.fh, by rw [List.append_nil]; exact r1, hp, fun r hR v G' H' e2 rr => by
    obtain ⟨ss', tg, nx⟩ := h r hR
    exact tg _ H' σ _ _ (S.ext2 (e1.trans e2)) rr fun σ' S' => nx _ H' σ' S'⟩
theorem ev_neg (a : EvB K G H₀ L ss te (.int i)) : Ev K G H₀ L ss (tUn (rU fun i => .int (-i)) te) (.int (-i)) := fun F H σ Q S q =>
  a F H σ _ S fun v F1 H1 e1 r1 => ⟨i, by rw [r1.of_int], q _ _ _ e1 Rep.int⟩
end
end L2

namespace L2
open PySem PySem.W PySem.Spec PyProof.Rows PySem.Builtin PySem.Builtin.Str PySem.StrLaws
end L2

namespace L2
open PySem PySem.W PySem.Spec PyProof.Rows PySem.Builtin PySem.Builtin.Str
end L2

namespace L2
open PySem PySem.W PySem.Spec PyProof.Rows
def SpG {α : Type} (K : PySem.W.Frag) (pre : α → List D → Prop) (res : α → D) : Sp := fun vs H Q _ => ∃ (G : Hp) (ds : List D) (x : α), Same G H ∧ Reps K G ds vs ∧ pre x ds ∧ ∀ v G' H', Ext G H G' H' → Rep K G' (res x) v → Q v H'
section
variable {α : Type} {K : PySem.W.Frag} {H : Hp} {vs : List V} {Q : VK} {X : XK} {N : List Str} {t : TS} {pre : α → List D → Prop} {res : α → D}
theorem go_spG (h : SpG K pre res vs H Q X) (hN : vs.length ≤ N.length) (body : ∀ G ds x, pre x ds → RtD K G H Q (res x) → Go K G H G { nx := fun _ H' => Q .non H', rt := Q } (slots N.length ds) t) : t { nx := fun _ H' => Q .non H', rt := Q } (start N vs) H := by
  obtain ⟨G, ds, x, sm, r, hp, q⟩ := h
  exact body G ds x hp (fun v F H' e r => q v F H' e r) G H _ (sat_start sm r hN)
theorem spG_len {n : Nat} (hpre : ∀ x ds, pre x ds → ds.length = n) (h : SpG K pre res vs H Q X) : vs.length = n := by
  obtain ⟨G, ds, x, sm, r, hp, q⟩ := h
  rw [← r.length]; exact hpre x ds hp
end
section
variable {α : Type} {K : PySem.W.Frag} {G H₀ L : Hp} {ss : List Sl} {ta tb tc te : TE} {t : TA} {ds : List D} {E : XK} {pre : α → List D → Prop} {res : α → D}
theorem ev_callG (x : α) (a : EvAF K G H₀ L ss t ds) (hp : pre x ds) : Ev K G H₀ L ss (tCall (SpG K pre res) [] E t) (res x) := fun F H σ Q S q =>
  a F H σ _ S fun vs F1 H1 e1 r1 => ⟨F1, ds, x, e1.fh, by rw [List.append_nil]; exact r1, hp, fun v G' H' e2 r => q _ _ _ (e1.trans e2) r⟩
theorem ev_intB {b : Bool} (a : EvB K G H₀ L ss te (.bl b)) : Ev K G H₀ L ss (tCB (fun xs H Q => (∃ i, xs = [.int i] ∧ Q (.int i) H) ∨ ∃ k : Bool, xs = [.bl k] ∧ Q (.int (if k then 1 else 0)) H) (tCons te tNil)) (.int (if b then 1 else 0)) := fun F H σ Q S q =>
  a F H σ _ S fun v F1 H1 e1 r1 => .inr ⟨b, by rw [r1.of_bl], q _ _ _ e1 Rep.int⟩
end
end L2

namespace L2
open PySem PySem.W PySem.Spec PyProof.Rows
def D.isK : D → Bool
  | .int _ => true | .str _ => true | _ => false
def D.key : D → Key
  | .int i => .inl i | .str l => .inr (T l) | _ => .inl 0
theorem key_inj {a b : D} (ha : a.isK = true) (hb : b.isK = true) (h : a.key = b.key) : a = b := by
  cases a <;> cases b <;> simp [D.isK, D.key] at * <;> first | exact h | exact T_inj.mp h
theorem rep_key {K : PySem.W.Frag} {H : Hp} {d : D} {v : V} (hk : d.isK = true) (r : Rep K H d v) : v = kV d.key := by
  cases d <;> simp [D.isK] at hk
  · exact r.of_int
  · exact r.of_str
abbrev DD := List (D × D)
def valD (kvs : DD) (k : D) : Option D := (kvs.find? fun kv => decide (kv.1 = k)).map (·.2)
def putD (kvs : DD) (k d : D) : DD := if (kvs.any fun kv => decide (kv.1 = k)) = true then kvs.map (fun kv => if kv.1 = k then (kv.1, d) else kv) else kvs ++ [(k, d)]
inductive Dks (K : PySem.W.Frag) (F : Hp) : DD → List (Key × V) → Prop
  | nil : Dks K F [] []
  | cons {k d : D} {v : V} {kvs : DD} {xs : List (Key × V)} (hk : k.isK = true) (hr : Rep K F k (kV k.key)) (r : Rep K F d v) (t : Dks K F kvs xs) : Dks K F ((k, d) :: kvs) ((k.key, v) :: xs)
section
variable {K : PySem.W.Frag} {F F' : Hp} {kvs : DD} {xs : List (Key × V)}
theorem Dks.mono (h : Dks K F kvs xs) (s : Same F F') : Dks K F' kvs xs := by
  induction h with
  | nil => exact .nil
  | cons hk hr r t ih => exact .cons hk (hr.mono s) (r.mono s) ih
theorem Dks.length (h : Dks K F kvs xs) : kvs.length = xs.length := by
  induction h with
  | nil => rfl
  | cons hk hr r t ih => simp [ih]
theorem isK_flat {k : D} (hk : k.isK = true) : k.flat = true := by cases k <;> simp [D.isK] at hk <;> rfl
theorem key_rep {K : PySem.W.Frag} {H F : Hp} {k : D} {v : V} (hk : k.isK = true) (r : Rep K H k v) : Rep K F k (kV k.key) := by
  rw [← rep_key hk r]; exact r.flat (isK_flat hk)
theorem Dks.val (h : Dks K F kvs xs) {k : D} (hk : k.isK = true) : (valD kvs k = none ∧ valV xs k.key = none) ∨ ∃ d v, valD kvs k = some d ∧ valV xs k.key = some v ∧ Rep K F d v := by
  induction h with
  | nil => exact .inl ⟨rfl, rfl⟩
  | @cons k' d v kvs xs hk' hr' r t ih =>
    by_cases e : k' = k
    · subst e
      exact .inr ⟨d, v, by simp [valD], by simp [valV], r⟩
    · have e2 : k'.key ≠ k.key := fun z => e (key_inj hk' hk z)
      have h1 : valD ((k', d) :: kvs) k = valD kvs k := by simp [valD, List.find?_cons, e]
      have h2 : valV ((k'.key, v) :: xs) k.key = valV xs k.key := by simp [valV, List.find?_cons, e2]
      rw [h1, h2]; exact ih
theorem Dks.any (h : Dks K F kvs xs) {k : D} (hk : k.isK = true) : (kvs.any fun kv => decide (kv.1 = k)) = xs.any fun kv => decide (kv.1 = k.key) := by
  induction h with
  | nil => rfl
  | @cons k' d v kvs xs hk' hr' r t ih =>
    rw [List.any_cons, List.any_cons, ih]
    congr 1
    by_cases e : k' = k
    · subst e; simp
    · have e2 : k'.key ≠ k.key := fun z => e (key_inj hk' hk z)
      rw [decide_eq_false e, decide_eq_false e2]
theorem Dks.snoc (h : Dks K F kvs xs) {k d : D} {v : V} (hk : k.isK = true) (hr : Rep K F k (kV k.key)) (r : Rep K F d v) : Dks K F (kvs ++ [(k, d)]) (xs ++ [(k.key, v)]) := by
  induction h with
  | nil => exact .cons hk hr r .nil
  | cons hk' hr' r' t ih => exact .cons hk' hr' r' ih
theorem Dks.put (h : Dks K F kvs xs) {k d : D} {v : V} (hk : k.isK = true) (hr : Rep K F k (kV k.key)) (r : Rep K F d v) : Dks K F (putD kvs k d) (putK xs k.key v) := by
  unfold putD putK
  rw [h.any hk]
  by_cases hc : (xs.any fun kv => decide (kv.1 = k.key)) = true
  · rw [if_pos hc, if_pos hc]
    clear hc
    induction h with
    | nil => exact .nil
    | @cons k' d' v' kvs xs hk' hr' r' t ih =>
      rw [List.map_cons, List.map_cons]
      by_cases e : k' = k
      · subst e; rw [if_pos rfl, if_pos rfl]; exact .cons hk' hr' r ih
      · have e2 : k'.key ≠ k.key := fun z => e (key_inj hk' hk z)
        rw [if_neg e, if_neg e2]; exact .cons hk' hr' r' ih
  · rw [if_neg hc, if_neg hc]; exact h.snoc hk hr r
end
def dW (K : PySem.W.Frag) (p : Addr) (kvs : DD) : Hp → Hp → Prop := fun F H => ∃ xs, H p = some (.dK xs) ∧ Dks K F kvs xs
def dsl (K : PySem.W.Frag) (p : Addr) (kvs : DD) : Sl := .g (.ref p) [p] (dW K p kvs)
theorem dW_stab (K : PySem.W.Frag) (p : Addr) (kvs : DD) : Stab [p] (dW K p kvs) := fun F1 H1 F2 H2 sf hh ⟨xs, h1, h2⟩ => ⟨xs, by rw [hh p (by simp)]; exact h1, h2.mono sf⟩
section
variable {K : PySem.W.Frag} {G H₀ L : Hp} {ss : List Sl} {i : Nat} {p : Addr} {kvs : DD} {E : Ends} {ty td tv tx : TE} {k d z : D}
theorem Sat.getM {F H : Hp} {σ : St} (S : Sat K G H₀ L F H σ ss) (hs : ss[i]? = some (dsl K p kvs)) : σ[i]? = some (some (.ref p)) ∧ H₀ p = none ∧ F p = none ∧ ∃ xs, H p = some (.dK xs) ∧ Dks K F kvs xs := by
  obtain ⟨v, e, ew, ha, hw, st⟩ := S.get hs (by intro z; cases z)
  cases ew
  obtain ⟨h0, fp, _⟩ := ha p (by simp)
  exact ⟨e, h0, fp, hw⟩
theorem Sat.writeM {F H : Hp} {σ : St} {kvs' : DD} {xs : List (Key × V)} (S : Sat K G H₀ L F H σ ss) (hs : ss[i]? = some (dsl K p kvs)) (r : Dks K F kvs' xs) : Sat K G H₀ L F (upd H p (.dK xs)) σ (ss.set i (dsl K p kvs')) := by
  obtain ⟨e, h0, fp, ys, hp, _⟩ := S.getM hs
  have hget : σ.getD i none = some (.ref p) := by rw [List.getD_eq_getElem?_getD, e]; rfl
  refine S.put (S.ext.write fp h0) S.fl rfl (fun _ _ => rfl) (fun _ => ?_) (by simp [dsl, Sl.ads]) (fun j s' hj h q hq => ?_) fun j s' hj h => (S.ok j s' h).updNe (S.ne i j _ s' (Ne.symm hj) hs h p (by simp [dsl, Sl.ads]))
  · rw [hget]
    exact ⟨rfl, fun a ha => by rw [List.mem_singleton.mp ha]; exact ⟨h0, fp, _, upd_same⟩, ⟨xs, upd_same, r⟩, dW_stab K p kvs'⟩
  · have : q = p := by simpa [dsl, Sl.ads] using hq
    subst this
    exact S.ne i j _ s' (Ne.symm hj) hs h q (by simp [dsl, Sl.ads])
theorem go_setM (h : ∀ p, Nx K G H₀ L E.nx (ss.set i (dsl K p []))) : Go K G H₀ L E ss (tAsg tDNewK (gName i)) := fun F H σ S p hp => by
  have e := (Ext.refl S.ext.fh).newO (o := .dK []) hp
  have S' := S.ext2 e
  refine h p F _ _ (S'.put S'.ext S'.fl (by simp) (fun j hj => getD_set_ne (Ne.symm hj)) (fun hi => ?_) (by simp [dsl, Sl.ads]) (fun j s' hj hs q hq => ?_) fun j s' hj hs => S'.ok j s' hs)
  · rw [getD_set_self (by rw [S.len]; exact hi)]
    exact ⟨rfl, fun a ha => by rw [List.mem_singleton.mp ha]; exact ⟨S.ext.hh.free hp, S.ext.fh.free hp, _, upd_same⟩, ⟨[], upd_same, .nil⟩, dW_stab K p []⟩
  · have : q = p := by simpa [dsl, Sl.ads] using hq
    subst this
    exact fun hin => (S.ok j s' hs).live hin hp
theorem ev_dget (hs : ss[i]? = some (dsl K p kvs)) (b : EvB K G H₀ L ss ty k) (hk : k.isK = true) (hv : valD kvs k = some d) : Ev K G H₀ L ss (tDGet (tVar i) ty) d := fun F H σ Q S q => by
  obtain ⟨e, _⟩ := S.getM hs
  refine ⟨_, e, b F H σ _ S fun v F1 H1 e1 r1 => ?_⟩
  obtain ⟨_, _, _, xs, hp, dk⟩ := (S.ext2 e1).getM hs
  rcases dk.val hk with ⟨h1, _⟩ | ⟨d', w, h1, h2, rw'⟩
  · rw [h1] at hv; cases hv
  · rw [h1] at hv; cases hv
    refine ⟨p, w, rfl, ?_, q w F1 H1 e1 rw'⟩
    rw [rep_key hk r1, ← h2]
    exact DGet.k hp
theorem ev_dnotin (hs : ss[i]? = some (dsl K p kvs)) (b : EvB K G H₀ L ss ty k) (hk : k.isK = true) : Ev K G H₀ L ss (tDNotIn ty (tVar i)) (.bl (!(valD kvs k).isSome)) := fun F H σ Q S q =>
  b F H σ _ S fun v F1 H1 e1 r1 => by
    obtain ⟨e, _, _, xs, hp, dk⟩ := (S.ext2 e1).getM hs
    refine ⟨_, e, p, valV xs k.key, rfl, by rw [rep_key hk r1]; exact DGet.k hp, q _ F1 H1 e1 ?_⟩
    have : (valV xs k.key).isSome = (valD kvs k).isSome := by
      rcases dk.val hk with ⟨h1, h2⟩ | ⟨d', w, h1, h2, _⟩ <;> rw [h1, h2] <;> rfl
    rw [this]; exact Rep.bl
theorem go_dput (hs : ss[i]? = some (dsl K p kvs)) (a : Ev K G H₀ L ss tv d) (b : EvB K G H₀ L ss ty k) (hk : k.isK = true) (hz : kvs.length < sizeLine) (h : Nx K G H₀ L E.nx (ss.set i (dsl K p (putD kvs k d)))) : Go K G H₀ L E ss (sDPut (tVar i) ty tv) := fun F H σ S =>
  a F H σ _ S fun v F1 H1 e1 r1 => by
    have S1 := S.ext2 e1
    obtain ⟨e, _⟩ := S1.getM hs
    refine ⟨_, e, b F1 H1 σ _ S1 fun w F2 H2 e2 r2 => ?_⟩
    have S2 := S1.ext2 e2
    obtain ⟨_, _, _, xs, hp, dk⟩ := S2.getM hs
    refine ⟨p, _, rfl, by rw [rep_key hk r2]; exact DPut.k (v := v) hp (by rw [← dk.length]; exact hz), h F2 _ σ (S2.writeM hs (dk.put hk (key_rep hk r2) (r1.mono e2.gf)))⟩
end
end L2

namespace L2
open PySem PySem.Spec PyProof.Rows
section
variable {X : Cx}
def rSetDef : V → List V → Hp → VK → Prop := fun x vs H Q => ∃ a kvs k z, x = .ref a ∧ vs = [kV k, z] ∧ H a = some (.dK kvs) ∧ kvs.length < sizeLine ∧ (∀ v, valV kvs k = some v → Q v H) ∧ (valV kvs k = none → Q z (upd H a (.dK (putK kvs k z))))
theorem mt_setdefault : MtR X "dict.setdefault" rSetDef := by
  intro pins s σ H x xs v us Q I rx rs h
  obtain ⟨a, kvs, k, z, rfl, rfl, e, hl, q1, q2⟩ := h
  obtain rfl : v = Value.ref a := rx
  obtain ⟨u1, u2, rfl, ry, rz⟩ := vals2 rs
  obtain ⟨hz, hd, vs, rel, dd⟩ := dk_of I.hok e
  have hzz : vs.length ≤ sizeLine := by rw [← rel.length]; exact hz
  refine call_meetsIn PySem.F.slot_dict_setdefault dd.typeIs PySem.F.entry_dict_setdefault (PySem.F.args_dict_setdefault_3 _ _ _) (kt_meets_setdefault (mixKind X.prog X.w) a (kV_is ry) hd u2) ⟨vs, dd, hzz, fun v' hv => ?_, fun hn h' dd' hs => ?_⟩
  · have r := rel.val k
    rw [hv] at r
    cases hk : valV kvs k with
    | none => rw [hk] at r; exact r.elim
    | some w' => rw [hk] at r; exact ⟨w', H, I.tok _, r, q1 w' hk⟩
  · have hk : valV kvs k = none := by
      have r := rel.val k
      rw [hn] at r
      cases hk : valV kvs k with
      | none => rfl
      | some w' => rw [hk] at r; exact r.elim
    have hl2 : (putK kvs k z).length ≤ sizeLine := by have := length_putK kvs k z; omega
    have he : ∃ q, h'.get? a = some q := let ⟨q, _, _, hq, _⟩ := dd'; ⟨q, hq⟩
    exact ⟨z, _, d_write I (by rw [e]; exact True.intro) hs he (dk_new hl2 hd (rel.put k rz) dd'), rz, q2 hk⟩
end
end L2

namespace L2
open PySem PySem.W PySem.Spec PyProof.Rows
abbrev KQ := List (D × Addr × List D)
def dat (q : D × Addr × List D) : D × List D := (q.1, q.2.2)
def raw (q : D × Addr × List D) : Key × V := (q.1.key, .ref q.2.1)
def appD : List (D × List D) → D → D → List (D × List D)
  | [], k, d => [(k, [d])]
  | kv :: r, k, d => if kv.1 = k then (kv.1, kv.2 ++ [d]) :: r else kv :: appD r k d
theorem find_at {kqs : KQ} {k : D} (hk : k.isK = true) (hks : ∀ q ∈ kqs, q.1.isK = true) : (valV (kqs.map raw) k.key = none ∧ ∀ d, appD (kqs.map dat) k d = kqs.map dat ++ [(k, [d])]) ∨
    ∃ j a ds, kqs[j]? = some (k, a, ds) ∧ valV (kqs.map raw) k.key = some (.ref a) ∧ ∀ d, (kqs.set j (k, a, ds ++ [d])).map dat = appD (kqs.map dat) k d := by
  induction kqs with
  | nil => exact .inl ⟨rfl, fun _ => rfl⟩
  | cons q r ih =>
    obtain ⟨k', a', ds'⟩ := q
    by_cases e : k' = k
    · subst e
      refine .inr ⟨0, a', ds', rfl, by simp [valV, raw], fun d => ?_⟩
      show (k', ds' ++ [d]) :: r.map dat = appD ((k', ds') :: r.map dat) k' d
      rw [appD, if_pos rfl]
    · have e2 : k'.key ≠ k.key := fun z => e (key_inj (hks _ List.mem_cons_self) hk z)
      have hv : valV (((k', a', ds') :: r).map raw) k.key = valV (r.map raw) k.key := by simp [valV, raw, List.find?_cons, e2]
      have ha : ∀ d, appD (((k', a', ds') :: r).map dat) k d = (k', ds') :: appD (r.map dat) k d := fun d => by
        show appD ((k', ds') :: r.map dat) k d = _
        rw [appD, if_neg e]
      rw [hv]
      rcases ih fun q hq => hks q (List.mem_cons_of_mem _ hq) with ⟨h1, h2⟩ | ⟨j, a, ds, h1, h2, h3⟩
      · exact .inl ⟨h1, fun d => by rw [ha, h2]; rfl⟩
      · refine .inr ⟨j + 1, a, ds, h1, h2, fun d => ?_⟩
        rw [ha, ← h3]; rfl
def lW (K : PySem.W.Frag) (p : Addr) (kqs : KQ) : Hp → Hp → Prop := fun F H => H p = some (.dK (kqs.map raw)) ∧ ∀ q ∈ kqs, q.1.isK = true ∧ Rep K F q.1 (kV q.1.key) ∧ ∃ vs, H q.2.1 = some (.lst vs) ∧ Reps K F q.2.2 vs
def dls (K : PySem.W.Frag) (p : Addr) (kqs : KQ) : Sl := .g (.ref p) (p :: kqs.map (·.2.1)) (lW K p kqs)
theorem lW_stab (K : PySem.W.Frag) (p : Addr) (kqs : KQ) : Stab (p :: kqs.map (·.2.1)) (lW K p kqs) := fun F1 H1 F2 H2 sf hh ⟨h1, h2⟩ =>
  ⟨by rw [hh p (by simp)]; exact h1, fun q hq => by
    obtain ⟨a, kr, vs, b, c⟩ := h2 q hq
    exact ⟨a, kr.mono sf, vs, by rw [hh q.2.1 (List.mem_cons_of_mem _ (List.mem_map_of_mem hq))]; exact b, c.mono sf⟩⟩
section
variable {K : PySem.W.Frag} {G H₀ L : Hp} {ss : List Sl} {i : Nat} {p : Addr} {kqs : KQ} {E : Ends} {tk tv : TE} {k d : D}
theorem Sat.getL {F H : Hp} {σ : St} (S : Sat K G H₀ L F H σ ss) (hs : ss[i]? = some (dls K p kqs)) : σ[i]? = some (some (.ref p)) ∧ (∀ a ∈ p :: kqs.map (·.2.1), H₀ a = none ∧ F a = none) ∧ lW K p kqs F H := by
  obtain ⟨v, e, ew, ha, hw, st⟩ := S.get hs (by intro z; cases z)
  cases ew
  exact ⟨e, fun a h => ⟨(ha a h).1, (ha a h).2.1⟩, hw⟩
theorem go_setML (h : ∀ p, Nx K G H₀ L E.nx (ss.set i (dls K p []))) : Go K G H₀ L E ss (tAsg tDNewK (gName i)) := fun F H σ S p hp => by
  have e := (Ext.refl S.ext.fh).newO (o := .dK []) hp
  have S' := S.ext2 e
  refine h p F _ _ (S'.put S'.ext S'.fl (by simp) (fun j hj => getD_set_ne (Ne.symm hj)) (fun hi => ?_) (by simp [dls, Sl.ads]) (fun j s' hj hs q hq => ?_) fun j s' hj hs => S'.ok j s' hs)
  · rw [getD_set_self (by rw [S.len]; exact hi)]
    exact ⟨rfl, fun a ha => by rw [List.mem_singleton.mp ha]; exact ⟨S.ext.hh.free hp, S.ext.fh.free hp, _, upd_same⟩, ⟨upd_same, fun _ h => by cases h⟩, lW_stab K p []⟩
  · have : q = p := by simpa [dls, Sl.ads] using hq
    subst this
    exact fun hin => (S.ok j s' hs).live hin hp
theorem set_same {α : Type} {xs : List α} {i : Nat} {x : α} (h : xs[i]? = some x) : xs.set i x = xs := by
  refine List.ext_getElem? fun n => ?_
  by_cases hn : i = n
  · subst hn; rw [List.getElem?_set_self (List.getElem?_eq_some_iff.mp h).1, h]
  · rw [List.getElem?_set_ne hn]
theorem Sat.appL {F H : Hp} {σ : St} (S : Sat K G H₀ L F H σ ss) {j : Nat} {a : Addr} {ds es : List D} {vs : List V} (hs : ss[i]? = some (dls K p kqs)) (hj : kqs[j]? = some (k, a, ds)) (r : Reps K F es vs) :
    Sat K G H₀ L F (upd H a (.lst vs)) σ (ss.set i (dls K p (kqs.set j (k, a, es)))) := by
  obtain ⟨e, hoff, hp, hq⟩ := S.getL hs
  have hget : σ.getD i none = some (.ref p) := by rw [List.getD_eq_getElem?_getD, e]; rfl
  have hnd : (p :: kqs.map (·.2.1)).Nodup := S.nd i _ hs
  have hm := List.mem_of_getElem? hj
  have ham : a ∈ p :: kqs.map (·.2.1) := List.mem_cons_of_mem _ (List.mem_map.mpr ⟨_, hm, rfl⟩)
  obtain ⟨a0, af⟩ := hoff a ham
  have hpa : p ≠ a := fun z => (List.nodup_cons.mp hnd).1 (z ▸ List.mem_map.mpr ⟨_, hm, rfl⟩)
  have mset : ∀ {β : Type} (f : D × Addr × List D → β), f (k, a, es) = f (k, a, ds) → (kqs.set j (k, a, es)).map f = kqs.map f := fun {β} f hf => by
    rw [List.map_set]
    refine List.ext_getElem? fun n => ?_
    by_cases hn : j = n
    · subst hn
      rw [List.getElem?_set_self (by rw [List.length_map]; exact (List.getElem?_eq_some_iff.mp hj).1), List.getElem?_map, hj, hf]; rfl
    · rw [List.getElem?_set_ne hn]
  have hads : (dls K p (kqs.set j (k, a, es))).ads = p :: kqs.map (·.2.1) := by show p :: (kqs.set j (k, a, es)).map (·.2.1) = _; rw [mset (·.2.1) rfl]
  have hdup : ∀ n z, kqs[n]? = some z → n ≠ j → z.2.1 ≠ a := fun n z hn hnj hz => by
    have h2 : (kqs.map (·.2.1)).Nodup := (List.nodup_cons.mp hnd).2
    unfold List.Nodup at h2
    rw [List.pairwise_iff_getElem] at h2
    have hnl := (List.getElem?_eq_some_iff.mp hn)
    have hjl := (List.getElem?_eq_some_iff.mp hj)
    have e1 : (kqs.map (·.2.1))[n]'(by simpa using hnl.1) = a := by rw [List.getElem_map, hnl.2]; exact hz
    have e2 : (kqs.map (·.2.1))[j]'(by simpa using hjl.1) = a := by rw [List.getElem_map, hjl.2]
    rcases Nat.lt_or_ge n j with c | c
    · exact h2 n j (by simpa using hnl.1) (by simpa using hjl.1) c (e1.trans e2.symm)
    · exact h2 j n (by simpa using hjl.1) (by simpa using hnl.1) (by omega) (e2.trans e1.symm)
  refine S.put (S.ext.write af a0) S.fl rfl (fun _ _ => rfl) (fun _ => ?_) (by rw [hads]; exact hnd) (fun n s' hn h z hz => ?_) fun n s' hn h => (S.ok n s' h).updNe (S.ne i n _ s' (Ne.symm hn) hs h a ham)
  · rw [hget]
    refine ⟨rfl, fun b hb => ?_, ⟨by rw [upd_ne hpa, mset raw rfl]; exact hp, fun z hz => ?_⟩, lW_stab _ _ _⟩
    · have hb : b ∈ p :: (kqs.set j (k, a, es)).map (·.2.1) := hb
      rw [mset (·.2.1) rfl] at hb
      obtain ⟨b0, bf⟩ := hoff b hb
      refine ⟨b0, bf, ?_⟩
      by_cases hba : b = a
      · subst hba; exact ⟨_, upd_same⟩
      · rw [upd_ne hba]
        have := (S.ok i _ hs).live (p := b) hb
        cases hx : H b with
        | none => exact absurd hx this
        | some o => exact ⟨o, rfl⟩
    · obtain ⟨n, hn⟩ := List.mem_iff_getElem?.mp hz
      by_cases hnj : j = n
      · subst hnj
        rw [List.getElem?_set_self (List.getElem?_eq_some_iff.mp hj).1] at hn
        cases hn
        exact ⟨(hq _ hm).1, (hq _ hm).2.1, vs, upd_same, r⟩
      · rw [List.getElem?_set_ne hnj] at hn
        obtain ⟨z1, kr, ws, z2, z3⟩ := hq z (List.mem_of_getElem? hn)
        exact ⟨z1, kr, ws, by rw [upd_ne (hdup n z hn (Ne.symm hnj))]; exact z2, z3⟩
  · have hz : z ∈ (dls K p (kqs.set j (k, a, es))).ads := hz
    rw [hads] at hz
    exact S.ne i n _ s' (Ne.symm hn) hs h z hz
theorem Sat.keyL {F H : Hp} {σ : St} (S : Sat K G H₀ L F H σ ss) {l : Addr} (hs : ss[i]? = some (dls K p kqs)) (hk : k.isK = true) (kr : Rep K F k (kV k.key)) (hl : H l = none) :
    Sat K G H₀ L F (upd (upd H l (.lst [])) p (.dK ((kqs ++ [(k, l, [])]).map raw))) σ (ss.set i (dls K p (kqs ++ [(k, l, [])]))) := by
  have S2 := S.ext2 ((Ext.refl S.ext.fh).newO (o := .lst []) hl)
  obtain ⟨e, hoff, hp, hq⟩ := S2.getL hs
  have hget : σ.getD i none = some (.ref p) := by rw [List.getD_eq_getElem?_getD, e]; rfl
  have hnd : (p :: kqs.map (·.2.1)).Nodup := S.nd i _ hs
  obtain ⟨p0, pf⟩ := hoff p List.mem_cons_self
  have hnl : ∀ b ∈ p :: kqs.map (·.2.1), b ≠ l := fun b hb z => (S.ok i _ hs).live (p := b) hb (z ▸ hl)
  have hpl : p ≠ l := hnl p List.mem_cons_self
  have hads : (dls K p (kqs ++ [(k, l, [])])).ads = (p :: kqs.map (·.2.1)) ++ [l] := by show p :: List.map (fun q : D × Addr × List D => q.2.1) (kqs ++ [(k, l, [])]) = _; rw [List.map_append]; rfl
  refine S2.put (S2.ext.write pf p0) S2.fl rfl (fun _ _ => rfl) (fun _ => ?_) ?_ (fun n s' hn h z hz => ?_) fun n s' hn h => (S2.ok n s' h).updNe (S2.ne i n _ s' (Ne.symm hn) hs h p List.mem_cons_self)
  · rw [hget]
    refine ⟨rfl, fun b hb => ?_, ⟨upd_same, fun z hz => ?_⟩, lW_stab _ _ _⟩
    · have hb : b ∈ (dls K p (kqs ++ [(k, l, [])])).ads := hb
      rw [hads] at hb
      rcases List.mem_append.mp hb with hb | hb
      · obtain ⟨b0, bf⟩ := hoff b hb
        refine ⟨b0, bf, ?_⟩
        by_cases hbp : b = p
        · subst hbp; exact ⟨_, upd_same⟩
        · rw [upd_ne hbp]
          have := (S2.ok i _ hs).live (p := b) hb
          cases hx : (upd H l (.lst [])) b with
          | none => exact absurd hx this
          | some o => exact ⟨o, rfl⟩
      · rw [List.mem_singleton.mp hb]
        exact ⟨S.ext.hh.free hl, S.ext.fh.free hl, _, by rw [upd_ne (Ne.symm hpl)]; exact upd_same⟩
    · rcases List.mem_append.mp hz with hz | hz
      · obtain ⟨z1, zr, ws, z2, z3⟩ := hq z hz
        have hzp : z.2.1 ≠ p := fun e => (List.nodup_cons.mp hnd).1 (e ▸ List.mem_map_of_mem hz)
        exact ⟨z1, zr, ws, by rw [upd_ne hzp]; exact z2, z3⟩
      · rw [List.mem_singleton.mp hz]
        exact ⟨hk, kr, [], by rw [upd_ne (Ne.symm hpl)]; exact upd_same, Reps.nil⟩
  · rw [hads]
    exact List.nodup_append.mpr ⟨hnd, by simp, fun x hx y hy e => by rw [List.mem_singleton.mp hy] at e; exact hnl x hx e⟩
  · have hz : z ∈ (dls K p (kqs ++ [(k, l, [])])).ads := hz
    rw [hads] at hz
    rcases List.mem_append.mp hz with hz | hz
    · exact S.ne i n _ s' (Ne.symm hn) hs h z hz
    · rw [List.mem_singleton.mp hz]
      exact fun hin => (S.ok n s' h).live hin hl
theorem go_dapp (hs : ss[i]? = some (dls K p kqs)) (b : EvB K G H₀ L ss tk k) (hk : k.isK = true) (a : ∀ kqs', Ev K G H₀ L (ss.set i (dls K p kqs')) tv d) (hz : kqs.length < sizeLine) (hz2 : ∀ q ∈ kqs, q.2.2.length < sizeLine)
    (h : ∀ kqs', kqs'.map dat = appD (kqs.map dat) k d → Nx K G H₀ L E.nx (ss.set i (dls K p kqs'))) :
    Go K G H₀ L E ss (tDrop (tBM K "list" rAppend (tBM K "dict" rSetDef (tVar i) (tCons tk (tCons (tLst tNil) tNil))) (tCons tv tNil))) := fun F H σ S => by
  obtain ⟨e, hoff, hp, hq⟩ := S.getL hs
  have hks : ∀ q ∈ kqs, q.1.isK = true := fun q hm => (hq q hm).1
  have hil : i < ss.length := (List.getElem?_eq_some_iff.mp hs).1
  refine ⟨.ref p, e, .inr (.inr (.inl ⟨rfl, .inl ⟨_, hp⟩⟩)), b F H σ _ S fun v F1 H1 e1 r1 => ⟨Nat.zero_le _, fun l hl => ?_⟩⟩
  have S1 := S.ext2 e1
  have S2 := S1.ext2 ((Ext.refl S1.ext.fh).newO (o := .lst []) hl)
  obtain ⟨_, _, hp2, hq2⟩ := S2.getL hs
  refine ⟨p, kqs.map raw, k.key, .ref l, rfl, by rw [rep_key hk r1], hp2, by rw [List.length_map]; exact hz, fun v' hv' => ?_, fun hn => ?_⟩
  · rcases find_at hk hks with ⟨h1, _⟩ | ⟨j, q, ds, h1, h2, h3⟩
    · rw [h1] at hv'; cases hv'
    · rw [h2] at hv'; cases hv'
      obtain ⟨_, _, ws, hw, _⟩ := hq2 _ (List.mem_of_getElem? h1)
      have es : ss.set i (dls K p kqs) = ss := set_same hs
      have S2' : Sat K G H₀ L F1 (upd H1 l (.lst [])) σ (ss.set i (dls K p kqs)) := by rw [es]; exact S2
      refine ⟨.inl ⟨rfl, _, SqL.of hw⟩, a kqs F1 _ σ _ S2' fun w F3 H3 e3 r3 => ?_⟩
      have S3 := S2.ext2 e3
      obtain ⟨_, _, _, hq3⟩ := S3.getL hs
      obtain ⟨_, _, ws3, hw3, rs3⟩ := hq3 _ (List.mem_of_getElem? h1)
      refine ⟨q, ws3, w, rfl, rfl, hw3, by rw [← rs3.length]; exact hz2 _ (List.mem_of_getElem? h1), h _ (h3 d) F3 _ σ (S3.appL hs h1 (rs3.snoc r3))⟩
  · rcases find_at hk hks with ⟨h1, h2⟩ | ⟨j, q, ds, h1, h2, h3⟩
    · have S4 := S1.keyL (k := k) hs hk (key_rep hk r1) hl
      have eput : putK (kqs.map raw) k.key (.ref l) = (kqs ++ [(k, l, [])]).map raw := by rw [putK_new _ hn, List.map_append]; rfl
      rw [eput]
      have hs4 : (ss.set i (dls K p (kqs ++ [(k, l, [])])))[i]? = some (dls K p (kqs ++ [(k, l, [])])) := List.getElem?_set_self hil
      obtain ⟨_, _, _, hq4⟩ := S4.getL hs4
      have hj : (kqs ++ [(k, l, ([] : List D))])[kqs.length]? = some (k, l, []) := by rw [List.getElem?_append_right (Nat.le_refl _), Nat.sub_self]; rfl
      obtain ⟨_, _, ws, hw, _⟩ := hq4 _ (List.mem_of_getElem? hj)
      refine ⟨.inl ⟨rfl, _, SqL.of hw⟩, a _ F1 _ σ _ S4 fun w F3 H3 e3 r3 => ?_⟩
      have S5 := S4.ext2 e3
      obtain ⟨_, _, _, hq5⟩ := S5.getL hs4
      obtain ⟨_, _, ws5, hw5, rs5⟩ := hq5 _ (List.mem_of_getElem? hj)
      have S6 := S5.appL hs4 hj (rs5.snoc r3)
      rw [List.set_set] at S6
      refine ⟨l, ws5, w, rfl, rfl, hw5, by rw [← rs5.length]; show 0 < _; rw [sizeLine_eq]; decide, h _ ?_ F3 _ σ S6⟩
      rw [h2, List.set_append_right _ _ (Nat.le_refl _), Nat.sub_self, List.map_append]
      rfl
    · rw [h2] at hn; cases hn
end
end L2

namespace L2
open PySem PySem.Spec PyProof.Rows
end L2

namespace L2
open PySem PySem.W PySem.Spec PyProof.Rows
section
variable {K : PySem.W.Frag} {G H₀ L : Hp} {ss : List Sl} {i : Nat} {p : Addr} {kqs : KQ} {kvs : DD} {E : Ends} {tk tv : TE} {k d : D}
def frzL (q : D × Addr × List D) : D × D := (q.1, .lst q.2.2)
theorem Sat.freezeL {F H : Hp} {σ : St} (S : Sat K G H₀ L F H σ ss) (hs : ss[i]? = some (dls K p kqs)) : ∃ F', Sat K G H₀ L F' H σ (ss.set i (dsl K p (kqs.map frzL))) := by
  obtain ⟨e, hoff, hp, hq⟩ := S.getL hs
  have hget : σ.getD i none = some (.ref p) := by rw [List.getD_eq_getElem?_getD, e]; rfl
  have hnd : (p :: kqs.map (·.2.1)).Nodup := S.nd i _ hs
  have off : ∀ b, b ∈ kqs.map (·.2.1) → H₀ b = none ∧ F b = none := fun b hb => hoff b (List.mem_cons_of_mem _ hb)
  let F' : Hp := fun b => if b ∈ kqs.map (·.2.1) then H b else F b
  have fin : ∀ b, b ∈ kqs.map (·.2.1) → F' b = H b := fun b hb => if_pos hb
  have fout : ∀ b, b ∉ kqs.map (·.2.1) → F' b = F b := fun b hb => if_neg hb
  have ff : Same F F' := fun b o h => by
    have : b ∉ kqs.map (·.2.1) := fun hb => by rw [(off b hb).2] at h; cases h
    rw [fout b this]; exact h
  have fh : Same F' H := fun b o h => by
    by_cases hb : b ∈ kqs.map (·.2.1)
    · rw [fin b hb] at h; exact h
    · rw [fout b hb] at h; exact S.ext.fh b o h
  have ex : Ext G H₀ F' H := ⟨S.ext.gf.trans ff, fh, S.ext.hh, fun b o h => by
    have : b ∉ kqs.map (·.2.1) := fun hb => by rw [(off b hb).1] at h; cases h
    rw [fout b this]; exact S.ext.no b o h⟩
  obtain ⟨p0, pf⟩ := hoff p List.mem_cons_self
  refine ⟨F', S.put ex (S.fl.trans ff) rfl (fun _ _ => rfl) (fun _ => ?_) (by simp [dsl, Sl.ads]) (fun j s' hj h q hq => ?_) fun j s' hj h => ?_⟩
  · rw [hget]
    refine ⟨rfl, fun a ha => by rw [List.mem_singleton.mp ha]; exact ⟨p0, by rw [fout p (List.nodup_cons.mp hnd).1]; exact pf, _, hp⟩, ⟨_, hp, ?_⟩, dW_stab _ _ _⟩
    have key : ∀ zs : KQ, (∀ z ∈ zs, z ∈ kqs) → Dks K F' (zs.map frzL) (zs.map raw) := by
      intro zs
      induction zs with
      | nil => intro _; exact .nil
      | cons z zs ih =>
        intro hz
        obtain ⟨z1, kr, vs, hv, r⟩ := hq z (hz z List.mem_cons_self)
        exact .cons z1 (kr.mono ff) (Rep.lst (SqL.of ((fin z.2.1 (List.mem_map.mpr ⟨z, hz z List.mem_cons_self, rfl⟩)).trans hv)) (r.mono ff)) (ih fun y hy => hz y (List.mem_cons_of_mem _ hy))
    exact key kqs fun z h => h
  · have : q = p := by simpa [dsl, Sl.ads] using hq
    subst this
    exact S.ne i j _ s' (Ne.symm hj) hs h q List.mem_cons_self
  · have dis : ∀ b ∈ s'.ads, b ∉ kqs.map (·.2.1) := fun b hb hb2 => S.ne i j _ s' (Ne.symm hj) hs h b (List.mem_cons_of_mem _ hb2) hb
    have own : ∀ {b : Addr} {xs : List D}, b ∈ s'.ads → OwnL K H₀ F H b xs → OwnL K H₀ F' H b xs := fun hb ⟨a1, a2, vs, a3, a4⟩ => ⟨a1, by rw [fout _ (dis _ hb)]; exact a2, vs, a3, a4.mono ff⟩
    have ok := S.ok j s' h
    cases s' with
    | un => trivial
    | d x => obtain ⟨v, ev, r⟩ := ok; exact ⟨v, ev, r.mono ff⟩
    | o b xs => exact ⟨ok.1, own (by simp [Sl.ads]) ok.2⟩
    | oo b zs =>
      obtain ⟨a1, a2, a3, a4, a5⟩ := ok
      exact ⟨a1, a2, by rw [fout b (dis b (by simp [Sl.ads]))]; exact a3, a4, fun z hz => own (by simp [Sl.ads]; exact .inr ⟨_, hz⟩) (a5 z hz)⟩
    | g v as W =>
      obtain ⟨a1, a2, a3, a4⟩ := ok
      refine ⟨a1, fun b hb => ?_, a4 _ _ _ _ ff (fun _ _ => rfl) a3, a4⟩
      obtain ⟨b1, b2, b3⟩ := a2 b hb
      exact ⟨b1, by rw [fout b (dis b hb)]; exact b2, b3⟩
theorem nx_freezeL {N : St → Hp → Prop} (hs : ss[i]? = some (dls K p kqs)) (h : Nx K G H₀ L N (ss.set i (dsl K p (kqs.map frzL)))) : Nx K G H₀ L N ss := fun F H σ S => by
  obtain ⟨F', S'⟩ := S.freezeL hs
  exact h F' H σ S'
end
end L2

namespace L2
open PySem PySem.Spec PyProof.Rows
end L2

namespace L2
open PySem PySem.Spec PyProof.Rows
open AutoSeq1 (wpAny_loadPart')
end L2

namespace L2
open PySem PySem.Spec PyProof.Rows
end L2

namespace L2
open PySem PySem.Spec PyProof.Rows PySem.Builtin PySem.Builtin.Str
end L2

namespace L2
open PySem PySem.W PySem.Spec PyProof.Rows
structure ITell (K : PySem.W.Frag) (C : Addr) : Prop where
  ha : findIn K (.ref C) "__class__" = some (some (.builtin "object.__class__"))
  hn : specialIn K (.builtin "object.__class__") "__get__" = some (some (.builtin "getset_descriptor.__get__"))
  tk : takesIn K (.builtin "object.__class__") = some true
  hm : mroIn K C (.type "object") = some true
end L2

namespace L2
open PySem PySem.W PySem.Spec PyProof.Rows
section
variable {K : PySem.W.Frag} {F H : Hp}
theorem rep_kV {k : D} {q : Key} (r : Rep K F k (kV q)) : k.isK = true ∧ k.key = q := by
  cases q with
  | inl i =>
    have r : Rep K F k (V.int i) := r
    cases k <;> simp [Rep] at r
    subst r; exact ⟨rfl, rfl⟩
  | inr x =>
    have r : Rep K F k (V.str x) := r
    cases k <;> simp [Rep] at r
    exact ⟨rfl, by rw [r.1]; rfl⟩
theorem dks_of : ∀ {kv : List (Key × V)} {ks vs : List D}, Reps K F ks (kv.map fun q => kV q.1) → Reps K F vs (kv.map fun q => q.2) → Dks K F (ks.zip vs) kv
  | [], ks, vs, r1, r2 => by
    cases ks with
    | nil => exact .nil
    | cons k ks => rw [Reps] at r1; obtain ⟨_, _, e, _⟩ := r1; cases e
  | (q, v) :: kv, ks, vs, r1, r2 => by
    cases ks with
    | nil => rw [Reps] at r1; cases r1
    | cons k ks =>
      cases vs with
      | nil => rw [Reps] at r2; cases r2
      | cons d vs =>
        rw [Reps] at r1 r2
        obtain ⟨x, r, e, a, b⟩ := r1
        cases e
        obtain ⟨x, r, e, a2, b2⟩ := r2
        cases e
        obtain ⟨h1, rfl⟩ := rep_kV a
        exact .cons h1 a a2 (dks_of b b2)
theorem Dks.reps {kvs : DD} {xs : List (Key × V)} (h : Dks K F kvs xs) : Reps K F (kvs.map (·.1)) (xs.map fun q => kV q.1) ∧ Reps K F (kvs.map (·.2)) (xs.map fun q => q.2) := by
  induction h with
  | nil => exact ⟨Reps.nil, Reps.nil⟩
  | cons hk hr r t ih => exact ⟨Reps.cons hr ih.1, Reps.cons r ih.2⟩
end
def D.dic (kvs : DD) : D := .dct (kvs.map (·.1)) (kvs.map (·.2))
theorem zip_dic (kvs : DD) : (kvs.map (·.1)).zip (kvs.map (·.2)) = kvs := by
  induction kvs with
  | nil => rfl
  | cons a l ih => rw [List.map_cons, List.map_cons, List.zip_cons_cons, ih]
theorem Rep.of_dic {K : PySem.W.Frag} {F : Hp} {kvs : DD} {v : V} (r : Rep K F (D.dic kvs) v) : ∃ p xs, v = .ref p ∧ F p = some (.dK xs) ∧ Dks K F kvs xs := by
  obtain ⟨p, kv, e, h, r1, r2⟩ := r.of_dct
  have := dks_of r1 r2
  rw [zip_dic] at this
  exact ⟨p, kv, e, h, this⟩
section
variable {K : PySem.W.Frag} {G H₀ L : Hp} {ss : List Sl} {i : Nat} {p : Addr} {kvs : DD} {E : Ends} {ty td tv tx : TE} {k d z : D}
theorem nx_freezeM {N : St → Hp → Prop} (hs : ss[i]? = some (dsl K p kvs)) (h : Nx K G H₀ L N (ss.set i (.d (D.dic kvs)))) : Nx K G H₀ L N ss := fun F H σ S => by
  obtain ⟨e, h0, fp, xs, hp, dk⟩ := S.getM hs
  have hget : σ.getD i none = some (.ref p) := by rw [List.getD_eq_getElem?_getD, e]; rfl
  have dk2 := dk.mono (Same.upd (o := .dK xs) fp)
  obtain ⟨r1, r2⟩ := dk2.reps
  exact h _ H σ (S.put (S.ext.freeze fp h0 hp) (S.fl.trans (Same.upd fp)) rfl (fun _ _ => rfl) (fun _ => by rw [hget]; exact ⟨_, rfl, Rep.dct upd_same r1 r2⟩) (by simp [Sl.ads]) (fun _ _ _ _ q hq => by simp [Sl.ads] at hq)
    fun j s' hj h => (S.ok j s' h).frz fp (S.ne i j _ s' (Ne.symm hj) hs h p (by simp [dsl, Sl.ads])))
theorem ev_dgetF (a : Ev K G H₀ L ss td (D.dic kvs)) (b : EvB K G H₀ L ss ty k) (hk : k.isK = true) (hv : valD kvs k = some d) : Ev K G H₀ L ss (tDGet td ty) d := fun F H σ Q S q =>
  a F H σ _ S fun x F1 H1 e1 r1 => b F1 H1 σ _ (S.ext2 e1) fun v F2 H2 e2 r2 => by
    obtain ⟨p, xs, rfl, hp, dk⟩ := r1.of_dic
    have dk2 := dk.mono e2.gf
    rcases dk2.val hk with ⟨h1, _⟩ | ⟨d', w, h1, h2, rw'⟩
    · rw [h1] at hv; cases hv
    · rw [h1] at hv; cases hv
      refine ⟨p, w, rfl, ?_, q w F2 H2 (e1.trans e2) rw'⟩
      rw [rep_key hk r2, ← h2]
      exact DGet.k (e2.fh _ _ (e2.gf _ _ hp))
theorem isSome_dks {F : Hp} {xs : List (Key × V)} (dk : Dks K F kvs xs) (hk : k.isK = true) : (valV xs k.key).isSome = (valD kvs k).isSome := by
  rcases dk.val hk with ⟨h1, h2⟩ | ⟨d', w, h1, h2, _⟩ <;> rw [h1, h2] <;> rfl
theorem ev_dnotinF (a : Ev K G H₀ L ss td (D.dic kvs)) (b : EvB K G H₀ L ss ty k) (hk : k.isK = true) : Ev K G H₀ L ss (tDNotIn ty td) (.bl (!(valD kvs k).isSome)) := fun F H σ Q S q =>
  b F H σ _ S fun v F1 H1 e1 r1 => a F1 H1 σ _ (S.ext2 e1) fun x F2 H2 e2 r2 => by
    obtain ⟨p, xs, rfl, hp, dk⟩ := r2.of_dic
    refine ⟨p, valV xs k.key, rfl, by rw [rep_key hk r1]; exact DGet.k (e2.fh _ _ hp), q _ F2 H2 (e1.trans e2) ?_⟩
    rw [isSome_dks dk hk]; exact Rep.bl
theorem ev_dget2F (a : Ev K G H₀ L ss td (D.dic kvs)) (b : EvB K G H₀ L ss ty k) (c : Ev K G H₀ L ss tx z) (hk : k.isK = true) : Ev K G H₀ L ss (tDGet2 td ty tx) ((valD kvs k).getD z) := fun F H σ Q S q =>
  a F H σ _ S fun x F1 H1 e1 r1 => by
    obtain ⟨p, xs, rfl, hp, dk⟩ := r1.of_dic
    refine ⟨p, rfl, .inl ⟨xs, .inl (e1.fh _ _ hp)⟩, b F1 H1 σ _ (S.ext2 e1) fun v F2 H2 e2 r2 => c F2 H2 σ _ ((S.ext2 e1).ext2 e2) fun w F3 H3 e3 r3 => ?_⟩
    have e := (e1.trans e2).trans e3
    have dk2 := dk.mono (e2.gf.trans e3.gf)
    refine ⟨valV xs k.key, by rw [rep_key hk r2]; exact DGet.k (e3.fh _ _ (e3.gf _ _ (e2.gf _ _ hp))), q _ F3 H3 e ?_⟩
    rcases dk2.val hk with ⟨h1, h2⟩ | ⟨d', u, h1, h2, ru⟩ <;> rw [h1, h2]
    · exact r3
    · exact ru
end
end L2

namespace L2
open PySem PySem.Spec PyProof.Rows
section
variable {X : Cx}
theorem is_kV {P : Program} {w : World} {k : Key} {u : Value} (h : (mixKind P w).is k u = true) : RelV (kV k) u := by
  rcases keyIs_shape h with ⟨i, t, rfl, rfl⟩ | ⟨x, t, rfl, rfl⟩
  · exact ⟨t, rfl⟩
  · exact ⟨t, rfl⟩
theorem keys_are {P : Program} {w : World} {kvs : List (Key × V)} {vs : List (Key × Value)} (r : KV kvs vs) : ∀ {us : List Value}, us.length = vs.length → (∀ (j : Nat) v, us[j]? = some v → ∃ k x, vs[j]? = some (k, x) ∧ (mixKind P w).is k v = true) → Vals (kvs.map fun q => kV q.1) us := by
  induction r with
  | nil =>
    intro us hl _
    cases us with
    | nil => exact .nil
    | cons => simp at hl
  | cons h t ih =>
    intro us hl hv
    cases us with
    | nil => simp at hl
    | cons u us =>
      refine .cons ?_ (ih (by simpa using hl) fun j v e => ?_)
      · obtain ⟨k, x, e, hk⟩ := hv 0 u rfl
        simp only [List.getElem?_cons_zero, Option.some.injEq] at e
        rw [e] at h
        have h1 := h.1
        simp only at h1
        show RelV (kV _) u
        rw [h1]
        exact is_kV hk
      · exact hv (j + 1) v e
def rListD : List V → Hp → VK → Prop := fun xs H Q => ∃ d kvs, xs = [.ref d] ∧ H d = some (.dK kvs) ∧ ∀ l, H l = none → Q (.ref l) (upd H l (.lst (kvs.map fun q => kV q.1)))
theorem call_list_dict (hc : X.calm = true) : CallR X (.type "list") rListD := by
  intro pins s σ H xs us Q I rs h
  obtain ⟨d, kvs, rfl, e, q⟩ := h
  obtain ⟨u, rfl, ru⟩ := vals1 rs
  cases ru
  obtain ⟨hz, hd, vs, rel, dd⟩ := dk_of I.hok e
  obtain ⟨ep, da⟩ := dd.dictAt
  have hzz : vs.length ≤ sizeLine := by rw [← rel.length]; exact hz
  refine PySem.W.kdl_call (PySem.W.kdl_dict (kvs := vs) (d := d) (ep := ep) hd) (I.ok.hd hc) da hzz fun h' tk acc c' hk hD hacc => ?_
  have hval : Vals (kvs.map fun q => kV q.1) acc.toList := keys_are (P := X.prog) (w := X.w) rel (by rw [Array.length_toList]; exact hacc.1) fun j v hj => hacc.2 j v (by rw [← Array.getElem?_toList]; exact hj)
  exact ⟨.ref s.heap.objs.size, _, I.laid hk (Nat.le_refl _) (show ObjOk X.prog X.w _ _ _ (.lst _) from ⟨by rw [List.length_map]; exact hz, acc.toList, c', hval, by simpa using hD⟩), rfl, q _ I.fresh⟩
theorem sortedD_call {prog : Program} {w : World} {A : Around} {E : Value → Shared → Prop} {s : Shared} {T : String} {r d : Addr} {n : Nat} {P : Nat → Value → Prop} {OK : Heap → Prop} {Q : Value → Shared → Prop} (K : PySem.W.KdlSrc prog w T r d n P OK) (Out : List Value → Array Value → Prop) (hh : A.handled = none) (hok : OK s.heap) (hn : n ≤ sizeLine)
    (hs : ∀ (vs : List Value) (g : Heap) (h' : Heap) (tk : Nat), ItemsOf P vs.toArray n → 2 ≤ vs.length → Keeps s.heap g → Keeps g h' → Sorts prog w A.in1.in1 { s with heap := h', toks := tk } vs (Out vs)) (h1 : ∀ vs : List Value, ItemsOf P vs.toArray n → vs.length < 2 → Out vs vs.toArray)
    (h : ∀ (vs : List Value) out c (g : Heap) (h' : Heap) (tk : Nat), ItemsOf P vs.toArray n → Keeps s.heap g → Keeps g h' → h'.get? g.objs.size = some (seqObj "list" out c) → out.size = vs.length → Out vs out → Q (.ref g.objs.size) { s with heap := h', toks := tk }) :
    wpAny (model prog w) A (call (.builtin "sorted") [.ref r]) Q E s := by
  refine Calls.call_function_entry kind_sorted plain_sorted entry_sorted (args_sorted1 _) ?_
  unfold Builtin.«sorted»
  refine wpAny_bind (m := checkCount "sorted" 1 1 _) (wpAny_pure ?_)
  refine wpAny_bind (PySem.W.kdu_collect K (by simp [hh]) hok hn fun g1 tk acc K1 hacc => ?_)
  generalize hvs : acc.toList = vs
  have hacc : ItemsOf P vs.toArray n := by rw [← hvs]; simpa using hacc
  have hz : vs.length ≤ sizeLine := by
    have := hacc.1
    simp at this
    omega
  refine wpAny_bind (wpAny_newList ?_ hz)
  dsimp only
  have hg : (g1.push { cls := .type "list", data := .seq vs.toArray }).get? g1.objs.size = some (seqObj "list" vs.toArray 0) := Heap.get?_push_size _ rfl
  have k2 : Keeps g1 (g1.push { cls := .type "list", data := .seq vs.toArray }) := fun b u e => Heap.get?_push_of_some _ e
  have ne : ∀ b u, g1.get? b = some u → b ≠ g1.objs.size := fun b u e => Nat.ne_of_lt (Heap.lt_size e)
  refine wpAny_bind (wpAny_holding (wpAny_call_entry slot_list_sort ⟨_, hg, rfl⟩ entry_list_sort (sort_shell (s := { s with heap := g1.push { cls := .type "list", data := .seq vs.toArray }, toks := tk }) (Out vs) hg hz
    (fun h2 h' k => hs vs g1 h' tk hacc h2 K1 fun b u e => k b u (ne b u e) (k2 b u e)) (h1 vs hacc) fun out c h' k hc hsz hO => ⟨_, rfl, ?_⟩) (args_list_sort _)))
  exact wpAny_pure ⟨_, rfl, h vs out c g1 h' tk hacc K1 (fun b u e => k b u (ne b u e) (k2 b u e)) hc hsz hO⟩
def rSortDk (K : PySem.W.Frag) : List V → Hp → VK → Prop := fun xs H Q => ∃ d kvs ds, xs = [.ref d] ∧ H d = some (.dK kvs) ∧ Reps K H ds (kvs.map fun q => kV q.1) ∧ Alike ds ∧
  ∀ l (pm : List Nat), pm.Perm (List.range ds.length) → (pm.map fun i => ds.getD i .non) = sortD ds → H l = none → Q (.ref l) (upd H l (.lst (pm.map fun i => (kvs.map fun q => kV q.1).getD i .non)))
theorem call_sortedDk (hc : X.calm = true) : CallR X (.builtin "sorted") (rSortDk X.K) := by
  intro pins s σ H xs us Q I r h
  obtain ⟨d, kvs, ds, rfl, e, rs, hal, q⟩ := h
  obtain ⟨u, rfl, ru⟩ := vals1 r
  cases ru
  obtain ⟨hz, hd, vs, rel, dd⟩ := dk_of I.hok e
  obtain ⟨ep, da⟩ := dd.dictAt
  have hzz : vs.length ≤ sizeLine := by rw [← rel.length]; exact hz
  have l1 := rs.length
  have key : ∀ its : List Value, ItemsOf (fun i v => ∃ k x, vs[i]? = some (k, x) ∧ (mixKind X.prog X.w).is k v = true) its.toArray vs.length → Vals (kvs.map fun q => kV q.1) its := fun its hacc =>
    keys_are (P := X.prog) (w := X.w) rel (by simpa using hacc.1) fun j v hj => hacc.2 j v (by simpa using hj)
  refine sortedD_call (PySem.W.kdl_dict (kvs := vs) (d := d) (ep := ep) hd) (fun its => OutK (rk ds) its) (I.ok.hd hc) da hzz (fun its g h' tk hacc h2 kg k => ?_) (fun its hacc h1 => outK_short h1) fun its out c g h' tk hacc kg k hcell hsz hO => ?_
  · exact sorts_alike (A' := X.A.in1.in1) (I.kept (h' := g) (t' := tk) kg) rs (key its hacc) hal h2 k
  · have rv := key its hacc
    have l2 := rv.length
    obtain ⟨p, hp, ho, hs⟩ := hO
    have hmem : ∀ i ∈ p, i < its.length := fun i hi => List.mem_range.mp (hp.mem_iff.mp hi)
    have hpm : (p.map fun i => ds.getD i .non).Perm ds := by
      have h1 := hp.map (fun i => ds.getD i D.non)
      have h2 : (List.range its.length).map (fun i => ds.getD i D.non) = ds := by
        rw [← l2, ← l1]
        refine List.ext_getElem? fun i => ?_
        rw [List.getElem?_map]
        by_cases hi : i < ds.length
        · rw [List.getElem?_range hi, List.getElem?_eq_getElem hi]
          simp [List.getD_eq_getElem?_getD, hi]
        · rw [List.getElem?_eq_none (by simpa using hi), List.getElem?_eq_none (by simpa using hi)]; rfl
      rw [h2] at h1; exact h1
    have hso : (p.map fun i => ds.getD i .non).Pairwise fun a b => a.leB b = true := by
      rw [List.pairwise_map]
      refine List.Pairwise.imp_of_mem (fun {i j} hi hj h => rk_le (by have := hmem i hi; omega) (by have := hmem j hj; omega) h) hs
    have eD := sortD_eq hal hpm hso
    have hv := rv.pick p (by rw [l2]; exact hmem)
    rw [← ho] at hv
    have hplen : p.length = its.length := by rw [hp.length_eq, List.length_range]
    have I1 := I.kept (h' := g) (t' := tk) kg
    refine ⟨.ref g.objs.size, _, I1.laid (t' := tk) (h' := h') k (Nat.le_refl _) (show ObjOk X.prog X.w _ _ _ (.lst _) from ⟨by rw [List.length_map, hplen, ← l2, List.length_map]; exact hz, out.toList, c, hv, by simpa [seqObj] using hcell⟩), rfl, q _ p (by rw [l1, l2]; exact hp) eD (I1.hok.fresh (Nat.le_refl _))⟩
def rMulS : R2 := fun x y H Q => ∃ z n, x = .str z ∧ y = .int n ∧ MulOk z n ∧ Q (.str (Txt.mul z n)) H
theorem op_mulS : OpR X (binaryOp .Mult) rMulS := by
  intro pins s σ H x y v u Q I rx ry h
  obtain ⟨z, n, rfl, rfl, hz, q⟩ := h
  obtain ⟨t, rfl⟩ := rx
  obtain ⟨t', rfl⟩ := ry
  exact SB.mul hz fun t' tk => ⟨.str (Txt.mul z n), H, I.tok _, ⟨_, rfl⟩, q⟩
end
theorem fold_rep (l : List Nat) : ∀ (k : Nat) (acc : List Nat), (List.replicate k l.toArray).foldl (· ++ ·) acc.toArray = (acc ++ (List.replicate k l).flatten).toArray
  | 0, acc => by simp
  | k + 1, acc => by
    rw [List.replicate_succ, List.foldl_cons, List.replicate_succ, List.flatten_cons, ← List.append_assoc]
    have : acc.toArray ++ l.toArray = (acc ++ l).toArray := by simp
    rw [this]; exact fold_rep l k (acc ++ l)
theorem T_mul (l : List Nat) (n : Nat) : Txt.mul (T l) (n : Int) = T (List.replicate n l).flatten := by
  unfold Txt.mul
  by_cases h : (n : Int) < 1
  · have : n = 0 := by omega
    subst this; rw [if_pos h]; rfl
  · rw [if_neg h]
    by_cases h2 : ((n : Int) == 1 || (T l).length == 0) = true
    · rw [if_pos h2]
      rw [Bool.or_eq_true, beq_iff_eq, beq_iff_eq, T_len] at h2
      rcases h2 with h2 | h2
      · have : n = 1 := by omega
        subst this; simp
      · have : l = [] := List.length_eq_zero_iff.mp h2
        subst this
        have : (List.replicate n ([] : List Nat)).flatten = [] := by simp
        rw [this]
    · rw [if_neg h2]
      have e := fold_rep l n []
      rw [List.nil_append] at e
      show (⟨(List.replicate (n : Int).toNat l.toArray).foldl (· ++ ·) #[]⟩ : Str) = ⟨_⟩
      rw [Int.toNat_natCast]
      exact congrArg Str.mk e
theorem mul_ok {l : List Nat} {n : Nat} (hl : l.length ≤ 1000) (hn : n ≤ 1000) : MulOk (T l) (n : Int) := by
  have hm : l.length * n ≤ 1000 * 1000 := Nat.mul_le_mul hl hn
  refine ⟨?_, fun h1 _ => ?_, fun _ _ => ?_⟩
  · rw [Bool.or_eq_false_iff]
    exact ⟨decide_eq_false (by omega), decide_eq_false (by omega)⟩
  · rw [T_len]
    have : (l.length : Int) ≤ (2 ^ 63 - 1) / (n : Int) := by
      rw [Int.le_ediv_iff_mul_le (by omega)]
      have : ((l.length * n : Nat) : Int) ≤ 1000 * 1000 := by exact_mod_cast hm
      rw [Int.natCast_mul] at this
      omega
    omega
  · rw [T_len, Int.toNat_natCast]
    unfold Builtin.Str.tooLong
    exact decide_eq_false (by rw [sizeLine_eq]; omega)
section
variable {K : PySem.W.Frag} {G H₀ L : Hp} {ss : List Sl} {ta tb : TE}
theorem ev_mulS {l : List Nat} {n : Nat} (a : EvB K G H₀ L ss ta (.str l)) (b : EvB K G H₀ L ss tb (.int n)) (hl : l.length ≤ 1000) (hn : n ≤ 1000) : Ev K G H₀ L ss (tOp rMulS ta tb) (.str (List.replicate n l).flatten) :=
  ev_op2 (w := .str (T (List.replicate n l).flatten)) a b (fun H x y Q r1 r2 q => ⟨T l, n, r1.of_str, r2.of_int, mul_ok hl hn, by rw [T_mul]; exact q⟩) fun _ _ _ _ r1 _ => Rep.str fun c hc => by
    obtain ⟨l', hl', hc'⟩ := List.mem_flatten.mp hc
    rw [(List.mem_replicate.mp hl').2] at hc'
    exact r1.asc c hc'
end
end L2

namespace L2
open PySem PySem.W PySem.Spec PyProof.Rows
section
variable {P : Program} {w : World} {K : PySem.W.Frag} {mg : Str → Option Value} {base : Heap} {N : List Str} {qual : Str} {scope : Scope} {f : Addr} {cd : Value} {A : Around} {outer : List Env} {s : Shared} {H : Hp} {E : XK}
theorem ObjOk.there {h : Heap} {a : Addr} {o : HO} (x : ObjOk P w H h a o) : ∃ ob, h.get? a = some ob := by
  cases o with
  | lst xs => obtain ⟨_, _, _, _, e⟩ := x; exact ⟨_, e⟩
  | tup xs => obtain ⟨_, _, _, ob, e, _⟩ := x; exact ⟨_, e⟩
  | dK kvs => obtain ⟨_, _, _, _, o, _, _, e, _⟩ := x; exact ⟨_, e⟩
  | dT kvs => obtain ⟨_, _, _, _, o, _, _, e, _⟩ := x; exact ⟨_, e⟩
  | set S n => obtain ⟨o, _, _, _, e, _⟩ := x; exact ⟨_, e⟩
  | ins C dx fs => obtain ⟨_, _, _, e, _⟩ := x; exact ⟨_, e⟩
  | own y => obtain ⟨_, e⟩ := x; exact ⟨_, e⟩
  | xd fs => obtain ⟨_, ⟨_, _, _, e, _⟩, _⟩ := x; exact ⟨_, e⟩
  | rng lo hi => obtain ⟨_, _, _, e⟩ := x; exact ⟨_, e⟩
  | frz ob u => obtain ⟨e, _⟩ := x; exact ⟨_, e⟩
  | tbl ps => exact ⟨_, x⟩
  | met f y => exact ⟨_, x⟩
  | ext φ => obtain ⟨_, e, _⟩ := x; exact e
end
end L2

namespace L2
open PySem PySem.W PySem.Spec PyProof.Rows
end L2

namespace L2
open PySem PySem.W PySem.Spec PyProof.Rows PySem.Calls Builtin Builtin.ObjectAttr Builtin.Getset_descriptor
structure XTell (K : PySem.W.Frag) (C : Addr) : Prop where
  ga : findIn K (.ref C) "__getattribute__" = some (some (.builtin "BaseException.__getattribute__"))
  gt : findIn K (.ref C) "__getattr__" = some none
  mb : mroIn K C (.type "BaseException") = some true
  fc : findIn K (.ref C) "__class__" = some (some (.builtin "object.__class__"))
  sp : specialIn K (.builtin "object.__class__") "__get__" = some (some (.builtin "getset_descriptor.__get__"))
  tk : takesIn K (.builtin "object.__class__") = some true
  mo : mroIn K C (.type "object") = some true
  dc : hasDictIn K C = true
section
variable {K : PySem.W.Frag} {x C : Addr}
def XAt (x C : Addr) (h : Heap) : Prop := ∃ o, h.get? x = some o ∧ o.cls = .ref C
theorem XAt.ty {M : Model} {h : Heap} (p : XAt x C h) : Looks M h (typeOf (.ref x)) (.ref C) := by
  obtain ⟨o, ho, hc⟩ := p
  rw [← hc]; exact (Looks.ld ho).andThen .now
end
end L2

namespace L2
open PySem PySem.W PyProof.Rows
end L2

namespace L2
open PySem PySem.W PyProof.Rows
end L2

namespace L2
open PySem PySem.W PySem.Spec PyProof.Rows
abbrev QS := List (Addr × List D)
section
variable {K : PySem.W.Frag} {G H₀ L : Hp} {ss : List Sl} {i : Nat} {p : Addr} {kqs : KQ} {kvs : DD} {qs : QS} {E : Ends} {D0 : XK} {t : TA} {te ta td : TE} {d : D} {ds : List D} {dss : List (List D)} {pre : List D → Prop} {res : List D → List (List D)}
mutual
def D.nm : D → Bool
  | .lst _ => false
  | .dct ks vs => D.nms ks && D.nms vs
  | .dctT _ _ => false
  | .ins _ _ _ => false
  | .tup a => D.nms a
  | _ => true
def D.nms : List D → Bool
  | [] => true
  | a :: x => a.nm && D.nms x
end
def cut (F : Hp) (as : List Addr) : Hp := fun b => if b ∈ as then none else F b
theorem evo_listM (hs : ss[i]? = some (dsl K p kvs)) : EvO K G H₀ L ss (tCB rListD (tCons (tVar i) tNil)) (kvs.map (·.1)) := fun F H σ Q S q => by
  obtain ⟨e, h0, fp, xs, hp, dk⟩ := S.getM hs
  exact ⟨_, e, p, xs, rfl, hp, fun l hl => q l _ F _ ((Ext.refl S.ext.fh).newO hl) hl (S.ext.fh.free hl) upd_same dk.reps.1⟩
theorem evo_sortedF (a : Ev K G H₀ L ss td (D.dic kvs)) (hal : Alike (kvs.map (·.1))) : EvO K G H₀ L ss (tCB (rSortDk K) (tCons td tNil)) (sortD (kvs.map (·.1))) := fun F H σ Q S q =>
  a F H σ _ S fun v F1 H1 e1 r1 => by
    obtain ⟨p, xs, rfl, hp, dk⟩ := r1.of_dic
    refine ⟨p, xs, kvs.map (·.1), rfl, e1.fh p _ hp, dk.reps.1.mono e1.fh, hal, fun l pm hpm hs hl => ?_⟩
    have hmem : ∀ i ∈ pm, i < (kvs.map (·.1)).length := fun i hi => List.mem_range.mp (hpm.mem_iff.mp hi)
    have := dk.reps.1.pick pm hmem
    rw [hs] at this
    exact q l _ F1 _ (e1.newO hl) (e1.hh.free hl) (e1.fh.free hl) upd_same this
end
end L2

namespace L2
open PySem PySem.W PySem.Spec PyProof.Rows
def rIsN : R2 := fun x y H Q => y = .non ∧ Q (.bl (decide (x = .non))) H
def rNotN : R2 := fun x y H Q => y = .non ∧ Q (.bl (!decide (x = .non))) H
theorem rep_non_iff {K : PySem.W.Frag} {H : Hp} {d : D} {x : V} (r : Rep K H d x) : (x = .non) ↔ d = .non := by
  cases d with
  | non => exact ⟨fun _ => rfl, fun _ => r.of_non⟩
  | bl b => rw [r.of_bl]; exact ⟨fun h => (by cases h), fun h => (by cases h)⟩
  | int b => rw [r.of_int]; exact ⟨fun h => (by cases h), fun h => (by cases h)⟩
  | str b => rw [r.of_str]; exact ⟨fun h => (by cases h), fun h => (by cases h)⟩
  | lst b => obtain ⟨p, xs, rfl, _⟩ := r.of_lst; exact ⟨fun h => (by cases h), fun h => (by cases h)⟩
  | tup b => obtain ⟨p, xs, rfl, _⟩ := r.of_tup; exact ⟨fun h => (by cases h), fun h => (by cases h)⟩
  | dct a b => obtain ⟨p, xs, rfl, _⟩ := r.of_dct; exact ⟨fun h => (by cases h), fun h => (by cases h)⟩
  | dctT a b => rw [Rep] at r; obtain ⟨p, xs, rfl, _⟩ := r; exact ⟨fun h => (by cases h), fun h => (by cases h)⟩
  | ins a b c => obtain ⟨p, dx, fs, rfl, _⟩ := r.of_ins; exact ⟨fun h => (by cases h), fun h => (by cases h)⟩
section
variable {K : PySem.W.Frag} {G H₀ L : Hp} {ss : List Sl} {i : Nat} {E : Ends} {te tk tv : TE} {k d : D} {c : TT} {tb : TS}
theorem ev_isN (a : EvB K G H₀ L ss te d) : Ev K G H₀ L ss (tOp rIsN te (tC .non)) (.bl (decide (d = .non))) := fun F H σ Q S q =>
  a F H σ _ S fun x F1 H1 e1 r1 => ⟨rfl, by
    rw [decide_eq_decide.mpr (rep_non_iff r1)]
    exact q _ _ _ e1 Rep.bl⟩
theorem ev_notN (a : EvB K G H₀ L ss te d) : Ev K G H₀ L ss (tOp rNotN te (tC .non)) (.bl (!decide (d = .non))) := fun F H σ Q S q =>
  a F H σ _ S fun x F1 H1 e1 r1 => ⟨rfl, by
    rw [decide_eq_decide.mpr (rep_non_iff r1)]
    exact q _ _ _ e1 Rep.bl⟩
theorem go_while (I : Nat → List Sl → Prop) (m0 : Nat) (h0 : I m0 ss)
    (hs : ∀ m ss, I m ss → ∃ b, EvT K G H₀ L ss c b ∧ (b = true → ∀ N : St → Hp → Prop, (∀ m' ss, m' < m → I m' ss → Nx K G H₀ L N ss) → Go K G H₀ L { E with nx := N, ct := N, bk := E.nx } ss tb) ∧ (b = false → Nx K G H₀ L E.nx ss)) : Go K G H₀ L E ss (tWhile c tb) := fun F H σ S =>
  ⟨fun m σ' H' => At K G H₀ L (I m) σ' H', ⟨m0, ss, F, S, h0⟩, fun m σ' H' ⟨ss1, F1, S1, h1⟩ => by
    obtain ⟨b, ev, ht, hf⟩ := hs m ss1 h1
    refine ev F1 H' σ' _ S1 fun F2 H2 e2 => ?_
    cases b with
    | true =>
      rw [if_pos rfl]
      exact ⟨fun σ'' H'' => ∃ m', m' < m ∧ At K G H₀ L (I m') σ'' H'', fun σ'' H'' h => h, ht rfl _ (fun m' ss hm hI => fun F3 H3 σ3 S3 => ⟨m', hm, ss, F3, S3, hI⟩) F2 H2 σ' (S1.ext2 e2)⟩
    | false =>
      rw [if_neg Bool.false_ne_true]
      exact hf rfl F2 H2 σ' (S1.ext2 e2)⟩
theorem go_setM1 (b : EvB K G H₀ L ss tk k) (hk : k.isK = true) (a : Ev K G H₀ L ss tv d) (h : ∀ p, Nx K G H₀ L E.nx (ss.set i (dsl K p [(k, d)]))) : Go K G H₀ L E ss (tAsg (tDisp [(tk, tv)]) (gName i)) := fun F H σ S p hp => by
  have e0 := (Ext.refl S.ext.fh).newO (o := .dK []) hp
  refine b F _ σ _ (S.ext2 e0) fun v F1 H1 e1 r1 => a F1 H1 σ _ ((S.ext2 e0).ext2 e1) fun w F2 H2 e2 r2 => ?_
  have hp1 : H1 p = some (.dK []) := e1.hh p _ upd_same
  have hp2 : H2 p = some (.dK []) := e2.hh p _ hp1
  have fp : F2 p = none := by rw [e2.no p _ hp1, e1.no p _ upd_same]; exact S.ext.fh.free hp
  refine ⟨hp2, [(k.key, w)], by rw [rep_key hk r1]; rfl, by simp, ?_⟩
  have e : Ext F H F2 (upd H2 p (.dK (mergeK [] [(k.key, w)]))) := ((e0.trans e1).trans e2).write fp hp
  have S' := S.ext2 e
  refine h p F2 _ _ (S'.put S'.ext S'.fl (by simp) (fun j hj => getD_set_ne (Ne.symm hj)) (fun hi => ?_) (by simp [dsl, Sl.ads]) (fun j s' hj hs q hq => ?_) fun j s' hj hs => S'.ok j s' hs)
  · rw [getD_set_self (by rw [S.len]; exact hi)]
    exact ⟨rfl, fun a ha => by rw [List.mem_singleton.mp ha]; exact ⟨S.ext.hh.free hp, fp, _, upd_same⟩, ⟨[(k.key, w)], by rw [upd_same]; rfl, .cons hk (key_rep hk r1) r2 .nil⟩, dW_stab K p _⟩
  · have : q = p := by simpa [dsl, Sl.ads] using hq
    subst this
    exact fun hin => (S.ok j s' hs).live hin hp
end
end L2

namespace L2
theorem snoc_ind {α : Type} {P : List α → Prop} (h0 : P []) (hs : ∀ xs x, P xs → P (xs ++ [x])) (xs : List α) : P xs := by
  have : ∀ ys : List α, P ys.reverse := by
    intro ys
    induction ys with
    | nil => exact h0
    | cons y ys ih => rw [List.reverse_cons]; exact hs _ _ ih
  have := this xs.reverse
  rwa [List.reverse_reverse] at this
section
variable {α β γ : Type} [DecidableEq α] [DecidableEq β] [DecidableEq γ] {f : α → β} {g : α → γ} {xs : List α} {x : α}
def SameK (xs : List α) (f : α → β) (g : α → γ) : Prop := ∀ a ∈ xs, ∀ b ∈ xs, (f a = f b ↔ g a = g b)
def stepF (k l : β) (f : α → β) : α → β := fun t => if f t = l then k else f t
theorem step_ker {k l : β} {x y a b : α} (h : (k = f x ∧ l = f y) ∨ (k = f y ∧ l = f x)) : stepF k l f a = stepF k l f b ↔ f a = f b ∨ ((f a = f x ∨ f a = f y) ∧ (f b = f x ∨ f b = f y)) := by
  unfold stepF
  rcases h with ⟨rfl, rfl⟩ | ⟨rfl, rfl⟩
  · by_cases h1 : f a = f y <;> by_cases h2 : f b = f y <;> simp [h1, h2]
    · constructor
      · intro e; exact .inr e.symm
      · rintro (e | e)
        · exact absurd e.symm h2
        · exact e.symm
    · intro e e2; exact e.trans e2.symm
  · by_cases h1 : f a = f x <;> by_cases h2 : f b = f x <;> simp [h1, h2]
    · constructor
      · intro e; exact .inr e.symm
      · rintro (e | e)
        · exact absurd e.symm h2
        · exact e.symm
    · intro e e2; exact e.trans e2.symm
theorem ker_step {k l : β} {k' l' : γ} {x y : α} (hx : x ∈ xs) (hy : y ∈ xs) (h : SameK xs f g) (h1 : (k = f x ∧ l = f y) ∨ (k = f y ∧ l = f x)) (h2 : (k' = g x ∧ l' = g y) ∨ (k' = g y ∧ l' = g x)) : SameK xs (stepF k l f) (stepF k' l' g) := fun a ha b hb => by
  rw [step_ker h1, step_ker h2, h a ha b hb, h a ha x hx, h a ha y hy, h b hb x hx, h b hb y hy]
variable {enc : α → D} {encB : β → D}
def dA (enc : α → D) (encB : β → D) (xs : List α) (f : α → β) : DD := xs.map fun t => (enc t, encB (f t))
theorem valD_in (hi : ∀ a b, enc a = enc b → a = b) (h : x ∈ xs) : valD (dA enc encB xs f) (enc x) = some (encB (f x)) := by
  induction xs with
  | nil => cases h
  | cons y ys ih =>
    by_cases e : y = x
    · subst e; simp [valD, dA]
    · have e2 : enc y ≠ enc x := fun z => e (hi _ _ z)
      have : valD (dA enc encB (y :: ys) f) (enc x) = valD (dA enc encB ys f) (enc x) := by simp [valD, dA, List.find?_cons, e2]
      rw [this]
      rcases List.mem_cons.mp h with z | z
      · exact absurd z.symm e
      · exact ih z
theorem valD_out (hi : ∀ a b, enc a = enc b → a = b) (h : x ∉ xs) : valD (dA enc encB xs f) (enc x) = none := by
  induction xs with
  | nil => rfl
  | cons y ys ih =>
    have e2 : enc y ≠ enc x := fun z => h (by rw [hi _ _ z]; exact List.mem_cons_self)
    have : valD (dA enc encB (y :: ys) f) (enc x) = valD (dA enc encB ys f) (enc x) := by simp [valD, dA, List.find?_cons, e2]
    rw [this]
    exact ih fun z => h (List.mem_cons_of_mem _ z)
theorem dA_any (hi : ∀ a b, enc a = enc b → a = b) : ((dA enc encB xs f).any fun kv => decide (kv.1 = enc x)) = true ↔ x ∈ xs := by
  rw [List.any_eq_true]
  constructor
  · rintro ⟨kv, hkv, e⟩
    obtain ⟨y, hy, rfl⟩ := List.mem_map.mp hkv
    rw [← hi _ _ (of_decide_eq_true e)]; exact hy
  · intro h; exact ⟨_, List.mem_map.mpr ⟨x, h, rfl⟩, by simp⟩
theorem putD_in (hi : ∀ a b, enc a = enc b → a = b) (h : x ∈ xs) (v : β) : putD (dA enc encB xs f) (enc x) (encB v) = dA enc encB xs (fun u => if u = x then v else f u) := by
  unfold putD
  rw [if_pos ((dA_any hi).mpr h)]
  unfold dA
  rw [List.map_map]
  refine List.map_congr_left fun u _ => ?_
  show (if enc u = enc x then (enc u, encB v) else (enc u, encB (f u))) = (enc u, encB (if u = x then v else f u))
  by_cases e : u = x
  · rw [if_pos (by rw [e]), if_pos e]
  · rw [if_neg fun z => e (hi _ _ z), if_neg e]
theorem putD_new (hi : ∀ a b, enc a = enc b → a = b) (h : x ∉ xs) : putD (dA enc encB xs f) (enc x) (encB (f x)) = dA enc encB (xs ++ [x]) f := by
  unfold putD
  rw [if_neg fun z => h ((dA_any hi).mp z)]
  unfold dA
  rw [List.map_append]
  rfl
theorem dA_congr {g : α → β} (h : ∀ a ∈ xs, f a = g a) : dA enc encB xs f = dA enc encB xs g := by
  unfold dA
  exact List.map_congr_left fun a ha => by rw [h a ha]
end
end L2

namespace L2
section
variable {α : Type} [DecidableEq α]
structure Bfs (adj : α → α → Prop) (one : α) (R : List α) (par : α → Option α) (lev : α → Nat) : Prop where
  nd : R.Nodup
  one_in : one ∈ R
  par0 : par one = none
  lev0 : lev one = 0
  par_of : ∀ c ∈ R, c ≠ one → ∃ h ∈ R, par c = some h ∧ adj h c ∧ lev c = lev h + 1
  mono : R.Pairwise fun a b => lev a ≤ lev b
  bnd : ∀ c ∈ R, lev c < R.length
variable {adj : α → α → Prop} {one other : α} {R : List α} {par : α → Option α} {lev : α → Nat} {k : Nat}
def BDone (adj : α → α → Prop) (R : List α) (lev : α → Nat) (k : Nat) : Prop := ∀ j h, j < k → R[j]? = some h → ∀ y, adj h y → y ∈ R ∧ lev y ≤ lev h + 1
def BTop (R : List α) (lev : α → Nat) (k : Nat) : Prop := ∀ h, R[k]? = some h → ∀ c ∈ R, lev c ≤ lev h + 1
theorem Bfs.start (adj : α → α → Prop) (one : α) : Bfs adj one [one] (fun _ => none) (fun _ => 0) :=
  ⟨by simp, by simp, rfl, rfl, fun c hc h => absurd (List.mem_singleton.mp hc) h, by simp, fun _ _ => by simp⟩
theorem Bfs.add (B : Bfs adj one R par lev) {h c : α} (hk : R[k]? = some h) (top : BTop R lev k) (dn : BDone adj R lev k) (hc : c ∉ R) (ha : adj h c) :
    Bfs adj one (R ++ [c]) (fun u => if u = c then some h else par u) (fun u => if u = c then lev h + 1 else lev u) ∧ BTop (R ++ [c]) (fun u => if u = c then lev h + 1 else lev u) k ∧ BDone adj (R ++ [c]) (fun u => if u = c then lev h + 1 else lev u) k ∧ (R ++ [c])[k]? = some h := by
  have hR : h ∈ R := List.mem_of_getElem? hk
  have ne : ∀ u ∈ R, u ≠ c := fun u hu e => hc (e ▸ hu)
  have hkl := (List.getElem?_eq_some_iff.mp hk).1
  have hk2 : (R ++ [c])[k]? = some h := by rw [List.getElem?_append_left hkl]; exact hk
  have hh : (if h = c then lev h + 1 else lev h) = lev h := if_neg (ne h hR)
  refine ⟨⟨?_, List.mem_append_left _ B.one_in, ?_, ?_, fun u hu huo => ?_, ?_, fun u hu => ?_⟩, fun g hg u hu => ?_, fun j g hj hg y hy => ?_, hk2⟩
  · exact List.nodup_append.mpr ⟨B.nd, by simp, fun a ha b hb e => ne a ha (e.trans (List.mem_singleton.mp hb))⟩
  · show (if one = c then some h else par one) = none
    rw [if_neg (ne one B.one_in)]; exact B.par0
  · show (if one = c then lev h + 1 else lev one) = 0
    rw [if_neg (ne one B.one_in)]; exact B.lev0
  · rcases List.mem_append.mp hu with hu | hu
    · obtain ⟨g, hg, h1, h2, h3⟩ := B.par_of u hu huo
      refine ⟨g, List.mem_append_left _ hg, ?_, h2, ?_⟩
      · show (if u = c then some h else par u) = some g
        rw [if_neg (ne u hu)]; exact h1
      · show (if u = c then lev h + 1 else lev u) = (if g = c then lev h + 1 else lev g) + 1
        rw [if_neg (ne u hu), if_neg (ne g hg)]; exact h3
    · have e := List.mem_singleton.mp hu
      subst e
      refine ⟨h, List.mem_append_left _ hR, ?_, ha, ?_⟩
      · show (if u = u then some h else par u) = some h
        rw [if_pos rfl]
      · show (if u = u then lev h + 1 else lev u) = (if h = u then lev h + 1 else lev h) + 1
        rw [if_pos rfl, hh]
  · rw [List.pairwise_append]
    refine ⟨?_, by simp, fun a ha b hb => ?_⟩
    · refine List.Pairwise.imp_of_mem (fun {a b} ha hb h => ?_) B.mono
      show (if a = c then lev _ + 1 else lev a) ≤ (if b = c then lev _ + 1 else lev b)
      rw [if_neg (ne a ha), if_neg (ne b hb)]; exact h
    · show (if a = c then lev h + 1 else lev a) ≤ (if b = c then lev h + 1 else lev b)
      rw [if_neg (ne a ha), if_pos (List.mem_singleton.mp hb)]
      exact top h hk a ha
  · show (if u = c then lev h + 1 else lev u) < (R ++ [c]).length
    rw [List.length_append, List.length_singleton]
    by_cases e : u = c
    · rw [if_pos e]; have := B.bnd h hR; omega
    · rw [if_neg e]
      rcases List.mem_append.mp hu with hu | hu
      · have := B.bnd u hu; omega
      · exact absurd (List.mem_singleton.mp hu) e
  · rw [hk2] at hg
    cases hg
    show (if u = c then lev h + 1 else lev u) ≤ (if h = c then lev h + 1 else lev h) + 1
    rw [hh]
    by_cases e : u = c
    · rw [if_pos e]; exact Nat.le_refl _
    · rw [if_neg e]
      rcases List.mem_append.mp hu with hu | hu
      · exact top h hk u hu
      · exact absurd (List.mem_singleton.mp hu) e
  · rw [List.getElem?_append_left (by omega)] at hg
    obtain ⟨h1, h2⟩ := dn j g hj hg y hy
    have hgR : g ∈ R := List.mem_of_getElem? hg
    refine ⟨List.mem_append_left _ h1, ?_⟩
    show (if y = c then lev h + 1 else lev y) ≤ (if g = c then lev h + 1 else lev g) + 1
    rw [if_neg (ne y h1), if_neg (ne g hgR)]; exact h2
theorem Bfs.next (B : Bfs adj one R par lev) {h : α} (hk : R[k]? = some h) (top : BTop R lev k) (dn : BDone adj R lev k) (hn : ∀ y, adj h y → y ∈ R ∧ lev y ≤ lev h + 1) : BTop R lev (k + 1) ∧ BDone adj R lev (k + 1) := by
  refine ⟨fun g hg c hc => ?_, fun j g hj hg y hy => ?_⟩
  · have h1 := List.getElem?_eq_some_iff.mp hk
    have h2 := List.getElem?_eq_some_iff.mp hg
    have := (List.pairwise_iff_getElem.mp B.mono) k (k + 1) h1.1 h2.1 (by omega)
    rw [h1.2, h2.2] at this
    have := top h hk c hc
    omega
  · rcases Nat.lt_or_ge j k with c | c
    · exact dn j g c hg y hy
    · have : j = k := by omega
      subst this
      rw [hk] at hg; cases hg
      exact hn y hy
theorem bdone_all (dn : BDone adj R lev R.length) : ∀ h ∈ R, ∀ y, adj h y → y ∈ R ∧ lev y ≤ lev h + 1 := fun h hh y hy => by
  obtain ⟨j, hj⟩ := List.mem_iff_getElem?.mp hh
  exact dn j h (List.getElem?_eq_some_iff.mp hj).1 hj y hy
theorem Bfs.all (B : Bfs adj one R par lev) {P : α → Prop} (h0 : P one) (hs : ∀ a b, a ∈ R → adj a b → P a → P b) : ∀ c ∈ R, P c := by
  have : ∀ n, ∀ c ∈ R, lev c = n → P c := by
    intro n
    induction n using Nat.strongRecOn with
    | _ n ih =>
      intro c hc e
      by_cases h : c = one
      · rw [h]; exact h0
      · obtain ⟨g, hg, _, ha, hl⟩ := B.par_of c hc h
        exact hs g c hg ha (ih (lev g) (by omega) g hg rfl)
  exact fun c hc => this _ c hc rfl
structure Chn (adj : α → α → Prop) (R : List α) (lev : α → Nat) (one other : α) (ch : List α) (cur : Option α) : Prop where
  at_ : ∀ c, cur = some c → c ∈ R ∧ lev c + ch.length = lev other ∧ ∀ l, ch.getLast? = some l → adj c l
  end_ : cur = none → ch.getLast? = some one ∧ ch.length = lev other + 1
  adj : ∀ (i : Nat) a b, ch[i]? = some a → ch[i + 1]? = some b → adj b a
  head : ∀ l, ch.head? = some l → l = other
  empty : ch = [] → cur = some other
theorem Chn.start (ho : other ∈ R) : Chn adj R lev one other [] (some other) where
  at_ := fun c e => by cases e; exact ⟨ho, by simp, fun l e => by simp at e⟩
  end_ := fun e => by cases e
  adj := fun i a b e => by simp at e
  head := fun l e => by simp at e
  empty := fun _ => rfl
theorem getLast_snoc {β : Type} (l : List β) (x : β) : (l ++ [x]).getLast? = some x := by simp
theorem Chn.step (B : Bfs adj one R par lev) {ch : List α} {c : α} (C : Chn adj R lev one other ch (some c)) : Chn adj R lev one other (ch ++ [c]) (par c) := by
  obtain ⟨hc, hl, hla⟩ := C.at_ c rfl
  refine ⟨fun d e => ?_, fun e => ?_, fun i a b ha hb => ?_, fun l e => ?_, fun e => by simp at e⟩
  · have hne : c ≠ one := fun z => by rw [z, B.par0] at e; cases e
    obtain ⟨h, hh, h1, h2, h3⟩ := B.par_of c hc hne
    rw [h1] at e; cases e
    refine ⟨hh, by rw [List.length_append, List.length_singleton]; omega, fun l e => ?_⟩
    rw [getLast_snoc] at e; cases e; exact h2
  · have hone : c = one := Classical.byContradiction fun hne => by
      obtain ⟨h, hh, h1, h2, h3⟩ := B.par_of c hc hne
      rw [h1] at e; cases e
    rw [getLast_snoc]
    refine ⟨by rw [hone], ?_⟩
    rw [List.length_append, List.length_singleton, ← hl, hone, B.lev0]; omega
  · rcases Nat.lt_trichotomy (i + 1) ch.length with h | h | h
    · rw [List.getElem?_append_left (by omega)] at ha hb
      exact C.adj i a b ha hb
    · rw [List.getElem?_append_left (by omega)] at ha
      rw [List.getElem?_append_right (by omega), h, Nat.sub_self] at hb
      simp at hb; subst hb
      refine hla a ?_
      rw [List.getLast?_eq_getElem?, show ch.length - 1 = i by omega]; exact ha
    · rw [List.getElem?_eq_none (by rw [List.length_append, List.length_singleton]; omega)] at hb; cases hb
  · cases hch : ch with
    | nil =>
      rw [hch] at e
      simp at e
      have := C.empty hch
      cases this
      exact e.symm
    | cons y ys =>
      rw [hch] at e
      simp at e
      exact C.head l (by rw [hch]; simp [e])
structure ChnOk (adj : α → α → Prop) (one other : α) (n : Nat) (l : List α) : Prop where
  len : l.length = n + 1
  first : l[0]? = some one
  last : l[n]? = some other
  adj : ∀ (i : Nat) a b, l[i]? = some a → l[i + 1]? = some b → adj a b
theorem Chn.done {ch : List α} (C : Chn adj R lev one other ch none) : ChnOk adj one other (lev other) ch.reverse := by
  obtain ⟨h1, h2⟩ := C.end_ rfl
  have hl : ch.reverse.length = lev other + 1 := by rw [List.length_reverse]; exact h2
  refine ⟨hl, ?_, ?_, fun i a b ha hb => ?_⟩
  · rw [List.getElem?_reverse (by omega), ← h1, List.getLast?_eq_getElem?]; rfl
  · rw [List.getElem?_reverse (by omega), show ch.length - 1 - lev other = 0 by omega]
    cases hch : ch with
    | nil => rw [hch] at h2; simp at h2
    | cons y ys => rw [List.getElem?_cons_zero, C.head y (by rw [hch]; rfl)]
  · have hb2 := (List.getElem?_eq_some_iff.mp hb).1
    rw [hl] at hb2
    rw [List.getElem?_reverse (by omega)] at ha hb
    refine C.adj (ch.length - 1 - (i + 1)) b a hb ?_
    rw [show ch.length - 1 - (i + 1) + 1 = ch.length - 1 - i by omega]; exact ha
theorem Bfs.round (B : Bfs adj one R par lev) (dn : ∀ h ∈ R, ∀ y, adj h y → y ∈ R ∧ lev y ≤ lev h + 1) {S cards : List α} {r : Nat} (sym : ∀ a b, adj a b → adj b a) (hR : ∀ c ∈ R, c ∈ cards) (hS : ∀ c, c ∈ S ↔ c ∈ R ∧ lev c ≤ r) (new : List α) (hnew : ∀ c, c ∈ new ↔ c ∈ cards ∧ c ∉ S ∧ ∃ y ∈ S, adj c y) : ∀ c, c ∈ S ++ new ↔ c ∈ R ∧ lev c ≤ r + 1 := fun c => by
  rw [List.mem_append, hS, hnew]
  constructor
  · rintro (⟨h1, h2⟩ | ⟨h1, h2, y, hy, ha⟩)
    · exact ⟨h1, by omega⟩
    · obtain ⟨y1, y2⟩ := (hS y).mp hy
      obtain ⟨z1, z2⟩ := dn y y1 c (sym _ _ ha)
      exact ⟨z1, by omega⟩
  · rintro ⟨h1, h2⟩
    by_cases h : lev c ≤ r
    · exact .inl ⟨h1, h⟩
    · refine .inr ⟨hR c h1, fun z => h ((hS c).mp z).2, ?_⟩
      have hne : c ≠ one := fun z => by rw [z, B.lev0] at h; omega
      obtain ⟨g, hg, _, ha, hl⟩ := B.par_of c h1 hne
      exact ⟨g, (hS g).mpr ⟨hg, by omega⟩, sym _ _ ha⟩
end
end L2

set_option maxHeartbeats 8000000
namespace My
open PySem L2 PyProof.Rows
def top (i : Nat) : Stmt := PySem.Challenge.pw_folk_k26_chains.main.body.getD i (.Pass ⟨0, 0, 0, 0⟩)
abbrev s_neighbours_of : Stmt := top 1
theorem sc_neighbours_of : FnScope ["book", "neighbours", "fact"] ["book"] (defScope s_neighbours_of) := ⟨rfl, rfl, rfl, by decide +kernel, rfl, by decide +kernel, by decide +kernel⟩
abbrev s_steps_from : Stmt := top 2
theorem sc_steps_from : FnScope ["book", "one", "neighbours", "ahead", "reached", "place", "here", "card"] ["book", "one"] (defScope s_steps_from) := ⟨rfl, rfl, rfl, by decide +kernel, rfl, by decide +kernel, by decide +kernel⟩
abbrev s_chain_of : Stmt := top 3
theorem sc_chain_of : FnScope ["book", "one", "other", "ahead", "chain", "card"] ["book", "one", "other"] (defScope s_chain_of) := ⟨rfl, rfl, rfl, by decide +kernel, rfl, by decide +kernel, by decide +kernel⟩
abbrev s_law_cell_at : Stmt := top 5
theorem sc_law_cell_at : FnScope ["_law_script", "_law_k"] ["_law_script", "_law_k"] (defScope s_law_cell_at) := ⟨rfl, rfl, rfl, by decide +kernel, rfl, by decide +kernel, by decide +kernel⟩
abbrev s_law_card : Stmt := top 6
theorem sc_law_card : FnScope ["_law_cell", "_law_k", "_law_many", "_law_at"] ["_law_cell", "_law_k"] (defScope s_law_card) := ⟨rfl, rfl, rfl, by decide +kernel, rfl, by decide +kernel, by decide +kernel⟩
abbrev s_law_fact : Stmt := top 7
theorem sc_law_fact : FnScope ["_law_shape", "_law_many", "_law_cell", "_law_aparts", "_law_i", "_law_j", "_law_way", "_law_field"] ["_law_shape", "_law_many", "_law_cell", "_law_aparts"] (defScope s_law_fact) := ⟨rfl, rfl, rfl, by decide +kernel, rfl, by decide +kernel, by decide +kernel⟩
abbrev s_law_book : Stmt := top 8
theorem sc_law_book : FnScope ["_law_facts", "_law_book_here", "_law_fact_here"] ["_law_facts"] (defScope s_law_book) := ⟨rfl, rfl, rfl, by decide +kernel, rfl, by decide +kernel, by decide +kernel⟩
abbrev s_law_labels : Stmt := top 9
theorem sc_law_labels : FnScope ["_law_book_here", "_law_labels_here", "_law_one", "_law_field", "_law_other", "_law_old", "_law_card_here"] ["_law_book_here"] (defScope s_law_labels) := ⟨rfl, rfl, rfl, by decide +kernel, rfl, by decide +kernel, by decide +kernel⟩
abbrev s_law_is_told : Stmt := top 10
theorem sc_law_is_told : FnScope ["_law_book_here", "_law_one", "_law_other"] ["_law_book_here", "_law_one", "_law_other"] (defScope s_law_is_told) := ⟨rfl, rfl, rfl, by decide +kernel, rfl, by decide +kernel, by decide +kernel⟩
abbrev s_law_rounds : Stmt := top 11
theorem sc_law_rounds : FnScope ["_law_book_here", "_law_cards", "_law_one", "_law_other", "_law_seen", "_law_rounds_here", "_law_new", "_law_card_here"] ["_law_book_here", "_law_cards", "_law_one", "_law_other"] (defScope s_law_rounds) := ⟨rfl, rfl, rfl, by decide +kernel, rfl, by decide +kernel, by decide +kernel⟩
abbrev s_law : Stmt := top 12
theorem sc_law : FnScope ["_law_script", "_law_many", "_law_facts", "_law_book_here", "_law_held", "_law_labels_here", "_law_cards", "_law_one", "_law_other", "_law_found", "_law_card_here", "_law_k"] ["_law_script"] (defScope s_law) := ⟨rfl, rfl, rfl, by decide +kernel, rfl, by decide +kernel, by decide +kernel⟩
structure Tx (K : PySem.W.Frag) (mg : Str → Option Value) (f_neighbours_of f_steps_from f_chain_of f_law_cell_at f_law_card f_law_fact f_law_book f_law_labels f_law_is_told f_law_rounds f_law : Addr) (d_neighbours_of d_steps_from d_chain_of d_law_cell_at d_law_card d_law_fact d_law_book d_law_labels d_law_is_told d_law_rounds d_law : FuncData) : Prop where
  F_neighbours_of : Fun K "neighbours_of" "neighbours_of" s_neighbours_of f_neighbours_of d_neighbours_of
  B_neighbours_of : Binds K d_neighbours_of ["book"] []
  M_neighbours_of : mg "neighbours_of" = some (.ref f_neighbours_of)
  F_steps_from : Fun K "steps_from" "steps_from" s_steps_from f_steps_from d_steps_from
  B_steps_from : Binds K d_steps_from ["book", "one"] []
  M_steps_from : mg "steps_from" = some (.ref f_steps_from)
  F_chain_of : Fun K "chain_of" "chain_of" s_chain_of f_chain_of d_chain_of
  B_chain_of : Binds K d_chain_of ["book", "one", "other"] []
  M_chain_of : mg "chain_of" = some (.ref f_chain_of)
  F_law_cell_at : Fun K "_law_cell_at" "_law_cell_at" s_law_cell_at f_law_cell_at d_law_cell_at
  B_law_cell_at : Binds K d_law_cell_at ["_law_script", "_law_k"] []
  M_law_cell_at : mg "_law_cell_at" = some (.ref f_law_cell_at)
  F_law_card : Fun K "_law_card" "_law_card" s_law_card f_law_card d_law_card
  B_law_card : Binds K d_law_card ["_law_cell", "_law_k"] []
  M_law_card : mg "_law_card" = some (.ref f_law_card)
  F_law_fact : Fun K "_law_fact" "_law_fact" s_law_fact f_law_fact d_law_fact
  B_law_fact : Binds K d_law_fact ["_law_shape", "_law_many", "_law_cell", "_law_aparts"] []
  M_law_fact : mg "_law_fact" = some (.ref f_law_fact)
  F_law_book : Fun K "_law_book" "_law_book" s_law_book f_law_book d_law_book
  B_law_book : Binds K d_law_book ["_law_facts"] []
  M_law_book : mg "_law_book" = some (.ref f_law_book)
  F_law_labels : Fun K "_law_labels" "_law_labels" s_law_labels f_law_labels d_law_labels
  B_law_labels : Binds K d_law_labels ["_law_book_here"] []
  M_law_labels : mg "_law_labels" = some (.ref f_law_labels)
  F_law_is_told : Fun K "_law_is_told" "_law_is_told" s_law_is_told f_law_is_told d_law_is_told
  B_law_is_told : Binds K d_law_is_told ["_law_book_here", "_law_one", "_law_other"] []
  M_law_is_told : mg "_law_is_told" = some (.ref f_law_is_told)
  F_law_rounds : Fun K "_law_rounds" "_law_rounds" s_law_rounds f_law_rounds d_law_rounds
  B_law_rounds : Binds K d_law_rounds ["_law_book_here", "_law_cards", "_law_one", "_law_other"] []
  M_law_rounds : mg "_law_rounds" = some (.ref f_law_rounds)
  F_law : Fun K "law" "law" s_law f_law d_law
  B_law : Binds K d_law ["_law_script"] []
  M_law : mg "law" = some (.ref f_law)
  z_any : mg "any" = none
  z_int : mg "int" = none
  z_isinstance : mg "isinstance" = none
  z_len : mg "len" = none
  z_list : mg "list" = none
  z_max : mg "max" = none
  z_min : mg "min" = none
  z_range : mg "range" = none
  z_reversed : mg "reversed" = none
  z_sorted : mg "sorted" = none
  z_str : mg "str" = none
section
variable {P : Program} {w : World} {K : PySem.W.Frag} {mg : Str → Option Value} {base : Heap} {f_neighbours_of f_steps_from f_chain_of f_law_cell_at f_law_card f_law_fact f_law_book f_law_labels f_law_is_told f_law_rounds f_law : Addr} {d_neighbours_of d_steps_from d_chain_of d_law_cell_at d_law_card d_law_fact d_law_book d_law_labels d_law_is_told d_law_rounds d_law : FuncData}
def preCell (ds : List D) : Prop := ∃ (ns : List Int) (k : Int), ds = [.lst (ns.map .int), .int k] ∧ 0 ≤ k
def resCell : List D → D
  | [.lst xs, .int k] => xs.getD k.toNat (.int 0)
  | _ => .non
theorem ok_law_cell_at (Z : Tx K mg f_neighbours_of f_steps_from f_chain_of f_law_cell_at f_law_card f_law_fact f_law_book f_law_labels f_law_is_told f_law_rounds f_law d_neighbours_of d_steps_from d_chain_of d_law_cell_at d_law_card d_law_fact d_law_book d_law_labels d_law_is_told d_law_rounds d_law) : FnOk P w K mg base CX0 1 f_law_cell_at d_law_cell_at ["_law_script", "_law_k"] (SpD K preCell resCell) := by
  refine Z.F_law_cell_at.ok sc_law_cell_at (fun vs H Q E h => spD_len (n := 2) (by rintro ds ⟨ns, k, rfl, _⟩; rfl) h) (fun cdv A outer s H vs Q E hr h => ⟨_, (pss_cons (ps_if (pt_cmpR op_lt (pv 1) (pe_callB call_len_seq (by rfl) Z.z_len boot_len (pa_cons (pv 0) pa_nil)) (nomark _)) (pss_one (ps_ret (pe_ix (show IxR _ (rIxL K) from ix_list) (pv 0) (pv 1) (fun _ _ => rfl)))) pss_nil)
      (pss_one (ps_ret pe_int))), ?_⟩)
  refine go_spD h (by rw [spD_len (n := 2) (by rintro ds ⟨ns, k, rfl, _⟩; rfl) h]; decide) fun G ds hp rt => ?_
  obtain ⟨ns, k, rfl, hk⟩ := hp
  have ll : (ns.map D.int).length = ns.length := by simp
  refine go_seq (go_if (evt_test (ev_cmpI (g := fun i j => decide (i < j)) (ev_var rfl).b (ev_lenL (ev_var rfl).l).b)) (fun hb => ?_) (fun hb => ?_))
  · simp only [decide_eq_true_eq] at hb
    have hk2 : k.toNat < ns.length := by omega
    refine go_ret (ev_ixL (d := .int (ns.getD k.toNat 0)) (ev_var rfl).l (ev_var rfl).b ?_) ?_
    · have := atI_nat (xs := ns.map D.int) (j := k.toNat) (v := D.int (ns.getD k.toNat 0)) (by rw [List.getElem?_map, List.getD_eq_getElem?_getD]; simp [hk2])
      rw [show ((k.toNat : Nat) : Int) = k by omega] at this
      exact this
    · have e : resCell [D.lst (ns.map D.int), D.int k] = .int (ns.getD k.toNat 0) := by
        simp [resCell, List.getD_eq_getElem?_getD, List.getElem?_map, hk2]
      rw [e] at rt; exact rt
  · simp only [decide_eq_false_iff_not] at hb
    have e : resCell [D.lst (ns.map D.int), D.int k] = .int 0 := by
      simp [resCell, List.getD_eq_getElem?_getD, List.getElem?_map, show ns[k.toNat]? = none from List.getElem?_eq_none (by omega)]
    rw [e] at rt
    refine go_next ?_
    ((try dsimp only); refine nx_go ?_)
    exact go_ret ev_int rt
theorem small {n : Nat} (h : n ≤ 1000) : n ≤ sizeLine := by rw [sizeLine_eq]; omega
theorem atI_mod {α : Type} (xs : List α) (z : α) (x : Int) {n : Int} (hn : (xs.length : Int) = n) (h0 : 0 < n) : atI xs (x % n) = some (xs.getD (x % n).toNat z) := by
  have h1 := Int.emod_nonneg x (show n ≠ 0 by omega)
  have h2 := Int.emod_lt_of_pos x h0
  have := atI_nat (xs := xs) (j := (x % n).toNat) (v := xs.getD (x % n).toNat z) (by rw [List.getD_eq_getElem?_getD, List.getElem?_eq_getElem (by omega)]; rfl)
  rw [show (((x % n).toNat : Nat) : Int) = x % n by omega] at this
  exact this
def S (x : Str) : D := .str x.cps.toList
def pairWords : List D := [S "same", S "apart"]
def fieldWords : List D := [S "name", S "former", S "way", S "day", S "mark"]
abbrev Fct := List Nat × List Nat × List Nat
def encF (f : Fct) : D := .tup [.str f.1, .str f.2.1, .str f.2.2]
def unF : D → Fct
  | .tup [.str a, .str b, .str c] => (a, b, c)
  | _ => ([], [], [])
theorem unF_map (fs : List Fct) : (fs.map encF).map unF = fs := by
  rw [List.map_map, show (unF ∘ encF) = id from rfl, List.map_id]
theorem pair_str (x : Int) : ∃ l, pairWords.getD (x % 2).toNat .non = .str l := by
  have h1 := Int.emod_nonneg x (show (2 : Int) ≠ 0 by decide)
  have h2 := Int.emod_lt_of_pos x (show (0 : Int) < 2 by decide)
  have : (x % 2).toNat = 0 ∨ (x % 2).toNat = 1 := by omega
  rcases this with e | e <;> rw [e] <;> exact ⟨_, rfl⟩
theorem field_str (x : Int) : ∃ l, fieldWords.getD (x % 5).toNat .non = .str l := by
  have h1 := Int.emod_nonneg x (show (5 : Int) ≠ 0 by decide)
  have h2 := Int.emod_lt_of_pos x (show (0 : Int) < 5 by decide)
  have : (x % 5).toNat = 0 ∨ (x % 5).toNat = 1 ∨ (x % 5).toNat = 2 ∨ (x % 5).toNat = 3 ∨ (x % 5).toNat = 4 := by omega
  rcases this with e | e | e | e | e <;> rw [e] <;> exact ⟨_, rfl⟩
theorem encF_inj {f g : Fct} (h : encF f = encF g) : f = g := congrArg unF h
theorem mem_enc {fs : List Fct} {f : Fct} : encF f ∈ fs.map encF ↔ f ∈ fs :=
  ⟨fun h => by obtain ⟨g, hg, e⟩ := List.mem_map.mp h; rw [← encF_inj e]; exact hg, fun h => List.mem_map_of_mem h⟩
theorem nod_enc {fs : List Fct} (h : fs.Nodup) : (fs.map encF).Nodup := by
  unfold List.Nodup at *
  rw [List.pairwise_map]
  exact h.imp fun a e => a (encF_inj e)
theorem alF (fs : List Fct) : Alike (fs.map encF) := .inr (.inr ⟨.s, [.s, .s], fun d hd => by
  obtain ⟨f, _, rfl⟩ := List.mem_map.mp hd; exact ⟨_, rfl, rfl⟩⟩)
theorem hkF (fs : List Fct) : ∀ d ∈ fs.map encF, d.hk false = true := by
  intro d hd; obtain ⟨f, _, rfl⟩ := List.mem_map.mp hd; rfl
theorem nbF (f : Fct) : (encF f).nb = true := rfl
theorem dpF (f : Fct) : (encF f).dep ≤ 1 := by show (D.deps [.str f.1, .str f.2.1, .str f.2.2]) + 1 ≤ 1; simp [D.deps, D.dep]
theorem of_enc {ds : List D} {fs : List Fct} (h : ∀ d ∈ ds, d ∈ fs.map encF) : (ds.map unF).map encF = ds := by
  rw [List.map_map]
  conv => rhs; rw [← List.map_id ds]
  exact List.map_congr_left fun d hd => by obtain ⟨f, _, rfl⟩ := List.mem_map.mp (h d hd); rfl
def Bk (b : List Fct) : Prop := b.Nodup ∧ sortD (b.map encF) = b.map encF
theorem sortD_idem (ds : List D) (h : Alike ds) : sortD (sortD ds) = sortD ds := sortD_congr h (sortD_perm ds)
def mkB (fs : List Fct) : List Fct := (sortD (fs.map encF)).map unF
theorem mkB_enc (fs : List Fct) : (mkB fs).map encF = sortD (fs.map encF) := of_enc fun d hd => (sortD_perm _).mem_iff.mp hd
theorem mkB_mem (fs : List Fct) (f : Fct) : f ∈ mkB fs ↔ f ∈ fs := by rw [← mem_enc, mkB_enc, (sortD_perm _).mem_iff, mem_enc]
theorem mkB_len (fs : List Fct) : (mkB fs).length = fs.length := by unfold mkB; rw [List.length_map, (sortD_perm _).length_eq, List.length_map]
theorem mkB_ok {fs : List Fct} (h : fs.Nodup) : Bk (mkB fs) := by
  refine ⟨?_, ?_⟩
  · have : ((mkB fs).map encF).Nodup := by rw [mkB_enc]; exact (sortD_perm _).nodup_iff.mpr (nod_enc h)
    unfold List.Nodup at *
    rw [List.pairwise_map] at this
    exact this.imp fun a e => a (congrArg encF e)
  · rw [mkB_enc, sortD_idem _ (alF fs)]
theorem Bk.ext {a b : List Fct} (ha : Bk a) (hb : Bk b) (h : ∀ f, f ∈ a ↔ f ∈ b) : a = b := by
  have p : (a.map encF).Perm (b.map encF) := ((List.perm_ext_iff_of_nodup ha.1 hb.1).mpr h).map _
  have := sortD_congr (alF b) p
  rw [ha.2, hb.2] at this
  have := congrArg (List.map unF) this
  rwa [unF_map, unF_map] at this
theorem sort_mkB (fs : List Fct) : sortD (fs.map encF) = (mkB fs).map encF := (mkB_enc fs).symm
theorem atI_get {α : Type} {xs : List α} {k : Nat} {v : α} (h : xs[k]? = some v) : atI xs (k : Int) = some v := atI_nat h
def spLaw (K : PySem.W.Frag) : Sp := fun vs H Q _ => ∃ (a : Addr) (ns : List Int), vs = [.ref a] ∧ SqL K H a (ns.map V.int) ∧ ns.length ≤ 63 ∧ ∀ H', Q (.bl true) H'
theorem reps_ints {K : PySem.W.Frag} {H : Hp} : ∀ ns : List Int, Reps K H (ns.map D.int) (ns.map V.int)
  | [] => Reps.nil
  | n :: ns => Reps.cons Rep.int (reps_ints ns)
def dedF (fs : List Fct) : List Fct := (ded (fs.map encF)).map unF
theorem dedF_enc (fs : List Fct) : (dedF fs).map encF = ded (fs.map encF) := of_enc fun d hd => ded_mem.mp hd
theorem dedF_mem (fs : List Fct) (f : Fct) : f ∈ dedF fs ↔ f ∈ fs := by rw [← mem_enc, dedF_enc, ded_mem, mem_enc]
theorem dedF_nod (fs : List Fct) : (dedF fs).Nodup := by
  have : ((dedF fs).map encF).Nodup := by rw [dedF_enc]; exact ded_nodup _
  unfold List.Nodup at *
  rw [List.pairwise_map] at this
  exact this.imp fun a e => a (congrArg encF e)
def bkD (b : List Fct) : D := .lst (b.map encF)
theorem bkD_inj {a b : List Fct} (h : bkD a = bkD b) : a = b := by
  injection h with h
  have := congrArg (List.map unF) h
  rwa [unF_map, unF_map] at this
theorem bkDs_inj : ∀ {a b : List (List Fct)}, a.map bkD = b.map bkD → a = b
  | [], [], _ => rfl
  | [], _ :: _, h => by simp at h
  | _ :: _, [], h => by simp at h
  | x :: a, y :: b, h => by
    simp only [List.map_cons, List.cons.injEq] at h
    rw [bkD_inj h.1, bkDs_inj h.2]
theorem bkD_nb (x : List Fct) : (bkD x).nb = true := by show (D.lst (x.map encF)).nb = true; rw [D.nb_lst]; exact D.nbs_map nbF x
theorem bkD_dep (x : List Fct) : (bkD x).dep ≤ 2 := by show (D.lst (x.map encF)).dep ≤ 2; rw [D.dep_lst]; have := D.deps_map dpF x; omega
theorem dedF_len (fs : List Fct) : (dedF fs).length ≤ fs.length := by
  unfold dedF
  rw [List.length_map]
  have := ded_len (fs.map encF)
  rwa [List.length_map] at this
def preTidy (ds : List D) : Prop := ∃ fs : List Fct, ds = [bkD fs] ∧ fs.length ≤ 500
def isPw (l : List Nat) : Bool := decide (D.str l ∈ pairWords)
theorem pw_eq : pairWords = [[115, 97, 109, 101], [97, 112, 97, 114, 116]].map D.str := by
  unfold pairWords S
  rw [show ("same" : Str).cps.toList = [115, 97, 109, 101] by decide +kernel, show ("apart" : Str).cps.toList = [97, 112, 97, 114, 116] by decide +kernel]
  rfl
def nmD (fs : List Fct) : List D := fs.map (fun f => .str f.1) ++ (fs.filter fun f => isPw f.2.1).map fun f => .str f.2.2
def cardsD (fs : List Fct) : List D := sortD (ded (nmD fs))
theorem nm_str {fs : List Fct} : ∀ d ∈ nmD fs, ∃ l, d = .str l := by
  intro d hd
  rcases List.mem_append.mp hd with z | z <;> obtain ⟨f, _, rfl⟩ := List.mem_map.mp z <;> exact ⟨_, rfl⟩
theorem hkS {ds : List D} (h : ∀ d ∈ ds, ∃ l, d = .str l) : ∀ d ∈ ds, d.hk true = true := by
  intro d hd; obtain ⟨l, rfl⟩ := h d hd; rfl
theorem alS {ds : List D} (h : ∀ d ∈ ds, ∃ l, d = .str l) : Alike ds := .inl fun d hd => by obtain ⟨l, rfl⟩ := h d hd; rfl
theorem cards_mem {fs : List Fct} {c : List Nat} : D.str c ∈ cardsD fs ↔ ∃ x ∈ fs, x.1 = c ∨ (isPw x.2.1 = true ∧ x.2.2 = c) := by
  unfold cardsD
  rw [(sortD_perm _).mem_iff, ded_mem]
  unfold nmD
  rw [List.mem_append, List.mem_map, List.mem_map]
  simp only [List.mem_filter, D.str.injEq]
  constructor
  · rintro (⟨x, hx, h⟩ | ⟨x, ⟨hx, h1⟩, h⟩)
    · exact ⟨x, hx, .inl h⟩
    · exact ⟨x, hx, .inr ⟨h1, h⟩⟩
  · rintro ⟨x, hx, h | ⟨h1, h⟩⟩
    · exact .inl ⟨x, hx, h⟩
    · exact .inr ⟨x, ⟨hx, h1⟩, h⟩
theorem cards_nb (fs : List Fct) : D.nbs (cardsD fs) = true := by
  have h : ∀ d ∈ cardsD fs, ∃ l, d = .str l := fun d hd => nm_str d (ded_mem.mp ((sortD_perm _).mem_iff.mp hd))
  have : ∀ ds : List D, (∀ d ∈ ds, ∃ l, d = D.str l) → D.nbs ds = true := fun ds => by
    induction ds with
    | nil => intro _; rfl
    | cons a l ih =>
      intro h
      obtain ⟨x, rfl⟩ := h a List.mem_cons_self
      simp only [D.nbs, ih fun d hd => h d (List.mem_cons_of_mem _ hd)]
      rfl
  exact this _ h
abbrev Lnk := List Nat × List Nat
def encS (c : List Nat) : D := .str c
theorem encS_inj (a b : List Nat) (h : encS a = encS b) : a = b := by unfold encS at h; injection h
def unS : D → List Nat
  | .str l => l
  | _ => []
theorem unS_map (xs : List (List Nat)) : (xs.map encS).map unS = xs := by rw [List.map_map]; exact List.map_id xs
def encN (n : Nat) : D := .int n
def encK (l : Lnk) : D := .tup [.str l.1, .str l.2]
def unK : D → Lnk
  | .tup [.str a, .str b] => (a, b)
  | _ => ([], [])
theorem unK_map (ls : List Lnk) : (ls.map encK).map unK = ls := by rw [List.map_map]; exact List.map_id ls
def ufS (f : List Nat → List Nat) (l : Lnk) : List Nat → List Nat := stepF (minL (f l.1) (f l.2)) (maxL (f l.1) (f l.2)) f
def ufF (ls : List Lnk) : List Nat → List Nat := ls.foldl ufS id
theorem ufF_snoc (ls : List Lnk) (l : Lnk) : ufF (ls ++ [l]) = ufS (ufF ls) l := by unfold ufF; rw [List.foldl_append]; rfl
theorem kp_lo (a b : List Nat) : (minL a b = a ∧ maxL a b = b) ∨ (minL a b = b ∧ maxL a b = a) := by
  unfold minL maxL
  by_cases h1 : a < b
  · rw [if_pos h1, if_neg (List.lt_asymm h1)]
    exact .inl ⟨rfl, rfl⟩
  · by_cases h2 : b < a
    · rw [if_pos h2, if_neg h1]
      exact .inr ⟨rfl, rfl⟩
    · have : a = b := List.le_antisymm (List.not_lt.mp h2) (List.not_lt.mp h1)
      rw [if_neg h1, if_neg h2]
      exact .inl ⟨rfl, this⟩
theorem nodup_take {α : Type} {xs : List α} (h : xs.Nodup) {k : Nat} {x : α} (hk : xs[k]? = some x) : x ∉ xs.take k := fun hm => by
  obtain ⟨j, hj⟩ := List.mem_iff_getElem?.mp hm
  have hjk : j < k := by
    have := (List.getElem?_eq_some_iff.mp hj).1
    rw [List.length_take] at this; omega
  rw [List.getElem?_take, if_pos hjk] at hj
  have h1 := (List.getElem?_eq_some_iff.mp hj)
  have h2 := (List.getElem?_eq_some_iff.mp hk)
  unfold List.Nodup at h
  rw [List.pairwise_iff_getElem] at h
  exact h j k h1.1 h2.1 hjk (h1.2.trans h2.2.symm)
def tpF (b : List Fct) (w : List Nat) : List Lnk := (b.filter fun f => decide (f.2.1 = w)).map fun f => (f.1, f.2.2)
def sameW : List Nat := ("same" : Str).cps.toList
def apartW : List Nat := ("apart" : Str).cps.toList
def markW : List Nat := ("mark" : Str).cps.toList
theorem pw_same : isPw sameW = true := by unfold isPw; rw [pw_eq]; decide +kernel
def cardsL (b : List Fct) : List (List Nat) := (cardsD b).map unS
theorem cardsD_str (b : List Fct) : ∀ d ∈ cardsD b, ∃ l, d = .str l := fun d hd => nm_str d (ded_mem.mp ((sortD_perm _).mem_iff.mp hd))
theorem un_enc {ds : List D} (h : ∀ d ∈ ds, ∃ l, d = .str l) : (ds.map unS).map encS = ds := by
  rw [List.map_map]
  conv => rhs; rw [← List.map_id ds]
  exact List.map_congr_left fun d hd => by obtain ⟨l, rfl⟩ := h d hd; rfl
theorem cardsL_enc (b : List Fct) : (cardsL b).map encS = cardsD b := un_enc (cardsD_str b)
theorem nod_un {xs : List (List Nat)} (h : (xs.map encS).Nodup) : xs.Nodup := by
  unfold List.Nodup at *
  rw [List.pairwise_map] at h
  exact h.imp fun a e => a (congrArg encS e)
theorem cardsL_nd (b : List Fct) : (cardsL b).Nodup := nod_un (by rw [cardsL_enc]; exact (sortD_perm _).nodup_iff.mpr (ded_nodup _))
theorem cardsL_mem {b : List Fct} {c : List Nat} : c ∈ cardsL b ↔ ∃ x ∈ b, x.1 = c ∨ (isPw x.2.1 = true ∧ x.2.2 = c) := by
  rw [← cards_mem, ← cardsL_enc]
  exact ⟨fun h => List.mem_map_of_mem (f := encS) h, fun h => by obtain ⟨y, hy, e⟩ := List.mem_map.mp h; rw [← encS_inj _ _ e]; exact hy⟩
theorem cardsL_len (b : List Fct) : (cardsL b).length ≤ 2 * b.length := by
  unfold cardsL cardsD
  rw [List.length_map, (sortD_perm _).length_eq]
  have h1 := ded_len (nmD b)
  have h2 : (nmD b).length ≤ 2 * b.length := by
    unfold nmD
    have := List.length_filter_le (fun f : Fct => isPw f.2.1) b
    rw [List.length_append, List.length_map, List.length_map]; omega
  omega
theorem tp_in (b : List Fct) : ∀ l ∈ tpF b sameW, l.1 ∈ cardsL b ∧ l.2 ∈ cardsL b := fun l hl => by
  obtain ⟨f, hf, rfl⟩ := List.mem_map.mp hl
  obtain ⟨h1, h2⟩ := List.mem_filter.mp hf
  have h2 : f.2.1 = sameW := of_decide_eq_true h2
  exact ⟨cardsL_mem.mpr ⟨f, h1, .inl rfl⟩, cardsL_mem.mpr ⟨f, h1, .inr ⟨by rw [h2]; exact pw_same, rfl⟩⟩⟩
theorem nod_len {α : Type} [DecidableEq α] {a b : List α} (h : a.Nodup) (hs : ∀ x ∈ a, x ∈ b) : a.length ≤ b.length := by
  induction a generalizing b with
  | nil => exact Nat.zero_le _
  | cons x a ih =>
    obtain ⟨h1, h2⟩ := List.nodup_cons.mp h
    have := ih (b := b.erase x) h2 fun y hy => (List.mem_erase_of_ne (fun (e : y = x) => h1 (e ▸ hy))).mpr (hs y (List.mem_cons_of_mem _ hy))
    rw [List.length_erase_of_mem (hs x List.mem_cons_self)] at this
    have hp := List.length_pos_of_mem (hs x List.mem_cons_self)
    rw [List.length_cons]; omega
def letW : List Nat := ("abcdefghij" : Str).cps.toList
theorem letW_len : letW.length = 10 := by decide +kernel
def rq (n : Int) : List Nat := (List.replicate n.toNat ("q" : Str).cps.toList).flatten
def cmany (c : Int) : Int := 1 + c % 11
def cat (c : Int) : Int := c / 11 % cmany c
def cend (c k : Int) : Int := cmany c - 1 - cat c + c / 121 % 2 * (k % 2)
def cardF (c k : Int) : List Nat := rq (cat c) ++ [letW.getD k.toNat 0] ++ rq (cend c k)
def preCd (ds : List D) : Prop := ∃ c k : Int, ds = [.int c, .int k] ∧ 0 ≤ k ∧ k < 10
def resCd : List D → D
  | [.int c, .int k] => .str (cardF c k)
  | _ => .non
theorem rq_len {n : Int} (h : n ≤ 1000) : (rq n).length ≤ 1000 := by
  unfold rq
  have : (("q" : Str).cps.toList).length = 1 := by decide +kernel
  rw [List.length_flatten, List.map_replicate, this, List.sum_replicate_nat]; omega
theorem ev_rq {K : PySem.W.Frag} {G H₀ L : Hp} {ss : List Sl} {ta : TE} {n : Int} (b : EvB K G H₀ L ss ta (.int n)) (h0 : 0 ≤ n) (h1 : n ≤ 1000) : Ev K G H₀ L ss (tOp rMulS (tC (.str "q")) ta) (.str (rq n)) := by
  have e : n = ((n.toNat : Nat) : Int) := by omega
  unfold rq
  refine ev_mulS (n := n.toNat) (ev_lit (by decide)).b (by rw [← e]; exact b) ?_ (by omega)
  have : (("q" : Str).cps.toList).length = 1 := by decide +kernel
  omega
theorem ok_law_card (Z : Tx K mg f_neighbours_of f_steps_from f_chain_of f_law_cell_at f_law_card f_law_fact f_law_book f_law_labels f_law_is_told f_law_rounds f_law d_neighbours_of d_steps_from d_chain_of d_law_cell_at d_law_card d_law_fact d_law_book d_law_labels d_law_is_told d_law_rounds d_law) : FnOk P w K mg base CX0 1 f_law_card d_law_card ["_law_cell", "_law_k"] (SpD K preCd resCd) := by
  refine Z.F_law_card.ok sc_law_card (fun vs H Q E h => spD_len (n := 2) (by rintro ds ⟨c, k, rfl, _⟩; rfl) h) (fun cdv A outer s H vs Q E hr h => ⟨_, (pss_cons (ps_set (i := 2) sc_law_card.nd rfl (Or.inl rfl) (pe_op op_add pe_int (pe_op op_mod (pv 0) pe_int)))
      (pss_cons (ps_set (i := 3) sc_law_card.nd rfl (Or.inl rfl) (pe_op op_mod (pe_op op_fdiv (pv 0) pe_int) (pv 2)))
      (pss_one (ps_ret (pe_op op_add_str (pe_op op_add_str (pe_op (show OpR _ _ rMulS from op_mulS) pe_str (pv 3)) (pe_ix ix_str pe_str (pv 1) (fun _ _ => rfl))) (pe_op (show OpR _ _ rMulS from op_mulS) pe_str (pe_op op_add (pe_op op_sub (pe_op op_sub (pv 2) pe_int) (pv 3)) (pe_op op_mul (pe_op op_mod (pe_op op_fdiv (pv 0) pe_int) pe_int) (pe_op op_mod (pv 1) pe_int))))))))), ?_⟩)
  refine go_spD h (by rw [spD_len (n := 2) (by rintro ds ⟨c, k, rfl, _⟩; rfl) h]; decide) fun G ds hp rt => ?_
  obtain ⟨c, k, rfl, hk0, hk1⟩ := hp
  have hm : 1 ≤ cmany c ∧ cmany c ≤ 11 := by unfold cmany; omega
  have hat : 0 ≤ cat c ∧ cat c < cmany c := ⟨Int.emod_nonneg _ (by omega), Int.emod_lt_of_pos _ (by omega)⟩
  have h2 : 0 ≤ c / 121 % 2 ∧ c / 121 % 2 ≤ 1 := by omega
  have hk2 : 0 ≤ k % 2 ∧ k % 2 ≤ 1 := by omega
  have h3 : 0 ≤ c / 121 % 2 * (k % 2) ∧ c / 121 % 2 * (k % 2) ≤ 1 := by
    have : c / 121 % 2 = 0 ∨ c / 121 % 2 = 1 := by omega
    rcases this with e | e <;> rw [e] <;> omega
  have he : 0 ≤ cend c k ∧ cend c k ≤ 12 := by unfold cend; omega
  have hcat : atI letW k = some (letW.getD k.toNat 0) := by
    have hl := letW_len
    have := atI_nat (xs := letW) (j := k.toNat) (v := letW.getD k.toNat 0) (by rw [List.getD_eq_getElem?_getD, List.getElem?_eq_getElem (by omega)]; rfl)
    rw [show ((k.toNat : Nat) : Int) = k by omega] at this
    exact this
  refine go_seq (go_set (d := .int (cmany c)) (ev_add ev_int.b (ev_mod (ev_var rfl).b ev_int.b (by decide)).b) ?_)
  ((try dsimp only); refine nx_go ?_)
  refine go_seq (go_set (d := .int (cat c)) (ev_mod (ev_fdiv (ev_var rfl).b ev_int.b ⟨by decide, by decide⟩).b (ev_var rfl).b (by omega)) ?_)
  ((try dsimp only); refine nx_go ?_)
  have l1 := rq_len (n := cat c) (by omega)
  have l2 := rq_len (n := cend c k) (by omega)
  refine go_ret (d := .str (cardF c k)) (ev_catS (ev_catS (ev_rq (ev_var rfl).b hat.1 (by omega)).b (ev_ixS (l := letW) (ev_lit (by decide)).b (ev_var rfl).b (by rw [letW_len, sizeLine_eq]; decide) hcat).b (by rw [sizeLine_eq]; simp; omega)).b (ev_rq (n := cend c k) (ev_add (ev_sub (ev_sub (ev_var rfl).b ev_int.b).b (ev_var rfl).b).b (ev_mul (ev_mod (ev_fdiv (ev_var rfl).b ev_int.b ⟨by decide, by decide⟩).b ev_int.b (by decide)).b (ev_mod (ev_var rfl).b ev_int.b (by decide)).b (.inl ⟨by omega, by omega⟩)).b).b he.1 (by omega)).b (by rw [sizeLine_eq]; simp; omega)) rt
def imin (i j : Int) : Int := if j < i then j else i
def imax (i j : Int) : Int := if j > i then j else i
def fi (m c : Int) : Int := c % m
def fj (m c : Int) : Int := (fi m c + 1 + c / 10 % (m - 1)) % m
def fway (c : Int) : Int := c / 100 % 8
def fmark (c : Int) (ap : Bool) : Bool := decide (5 + (if ap then 1 else 0) < fway c)
def ffield (c : Int) (ap : Bool) : List Nat := if (ap && decide (4 < fway c)) = true then apartW else sameW
def factF (s m c : Int) (ap : Bool) : Fct := if fmark c ap = true then (cardF s (fi m c), markW, ("x" : Str).cps.toList) else (cardF s (imin (fi m c) (fj m c)), ffield c ap, cardF s (imax (fi m c) (fj m c)))
def preFa (ds : List D) : Prop := ∃ (s m c : Int) (ap : Bool), ds = [.int s, .int m, .int c, .bl ap] ∧ 2 ≤ m ∧ m ≤ 10
def resFa : List D → D
  | [.int s, .int m, .int c, .bl ap] => encF (factF s m c ap)
  | _ => .non
theorem ok_law_fact (Z : Tx K mg f_neighbours_of f_steps_from f_chain_of f_law_cell_at f_law_card f_law_fact f_law_book f_law_labels f_law_is_told f_law_rounds f_law d_neighbours_of d_steps_from d_chain_of d_law_cell_at d_law_card d_law_fact d_law_book d_law_labels d_law_is_told d_law_rounds d_law) : FnOk P w K mg base CX0 2 f_law_fact d_law_fact ["_law_shape", "_law_many", "_law_cell", "_law_aparts"] (SpD K preFa resFa) := by
  have G_law_card := ok_law_card (P := P) (w := w) (base := base) Z
  refine Z.F_law_fact.ok sc_law_fact (fun vs H Q E h => spD_len (n := 4) (by rintro ds ⟨c, k, d, e, rfl, _⟩; rfl) h) (fun cdv A outer s H vs Q E hr h => ⟨_, (pss_cons (ps_set (i := 4) sc_law_fact.nd rfl (Or.inl rfl) (pe_op op_mod (pv 2) (pv 1)))
      (pss_cons (ps_set (i := 5) sc_law_fact.nd rfl (Or.inl rfl) (pe_op op_mod (pe_op op_add (pe_op op_add (pv 4) pe_int) (pe_op op_mod (pe_op op_fdiv (pv 2) pe_int) (pe_op op_sub (pv 1) pe_int))) (pv 1)))
      (pss_cons (ps_set (i := 6) sc_law_fact.nd rfl (Or.inl rfl) (pe_op op_mod (pe_op op_fdiv (pv 2) pe_int) pe_int))
      (pss_cons (ps_if (pt_cmpR op_gt (pv 6) (pe_op op_add pe_int (pe_callTy call_int1 (by rfl) Z.z_int boot_int (pa_cons (pv 3) pa_nil))) (nomark _)) (pss_one (ps_ret (pe_tup (pa_cons (pe_call G_law_card (hr.mono (by decide)) (by rfl) Z.M_law_card Z.F_law_card.kp Z.B_law_card .nil pass0 (pa_cons (pv 0) (pa_cons (pv 4) pa_nil))) (pa_cons pe_str (pa_cons pe_str pa_nil)))))) pss_nil)
      (pss_cons (ps_set (i := 7) sc_law_fact.nd rfl (Or.inl rfl) pe_str)
      (pss_cons (ps_if (PW.pt (pw_and (pt_val (pv 3)) (pw_and1 (pt_cmpR op_gt (pv 6) pe_int (nomark _))))) (pss_one (ps_set (i := 7) sc_law_fact.nd rfl (Or.inl rfl) pe_str)) pss_nil)
      (pss_one (ps_ret (pe_tup (pa_cons (pe_call G_law_card (hr.mono (by decide)) (by rfl) Z.M_law_card Z.F_law_card.kp Z.B_law_card .nil pass0 (pa_cons (pv 0) (pa_cons (pe_callB (call_min2 rfl) (by rfl) Z.z_min boot_min (pa_cons (pv 4) (pa_cons (pv 5) pa_nil))) pa_nil))) (pa_cons (pv 7) (pa_cons (pe_call G_law_card (hr.mono (by decide)) (by rfl) Z.M_law_card Z.F_law_card.kp Z.B_law_card .nil pass0 (pa_cons (pv 0) (pa_cons (pe_callB (call_max2 rfl) (by rfl) Z.z_max boot_max (pa_cons (pv 4) (pa_cons (pv 5) pa_nil))) pa_nil))) pa_nil)))))))))))), ?_⟩)
  refine go_spD h (by rw [spD_len (n := 4) (by rintro ds ⟨c, k, d, e, rfl, _⟩; rfl) h]; decide) fun G ds hp rt => ?_
  obtain ⟨s, m, c, ap, rfl, hm0, hm1⟩ := hp
  have rt : RtD K G H Q (encF (factF s m c ap)) := rt
  have hi : 0 ≤ fi m c ∧ fi m c < m := ⟨Int.emod_nonneg _ (by omega), Int.emod_lt_of_pos _ (by omega)⟩
  have hj : 0 ≤ fj m c ∧ fj m c < m := ⟨Int.emod_nonneg _ (by omega), Int.emod_lt_of_pos _ (by omega)⟩
  have hmi : 0 ≤ imin (fi m c) (fj m c) ∧ imin (fi m c) (fj m c) < 10 := by unfold imin; split <;> omega
  have hma : 0 ≤ imax (fi m c) (fj m c) ∧ imax (fi m c) (fj m c) < 10 := by unfold imax; split <;> omega
  refine go_seq (go_set (d := .int (fi m c)) (ev_mod (ev_var rfl).b (ev_var rfl).b (by omega)) ?_)
  ((try dsimp only); refine nx_go ?_)
  refine go_seq (go_set (d := .int (fj m c)) (ev_mod (ev_add (ev_add (ev_var rfl).b ev_int.b).b (ev_mod (ev_fdiv (ev_var rfl).b ev_int.b ⟨by decide, by decide⟩).b (ev_sub (ev_var rfl).b ev_int.b).b (by omega)).b).b (ev_var rfl).b (by omega)) ?_)
  ((try dsimp only); refine nx_go ?_)
  refine go_seq (go_set (d := .int (fway c)) (ev_mod (ev_fdiv (ev_var rfl).b ev_int.b ⟨by decide, by decide⟩).b ev_int.b (by decide)) ?_)
  ((try dsimp only); refine nx_go ?_)
  refine go_seq (go_if (b := fmark c ap) (evt_test (ev_gt (ev_var rfl).b (ev_add ev_int.b (ev_intB (ev_var rfl).b).b).b)) (fun hb => ?_) (fun hb => ?_))
  · have e : factF s m c ap = (cardF s (fi m c), markW, ("x" : Str).cps.toList) := by unfold factF; rw [if_pos hb]
    rw [e] at rt
    exact go_ret (ev_tup (evaf_cons (ev_call (pre := preCd) (res := resCd) (evaf_cons (ev_var rfl) (evaf_cons (ev_var rfl) evaf_nil)) ⟨s, fi m c, rfl, by omega, by omega⟩) (evaf_cons (ev_lit (by decide)) (evaf_cons (ev_lit (by decide)) evaf_nil))) (small (by simp))) rt
  have e : factF s m c ap = (cardF s (imin (fi m c) (fj m c)), ffield c ap, cardF s (imax (fi m c) (fj m c))) := by unfold factF; rw [if_neg (by rw [hb]; decide)]
  rw [e] at rt
  refine go_next ?_
  ((try dsimp only); refine nx_go ?_)
  refine go_seq (go_set (d := .str sameW) (ev_lit (by decide)) ?_)
  ((try dsimp only); refine nx_go ?_)
  refine go_join (fun ss => ss = [.d (.int s), .d (.int m), .d (.int c), .d (.bl ap), .d (.int (fi m c)), .d (.int (fj m c)), .d (.int (fway c)), .d (.str (ffield c ap))]) (fun N hN => ?_) (fun ss hss => ?_)
  · refine go_if (b := ap && decide (4 < fway c)) (evt_and (evt_b (ev_var rfl)) fun _ => evt_test (ev_gt (ev_var rfl).b ev_int.b)) (fun hb2 => ?_) (fun hb2 => ?_)
    · refine go_set (d := .str apartW) (ev_lit (by decide)) (hN _ ?_)
      unfold ffield
      rw [if_pos hb2]; rfl
    · refine go_next (hN _ ?_)
      unfold ffield
      rw [if_neg (by rw [hb2]; decide)]; rfl
  · subst hss
    exact go_ret (ev_tup (evaf_cons (ev_call (pre := preCd) (res := resCd) (evaf_cons (ev_var rfl) (evaf_cons (ev_minI (ev_var rfl).b (ev_var rfl).b) evaf_nil)) ⟨s, imin (fi m c) (fj m c), rfl, hmi.1, hmi.2⟩) (evaf_cons (ev_var rfl) (evaf_cons (ev_call (pre := preCd) (res := resCd) (evaf_cons (ev_var rfl) (evaf_cons (ev_maxI (ev_var rfl).b (ev_var rfl).b) evaf_nil)) ⟨s, imax (fi m c) (fj m c), rfl, hma.1, hma.2⟩) evaf_nil))) (small (by simp))) rt
def preBk (ds : List D) : Prop := ∃ fs : List Fct, ds = [bkD fs] ∧ fs.length ≤ 100
def relBk (ds : List D) (rs : List D) : Prop := ∀ fs : List Fct, ds = [bkD fs] → ∃ b : List Fct, rs = b.map encF ∧ (∀ f ∈ b, f ∈ fs) ∧ (∀ f ∈ fs, f ∈ b) ∧ b.length ≤ fs.length
theorem ok_law_book (Z : Tx K mg f_neighbours_of f_steps_from f_chain_of f_law_cell_at f_law_card f_law_fact f_law_book f_law_labels f_law_is_told f_law_rounds f_law d_neighbours_of d_steps_from d_chain_of d_law_cell_at d_law_card d_law_fact d_law_book d_law_labels d_law_is_told d_law_rounds d_law) : FnOk P w K mg base CX0 1 f_law_book d_law_book ["_law_facts"] (SpR K preBk relBk) := by
  refine Z.F_law_book.ok sc_law_book (fun vs H Q E h => spR_len (n := 1) (by rintro ds ⟨c, rfl, _⟩; rfl) h) (fun cdv A outer s H vs Q E hr h => ⟨_, (pss_cons (ps_set (i := 1) sc_law_book.nd rfl (Or.inl rfl) (pe_lst pa_nil))
      (pss_cons (ps_for PassesOwn.never rfl (pi_list (pe_callB (show CallR _ _ (rSortD K) from call_sorted) (by rfl) Z.z_sorted boot_sorted (pa_cons (pv 0) pa_nil))) (pg_name (i := 2) sc_law_book.nd rfl (Or.inl rfl)) (pss_one (ps_if (PW.pt (pw_or (pt_cmpR op_eq (pe_callB call_len_seq (by rfl) Z.z_len boot_len (pa_cons (pv 1) pa_nil)) pe_int (nomark _)) (pw_or1 (pt_cmpR (show OpR _ _ (rNeD K) from op_neD hr.units) (pe_ix (show IxR _ (rIxL K) from ix_list) (pv 1) (pe_un un_neg pe_int) (fun _ _ => rfl)) (pv 2) (nomark _))))) (pss_one (ps_expr (pe_bm F.plainAttrs_list F.slot_list_append F.type_list_append mt_append (pv 1) (pa_cons (pv 2) pa_nil)))) pss_nil)))
      (pss_one (ps_ret (pv 1))))), ?_⟩)
  refine go_spR h (by rw [spR_len (n := 1) (by rintro ds ⟨c, rfl, _⟩; rfl) h]; decide) fun G ds hp rt => ?_
  obtain ⟨fs, rfl, hf⟩ := hp
  refine go_seq (go_setO (evo_lst evaf_nil (by decide)) fun p => ?_)
  ((try dsimp only); refine nx_go ?_)
  refine go_seq (go_for encF (mkB fs) (fun k ss => ∃ (b : List Fct) (v : Sl), ss = [.d (bkD fs), .o p (b.map encF), v] ∧ (∀ f ∈ b, f ∈ fs) ∧ (∀ f ∈ (mkB fs).take k, f ∈ b) ∧ b.length ≤ k) (by rw [mkB_enc]; exact EvO.ev (evo_sorted (ev_var rfl).l (alF fs))) ⟨[], .un, rfl, (fun _ h => by cases h), (fun f h => by simp at h), Nat.zero_le _⟩ ?_ ?_)
  · rintro L' k f ss hL hk ⟨b, v, rfl, hb, hall, hbl⟩
    have hkl := (List.getElem?_eq_some_iff.mp hk).1
    rw [mkB_len] at hkl
    have hf2 : f ∈ fs := (mkB_mem fs f).mp (List.mem_of_getElem? hk)
    refine ⟨_, tg_name, fun N hN => ?_⟩
    have hlm : (b.map encF).length = b.length := by simp
    have ext : (mkB fs).take (k + 1) = (mkB fs).take k ++ [f] := by rw [List.take_add_one, hk]; rfl
    have key : ∃ c, (c = false → f ∈ b) ∧ EvT K G H L' [.d (bkD fs), .o p (b.map encF), .d (encF f)] (tOr (tTest (tOp rEq (tCB (fun xs H Q => ∃ p ys, xs = [.ref p] ∧ (SqL K H p ys ∨ SqT K H p ys) ∧ Q (.int ys.length) H) (tCons (tVar 1) tNil)) (tC (.int 0)))) (tTest (tOp (rNeD K) (tOp (rIxL K) (tVar 1) (tUn (rU fun i => .int (-i)) (tC (.int 1)))) (tVar 2)))) c := by
      rcases List.eq_nil_or_concat b with rfl | ⟨b', l, rfl⟩
      · exact ⟨_, (fun h => by simp at h), evt_or (c := true) (evt_test (ev_eqI (ev_lenL (evl_own rfl)).b ev_int.b)) fun h => by simp at h⟩
      · refine ⟨_, fun hc => ?_, evt_or (b := decide ((((b'.concat l).map encF).length : Int) = 0)) (evt_test (ev_eqI (ev_lenL (evl_own rfl)).b ev_int.b)) fun _ => evt_test (ev_neD (d1 := encF l) (d2 := encF f) (ev_ixL (evl_own rfl) (ev_neg ev_int.b).b ?_).b (ev_var rfl).b (nbF l) (nbF f) (by have := dpF l; omega))⟩
        · rw [Bool.or_eq_false_iff, Bool.not_eq_false', decide_eq_true_eq] at hc
          rw [List.concat_eq_append, ← encF_inj hc.2]; simp
        · rw [List.concat_eq_append, List.map_append]
          exact atI_last _ _
    obtain ⟨c, hcf, key⟩ := key
    refine go_if key (fun _ => ?_) (fun hc => ?_)
    · refine go_append rfl (ev_var rfl) (by rw [hlm, sizeLine_eq]; omega) (hN _ ⟨b ++ [f], .d (encF f), by rw [List.map_append]; rfl, fun g hg => ?_, fun g hg => ?_, by rw [List.length_append, List.length_singleton]; omega⟩)
      · rcases List.mem_append.mp hg with hg | hg
        · exact hb g hg
        · rw [List.mem_singleton.mp hg]; exact hf2
      · rw [ext] at hg
        rcases List.mem_append.mp hg with hg | hg
        · exact List.mem_append_left _ (hall g hg)
        · exact List.mem_append_right _ hg
    · refine go_next (hN _ ⟨b, _, rfl, hb, fun g hg => ?_, by omega⟩)
      rw [ext] at hg
      rcases List.mem_append.mp hg with hg | hg
      · exact hall g hg
      · rw [List.mem_singleton.mp hg]; exact hcf hc
  rintro ss ⟨b, v, rfl, hb, hall, hbl⟩
  rw [mkB_len] at hbl
  rw [List.take_length] at hall
  ((try dsimp only); refine nx_go ?_)
  refine go_retV rfl (rt _ fun fs' e => ?_)
  injection e with e _
  have := bkD_inj e
  subst this
  exact ⟨b, rfl, hb, fun f hf => hall f ((mkB_mem _ f).mpr hf), hbl⟩
def insS (ks : List (List Nat)) (x : List Nat) : List (List Nat) := if x ∈ ks then ks else ks ++ [x]
theorem insS_mem {ks : List (List Nat)} {x c : List Nat} : c ∈ insS ks x ↔ c ∈ ks ∨ c = x := by
  unfold insS
  by_cases h : x ∈ ks
  · rw [if_pos h]
    exact ⟨.inl, fun z => z.elim id fun e => e ▸ h⟩
  · rw [if_neg h, List.mem_append, List.mem_singleton]
theorem insS_nd {ks : List (List Nat)} {x : List Nat} (hn : ks.Nodup) : (insS ks x).Nodup := by
  unfold insS
  by_cases h : x ∈ ks
  · rw [if_pos h]; exact hn
  · rw [if_neg h]
    exact List.nodup_append.mpr ⟨hn, by simp, fun a ha b hb e => h (by rw [List.mem_singleton.mp hb] at e; exact e ▸ ha)⟩
theorem insS_len (ks : List (List Nat)) (x : List Nat) : (insS ks x).length ≤ ks.length + 1 := by unfold insS; split <;> simp
theorem put_ins (ks : List (List Nat)) (x : List Nat) : putD (dA encS encS ks id) (encS x) (encS x) = dA encS encS (insS ks x) id := by
  unfold insS
  by_cases h : x ∈ ks
  · rw [if_pos h, putD_in encS_inj h]
    exact dA_congr fun a _ => by by_cases e : a = x <;> simp [e]
  · rw [if_neg h]
    exact putD_new (f := id) encS_inj h
def keyS (ks : List (List Nat)) (f : Fct) : List (List Nat) := if isPw f.2.1 = true then insS (insS ks f.1) f.2.2 else insS ks f.1
def keysF (b : List Fct) : List (List Nat) := b.foldl keyS []
theorem keysF_snoc (b : List Fct) (f : Fct) : keysF (b ++ [f]) = keyS (keysF b) f := by unfold keysF; rw [List.foldl_append]; rfl
theorem keysF_mem (b : List Fct) (c : List Nat) : c ∈ keysF b ↔ ∃ x ∈ b, x.1 = c ∨ (isPw x.2.1 = true ∧ x.2.2 = c) := by
  induction b using snoc_ind with
  | h0 => simp [keysF]
  | hs b f ih =>
    rw [keysF_snoc]
    have : c ∈ keyS (keysF b) f ↔ c ∈ keysF b ∨ (f.1 = c ∨ (isPw f.2.1 = true ∧ f.2.2 = c)) := by
      unfold keyS
      by_cases h : isPw f.2.1 = true
      · rw [if_pos h, insS_mem, insS_mem]
        constructor
        · rintro ((z | z) | z)
          · exact .inl z
          · exact .inr (.inl z.symm)
          · exact .inr (.inr ⟨h, z.symm⟩)
        · rintro (z | z | ⟨_, z⟩)
          · exact .inl (.inl z)
          · exact .inl (.inr z.symm)
          · exact .inr z.symm
      · rw [if_neg h, insS_mem]
        constructor
        · rintro (z | z)
          · exact .inl z
          · exact .inr (.inl z.symm)
        · rintro (z | z | ⟨z, _⟩)
          · exact .inl z
          · exact .inr z.symm
          · exact absurd z h
    rw [this, ih]
    constructor
    · rintro (⟨x, hx, z⟩ | z)
      · exact ⟨x, List.mem_append_left _ hx, z⟩
      · exact ⟨f, by simp, z⟩
    · rintro ⟨x, hx, z⟩
      rcases List.mem_append.mp hx with hx | hx
      · exact .inl ⟨x, hx, z⟩
      · rw [List.mem_singleton.mp hx] at z; exact .inr z
theorem keysF_nd (b : List Fct) : (keysF b).Nodup := by
  induction b using snoc_ind with
  | h0 => exact List.nodup_nil
  | hs b f ih =>
    rw [keysF_snoc]
    unfold keyS
    split
    · exact insS_nd (insS_nd ih)
    · exact insS_nd ih
theorem keyS_len (ks : List (List Nat)) (f : Fct) : (keyS ks f).length ≤ ks.length + 2 := by
  unfold keyS
  have h1 := insS_len ks f.1
  have h2 := insS_len (insS ks f.1) f.2.2
  split <;> omega
theorem keysF_len (b : List Fct) : (keysF b).length ≤ 2 * b.length := by
  induction b using snoc_ind with
  | h0 => exact Nat.le_refl _
  | hs b f ih =>
    rw [keysF_snoc, List.length_append, List.length_singleton]
    have := keyS_len (keysF b) f
    omega
def lbS (g : List Nat → List Nat) (l : Lnk) : List Nat → List Nat := stepF (g l.2) (g l.1) g
def lbF (ls : List Lnk) : List Nat → List Nat := ls.foldl lbS id
theorem lbF_snoc (ls : List Lnk) (l : Lnk) : lbF (ls ++ [l]) = lbS (lbF ls) l := by unfold lbF; rw [List.foldl_append]; rfl
theorem lb_uf {xs : List (List Nat)} (ls : List Lnk) : (∀ l ∈ ls, l.1 ∈ xs ∧ l.2 ∈ xs) → SameK xs (lbF ls) (ufF ls) := by
  induction ls using snoc_ind with
  | h0 => exact fun _ a _ b _ => Iff.rfl
  | hs ls l ih =>
    intro h
    rw [lbF_snoc, ufF_snoc]
    obtain ⟨h1, h2⟩ := h l (by simp)
    have hk := kp_lo (ufF ls l.1) (ufF ls l.2)
    exact ker_step h1 h2 (ih fun z hz => h z (List.mem_append_left _ hz)) (.inr ⟨rfl, rfl⟩) hk
theorem tpF_snoc (b : List Fct) (f : Fct) (w : List Nat) : tpF (b ++ [f]) w = if f.2.1 = w then tpF b w ++ [(f.1, f.2.2)] else tpF b w := by
  unfold tpF
  rw [List.filter_append]
  by_cases h : f.2.1 = w
  · rw [if_pos h, List.filter_cons_of_pos (by simp [h]), List.filter_nil, List.map_append]; rfl
  · rw [if_neg h, List.filter_cons_of_neg (by simp [h]), List.filter_nil, List.append_nil]
def preLb (ds : List D) : Prop := ∃ b : List Fct, ds = [bkD b] ∧ b.length ≤ 300
def labD (b : List Fct) : DD := dA encS encS (keysF b) (lbF (tpF b sameW))
def resLb : List D → D
  | [.lst b] => D.dic (labD (b.map unF))
  | _ => .non
theorem resLb_enc (b : List Fct) : resLb [bkD b] = D.dic (labD b) := by
  show D.dic (labD ((b.map encF).map unF)) = _
  rw [unF_map]
theorem ok_law_labels (Z : Tx K mg f_neighbours_of f_steps_from f_chain_of f_law_cell_at f_law_card f_law_fact f_law_book f_law_labels f_law_is_told f_law_rounds f_law d_neighbours_of d_steps_from d_chain_of d_law_cell_at d_law_card d_law_fact d_law_book d_law_labels d_law_is_told d_law_rounds d_law) : FnOk P w K mg base CX0 1 f_law_labels d_law_labels ["_law_book_here"] (SpD K preLb resLb) := by
  refine Z.F_law_labels.ok sc_law_labels (fun vs H Q E h => spD_len (n := 1) (by rintro ds ⟨c, rfl, _⟩; rfl) h) (fun cdv A outer s H vs Q E hr h => ⟨_, (pss_cons (ps_set (i := 1) sc_law_labels.nd rfl (Or.inl rfl) pe_dnewK)
      (pss_cons (ps_for PassesOwn.never rfl (pi_list (pv 0)) (pg_tup rfl (pgs_cons (pg_name (i := 2) sc_law_labels.nd rfl (Or.inl rfl)) (pgs_cons (pg_name (i := 3) sc_law_labels.nd rfl (Or.inl rfl)) (pgs_cons (pg_name (i := 4) sc_law_labels.nd rfl (Or.inl rfl)) pgs_nil)))) (pss_cons (ps_dput (hu_of hr) (pv 1) (pv 2) (pv 2) rfl)
      (pss_one (ps_if (pt_cmpR (show OpR _ _ (rInD K false) from op_inD hr.units) (pv 3) (pe_tup (pa_cons pe_str (pa_cons pe_str pa_nil))) (by with_unfolding_all rfl)) (pss_one (ps_dput (hu_of hr) (pv 1) (pv 4) (pv 4) rfl)) pss_nil))))
      (pss_cons (ps_for PassesOwn.never rfl (pi_list (pv 0)) (pg_tup rfl (pgs_cons (pg_name (i := 2) sc_law_labels.nd rfl (Or.inl rfl)) (pgs_cons (pg_name (i := 3) sc_law_labels.nd rfl (Or.inl rfl)) (pgs_cons (pg_name (i := 4) sc_law_labels.nd rfl (Or.inl rfl)) pgs_nil)))) (pss_one (ps_if (pt_cmpR op_eq (pv 3) pe_str (nomark _)) (pss_cons (ps_set (i := 5) sc_law_labels.nd rfl (Or.inl rfl) (pe_dget (hu_of hr) (pv 1) (pv 2) (fun _ _ => rfl)))
      (pss_one (ps_for PassesOwn.never rfl (pi_list (pe_callTy (show CallR _ _ rListD from call_list_dict rfl) (by rfl) Z.z_list boot_list (pa_cons (pv 1) pa_nil))) (pg_name (i := 6) sc_law_labels.nd rfl (Or.inl rfl)) (pss_one (ps_if (pt_cmpR op_eq (pe_dget (hu_of hr) (pv 1) (pv 6) (fun _ _ => rfl)) (pv 5) (nomark _)) (pss_one (ps_dput (hu_of hr) (pv 1) (pv 6) (pe_dget (hu_of hr) (pv 1) (pv 4) (fun _ _ => rfl)) rfl)) pss_nil))))) pss_nil)))
      (pss_one (ps_ret (pv 1)))))), ?_⟩)
  refine go_spD h (by rw [spD_len (n := 1) (by rintro ds ⟨c, rfl, _⟩; rfl) h]; decide) fun G ds hp rt => ?_
  obtain ⟨b, rfl, hbl⟩ := hp
  rw [resLb_enc] at rt
  have dl : ∀ (ys : List (List Nat)) (f : List Nat → List Nat), (dA encS encS ys f).length = ys.length := fun ys f => by unfold dA; rw [List.length_map]
  have hz : ∀ {n : Nat}, n ≤ 1000 → n < sizeLine := fun h => by rw [sizeLine_eq]; omega
  refine go_seq (go_setM fun p => ?_)
  ((try dsimp only); refine nx_go ?_)
  refine go_seq (go_for encF b (fun k ss => ∃ (v2 v3 v4 : Sl), ss = [.d (bkD b), dsl K p (dA encS encS (keysF (b.take k)) id), v2, v3, v4, .un, .un]) (ev_var rfl) ⟨.un, .un, .un, rfl⟩ ?_ ?_)
  · rintro L' k f ss hL hk ⟨v2, v3, v4, rfl⟩
    refine ⟨_, tg_tup rfl (tgs_cons tg_name (tgs_cons tg_name (tgs_cons tg_name tgs_nil))), fun N hN => ?_⟩
    have hkl := (List.getElem?_eq_some_iff.mp hk).1
    have et : keysF (b.take (k + 1)) = keyS (keysF (b.take k)) f := by rw [List.take_add_one, hk]; exact keysF_snoc _ _
    have hkb := keysF_len (b.take k)
    rw [List.length_take] at hkb
    generalize keysF (b.take k) = ks at et hkb
    refine go_seq (go_dput (i := 1) (d := encS f.1) (k := encS f.1) rfl (ev_var rfl) (ev_var rfl).b rfl (hz (by rw [dl]; omega)) ?_)
    rw [put_ins]
    ((try dsimp only); refine nx_go ?_)
    have h1 := insS_len ks f.1
    refine go_if (b := isPw f.2.1) (evt_test ?_) (fun hb => ?_) (fun hb => ?_)
    · show Ev _ _ _ _ _ _ (.bl (decide (D.str f.2.1 ∈ pairWords)))
      exact ev_inT (ev_var rfl).b (ev_tup (ds := pairWords) (evaf_cons (ev_lit (by decide)) (evaf_cons (ev_lit (by decide)) evaf_nil)) (small (by decide))).b rfl rfl (by show 0 ≤ 60; decide)
    · refine go_dput (i := 1) (d := encS f.2.2) (k := encS f.2.2) rfl (ev_var rfl) (ev_var rfl).b rfl (hz (by rw [dl]; omega)) (hN _ ⟨.d (encS f.1), .d (.str f.2.1), .d (encS f.2.2), ?_⟩)
      rw [put_ins, et]
      unfold keyS
      rw [if_pos hb]; rfl
    · refine go_next (hN _ ⟨.d (encS f.1), .d (.str f.2.1), .d (encS f.2.2), ?_⟩)
      rw [et]
      unfold keyS
      rw [if_neg (by rw [hb]; decide)]; rfl
  rintro ss ⟨v2, v3, v4, rfl⟩
  rw [List.take_length]
  ((try dsimp only); refine nx_go ?_)
  have hkn := keysF_nd b
  have hkl := keysF_len b
  have hkm : ∀ f ∈ b, f.2.1 = sameW → f.1 ∈ keysF b ∧ f.2.2 ∈ keysF b := fun f hf h => ⟨(keysF_mem b _).mpr ⟨f, hf, .inl rfl⟩, (keysF_mem b _).mpr ⟨f, hf, .inr ⟨by rw [h]; exact pw_same, rfl⟩⟩⟩
  unfold labD at rt
  generalize keysF b = ks at hkn hkl hkm rt
  have eks : (dA encS encS ks id).map (·.1) = ks.map encS := by unfold dA; rw [List.map_map]; rfl
  refine go_seq (go_for encF b (fun k ss => ∃ (g : List Nat → List Nat) (v2 v3 v4 v5 v6 : Sl), ss = [.d (bkD b), dsl K p (dA encS encS ks g), v2, v3, v4, v5, v6] ∧ ∀ t ∈ ks, g t = lbF (tpF (b.take k) sameW) t) (ev_var rfl) ⟨id, _, _, _, _, _, rfl, fun _ _ => rfl⟩ ?_ ?_)
  · rintro L' k f ss hL hk ⟨g, v2, v3, v4, v5, v6, rfl, hg⟩
    refine ⟨_, tg_tup rfl (tgs_cons tg_name (tgs_cons tg_name (tgs_cons tg_name tgs_nil))), fun N hN => ?_⟩
    have et : tpF (b.take (k + 1)) sameW = if f.2.1 = sameW then tpF (b.take k) sameW ++ [(f.1, f.2.2)] else tpF (b.take k) sameW := by rw [List.take_add_one, hk]; exact tpF_snoc _ _ _
    refine go_if (evt_test (ev_eqS (m := sameW) (ev_var rfl).b (ev_lit (by decide)).b)) (fun hb => ?_) (fun hb => ?_)
    · have hb : f.2.1 = sameW := of_decide_eq_true hb
      rw [if_pos hb] at et
      obtain ⟨h1, h2⟩ := hkm f (List.mem_of_getElem? hk) hb
      refine go_seq (go_set (d := encS (g f.1)) (ev_dget (k := encS f.1) rfl (ev_var rfl).b rfl (valD_in encS_inj h1)) ?_)
      ((try dsimp only); refine nx_go ?_)
      have ek : (dA encS encS ks g).map (·.1) = ks.map encS := by unfold dA; rw [List.map_map]; rfl
      refine go_for encS ks (fun q ss => ∃ (r : List Nat → List Nat) (v6 : Sl), ss = [.d (bkD b), dsl K p (dA encS encS ks r), .d (encS f.1), .d (.str f.2.1), .d (encS f.2.2), .d (encS (g f.1)), v6] ∧ (∀ t ∈ ks.take q, r t = stepF (g f.2.2) (g f.1) g t) ∧ ∀ t, t ∉ ks.take q → r t = g t) (by rw [← ek]; exact EvO.ev (evo_listM (i := 1) rfl)) ⟨g, _, rfl, (fun t ht => by simp at ht), fun _ _ => rfl⟩ ?_ ?_
      · rintro L2 q x ss hL2 hq ⟨r, v6, rfl, hr1, hr2⟩
        refine ⟨_, tg_name, fun N2 hN2 => ?_⟩
        have hx : x ∈ ks := List.mem_of_getElem? hq
        have hxn := nodup_take hkn hq
        have ext : ks.take (q + 1) = ks.take q ++ [x] := by rw [List.take_add_one, hq]; rfl
        have egx : r x = g x := hr2 x hxn
        have eo : r f.2.2 = g f.2.2 := by
          by_cases h : f.2.2 ∈ ks.take q
          · rw [hr1 _ h]; unfold stepF; split <;> rfl
          · exact hr2 _ h
        refine go_if (evt_test (ev_eqS (l := r x) (m := g f.1) (ev_dget (k := encS x) (d := encS (r x)) rfl (ev_var rfl).b rfl (valD_in encS_inj hx)).b (ev_var rfl).b)) (fun hb => ?_) (fun hb => ?_)
        · have hb : r x = g f.1 := of_decide_eq_true hb
          refine go_dput (i := 1) (d := encS (r f.2.2)) (k := encS x) rfl (ev_dget (k := encS f.2.2) rfl (ev_var rfl).b rfl (valD_in encS_inj h2)) (ev_var rfl).b rfl (hz (by rw [dl]; omega)) (hN2 _ ⟨fun u => if u = x then r f.2.2 else r u, _, by rw [putD_in encS_inj hx]; rfl, fun t ht => ?_, fun t ht => ?_⟩)
          · rw [ext] at ht
            show (if t = x then r f.2.2 else r t) = _
            rcases List.mem_append.mp ht with ht | ht
            · rw [if_neg (fun z : t = x => hxn (z ▸ ht))]; exact hr1 t ht
            · rw [List.mem_singleton.mp ht, if_pos rfl, eo]
              unfold stepF
              rw [if_pos (egx.symm.trans hb)]
          · rw [ext] at ht
            have h3 : t ≠ x := fun z => ht (by rw [z]; simp)
            show (if t = x then r f.2.2 else r t) = _
            rw [if_neg h3]
            exact hr2 t fun z => ht (List.mem_append_left _ z)
        · have hb : r x ≠ g f.1 := of_decide_eq_false hb
          refine go_next (hN2 _ ⟨r, _, rfl, fun t ht => ?_, fun t ht => ?_⟩)
          · rw [ext] at ht
            rcases List.mem_append.mp ht with ht | ht
            · exact hr1 t ht
            · rw [List.mem_singleton.mp ht]
              unfold stepF
              rw [if_neg (by rw [← egx]; exact hb), egx]
          · rw [ext] at ht
            exact hr2 t fun z => ht (List.mem_append_left _ z)
      · rintro ss ⟨r, v6, rfl, hr1, hr2⟩
        rw [List.take_length] at hr1
        refine hN _ ⟨r, _, _, _, _, _, rfl, fun t ht => ?_⟩
        rw [hr1 t ht, et, lbF_snoc]
        unfold lbS
        rw [← hg _ h1, ← hg _ h2]
        unfold stepF
        rw [hg t ht]
    · have hb : f.2.1 ≠ sameW := of_decide_eq_false hb
      rw [if_neg hb] at et
      exact go_next (hN _ ⟨g, _, _, _, _, _, rfl, by rw [et]; exact hg⟩)
  rintro ss ⟨g, v2, v3, v4, v5, v6, rfl, hg⟩
  rw [List.take_length] at hg
  refine nx_freezeM (i := 1) rfl ?_
  ((try dsimp only); refine nx_go ?_)
  rw [← dA_congr hg] at rt
  exact go_ret (ev_var rfl) rt
def adjF (b : List Fct) (x y : List Nat) : Prop := (x, y) ∈ tpF b sameW ∨ (y, x) ∈ tpF b sameW
theorem adj_sym (b : List Fct) (x y : List Nat) (h : adjF b x y) : adjF b y x := h.symm
def bothF (ls : List Lnk) : List Lnk := ls.flatMap fun l => [(l.1, l.2), (l.2, l.1)]
def nbL (ls : List Lnk) (x : List Nat) : List (List Nat) := ((bothF ls).filter fun l => decide (l.1 = x)).map (·.2)
theorem nb_adj {b : List Fct} {x y : List Nat} : y ∈ nbL (tpF b sameW) x ↔ adjF b x y := by
  unfold nbL bothF adjF
  rw [List.mem_map]
  constructor
  · rintro ⟨l, hl, rfl⟩
    obtain ⟨h1, h2⟩ := List.mem_filter.mp hl
    have h2 := of_decide_eq_true h2
    obtain ⟨m, hm, h3⟩ := List.mem_flatMap.mp h1
    simp only [List.mem_cons, List.not_mem_nil, or_false] at h3
    rcases h3 with rfl | rfl
    · subst h2; exact .inl hm
    · subst h2; exact .inr hm
  · rintro (h | h)
    · exact ⟨(x, y), List.mem_filter.mpr ⟨List.mem_flatMap.mpr ⟨_, h, by simp⟩, by simp⟩, rfl⟩
    · exact ⟨(x, y), List.mem_filter.mpr ⟨List.mem_flatMap.mpr ⟨_, h, by simp⟩, by simp⟩, rfl⟩
def lkD (g : List (D × List D)) (k : D) : List D := ((g.find? fun q => decide (q.1 = k)).map (·.2)).getD []
theorem lk_app (g : List (D × List D)) (k d k' : D) : lkD (appD g k d) k' = if k = k' then lkD g k ++ [d] else lkD g k' := by
  induction g with
  | nil =>
    rw [appD]
    unfold lkD
    by_cases h : k = k'
    · simp [h]
    · simp [h]
  | cons q g ih =>
    rw [appD]
    by_cases h1 : q.1 = k
    · rw [if_pos h1]
      unfold lkD
      by_cases h2 : k = k'
      · rw [if_pos h2]; simp [h1, h2]
      · have : ¬ q.1 = k' := fun z => h2 (h1.symm.trans z)
        rw [if_neg h2]; simp [this]
    · rw [if_neg h1]
      by_cases h3 : q.1 = k'
      · have h2 : ¬ k = k' := fun z => h1 (h3.trans z.symm)
        rw [if_neg h2]
        unfold lkD; simp [h3]
      · have e1 : ∀ g', lkD (q :: g') k' = lkD g' k' := fun g' => by unfold lkD; simp [h3]
        have e2 : lkD (q :: g) k = lkD g k := by unfold lkD; simp [h1]
        rw [e1, e1, e2]; exact ih
def nbG (ls : List Lnk) : List (D × List D) := (bothF ls).foldl (fun g l => appD g (encS l.1) (encS l.2)) []
theorem nbG_snoc (ls : List Lnk) (l : Lnk) : nbG (ls ++ [l]) = appD (appD (nbG ls) (encS l.1) (encS l.2)) (encS l.2) (encS l.1) := by
  unfold nbG bothF
  rw [List.flatMap_append, List.foldl_append]; rfl
theorem lk_nb (ls : List Lnk) (x : List Nat) : lkD (nbG ls) (encS x) = (nbL ls x).map encS := by
  unfold nbG nbL
  induction (bothF ls) using snoc_ind with
  | h0 => rfl
  | hs ps l ih =>
    rw [List.foldl_append]
    show lkD (appD _ (encS l.1) (encS l.2)) (encS x) = _
    rw [lk_app, List.filter_append]
    by_cases h : l.1 = x
    · subst h
      rw [if_pos rfl, ih, List.filter_cons_of_pos (by simp), List.filter_nil, List.map_append, List.map_append]; rfl
    · rw [if_neg fun z => h (encS_inj _ _ z), ih, List.filter_cons_of_neg (by simp [h]), List.filter_nil, List.append_nil]
def nbD (ls : List Lnk) : DD := (nbG ls).map fun q => (q.1, D.lst q.2)
theorem val_nb (ls : List Lnk) (x : List Nat) : (valD (nbD ls) (encS x)).getD (.lst []) = .lst ((nbL ls x).map encS) := by
  rw [← lk_nb]
  unfold valD nbD lkD
  rw [List.find?_map]
  show (Option.map _ (Option.map _ (List.find? (fun q : D × List D => decide (q.1 = encS x)) (nbG ls)))).getD _ = _
  cases List.find? (fun q : D × List D => decide (q.1 = encS x)) (nbG ls) <;> rfl
theorem appD_len (g : List (D × List D)) (k d : D) : (appD g k d).length ≤ g.length + 1 := by
  induction g with
  | nil => rw [appD]; simp
  | cons q g ih =>
    rw [appD]
    split
    · simp
    · simp only [List.length_cons]; omega
theorem appD_item {g : List (D × List D)} {k d : D} {n : Nat} (h : ∀ q ∈ g, q.2.length ≤ n) : ∀ q ∈ appD g k d, q.2.length ≤ n + 1 := by
  induction g with
  | nil =>
    rw [appD]
    intro q hq
    rw [List.mem_singleton.mp hq]; simp
  | cons a g ih =>
    rw [appD]
    have h1 := h a List.mem_cons_self
    split
    · intro q hq
      rcases List.mem_cons.mp hq with rfl | hq
      · simp; omega
      · have := h q (List.mem_cons_of_mem _ hq); omega
    · intro q hq
      rcases List.mem_cons.mp hq with rfl | hq
      · omega
      · exact ih (fun z hz => h z (List.mem_cons_of_mem _ hz)) q hq
theorem nbG_len (ls : List Lnk) : (nbG ls).length ≤ 2 * ls.length := by
  induction ls using snoc_ind with
  | h0 => exact Nat.le_refl _
  | hs ls l ih =>
    rw [nbG_snoc, List.length_append, List.length_singleton]
    have h1 := appD_len (nbG ls) (encS l.1) (encS l.2)
    have h2 := appD_len (appD (nbG ls) (encS l.1) (encS l.2)) (encS l.2) (encS l.1)
    omega
theorem nbG_item (ls : List Lnk) : ∀ q ∈ nbG ls, q.2.length ≤ 2 * ls.length := by
  induction ls using snoc_ind with
  | h0 => intro q hq; cases hq
  | hs ls l ih =>
    rw [nbG_snoc, List.length_append, List.length_singleton]
    exact appD_item (appD_item ih)
def resNb : List D → D
  | [.lst b] => D.dic (nbD (tpF (b.map unF) sameW))
  | _ => .non
theorem resNb_enc (b : List Fct) : resNb [bkD b] = D.dic (nbD (tpF b sameW)) := by
  show D.dic (nbD (tpF ((b.map encF).map unF) sameW)) = _
  rw [unF_map]
theorem tpF_len (b : List Fct) (w : List Nat) : (tpF b w).length ≤ b.length := by unfold tpF; rw [List.length_map]; exact List.length_filter_le ..
theorem ok_neighbours_of (Z : Tx K mg f_neighbours_of f_steps_from f_chain_of f_law_cell_at f_law_card f_law_fact f_law_book f_law_labels f_law_is_told f_law_rounds f_law d_neighbours_of d_steps_from d_chain_of d_law_cell_at d_law_card d_law_fact d_law_book d_law_labels d_law_is_told d_law_rounds d_law) : FnOk P w K mg base CX0 1 f_neighbours_of d_neighbours_of ["book"] (SpD K preLb resNb) := by
  refine Z.F_neighbours_of.ok sc_neighbours_of (fun vs H Q E h => spD_len (n := 1) (by rintro ds ⟨c, rfl, _⟩; rfl) h) (fun cdv A outer s H vs Q E hr h => ⟨_, (pss_cons (ps_set (i := 1) sc_neighbours_of.nd rfl (Or.inl rfl) pe_dnewK)
      (pss_cons (ps_for PassesOwn.never rfl (pi_list (pv 0)) (pg_name (i := 2) sc_neighbours_of.nd rfl (Or.inl rfl)) (pss_one (ps_if (pt_cmpR op_eq (pe_ix (show IxR _ (rIxT K) from ix_tup) (pv 2) pe_int (fun _ _ => rfl)) pe_str (nomark _)) (pss_cons (ps_expr (pe_bm F.plainAttrs_list F.slot_list_append F.type_list_append mt_append (pe_bm F.plainAttrs_dict F.slot_dict_setdefault F.type_dict_setdefault mt_setdefault (pv 1) (pa_cons (pe_ix (show IxR _ (rIxT K) from ix_tup) (pv 2) pe_int (fun _ _ => rfl)) (pa_cons (pe_lst pa_nil) pa_nil))) (pa_cons (pe_ix (show IxR _ (rIxT K) from ix_tup) (pv 2) pe_int (fun _ _ => rfl)) pa_nil)))
      (pss_one (ps_expr (pe_bm F.plainAttrs_list F.slot_list_append F.type_list_append mt_append (pe_bm F.plainAttrs_dict F.slot_dict_setdefault F.type_dict_setdefault mt_setdefault (pv 1) (pa_cons (pe_ix (show IxR _ (rIxT K) from ix_tup) (pv 2) pe_int (fun _ _ => rfl)) (pa_cons (pe_lst pa_nil) pa_nil))) (pa_cons (pe_ix (show IxR _ (rIxT K) from ix_tup) (pv 2) pe_int (fun _ _ => rfl)) pa_nil))))) pss_nil)))
      (pss_one (ps_ret (pv 1))))), ?_⟩)
  refine go_spD h (by rw [spD_len (n := 1) (by rintro ds ⟨c, rfl, _⟩; rfl) h]; decide) fun G ds hp rt => ?_
  obtain ⟨b, rfl, hbl⟩ := hp
  rw [resNb_enc] at rt
  have hz : ∀ {n : Nat}, n ≤ 10000 → n < sizeLine := fun h => by rw [sizeLine_eq]; omega
  refine go_seq (go_setML fun p => ?_)
  ((try dsimp only); refine nx_go ?_)
  refine go_seq (go_for encF b (fun k ss => ∃ (kqs : KQ) (v : Sl), ss = [.d (bkD b), dls K p kqs, v] ∧ kqs.map dat = nbG (tpF (b.take k) sameW)) (ev_var rfl) ⟨[], _, rfl, rfl⟩ ?_ ?_)
  · rintro L' k f ss hL hk ⟨kqs, v, rfl, hq⟩
    refine ⟨_, tg_name, fun N hN => ?_⟩
    have et : tpF (b.take (k + 1)) sameW = if f.2.1 = sameW then tpF (b.take k) sameW ++ [(f.1, f.2.2)] else tpF (b.take k) sameW := by rw [List.take_add_one, hk]; exact tpF_snoc _ _ _
    have hkl := (List.getElem?_eq_some_iff.mp hk).1
    have htl := tpF_len (b.take k) sameW
    rw [List.length_take] at htl
    refine go_if (evt_test (ev_eqS (m := sameW) (ev_ixT (ev_var rfl) ev_int.b rfl).b (ev_lit (by decide)).b)) (fun hb => ?_) (fun hb => ?_)
    · have hb : f.2.1 = sameW := of_decide_eq_true hb
      rw [if_pos hb] at et
      have hgl := nbG_len (tpF (b.take k) sameW)
      have hgi := nbG_item (tpF (b.take k) sameW)
      generalize tpF (b.take k) sameW = ls at et hq htl hgl hgi
      have hkq : kqs.length ≤ 2 * ls.length := by rw [← hq, List.length_map] at hgl; exact hgl
      have hki : ∀ z ∈ kqs, z.2.2.length ≤ 2 * ls.length := fun z hz => by
        have : dat z ∈ nbG ls := by rw [← hq]; exact List.mem_map_of_mem hz
        exact hgi _ this
      refine go_seq (go_dapp (i := 1) (k := encS f.1) (d := encS f.2.2) rfl (ev_ixT (ev_var rfl) ev_int.b rfl).b rfl (fun kqs' => ev_ixT (ev_var rfl) ev_int.b rfl) (hz (by omega)) (fun z hzm => hz (by have := hki z hzm; omega)) fun kq1 he1 => ?_)
      ((try dsimp only); refine nx_go ?_)
      have hk1 : kq1.length ≤ 2 * ls.length + 1 := by
        have := congrArg List.length he1
        rw [List.length_map] at this
        have h2 := appD_len (kqs.map dat) (encS f.1) (encS f.2.2)
        rw [List.length_map] at h2
        omega
      have hi1 : ∀ z ∈ kq1, z.2.2.length ≤ 2 * ls.length + 1 := fun z hz => by
        have : dat z ∈ appD (kqs.map dat) (encS f.1) (encS f.2.2) := by rw [← he1]; exact List.mem_map_of_mem hz
        rw [hq] at this
        exact appD_item hgi _ this
      refine go_dapp (i := 1) (k := encS f.2.2) (d := encS f.1) rfl (ev_ixT (ev_var rfl) ev_int.b rfl).b rfl (fun kqs' => ev_ixT (ev_var rfl) ev_int.b rfl) (hz (by omega)) (fun z hzm => hz (by have := hi1 z hzm; omega)) fun kq2 he2 => hN _ ⟨kq2, _, rfl, ?_⟩
      rw [he2, he1, hq, et, nbG_snoc]
    · have hb : f.2.1 ≠ sameW := of_decide_eq_false hb
      rw [if_neg hb] at et
      exact go_next (hN _ ⟨kqs, _, rfl, by rw [et]; exact hq⟩)
  rintro ss ⟨kqs, v, rfl, hq⟩
  rw [List.take_length] at hq
  refine nx_freezeL (i := 1) rfl ?_
  refine nx_freezeM (i := 1) rfl ?_
  ((try dsimp only); refine nx_go ?_)
  have e : kqs.map frzL = nbD (tpF b sameW) := by
    unfold nbD
    rw [← hq, List.map_map]; rfl
  rw [← e] at rt
  exact go_ret (ev_var rfl) rt
def encO : Option (List Nat) → D
  | none => .non
  | some c => encS c
def endsF (ls : List Lnk) : List (List Nat) := (bothF ls).map (·.1)
theorem endsF_len (ls : List Lnk) : (endsF ls).length = 2 * ls.length := by
  unfold endsF bothF
  rw [List.length_map]
  induction ls with
  | nil => rfl
  | cons l ls ih => rw [List.flatMap_cons, List.length_append, ih, List.length_cons]; simp; omega
theorem ends_adj {b : List Fct} {x y : List Nat} (h : adjF b x y) : y ∈ endsF (tpF b sameW) := by
  unfold endsF bothF
  rw [List.mem_map]
  rcases h with h | h
  · exact ⟨(y, x), List.mem_flatMap.mpr ⟨_, h, by simp⟩, rfl⟩
  · exact ⟨(y, x), List.mem_flatMap.mpr ⟨_, h, by simp⟩, rfl⟩
theorem some_in {β : Type} [DecidableEq β] (enc : β → D) (R : List (List Nat)) (f : List Nat → β) (c : List Nat) : (valD (dA encS enc R f) (encS c)).isSome = decide (c ∈ R) := by
  by_cases h : c ∈ R
  · rw [valD_in encS_inj h, decide_eq_true h]; rfl
  · rw [valD_out encS_inj h, decide_eq_false h]; rfl
structure Walk (b : List Fct) (one : List Nat) (R : List (List Nat)) (par : List Nat → Option (List Nat)) (lev : List Nat → Nat) : Prop where
  bfs : Bfs (adjF b) one R par lev
  all : ∀ h ∈ R, ∀ y, adjF b h y → y ∈ R ∧ lev y ≤ lev h + 1
  univ : ∀ c ∈ R, c ∈ one :: endsF (tpF b sameW)
  len : R.length ≤ 601
def preSt (ds : List D) : Prop := ∃ (b : List Fct) (one : List Nat), ds = [bkD b, encS one] ∧ b.length ≤ 300
def relSt (ds : List D) (r : D) : Prop := ∀ (b : List Fct) (one : List Nat), ds = [bkD b, encS one] → ∃ R par lev, r = D.dic (dA encS encO R par) ∧ Walk b one R par lev
theorem ok_steps_from (Z : Tx K mg f_neighbours_of f_steps_from f_chain_of f_law_cell_at f_law_card f_law_fact f_law_book f_law_labels f_law_is_told f_law_rounds f_law d_neighbours_of d_steps_from d_chain_of d_law_cell_at d_law_card d_law_fact d_law_book d_law_labels d_law_is_told d_law_rounds d_law) : FnOk P w K mg base CX0 2 f_steps_from d_steps_from ["book", "one"] (SpRD K preSt relSt) := by
  have G_neighbours_of := ok_neighbours_of (P := P) (w := w) (base := base) Z
  refine Z.F_steps_from.ok sc_steps_from (fun vs H Q E h => spRD_len (n := 2) (by rintro ds ⟨c, d, rfl, _⟩; rfl) h) (fun cdv A outer s H vs Q E hr h => ⟨_, (pss_cons (ps_set (i := 2) sc_steps_from.nd rfl (Or.inl rfl) (pe_call G_neighbours_of (hr.mono (by decide)) (by rfl) Z.M_neighbours_of Z.F_neighbours_of.kp Z.B_neighbours_of .nil pass0 (pa_cons (pv 0) pa_nil)))
      (pss_cons (ps_set (i := 3) sc_steps_from.nd rfl (Or.inl rfl) (pe_disp (pps_cons (pv 1) pe_non pps_nil) rfl rfl (List.cons_ne_nil _ _) (by decide)))
      (pss_cons (ps_set (i := 4) sc_steps_from.nd rfl (Or.inl rfl) (pe_lst (pa_cons (pv 1) pa_nil)))
      (pss_cons (ps_set (i := 5) sc_steps_from.nd rfl (Or.inl rfl) pe_int)
      (pss_cons (ps_while PassesOwn.never (pt_cmpR op_lt (pv 5) (pe_callB call_len_seq (by rfl) Z.z_len boot_len (pa_cons (pv 4) pa_nil)) (nomark _)) (pss_cons (ps_set (i := 6) sc_steps_from.nd rfl (Or.inl rfl) (pe_ix (show IxR _ (rIxL K) from ix_list) (pv 4) (pv 5) (fun _ _ => rfl)))
      (pss_cons (ps_for PassesOwn.never rfl (pi_list (pe_dget2 (hu_of hr) (pv 2) (pv 6) (pe_lst pa_nil) ⟨by rfl, by rfl, by rfl, by rfl⟩)) (pg_name (i := 7) sc_steps_from.nd rfl (Or.inl rfl)) (pss_one (ps_if (pt_cmp (pc_dnotin (hu_of hr) (pv 7) (pv 3)) (by with_unfolding_all rfl)) (pss_cons (ps_dput (hu_of hr) (pv 3) (pv 7) (pv 6) rfl)
      (pss_one (ps_expr (pe_bm F.plainAttrs_list F.slot_list_append F.type_list_append mt_append (pv 4) (pa_cons (pv 7) pa_nil))))) pss_nil)))
      (pss_one (ps_set (i := 5) sc_steps_from.nd rfl (Or.inl rfl) (pe_op op_add (pv 5) pe_int))))))
      (pss_one (ps_ret (pv 3)))))))), ?_⟩)
  refine go_spRD h (by rw [spRD_len (n := 2) (by rintro ds ⟨c, d, rfl, _⟩; rfl) h]; decide) fun G ds hp rt => ?_
  obtain ⟨b, one, rfl, hbl⟩ := hp
  have hz : ∀ {n : Nat}, n ≤ 10000 → n < sizeLine := fun h => by rw [sizeLine_eq]; omega
  have dl : ∀ (ys : List (List Nat)) (f : List Nat → Option (List Nat)), (dA encS encO ys f).length = ys.length := fun ys f => by unfold dA; rw [List.length_map]
  refine go_seq (go_set (d := D.dic (nbD (tpF b sameW))) (by rw [← resNb_enc]; exact ev_call (pre := preLb) (res := resNb) (ds := [bkD b]) (evaf_cons (ev_var rfl) evaf_nil) ⟨b, rfl, hbl⟩) ?_)
  ((try dsimp only); refine nx_go ?_)
  refine go_seq (go_setM1 (i := 3) (k := encS one) (d := .non) (ev_var rfl).b rfl ev_non fun p => ?_)
  ((try dsimp only); refine nx_go ?_)
  refine go_seq (go_setO (ds := [encS one]) (evo_lst (evaf_cons (ev_var rfl) evaf_nil) (small (by simp))) fun p2 => ?_)
  ((try dsimp only); refine nx_go ?_)
  refine go_seq (go_set (d := .int (0 : Nat)) ev_int ?_)
  ((try dsimp only); refine nx_go ?_)
  have hul : (one :: endsF (tpF b sameW)).length ≤ 601 := by
    have := endsF_len (tpF b sameW)
    have := tpF_len b sameW
    rw [List.length_cons]; omega
  have huA : ∀ {x y : List Nat}, adjF b x y → y ∈ one :: endsF (tpF b sameW) := fun h => List.mem_cons_of_mem _ (ends_adj h)
  generalize hU : one :: endsF (tpF b sameW) = U at hul huA
  have hU1 : one ∈ U := by rw [← hU]; exact List.mem_cons_self
  have hRl : ∀ {R : List (List Nat)}, R.Nodup → (∀ c ∈ R, c ∈ U) → R.length ≤ U.length := fun h1 h2 => nod_len h1 h2
  refine go_seq (go_while (fun m ss => ∃ (R : List (List Nat)) (par : List Nat → Option (List Nat)) (lev : List Nat → Nat) (k : Nat) (v6 v7 : Sl), ss = [.d (bkD b), .d (encS one), .d (D.dic (nbD (tpF b sameW))), dsl K p (dA encS encO R par), .o p2 (R.map encS), .d (.int k), v6, v7] ∧ Bfs (adjF b) one R par lev ∧ BTop R lev k ∧ BDone (adjF b) R lev k ∧ (∀ c ∈ R, c ∈ U) ∧ k ≤ R.length ∧ m = U.length - k) (U.length - 0) ⟨[one], fun _ => none, fun _ => 0, 0, .un, .un, rfl, Bfs.start _ _, (fun h hh c hc => by simp), (fun j h hj => by omega), (fun c hc => by rw [List.mem_singleton.mp hc]; exact hU1), Nat.zero_le _, rfl⟩ ?_)
  rintro m ss ⟨R, par, lev, k, v6, v7, rfl, B, top, dn, hu, hkl, rfl⟩
  have hRU := hRl B.nd hu
  have hlm : ((R.map encS).length : Int) = R.length := by rw [List.length_map]
  refine ⟨_, evt_test (ev_lt (ev_var rfl).b (ev_lenL (evl_own rfl)).b), fun hb N hN => ?_, fun hb => ?_⟩
  · have hb : k < R.length := by have := of_decide_eq_true hb; rw [hlm] at this; omega
    have hk : R[k]? = some R[k] := List.getElem?_eq_getElem hb
    generalize R[k] = h at hk
    refine go_seq (go_set (d := encS h) (ev_ixL (evl_own rfl) (ev_var rfl).b (atI_nat (by rw [List.getElem?_map, hk]; rfl))) ?_)
    ((try dsimp only); refine nx_go ?_)
    refine go_seq (go_for encS (nbL (tpF b sameW) h) (fun q ss => ∃ (R : List (List Nat)) (par : List Nat → Option (List Nat)) (lev : List Nat → Nat) (v7 : Sl), ss = [.d (bkD b), .d (encS one), .d (D.dic (nbD (tpF b sameW))), dsl K p (dA encS encO R par), .o p2 (R.map encS), .d (.int k), .d (encS h), v7] ∧ Bfs (adjF b) one R par lev ∧ BTop R lev k ∧ BDone (adjF b) R lev k ∧ (∀ c ∈ R, c ∈ U) ∧ R[k]? = some h ∧ ∀ y ∈ (nbL (tpF b sameW) h).take q, y ∈ R ∧ lev y ≤ lev h + 1) (by rw [← val_nb]; exact ev_dget2F (ev_var rfl) (ev_var rfl).b (EvO.ev (evo_lst evaf_nil (by decide))) rfl) ⟨R, par, lev, _, rfl, B, top, dn, hu, hk, fun y hy => by simp at hy⟩ ?_ ?_)
    · rintro L' q c ss hL hq ⟨R, par, lev, v7, rfl, B, top, dn, hu, hk, hdn⟩
      refine ⟨_, tg_name, fun N2 hN2 => ?_⟩
      have ha : adjF b h c := nb_adj.mp (List.mem_of_getElem? hq)
      have hRU := hRl B.nd hu
      have ext : (nbL (tpF b sameW) h).take (q + 1) = (nbL (tpF b sameW) h).take q ++ [c] := by rw [List.take_add_one, hq]; rfl
      refine go_if (b := !decide (c ∈ R)) (evt_b (by rw [← some_in encO R par c]; exact ev_dnotin (k := encS c) rfl (ev_var rfl).b rfl)) (fun hb => ?_) (fun hb => ?_)
      · have hc : c ∉ R := by rw [Bool.not_eq_true', decide_eq_false_iff_not] at hb; exact hb
        obtain ⟨B2, top2, dn2, hk2⟩ := B.add hk top dn hc ha
        refine go_seq (go_dput (i := 3) (d := encS h) (k := encS c) rfl (ev_var rfl) (ev_var rfl).b rfl (hz (by rw [dl]; omega)) ?_)
        ((try dsimp only); refine nx_go ?_)
        refine go_append rfl (ev_var rfl) (hz (by rw [List.length_map]; omega)) (hN2 _ ⟨R ++ [c], _, _, .d (encS c), ?_, B2, top2, dn2, fun u hu2 => ?_, hk2, fun y hy => ?_⟩)
        · have e : putD (dA encS encO R par) (encS c) (encS h) = dA encS encO (R ++ [c]) (fun u => if u = c then some h else par u) := by
            have e1 : dA encS encO R par = dA encS encO R (fun u => if u = c then some h else par u) := dA_congr fun a ha => by
              have hac : a ≠ c := fun z => hc (z ▸ ha)
              show par a = if a = c then some h else par a
              rw [if_neg hac]
            rw [e1]
            have := putD_new (enc := encS) (encB := encO) (f := fun u => if u = c then some h else par u) encS_inj hc
            rw [show encO (if c = c then some h else par c) = encS h by rw [if_pos rfl]; rfl] at this
            exact this
          rw [e, List.map_append]; rfl
        · rcases List.mem_append.mp hu2 with hu2 | hu2
          · exact hu u hu2
          · rw [List.mem_singleton.mp hu2]; exact huA ha
        · have hhc : h ≠ c := fun z => hc (z ▸ List.mem_of_getElem? hk)
          show y ∈ R ++ [c] ∧ (if y = c then lev h + 1 else lev y) ≤ (if h = c then lev h + 1 else lev h) + 1
          rw [if_neg hhc]
          by_cases e : y = c
          · rw [if_pos e, e]; exact ⟨by simp, Nat.le_refl _⟩
          · rw [if_neg e]
            rw [ext] at hy
            rcases List.mem_append.mp hy with hy | hy
            · exact ⟨List.mem_append_left _ (hdn y hy).1, (hdn y hy).2⟩
            · exact absurd (List.mem_singleton.mp hy) e
      · have hc : c ∈ R := by rw [Bool.not_eq_false', decide_eq_true_eq] at hb; exact hb
        refine go_next (hN2 _ ⟨R, par, lev, _, rfl, B, top, dn, hu, hk, fun y hy => ?_⟩)
        rw [ext] at hy
        rcases List.mem_append.mp hy with hy | hy
        · exact hdn y hy
        · rw [List.mem_singleton.mp hy]; exact ⟨hc, top h hk c hc⟩
    · rintro ss ⟨R, par, lev, v7, rfl, B, top, dn, hu, hk, hdn⟩
      rw [List.take_length] at hdn
      ((try dsimp only); refine nx_go ?_)
      obtain ⟨top2, dn2⟩ := B.next hk top dn fun y hy => hdn y (nb_adj.mpr hy)
      have hkl := (List.getElem?_eq_some_iff.mp hk).1
      have hRU := hRl B.nd hu
      refine go_set (d := .int ((k + 1 : Nat) : Int)) (by rw [Int.natCast_add]; exact ev_add (ev_var rfl).b ev_int.b) (hN (U.length - (k + 1)) _ (by omega) ⟨R, par, lev, k + 1, _, _, rfl, B, top2, dn2, hu, hkl, rfl⟩)
  · have hb : k = R.length := by have := of_decide_eq_false hb; rw [hlm] at this; omega
    subst hb
    refine nx_freezeM (i := 3) rfl ?_
    ((try dsimp only); refine nx_go ?_)
    refine go_ret (ev_var rfl) (rt _ fun b' one' e => ?_)
    injection e with e1 e2
    injection e2 with e2 _
    have e1 := bkD_inj e1
    have e2 := encS_inj _ _ e2
    subst e1 e2
    exact ⟨R, par, lev, rfl, B, bdone_all dn, by rw [hU]; exact hu, by omega⟩
def preCh (ds : List D) : Prop := ∃ (b : List Fct) (one other : List Nat), ds = [bkD b, encS one, encS other] ∧ b.length ≤ 300
def relCh (ds : List D) (r : D) : Prop := ∀ (b : List Fct) (one other : List Nat), ds = [bkD b, encS one, encS other] → ∃ R par lev, Walk b one R par lev ∧ ((other ∉ R ∧ r = .non) ∨ (other ∈ R ∧ ∃ l : List (List Nat), r = .lst (l.map encS) ∧ ChnOk (adjF b) one other (lev other) l))
theorem ok_chain_of (Z : Tx K mg f_neighbours_of f_steps_from f_chain_of f_law_cell_at f_law_card f_law_fact f_law_book f_law_labels f_law_is_told f_law_rounds f_law d_neighbours_of d_steps_from d_chain_of d_law_cell_at d_law_card d_law_fact d_law_book d_law_labels d_law_is_told d_law_rounds d_law) : FnOk P w K mg base CX0 3 f_chain_of d_chain_of ["book", "one", "other"] (SpRD K preCh relCh) := by
  have G_steps_from := ok_steps_from (P := P) (w := w) (base := base) Z
  refine Z.F_chain_of.ok sc_chain_of (fun vs H Q E h => spRD_len (n := 3) (by rintro ds ⟨c, d, e, rfl, _⟩; rfl) h) (fun cdv A outer s H vs Q E hr h => ⟨_, (pss_cons (ps_set (i := 3) sc_chain_of.nd rfl (Or.inl rfl) (pe_call G_steps_from (hr.mono (by decide)) (by rfl) Z.M_steps_from Z.F_steps_from.kp Z.B_steps_from .nil pass0 (pa_cons (pv 0) (pa_cons (pv 1) pa_nil))))
      (pss_cons (ps_if (pt_cmp (pc_dnotin (hu_of hr) (pv 2) (pv 3)) (by with_unfolding_all rfl)) (pss_one (ps_ret pe_non)) pss_nil)
      (pss_cons (ps_set (i := 4) sc_chain_of.nd rfl (Or.inl rfl) (pe_lst pa_nil))
      (pss_cons (ps_set (i := 5) sc_chain_of.nd rfl (Or.inl rfl) (pv 2))
      (pss_cons (ps_while PassesOwn.never (pt_cmpR (show OpR _ _ rNotN from op_notN) (pv 5) pe_non (nomark _)) (pss_cons (ps_expr (pe_bm F.plainAttrs_list F.slot_list_append F.type_list_append mt_append (pv 4) (pa_cons (pv 5) pa_nil)))
      (pss_one (ps_set (i := 5) sc_chain_of.nd rfl (Or.inl rfl) (pe_dget (hu_of hr) (pv 3) (pv 5) (fun _ _ => rfl))))))
      (pss_one (ps_ret (pe_listrev rfl (by rfl) Z.z_list (by rfl) Z.z_reversed (pa_cons (pv 4) pa_nil))))))))), ?_⟩)
  refine go_spRD h (by rw [spRD_len (n := 3) (by rintro ds ⟨c, d, e, rfl, _⟩; rfl) h]; decide) fun G ds hp rt => ?_
  obtain ⟨b, one, other, rfl, hbl⟩ := hp
  have rt : ∀ r, (∃ R par lev, Walk b one R par lev ∧ ((other ∉ R ∧ r = .non) ∨ (other ∈ R ∧ ∃ l : List (List Nat), r = .lst (l.map encS) ∧ ChnOk (adjF b) one other (lev other) l))) → RtD K G H Q r := fun r hr => rt r fun b' one' other' e => by
    injection e with e1 e2
    injection e2 with e2 e3
    injection e3 with e3 _
    have e1 := bkD_inj e1
    have e2 := encS_inj _ _ e2
    have e3 := encS_inj _ _ e3
    subst e1 e2 e3
    exact hr
  refine go_seq (go_asgRD (pre := preSt) (R := relSt) (ds := [bkD b, encS one]) (evaf_cons (ev_var rfl) (evaf_cons (ev_var rfl) evaf_nil)) ⟨b, one, rfl, hbl⟩ fun r hR => ?_)
  obtain ⟨R, par, lev, rfl, W⟩ := hR b one rfl
  refine ⟨_, tg_name, ?_⟩
  ((try dsimp only); refine nx_go ?_)
  refine go_seq (go_if (b := !decide (other ∈ R)) (evt_b (by rw [← some_in encO R par other]; exact ev_dnotinF (k := encS other) (ev_var rfl) (ev_var rfl).b rfl)) (fun hb => ?_) (fun hb => ?_))
  · have hb : other ∉ R := by rw [Bool.not_eq_true', decide_eq_false_iff_not] at hb; exact hb
    exact go_ret ev_non (rt _ ⟨R, par, lev, W, .inl ⟨hb, rfl⟩⟩)
  have ho : other ∈ R := by rw [Bool.not_eq_false', decide_eq_true_eq] at hb; exact hb
  refine go_next ?_
  ((try dsimp only); refine nx_go ?_)
  refine go_seq (go_setO (evo_lst evaf_nil (by decide)) fun p => ?_)
  ((try dsimp only); refine nx_go ?_)
  refine go_seq (go_set (d := encS other) (ev_var rfl) ?_)
  ((try dsimp only); refine nx_go ?_)
  have hlo := W.bfs.bnd other ho
  have hle := W.len
  refine go_seq (go_while (fun m ss => ∃ (ch : List (List Nat)) (cur : Option (List Nat)), ss = [.d (bkD b), .d (encS one), .d (encS other), .d (D.dic (dA encS encO R par)), .o p (ch.map encS), .d (encO cur)] ∧ Chn (adjF b) R lev one other ch cur ∧ m = lev other + 1 - ch.length) (lev other + 1 - 0) ⟨[], some other, rfl, Chn.start ho, rfl⟩ ?_)
  rintro m ss ⟨ch, cur, rfl, C, rfl⟩
  refine ⟨_, evt_test (ev_notN (ev_var rfl).b), fun hb N hN => ?_, fun hb => ?_⟩
  · cases cur with
    | none => simp [encO] at hb
    | some c =>
      obtain ⟨hc, hl, _⟩ := C.at_ c rfl
      refine go_seq (go_append (d := encS c) rfl (ev_var rfl) (by rw [List.length_map, sizeLine_eq]; omega) ?_)
      ((try dsimp only); refine nx_go ?_)
      refine go_set (d := encO (par c)) (ev_dgetF (k := encS c) (ev_var rfl) (ev_var rfl).b rfl (valD_in encS_inj hc)) (hN (lev other + 1 - (ch ++ [c]).length) _ (by rw [List.length_append, List.length_singleton]; omega) ⟨ch ++ [c], par c, by rw [List.map_append]; rfl, C.step W.bfs, rfl⟩)
  · cases cur with
    | some c =>
      have : (encO (some c) = D.non) = False := by simp [encO, encS]
      simp [this] at hb
    | none =>
      ((try dsimp only); refine nx_go ?_)
      refine go_ret (d := .lst (ch.reverse.map encS)) (by rw [List.map_reverse]; exact EvO.ev (evo_listrev (evl_own rfl))) (rt _ ⟨R, par, lev, W, .inr ⟨ho, ch.reverse, rfl, C.done⟩⟩)
def srtL (kvs : DD) : List (List Nat) := (sortD (kvs.map (·.1))).map unS
theorem encS_nb (c : List Nat) : (encS c).nb = true := rfl
def toldB (b : List Fct) (x y : List Nat) : Bool := decide (encF (x, sameW, y) ∈ b.map encF) || decide (encF (y, sameW, x) ∈ b.map encF)
theorem tp_mem {b : List Fct} {x y : List Nat} : (x, y) ∈ tpF b sameW ↔ (x, sameW, y) ∈ b := by
  unfold tpF
  rw [List.mem_map]
  constructor
  · rintro ⟨f, hf, e⟩
    obtain ⟨h1, h2⟩ := List.mem_filter.mp hf
    have h2 := of_decide_eq_true h2
    obtain ⟨f1, f2, f3⟩ := f
    simp only [Prod.mk.injEq] at e h2
    rw [← e.1, ← e.2, ← h2]; exact h1
  · intro h
    exact ⟨_, List.mem_filter.mpr ⟨h, decide_eq_true rfl⟩, rfl⟩
theorem told_adj {b : List Fct} {x y : List Nat} : toldB b x y = true ↔ adjF b x y := by
  unfold toldB adjF
  rw [Bool.or_eq_true, decide_eq_true_eq, decide_eq_true_eq, mem_enc, mem_enc, tp_mem, tp_mem]
def preTo (ds : List D) : Prop := ∃ (b : List Fct) (x y : List Nat), ds = [bkD b, encS x, encS y]
def resTo : List D → D
  | [.lst b, .str x, .str y] => .bl (toldB (b.map unF) x y)
  | _ => .non
theorem resTo_enc (b : List Fct) (x y : List Nat) : resTo [bkD b, encS x, encS y] = .bl (toldB b x y) := by
  show D.bl (toldB ((b.map encF).map unF) x y) = _
  rw [unF_map]
theorem ok_law_is_told (Z : Tx K mg f_neighbours_of f_steps_from f_chain_of f_law_cell_at f_law_card f_law_fact f_law_book f_law_labels f_law_is_told f_law_rounds f_law d_neighbours_of d_steps_from d_chain_of d_law_cell_at d_law_card d_law_fact d_law_book d_law_labels d_law_is_told d_law_rounds d_law) : FnOk P w K mg base CX0 1 f_law_is_told d_law_is_told ["_law_book_here", "_law_one", "_law_other"] (SpD K preTo resTo) := by
  refine Z.F_law_is_told.ok sc_law_is_told (fun vs H Q E h => spD_len (n := 3) (by rintro ds ⟨c, d, e, rfl⟩; rfl) h) (fun cdv A outer s H vs Q E hr h => ⟨_, (pss_one (ps_ret (pe_or (pe_cmpR (show OpR _ _ (rInD K false) from op_inD hr.units) (pe_tup (pa_cons (pv 1) (pa_cons pe_str (pa_cons (pv 2) pa_nil)))) (pv 0) (by with_unfolding_all rfl)) (pe_one (pe_cmpR (show OpR _ _ (rInD K false) from op_inD hr.units) (pe_tup (pa_cons (pv 2) (pa_cons pe_str (pa_cons (pv 1) pa_nil)))) (pv 0) (by with_unfolding_all rfl)))))), ?_⟩)
  refine go_spD h (by rw [spD_len (n := 3) (by rintro ds ⟨c, d, e, rfl⟩; rfl) h]; decide) fun G ds hp rt => ?_
  obtain ⟨b, x, y, rfl⟩ := hp
  rw [resTo_enc] at rt
  refine go_ret (ev_or (ev_inD (d := encF (x, sameW, y)) (Ev.b (ev_tup (evaf_cons (ev_var rfl) (evaf_cons (ev_lit (by decide)) (evaf_cons (ev_var rfl) evaf_nil))) (small (by simp)))) (ev_var rfl).b rfl (D.nbs_map nbF b) (by have := dpF (x, sameW, y); omega)) fun _ => ev_inD (d := encF (y, sameW, x)) (Ev.b (ev_tup (evaf_cons (ev_var rfl) (evaf_cons (ev_lit (by decide)) (evaf_cons (ev_var rfl) evaf_nil))) (small (by simp)))) (ev_var rfl).b rfl (D.nbs_map nbF b) (by have := dpF (y, sameW, x); omega)) rt
def preRo (n : Nat) (ds : List D) : Prop := ∃ (b : List Fct) (cards : List (List Nat)) (one other : List Nat) (R : List (List Nat)) (par : List Nat → Option (List Nat)) (lev : List Nat → Nat), ds = [bkD b, .lst (cards.map encS), encS one, encS other] ∧ Walk b one R par lev ∧ (∀ c ∈ R, c ∈ cards) ∧ cards.length ≤ 700 ∧ other ∈ R ∧ n = lev other
def resRo (n : Nat) : D := .int ((n + 1 : Nat) : Int)
theorem ok_law_rounds (Z : Tx K mg f_neighbours_of f_steps_from f_chain_of f_law_cell_at f_law_card f_law_fact f_law_book f_law_labels f_law_is_told f_law_rounds f_law d_neighbours_of d_steps_from d_chain_of d_law_cell_at d_law_card d_law_fact d_law_book d_law_labels d_law_is_told d_law_rounds d_law) : FnOk P w K mg base CX0 2 f_law_rounds d_law_rounds ["_law_book_here", "_law_cards", "_law_one", "_law_other"] (SpG K preRo resRo) := by
  have G_law_is_told := ok_law_is_told (P := P) (w := w) (base := base) Z
  refine Z.F_law_rounds.ok sc_law_rounds (fun vs H Q E h => spG_len (n := 4) (by rintro n ds ⟨c, d, e, f, g, h, i, rfl, _⟩; rfl) h) (fun cdv A outer s H vs Q E hr h => ⟨_, (pss_cons (ps_set (i := 4) sc_law_rounds.nd rfl (Or.inl rfl) (pe_lst (pa_cons (pv 2) pa_nil)))
      (pss_cons (ps_set (i := 5) sc_law_rounds.nd rfl (Or.inl rfl) pe_int)
      (pss_cons (ps_while PassesOwn.never (pt_cmpR (show OpR _ _ (rInD K true) from op_notInD hr.units) (pv 3) (pv 4) (by with_unfolding_all rfl)) (pss_cons (ps_set (i := 6) sc_law_rounds.nd rfl (Or.inl rfl) (pe_lst pa_nil))
      (pss_cons (ps_for PassesOwn.never rfl (pi_list (pv 1)) (pg_name (i := 7) sc_law_rounds.nd rfl (Or.inr rfl)) (pss_one (ps_if (PW.pt (pw_and (pt_cmpR (show OpR _ _ (rInD K true) from op_notInD hr.units) (pv 7) (pv 4) (by with_unfolding_all rfl)) (pw_and1 (pt_val (pe_callB (call_any rfl) (by rfl) Z.z_any boot_any (pa_cons (pe_lc rfl (LcOk.of (Nx := (["_law_book_here", "_law_cards", "_law_one", "_law_other", "_law_seen", "_law_rounds_here", "_law_new", "_law_card_here"] : List Str)) (sc := defScope s_law_rounds) (N' := (["_law_near", "_law_book_here", "_law_card_here"] : List Str)) (nt := 1) (cs := [0, 7]) rfl rfl (by decide +kernel)) (pi_list (pv 4)) (fun _ _ _ _ => (pg_name (i := 0) (show List.Nodup (["_law_near", "_law_book_here", "_law_card_here"] : List Str) by decide +kernel) rfl (Or.inl rfl))) (fun _ _ _ _ => pifs_nil) (fun _ _ _ _ => (pe_call G_law_is_told (hr.mono (by decide)) (by rfl) Z.M_law_is_told Z.F_law_is_told.kp Z.B_law_is_told .nil pass0 (pa_cons (pv 1) (pa_cons (pv 2) (pa_cons (pv 0) pa_nil)))))) pa_nil)))))) (pss_one (ps_expr (pe_bm F.plainAttrs_list F.slot_list_append F.type_list_append mt_append (pv 6) (pa_cons (pv 7) pa_nil)))) pss_nil)))
      (pss_cons (ps_set (i := 4) sc_law_rounds.nd rfl (Or.inl rfl) (pe_op (show OpR _ _ (rCatD K) from op_catD) (pv 4) (pv 6)))
      (pss_one (ps_set (i := 5) sc_law_rounds.nd rfl (Or.inl rfl) (pe_op op_add (pv 5) pe_int)))))))
      (pss_one (ps_ret (pv 5)))))), ?_⟩)
  refine go_spG h (by rw [spG_len (n := 4) (by rintro n ds ⟨c, d, e, f, g, h, i, rfl, _⟩; rfl) h]; decide) fun G ds n hp rt => ?_
  obtain ⟨b, cards, one, other, R, par, lev, rfl, W, hRc, hcl, ho, rfl⟩ := hp
  have hlo := W.bfs.bnd other ho
  have hle := W.len
  refine go_seq (go_setO (ds := [encS one]) (evo_lst (evaf_cons (ev_var rfl) evaf_nil) (small (by simp))) fun p => ?_)
  ((try dsimp only); refine nx_go ?_)
  refine go_seq (go_set (d := .int ((0 + 1 : Nat) : Int)) ev_int ?_)
  ((try dsimp only); refine nx_go ?_)
  refine go_seq (go_while (fun m ss => ∃ (p : Addr) (S : List (List Nat)) (r : Nat) (v6 v7 : Sl), ss = [.d (bkD b), .d (.lst (cards.map encS)), .d (encS one), .d (encS other), .o p (S.map encS), .d (.int ((r + 1 : Nat) : Int)), v6, v7] ∧ (∀ c, c ∈ S ↔ c ∈ R ∧ lev c ≤ r) ∧ S.length ≤ 1 + 700 * r ∧ r ≤ lev other ∧ m = lev other - r) (lev other - 0) ⟨p, [one], 0, .un, .un, rfl, (fun c => ?_), by simp, Nat.zero_le _, rfl⟩ ?_)
  · rw [List.mem_singleton]
    constructor
    · rintro rfl; exact ⟨W.bfs.one_in, by rw [W.bfs.lev0]; exact Nat.le_refl _⟩
    · rintro ⟨h1, h2⟩
      refine Classical.byContradiction fun hne => ?_
      obtain ⟨g, _, _, _, hl⟩ := W.bfs.par_of c h1 hne
      omega
  rintro m ss ⟨p, S, r, v6, v7, rfl, hS, hSl, hrl, rfl⟩
  have hin : ∀ c : List Nat, encS c ∈ S.map encS ↔ c ∈ S := fun c => ⟨fun h => by obtain ⟨y, hy, e⟩ := List.mem_map.mp h; rw [← encS_inj _ _ e]; exact hy, fun h => List.mem_map_of_mem h⟩
  have hSz : S.length ≤ 500000 := by
    have : 700 * r ≤ 700 * 601 := Nat.mul_le_mul_left _ (by omega)
    omega
  refine ⟨_, evt_test (ev_notInD (d := encS other) (ev_var rfl).b (evl_own rfl).b rfl (D.nbs_map encS_nb S) (by show 0 ≤ 60; decide)), fun hb N hN => ?_, fun hb => ?_⟩
  · have hb : ¬ lev other ≤ r := fun z => by
      rw [Bool.not_eq_true', decide_eq_false_iff_not] at hb
      exact hb ((hin other).mpr ((hS other).mpr ⟨ho, z⟩))
    refine go_seq (go_setO (evo_lst evaf_nil (by decide)) fun p2 => ?_)
    ((try dsimp only); refine nx_go ?_)
    refine go_seq (go_for encS cards (fun q ss => ∃ v7 : Sl, ss = [.d (bkD b), .d (.lst (cards.map encS)), .d (encS one), .d (encS other), .o p (S.map encS), .d (.int ((r + 1 : Nat) : Int)), .o p2 (((cards.take q).filter fun c => !decide (encS c ∈ S.map encS) && S.any (toldB b c)).map encS), v7]) (ev_var rfl) ⟨_, rfl⟩ ?_ ?_)
    · rintro L' q c ss hL hq ⟨v7, rfl⟩
      refine ⟨_, tg_name, fun N2 hN2 => ?_⟩
      have ext : (cards.take (q + 1)).filter (fun c => !decide (encS c ∈ S.map encS) && S.any (toldB b c)) = (cards.take q).filter (fun c => !decide (encS c ∈ S.map encS) && S.any (toldB b c)) ++ [c].filter fun c => !decide (encS c ∈ S.map encS) && S.any (toldB b c) := by
        rw [List.take_add_one, hq, List.filter_append]; rfl
      have hfl := List.length_filter_le (fun c => !decide (encS c ∈ S.map encS) && S.any (toldB b c)) (cards.take q)
      rw [List.length_take] at hfl
      refine go_if (b := !decide (encS c ∈ S.map encS) && S.any (toldB b c)) (evt_and (evt_test (ev_notInD (d := encS c) (ev_var rfl).b (evl_own rfl).b rfl (D.nbs_map encS_nb S) (by show 0 ≤ 60; decide))) fun _ => evt_b (ev_anyM (xs := S) (g := toldB b c) (EvO.l (evo_lcM S encS (fun y => .bl (toldB b c y)) (evl_own rfl) (gk_name (by decide)) (by decide) (by rw [sizeLine_eq]; omega) fun y hy => ⟨_, tg_name, by
        rw [← resTo_enc]
        exact ev_call (pre := preTo) (res := resTo) (ds := [bkD b, encS c, encS y]) (evaf_cons (ev_var rfl) (evaf_cons (ev_var rfl) (evaf_cons (ev_var rfl) evaf_nil))) ⟨b, c, y, rfl⟩⟩)))) (fun hb => ?_) (fun hb => ?_)
      · refine go_append (d := encS c) rfl (ev_var rfl) (by rw [List.length_map, sizeLine_eq]; omega) (hN2 _ ⟨.d (encS c), ?_⟩)
        rw [ext, List.filter_cons_of_pos (p := fun c => !decide (encS c ∈ S.map encS) && S.any (toldB b c)) hb, List.filter_nil, List.map_append]; rfl
      · refine go_next (hN2 _ ⟨.d (encS c), ?_⟩)
        rw [ext, List.filter_cons_of_neg (p := fun c => !decide (encS c ∈ S.map encS) && S.any (toldB b c)) (by rw [hb]; decide), List.filter_nil, List.append_nil]; rfl
    rintro ss ⟨v7, rfl⟩
    rw [List.take_length]
    ((try dsimp only); refine nx_go ?_)
    have hfl := List.length_filter_le (fun c => !decide (encS c ∈ S.map encS) && S.any (toldB b c)) cards
    have hnew := W.bfs.round W.all (adj_sym b) hRc hS (cards.filter fun c => !decide (encS c ∈ S.map encS) && S.any (toldB b c)) fun c => by
      rw [List.mem_filter, Bool.and_eq_true, Bool.not_eq_true', decide_eq_false_iff_not, hin, List.any_eq_true]
      constructor
      · rintro ⟨h1, h2, y, hy, h3⟩; exact ⟨h1, h2, y, hy, told_adj.mp h3⟩
      · rintro ⟨h1, h2, y, hy, h3⟩; exact ⟨h1, h2, y, hy, told_adj.mpr h3⟩
    refine go_seq (go_setO (ds := (S ++ cards.filter fun c => !decide (encS c ∈ S.map encS) && S.any (toldB b c)).map encS) (by rw [List.map_append]; exact evo_cat (evl_own rfl) (evl_own rfl) (by rw [List.length_map, List.length_map, sizeLine_eq]; omega)) fun p3 => ?_)
    ((try dsimp only); refine nx_go ?_)
    refine go_set (d := .int ((r + 1 + 1 : Nat) : Int)) (by rw [Int.natCast_add (r + 1) 1]; exact ev_add (ev_var rfl).b ev_int.b) (hN (lev other - (r + 1)) _ (by omega) ⟨p3, _, r + 1, _, _, rfl, hnew, by rw [List.length_append]; omega, by omega, rfl⟩)
  · have hb : lev other ≤ r := by
      rw [Bool.not_eq_false', decide_eq_true_eq] at hb
      exact ((hS other).mp ((hin other).mp hb)).2
    have : r = lev other := by omega
    subst this
    ((try dsimp only); refine nx_go ?_)
    exact go_ret (ev_var rfl) rt
theorem lb_link (ls : List Lnk) : ∀ l ∈ ls, lbF ls l.1 = lbF ls l.2 := by
  induction ls using snoc_ind with
  | h0 => intro l h; cases h
  | hs ls m ih =>
    intro l hl
    rw [lbF_snoc]
    unfold lbS
    rw [step_ker (x := m.2) (y := m.1) (.inl ⟨rfl, rfl⟩)]
    rcases List.mem_append.mp hl with hl | hl
    · exact .inl (ih l hl)
    · rw [List.mem_singleton.mp hl]
      exact .inr ⟨.inr rfl, .inl rfl⟩
theorem lb_sep (ls : List Lnk) {X : List Nat → Prop} : (∀ l ∈ ls, X l.1 ↔ X l.2) → ∀ a b, lbF ls a = lbF ls b → (X a ↔ X b) := by
  induction ls using snoc_ind with
  | h0 => intro _ a b e; have e : a = b := e; rw [e]
  | hs ls m ih =>
    intro h a b e
    have ih := ih fun l hl => h l (List.mem_append_left _ hl)
    have hm := h m (by simp)
    rw [lbF_snoc] at e
    unfold lbS at e
    rw [step_ker (x := m.2) (y := m.1) (.inl ⟨rfl, rfl⟩)] at e
    rcases e with e | ⟨e1, e2⟩
    · exact ih a b e
    · have h1 : X a ↔ X m.1 := e1.elim (fun z => (ih _ _ z).trans hm.symm) fun z => ih _ _ z
      have h2 : X b ↔ X m.1 := e2.elim (fun z => (ih _ _ z).trans hm.symm) fun z => ih _ _ z
      exact h1.trans h2.symm
theorem Walk.label {b : List Fct} {one other : List Nat} {R : List (List Nat)} {par : List Nat → Option (List Nat)} {lev : List Nat → Nat} (W : Walk b one R par lev) : other ∈ R ↔ lbF (tpF b sameW) one = lbF (tpF b sameW) other := by
  constructor
  · refine fun h => W.bfs.all (P := fun c => lbF (tpF b sameW) one = lbF (tpF b sameW) c) rfl (fun x y _ hxy hx => hx.trans ?_) other h
    rcases hxy with z | z
    · exact lb_link _ _ z
    · exact (lb_link _ _ z).symm
  · intro h
    refine (lb_sep (tpF b sameW) (X := fun c => c ∈ R) (fun l hl => ?_) one other h).mp W.bfs.one_in
    obtain ⟨x, y⟩ := l
    exact ⟨fun h => (W.all x h y (.inl hl)).1, fun h => (W.all y h x (.inr hl)).1⟩
theorem srt_cards (b : List Fct) : srtL (labD b) = cardsL b := by
  have ek : (labD b).map (·.1) = (keysF b).map encS := by unfold labD dA; rw [List.map_map]; rfl
  have hm : ∀ c, c ∈ keysF b ↔ c ∈ cardsL b := fun c => by rw [keysF_mem, cardsL_mem]
  unfold srtL cardsL
  rw [ek]
  congr 1
  have hp : ((keysF b).map encS).Perm (ded (nmD b)) := by
    have hn1 : ((keysF b).map encS).Nodup := by
      have := keysF_nd b
      unfold List.Nodup at *
      rw [List.pairwise_map]
      exact this.imp fun a e => a (encS_inj _ _ e)
    refine (List.perm_ext_iff_of_nodup hn1 (ded_nodup _)).mpr fun d => ?_
    have h1 : d ∈ ded (nmD b) ↔ d ∈ cardsD b := by unfold cardsD; rw [(sortD_perm _).mem_iff]
    rw [h1, ← cardsL_enc, List.mem_map, List.mem_map]
    constructor
    · rintro ⟨c, hc, e⟩; exact ⟨c, (hm c).mp hc, e⟩
    · rintro ⟨c, hc, e⟩; exact ⟨c, (hm c).mpr hc, e⟩
  exact sortD_congr (alS fun d hd => nm_str d (ded_mem.mp hd)) hp
theorem srt_enc (b : List Fct) : (srtL (labD b)).map encS = sortD ((labD b).map (·.1)) := by
  unfold srtL
  refine un_enc fun d hd => ?_
  have hd := (sortD_perm _).mem_iff.mp hd
  unfold labD dA at hd
  rw [List.map_map] at hd
  obtain ⟨x, _, rfl⟩ := List.mem_map.mp hd
  exact ⟨_, rfl⟩
theorem at_cards {cs : List (List Nat)} (hn : cs ≠ []) (x : Int) : ∃ c ∈ cs, atI (cs.map encS) (x % (cs.length : Int)) = some (encS c) := by
  have hl : 0 < cs.length := List.length_pos_iff.mpr hn
  have h1 := Int.emod_nonneg x (show (cs.length : Int) ≠ 0 by omega)
  have h2 := Int.emod_lt_of_pos x (show (0 : Int) < cs.length by omega)
  have hj : (x % (cs.length : Int)).toNat < cs.length := by omega
  refine ⟨cs[(x % (cs.length : Int)).toNat], List.getElem_mem _, ?_⟩
  have := atI_nat (xs := cs.map encS) (j := (x % (cs.length : Int)).toNat) (v := encS cs[(x % (cs.length : Int)).toNat]) (by rw [List.getElem?_map, List.getElem?_eq_getElem hj]; rfl)
  rw [show (((x % (cs.length : Int)).toNat : Nat) : Int) = x % (cs.length : Int) by omega] at this
  exact this
theorem ok_law (Z : Tx K mg f_neighbours_of f_steps_from f_chain_of f_law_cell_at f_law_card f_law_fact f_law_book f_law_labels f_law_is_told f_law_rounds f_law d_neighbours_of d_steps_from d_chain_of d_law_cell_at d_law_card d_law_fact d_law_book d_law_labels d_law_is_told d_law_rounds d_law) : FnOk P w K mg base CX0 21 f_law d_law ["_law_script"] (spLaw K) := by
  have G_law_cell_at := ok_law_cell_at (P := P) (w := w) (base := base) Z
  have G_law_card := ok_law_card (P := P) (w := w) (base := base) Z
  have G_law_fact := ok_law_fact (P := P) (w := w) (base := base) Z
  have G_law_book := ok_law_book (P := P) (w := w) (base := base) Z
  have G_law_labels := ok_law_labels (P := P) (w := w) (base := base) Z
  have G_law_is_told := ok_law_is_told (P := P) (w := w) (base := base) Z
  have G_law_rounds := ok_law_rounds (P := P) (w := w) (base := base) Z
  have G_chain_of := ok_chain_of (P := P) (w := w) (base := base) Z
  refine Z.F_law.ok sc_law (fun vs H Q E h => by obtain ⟨a, ns, rfl, _⟩ := h; rfl) (fun cdv A outer s H vs Q E hr h => ⟨_, (pss_cons (ps_set (i := 1) sc_law.nd rfl (Or.inr rfl) (pe_op op_add pe_int (pe_op op_mod (pe_call G_law_cell_at (hr.mono (by decide)) (by rfl) Z.M_law_cell_at Z.F_law_cell_at.kp Z.B_law_cell_at .nil pass0 (pa_cons (pv 0) (pa_cons pe_int pa_nil))) pe_int)))
      (pss_cons (ps_setLC (i := 2) sc_law.nd rfl (Or.inl rfl) rfl (LcOk.of (Nx := (["_law_script", "_law_many", "_law_facts", "_law_book_here", "_law_held", "_law_labels_here", "_law_cards", "_law_one", "_law_other", "_law_found", "_law_card_here", "_law_k"] : List Str)) (sc := defScope s_law) (N' := (["_law_cell", "_law_many", "_law_script"] : List Str)) (nt := 1) (cs := [1, 0]) rfl rfl (by decide +kernel)) (pi_list (pe_slice sl_list (pv 0) (po_some pe_int) (po_some pe_int))) (fun _ _ _ _ => (pg_name (i := 0) (show List.Nodup (["_law_cell", "_law_many", "_law_script"] : List Str) by decide +kernel) rfl (Or.inl rfl))) (fun _ _ _ _ => pifs_nil) (fun _ _ _ _ => (pe_call G_law_fact (hr.mono (by decide)) (by rfl) Z.M_law_fact Z.F_law_fact.kp Z.B_law_fact .nil pass0 (pa_cons (pe_call G_law_cell_at (hr.mono (by decide)) (by rfl) Z.M_law_cell_at Z.F_law_cell_at.kp Z.B_law_cell_at .nil pass0 (pa_cons (pv 2) (pa_cons pe_int pa_nil))) (pa_cons (pv 1) (pa_cons (pv 0) (pa_cons pe_bl pa_nil)))))))
      (pss_cons (ps_set (i := 3) sc_law.nd rfl (Or.inl rfl) (pe_call G_law_book (hr.mono (by decide)) (by rfl) Z.M_law_book Z.F_law_book.kp Z.B_law_book .nil pass0 (pa_cons (pe_op (show OpR _ _ (rCatD K) from op_catD) (pv 2) (pe_lst (pa_cons (pe_tup (pa_cons (pe_call G_law_card (hr.mono (by decide)) (by rfl) Z.M_law_card Z.F_law_card.kp Z.B_law_card .nil pass0 (pa_cons (pe_call G_law_cell_at (hr.mono (by decide)) (by rfl) Z.M_law_cell_at Z.F_law_cell_at.kp Z.B_law_cell_at .nil pass0 (pa_cons (pv 0) (pa_cons pe_int pa_nil))) (pa_cons pe_int pa_nil))) (pa_cons pe_str (pa_cons pe_str pa_nil)))) pa_nil))) pa_nil)))
      (pss_cons (ps_set (i := 4) sc_law.nd rfl (Or.inl rfl) (pe_callTy call_list_of (by rfl) Z.z_list boot_list (pa_cons (pv 3) pa_nil)))
      (pss_cons (ps_set (i := 5) sc_law.nd rfl (Or.inl rfl) (pe_call G_law_labels (hr.mono (by decide)) (by rfl) Z.M_law_labels Z.F_law_labels.kp Z.B_law_labels .nil pass0 (pa_cons (pv 4) pa_nil)))
      (pss_cons (ps_set (i := 6) sc_law.nd rfl (Or.inl rfl) (pe_callB (show CallR _ _ (rSortDk K) from call_sortedDk rfl) (by rfl) Z.z_sorted boot_sorted (pa_cons (pv 5) pa_nil)))
      (pss_cons (ps_set (i := 7) sc_law.nd rfl (Or.inl rfl) (pe_ix (show IxR _ (rIxL K) from ix_list) (pv 6) (pe_op op_mod (pe_call G_law_cell_at (hr.mono (by decide)) (by rfl) Z.M_law_cell_at Z.F_law_cell_at.kp Z.B_law_cell_at .nil pass0 (pa_cons (pv 0) (pa_cons pe_int pa_nil))) (pe_callB call_len_seq (by rfl) Z.z_len boot_len (pa_cons (pv 6) pa_nil))) (fun _ _ => rfl)))
      (pss_cons (ps_set (i := 8) sc_law.nd rfl (Or.inl rfl) (pe_ix (show IxR _ (rIxL K) from ix_list) (pv 6) (pe_op op_mod (pe_op op_fdiv (pe_call G_law_cell_at (hr.mono (by decide)) (by rfl) Z.M_law_cell_at Z.F_law_cell_at.kp Z.B_law_cell_at .nil pass0 (pa_cons (pv 0) (pa_cons pe_int pa_nil))) pe_int) (pe_callB call_len_seq (by rfl) Z.z_len boot_len (pa_cons (pv 6) pa_nil))) (fun _ _ => rfl)))
      (pss_cons (ps_set (i := 9) sc_law.nd rfl (Or.inl rfl) (pe_call G_chain_of (hr.mono (by decide)) (by rfl) Z.M_chain_of Z.F_chain_of.kp Z.B_chain_of .nil pass0 (pa_cons (pv 3) (pa_cons (pv 7) (pa_cons (pv 8) pa_nil)))))
      (pss_cons (ps_if (pt_cmpR op_ne (pe_dget (hu_of hr) (pv 5) (pv 7) (fun _ _ => rfl)) (pe_dget (hu_of hr) (pv 5) (pv 8) (fun _ _ => rfl)) (nomark _)) (pss_one (ps_ret (pe_and (pe_cmpR (show OpR _ _ rIsN from op_isN) (pv 9) pe_non (nomark _)) (pe_one (pe_cmpR (show OpR _ _ (rEqD K) from op_eqD hr.units) (pv 3) (pv 4) (nomark _)))))) pss_nil)
      (pss_cons (ps_if (PW.pt (pw_or (pt_not (pt_val (pe_callB (show CallR _ _ (fun xs H Q => ∃ p ys, xs = [.ref p, .ty "list"] ∧ SqL K H p ys ∧ Q (.bl true) H) from call_isi_list_list) (by rfl) Z.z_isinstance boot_isinstance (pa_cons (pv 9) (pa_cons (pe_bltn (v := .ty "list") (by rfl) Z.z_list boot_list rfl) pa_nil))))) (pw_or1 (pt_cmpR op_ne (pe_callB call_len_seq (by rfl) Z.z_len boot_len (pa_cons (pv 9) pa_nil)) (pe_call G_law_rounds (hr.mono (by decide)) (by rfl) Z.M_law_rounds Z.F_law_rounds.kp Z.B_law_rounds .nil pass0 (pa_cons (pv 4) (pa_cons (pv 6) (pa_cons (pv 7) (pa_cons (pv 8) pa_nil))))) (nomark _))))) (pss_one (ps_ret pe_bl)) pss_nil)
      (pss_cons (ps_for PassesOwn.never rfl (pi_list (pv 9)) (pg_name (i := 10) sc_law.nd rfl (Or.inl rfl)) (pss_one (ps_if (pt_not (pt_val (pe_callB call_isi_str_str (by rfl) Z.z_isinstance boot_isinstance (pa_cons (pv 10) (pa_cons (pe_bltn (v := .ty "str") (by rfl) Z.z_str boot_str rfl) pa_nil))))) (pss_one (ps_ret pe_bl)) pss_nil)))
      (pss_cons (ps_for PassesOwn.never rfl (pi_range1 (by rfl) Z.z_range (pa_cons (pe_op op_sub (pe_callB call_len_seq (by rfl) Z.z_len boot_len (pa_cons (pv 9) pa_nil)) pe_int) pa_nil)) (pg_name (i := 11) sc_law.nd rfl (Or.inl rfl)) (pss_one (ps_if (pt_not (pt_val (pe_call G_law_is_told (hr.mono (by decide)) (by rfl) Z.M_law_is_told Z.F_law_is_told.kp Z.B_law_is_told .nil pass0 (pa_cons (pv 4) (pa_cons (pe_ix (show IxR _ (rIxL K) from ix_list) (pv 9) (pv 11) (fun _ _ => rfl)) (pa_cons (pe_ix (show IxR _ (rIxL K) from ix_list) (pv 9) (pe_op op_add (pv 11) pe_int) (fun _ _ => rfl)) pa_nil)))))) (pss_one (ps_ret pe_bl)) pss_nil)))
      (pss_one (ps_ret (pe_and (pe_cmpR op_eq (pe_ix (show IxR _ (rIxL K) from ix_list) (pv 9) pe_int (fun _ _ => rfl)) (pv 7) (nomark _)) (pe_and (pe_cmpR op_eq (pe_ix (show IxR _ (rIxL K) from ix_list) (pv 9) (pe_un un_neg pe_int) (fun _ _ => rfl)) (pv 8) (nomark _)) (pe_one (pe_cmpR (show OpR _ _ (rEqD K) from op_eqD hr.units) (pv 3) (pv 4) (nomark _)))))))))))))))))))), ?_⟩)
  obtain ⟨a, ns, rfl, sq, hl, hQ⟩ := h
  have r : Reps K H [.lst (ns.map .int)] [.ref a] := Reps.cons (Rep.lst sq (reps_ints ns)) Reps.nil
  have rt : RtD K H H Q (.bl true) := fun v F H' e r => by rw [r.of_bl]; exact hQ H'
  refine (?_ : Go K H H H _ (slots 12 [.lst (ns.map .int)]) _) H H _ (sat_start (Same.refl H) r (by simp))
  have cell : ∀ k : Int, ∃ i, resCell [.lst (ns.map .int), .int k] = .int i := fun k => by
    show ∃ i, (ns.map D.int).getD k.toNat (.int 0) = .int i
    rw [List.getD_eq_getElem?_getD, List.getElem?_map]
    cases ns[k.toNat]? <;> exact ⟨_, rfl⟩
  obtain ⟨i0, ei0⟩ := cell 0
  obtain ⟨i1, ei1⟩ := cell 1
  obtain ⟨i2, ei2⟩ := cell 2
  refine go_seq (go_set (d := .int (2 + i0 % 9)) (ev_add ev_int.b (ev_mod (i := i0) (Ev.b (by rw [← ei0]; exact ev_call (pre := preCell) (res := resCell) (evaf_cons (ev_var rfl) (evaf_cons ev_int evaf_nil)) ⟨ns, 0, rfl, by omega⟩)) ev_int.b (by decide)).b) ?_)
  ((try dsimp only); refine nx_go ?_)
  generalize hm : 2 + i0 % 9 = m
  have hm0 : 2 ≤ m ∧ m ≤ 10 := by omega
  generalize hxs : (ns.drop 3).take 60 = xs
  have hxl : xs.length ≤ 60 := by rw [← hxs]; simp; omega
  have exs : cutD (ns.map D.int) (some 3) (some 63) = xs.map D.int := by
    rw [cutD_mid _ (by decide) (by decide), ← hxs, List.map_take, List.map_drop]; rfl
  have efs : (xs.map fun x => encF (factF i1 m x true)) = (xs.map fun x => factF i1 m x true).map encF := by rw [List.map_map]; rfl
  refine go_seq (go_setO (ds := (xs.map fun x => factF i1 m x true).map encF) (by
    rw [← efs]
    refine evo_lcM xs D.int (fun x => encF (factF i1 m x true)) (by rw [← exs]; exact (evo_slL (ev_var rfl).l (evp_part ev_int.b) (evp_part ev_int.b)).l) (gk_name (by decide)) (by decide) (by rw [sizeLine_eq]; omega) fun x hx => ⟨_, tg_name, ?_⟩
    exact ev_call (pre := preFa) (res := resFa) (ds := [.int i1, .int m, .int x, .bl true]) (evaf_cons (by rw [← ei1]; exact ev_call (pre := preCell) (res := resCell) (evaf_cons (ev_var rfl) (evaf_cons ev_int evaf_nil)) ⟨ns, 1, rfl, by omega⟩) (evaf_cons (ev_var rfl) (evaf_cons (ev_var rfl) (evaf_cons ev_bl evaf_nil)))) ⟨i1, m, x, true, rfl, hm0.1, hm0.2⟩) fun pf => nx_freeze (i := 2) rfl ?_)
  ((try dsimp only); refine nx_go ?_)
  generalize hfs : (xs.map fun x => factF i1 m x true) = fs
  have hfl : fs.length ≤ 60 := by rw [← hfs, List.length_map]; exact hxl
  generalize hf0 : ((cardF i1 0, markW, ("y" : Str).cps.toList) : Fct) = f0
  refine go_seq (go_setR (i := 3) (pre := preBk) (R := relBk) (ds := [bkD (fs ++ [f0])]) (evaf_cons (by
    unfold bkD
    rw [List.map_append, ← hf0]
    refine EvO.ev (evo_cat (ev_var rfl).l (EvO.l (evo_lst (ds := [encF (cardF i1 0, markW, ("y" : Str).cps.toList)]) (evaf_cons (ev_tup (evaf_cons ?_ (evaf_cons (ev_lit (by decide)) (evaf_cons (ev_lit (by decide)) evaf_nil))) (small (by simp))) evaf_nil) (small (by simp)))) (by rw [List.length_map, sizeLine_eq]; simp; omega))
    exact ev_call (pre := preCd) (res := resCd) (ds := [.int i1, .int 0]) (evaf_cons (by rw [← ei1]; exact ev_call (pre := preCell) (res := resCell) (evaf_cons (ev_var rfl) (evaf_cons ev_int evaf_nil)) ⟨ns, 1, rfl, by omega⟩) (evaf_cons ev_int evaf_nil)) ⟨i1, 0, rfl, by decide, by decide⟩) evaf_nil) ⟨fs ++ [f0], rfl, by rw [List.length_append, List.length_singleton]; omega⟩ fun rs hR pb => nx_freeze (i := 3) rfl ?_)
  obtain ⟨b, rfl, hbm, hba, hbl⟩ := hR (fs ++ [f0]) rfl
  rw [List.length_append, List.length_singleton] at hbl
  have hne : cardsL b ≠ [] := fun z => by
    have : f0.1 ∈ cardsL b := cardsL_mem.mpr ⟨f0, hba f0 (by simp), .inl rfl⟩
    rw [z] at this; cases this
  ((try dsimp only); refine nx_go ?_)
  refine go_seq (go_setO (ds := b.map encF) (evo_list (ev_var rfl).l) fun ph => nx_freeze (i := 4) rfl ?_)
  ((try dsimp only); refine nx_go ?_)
  refine go_seq (go_set (d := D.dic (labD b)) (by rw [← resLb_enc]; exact ev_call (pre := preLb) (res := resLb) (ds := [bkD b]) (evaf_cons (ev_var rfl) evaf_nil) ⟨b, rfl, by omega⟩) ?_)
  ((try dsimp only); refine nx_go ?_)
  have hlv : ∀ c, c ∈ cardsL b → valD (labD b) (encS c) = some (encS (lbF (tpF b sameW) c)) := fun c hc => by
    unfold labD
    exact valD_in encS_inj ((keysF_mem b c).mpr (cardsL_mem.mp hc))
  have hal : Alike ((labD b).map (·.1)) := alS fun d hd => by
    unfold labD dA at hd
    rw [List.map_map] at hd
    obtain ⟨x, _, rfl⟩ := List.mem_map.mp hd
    exact ⟨_, rfl⟩
  refine go_seq (go_setO (ds := (cardsL b).map encS) (by rw [← srt_cards, srt_enc]; exact evo_sortedF (ev_var rfl) hal) fun pc => nx_freeze (i := 6) rfl ?_)
  ((try dsimp only); refine nx_go ?_)
  have hcl := cardsL_len b
  have hends : ∀ c ∈ endsF (tpF b sameW), c ∈ cardsL b := fun c hc => by
    unfold endsF bothF at hc
    obtain ⟨l, hl, rfl⟩ := List.mem_map.mp hc
    obtain ⟨l2, hl2, h3⟩ := List.mem_flatMap.mp hl
    obtain ⟨t1, t2⟩ := tp_in b l2 hl2
    simp only [List.mem_cons, List.not_mem_nil, or_false] at h3
    rcases h3 with rfl | rfl
    · exact t1
    · exact t2
  have llen : ∀ {L0 : Hp} {ss : List Sl}, ss[6]? = some (.d (.lst ((cardsL b).map encS))) → Ev K H H L0 ss (tCB (fun xs H Q => ∃ p ys, xs = [.ref p] ∧ (SqL K H p ys ∨ SqT K H p ys) ∧ Q (.int ys.length) H) (tCons (tVar 6) tNil)) (.int (cardsL b).length) := fun h => by
    rw [show ((cardsL b).length : Int) = (((cardsL b).map encS).length : Nat) by rw [List.length_map]]
    exact ev_lenL (ev_var h).l
  have hpos : 0 < (cardsL b).length := List.length_pos_iff.mpr hne
  obtain ⟨one, h1c, h1a⟩ := at_cards hne i2
  obtain ⟨other, h2c, h2a⟩ := at_cards hne (i2 / 10)
  refine go_seq (go_set (d := encS one) (ev_ixL (ev_var rfl).l (ev_mod (i := i2) (Ev.b (by rw [← ei2]; exact ev_call (pre := preCell) (res := resCell) (evaf_cons (ev_var rfl) (evaf_cons ev_int evaf_nil)) ⟨ns, 2, rfl, by omega⟩)) (llen rfl).b (by omega)).b h1a) ?_)
  ((try dsimp only); refine nx_go ?_)
  refine go_seq (go_set (d := encS other) (ev_ixL (ev_var rfl).l (ev_mod (i := i2 / 10) (ev_fdiv (i := i2) (Ev.b (by rw [← ei2]; exact ev_call (pre := preCell) (res := resCell) (evaf_cons (ev_var rfl) (evaf_cons ev_int evaf_nil)) ⟨ns, 2, rfl, by omega⟩)) ev_int.b ⟨by decide, by decide⟩).b (llen rfl).b (by omega)).b h2a) ?_)
  ((try dsimp only); refine nx_go ?_)
  refine go_seq (go_asgRD (pre := preCh) (R := relCh) (ds := [bkD b, encS one, encS other]) (evaf_cons (ev_var rfl) (evaf_cons (ev_var rfl) (evaf_cons (ev_var rfl) evaf_nil))) ⟨b, one, other, rfl, by omega⟩ fun r hR => ?_)
  obtain ⟨R, par, lev, W, hr⟩ := hR b one other rfl
  refine ⟨_, tg_name, ?_⟩
  ((try dsimp only); refine nx_go ?_)
  have nbb := bkD_nb b
  have dpb : (bkD b).dep ≤ 60 := by have := bkD_dep b; omega
  have hRc : ∀ c ∈ R, c ∈ cardsL b := fun c hc => by
    rcases List.mem_cons.mp (W.univ c hc) with rfl | z
    · exact h1c
    · exact hends c z
  refine go_seq (go_if (evt_test (ev_neS (l := lbF (tpF b sameW) one) (m := lbF (tpF b sameW) other) (ev_dgetF (k := encS one) (ev_var rfl) (ev_var rfl).b rfl (hlv one h1c)).b (ev_dgetF (k := encS other) (ev_var rfl) (ev_var rfl).b rfl (hlv other h2c)).b)) (fun hb => ?_) (fun hb => ?_))
  · have hno : other ∉ R := fun z => by rw [W.label.mp z] at hb; simp at hb
    rcases hr with ⟨_, rfl⟩ | ⟨z, _⟩
    · have e1 := ev_isN (K := K) (G := H) (H₀ := H) (L := H) (ss := [.d (.lst (ns.map .int)), .d (.int m), .d (bkD fs), .d (bkD b), .d (bkD b), .d (D.dic (labD b)), .d (.lst ((cardsL b).map encS)), .d (encS one), .d (encS other), .d .non, .un, .un]) (d := .non) (ev_var (i := 9) rfl).b
      have e2 := ev_eqD (K := K) (G := H) (H₀ := H) (L := H) (ss := [.d (.lst (ns.map .int)), .d (.int m), .d (bkD fs), .d (bkD b), .d (bkD b), .d (D.dic (labD b)), .d (.lst ((cardsL b).map encS)), .d (encS one), .d (encS other), .d .non, .un, .un]) (d1 := bkD b) (d2 := bkD b) (ev_var (i := 3) rfl).b (ev_var (i := 4) rfl).b nbb nbb dpb
      rw [decide_eq_true rfl] at e1 e2
      exact go_ret (ev_and e1 fun _ => e2) rt
    · exact absurd z hno
  have hin : other ∈ R := W.label.mpr (by
    rw [Bool.not_eq_false', decide_eq_true_eq] at hb; exact hb)
  rcases hr with ⟨z, _⟩ | ⟨_, l, rfl, hc⟩
  · exact absurd hin z
  refine go_next ?_
  ((try dsimp only); refine nx_go ?_)
  have hll : ((l.map encS).length : Int) = ((lev other + 1 : Nat) : Int) := by rw [List.length_map, hc.len]
  have hlo := W.bfs.bnd other hin
  have hle := W.len
  refine go_seq (go_if (b := false) (by
    have h2 := evt_or (K := K) (G := H) (H₀ := H) (L := H) (ss := [.d (.lst (ns.map .int)), .d (.int m), .d (bkD fs), .d (bkD b), .d (bkD b), .d (D.dic (labD b)), .d (.lst ((cardsL b).map encS)), .d (encS one), .d (encS other), .d (.lst (l.map encS)), .un, .un]) (evt_not (evt_b (ev_isL (ev_var (i := 9) rfl).l))) fun _ => evt_test (ev_neI (ev_lenL (ev_var (i := 9) rfl).l).b (Ev.b (ev_callG (E := E0) (pre := preRo) (res := resRo) (ds := [bkD b, .lst ((cardsL b).map encS), encS one, encS other]) (lev other) (evaf_cons (ev_var (i := 4) rfl) (evaf_cons (ev_var (i := 6) rfl) (evaf_cons (ev_var (i := 7) rfl) (evaf_cons (ev_var (i := 8) rfl) evaf_nil)))) ⟨b, cardsL b, one, other, R, par, lev, rfl, W, hRc, by omega, hin, rfl⟩)))
    rw [decide_eq_true hll] at h2
    exact h2) (fun hb => by cases hb) (fun _ => go_next ?_))
  ((try dsimp only); refine nx_go ?_)
  refine go_seq (go_for encS l (fun q ss => ∃ v : Sl, ss = [.d (.lst (ns.map .int)), .d (.int m), .d (bkD fs), .d (bkD b), .d (bkD b), .d (D.dic (labD b)), .d (.lst ((cardsL b).map encS)), .d (encS one), .d (encS other), .d (.lst (l.map encS)), v, .un]) (ev_var rfl) ⟨_, rfl⟩ ?_ ?_)
  · rintro L' q x ss hL hq ⟨v, rfl⟩
    refine ⟨_, tg_name, fun N2 hN2 => ?_⟩
    exact go_if (evt_not (evt_b (ev_isS (l := x) (ev_var rfl).b))) (fun hb => by cases hb) (fun _ => go_next (hN2 _ ⟨_, rfl⟩))
  rintro ss ⟨v, rfl⟩
  ((try dsimp only); refine nx_go ?_)
  refine go_seq (go_range (n := ((lev other + 1 : Nat) : Int) - 1) (fun k ss => ∃ v11 : Sl, ss = [.d (.lst (ns.map .int)), .d (.int m), .d (bkD fs), .d (bkD b), .d (bkD b), .d (D.dic (labD b)), .d (.lst ((cardsL b).map encS)), .d (encS one), .d (encS other), .d (.lst (l.map encS)), v, v11]) (eva_cons (ev_sub (Ev.b (by rw [← hll]; exact ev_lenL (ev_var rfl).l)) ev_int.b).b eva_nil) ⟨by omega, by omega⟩ ⟨_, rfl⟩ ?_ ?_ (fun _ _ _ h => h))
  · rintro k ss hk ⟨v11, rfl⟩ N hN
    have hk : k + 1 < l.length := by rw [hc.len]; omega
    have ha : l[k]? = some l[k] := List.getElem?_eq_getElem (by omega)
    have hb : l[k + 1]? = some l[k + 1] := List.getElem?_eq_getElem hk
    have hadj := hc.adj k _ _ ha hb
    generalize l[k] = x at ha hadj
    generalize l[k + 1] = y at hb hadj
    refine go_if (b := false) (by
      have h1 := ev_call (E := E0) (K := K) (G := H) (H₀ := H) (L := H) (ss := [.d (.lst (ns.map .int)), .d (.int m), .d (bkD fs), .d (bkD b), .d (bkD b), .d (D.dic (labD b)), .d (.lst ((cardsL b).map encS)), .d (encS one), .d (encS other), .d (.lst (l.map encS)), v, .d (.int k)]) (pre := preTo) (res := resTo) (ds := [bkD b, encS x, encS y]) (evaf_cons (ev_var (i := 4) rfl) (evaf_cons (ev_ixL (ev_var (i := 9) rfl).l (ev_var (i := 11) rfl).b (atI_nat (by rw [List.getElem?_map, ha]; rfl))) (evaf_cons (ev_ixL (ev_var (i := 9) rfl).l (ev_add (ev_var (i := 11) rfl).b ev_int.b).b (by rw [show (k : Int) + 1 = ((k + 1 : Nat) : Int) by omega]; exact atI_nat (by rw [List.getElem?_map, hb]; rfl))) evaf_nil))) ⟨b, x, y, rfl⟩
      rw [resTo_enc, told_adj.mpr hadj] at h1
      exact evt_not (evt_b h1)) (fun hb => by cases hb) (fun _ => go_next (hN _ ⟨_, rfl⟩))
  rintro ss ⟨v11, rfl⟩
  ((try dsimp only); refine nx_go ?_)
  have e1 := ev_eqS (K := K) (G := H) (H₀ := H) (L := H) (ss := [.d (.lst (ns.map .int)), .d (.int m), .d (bkD fs), .d (bkD b), .d (bkD b), .d (D.dic (labD b)), .d (.lst ((cardsL b).map encS)), .d (encS one), .d (encS other), .d (.lst (l.map encS)), v, v11]) (l := one) (m := one) (Ev.b (ev_ixL (d := encS one) (ev_var (i := 9) rfl).l ev_int.b (atI_nat (j := 0) (by rw [List.getElem?_map, hc.first]; rfl)))) (ev_var (i := 7) rfl).b
  have hlast : atI (l.map encS) (-1) = some (encS other) := by
    have hll2 := hc.len
    have h2 := hc.last
    obtain ⟨l', z, rfl⟩ : ∃ l' z, l = l' ++ [z] := by
      rcases List.eq_nil_or_concat l with rfl | ⟨l', z, rfl⟩
      · simp at hll2
      · exact ⟨l', z, by rw [List.concat_eq_append]⟩
    rw [List.length_append, List.length_singleton] at hll2
    rw [List.getElem?_append_right (by omega), show lev other - l'.length = 0 by omega] at h2
    simp at h2
    rw [List.map_append, ← h2]
    exact atI_last _ _
  have e2 := ev_eqS (K := K) (G := H) (H₀ := H) (L := H) (ss := [.d (.lst (ns.map .int)), .d (.int m), .d (bkD fs), .d (bkD b), .d (bkD b), .d (D.dic (labD b)), .d (.lst ((cardsL b).map encS)), .d (encS one), .d (encS other), .d (.lst (l.map encS)), v, v11]) (l := other) (m := other) (Ev.b (ev_ixL (d := encS other) (ev_var (i := 9) rfl).l (ev_neg ev_int.b).b hlast)) (ev_var (i := 8) rfl).b
  have e3 := ev_eqD (K := K) (G := H) (H₀ := H) (L := H) (ss := [.d (.lst (ns.map .int)), .d (.int m), .d (bkD fs), .d (bkD b), .d (bkD b), .d (D.dic (labD b)), .d (.lst ((cardsL b).map encS)), .d (encS one), .d (encS other), .d (.lst (l.map encS)), v, v11]) (d1 := bkD b) (d2 := bkD b) (ev_var (i := 3) rfl).b (ev_var (i := 4) rfl).b nbb nbb dpb
  rw [decide_eq_true rfl] at e1 e2 e3
  exact go_ret (ev_and e1 fun _ => ev_and e2 fun _ => e3) rt
end
theorem all_mk {l : PySem.W.OpenLaw} {w : World} {K : PySem.W.Frag} {h : Heap} {mg : Str → Option Value} {fa g0 g1 g2 g3 g4 g5 g6 g7 g8 g9 g10 : Addr} (X : K.In h) (G : h.Ns mainGlobals mg) (hfa : mg "law" = some (.ref fa))
    {od0 an0 od1 an1 od2 an2 od3 an3 od4 an4 od5 an5 od6 an6 od7 an7 od8 an8 od9 an9 od10 an10 : Option Addr} {sl0 sl1 sl2 sl3 sl4 sl5 sl6 sl7 sl8 sl9 sl10 : Array (Option Value)} {oc0 kV0 dc0 pm0 cd0 ct0 oc1 kV1 dc1 pm1 cd1 ct1 oc2 kV2 dc2 pm2 cd2 ct2 oc3 kV3 dc3 pm3 cd3 ct3 oc4 kV4 dc4 pm4 cd4 ct4 oc5 kV5 dc5 pm5 cd5 ct5 oc6 kV6 dc6 pm6 cd6 ct6 oc7 kV7 dc7 pm7 cd7 ct7 oc8 kV8 dc8 pm8 cd8 ct8 oc9 kV9 dc9 pm9 cd9 ct9 oc10 kV10 dc10 pm10 cd10 ct10 : Value}
    (a0 : PySem.W.nsIn K mainGlobals "neighbours_of" = some (some (.ref g0))) (l0 : K.lookup g0 = some ⟨oc0, od0, .func (PySem.W.fnOf "neighbours_of" "neighbours_of" (defArgs s_neighbours_of) (defBody s_neighbours_of) (defScope s_neighbours_of) .none kV0 dc0 pm0 an0 cd0 ct0), sl0⟩) (c0 : PySem.W.codeIn K cd0 "neighbours_of" = true) (k0 : PySem.W.keepIn K (.ref g0) = true)
    (a1 : PySem.W.nsIn K mainGlobals "steps_from" = some (some (.ref g1))) (l1 : K.lookup g1 = some ⟨oc1, od1, .func (PySem.W.fnOf "steps_from" "steps_from" (defArgs s_steps_from) (defBody s_steps_from) (defScope s_steps_from) .none kV1 dc1 pm1 an1 cd1 ct1), sl1⟩) (c1 : PySem.W.codeIn K cd1 "steps_from" = true) (k1 : PySem.W.keepIn K (.ref g1) = true)
    (a2 : PySem.W.nsIn K mainGlobals "chain_of" = some (some (.ref g2))) (l2 : K.lookup g2 = some ⟨oc2, od2, .func (PySem.W.fnOf "chain_of" "chain_of" (defArgs s_chain_of) (defBody s_chain_of) (defScope s_chain_of) .none kV2 dc2 pm2 an2 cd2 ct2), sl2⟩) (c2 : PySem.W.codeIn K cd2 "chain_of" = true) (k2 : PySem.W.keepIn K (.ref g2) = true)
    (a3 : PySem.W.nsIn K mainGlobals "_law_cell_at" = some (some (.ref g3))) (l3 : K.lookup g3 = some ⟨oc3, od3, .func (PySem.W.fnOf "_law_cell_at" "_law_cell_at" (defArgs s_law_cell_at) (defBody s_law_cell_at) (defScope s_law_cell_at) .none kV3 dc3 pm3 an3 cd3 ct3), sl3⟩) (c3 : PySem.W.codeIn K cd3 "_law_cell_at" = true) (k3 : PySem.W.keepIn K (.ref g3) = true)
    (a4 : PySem.W.nsIn K mainGlobals "_law_card" = some (some (.ref g4))) (l4 : K.lookup g4 = some ⟨oc4, od4, .func (PySem.W.fnOf "_law_card" "_law_card" (defArgs s_law_card) (defBody s_law_card) (defScope s_law_card) .none kV4 dc4 pm4 an4 cd4 ct4), sl4⟩) (c4 : PySem.W.codeIn K cd4 "_law_card" = true) (k4 : PySem.W.keepIn K (.ref g4) = true)
    (a5 : PySem.W.nsIn K mainGlobals "_law_fact" = some (some (.ref g5))) (l5 : K.lookup g5 = some ⟨oc5, od5, .func (PySem.W.fnOf "_law_fact" "_law_fact" (defArgs s_law_fact) (defBody s_law_fact) (defScope s_law_fact) .none kV5 dc5 pm5 an5 cd5 ct5), sl5⟩) (c5 : PySem.W.codeIn K cd5 "_law_fact" = true) (k5 : PySem.W.keepIn K (.ref g5) = true)
    (a6 : PySem.W.nsIn K mainGlobals "_law_book" = some (some (.ref g6))) (l6 : K.lookup g6 = some ⟨oc6, od6, .func (PySem.W.fnOf "_law_book" "_law_book" (defArgs s_law_book) (defBody s_law_book) (defScope s_law_book) .none kV6 dc6 pm6 an6 cd6 ct6), sl6⟩) (c6 : PySem.W.codeIn K cd6 "_law_book" = true) (k6 : PySem.W.keepIn K (.ref g6) = true)
    (a7 : PySem.W.nsIn K mainGlobals "_law_labels" = some (some (.ref g7))) (l7 : K.lookup g7 = some ⟨oc7, od7, .func (PySem.W.fnOf "_law_labels" "_law_labels" (defArgs s_law_labels) (defBody s_law_labels) (defScope s_law_labels) .none kV7 dc7 pm7 an7 cd7 ct7), sl7⟩) (c7 : PySem.W.codeIn K cd7 "_law_labels" = true) (k7 : PySem.W.keepIn K (.ref g7) = true)
    (a8 : PySem.W.nsIn K mainGlobals "_law_is_told" = some (some (.ref g8))) (l8 : K.lookup g8 = some ⟨oc8, od8, .func (PySem.W.fnOf "_law_is_told" "_law_is_told" (defArgs s_law_is_told) (defBody s_law_is_told) (defScope s_law_is_told) .none kV8 dc8 pm8 an8 cd8 ct8), sl8⟩) (c8 : PySem.W.codeIn K cd8 "_law_is_told" = true) (k8 : PySem.W.keepIn K (.ref g8) = true)
    (a9 : PySem.W.nsIn K mainGlobals "_law_rounds" = some (some (.ref g9))) (l9 : K.lookup g9 = some ⟨oc9, od9, .func (PySem.W.fnOf "_law_rounds" "_law_rounds" (defArgs s_law_rounds) (defBody s_law_rounds) (defScope s_law_rounds) .none kV9 dc9 pm9 an9 cd9 ct9), sl9⟩) (c9 : PySem.W.codeIn K cd9 "_law_rounds" = true) (k9 : PySem.W.keepIn K (.ref g9) = true)
    (a10 : PySem.W.nsIn K mainGlobals "law" = some (some (.ref g10))) (l10 : K.lookup g10 = some ⟨oc10, od10, .func (PySem.W.fnOf "law" "law" (defArgs s_law) (defBody s_law) (defScope s_law) .none kV10 dc10 pm10 an10 cd10 ct10), sl10⟩) (c10 : PySem.W.codeIn K cd10 "law" = true) (k10 : PySem.W.keepIn K (.ref g10) = true)
    (y_any : PySem.W.nsIn K mainGlobals "any" = some none)
    (y_int : PySem.W.nsIn K mainGlobals "int" = some none)
    (y_isinstance : PySem.W.nsIn K mainGlobals "isinstance" = some none)
    (y_len : PySem.W.nsIn K mainGlobals "len" = some none)
    (y_list : PySem.W.nsIn K mainGlobals "list" = some none)
    (y_max : PySem.W.nsIn K mainGlobals "max" = some none)
    (y_min : PySem.W.nsIn K mainGlobals "min" = some none)
    (y_range : PySem.W.nsIn K mainGlobals "range" = some none)
    (y_reversed : PySem.W.nsIn K mainGlobals "reversed" = some none)
    (y_sorted : PySem.W.nsIn K mainGlobals "sorted" = some none)
    (y_str : PySem.W.nsIn K mainGlobals "str" = some none) :
    ∃ fd : FuncData, (∀ (s : Shared) (v : Value), BindsTo s fd ⟨[v], []⟩ [("_law_script", v)]) ∧ ∀ base : Heap, K.In base → base.Ns mainGlobals mg → FnOk l.prog w K mg base CX0 21 fa fd ["_law_script"] (spLaw K) := by
  have e := hfa.symm.trans (PySem.W.mg_of X G a10)
  cases e
  have F0 := fun_mk (st := s_neighbours_of) l0 c0 k0
  have b0 := F0.binds (ps := ["book"]) fun _ _ _ _ _ _ us hl => match us, hl with | [_], _ => rfl
  have F1 := fun_mk (st := s_steps_from) l1 c1 k1
  have b1 := F1.binds (ps := ["book", "one"]) fun _ _ _ _ _ _ us hl => match us, hl with | [_, _], _ => rfl
  have F2 := fun_mk (st := s_chain_of) l2 c2 k2
  have b2 := F2.binds (ps := ["book", "one", "other"]) fun _ _ _ _ _ _ us hl => match us, hl with | [_, _, _], _ => rfl
  have F3 := fun_mk (st := s_law_cell_at) l3 c3 k3
  have b3 := F3.binds (ps := ["_law_script", "_law_k"]) fun _ _ _ _ _ _ us hl => match us, hl with | [_, _], _ => rfl
  have F4 := fun_mk (st := s_law_card) l4 c4 k4
  have b4 := F4.binds (ps := ["_law_cell", "_law_k"]) fun _ _ _ _ _ _ us hl => match us, hl with | [_, _], _ => rfl
  have F5 := fun_mk (st := s_law_fact) l5 c5 k5
  have b5 := F5.binds (ps := ["_law_shape", "_law_many", "_law_cell", "_law_aparts"]) fun _ _ _ _ _ _ us hl => match us, hl with | [_, _, _, _], _ => rfl
  have F6 := fun_mk (st := s_law_book) l6 c6 k6
  have b6 := F6.binds (ps := ["_law_facts"]) fun _ _ _ _ _ _ us hl => match us, hl with | [_], _ => rfl
  have F7 := fun_mk (st := s_law_labels) l7 c7 k7
  have b7 := F7.binds (ps := ["_law_book_here"]) fun _ _ _ _ _ _ us hl => match us, hl with | [_], _ => rfl
  have F8 := fun_mk (st := s_law_is_told) l8 c8 k8
  have b8 := F8.binds (ps := ["_law_book_here", "_law_one", "_law_other"]) fun _ _ _ _ _ _ us hl => match us, hl with | [_, _, _], _ => rfl
  have F9 := fun_mk (st := s_law_rounds) l9 c9 k9
  have b9 := F9.binds (ps := ["_law_book_here", "_law_cards", "_law_one", "_law_other"]) fun _ _ _ _ _ _ us hl => match us, hl with | [_, _, _, _], _ => rfl
  have F10 := fun_mk (st := s_law) l10 c10 k10
  have b10 := F10.binds (ps := ["_law_script"]) fun _ _ _ _ _ _ us hl => match us, hl with | [_], _ => rfl
  exact ⟨_, fun s v => .of_eq rfl, fun base _ _ => ok_law ⟨F0, b0, PySem.W.mg_of X G a0, F1, b1, PySem.W.mg_of X G a1, F2, b2, PySem.W.mg_of X G a2, F3, b3, PySem.W.mg_of X G a3, F4, b4, PySem.W.mg_of X G a4, F5, b5, PySem.W.mg_of X G a5, F6, b6, PySem.W.mg_of X G a6, F7, b7, PySem.W.mg_of X G a7, F8, b8, PySem.W.mg_of X G a8, F9, b9, PySem.W.mg_of X G a9, F10, b10, PySem.W.mg_of X G a10, PySem.W.mg_none_of X G y_any, PySem.W.mg_none_of X G y_int, PySem.W.mg_none_of X G y_isinstance, PySem.W.mg_none_of X G y_len, PySem.W.mg_none_of X G y_list, PySem.W.mg_none_of X G y_max, PySem.W.mg_none_of X G y_min, PySem.W.mg_none_of X G y_range, PySem.W.mg_none_of X G y_reversed, PySem.W.mg_none_of X G y_sorted, PySem.W.mg_none_of X G y_str⟩⟩
theorem walk {l : PySem.W.OpenLaw} {q : Program} {loose : List Str} {XP : (Str → Option Value) → Heap → Prop} {YP : World → Heap → Prop} {d : DefRec} {K : Params → PySem.W.Frag} (hn : l.most = some 63) (hdf : d.params.defaults = [])
    (hY : ∀ (w : World) (h : Heap), YP w h → (K w.params).In h)
    (F : ∀ (w : World) (mg : Str → Option Value) (fa : Addr) (h : Heap), (K w.params).In h → h.Ns mainGlobals mg → mg d.name = some (.ref fa) →
      ∃ fd : FuncData, (∀ (s : Shared) (u : Value), BindsTo s fd ⟨[u], []⟩ [("_law_script", u)]) ∧ ∀ base : Heap, (K w.params).In base → base.Ns mainGlobals mg → FnOk l.prog w (K w.params) mg base CX0 21 fa fd ["_law_script"] (spLaw (K w.params))) :
    PySem.W.WalkO q loose XP YP l.row.toRowW d [] (fun f vs => PySem.call f vs) :=
  L2.walk_of (n := 63) (k := 21) (x := "_law_script") (CX := fun _ => CX0) (sp := fun w => spLaw (K w.params)) hn (by decide) hdf ⟨rfl, by decide, by decide⟩ hY F (fun _ _ a ns hl _ hS => ⟨a, ns, rfl, hS, hl, fun _ => rfl⟩) fun _ _ _ _ _ z => z
end My
open PySem PySem.W PyProof.Rows
set_option maxRecDepth 100000 in
set_option maxHeartbeats 0 in
theorem PySem.Challenge.cw_folk_k26_chains_holds : PySem.Challenge.rw_folk_k26_chains.Holds := by
  w_on; o_law; k_head; (case hw => w_witness2)
  k_fill
  refine My.walk (l := PySem.Challenge.rw_folk_k26_chains) rfl rfl (fun w h Y => PySem.W.kIn_of Y) ?F
  case F =>
    intro w mg fa h KX G hmg
    refine' My.all_mk KX G hmg ?a0 ?l0 ?c0 ?k0 ?a1 ?l1 ?c1 ?k1 ?a2 ?l2 ?c2 ?k2 ?a3 ?l3 ?c3 ?k3 ?a4 ?l4 ?c4 ?k4 ?a5 ?l5 ?c5 ?k5 ?a6 ?l6 ?c6 ?k6 ?a7 ?l7 ?c7 ?k7 ?a8 ?l8 ?c8 ?k8 ?a9 ?l9 ?c9 ?k9 ?a10 ?l10 ?c10 ?k10 ?y_any ?y_int ?y_isinstance ?y_len ?y_list ?y_max ?y_min ?y_range ?y_reversed ?y_sorted ?y_str
    (case a0 => k_is)
    (case l0 => k_is)
    (case c0 => k_is)
    (case k0 => k_is)
    (case a1 => k_is)
    (case l1 => k_is)
    (case c1 => k_is)
    (case k1 => k_is)
    (case a2 => k_is)
    (case l2 => k_is)
    (case c2 => k_is)
    (case k2 => k_is)
    (case a3 => k_is)
    (case l3 => k_is)
    (case c3 => k_is)
    (case k3 => k_is)
    (case a4 => k_is)
    (case l4 => k_is)
    (case c4 => k_is)
    (case k4 => k_is)
    (case a5 => k_is)
    (case l5 => k_is)
    (case c5 => k_is)
    (case k5 => k_is)
    (case a6 => k_is)
    (case l6 => k_is)
    (case c6 => k_is)
    (case k6 => k_is)
    (case a7 => k_is)
    (case l7 => k_is)
    (case c7 => k_is)
    (case k7 => k_is)
    (case a8 => k_is)
    (case l8 => k_is)
    (case c8 => k_is)
    (case k8 => k_is)
    (case a9 => k_is)
    (case l9 => k_is)
    (case c9 => k_is)
    (case k9 => k_is)
    (case a10 => k_is)
    (case l10 => k_is)
    (case c10 => k_is)
    (case k10 => k_is)
    (case y_any => k_is)
    (case y_int => k_is)
    (case y_isinstance => k_is)
    (case y_len => k_is)
    (case y_list => k_is)
    (case y_max => k_is)
    (case y_min => k_is)
    (case y_range => k_is)
    (case y_reversed => k_is)
    (case y_sorted => k_is)
    (case y_str => k_is)
