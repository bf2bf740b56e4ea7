import PyProof.Rows.All
import Wide.All
import OpenK.AllK
import Wide.FinOn
import Lean
import PyProof.EqAt
import PyProof.EqKinds
import PyProof.TupleCall
import KE.KSortTup
import PySem.SetTable
import KE.KDictList
import PyProof.Rows.SeqMore
import PyProof.StrLawsIn
import PyProof.MeetsStr3
import PyProof.Rows.StrSplitMax
import KE.KDictLaws
import PyProof.Rows.CallKwBuiltin
import PyProof.ZipIter
import PyProof.Rows.ZipGen
import PyProof.Rows.StrWeight2
import KE.KDictSum
import KE.KTryMore
import PyProof.Rows.TopTwo
import PyProof.ExcBaseAll.ValueError
import KE.RegKIsAll
import KE.RegKTryMore
import PyProof.ExcAttrAll.ValueError
import KE.KSortKey
import KE.KItemsList
import KE.KPairComp
import KE.KDictOf
import KE.KMinKey
import KE.KLam
import PyProof.Rows.SumAny
import PySem.Challenge.RW_folk_k42_nevers_shown
noncomputable section
set_option Elab.async false
set_option linter.all false
set_option maxRecDepth 100000
namespace L2
open PySem PySem.Spec PyProof.Rows

abbrev Key := Sum Int Str
def keyIs : Key → Value → Bool
  | .inl k, v => Value.isInt k v
  | .inr x, v => Value.isStrOf x v
def keyH (w : World) : Key → Int
  | .inl k => hashInt k
  | .inr x => hashStr w x
theorem keyIs_shape : ∀ {k : Key} {v : Value}, keyIs k v = true → (∃ i t, k = Sum.inl i ∧ v = Value.int i t) ∨ (∃ x t, k = Sum.inr x ∧ v = Value.str x t)
  | .inl i, v, h => by
    obtain ⟨t, e⟩ := Value.isInt_shape (k := i) (v := v) h
    exact .inl ⟨i, t, rfl, e⟩
  | .inr x, v, h => by
    obtain ⟨t, e⟩ := Value.isStrOf_shape (x := x) (v := v) h
    exact .inr ⟨x, t, rfl, e⟩
theorem keyIs_int (i : Int) (t : Tok) : keyIs (.inl i) (.int i t) = true := by simp [keyIs, Value.isInt]
theorem keyIs_str (x : Str) (t : Tok) : keyIs (.inr x) (.str x t) = true := by simp [keyIs, Value.isStrOf]
theorem key_ll (a b : Int) : decide ((Sum.inl a : Key) = Sum.inl b) = (a == b) := by
  by_cases e : a = b
  · subst e; simp
  · have h : ¬ (Sum.inl a : Key) = Sum.inl b := fun q => e (Sum.inl.inj q)
    rw [decide_eq_false h]
    exact (beq_eq_false_iff_ne.mpr e).symm
theorem key_rr (a b : Str) : decide ((Sum.inr a : Key) = Sum.inr b) = decide (a = b) := by
  by_cases e : a = b
  · subst e; simp
  · have h : ¬ (Sum.inr a : Key) = Sum.inr b := fun q => e (Sum.inr.inj q)
    rw [decide_eq_false h, decide_eq_false e]
theorem key_lr (a : Int) (b : Str) : decide ((Sum.inl a : Key) = Sum.inr b) = false := decide_eq_false (fun q => nomatch q)
theorem key_rl (a : Str) (b : Int) : decide ((Sum.inr a : Key) = Sum.inl b) = false := decide_eq_false (fun q => nomatch q)

def mixKind (prog : Program) (w : World) : PySem.KeyKind prog w Key where
  is := keyIs
  hash := keyH w
  inj := fun v a b ha hb => by
    rcases keyIs_shape ha with ⟨i, t, rfl, rfl⟩ | ⟨x, t, rfl, rfl⟩
    · rcases keyIs_shape hb with ⟨j, u, rfl, e⟩ | ⟨y, u, rfl, e⟩
      · injection e with e1 _; rw [e1]
      · exact nomatch e
    · rcases keyIs_shape hb with ⟨j, u, rfl, e⟩ | ⟨y, u, rfl, e⟩
      · exact nomatch e
      · injection e with e1 _; rw [e1]
  byValue := fun k v h => by
    rcases keyIs_shape h with ⟨i, t, rfl, rfl⟩ | ⟨x, t, rfl, rfl⟩ <;> rfl
  pyHash := fun hv h => by
    rcases keyIs_shape hv with ⟨i, t, rfl, rfl⟩ | ⟨x, t, rfl, rfl⟩
    · exact wpAny_pyHash_int h
    · exact wpAny_pyHash_str h
  eqBool := fun hu hv h => by
    rcases keyIs_shape hu with ⟨i, t, rfl, rfl⟩ | ⟨x, t, rfl, rfl⟩
    · rcases keyIs_shape hv with ⟨j, u, rfl, rfl⟩ | ⟨y, u, rfl, rfl⟩
      · rw [key_ll] at h; exact wpAny_eqBool_int h
      · rw [key_lr] at h; exact SeqAt.EqAt.int_str i t y u _ _ _ _ h
    · rcases keyIs_shape hv with ⟨j, u, rfl, rfl⟩ | ⟨y, u, rfl, rfl⟩
      · rw [key_rl] at h; exact SeqAt.EqAt.str_int x t j u _ _ _ _ h
      · rw [key_rr] at h; exact wpAny_eqBool_str h
  «strs» := fun k x t v h => by
    rcases keyIs_shape h with ⟨i, u, rfl, e⟩ | ⟨y, u, rfl, e⟩
    · exact nomatch e
    · injection e with e1 _
      subst e1
      cases v <;> rfl

theorem mixKind_int (prog : Program) (w : World) (i : Int) (t : Tok) : (mixKind prog w).is (.inl i) (.int i t) = true := keyIs_int i t
theorem mixKind_str (prog : Program) (w : World) (x : Str) (t : Tok) : (mixKind prog w).is (.inr x) (.str x t) = true := keyIs_str x t
end L2

namespace L2
open PySem PySem.Spec PyProof.Rows

inductive V where
  | non | bl (b : Bool) | int (i : Int) | str (x : Str) | byt (b : Array UInt8) | flt (b : UInt64) | ref (a : Addr) | ty (n : String)
  deriving DecidableEq

def RelV : V → Value → Prop
  | .non, u => u = Value.none
  | .bl b, u => u = Value.bool b
  | .int i, u => ∃ t, u = Value.int i t
  | .str x, u => ∃ t, u = Value.str x t
  | .byt b, u => ∃ t, u = Value.bytes b t
  | .flt b, u => ∃ t, u = Value.float b t
  | .ref a, u => u = Value.ref a
  | .ty n, u => u = Value.type n

abbrev Vals : List V → List Value → Prop := Paired RelV
theorem Vals.length {xs : List V} {us : List Value} (r : Vals xs us) : xs.length = us.length := Paired.length r
theorem Vals.get : ∀ {xs : List V} {us : List Value} {i : Nat} {x : V}, Vals xs us → xs[i]? = some x → ∃ u, us[i]? = some u ∧ RelV x u
  | _, _, _, _, .nil, e => by simp at e
  | _, _, 0, _, .cons r _, e => by simp at e; subst e; exact ⟨_, rfl, r⟩
  | _, _, i + 1, x, .cons _ t, e => by
    obtain ⟨u, h1, h2⟩ := Vals.get (i := i) (x := x) t (by simpa using e)
    exact ⟨u, by simpa using h1, h2⟩
theorem Vals.set {x : V} {u : Value} (r : RelV x u) : ∀ {xs : List V} {us : List Value} (i : Nat), Vals xs us → Vals (xs.set i x) (us.set i u)
  | _, _, _, .nil => .nil
  | _, _, 0, .cons _ t => .cons r t
  | _, _, i + 1, .cons q t => .cons q (Vals.set r i t)
theorem Vals.append : ∀ {xs ys : List V} {us ws : List Value}, Vals xs us → Vals ys ws → Vals (xs ++ ys) (us ++ ws)
  | _, _, _, _, .nil, s => s
  | _, _, _, _, .cons r t, s => .cons r (Vals.append t s)
theorem Vals.take : ∀ {xs : List V} {us : List Value} (n : Nat), Vals xs us → Vals (xs.take n) (us.take n)
  | _, _, 0, _ => .nil
  | _, _, _ + 1, .nil => .nil
  | _, _, n + 1, .cons r t => .cons r (Vals.take n t)
theorem Vals.drop : ∀ {xs : List V} {us : List Value} (n : Nat), Vals xs us → Vals (xs.drop n) (us.drop n)
  | _, _, 0, r => r
  | _, _, _ + 1, .nil => .nil
  | _, _, n + 1, .cons _ t => Vals.drop n t
def RelO : Option V → Option Value → Prop
  | some v, some u => RelV v u
  | none, none => True
  | _, _ => False
def KV {κ : Type} : List (κ × V) → List (κ × Value) → Prop := Paired fun (p : κ × V) (q : κ × Value) => p.1 = q.1 ∧ RelV p.2 q.2

def kV : Key → V
  | .inl i => .int i
  | .inr x => .str x

inductive HO where
  /-- a list -/
  | lst (xs : List V)
  /-- a tuple (never changes) -/
  | tup (xs : List V)
  /-- a dict whose keys are ints and texts; one whose keys are tuples of ints and texts (the empty one is both) -/
  | dK (kvs : List (Key × V)) | dT (kvs : List (List Key × V))
  /-- a set of ints: its members, its size -/
  | set (S : Int → Bool) (n : Nat)
  /-- an instance of the class at C, its dict at dx, its attributes -/
  | ins (C dx : Addr) (fs : List (Str × V))
  /-- the dict of the instance at x -/
  | own (x : Addr)
  /-- the dict of an exception -/
  | xd (fs : List (Str × V))
  /-- a bound method, f of x -/
  | met (f x : Addr)
  /-- a range object lo, lo + 1, .. below hi -/
  | rng (lo hi : Int)
  /-- a thing that is known to the object (the script; a dict while a loop walks it): read, never written while it is so -/
  | frz (o : Obj) (u : HO)
  /-- a code object's table -/
  | tbl (ps : Array Value)
  /-- any other thing, by what is true of its one object (a def of one's own: SetO a S n := HO.ext fun h => ..) -/
  | ext (φ : Heap → Prop)
  | tab (ps : Array Value) (pos : Pos) (q : Str)

abbrev Hp := Addr → Option HO
def upd (H : Hp) (a : Addr) (o : HO) : Hp := fun b => if b = a then some o else H b
theorem upd_same {H : Hp} {a : Addr} {o : HO} : upd H a o a = some o := by unfold upd; rw [if_pos rfl]
theorem upd_ne {H : Hp} {a b : Addr} {o : HO} (h : b ≠ a) : upd H a o b = H b := by unfold upd; rw [if_neg h]
theorem ne_of {H : Hp} {a b : Addr} {o u : HO} (h : H a = some o) (h' : H b = some u) (d : o ≠ u) : a ≠ b := by
  intro e; subst e; rw [h] at h'; exact d (Option.some.inj h')
theorem ne_of_none {H : Hp} {a b : Addr} {o : HO} (h : H a = some o) (h' : H b = none) : a ≠ b := by
  intro e; subst e; rw [h] at h'; cases h'

section
variable (P : Program) (w : World)
def ObjOk (H : Hp) (h : Heap) (a : Addr) : HO → Prop
  | .lst xs => xs.length ≤ sizeLine ∧ ∃ (its : List Value) (n : Nat), Vals xs its ∧ h.get? a = some { cls := .type "list", data := .seq its.toArray n }
  | .tup xs => xs.length ≤ sizeLine ∧ ∃ its : List Value, Vals xs its ∧ IsTup h a its.toArray
  | .dK kvs => kvs.length ≤ sizeLine ∧ (a == sysModules) = false ∧ ∃ vs, KV kvs vs ∧ h.DictOf (mixKind P w) a vs
  | .dT kvs => kvs.length ≤ sizeLine ∧ (a == sysModules) = false ∧ ∃ xs : List (List Key × Addr × Value),
      Paired (fun (p : List Key × V) (q : List Key × Addr × Value) => p.1 = q.1 ∧ H q.2.1 = some (.tup (p.1.map kV)) ∧ RelV p.2 q.2.2) kvs xs ∧
      ∃ o es ep, h.get? a = some o ∧ o.ExactDict ∧ o.data = .dict es ep ∧ es.toList = xs.map (entryOfKey (tupleKind (mixKind P w))) ∧ (xs.map (·.1)).Nodup
  | .set S n => h.SetOf (intKind P w) a S n
  | .ins C dx fs => H dx = some (.own a) ∧ fs.length ≤ 1000 ∧ dx ≠ a ∧ h.get? a = some (PySem.W.instObj C dx) ∧
      ∃ mA, h.Ns1 dx mA ∧ (∀ f, RelO (fs.lookup f) (mA f)) ∧ PySem.Within mA (fs.map (·.1))
  | .own _ => ∃ o, h.get? a = some o
  | .xd fs => ∃ mA, h.Ns1 a mA ∧ ∀ f, RelO (fs.lookup f) (mA f)
  | .rng lo hi => ∃ t u v, h.get? a = some { cls := .type "range", data := .fields #[.int lo t, .int hi u, .int 1 v] }
  | .frz o u => h.get? a = some o ∧ ObjOk H h a u
  | .tbl ps => h.get? a = some { cls := .none, data := .fields ps }
  | .met f x => h.get? a = some (PySem.W.methodObj (.ref f) (.ref x))
  | .ext φ => φ h ∧ (∃ o, h.get? a = some o) ∧ ∀ h1 h2 : Heap, φ h1 → (∀ o, h1.get? a = some o → h2.get? a = some o) → φ h2
  | .tab ps pos q => ∃ more : Array Value, h.get? a = some { cls := .none, data := .fields (ps ++ more) } ∧ TriplesOk (ps ++ more).toList ∧ (codeAmong pos (ps ++ more).toList = none ∨ ∃ c' oc vs t, codeAmong pos (ps ++ more).toList = some (.ref c') ∧ H c' = some (.frz oc (.own a)) ∧ oc.data = .fields vs ∧ vs[1]? = some (.str q t))
def HOk (H : Hp) (h : Heap) : Prop := ∀ a o, H a = some o → ObjOk P w H h a o
end

section
variable {P : Program} {w : World} {H H' : Hp} {h h' : Heap} {a : Addr} {o : HO}
theorem ObjOk.lt (x : ObjOk P w H h a o) : a < h.objs.size := by
  cases o with
  | lst xs => obtain ⟨_, _, _, _, e⟩ := x; exact Heap.lt_size e
  | tup xs => obtain ⟨_, _, _, p⟩ := x; exact p.lt
  | dK kvs => obtain ⟨_, _, _, _, o, _, _, e, _⟩ := x; exact Heap.lt_size e
  | dT kvs => obtain ⟨_, _, _, _, o, _, _, e, _⟩ := x; exact Heap.lt_size e
  | set S n => obtain ⟨o, _, _, _, e, _⟩ := x; exact Heap.lt_size e
  | ins C dx fs => obtain ⟨_, _, _, e, _⟩ := x; exact Heap.lt_size e
  | own y => obtain ⟨_, e⟩ := x; exact Heap.lt_size e
  | xd fs => obtain ⟨_, ⟨_, _, _, e, _⟩, _⟩ := x; exact Heap.lt_size e
  | rng lo hi => obtain ⟨_, _, _, e⟩ := x; exact Heap.lt_size e
  | frz ob u => obtain ⟨e, _⟩ := x; exact Heap.lt_size e
  | tbl ps => exact Heap.lt_size (show h.get? a = some _ from x)
  | met f y => exact Heap.lt_size (show h.get? a = some _ from x)
  | ext φ => obtain ⟨_, ⟨_, e⟩, _⟩ := x; exact Heap.lt_size e
  | tab ps pos q => obtain ⟨_, e, _⟩ := x; exact Heap.lt_size e
theorem Paired.mapP {α β : Type} {F G : α → β → Prop} : ∀ {l₁ : List α} {l₂ : List β}, Paired F l₁ l₂ → (∀ a b, F a b → G a b) → Paired G l₁ l₂
  | _, _, .nil, _ => .nil
  | _, _, .cons r t, f => .cons (f _ _ r) (Paired.mapP t f)
theorem ObjOk.stay (x : ObjOk P w H h a o) (k : ∀ b u, (b = a ∨ H b = some (.own a)) → h.get? b = some u → h'.get? b = some u)
    (ho : ∀ b, H b = some (.own a) → H' b = some (.own a)) (ht : ∀ b xs, H b = some (.tup xs) → H' b = some (.tup xs))
    (hf : ∀ b o u, H b = some (.frz o u) → H' b = some (.frz o u) := by first | exact fun _ _ _ q => q | exact fun c _ _ q => (upd_ne (ne_of_none q (by assumption))).trans q | exact fun c _ _ r => (upd_ne (fun z => by rw [← z, r] at mu; exact mu)).trans r) : ObjOk P w H' h' a o := by
  induction o with
  | lst xs => obtain ⟨z, its, n, r, e⟩ := x; exact ⟨z, its, n, r, k _ _ (.inl rfl) e⟩
  | tup xs => obtain ⟨z, its, r, ob, e, c⟩ := x; exact ⟨z, its, r, ob, k _ _ (.inl rfl) e, c⟩
  | dK kvs => obtain ⟨z, y, vs, r, ob, es, ep, e, c⟩ := x; exact ⟨z, y, vs, r, ob, es, ep, k _ _ (.inl rfl) e, c⟩
  | dT kvs =>
    obtain ⟨z, y, xs, r, ob, es, ep, e, c⟩ := x
    exact ⟨z, y, xs, Paired.mapP r fun p q z => ⟨z.1, ht _ _ z.2.1, z.2.2⟩, ob, es, ep, k _ _ (.inl rfl) e, c⟩
  | set S n => obtain ⟨ob, es, ep, t, e, c⟩ := x; exact ⟨ob, es, ep, t, k _ _ (.inl rfl) e, c⟩
  | ins C dx fs =>
    obtain ⟨d, z, ne, e, mA, ⟨od, es, ep, e2, c⟩, r⟩ := x
    exact ⟨ho _ d, z, ne, k _ _ (.inl rfl) e, mA, ⟨od, es, ep, k _ _ (.inr d) e2, c⟩, r⟩
  | own y => obtain ⟨ob, e⟩ := x; exact ⟨ob, k _ _ (.inl rfl) e⟩
  | xd fs => obtain ⟨mA, ⟨od, es, ep, e, c⟩, r⟩ := x; exact ⟨mA, ⟨od, es, ep, k _ _ (.inl rfl) e, c⟩, r⟩
  | rng lo hi => obtain ⟨t, u, v, e⟩ := x; exact ⟨t, u, v, k _ _ (.inl rfl) e⟩
  | frz ob u ih => obtain ⟨e, q⟩ := x; exact ⟨k _ _ (.inl rfl) e, ih q⟩
  | tbl ps =>
    have e : h.get? a = some { cls := .none, data := .fields ps } := x
    show h'.get? a = some { cls := .none, data := .fields ps }
    exact k a _ (.inl rfl) e
  | met f y =>
    have e : h.get? a = some (PySem.W.methodObj (.ref f) (.ref y)) := x
    show h'.get? a = some (PySem.W.methodObj (.ref f) (.ref y))
    exact k a _ (.inl rfl) e
  | ext φ => obtain ⟨p, ⟨o, e⟩, st⟩ := x; exact ⟨st _ _ p fun o q => k _ _ (.inl rfl) q, ⟨o, k _ _ (.inl rfl) e⟩, st⟩
  | tab ps pos q =>
    obtain ⟨m, e, t, r⟩ := x
    exact ⟨m, k _ _ (.inl rfl) e, t, r.imp id fun ⟨c', oc, vs, t2, e1, e2, q1, q2⟩ => ⟨c', oc, vs, t2, e1, hf _ _ _ e2, q1, q2⟩⟩
theorem HOk.lt (x : HOk P w H h) (e : H a = some o) : a < h.objs.size := (x a o e).lt
theorem HOk.fresh (x : HOk P w H h) (e : h.objs.size ≤ a) : H a = none := by
  cases q : H a with
  | none => rfl
  | some u => exact absurd (Nat.lt_of_lt_of_le (x.lt q) e) (Nat.lt_irrefl _)
theorem HOk.kept (x : HOk P w H h) (k : ∀ b u, h.get? b = some u → h'.get? b = some u) : HOk P w H h' := fun a o e =>
  (x a o e).stay (fun b u _ q => k b u q) (fun _ q => q) fun _ _ q => q
theorem HOk.laid (x : HOk P w H h) (k : ∀ b u, h.get? b = some u → h'.get? b = some u) (hp : h.objs.size ≤ a) (new : ObjOk P w (upd H a o) h' a o) : HOk P w (upd H a o) h' := fun b u e => by
  have hn := x.fresh hp
  by_cases hb : b = a
  · subst hb; rw [upd_same] at e; cases e; exact new
  · rw [upd_ne hb] at e
    exact (x b u e).stay (fun c v _ q => k c v q) (fun c q => by rw [upd_ne (ne_of_none q hn)]; exact q) fun c xs q => by rw [upd_ne (ne_of_none q hn)]; exact q
end

def Rd (H : Hp) (a : Addr) (u : HO) : Prop := H a = some u ∨ ∃ o, H a = some (.frz o u)
theorem Rd.ok {P : Program} {w : World} {H : Hp} {h : Heap} {a : Addr} {u : HO} (r : Rd H a u) (x : HOk P w H h) : ObjOk P w H h a u := by
  rcases r with r | ⟨o, r⟩
  · exact x a u r
  · obtain ⟨_, q⟩ := x a _ r
    exact q
def Mut : Option HO → Prop
  | some (.lst _) => True
  | some (.dK _) => True
  | some (.dT _) => True
  | some (.set _ _) => True
  | some (.ins _ _ _) => True
  | some (.ext _) => True
  | _ => False
section
variable {P : Program} {w : World} {H : Hp} {h h' : Heap} {x e : Addr} {o' : HO}
theorem HOk.write (ok : HOk P w H h) (mu : Mut (H x)) (he : e = x ∨ H e = some (.own x)) (k : ∀ b u, b ≠ e → h.get? b = some u → h'.get? b = some u) (heo : ∃ u, h'.get? e = some u)
    (new : ObjOk P w (upd H x o') h' x o') : HOk P w (upd H x o') h' := fun b u q => by
  have nown : ∀ c y, H c = some (.own y) → c ≠ x := fun c y r z => by subst z; rw [r] at mu; exact mu
  have ntup : ∀ c xs, H c = some (.tup xs) → c ≠ x := fun c xs r z => by subst z; rw [r] at mu; exact mu
  by_cases hb : b = x
  · subst hb; rw [upd_same] at q; cases q; exact new
  · rw [upd_ne hb] at q
    by_cases hbe : b = e
    · have q' : H b = some (.own x) := by
        rcases he with z | z
        · exact absurd (hbe.trans z) hb
        · rw [hbe]; exact z
      rw [q] at q'; cases q'
      obtain ⟨v, hv⟩ := heo
      exact ⟨v, by rw [hbe]; exact hv⟩
    · refine (ok b u q).stay (fun c v hc r => k c v ?_ r) (fun c r => by rw [upd_ne (nown c b r)]; exact r) fun c xs r => by rw [upd_ne (ntup c xs r)]; exact r
      rcases hc with rfl | hc
      · exact hbe
      · rintro rfl
        rcases he with z | z
        · exact nown c b hc z
        · rw [hc] at z; cases z; exact hb rfl
end

structure Un (fs ex : List Addr) (H H' : Hp) (h h' : Heap) : Prop where
  keep : ∀ b o, h.get? b = some o → H b = none → b ∉ fs → b ∉ ex → h'.get? b = some o
  slot : ∀ b o, h.get? b = some o → H b = none → b ∈ fs → b ∉ ex → ∃ sl, h'.get? b = some { o with slots := sl }
  free : ∀ b o, h.get? b = some o → H b = none → b ∉ ex → H' b = none
  there : ∀ b o, h.get? b = some o → b ∉ ex → ∃ o', h'.get? b = some o'
  tups : ∀ b xs, H b = some (.tup xs) → H' b = some (.tup xs)
  frzs : ∀ b o u, H b = some (.frz o u) → H' b = some (.frz o u)
  tbls : ∀ b ps, H b = some (.tbl ps) → ∃ more, H' b = some (.tbl (ps ++ more))
section
variable {fs fs' ex ex' : List Addr} {H H1 H2 : Hp} {h h1 h2 h' : Heap} {a x e : Addr} {o : HO}
theorem Un.any (u : Un fs ex H H1 h h1) {b : Addr} {ob : Obj} (q : h.get? b = some ob) (n : H b = none) (hx : b ∉ ex) : ∃ sl, h1.get? b = some { ob with slots := sl } := by
  by_cases hb : b ∈ fs
  · exact u.slot b ob q n hb hx
  · exact ⟨ob.slots, u.keep b ob q n hb hx⟩
theorem Un.kept (k : ∀ b u, h.get? b = some u → h'.get? b = some u) : Un fs ex H H h h' :=
  ⟨fun b ob q _ _ _ => k b ob q, fun b ob q _ _ _ => ⟨ob.slots, k b ob q⟩, fun _ _ _ n _ => n, fun b ob q _ => ⟨ob, k b ob q⟩, fun _ _ q => q, fun _ _ _ q => q, fun _ ps q => ⟨#[], by rw [q]; simp⟩⟩
theorem Un.refl : Un fs ex H H h h := Un.kept fun _ _ q => q
theorem Un.laid (k : ∀ b u, h.get? b = some u → h'.get? b = some u) (hp : h.objs.size ≤ a) (hn : H a = none) : Un fs ex H (upd H a o) h h' where
  keep := fun b u q _ _ _ => k b u q
  slot := fun b u q _ _ _ => ⟨u.slots, k b u q⟩
  free := fun b u q n _ => by rw [upd_ne (Nat.ne_of_lt (Nat.lt_of_lt_of_le (Heap.lt_size q) hp))]; exact n
  there := fun b u q _ => ⟨u, k b u q⟩
  tups := fun b xs q => by rw [upd_ne (ne_of_none q hn)]; exact q
  frzs := fun b u xs q => by rw [upd_ne (ne_of_none q hn)]; exact q
  tbls := fun b ps q => ⟨#[], by rw [upd_ne (ne_of_none q hn), q]; simp⟩
theorem Un.write (mu : Mut (H x)) (he : e = x ∨ H e = some (.own x)) (k : ∀ b u, b ≠ e → h.get? b = some u → h'.get? b = some u) (heo : ∃ u, h'.get? e = some u) : Un fs ex H (upd H x o) h h' := by
  have hx : ∀ b, H b = none → b ≠ x := fun b n z => by subst z; rw [n] at mu; exact mu
  have hb : ∀ b, H b = none → b ≠ e := fun b n z => by
    subst z
    rcases he with r | r
    · exact hx b n r
    · rw [n] at r; cases r
  have hm : ∀ b u, H b = some u → ¬ Mut (some u) → b ≠ x := fun b u q nm z => by subst z; rw [q] at mu; exact nm mu
  refine ⟨fun b u q n _ _ => k b u (hb b n) q, fun b u q n _ _ => ⟨u.slots, k b u (hb b n) q⟩, fun b u q n _ => by rw [upd_ne (hx b n)]; exact n, fun b u q _ => ?_,
    fun b xs q => by rw [upd_ne (hm b _ q fun z => z)]; exact q, fun b u xs q => by rw [upd_ne (hm b _ q fun z => z)]; exact q, fun b ps q => ⟨#[], by rw [upd_ne (hm b _ q fun z => z), q]; simp⟩⟩
  by_cases hbe : b = e
  · subst hbe; exact heo
  · exact ⟨u, k b u hbe q⟩
end

def trk (h : Heap) (H : Hp) : List Addr := (List.range h.objs.size).filter fun a => (H a).isSome
def hidT (h : Heap) (H : Hp) : Heap := PySem.W.hideAll h (trk h H)
theorem hidT_size (h : Heap) (H : Hp) : (hidT h H).objs.size = h.objs.size := PySem.W.hideAll_size _ _
theorem hidT_get {h : Heap} {H : Hp} {b : Addr} {o : Obj} (e : h.get? b = some o) (n : H b = none) : (hidT h H).get? b = some o :=
  PySem.W.hideAll_get _ e fun hm => by
    have q : (H b).isSome = true := (List.mem_filter.mp hm).2
    rw [n] at q; simp at q
theorem of_hidT {h : Heap} {H : Hp} {b : Addr} {o : Obj} (e : (hidT h H).get? b = some o) : h.get? b = some o ∧ H b = none := by
  have e' : h.get? b = some o := PySem.W.of_hideAll (trk h H) e
  refine ⟨e', ?_⟩
  cases q : H b with
  | none => rfl
  | some x =>
    have hm : b ∈ trk h H := List.mem_filter.mpr ⟨List.mem_range.mpr (Heap.lt_size e'), by simp [q]⟩
    have z : (hidT h H).get? b = none := PySem.W.hideAll_none (trk h H) hm
    rw [z] at e; cases e

def allNews (g h : Heap) (L : Addr) : List (Addr × Obj) := (List.range h.objs.size).filterMap fun a => if a = L ∨ (g.get? a).isSome = true then none else (h.get? a).map fun o => (a, o)
def rest (g h : Heap) (L d : Addr) : List (Addr × Obj) := (allNews g h L).filter fun p => decide (p.1 ≠ d)
end L2

namespace L2
open PySem PySem.Spec PyProof.Rows

structure Mod (K : PySem.W.Frag) (mg : Str → Option Value) (base : Heap) : Prop where
  kin : K.In base
  glob : base.Ns mainGlobals mg
  blt : ∃ mb, base.Ns builtinsNs mb ∧ ∀ x : Str, x ≠ "__name__" → mb x = bootBuiltins x
  nolimit : base.NoLimit

structure Cx where
  prog : Program
  w : World
  K : PySem.W.Frag
  mg : Str → Option Value
  base : Heap
  A : Around
  N : List Str
  s₀ : Shared
  H₀ : Hp
  env : Env
  outer : List Env
  stack : List Env
  ex : List Addr
  fn : Str → Bool
  calm : Bool
  pn : List (Addr × Obj)
  xe : Value → Shared → Prop
def frs (l : List Env) : List Addr := l.filterMap (·.frame)
abbrev Cx.fs (X : Cx) : List Addr := frs X.outer

def Vis (sc : Scope) (x : Str) : Prop := sc.names.lookup x = some .local ∨ sc.names.lookup x = some .cell ∨ sc.names.lookup x = some .free
def Loc (sc : Scope) (x : Str) : Prop := sc.names.lookup x = some .local ∨ sc.names.lookup x = some .cell
def Look (env : Env) (h : Heap) (m : Str → Option Value) (x : Str) (u : Value) : Prop :=
  (env.kindOf x = some .local ∧ m x = some u) ∨ ((env.kindOf x = some .cell ∨ env.kindOf x = some .free) ∧ ∃ c, env.cells.lookup x = some c ∧ h.IsCell c (some u))

structure Cx.Ok (X : Cx) : Prop where
  mod : Mod X.K X.mg X.base
  kind : X.env.scope.kind = .function
  glob : X.env.globals = mainGlobals
  blt : X.env.builtins = builtinsNs
  above : X.s₀.heap.objs.size ≤ X.env.locals
  inj : ∀ x y c, X.env.cells.lookup x = some c → X.env.cells.lookup y = some c → x = y
  has : ∀ x, (X.env.kindOf x = some .cell ∨ X.env.kindOf x = some .free) → ∃ c, X.env.cells.lookup x = some c
  cab : ∀ x c, X.fn x = true → X.env.cells.lookup x = some c → X.s₀.heap.objs.size ≤ c
  hd : X.calm = true → X.A.handled = none
  frames : X.A.frames = some X.stack
  stk : X.stack = X.outer ∨ (X.stack = X.env :: X.outer ∧ X.env.frame = some X.env.locals)
  exf : ∀ b ∈ X.ex, b ≠ X.env.locals ∧ ∀ x c, X.env.cells.lookup x = some c → c ≠ b
  bs : ∀ b o, X.base.get? b = some o → X.s₀.heap.get? b = some o ∧ X.H₀ b = none
  bsz : X.base.objs.size ≤ X.s₀.heap.objs.size
  noex : ∀ b o, X.base.get? b = some o → b ∉ X.ex
  exfs : ∀ b ∈ X.ex, b ∉ X.fs
  funs : X.s₀.heap.FunFrames X.base X.outer
  frf : ∀ b ∈ X.fs, X.H₀ b = none

structure Inv (X : Cx) (pins : List (Addr × Obj)) (σ : List (Option V)) (H : Hp) (s : Shared) : Prop where
  ok : X.Ok
  os : s.os = X.s₀.os
  bare : AllBare s.gens
  base : Un X.fs X.ex X.H₀ H X.s₀.heap s.heap
  loc : ∃ m, s.heap.Ns X.env.locals m ∧ ∀ (i : Nat) (x : Str) (v : V), X.N[i]? = some x → σ[i]? = some (some v) → Vis X.env.scope x → ∃ u, RelV v u ∧ Look X.env s.heap m x u
  cell : ∀ x c, X.env.cells.lookup x = some c → ∃ v, s.heap.IsCell c v
  free : H X.env.locals = none
  freeC : ∀ x c, X.env.cells.lookup x = some c → H c = none
  pin : ∀ p ∈ X.pn ++ pins, s.heap.get? p.1 = some p.2 ∧ H p.1 = none ∧ p.1 ≠ X.env.locals ∧ p.1 ∉ X.fs ∧ ∀ v, p.2.data ≠ .cell v
  hok : HOk X.prog X.w H s.heap
  len : σ.length = X.N.length

section
variable {X : Cx} {pins : List (Addr × Obj)} {σ : List (Option V)} {H H' : Hp} {s : Shared} {h' : Heap}

theorem Cx.Ok.nofr (ok : X.Ok) {b : Addr} {o : Obj} (e : X.base.get? b = some o) : b ∉ X.fs := fun hb => by
  have := (ok.funs.mem hb).1
  rw [e] at this; cases this
theorem Inv.bs (I : Inv X pins σ H s) : ∀ b o, X.base.get? b = some o → s.heap.get? b = some o ∧ H b = none := fun b o e =>
  ⟨I.base.keep b o (I.ok.bs b o e).1 (I.ok.bs b o e).2 (I.ok.nofr e) (I.ok.noex b o e), I.base.free b o (I.ok.bs b o e).1 (I.ok.bs b o e).2 (I.ok.noex b o e)⟩
theorem Inv.bk (I : Inv X pins σ H s) : ∀ b o, X.base.get? b = some o → s.heap.get? b = some o := fun b o e => (I.bs b o e).1
theorem Inv.mod (I : Inv X pins σ H s) : Mod X.K X.mg X.base := I.ok.mod
theorem Inv.kIn (I : Inv X pins σ H s) : X.K.In s.heap := I.ok.mod.kin.keeps I.bk
theorem Inv.fr (I : Inv X pins σ H s) : ∃ m, Fr X.base X.env.locals s.heap m :=
  let ⟨m, hn, _⟩ := I.loc
  ⟨m, hn, I.bk, Nat.le_trans I.ok.bsz I.ok.above⟩
theorem Inv.lt (I : Inv X pins σ H s) : X.env.locals < s.heap.objs.size := let ⟨_, hn, _⟩ := I.loc; hn.lt
theorem Inv.sz (I : Inv X pins σ H s) : X.s₀.heap.objs.size ≤ s.heap.objs.size := Nat.le_trans I.ok.above (Nat.le_of_lt I.lt)
theorem Inv.nofs (I : Inv X pins σ H s) {a : Addr} (h : s.heap.objs.size ≤ a) : a ∉ X.fs := fun hb => by
  obtain ⟨_, o, ho, _⟩ := I.ok.funs.mem hb
  exact absurd (Nat.lt_of_lt_of_le (Heap.lt_size ho) (Nat.le_trans I.sz h)) (Nat.lt_irrefl _)
theorem Inv.cne (I : Inv X pins σ H s) : ∀ x c, X.env.cells.lookup x = some c → c ≠ X.env.locals := fun x c e z => by
  obtain ⟨v, o, ho, hd⟩ := I.cell x c e
  obtain ⟨m, ⟨o', es, ep, ho', hd', _⟩, _⟩ := I.loc
  rw [z, ho'] at ho; cases ho; rw [hd'] at hd; cases hd
theorem Inv.funs (I : Inv X pins σ H s) : s.heap.FunFrames X.base X.outer := by
  have all : ∀ (l : List Env), (∀ b ∈ frs l, b ∈ X.fs) → X.s₀.heap.FunFrames X.base l → s.heap.FunFrames X.base l := by
    intro l
    induction l with
    | nil => intro _ _; trivial
    | cons env r ih =>
      intro hs hl
      obtain ⟨hk, ⟨L, o, hf, hn, ho, hd⟩, hr⟩ := hl
      have hL : L ∈ X.fs := hs L (by unfold frs; rw [List.filterMap_cons, hf]; exact List.mem_cons_self)
      obtain ⟨sl, e⟩ := I.base.slot L o ho (I.ok.frf L hL) hL fun z => I.ok.exfs L z hL
      exact ⟨hk, ⟨L, _, hf, hn, e, hd⟩, ih (fun b hb => hs b (by unfold frs; rw [List.filterMap_cons, hf]; exact List.mem_cons_of_mem _ hb)) hr⟩
  exact all X.outer (fun _ hb => hb) I.ok.funs

theorem Inv.stack (I : Inv X pins σ H s) : s.heap.FunFrames X.base X.stack := by
  rcases I.ok.stk with e | ⟨e, hf⟩
  · rw [e]; exact I.funs
  · rw [e]
    obtain ⟨m, hn, _⟩ := I.loc
    refine .cons (by rw [I.ok.kind]; decide) hf hn ?_ I.funs
    exact Heap.get?_none_of_le (Nat.le_trans I.ok.bsz I.ok.above)
theorem Inv.stkSub (I : Inv X pins σ H s) : ∀ b ∈ frs X.stack, b ∈ X.env.locals :: X.fs := fun b hb => by
  rcases I.ok.stk with e | ⟨e, hf⟩
  · rw [e] at hb; exact List.mem_cons_of_mem _ hb
  · rw [e] at hb
    unfold frs at hb
    rw [List.filterMap_cons, hf] at hb
    exact hb
theorem Inv.stkFree (I : Inv X pins σ H s) : ∀ b ∈ frs X.stack, H b = none := fun b hb => by
  rcases List.mem_cons.mp (I.stkSub b hb) with e | hb
  · rw [e]; exact I.free
  · obtain ⟨_, o, ho, _⟩ := I.ok.funs.mem hb
    exact I.base.free b o ho (I.ok.frf b hb) fun z => I.ok.exfs b z hb

theorem Inv.step {g' : Array GenState} {t' : Nat} {d' : Drawn} {ch : List Addr} (I : Inv X pins σ H s)
    (hch : ∀ b ∈ ch, (b ∈ X.ex ∨ X.s₀.heap.objs.size ≤ b) ∧ b ≠ X.env.locals ∧ (∀ x c, X.env.cells.lookup x = some c → c ≠ b) ∧ ∀ p ∈ X.pn ++ pins, p.1 ≠ b)
    (keep : ∀ b o, b ≠ X.env.locals → b ∉ X.fs → b ∉ ch → s.heap.get? b = some o → H b = none → h'.get? b = some o)
    (slot : ∀ b o, b ≠ X.env.locals → b ∈ X.fs → b ∉ ch → s.heap.get? b = some o → H b = none → ∃ sl, h'.get? b = some { o with slots := sl }) (free : ∀ b o, b ∉ ch → s.heap.get? b = some o → H b = none → H' b = none)
    (there : ∀ b o, b ∉ ch → s.heap.get? b = some o → ∃ o', h'.get? b = some o')
    (tups : ∀ b xs, H b = some (.tup xs) → H' b = some (.tup xs)) (frzs : ∀ b o u, H b = some (.frz o u) → H' b = some (.frz o u)) (tbls : ∀ b ps, H b = some (.tbl ps) → ∃ more, H' b = some (.tbl (ps ++ more)))
    (ns : ∀ m, s.heap.Ns X.env.locals m → h'.Ns X.env.locals m) (hok : HOk X.prog X.w H' h') (hg : AllBare g') :
    Inv X pins σ H' { s with heap := h', gens := g', drawn := d', toks := t' } := by
  have neL : ∀ b o, X.s₀.heap.get? b = some o → b ≠ X.env.locals := fun b o e => Nat.ne_of_lt (Nat.lt_of_lt_of_le (Heap.lt_size e) I.ok.above)
  have neC : ∀ b o, X.s₀.heap.get? b = some o → b ∉ X.ex → b ∉ ch := fun b o e hx hb => by
    rcases (hch b hb).1 with z | z
    · exact hx z
    · exact absurd (Nat.lt_of_lt_of_le (Heap.lt_size e) z) (Nat.lt_irrefl _)
  have cellK : ∀ x c, X.env.cells.lookup x = some c → ∀ v, s.heap.IsCell c v → h'.IsCell c v := fun x c e v ⟨o, ho, hd⟩ => by
    have nch : c ∉ ch := fun z => (hch c z).2.2.1 x c e rfl
    by_cases hc : c ∈ X.fs
    · obtain ⟨sl, q⟩ := slot c o (I.cne x c e) hc nch ho (I.freeC x c e)
      exact ⟨_, q, hd⟩
    · exact ⟨o, keep c o (I.cne x c e) hc nch ho (I.freeC x c e), hd⟩
  refine ⟨I.ok, I.os, hg, ⟨fun b o e n hb hx => ?_, fun b o e n hb hx => ?_, fun b o e n hx => ?_, fun b o e hx => ?_, fun b xs e => tups b xs (I.base.tups b xs e), fun b o xs e => frzs b o xs (I.base.frzs b o xs e), fun b ps e => ?_⟩, ?_, fun x c e => ?_, ?_, fun x c e => ?_, fun p hp => ?_, hok, I.len⟩
  · exact keep b o (neL b o e) hb (neC b o e hx) (I.base.keep b o e n hb hx) (I.base.free b o e n hx)
  · obtain ⟨sl, e1⟩ := I.base.slot b o e n hb hx
    obtain ⟨sl', e2⟩ := slot b _ (neL b o e) hb (neC b o e hx) e1 (I.base.free b o e n hx)
    exact ⟨sl', e2⟩
  · obtain ⟨o', e1⟩ := I.base.there b o e hx
    exact free b o' (neC b o e hx) e1 (I.base.free b o e n hx)
  · obtain ⟨o', e1⟩ := I.base.there b o e hx
    exact there b o' (neC b o e hx) e1
  · obtain ⟨m1, e1⟩ := I.base.tbls b ps e
    obtain ⟨m2, e2⟩ := tbls b _ e1
    exact ⟨m1 ++ m2, by rw [e2, Array.append_assoc]⟩
  · obtain ⟨m, hn, hl⟩ := I.loc
    refine ⟨m, ns m hn, fun i x v e1 e2 e3 => ?_⟩
    obtain ⟨u, r, l⟩ := hl i x v e1 e2 e3
    refine ⟨u, r, ?_⟩
    rcases l with l | ⟨k, c, e, z⟩
    · exact .inl l
    · exact .inr ⟨k, c, e, cellK x c e _ z⟩
  · obtain ⟨v, z⟩ := I.cell x c e
    exact ⟨v, cellK x c e v z⟩
  · obtain ⟨m, ⟨o, _, _, ho, _⟩, _⟩ := I.loc
    exact free _ o (fun z => (hch _ z).2.1 rfl) ho I.free
  · obtain ⟨v, o, ho, hd⟩ := I.cell x c e
    exact free c o (fun z => (hch c z).2.2.1 x c e rfl) ho (I.freeC x c e)
  · obtain ⟨e, n, ne, nf, d⟩ := I.pin p hp
    have nch : p.1 ∉ ch := fun z => (hch p.1 z).2.2.2 p hp rfl
    exact ⟨keep p.1 p.2 ne nf nch e n, free p.1 p.2 nch e n, ne, nf, d⟩
theorem Inv.un {t' : Nat} (I : Inv X pins σ H s) (u : Un X.fs [] H H' s.heap h') (hok : HOk X.prog X.w H' h') : Inv X pins σ H' { s with heap := h', toks := t' } := by
  obtain ⟨m, ⟨o, es, ep, ho, r⟩, _⟩ := id I.loc
  obtain ⟨sl, hL⟩ := u.any ho I.free (by simp)
  exact I.step (g' := s.gens) (d' := s.drawn) (ch := []) (fun _ z => nomatch z) (fun b o _ hb _ e n => u.keep b o e n hb (by simp)) (fun b o _ hb _ e n => u.slot b o e n hb (by simp)) (fun b o _ e n => u.free b o e n (by simp)) (fun b o _ e => u.there b o e (by simp)) u.tups u.frzs u.tbls (fun m' hm => by
    obtain ⟨o', es', ep', ho', r'⟩ := hm
    rw [ho] at ho'; cases ho'
    exact ⟨_, es', ep', hL, r'⟩) hok I.bare
theorem Inv.call {g' : Array GenState} {t' : Nat} {d' : Drawn} {ch : List Addr} (I : Inv X pins σ H s) (u : Un (frs X.stack) ch H H' s.heap h') (hok : HOk X.prog X.w H' h') (hg : AllBare g')
    (hch : ∀ b ∈ ch, (b ∈ X.ex ∨ X.s₀.heap.objs.size ≤ b) ∧ b ≠ X.env.locals ∧ (∀ x c, X.env.cells.lookup x = some c → c ≠ b) ∧ ∀ p ∈ X.pn ++ pins, p.1 ≠ b) :
    Inv X pins σ H' { s with heap := h', gens := g', drawn := d', toks := t' } := by
  obtain ⟨m, ⟨o, es, ep, ho, r⟩, _⟩ := id I.loc
  obtain ⟨sl, hL⟩ := u.any ho I.free fun z => (hch _ z).2.1 rfl
  exact I.step (ch := ch) hch (fun b o hL hb hc e n => u.keep b o e n (fun z => (List.mem_cons.mp (I.stkSub b z)).elim hL hb) hc) (fun b o _ _ hc e n => u.any e n hc) (fun b o hc e n => u.free b o e n hc) (fun b o hc e => u.there b o e hc) u.tups u.frzs u.tbls (fun m' hm => by
    obtain ⟨o', es', ep', ho', r'⟩ := hm
    rw [ho] at ho'; cases ho'
    exact ⟨_, es', ep', hL, r'⟩) hok hg
theorem Inv.turned {t' : Nat} {it : Addr} (I : Inv X pins σ H s) (k : ∀ b o, b ≠ it → s.heap.get? b = some o → h'.get? b = some o) (hn : H it = none) (hL : it ≠ X.env.locals)
    (h1 : it ∈ X.ex ∨ X.s₀.heap.objs.size ≤ it) (h2 : ∀ x c, X.env.cells.lookup x = some c → c ≠ it) (h3 : ∀ p ∈ X.pn ++ pins, p.1 ≠ it) : Inv X pins σ H { s with heap := h', toks := t' } := by
  have nit : ∀ b u, H b = some u → b ≠ it := fun b u e z => by rw [z, hn] at e; cases e
  refine I.step (g' := s.gens) (d' := s.drawn) (ch := [it]) (fun b hb => ?_) (fun b o _ _ hc e _ => k b o (fun z => hc (by simp [z])) e) (fun b o _ _ hc e _ => ⟨o.slots, k b o (fun z => hc (by simp [z])) e⟩) (fun _ _ _ _ n => n)
    (fun b o hc e => ⟨o, k b o (fun z => hc (by simp [z])) e⟩) (fun _ _ e => e) (fun _ _ _ e => e) (fun b ps e => ⟨#[], by rw [e]; simp⟩) (fun m hm => ?_) (fun b u e => ?_) I.bare
  · have e : b = it := by simpa using hb
    subst e
    exact ⟨h1, hL, h2, h3⟩
  · obtain ⟨o, es, ep, ho, r⟩ := hm
    exact ⟨o, es, ep, k _ o (Ne.symm hL) ho, r⟩
  · refine (I.hok b u e).stay (fun c v hc q => k c v ?_ q) (fun _ q => q) fun _ _ q => q
    rcases hc with z | z
    · rw [z]; exact nit b u e
    · exact nit c _ z
theorem Inv.tok (I : Inv X pins σ H s) (t : Nat) : Inv X pins σ H { s with toks := t } := I.un (h' := s.heap) (t' := t) Un.refl I.hok
theorem Inv.kept {t' : Nat} (I : Inv X pins σ H s) (k : ∀ b u, s.heap.get? b = some u → h'.get? b = some u) : Inv X pins σ H { s with heap := h', toks := t' } := I.un (Un.kept k) (I.hok.kept k)
theorem Inv.laid {a : Addr} {o : HO} {t' : Nat} (I : Inv X pins σ H s) (k : ∀ b u, s.heap.get? b = some u → h'.get? b = some u) (hp : s.heap.objs.size ≤ a) (new : ObjOk X.prog X.w (upd H a o) h' a o) :
    Inv X pins σ (upd H a o) { s with heap := h', toks := t' } := I.un (Un.laid k hp (I.hok.fresh hp)) (I.hok.laid k hp new)
theorem Inv.write {x e : Addr} {o : HO} {t' : Nat} (I : Inv X pins σ H s) (mu : Mut (H x)) (he : e = x ∨ H e = some (.own x)) (k : ∀ b u, b ≠ e → s.heap.get? b = some u → h'.get? b = some u) (heo : ∃ u, h'.get? e = some u)
    (new : ObjOk X.prog X.w (upd H x o) h' x o) : Inv X pins σ (upd H x o) { s with heap := h', toks := t' } := I.un (Un.write mu he k heo) (I.hok.write mu he k heo new)
theorem Inv.weak {σ' : List (Option V)} (I : Inv X pins σ H s) (hl : σ'.length = σ.length) (w : ∀ (i : Nat) v, σ'[i]? = some (some v) → σ[i]? = some (some v)) : Inv X pins σ' H s :=
  ⟨I.ok, I.os, I.bare, I.base, let ⟨m, hn, hl'⟩ := I.loc; ⟨m, hn, fun i x v e1 e2 e3 => hl' i x v e1 (w i v e2) e3⟩, I.cell, I.free, I.freeC, I.pin, I.hok, hl.trans I.len⟩
theorem Inv.pins_of {pins' : List (Addr × Obj)} (I : Inv X pins σ H s) (h : ∀ p ∈ pins', s.heap.get? p.1 = some p.2 ∧ H p.1 = none ∧ p.1 ≠ X.env.locals ∧ p.1 ∉ X.fs ∧ ∀ v, p.2.data ≠ .cell v) : Inv X pins' σ H s :=
  ⟨I.ok, I.os, I.bare, I.base, I.loc, I.cell, I.free, I.freeC, fun p hp => (List.mem_append.mp hp).elim (fun z => I.pin p (List.mem_append_left _ z)) (h p), I.hok, I.len⟩

theorem nodup_ix {N : List Str} (hN : N.Nodup) {i j : Nat} {x : Str} (a : N[i]? = some x) (b : N[j]? = some x) : i = j := by
  obtain ⟨h1, e1⟩ := List.getElem?_eq_some_iff.mp a
  obtain ⟨h2, e2⟩ := List.getElem?_eq_some_iff.mp b
  exact (List.getElem_inj hN).mp (e1.trans e2.symm)

theorem store_ok2 {M : Model} {A : Around} {E : Value → Shared → Prop} {i : Nat} {x : Str} {v : V} {u : Value} {Q : Unit → Shared → Prop} (I : Inv X pins σ H s) (hN : X.N.Nodup) (hi : X.N[i]? = some x) (hx : Loc X.env.scope x) (r : RelV v u)
    (h : ∀ s', Inv X pins (σ.set i (some v)) H s' → (∃ a, Heap.SameBut a s.heap s'.heap ∧ (a = X.env.locals ∨ X.env.cells.lookup x = some a)) → Q () s') (hf : X.fn x = true ∨ X.env.scope.names.lookup x = some .local := by first | exact .inl rfl | exact .inr rfl | assumption) : wpAny M A (storeName X.env x u) Q E s := by
  obtain ⟨m, hn, hl⟩ := id I.loc
  have hcls : (X.env.scope.kind == .class || (X.env.scope.kind == .module && X.env.locals != X.env.globals)) = false := by rw [I.ok.kind]; rfl
  have hiσ : i < σ.length := by rw [I.len]; exact (List.getElem?_eq_some_iff.mp hi).1
  have cne := I.cne
  have tracked : ∀ {a : Addr} {h' : Heap}, (∃ o, s.heap.get? a = some o ∧ H a = none) → Heap.SameBut a s.heap h' → HOk X.prog X.w H h' := fun {a h'} ha hs b ob e => by
    obtain ⟨_, _, hfree⟩ := ha
    refine (I.hok b ob e).stay (fun c w' hc q => (hs.2 c ?_).trans q) (fun _ q => q) fun _ _ q => q
    rintro rfl
    rcases hc with rfl | hc
    · rw [hfree] at e; cases e
    · rw [hfree] at hc; cases hc
  rcases hx with hk | hk
  · refine wpAny_storeName_local hk hn (fun h' hn' hs => ?_) hcls
    obtain ⟨oL, _, _, hoL, _⟩ := id hn
    refine h _ ⟨I.ok, I.os, I.bare, ⟨fun b o e n hb hx => ?_, fun b o e n hb hx => ?_, I.base.free, fun b o e hx => ?_, I.base.tups, I.base.frzs, I.base.tbls⟩, ⟨_, hn', fun j y v' e1 e2 e3 => ?_⟩, fun y c e => ?_, I.free, I.freeC, fun p hp => ?_, tracked ⟨oL, hoL, I.free⟩ hs, by simpa using I.len⟩ ⟨_, hs, .inl rfl⟩
    · exact (hs.2 b (Nat.ne_of_lt (Nat.lt_of_lt_of_le (Heap.lt_size e) I.ok.above))).trans (I.base.keep b o e n hb hx)
    · obtain ⟨sl, e1⟩ := I.base.slot b o e n hb hx
      exact ⟨sl, (hs.2 b (Nat.ne_of_lt (Nat.lt_of_lt_of_le (Heap.lt_size e) I.ok.above))).trans e1⟩
    · obtain ⟨o', e1⟩ := I.base.there b o e hx
      exact ⟨o', (hs.2 b (Nat.ne_of_lt (Nat.lt_of_lt_of_le (Heap.lt_size e) I.ok.above))).trans e1⟩
    · by_cases hj : j = i
      · subst hj
        rw [hi] at e1; cases e1
        rw [List.getElem?_set_self hiσ] at e2
        cases e2
        exact ⟨u, r, .inl ⟨hk, by simp⟩⟩
      · rw [List.getElem?_set_ne (Ne.symm hj)] at e2
        obtain ⟨u', r', q⟩ := hl j y v' e1 e2 e3
        refine ⟨u', r', ?_⟩
        rcases q with ⟨k, e⟩ | ⟨k, c, e, z⟩
        · refine .inl ⟨k, ?_⟩
          have : y ≠ x := fun e => hj (nodup_ix hN e1 (e ▸ hi))
          simp [this, e]
        · exact .inr ⟨k, c, e, z.sameBut hs (cne y c e)⟩
    · obtain ⟨w', z⟩ := I.cell y c e
      exact ⟨w', z.sameBut hs (cne y c e)⟩
    · obtain ⟨e, n, ne, nf, d⟩ := I.pin p hp
      exact ⟨(hs.2 p.1 ne).trans e, n, ne, nf, d⟩
  · have hfn : X.fn x = true := by
      rcases hf with z | z
      · exact z
      · rw [z] at hk; cases hk
    obtain ⟨c, hc⟩ := I.ok.has x (.inl hk)
    obtain ⟨w', z⟩ := I.cell x c hc
    refine wpAny_storeName_cell I.ok.kind hk hc z (fun h' hc' hs => ?_)
    obtain ⟨oc, hoc, hocd⟩ := id z
    refine h { s with heap := h' } ⟨I.ok, I.os, I.bare, ⟨fun b o e n hb hx => ?_, fun b o e n hb hx => ?_, I.base.free, fun b o e hx => ?_, I.base.tups, I.base.frzs, I.base.tbls⟩, ⟨m, hn.sameBut hs (Ne.symm (cne x c hc)), fun j y v' e1 e2 e3 => ?_⟩, fun y c' e => ?_, I.free, I.freeC, fun p hp => ?_, tracked ⟨oc, hoc, I.freeC x c hc⟩ hs, by simpa using I.len⟩ ⟨c, hs, .inr hc⟩
    · exact (hs.2 b (Nat.ne_of_lt (Nat.lt_of_lt_of_le (Heap.lt_size e) (I.ok.cab x c hfn hc)))).trans (I.base.keep b o e n hb hx)
    · obtain ⟨sl, e1⟩ := I.base.slot b o e n hb hx
      exact ⟨sl, (hs.2 b (Nat.ne_of_lt (Nat.lt_of_lt_of_le (Heap.lt_size e) (I.ok.cab x c hfn hc)))).trans e1⟩
    · obtain ⟨o', e1⟩ := I.base.there b o e hx
      exact ⟨o', (hs.2 b (Nat.ne_of_lt (Nat.lt_of_lt_of_le (Heap.lt_size e) (I.ok.cab x c hfn hc)))).trans e1⟩
    · by_cases hj : j = i
      · subst hj
        rw [hi] at e1; cases e1
        rw [List.getElem?_set_self hiσ] at e2
        cases e2
        exact ⟨u, r, .inr ⟨.inl hk, c, hc, hc'⟩⟩
      · rw [List.getElem?_set_ne (Ne.symm hj)] at e2
        obtain ⟨u', r', q⟩ := hl j y v' e1 e2 e3
        refine ⟨u', r', ?_⟩
        rcases q with q | ⟨k, c', e, z'⟩
        · exact .inl q
        · refine .inr ⟨k, c', e, z'.sameBut hs ?_⟩
          rintro rfl
          exact hj (nodup_ix hN e1 (I.ok.inj _ _ _ e hc ▸ hi))
    · by_cases hcc : c' = c
      · subst hcc; exact ⟨_, hc'⟩
      · obtain ⟨w2, z2⟩ := I.cell y c' e
        exact ⟨w2, z2.sameBut hs hcc⟩
    · obtain ⟨e, n, ne, nf, d⟩ := I.pin p hp
      refine ⟨(hs.2 p.1 ?_).trans e, n, ne, nf, d⟩
      intro q
      rw [q, hoc] at e
      have q' : oc = p.2 := Option.some.inj e
      exact d w' (by rw [← q']; exact hocd)
theorem store_ok {M : Model} {A : Around} {E : Value → Shared → Prop} {i : Nat} {x : Str} {v : V} {u : Value} {Q : Unit → Shared → Prop} (I : Inv X pins σ H s) (hN : X.N.Nodup) (hi : X.N[i]? = some x) (hx : Loc X.env.scope x) (r : RelV v u)
    (h : ∀ s', Inv X pins (σ.set i (some v)) H s' → Q () s') (hf : X.fn x = true ∨ X.env.scope.names.lookup x = some .local := by first | exact .inl rfl | exact .inr rfl | assumption) : wpAny M A (storeName X.env x u) Q E s :=
  store_ok2 I hN hi hx r (fun s' I' _ => h s' I') hf
theorem Inv.call' {s' : Shared} {ch : List Addr} (I : Inv X pins σ H s) (ho : s'.os = s.os) (u : Un (frs X.stack) ch H H' s.heap s'.heap) (hok : HOk X.prog X.w H' s'.heap) (hg : AllBare s'.gens)
    (hch : ∀ b ∈ ch, (b ∈ X.ex ∨ X.s₀.heap.objs.size ≤ b) ∧ b ≠ X.env.locals ∧ (∀ x c, X.env.cells.lookup x = some c → c ≠ b) ∧ ∀ p ∈ X.pn ++ pins, p.1 ≠ b) : Inv X pins σ H' s' := by
  obtain ⟨h', g', d', t', o'⟩ := s'
  have e : o' = s.os := ho
  subst e
  exact I.call (g' := g') (t' := t') (d' := d') u hok hg hch
end

abbrev XK := Value → Option Addr → Hp → Prop
abbrev St := List (Option V)
abbrev VK := V → Hp → Prop
abbrev TE := St → Hp → VK → Prop
abbrev TT := St → Hp → (Bool → Hp → Prop) → Prop
abbrev TA := St → Hp → (List V → Hp → Prop) → Prop
structure Ends where
  nx : St → Hp → Prop
  rt : VK
  bk : St → Hp → Prop := fun _ _ => False
  ct : St → Hp → Prop := fun _ _ => False
abbrev TS := Ends → St → Hp → Prop

def EP (X : Cx) (pins : List (Addr × Obj)) (σ : St) (Q : VK) (u : Value) (s' : Shared) : Prop := ∃ v H', Inv X pins σ H' s' ∧ RelV v u ∧ Q v H'
def TP (X : Cx) (pins : List (Addr × Obj)) (σ : St) (Q : Bool → Hp → Prop) (b : Bool) (s' : Shared) : Prop := ∃ H', Inv X pins σ H' s' ∧ Q b H'
def AP (X : Cx) (pins : List (Addr × Obj)) (σ : St) (Q : List V → Hp → Prop) (us : List Value) (s' : Shared) : Prop := ∃ vs H', Inv X pins σ H' s' ∧ Vals vs us ∧ Q vs H'
def SP (X : Cx) (pins : List (Addr × Obj)) (D : Ends) (f : Flow) (s' : Shared) : Prop :=
  match f with
  | .next => ∃ σ' H', Inv X pins σ' H' s' ∧ D.nx σ' H'
  | .brk => ∃ σ' H', Inv X pins σ' H' s' ∧ D.bk σ' H'
  | .cont => ∃ σ' H', Inv X pins σ' H' s' ∧ D.ct σ' H'
  | .ret u => ∃ v σ' H', Inv X pins σ' H' s' ∧ RelV v u ∧ D.rt v H'

def PE (X : Cx) (e : Expr) (t : TE) : Prop :=
  ∀ (pins : List (Addr × Obj)) (s : Shared) (σ : St) (H : Hp) (Q : VK), Inv X pins σ H s → t σ H Q → wpAny (model X.prog X.w) X.A (eval e X.env) (EP X pins σ Q) X.xe s
def PT (X : Cx) (e : Expr) (t : TT) : Prop :=
  ∀ (pins : List (Addr × Obj)) (s : Shared) (σ : St) (H : Hp) (Q : Bool → Hp → Prop), Inv X pins σ H s → t σ H Q → wpAny (model X.prog X.w) X.A (isTrue e X.env (eval e X.env)) (TP X pins σ Q) X.xe s
def PW (X : Cx) (e : Expr) (t : TT) : Prop :=
  ∀ (whole : Sem Value) (pins : List (Addr × Obj)) (s : Shared) (σ : St) (H : Hp) (Q : Bool → Hp → Prop), Inv X pins σ H s → t σ H Q → wpAny (model X.prog X.w) X.A (isTrue e X.env whole) (TP X pins σ Q) X.xe s
theorem PW.pt {X : Cx} {e : Expr} {t : TT} (h : PW X e t) : PT X e t := h _
def PA (X : Cx) (es : List Expr) (t : TA) : Prop :=
  ∀ (pos : Pos) (pins : List (Addr × Obj)) (s : Shared) (σ : St) (H : Hp) (Q : List V → Hp → Prop), Inv X pins σ H s → t σ H Q → wpAny (model X.prog X.w) X.A (spliced (backTo pos (starEach es X.env))) (AP X pins σ Q) X.xe s
def PS (X : Cx) (st : Stmt) (t : TS) : Prop :=
  ∀ (pins : List (Addr × Obj)) (s : Shared) (σ : St) (H : Hp) (D : Ends), Inv X pins σ H s → t D σ H → wpAny (model X.prog X.w) X.A (exec st X.env) (SP X pins D) X.xe s
def PSs (X : Cx) (st : List Stmt) (t : TS) : Prop :=
  ∀ (pins : List (Addr × Obj)) (s : Shared) (σ : St) (H : Hp) (D : Ends), Inv X pins σ H s → t D σ H → wpAny (model X.prog X.w) X.A (execs st X.env) (SP X pins D) X.xe s
theorem thn {α : Type} {t : Sem α} {Q Q' : α → Shared → Prop} {M : Model} {A : Around} {E : Value → Shared → Prop} {s : Shared} (h : wpAny M A t Q E s) (hQ : ∀ a s, Q a s → Q' a s) : wpAny M A t Q' E s := wpAny_mono h hQ fun _ _ x => x
end L2

namespace L2
open PySem PySem.Spec PyProof.Rows
section
variable {X : Cx}

def tVar (i : Nat) : TE := fun σ H Q => ∃ v, σ[i]? = some (some v) ∧ Q v H
def tC (v : V) : TE := fun _ H Q => Q v H
theorem pe_var {i : Nat} {x : Str} {pos : Pos} (hN : X.N[i]? = some x) (hv : Vis X.env.scope x) (hd : (x == ("__debug__" : Str)) = false := by decide) (hcd : (x == ("__classdict__" : Str)) = false := by decide) : PE X (.Name x pos) (tVar i) := by
  intro pins s σ H Q I h
  obtain ⟨v, e, h⟩ := h
  obtain ⟨m, hn, hl⟩ := I.loc
  obtain ⟨u, r, l⟩ := hl i x v hN e hv
  have fin : EP X pins σ Q u s := ⟨v, H, I, r, h⟩
  rcases l with ⟨hk, hm⟩ | ⟨hk, c, hc, hcell⟩
  · exact wpAny_Name (wpAny_loadName_local I.ok.kind hk hn hm fin) hd
  · rcases hk with hk | hk
    · exact wpAny_Name (wpAny_loadName_cell I.ok.kind hk hc hcell fin) hd
    · exact wpAny_Name (wpAny_loadName_free I.ok.kind hk hc hcell fin hcd) hd
theorem pe_int {i j pos} : PE X (.Constant (.int i) j pos) (tC (.int i)) := fun _ _ _ H _ I h => wpAny_Constant_int ⟨.int i, H, I.tok _, ⟨_, rfl⟩, h⟩
theorem pe_bl {b j pos} : PE X (.Constant (.bool b) j pos) (tC (.bl b)) := fun _ _ _ H _ I h => Constant_bool ⟨.bl b, H, I, rfl, h⟩
theorem pe_str {x j pos} : PE X (.Constant (.str x) j pos) (tC (.str x)) := fun _ _ _ H _ I h => Calls.Constant_str ⟨.str x, H, I.tok _, ⟨_, rfl⟩, h⟩

def Gl (X : Cx) (x : Str) : Prop := X.env.kindOf x = some .globalImplicit
theorem ld_glob {E : Value → Shared → Prop} {pins : List (Addr × Obj)} {s : Shared} {σ : St} {H : Hp} {x : Str} {u : Value} {pos : Pos} {Q : Value → Shared → Prop} (I : Inv X pins σ H s) (hg : Gl X x) (hm : X.mg x = some u) (h : Q u s)
    (hd : (x == ("__debug__" : Str)) = false := by decide) : wpAny (model X.prog X.w) X.A (eval (.Name x pos) X.env) Q E s :=
  Calls.Name_function_global I.ok.kind hg (Calls.loadGlobal_global (by rw [I.ok.glob]; exact I.mod.glob.keeps I.bk) hm h) hd
theorem ld_blt {E : Value → Shared → Prop} {pins : List (Addr × Obj)} {s : Shared} {σ : St} {H : Hp} {x : Str} {u : Value} {pos : Pos} {Q : Value → Shared → Prop} (I : Inv X pins σ H s) (hg : Gl X x) (hm : X.mg x = none) (hv : bootBuiltins x = some u) (h : Q u s)
    (hn : x ≠ "__name__" := by decide) (hd : (x == ("__debug__" : Str)) = false := by decide) : wpAny (model X.prog X.w) X.A (eval (.Name x pos) X.env) Q E s := by
  obtain ⟨mb, h1, h2⟩ := I.mod.blt
  exact Calls.Name_function_global I.ok.kind hg (Calls.loadGlobal_builtin (by rw [I.ok.glob]; exact I.mod.glob.keeps I.bk) hm (by rw [I.ok.blt]; exact h1.keeps I.bk) ((h2 x hn).trans hv) h) hd
theorem pe_glob {x : Str} {v : V} {u : Value} {pos : Pos} (hg : Gl X x) (hm : X.mg x = some u) (r : RelV v u) (hd : (x == ("__debug__" : Str)) = false := by decide) : PE X (.Name x pos) (tC v) :=
  fun _ _ _ H _ I h => ld_glob I hg hm ⟨v, H, I, r, h⟩ hd
theorem pe_bltn {x : Str} {v : V} {u : Value} {pos : Pos} (hg : Gl X x) (hm : X.mg x = none) (hv : bootBuiltins x = some u) (r : RelV v u) (hn : x ≠ "__name__" := by decide) (hd : (x == ("__debug__" : Str)) = false := by decide) : PE X (.Name x pos) (tC v) :=
  fun _ _ _ H _ I h => ld_blt I hg hm hv ⟨v, H, I, r, h⟩ hn hd

variable {a b : Expr} {ta tb : TE} {pos : Pos}
def PC (X : Cx) (op : CmpOp) (a b : Expr) (t : TE) : Prop :=
  ∀ (pins : List (Addr × Obj)) (s : Shared) (σ : St) (H : Hp) (Q : VK), Inv X pins σ H s → t σ H Q →
    wpAny (model X.prog X.w) X.A (eval a X.env) (fun v s₁ => wpAny (model X.prog X.w) X.A (eval b X.env) (fun u s₂ => wpAny (model X.prog X.w) X.A (compareOp op v u) (EP X pins σ Q) X.xe s₂) X.xe s₁) X.xe s
def tB (t : TE) : TT := fun σ H Q => t σ H fun x H1 => ∃ c, x = .bl c ∧ Q c H1
theorem pe_cmp {op : CmpOp} {t : TE} (h : PC X op a b t) (h1 : behindInMarks op b = false := by first | exact nobehind _ (by decide) (by decide) | rfl) : PE X (.Compare a [op] [b] pos) t := fun pins s σ H Q I hw => wpAny_Compare1 (h pins s σ H Q I hw) h1
theorem pt_cmp {op : CmpOp} {t : TE} (h : PC X op a b t) (h1 : behindInMarks op b = false := by first | exact nobehind _ (by decide) (by decide) | rfl) : PT X (.Compare a [op] [b] pos) (tB t) := by
  intro pins s σ H Q I hw
  refine wpAny_isTrue_Compare1 (thn (h pins s σ H _ I hw) fun v s1 h1 => thn h1 fun u s2 h2 => thn h2 fun c s3 ⟨x, H1, I1, r1, q1⟩ => ?_) h1
  obtain ⟨d, rfl, q⟩ := q1
  cases r1
  exact wpAny_truthy_bool ⟨H1, I1, q⟩
theorem pt_val {e : Expr} {t : TE} (h : PE X e t) (he : ∀ whole, isTrue e X.env whole = (do let v ← whole; standAt e.pos; holding [v] (truthy v)) := by intro _; rfl) : PT X e (tB t) := by
  intro pins s σ H Q I hw
  refine isTrue_plain (thn (h pins s σ H _ I hw) fun v s1 ⟨x, H1, I1, r1, q1⟩ => ?_) (he _)
  obtain ⟨d, rfl, q⟩ := q1
  cases r1
  exact wpAny_truthy_bool ⟨H1, I1, q⟩

variable {tA tB' : TT} {rest : List Expr}
def tAnd (t u : TT) : TT := fun σ H Q => t σ H fun c H1 => if c = true then u σ H1 Q else Q false H1
def tOr (t u : TT) : TT := fun σ H Q => t σ H fun c H1 => if c = true then Q true H1 else u σ H1 Q
def tNot (t : TT) : TT := fun σ H Q => t σ H fun c H1 => Q (!c) H1
theorem pw_and1 (ha : PT X a tA) : PW X (.BoolOp .And [a] pos) tA := by
  intro wh pins s σ H Q I h
  refine isTrue_and (thn (ha pins s σ H Q I h) fun c s1 e => ?_)
  cases c with
  | true => exact isTrue_and_nil e
  | false => exact e
theorem pw_or1 (ha : PT X a tA) : PW X (.BoolOp .Or [a] pos) tA := by
  intro wh pins s σ H Q I h
  refine isTrue_or (thn (ha pins s σ H Q I h) fun c s1 e => ?_)
  cases c with
  | false => exact isTrue_or_nil e
  | true => exact e
theorem pw_and (ha : PT X a tA) (hb : PW X (.BoolOp .And (b :: rest) pos) tB') : PW X (.BoolOp .And (a :: b :: rest) pos) (tAnd tA tB') := by
  intro wh pins s σ H Q I h
  refine isTrue_and (thn (ha pins s σ H _ I h) fun c s1 ⟨H1, I1, q1⟩ => ?_)
  cases c with
  | true => exact hb wh pins s1 σ H1 Q I1 q1
  | false => exact ⟨H1, I1, q1⟩
theorem pw_or (ha : PT X a tA) (hb : PW X (.BoolOp .Or (b :: rest) pos) tB') : PW X (.BoolOp .Or (a :: b :: rest) pos) (tOr tA tB') := by
  intro wh pins s σ H Q I h
  refine isTrue_or (thn (ha pins s σ H _ I h) fun c s1 ⟨H1, I1, q1⟩ => ?_)
  cases c with
  | true => exact ⟨H1, I1, q1⟩
  | false => exact hb wh pins s1 σ H1 Q I1 q1
theorem pt_not (ha : PT X a tA) : PT X (.UnaryOp .Not a pos) (tNot tA) := by
  intro pins s σ H Q I h
  exact isTrue_not (ha pins s σ H (fun c H1 => Q (!c) H1) I h)
def tAndV (ta tb : TE) : TE := fun σ H Q => ta σ H fun x H1 => ∃ c, x = .bl c ∧ if c = true then tb σ H1 Q else Q (.bl false) H1
def tOrV (ta tb : TE) : TE := fun σ H Q => ta σ H fun x H1 => ∃ c, x = .bl c ∧ if c = true then Q (.bl true) H1 else tb σ H1 Q
def tNotV (ta : TE) : TE := fun σ H Q => ta σ H fun x H1 => ∃ c, x = .bl c ∧ Q (.bl (!c)) H1
theorem pe_one {op} {t : TE} (h : PE X a t) : PE X (.BoolOp op [a] pos) t := fun pins s σ H Q I hw => BoolOp_one (h pins s σ H Q I hw)
theorem pe_and (ha : PE X a ta) (hb : PE X (.BoolOp .And (b :: rest) pos) tb) : PE X (.BoolOp .And (a :: b :: rest) pos) (tAndV ta tb) := by
  intro pins s σ H Q I h
  refine BoolOp_and (thn (ha pins s σ H _ I h) fun v s1 ⟨x, H1, I1, r1, q1⟩ => ?_)
  obtain ⟨c, rfl, q1⟩ := q1
  cases r1
  refine wpAny_truthy_bool ?_
  cases c with
  | true => exact hb pins s1 σ H1 Q I1 q1
  | false => exact ⟨.bl false, H1, I1, rfl, q1⟩
theorem pe_or (ha : PE X a ta) (hb : PE X (.BoolOp .Or (b :: rest) pos) tb) : PE X (.BoolOp .Or (a :: b :: rest) pos) (tOrV ta tb) := by
  intro pins s σ H Q I h
  refine BoolOp_or (thn (ha pins s σ H _ I h) fun v s1 ⟨x, H1, I1, r1, q1⟩ => ?_)
  obtain ⟨c, rfl, q1⟩ := q1
  cases r1
  refine wpAny_truthy_bool ?_
  cases c with
  | false => exact hb pins s1 σ H1 Q I1 q1
  | true => exact ⟨.bl true, H1, I1, rfl, q1⟩
theorem pe_not (ha : PE X a ta) : PE X (.UnaryOp .Not a pos) (tNotV ta) := by
  intro pins s σ H Q I h
  refine UnaryOp_ (thn (ha pins s σ H _ I h) fun v s1 ⟨x, H1, I1, r1, q1⟩ => ?_)
  obtain ⟨c, rfl, q1⟩ := q1
  cases r1
  exact not_of (wpAny_truthy_bool ⟨.bl (!c), H1, I1, rfl, q1⟩)
end
end L2

namespace L2
open PySem PySem.Spec PyProof.Rows

def SqL (K : PySem.W.Frag) (H : Hp) (a : Addr) (xs : List V) : Prop :=
  Rd H a (.lst xs) ∨
    ∃ (o : Obj) (its : Array Value) (n : Nat), K.lookup a = some o ∧ o.cls = .type "list" ∧ o.dict = none ∧ o.data = .seq its n ∧ its.size ≤ sizeLine ∧ Vals xs its.toList
def SqT (K : PySem.W.Frag) (H : Hp) (a : Addr) (xs : List V) : Prop :=
  Rd H a (.tup xs) ∨
    ∃ (o : Obj) (its : Array Value) (n : Nat), K.lookup a = some o ∧ o.cls = .type "tuple" ∧ o.data = .seq its n ∧ its.size ≤ sizeLine ∧ Vals xs its.toList
def absV : Value → Option V
  | .none => some .non
  | .bool b => some (.bl b)
  | .int i _ => some (.int i)
  | .str x _ => some (.str x)
  | .bytes b _ => some (.byt b)
  | .float b _ => some (.flt b)
  | .ref a => some (.ref a)
  | .type n => some (.ty n)
  | _ => none
theorem RelV.abs {x : V} {u : Value} (r : RelV x u) : absV u = some x := by
  cases x with
  | non => cases r; rfl
  | bl _ => cases r; rfl
  | int _ => obtain ⟨t, rfl⟩ := r; rfl
  | str _ => obtain ⟨t, rfl⟩ := r; rfl
  | byt _ => obtain ⟨t, rfl⟩ := r; rfl
  | flt _ => obtain ⟨t, rfl⟩ := r; rfl
  | ref _ => cases r; rfl
  | ty _ => cases r; rfl
theorem RelV.inj {x y : V} {u : Value} (r : RelV x u) (q : RelV y u) : x = y := Option.some.inj (r.abs.symm.trans q.abs)
theorem Vals.inj : ∀ {xs ys : List V} {us : List Value}, Vals xs us → Vals ys us → xs = ys
  | _, _, _, .nil, .nil => rfl
  | _, _, _, .cons r t, .cons r' t' => by rw [r.inj r', Vals.inj t t']
section
variable {X : Cx} {pins : List (Addr × Obj)} {σ : St} {H : Hp} {s : Shared} {a : Addr} {xs ys : List V}
theorem SqL.of {K : PySem.W.Frag} (h : H a = some (.lst xs)) : SqL K H a xs := .inl (.inl h)
theorem SqT.of {K : PySem.W.Frag} (h : H a = some (.tup xs)) : SqT K H a xs := .inl (.inl h)
theorem Inv.list (I : Inv X pins σ H s) (h : SqL X.K H a xs) : ∃ its : List Value, Vals xs its ∧ PlainL s.heap a its.toArray ∧ xs.length ≤ sizeLine := by
  rcases h with h | ⟨o, its, n, hk, hc, hd, hs, hz, r⟩
  · obtain ⟨z, its, n, r, e⟩ := h.ok I.hok
    exact ⟨its, r, ⟨_, n, e, rfl, rfl, rfl⟩, z⟩
  · refine ⟨its.toList, r, ⟨o, n, I.kIn a o hk, hc, hd, by simpa using hs⟩, ?_⟩
    have e := r.length
    simp only [Array.length_toList] at e
    omega
theorem Inv.tuple (I : Inv X pins σ H s) (h : SqT X.K H a xs) : ∃ its : List Value, Vals xs its ∧ IsTup s.heap a its.toArray ∧ xs.length ≤ sizeLine := by
  rcases h with h | ⟨o, its, n, hk, hc, hs, hz, r⟩
  · obtain ⟨z, its, r, p⟩ := h.ok I.hok
    exact ⟨its, r, p, z⟩
  · refine ⟨its.toList, r, ⟨o, I.kIn a o hk, hc, n, by simpa using hs⟩, ?_⟩
    have e := r.length
    simp only [Array.length_toList] at e
    omega
theorem Inv.list_inj (I : Inv X pins σ H s) (h : SqL X.K H a xs) (h' : SqL X.K H a ys) : xs = ys := by
  obtain ⟨its, r, ⟨o, n, e, _, _, d⟩, _⟩ := I.list h
  obtain ⟨its', r', ⟨o', n', e', _, _, d'⟩, _⟩ := I.list h'
  rw [e] at e'; cases e'
  rw [d] at d'
  injection d' with d1 _
  have : its = its' := by simpa using congrArg Array.toList d1
  subst this
  exact r.inj r'
end

abbrev Cx.wish (X : Cx) (E : Value → Shared → Prop) : Cx := { X with xe := E }
abbrev Cx.nox (X : Cx) : Cx := X.wish fun _ _ => False
theorem Cx.Ok.wish {X : Cx} (ok : X.Ok) (E : Value → Shared → Prop) : (X.wish E).Ok :=
  ⟨ok.mod, ok.kind, ok.glob, ok.blt, ok.above, ok.inj, ok.has, ok.cab, ok.hd, ok.frames, ok.stk, ok.exf, ok.bs, ok.bsz, ok.noex, ok.exfs, ok.funs, ok.frf⟩
theorem Cx.Ok.unwish {X : Cx} {E : Value → Shared → Prop} (ok : (X.wish E).Ok) : X.Ok :=
  ⟨ok.mod, ok.kind, ok.glob, ok.blt, ok.above, ok.inj, ok.has, ok.cab, ok.hd, ok.frames, ok.stk, ok.exf, ok.bs, ok.bsz, ok.noex, ok.exfs, ok.funs, ok.frf⟩
section
variable {X : Cx} {pins : List (Addr × Obj)} {σ : St} {H : Hp} {s : Shared} {E : Value → Shared → Prop}
theorem Inv.wish (I : Inv X pins σ H s) (E : Value → Shared → Prop) : Inv (X.wish E) pins σ H s := ⟨I.ok.wish E, I.os, I.bare, I.base, I.loc, I.cell, I.free, I.freeC, I.pin, I.hok, I.len⟩
theorem Inv.unwish (I : Inv (X.wish E) pins σ H s) : Inv X pins σ H s := ⟨I.ok.unwish, I.os, I.bare, I.base, I.loc, I.cell, I.free, I.freeC, I.pin, I.hok, I.len⟩
theorem SP.unwish {D : Ends} {f : Flow} {s' : Shared} (h : SP (X.wish E) pins D f s') : SP X pins D f s' := by
  cases f with
  | next => obtain ⟨σ', H', I, q⟩ := h; exact ⟨σ', H', I.unwish, q⟩
  | brk => obtain ⟨σ', H', I, q⟩ := h; exact ⟨σ', H', I.unwish, q⟩
  | cont => obtain ⟨σ', H', I, q⟩ := h; exact ⟨σ', H', I.unwish, q⟩
  | ret u => obtain ⟨v, σ', H', I, r, q⟩ := h; exact ⟨v, σ', H', I.unwish, r, q⟩
theorem PSs.nox {st : List Stmt} {t : TS} (h : PSs X.nox st t) : PSs X st t := fun pins s σ H D I hw =>
  wpAny_mono (h pins s σ H D (I.wish _) hw) (fun _ _ q => q.unwish) fun _ _ z => False.elim z
end

section
variable {X : Cx} {st : Stmt} {rest : List Stmt} {t u : TS} {e : Expr} {te : TE} {pos : Pos}
def tNext : TS := fun D σ H => D.nx σ H
def tSeq (t u : TS) : TS := fun D σ H => t { D with nx := u D } σ H
theorem pss_nil : PSs X [] tNext := fun _ _ σ H _ I h => wpAny_execs_nil ⟨σ, H, I, h⟩
theorem pss_cons (h1 : PS X st t) (h2 : PSs X rest u) : PSs X (st :: rest) (tSeq t u) := by
  intro pins s σ H D I h
  refine wpAny_execs_cons (thn (h1 pins s σ H { D with nx := u D } I h) fun f s1 q => ?_)
  cases f with
  | next =>
    obtain ⟨σ', H', I', q⟩ := q
    exact h2 pins s1 σ' H' D I' q
  | ret v => exact q
  | brk => exact q
  | cont => exact q
theorem pss_one (h1 : PS X st t) : PSs X [st] t := by
  intro pins s σ H D I h
  refine wpAny_execs_cons (thn (h1 pins s σ H D I h) fun f s1 q => ?_)
  cases f with
  | next => exact wpAny_execs_nil q
  | ret v => exact q
  | brk => exact q
  | cont => exact q
theorem Inv.quiet {pins : List (Addr × Obj)} {σ : St} {H : Hp} {s : Shared} (I : Inv X pins σ H s) : interactive X.env = false := by simp [interactive, I.ok.kind]
def tDrop (te : TE) : TS := fun D σ H => te σ H fun _ H1 => D.nx σ H1
theorem ps_expr (he : PE X e te) (hs : swapsWith e none pos.line X.env = pure false := by rfl) : PS X (.Expr e pos) (tDrop te) := by
  intro pins s σ H D I h
  exact wpAny_Expr_any (thn (he pins s σ H _ I h) fun v s1 ⟨x, H1, I1, r1, q1⟩ => ⟨σ, H1, I1, q1⟩) I.quiet hs
def tRet (te : TE) : TS := fun D σ H => te σ H D.rt
theorem ps_ret (he : PE X e te) : PS X (.Return (some e) pos) (tRet te) := by
  intro pins s σ H D I h
  exact wpAny_Return_some (thn (he pins s σ H _ I h) fun v s1 ⟨x, H1, I1, r1, q1⟩ => ⟨x, σ, H1, I1, r1, q1⟩)
def tIfS (c : TT) (t u : TS) : TS := fun D σ H => c σ H fun b H1 => if b = true then t D σ H1 else u D σ H1
theorem ps_if {c : Expr} {a b : List Stmt} {tc : TT} (hc : PT X c tc) (ha : PSs X a t) (hb : PSs X b u) : PS X (.If c a b pos) (tIfS tc t u) := by
  intro pins s σ H D I h
  refine wpAny_If (thn (hc pins s σ H _ I h) fun d s1 ⟨H1, I1, q1⟩ => ?_)
  cases d with
  | true => exact ha pins s1 σ H1 D I1 q1
  | false => exact hb pins s1 σ H1 D I1 q1
end

abbrev TG := V → St → Hp → (St → Hp → Prop) → Prop
abbrev TGs := List V → St → Hp → (St → Hp → Prop) → Prop
def PG (X : Cx) (target : Expr) (t : TG) : Prop :=
  ∀ (pins : List (Addr × Obj)) (s : Shared) (σ : St) (H : Hp) (v : V) (u : Value) (Q : St → Hp → Prop), Inv X pins σ H s → RelV v u → t v σ H Q →
    wpAny (model X.prog X.w) X.A (assign target X.env u) (fun _ s' => ∃ σ' H', Inv X pins σ' H' s' ∧ Q σ' H') X.xe s
def PGs (X : Cx) (ts : List Expr) (t : TGs) : Prop :=
  ∀ (pins : List (Addr × Obj)) (s : Shared) (σ : St) (H : Hp) (vs : List V) (us : List Value) (Q : St → Hp → Prop), Inv X pins σ H s → Vals vs us → t vs σ H Q →
    wpAny (model X.prog X.w) X.A (assignInOrder ((assignEach ts X.env).map (·.2)) us) (fun _ s' => ∃ σ' H', Inv X pins σ' H' s' ∧ Q σ' H') X.xe s
section
variable {X : Cx} {pos : Pos}
def gName (i : Nat) : TG := fun v σ H Q => Q (σ.set i (some v)) H
theorem pg_name {i : Nat} {x : Str} (hN : X.N.Nodup) (hi : X.N[i]? = some x) (hx : Loc X.env.scope x) (hf : X.fn x = true ∨ X.env.scope.names.lookup x = some .local := by first | exact .inl rfl | exact .inr rfl | assumption) : PG X (.Name x pos) (gName i) := by
  intro pins s σ H v u Q I r h
  exact wpAny_assign_Name (store_ok I hN hi hx r (fun s' I' => ⟨_, H, I', h⟩) hf)
def gNil : TGs := fun vs σ H Q => vs = [] ∧ Q σ H
def gCons (t : TG) (u : TGs) : TGs := fun vs σ H Q => ∃ v r, vs = v :: r ∧ t v σ H fun σ' H' => u r σ' H' Q
theorem pgs_nil : PGs X [] gNil := by
  intro pins s σ H vs us Q I r h
  obtain ⟨e, h⟩ := h
  subst e
  cases r
  exact assignInOrder_nil ⟨σ, H, I, h⟩
theorem pgs_cons {e : Expr} {es : List Expr} {t : TG} {u : TGs} (h1 : PG X e t) (h2 : PGs X es u)
    (hs : (assignEach (e :: es) X.env).map (·.2) = assign e X.env :: (assignEach es X.env).map (·.2) := by rfl) : PGs X (e :: es) (gCons t u) := by
  intro pins s σ H vs us Q I r h
  obtain ⟨v, vr, e1, h⟩ := h
  subst e1
  cases r with
  | cons r rr =>
    rw [hs]
    refine assignInOrder_cons (thn (h1 pins s σ H _ _ _ I r h) fun _ s1 ⟨σ1, H1, I1, q1⟩ => ?_)
    exact h2 pins s1 σ1 H1 _ _ Q I1 rr q1
def gTup (K : PySem.W.Frag) (n : Nat) (t : TGs) : TG := fun v σ H Q => ∃ a xs, v = .ref a ∧ SqT K H a xs ∧ xs.length = n ∧ t xs σ H Q
theorem pg_tup {es : List Expr} {k : Nat} {t : TGs} {n : Nat} (hc : X.calm = true) (h : PGs X es t)
    (hn : (assignEach es X.env).length = n := by rfl) (hst : (assignEach es X.env).findIdx? (·.1) = none := by rfl) : PG X (.Tuple es k pos) (gTup X.K n t) := by
  intro pins s σ H v u Q I r hw
  obtain ⟨a, xs, e1, hq, hl, hw⟩ := hw
  subst e1
  cases r
  obtain ⟨its, rv, ht, hz⟩ := I.tuple hq
  refine assign_Tuple_tuple (I.ok.hd hc) ht (by simp [hn, ← hl, rv.length]) hst fun h' hx => ?_
  have I1 : Inv X pins σ H { s with heap := h' } := I.kept (t' := s.toks) fun b o e => hx b o (Nat.ne_of_lt (Heap.lt_size e)) e
  exact h pins _ σ H xs _ Q I1 (by simpa using rv) hw
def tAsg (te : TE) (g : TG) : TS := fun D σ H => te σ H fun x H1 => g x σ H1 D.nx
theorem ps_set {i : Nat} {x : Str} {e : Expr} {te : TE} {pos' : Pos} (hN : X.N.Nodup) (hi : X.N[i]? = some x) (hx : Loc X.env.scope x) (he : PE X e te) (hs : swapsWith e (some (.Name x pos')) pos.line X.env = pure false := by rfl) (hf : X.fn x = true ∨ X.env.scope.names.lookup x = some .local := by first | exact .inl rfl | exact .inr rfl | assumption) :
    PS X (.Assign [.Name x pos'] e pos) (tAsg te (gName i)) := by
  intro pins s σ H D I h
  refine wpAny_Assign_Name (thn (he pins s σ H _ I h) fun v s1 ⟨y, H1, I1, r1, q1⟩ => ?_) hs
  exact store_ok I1 hN hi hx r1 (fun s2 I2 => ⟨_, H1, I2, q1⟩) hf
end

section
variable {X : Cx} {pos : Pos}
def tWhile (c : TT) (tb : TS) : TS := fun D σ H => ∃ W : Nat → St → Hp → Prop, (∃ m, W m σ H) ∧ ∀ m σ H, W m σ H →
  c σ H fun b H1 => if b = true then ∃ N : St → Hp → Prop, (∀ σ' H', N σ' H' → ∃ m', m' < m ∧ W m' σ' H') ∧ tb { D with nx := N, ct := N, bk := D.nx } σ H1 else D.nx σ H1
theorem ps_while {c : Expr} {body : List Stmt} {tc : TT} {tb : TS} (hp : PassesOwn (model X.prog X.w) X.A X.env X.xe) (hc : PT X c tc) (hb : PSs X body tb) : PS X (.While c body [] pos) (tWhile tc tb) := by
  intro pins s σ H D I h
  obtain ⟨W, ⟨m0, w0⟩, turn⟩ := h
  refine wpAny_While (codeAny_whileLoop (fun n s' => ∃ σ' H', Inv X pins σ' H' s' ∧ W n σ' H') ?_ m0 ⟨σ, H, I, w0⟩)
  rintro n s1 ⟨σ1, H1, I1, w1⟩
  refine wpAny_passesOwn hp (thn (hc pins s1 σ1 H1 _ I1 (turn n σ1 H1 w1)) fun b s2 ⟨H2, I2, q2⟩ => ?_)
  cases b with
  | true =>
    obtain ⟨N, hN, q2⟩ := q2
    rw [if_pos rfl]
    refine wpAny_passesOwn hp (thn (hb pins s2 σ1 H2 _ I2 q2) fun f s3 q3 => ?_)
    cases f with
    | next =>
      obtain ⟨σ3, H3, I3, n3⟩ := q3
      obtain ⟨m', hm, w3⟩ := hN σ3 H3 n3
      exact ⟨m', hm, σ3, H3, I3, w3⟩
    | cont =>
      obtain ⟨σ3, H3, I3, n3⟩ := q3
      obtain ⟨m', hm, w3⟩ := hN σ3 H3 n3
      exact ⟨m', hm, σ3, H3, I3, w3⟩
    | brk => exact q3
    | ret v => exact q3
  | false =>
    rw [if_neg Bool.false_ne_true]
    exact wpAny_execs_nil ⟨σ1, H2, I2, q2⟩
end

structure It where
  go : Nat → Hp → Prop
  yld : Nat → Hp → V → Hp → Prop
  stop : Nat → Hp → Prop
def FpOk (X : Cx) (pins : List (Addr × Obj)) (H : Hp) (b : Addr) : Prop :=
  H b = none ∧ b ≠ X.env.locals ∧ b ∉ X.fs ∧ (b ∈ X.ex ∨ X.s₀.heap.objs.size ≤ b) ∧ (∀ x c, X.env.cells.lookup x = some c → c ≠ b) ∧ ∀ p ∈ X.pn ++ pins, p.1 ≠ b
theorem Inv.fpOk {X : Cx} {pins : List (Addr × Obj)} {σ : St} {H H' : Hp} {s : Shared} {b : Addr} (I : Inv X pins σ H s) (hb : s.heap.objs.size ≤ b) (hn : H' b = none) : FpOk X pins H' b := by
  refine ⟨hn, Nat.ne_of_gt (Nat.lt_of_lt_of_le I.lt hb), I.nofs hb, .inr (Nat.le_trans I.sz hb), fun x c e z => ?_, fun p hp z => ?_⟩
  · obtain ⟨v, q⟩ := I.cell x c e
    exact absurd (Nat.lt_of_lt_of_le q.lt (by rw [z]; exact hb)) (Nat.lt_irrefl _)
  · exact absurd (Nat.lt_of_lt_of_le (Heap.lt_size (I.pin p hp).1) (by rw [z]; exact hb)) (Nat.lt_irrefl _)
structure Turn (P : Program) (w : World) (K : PySem.W.Frag) (tg : Expr) (J : It) (fp : List Addr) (it : Addr) (tn : Nat → Heap → Prop) : Prop where
  mem : it ∈ fp
  obj : ∀ i h, tn i h → ∀ b ∈ fp, ∃ o, h.get? b = some o ∧ ∀ v, o.data ≠ .cell v
  keep : ∀ i h h', tn i h → (∀ b ∈ fp, ∀ o, h.get? b = some o → h'.get? b = some o) → tn i h'
  item : ∀ (X : Cx), X.prog = P → X.w = w → X.K = K → X.calm = true → ∀ (i : Nat) (pins : List (Addr × Obj)) (s : Shared) (σ : St) (H : Hp) (E : Value → Shared → Prop), Inv X pins σ H s → (∀ b ∈ fp, FpOk X pins H b) → tn i s.heap → J.go i H →
    wpAny (model P w) X.A (pyNext (.ref it)) (fun r s1 => ∃ u, r = some u ∧
      wpAny (model P w) X.A (letOwnedTupleGo tg (.ref it) u) (fun _ s2 => ∃ x H', Inv X pins σ H' s2 ∧ RelV x u ∧ J.yld i H x H' ∧ tn (i + 1) s2.heap ∧ ∀ b ∈ fp, H' b = none) E s1) E s
  done : ∀ (X : Cx), X.prog = P → X.w = w → X.K = K → X.calm = true → ∀ (i : Nat) (pins : List (Addr × Obj)) (s : Shared) (σ : St) (H : Hp) (E : Value → Shared → Prop), Inv X pins σ H s → (∀ b ∈ fp, FpOk X pins H b) → tn i s.heap → J.stop i H →
    wpAny (model P w) X.A (pyNext (.ref it)) (fun r s1 => r = none ∧ Inv X pins σ H s1) E s
  self : ∀ (A : Around) (i : Nat) (s : Shared) (Q : Value → Shared → Prop) (E : Value → Shared → Prop), tn i s.heap → Q (.ref it) s → wpAny (model P w) A (pyIter (.ref it)) Q E s
abbrev TI := St → Hp → (It → Hp → Prop) → Prop
def PIE (X : Cx) (pins : List (Addr × Obj)) (σ : St) (tg : Expr) (R : It → Hp → Prop) (itv : Value) (s2 : Shared) : Prop :=
  ∃ (it : Addr) (fp : List Addr) (tn : Nat → Heap → Prop) (J : It) (H' : Hp), itv = .ref it ∧ Inv X pins σ H' s2 ∧ Turn X.prog X.w X.K tg J fp it tn ∧ tn 0 s2.heap ∧ (∀ b ∈ fp, FpOk X pins H' b) ∧ R J H'
def PI (X : Cx) (tg iter : Expr) (wi : TI) : Prop :=
  ∀ (pins : List (Addr × Obj)) (s : Shared) (σ : St) (H : Hp) (R : It → Hp → Prop), Inv X pins σ H s → wi σ H R →
    wpAny (model X.prog X.w) X.A (eval iter X.env) (fun v s1 => wpAny (model X.prog X.w) X.A (pyIter v) (PIE X pins σ tg R) X.xe s1) X.xe s

theorem go_of {M : Model} {A : Around} {E : Value → Shared → Prop} {s : Shared} {tg : Expr} {it : Addr} {u : Value} {o : Obj} {n : String} {vs : Array Value} {Q : Unit → Shared → Prop} (ho : s.heap.get? it = some o) (hc : o.cls = .type n) (hd : o.data = .fields vs)
    (hn : ["enumerate", "zip", "dict_itemiterator", "dict_reverseitemiterator", "odict_iterator", "itertools.zip_longest", "itertools.pairwise"].contains n = false) (hQ : Q () s) : wpAny M A (letOwnedTupleGo tg (.ref it) u) Q E s := by
  unfold letOwnedTupleGo
  cases tg <;> first
    | exact wpAny_pure hQ
    | (cases u <;> first
        | exact wpAny_pure hQ
        | (refine wpAny_bind (wpAny_load ho ?_)
           rw [hc, hd]
           show wpAny M A (if (["enumerate", "zip", "dict_itemiterator", "dict_reverseitemiterator", "odict_iterator", "itertools.zip_longest", "itertools.pairwise"].contains n && vs[0]? == some (rawInt _)) = true then _ else _) Q E s
           rw [if_neg (by intro h; rw [hn, Bool.false_and] at h; cases h)]
           exact wpAny_pure hQ))

def Itl (K : PySem.W.Frag) (a : Addr) : It :=
  ⟨fun i H => ∃ xs x, SqL K H a xs ∧ xs[i]? = some x, fun i H x H' => H' = H ∧ ∀ xs, SqL K H a xs → xs[i]? = some x, fun i H => ∃ xs, SqL K H a xs ∧ xs.length ≤ i⟩
def Itr (lo : Int) (n : Nat) : It := ⟨fun i _ => i < n, fun i H x H' => H' = H ∧ x = .int (lo + i), fun i _ => n ≤ i⟩
theorem turn_list {P : Program} {w : World} {K : PySem.W.Frag} {tg : Expr} (a it : Addr) : Turn P w K tg (Itl K a) [it] it (fun i h => h.IsListIter it a i) where
  mem := by simp
  obj := fun i h st b hb => by
    have e : b = it := by simpa using hb
    subst e
    obtain ⟨o, e, c, d⟩ := st
    exact ⟨o, e, fun v z => by rw [d] at z; cases z⟩
  keep := fun i h h' st k => st.at fun o e => k it (by simp) o e
  item := by
    intro X hP hw hK hc i pins s σ H E I hf st hg
    subst hP hw hK
    obtain ⟨xs, x, hq, hx⟩ := hg
    obtain ⟨its, rv, p, hz⟩ := I.list hq
    obtain ⟨u, hu, ru⟩ := rv.get hx
    obtain ⟨f0, f1, f2, f3, f4, f5⟩ := hf it (by simp)
    refine wpAny_pyNext_list_item st p.isList (x := u) (by simpa using hu) fun h' st' sb => ?_
    have I1 : Inv X pins σ H { s with heap := h' } := I.turned (t' := s.toks) (fun b o hb e => (sb.2 b hb).trans e) f0 f1 f3 f4 f5
    obtain ⟨o, e, c, d⟩ := id st'
    exact ⟨u, rfl, go_of (s := { s with heap := h' }) e c d (by decide) ⟨x, H, I1, ru, ⟨rfl, fun ys hy => by rw [I.list_inj hy hq]; exact hx⟩, st', fun b hb => (hf b hb).1⟩⟩
  done := by
    intro X hP hw hK hc i pins s σ H E I hf st hg
    subst hP hw hK
    obtain ⟨xs, hq, hx⟩ := hg
    obtain ⟨its, rv, p, hz⟩ := I.list hq
    obtain ⟨f0, f1, f2, f3, f4, f5⟩ := hf it (by simp)
    have hl := rv.length
    exact wpAny_pyNext_list_end (I.ok.hd hc) st p.isList (by simp; omega) fun h' eb => ⟨rfl, I.turned (t' := s.toks) (fun b o hb e => eb b o hb e) f0 f1 f3 f4 f5⟩
  self := fun _ _ _ _ _ st h => wpAny_pyIter_listiter st h
theorem turn_range {P : Program} {w : World} {K : PySem.W.Frag} {tg : Expr} (it : Addr) (lo : Int) (n : Nat) : Turn P w K tg (Itr lo n) [it] it (fun i h => IsRangeIter h it (lo + (i : Nat) * 1) ((n : Int) - (i : Nat)) 1) where
  mem := by simp
  obj := fun i h st b hb => by
    have e : b = it := by simpa using hb
    subst e
    exact ⟨_, st, fun v z => by
      have z' : Data.fields _ = Data.cell v := z
      cases z'⟩
  keep := fun i h h' st k => k it (by simp) _ st
  item := by
    intro X hP hw hK hc i pins s σ H E I hf st hg
    subst hP hw hK
    obtain ⟨f0, f1, f2, f3, f4, f5⟩ := hf it (by simp)
    have W := Walks.range (prog := X.prog) (w := X.w) (I.ok.hd hc) it lo 1 n
    refine W.item i s _ _ hg st fun v h' tk hv st' kk => ?_
    obtain ⟨t, rfl⟩ := hv
    have I1 : Inv X pins σ H { s with heap := h', toks := tk } := I.turned (fun b o hb e => kk b o (by simpa using hb) e) f0 f1 f3 f4 f5
    refine ⟨_, rfl, go_of (s := { s with heap := h', toks := tk }) (n := "range_iterator") st' rfl rfl (by decide) ⟨.int (lo + i), H, I1, ⟨t, ?_⟩, ⟨rfl, rfl⟩, st', fun b hb => (hf b hb).1⟩⟩
    rw [Int.mul_one]
  done := by
    intro X hP hw hK hc i pins s σ H E I hf st hg
    subst hP hw hK
    obtain ⟨f0, f1, f2, f3, f4, f5⟩ := hf it (by simp)
    exact wpAny_pyNext_range_end (I.ok.hd hc) st (by have : n ≤ i := hg; omega) fun h' eb => ⟨rfl, I.turned (t' := s.toks) (fun b o hb e => eb b o hb e) f0 f1 f3 f4 f5⟩
  self := fun _ _ _ _ _ st h => wpAny_pyIter_rangeiter st h
end L2

namespace L2
open PySem PySem.Spec PyProof.Rows
section
variable {X : Cx} {tg : Expr}
def iList (K : PySem.W.Frag) (tl : TE) : TI := fun σ H R => tl σ H fun x H1 => ∃ a, x = .ref a ∧ (∃ xs, SqL K H1 a xs) ∧ R (Itl K a) H1
theorem pi_list {l : Expr} {tl : TE} (hl : PE X l tl) : PI X tg l (iList X.K tl) := by
  intro pins s σ H R I h
  refine thn (hl pins s σ H _ I h) fun v s1 ⟨x, H1, I1, r1, q1⟩ => ?_
  obtain ⟨a, e, ⟨xs, hq⟩, q⟩ := q1
  subst e
  cases r1
  obtain ⟨its, rv, p, hz⟩ := I1.list hq
  refine wpAny_pyIter_list p.isList ?_
  refine ⟨s1.heap.objs.size, [s1.heap.objs.size], _, _, H1, rfl, I1.kept (t' := s1.toks) fun b o e => Heap.get?_push_of_some _ e, turn_list a _, ⟨_, Heap.get?_push_size _ rfl, rfl, rfl⟩, fun b hb => ?_, q⟩
  have e : b = s1.heap.objs.size := by simpa using hb
  subst e
  exact I1.fpOk (Nat.le_refl _) (I1.hok.fresh (Nat.le_refl _))
theorem range_it {pins : List (Addr × Obj)} {σ : St} {H : Hp} {s : Shared} {R : It → Hp → Prop} {E : Value → Shared → Prop} {lo hi : Int} {t u v : Tok} {tk : Nat} (I : Inv X pins σ H s) (h1 : -(2 ^ 62) ≤ lo) (h2 : lo < 2 ^ 62) (h3 : -(2 ^ 62) ≤ hi) (h4 : hi < 2 ^ 62)
    (q : R (Itr lo (hi - lo).toNat) H) : wpAny (model X.prog X.w) X.A (pyIter (.ref s.heap.objs.size)) (PIE X pins σ tg R) E { s with heap := s.heap.push { cls := .type "range", data := .fields #[.int lo t, .int hi u, .int 1 v] }, toks := tk } := by
  refine wpAny_pyIter_range (IsRange.new ..) (small_one h1 h2 h3 h4) ?_
  have I1 : Inv X pins σ H { s with heap := s.heap.push { cls := .type "range", data := .fields #[.int lo t, .int hi u, .int 1 v] }, toks := tk } := I.kept fun b o e => Heap.get?_push_of_some _ e
  refine ⟨(s.heap.push { cls := .type "range", data := .fields #[.int lo t, .int hi u, .int 1 v] }).objs.size, [(s.heap.push { cls := .type "range", data := .fields #[.int lo t, .int hi u, .int 1 v] }).objs.size], _, _, H, rfl,
    I1.kept (t' := tk) fun b o e => Heap.get?_push_of_some _ e, turn_range _ lo (hi - lo).toNat, ?_, fun b hb => ?_, q⟩
  · have e1 : lo + ((0 : Nat) : Int) * 1 = lo := by simp
    have e2 : (((hi - lo).toNat : Nat) : Int) - ((0 : Nat) : Int) = Builtin.Range.rangeSize lo hi 1 := by rw [rangeSize_one]; split <;> omega
    show IsRangeIter _ _ (lo + ((0 : Nat) : Int) * 1) ((((hi - lo).toNat : Nat) : Int) - ((0 : Nat) : Int)) 1
    rw [e1, e2]
    exact Heap.get?_push_size _ rfl
  · have e : b = (s.heap.push { cls := .type "range", data := .fields #[.int lo t, .int hi u, .int 1 v] }).objs.size := by simpa using hb
    subst e
    exact I1.fpOk (Nat.le_refl _) (I1.hok.fresh (Nat.le_refl _))
def iRng1 (ta : TA) : TI := fun σ H R => ta σ H fun vs H1 => ∃ j : Int, vs = [.int j] ∧ -(2 ^ 62) ≤ j ∧ j < 2 ^ 62 ∧ R (Itr 0 j.toNat) H1
theorem pi_range1 {a : Expr} {ta : TA} {p pos : Pos} (hg : Gl X "range") (hm : X.mg "range" = none) (ha : PA X [a] ta) (hs : starEach [a] X.env = [(false, eval a X.env)] := by rfl) : PI X tg (.Call (.Name "range" p) [a] [] pos) (iRng1 ta) := by
  intro pins s σ H R I h
  refine Call_ (ld_blt I hg hm boot_range (PyProof.Rows.callWith_type1 (thn (ha pos pins s σ H _ I h) fun us s1 ⟨vs, H1, I1, r1, q1⟩ => ?_) hs rfl))
  obtain ⟨j, e, q1, q2, q⟩ := q1
  subst e
  cases r1 with
  | cons r rr =>
    cases rr
    obtain ⟨t, rfl⟩ := r
    exact call_range_1 (range_it I1 (by omega) (by omega) q1 q2 (by simpa using q))
def tFor (wi : TI) (g : TG) (tb : TS) : TS := fun D σ H => wi σ H fun J H1 => ∃ W : Nat → Nat → St → Hp → Prop, (∃ m, W 0 m σ H1) ∧ ∀ i m σ H, W i m σ H →
  (J.stop i H ∧ D.nx σ H) ∨ (J.go i H ∧ ∃ N : St → Hp → Prop, (∀ σ' H', N σ' H' → ∃ m', m' < m ∧ W (i + 1) m' σ' H') ∧ ∀ x H', J.yld i H x H' → g x σ H' fun σ2 H2 => tb { D with nx := N, ct := N, bk := D.nx } σ2 H2)
def pinsAt (fp : List Addr) (h : Heap) : List (Addr × Obj) := fp.filterMap fun b => (h.get? b).map fun o => (b, o)
theorem mem_pinsAt {fp : List Addr} {h : Heap} {b : Addr} {o : Obj} (hb : b ∈ fp) (e : h.get? b = some o) : (b, o) ∈ pinsAt fp h := List.mem_filterMap.mpr ⟨b, hb, by rw [e]; rfl⟩
theorem of_pinsAt {fp : List Addr} {h : Heap} {p : Addr × Obj} (hp : p ∈ pinsAt fp h) : p.1 ∈ fp ∧ h.get? p.1 = some p.2 := by
  obtain ⟨b, hb, e⟩ := List.mem_filterMap.mp hp
  cases q : h.get? b with
  | none => rw [q] at e; cases e
  | some o =>
    rw [q] at e
    have e' : (b, o) = p := Option.some.inj e
    subst e'
    exact ⟨hb, q⟩
theorem Inv.pinned {pins : List (Addr × Obj)} {σ : St} {H : Hp} {s : Shared} {fp : List Addr} (I : Inv X pins σ H s) (hf : ∀ b ∈ fp, FpOk X pins H b) (ho : ∀ b ∈ fp, ∃ o, s.heap.get? b = some o ∧ ∀ v, o.data ≠ .cell v) : Inv X (pins ++ pinsAt fp s.heap) σ H s :=
  I.pins_of fun p hp => (List.mem_append.mp hp).elim (fun z => I.pin p (List.mem_append_right _ z)) fun z => by
    obtain ⟨hb, e⟩ := of_pinsAt z
    obtain ⟨f0, f1, f2, _⟩ := hf p.1 hb
    obtain ⟨o, e', d⟩ := ho p.1 hb
    rw [e] at e'; cases e'
    exact ⟨e, f0, f1, f2, d⟩
theorem Inv.unpinned {pins pl : List (Addr × Obj)} {σ : St} {H : Hp} {s : Shared} (I : Inv X (pins ++ pl) σ H s) : Inv X pins σ H s := I.pins_of fun p hp => I.pin p (List.mem_append_right _ (List.mem_append_left _ hp))
theorem ps_for {iter : Expr} {body : List Stmt} {wi : TI} {g : TG} {tb : TS} {pos : Pos} (hp : PassesOwn (model X.prog X.w) X.A X.env X.xe) (hc : X.calm = true) (hi : PI X tg iter wi) (hg : PG X tg g) (hb : PSs X body tb)
    (hs : ∀ x, foldedSetIterable iter X.env x = pure x := by intro _; rfl) : PS X (.For tg iter body [] pos) (tFor wi g tb) := by
  intro pins s σ H D I h
  refine wpAny_For (thn (hi pins s σ H _ I h) fun v s1 h1 => thn h1 fun itv s2 h2 => ?_) hs
  obtain ⟨it, fp, tn, J, H2, e, I2, T, st2, f2, W, ⟨m0, w0⟩, turn⟩ := h2
  subst e
  -- what stays true of the iterator's objects through the loop
  have stat : ∀ {H' : Hp}, (∀ b ∈ fp, H' b = none) → ∀ b ∈ fp, FpOk X pins H' b := fun hn b hb => ⟨hn b hb, (f2 b hb).2⟩
  refine codeAny_forLoop_any (fun n s' => ∃ i σ' H', Inv X pins σ' H' s' ∧ tn i s'.heap ∧ (∀ b ∈ fp, H' b = none) ∧ W i n σ' H') ?_ m0 ⟨0, σ, H2, I2, st2, fun b hb => (f2 b hb).1, w0⟩
  rintro n s3 ⟨i, σ3, H3, I3, st3, fr3, w3⟩
  rcases turn i n σ3 H3 w3 with ⟨stop, qn⟩ | ⟨go, N, hN, step⟩
  · refine wpAny_passesOwn hp (thn (T.done X rfl rfl rfl hc i pins s3 σ3 H3 X.xe I3 (stat fr3) st3 stop) fun r s4 ⟨hr, I4⟩ => ?_)
    subst hr
    exact wpAny_execs_nil ⟨σ3, H3, I4, qn⟩
  · refine wpAny_passesOwn hp (thn (T.item X rfl rfl rfl hc i pins s3 σ3 H3 X.xe I3 (stat fr3) st3 go) fun r s4 ⟨u, hr, h4⟩ => ?_)
    subst hr
    refine wpAny_passesOwn hp (thn h4 fun _ s5 ⟨x, H5, I5, r5, y5, st5, fr5⟩ => ?_)
    have I5' := I5.pinned (stat fr5) (T.obj _ _ st5)
    refine wpAny_passesOwn hp (thn (hg _ s5 σ3 H5 x u _ I5' r5 (step x H5 y5)) fun _ s6 ⟨σ6, H6, I6, q6⟩ => ?_)
    refine wpAny_passesOwn hp (thn (hb _ s6 σ6 H6 _ I6 q6) fun f s7 q7 => ?_)
    have again : ∀ {σ7 : St} {H7 : Hp}, Inv X (pins ++ pinsAt fp s5.heap) σ7 H7 s7 → N σ7 H7 → ∃ m, m < n ∧ ∃ i σ' H', Inv X pins σ' H' s7 ∧ tn i s7.heap ∧ (∀ b ∈ fp, H' b = none) ∧ W i m σ' H' := fun {σ7 H7} I7 n7 => by
      obtain ⟨m', hm, w7⟩ := hN σ7 H7 n7
      refine ⟨m', hm, i + 1, σ7, H7, I7.unpinned, T.keep _ _ _ st5 fun b hb o e => (I7.pin (b, o) (List.mem_append_right _ (List.mem_append_right _ (mem_pinsAt hb e)))).1, fun b hb => ?_, w7⟩
      obtain ⟨o, e, d⟩ := T.obj _ _ st5 b hb
      exact (I7.pin (b, o) (List.mem_append_right _ (List.mem_append_right _ (mem_pinsAt hb e)))).2.1
    cases f with
    | next => obtain ⟨σ7, H7, I7, n7⟩ := q7; exact again I7 n7
    | cont => obtain ⟨σ7, H7, I7, n7⟩ := q7; exact again I7 n7
    | brk => obtain ⟨σ7, H7, I7, q7⟩ := q7; exact ⟨σ7, H7, I7.unpinned, q7⟩
    | ret v => obtain ⟨x7, σ7, H7, I7, r7, q7⟩ := q7; exact ⟨x7, σ7, H7, I7.unpinned, r7, q7⟩
end

end L2

namespace L2
open PySem PySem.Spec PyProof.Rows

abbrev R2 := V → V → Hp → VK → Prop
def OpR (X : Cx) (f : Value → Value → Sem Value) (r : R2) : Prop :=
  ∀ (pins : List (Addr × Obj)) (s : Shared) (σ : St) (H : Hp) (x y : V) (v u : Value) (Q : VK), Inv X pins σ H s → RelV x v → RelV y u → r x y H Q →
    wpAny (model X.prog X.w) X.A (f v u) (EP X pins σ Q) X.xe s
def UnR (X : Cx) (f : Value → Sem Value) (r : V → Hp → VK → Prop) : Prop :=
  ∀ (pins : List (Addr × Obj)) (s : Shared) (σ : St) (H : Hp) (x : V) (v : Value) (Q : VK), Inv X pins σ H s → RelV x v → r x H Q →
    wpAny (model X.prog X.w) X.A (f v) (EP X pins σ Q) X.xe s
def CallR (X : Cx) (f : Value) (r : List V → Hp → VK → Prop) : Prop :=
  ∀ (pins : List (Addr × Obj)) (s : Shared) (σ : St) (H : Hp) (xs : List V) (us : List Value) (Q : VK), Inv X pins σ H s → Vals xs us → r xs H Q →
    wpAny (model X.prog X.w) X.A (call f us) (EP X pins σ Q) X.xe s
def tOp (r : R2) (ta tb : TE) : TE := fun σ H Q => ta σ H fun x H1 => tb σ H1 fun y H2 => r x y H2 Q
def tUn (r : V → Hp → VK → Prop) (ta : TE) : TE := fun σ H Q => ta σ H fun x H1 => r x H1 Q
def rI (C : Int → Int → Prop) (g : Int → Int → V) : R2 := fun x y H Q => ∃ i j, x = .int i ∧ y = .int j ∧ C i j ∧ Q (g i j) H
def rI0 (g : Int → Int → V) : R2 := fun x y H Q => ∃ i j, x = .int i ∧ y = .int j ∧ Q (g i j) H
def rU (g : Int → V) : V → Hp → VK → Prop := fun x H Q => ∃ i, x = .int i ∧ Q (g i) H

section
variable {X : Cx} {a b c : Expr} {ta tb tc : TE} {pos : Pos}

theorem binT (ha : PE X a ta) (hb : PE X b tb) {pins : List (Addr × Obj)} {s : Shared} {σ : St} {H : Hp} {R : V → V → Hp → Prop} (I : Inv X pins σ H s)
    (h : ta σ H fun x H1 => tb σ H1 fun y H2 => R x y H2) {Q : Value → Shared → Prop} {f : Value → Value → Sem Value}
    (hf : ∀ v u s2 x y H2, Inv X pins σ H2 s2 → RelV x v → RelV y u → R x y H2 → wpAny (model X.prog X.w) X.A (f v u) Q X.xe s2) :
    wpAny (model X.prog X.w) X.A (eval a X.env) (fun v s₁ => wpAny (model X.prog X.w) X.A (eval b X.env) (fun u s₂ => wpAny (model X.prog X.w) X.A (f v u) Q X.xe s₂) X.xe s₁) X.xe s := by
  refine thn (ha pins s σ H _ I h) fun v s1 ⟨x, H1, I1, r1, q1⟩ => ?_
  refine thn (hb pins s1 σ H1 _ I1 q1) fun u s2 ⟨y, H2, I2, r2, q2⟩ => ?_
  exact hf v u s2 x y H2 I2 r1 r2 q2

theorem pe_op {op : Operator} {r : R2} (ho : OpR X (binaryOp op) r) (ha : PE X a ta) (hb : PE X b tb) : PE X (.BinOp a op b pos) (tOp r ta tb) := by
  intro pins s σ H Q I h
  exact wpAny_BinOp (binT ha hb I h fun v u s2 x y H2 I2 rx ry q => ho pins s2 σ H2 x y v u Q I2 rx ry q)
theorem pe_un {op : UnaryOp} {r : V → Hp → VK → Prop} (ho : UnR X (unaryOp op) r) (ha : PE X a ta) : PE X (.UnaryOp op a pos) (tUn r ta) := by
  intro pins s σ H Q I h
  exact UnaryOp_ (thn (ha pins s σ H _ I h) fun v s1 ⟨x, H1, I1, r1, q1⟩ => ho pins s1 σ H1 x v Q I1 r1 q1)
theorem opI {f : Value → Value → Sem Value} {C : Int → Int → Prop} {g : Int → Int → Int}
    (rule : ∀ (i j : Int) (t u : Tok) (s : Shared) (Q : Value → Shared → Prop) (E : Value → Shared → Prop), C i j → Q (.int (g i j) s.toks) { s with toks := s.toks + 1 } → wpAny (model X.prog X.w) X.A (f (.int i t) (.int j u)) Q E s) :
    OpR X f (rI C fun i j => .int (g i j)) := by
  intro pins s σ H x y v u Q I rx ry h
  obtain ⟨i, j, rfl, rfl, hc, q⟩ := h
  obtain ⟨t, rfl⟩ := rx
  obtain ⟨t', rfl⟩ := ry
  exact rule i j t t' s _ _ hc ⟨.int (g i j), H, I.tok _, ⟨_, rfl⟩, q⟩
theorem opI0 {f : Value → Value → Sem Value} {g : Int → Int → Int}
    (rule : ∀ (i j : Int) (t u : Tok) (s : Shared) (Q : Value → Shared → Prop) (E : Value → Shared → Prop), Q (.int (g i j) s.toks) { s with toks := s.toks + 1 } → wpAny (model X.prog X.w) X.A (f (.int i t) (.int j u)) Q E s) :
    OpR X f (rI0 fun i j => .int (g i j)) := by
  intro pins s σ H x y v u Q I rx ry h
  obtain ⟨i, j, rfl, rfl, q⟩ := h
  obtain ⟨t, rfl⟩ := rx
  obtain ⟨t', rfl⟩ := ry
  exact rule i j t t' s _ _ ⟨.int (g i j), H, I.tok _, ⟨_, rfl⟩, q⟩
theorem opB0 {f : Value → Value → Sem Value} {g : Int → Int → Bool}
    (rule : ∀ (i j : Int) (t u : Tok) (s : Shared) (Q : Value → Shared → Prop) (E : Value → Shared → Prop), Q (.bool (g i j)) s → wpAny (model X.prog X.w) X.A (f (.int i t) (.int j u)) Q E s) :
    OpR X f (rI0 fun i j => .bl (g i j)) := by
  intro pins s σ H x y v u Q I rx ry h
  obtain ⟨i, j, rfl, rfl, q⟩ := h
  obtain ⟨t, rfl⟩ := rx
  obtain ⟨t', rfl⟩ := ry
  exact rule i j t t' s _ _ ⟨.bl (g i j), H, I, rfl, q⟩

def CDiv (i j : Int) : Prop := 0 < j ∧ j < 1073741824
def CPow (i j : Int) : Prop := 0 ≤ j ∧ j ≤ 1000000 ∧ i.natAbs < 2 ^ 64
def CMul (i j : Int) : Prop := (-(2 ^ 64) < i ∧ i < 2 ^ 64) ∨ (-(2 ^ 64) < j ∧ j < 2 ^ 64)
theorem CMul.ok {i j : Int} (h : CMul i j) : IntMulOk i j := by
  rcases h with ⟨h1, h2⟩ | ⟨h1, h2⟩
  · exact .of_left (intBits_le_64 h1 h2)
  · exact .of_right (intBits_le_64 h1 h2)
theorem op_add : OpR X (binaryOp .Add) (rI0 fun i j => .int (i + j)) := opI0 fun _ _ _ _ _ _ _ q => add_int q
theorem op_sub : OpR X (binaryOp .Sub) (rI0 fun i j => .int (i - j)) := opI0 fun _ _ _ _ _ _ _ q => sub_int q
theorem op_mul : OpR X (binaryOp .Mult) (rI CMul fun i j => .int (i * j)) := opI fun _ _ _ _ _ _ _ hc q => mul_int q hc.ok
theorem op_fdiv : OpR X (binaryOp .FloorDiv) (rI CDiv fun i j => .int (i / j)) := opI fun i j _ _ _ _ _ hc q => by
  have h1 : (0 : Int) < j := hc.1
  have h2 : j < 1073741824 := hc.2
  exact floordiv_int (by omega) (by rw [Int.fdiv_eq_ediv_of_nonneg i (by omega)]; exact q) (.inl (PyProof.noPylong_small (by omega)))
theorem op_mod : OpR X (binaryOp .Mod) (rI (fun _ j => 0 < j) fun i j => .int (i % j)) := opI fun i j _ _ _ _ _ hc q => by
  have h1 : (0 : Int) < j := hc
  exact mod_int' (by omega) (by rw [Int.fmod_eq_emod_of_nonneg i (by omega)]; exact q)
theorem op_pow : OpR X (binaryOp .Pow) (rI CPow fun i j => .int (i ^ j.toNat)) := opI fun _ _ _ _ _ _ _ hc q => pow_int_small hc.1 hc.2.1 hc.2.2 q
theorem unI {f : Value → Sem Value} {g : Int → Int}
    (rule : ∀ (i : Int) (t : Tok) (s : Shared) (Q : Value → Shared → Prop) (E : Value → Shared → Prop), Q (.int (g i) s.toks) { s with toks := s.toks + 1 } → wpAny (model X.prog X.w) X.A (f (.int i t)) Q E s) :
    UnR X f (rU fun i => .int (g i)) := by
  intro pins s σ H x v Q I rx h
  obtain ⟨i, rfl, q⟩ := h
  obtain ⟨t, rfl⟩ := rx
  exact rule i t s _ _ ⟨.int (g i), H, I.tok _, ⟨_, rfl⟩, q⟩
theorem un_neg : UnR X (unaryOp .USub) (rU fun i => .int (-i)) := unI fun _ _ _ _ _ q => neg_int q
end

def scal : V → V → Bool
  | .non, .non => true | .non, .int _ => true | .int _, .non => true | .non, .bl _ => true | .bl _, .non => true | .non, .str _ => true | .str _, .non => true
  | .int _, .int _ => true | .bl _, .bl _ => true | .str _, .str _ => true | .byt _, .byt _ => true
  | .int _, .str _ => true | .str _, .int _ => true | .bl _, .str _ => true | .str _, .bl _ => true
  | _, _ => false
def rEq : R2 := fun x y H Q => scal x y = true ∧ Q (.bl (decide (x = y))) H
def rNe : R2 := fun x y H Q => scal x y = true ∧ Q (.bl (!decide (x = y))) H

theorem dec_int {i j : Int} : decide (V.int i = V.int j) = (i == j) := by
  rw [Bool.eq_iff_iff]
  simp
theorem dec_bl {i j : Bool} : decide (V.bl i = V.bl j) = (i == j) := by
  rw [Bool.eq_iff_iff]
  simp
theorem dec_str {i j : Str} : decide (V.str i = V.str j) = (i == j) := by
  rw [Bool.eq_iff_iff]
  simp
theorem dec_byt {i j : Array UInt8} : decide (V.byt i = V.byt j) = (i.toList == j.toList) := by
  rw [Bool.eq_iff_iff]
  cases i
  cases j
  simp

section
variable {X : Cx} {a b c : Expr} {ta tb tc : TE} {pos : Pos}
theorem fin_bl {pins : List (Addr × Obj)} {σ : St} {H : Hp} {s : Shared} {Q : VK} {k k' : Bool} (I : Inv X pins σ H s) (q : Q (.bl k) H) (e : k = k') : EP X pins σ Q (.bool k') s := by
  subst e
  exact ⟨.bl k, H, I, rfl, q⟩
theorem op_eq : OpR X (compareOp .Eq) rEq := by
  intro pins s σ H x y v u Q I rx ry h
  obtain ⟨hs, q⟩ := h
  cases x with
  | non =>
    cases rx
    cases y with
    | non => cases ry; exact PySem.EqNone.eq_none_none (fin_bl I q (by simp))
    | bl j => cases ry; exact PySem.EqNone.eq_none_bool (fin_bl I q (by simp))
    | int j => obtain ⟨t', rfl⟩ := ry; exact PySem.EqNone.eq_none_int (fin_bl I q (by simp))
    | str j => obtain ⟨t', rfl⟩ := ry; exact PySem.EqNone.eq_none_str (fin_bl I q (by simp))
    | _ => exact absurd (show false = true from hs) Bool.false_ne_true
  | bl i =>
    cases rx
    cases y with
    | non => cases ry; exact PySem.EqNone.eq_bool_none (fin_bl I q (by simp))
    | bl j => cases ry; exact eq_bool (fin_bl I q dec_bl)
    | str j => obtain ⟨t', rfl⟩ := ry; exact PySem.EqMixed.eq_bool_str (fin_bl I q (by simp))
    | _ => exact absurd (show false = true from hs) Bool.false_ne_true
  | int i =>
    obtain ⟨t, rfl⟩ := rx
    cases y with
    | non => cases ry; exact PySem.EqNone.eq_int_none (fin_bl I q (by simp))
    | int j => obtain ⟨t', rfl⟩ := ry; exact eq_int (fin_bl I q dec_int)
    | str j => obtain ⟨t', rfl⟩ := ry; exact PySem.EqMixed.eq_int_str (fin_bl I q (by simp))
    | _ => exact absurd (show false = true from hs) Bool.false_ne_true
  | str i =>
    obtain ⟨t, rfl⟩ := rx
    cases y with
    | non => cases ry; exact PySem.EqNone.eq_str_none (fin_bl I q (by simp))
    | bl j => cases ry; exact PySem.EqMixed.eq_str_bool (fin_bl I q (by simp))
    | int j => obtain ⟨t', rfl⟩ := ry; exact PySem.EqMixed.eq_str_int (fin_bl I q (by simp))
    | str j => obtain ⟨t', rfl⟩ := ry; exact eq_str (fin_bl I q dec_str)
    | _ => exact absurd (show false = true from hs) Bool.false_ne_true
  | byt i =>
    obtain ⟨t, rfl⟩ := rx
    cases y with
    | byt j => obtain ⟨t', rfl⟩ := ry; exact PySem.W.eq_bytes (fin_bl I q dec_byt)
    | _ => exact absurd (show false = true from hs) Bool.false_ne_true
  | _ => cases y <;> exact absurd (show false = true from hs) Bool.false_ne_true
theorem op_ne : OpR X (compareOp .NotEq) rNe := by
  intro pins s σ H x y v u Q I rx ry h
  obtain ⟨hs, q⟩ := h
  cases x with
  | non =>
    cases rx
    cases y with
    | non => cases ry; exact PySem.EqNone.ne_none_none (fin_bl I q (by simp))
    | bl j => cases ry; exact PySem.EqNone.ne_none_bool (fin_bl I q (by simp))
    | int j => obtain ⟨t', rfl⟩ := ry; exact PySem.EqNone.ne_none_int (fin_bl I q (by simp))
    | str j => obtain ⟨t', rfl⟩ := ry; exact PySem.EqNone.ne_none_str (fin_bl I q (by simp))
    | _ => exact absurd (show false = true from hs) Bool.false_ne_true
  | bl i =>
    cases rx
    cases y with
    | non => cases ry; exact PySem.EqNone.ne_bool_none (fin_bl I q (by simp))
    | bl j => cases ry; exact ne_bool (fin_bl I q (congrArg not dec_bl))
    | str j => obtain ⟨t', rfl⟩ := ry; exact PySem.EqMixed.ne_bool_str (fin_bl I q (by simp))
    | _ => exact absurd (show false = true from hs) Bool.false_ne_true
  | int i =>
    obtain ⟨t, rfl⟩ := rx
    cases y with
    | non => cases ry; exact PySem.EqNone.ne_int_none (fin_bl I q (by simp))
    | int j => obtain ⟨t', rfl⟩ := ry; exact ne_int (fin_bl I q (congrArg not dec_int))
    | str j => obtain ⟨t', rfl⟩ := ry; exact PySem.EqMixed.ne_int_str (fin_bl I q (by simp))
    | _ => exact absurd (show false = true from hs) Bool.false_ne_true
  | str i =>
    obtain ⟨t, rfl⟩ := rx
    cases y with
    | non => cases ry; exact PySem.EqNone.ne_str_none (fin_bl I q (by simp))
    | bl j => cases ry; exact PySem.EqMixed.ne_str_bool (fin_bl I q (by simp))
    | int j => obtain ⟨t', rfl⟩ := ry; exact PySem.EqMixed.ne_str_int (fin_bl I q (by simp))
    | str j => obtain ⟨t', rfl⟩ := ry; exact ne_str (fin_bl I q (congrArg not dec_str))
    | _ => exact absurd (show false = true from hs) Bool.false_ne_true
  | byt i =>
    obtain ⟨t, rfl⟩ := rx
    cases y with
    | byt j => obtain ⟨t', rfl⟩ := ry; exact PySem.W.ne_bytes (fin_bl I q (congrArg not dec_byt))
    | _ => exact absurd (show false = true from hs) Bool.false_ne_true
  | _ => cases y <;> exact absurd (show false = true from hs) Bool.false_ne_true

theorem op_lt : OpR X (compareOp .Lt) (rI0 fun i j => .bl (decide (i < j))) := opB0 fun _ _ _ _ _ _ _ q => lt_int q
theorem op_le : OpR X (compareOp .LtE) (rI0 fun i j => .bl (decide (i ≤ j))) := opB0 fun _ _ _ _ _ _ _ q => le_int q
theorem op_gt : OpR X (compareOp .Gt) (rI0 fun i j => .bl (decide (j < i))) := opB0 fun _ _ _ _ _ _ _ q => gt_int q
theorem op_ge : OpR X (compareOp .GtE) (rI0 fun i j => .bl (decide (j ≤ i))) := opB0 fun _ _ _ _ _ _ _ q => ge_int q
theorem nomark (b : Expr) {op : CmpOp} (h : op ≠ .In := by decide) (h2 : op ≠ .NotIn := by decide) : behindInMarks op b = false := by
  have e1 : (op == CmpOp.In) = false := by cases op <;> first | rfl | exact absurd rfl h
  have e2 : (op == CmpOp.NotIn) = false := by cases op <;> first | rfl | exact absurd rfl h2
  cases b <;> simp [behindInMarks, e1, e2]
theorem pe_cmpR {op : CmpOp} {r : R2} (ho : OpR X (compareOp op) r) (ha : PE X a ta) (hb : PE X b tb) (hm : behindInMarks op b = false) : PE X (.Compare a [op] [b] pos) (tOp r ta tb) := by
  intro pins s σ H Q I h
  exact wpAny_Compare1 (binT ha hb I h fun v u s2 x y H2 I2 rx ry q => ho pins s2 σ H2 x y v u Q I2 rx ry q) hm
def tTest (t : TE) : TT := fun σ H Q => t σ H fun x H' => ∃ k, x = .bl k ∧ Q k H'
theorem pt_cmpR {op : CmpOp} {r : R2} (ho : OpR X (compareOp op) r) (ha : PE X a ta) (hb : PE X b tb) (hm : behindInMarks op b = false) : PT X (.Compare a [op] [b] pos) (tTest (tOp r ta tb)) := by
  intro pins s σ H Q I h
  refine wpAny_isTrue_Compare1 (thn (ha pins s σ H _ I h) fun v s1 ⟨x, H1, I1, r1, q1⟩ => thn (hb pins s1 σ H1 _ I1 q1) fun u s2 ⟨y, H2, I2, r2, q2⟩ =>
    thn (ho pins s2 σ H2 x y v u _ I2 r1 r2 q2) fun c s3 ⟨z, H3, I3, r3, k, e, q3⟩ => ?_) hm
  subst e
  cases r3
  exact wpAny_truthy_bool ⟨H3, I3, q3⟩
def tChain (r r' : R2) (ta tb tc : TE) : TE := fun σ H Q => ta σ H fun x H1 => tb σ H1 fun y H2 => r x y H2 fun z H3 => ∃ k, z = .bl k ∧
  (if k = true then tc σ H3 fun w' H4 => r' y w' H4 Q else Q (.bl false) H3)
theorem pe_chain {op op' : CmpOp} {r r' : R2} (ho : OpR X (compareOp op) r) (ho' : OpR X (compareOp op') r') (ha : PE X a ta) (hb : PE X b tb) (hc : PE X c tc)
    (hm : lastMarks [op, op'] [b, c] = false := by with_unfolding_all rfl) : PE X (.Compare a [op, op'] [b, c] pos) (tChain r r' ta tb tc) := by
  intro pins s σ H Q I h
  refine Compare_chain (thn (ha pins s σ H _ I h) fun v s1 ⟨x, H1, I1, r1, q1⟩ => chain_link (thn (hb pins s1 σ H1 _ I1 q1) fun u s2 ⟨y, H2, I2, r2, q2⟩ =>
    thn (ho pins s2 σ H2 x y v u _ I2 r1 r2 q2) fun d s3 ⟨z, H3, I3, r3, k, e, q3⟩ => ?_)) hm
  subst e
  cases r3
  refine wpAny_truthy_bool ?_
  cases k with
  | false => exact ite_ff ⟨.bl false, H3, I3, rfl, q3⟩
  | true => exact ite_tt (chain_last (thn (hc pins s3 σ H3 _ I3 q3) fun w' s4 ⟨z', H4, I4, r4, q4⟩ => ho' pins s4 σ H4 y z' u w' Q I4 r2 r4 q4))
theorem line63 : (sizeLine : Nat) < 2 ^ 63 := by rw [sizeLine_eq]; decide
theorem vals1 {x : V} {us : List Value} (r : Vals [x] us) : ∃ u, us = [u] ∧ RelV x u := by
  cases r with
  | cons r1 r2 => cases r2; exact ⟨_, rfl, r1⟩
theorem vals2 {x y : V} {us : List Value} (r : Vals [x, y] us) : ∃ u w', us = [u, w'] ∧ RelV x u ∧ RelV y w' := by
  cases r with
  | cons r1 r2 =>
    cases r2 with
    | cons r3 r4 => cases r4; exact ⟨_, _, rfl, r1, r3⟩
theorem call_abs : CallR X (.builtin "abs") (fun xs H Q => ∃ i, xs = [.int i] ∧ Q (.int (if i < 0 then -i else i)) H) := by
  intro pins s σ H xs us Q I r h
  obtain ⟨i, rfl, q⟩ := h
  obtain ⟨u, rfl, t, rfl⟩ := vals1 r
  exact call_abs_int fun u tk => ⟨.int (if i < 0 then -i else i), H, I.tok _, ⟨_, rfl⟩, q⟩
theorem call_max2 (hc : X.calm = true) : CallR X (.builtin "max") (fun xs H Q => ∃ i j, xs = [.int i, .int j] ∧ Q (.int (if j > i then j else i)) H) := by
  intro pins s σ H xs us Q I r h
  obtain ⟨i, j, rfl, q⟩ := h
  obtain ⟨u, w', rfl, ⟨t, rfl⟩, ⟨t', rfl⟩⟩ := vals2 r
  refine max_two_ints (I.ok.hd hc) fun h' tk k => ⟨_, H, I.kept k, ?_, q⟩
  by_cases hj : j > i
  · rw [if_pos hj, if_pos hj]; exact ⟨_, rfl⟩
  · rw [if_neg hj, if_neg hj]; exact ⟨_, rfl⟩
theorem call_min2 (hc : X.calm = true) : CallR X (.builtin "min") (fun xs H Q => ∃ i j, xs = [.int i, .int j] ∧ Q (.int (if j < i then j else i)) H) := by
  intro pins s σ H xs us Q I r h
  obtain ⟨i, j, rfl, q⟩ := h
  obtain ⟨u, w', rfl, ⟨t, rfl⟩, ⟨t', rfl⟩⟩ := vals2 r
  refine min_two_ints (I.ok.hd hc) fun h' tk k => ⟨_, H, I.kept k, ?_, q⟩
  by_cases hj : j < i
  · rw [if_pos hj, if_pos hj]; exact ⟨_, rfl⟩
  · rw [if_neg hj, if_neg hj]; exact ⟨_, rfl⟩
end
end L2

namespace L2
open PySem PySem.Spec PyProof.Rows

structure ObjM (h : Heap) (x dx C : Addr) (mA : Str → Option Value) : Prop where
  obj : h.get? x = some (PySem.W.instObj C dx)
  ns : h.Ns1 dx mA
  ne : dx ≠ x

section
variable {prog : Program} {w : World} {A : Around} {E : Value → Shared → Prop} {s : Shared} {K : PySem.W.Frag} {x dx C f : Addr} {mA : Str → Option Value} {name : Str} {v : Value}

end

theorem RelO.some_of {v : V} {o : Option Value} (r : RelO (some v) o) : ∃ u, o = some u ∧ RelV v u := by
  cases o with
  | none => exact (show False from r).elim
  | some u => exact ⟨u, rfl, r⟩

structure Cls (K : PySem.W.Frag) (C : Addr) : Prop where
  pg : PySem.W.plainGet K C Str.empty = true
  hd : PySem.W.hasDictIn K C = true
  po : PySem.W.plainOver K C = true
  sa : PySem.W.findIn K (.ref C) "__setattr__" = some (some (.builtin "object.__setattr__"))
structure Con (K : PySem.W.Frag) (C : Addr) (f : Str) (v : V) (u : Value) : Prop where
  at_ : PySem.W.findIn K (.ref C) f = some (some u)
  rel : RelV v u
  get : PySem.W.specialIn K u "__get__" = some none
  cp : PySem.W.copiedNames.contains f = false
structure Meth (K : PySem.W.Frag) (C : Addr) (m : Str) (f : Addr) : Prop where
  at_ : PySem.W.findIn K (.ref C) m = some (some (.ref f))
  fn : PySem.W.isFn K (.ref f) = true
  kp : PySem.W.keepIn K (.ref f) = true

section
variable {X : Cx} {pins : List (Addr × Obj)} {σ : St} {H : Hp} {s : Shared} {a C dx : Addr} {fs : List (Str × V)} {f : Str} {v : V} {A : Around} {E : Value → Shared → Prop}

end


section
variable {X : Cx} {pins : List (Addr × Obj)} {σ : St} {H : Hp} {s : Shared} {A : Around} {E : Value → Shared → Prop} {Q : Value → Shared → Prop} {c : Value} {b : Bool}
inductive TyOf (K : PySem.W.Frag) (H : Hp) : V → Value → Prop where
  | non : TyOf K H .non (.type "NoneType")
  | bl (x : Bool) : TyOf K H (.bl x) (.type "bool")
  | int (i : Int) : TyOf K H (.int i) (.type "int")
  | str (x : Str) : TyOf K H (.str x) (.type "str")
  | flt (x : UInt64) : TyOf K H (.flt x) (.type "float")
  | lst {a : Addr} {xs : List V} (e : H a = some (.lst xs)) : TyOf K H (.ref a) (.type "list")
  | frz {a : Addr} {o : Obj} {xs : List V} (e : H a = some (.frz o (.lst xs))) : TyOf K H (.ref a) (.type "list")
  | tup {a : Addr} {xs : List V} (e : H a = some (.tup xs)) : TyOf K H (.ref a) (.type "tuple")
  | dK {a : Addr} {kvs : List (Key × V)} (e : H a = some (.dK kvs)) : TyOf K H (.ref a) (.type "dict")
  | dT {a : Addr} {kvs : List (List Key × V)} (e : H a = some (.dT kvs)) : TyOf K H (.ref a) (.type "dict")
  | ins {a C dx : Addr} {fs : List (Str × V)} (e : H a = some (.ins C dx fs)) (cl : Cls K C) (ha : PySem.W.findIn K (.ref C) "__class__" = some (some (.builtin "object.__class__")))
      (hn : PySem.W.specialIn K (.builtin "object.__class__") "__get__" = some (some (.builtin "getset_descriptor.__get__"))) (htk : PySem.W.takesIn K (.builtin "object.__class__") = some true)
      (hm : PySem.W.mroIn K C (.type "object") = some true) : TyOf K H (.ref a) (.ref C)
end
end L2

namespace L2
open PySem PySem.Spec PyProof.Rows

structure Room (k : Nat) (A : Around) : Prop where
  hd : A.handled = none
  dp : A.depth + 3 * k + 5 < recursionLimit
  un : A.units + 16 * k + 200 < cLine
  gd : A.guards = some []
theorem Room.mono {j k : Nat} {A : Around} (r : Room k A) (h : j ≤ k) : Room j A := ⟨r.hd, by have := r.dp; omega, by have := r.un; omega, r.gd⟩
theorem Room.deeper {k : Nat} {A : Around} (r : Room (k + 1) A) (env : Env) : Room k (A.deeper env) :=
  ⟨r.hd, by have := r.dp; show A.depth + 1 + 3 * k + 5 < _; omega, by have := r.un; show A.units + 3 + 16 * k + 200 < _; omega, r.gd⟩
theorem Room.depth {k : Nat} {A : Around} (r : Room k A) : A.depth < recursionLimit := by have := r.dp; omega
theorem Room.units {k : Nat} {A : Around} (r : Room k A) : A.units + 64 < cLine := by have := r.un; omega
def tNil : TA := fun _ H Q => Q [] H
def tCons (ta : TE) (tr : TA) : TA := fun σ H Q => ta σ H fun x H1 => tr σ H1 fun xs H2 => Q (x :: xs) H2
section
variable {X : Cx} {e : Expr} {es : List Expr} {te : TE} {t : TA} {pos : Pos}
theorem pa_nil : PA X [] tNil := fun _ _ _ _ H Q I h => Calls.spliced_nil ⟨[], H, I, .nil, h⟩
theorem pa_cons (ha : PE X e te) (hr : PA X es t) (hs : starEach (e :: es) X.env = (false, eval e X.env) :: starEach es X.env := by rfl) : PA X (e :: es) (tCons te t) := by
  intro pos pins s σ H Q I h
  rw [hs]
  show wpAny _ _ (spliced ((false, eval e X.env) :: backTo pos (starEach es X.env))) _ _ s
  refine Calls.spliced_cons (thn (ha pins s σ H _ I h) fun u s1 ⟨x, H1, I1, r1, q1⟩ => ?_)
  exact thn (hr pos pins s1 σ H1 _ I1 q1) fun us s2 ⟨xs, H2, I2, r2, q2⟩ => ⟨x :: xs, H2, I2, .cons r1 r2, q2⟩

def tTup (t : TA) : TE := fun σ H Q => t σ H fun xs H1 => xs.length ≤ sizeLine ∧ ∀ p, H1 p = none → Q (.ref p) (upd H1 p (.tup xs))
def tLst (t : TA) : TE := fun σ H Q => t σ H fun xs H1 => xs.length ≤ sizeLine ∧ ∀ p, H1 p = none → Q (.ref p) (upd H1 p (.lst xs))
theorem pe_tup {x1} (h : PA X es t) : PE X (.Tuple es x1 pos) (tTup t) := by
  intro pins s σ H Q I hq
  refine wpAny_Tuple_spliced (thn (h pos pins s σ H _ I hq) fun us s1 ⟨xs, H1, I1, r, z, q⟩ => ⟨by rw [← r.length]; exact z, ?_⟩)
  have hf : H1 s1.heap.objs.size = none := I1.hok.fresh (Nat.le_refl _)
  refine ⟨.ref s1.heap.objs.size, upd H1 s1.heap.objs.size (.tup xs), I1.laid (t' := s1.toks) (fun b u e => Heap.get?_push_of_some _ e) (Nat.le_refl _) ?_, rfl, q _ hf⟩
  exact ⟨z, us, r, ⟨_, Heap.get?_push_size _ rfl, rfl, _, rfl⟩⟩
theorem pe_lst (h : PA X es t) : PE X (.List es pos) (tLst t) := by
  intro pins s σ H Q I hq
  refine wpAny_List_spliced (thn (h pos pins s σ H _ I hq) fun us s1 ⟨xs, H1, I1, r, z, q⟩ => ⟨by rw [← r.length]; exact z, ?_⟩)
  have hf : H1 s1.heap.objs.size = none := I1.hok.fresh (Nat.le_refl _)
  refine ⟨.ref s1.heap.objs.size, upd H1 s1.heap.objs.size (.lst xs), I1.laid (t' := s1.toks) (fun b u e => Heap.get?_push_of_some _ e) (Nat.le_refl _) ?_, rfl, q _ hf⟩
  exact ⟨z, us, 0, r, Heap.get?_push_size _ rfl⟩
end

abbrev Sp := List V → Hp → VK → XK → Prop
abbrev CXT := List Env → Hp → Shared → XK → Value → Shared → Prop

structure Env0 (P : Program) (w : World) (K : PySem.W.Frag) (mg : Str → Option Value) (base : Heap) (A : Around) (outer : List Env) (s : Shared) (H : Hp) : Prop where
  frames : A.frames = some outer
  mod : Mod K mg base
  bs : ∀ b o, base.get? b = some o → s.heap.get? b = some o ∧ H b = none
  bsz : base.objs.size ≤ s.heap.objs.size
  funs : s.heap.FunFrames base outer
  frf : ∀ b ∈ frs outer, H b = none
  hok : HOk P w H s.heap
  bare : AllBare s.gens
def CE (outer : List Env) (P : Program) (w : World) (H : Hp) (s : Shared) (Q : VK) (u : Value) (s' : Shared) : Prop :=
  ∃ v H', s'.os = s.os ∧ AllBare s'.gens ∧ Un (frs outer) [] H H' s.heap s'.heap ∧ HOk P w H' s'.heap ∧ RelV v u ∧ Q v H'
def CR (CX : CXT) (outer : List Env) (P : Program) (w : World) (H : Hp) (s : Shared) (Q : VK) (E : XK) (r : Result) (s' : Shared) : Prop :=
  match r with
  | .ok (.ret u) => CE outer P w H s Q u s'
  | .ok _ => False
  | .error e => CX outer H s E e s'
structure FnOk (P : Program) (w : World) (K : PySem.W.Frag) (mg : Str → Option Value) (base : Heap) (CX : CXT) (k : Nat) (f : Addr) (fd : FuncData) (ps : List Str) (sp : Sp) : Prop where
  len : ∀ vs H Q E, sp vs H Q E → vs.length = ps.length
  run : ∀ (A : Around) (outer : List Env) (s : Shared) (H : Hp) (args : Args) (us : List Value) (vs : List V) (Q : VK) (E : XK), Room k A → Env0 P w K mg base A outer s H → BindsTo s fd args (ps.zip us) → Vals vs us → sp vs H Q E →
    codeAny (model P w) A (.call (.ref f) args) (CR CX outer P w H s Q E) s
section
variable {X : Cx} {pins : List (Addr × Obj)} {σ : St} {H : Hp} {s s' : Shared}
theorem Inv.env0 (I : Inv X pins σ H s) : Env0 X.prog X.w X.K X.mg X.base X.A X.stack s H :=
  ⟨I.ok.frames, I.ok.mod, I.bs, Nat.le_trans I.ok.bsz I.sz, I.stack, I.stkFree, I.hok, I.bare⟩
theorem Inv.after {Q : VK} {u : Value} (I : Inv X pins σ H s) (h : CE X.stack X.prog X.w H s Q u s') : EP X pins σ Q u s' := by
  obtain ⟨v, H', os, bare, un, hok, r, q⟩ := h
  obtain ⟨hh, g, d, t, os'⟩ := s'
  obtain rfl : os' = s.os := os
  exact ⟨v, H', I.call (h' := hh) (g' := g) (d' := d) (t' := t) (ch := []) un hok bare (fun b z => absurd z (by simp)), r, q⟩
end

def tCall (sp : Sp) (dvs : List V) (E : XK) (t : TA) : TE := fun σ H Q => t σ H fun vs H1 => sp (vs ++ dvs) H1 Q E
def Binds (K : PySem.W.Frag) (fd : FuncData) (ps : List Str) (ds : List Value) : Prop :=
  ∀ (s : Shared) (us : List Value), K.In s.heap → (us ++ ds).length = ps.length → BindsTo s fd ⟨us, []⟩ (ps.zip (us ++ ds))
theorem Binds.all {K : PySem.W.Frag} {fd : FuncData} {ps : List Str} (h : ∀ us : List Value, us.length = ps.length → bindArgs fd ⟨us, []⟩ = pure (ps.zip us)) : Binds K fd ps [] := fun s us _ hl => by
  rw [List.append_nil] at hl ⊢
  exact .of_eq (h us hl)

def Passes (CX : CXT) (X : Cx) (E : XK) : Prop := ∀ (pins : List (Addr × Obj)) (σ : St) (H : Hp) (s : Shared) (e : Value) (s' : Shared), Inv X pins σ H s → CX X.stack H s E e s' → X.xe e s'

section
variable {X : Cx} {CX : CXT} {k : Nat} {f C : Addr} {fd : FuncData} {ps : List Str} {sp : Sp} {dvs : List V} {ds : List Value} {E : XK} {x m : Str} {p pos apos : Pos} {e o : Expr} {es : List Expr} {ta : TE} {t : TA}

theorem run_fn {pins : List (Addr × Obj)} {σ : St} {H : Hp} {s : Shared} {Q : VK} {us : List Value} {vs : List V} (F : FnOk X.prog X.w X.K X.mg X.base CX k f fd ps sp) (hr : Room k X.A) (hb : Binds X.K fd ps ds) (hd : Vals dvs ds) (hx : Passes CX X E)
    (I : Inv X pins σ H s) (r : Vals vs us) (h : sp (vs ++ dvs) H Q E) : wpAny (model X.prog X.w) X.A (call (.ref f) us) (EP X pins σ Q) X.xe s := by
  have r2 : Vals (vs ++ dvs) (us ++ ds) := r.append hd
  have hl : (us ++ ds).length = ps.length := by rw [← r2.length]; exact F.len _ _ _ _ h
  refine wpAny_call (codeAny_mono (F.run X.A X.stack s H ⟨us, []⟩ (us ++ ds) (vs ++ dvs) Q E hr I.env0 (hb s us I.kIn hl) r2 h) fun r s' hq => ?_)
  cases r with
  | error e => exact hx pins σ H s e s' I hq
  | ok fl =>
    cases fl with
    | ret u => exact I.after hq
    | next => exact False.elim hq
    | brk => exact False.elim hq
    | cont => exact False.elim hq

theorem pe_call (F : FnOk X.prog X.w X.K X.mg X.base CX k f fd ps sp) (hr : Room k X.A) (hg : Gl X x) (hm : X.mg x = some (.ref f)) (hk : PySem.W.keepIn X.K (.ref f) = true) (hb : Binds X.K fd ps ds) (hd : Vals dvs ds) (hx : Passes CX X E)
    (ha : PA X (e :: es) t) (hdb : (x == ("__debug__" : Str)) = false := by decide) (he : starEach (e :: es) X.env = (false, eval e X.env) :: starEach es X.env := by rfl) (hpl : (backTo pos (starEach es X.env)).any (·.1) = false := by rfl) :
    PE X (.Call (.Name x p) (e :: es) [] pos) (tCall sp dvs E t) := by
  intro pins s σ H Q I h
  refine wpAny_Call_Name_kw (ld_glob I hg hm ?_ hdb)
  refine PySem.W.callWith_K (h₀ := X.base) I.ok.mod.kin hk (thn (ha pos pins s σ H _ I h) fun us s1 ⟨vs, H1, I1, r, q⟩ => ⟨I1.kIn, ?_⟩) he hpl
  exact run_fn F hr hb hd hx I1 r q
structure Mk (K : PySem.W.Frag) (C f : Addr) : Prop where
  makes : PySem.W.makesIn K C = true
  init : PySem.W.findIn K (.ref C) "__init__" = some (some (.ref f))
  fn : PySem.W.isFn K (.ref f) = true
  kp : PySem.W.keepIn K (.ref C) = true

end

section
variable {X : Cx} {CX : CXT} {k : Nat} {f C : Addr} {fd : FuncData} {ps ks : List Str} {sp : Sp} {E : XK} {x m : Str} {p pos apos kpos : Pos} {e o : Expr} {es : List Expr} {kws : List Keyword} {te ta : TE} {t tk : TA} {nm : Option Str}
structure KBinds (K : PySem.W.Frag) (fd : FuncData) (ps ks : List Str) (g : List Value → List Value → List Value) (gV : List V → List V → List V) : Prop where
  to : ∀ (s : Shared) (us ws : List Value), K.In s.heap → (g us ws).length = ps.length → BindsTo s fd ⟨us, ks.zip ws⟩ (ps.zip (g us ws))
  rel : ∀ {vs : List V} {us : List Value} {zs : List V} {ws : List Value}, Vals vs us → Vals zs ws → Vals (gV vs zs) (g us ws)
variable {g : List Value → List Value → List Value} {gV : List V → List V → List V}
end

structure FnScope (N P : List Str) (sc : Scope) : Prop where
  kind : sc.kind = .function
  co : sc.isCoroutine = false
  gen : sc.isGenerator = false
  nd : N.Nodup
  pre : N.take P.length = P
  par : ∀ x ∈ P, sc.names.lookup x = some .local ∨ sc.names.lookup x = some .cell
  nofree : ∀ y ∈ sc.names, y.2 ≠ .free

theorem bindL_out {kindOf : Str → Option NameKind} {x : Str} : ∀ {binds : List (Str × Value)} {m : Str → Option Value}, (∀ v, (x, v) ∉ binds) → bindL kindOf binds m x = m x
  | [], _, _ => rfl
  | (n, v) :: r, m, h => by
    unfold bindL
    rw [bindL_out fun w hw => h w (List.mem_cons_of_mem _ hw)]
    split
    · have : x ≠ n := by rintro rfl; exact h v List.mem_cons_self
      simp [this]
    · rfl
theorem bindC_out {kindOf : Str → Option NameKind} {x : Str} : ∀ {binds : List (Str × Value)} {m : Str → Option Value}, (∀ v, (x, v) ∉ binds) → bindC kindOf binds m x = m x
  | [], _, _ => rfl
  | (n, v) :: r, m, h => by
    unfold bindC
    rw [bindC_out fun w hw => h w (List.mem_cons_of_mem _ hw)]
    split
    · rfl
    · have : x ≠ n := by rintro rfl; exact h v List.mem_cons_self
      simp [this]
theorem bindL_get {kindOf : Str → Option NameKind} {x : Str} {v : Value} : ∀ {P : List Str} {vs : List Value} {i : Nat} {m : Str → Option Value}, P.Nodup → P[i]? = some x → vs[i]? = some v → kindOf x = some .local →
    bindL kindOf (P.zip vs) m x = some v
  | [], _, _, _, _, h, _, _ => by simp at h
  | _ :: _, [], _, _, _, _, h, _ => by simp at h
  | p :: P, w :: vs, 0, m, nd, h1, h2, hk => by
    simp at h1 h2; subst h1; subst h2
    show bindL kindOf ((p, w) :: P.zip vs) m p = _
    unfold bindL
    rw [bindL_out fun v hv => (List.nodup_cons.mp nd).1 (List.of_mem_zip hv).1, if_pos hk]
    simp
  | p :: P, w :: vs, i + 1, m, nd, h1, h2, hk => by
    show bindL kindOf ((p, w) :: P.zip vs) m x = _
    unfold bindL
    exact bindL_get (i := i) (List.nodup_cons.mp nd).2 (by simpa using h1) (by simpa using h2) hk
theorem bindC_get {kindOf : Str → Option NameKind} {x : Str} {v : Value} : ∀ {P : List Str} {vs : List Value} {i : Nat} {m : Str → Option Value}, P.Nodup → P[i]? = some x → vs[i]? = some v → kindOf x ≠ some .local →
    bindC kindOf (P.zip vs) m x = some v
  | [], _, _, _, _, h, _, _ => by simp at h
  | _ :: _, [], _, _, _, _, h, _ => by simp at h
  | p :: P, w :: vs, 0, m, nd, h1, h2, hk => by
    simp at h1 h2; subst h1; subst h2
    show bindC kindOf ((p, w) :: P.zip vs) m p = _
    unfold bindC
    rw [bindC_out fun v hv => (List.nodup_cons.mp nd).1 (List.of_mem_zip hv).1, if_neg hk]
    simp
  | p :: P, w :: vs, i + 1, m, nd, h1, h2, hk => by
    show bindC kindOf ((p, w) :: P.zip vs) m x = _
    unfold bindC
    exact bindC_get (i := i) (List.nodup_cons.mp nd).2 (by simpa using h1) (by simpa using h2) hk

def start (N : List Str) (vs : List V) : St := vs.map some ++ List.replicate (N.length - vs.length) none

def cxOf (CX : CXT) (P : Program) (w : World) (K : PySem.W.Frag) (mg : Str → Option Value) (base : Heap) (N : List Str) (qual : Str) (scope : Scope) (f : Addr) (cd : Value) (A : Around) (outer : List Env) (s : Shared) (H : Hp) (E : XK) : Cx where
  prog := P
  w := w
  K := K
  mg := mg
  base := base
  A := A.deeper (envOfC qual scope s.heap.objs.size f cd)
  N := N
  s₀ := s
  H₀ := H
  env := envOfC qual scope s.heap.objs.size f cd
  outer := outer
  stack := envOfC qual scope s.heap.objs.size f cd :: outer
  ex := []
  calm := true
  fn := fun _ => true
  pn := []
  xe := fun e s' => wpAny (model P w) (A.deeper (envOfC qual scope s.heap.objs.size f cd)) (leaving (envOfC qual scope s.heap.objs.size f cd) e) (fun _ s'' => CX outer H s E e s'') (fun e' s'' => CX outer H s E e' s'') s'

theorem cell_has {sc : Scope} {n : Nat} {x : Str} (h : sc.names.lookup x = some .cell) : ∃ c, (cellsFrom n sc.names []).lookup x = some c := by
  have q := PySem.W.cellsFrom_some sc.names n [] (.inl h)
  exact Option.isSome_iff_exists.mp q

theorem inv_start {CX : CXT} {P : Program} {w : World} {K : PySem.W.Frag} {mg : Str → Option Value} {base : Heap} {N ps : List Str} {qual : Str} {scope : Scope} {f : Addr} {cd : Value} {A : Around} {outer : List Env} {s s1 : Shared} {H : Hp} {E : XK} {us : List Value} {vs : List V}
    (S : FnScope N ps scope) (hd : A.handled = none) (e0 : Env0 P w K mg base A outer s H) (hl : vs.length = ps.length) (r : Vals vs us)
    (x : InCallC s s.heap.objs.size (bindL (envOfC qual scope s.heap.objs.size f cd).kindOf (ps.zip us) fun _ => none) (cellsFrom (s.heap.objs.size + 1) scope.names []) (bindC (envOfC qual scope s.heap.objs.size f cd).kindOf (ps.zip us) fun _ => none) s1) :
    Inv (cxOf CX P w K mg base N qual scope f cd A outer s H E) [] (start N vs) H s1 := by
  have hpl : ps.length ≤ N.length := by have := congrArg List.length S.pre; rw [List.length_take] at this; omega
  obtain ⟨h1, tk, rfl, hk⟩ := x.done
  have noA : ∀ b : Addr, b ∉ (cxOf CX P w K mg base N qual scope f cd A outer s H E).ex := fun b z => absurd (show b ∈ ([] : List Addr) from z) (by simp)
  refine ⟨⟨e0.mod, S.kind, rfl, rfl, Nat.le_refl _, fun y z c h1 h2 => ?_, fun y hy => ?_, fun y c _ h => ?_, fun _ => hd, Around.frames_deeper e0.frames, .inr ⟨rfl, rfl⟩, fun b z => absurd z (noA b), e0.bs, e0.bsz, fun b _ _ => noA b, fun b z => absurd z (noA b), e0.funs, e0.frf⟩,
    rfl, e0.bare, Un.kept hk, ⟨_, x.toInCall.ns, fun i y v h1 h2 h3 => ?_⟩, fun y c h => ⟨_, x.cell y c h⟩, e0.hok.fresh (Nat.le_refl _), fun y c h => ?_, fun p hp => absurd (show p ∈ ([] : List (Addr × Obj)) from hp) (by simp), e0.hok.kept hk, ?_⟩
  · exact name_of_addr x.apart (PySem.mem_of_lookup h1) (PySem.mem_of_lookup h2)
  · have hy : scope.names.lookup y = some .cell ∨ scope.names.lookup y = some .free := hy
    rcases hy with hy | hy
    · exact cell_has hy
    · exact absurd rfl (S.nofree _ (PySem.mem_of_lookup hy))
  · exact Nat.le_of_lt (x.above y c (PySem.mem_of_lookup h))
  · have hi : i < vs.length := by
      unfold start at h2
      by_cases hi : i < vs.length
      · exact hi
      · rw [List.getElem?_append_right (by simpa using hi)] at h2
        rw [List.getElem?_replicate] at h2
        split at h2 <;> cases h2
    have ha : vs[i]? = some v := by
      unfold start at h2
      rw [List.getElem?_append_left (by simpa using hi), List.getElem?_map] at h2
      cases e : vs[i]? with
      | none => rw [e] at h2; cases h2
      | some a => rw [e] at h2; cases h2; rfl
    obtain ⟨u, hu, rv⟩ := r.get ha
    have hp : ps[i]? = some y := by
      rw [← S.pre, List.getElem?_take_of_lt (by omega)]; exact h1
    have ndP : ps.Nodup := by rw [← S.pre]; exact S.nd.sublist (List.take_sublist _ _)
    refine ⟨u, rv, ?_⟩
    rcases S.par y (List.mem_of_getElem? hp) with k | k
    · exact .inl ⟨k, bindL_get ndP hp hu k⟩
    · obtain ⟨c, e⟩ := cell_has (n := s.heap.objs.size + 1) k
      refine .inr ⟨.inl k, c, e, ?_⟩
      have q := x.cell y c e
      rw [bindC_get ndP hp hu (by show scope.names.lookup y ≠ _; rw [k]; decide)] at q
      exact q
  · exact e0.hok.fresh (Nat.le_of_lt (x.above y c (PySem.mem_of_lookup h)))
  · unfold start
    show _ = N.length
    rw [List.length_append, List.length_map, List.length_replicate]
    omega

theorem fn_of {CX : CXT} {P : Program} {w : World} {K : PySem.W.Frag} {mg : Str → Option Value} {base : Heap} {k : Nat} {f : Addr} {name qual : Str} {params : Arguments} {body : List Stmt} {scope : Scope} {dV kV doc pm cdv ct oc : Value} {an od : Option Addr}
    {osl : Array (Option Value)} {N ps : List Str} {sp : Sp} (lk : K.lookup f = some ⟨oc, od, .func (PySem.W.fnOf name qual params body scope dV kV doc pm an cdv ct), osl⟩) (hcd : PySem.W.codeIn K cdv qual = true) (S : FnScope N ps scope)
    (len : ∀ vs H Q E, sp vs H Q E → vs.length = ps.length)
    (hbody : ∀ (A : Around) (outer : List Env) (s : Shared) (H : Hp) (vs : List V) (Q : VK) (E : XK), Room k (A.deeper (envOfC qual scope s.heap.objs.size f cdv)) → sp vs H Q E →
      ∃ t, PSs (cxOf CX P w K mg base N qual scope f cdv A outer s H E) body t ∧ t { nx := fun _ H' => Q .non H', rt := Q } (start N vs) H) :
    FnOk P w K mg base CX (k + 1) f (PySem.W.fnOf name qual params body scope dV kV doc pm an cdv ct) ps sp := by
  refine ⟨len, fun A outer s H args us vs Q E hr e0 hb r hsp => ?_⟩
  have hl := len _ _ _ _ hsp
  have KX : K.In s.heap := e0.mod.kin.keeps fun b o e => (e0.bs b o e).1
  have lim : s.heap.NoLimit := e0.mod.nolimit.keeps fun b o e => (e0.bs b o e).1
  have hkind : ∀ y ∈ ps.zip us, scope.names.lookup y.1 = some .local ∨ (scope.names.lookup y.1 = some .cell ∧ ((cellsFrom (s.heap.objs.size + 1) scope.names []).lookup y.1).isSome = true) := fun ⟨n, v⟩ hy => by
    rcases S.par n (List.of_mem_zip hy).1 with q | q
    · exact .inl q
    · exact .inr ⟨q, PySem.W.cellsFrom_some _ _ _ (.inl q)⟩
  refine codeAny_call_function hr.depth (KX _ _ lk) rfl S.co S.gen rfl (PySem.W.codeRec_of KX hcd) (hb _ _ _ _ ?_)
  refine wpAny_newFunctionEnv_cells S.kind hkind fun env he s1 x => ?_
  subst he
  refine ⟨lim.keeps x.toInCall.keep, codeAny_func ?_⟩
  obtain ⟨t, ht, hq⟩ := hbody A outer s H vs Q E (hr.deeper _) hsp
  have I : Inv (cxOf CX P w K mg base N qual scope f cdv A outer s H E) [] (start N vs) H s1 := inv_start S hr.hd e0 hl r x
  refine wpAny_mono (ht [] s1 (start N vs) H _ I hq) (fun fl s' hs => ?_) fun e s' hs => hs
  have fin : ∀ {σ' : St} {H' : Hp} {v : V} {u : Value}, Inv (cxOf CX P w K mg base N qual scope f cdv A outer s H E) [] σ' H' s' → RelV v u → Q v H' → CE outer P w H s Q u s' :=
    fun {σ' H' v u} J rv q => ⟨v, H', J.os, J.bare, J.base, J.hok, rv, q⟩
  cases fl with
  | ret u =>
    obtain ⟨v, σ', H', J, rv, q⟩ := hs
    exact fin J rv q
  | next =>
    obtain ⟨σ', H', J, q⟩ := hs
    exact fin (v := V.non) (u := Value.none) J rfl q
  | brk =>
    obtain ⟨_, _, _, q⟩ := hs
    exact False.elim q
  | cont =>
    obtain ⟨_, _, _, q⟩ := hs
    exact False.elim q
end L2

namespace L2
open PySem PySem.Spec PyProof.Rows
section
variable {X : Cx} {x : Str} {p pos : Pos} {e : Expr} {es : List Expr} {t : TA} {id T : String} {r : List V → Hp → VK → Prop}

def tCB (r : List V → Hp → VK → Prop) (t : TA) : TE := fun σ H Q => t σ H fun vs H1 => r vs H1 Q
theorem pe_callB (hc : CallR X (.builtin id) r) (hg : Gl X x) (hm : X.mg x = none) (hv : bootBuiltins x = some (.builtin id)) (ha : PA X (e :: es) t) (hn : x ≠ "__name__" := by decide) (hdb : (x == ("__debug__" : Str)) = false := by decide)
    (he : starEach (e :: es) X.env = (false, eval e X.env) :: starEach es X.env := by rfl) (hpl : (backTo pos (starEach es X.env)).any (·.1) = false := by rfl) : PE X (.Call (.Name x p) (e :: es) [] pos) (tCB r t) := by
  intro pins s σ H Q I h
  refine wpAny_Call_Name_kw (ld_blt I hg hm hv ?_ hn hdb)
  exact PyProof.Rows.callWith_builtin1 (thn (ha pos pins s σ H _ I h) fun us s1 ⟨vs, H1, I1, r1, q1⟩ => hc pins s1 σ H1 vs us Q I1 r1 q1) he hpl
theorem pe_callTy (hc : CallR X (.type T) r) (hg : Gl X x) (hm : X.mg x = none) (hv : bootBuiltins x = some (.type T)) (ha : PA X (e :: es) t) (hn : x ≠ "__name__" := by decide) (hdb : (x == ("__debug__" : Str)) = false := by decide)
    (he : starEach (e :: es) X.env = (false, eval e X.env) :: starEach es X.env := by rfl) (hpl : (backTo pos (starEach es X.env)).any (·.1) = false := by rfl) : PE X (.Call (.Name x p) (e :: es) [] pos) (tCB r t) := by
  intro pins s σ H Q I h
  refine wpAny_Call_Name_kw (ld_blt I hg hm hv ?_ hn hdb)
  exact PyProof.Rows.callWith_type1 (thn (ha pos pins s σ H _ I h) fun us s1 ⟨vs, H1, I1, r1, q1⟩ => hc pins s1 σ H1 vs us Q I1 r1 q1) he hpl
end
end L2

namespace HT
open PySem PyProof.Rows

section
open PySem.SeqAt
open PySem.AutoSeq1 (wpAny_loadPart')
open PySem.MeetsSeq PySem.MeetsSeq2 PySem.MeetsSeq3

end

section
variable {prog : Program} {w : World} {A : Around} {E : Value → Shared → Prop} {s : Shared}

def sIx (n d : Nat) : Option Int → Nat
  | none => d
  | some v => if v < 0 then (v + (n : Int)).toNat else min v.toNat n
end
end HT

namespace L2
open PySem PySem.Spec PyProof.Rows

abbrev TO := St → Hp → (Option Int → Hp → Prop) → Prop
def PO (X : Cx) (e : Option Expr) (t : TO) : Prop :=
  ∀ (pins : List (Addr × Obj)) (s : Shared) (σ : St) (H : Hp) (Q : Option Int → Hp → Prop), Inv X pins σ H s → t σ H Q →
    wpAny (model X.prog X.w) X.A (evalPart e X.env) (fun u s' => ∃ o H', Inv X pins σ H' s' ∧ IsPart u o ∧ Q o H') X.xe s
def tNoPart : TO := fun _ H Q => Q none H
def tPart (t : TE) : TO := fun σ H Q => t σ H fun x H1 => ∃ i, x = .int i ∧ Q (some i) H1

section
variable {X : Cx} {e : Expr} {te : TE} {lo hi : Option Expr} {tl th : TO} {pos p2 : Pos}

theorem po_none : PO X none tNoPart := by
  intro pins s σ H Q I h
  rw [evalPart_none]
  exact wpAny_pure ⟨none, H, I, .none, h⟩
theorem po_some (h : PE X e te) : PO X (some e) (tPart te) := by
  intro pins s σ H Q I hw
  rw [evalPart_some]
  refine thn (h pins s σ H _ I hw) fun u s1 ⟨x, H1, I1, r1, q1⟩ => ?_
  obtain ⟨i, rfl, q⟩ := q1
  obtain ⟨t, rfl⟩ := r1
  exact ⟨some i, H1, I1, .int i t, q⟩

def SlR (X : Cx) (r : V → Option Int → Option Int → Hp → VK → Prop) : Prop :=
  ∀ (pins : List (Addr × Obj)) (s : Shared) (σ : St) (H : Hp) (x : V) (v vl vu : Value) (lo hi : Option Int) (sl : Addr) (Q : VK), Inv X pins σ H s → RelV x v → s.heap.IsSliceOf sl vl vu .none → IsPart vl lo → IsPart vu hi → r x lo hi H Q →
    ∃ T id, typeLookup (.type T) "__getitem__" = pure (some (.builtin id)) ∧ s.TypeIs v T ∧ wpAny (model X.prog X.w) X.A (getItem v (.ref sl)) (EP X pins σ Q) X.xe s
def tSl (r : V → Option Int → Option Int → Hp → VK → Prop) (te : TE) (tl th : TO) : TE := fun σ H Q => te σ H fun x H1 => tl σ H1 fun l H2 => th σ H2 fun u H3 => r x l u H3 Q
theorem pe_slice {r : V → Option Int → Option Int → Hp → VK → Prop} (hr : SlR X r) (he : PE X e te) (hl : PO X lo tl) (hu : PO X hi th) : PE X (.Subscript e (.Slice lo hi none p2) pos) (tSl r te tl th) := by
  intro pins s σ H Q I h
  refine Subscript_ (thn (he pins s σ H _ I h) fun v s1 ⟨x, H1, I1, r1, q1⟩ => ?_)
  refine wpAny_Slice (thn (hl pins s1 σ H1 _ I1 q1) fun vl s2 ⟨l, H2, I2, pl, q2⟩ => thn (hu pins s2 σ H2 _ I2 q2) fun vu s3 ⟨u, H3, I3, pu, q3⟩ => ?_)
  rw [evalPart_none]
  refine wpAny_pure ?_
  have I4 : Inv X pins σ H3 { s3 with heap := s3.heap.push { cls := .type "slice", data := .fields #[vl, vu, .none] } } := I3.kept (t' := s3.toks) fun b ob q => Heap.get?_push_of_some _ q
  obtain ⟨T, id, hT, ht, hg⟩ := hr pins { s3 with heap := s3.heap.push { cls := .type "slice", data := .fields #[vl, vu, .none] } } σ H3 x v vl vu l u s3.heap.objs.size Q I4 r1 (Heap.IsSliceOf.new ..) pl pu q3
  show wpAny (model X.prog X.w) X.A (subscriptTail e (.Slice lo hi none p2) v (.ref s3.heap.objs.size)) (EP X pins σ Q) X.xe { s3 with heap := s3.heap.push { cls := .type "slice", data := .fields #[vl, vu, .none] } }
  exact tail_any (ops := [.ref s3.heap.objs.size, v]) ht hT hg (by with_unfolding_all rfl)

def cutV (xs : List V) (lo hi : Option Int) : List V := (xs.drop (HT.sIx xs.length 0 lo)).take (HT.sIx xs.length xs.length hi - HT.sIx xs.length 0 lo)
theorem cutV_length (xs : List V) (lo hi : Option Int) : (cutV xs lo hi).length ≤ xs.length := by
  unfold cutV
  rw [List.length_take, List.length_drop]
  omega
end
end L2

namespace L2
open PySem PySem.Spec PyProof.Rows

def ixN (n : Nat) (i : Int) : Option Nat := if 0 ≤ i then (if i < n then some i.toNat else none) else if -(n : Int) ≤ i then some (i + n).toNat else none
def atI {α : Type} (xs : List α) (i : Int) : Option α := (ixN xs.length i).bind fun j => xs[j]?
theorem ixN_seq {n : Nat} {i : Int} {j : Nat} (h : ixN n i = some j) : seqIndex? i n = some j ∧ j < n ∧ -(n : Int) ≤ i ∧ i < n := by
  unfold ixN at h
  by_cases h0 : 0 ≤ i
  · rw [if_pos h0] at h
    by_cases h1 : i < n
    · rw [if_pos h1] at h
      have e : i.toNat = j := Option.some.inj h
      exact ⟨by rw [seqIndex_of h0 h1, e], by omega, by omega, h1⟩
    · rw [if_neg h1] at h; cases h
  · rw [if_neg h0] at h
    by_cases h1 : -(n : Int) ≤ i
    · rw [if_pos h1] at h
      have e : (i + n).toNat = j := Option.some.inj h
      exact ⟨by rw [seqIndex_neg (by omega) h1, e], by omega, h1, by omega⟩
    · rw [if_neg h1] at h; cases h
theorem atI_get {α : Type} {xs : List α} {i : Int} {v : α} (h : atI xs i = some v) : ∃ j, seqIndex? i xs.length = some j ∧ xs[j]? = some v ∧ j < xs.length ∧ -(xs.length : Int) ≤ i ∧ i < xs.length := by
  unfold atI at h
  cases e : ixN xs.length i with
  | none => rw [e] at h; cases h
  | some j =>
    rw [e] at h
    obtain ⟨h1, h2, h3, h4⟩ := ixN_seq e
    exact ⟨j, h1, h, h2, h3, h4⟩
theorem atI_nat {α : Type} {xs : List α} {j : Nat} {v : α} (h : xs[j]? = some v) : atI xs (j : Int) = some v := by
  have hj : j < xs.length := (List.getElem?_eq_some_iff.mp h).1
  have e : ixN xs.length (j : Int) = some j := by
    unfold ixN
    rw [if_pos (by omega), if_pos (by omega)]; simp
  unfold atI; rw [e]; exact h
def PlainIx (b : Expr) : Prop := ∀ o i, subscripted b false o i = operate [o, i] (getItem o i)
def IxR (X : Cx) (r : R2) : Prop :=
  ∀ (value slice : Expr) (pins : List (Addr × Obj)) (s : Shared) (σ : St) (H : Hp) (x y : V) (v u : Value) (Q : VK), Inv X pins σ H s → RelV x v → RelV y u → r x y H Q →
    subscripted slice false v u = operate [v, u] (getItem v u) → wpAny (model X.prog X.w) X.A (subscriptTail value slice v u) (EP X pins σ Q) X.xe s
def MtR (X : Cx) (id : String) (r : V → List V → Hp → VK → Prop) : Prop :=
  ∀ (pins : List (Addr × Obj)) (s : Shared) (σ : St) (H : Hp) (x : V) (xs : List V) (v : Value) (us : List Value) (Q : VK), Inv X pins σ H s → RelV x v → Vals xs us → r x xs H Q →
    wpAny (model X.prog X.w) X.A (call (.builtin id) (v :: us)) (EP X pins σ Q) X.xe s
section
variable {X : Cx} {a b : Expr} {ta tb : TE} {pos : Pos}
theorem pe_ix {r : R2} (hr : IxR X r) (ha : PE X a ta) (hb : PE X b tb) (hs : PlainIx b) : PE X (.Subscript a b pos) (tOp r ta tb) := by
  intro pins s σ H Q I h
  exact Subscript_ (binT ha hb I h fun v u s2 x y H2 I2 rx ry q => hr a b pins s2 σ H2 x y v u Q I2 rx ry q (hs _ _))

def rIxL (K : PySem.W.Frag) : R2 := fun x y H Q => ∃ p xs i v, x = .ref p ∧ y = .int i ∧ SqL K H p xs ∧ atI xs i = some v ∧ Q v H
def rIxT (K : PySem.W.Frag) : R2 := fun x y H Q => ∃ p xs i v, x = .ref p ∧ y = .int i ∧ SqT K H p xs ∧ atI xs i = some v ∧ Q v H
theorem ix_list : IxR X (rIxL X.K) := by
  intro value slice pins s σ H x y v u Q I rx ry h hs
  obtain ⟨p, xs, i, z, rfl, rfl, hq, he, q⟩ := h
  cases rx
  obtain ⟨t, rfl⟩ := ry
  obtain ⟨its, r, pl, hz⟩ := I.list hq
  obtain ⟨j, h1, h2, h3, h4, h5⟩ := atI_get he
  obtain ⟨w, ew, rw'⟩ := r.get h2
  have hl := r.length
  have hn := line63
  have fin : EP X pins σ Q w s := ⟨z, H, I, rw', q⟩
  by_cases h0 : 0 ≤ i
  · have hj : i.toNat = j := by
      rw [seqIndex_of h0 h5] at h1
      exact Option.some.inj h1
    exact item_listR pl.isList h0 (by omega) (by rw [hj]; simpa using ew) fin hs
  · have hj : (i + (its.toArray.size : Int)).toNat = j := by
      rw [seqIndex_neg (by omega) h4] at h1
      rw [List.size_toArray, ← hl]
      exact Option.some.inj h1
    exact subscriptTail_builtinR (x := w) pl.isList.typeIs slot_list_getitem.lookup
      (wpAny_getItem_list_neg (Q := fun r s' => r = w ∧ EP X pins σ Q r s') pl.isList (by omega) (by rw [List.size_toArray] <;> omega) (by omega) (by rw [hj]; simpa using ew) ⟨rfl, fin⟩) hs
theorem ix_tup : IxR X (rIxT X.K) := by
  intro value slice pins s σ H x y v u Q I rx ry h hs
  obtain ⟨p, xs, i, z, rfl, rfl, hq, he, q⟩ := h
  cases rx
  obtain ⟨t, rfl⟩ := ry
  obtain ⟨its, r, pl, hz⟩ := I.tuple hq
  obtain ⟨j, h1, h2, h3, h4, h5⟩ := atI_get he
  obtain ⟨w, ew, rw'⟩ := r.get h2
  have hl := r.length
  have hn := line63
  have fin : EP X pins σ Q w s := ⟨z, H, I, rw', q⟩
  exact subscriptTail_builtinR (x := w) pl.typeIs slot_tuple_getitem.lookup
    (getItem_tuple (j := j) (Q := fun r s' => r = w ∧ EP X pins σ Q r s') pl (by omega) (by omega) (by rw [List.size_toArray, ← hl]; exact h1) (by simpa using ew) ⟨rfl, fin⟩) hs
theorem slice_bounds (lo hi : Option Int) (n : Nat) : (sliceBounds lo hi none n).1 = ((HT.sIx n 0 lo : Nat) : Int) ∧ (sliceBounds lo hi none n).2.1 = ((HT.sIx n n hi : Nat) : Int) ∧ (sliceBounds lo hi none n).2.2 = 1 := by
  refine ⟨?_, ?_, rfl⟩
  · cases lo with
    | none => simp [sliceBounds, HT.sIx]
    | some i =>
      simp only [sliceBounds, HT.sIx, Option.getD_none, show (1 : Int) > 0 by decide, if_true]
      by_cases h : i < 0
      · simp only [h, if_true] <;> omega
      · simp only [h, if_false] <;> omega
  · cases hi with
    | none => simp [sliceBounds, HT.sIx]
    | some i =>
      simp only [sliceBounds, HT.sIx, Option.getD_none, show (1 : Int) > 0 by decide, if_true]
      by_cases h : i < 0
      · simp only [h, if_true] <;> omega
      · simp only [h, if_false] <;> omega
theorem slicePick_cut (its : List Value) (lo hi : Option Int) : slicePick its.toArray lo hi none = ((its.drop (HT.sIx its.length 0 lo)).take (HT.sIx its.length its.length hi - HT.sIx its.length 0 lo)).toArray := by
  obtain ⟨h1, h2, h3⟩ := slice_bounds lo hi its.toArray.size
  unfold slicePick
  rw [h1, h2, h3]
  simp only [sliceRange_one, pick_run, List.size_toArray] <;> rfl
def rSlL (K : PySem.W.Frag) : V → Option Int → Option Int → Hp → VK → Prop := fun x lo hi H Q => ∃ a xs, x = .ref a ∧ SqL K H a xs ∧ ∀ p, H p = none → Q (.ref p) (upd H p (.lst (cutV xs lo hi)))
theorem sl_list : SlR X (rSlL X.K) := by
  intro pins s σ H x v vl vu lo hi sl Q I rx hs pl pu h
  obtain ⟨a, xs, rfl, hx, q⟩ := h
  cases rx
  obtain ⟨its, r, ht, hz⟩ := I.list hx
  have hlen := r.length
  refine ⟨"list", _, slot_list_getitem.lookup, ht.isList.typeIs, ?_⟩
  refine wpAny_getItem_list_slice ht.isList hs pl pu .none (by simp) ?_ (by rw [List.size_toArray] <;> omega)
  rw [slicePick_cut, ← hlen]
  refine ⟨.ref s.heap.objs.size, _, I.laid (t' := s.toks) (o := .lst (cutV xs lo hi)) (fun b ob q => Heap.get?_push_of_some _ q) (Nat.le_refl _) ?_, rfl, q _ (I.hok.fresh (Nat.le_refl _))⟩
  exact ⟨Nat.le_trans (cutV_length xs lo hi) hz, _, 0, (r.drop (HT.sIx xs.length 0 lo)).take (HT.sIx xs.length xs.length hi - HT.sIx xs.length 0 lo), Heap.get?_push_size _ rfl⟩

theorem call_len_seq : CallR X (.builtin "len") (fun xs H Q => ∃ p ys, xs = [.ref p] ∧ (SqL X.K H p ys ∨ SqT X.K H p ys) ∧ Q (.int ys.length) H) := by
  intro pins s σ H xs us Q I r h
  obtain ⟨p, ys, rfl, hq, q⟩ := h
  obtain ⟨u, rfl, rx⟩ := vals1 r
  cases rx
  have hn := line63
  rcases hq with hq | hq
  · obtain ⟨its, r', pl, hz⟩ := I.list hq
    have hlen := r'.length
    exact Calls.call_len_list pl.isList (by simp only [List.size_toArray] <;> omega) ⟨.int ys.length, H, I.tok _, ⟨s.toks + 1, by rw [List.size_toArray, hlen]⟩, q⟩
  · obtain ⟨its, r', pl, hz⟩ := I.tuple hq
    have hlen := r'.length
    exact len_tuple pl (by simp only [List.size_toArray] <;> omega) ⟨.int ys.length, H, I.tok _, ⟨s.toks + 1, by rw [List.size_toArray, hlen]⟩, q⟩
theorem call_list_of : CallR X (.type "list") (fun xs H Q => ∃ p ys, xs = [.ref p] ∧ (SqL X.K H p ys ∨ SqT X.K H p ys) ∧ ∀ l, H l = none → Q (.ref l) (upd H l (.lst ys))) := by
  intro pins s σ H xs us Q I r h
  obtain ⟨p, ys, rfl, hq, q⟩ := h
  obtain ⟨u, rfl, rx⟩ := vals1 r
  cases rx
  have fin : ∀ (its : List Value), Vals ys its → ys.length ≤ sizeLine → ∀ (h' : Heap) (c' : Nat), (∀ b o', s.heap.get? b = some o' → h'.get? b = some o') →
      h'.get? s.heap.objs.size = some { cls := .type "list", dict := none, data := .seq its.toArray c', slots := #[] } → EP X pins σ Q (.ref s.heap.objs.size) { s with heap := h' } := fun its r' hz h' c' kp e =>
    ⟨.ref s.heap.objs.size, _, I.laid (t' := s.toks) kp (Nat.le_refl _) (show ObjOk X.prog X.w _ h' _ (.lst ys) from ⟨hz, its, c', r', e⟩), rfl, q _ (I.hok.fresh (Nat.le_refl _))⟩
  rcases hq with hq | hq
  · obtain ⟨its, r', pl, hz⟩ := I.list hq
    have hlen := r'.length
    obtain ⟨o, ho, hc, n, hd⟩ := pl.isList
    exact call_list_seq p (.inl rfl) ho hc hd (fun h' c' kp e => fin its r' hz h' c' kp e) (by simp only [List.size_toArray] <;> omega)
  · obtain ⟨its, r', pl, hz⟩ := I.tuple hq
    have hlen := r'.length
    obtain ⟨o, ho, hc, n, hd⟩ := pl
    exact call_list_seq p (.inr rfl) ho hc hd (fun h' c' kp e => fin its r' hz h' c' kp e) (by simp only [List.size_toArray] <;> omega)
def tyV (K : PySem.W.Frag) (T : String) (x : V) (H : Hp) : Prop := match x with
  | .str _ => T = "str"
  | .int _ => T = "int"
  | .ref p => (T = "list" ∧ ∃ xs, SqL K H p xs) ∨ (T = "tuple" ∧ ∃ o, K.lookup p = some o ∧ o.cls = .type "tuple" ∧ o.dict = none) ∨
      (T = "dict" ∧ ((∃ kvs, H p = some (.dK kvs)) ∨ ∃ kvs, H p = some (.dT kvs))) ∨ (T = "set" ∧ ∃ S n, H p = some (.set S n))
  | _ => False
theorem tyV_is {pins : List (Addr × Obj)} {σ : St} {H : Hp} {s : Shared} {T : String} {x : V} {v : Value} (I : Inv X pins σ H s) (r : RelV x v) (ty : tyV X.K T x H) :
    s.TypeIs v T ∧ ∀ a, v = .ref a → ∃ ob, s.heap.get? a = some ob ∧ ob.dict = none := by
  cases x with
  | str z =>
    obtain ⟨t, rfl⟩ := r
    cases (show T = "str" from ty)
    exact ⟨typeIs_str s z t, fun _ e => nomatch e⟩
  | int i =>
    obtain ⟨t, rfl⟩ := r
    cases (show T = "int" from ty)
    exact ⟨typeIs_int s i t, fun _ e => nomatch e⟩
  | ref p =>
    cases r
    rcases ty with ⟨rfl, xs, hq⟩ | ⟨rfl, o, hk, hc, hd⟩ | ⟨rfl, hk⟩ | ⟨rfl, S, n, hk⟩
    · obtain ⟨its, _, pl, _⟩ := I.list hq
      refine ⟨pl.isList.typeIs, fun a e => ?_⟩
      cases e
      obtain ⟨o, n, e, c, hd, _⟩ := pl
      exact ⟨o, e, hd⟩
    · refine ⟨⟨o, I.kIn p o hk, hc⟩, fun a e => ?_⟩
      cases e
      exact ⟨o, I.kIn _ o hk, hd⟩
    · have z : ∃ o, s.heap.get? p = some o ∧ o.ExactDict := by
        rcases hk with ⟨kvs, hk⟩ | ⟨kvs, hk⟩
        · obtain ⟨_, _, _, _, o, _, _, e, ex, _⟩ := I.hok p _ hk
          exact ⟨o, e, ex⟩
        · obtain ⟨_, _, _, _, o, _, _, e, ex, _⟩ := I.hok p _ hk
          exact ⟨o, e, ex⟩
      obtain ⟨o, e, ex⟩ := z
      refine ⟨⟨o, e, ex.1⟩, fun a e2 => ?_⟩
      cases e2
      exact ⟨o, e, ex.2.1⟩
    · obtain ⟨o, _, _, _, e, ex, _⟩ := I.hok p _ hk
      refine ⟨⟨o, e, ex.1⟩, fun a e2 => ?_⟩
      cases e2
      exact ⟨o, e, ex.2.1⟩
  | _ => exact False.elim ty
def tBM0 (K : PySem.W.Frag) (T : String) (r : V → List V → Hp → VK → Prop) (to : TE) : TE := fun σ H Q => to σ H fun x H1 => tyV K T x H1 ∧ r x [] H1 Q
def tBM (K : PySem.W.Frag) (T : String) (r : V → List V → Hp → VK → Prop) (to : TE) (t : TA) : TE := fun σ H Q => to σ H fun x H1 => tyV K T x H1 ∧ t σ H1 fun xs H2 => r x xs H2 Q
variable {o e : Expr} {es : List Expr} {to : TE} {t : TA} {name : Str} {apos cpos : Pos} {T id : String} {r : V → List V → Hp → VK → Prop}
theorem pe_bm0 (pa : PlainAttrs T) (slot : Slot T name id) (hty : typeOf (.builtin id) = pure (.type "method_descriptor")) (hm : MtR X id r) (ho : PE X o to)
    (hbase : attributeBase o name X.env (eval o X.env) = eval o X.env := by rfl) (hline : (apos.endLine == cpos.line) = true := by rfl) : PE X (.Call (.Attribute o name apos) [] [] cpos) (tBM0 X.K T r to) := by
  intro pins s σ H Q I h
  refine wpAny_Call_method0_late hbase hline (thn (ho pins s σ H _ I h) fun v s1 ⟨x, H1, I1, r1, ty, q1⟩ => ?_)
  obtain ⟨h1, h2⟩ := tyV_is I1 r1 ty
  exact ⟨T, id, pa, slot, hty, h1, h2, Calls.callWith_builtin rfl (PySem.evalArgs_none (hm pins s1 σ H1 x [] v [] Q I1 r1 .nil q1))⟩
theorem pe_bm (pa : PlainAttrs T) (slot : Slot T name id) (hty : typeOf (.builtin id) = pure (.type "method_descriptor")) (hm : MtR X id r) (ho : PE X o to) (ha : PA X (e :: es) t)
    (hbase : attributeBase o name X.env (eval o X.env) = eval o X.env := by rfl)
    (hfew : ((backTo cpos (starEach (e :: es) X.env)).all (fun x => !x.1) && (backToKw cpos (keywordEach [] X.env)).all (fun x => x.1.isSome)
      && decide ((e :: es).length + ([] : List Keyword).length + (if ([] : List Keyword).isEmpty then 0 else 1) < 30)) = true := by rfl)
    (hline : (apos.endLine == cpos.line) = true := by rfl) (hs : starEach (e :: es) X.env = (false, eval e X.env) :: starEach es X.env := by rfl) (hplain : (backTo cpos (starEach es X.env)).any (·.1) = false := by rfl) :
    PE X (.Call (.Attribute o name apos) (e :: es) [] cpos) (tBM X.K T r to t) := by
  intro pins s σ H Q I h
  refine wpAny_Call_method_late hbase hfew hline rfl (thn (ho pins s σ H _ I h) fun v s1 ⟨x, H1, I1, r1, ty, q1⟩ => ?_)
  obtain ⟨h1, h2⟩ := tyV_is I1 r1 ty
  refine ⟨T, id, pa, slot, hty, h1, h2, ?_⟩
  have hA := ha cpos pins s1 σ H1 _ I1 q1
  rw [hs] at hA ⊢
  refine Calls.callWith_builtin (by show (false || (backTo cpos (starEach es X.env)).any (·.1)) = false; rw [hplain] <;> rfl) (Calls.evalArgs_plain ?_)
  exact thn hA fun us s2 ⟨vs, H2, I2, r2, q2⟩ => hm pins s2 σ H2 x vs v us Q I2 r1 r2 q2
end
end L2

namespace L2
open PySem PySem.Spec PyProof.Rows

def MtM (X : Cx) (id : String) (r : V → List V → Hp → VK → Prop) : Prop :=
  ∀ (pins : List (Addr × Obj)) (s : Shared) (σ : St) (H : Hp) (x : V) (xs : List V) (v : Value) (us : List Value) (Q : VK), Inv X pins σ H s → RelV x v → Vals xs us → r x xs H Q →
    wpAny (model X.prog X.w) X.A (call (.builtin id) (v :: us)) (EP X pins σ Q) X.xe s

theorem Vals.one : ∀ {x : V} {us : List Value}, Vals [x] us → ∃ u, us = [u] ∧ RelV x u
  | _, _, .cons r .nil => ⟨_, rfl, r⟩
theorem Vals.zero : ∀ {us : List Value}, Vals [] us → us = []
  | _, .nil => rfl
theorem Vals.dropLast {xs : List V} {us : List Value} (h : Vals xs us) : Vals xs.dropLast us.dropLast := by
  induction h with
  | nil => exact .nil
  | cons r t ih =>
    cases t with
    | nil => exact .nil
    | cons q t' => exact .cons r ih
theorem Vals.eraseIdx : ∀ {xs : List V} {us : List Value} (i : Nat), Vals xs us → Vals (xs.eraseIdx i) (us.eraseIdx i)
  | _, _, _, .nil => .nil
  | _, _, 0, .cons _ t => t
  | _, _, i + 1, .cons r t => .cons r (Vals.eraseIdx i t)
theorem Vals.reverse {xs : List V} {us : List Value} (h : Vals xs us) : Vals xs.reverse us.reverse := by
  induction h with
  | nil => exact .nil
  | cons r t ih => rw [List.reverse_cons, List.reverse_cons]; exact Vals.append ih (.cons r .nil)
theorem erase_last {α : Type} (l : List α) : l.eraseIdx (l.length - 1) = l.dropLast := by
  induction l with
  | nil => rfl
  | cons a r ih =>
    cases r with
    | nil => rfl
    | cons b r =>
      have e : (a :: b :: r).length - 1 = ((b :: r).length - 1) + 1 := by
        have h1 : (a :: b :: r).length = r.length + 2 := rfl
        have h2 : (b :: r).length = r.length + 1 := rfl
        omega
      rw [e, List.eraseIdx_cons_succ, ih]
      all_goals rfl
theorem len_erase {α : Type} : ∀ (l : List α) (i : Nat), (l.eraseIdx i).length ≤ l.length
  | [], _ => Nat.le_refl _
  | _ :: _, 0 => Nat.le_succ _
  | _ :: r, i + 1 => Nat.succ_le_succ (len_erase r i)
section
variable {X : Cx} {pins : List (Addr × Obj)} {σ : St} {H : Hp} {s : Shared} {l b : Addr} {xs ys zs : List V}

theorem Inv.lset {its its' : List Value} {n : Nat} {f : Array Value → Array Value} {t' : Nat} (I : Inv X pins σ H s) (hH : H l = some (.lst xs))
    (e : s.heap.get? l = some { cls := .type "list", data := .seq its.toArray n }) (hf : f its.toArray = its'.toArray) (hv : Vals ys its') (hz : ys.length ≤ sizeLine) :
    Inv X pins σ (upd H l (.lst ys)) { s with heap := s.heap.update l (Obj.mapSeq f), toks := t' } := by
  have q := PySem.IsL.update e f
  rw [hf] at q
  refine I.write (x := l) (e := l) (by rw [hH]; exact trivial) (.inl rfl) (fun b' u hb hu => (Heap.get?_update_other s.heap (Obj.mapSeq f) (Ne.symm hb)).trans hu) ⟨_, q⟩ ?_
  exact ⟨hz, its', _, hv, q⟩
theorem Inv.lnew {its : List Value} {t' : Nat} (I : Inv X pins σ H s) (hv : Vals ys its) (hz : ys.length ≤ sizeLine) :
    Inv X pins σ (upd H s.heap.objs.size (.lst ys)) { s with heap := s.heap.push { cls := .type "list", data := .seq its.toArray }, toks := t' } :=
  I.laid (fun _ _ q => Heap.get?_push_of_some _ q) (Nat.le_refl _) ⟨hz, its, 0, hv, Heap.get?_push_size _ rfl⟩
theorem Inv.fresh (I : Inv X pins σ H s) : H s.heap.objs.size = none := I.hok.fresh (Nat.le_refl _)
theorem Inv.lstM (I : Inv X pins σ H s) (hH : H l = some (.lst xs)) : xs.length ≤ sizeLine ∧ ∃ (its : List Value) (n : Nat), Vals xs its ∧ xs.length = its.length ∧ s.heap.get? l = some { cls := .type "list", data := .seq its.toArray n } := by
  obtain ⟨z, its, n, r, e⟩ := I.hok l _ hH
  exact ⟨z, its, n, r, r.length, e⟩

end

section
variable {X : Cx}

def rAppend : V → List V → Hp → VK → Prop := fun x vs H Q => ∃ l xs y, x = .ref l ∧ vs = [y] ∧ H l = some (.lst xs) ∧ xs.length < sizeLine ∧ Q .non (upd H l (.lst (xs ++ [y])))
theorem mt_append : MtM X "list.append" rAppend := by
  intro pins s σ H x vs v us Q I rx rv h
  obtain ⟨l, xs, y, rfl, rfl, hH, hz, q⟩ := h
  cases rx
  obtain ⟨u, rfl, ru⟩ := rv.one
  obtain ⟨z, its, n, r, hl, e⟩ := I.lstM hH
  refine call_meets F.slot_list_append ⟨_, e, rfl⟩ F.entry_list_append (F.args_list_append_2 _ _) (PySem.list_append l its.toArray n u (by rw [List.size_toArray]; omega)) ⟨e, ?_⟩
  refine ⟨.non, _, I.lset (its' := its ++ [u]) hH e (by simp) (r.append (.cons ru .nil)) ?_, rfl, q⟩
  rw [List.length_append, List.length_singleton]
  omega

def rPop : V → List V → Hp → VK → Prop := fun x vs H Q => ∃ l xs y, x = .ref l ∧ vs = [] ∧ H l = some (.lst xs) ∧ xs[xs.length - 1]? = some y ∧ Q y (upd H l (.lst xs.dropLast))
theorem mt_pop : MtM X "list.pop" rPop := by
  intro pins s σ H x vs v us Q I rx rv h
  obtain ⟨l, xs, y, rfl, rfl, hH, hy, q⟩ := h
  cases rx
  have hus := rv.zero
  subst hus
  obtain ⟨z, its, n, r, hl, e⟩ := I.lstM hH
  obtain ⟨u, hu, ru⟩ := r.get hy
  have hy' : its.toArray[its.toArray.size - 1]? = some u := by
    show its.toArray[its.length - 1]? = some u
    rw [← Array.getElem?_toList, ← hl]
    exact hu
  refine call_meets F.slot_list_pop ⟨_, e, rfl⟩ F.entry_list_pop (F.args_list_pop_1 _) (MeetsSeq.list_pop_last l its.toArray n u hy' (by rw [List.size_toArray]; omega)) ⟨e, ?_⟩
  refine ⟨y, _, I.lset (its' := its.dropLast) hH e ?_ r.dropLast ?_, ru, q⟩
  · show its.toArray.eraseIdxIfInBounds (its.toArray.size - 1) = its.dropLast.toArray
    rw [List.size_toArray, List.eraseIdxIfInBounds_toArray, erase_last]
  · rw [List.length_dropLast]
    omega

def rPopAt : V → List V → Hp → VK → Prop := fun x vs H Q => ∃ l xs i k y, x = .ref l ∧ vs = [.int i] ∧ H l = some (.lst xs) ∧ -(2 ^ 63) ≤ i ∧ i < 2 ^ 63 ∧ seqIndex? i xs.length = some k ∧ xs[k]? = some y ∧ Q y (upd H l (.lst (xs.eraseIdx k)))
theorem mt_popAt : MtM X "list.pop" rPopAt := by
  intro pins s σ H x vs v us Q I rx rv h
  obtain ⟨l, xs, i, k, y, rfl, rfl, hH, h1, h2, hk, hy, q⟩ := h
  cases rx
  obtain ⟨u, rfl, ru⟩ := rv.one
  obtain ⟨t, rfl⟩ := ru
  obtain ⟨z, its, n, r, hl, e⟩ := I.lstM hH
  obtain ⟨w, hw, rw'⟩ := r.get hy
  refine call_meets F.slot_list_pop ⟨_, e, rfl⟩ F.entry_list_pop (F.args_list_pop_2 _ _)
    (MeetsSeq.list_pop_at l its.toArray n i t k w (fitsIndex_both h1 h2) (by rw [List.size_toArray, ← hl]; exact hk) (by rw [← Array.getElem?_toList]; exact hw) (by rw [List.size_toArray]; omega)) ⟨e, ?_⟩
  refine ⟨y, _, I.lset (its' := its.eraseIdx k) hH e ?_ (r.eraseIdx k) ?_, rw', q⟩
  · show its.toArray.eraseIdxIfInBounds k = (its.eraseIdx k).toArray
    rw [List.eraseIdxIfInBounds_toArray]
  · have := len_erase xs k
    omega

end


end L2

namespace Att
open PySem PySem.W PySem.Calls PyProof.Rows

theorem ints_of_wellAll {P : Params} {h : Heap} : ∀ (ns : List Int) (vs : List Value), WellAll P h vs (ns.map WData.int) → IntsAre vs ns := by
  intro ns
  induction ns with
  | nil =>
    intro vs w
    rw [List.map_nil] at w
    cases w
    exact .nil
  | cons n ns ih =>
    intro vs w
    rw [List.map_cons] at w
    cases w with
    | cons a b =>
      cases a
      exact .cons _ _ (ih _ b)

theorem script_of {l : OpenLaw} {n : Nat} (hn : l.most = some n) {P : Params} {h : Heap} {args : List WData} {vals : List Value}
    (hpre : l.row.toRowW.claim.pre args = true) (hwl : WellAll P h vals args) :
    ∃ a vs ns, vals = [Value.ref a] ∧ args = [WData.list (ns.map WData.int)] ∧ h.get? a = some { cls := .type "list", data := .seq vs.toArray } ∧ IntsAre vs ns ∧ ns.length ≤ n := by
  have hsh : WShape.hasAll [] args [.list .int] = true := (pre_splitW hpre).1
  have hc : l.pre.holds [] { args := args } = true := (pre_splitW hpre).2
  obtain ⟨d, r, rfl, h1, h2⟩ := hasAllW_cons hsh
  obtain rfl := hasAllW_nil h2
  obtain ⟨xs, rfl, h3⟩ := hasW_list h1
  obtain ⟨ns, rfl⟩ := items_int h3
  have hlen : ns.length ≤ n := by
    unfold OpenLaw.pre at hc
    have h4 : (WTm.not (.lt (.lit (.int (n : Int))) (.len (.arg 0)))).holds [] { args := [.list (ns.map .int)] } = true := by
      have h4 := (holds_andW hc).1
      rw [hn] at h4
      exact h4
    have h5 := condW_of h4 (w_not (w_lt w_lit (w_len_list (w_arg rfl))))
    rw [List.length_map] at h5
    refine Nat.le_of_not_lt fun q => ?_
    have q' : (n : Int) < ((ns.length : Nat) : Int) := by omega
    first
      | (rw [decide_eq_true q'] at h5; exact absurd h5 (by decide))
      | (simp at h5; omega)
  cases hwl with
  | cons w1 w2 =>
    cases w2
    cases w1 with
    | list ho hall => exact ⟨_, _, ns, rfl, rfl, ho, ints_of_wellAll ns _ hall, hlen⟩

theorem post_true (l : OpenLaw) (args : List WData) : l.row.toRowW.claim.post args (.bool true) args = true :=
  postW_of (r := l.row.toRowW) (X := (true == true))
    (show WShape.has [] (.bool true) .bool = true by first | rfl | decide | simp [WShape.has, WShape.arms, WShape.armsAll])
    (show (WTm.eq .res (.lit (.bool true))).value [] { args := args, res := some (.bool true), after := args } = some (.bool (true == true)) from w_eq_bool (w_res rfl) w_lit) rfl

theorem attach_call {l : OpenLaw} {n : Nat} {q : Program} {loose : List Str} {XP : (Str → Option Value) → Heap → Prop} {YP : World → Heap → Prop} {d : DefRec}
    (hn : l.most = some n) (hdf : d.params.defaults = [])
    (call : ∀ (w : World) (s₀ s₁ : Shared) (mg mb : Str → Option Value) (fa : Addr) (o : Obj) (pm cd doc : Value) (a : Addr) (vs : List Value) (ns : List Int),
      Ground q loose [] XP w s₀ mg mb s₁.heap → YP w s₁.heap →
      s₁.heap.get? fa = some o → o.data = .func (docDef d.name d.params d.body d.scope pm cd doc) → s₁.heap.CodeRec cd d.name → mg d.name = some (.ref fa) →
      s₁.heap.get? a = some { cls := .type "list", data := .seq vs.toArray } → IntsAre vs ns → ns.length ≤ n → s₁.gens = #[] →
      codeAny (model l.prog w) callerA (.call (.ref fa) ⟨[.ref a], []⟩) (fun r s' => r = .ok (.ret (.bool true)) ∧ OldK s₁.heap s'.heap ∧ s'.os = s₁.os ∧ AllBare s'.gens) s₁) :
    WalkO q loose XP YP l.row.toRowW d [] (fun f vs => PySem.call f vs) := by
  intro w s₀ s₁ mg mb G Y fa o pm cd doc dV kV ho hd hcd hD hmg hg args vals as hpre hlay hrd hwl hlo
  obtain rfl : dV = .none := Dflts.none hD hdf
  obtain rfl : kV = .none := Dflts.noKw hD
  obtain ⟨a, vs, ns, rfl, rfl, hobj, hints, hlen⟩ := script_of hn hpre hwl
  refine enter_call (codeAny_mono (call w s₀ s₁ mg mb fa o pm cd doc a vs ns G Y ho (fd_plain hd) hcd hmg hobj hints hlen hg) fun r s' hq => ?_)
  obtain ⟨rfl, h2, h3, h4⟩ := hq
  exact ⟨.inl ⟨.bool true, .bool true, [], rfl, fun _ => rfl, .bool true, post_true l _, fun _ => ⟨List.Pairwise.nil, fun _ hm => (nomatch hm)⟩⟩, h2, h3, h4⟩

section
variable {prog : Program} {w : World} {A : Around} {E : Value → Shared → Prop} {s : Shared} {K : Frag}

end
end Att

namespace L2
open PySem PySem.Spec PyProof.Rows

theorem vals_ints : ∀ {vs : List Value} {ns : List Int}, IntsAre vs ns → Vals (ns.map V.int) vs
  | _, _, .nil => .nil
  | _, _, .cons n t h => .cons ⟨t, rfl⟩ (vals_ints h)

def Only (H : Hp) : Prop := ∀ b, H b = none ∨ ∃ o xs, H b = some (.frz o (.lst xs))

theorem law_call {P : Program} {w : World} {K : PySem.W.Frag} {mg mb : Str → Option Value} {CX : CXT} {k : Nat} {fa a : Addr} {fd : FuncData} {x : Str} {sp : Sp} {s₁ : Shared} {vs : List Value} {ns : List Int}
    (KX : K.In s₁.heap) (hns : s₁.heap.Ns mainGlobals mg) (hb : s₁.heap.Ns builtinsNs mb) (hbb : ∀ x : Str, x ≠ "__name__" → mb x = bootBuiltins x) (hlim : s₁.heap.NoLimit) (hg : s₁.gens = #[])
    (ha : s₁.heap.get? a = some { cls := .type "list", data := .seq vs.toArray }) (hi : IntsAre vs ns) (hl : ns.length ≤ sizeLine) (hr : Room k callerA)
    (F : ∀ base : Heap, K.In base → base.Ns mainGlobals mg → FnOk P w K mg base CX k fa fd [x] sp) (hbind : ∀ (s : Shared) (u : Value), BindsTo s fd ⟨[u], []⟩ [(x, u)])
    (hsp : ∀ H : Hp, Only H → SqL K H a (ns.map V.int) → sp [.ref a] H (fun v _ => v = .bl true) fun _ _ _ => False)
    (hCX : ∀ H e s', CX [] H s₁ (fun _ _ _ => False) e s' → False) :
    codeAny (model P w) callerA (.call (.ref fa) ⟨[.ref a], []⟩) (fun r s' => r = .ok (.ret (.bool true)) ∧ OldK s₁.heap s'.heap ∧ s'.os = s₁.os ∧ AllBare s'.gens) s₁ := by
  have rv := vals_ints hi
  have lenV := hi.length
  -- from an abstract heap in which nothing but the script may be tracked
  have core : ∀ H : Hp, Only H → SqL K H a (ns.map V.int) → HOk P w H s₁.heap → (∀ b, H b ≠ none → b = a) → (H a ≠ none → K.lookup a = none) →
      codeAny (model P w) callerA (.call (.ref fa) ⟨[.ref a], []⟩) (fun r s' => r = .ok (.ret (.bool true)) ∧ OldK s₁.heap s'.heap ∧ s'.os = s₁.os ∧ AllBare s'.gens) s₁ := by
    intro H hO hS hok hA hK
    have base_of : ∀ {b : Addr} {o : Obj}, s₁.heap.get? b = some o → H b = none → (hidT s₁.heap H).get? b = some o := fun e n => hidT_get e n
    have noA : ∀ {b : Addr} {o : Obj} {es : Array DictEntry} {ep : Nat}, s₁.heap.get? b = some o → o.data = .dict es ep → H b = none := fun {b o es ep} e d => by
      cases q : H b with
      | none => rfl
      | some u =>
        have e' : b = a := hA b (by rw [q]; simp)
        subst e'
        rw [ha] at e; cases e
        have d' : Data.seq vs.toArray _ = Data.dict es ep := d
        cases d'
    have nsK : ∀ {b : Addr} {m : Str → Option Value}, s₁.heap.Ns b m → (hidT s₁.heap H).Ns b m := fun {b m} ⟨o, es, ep, e, d, r⟩ => ⟨o, es, ep, base_of e (noA e d), d, r⟩
    have hKb : K.In (hidT s₁.heap H) := fun b o e => base_of (KX b o e) (by
      cases q : H b with
      | none => rfl
      | some u =>
        have e' : b = a := hA b (by rw [q]; simp)
        subst e'
        rw [hK (by rw [q]; simp)] at e; cases e)
    have hM : Mod K mg (hidT s₁.heap H) := ⟨hKb, nsK hns, ⟨mb, nsK hb, hbb⟩, let ⟨mc, h1, h2⟩ := hlim; ⟨mc, nsK h1, h2⟩⟩
    have e0 : Env0 P w K mg (hidT s₁.heap H) callerA [] s₁ H := ⟨rfl, hM, fun b o e => of_hidT e, Nat.le_of_eq (hidT_size _ _), trivial, fun b hb => absurd (show b ∈ ([] : List Addr) from hb) (by simp), hok, .of_eq hg⟩
    refine codeAny_mono ((F _ hKb (nsK hns)).run callerA [] s₁ H ⟨[.ref a], []⟩ [.ref a] [.ref a] _ _ hr e0 (hbind s₁ (.ref a)) (.cons rfl .nil) (hsp H hO hS)) fun r s' h => ?_
    cases r with
    | error e => exact (hCX H e s' h).elim
    | ok fl =>
      cases fl with
      | next => exact False.elim h
      | brk => exact False.elim h
      | cont => exact False.elim h
      | ret u =>
        obtain ⟨v, H', os, bare, un, hok', r', q⟩ := h
        have q' : v = .bl true := q
        subst q'
        obtain rfl : u = Value.bool true := r'
        refine ⟨rfl, OldK.of_keep fun b o e => ?_, os, bare⟩
        cases q : H b with
        | none => exact un.keep b o e q (by intro z; exact absurd (show b ∈ ([] : List Addr) from z) (by simp)) (by simp)
        | some u =>
          rcases hO b with z | ⟨ob, xs, z⟩
          · rw [q] at z; cases z
          · have z2 := un.frzs b ob _ z
            obtain ⟨e1, _⟩ := hok b _ z
            obtain ⟨e2, _⟩ := hok' b _ z2
            rw [e] at e1; cases e1
            exact e2
  cases hk : K.lookup a with
  | some o =>
    -- the script is one of the module's own objects
    have e := KX a o hk
    rw [ha] at e
    cases e
    refine core (fun _ => none) (fun _ => .inl rfl) (.inr ⟨_, vs.toArray, _, hk, rfl, rfl, rfl, by rw [List.size_toArray, lenV]; exact hl, by simpa using rv⟩) (fun b u z => by have z' : (none : Option HO) = some u := z; cases z') (fun b z => absurd rfl z) fun z => absurd rfl z
  | none =>
    refine core (fun b => if b = a then some (.frz { cls := .type "list", data := .seq vs.toArray } (.lst (ns.map V.int))) else none) (fun b => ?_) (.inl (.inr ⟨{ cls := .type "list", data := .seq vs.toArray }, if_pos rfl⟩)) (fun b u z => ?_) (fun b z => ?_) fun _ => hk
    · by_cases hb : b = a
      · exact .inr ⟨_, _, if_pos hb⟩
      · exact .inl (if_neg hb)
    · by_cases hb : b = a
      · have z' := (if_pos hb).symm.trans z
        cases z'
        subst hb
        exact ⟨ha, by rw [List.length_map]; exact hl, vs, _, rv, ha⟩
      · have z' := (if_neg hb).symm.trans z
        cases z'
    · by_cases hb : b = a
      · exact hb
      · exact absurd (if_neg hb) z
end L2

namespace L2
open PySem PySem.Spec PyProof.Rows

theorem walk_of {l : PySem.W.OpenLaw} {n k : Nat} {q : Program} {loose : List Str} {XP : (Str → Option Value) → Heap → Prop} {YP : World → Heap → Prop} {d : DefRec} {K : Params → PySem.W.Frag} {CX : World → CXT} {sp : World → Sp} {x : Str}
    (hn : l.most = some n) (hn2 : n ≤ sizeLine) (hdf : d.params.defaults = []) (hr : Room k callerA)
    (hY : ∀ (w : World) (h : Heap), YP w h → (K w.params).In h)
    (F : ∀ (w : World) (mg : Str → Option Value) (fa : Addr) (h : Heap), (K w.params).In h → h.Ns mainGlobals mg → mg d.name = some (.ref fa) →
      ∃ fd : FuncData, (∀ (s : Shared) (u : Value), BindsTo s fd ⟨[u], []⟩ [(x, u)]) ∧
        ∀ base : Heap, (K w.params).In base → base.Ns mainGlobals mg → FnOk l.prog w (K w.params) mg base (CX w) k fa fd [x] (sp w))
    (hsp : ∀ (w : World) (H : Hp) (a : Addr) (ns : List Int), ns.length ≤ n → Only H → SqL (K w.params) H a (ns.map V.int) → sp w [.ref a] H (fun v _ => v = .bl true) fun _ _ _ => False)
    (hCX : ∀ (w : World) (H : Hp) (s : Shared) (e : Value) (s' : Shared), CX w [] H s (fun _ _ _ => False) e s' → False) :
    PySem.W.WalkO q loose XP YP l.row.toRowW d [] (fun f vs => PySem.call f vs) := by
  refine Att.attach_call hn hdf fun w s₀ s₁ mg mb fa o pm cd doc a vs ns G Y ho hd hcd hmg hobj hints hlen hg => ?_
  have KX := hY w _ Y
  obtain ⟨fd, hb, hF⟩ := F w mg fa _ KX G.T.g hmg
  exact law_call KX G.T.g G.T.b G.T.builtins G.T.nolimit hg hobj hints (Nat.le_trans hlen hn2) hr hF hb (fun H hO hS => hsp w H a ns hlen hO hS) fun H e s' => hCX w H s₁ e s'
end L2

namespace L2
open PySem PySem.Spec PyProof.Rows

def defArgs (s : Stmt) : Arguments := match s with
  | .FunctionDef _ a _ _ _ _ _ _ _ _ => a
  | _ => { posonlyargs := [], args := [], vararg := none, kwonlyargs := [], kw_defaults := [], kwarg := none, defaults := [] }
def defBody (s : Stmt) : List Stmt := match s with
  | .FunctionDef _ _ b _ _ _ _ _ _ _ => b
  | _ => []
def defScope (s : Stmt) : Scope := match s with
  | .FunctionDef _ _ _ _ _ _ sc _ _ _ => sc
  | _ => { kind := .function, names := [], isGenerator := false, isCoroutine := false }

abbrev CX0 : CXT := fun _ _ _ _ _ _ => False
abbrev E0 : XK := fun _ _ _ => False
theorem pass0 {X : Cx} : Passes CX0 X E0 := fun _ _ _ _ _ _ _ h => h.elim

structure Fun (K : PySem.W.Frag) (x qual : Str) (st : Stmt) (f : Addr) (fd : FuncData) : Prop where
  ex : ∃ (oc : Value) (od : Option Addr) (kV doc pm : Value) (an : Option Addr) (cdv ct : Value) (osl : Array (Option Value)),
    fd = PySem.W.fnOf x qual (defArgs st) (defBody st) (defScope st) .none kV doc pm an cdv ct ∧ K.lookup f = some ⟨oc, od, .func fd, osl⟩ ∧ PySem.W.codeIn K cdv qual = true
  kp : PySem.W.keepIn K (.ref f) = true
section
variable {P : Program} {w : World} {K : PySem.W.Frag} {mg : Str → Option Value} {base : Heap}
theorem Fun.ok {x qual : Str} {st : Stmt} {f : Addr} {fd : FuncData} {N ps : List Str} {k : Nat} {sp : Sp} (F : Fun K x qual st f fd) (S : FnScope N ps (defScope st)) (len : ∀ vs H Q E, sp vs H Q E → vs.length = ps.length)
    (hbody : ∀ (cdv : Value) (A : Around) (outer : List Env) (s : Shared) (H : Hp) (vs : List V) (Q : VK) (E : XK), Room k (A.deeper (envOfC qual (defScope st) s.heap.objs.size f cdv)) → sp vs H Q E →
      ∃ t, PSs (cxOf CX0 P w K mg base N qual (defScope st) f cdv A outer s H E).nox (defBody st) t ∧ t { nx := fun _ H' => Q .non H', rt := Q } (start N vs) H) : FnOk P w K mg base CX0 (k + 1) f fd ps sp := by
  obtain ⟨oc, od, kV, doc, pm, an, cdv, ct, osl, rfl, lk, hcd⟩ := F.ex
  refine fn_of lk hcd S len fun A outer s H vs Q E hr hsp => ?_
  obtain ⟨t, h, q⟩ := hbody cdv A outer s H vs Q E hr hsp
  exact ⟨t, h.nox, q⟩
theorem Fun.binds {x qual : Str} {st : Stmt} {f : Addr} {fd : FuncData} {ps : List Str} (F : Fun K x qual st f fd)
    (h : ∀ (kV doc pm : Value) (an : Option Addr) (cdv ct : Value) (us : List Value), us.length = ps.length → bindArgs (PySem.W.fnOf x qual (defArgs st) (defBody st) (defScope st) .none kV doc pm an cdv ct) ⟨us, []⟩ = pure (ps.zip us)) : Binds K fd ps [] := by
  obtain ⟨oc, od, kV, doc, pm, an, cdv, ct, osl, rfl, lk, hcd⟩ := F.ex
  exact .all (h kV doc pm an cdv ct)
theorem fun_mk {x qual : Str} {st : Stmt} {f : Addr} {oc : Value} {od an : Option Addr} {osl : Array (Option Value)} {kV doc pm cdv ct : Value} (l : K.lookup f = some ⟨oc, od, .func (PySem.W.fnOf x qual (defArgs st) (defBody st) (defScope st) .none kV doc pm an cdv ct), osl⟩)
    (c : PySem.W.codeIn K cdv qual = true) (k : PySem.W.keepIn K (.ref f) = true) : Fun K x qual st f (PySem.W.fnOf x qual (defArgs st) (defBody st) (defScope st) .none kV doc pm an cdv ct) := ⟨⟨oc, od, kV, doc, pm, an, cdv, ct, osl, rfl, l, c⟩, k⟩
end
theorem hu_of {A : Around} {k : Nat} (hr : Room k A) : A.units + 1 < cLine := Nat.lt_of_le_of_lt (Nat.add_le_add_left (by decide : 1 ≤ 64) _) hr.units
section
variable {X : Cx}
theorem pv (i : Nat) {x : Str} {pos : Pos} (hN : X.N[i]? = some x := by rfl) (hv : Vis X.env.scope x := by first | exact Or.inl rfl | exact Or.inr (Or.inl rfl) | exact Or.inr (Or.inr rfl)) (hd : (x == ("__debug__" : Str)) = false := by decide)
    (hcd : (x == ("__classdict__" : Str)) = false := by decide) : PE X (.Name x pos) (tVar i) := pe_var hN hv hd hcd
end

theorem iteF {A B : Prop} (h : B) : if false = true then A else B := by
  rw [if_neg Bool.false_ne_true]
  exact h
theorem iteT {A B : Prop} (h : A) : if true = true then A else B := by
  rw [if_pos rfl]
  exact h
def Same (H H' : Hp) : Prop := ∀ b o, H b = some o → H' b = some o
theorem Same.refl (H : Hp) : Same H H := fun _ _ h => h
theorem Same.trans {H H1 H2 : Hp} (a : Same H H1) (b : Same H1 H2) : Same H H2 := fun c o h => b c o (a c o h)
theorem Same.free {H H' : Hp} (e : Same H H') {l : Addr} (h : H' l = Option.none) : H l = Option.none := by
  cases q : H l with
  | none => rfl
  | some o =>
    rw [e l o q] at h
    cases h
theorem Same.seq {K : PySem.W.Frag} {H H' : Hp} {a : Addr} {xs : List V} (e : Same H H') (h : SqL K H a xs) : SqL K H' a xs := by
  rcases h with (h | ⟨o, h⟩) | h
  · exact .inl (.inl (e _ _ h))
  · exact .inl (.inr ⟨o, e _ _ h⟩)
  · exact .inr h

end L2

set_option maxHeartbeats 4000000
namespace L2
open PySem PySem.Spec PyProof.Rows PySem.Builtin PySem.Builtin.Str

def T (l : List Nat) : Str := ⟨l.toArray⟩
theorem T_cps (l : List Nat) : (T l).cps.toList = l := by simp [T]
theorem T_inj {a b : List Nat} : T a = T b ↔ a = b := by
  constructor
  · intro h
    have := congrArg (fun x : Str => x.cps.toList) h
    simpa [T] using this
  · rintro rfl; rfl
theorem T_decide (a b : List Nat) : decide ((V.str (T a)) = V.str (T b)) = decide (a = b) := by
  by_cases h : a = b
  · subst h; simp
  · rw [decide_eq_false h, decide_eq_false]
    intro q; injection q with q; exact h (T_inj.mp q)


end L2

namespace L2
open PySem PySem.Spec PyProof.Rows

def clos (cells : List (Str × Addr)) : List (Str × NameKind) → List (Str × Addr) → List (Str × Addr)
  | [], acc => acc
  | (n, k) :: r, acc => if k == .free then (match cells.lookup n with | some c => clos cells r ((n, c) :: acc) | none => clos cells r acc) else clos cells r acc
theorem clos_sub {cells : List (Str × Addr)} : ∀ (names : List (Str × NameKind)) (acc : List (Str × Addr)), (∀ x c, acc.lookup x = some c → cells.lookup x = some c) → ∀ x c, (clos cells names acc).lookup x = some c → cells.lookup x = some c
  | [], _, h => h
  | (n, k) :: r, acc, h => by
    intro x c
    unfold clos
    split
    · cases e : cells.lookup n with
      | none => exact clos_sub r acc h x c
      | some d =>
        refine clos_sub r _ (fun y z hy => ?_) x c
        rw [List.lookup_cons] at hy
        cases q : y == n with
        | true =>
          rw [q] at hy
          have : y = n := by simpa using q
          subst this
          simpa [e] using hy
        | false => rw [q] at hy; exact h y z hy
    · exact clos_sub r acc h x c
theorem clos_acc {cells : List (Str × Addr)} : ∀ (names : List (Str × NameKind)) (acc : List (Str × Addr)) (x : Str), (acc.lookup x).isSome = true → ((clos cells names acc).lookup x).isSome = true
  | [], _, _, h => h
  | (n, k) :: r, acc, x, h => by
    unfold clos
    split
    · cases e : cells.lookup n with
      | none => exact clos_acc r acc x h
      | some d =>
        refine clos_acc r _ x ?_
        rw [List.lookup_cons]
        cases q : x == n with
        | true => rfl
        | false => exact h
    · exact clos_acc r acc x h
theorem clos_has {cells : List (Str × Addr)} : ∀ (names : List (Str × NameKind)) (acc : List (Str × Addr)) (x : Str), (x, NameKind.free) ∈ names → (cells.lookup x).isSome = true → ((clos cells names acc).lookup x).isSome = true
  | (n, k) :: r, acc, x, hm, hs => by
    unfold clos
    rcases List.mem_cons.mp hm with e | hm
    · cases e
      simp only [beq_self_eq_true, if_true]
      obtain ⟨c, hc⟩ := Option.isSome_iff_exists.mp hs
      rw [hc]
      refine clos_acc r _ _ ?_
      simp [List.lookup_cons]
    · split
      · cases e : cells.lookup n with
        | none => exact clos_has r acc x hm hs
        | some d => exact clos_has r _ x hm hs
      · exact clos_has r acc x hm hs
theorem closure_eq {scope : Scope} {env : Env} (h : ∀ x, (x, NameKind.free) ∈ scope.names → (env.cells.lookup x).isSome = true) : closureFor scope env = pure (clos env.cells scope.names []) := by
  have gen : ∀ (names : List (Str × NameKind)) (acc : List (Str × Addr)), (∀ x, (x, NameKind.free) ∈ names → (env.cells.lookup x).isSome = true) →
      (forIn names acc (fun (p : Str × NameKind) (r : List (Str × Addr)) => (if p.2 == NameKind.free then (do let c ← cellOf env p.1; pure (ForInStep.yield ((p.1, c) :: r))) else pure (ForInStep.yield r) : Sem (ForInStep (List (Str × Addr)))))) = pure (clos env.cells names acc) := by
    intro names
    induction names with
    | nil => intro acc _; rfl
    | cons p r ih =>
      obtain ⟨n, k⟩ := p
      intro acc hh
      rw [List.forIn_cons]
      unfold clos
      cases hk : k == NameKind.free with
      | false =>
        simp only [hk, Bool.false_eq_true, if_false]
        exact ih acc fun x hx => hh x (List.mem_cons_of_mem _ hx)
      | true =>
        have hk' : k = .free := by simpa using hk
        subst hk'
        obtain ⟨c, hc⟩ := Option.isSome_iff_exists.mp (hh n List.mem_cons_self)
        have e : cellOf env n = pure c := by unfold cellOf; rw [hc]
        simp only [beq_self_eq_true, if_true, e, hc]
        exact ih _ fun x hx => hh x (List.mem_cons_of_mem _ hx)
  exact (congrArg (fun (m : Sem (List (Str × Addr))) => m >>= fun cs => pure cs) (gen scope.names [] h)).trans rfl

def lcS (nt : Nat) (cs : List Nat) (σ : St) : St := List.replicate nt none ++ cs.map fun i => (σ[i]?).getD none
def lcCx (X : Cx) (N' : List Str) (scope : Scope) (s : Shared) (H : Hp) (C : Addr) (fp : List Addr) : Cx :=
  { X with N := N', s₀ := s, H₀ := H, env := compEnvC scope (clos X.env.cells scope.names []) C X.env, outer := X.stack, stack := X.stack, ex := fp, fn := fun _ => false, pn := [], xe := fun _ _ => False }
def lcOk (Nx : List Str) (sc scope : Scope) (N' : List Str) (nt : Nat) (cs : List Nat) : Bool :=
  decide (scope.kind = .function) && (scope.names.all fun p => match p.2 with
    | .cell => false
    | .local => decide (scope.names.lookup p.1 = some .local)
    | .free => decide (sc.names.lookup p.1 = some .cell) || decide (sc.names.lookup p.1 = some .free)
    | _ => true) && decide (N'.length = nt + cs.length) && (((N'.drop nt).zip cs).all fun p => decide (Nx[p.2]? = some p.1) && decide (scope.names.lookup p.1 = some .free) && (decide (sc.names.lookup p.1 = some .cell) || decide (sc.names.lookup p.1 = some .free)))
structure LcOk (X : Cx) (scope : Scope) (N' : List Str) (nt : Nat) (cs : List Nat) : Prop where
  kind : scope.kind = .function
  nocell : ∀ y ∈ scope.names, y.2 ≠ .cell
  loc : ∀ y ∈ scope.names, y.2 = .local → scope.names.lookup y.1 = some .local
  fr : ∀ x, (x, NameKind.free) ∈ scope.names → X.env.kindOf x = some .cell ∨ X.env.kindOf x = some .free
  len : N'.length = nt + cs.length
  cap : ∀ j i, cs[j]? = some i → ∃ x, N'[nt + j]? = some x ∧ X.N[i]? = some x ∧ scope.names.lookup x = some .free ∧ Vis X.env.scope x ∧ X.env.kindOf x ≠ some .local
theorem LcOk.of {X : Cx} {scope : Scope} {N' : List Str} {nt : Nat} {cs : List Nat} {Nx : List Str} {sc : Scope} (hN : X.N = Nx) (hs : X.env.scope = sc) (h : lcOk Nx sc scope N' nt cs = true) : LcOk X scope N' nt cs := by
  subst hN hs
  unfold lcOk at h
  simp only [Bool.and_eq_true, decide_eq_true_eq, List.all_eq_true] at h
  obtain ⟨⟨⟨h1, h2⟩, h3⟩, h4⟩ := h
  refine ⟨h1, fun y hy e => ?_, fun y hy e => ?_, fun x hx => ?_, h3, fun j i e => ?_⟩
  · have := h2 y hy; rw [e] at this; exact Bool.false_ne_true this
  · have := h2 y hy; rw [e] at this; exact of_decide_eq_true this
  · have := h2 _ hx
    simp only [Bool.or_eq_true, decide_eq_true_eq] at this
    exact this
  · have hj : j < cs.length := (List.getElem?_eq_some_iff.mp e).1
    have hd : (N'.drop nt).length = cs.length := by rw [List.length_drop, h3]; lia
    have hx : (N'.drop nt)[j]? = some ((N'.drop nt)[j]'(by lia)) := by simp [hd, hj]
    generalize (N'.drop nt)[j]'(by lia) = x at hx
    have hz : (x, i) ∈ (N'.drop nt).zip cs := by
      refine List.mem_of_getElem? (i := j) ?_
      rw [List.getElem?_zip_eq_some]
      exact ⟨hx, e⟩
    have q := h4 _ hz
    simp only [Bool.and_eq_true, Bool.or_eq_true, decide_eq_true_eq] at q
    refine ⟨x, by rw [List.getElem?_drop] at hx; exact hx, q.1.1, q.1.2, ?_, fun z => ?_⟩
    · exact q.2.elim (fun z => .inr (.inl z)) fun z => .inr (.inr z)
    · have z' : X.env.scope.names.lookup x = some .local := z
      rcases q.2 with y | y <;> · rw [z'] at y; cases y
theorem relabel_free {env : Env} : ∀ {names : List (Str × NameKind)} {x : Str}, names.lookup x = some .free →
    (names.map fun (n, k) => if (k == NameKind.free && env.scope.kind == .function && env.kindOf n == some .cell) then (n, NameKind.cell) else (n, k)).lookup x = some .cell ∨
    (names.map fun (n, k) => if (k == NameKind.free && env.scope.kind == .function && env.kindOf n == some .cell) then (n, NameKind.cell) else (n, k)).lookup x = some .free
  | [], _, h => by simp at h
  | (n, k) :: r, x, h => by
    have ih := @relabel_free env r x
    show List.lookup x ((if (k == NameKind.free && env.scope.kind == .function && env.kindOf n == some .cell) = true then (n, NameKind.cell) else (n, k)) :: _) = _ ∨ List.lookup x ((if (k == NameKind.free && env.scope.kind == .function && env.kindOf n == some .cell) = true then (n, NameKind.cell) else (n, k)) :: _) = _
    cases hx : x == n with
    | true =>
      simp only [List.lookup_cons, hx] at h
      cases h
      by_cases hc : (NameKind.free == NameKind.free && env.scope.kind == .function && env.kindOf n == some .cell) = true
      · rw [if_pos hc]; left; simp only [List.lookup_cons, hx]
      · rw [if_neg hc]; right; simp only [List.lookup_cons, hx]
    | false =>
      simp only [List.lookup_cons, hx] at h
      by_cases hc : (k == NameKind.free && env.scope.kind == .function && env.kindOf n == some .cell) = true
      · rw [if_pos hc]; simp only [List.lookup_cons, hx]; exact ih h
      · rw [if_neg hc]; simp only [List.lookup_cons, hx]; exact ih h
theorem relabel_back {env : Env} : ∀ {names : List (Str × NameKind)} {x : Str} {q : NameKind}, (∀ y ∈ names, y.2 ≠ .cell) → (q = .cell ∨ q = .free) →
    (names.map fun (n, k) => if (k == NameKind.free && env.scope.kind == .function && env.kindOf n == some .cell) then (n, NameKind.cell) else (n, k)).lookup x = some q → (x, NameKind.free) ∈ names
  | [], _, _, _, _, h => by simp at h
  | (n, k) :: r, x, q, hn, hq, h => by
    have ih := @relabel_back env r x q (fun y hy => hn y (List.mem_cons_of_mem _ hy)) hq
    have h' : List.lookup x ((if (k == NameKind.free && env.scope.kind == .function && env.kindOf n == some .cell) = true then (n, NameKind.cell) else (n, k)) :: (r.map fun (n, k) => if (k == NameKind.free && env.scope.kind == .function && env.kindOf n == some .cell) then (n, NameKind.cell) else (n, k))) = some q := h
    cases hx : x == n with
    | true =>
      have e : x = n := by simpa using hx
      subst e
      by_cases hc : (k == NameKind.free && env.scope.kind == .function && env.kindOf x == some .cell) = true
      · simp only [Bool.and_eq_true, beq_iff_eq] at hc
        rw [hc.1.1]; exact List.mem_cons_self
      · rw [if_neg hc] at h'
        simp only [List.lookup_cons, beq_self_eq_true] at h'
        cases h'
        rcases hq with rfl | rfl
        · exact absurd rfl (hn (x, .cell) List.mem_cons_self)
        · exact List.mem_cons_self
    | false =>
      refine List.mem_cons_of_mem _ (ih ?_)
      by_cases hc : (k == NameKind.free && env.scope.kind == .function && env.kindOf n == some .cell) = true
      · rw [if_pos hc] at h'; simp only [List.lookup_cons, hx] at h'; exact h'
      · rw [if_neg hc] at h'; simp only [List.lookup_cons, hx] at h'; exact h'

section
variable {X : Cx} {pins : List (Addr × Obj)} {σ : St} {H : Hp} {s s' : Shared} {scope : Scope} {N' : List Str} {nt : Nat} {cs : List Nat} {C : Addr} {fp : List Addr} {h' : Heap} {t' : Nat}
theorem lc_enter (I : Inv X pins σ H s) (L : LcOk X scope N' nt cs) (hf : ∀ b ∈ fp, FpOk X pins H b) (hC : s.heap.objs.size ≤ C) (k : ∀ b u, s.heap.get? b = some u → h'.get? b = some u) (hns : h'.Ns C fun _ => none) (fpo : ∀ b ∈ fp, b < s.heap.objs.size) :
    Inv (lcCx X N' scope s H C fp) [] (lcS nt cs σ) H { s with heap := h', toks := t' } := by
  have hfree : H C = none := I.hok.fresh hC
  have csub : ∀ x c, (clos X.env.cells scope.names []).lookup x = some c → X.env.cells.lookup x = some c := clos_sub _ _ fun x c h => by simp at h
  have chas : ∀ x, (x, NameKind.free) ∈ scope.names → ((clos X.env.cells scope.names []).lookup x).isSome = true := fun x hx => by
    refine clos_has _ _ x hx ?_
    obtain ⟨c, e⟩ := I.ok.has x (L.fr x hx)
    rw [e]; rfl
  have I4 : Inv X pins σ H { s with heap := h', toks := t' } := I.kept k
  refine ⟨⟨I.ok.mod, L.kind, I.ok.glob, I.ok.blt, hC, fun x y c h1 h2 => I.ok.inj x y c (csub x c h1) (csub y c h2), fun x hx => ?_, fun x c hx => (nomatch hx), I.ok.hd, I.ok.frames, .inl rfl, fun b hb => ⟨?_, fun x c e => ?_⟩, I.bs, Nat.le_trans I.ok.bsz I.sz, fun b o e hb => ?_, fun b hb => ?_, I.stack, I.stkFree⟩,
    rfl, I.bare, Un.kept k, ⟨_, hns, fun i x v e1 e2 e3 => ?_⟩, fun x c e => ?_, hfree, fun x c e => I.freeC x c (csub x c e), fun p hp => absurd (show p ∈ ([] : List (Addr × Obj)) from hp) (by simp), I4.hok, ?_⟩
  · have hx' : (x, NameKind.free) ∈ scope.names := by
      rcases hx with hx | hx
      · exact relabel_back (env := X.env) L.nocell (.inl rfl) hx
      · exact relabel_back (env := X.env) L.nocell (.inr rfl) hx
    exact Option.isSome_iff_exists.mp (chas x hx')
  · exact Nat.ne_of_lt (Nat.lt_of_lt_of_le (fpo b hb) hC)
  · exact (hf b hb).2.2.2.2.1 x c (csub x c e)
  · obtain ⟨f0, f1, f2, f3, _⟩ := hf b hb
    rcases f3 with z | z
    · exact I.ok.noex b o e z
    · exact absurd (Nat.lt_of_lt_of_le (Heap.lt_size e) (Nat.le_trans I.ok.bsz z)) (Nat.lt_irrefl _)
  · obtain ⟨f0, f1, f2, f3, _⟩ := hf b hb
    intro z
    rcases List.mem_cons.mp (I.stkSub b z) with q | q
    · exact f1 q
    · exact f2 q
  · -- a captured name
    have e2' : (lcS nt cs σ)[i]? = some (some v) := e2
    unfold lcS at e2'
    by_cases hi : i < nt
    · rw [List.getElem?_append_left (by simpa using hi), List.getElem?_replicate] at e2'
      split at e2' <;> cases e2'
    · rw [List.getElem?_append_right (by simpa using hi), List.length_replicate, List.getElem?_map] at e2'
      cases ej : cs[i - nt]? with
      | none => rw [ej] at e2'; cases e2'
      | some j =>
        rw [ej] at e2'
        have e2'' : (σ[j]?).getD none = some v := Option.some.inj e2'
        have hσ : σ[j]? = some (some v) := by
          cases q : σ[j]? with
          | none => rw [q] at e2''; cases e2''
          | some z => rw [q] at e2''; exact congrArg some e2''
        obtain ⟨y, y1, y2, y3, y4, y5⟩ := L.cap _ _ ej
        have hxy : x = y := by
          have e1' : N'[i]? = some x := e1
          rw [show nt + (i - nt) = i by lia, e1'] at y1
          exact Option.some.inj y1
        subst hxy
        obtain ⟨m, hn, hl⟩ := I4.loc
        obtain ⟨u, r, l⟩ := hl j x v y2 hσ y4
        refine ⟨u, r, .inr ⟨relabel_free (env := X.env) y3, ?_⟩⟩
        rcases l with ⟨l, _⟩ | ⟨_, c, hc, hcell⟩
        · exact absurd l y5
        · refine ⟨c, ?_, hcell⟩
          obtain ⟨d, hd⟩ := Option.isSome_iff_exists.mp (chas x (PySem.mem_of_lookup y3))
          have := csub x d hd
          rw [hc] at this
          cases this
          exact hd
  · exact I4.cell x c (csub x c e)
  · show (lcS nt cs σ).length = N'.length
    unfold lcS
    rw [L.len]; simp
theorem lc_leave {σ2 : St} {H2 : Hp} (I : Inv X pins σ H s) (hf : ∀ b ∈ fp, FpOk X pins H b) (J : Inv (lcCx X N' scope s H C fp) [] σ2 H2 s') : Inv X pins σ H2 s' :=
  I.call' (ch := fp) J.os J.base J.hok J.bare fun b hb => by
    obtain ⟨f0, f1, f2, f3, f4, f5⟩ := hf b hb
    exact ⟨f3, f1, f4, f5⟩
end

def PIfs (X : Cx) (ifs : List Expr) (t : TT) : Prop :=
  ∀ (pins : List (Addr × Obj)) (s : Shared) (σ : St) (H : Hp) (Q : Bool → Hp → Prop), Inv X pins σ H s → t σ H Q →
    wpAny (model X.prog X.w) X.A (forIn ifs true fun c r => if r = true then do let ok ← isTrue c X.env (eval c X.env); pure (ForInStep.yield ok) else pure (ForInStep.yield r)) (TP X pins σ Q) X.xe s
def tTrue : TT := fun _ H Q => Q true H
theorem pifs_nil {X : Cx} : PIfs X [] tTrue := fun _ _ _ H _ I h => wpAny_tests_nil ⟨H, I, h⟩
theorem pifs_one {X : Cx} {c : Expr} {t : TT} (h : PT X c t) : PIfs X [c] t := fun pins s σ H Q I hq => wpAny_tests_one (h pins s σ H Q I hq)

def LCG (nt : Nat) (cs : List Nat) (g : TG) (tt : TT) (te : TE) (σ : St) (Q : VK) (J : It) (H1 : Hp) : Prop := ∀ l, H1 l = none → ∃ W : Nat → Nat → Hp → Prop, (∃ m, W 0 m (upd H1 l (.lst []))) ∧ ∀ i m H2, W i m H2 →
  (J.stop i H2 ∧ Q (.ref l) H2) ∨ (J.go i H2 ∧ ∃ N : Hp → Prop, (∀ H', N H' → ∃ m', m' < m ∧ W (i + 1) m' H') ∧ ∀ x H3, J.yld i H2 x H3 → g x (lcS nt cs σ) H3 fun σ2 H4 =>
    (σ2.length = nt + cs.length ∧ σ2.drop nt = (lcS nt cs σ).drop nt) ∧ tt σ2 H4 fun b H5 => if b = true then te σ2 H5 fun y H6 => ∃ xs, H6 l = some (.lst xs) ∧ xs.length < sizeLine ∧ N (upd H6 l (.lst (xs ++ [y]))) else N H5)
def tLC (nt : Nat) (cs : List Nat) (wi : TI) (g : TG) (tt : TT) (te : TE) : TE := fun σ H Q => wi σ H fun J H1 => LCG nt cs g tt te σ Q J H1

theorem lc_turn {prog : Program} {w : World} {A : Around} {R : Result → Shared → Prop} {s : Shared} {elt target iter : Expr} {ifs : List Expr} {scope : Scope} {pos : Pos} {it acc : Value} {env : Env} (I : Nat → Shared → Prop)
    (turn : ∀ n s, I n s → wpAny (model prog w) A (pyNext it) (fun r s₁ => match r with
      | none => R (.ok .next) s₁
      | some v => wpAny (model prog w) A (letOwnedTupleGo target it v) (fun _ s₁' => wpAny (model prog w) A (assign target env v) (fun _ s₂ =>
          wpAny (model prog w) A (forIn ifs true fun c r => if r = true then do let ok ← isTrue c env (eval c env); pure (ForInStep.yield ok) else pure (ForInStep.yield r)) (fun ok s₃ =>
            if ok = true then wpAny (model prog w) A (eval elt env) (fun x s₄ =>
              wpAny (model prog w) A (call (.builtin "list.append") [acc, x]) (fun _ s₅ => ∃ m, m < n ∧ I m s₅) (fun _ _ => False) s₄) (fun _ _ => False) s₃
            else ∃ m, m < n ∧ I m s₃) (fun _ _ => False) s₂) (fun _ _ => False) s₁') (fun _ _ => False) s₁) (fun _ _ => False) s)
    (n : Nat) (h : I n s) : codeAny (model prog w) A (.compLoop (.ListComp elt [⟨target, iter, ifs, 0⟩] scope pos) 0 it acc env) R s := by
  refine codeAny_loop rfl I (fun n s hI => ?_) n h
  show wpAny _ A ((compTurn (.ListComp elt [⟨target, iter, ifs, 0⟩] scope pos) 0 it acc env).onRaise (fun x => do noteFrame x env; theTreesLotGoes x)) _ _ s
  refine wpAny_noted ?_
  rw [compTurn_list]
  refine wpAny_bind (wpAny_standAt (wpAny_bind (wpAny_mono (turn n s hI) (fun r s₁ h₁ => ?_) fun _ _ h' => h'.elim)))
  cases r with
  | none => exact wpAny_pure h₁
  | some v =>
    refine wpAny_bind (wpAny_mono h₁ (fun _ s₁' h₁' => ?_) fun _ _ h' => h'.elim)
    refine wpAny_bind (wpAny_mono h₁' (fun _ s₂ h₂ => wpAny_bind (wpAny_mono h₂ (fun ok s₃ h₃ => ?_) fun _ _ h' => h'.elim)) fun _ _ h' => h'.elim)
    cases ok with
    | false => exact wpAny_pure ⟨rfl, h₃⟩
    | true =>
      exact wpAny_bind (wpAny_bind (wpAny_mono h₃ (fun x s₄ h₄ => wpAny_bind (wpAny_mono h₄ (fun _ s₅ h₅ => wpAny_pure (wpAny_pure ⟨rfl, h₅⟩)) fun _ _ h' => h'.elim)) fun _ _ h' => h'.elim))

section
variable {X : Cx} {elt target iter : Expr} {ifs : List Expr} {scope : Scope} {pos : Pos} {N' : List Str} {nt : Nat} {cs : List Nat} {wi : TI} {g : TG} {tt : TT} {te : TE}
theorem lc_core {use : Option (Value → Sem Unit)} {QQ : Value → Shared → Prop} {p2 : Pos} (hc : X.calm = true) (L : LcOk X scope N' nt cs) (hi : PI X target iter wi)
    (hg : ∀ s H C fp, PG (lcCx X N' scope s H C fp) target g) (ht : ∀ s H C fp, PIfs (lcCx X N' scope s H C fp) ifs tt) (he : ∀ s H C fp, PE (lcCx X N' scope s H C fp) elt te)
    {pins : List (Addr × Obj)} {s : Shared} {σ : St} {H : Hp} {Q : VK} (I : Inv X pins σ H s) (h : tLC nt cs wi g tt te σ H Q)
    (fin : ∀ (l : Addr) (H' : Hp) (s' : Shared) (C : Addr), Inv X pins σ H' s' → FpOk X pins H' C → (∃ m, s'.heap.Ns C m) → Q (.ref l) H' → compPost (model X.prog X.w) X.A X.xe use QQ (.ref l) C (.ok .next) s')
    (hs : ∀ x, foldedSetIterable iter X.env x = pure x := by intro _; rfl) :
    wpAny (model X.prog X.w) X.A (comprehension (.ListComp elt [⟨target, iter, ifs, 0⟩] scope pos) scope X.env p2 (newList []) false (eval iter X.env) use) QQ X.xe s := by
  have hcl : closureFor scope X.env = pure (clos X.env.cells scope.names []) := closure_eq fun x hx => by
    obtain ⟨c, e⟩ := I.ok.has x (L.fr x hx)
    rw [e]; rfl
  refine wpAny_comprehension_free (env := X.env) rfl hs hcl L.kind L.loc (thn (hi pins s σ H _ I h) fun v s1 h1 => thn h1 fun itv s2 h2 => ?_)
  obtain ⟨it, fp, tn, J, H1, e, I2, T, st2, f2, R⟩ := h2
  subst e
  refine wpAny_newObj_type ?_
  have hv : Vals [] ([] : List Value) := .nil
  have I3 := I2.lnew (t' := s2.toks) hv (Nat.zero_le _)
  have hfr : H1 s2.heap.objs.size = none := I2.fresh
  have ne3 : ∀ b ∈ fp, b ≠ s2.heap.objs.size := fun b hb z => by
    obtain ⟨o, e, _⟩ := T.obj _ _ st2 b hb
    have := Heap.lt_size e
    rw [z] at this
    exact Nat.lt_irrefl _ this
  have f3 : ∀ b ∈ fp, FpOk X pins (upd H1 s2.heap.objs.size (.lst [])) b := fun b hb => ⟨by rw [upd_ne (ne3 b hb)]; exact (f2 b hb).1, (f2 b hb).2⟩
  obtain ⟨W, ⟨m0, w0⟩, turn⟩ := R _ hfr
  refine wpAny_newFunctionEnv L.nocell (by intro y hy; simp at hy) (fun h4 hns hsb => ?_) L.kind
  dsimp only at hns hsb ⊢
  generalize hH3 : s2.heap.push { cls := .type "list", dict := none, data := .seq ([] : List Value).toArray } = h3 at hns hsb I3 ⊢
  have hsz3 : h3.objs.size = s2.heap.objs.size + 1 := by rw [← hH3, Heap.size_push]
  have up4 : ∀ b u, h3.get? b = some u → h4.get? b = some u := fun b u e => hsb.extBut b u (Nat.ne_of_lt (Heap.lt_size e)) (Heap.get?_push_of_some _ e)
  have fpo : ∀ b ∈ fp, b < h3.objs.size := fun b hb => by
    obtain ⟨o, e, _⟩ := T.obj _ _ st2 b hb
    exact Nat.lt_of_lt_of_le (Heap.lt_size e) (by rw [hsz3]; exact Nat.le_succ _)
  have up3 : ∀ b u, s2.heap.get? b = some u → h3.get? b = some u := fun b u e => hH3 ▸ Heap.get?_push_of_some _ e
  have J4 : Inv (lcCx X N' scope { s2 with heap := h3 } (upd H1 s2.heap.objs.size (.lst [])) h3.objs.size fp) [] (lcS nt cs σ) (upd H1 s2.heap.objs.size (.lst [])) { s2 with heap := h4, toks := s2.toks + ([] : List (Str × Value)).length } :=
    lc_enter (t' := s2.toks + ([] : List (Str × Value)).length) I3 L f3 (Nat.le_refl _) up4 (by simpa using hns) fpo
  have st4 : tn 0 h4 := T.keep _ _ _ st2 fun b hb o e => up4 b o (up3 b o e)
  generalize hs3 : ({ s2 with heap := h3 } : Shared) = s3 at I3 J4
  generalize hX' : lcCx X N' scope s3 (upd H1 s2.heap.objs.size (.lst [])) h3.objs.size fp = X' at J4
  have hg' : PG X' target g := hX' ▸ hg _ _ _ _
  have ht' : PIfs X' ifs tt := hX' ▸ ht _ _ _ _
  have he' : PE X' elt te := hX' ▸ he _ _ _ _
  have stat : ∀ {H' : Hp}, (∀ b ∈ fp, H' b = none) → ∀ b ∈ fp, FpOk X' [] H' b := fun hn b hb => by
    subst hX'
    refine ⟨hn b hb, Nat.ne_of_lt (fpo b hb), J4.ok.exfs b hb, .inl hb, (J4.ok.exf b hb).2, fun p hp => absurd (show p ∈ ([] : List (Addr × Obj)) from hp) (by simp)⟩
  have loop : codeAny (model X.prog X.w) X.A (.compLoop (.ListComp elt [⟨target, iter, ifs, 0⟩] scope pos) 0 (.ref it) (.ref s2.heap.objs.size) (compEnvC scope (clos X.env.cells scope.names []) h3.objs.size X.env))
      (compPost (model X.prog X.w) X.A X.xe use QQ (.ref s2.heap.objs.size) h3.objs.size) { s2 with heap := h4, toks := s2.toks + ([] : List (Str × Value)).length } := by
    have eA : X'.A = X.A := by subst hX'; rfl
    have eP : X'.prog = X.prog := by subst hX'; rfl
    have eW : X'.w = X.w := by subst hX'; rfl
    have eK : X'.K = X.K := by subst hX'; rfl
    have eC : X'.calm = true := by subst hX'; exact hc
    have eE : X'.env = compEnvC scope (clos X.env.cells scope.names []) h3.objs.size X.env := by subst hX'; rfl
    have eX : X'.xe = fun _ _ => False := by subst hX'; rfl
    refine lc_turn (fun n s' => ∃ i H', Inv X' [] (lcS nt cs σ) H' s' ∧ tn i s'.heap ∧ (∀ b ∈ fp, H' b = none) ∧ W i n H') ?_ m0 ⟨0, _, J4, st4, fun b hb => (f3 b hb).1, w0⟩
    rintro n s5 ⟨i, H5, J5, st5, fr5, w5⟩
    rcases turn i n H5 w5 with ⟨stop, qn⟩ | ⟨go, N, hN, step⟩
    · have d := T.done X' eP eW eK eC i [] s5 (lcS nt cs σ) H5 (fun _ _ => False) J5 (stat fr5) st5 stop
      rw [eA] at d
      refine thn d fun r s6 ⟨hr, J6⟩ => ?_
      subst hr
      have I6 : Inv X pins σ H5 s6 := by subst hX'; subst hs3; exact lc_leave I3 f3 J6
      refine fin _ H5 s6 h3.objs.size I6 ?_ ?_ qn
      · have hn : H5 h3.objs.size = none := by subst hX'; exact J6.free
        subst hs3
        exact I3.fpOk (Nat.le_refl _) hn
      · obtain ⟨m, hm, _⟩ := J6.loc
        subst hX'
        exact ⟨m, hm⟩
    · have d := T.item X' eP eW eK eC i [] s5 (lcS nt cs σ) H5 (fun _ _ => False) J5 (stat fr5) st5 go
      rw [eA] at d
      refine thn d fun r s6 ⟨u, hr, h6⟩ => ?_
      subst hr
      refine thn h6 fun _ s7 ⟨x, H7, J7, r7, y7, st7, fr7⟩ => ?_
      have J7' := J7.pinned (stat fr7) (T.obj _ _ st7)
      have a := hg' _ s7 (lcS nt cs σ) H7 x u _ J7' r7 (step x H7 y7)
      rw [eA, eP, eW, eE, eX] at a
      refine thn a fun _ s8 ⟨σ8, H8, J8, ⟨e8, d8⟩, q8⟩ => ?_
      have b := ht' _ s8 σ8 H8 _ J8 q8
      rw [eA, eP, eW, eE, eX] at b
      have again : ∀ {s9 : Shared} {H9 : Hp}, Inv X' ([] ++ pinsAt fp s7.heap) σ8 H9 s9 → N H9 → ∃ m, m < n ∧ ∃ i H', Inv X' [] (lcS nt cs σ) H' s9 ∧ tn i s9.heap ∧ (∀ b ∈ fp, H' b = none) ∧ W i m H' := fun {s9 H9} J9 n9 => by
        obtain ⟨m', hm, w9⟩ := hN H9 n9
        refine ⟨m', hm, i + 1, H9, ?_, T.keep _ _ _ st7 fun b hb o e => (J9.pin (b, o) (List.mem_append_right _ (List.mem_append_right _ (mem_pinsAt hb e)))).1, fun b hb => ?_, w9⟩
        · refine J9.unpinned.weak ?_ fun j v ej => ?_
          · rw [e8]; unfold lcS; simp
          · by_cases hj : j < nt
            · unfold lcS at ej
              rw [List.getElem?_append_left (by simpa using hj), List.getElem?_replicate] at ej
              split at ej <;> cases ej
            · have z := congrArg (fun l : St => l[j - nt]?) d8
              simp only [List.getElem?_drop] at z
              rw [show nt + (j - nt) = j by omega] at z
              rw [z]; exact ej
        · obtain ⟨o, e, _⟩ := T.obj _ _ st7 b hb
          exact (J9.pin (b, o) (List.mem_append_right _ (List.mem_append_right _ (mem_pinsAt hb e)))).2.1
      refine thn b fun ok s9 ⟨H9, J9, q9⟩ => ?_
      cases ok with
      | false =>
        rw [if_neg Bool.false_ne_true] at q9 ⊢
        exact again J9 q9
      | true =>
        rw [if_pos rfl] at q9 ⊢
        have c := he' _ s9 σ8 H9 _ J9 q9
        rw [eA, eP, eW, eE, eX] at c
        refine thn c fun y sA ⟨vy, HA, JA, ry, xs, hl, hz, nA⟩ => ?_
        have ap := mt_append (X := X') _ sA σ8 HA (.ref s2.heap.objs.size) [vy] (.ref s2.heap.objs.size) [y] (fun _ H' => N H') JA rfl (.cons ry .nil) ⟨_, xs, vy, rfl, rfl, hl, hz, nA⟩
        rw [eA, eP, eW, eX] at ap
        exact thn ap fun _ sB ⟨_, HB, JB, _, nB⟩ => again JB nB
  exact codeAny_compStart_list loop (T.self X.A 0 _ _ _ st4 loop)

theorem pe_lc (hc : X.calm = true) (L : LcOk X scope N' nt cs) (hi : PI X target iter wi)
    (hg : ∀ s H C fp, PG (lcCx X N' scope s H C fp) target g) (ht : ∀ s H C fp, PIfs (lcCx X N' scope s H C fp) ifs tt) (he : ∀ s H C fp, PE (lcCx X N' scope s H C fp) elt te)
    (hs : ∀ x, foldedSetIterable iter X.env x = pure x := by intro _; rfl) : PE X (.ListComp elt [⟨target, iter, ifs, 0⟩] scope pos) (tLC nt cs wi g tt te) := by
  intro pins s σ H Q I h
  rw [eval_ListComp]
  refine lc_core (use := none) hc L hi hg ht he I h (fun l H' s' C I' f ⟨m, hm⟩ q => ⟨m, hm, fun h' hs' => ?_⟩) hs
  obtain ⟨f0, f1, f2, f3, f4, f5⟩ := f
  exact ⟨.ref l, H', I'.turned (t' := s'.toks) (fun b o hb e => hs'.extBut b o hb e) f0 f1 f3 f4 f5, rfl, q⟩
theorem ps_setLC {i : Nat} {y : Str} {py spos : Pos} (hN : X.N.Nodup) (hy : X.N[i]? = some y) (hx : Loc X.env.scope y) (hc : X.calm = true) (L : LcOk X scope N' nt cs) (hi : PI X target iter wi)
    (hg : ∀ s H C fp, PG (lcCx X N' scope s H C fp) target g) (ht : ∀ s H C fp, PIfs (lcCx X N' scope s H C fp) ifs tt) (he : ∀ s H C fp, PE (lcCx X N' scope s H C fp) elt te)
    (hsw : swapsWith (.ListComp elt [⟨target, iter, ifs, 0⟩] scope pos) (some (.Name y py)) spos.line X.env = pure true := by rfl)
    (hs : ∀ x, foldedSetIterable iter X.env x = pure x := by intro _; rfl) (hf : X.fn y = true ∨ X.env.scope.names.lookup y = some .local := by first | exact .inl rfl | exact .inr rfl | assumption) :
    PS X (.Assign [.Name y py] (.ListComp elt [⟨target, iter, ifs, 0⟩] scope pos) spos) (tAsg (tLC nt cs wi g tt te) (gName i)) := by
  intro pins s σ H D I h
  rw [exec_Assign_Name_used _ _ _ _ hsw]
  refine wpAny_bind (wpAny_standAt (wpAny_bind ?_))
  show wpAny _ X.A (do let _ ← comprehension (.ListComp elt [⟨target, iter, ifs, 0⟩] scope pos) scope X.env _ (newList []) false (eval iter X.env) (some (assign (.Name y py) X.env))) _ _ s
  refine wpAny_bind (thn (lc_core (QQ := fun _ s' => SP X pins D .next s') (use := some (assign (.Name y py) X.env)) hc L hi hg ht he I h (fun l H' s' C I' f hm q => ?_) hs) (fun _ s' hq => wpAny_pure (wpAny_pure hq)))
  show wpAny _ X.A (assign (.Name y py) X.env (.ref l)) _ _ _
  refine wpAny_assign_Name (store_ok2 I' hN hy hx (v := .ref l) rfl (fun s2 I2 ⟨a, hsb, ha⟩ => ?_) hf)
  obtain ⟨m, hm⟩ := hm
  obtain ⟨f0, f1, f2, f3, f4, f5⟩ := f
  have hCa : C ≠ a := by
    rcases ha with rfl | ha
    · exact f1
    · exact fun z => f4 y a ha z.symm
  refine ⟨m, hm.sameBut hsb hCa, fun h' hs' => ?_⟩
  exact ⟨_, H', I2.turned (t' := s2.toks) (fun b o hb e => hs'.extBut b o hb e) f0 f1 f3 f4 f5, q⟩
end
end L2

namespace L2
open PySem PySem.Spec PyProof.Rows
section
variable {X : Cx} {a b : Expr} {ta tb : TE} {pos : Pos}
theorem call_isi_bool_bool : CallR X (.builtin "isinstance") (fun xs H Q => ∃ x, xs = [.bl x, .ty "bool"] ∧ Q (.bl true) H) := by
  intro pins s σ H xs us Q I r h
  obtain ⟨x, rfl, q⟩ := h
  obtain ⟨u, v, rfl, rfl, rfl⟩ := vals2 r
  exact IsiPair.bool_bool ⟨.bl true, H, I, rfl, q⟩
theorem call_isi_int_int : CallR X (.builtin "isinstance") (fun xs H Q => ∃ x, xs = [.int x, .ty "int"] ∧ Q (.bl true) H) := by
  intro pins s σ H xs us Q I r h
  obtain ⟨x, rfl, q⟩ := h
  obtain ⟨u, v, rfl, ⟨t, rfl⟩, rfl⟩ := vals2 r
  exact IsiPair.int_int ⟨.bl true, H, I, rfl, q⟩
theorem call_isi_int_bool : CallR X (.builtin "isinstance") (fun xs H Q => ∃ x, xs = [.int x, .ty "bool"] ∧ Q (.bl false) H) := by
  intro pins s σ H xs us Q I r h
  obtain ⟨x, rfl, q⟩ := h
  obtain ⟨u, v, rfl, ⟨t, rfl⟩, rfl⟩ := vals2 r
  exact IsiPair.int_bool ⟨.bl false, H, I.tok _, rfl, q⟩
end
end L2
namespace L2
open PySem PySem.Spec PyProof.Rows
theorem SqL.same {K : PySem.W.Frag} {H H' : Hp} {a : Addr} {xs : List V} (e : Same H H') (h : SqL K H a xs) : SqL K H' a xs := e.seq h
theorem SqT.same {K : PySem.W.Frag} {H H' : Hp} {a : Addr} {xs : List V} (e : Same H H') (h : SqT K H a xs) : SqT K H' a xs := by
  rcases h with (h | ⟨o, h⟩) | h
  · exact .inl (.inl (e _ _ h))
  · exact .inl (.inr ⟨o, e _ _ h⟩)
  · exact .inr h
theorem Same.upd {H : Hp} {l : Addr} {o : HO} (h : H l = none) : Same H (upd H l o) := fun b u e => by rw [upd_ne (ne_of_none e h)]; exact e
end L2
namespace L2
open PySem
end L2
namespace L2
open PySem
end L2
namespace L2
open PySem
end L2

namespace L2
open PySem PySem.Spec PyProof.Rows
section
variable {X : Cx} {pins : List (Addr × Obj)} {σ : St} {H : Hp} {s : Shared} {h' : Heap} {t' : Nat} {wr : List Addr}
theorem Inv.turns (I : Inv X pins σ H s) (hf : ∀ b ∈ wr, FpOk X pins H b) (k : ∀ b o, b ∉ wr → s.heap.get? b = some o → h'.get? b = some o) : Inv X pins σ H { s with heap := h', toks := t' } := by
  have nw : ∀ b u, H b = some u → b ∉ wr := fun b u e z => by have := (hf b z).1; rw [e] at this; cases this
  have nL : X.env.locals ∉ wr := fun z => (hf _ z).2.1 rfl
  refine I.step (g' := s.gens) (d' := s.drawn) (ch := wr) (fun b hb => ?_) (fun b o _ _ hc e _ => k b o hc e) (fun b o _ _ hc e _ => ⟨o.slots, k b o hc e⟩) (fun _ _ _ _ n => n)
    (fun b o hc e => ⟨o, k b o hc e⟩) (fun _ _ e => e) (fun _ _ _ e => e) (fun b ps e => ⟨#[], by rw [e]; simp⟩) (fun m hm => ?_) (fun b u e => ?_) I.bare
  · obtain ⟨f0, f1, f2, f3, f4, f5⟩ := hf b hb
    exact ⟨f3, f1, f4, f5⟩
  · obtain ⟨o, es, ep, ho, r⟩ := hm
    exact ⟨o, es, ep, k _ o nL ho, r⟩
  · refine (I.hok b u e).stay (fun c v hc q => k c v ?_ q) (fun _ q => q) fun _ _ q => q
    rcases hc with z | z
    · rw [z]; exact nw b u e
    · exact nw c _ z
theorem Inv.turnsT (I : Inv X pins σ H s) {T0 : Addr} {vs : List V} {vals : Array Value} (hf : ∀ b ∈ wr, FpOk X pins H b) (k : ∀ b o, b ∉ wr → s.heap.get? b = some o → h'.get? b = some o) (hT : s.heap.objs.size ≤ T0) (ht : h'.IsTuple T0 vals) (hv : Vals vs vals.toList)
    (hz : vs.length ≤ sizeLine) : Inv X pins σ (upd H T0 (.tup vs)) { s with heap := h', toks := t' } := by
  have nw : ∀ b u, H b = some u → b ∉ wr := fun b u e z => by have := (hf b z).1; rw [e] at this; cases this
  have nL : X.env.locals ∉ wr := fun z => (hf _ z).2.1 rfl
  have fresh : H T0 = none := I.hok.fresh hT
  have ne : ∀ b o, s.heap.get? b = some o → b ≠ T0 := fun b o e => Nat.ne_of_lt (Nat.lt_of_lt_of_le (Heap.lt_size e) hT)
  refine I.step (g' := s.gens) (d' := s.drawn) (ch := wr) (fun b hb => ?_) (fun b o _ _ hc e _ => k b o hc e) (fun b o _ _ hc e _ => ⟨o.slots, k b o hc e⟩) (fun b o _ e n => by rw [upd_ne (ne b o e)]; exact n)
    (fun b o hc e => ⟨o, k b o hc e⟩) (fun b xs e => by rw [upd_ne (ne_of_none e fresh)]; exact e) (fun b o u e => by rw [upd_ne (ne_of_none e fresh)]; exact e) (fun b ps e => ⟨#[], by rw [upd_ne (ne_of_none e fresh), e]; simp⟩) (fun m hm => ?_) (fun b u e => ?_) I.bare
  · obtain ⟨f0, f1, f2, f3, f4, f5⟩ := hf b hb
    exact ⟨f3, f1, f4, f5⟩
  · obtain ⟨o, es, ep, ho, r⟩ := hm
    exact ⟨o, es, ep, k _ o nL ho, r⟩
  · by_cases hb : b = T0
    · subst hb
      rw [upd_same] at e
      cases e
      have ht2 : h'.IsTuple b vals.toList.toArray := by simpa using ht
      exact ⟨hz, vals.toList, hv, ht2⟩
    · rw [upd_ne hb] at e
      refine (I.hok b u e).stay (fun c v hc q => k c v ?_ q) (fun c q => by rw [upd_ne (ne_of_none q fresh)]; exact q) fun c xs q => by rw [upd_ne (ne_of_none q fresh)]; exact q
      rcases hc with z | z
      · rw [z]; exact nw b u e
      · exact nw c _ z
end
end L2

namespace L2
open PySem PySem.Spec PyProof.Rows
def RngO (r : Addr) (a b c : Int) : HO := .ext fun h => ∃ t u v, IsRange h r a b c t u v
section
variable {X : Cx} {pins : List (Addr × Obj)} {σ : St} {H : Hp} {s : Shared}
theorem Inv.rng {a b c : Int} {t u v : Tok} {t' : Nat} (I : Inv X pins σ H s) : Inv X pins σ (upd H s.heap.objs.size (RngO s.heap.objs.size a b c)) { s with heap := s.heap.push { cls := .type "range", data := .fields #[.int a t, .int b u, .int c v] }, toks := t' } :=
  I.laid (fun _ _ q => Heap.get?_push_of_some _ q) (Nat.le_refl _) ⟨⟨t, u, v, Heap.get?_push_size _ rfl⟩, ⟨_, Heap.get?_push_size _ rfl⟩, fun h1 h2 ⟨t1, u1, v1, z⟩ k => ⟨t1, u1, v1, k _ z⟩⟩
end
section
variable {X : Cx} {e1 e2 e3 : Expr} {ta : TA} {p pos : Pos} {tg : Expr}
def tRng1 (ta : TA) : TE := fun σ H Q => ta σ H fun vs H1 => ∃ j : Int, vs = [.int j] ∧ ∀ r, H1 r = none → Q (.ref r) (upd H1 r (RngO r 0 j 1))
theorem pe_range1 (hg : Gl X "range") (hm : X.mg "range" = none) (ha : PA X [e1] ta) (hs : starEach [e1] X.env = [(false, eval e1 X.env)] := by rfl) : PE X (.Call (.Name "range" p) [e1] [] pos) (tRng1 ta) := by
  intro pins s σ H Q I h
  refine Call_ (ld_blt I hg hm boot_range (PyProof.Rows.callWith_type1 (thn (ha pos pins s σ H _ I h) fun us s1 ⟨vs, H1, I1, r1, q1⟩ => ?_) hs rfl))
  obtain ⟨j, rfl, q⟩ := q1
  obtain ⟨u, rfl, ru⟩ := vals1 r1
  obtain ⟨t, rfl⟩ := ru
  exact call_range_1 ⟨.ref s1.heap.objs.size, _, I1.rng, rfl, q _ I1.fresh⟩
theorem call_list_rng (hc : X.calm = true) : CallR X (.type "list") (fun xs H Q => ∃ r a b c n, xs = [.ref r] ∧ H r = some (RngO r a b c) ∧ Builtin.Range.small a b c = true ∧ Builtin.Range.rangeSize a b c = ((n : Nat) : Int) ∧ n ≤ 1048576 ∧ ∀ l, H l = none → Q (.ref l) (upd H l (.lst ((List.range n).map fun (i : Nat) => .int (a + (i : Int) * c))))) := by
  intro pins s σ H xs us Q I r h
  obtain ⟨rr, a, b, c, n, rfl, hr, hsm, hn, hle, q⟩ := h
  obtain ⟨u, rfl, ru⟩ := vals1 r
  cases ru
  obtain ⟨⟨t, u, v, hR⟩, _, _⟩ := I.hok rr _ hr
  refine call_list_range (I.ok.hd hc) hR hsm hn (Nat.le_trans hle (by decide)) fun h' tk acc k hk hl hit => ?_
  have hv : Vals ((List.range n).map fun (i : Nat) => V.int (a + (i : Int) * c)) acc.toList := by
    obtain ⟨hsz, hit⟩ := hit
    have gen : ∀ (m : Nat) (l : List Value), l.length = m → (∀ (i : Nat) v, l[i]? = some v → ∃ t, v = Value.int (a + (i : Int) * c) t) → Vals ((List.range m).map fun (i : Nat) => V.int (a + (i : Int) * c)) l := by
      intro m
      induction m with
      | zero => intro l hl _; have := List.eq_nil_of_length_eq_zero hl; subst this; exact .nil
      | succ m ih =>
        intro l hl hi
        obtain ⟨l', x, rfl⟩ : ∃ l' x, l = l' ++ [x] := by
          cases e : l.getLast? with
          | none => have := List.getLast?_eq_none_iff.mp e; subst this; cases hl
          | some x => obtain ⟨l', e'⟩ := List.getLast?_eq_some_iff.mp e; exact ⟨l', x, e'⟩
        have hl' : l'.length = m := by simpa using hl
        rw [List.range_succ, List.map_append]
        refine Vals.append (ih l' hl' fun i v hv => hi i v ?_) (.cons ?_ .nil)
        · rw [List.getElem?_append_left (List.getElem?_eq_some_iff.mp hv).1]; exact hv
        · obtain ⟨t, e⟩ := hi m x (by rw [← hl']; simp)
          exact ⟨t, e⟩
    exact gen n acc.toList (by simpa using hsz) fun i v hv => by
      have : acc[i]? = some v := by simpa using hv
      obtain ⟨t, e⟩ := hit i v this
      exact ⟨t, e⟩
  have hz : ((List.range n).map fun (i : Nat) => V.int (a + (i : Int) * c)).length ≤ sizeLine := by rw [List.length_map, List.length_range, sizeLine_eq]; lia
  exact ⟨.ref s.heap.objs.size, _, I.laid hk (Nat.le_refl _) (show ObjOk X.prog X.w _ _ _ (.lst _) from ⟨hz, acc.toList, k, hv, by simpa using hl⟩), rfl, q _ I.fresh⟩
end
end L2
namespace L2
open PySem PySem.Spec PyProof.Rows
end L2
namespace L2
open PySem
end L2

namespace L2
open PySem PySem.Spec PyProof.Rows
structure ZipAp (z TI TO i1 i2 : Addr) (fp1 fp2 : List Addr) : Prop where
  TIz : TI ≠ z
  TOz : TO ≠ z
  i1z : i1 ≠ z
  i2z : i2 ≠ z
  TITO : TI ≠ TO
  TIi1 : TI ≠ i1
  TIi2 : TI ≠ i2
  TOi1 : TO ≠ i1
  TOi2 : TO ≠ i2
  i12 : i1 ≠ i2
  m1 : i1 ∈ fp1
  m2 : i2 ∈ fp2
  f1 : ∀ b ∈ fp1, b ≠ z ∧ b ≠ TO ∧ b ≠ i2
  f2 : ∀ b ∈ fp2, b ≠ z ∧ b ≠ TO ∧ b ≠ i1
end L2

namespace L2
open PySem PySem.Spec PyProof.Rows
theorem lri_no_len : typeLookup (.type "list_reverseiterator") "__len__" = pure none := by rw [typeLookup_type, builtinLookup_eq_fast]; kernel_rfl
theorem slot_lri_hint : Slot "list_reverseiterator" "__length_hint__" "list_reverseiterator.__length_hint__" :=
  .of (owner := "list_reverseiterator") (n := "__length_hint__") (by rw [typeLookup_type, builtinLookup_eq_fast]; kernel_rfl) (by decide +kernel) (by decide +kernel) (by decide +kernel)
    (by first | exact .inl (by decide +kernel) | exact .inr (by decide +kernel)) (by rw [isSubtype_type]; kernel_rfl)
section
variable {prog : Program} {w : World} {A : Around} {E : Value → Shared → Prop} {s : Shared}
theorem hint_rev {it l : Addr} {i : Int} {Q : Bool → Shared → Prop} (hit : s.heap.IsRevIter it l i) (h : Q false s) : wpAny (model prog w) A (Builtin.List.listLengthHint (.ref it)) Q E s := by
  unfold Builtin.List.listLengthHint
  refine wpAny_bind (wpAny_specialOf hit.typeIs lri_no_len ?_)
  show wpAny _ A (specialOf (Value.ref it) (Str.ofString "__length_hint__") >>= _) _ _ _
  refine wpAny_bind (wpAny_specialOf hit.typeIs slot_lri_hint.lookup ?_)
  generalize hid : ("list_reverseiterator.__length_hint__" : String) = id0
  wp_delta
  rw [show splitId id0 = some ("list_reverseiterator", "__length_hint__") from by subst hid; decide +kernel]
  subst hid
  refine wpAny_bind (wpAny_isInstance (T := "list_reverseiterator") (b := true) hit.typeIs (by rw [isSubtype_type]; kernel_rfl) ?_)
  refine wpAny_ite_split (fun hab => absurd hab (by decide)) (fun _ => ?_)
  refine wpAny_ite_split (fun _ => ?_) (fun hab => absurd (by decide +kernel) hab)
  refine wpAny_ite_split (fun hab => absurd hab (by decide +kernel)) (fun _ => ?_)
  exact wpAny_pure h
theorem extend_rev {R : Result → Shared → Prop} {r l : Addr} {items : Array Value} (hh : A.handled = none) (hr : s.heap.IsRevIter r l ((items.size : Int) - 1)) (hl : s.heap.IsList l items) (hlen : items.size ≤ sizeLine) (S : Addr) (res : Value) (c₀ : Nat) (hS : s.heap.get? S = some { cls := .type "list", data := .seq #[] c₀ }) (hSl : S ≠ l) (hlr : l ≠ r)
    (hR : ∀ h' tk acc' c', (∀ b o, b ≠ S → b ≠ r → s.heap.get? b = some o → h'.get? b = some o) → h'.get? S = some { cls := .type "list", dict := none, data := .seq acc' c', slots := #[] } →
      ItemsOf (fun i v => items[items.size - 1 - i]? = some v) acc' items.size → R (.ok (.ret res)) { s with heap := h', toks := tk }) :
    wpAny (model prog w) A.in1 (Builtin.List.listExtendWith (.ref S) (.ref r) res)
      (fun fin s' => match fin with | .done f => R (.ok f) s' | .again c' => c'.quiet = true ∧ codeAny (model prog w) A c' R s') (fun e s' => R (.error e) s') s := by
  have hSr : S ≠ r := fun e => by obtain ⟨o, ho, hc, _⟩ := hr; rw [e, ho] at hS; cases hS; simp at hc
  have W := (Walks.listRev (prog := prog) (w := w) (A := A.in1) hh r l hlr items).toS
  unfold Builtin.List.listExtendWith
  refine wpAny_bind (wpAny_typeOf hr.typeIs ?_)
  have h1 : Builtin.List.listSameRef (.ref S) (.ref r) = false := by simp [Builtin.List.listSameRef, hSr]
  have h2 : (Value.type "list_reverseiterator" == Value.type "list") = false := by decide
  have h3 : (Value.type "list_reverseiterator" == Value.type "tuple") = false := by decide
  simp only [h1, h2, h3, Bool.or_false, Bool.false_eq_true, if_false]
  refine wpAny_bind (wpAny_pyIter_revIter hr ?_)
  refine wpAny_bind (wpAny_holding (hint_rev hr ?_))
  refine wpAny_ite_split (fun hab => absurd hab (by decide +kernel)) (fun _ => ?_)
  have hSf : S ∉ [r, l] := by simp [hSr, hSl]
  refine wpAny_pure ⟨plainId_quiet F.plain_extend_loop _, codeAny_extend_loopS W hlen _ hSf _ items.size 0 _ _ _ rfl (Nat.zero_le _) ⟨Nat.zero_le _, by simpa using hr, hl⟩ hS (ItemsOf.nil _) fun s' acc' c' hm hS' hacc => ?_⟩
  rw [hm.eq_with]
  exact hR _ _ acc' c' (fun b o hb hbr e => hm.heap b o (by simp [hb, hbr]) e) hS' hacc
theorem call_list_revit {Q : Value → Shared → Prop} {r l : Addr} {items : Array Value} (hh : A.handled = none) (hr : s.heap.IsRevIter r l ((items.size : Int) - 1)) (hl : s.heap.IsList l items) (hlr : l ≠ r) (hlen : items.size ≤ sizeLine)
    (hQ : ∀ h' tk acc' c', (∀ b o, b ≠ r → s.heap.get? b = some o → h'.get? b = some o) →
      h'.get? s.heap.objs.size = some { cls := .type "list", dict := none, data := .seq acc' c', slots := #[] } → ItemsOf (fun i v => items[items.size - 1 - i]? = some v) acc' items.size → Q (.ref s.heap.objs.size) { s with heap := h', toks := tk }) :
    wpAny (model prog w) A (call (.type "list") [.ref r]) Q E s := by
  refine callType_codes (Q₁ := fun obj s₁ => obj = .ref s.heap.objs.size ∧ s₁ = { s with heap := s.heap.push { cls := .type "list", data := .seq #[] } }) F.called_list (F.typeCall_list_1 _) F.entry_list_init
    (code_list_new _ ⟨rfl, rfl⟩) fun obj s₁ h₁ => ?_
  obtain ⟨rfl, rfl⟩ := h₁
  have hS : (s.heap.push { cls := .type "list", data := .seq #[] }).get? s.heap.objs.size = some { cls := .type "list", data := .seq #[] } := Heap.get?_push_size _ rfl
  have hr2 : (s.heap.push { cls := .type "list", data := .seq #[] }).IsRevIter r l ((items.size : Int) - 1) := hr.at fun o e => Heap.get?_push_of_some _ e
  have hl2 : (s.heap.push { cls := .type "list", data := .seq #[] }).IsList l items := hl.at fun o e => Heap.get?_push_of_some _ e
  have hrlt : r < s.heap.objs.size := by obtain ⟨o, ho, _⟩ := hr; exact Heap.lt_size ho
  have hllt : l < s.heap.objs.size := by obtain ⟨o, ho, _⟩ := hl; exact Heap.lt_size ho
  refine ⟨⟨_, hS, rfl⟩, F.args_list_init_2 _ _, ?_⟩
  show wpAny _ A.in1.in1 (do let old ← Builtin.List.listItems (.ref s.heap.objs.size); Builtin.List.listUpdate (.ref s.heap.objs.size) (fun _ => #[]); letGo old.toList.reverse; Builtin.List.listExtendWith (.ref s.heap.objs.size) (.ref r) .none) _ _ _
  refine wpAny_bind ?_
  unfold Builtin.List.listItems
  refine wpAny_bind (wpAny_seqItems hS rfl (wpAny_pure ?_))
  show wpAny _ _ (updateSeq s.heap.objs.size (fun _ => #[]) >>= fun _ => letGo (#[] : Array Value).toList.reverse >>= fun _ => Builtin.List.listExtendWith (.ref s.heap.objs.size) (.ref r) .none) _ _ _
  refine wpAny_bind (wpAny_updateSeq hS rfl ?_)
  have hS₂ := Heap.get?_update_self (Obj.mapSeq (fun _ => (#[] : Array Value))) hS rfl
  have oth : ∀ b o, b ≠ s.heap.objs.size → (s.heap.push { cls := .type "list", data := .seq #[] }).get? b = some o → ((s.heap.push { cls := .type "list", data := .seq #[] }).update s.heap.objs.size (Obj.mapSeq (fun _ => (#[] : Array Value)))).get? b = some o :=
    fun b o hb e => (Heap.get?_update_other _ _ (Ne.symm hb)).trans e
  refine wpAny_bind (wpAny_letGo ?_)
  refine extend_rev (A := A.in1) hh (hr2.at fun o e => oth r o (Nat.ne_of_lt hrlt) e) (hl2.at fun o e => oth l o (Nat.ne_of_lt hllt) e) hlen _ .none _ hS₂ (Nat.ne_of_gt hllt) hlr fun h' tk acc' c' hk hS' hacc => ?_
  exact ⟨rfl, hQ h' tk acc' c' (fun b o hbr e => hk b o (Nat.ne_of_lt (Heap.lt_size e)) hbr (oth b o (Nat.ne_of_lt (Heap.lt_size e)) (Heap.get?_push_of_some _ e))) hS' hacc⟩
end
section
variable {X : Cx} {pins : List (Addr × Obj)} {σ : St} {H : Hp} {s : Shared} {h' : Heap} {t' : Nat} {wr : List Addr}
theorem Inv.turnsO (I : Inv X pins σ H s) {T0 : Addr} {nw0 : HO} (hf : ∀ b ∈ wr, FpOk X pins H b) (k : ∀ b o, b ∉ wr → s.heap.get? b = some o → h'.get? b = some o) (hT : s.heap.objs.size ≤ T0) (new : ObjOk X.prog X.w (upd H T0 nw0) h' T0 nw0) :
    Inv X pins σ (upd H T0 nw0) { s with heap := h', toks := t' } := by
  have nw : ∀ b u, H b = some u → b ∉ wr := fun b u e z => by have := (hf b z).1; rw [e] at this; cases this
  have nL : X.env.locals ∉ wr := fun z => (hf _ z).2.1 rfl
  have fresh : H T0 = none := I.hok.fresh hT
  have ne : ∀ b o, s.heap.get? b = some o → b ≠ T0 := fun b o e => Nat.ne_of_lt (Nat.lt_of_lt_of_le (Heap.lt_size e) hT)
  refine I.step (g' := s.gens) (d' := s.drawn) (ch := wr) (fun b hb => ?_) (fun b o _ _ hc e _ => k b o hc e) (fun b o _ _ hc e _ => ⟨o.slots, k b o hc e⟩) (fun b o _ e n => by rw [upd_ne (ne b o e)]; exact n)
    (fun b o hc e => ⟨o, k b o hc e⟩) (fun b xs e => by rw [upd_ne (ne_of_none e fresh)]; exact e) (fun b o u e => by rw [upd_ne (ne_of_none e fresh)]; exact e) (fun b ps e => ⟨#[], by rw [upd_ne (ne_of_none e fresh), e]; simp⟩) (fun m hm => ?_) (fun b u e => ?_) I.bare
  · obtain ⟨f0, f1, f2, f3, f4, f5⟩ := hf b hb
    exact ⟨f3, f1, f4, f5⟩
  · obtain ⟨o, es, ep, ho, r⟩ := hm
    exact ⟨o, es, ep, k _ o nL ho, r⟩
  · by_cases hb : b = T0
    · subst hb
      rw [upd_same] at e
      cases e
      exact new
    · rw [upd_ne hb] at e
      refine (I.hok b u e).stay (fun c v hc q => k c v ?_ q) (fun c q => by rw [upd_ne (ne_of_none q fresh)]; exact q) fun c xs q => by rw [upd_ne (ne_of_none q fresh)]; exact q
      rcases hc with z | z
      · rw [z]; exact nw b u e
      · exact nw c _ z
end
section
variable {X : Cx} {e1 : Expr} {ta : TA} {p pos p2 pos2 : Pos}
def tListRev (K : PySem.W.Frag) (ta : TA) : TE := fun σ H Q => ta σ H fun vs H1 => ∃ a xs, vs = [.ref a] ∧ SqL K H1 a xs ∧ ∀ l, H1 l = none → Q (.ref l) (upd H1 l (.lst xs.reverse))
theorem pe_listrev (hc : X.calm = true) (hgl : Gl X "list") (hml : X.mg "list" = none) (hg : Gl X "reversed") (hm : X.mg "reversed" = none) (hA : PA X [e1] ta) (hs : starEach [e1] X.env = [(false, eval e1 X.env)] := by rfl)
    (hs2 : starEach [.Call (.Name "reversed" p) [e1] [] pos] X.env = [(false, eval (.Call (.Name "reversed" p) [e1] [] pos) X.env)] := by rfl) :
    PE X (.Call (.Name "list" p2) [.Call (.Name "reversed" p) [e1] [] pos] [] pos2) (tListRev X.K ta) := by
  intro pins s σ H Q I h
  refine Call_ (ld_blt I hgl hml boot_list (PyProof.Rows.callWith_type1 (?_ : wpAny (model X.prog X.w) X.A (spliced (backTo pos2 (starEach [.Call (.Name "reversed" p) [e1] [] pos] X.env))) _ X.xe s) hs2 rfl))
  rw [hs2]
  show wpAny _ _ (spliced ((false, eval (.Call (.Name "reversed" p) [e1] [] pos) X.env) :: [])) _ _ s
  refine Calls.spliced_cons ?_
  refine Call_ (ld_blt I hg hm boot_reversed (PyProof.Rows.callWith_type1 (thn (hA pos pins s σ H _ I h) fun us s1 ⟨vs, H1, I1, r1, q1⟩ => ?_) hs rfl))
  obtain ⟨a, xs, rfl, hq, q⟩ := q1
  obtain ⟨u, rfl, ru⟩ := vals1 r1
  cases ru
  obtain ⟨its, rv, pl, hz⟩ := I1.list hq
  have hn : its.toArray.size = xs.length := by rw [rv.length]; simp
  refine call_reversed_list pl.isList (Calls.spliced_nil ?_)
  have up : ∀ b o, s1.heap.get? b = some o → (s1.heap.push (revObj a ((its.toArray.size : Int) - 1))).get? b = some o := fun b o e => Heap.get?_push_of_some _ e
  have hR : (s1.heap.push (revObj a ((its.toArray.size : Int) - 1))).IsRevIter s1.heap.objs.size a ((its.toArray.size : Int) - 1) := ⟨_, Heap.get?_push_size _ rfl, rfl, rfl⟩
  have I2 : Inv X pins σ H1 { s1 with heap := s1.heap.push (revObj a ((its.toArray.size : Int) - 1)) } := I1.kept (t' := s1.toks) up
  have hal : a < s1.heap.objs.size := by obtain ⟨o, _, ho, _⟩ := id pl; exact Heap.lt_size ho
  have f1 := I1.fpOk (Nat.le_refl _) (I1.hok.fresh (Nat.le_refl _))
  generalize hh2 : s1.heap.push (revObj a ((its.toArray.size : Int) - 1)) = h2 at hR I2 up
  refine call_list_revit (s := { s1 with heap := h2 }) (I1.ok.hd hc) hR (pl.isList.at fun o e => up _ _ e) (Nat.ne_of_lt hal) (by rw [hn]; exact hz) fun h' tk acc c hk hS hacc => ?_
  have hv : Vals xs.reverse acc.toList := by
    obtain ⟨hsz, hit⟩ := hacc
    have e : acc.toList = its.reverse := by
      refine List.ext_getElem? fun i => ?_
      by_cases hi : i < acc.size
      · have h1 := hit i acc[i] (by simp [hi])
        have h2 : acc.toList[i]? = some acc[i] := by simp [hi]
        rw [h2]
        rw [List.getElem?_reverse (by rw [hsz] at hi; simpa using hi)]
        have : its.toArray[its.toArray.size - 1 - i]? = its[its.length - 1 - i]? := by simp
        rw [← this, h1]
      · rw [List.getElem?_eq_none (by simpa using hi), List.getElem?_eq_none (by rw [hsz] at hi; simpa using hi)]
    rw [e]; exact rv.reverse
  have hsz2 : h2.objs.size = s1.heap.objs.size + 1 := by rw [← hh2, Heap.size_push]
  have hf : ∀ b ∈ [s1.heap.objs.size], FpOk X pins H1 b := fun b hb => by rw [List.mem_singleton.mp hb]; exact f1
  exact ⟨.ref h2.objs.size, _, I2.turnsO (t' := tk) hf (fun b o hb e => hk b o (by simpa using hb) e) (Nat.le_refl _) (show ObjOk X.prog X.w _ _ _ (.lst _) from ⟨by rw [List.length_reverse]; exact hz, acc.toList, c, hv, by simpa using hS⟩), rfl, q _ I2.fresh⟩
end
end L2

namespace L2
open PySem
end L2

namespace L2
open PySem PySem.Spec PyProof.Rows
inductive D where
  | non | bl (b : Bool) | int (i : Int) | str (l : List Nat) | lst (xs : List D) | tup (xs : List D) | dct (ks vs : List D) | dctT (ks vs : List D) | ins (C : Addr) (ns : List Str) (vs : List D)
instance : Inhabited D := ⟨.non⟩
mutual
def D.beq : D → D → Bool
  | .non, .non => true
  | .bl a, .bl b => a == b
  | .int a, .int b => a == b
  | .str a, .str b => a == b
  | .lst a, .lst b => D.beqs a b
  | .tup a, .tup b => D.beqs a b
  | .dct a b, .dct c d => D.beqs a c && D.beqs b d
  | .dctT a b, .dctT c d => D.beqs a c && D.beqs b d
  | .ins C n a, .ins E m b => (decide (C = E) && decide (n = m)) && D.beqs a b
  | _, _ => false
def D.beqs : List D → List D → Bool
  | [], [] => true
  | a :: x, b :: y => a.beq b && D.beqs x y
  | _, _ => false
end
mutual
theorem D.beq_iff : ∀ a b : D, a.beq b = true ↔ a = b
  | .non, b => by cases b <;> simp [D.beq]
  | .bl _, b => by cases b <;> simp [D.beq]
  | .int _, b => by cases b <;> simp [D.beq]
  | .str _, b => by cases b <;> simp [D.beq]
  | .lst a, b => by cases b <;> simp [D.beq, D.beqs_iff a]
  | .tup a, b => by cases b <;> simp [D.beq, D.beqs_iff a]
  | .dct a b, c => by cases c <;> simp [D.beq, D.beqs_iff a, D.beqs_iff b]
  | .dctT a b, c => by cases c <;> simp [D.beq, D.beqs_iff a, D.beqs_iff b]
  | .ins C n a, c => by cases c <;> simp [D.beq, D.beqs_iff a, and_assoc]
theorem D.beqs_iff : ∀ a b : List D, D.beqs a b = true ↔ a = b
  | [], b => by cases b <;> simp [D.beqs]
  | a :: x, b => by cases b <;> simp [D.beqs, D.beq_iff a, D.beqs_iff x]
end
instance : DecidableEq D := fun a b => decidable_of_iff _ (D.beq_iff a b)
mutual
def D.dep : D → Nat
  | .lst a => D.deps a + 1
  | .tup a => D.deps a + 1
  | _ => 0
def D.deps : List D → Nat
  | [] => 0
  | a :: x => max a.dep (D.deps x)
end
mutual
def D.nb : D → Bool
  | .bl _ => false
  | .dct _ _ => false
  | .dctT _ _ => false
  | .ins _ _ _ => false
  | .lst a => D.nbs a
  | .tup a => D.nbs a
  | _ => true
def D.nbs : List D → Bool
  | [] => true
  | a :: x => a.nb && D.nbs x
end

def D.isK : D → Bool
  | .int _ => true | .str _ => true | _ => false
def D.key : D → Key
  | .int i => .inl i | .str l => .inr (T l) | _ => .inl 0
def D.isT : D → Bool
  | .tup l => l.all D.isK | _ => false
def D.tkey : D → List Key
  | .tup l => l.map D.key | _ => []
def D.isInt : D → Bool
  | .int _ => true
  | _ => false
def hasInt (ds : List D) : Bool := ds.any D.isInt
section
variable (K : PySem.W.Frag) (H : Hp)
mutual
def Rep : D → V → Prop
  | .non, v => v = .non
  | .bl b, v => v = .bl b
  | .int i, v => v = .int i
  | .str l, v => v = .str (T l) ∧ ∀ c ∈ l, c < 128
  | .lst ds, v => ∃ p xs, v = .ref p ∧ SqL K H p xs ∧ Reps ds xs
  | .tup ds, v => ∃ p xs, v = .ref p ∧ SqT K H p xs ∧ Reps ds xs ∧ (hasInt ds = true → H p = some (.tup xs))
  | .dct ks vs, v => ∃ p kv, v = .ref p ∧ H p = some (.dK kv) ∧ Reps ks (kv.map fun q => kV q.1) ∧ Reps vs (kv.map fun q => q.2)
  | .dctT ks vs, v => ∃ p kv, v = .ref p ∧ (∃ o, H p = some (.frz o (.dT kv))) ∧ (ks.all D.isT = true ∧ (kv.map fun q => q.1) = ks.map D.tkey) ∧ Reps vs (kv.map fun q => q.2)
  | .ins C ns vs, v => ∃ x dx fs, v = .ref x ∧ H x = some (.ins C dx fs) ∧ H dx = some (.own x) ∧ fs.map (fun q => q.1) = ns ∧ Reps vs (fs.map fun q => q.2)
def Reps : List D → List V → Prop
  | [], xs => xs = []
  | d :: ds, xs => ∃ x r, xs = x :: r ∧ Rep d x ∧ Reps ds r
end
end
section
variable {K : PySem.W.Frag} {H H' : Hp}
mutual
theorem Rep.mono (s : Same H H') : ∀ {d : D} {v : V}, Rep K H d v → Rep K H' d v
  | .non, _, h => by simpa [Rep] using h
  | .bl _, _, h => by simpa [Rep] using h
  | .int _, _, h => by simpa [Rep] using h
  | .str _, _, h => by simpa [Rep] using h
  | .lst ds, _, h => by
    rw [Rep] at h ⊢
    obtain ⟨p, xs, e, q, r⟩ := h
    exact ⟨p, xs, e, SqL.same s q, Reps.mono s r⟩
  | .tup ds, _, h => by
    rw [Rep] at h ⊢
    obtain ⟨p, xs, e, q, r, t⟩ := h
    exact ⟨p, xs, e, SqT.same s q, Reps.mono s r, fun z => s _ _ (t z)⟩
  | .dct ks vs, _, h => by
    rw [Rep] at h ⊢
    obtain ⟨p, kv, e, q, r1, r2⟩ := h
    exact ⟨p, kv, e, s _ _ q, Reps.mono s r1, Reps.mono s r2⟩
  | .dctT ks vs, _, h => by
    rw [Rep] at h ⊢
    obtain ⟨p, kv, e, ⟨o, q⟩, r1, r2⟩ := h
    exact ⟨p, kv, e, ⟨o, s _ _ q⟩, r1, Reps.mono s r2⟩
  | .ins C ns vs, _, h => by
    rw [Rep] at h ⊢
    obtain ⟨x, dx, fs, e, q1, q2, hn, r⟩ := h
    exact ⟨x, dx, fs, e, s _ _ q1, s _ _ q2, hn, Reps.mono s r⟩
theorem Reps.mono (s : Same H H') : ∀ {ds : List D} {xs : List V}, Reps K H ds xs → Reps K H' ds xs
  | [], _, h => by simpa [Reps] using h
  | d :: ds, _, h => by
    rw [Reps] at h ⊢
    obtain ⟨x, r, e, a, b⟩ := h
    exact ⟨x, r, e, Rep.mono s a, Reps.mono s b⟩
end
theorem Reps.nil : Reps K H [] [] := by rw [Reps]
theorem Reps.cons {d : D} {ds : List D} {x : V} {xs : List V} (a : Rep K H d x) (b : Reps K H ds xs) : Reps K H (d :: ds) (x :: xs) := by rw [Reps]; exact ⟨x, xs, rfl, a, b⟩
theorem Reps.length : ∀ {ds : List D} {xs : List V}, Reps K H ds xs → ds.length = xs.length
  | [], _, h => by rw [Reps] at h; subst h; rfl
  | d :: ds, _, h => by
    rw [Reps] at h
    obtain ⟨x, r, rfl, _, b⟩ := h
    simp [b.length]
theorem Reps.get : ∀ {ds : List D} {xs : List V} {i : Nat} {x : V}, Reps K H ds xs → xs[i]? = some x → ∃ d, ds[i]? = some d ∧ Rep K H d x
  | [], _, _, _, h, e => by rw [Reps] at h; subst h; simp at e
  | d :: ds, _, 0, _, h, e => by
    rw [Reps] at h
    obtain ⟨y, r, rfl, a, _⟩ := h
    cases e
    exact ⟨d, rfl, a⟩
  | d :: ds, _, i + 1, _, h, e => by
    rw [Reps] at h
    obtain ⟨y, r, rfl, _, b⟩ := h
    exact Reps.get (i := i) b e
theorem Reps.get' : ∀ {ds : List D} {xs : List V} {i : Nat} {d : D}, Reps K H ds xs → ds[i]? = some d → ∃ x, xs[i]? = some x ∧ Rep K H d x := fun {ds xs i d} h e => by
  have hl := h.length
  have hi := (List.getElem?_eq_some_iff.mp e).1
  obtain ⟨d', e', r⟩ := h.get (i := i) (x := xs[i]'(by lia)) (List.getElem?_eq_getElem _)
  rw [e] at e'; cases e'
  exact ⟨_, List.getElem?_eq_getElem _, r⟩
theorem Reps.append : ∀ {ds es : List D} {xs ys : List V}, Reps K H ds xs → Reps K H es ys → Reps K H (ds ++ es) (xs ++ ys)
  | [], _, _, _, h, h2 => by rw [Reps] at h; subst h; exact h2
  | d :: ds, _, _, _, h, h2 => by
    rw [Reps] at h
    obtain ⟨y, r, rfl, a, b⟩ := h
    exact Reps.cons a (Reps.append b h2)
theorem Reps.snoc {ds : List D} {xs : List V} {d : D} {x : V} (h : Reps K H ds xs) (a : Rep K H d x) : Reps K H (ds ++ [d]) (xs ++ [x]) := h.append (.cons a .nil)
theorem Reps.drop : ∀ (n : Nat) {ds : List D} {xs : List V}, Reps K H ds xs → Reps K H (ds.drop n) (xs.drop n)
  | 0, _, _, h => h
  | n + 1, [], _, h => by rw [Reps] at h; subst h; exact Reps.nil
  | n + 1, d :: ds, _, h => by
    rw [Reps] at h
    obtain ⟨y, r, rfl, _, b⟩ := h
    exact Reps.drop n b
theorem Reps.take : ∀ (n : Nat) {ds : List D} {xs : List V}, Reps K H ds xs → Reps K H (ds.take n) (xs.take n)
  | 0, _, _, h => Reps.nil
  | n + 1, [], _, h => by rw [Reps] at h; subst h; exact Reps.nil
  | n + 1, d :: ds, _, h => by
    rw [Reps] at h
    obtain ⟨y, r, rfl, a, b⟩ := h
    exact Reps.cons a (Reps.take n b)
theorem Rep.lst {ds : List D} {p : Addr} {xs : List V} (q : SqL K H p xs) (r : Reps K H ds xs) : Rep K H (.lst ds) (.ref p) := by rw [Rep]; exact ⟨p, xs, rfl, q, r⟩
theorem Rep.tup {ds : List D} {p : Addr} {xs : List V} (q : SqT K H p xs) (r : Reps K H ds xs) (t : hasInt ds = true → H p = some (.tup xs)) : Rep K H (.tup ds) (.ref p) := by rw [Rep]; exact ⟨p, xs, rfl, q, r, t⟩
theorem Rep.tupN {ds : List D} {p : Addr} {xs : List V} (q : H p = some (.tup xs)) (r : Reps K H ds xs) : Rep K H (.tup ds) (.ref p) := Rep.tup (SqT.of q) r fun _ => q
theorem Rep.int {i : Int} : Rep K H (.int i) (.int i) := by rw [Rep]
theorem Rep.bl {b : Bool} : Rep K H (.bl b) (.bl b) := by rw [Rep]
theorem Rep.str {l : List Nat} (h : ∀ c ∈ l, c < 128) : Rep K H (.str l) (.str (T l)) := by rw [Rep]; exact ⟨rfl, h⟩
theorem Rep.non : Rep K H .non .non := by rw [Rep]
theorem Rep.of_int {i : Int} {v : V} (h : Rep K H (.int i) v) : v = .int i := by rw [Rep] at h; exact h
theorem Rep.of_bl {b : Bool} {v : V} (h : Rep K H (.bl b) v) : v = .bl b := by rw [Rep] at h; exact h
theorem Rep.of_str {l : List Nat} {v : V} (h : Rep K H (.str l) v) : v = .str (T l) := by rw [Rep] at h; exact h.1
theorem Rep.asc {l : List Nat} {v : V} (h : Rep K H (.str l) v) : ∀ c ∈ l, c < 128 := by rw [Rep] at h; exact h.2
theorem Rep.of_non {v : V} (h : Rep K H .non v) : v = .non := by rw [Rep] at h; exact h
theorem Rep.of_lst {ds : List D} {v : V} (h : Rep K H (.lst ds) v) : ∃ p xs, v = .ref p ∧ SqL K H p xs ∧ Reps K H ds xs := by rw [Rep] at h; exact h
theorem Rep.of_tup {ds : List D} {v : V} (h : Rep K H (.tup ds) v) : ∃ p xs, v = .ref p ∧ SqT K H p xs ∧ Reps K H ds xs := by rw [Rep] at h; obtain ⟨p, xs, e, q, r, _⟩ := h; exact ⟨p, xs, e, q, r⟩
theorem Rep.trk {ds : List D} {v : V} (h : Rep K H (.tup ds) v) (z : hasInt ds = true) : ∃ p xs, v = .ref p ∧ H p = some (.tup xs) ∧ Reps K H ds xs := by rw [Rep] at h; obtain ⟨p, xs, e, _, r, t⟩ := h; exact ⟨p, xs, e, t z, r⟩
theorem Reps.ints {p : Addr} : ∀ (ns : List Int), Reps K H (ns.map D.int) (ns.map V.int)
  | [] => Reps.nil
  | n :: ns => Reps.cons Rep.int (Reps.ints (p := p) ns)
end

def NT : HO → Prop
  | .tup _ => False
  | _ => True
structure Ext (G H₀ F H : Hp) : Prop where
  gf : Same G F
  fh : Same F H
  hh : Same H₀ H
  no : ∀ b o, H₀ b = some o → NT o → F b = G b
theorem Ext.refl {G H : Hp} (s : Same G H) : Ext G H G H := ⟨Same.refl _, s, Same.refl _, fun _ _ _ _ => rfl⟩
theorem Ext.trans {G H F1 H1 F2 H2 : Hp} (a : Ext G H F1 H1) (b : Ext F1 H1 F2 H2) : Ext G H F2 H2 :=
  ⟨a.gf.trans b.gf, b.fh, a.hh.trans b.hh, fun c o e n => (b.no c o (a.hh c o e) n).trans (a.no c o e n)⟩
theorem Ext.newF {G H₀ F H : Hp} (x : Ext G H₀ F H) {p : Addr} {o : HO} (hp : H p = none) : Ext G H₀ (upd F p o) (upd H p o) := by
  have fp : F p = none := x.fh.free hp
  refine ⟨x.gf.trans (Same.upd fp), fun b u e => ?_, x.hh.trans (Same.upd hp), fun b u e n => ?_⟩
  · by_cases hb : b = p
    · subst hb; rw [upd_same] at e ⊢; exact e
    · rw [upd_ne hb] at e ⊢; exact x.fh b u e
  · have hb : b ≠ p := fun z => by subst z; have := x.hh b u e; rw [hp] at this; cases this
    rw [upd_ne hb]; exact x.no b u e n
theorem Ext.newO {G H₀ F H : Hp} (x : Ext G H₀ F H) {p : Addr} {o : HO} (hp : H p = none) : Ext G H₀ F (upd H p o) :=
  ⟨x.gf, x.fh.trans (Same.upd hp), x.hh.trans (Same.upd hp), x.no⟩
theorem Ext.write {G H₀ F H : Hp} (x : Ext G H₀ F H) {p : Addr} {o : HO} (fp : F p = none) (hp : H₀ p = none) : Ext G H₀ F (upd H p o) :=
  ⟨x.gf, fun b u e => by rw [upd_ne (ne_of_none e fp)]; exact x.fh b u e, fun b u e => by rw [upd_ne (ne_of_none e hp)]; exact x.hh b u e, x.no⟩
theorem Ext.freeze {G H₀ F H : Hp} (x : Ext G H₀ F H) {p : Addr} {o : HO} (fp : F p = none) (hp : H₀ p = none) (e : H p = some o) : Ext G H₀ (upd F p o) H := by
  refine ⟨x.gf.trans (Same.upd fp), fun b u q => ?_, x.hh, fun b u q n => ?_⟩
  · by_cases hb : b = p
    · subst hb; rw [upd_same] at q; cases q; exact e
    · rw [upd_ne hb] at q; exact x.fh b u q
  · rw [upd_ne (ne_of_none q hp)]; exact x.no b u q n

inductive Sl where
  | un | d (x : D) | o (p : Addr) (xs : List D) | oo (p : Addr) (qs : List (Addr × List D)) | g (v : V) (as : List Addr) (W : Hp → Hp → Prop)
def Sl.ads : Sl → List Addr
  | .un => [] | .d _ => [] | .o p _ => [p] | .oo p qs => p :: qs.map (·.1) | .g _ as _ => as
def OwnL (K : PySem.W.Frag) (H₀ F H : Hp) (p : Addr) (xs : List D) : Prop := H₀ p = none ∧ F p = none ∧ ∃ vs, H p = some (.lst vs) ∧ Reps K F xs vs
def Stab (as : List Addr) (W : Hp → Hp → Prop) : Prop := ∀ F1 H1 F2 H2 : Hp, Same F1 F2 → (∀ a ∈ as, H2 a = H1 a) → W F1 H1 → W F2 H2
def SlOk (K : PySem.W.Frag) (H₀ F H : Hp) (ov : Option V) : Sl → Prop
  | .un => True
  | .d x => ∃ v, ov = some v ∧ Rep K F x v
  | .o p xs => ov = some (.ref p) ∧ OwnL K H₀ F H p xs
  | .oo p qs => ov = some (.ref p) ∧ H₀ p = none ∧ F p = none ∧ H p = some (.lst (qs.map fun q => V.ref q.1)) ∧ ∀ q ∈ qs, OwnL K H₀ F H q.1 q.2
  | .g v as W => ov = some v ∧ (∀ a ∈ as, H₀ a = none ∧ F a = none ∧ ∃ o, H a = some o ∧ NT o) ∧ W F H ∧ Stab as W
structure Sat (K : PySem.W.Frag) (G H₀ L F H : Hp) (σ : St) (ss : List Sl) : Prop where
  ext : Ext G H₀ F H
  fl : Same L F
  len : σ.length = ss.length
  ok : ∀ (i : Nat) s, ss[i]? = some s → SlOk K H₀ F H (σ.getD i none) s
  nd : ∀ (i : Nat) s, ss[i]? = some s → s.ads.Nodup
  ne : ∀ (i j : Nat) s s', i ≠ j → ss[i]? = some s → ss[j]? = some s' → ∀ p ∈ s.ads, p ∉ s'.ads
section
variable {K : PySem.W.Frag} {H₀ F H F' H' : Hp}
theorem OwnL.ext2 {p : Addr} {xs : List D} (h : OwnL K H₀ F H p xs) (e : Ext F H F' H') : OwnL K H₀ F' H' p xs := by
  obtain ⟨h0, fp, vs, hp, r⟩ := h
  exact ⟨h0, (e.no p _ hp trivial).trans fp, vs, e.hh p _ hp, r.mono e.gf⟩
theorem SlOk.ext2 {ov : Option V} {s : Sl} (h : SlOk K H₀ F H ov s) (e : Ext F H F' H') : SlOk K H₀ F' H' ov s := by
  cases s with
  | un => trivial
  | d x => obtain ⟨v, ev, r⟩ := h; exact ⟨v, ev, r.mono e.gf⟩
  | o p xs => exact ⟨h.1, h.2.ext2 e⟩
  | oo p qs =>
    obtain ⟨ev, h0, fp, hp, hq⟩ := h
    exact ⟨ev, h0, (e.no p _ hp trivial).trans fp, e.hh p _ hp, fun q hm => (hq q hm).ext2 e⟩
  | g v as W =>
    obtain ⟨ev, ha, hw, st⟩ := h
    refine ⟨ev, fun a hm => ?_, st _ _ _ _ e.gf (fun a hm => ?_) hw, st⟩
    · obtain ⟨h0, fa, o, ho, nt⟩ := ha a hm
      exact ⟨h0, (e.no a _ ho nt).trans fa, o, e.hh a _ ho, nt⟩
    · obtain ⟨h0, fa, o, ho, nt⟩ := ha a hm
      rw [e.hh a _ ho, ho]
theorem OwnL.updNe {p a : Addr} {o : HO} {xs : List D} (h : OwnL K H₀ F H p xs) (hn : p ≠ a) : OwnL K H₀ F (upd H a o) p xs := by
  obtain ⟨h0, fp, vs, hp, r⟩ := h
  exact ⟨h0, fp, vs, by rw [upd_ne hn]; exact hp, r⟩
theorem SlOk.updNe {ov : Option V} {s : Sl} {a : Addr} {o : HO} (h : SlOk K H₀ F H ov s) (hn : a ∉ s.ads) : SlOk K H₀ F (upd H a o) ov s := by
  cases s with
  | un => trivial
  | d x => exact h
  | o p xs => exact ⟨h.1, h.2.updNe fun z => hn (by simp [Sl.ads, z])⟩
  | oo p qs =>
    obtain ⟨ev, h0, fp, hp, hq⟩ := h
    refine ⟨ev, h0, fp, by rw [upd_ne fun z => hn (by simp [Sl.ads, z])]; exact hp, fun q hm => (hq q hm).updNe fun z => hn ?_⟩
    rw [← z]
    exact List.mem_cons_of_mem _ (List.mem_map_of_mem hm)
  | g v as W =>
    obtain ⟨ev, ha, hw, st⟩ := h
    have hne : ∀ b ∈ as, b ≠ a := fun b hm z => hn (by rw [← z]; exact hm)
    refine ⟨ev, fun b hm => ?_, st _ _ _ _ (Same.refl _) (fun b hm => upd_ne (hne b hm)) hw, st⟩
    obtain ⟨h0, fa, x, ho, nt⟩ := ha b hm
    exact ⟨h0, fa, x, by rw [upd_ne (hne b hm)]; exact ho, nt⟩
theorem OwnL.frz {p a : Addr} {o : HO} {xs : List D} (h : OwnL K H₀ F H p xs) (fa : F a = none) (hn : p ≠ a) : OwnL K H₀ (upd F a o) H p xs := by
  obtain ⟨h0, fp, vs, hp, r⟩ := h
  exact ⟨h0, by rw [upd_ne hn]; exact fp, vs, hp, r.mono (Same.upd fa)⟩
theorem SlOk.frz {ov : Option V} {s : Sl} {a : Addr} {o : HO} (h : SlOk K H₀ F H ov s) (fa : F a = none) (hn : a ∉ s.ads) : SlOk K H₀ (upd F a o) H ov s := by
  cases s with
  | un => trivial
  | d x => obtain ⟨v, ev, r⟩ := h; exact ⟨v, ev, r.mono (Same.upd fa)⟩
  | o p xs => exact ⟨h.1, h.2.frz fa fun z => hn (by simp [Sl.ads, z])⟩
  | oo p qs =>
    obtain ⟨ev, h0, fp, hp, hq⟩ := h
    refine ⟨ev, h0, by rw [upd_ne fun z => hn (by simp [Sl.ads, z])]; exact fp, hp, fun q hm => (hq q hm).frz fa fun z => hn ?_⟩
    rw [← z]
    exact List.mem_cons_of_mem _ (List.mem_map_of_mem hm)
  | g v as W =>
    obtain ⟨ev, ha, hw, st⟩ := h
    have hne : ∀ b ∈ as, b ≠ a := fun b hm z => hn (by rw [← z]; exact hm)
    refine ⟨ev, fun b hm => ?_, st _ _ _ _ (Same.upd fa) (fun _ _ => rfl) hw, st⟩
    obtain ⟨h0, fb, x, ho, nt⟩ := ha b hm
    exact ⟨h0, by rw [upd_ne (hne b hm)]; exact fb, x, ho, nt⟩
theorem SlOk.live {ov : Option V} {s : Sl} (h : SlOk K H₀ F H ov s) {p : Addr} (hp : p ∈ s.ads) : H p ≠ none := by
  cases s with
  | un => simp [Sl.ads] at hp
  | d x => simp [Sl.ads] at hp
  | o q xs =>
    obtain ⟨_, _, _, vs, hq, _⟩ := h
    simp [Sl.ads] at hp; subst hp; rw [hq]; simp
  | oo q qs =>
    obtain ⟨ev, h0, fp, hq, hqs⟩ := h
    rcases List.mem_cons.mp hp with rfl | hp
    · rw [hq]; simp
    · obtain ⟨r, hr, rfl⟩ := List.mem_map.mp hp
      obtain ⟨_, _, vs, hv, _⟩ := hqs r hr
      rw [hv]; simp
  | g v as W =>
    obtain ⟨ev, ha, hw, st⟩ := h
    obtain ⟨_, _, x, ho, _⟩ := ha p hp
    rw [ho]; simp
end
end L2

namespace L2
open PySem PySem.Spec PyProof.Rows
section
variable {K : PySem.W.Frag} {G H₀ L F H F' H' : Hp} {σ : St} {ss : List Sl}
theorem Sat.ext2 (S : Sat K G H₀ L F H σ ss) (e : Ext F H F' H') : Sat K G H₀ L F' H' σ ss :=
  ⟨S.ext.trans e, S.fl.trans e.gf, S.len, fun i s hs => (S.ok i s hs).ext2 e, S.nd, S.ne⟩
theorem Sat.get (S : Sat K G H₀ L F H σ ss) {i : Nat} {s : Sl} (hs : ss[i]? = some s) (hn : s ≠ .un) : ∃ v, σ[i]? = some (some v) ∧ SlOk K H₀ F H (some v) s := by
  have hi : i < σ.length := by rw [S.len]; exact (List.getElem?_eq_some_iff.mp hs).1
  have := S.ok i s hs
  rw [List.getD_eq_getElem?_getD, List.getElem?_eq_getElem hi] at this
  simp only [Option.getD_some] at this
  cases hv : σ[i] with
  | none =>
    rw [hv] at this
    cases s with
    | un => exact absurd rfl hn
    | d x => obtain ⟨v, ev, _⟩ := this; cases ev
    | o p xs => obtain ⟨ev, _⟩ := this; cases ev
    | oo p qs => obtain ⟨ev, _⟩ := this; cases ev
    | g v as W => obtain ⟨ev, _⟩ := this; cases ev
  | some v =>
    rw [hv] at this
    exact ⟨v, by rw [List.getElem?_eq_getElem hi, hv], this⟩
theorem Sat.getD (S : Sat K G H₀ L F H σ ss) {i : Nat} {x : D} (hs : ss[i]? = some (.d x)) : ∃ v, σ[i]? = some (some v) ∧ Rep K F x v := by
  obtain ⟨v, e, w, ew, r⟩ := S.get hs (by intro z; cases z)
  cases ew
  exact ⟨v, e, r⟩
theorem Sat.getO (S : Sat K G H₀ L F H σ ss) {i : Nat} {p : Addr} {xs : List D} (hs : ss[i]? = some (.o p xs)) : σ[i]? = some (some (.ref p)) ∧ OwnL K H₀ F H p xs := by
  obtain ⟨v, e, ew, r⟩ := S.get hs (by intro z; cases z)
  cases ew
  exact ⟨e, r⟩
theorem getD_set_self {σ : St} {i : Nat} {v : Option V} (h : i < σ.length) : (σ.set i v).getD i none = v := by
  rw [List.getD_eq_getElem?_getD, List.getElem?_set_self h]; rfl
theorem getD_set_ne {σ : St} {i j : Nat} {v : Option V} (h : i ≠ j) : (σ.set i v).getD j none = σ.getD j none := by
  rw [List.getD_eq_getElem?_getD, List.getElem?_set_ne h, List.getD_eq_getElem?_getD]
theorem set_cases {i j : Nat} {s t : Sl} (h : (ss.set i s)[j]? = some t) : (i = j ∧ t = s ∧ i < ss.length) ∨ (i ≠ j ∧ ss[j]? = some t) := by
  by_cases hj : i = j
  · subst hj
    have hi := (List.getElem?_eq_some_iff.mp h).1
    rw [List.length_set] at hi
    rw [List.getElem?_set_self hi] at h
    exact .inl ⟨rfl, (Option.some.inj h).symm, hi⟩
  · rw [List.getElem?_set_ne hj] at h; exact .inr ⟨hj, h⟩
theorem Sat.put {σ' : St} (S : Sat K G H₀ L F H σ ss) {i : Nat} {s : Sl} (ex : Ext G H₀ F' H') (fl : Same L F') (hl : σ'.length = σ.length) (hσ : ∀ j, j ≠ i → σ'.getD j none = σ.getD j none) (hi : i < ss.length → SlOk K H₀ F' H' (σ'.getD i none) s)
    (nd : s.ads.Nodup) (dj : ∀ (j : Nat) s', j ≠ i → ss[j]? = some s' → ∀ p ∈ s.ads, p ∉ s'.ads) (st : ∀ (j : Nat) s', j ≠ i → ss[j]? = some s' → SlOk K H₀ F' H' (σ.getD j none) s') : Sat K G H₀ L F' H' σ' (ss.set i s) := by
  refine ⟨ex, fl, by rw [List.length_set, hl, S.len], fun j t ht => ?_, fun j t ht => ?_, fun j k t u hjk ht hu => ?_⟩
  · rcases set_cases ht with ⟨rfl, rfl, hlt⟩ | ⟨hj, ht⟩
    · exact hi hlt
    · rw [hσ j (Ne.symm hj)]; exact st j t (Ne.symm hj) ht
  · rcases set_cases ht with ⟨rfl, rfl, _⟩ | ⟨hj, ht⟩
    · exact nd
    · exact S.nd j t ht
  · rcases set_cases ht with ⟨rfl, rfl, _⟩ | ⟨hj, ht'⟩
    · rcases set_cases hu with ⟨rfl, rfl, _⟩ | ⟨hk, hu'⟩
      · exact absurd rfl hjk
      · exact dj k u (Ne.symm hk) hu'
    · rcases set_cases hu with ⟨rfl, rfl, _⟩ | ⟨hk, hu'⟩
      · exact fun p hp hp' => dj j t (Ne.symm hj) ht' p hp' hp
      · exact S.ne j k t u hjk ht' hu'
theorem Sat.setD (S : Sat K G H₀ L F H σ ss) {i : Nat} {x : D} {v : V} (r : Rep K F x v) : Sat K G H₀ L F H (σ.set i (some v)) (ss.set i (.d x)) :=
  S.put S.ext S.fl (by simp) (fun j hj => getD_set_ne (Ne.symm hj)) (fun hi => by rw [getD_set_self (by rw [S.len]; exact hi)]; exact ⟨v, rfl, r⟩) (by simp [Sl.ads]) (fun _ _ _ _ p hp => by simp [Sl.ads] at hp) fun j s' _ h => S.ok j s' h
theorem Sat.setO (S : Sat K G H₀ L F H σ ss) {i : Nat} {xs : List D} {p : Addr} (r : OwnL K H₀ F H p xs) (hne : ∀ (j : Nat) s', j ≠ i → ss[j]? = some s' → p ∉ s'.ads) : Sat K G H₀ L F H (σ.set i (some (.ref p))) (ss.set i (.o p xs)) :=
  S.put S.ext S.fl (by simp) (fun j hj => getD_set_ne (Ne.symm hj)) (fun hi => by rw [getD_set_self (by rw [S.len]; exact hi)]; exact ⟨rfl, r⟩) (by simp [Sl.ads]) (fun j s' hj h q hq => by simp [Sl.ads] at hq; subst hq; exact hne j s' hj h) fun j s' _ h => S.ok j s' h
theorem Sat.write (S : Sat K G H₀ L F H σ ss) {i : Nat} {xs ys : List D} {p : Addr} {vs : List V} (hs : ss[i]? = some (.o p xs)) (r : Reps K F ys vs) : Sat K G H₀ L F (upd H p (.lst vs)) σ (ss.set i (.o p ys)) := by
  obtain ⟨e, h0, fp, ws, hp, _⟩ := S.getO hs
  have hget : σ.getD i none = some (.ref p) := by rw [List.getD_eq_getElem?_getD, e]; rfl
  refine S.put (S.ext.write fp h0) S.fl rfl (fun _ _ => rfl) (fun _ => by rw [hget]; exact ⟨rfl, h0, fp, vs, upd_same, r⟩) (by simp [Sl.ads]) (fun j s' hj h q hq => ?_) fun j s' hj h => (S.ok j s' h).updNe (S.ne i j _ s' (Ne.symm hj) hs h p (by simp [Sl.ads]))
  simp [Sl.ads] at hq; subst hq
  exact S.ne i j _ s' (Ne.symm hj) hs h q (by simp [Sl.ads])
theorem Sat.freeze (S : Sat K G H₀ L F H σ ss) {i : Nat} {p : Addr} {xs : List D} (hs : ss[i]? = some (.o p xs)) : ∃ F', Sat K G H₀ L F' H σ (ss.set i (.d (.lst xs))) := by
  obtain ⟨e, h0, fp, vs, hp, r⟩ := S.getO hs
  have hget : σ.getD i none = some (.ref p) := by rw [List.getD_eq_getElem?_getD, e]; rfl
  exact ⟨upd F p (.lst vs), S.put (S.ext.freeze fp h0 hp) (S.fl.trans (Same.upd fp)) rfl (fun _ _ => rfl) (fun _ => by rw [hget]; exact ⟨_, rfl, Rep.lst (SqL.of upd_same) (r.mono (Same.upd fp))⟩) (by simp [Sl.ads]) (fun _ _ _ _ q hq => by simp [Sl.ads] at hq)
    fun j s' hj h => (S.ok j s' h).frz fp (S.ne i j _ s' (Ne.symm hj) hs h p (by simp [Sl.ads]))⟩
theorem Sat.raise (S : Sat K G H₀ L F H σ ss) : Sat K G H₀ F F H σ ss := ⟨S.ext, Same.refl _, S.len, S.ok, S.nd, S.ne⟩
theorem Sat.lower {L' : Hp} (S : Sat K G H₀ L' F H σ ss) (h : Same L L') : Sat K G H₀ L F H σ ss := ⟨S.ext, h.trans S.fl, S.len, S.ok, S.nd, S.ne⟩
end

section
variable (K : PySem.W.Frag) (G H₀ L : Hp) (ss : List Sl)
def Ev (t : TE) (d : D) : Prop := ∀ F H σ Q, Sat K G H₀ L F H σ ss → (∀ v F' H', Ext F H F' H' → Rep K F' d v → Q v H') → t σ H Q
def EvO (t : TE) (ds : List D) : Prop := ∀ F H σ Q, Sat K G H₀ L F H σ ss → (∀ p vs F' H', Ext F H F' H' → H p = none → F' p = none → H' p = some (.lst vs) → Reps K F' ds vs → Q (.ref p) H') → t σ H Q
def EvL (t : TE) (ds : List D) : Prop := ∀ F H σ Q, Sat K G H₀ L F H σ ss → (∀ p vs F' H', Ext F H F' H' → SqL K H' p vs → Reps K F' ds vs → Q (.ref p) H') → t σ H Q
def EvB (t : TE) (d : D) : Prop := ∀ F H σ Q, Sat K G H₀ L F H σ ss → (∀ v F' H', Ext F H F' H' → Rep K H' d v → Q v H') → t σ H Q
def EvT (t : TT) (b : Bool) : Prop := ∀ F H σ (Q : Bool → Hp → Prop), Sat K G H₀ L F H σ ss → (∀ F' H', Ext F H F' H' → Q b H') → t σ H Q
def EvA (t : TA) (ds : List D) : Prop := ∀ F H σ (Q : List V → Hp → Prop), Sat K G H₀ L F H σ ss → (∀ vs F' H', Ext F H F' H' → Reps K H' ds vs → Q vs H') → t σ H Q
def EvAF (t : TA) (ds : List D) : Prop := ∀ F H σ (Q : List V → Hp → Prop), Sat K G H₀ L F H σ ss → (∀ vs F' H', Ext F H F' H' → Reps K F' ds vs → Q vs H') → t σ H Q
end
section
variable {K : PySem.W.Frag} {G H₀ L : Hp} {ss : List Sl} {t ta tb : TE} {d d1 d2 : D} {ds es : List D}
theorem EvO.ev (h : EvO K G H₀ L ss t ds) : Ev K G H₀ L ss t (.lst ds) := fun F H σ Q S q => h F H σ Q S fun p vs F' H' e hp fp hp' r => q _ _ _ (e.freeze fp hp hp') (Rep.lst (SqL.of upd_same) (r.mono (Same.upd fp)))
theorem EvO.l (h : EvO K G H₀ L ss t ds) : EvL K G H₀ L ss t ds := fun F H σ Q S q => h F H σ Q S fun p vs F' H' e hp fp hp' r => q _ _ _ _ e (SqL.of hp') r
theorem Ev.l (h : Ev K G H₀ L ss t (.lst ds)) : EvL K G H₀ L ss t ds := fun F H σ Q S q => h F H σ Q S fun v F' H' e r => by
  obtain ⟨p, xs, rfl, sq, rs⟩ := r.of_lst
  exact q _ _ _ _ e (SqL.same e.fh sq) rs
theorem Ev.b (h : Ev K G H₀ L ss t d) : EvB K G H₀ L ss t d := fun F H σ Q S q => h F H σ Q S fun v F' H' e r => q _ _ _ e (r.mono e.fh)
theorem ev_var {i : Nat} (hs : ss[i]? = some (.d d)) : Ev K G H₀ L ss (tVar i) d := fun F H σ Q S q => by
  obtain ⟨v, e, r⟩ := S.getD hs
  exact ⟨v, e, q _ _ _ (Ext.refl S.ext.fh) r⟩
theorem evl_own {i : Nat} {p : Addr} (hs : ss[i]? = some (.o p ds)) : EvL K G H₀ L ss (tVar i) ds := fun F H σ Q S q => by
  obtain ⟨e, h0, fp, vs, hp, r⟩ := S.getO hs
  exact ⟨.ref p, e, q _ _ _ _ (Ext.refl S.ext.fh) (SqL.of hp) r⟩
theorem ev_int {i : Int} : Ev K G H₀ L ss (tC (.int i)) (.int i) := fun F H σ Q S q => q _ _ _ (Ext.refl S.ext.fh) Rep.int
theorem ev_bl {b : Bool} : Ev K G H₀ L ss (tC (.bl b)) (.bl b) := fun F H σ Q S q => q _ _ _ (Ext.refl S.ext.fh) Rep.bl
theorem ev_str {x : Str} {l : List Nat} (h : x = T l) (ha : ∀ c ∈ l, c < 128) : Ev K G H₀ L ss (tC (.str x)) (.str l) := fun F H σ Q S q => by subst h; exact q _ _ _ (Ext.refl S.ext.fh) (Rep.str ha)
theorem ev_op2 {r : R2} {w : V} (a : EvB K G H₀ L ss ta d1) (b : EvB K G H₀ L ss tb d2) (hr : ∀ H x y (Q : VK), Rep K H d1 x → Rep K H d2 y → Q w H → r x y H Q) (hw : ∀ F H x y, Rep K H d1 x → Rep K H d2 y → Rep K F d w) : Ev K G H₀ L ss (tOp r ta tb) d := fun F H σ Q S q =>
  a F H σ _ S fun x F1 H1 e1 r1 => b F1 H1 σ _ (S.ext2 e1) fun y F2 H2 e2 r2 => hr H2 x y Q (r1.mono e2.hh) r2 (q _ _ _ (e1.trans e2) (hw _ _ _ _ (r1.mono e2.hh) r2))
theorem ev_add {i j : Int} (a : EvB K G H₀ L ss ta (.int i)) (b : EvB K G H₀ L ss tb (.int j)) : Ev K G H₀ L ss (tOp (rI0 fun i j => .int (i + j)) ta tb) (.int (i + j)) :=
  ev_op2 a b (fun H x y Q r1 r2 q => ⟨i, j, r1.of_int, r2.of_int, q⟩) fun _ _ _ _ _ _ => Rep.int
theorem ev_sub {i j : Int} (a : EvB K G H₀ L ss ta (.int i)) (b : EvB K G H₀ L ss tb (.int j)) : Ev K G H₀ L ss (tOp (rI0 fun i j => .int (i - j)) ta tb) (.int (i - j)) :=
  ev_op2 a b (fun H x y Q r1 r2 q => ⟨i, j, r1.of_int, r2.of_int, q⟩) fun _ _ _ _ _ _ => Rep.int
theorem ev_opI {C : Int → Int → Prop} {g : Int → Int → Int} {i j : Int} (a : EvB K G H₀ L ss ta (.int i)) (b : EvB K G H₀ L ss tb (.int j)) (hC : C i j) : Ev K G H₀ L ss (tOp (rI C fun i j => .int (g i j)) ta tb) (.int (g i j)) :=
  ev_op2 a b (fun H x y Q r1 r2 q => ⟨i, j, r1.of_int, r2.of_int, hC, q⟩) fun _ _ _ _ _ _ => Rep.int
theorem ev_cmpI {g : Int → Int → Bool} {i j : Int} (a : EvB K G H₀ L ss ta (.int i)) (b : EvB K G H₀ L ss tb (.int j)) : Ev K G H₀ L ss (tOp (rI0 fun i j => .bl (g i j)) ta tb) (.bl (g i j)) :=
  ev_op2 a b (fun H x y Q r1 r2 q => ⟨i, j, r1.of_int, r2.of_int, q⟩) fun _ _ _ _ _ _ => Rep.bl
theorem ev_eqI {i j : Int} (a : EvB K G H₀ L ss ta (.int i)) (b : EvB K G H₀ L ss tb (.int j)) : Ev K G H₀ L ss (tOp rEq ta tb) (.bl (decide (i = j))) :=
  ev_op2 (w := .bl (decide (i = j))) a b (fun H x y Q r1 r2 q => by rw [r1.of_int, r2.of_int]; exact ⟨rfl, by simpa using q⟩) fun _ _ _ _ _ _ => Rep.bl
theorem ev_neI {i j : Int} (a : EvB K G H₀ L ss ta (.int i)) (b : EvB K G H₀ L ss tb (.int j)) : Ev K G H₀ L ss (tOp rNe ta tb) (.bl (!decide (i = j))) :=
  ev_op2 (w := .bl (!decide (i = j))) a b (fun H x y Q r1 r2 q => by rw [r1.of_int, r2.of_int]; exact ⟨rfl, by simpa using q⟩) fun _ _ _ _ _ _ => Rep.bl
theorem ev_eqS {l m : List Nat} (a : EvB K G H₀ L ss ta (.str l)) (b : EvB K G H₀ L ss tb (.str m)) : Ev K G H₀ L ss (tOp rEq ta tb) (.bl (decide (l = m))) :=
  ev_op2 (w := .bl (decide (l = m))) a b (fun H x y Q r1 r2 q => by rw [r1.of_str, r2.of_str]; exact ⟨rfl, by rw [T_decide]; exact q⟩) fun _ _ _ _ _ _ => Rep.bl
theorem ev_eqB {l m : Bool} (a : EvB K G H₀ L ss ta (.bl l)) (b : EvB K G H₀ L ss tb (.bl m)) : Ev K G H₀ L ss (tOp rEq ta tb) (.bl (decide (l = m))) :=
  ev_op2 (w := .bl (decide (l = m))) a b (fun H x y Q r1 r2 q => by rw [r1.of_bl, r2.of_bl]; exact ⟨rfl, by simpa using q⟩) fun _ _ _ _ _ _ => Rep.bl
theorem ev_neB {l m : Bool} (a : EvB K G H₀ L ss ta (.bl l)) (b : EvB K G H₀ L ss tb (.bl m)) : Ev K G H₀ L ss (tOp rNe ta tb) (.bl (!decide (l = m))) :=
  ev_op2 (w := .bl (!decide (l = m))) a b (fun H x y Q r1 r2 q => by rw [r1.of_bl, r2.of_bl]; exact ⟨rfl, by simpa using q⟩) fun _ _ _ _ _ _ => Rep.bl
theorem Reps.atI {H : Hp} {ds : List D} {vs : List V} {i : Int} {d : D} (r : Reps K H ds vs) (h : L2.atI ds i = some d) : ∃ v, L2.atI vs i = some v ∧ Rep K H d v := by
  unfold L2.atI at h ⊢
  rw [r.length] at h
  cases hx : ixN vs.length i with
  | none => rw [hx] at h; cases h
  | some j => rw [hx] at h; exact r.get' h
theorem ev_ixL {i : Int} (a : EvL K G H₀ L ss ta ds) (b : EvB K G H₀ L ss tb (.int i)) (hc : atI ds i = some d) : Ev K G H₀ L ss (tOp (rIxL K) ta tb) d := fun F H σ Q S q =>
  a F H σ _ S fun p vs F1 H1 e1 sq r1 => b F1 H1 σ _ (S.ext2 e1) fun y F2 H2 e2 r2 => by
    obtain ⟨v, hv, rv⟩ := r1.atI hc
    exact ⟨p, vs, i, v, rfl, r2.of_int, SqL.same e2.hh sq, hv, q _ _ _ (e1.trans e2) (rv.mono e2.gf)⟩
theorem ev_ixT {i : Int} (a : Ev K G H₀ L ss ta (.tup ds)) (b : EvB K G H₀ L ss tb (.int i)) (hc : atI ds i = some d) : Ev K G H₀ L ss (tOp (rIxT K) ta tb) d := fun F H σ Q S q =>
  a F H σ _ S fun x F1 H1 e1 r1 => b F1 H1 σ _ (S.ext2 e1) fun y F2 H2 e2 r2 => by
    obtain ⟨p, vs, rfl, sq, rs⟩ := r1.of_tup
    obtain ⟨v, hv, rv⟩ := rs.atI hc
    exact ⟨p, vs, i, v, rfl, r2.of_int, SqT.same (e1.fh.trans e2.hh) sq, hv, q _ _ _ (e1.trans e2) (rv.mono e2.gf)⟩
theorem eva_nil : EvA K G H₀ L ss tNil [] := fun F H σ Q S q => q _ _ _ (Ext.refl S.ext.fh) Reps.nil
theorem eva_cons {t : TA} (a : EvB K G H₀ L ss ta d) (b : EvA K G H₀ L ss t ds) : EvA K G H₀ L ss (tCons ta t) (d :: ds) := fun F H σ Q S q =>
  a F H σ _ S fun x F1 H1 e1 r1 => b F1 H1 σ _ (S.ext2 e1) fun vs F2 H2 e2 r2 => q _ _ _ (e1.trans e2) (Reps.cons (r1.mono e2.hh) r2)
theorem evaf_nil : EvAF K G H₀ L ss tNil [] := fun F H σ Q S q => q _ _ _ (Ext.refl S.ext.fh) Reps.nil
theorem evaf_cons {t : TA} (a : Ev K G H₀ L ss ta d) (b : EvAF K G H₀ L ss t ds) : EvAF K G H₀ L ss (tCons ta t) (d :: ds) := fun F H σ Q S q =>
  a F H σ _ S fun x F1 H1 e1 r1 => b F1 H1 σ _ (S.ext2 e1) fun vs F2 H2 e2 r2 => q _ _ _ (e1.trans e2) (Reps.cons (r1.mono e2.gf) r2)
theorem ev_tup {t : TA} (a : EvAF K G H₀ L ss t ds) (hz : ds.length ≤ sizeLine) : Ev K G H₀ L ss (tTup t) (.tup ds) := fun F H σ Q S q =>
  a F H σ _ S fun vs F1 H1 e1 r1 => ⟨by rw [← r1.length]; exact hz, fun p hp => q _ _ _ (e1.newF hp) (Rep.tupN (upd_same) (r1.mono (Same.upd (e1.fh.free hp))))⟩
theorem evo_lst {t : TA} (a : EvAF K G H₀ L ss t ds) (hz : ds.length ≤ sizeLine) : EvO K G H₀ L ss (tLst t) ds := fun F H σ Q S q =>
  a F H σ _ S fun vs F1 H1 e1 r1 => ⟨by rw [← r1.length]; exact hz, fun p hp => q p vs F1 _ (e1.newO hp) (e1.hh.free hp) (e1.fh.free hp) upd_same r1⟩
theorem evt_test {b : Bool} (a : Ev K G H₀ L ss t (.bl b)) : EvT K G H₀ L ss (tTest t) b := fun F H σ Q S q => a F H σ _ S fun v F' H' e r => ⟨b, r.of_bl, q _ _ e⟩
theorem evt_b {b : Bool} (a : Ev K G H₀ L ss t (.bl b)) : EvT K G H₀ L ss (tB t) b := fun F H σ Q S q => a F H σ _ S fun v F' H' e r => ⟨b, r.of_bl, q _ _ e⟩
theorem evt_not {u : TT} {b : Bool} (a : EvT K G H₀ L ss u b) : EvT K G H₀ L ss (tNot u) (!b) := fun F H σ Q S q => a F H σ _ S fun F' H' e => q _ _ e
theorem evt_and {u v : TT} {b c : Bool} (a : EvT K G H₀ L ss u b) (h : b = true → EvT K G H₀ L ss v c) : EvT K G H₀ L ss (tAnd u v) (b && c) := fun F H σ Q S q => a F H σ _ S fun F' H' e => by
  cases b with
  | false => exact iteF (q _ _ e)
  | true => exact iteT (h rfl _ _ _ _ (S.ext2 e) fun F'' H'' e' => q _ _ (e.trans e'))
theorem evt_or {u v : TT} {b c : Bool} (a : EvT K G H₀ L ss u b) (h : b = false → EvT K G H₀ L ss v c) : EvT K G H₀ L ss (tOr u v) (b || c) := fun F H σ Q S q => a F H σ _ S fun F' H' e => by
  cases b with
  | true => exact iteT (q _ _ e)
  | false => exact iteF (h rfl _ _ _ _ (S.ext2 e) fun F'' H'' e' => q _ _ (e.trans e'))
theorem ev_and {b c : Bool} (a : Ev K G H₀ L ss ta (.bl b)) (h : b = true → Ev K G H₀ L ss tb (.bl c)) : Ev K G H₀ L ss (tAndV ta tb) (.bl (b && c)) := fun F H σ Q S q => a F H σ _ S fun v F' H' e r => by
  refine ⟨b, r.of_bl, ?_⟩
  cases b with
  | false => exact iteF (q _ _ _ e Rep.bl)
  | true => exact iteT (h rfl _ _ _ _ (S.ext2 e) fun v F'' H'' e' r' => q _ _ _ (e.trans e') r')
theorem ev_or {b c : Bool} (a : Ev K G H₀ L ss ta (.bl b)) (h : b = false → Ev K G H₀ L ss tb (.bl c)) : Ev K G H₀ L ss (tOrV ta tb) (.bl (b || c)) := fun F H σ Q S q => a F H σ _ S fun v F' H' e r => by
  refine ⟨b, r.of_bl, ?_⟩
  cases b with
  | true => exact iteT (q _ _ _ e Rep.bl)
  | false => exact iteF (h rfl _ _ _ _ (S.ext2 e) fun v F'' H'' e' r' => q _ _ _ (e.trans e') r')
theorem ev_not {b : Bool} (a : Ev K G H₀ L ss ta (.bl b)) : Ev K G H₀ L ss (tNotV ta) (.bl (!b)) := fun F H σ Q S q => a F H σ _ S fun v F' H' e r => ⟨b, r.of_bl, q _ _ _ e Rep.bl⟩
end
end L2

namespace L2
open PySem PySem.Spec PyProof.Rows
def SpD (K : PySem.W.Frag) (pre : List D → Prop) (res : List D → D) : Sp := fun vs H Q _ => ∃ G ds, Same G H ∧ Reps K G ds vs ∧ pre ds ∧ ∀ v G' H', Ext G H G' H' → Rep K G' (res ds) v → Q v H'
def SpO (K : PySem.W.Frag) (pre : List D → Prop) (res : List D → List D) : Sp := fun vs H Q _ => ∃ G ds, Same G H ∧ Reps K G ds vs ∧ pre ds ∧ ∀ p ws G' H', Ext G H G' H' → H p = none → G' p = none → H' p = some (.lst ws) → Reps K G' (res ds) ws → Q (.ref p) H'
def D.flat : D → Bool
  | .lst _ => false | .tup _ => false | .dct _ _ => false | .dctT _ _ => false | .ins _ _ _ => false | _ => true
section
variable {K : PySem.W.Frag} {G H₀ L : Hp} {ss : List Sl} {t : TA} {ds : List D} {pre : List D → Prop} {E : XK}
theorem ev_call {res : List D → D} (a : EvAF K G H₀ L ss t ds) (hp : pre ds) : Ev K G H₀ L ss (tCall (SpD K pre res) [] E t) (res ds) := fun F H σ Q S q =>
  a F H σ _ S fun vs F1 H1 e1 r1 => ⟨F1, ds, e1.fh, by rw [List.append_nil]; exact r1, hp, fun v G' H' e2 r => q _ _ _ (e1.trans e2) r⟩
theorem evo_call {res : List D → List D} (a : EvAF K G H₀ L ss t ds) (hp : pre ds) : EvO K G H₀ L ss (tCall (SpO K pre res) [] E t) (res ds) := fun F H σ Q S q =>
  a F H σ _ S fun vs F1 H1 e1 r1 => ⟨F1, ds, e1.fh, by rw [List.append_nil]; exact r1, hp, fun p ws G' H' e2 h1 h2 h3 r => q _ _ _ _ (e1.trans e2) (e1.hh.free h1) h2 h3 r⟩
end

section
variable (K : PySem.W.Frag) (G H₀ L : Hp)
def Nx (P : St → Hp → Prop) (ss : List Sl) : Prop := ∀ F H σ, Sat K G H₀ L F H σ ss → P σ H
def Go (E : Ends) (ss : List Sl) (t : TS) : Prop := ∀ F H σ, Sat K G H₀ L F H σ ss → t E σ H
def Tg (g : TG) (d : D) (ss ss' : List Sl) : Prop := ∀ F H σ v (Q : St → Hp → Prop), Sat K G H₀ L F H σ ss → Rep K F d v → (∀ σ' , Sat K G H₀ L F H σ' ss' → Q σ' H) → g v σ H Q
def Tgs (g : TGs) (ds : List D) (ss ss' : List Sl) : Prop := ∀ F H σ vs (Q : St → Hp → Prop), Sat K G H₀ L F H σ ss → Reps K F ds vs → (∀ σ' , Sat K G H₀ L F H σ' ss' → Q σ' H) → g vs σ H Q
def At (I : List Sl → Prop) : St → Hp → Prop := fun σ H => ∃ ss F, Sat K G H₀ L F H σ ss ∧ I ss
end
def RtD (K : PySem.W.Frag) (G H₀ : Hp) (rt : VK) (d : D) : Prop := ∀ v F H, Ext G H₀ F H → Rep K F d v → rt v H
def RtO (K : PySem.W.Frag) (G H₀ : Hp) (rt : VK) (ds : List D) : Prop := ∀ p vs F H, Ext G H₀ F H → H₀ p = none → F p = none → H p = some (.lst vs) → Reps K F ds vs → rt (.ref p) H
section
variable {K : PySem.W.Frag} {G H₀ L : Hp} {ss ss' : List Sl} {E : Ends} {t u : TS} {te : TE} {d : D} {ds : List D} {P : St → Hp → Prop}
theorem go_seq (h : Go K G H₀ L { E with nx := u E } ss t) : Go K G H₀ L E ss (tSeq t u) := h
theorem go_set {i : Nat} (a : Ev K G H₀ L ss te d) (h : Nx K G H₀ L E.nx (ss.set i (.d d))) : Go K G H₀ L E ss (tAsg te (gName i)) := fun F H σ S => a F H σ _ S fun v F' H' e r => h F' H' _ ((S.ext2 e).setD r)
theorem Sat.notin {F H : Hp} {σ : St} {p : Addr} (S : Sat K G H₀ L F H σ ss) (hp : H p = none) (j : Nat) (s : Sl) (h : ss[j]? = some s) : p ∉ s.ads := fun z => (S.ok j s h).live z hp
theorem Sat.newO {F H F' H' : Hp} {σ : St} {p : Addr} {vs : List V} {i : Nat} (S : Sat K G H₀ L F H σ ss) (e : Ext F H F' H') (hp : H p = none) (fp : F' p = none) (hp' : H' p = some (.lst vs)) (r : Reps K F' ds vs) : Sat K G H₀ L F' H' (σ.set i (some (.ref p))) (ss.set i (.o p ds)) :=
  (S.ext2 e).setO ⟨S.ext.hh.free hp, fp, vs, hp', r⟩ fun j s _ h => S.notin hp j s h
theorem go_setO {i : Nat} (a : EvO K G H₀ L ss te ds) (h : ∀ p, Nx K G H₀ L E.nx (ss.set i (.o p ds))) : Go K G H₀ L E ss (tAsg te (gName i)) := fun F H σ S => a F H σ _ S fun p vs F' H' e hp fp hp' r => h p F' H' _ (S.newO e hp fp hp' r)
theorem go_if {c : TT} {b : Bool} (a : EvT K G H₀ L ss c b) (h1 : b = true → Go K G H₀ L E ss t) (h2 : b = false → Go K G H₀ L E ss u) : Go K G H₀ L E ss (tIfS c t u) := fun F H σ S => a F H σ _ S fun F' H' e => by
  cases b with
  | true => exact iteT (h1 rfl F' H' σ (S.ext2 e))
  | false => exact iteF (h2 rfl F' H' σ (S.ext2 e))
theorem go_next (h : Nx K G H₀ L E.nx ss) : Go K G H₀ L E ss tNext := h
theorem go_ret (a : Ev K G H₀ L ss te d) (h : RtD K G H₀ E.rt d) : Go K G H₀ L E ss (tRet te) := fun F H σ S => a F H σ _ S fun v F' H' e r => h v F' H' (S.ext.trans e) r
theorem go_retO (a : EvO K G H₀ L ss te ds) (h : RtO K G H₀ E.rt ds) : Go K G H₀ L E ss (tRet te) := fun F H σ S => a F H σ _ S fun p vs F' H' e hp fp hp' r => h p vs F' H' (S.ext.trans e) (S.ext.hh.free hp) fp hp' r
theorem nx_freeze {i : Nat} {p : Addr} (hs : ss[i]? = some (.o p ds)) (h : Nx K G H₀ L P (ss.set i (.d (.lst ds)))) : Nx K G H₀ L P ss := fun F H σ S => by
  obtain ⟨F', S'⟩ := S.freeze hs
  exact h F' H σ S'
theorem nx_go (h : Go K G H₀ L E ss t) : Nx K G H₀ L (t E) ss := h
theorem nx_at {I : List Sl → Prop} (h : I ss) : Nx K G H₀ L (At K G H₀ L I) ss := fun F H σ S => ⟨ss, F, S, h⟩
theorem go_join (I : List Sl → Prop) (h1 : ∀ N : St → Hp → Prop, (∀ ss, I ss → Nx K G H₀ L N ss) → Go K G H₀ L { E with nx := N } ss t) (h2 : ∀ ss, I ss → Go K G H₀ L E ss u) : Go K G H₀ L E ss (tSeq t u) := h1 _ h2
theorem tg_name {i : Nat} : Tg K G H₀ L (gName i) d ss (ss.set i (.d d)) := fun F H σ v Q S r q => q _ (S.setD r)
theorem tgs_nil : Tgs K G H₀ L gNil [] ss ss := fun F H σ vs Q S r q => by
  rw [Reps] at r
  exact ⟨r, q _ S⟩
theorem tgs_cons {g : TG} {gs : TGs} {ss1 ss2 : List Sl} (a : Tg K G H₀ L g d ss ss1) (b : Tgs K G H₀ L gs ds ss1 ss2) : Tgs K G H₀ L (gCons g gs) (d :: ds) ss ss2 := fun F H σ vs Q S r q => by
  rw [Reps] at r
  obtain ⟨x, xs, rfl, r1, r2⟩ := r
  exact ⟨x, xs, rfl, a F H σ x _ S r1 fun σ' S' => b F H σ' xs _ S' r2 q⟩
theorem tg_tup {g : TGs} {n : Nat} (hn : ds.length = n) (a : Tgs K G H₀ L g ds ss ss') : Tg K G H₀ L (gTup K n g) (.tup ds) ss ss' := fun F H σ v Q S r q => by
  obtain ⟨p, xs, rfl, sq, rs⟩ := r.of_tup
  exact ⟨p, xs, rfl, SqT.same S.ext.fh sq, by rw [← rs.length]; exact hn, a F H σ xs _ S rs q⟩
theorem go_append {i : Nat} {p : Addr} {t1 : TE} (hs : ss[i]? = some (.o p ds)) (a : Ev K G H₀ L ss t1 d) (hz : ds.length < sizeLine) (h : Nx K G H₀ L E.nx (ss.set i (.o p (ds ++ [d])))) :
    Go K G H₀ L E ss (tDrop (tBM K "list" rAppend (tVar i) (tCons t1 tNil))) := fun F H σ S => by
  obtain ⟨e, h0, fp, vs, hp, r⟩ := S.getO hs
  refine ⟨.ref p, e, .inl ⟨rfl, _, SqL.of hp⟩, a F H σ _ S fun v F' H' e' r' => ?_⟩
  have S' := S.ext2 e'
  obtain ⟨e2, h02, fp2, vs', hp2, r2⟩ := S'.getO hs
  exact ⟨p, vs', v, rfl, rfl, hp2, by rw [← r2.length]; exact hz, h F' _ σ (S'.write hs (r2.snoc r'))⟩
theorem Rep.itl {F H : Hp} {p : Addr} (h : Same F H) (r : Rep K F (.lst ds) (.ref p)) : ∃ vs, SqL K H p vs ∧ Reps K F ds vs := by
  obtain ⟨q, xs, e, sq, rs⟩ := r.of_lst
  cases e
  exact ⟨xs, SqL.same h sq, rs⟩
theorem go_for {tl : TE} {g : TG} {tb : TS} {α : Type} (enc : α → D) (xs : List α) (I : Nat → List Sl → Prop) (a : Ev K G H₀ L ss tl (.lst (xs.map enc))) (h0 : I 0 ss)
    (hs : ∀ L' k x ss, Same L L' → xs[k]? = some x → I k ss → ∃ ss', Tg K G H₀ L' g (enc x) ss ss' ∧ ∀ N, (∀ ss, I (k + 1) ss → Nx K G H₀ L' N ss) → Go K G H₀ L' { E with nx := N, ct := N, bk := E.nx } ss' tb)
    (hd : ∀ ss, I xs.length ss → Nx K G H₀ L E.nx ss) : Go K G H₀ L E ss (tFor (iList K tl) g tb) := fun F H σ S =>
  a F H σ _ S fun v F1 H1 e1 r1 => by
    obtain ⟨p, vs, rfl, sq, rs⟩ := r1.of_lst
    refine ⟨p, rfl, ⟨vs, SqL.same e1.fh sq⟩, ?_⟩
    refine ⟨fun i m σ' H' => m = xs.length - i ∧ i ≤ xs.length ∧ At K G H₀ F1 (I i) σ' H', ⟨_, rfl, Nat.zero_le _, ss, F1, (S.ext2 e1).raise, h0⟩, ?_⟩
    rintro i m σ' H' ⟨rfl, hi, ss1, F2, S2, h2⟩
    have rp : Rep K F2 (.lst (xs.map enc)) (.ref p) := r1.mono S2.fl
    obtain ⟨ws, sq2, rs2⟩ := rp.itl S2.ext.fh
    have hlen : ws.length = xs.length := by rw [← rs2.length, List.length_map]
    by_cases hlt : i < xs.length
    · refine .inr ⟨⟨ws, ws[i]'(by lia), sq2, List.getElem?_eq_getElem _⟩, fun σ'' H'' => At K G H₀ F1 (I (i + 1)) σ'' H'', fun σ'' H'' h => ⟨xs.length - (i + 1), by lia, rfl, hlt, h⟩, fun x H'' y => ?_⟩
      obtain ⟨rfl, y⟩ := y
      have hx := y ws sq2
      obtain ⟨dx, hdx, rx⟩ := rs2.get hx
      rw [List.getElem?_map, List.getElem?_eq_getElem hlt] at hdx
      cases hdx
      obtain ⟨ss', tg, go⟩ := hs F1 i _ ss1 (S.fl.trans e1.gf) (List.getElem?_eq_getElem hlt) h2
      exact tg F2 _ σ' x _ S2 rx fun σ3 S3 => go _ (fun ss h => nx_at h) F2 _ σ3 S3
    · have e : i = xs.length := by lia
      subst e
      exact .inl ⟨⟨ws, sq2, by lia⟩, hd ss1 h2 F2 H' σ' (S2.lower (S.fl.trans e1.gf))⟩
theorem go_range {ta : TA} {j : Nat} {tb : TS} {n : Int} (I : Nat → List Sl → Prop) (a : EvA K G H₀ L ss ta [.int n]) (hb : -(2 ^ 62) ≤ n ∧ n < 2 ^ 62) (h0 : I 0 ss)
    (hs : ∀ (k : Nat) ss, (k : Int) < n → I k ss → ∀ N, (∀ ss, I (k + 1) ss → Nx K G H₀ L N ss) → Go K G H₀ L { E with nx := N, ct := N, bk := E.nx } (ss.set j (.d (.int (k : Int)))) tb)
    (hd : ∀ ss, I n.toNat ss → Nx K G H₀ L E.nx ss) {ti : TI} (hti : ∀ σ H R, (ta σ H fun vs H1 => ∃ m : Int, vs = [.int m] ∧ -(2 ^ 62) ≤ m ∧ m < 2 ^ 62 ∧ R (Itr 0 m.toNat) H1) → ti σ H R) : Go K G H₀ L E ss (tFor ti (gName j) tb) := fun F H σ S => by
  refine hti σ H _ (a F H σ _ S fun vs F1 H1 e1 r1 => ?_)
  rw [Reps] at r1
  obtain ⟨x, r, rfl, rx, r1⟩ := r1
  rw [Reps] at r1
  subst r1
  rw [rx.of_int]
  refine ⟨n, rfl, hb.1, hb.2, fun i m σ' H' => m = n.toNat - i ∧ i ≤ n.toNat ∧ At K G H₀ L (I i) σ' H', ⟨_, rfl, Nat.zero_le _, ss, F1, S.ext2 e1, h0⟩, ?_⟩
  rintro i m σ' H' ⟨rfl, hi, ss1, F2, S2, h2⟩
  by_cases hlt : i < n.toNat
  · refine .inr ⟨hlt, fun σ'' H'' => At K G H₀ L (I (i + 1)) σ'' H'', fun σ'' H'' h => ⟨n.toNat - (i + 1), by lia, rfl, hlt, h⟩, fun x H'' y => ?_⟩
    obtain ⟨rfl, rfl⟩ := y
    refine hs i ss1 (by omega) h2 _ (fun ss h => nx_at h) F2 _ _ ?_
    have e : (0 : Int) + (i : Int) = (i : Int) := by lia
    rw [e]
    exact S2.setD Rep.int
  · have e : i = n.toNat := by lia
    subst e
    exact .inl ⟨Nat.le_refl _, hd ss1 h2 F2 H' σ' S2⟩
end
end L2

namespace L2
open PySem PySem.Spec PyProof.Rows
mutual
def D.toP : D → PyData
  | .non => .none
  | .bl b => .bool b
  | .int i => .int i
  | .str l => .str (T l)
  | .lst a => .list (D.toPs a)
  | .tup a => .tuple (D.toPs a)
  | .dct _ _ => .none
  | .dctT _ _ => .none
  | .ins _ _ _ => .none
def D.toPs : List D → List PyData
  | [] => []
  | a :: x => a.toP :: D.toPs x
end
mutual
theorem D.toP_depth : ∀ d : D, d.toP.depth = d.dep
  | .non => rfl
  | .bl _ => rfl
  | .int _ => rfl
  | .str _ => rfl
  | .lst a => by simp [D.toP, PyData.depth, D.dep, D.toPs_depth a]
  | .tup a => by simp [D.toP, PyData.depth, D.dep, D.toPs_depth a]
  | .dct _ _ => rfl
  | .dctT _ _ => rfl
  | .ins _ _ _ => rfl
theorem D.toPs_depth : ∀ a : List D, PyData.depthAll (D.toPs a) = D.deps a
  | [] => rfl
  | d :: a => by simp [D.toPs, PyData.depthAll, D.deps, D.toP_depth d, D.toPs_depth a]
end
mutual
theorem D.eqv : ∀ d e : D, d.nb = true → e.nb = true → PyData.eqv d.toP e.toP = decide (d = e)
  | .non, e, _, h2 => by cases e <;> simp [D.toP, PyData.eqv, D.nb] at h2 ⊢
  | .bl _, _, h1, _ => by simp [D.nb] at h1
  | .dct _ _, _, h1, _ => by simp [D.nb] at h1
  | .dctT _ _, _, h1, _ => by simp [D.nb] at h1
  | .ins _ _ _, _, h1, _ => by simp [D.nb] at h1
  | .int i, e, _, h2 => by
    cases e <;> simp [D.toP, PyData.eqv, D.nb] at h2 ⊢
    exact Bool.beq_eq_decide_eq _ _
  | .str l, e, _, h2 => by
    cases e <;> simp [D.toP, PyData.eqv, D.nb] at h2 ⊢
    rename_i m
    rw [Bool.eq_iff_iff]; simp [T_inj]
  | .lst a, e, h1, h2 => by
    cases e with
    | lst b =>
      simp only [D.nb] at h1 h2
      simp only [D.toP, PyData.eqv, D.lst.injEq]
      exact D.eqvs a b h1 h2
    | _ => simp [D.toP, PyData.eqv, D.nb] at h2 ⊢
  | .tup a, e, h1, h2 => by
    cases e with
    | tup b =>
      simp only [D.nb] at h1 h2
      simp only [D.toP, PyData.eqv, D.tup.injEq]
      exact D.eqvs a b h1 h2
    | _ => simp [D.toP, PyData.eqv, D.nb] at h2 ⊢
theorem D.eqvs : ∀ a b : List D, D.nbs a = true → D.nbs b = true → PyData.eqvAll (D.toPs a) (D.toPs b) = decide (a = b)
  | [], b, _, _ => by cases b <;> simp [D.toPs, PyData.eqvAll]
  | d :: a, b, h1, h2 => by
    cases b with
    | nil => simp [D.toPs, PyData.eqvAll]
    | cons e b =>
      simp only [D.nbs, Bool.and_eq_true] at h1 h2
      simp only [D.toPs, PyData.eqvAll, D.eqv d e h1.1 h2.1, D.eqvs a b h1.2 h2.2, List.cons.injEq]
      by_cases x : d = e <;> by_cases y : a = b <;> simp [x, y]
end
section
variable {X : Cx} {pins : List (Addr × Obj)} {σ : St} {H : Hp} {s : Shared}
theorem strOk_T {l : List Nat} (h : ∀ c ∈ l, c < 128) : PyData.strOk (T l) = true := by
  unfold PyData.strOk T
  simp
  intro c hc
  have := h c hc
  lia
mutual
theorem Inv.reads (I : Inv X pins σ H s) : ∀ {d : D} {v : V} {u : Value}, d.nb = true → Rep X.K H d v → RelV v u → (∃ as, Reads s.heap u d.toP as) ∧ d.toP.canLay0 = true
  | .non, _, _, _, r, q => by rw [r.of_non] at q; cases q; exact ⟨⟨_, Reads.none⟩, rfl⟩
  | .bl b, _, _, n, _, _ => by simp [D.nb] at n
  | .dct _ _, _, _, n, _, _ => by simp [D.nb] at n
  | .dctT _ _, _, _, n, _, _ => by simp [D.nb] at n
  | .ins _ _ _, _, _, n, _, _ => by simp [D.nb] at n
  | .int i, _, _, _, r, q => by rw [r.of_int] at q; obtain ⟨t, rfl⟩ := q; exact ⟨⟨_, Reads.int i t⟩, rfl⟩
  | .str l, _, _, _, r, q => by
    have ha := r.asc
    rw [r.of_str] at q; obtain ⟨t, rfl⟩ := q
    exact ⟨⟨_, Reads.str _ t⟩, strOk_T ha⟩
  | .lst ds, _, _, nn, r, q => by
    obtain ⟨p, xs, rfl, sq, rs⟩ := r.of_lst
    cases q
    obtain ⟨its, rv, ⟨o, n, e, c, _, hd⟩, _⟩ := I.list sq
    obtain ⟨⟨as, ra⟩, hc⟩ := I.readsAll (by simpa [D.nb] using nn) rs rv
    exact ⟨⟨_, Reads.list e c hd (by simpa using ra)⟩, by simpa [D.toP, PyData.canLay0] using hc⟩
  | .tup ds, _, _, nn, r, q => by
    obtain ⟨p, xs, rfl, sq, rs⟩ := r.of_tup
    cases q
    obtain ⟨its, rv, ⟨o, e, c, n, hd⟩, _⟩ := I.tuple sq
    obtain ⟨⟨as, ra⟩, hc⟩ := I.readsAll (by simpa [D.nb] using nn) rs rv
    exact ⟨⟨_, Reads.tuple e c hd (by simpa using ra)⟩, by simpa [D.toP, PyData.canLay0] using hc⟩
theorem Inv.readsAll (I : Inv X pins σ H s) : ∀ {ds : List D} {vs : List V} {us : List Value}, D.nbs ds = true → Reps X.K H ds vs → Vals vs us → (∃ as, ReadsAll s.heap us (D.toPs ds) as) ∧ PyData.canLayAll0 (D.toPs ds) = true
  | [], _, _, _, r, q => by
    rw [Reps] at r; subst r
    cases q
    exact ⟨⟨_, ReadsAll.nil⟩, rfl⟩
  | d :: ds, _, _, n, r, q => by
    simp only [D.nbs, Bool.and_eq_true] at n
    rw [Reps] at r
    obtain ⟨x, xs, rfl, r1, r2⟩ := r
    cases q with
    | cons q1 q2 =>
      obtain ⟨⟨as, a⟩, hc⟩ := I.reads n.1 r1 q1
      obtain ⟨⟨bs, b⟩, hc2⟩ := I.readsAll n.2 r2 q2
      exact ⟨⟨_, ReadsAll.cons a b⟩, by simp [D.toPs, PyData.canLayAll0, hc, hc2]⟩
end
end
def rEqD (K : PySem.W.Frag) : R2 := fun x y H Q => ∃ d e, Rep K H d x ∧ Rep K H e y ∧ d.nb = true ∧ e.nb = true ∧ d.dep ≤ 60 ∧ Q (.bl (decide (d = e))) H
def rNeD (K : PySem.W.Frag) : R2 := fun x y H Q => ∃ d e, Rep K H d x ∧ Rep K H e y ∧ d.nb = true ∧ e.nb = true ∧ d.dep ≤ 60 ∧ Q (.bl (!decide (d = e))) H
section
variable {X : Cx}
theorem op_eqD (hu : X.A.units + 64 < cLine) : OpR X (compareOp .Eq) (rEqD X.K) := by
  intro pins s σ H x y v u Q I rx ry h
  obtain ⟨d, e, r1, r2, n1, n2, hd, q⟩ := h
  obtain ⟨⟨as, a⟩, c1⟩ := I.reads n1 r1 rx
  obtain ⟨⟨bs, b⟩, c2⟩ := I.reads n2 r2 ry
  have h1 := D.toP_depth d
  refine SeqAt.compareEq_reads a b c1 c2 (by lia) ?_
  rw [D.eqv d e n1 n2]
  exact ⟨.bl _, H, I, rfl, q⟩
theorem op_neD (hu : X.A.units + 64 < cLine) : OpR X (compareOp .NotEq) (rNeD X.K) := by
  intro pins s σ H x y v u Q I rx ry h
  obtain ⟨d, e, r1, r2, n1, n2, hd, q⟩ := h
  obtain ⟨⟨as, a⟩, c1⟩ := I.reads n1 r1 rx
  obtain ⟨⟨bs, b⟩, c2⟩ := I.reads n2 r2 ry
  have h1 := D.toP_depth d
  refine SeqAt.compareNe_reads a b c1 c2 (by lia) ?_
  rw [D.eqv d e n1 n2]
  exact ⟨.bl _, H, I, rfl, q⟩
end
section
variable {K : PySem.W.Frag} {G H₀ L : Hp} {ss : List Sl} {t ta tb : TE} {d d1 d2 : D} {ds es : List D}
theorem ev_eqD (a : EvB K G H₀ L ss ta d1) (b : EvB K G H₀ L ss tb d2) (n1 : d1.nb = true) (n2 : d2.nb = true) (hd : d1.dep ≤ 60) : Ev K G H₀ L ss (tOp (rEqD K) ta tb) (.bl (decide (d1 = d2))) :=
  ev_op2 (w := .bl (decide (d1 = d2))) a b (fun H x y Q r1 r2 q => ⟨d1, d2, r1, r2, n1, n2, hd, q⟩) fun _ _ _ _ _ _ => Rep.bl
theorem ev_neD (a : EvB K G H₀ L ss ta d1) (b : EvB K G H₀ L ss tb d2) (n1 : d1.nb = true) (n2 : d2.nb = true) (hd : d1.dep ≤ 60) : Ev K G H₀ L ss (tOp (rNeD K) ta tb) (.bl (!decide (d1 = d2))) :=
  ev_op2 (w := .bl (!decide (d1 = d2))) a b (fun H x y Q r1 r2 q => ⟨d1, d2, r1, r2, n1, n2, hd, q⟩) fun _ _ _ _ _ _ => Rep.bl
end
theorem D.nbs_map {α : Type} {enc : α → D} (h : ∀ x, (enc x).nb = true) : ∀ xs : List α, D.nbs (xs.map enc) = true
  | [] => rfl
  | x :: xs => by simp [D.nbs, h x, D.nbs_map h xs]
end L2

namespace L2
open PySem PySem.Spec PyProof.Rows
def ItOk (K : PySem.W.Frag) (J : It) (F' H' : Hp) (n : Nat) (y : Nat → D) : Prop := ∀ F2 H2, Same F' F2 → Same H' H2 → Same F2 H2 →
  (∀ i, i < n → J.go i H2 ∧ ∀ x H3, J.yld i H2 x H3 → ∃ F3, Ext F2 H2 F3 H3 ∧ Rep K F3 (y i) x) ∧ J.stop n H2
def EvI (K : PySem.W.Frag) (G H₀ L : Hp) (ss : List Sl) (wi : TI) (n : Nat) (y : Nat → D) : Prop := ∀ F H σ R, Sat K G H₀ L F H σ ss → (∀ F' H' J, Ext F H F' H' → ItOk K J F' H' n y → R J H') → wi σ H R
section
variable {K : PySem.W.Frag} {G H₀ L : Hp} {ss : List Sl}
theorem evi_list {tl : TE} {ds : List D} (a : EvL K G H₀ L ss tl ds) : EvI K G H₀ L ss (iList K tl) ds.length fun i => ds.getD i .non := fun F H σ R S q =>
  a F H σ _ S fun p vs F' H' e sq r => ⟨p, rfl, ⟨vs, sq⟩, q F' H' _ e fun F2 H2 f1 h1 fh => by
    have sq2 := SqL.same h1 sq
    have hl := r.length
    refine ⟨fun i hi => ⟨⟨vs, vs[i]'(by lia), sq2, List.getElem?_eq_getElem _⟩, fun x H3 y => ?_⟩, ⟨vs, sq2, by lia⟩⟩
    obtain ⟨rfl, y⟩ := y
    obtain ⟨d, hd, rd⟩ := r.get (y vs sq2)
    refine ⟨F2, Ext.refl fh, ?_⟩
    show Rep K F2 (ds.getD i D.non) x
    rw [List.getD_eq_getElem?_getD, hd]
    exact rd.mono f1⟩
def lcSl (nt : Nat) (cs : List Nat) (ss : List Sl) : List Sl := List.replicate nt .un ++ cs.map fun i => ss.getD i .un
theorem Sat.lc {F H : Hp} {σ : St} {nt : Nat} {cs : List Nat} (S : Sat K G H₀ L F H σ ss) (hc : cs.Nodup) : Sat K G H₀ L F H (lcS nt cs σ) (lcSl nt cs ss) := by
  have cut : ∀ (i : Nat) s, (lcSl nt cs ss)[i]? = some s → s = .un ∨ ∃ j, nt ≤ i ∧ cs[i - nt]? = some j ∧ ss[j]? = some s := by
    intro i s h
    unfold lcSl at h
    by_cases hi : i < nt
    · rw [List.getElem?_append_left (by simpa using hi), List.getElem?_replicate, if_pos hi] at h
      exact .inl (Option.some.inj h).symm
    · rw [List.getElem?_append_right (by simpa using hi), List.length_replicate, List.getElem?_map] at h
      cases hj : cs[i - nt]? with
      | none => rw [hj] at h; cases h
      | some j =>
        rw [hj] at h
        have h : ss.getD j .un = s := Option.some.inj h
        rw [List.getD_eq_getElem?_getD] at h
        cases hs : ss[j]? with
        | none => rw [hs] at h; exact .inl h.symm
        | some s' => rw [hs] at h; exact .inr ⟨j, by lia, rfl, by rw [hs]; exact congrArg some h⟩
  have val : ∀ (i j : Nat), nt ≤ i → cs[i - nt]? = some j → (lcS nt cs σ).getD i none = σ.getD j none := by
    intro i j hi hj
    unfold lcS
    rw [List.getD_eq_getElem?_getD, List.getElem?_append_right (by simpa using hi), List.length_replicate, List.getElem?_map, hj]
    simp [List.getD_eq_getElem?_getD]
  refine ⟨S.ext, S.fl, by unfold lcS lcSl; simp, fun i s h => ?_, fun i s h => ?_, fun i j s s' hij h h' p hp => ?_⟩
  · rcases cut i s h with rfl | ⟨j, hi, hj, hs⟩
    · trivial
    · rw [val i j hi hj]; exact S.ok j s hs
  · rcases cut i s h with rfl | ⟨j, hi, hj, hs⟩
    · simp [Sl.ads]
    · exact S.nd j s hs
  · rcases cut i s h with rfl | ⟨k, hi, hk, hs⟩
    · simp [Sl.ads] at hp
    · rcases cut j s' h' with rfl | ⟨m, hj, hm, hs'⟩
      · simp [Sl.ads]
      · have : k ≠ m := fun z => by
          subst z
          obtain ⟨l1, e1⟩ := List.getElem?_eq_some_iff.mp hk
          obtain ⟨l2, e2⟩ := List.getElem?_eq_some_iff.mp hm
          have := (List.getElem_inj hc).mp (e1.trans e2.symm)
          lia
        exact S.ne k m s s' this hs hs' p hp
def GK (nt : Nat) (g : TG) : Prop := ∀ v σ H (Q Q' : St → Hp → Prop), (∀ σ' H', Q σ' H' → σ'.length = σ.length → σ'.drop nt = σ.drop nt → Q' σ' H') → g v σ H Q → g v σ H Q'
def GKs (nt : Nat) (g : TGs) : Prop := ∀ v σ H (Q Q' : St → Hp → Prop), (∀ σ' H', Q σ' H' → σ'.length = σ.length → σ'.drop nt = σ.drop nt → Q' σ' H') → g v σ H Q → g v σ H Q'
theorem gk_name {nt i : Nat} (h : i < nt) : GK nt (gName i) := fun v σ H Q Q' f q => f _ _ q (by simp) (by rw [List.drop_set_of_lt h])
theorem gks_nil {nt : Nat} : GKs nt gNil := fun v σ H Q Q' f q => ⟨q.1, f _ _ q.2 rfl rfl⟩
theorem gks_cons {nt : Nat} {g : TG} {gs : TGs} (a : GK nt g) (b : GKs nt gs) : GKs nt (gCons g gs) := fun vs σ H Q Q' f q => by
  obtain ⟨v, r, e, q⟩ := q
  exact ⟨v, r, e, a v σ H _ _ (fun σ' H' q1 l1 d1 => b r σ' H' Q Q' (fun σ'' H'' q2 l2 d2 => f _ _ q2 (l2.trans l1) (d2.trans d1)) q1) q⟩
theorem gk_tup {nt n : Nat} {gs : TGs} (b : GKs nt gs) : GK nt (gTup K n gs) := fun v σ H Q Q' f q => by
  obtain ⟨a, xs, e, sq, hn, q⟩ := q
  exact ⟨a, xs, e, sq, hn, b xs σ H Q Q' f q⟩

theorem evo_lcI {wi : TI} {g : TG} {tt : TT} {te : TE} {nt : Nat} {cs : List Nat} {n : Nat} {y : Nat → D} (p : Nat → Bool) (f : Nat → D) (a : EvI K G H₀ L ss wi n y) (hk : GK nt g) (hc : cs.Nodup) (hz : n < sizeLine)
    (hs : ∀ i, i < n → ∃ ss', Tg K G H₀ L g (y i) (lcSl nt cs ss) ss' ∧ EvT K G H₀ L ss' tt (p i) ∧ (p i = true → Ev K G H₀ L ss' te (f i))) :
    EvO K G H₀ L ss (tLC nt cs wi g tt te) (((List.range n).filter p).map f) := fun F H σ Q S q =>
  a F H σ _ S fun F1 H1 J e1 it => by
    intro l hl
    have S1 := S.ext2 e1
    refine ⟨fun i m H2 => m = n - i ∧ i ≤ n ∧ ∃ F2 vs, Ext F1 H1 F2 H2 ∧ F2 l = none ∧ H2 l = some (.lst vs) ∧ Reps K F2 (((List.range i).filter p).map f) vs ∧ vs.length ≤ i,
      ⟨n, by lia, Nat.zero_le _, F1, [], (Ext.refl e1.fh).newO hl, e1.fh.free hl, upd_same, Reps.nil, Nat.le_refl _⟩, ?_⟩
    rintro i m H2 ⟨rfl, hi, F2, vs, e2, fl, hl2, rs, hvs⟩
    obtain ⟨it1, it2⟩ := it F2 H2 e2.gf e2.hh e2.fh
    by_cases hlt : i < n
    · obtain ⟨go, yl⟩ := it1 i hlt
      refine .inr ⟨go, fun H' => ∃ F2 vs, Ext F1 H1 F2 H' ∧ F2 l = none ∧ H' l = some (.lst vs) ∧ Reps K F2 (((List.range (i + 1)).filter p).map f) vs ∧ vs.length ≤ i + 1, fun H' h => ⟨n - (i + 1), by omega, rfl, hlt, h⟩, fun x H3 yx => ?_⟩
      obtain ⟨F3, e3, rx⟩ := yl x H3 yx
      obtain ⟨ss', tg, evt, ev⟩ := hs i hlt
      have S3 := ((S1.ext2 e2).ext2 e3).lc (nt := nt) hc
      have hl3 : H3 l = some (.lst vs) := e3.hh l _ hl2
      have fl3 : F3 l = none := (e3.no l _ hl2 trivial).trans fl
      have base := tg F3 H3 (lcS nt cs σ) x (fun σ2 H4 => H4 = H3 ∧ Sat K G H₀ L F3 H3 σ2 ss') S3 rx fun σ' S' => ⟨rfl, S'⟩
      have fin : ∀ σ2, Sat K G H₀ L F3 H3 σ2 ss' → tt σ2 H3 fun b H5 => if b = true then te σ2 H5 fun y H6 => ∃ xs, H6 l = some (.lst xs) ∧ xs.length < sizeLine ∧ (∃ F2 vs, Ext F1 H1 F2 (upd H6 l (.lst (xs ++ [y]))) ∧ F2 l = none ∧ (upd H6 l (.lst (xs ++ [y]))) l = some (.lst vs) ∧ Reps K F2 (((List.range (i + 1)).filter p).map f) vs ∧ vs.length ≤ i + 1) else ∃ F2 vs, Ext F1 H1 F2 H5 ∧ F2 l = none ∧ H5 l = some (.lst vs) ∧ Reps K F2 (((List.range (i + 1)).filter p).map f) vs ∧ vs.length ≤ i + 1 := fun σ2 S2 => by
        refine evt F3 H3 σ2 _ S2 fun F5 H5 e5 => ?_
        have S5 := S2.ext2 e5
        have hl5 : H5 l = some (.lst vs) := e5.hh l _ hl3
        have fl5 : F5 l = none := (e5.no l _ hl3 trivial).trans fl3
        have gf : Same F2 F5 := e3.gf.trans e5.gf
        cases hp : p i with
        | false =>
          refine iteF ⟨F5, vs, (e2.trans e3).trans e5, fl5, hl5, ?_, by lia⟩
          rw [List.range_succ, List.filter_append, List.filter_cons, hp]
          simpa using rs.mono gf
        | true =>
          refine iteT (ev hp F5 H5 σ2 _ S5 fun v F6 H6 e6 rv => ?_)
          have hl6 : H6 l = some (.lst vs) := e6.hh l _ hl5
          have fl6 : F6 l = none := (e6.no l _ hl5 trivial).trans fl5
          refine ⟨vs, hl6, by lia, F6, vs ++ [v], (((e2.trans e3).trans e5).trans e6).write fl6 hl, fl6, upd_same, ?_, by simp; omega⟩
          rw [List.range_succ, List.filter_append, List.filter_cons, hp, if_pos rfl, List.map_append]
          exact (rs.mono (gf.trans e6.gf)).snoc rv
      refine hk x (lcS nt cs σ) H3 _ _ (fun σ2 H4 h l1 d1 => ?_) base
      obtain ⟨rfl, S2⟩ := h
      exact ⟨⟨by rw [l1]; unfold lcS; simp, d1⟩, fin σ2 S2⟩
    · have e : i = n := by lia
      subst e
      exact .inl ⟨it2, q l vs F2 H2 (e1.trans e2) (e1.hh.free hl) fl hl2 rs⟩
end
end L2

namespace L2
open PySem PySem.W PyProof.Rows
def runT {α : Type} (lt : Nat → Nat → Bool) : KasT α → α
  | .ret a => a
  | .ask i j k => runT lt (k (lt i j))
theorem runT_bind {α β : Type} (lt : Nat → Nat → Bool) (f : α → KasT β) : ∀ t : KasT α, runT lt (t.bind f) = runT lt (f (runT lt t))
  | .ret _ => rfl
  | .ask i j k => runT_bind lt f (k (lt i j))
section
variable (key : Nat → Int)
def ltK (i j : Nat) : Bool := decide (key i < key j)
def kk (p : Array Nat) (i : Nat) : Int := key (p.getD i 0)
def Up (p : Array Nat) (n : Nat) : Prop := ∀ i j, i ≤ j → j < n → kk key p i ≤ kk key p j
def Dn (p : Array Nat) (n : Nat) : Prop := ∀ i j, i ≤ j → j < n → kk key p j ≤ kk key p i
variable {key}
theorem up_one (p : Array Nat) : Up key p 1 := fun i j h1 h2 => by
  have : i = j := by lia
  subst this; exact Int.le_refl _
theorem Up.snoc {p : Array Nat} {n : Nat} (h : Up key p n) (h0 : 0 < n) (hn : kk key p (n - 1) ≤ kk key p n) : Up key p (n + 1) := fun i j h1 h2 => by
  by_cases hj : j < n
  · exact h i j h1 hj
  · have : j = n := by lia
    subst this
    by_cases hi : i = j
    · subst hi; exact Int.le_refl _
    · exact Int.le_trans (h i (j - 1) (by lia) (by omega)) hn
theorem Dn.snoc {p : Array Nat} {n : Nat} (h : Dn key p n) (h0 : 0 < n) (hn : kk key p n ≤ kk key p (n - 1)) : Dn key p (n + 1) := fun i j h1 h2 => by
  by_cases hj : j < n
  · exact h i j h1 hj
  · have : j = n := by lia
    subst this
    by_cases hi : i = j
    · subst hi; exact Int.le_refl _
    · exact Int.le_trans hn (h i (j - 1) (by lia) (by omega))
theorem asc_run (p : Array Nat) : ∀ (f n : Nat), 0 < n → Up key p n → n ≤ runT (ltK key) (kas_asc p f n) ∧ runT (ltK key) (kas_asc p f n) ≤ n + f ∧ Up key p (runT (ltK key) (kas_asc p f n)) ∧
    (runT (ltK key) (kas_asc p f n) < n + f → kk key p (runT (ltK key) (kas_asc p f n)) < kk key p (runT (ltK key) (kas_asc p f n) - 1))
  | 0, n, h0, h => ⟨Nat.le_refl _, Nat.le_refl _, h, fun z => absurd z (Nat.lt_irrefl _)⟩
  | f + 1, n, h0, h => by
    have e0 : runT (ltK key) (kas_asc p (f + 1) n) = if kk key p n < kk key p (n - 1) then n else runT (ltK key) (kas_asc p f (n + 1)) := by
      show runT (ltK key) (if ltK key (p.getD n 0) (p.getD (n - 1) 0) = true then KasT.ret n else kas_asc p f (n + 1)) = _
      by_cases hc : kk key p n < kk key p (n - 1)
      · have e : ltK key (p.getD n 0) (p.getD (n - 1) 0) = true := decide_eq_true hc
        rw [e, if_pos rfl, if_pos hc]; rfl
      · have e : ltK key (p.getD n 0) (p.getD (n - 1) 0) = false := decide_eq_false hc
        rw [e, if_neg Bool.false_ne_true, if_neg hc]
    rw [e0]
    by_cases hc : kk key p n < kk key p (n - 1)
    · rw [if_pos hc]
      exact ⟨Nat.le_refl _, by lia, h, fun _ => hc⟩
    · rw [if_neg hc]
      have := asc_run p f (n + 1) (by lia) (h.snoc h0 (by lia))
      exact ⟨by lia, by lia, this.2.2.1, fun z => this.2.2.2 (by omega)⟩
theorem getD_rev {p : Array Nat} {i j : Nat} (hj : j ≤ p.size) (k : Nat) : (kas_rev p i j).getD k 0 = if i ≤ k ∧ k < j then p.getD (i + j - 1 - k) 0 else p.getD k 0 := by
  have h := getElem?_mirror_all (xs := p) (i := i) hj k
  unfold kas_rev
  have e : ∀ (q : Array Nat) (m : Nat), q.getD m 0 = (q[m]?).getD 0 := fun q m => by simp [Array.getD_eq_getD_getElem?]
  rw [e, e, e, h]
  split <;> rfl
theorem rev_size (p : Array Nat) (i j : Nat) : (kas_rev p i j).size = p.size := mirror_size _ _ _ _
theorem rev_perm (p : Array Nat) (i j : Nat) : (kas_rev p i j).Perm p := mirror_perm _ _ _ _
theorem kk_rev_same {p : Array Nat} {i j : Nat} (hj : j ≤ p.size) {c : Int} (hc : ∀ k, i ≤ k → k < j → kk key p k = c) (k : Nat) : kk key (kas_rev p i j) k = kk key p k := by
  unfold kk
  rw [getD_rev hj]
  split
  · rename_i h
    have h1 := hc (i + j - 1 - k) (by omega) (by omega)
    have h2 := hc k h.1 h.2
    unfold kk at h1 h2
    rw [h1, h2]
  · rfl
theorem kk_rev_all {p : Array Nat} {n : Nat} (hn : n ≤ p.size) (k : Nat) (hk : k < n) : kk key (kas_rev p 0 n) k = kk key p (n - 1 - k) := by
  unfold kk
  rw [getD_rev hn, if_pos ⟨Nat.zero_le _, hk⟩, show 0 + n - 1 - k = n - 1 - k by lia]
theorem Dn.rev {p : Array Nat} {n : Nat} (h : Dn key p n) (hn : n ≤ p.size) : Up key (kas_rev p 0 n) n := fun i j h1 h2 => by
  rw [kk_rev_all hn i (by lia), kk_rev_all hn j h2]
  exact h _ _ (by omega) (by omega)
theorem desc_run : ∀ (f : Nat) (p : Array Nat) (n q : Nat), 0 < n → q < n → n + f ≤ p.size → Dn key p n → (∀ k, n - 1 - q ≤ k → k < n → kk key p k = kk key p (n - 1)) →
    ∃ p' n' q', runT (ltK key) (kas_desc f p n q) = (p', n', q') ∧ p'.size = p.size ∧ p'.Perm p ∧ n ≤ n' ∧ n' ≤ n + f ∧ q' < n' ∧ Dn key p' n' ∧ (∀ k, n' - 1 - q' ≤ k → k < n' → kk key p' k = kk key p' (n' - 1))
  | 0, p, n, q, h0, hq, hs, hd, he => ⟨p, n, q, rfl, rfl, Array.Perm.refl _, Nat.le_refl _, Nat.le_refl _, hq, hd, he⟩
  | f + 1, p, n, q, h0, hq, hs, hd, he => by
    unfold kas_desc
    simp only [runT]
    by_cases hc : kk key p n < kk key p (n - 1)
    · have e : ltK key (p.getD n 0) (p.getD (n - 1) 0) = true := decide_eq_true hc
      rw [e, if_pos rfl]
      by_cases hq0 : q > 0
      · rw [if_pos hq0]
        have ks := kk_rev_same (key := key) (p := p) (i := n - (q + 1)) (j := n) (by lia) (c := kk key p (n - 1)) (fun k h1 h2 => he k (by lia) h2)
        have hd' : Dn key (kas_rev p (n - (q + 1)) n) (n + 1) := by
          intro i j h1 h2
          rw [ks, ks]
          exact (hd.snoc h0 (Int.le_of_lt hc)) i j h1 h2
        obtain ⟨p', n', q', e1, e2, e3, e4, e5, e6, e7, e8⟩ := desc_run f (kas_rev p (n - (q + 1)) n) (n + 1) 0 (by lia) (by lia) (by rw [rev_size]; lia) hd' (fun k h1 h2 => by
          have : k = n + 1 - 1 := by lia
          rw [this])
        exact ⟨p', n', q', e1, by rw [e2, rev_size], e3.trans (rev_perm _ _ _), by lia, by lia, e6, e7, e8⟩
      · rw [if_neg hq0]
        obtain ⟨p', n', q', e1, e2, e3, e4, e5, e6, e7, e8⟩ := desc_run f p (n + 1) 0 (by lia) (by lia) (by lia) (hd.snoc h0 (Int.le_of_lt hc)) (fun k h1 h2 => by
          have : k = n + 1 - 1 := by lia
          rw [this])
        exact ⟨p', n', q', e1, e2, e3, by lia, by lia, e6, e7, e8⟩
    · have e : ltK key (p.getD n 0) (p.getD (n - 1) 0) = false := decide_eq_false hc
      rw [e, if_neg Bool.false_ne_true]
      simp only [runT]
      by_cases hd2 : kk key p (n - 1) < kk key p n
      · have e2 : ltK key (p.getD (n - 1) 0) (p.getD n 0) = true := decide_eq_true hd2
        rw [e2, if_pos rfl]
        exact ⟨p, n, q, rfl, rfl, Array.Perm.refl _, Nat.le_refl _, by lia, hq, hd, he⟩
      · have e2 : ltK key (p.getD (n - 1) 0) (p.getD n 0) = false := decide_eq_false hd2
        rw [e2, if_neg Bool.false_ne_true]
        have heq : kk key p n = kk key p (n - 1) := by lia
        obtain ⟨p', n', q', e1, e2, e3, e4, e5, e6, e7, e8⟩ := desc_run f p (n + 1) (q + 1) (by lia) (by lia) (by lia) (hd.snoc h0 (by lia)) (fun k h1 h2 => by
          by_cases hk : k = n
          · subst hk; rfl
          · rw [he k (by lia) (by lia)]; exact heq.symm)
        exact ⟨p', n', q', e1, e2, e3, by lia, by lia, e6, e7, e8⟩
def Good (key : Nat → Int) (p : Array Nat) (nrem : Nat) (r : Nat × Array Nat) : Prop := 1 ≤ r.1 ∧ r.1 ≤ nrem ∧ r.2.size = p.size ∧ r.2.Perm p ∧ Up key r.2 r.1
theorem tail_run {p : Array Nat} {n nrem : Nat} (h0 : 0 < n) (hn : n ≤ nrem) (hs : nrem ≤ p.size) (hd : Dn key p n) : Good key p nrem (runT (ltK key) (kas_tail3 n nrem p)) := by
  unfold kas_tail3
  rw [runT_bind]
  simp only [runT]
  have := asc_run (key := key) (kas_rev p 0 n) (nrem - n) n h0 (hd.rev (by lia))
  refine ⟨?_, ?_, rev_size _ _ _, rev_perm _ _ _, this.2.2.1⟩
  · show 1 ≤ runT (ltK key) (kas_asc (kas_rev p 0 n) (nrem - n) n); lia
  · show runT (ltK key) (kas_asc (kas_rev p 0 n) (nrem - n) n) ≤ nrem; lia
theorem Good.perm {p q : Array Nat} {nrem : Nat} {r : Nat × Array Nat} (h : Good key p nrem r) (hp : p.Perm q) (hs : p.size = q.size) : Good key q nrem r := ⟨h.1, h.2.1, h.2.2.1.trans hs, h.2.2.2.1.trans hp, h.2.2.2.2⟩
theorem descPart_run {p : Array Nat} {n nrem : Nat} (h0 : 0 < n) (hn : n < nrem) (hs : nrem ≤ p.size) (hd : Dn key p (n + 1)) : Good key p nrem (runT (ltK key) (kas_descPart n nrem p)) := by
  unfold kas_descPart
  rw [runT_bind]
  obtain ⟨p', n', q', e1, e2, e3, e4, e5, e6, e7, e8⟩ := desc_run (key := key) (nrem - (n + 1)) p (n + 1) 0 (by lia) (by lia) (by lia) hd (fun k h1 h2 => by
    have : k = n + 1 - 1 := by lia
    rw [this])
  rw [e1]
  dsimp only
  by_cases hq : q' > 0
  · rw [if_pos hq]
    have ks := kk_rev_same (key := key) (p := p') (i := n' - (q' + 1)) (j := n') (by lia) (c := kk key p' (n' - 1)) (fun k h1 h2 => e8 k (by lia) h2)
    refine (tail_run (p := kas_rev p' (n' - (q' + 1)) n') (by lia) (by omega) (by rw [rev_size]; lia) ?_).perm ((rev_perm _ _ _).trans e3) (by rw [rev_size, e2])
    intro i j h1 h2
    rw [ks, ks]; exact e7 i j h1 h2
  · rw [if_neg hq]
    exact (tail_run (by lia) (by omega) (by lia) e7).perm e3 e2
theorem count_run {p : Array Nat} {nrem : Nat} (h1 : 1 ≤ nrem) (hs : nrem ≤ p.size) : Good key p nrem (runT (ltK key) (kas_count nrem p)) := by
  unfold kas_count
  rw [runT_bind]
  have a := asc_run (key := key) p (nrem - 1) 1 (by lia) (up_one p)
  generalize runT (ltK key) (kas_asc p (nrem - 1) 1) = n at a
  obtain ⟨a1, a2, a3, a4⟩ := a
  by_cases hn : n = nrem
  · subst hn
    rw [if_pos (by simp)]
    exact ⟨a1, Nat.le_refl _, rfl, Array.Perm.refl _, a3⟩
  · rw [if_neg (by simpa using hn)]
    have hlt : n < nrem := by lia
    have dd := a4 (by lia)
    by_cases h2 : n > 1
    · rw [if_pos h2]
      simp only [runT]
      by_cases hc : kk key p 0 < kk key p (n - 1)
      · have e : ltK key (p.getD 0 0) (p.getD (n - 1) 0) = true := decide_eq_true hc
        rw [e, if_pos rfl]
        exact ⟨a1, by show n ≤ nrem; lia, rfl, Array.Perm.refl _, a3⟩
      · have e : ltK key (p.getD 0 0) (p.getD (n - 1) 0) = false := decide_eq_false hc
        rw [e, if_neg Bool.false_ne_true]
        have same : ∀ k, 0 ≤ k → k < n → kk key p k = kk key p 0 := fun k _ hk => by
          have := a3 0 k (by omega) hk
          have := a3 k (n - 1) (by lia) (by lia)
          lia
        have ks := kk_rev_same (key := key) (p := p) (i := 0) (j := n) (by lia) same
        refine (descPart_run (p := kas_rev p 0 n) (by lia) hlt (by rw [rev_size]; exact hs) ?_).perm (rev_perm _ _ _) (rev_size _ _ _)
        intro i j hi hj
        rw [ks, ks]
        by_cases hjn : j < n
        · rw [same j (by lia) hjn, same i (by lia) (by lia)]; exact Int.le_refl _
        · have : j = n := by lia
          subst this
          by_cases hij : i = j
          · subst hij; exact Int.le_refl _
          · rw [same i (by lia) (by lia), ← same (j - 1) (by lia) (by lia)]; lia
    · rw [if_neg h2]
      have : n = 1 := by lia
      subst this
      refine descPart_run (by lia) hlt hs ?_
      intro i j hi hj
      by_cases hij : i = j
      · subst hij; exact Int.le_refl _
      · have h0 : i = 0 := by lia
        have h1' : j = 1 := by lia
        subst h0 h1'
        have : kk key p 1 < kk key p (1 - 1) := dd
        simpa using Int.le_of_lt this
theorem place_run {p : Array Nat} {k : Nat} (hu : Up key p k) : ∀ (f l r : Nat), l ≤ r → r ≤ k → r - l ≤ f → (∀ i, i < l → kk key p i ≤ kk key p k) → (∀ i, r ≤ i → i < k → kk key p k ≤ kk key p i) →
    runT (ltK key) (kas_place p k f l r) ≤ k ∧ (∀ i, i < runT (ltK key) (kas_place p k f l r) → kk key p i ≤ kk key p k) ∧ (∀ i, runT (ltK key) (kas_place p k f l r) ≤ i → i < k → kk key p k ≤ kk key p i)
  | 0, l, r, h1, h2, h3, h4, h5 => by
    have : l = r := by lia
    subst this
    exact ⟨by simp [kas_place, runT]; omega, h4, h5⟩
  | f + 1, l, r, h1, h2, h3, h4, h5 => by
    unfold kas_place
    by_cases hlr : l ≥ r
    · have : l = r := by lia
      subst this
      rw [if_pos hlr]
      exact ⟨h2, h4, h5⟩
    · rw [if_neg hlr]
      simp only [runT]
      by_cases hc : kk key p k < kk key p ((l + r) / 2)
      · have e : ltK key (p.getD k 0) (p.getD ((l + r) / 2) 0) = true := decide_eq_true hc
        rw [e, if_pos rfl]
        exact place_run hu f l ((l + r) / 2) (by lia) (by lia) (by omega) h4 (fun i hi hk => Int.le_trans (Int.le_of_lt hc) (hu _ _ hi hk))
      · have e : ltK key (p.getD k 0) (p.getD ((l + r) / 2) 0) = false := decide_eq_false hc
        rw [e, if_neg Bool.false_ne_true]
        exact place_run hu f ((l + r) / 2 + 1) r (by lia) h2 (by omega) (fun i hi => Int.le_trans (hu i ((l + r) / 2) (by lia) (by lia)) (by lia)) h5
theorem getD_bub {p : Array Nat} {k d : Nat} (hk : k < p.size) (hd : d ≤ k) (i : Nat) : (bubble p k d).getD i 0 = if i = k - d then p.getD k 0 else if k - d < i ∧ i ≤ k then p.getD (i - 1) 0 else p.getD i 0 := by
  have h := getElem?_bubble hk d hd i
  have e : ∀ (q : Array Nat) (m : Nat), q.getD m 0 = (q[m]?).getD 0 := fun q m => by simp [Array.getD_eq_getD_getElem?]
  rw [e, e, e, e, h]
  split
  · rfl
  · split <;> rfl
theorem bin_run : ∀ (f : Nat) (p : Array Nat) (k : Nat), k + f ≤ p.size → Up key p k → (runT (ltK key) (kas_bin f p k)).size = p.size ∧ (runT (ltK key) (kas_bin f p k)).Perm p ∧ Up key (runT (ltK key) (kas_bin f p k)) (k + f)
  | 0, p, k, h, hu => ⟨rfl, Array.Perm.refl _, hu⟩
  | f + 1, p, k, h, hu => by
    unfold kas_bin
    rw [runT_bind]
    obtain ⟨g1, g2, g3⟩ := place_run hu k 0 k (Nat.zero_le _) (Nat.le_refl _) (by lia) (fun i hi => absurd hi (Nat.not_lt_zero _)) (fun i h1 h2 => by lia)
    generalize runT (ltK key) (kas_place p k k 0 k) = l at g1 g2 g3
    have hb : ∀ i, kk key (bubble p k (k - l)) i = if i = l then kk key p k else if l < i ∧ i ≤ k then kk key p (i - 1) else kk key p i := fun i => by
      unfold kk
      rw [getD_bub (by lia) (by lia), show k - (k - l) = l by lia]
      split
      · rfl
      · split <;> rfl
    have hu' : Up key (bubble p k (k - l)) (k + 1) := by
      intro i j hij hj
      rw [hb, hb]
      by_cases hi1 : i = l
      · rw [if_pos hi1]
        by_cases hj1 : j = l
        · rw [if_pos hj1]; exact Int.le_refl _
        · rw [if_neg hj1, if_pos ⟨by lia, by lia⟩]
          exact g3 (j - 1) (by lia) (by lia)
      · rw [if_neg hi1]
        by_cases hi2 : l < i ∧ i ≤ k
        · rw [if_pos hi2]
          rw [if_neg (by lia), if_pos ⟨by lia, by lia⟩]
          exact hu _ _ (by omega) (by lia)
        · rw [if_neg hi2]
          have hil : i < l := by lia
          by_cases hj1 : j = l
          · rw [if_pos hj1]; exact g2 i hil
          · rw [if_neg hj1]
            by_cases hj2 : l < j ∧ j ≤ k
            · rw [if_pos hj2]; exact hu _ _ (by lia) (by lia)
            · rw [if_neg hj2]; exact hu _ _ hij (by lia)
    obtain ⟨b1, b2, b3⟩ := bin_run f (bubble p k (k - l)) (k + 1) (by rw [bubble_size]; lia) hu'
    exact ⟨by rw [b1, bubble_size], b2.trans (bubble_perm _ _ _), by rw [show k + (f + 1) = k + 1 + f by lia]; exact b3⟩
theorem sort_run {n : Nat} (h : 1 ≤ n) : (runT (ltK key) (kas_sort n)).size = n ∧ (runT (ltK key) (kas_sort n)).Perm (List.range n).toArray ∧ Up key (runT (ltK key) (kas_sort n)) n := by
  unfold kas_sort
  rw [runT_bind]
  have hsz : (List.toArray (List.range n)).size = n := by simp
  obtain ⟨c1, c2, c3, c4, c5⟩ := count_run (key := key) (p := List.toArray (List.range n)) h (by rw [hsz]; exact Nat.le_refl _)
  generalize runT (ltK key) (kas_count n (List.toArray (List.range n))) = r at c1 c2 c3 c4 c5
  obtain ⟨m, p⟩ := r
  dsimp only at c1 c2 c3 c4 c5 ⊢
  rw [hsz] at c3
  by_cases hm : m < n
  · rw [if_pos hm]
    have e : max m 1 = m := by lia
    rw [e]
    obtain ⟨b1, b2, b3⟩ := bin_run (key := key) (n - m) p m (by lia) c5
    exact ⟨by rw [b1, c3], b2.trans c4, by rw [show n = m + (n - m) by lia]; rw [show m + (n - m) - m = n - m by lia]; exact b3⟩
  · rw [if_neg hm]
    have : m = n := by lia
    subst this
    exact ⟨c3, c4, c5⟩
end
end L2

namespace L2
open PySem PySem.W PyProof.Rows
section
variable {prog : Program} {w : World} {A : Around} {E : Value → Shared → Prop} {s : Shared}
def Keeps (h h' : Heap) : Prop := ∀ b o, h.get? b = some o → h'.get? b = some o
def Sorts (prog : Program) (w : World) (A : Around) (s : Shared) (vs : List Value) (Out : Array Value → Prop) : Prop :=
  ∃ κ, (∀ (Q : SortKind → Shared → Prop) (E : Value → Shared → Prop), Q κ s → wpAny (model prog w) A (keyKind' vs.toArray) Q E s) ∧
    ∀ (Q : SortSt → Shared → Prop) (E : Value → Shared → Prop), (∀ st', failedOf st' = none → (arrOf st').size = vs.length → Out ((arrOf st').map (·.2)) → Q st' s) → wpAny (model prog w) A (sortRuns'.run (SortSt.mk' κ (vs.toArray.zip vs.toArray) #[] 7 none)) (fun r s' => Q r.2 s') E s
theorem sort_shell {a : Addr} {vs : List Value} {n0 : Nat} {P : PySem.Fin → Shared → Prop} (Out : Array Value → Prop) (ho : s.heap.get? a = some (seqObj "list" vs.toArray n0)) (hz : vs.length ≤ sizeLine)
    (hs : 2 ≤ vs.length → ∀ h', (∀ b o, b ≠ a → s.heap.get? b = some o → h'.get? b = some o) → Sorts prog w A { s with heap := h' } vs Out) (h1 : vs.length < 2 → Out vs.toArray)
    (h : ∀ out c h', (∀ b o, b ≠ a → s.heap.get? b = some o → h'.get? b = some o) → h'.get? a = some (seqObj "list" out c) → out.size = vs.length → Out out → P (.done (.ret .none)) { s with heap := h' }) :
    wpAny (model prog w) A (Builtin.«list.sort» ⟨[.ref a], []⟩) P E s := by
  have alt : a < s.heap.objs.size := Heap.lt_size ho
  rw [list_sort_plain]
  refine wpAny_bind (listItems_at ho rfl ?_)
  refine wpAny_bind (listUpdate_at ho rfl ?_ (by simpa using hz) (Nat.zero_le _))
  generalize hg1 : s.heap.update a (Obj.mapSeq fun _ => (#[] : Array Value)) = g1
  have k1 : ∀ b o, b ≠ a → s.heap.get? b = some o → g1.get? b = some o := fun b o hb e => by rw [← hg1]; exact (Heap.get?_update_other _ _ (Ne.symm hb)).trans e
  obtain ⟨e1, ho1⟩ : ∃ e1, g1.get? a = some (seqObj "list" #[] e1) := by rw [← hg1]; exact ⟨_, get?_update_seq ho fun _ => #[]⟩
  have sz1 : g1.objs.size = s.heap.objs.size := by rw [← hg1, Heap.size_update]
  refine wpAny_bind (seqEpoch_at ho1 rfl ?_)
  refine wpAny_bind (wpAny_newTuple ?_ (by show vs.length ≤ _; exact hz))
  refine wpAny_bind (wpAny_newList ?_ (Nat.zero_le _))
  refine wpAny_holding ?_
  dsimp only
  generalize hg3 : (g1.push { cls := .type "tuple", data := .seq vs.toArray }).push { cls := .type "list", data := .seq #[] } = g3
  have k3 : ∀ b o, g1.get? b = some o → g3.get? b = some o := fun b o e => by rw [← hg3]; exact Heap.get?_push_of_some _ (Heap.get?_push_of_some _ e)
  have ho3 := k3 a _ ho1
  have keep : ∀ b o, b ≠ a → s.heap.get? b = some o → g3.get? b = some o := fun b o hb e => k3 b o (k1 b o hb e)
  have fin : ∀ (st' : SortSt), failedOf st' = none → (arrOf st').size = vs.length → Out ((arrOf st').map (·.2)) → P (.done (.ret .none)) { s with heap := g3.update a (Obj.mapSeq fun _ => (arrOf st').map (·.2)) } := fun st' hf hsz hO => by
    obtain ⟨c2, hc2⟩ : ∃ c2, (g3.update a (Obj.mapSeq fun _ => (arrOf st').map (·.2))).get? a = some (seqObj "list" ((arrOf st').map (·.2)) c2) := ⟨_, get?_update_seq ho3 fun _ => (arrOf st').map (·.2)⟩
    exact h _ c2 _ (fun b o hb e => (Heap.get?_update_other _ _ (Ne.symm hb)).trans (keep b o hb e)) hc2 (by simpa using hsz) hO
  have hsz : vs.toArray.size = vs.length := by simp
  by_cases h2 : vs.length < 2
  · rw [if_pos (by omega), if_pos (by omega)]
    refine wpAny_bind (wpAny_pure ?_)
    rw [StateT.run_pure]
    refine wpAny_bind (wpAny_pure ?_)
    have eo : (arrOf (SortSt.mk' general' (vs.toArray.zip vs.toArray) #[] 7 none)).map (·.2) = vs.toArray := by
      show (vs.toArray.zip vs.toArray).map (·.2) = vs.toArray
      apply Array.toList_inj.mp
      rw [Array.toList_map]
      have : (vs.toArray.zip vs.toArray).toList = vs.zip vs := by simp
      rw [this]
      simp [List.map_snd_zip]
    dsimp only
    refine wpAny_bind (seqEpoch_at ho3 rfl ?_)
    refine wpAny_bind (listUpdate_at ho3 rfl ?_ (Nat.zero_le _) (by rw [eo]; simp only [List.size_toArray]; lia))
    simp only [bne_self_eq_false, Bool.false_eq_true, if_false]
    exact wpAny_pure (fin (SortSt.mk' general' (vs.toArray.zip vs.toArray) #[] 7 none) rfl (by show (vs.toArray.zip vs.toArray).size = _; simp) (by rw [eo]; exact h1 h2))
  · rw [if_neg (by omega), if_neg (by omega)]
    obtain ⟨κ, hk, hr⟩ := hs (by lia) g3 keep
    refine wpAny_bind (hk _ _ ?_)
    refine wpAny_bind (wpAny_mono (hr (fun st' s' => s' = { s with heap := g3 } ∧ failedOf st' = none ∧ (arrOf st').size = vs.length ∧ Out ((arrOf st').map (·.2))) (fun _ _ => False) fun st' hf hsz hO => ⟨rfl, hf, hsz, hO⟩) ?_ fun _ _ x => x.elim)
    rintro ⟨⟨⟩, st'⟩ s' ⟨rfl, hf, hsz, hO⟩
    dsimp only at hf hsz hO ⊢
    refine wpAny_bind (seqEpoch_at ho3 rfl ?_)
    refine wpAny_bind (listUpdate_at ho3 rfl ?_ (Nat.zero_le _) (by simp only [Array.size_map]; lia))
    rw [hf]
    simp only [bne_self_eq_false, Bool.false_eq_true, if_false]
    exact wpAny_pure (fin st' hf hsz hO)
end
end L2

namespace L2
open PySem PySem.W PyProof.Rows
def InR {α : Type} (n : Nat) (P : α → Prop) : KasT α → Prop
  | .ret a => P a
  | .ask i j k => i < n ∧ j < n ∧ ∀ b, InR n P (k b)
theorem InR.bind {α β : Type} {n : Nat} {f : α → KasT β} {P : α → Prop} {Q : β → Prop} (hf : ∀ a, P a → InR n Q (f a)) : ∀ {t : KasT α}, InR n P t → InR n Q (t.bind f)
  | .ret a, h => hf a h
  | .ask i j k, h => ⟨h.1, h.2.1, fun b => InR.bind hf (h.2.2 b)⟩
theorem wp_runIn {α : Type} {cmp : Nat → Nat → (Bool → Shared → Prop) → Shared → Prop} {lt : Nat → Nat → Bool} {Q : α → Shared → Prop} {s : Shared} {n : Nat} {P : α → Prop} (h : ∀ i j C, i < n → j < n → C (lt i j) s → cmp i j C s) : ∀ {t : KasT α}, InR n P t → Q (runT lt t) s → t.kasWp cmp Q s
  | .ret _, _, q => q
  | .ask i j k, r, q => h i j _ r.1 r.2.1 (wp_runIn h (r.2.2 _) q)
def Ent (n : Nat) (p : Array Nat) : Prop := ∀ i, p.getD i 0 < n
theorem Ent.perm {n : Nat} {p q : Array Nat} (h : Ent n p) (hp : q.Perm p) (hn : 0 < n) : Ent n q := fun i => by
  have e : ∀ (q : Array Nat) (m : Nat), q.getD m 0 = (q[m]?).getD 0 := fun q m => by simp [Array.getD_eq_getD_getElem?]
  rw [e]
  cases hq : q[i]? with
  | none => exact hn
  | some x =>
    have hx : x ∈ q := Array.mem_of_getElem? hq
    have hx2 : x ∈ p := hp.mem_iff.mp hx
    obtain ⟨j, hj, ej⟩ := Array.mem_iff_getElem.mp hx2
    have := h j
    rw [e, Array.getElem?_eq_getElem hj, ej] at this
    exact this
theorem Ent.rev {n : Nat} {p : Array Nat} (h : Ent n p) (hn : 0 < n) (i j : Nat) : Ent n (kas_rev p i j) := h.perm (mirror_perm _ _ _ _) hn
section
variable {n : Nat} (hn : 0 < n)
theorem asc_in {p : Array Nat} (h : Ent n p) : ∀ f m, InR n (fun _ : Nat => True) (kas_asc p f m)
  | 0, _ => trivial
  | f + 1, m => ⟨h _, h _, fun b => by cases b <;> simp only [if_true, Bool.false_eq_true, if_false]; exact asc_in h f (m + 1); trivial⟩
include hn in
theorem desc_in : ∀ f {p : Array Nat} m q, Ent n p → InR n (fun r : Array Nat × Nat × Nat => Ent n r.1) (kas_desc f p m q)
  | 0, _, _, _, h => h
  | f + 1, p, m, q, h => ⟨h _, h _, fun b => by
      cases b with
      | true =>
        simp only [if_true]
        split
        · exact desc_in f _ _ (h.rev hn _ _)
        · exact desc_in f _ _ h
      | false =>
        simp only [Bool.false_eq_true, if_false]
        exact ⟨h _, h _, fun c => by
          cases c with
          | true => simp only [if_true]; exact h
          | false => simp only [Bool.false_eq_true, if_false]; exact desc_in f _ _ h⟩⟩
include hn in
theorem tail3_in {p : Array Nat} (h : Ent n p) (m r : Nat) : InR n (fun r : Nat × Array Nat => Ent n r.2) (kas_tail3 m r p) := by
  unfold kas_tail3
  refine InR.bind (P := fun _ : Nat => True) (fun a _ => ?_) (asc_in (h.rev hn _ _) _ _)
  exact h.rev hn _ _
include hn in
theorem descPart_in {p : Array Nat} (h : Ent n p) (m r : Nat) : InR n (fun r : Nat × Array Nat => Ent n r.2) (kas_descPart m r p) := by
  unfold kas_descPart
  refine InR.bind (fun a ha => ?_) (desc_in hn _ _ _ h)
  split
  · exact tail3_in hn (ha.rev hn _ _) _ _
  · exact tail3_in hn ha _ _
include hn in
theorem count_in {p : Array Nat} (h : Ent n p) (r : Nat) : InR n (fun r : Nat × Array Nat => Ent n r.2) (kas_count r p) := by
  unfold kas_count
  refine InR.bind (fun m _ => ?_) (asc_in h _ _)
  split
  · exact h
  · split
    · refine ⟨h _, h _, fun b => ?_⟩
      cases b with
      | true => simp only [if_true]; exact h
      | false => simp only [Bool.false_eq_true, if_false]; exact descPart_in hn (h.rev hn _ _) _ _
    · exact descPart_in hn h _ _
theorem place_in {p : Array Nat} (h : Ent n p) (k : Nat) : ∀ f l r, InR n (fun _ : Nat => True) (kas_place p k f l r)
  | 0, _, _ => trivial
  | f + 1, l, r => by
    unfold kas_place
    split
    · trivial
    · exact ⟨h _, h _, fun b => by cases b <;> simp only [if_true, Bool.false_eq_true, if_false] <;> exact place_in h k f _ _⟩
include hn in
theorem bin_in : ∀ f {p : Array Nat} k, Ent n p → InR n (fun q : Array Nat => Ent n q) (kas_bin f p k)
  | 0, _, _, h => h
  | f + 1, p, k, h => by
    unfold kas_bin
    exact InR.bind (fun l _ => bin_in f _ (h.perm (bubble_perm _ _ _) hn)) (place_in h k _ _ _)
include hn in
theorem sort_in : InR n (fun q : Array Nat => Ent n q) (kas_sort n) := by
  unfold kas_sort
  have h0 : Ent n (List.toArray (List.range n)) := fun i => by
    have e : ∀ (q : Array Nat) (m : Nat), q.getD m 0 = (q[m]?).getD 0 := fun q m => by simp [Array.getD_eq_getD_getElem?]
    rw [e]
    by_cases hi : i < n
    · simp [hi]
    · simp [hi]; exact hn
  refine InR.bind (fun r hr => ?_) (count_in hn h0 n)
  split
  · exact bin_in hn _ _ hr
  · exact hr
end
section
variable {prog : Program} {w : World} {A : Around} {s : Shared}
def OutK (key : Nat → Int) (vs : List Value) (out : Array Value) : Prop := ∃ p : List Nat, p.Perm (List.range vs.length) ∧ out.toList = p.map (fun i => vs.getD i Value.none) ∧ p.Pairwise fun i j => key i ≤ key j
theorem sorts_small {κ : SortKind} {vs : List Value} {key : Nat → Int} (h2 : 2 ≤ vs.length) (h64 : vs.length < 64)
    (hk : ∀ (Q : SortKind → Shared → Prop) (E : Value → Shared → Prop), Q κ s → wpAny (model prog w) A (keyKind' vs.toArray) Q E s)
    (hlt : ∀ i j (C : Bool → Shared → Prop), i < vs.length → j < vs.length → C (decide (key i < key j)) s → wpAny (model prog w) A (keyLt' κ (vs.getD i Value.none) (vs.getD j Value.none)) C (fun _ _ => False) s) :
    Sorts prog w A s vs (OutK key vs) := by
  refine ⟨κ, hk, fun Q E hQ => ?_⟩
  obtain ⟨s1, s2, s3⟩ := sort_run (key := key) (n := vs.length) (by lia)
  refine kat_run (Q := fun st' s' => Q st' s') (G := fun p s' => s' = s ∧ p = runT (ltK key) (kas_sort vs.length)) rfl h2 h64 (fun p st' s' hp har hf hG => ?_) (wp_runIn (lt := ltK key) (fun i j C hi hj hc => hlt i j C hi hj hc) (sort_in (n := vs.length) (by lia)) ⟨rfl, rfl⟩)
  obtain ⟨rfl, rfl⟩ := hG
  have hout := kat_snds rfl har
  refine hQ st' hf (by rw [har, Array.size_map, s1]) ⟨(runT (ltK key) (kas_sort vs.length)).toList, ?_, ?_, ?_⟩
  · have := s2.toList
    simpa using this
  · rw [hout]
  · generalize runT (ltK key) (kas_sort vs.length) = q at s1 s3
    rw [List.pairwise_iff_getElem]
    intro i j hi hj hij
    have h := s3 i j (by lia) (by simpa [s1] using hj)
    unfold kk at h
    have e : ∀ m (hm : m < q.toList.length), q.getD m 0 = q.toList[m] := fun m hm => by
      have hm' : m < q.size := by simpa using hm
      simp [Array.getD, hm']
    rw [e i hi, e j hj] at h
    exact h
end
end L2

namespace L2
open PySem PySem.W PyProof.Rows
def D.fo : D → List Int
  | .str l => l.map Int.ofNat
  | .int i => [i]
  | _ => []
def D.ord : D → List (List Int)
  | .tup ds => ds.map D.fo
  | .lst ds => ds.map D.fo
  | d => [d.fo]
def D.leB (a b : D) : Bool := decide (a.ord ≤ b.ord)
def sortD (ds : List D) : List D := ds.mergeSort D.leB
inductive Ty where | s | i
def Ty.ok : Ty → D → Bool
  | .s, .str _ => true
  | .i, .int _ => true
  | _, _ => false
def shOk : List Ty → List D → Bool
  | [], [] => true
  | t :: ts, d :: ds => t.ok d && shOk ts ds
  | _, _ => false
def Alike (ds : List D) : Prop := (∀ d ∈ ds, Ty.ok .s d = true) ∨ (∀ d ∈ ds, Ty.ok .i d = true) ∨ ∃ t ts, ∀ d ∈ ds, ∃ es, d = .tup es ∧ shOk (t :: ts) es = true
theorem ofNat_inj {l m : List Nat} (h : l.map Int.ofNat = m.map Int.ofNat) : l = m := by
  induction l generalizing m with
  | nil => cases m with
    | nil => rfl
    | cons _ _ => simp at h
  | cons a l ih => cases m with
    | nil => simp at h
    | cons b m =>
      simp only [List.map_cons, List.cons.injEq, Int.ofNat_eq_natCast] at h
      rw [show a = b by lia, ih h.2]
theorem ofNat_lt (l m : List Nat) : l < m ↔ l.map Int.ofNat < m.map Int.ofNat := by
  induction l generalizing m with
  | nil => cases m <;> simp
  | cons a l ih => cases m with
    | nil => simp
    | cons b m =>
      simp only [List.map_cons, List.cons_lt_cons_iff, ih m, Int.ofNat_eq_natCast]
      constructor
      · rintro (h | ⟨h, x⟩)
        · exact .inl (by lia)
        · exact .inr ⟨by lia, x⟩
      · rintro (h | ⟨h, x⟩)
        · exact .inl (by lia)
        · exact .inr ⟨by lia, x⟩
theorem fo_inj {t : Ty} {d e : D} (h1 : t.ok d = true) (h2 : t.ok e = true) (h : d.fo = e.fo) : d = e := by
  cases t <;> cases d <;> simp [Ty.ok] at h1 <;> cases e <;> simp [Ty.ok] at h2
  · rw [ofNat_inj h]
  · simp [D.fo] at h; rw [h]
theorem fos_inj : ∀ {ts : List Ty} {ds es : List D}, shOk ts ds = true → shOk ts es = true → ds.map D.fo = es.map D.fo → ds = es
  | [], ds, es, h1, h2, _ => by cases ds <;> cases es <;> simp [shOk] at h1 h2; rfl
  | t :: ts, ds, es, h1, h2, h => by
    cases ds with
    | nil => simp [shOk] at h1
    | cons d ds => cases es with
      | nil => simp [shOk] at h2
      | cons e es =>
        simp only [shOk, Bool.and_eq_true] at h1 h2
        simp only [List.map_cons, List.cons.injEq] at h
        rw [fo_inj h1.1 h2.1 h.1, fos_inj h1.2 h2.2 h.2]
theorem one_lt (x y : List Int) : [x] < [y] ↔ x < y := by simp [List.cons_lt_cons_iff]
theorem ord_inj {ds : List D} (h : Alike ds) {a b : D} (ha : a ∈ ds) (hb : b ∈ ds) (e : a.ord = b.ord) : a = b := by
  rcases h with h | h | ⟨t, ts, h⟩
  · have h1 := h a ha
    have h2 := h b hb
    cases a <;> simp [Ty.ok] at h1
    cases b <;> simp [Ty.ok] at h2
    simp only [D.ord, List.cons.injEq, and_true] at e
    exact fo_inj (t := .s) rfl rfl e
  · have h1 := h a ha
    have h2 := h b hb
    cases a <;> simp [Ty.ok] at h1
    cases b <;> simp [Ty.ok] at h2
    simp only [D.ord, List.cons.injEq, and_true] at e
    exact fo_inj (t := .i) rfl rfl e
  · obtain ⟨es, rfl, h1⟩ := h a ha
    obtain ⟨fs, rfl, h2⟩ := h b hb
    simp only [D.ord] at e
    rw [fos_inj h1 h2 e]
theorem leB_trans (a b c : D) (h1 : a.leB b = true) (h2 : b.leB c = true) : a.leB c = true := decide_eq_true (List.le_trans (of_decide_eq_true h1) (of_decide_eq_true h2))
theorem leB_total (a b : D) : (a.leB b || b.leB a) = true := by
  rcases List.le_total a.ord b.ord with h | h
  · simp [D.leB, h]
  · simp [D.leB, h]
theorem sortD_perm (ds : List D) : (sortD ds).Perm ds := List.mergeSort_perm _ _
theorem sortD_sorted (ds : List D) : (sortD ds).Pairwise fun a b => a.leB b = true := List.pairwise_mergeSort leB_trans leB_total ds
theorem sortD_eq {ds es : List D} (h : Alike ds) (hp : es.Perm ds) (hs : es.Pairwise fun a b => a.leB b = true) : es = sortD ds := by
  refine List.Perm.eq_of_pairwise (le := fun a b => a.leB b = true) (fun a b ha hb h1 h2 => ?_) hs (sortD_sorted ds) (hp.trans (sortD_perm ds).symm)
  exact ord_inj h (hp.mem_iff.mp ha) ((sortD_perm ds).mem_iff.mp hb) (List.le_antisymm (of_decide_eq_true h1) (of_decide_eq_true h2))
def rk (ds : List D) (i : Nat) : Int := ((ds.filter fun d => decide (d.ord < (ds.getD i .non).ord)).length : Nat)
theorem filter_len_le {α : Type} {p q : α → Bool} (h : ∀ x, p x = true → q x = true) : ∀ l : List α, (l.filter p).length ≤ (l.filter q).length
  | [] => Nat.le_refl _
  | x :: l => by
    have ih := filter_len_le h l
    simp only [List.filter_cons]
    cases hp : p x with
    | false =>
      cases hq : q x with
      | false => simpa using ih
      | true => simp; lia
    | true => rw [h x hp]; simp; omega
theorem filter_len_lt {α : Type} {p q : α → Bool} (h : ∀ x, p x = true → q x = true) {y : α} (hy : q y = true) (hn : p y = false) : ∀ l : List α, y ∈ l → (l.filter p).length < (l.filter q).length
  | [], hm => by simp at hm
  | x :: l, hm => by
    have le := filter_len_le h l
    simp only [List.filter_cons]
    rcases List.mem_cons.mp hm with rfl | hm
    · rw [hy, hn]; simp; lia
    · have ih := filter_len_lt h hy hn l hm
      cases hp : p x with
      | false =>
        cases hq : q x with
        | false => simpa using ih
        | true => simp; lia
      | true => rw [h x hp]; simp; omega
theorem rk_lt {ds : List D} {i j : Nat} (hi : i < ds.length) : decide (rk ds i < rk ds j) = decide ((ds.getD i .non).ord < (ds.getD j .non).ord) := by
  have hm : ds.getD i .non ∈ ds := by rw [List.getD_eq_getElem?_getD, List.getElem?_eq_getElem hi]; exact List.getElem_mem _
  unfold rk
  generalize ds.getD i .non = a at hm
  generalize ds.getD j .non = b
  by_cases h : a.ord < b.ord
  · rw [decide_eq_true h]
    refine decide_eq_true ?_
    have := filter_len_lt (p := fun d : D => decide (d.ord < a.ord)) (q := fun d : D => decide (d.ord < b.ord)) (fun x hx => decide_eq_true (List.lt_trans (of_decide_eq_true hx) h)) (y := a) (decide_eq_true h) (decide_eq_false (List.lt_irrefl _)) ds hm
    lia
  · rw [decide_eq_false h]
    refine decide_eq_false ?_
    have := filter_len_le (p := fun d : D => decide (d.ord < b.ord)) (q := fun d : D => decide (d.ord < a.ord)) (fun x hx => by
      have hx := of_decide_eq_true hx
      refine decide_eq_true ?_
      by_cases hxa : x.ord < a.ord
      · exact hxa
      · exact absurd hx (List.not_lt.mpr (List.le_trans (List.not_lt.mp h) (List.not_lt.mp hxa)))) ds
    lia
theorem rk_le {ds : List D} {i j : Nat} (hi : i < ds.length) (hj : j < ds.length) (h : rk ds i ≤ rk ds j) : (ds.getD i .non).leB (ds.getD j .non) = true := by
  have := rk_lt (ds := ds) (i := j) (j := i) hj
  rw [decide_eq_false (by lia)] at this
  exact decide_eq_true (List.not_lt.mp (of_decide_eq_false this.symm))
section
variable {prog : Program} {w : World} {A : Around} {E : Value → Shared → Prop} {s : Shared}
def FV : D → Value → Prop
  | .str l, u => ∃ t, u = .str (T l) t
  | .int i, u => ∃ t, u = .int i t
  | _, _ => False
theorem flat_eq {t : Ty} {d e : D} {u v : Value} (h1 : t.ok d = true) (h2 : t.ok e = true) (ru : FV d u) (rv : FV e v) {Q : Bool → Shared → Prop} (q : Q (decide (d = e)) s) : wpAny (model prog w) A (eqBool u v) Q E s := by
  cases t <;> cases d <;> simp [Ty.ok] at h1 <;> cases e <;> simp [Ty.ok] at h2
  · obtain ⟨t, rfl⟩ := ru
    obtain ⟨t', rfl⟩ := rv
    refine SeqAt.EqAt.str_str _ _ _ _ prog w E Q ?_
    rename_i l m
    have : (T l == T m) = decide (D.str l = D.str m) := by
      rw [Bool.eq_iff_iff]; simp [T_inj]
    rw [this]; exact q
  · obtain ⟨t, rfl⟩ := ru
    obtain ⟨t', rfl⟩ := rv
    refine SeqAt.EqAt.int_int _ _ _ _ prog w E Q ?_
    rename_i i j
    have : (i == j) = decide (D.int i = D.int j) := by
      rw [Bool.eq_iff_iff]; simp
    rw [this]; exact q
theorem flat_lt {t : Ty} {d e : D} {u v : Value} (h1 : t.ok d = true) (h2 : t.ok e = true) (ru : FV d u) (rv : FV e v) (f : Bool) {Q : Bool → Shared → Prop} (q : Q (decide (d.fo < e.fo)) s) : wpAny (model prog w) A (oneLt' f u v) Q E s := by
  cases t <;> cases d <;> simp [Ty.ok] at h1 <;> cases e <;> simp [Ty.ok] at h2
  · obtain ⟨t, rfl⟩ := ru
    obtain ⟨t', rfl⟩ := rv
    rename_i l m
    have ee : decide ((T l).cps.toList < (T m).cps.toList) = decide ((D.str l).fo < (D.str m).fo) := by
      rw [T_cps, T_cps, Bool.eq_iff_iff, decide_eq_true_eq, decide_eq_true_eq]
      exact ofNat_lt l m
    cases f with
    | true => exact oneLt_str (by rw [ee]; exact q)
    | false => exact kat_one _ _ (lt_str (by show Q _ _; rw [ee]; exact q))
  · obtain ⟨t, rfl⟩ := ru
    obtain ⟨t', rfl⟩ := rv
    rename_i i j
    have ee : decide (i < j) = decide ((D.int i).fo < (D.int j).fo) := by
      rw [Bool.eq_iff_iff]
      simp [D.fo, List.cons_lt_cons_iff]
    cases f with
    | true => exact oneLt_int (by rw [ee]; exact q)
    | false => exact kat_one _ _ (lt_int (by show Q _ _; rw [ee]; exact q))
inductive FVs : List D → List Value → Prop
  | nil : FVs [] []
  | cons {d ds u us} : FV d u → FVs ds us → FVs (d :: ds) (u :: us)
theorem lex_flat {b : Bool} {Q : Bool → Shared → Prop} : ∀ {ts : List Ty} {ds es : List D} {us vs : List Value} (i : Nat), shOk ts ds = true → shOk ts es = true → FVs ds us → FVs es vs → Q (decide (ds.map D.fo < es.map D.fo)) s → KatLex prog w A b false Q (us.zip vs) i s
  | [], ds, es, _, _, i, h1, h2, r1, r2, q => by
    cases ds <;> cases es <;> simp [shOk] at h1 h2
    cases r1; cases r2
    exact kat_nil (by simpa using q)
  | t :: ts, ds, es, _, _, i, h1, h2, r1, r2, q => by
    cases r1 with
    | nil => simp [shOk] at h1
    | cons a1 a2 =>
      cases r2 with
      | nil => simp [shOk] at h2
      | cons b1 b2 =>
        rename_i d ds u us e es v vs
        simp only [shOk, Bool.and_eq_true] at h1 h2
        rw [List.zip_cons_cons]
        refine kat_cons (flat_eq h1.1 h2.1 a1 b1 ?_)
        by_cases hde : d = e
        · subst hde
          rw [decide_eq_true rfl]
          refine kat_yes (lex_flat (i + 1) h1.2 h2.2 a2 b2 ?_)
          have : decide (ds.map D.fo < es.map D.fo) = decide ((d :: ds).map D.fo < (d :: es).map D.fo) := by
            rw [Bool.eq_iff_iff]
            simp only [decide_eq_true_eq, List.map_cons, List.cons_lt_cons_iff]
            exact ⟨fun h => .inr ⟨trivial, h⟩, fun h => h.elim (fun z => absurd z (List.lt_irrefl _)) fun z => z.2⟩
          rw [this]; exact q
        · rw [decide_eq_false hde]
          refine kat_no (flat_lt h1.1 h2.1 a1 b1 _ ?_)
          have hf : ¬ d.fo = e.fo := fun z => hde (fo_inj h1.1 h2.1 z)
          have : decide (d.fo < e.fo) = decide ((d :: ds).map D.fo < (e :: es).map D.fo) := by
            rw [Bool.eq_iff_iff]
            simp only [decide_eq_true_eq, List.map_cons, List.cons_lt_cons_iff]
            exact ⟨fun h => .inl h, fun h => h.elim id fun z => absurd z.1 hf⟩
          rw [this]; exact q
end
end L2

set_option maxHeartbeats 1000000
namespace L2
open PySem PySem.W PyProof.Rows
end L2

namespace L2
open PySem PySem.W PyProof.Rows
structure MI (R : Nat → Nat → Prop) (ua ub o : List Nat) (i j : Nat) : Prop where
  hi : i ≤ ua.length
  hj : j ≤ ub.length
  pw : o.Pairwise R
  pa : ∀ x ∈ o, ∀ y ∈ ua.drop i, R x y
  pb : ∀ x ∈ o, ∀ y ∈ ub.drop j, R x y
  pm : o.Perm (ua.take i ++ ub.take j)
end L2

set_option maxHeartbeats 2000000
namespace L2
open PySem PySem.W PyProof.Rows
end L2

namespace L2
open PySem PySem.W PyProof.Rows
end L2

namespace L2
open PySem PySem.W PyProof.Rows
end L2

namespace L2
open PySem PySem.W PyProof.Rows
end L2

namespace L2
open PySem PySem.W PyProof.Rows
end L2

set_option maxHeartbeats 4000000
namespace L2
open PySem PySem.W PyProof.Rows
theorem Vals.pick {xs : List V} {us : List Value} (r : Vals xs us) : ∀ p : List Nat, (∀ i ∈ p, i < xs.length) → Vals (p.map fun i => xs.getD i .non) (p.map fun i => us.getD i Value.none)
  | [], _ => .nil
  | i :: p, h => by
    have hi := h i List.mem_cons_self
    obtain ⟨u, hu, ru⟩ := r.get (List.getElem?_eq_getElem hi)
    refine .cons ?_ (Vals.pick r p fun j hj => h j (List.mem_cons_of_mem _ hj))
    show RelV (xs.getD i .non) (us.getD i Value.none)
    rw [List.getD_eq_getElem?_getD, List.getElem?_eq_getElem hi, List.getD_eq_getElem?_getD, hu]
    exact ru
theorem Reps.pick {K : PySem.W.Frag} {H : Hp} {ds : List D} {xs : List V} (r : Reps K H ds xs) : ∀ p : List Nat, (∀ i ∈ p, i < ds.length) → Reps K H (p.map fun i => ds.getD i .non) (p.map fun i => xs.getD i .non)
  | [], _ => Reps.nil
  | i :: p, h => by
    have hi := h i List.mem_cons_self
    obtain ⟨u, hu, ru⟩ := r.get' (List.getElem?_eq_getElem hi)
    refine Reps.cons ?_ (Reps.pick r p fun j hj => h j (List.mem_cons_of_mem _ hj))
    show Rep K H (ds.getD i .non) (xs.getD i .non)
    rw [List.getD_eq_getElem?_getD, List.getElem?_eq_getElem hi, List.getD_eq_getElem?_getD, hu]
    exact ru
section
variable {X : Cx} {pins : List (Addr × Obj)} {σ : St} {H : Hp} {s : Shared}
theorem FV.of {t : Ty} {d : D} {x : V} {u : Value} (ht : t.ok d = true) (r : Rep X.K H d x) (q : RelV x u) : FV d u := by
  cases t <;> cases d <;> simp [Ty.ok] at ht
  · rw [r.of_str] at q; exact q
  · rw [r.of_int] at q; exact q
theorem FVs.of : ∀ {ts : List Ty} {ds : List D} {xs : List V} {us : List Value}, shOk ts ds = true → Reps X.K H ds xs → Vals xs us → FVs ds us
  | [], ds, _, _, ht, r, q => by
    cases ds <;> simp [shOk] at ht
    rw [Reps] at r; subst r; cases q; exact .nil
  | t :: ts, ds, _, _, ht, r, q => by
    cases ds with
    | nil => simp [shOk] at ht
    | cons d ds =>
      simp only [shOk, Bool.and_eq_true] at ht
      rw [Reps] at r
      obtain ⟨x, xs, rfl, r1, r2⟩ := r
      cases q with
      | cons q1 q2 => exact .cons (FV.of ht.1 r1 q1) (FVs.of ht.2 r2 q2)
def TV (h : Heap) (es : List D) (u : Value) : Prop := ∃ a o its n, u = .ref a ∧ h.get? a = some o ∧ o.cls = .type "tuple" ∧ o.data = .seq its n ∧ FVs es its.toList
theorem Inv.tv (I : Inv X pins σ H s) {ts : List Ty} {es : List D} {x : V} {u : Value} (ht : shOk ts es = true) (r : Rep X.K H (.tup es) x) (q : RelV x u) : TV s.heap es u := by
  obtain ⟨p, xs, rfl, sq, rs⟩ := r.of_tup
  cases q
  obtain ⟨its, rv, ⟨o, e, c, n, hd⟩, _⟩ := I.tuple sq
  exact ⟨p, o, its.toArray, n, rfl, e, c, hd, by simpa using FVs.of ht rs rv⟩
theorem getD_rel {ds : List D} {xs : List V} {us : List Value} (rs : Reps X.K H ds xs) (rv : Vals xs us) {i : Nat} (hi : i < us.length) : ∃ x, Rep X.K H (ds.getD i .non) x ∧ RelV x (us.getD i Value.none) ∧ ds.getD i .non ∈ ds := by
  have l1 := rs.length
  have l2 := rv.length
  obtain ⟨x, hx, r⟩ := rs.get' (List.getElem?_eq_getElem (show i < ds.length by lia))
  obtain ⟨u, hu, ru⟩ := rv.get hx
  refine ⟨x, ?_, ?_, ?_⟩
  · rw [List.getD_eq_getElem?_getD, List.getElem?_eq_getElem (show i < ds.length by lia)]; exact r
  · rw [List.getD_eq_getElem?_getD, hu]; exact ru
  · rw [List.getD_eq_getElem?_getD, List.getElem?_eq_getElem (show i < ds.length by lia)]; exact List.getElem_mem _
theorem mem_getD {us : List Value} {v : Value} (h : v ∈ us) : ∃ i, i < us.length ∧ v = us.getD i Value.none := by
  obtain ⟨i, hi, e⟩ := List.getElem_of_mem h
  exact ⟨i, hi, by rw [List.getD_eq_getElem?_getD, List.getElem?_eq_getElem hi]; exact e.symm⟩
def Ty.tv : Ty → Value
  | .s => .type "str"
  | .i => .type "int"
def CmpOk (prog : Program) (w : World) (A : Around) (s : Shared) (vs : List Value) (key : Nat → Int) : Prop :=
  ∃ κ, (∀ (Q : SortKind → Shared → Prop) (E : Value → Shared → Prop), Q κ s → wpAny (model prog w) A (keyKind' vs.toArray) Q E s) ∧
    ∀ i j (C : Bool → Shared → Prop), i < vs.length → j < vs.length → C (decide (key i < key j)) s → wpAny (model prog w) A (keyLt' κ (vs.getD i Value.none) (vs.getD j Value.none)) C (fun _ _ => False) s
theorem cmp_alike {h' : Heap} {ds : List D} {xs : List V} {us : List Value} {A' : Around} (I : Inv X pins σ H s) (rs : Reps X.K H ds xs) (rv : Vals xs us) (hal : Alike ds) (h2 : 2 ≤ us.length) (k : Keeps s.heap h') :
    CmpOk X.prog X.w A' { s with heap := h' } us (rk ds) := by
  have l1 := rs.length
  have l2 := rv.length
  have flat : ∀ (t : Ty) (T0 : Value), (∀ d u, t.ok d = true → FV d u → typeOf u = pure T0) → (T0 != Value.type "tuple") = true → (T0 == T0) = true → (∀ d ∈ ds, t.ok d = true) → CmpOk X.prog X.w A' { s with heap := h' } us (rk ds) := fun t T0 hty hT1 hT2 ht => by
    have fv : ∀ i, i < us.length → FV (ds.getD i .non) (us.getD i Value.none) ∧ t.ok (ds.getD i .non) = true := fun i hi => by
      obtain ⟨x, r, q, hm⟩ := getD_rel rs rv hi
      exact ⟨FV.of (ht _ hm) r q, ht _ hm⟩
    refine ⟨oneType', fun Q E q => kas_kind h2 (T := T0) (fun v hv => ?_) hT1 hT2 q, fun i j C hi hj hC => ?_⟩
    · obtain ⟨i, hi, rfl⟩ := mem_getD hv
      obtain ⟨f, o⟩ := fv i hi
      rw [hty _ _ o f]
      exact .now
    · obtain ⟨f1, o1⟩ := fv i hi
      obtain ⟨f2, o2⟩ := fv j hj
      rw [keyLt'_oneType]
      refine flat_lt o1 o2 f1 f2 true ?_
      rw [rk_lt (by lia)] at hC
      have e : ∀ d : D, t.ok d = true → d.ord = [d.fo] := fun d hd => by cases t <;> cases d <;> simp [Ty.ok] at hd <;> rfl
      rw [e _ o1, e _ o2] at hC
      have : decide ((ds.getD i .non).fo < (ds.getD j .non).fo) = decide ([(ds.getD i .non).fo] < [(ds.getD j .non).fo]) := by
        rw [Bool.eq_iff_iff, decide_eq_true_eq, decide_eq_true_eq]; exact (one_lt _ _).symm
      rw [this]; exact hC
  rcases hal with ht | ht | ⟨t, ts, ht⟩
  · exact flat .s (.type "str") (fun d u hd f => by cases d <;> simp [Ty.ok] at hd; obtain ⟨t, rfl⟩ := f; rfl) (by decide) (by decide) ht
  · exact flat .i (.type "int") (fun d u hd f => by cases d <;> simp [Ty.ok] at hd; obtain ⟨t, rfl⟩ := f; rfl) (by decide) (by decide) ht
  · have tv : ∀ i, i < us.length → ∃ es, ds.getD i .non = .tup es ∧ shOk (t :: ts) es = true ∧ TV h' es (us.getD i Value.none) := fun i hi => by
      obtain ⟨x, r, q, hm⟩ := getD_rel rs rv hi
      obtain ⟨es, e, ho⟩ := ht _ hm
      rw [e] at r
      obtain ⟨a, o, its, n, eu, ho', hc, hd, fv⟩ := I.tv ho r q
      exact ⟨es, e, ho, a, o, its, n, eu, k a o ho', hc, hd, fv⟩
    obtain ⟨T0, hT0, hb, hbb⟩ : ∃ T0 : Value, (T0 = t.tv) ∧ (T0 != Value.type "tuple") = true ∧ (T0 == T0) = true := ⟨t.tv, rfl, by cases t <;> decide, by cases t <;> decide⟩
    have hfs : ∀ (l : List Value), (∀ v ∈ l, ∃ es, shOk (t :: ts) es = true ∧ TV h' es v) → ∃ fs, KatTups h' l fs ∧ fs.length = l.length ∧ ∀ f ∈ fs, typeOf f = pure T0 := by
      intro l
      induction l with
      | nil => intro _; exact ⟨[], KatTups.nil, rfl, by simp⟩
      | cons v l ih =>
        intro h
        obtain ⟨fs, h1, h2, h3⟩ := ih fun u hu => h u (List.mem_cons_of_mem _ hu)
        obtain ⟨es, ho, a, o, its, n, rfl, hg, hc, hd, fv⟩ := h v List.mem_cons_self
        cases es with
        | nil => simp [shOk] at ho
        | cons d es =>
          simp only [shOk, Bool.and_eq_true] at ho
          cases hits : its.toList with
          | nil => rw [hits] at fv; cases fv
          | cons f fr =>
            rw [hits] at fv
            cases fv with
            | cons fd _ =>
              have h0 : its[0]? = some f := by
                have : its.toList[0]? = some f := by rw [hits]; rfl
                simpa using this
              refine ⟨f :: fs, KatTups.cons hg hc hd h0 h1, by simp [h2], fun g hgm => ?_⟩
              rcases List.mem_cons.mp hgm with rfl | hgm
              · cases t <;> cases d <;> simp [Ty.ok] at ho
                · obtain ⟨t', rfl⟩ := fd; rw [hT0]; rfl
                · obtain ⟨t', rfl⟩ := fd; rw [hT0]; rfl
              · exact h3 g hgm
    obtain ⟨fs, hk1, hk2, hk3⟩ := hfs us fun v hv => by
      obtain ⟨i, hi, rfl⟩ := mem_getD hv
      obtain ⟨es, _, ho, tvv⟩ := tv i hi
      exact ⟨es, ho, tvv⟩
    refine ⟨tuples' (T0 != Value.type "tuple"), fun Q E q => kat_kind (s := { s with heap := h' }) (T := T0) hk1 (by lia) (fun v hv => ?_) hbb q, fun i j C hi hj hC => ?_⟩
    · rw [hk3 v hv]; exact .now
    · obtain ⟨es, e1, o1, a, o, its, n, eu, hg, hc, hd, fv⟩ := tv i hi
      obtain ⟨es', e1', o1', a', o', its', n', eu', hg', hc', hd', fv'⟩ := tv j hj
      rw [eu, eu']
      rw [rk_lt (by lia), e1, e1'] at hC
      have sz : ∀ {ts : List Ty} {es : List D} {us : List Value}, shOk ts es = true → FVs es us → us.length = ts.length := by
        intro ts
        induction ts with
        | nil => intro es us h f; cases f with
          | nil => rfl
          | cons _ _ => simp [shOk] at h
        | cons t ts ih => intro es us h f; cases f with
          | nil => simp [shOk] at h
          | cons _ f => simp only [shOk, Bool.and_eq_true] at h; simp [ih h.2 f]
      have z1 := sz o1 fv
      have z2 := sz o1' fv'
      refine kat_lt (s := { s with heap := h' }) hg hd hg' hd' ?_
      rw [decide_eq_false (by simp at z1 z2; lia)]
      exact lex_flat 0 o1 o1' fv fv' hC
theorem outK_short {r : Nat → Int} {us : List Value} (h : us.length < 2) : OutK r us us.toArray := by
  refine ⟨List.range us.length, List.Perm.refl _, ?_, ?_⟩
  · match us, h with
    | [], _ => rfl
    | [v], _ => rfl
  · match us, h with
    | [], _ => simp
    | [v], _ => simp
end
end L2

set_option maxHeartbeats 2000000
namespace L2
open PySem PySem.W PySem.Spec PyProof.Rows
def cutD (xs : List D) (lo hi : Option Int) : List D := (xs.drop (HT.sIx xs.length 0 lo)).take (HT.sIx xs.length xs.length hi - HT.sIx xs.length 0 lo)
theorem Reps.cut {K : PySem.W.Frag} {H : Hp} {ds : List D} {xs : List V} (lo hi : Option Int) (h : Reps K H ds xs) : Reps K H (cutD ds lo hi) (cutV xs lo hi) := by
  unfold cutD cutV
  rw [← h.length]
  exact (h.drop _).take _
section
variable {K : PySem.W.Frag} {G H₀ L : Hp} {ss : List Sl} {t ta tb : TE} {d : D} {ds : List D}
theorem ev_lenL (a : EvL K G H₀ L ss t ds) : Ev K G H₀ L ss (tCB (fun xs H Q => ∃ p ys, xs = [.ref p] ∧ (SqL K H p ys ∨ SqT K H p ys) ∧ Q (.int ys.length) H) (tCons t tNil)) (.int ds.length) := fun F H σ Q S q =>
  a F H σ _ S fun p vs F' H' e sq r => ⟨p, vs, rfl, .inl sq, q _ _ _ e (by rw [← r.length]; exact Rep.int)⟩
theorem evo_list (a : EvL K G H₀ L ss t ds) : EvO K G H₀ L ss (tCB (fun xs H Q => ∃ p ys, xs = [.ref p] ∧ (SqL K H p ys ∨ SqT K H p ys) ∧ ∀ l, H l = none → Q (.ref l) (upd H l (.lst ys))) (tCons t tNil)) ds := fun F H σ Q S q =>
  a F H σ _ S fun p vs F' H' e sq r => ⟨p, vs, rfl, .inl sq, fun l hl => q l vs F' _ (e.newO hl) (e.hh.free hl) (e.fh.free hl) upd_same r⟩
def EvP (K : PySem.W.Frag) (G H₀ L : Hp) (ss : List Sl) (t : TO) (o : Option Int) : Prop := ∀ F H σ (Q : Option Int → Hp → Prop), Sat K G H₀ L F H σ ss → (∀ F' H', Ext F H F' H' → Q o H') → t σ H Q
theorem evp_no : EvP K G H₀ L ss tNoPart none := fun F H σ Q S q => q _ _ (Ext.refl S.ext.fh)
theorem evp_part {i : Int} (a : EvB K G H₀ L ss t (.int i)) : EvP K G H₀ L ss (tPart t) (some i) := fun F H σ Q S q => a F H σ _ S fun v F' H' e r => ⟨i, r.of_int, q _ _ e⟩
theorem evo_slL {tl th : TO} {lo hi : Option Int} (a : EvL K G H₀ L ss t ds) (b : EvP K G H₀ L ss tl lo) (c : EvP K G H₀ L ss th hi) : EvO K G H₀ L ss (tSl (rSlL K) t tl th) (cutD ds lo hi) := fun F H σ Q S q =>
  a F H σ _ S fun p vs F1 H1 e1 sq r => b F1 H1 σ _ (S.ext2 e1) fun F2 H2 e2 => c F2 H2 σ _ ((S.ext2 e1).ext2 e2) fun F3 H3 e3 =>
    ⟨p, vs, rfl, SqL.same e3.hh (SqL.same e2.hh sq), fun l hl => q l _ F3 _ (((e1.trans e2).trans e3).newO hl) (((e1.trans e2).trans e3).hh.free hl) (((e1.trans e2).trans e3).fh.free hl) upd_same (((r.mono e2.gf).mono e3.gf).cut lo hi)⟩
end
end L2

namespace L2
open PySem PySem.W PySem.Spec PyProof.Rows
def rAll (K : PySem.W.Frag) : List V → Hp → VK → Prop := fun xs H Q => ∃ p, ∃ bs : List Bool, xs = [.ref p] ∧ SqL K H p (bs.map V.bl) ∧ Q (.bl (bs.all id)) H
section
variable {X : Cx} {prog : Program} {w : World} {A : Around} {E : Value → Shared → Prop} {s : Shared}
theorem old_kept {h' : Heap} {o : Obj} {k : Nat} (hk : ∀ b x, b ∉ [s.heap.objs.size] → (s.heap.push o).get? b = some x → h'.get? b = some x) : Keeps s.heap h' := fun b x e => by
  refine hk b x (fun hm => ?_) (Heap.get?_push_of_some _ e)
  have h1 := Heap.lt_size e
  rw [List.mem_singleton.mp hm] at h1
  exact Nat.lt_irrefl _ h1
theorem vals_bl : ∀ {bs : List Bool} {us : List Value}, Vals (bs.map V.bl) us → us = bs.map Value.bool
  | [], _, .nil => rfl
  | b :: bs, _, .cons r1 r2 => by rw [vals_bl r2]; cases r1; rfl
theorem range_allB : ∀ bs : List Bool, ((List.range bs.length).all fun i => (bs[i]?).getD true) = bs.all id := fun bs => by
  rw [Bool.eq_iff_iff, List.all_eq_true, List.all_eq_true]
  constructor
  · intro h b hb
    obtain ⟨i, hi, e⟩ := List.getElem_of_mem hb
    have := h i (List.mem_range.mpr hi)
    rw [List.getElem?_eq_getElem hi, Option.getD_some, e] at this
    exact this
  · intro h i hi
    have hi' := List.mem_range.mp hi
    rw [List.getElem?_eq_getElem hi', Option.getD_some]
    exact h _ (List.getElem_mem hi')
theorem call_all (hc : X.calm = true) : CallR X (.builtin "all") (rAll X.K) := by
  intro pins s σ H xs us Q I r h
  obtain ⟨p, bs, rfl, hq, q⟩ := h
  obtain ⟨u, rfl, ru⟩ := vals1 r
  cases ru
  obtain ⟨its, rv, pl, _⟩ := I.list hq
  obtain rfl := vals_bl rv
  have hl := pl.isList
  have hlt : p < s.heap.objs.size := by obtain ⟨_, e, _⟩ := hl; exact Heap.lt_size e
  refine call_all_walk (wpAny_pyIter_list hl ⟨s.heap.objs.size, [s.heap.objs.size, p], [s.heap.objs.size], (bs.map Value.bool).toArray.size, _, _, fun i => (bs[i]?).getD true, rfl,
    Walks.list (A := X.A.in1) (I.ok.hd hc) _ p (Nat.ne_of_lt hlt) _, ⟨⟨_, Heap.get?_push_size _ rfl, rfl, rfl⟩, hl.push _⟩, fun i v s' Q' E' hP hQ => ?_, fun h' tk hk => ?_⟩)
  · have hP' : (bs.map Value.bool)[i]? = some v := by simpa using hP
    rw [List.getElem?_map] at hP'
    cases hb : bs[i]? with
    | none => rw [hb] at hP'; cases hP'
    | some b =>
      rw [hb] at hP'
      cases hP'
      simp only [hb, Option.getD_some] at hQ
      exact wpAny_truthy_bool hQ
  · have e : ((List.range (bs.map Value.bool).toArray.size).all fun i => (bs[i]?).getD true) = bs.all id := by
      rw [List.size_toArray, List.length_map]; exact range_allB bs
    rw [e]
    exact ⟨.bl _, H, I.kept (old_kept (k := 0) hk), rfl, q⟩
end
end L2

namespace L2
open PySem PySem.W PySem.Spec PyProof.Rows PySem.Calls
open PySem.MeetsSeq PySem.MeetsSeq2 PySem.MeetsSeq3
section
variable {K : PySem.W.Frag} {G H₀ L : Hp} {ss : List Sl} {t ta tb : TE} {d : D} {ds es : List D}
theorem Reps.bools {H : Hp} : ∀ {bs : List Bool} {vs : List V}, Reps K H (bs.map D.bl) vs → vs = bs.map V.bl
  | [], vs, h => by rw [List.map_nil, Reps] at h; exact h
  | b :: bs, vs, h => by
    rw [List.map_cons, Reps] at h
    obtain ⟨x, xs, rfl, h1, h2⟩ := h
    rw [h1.of_bl, h2.bools]; rfl
theorem ev_all {bs : List Bool} (a : EvL K G H₀ L ss t (bs.map D.bl)) : Ev K G H₀ L ss (tCB (rAll K) (tCons t tNil)) (.bl (bs.all id)) := fun F H σ Q S q =>
  a F H σ _ S fun p vs F1 H1 e1 sq r1 => ⟨p, bs, rfl, by rw [r1.bools] at sq; exact sq, q _ _ _ e1 Rep.bl⟩
end
end L2

namespace L2
open PySem PySem.W PySem.Spec PyProof.Rows
def slots (n : Nat) (ds : List D) : List Sl := ds.map Sl.d ++ List.replicate (n - ds.length) .un
section
variable {K : PySem.W.Frag} {H : Hp} {vs : List V} {Q : VK} {X : XK} {N : List Str} {t : TS} {pre : List D → Prop}
theorem sat_start {G : Hp} {ds : List D} (sm : Same G H) (r : Reps K G ds vs) (hN : vs.length ≤ N.length) : Sat K G H G G H (start N vs) (slots N.length ds) := by
  have hl := r.length
  have ads : ∀ (i : Nat) s, (slots N.length ds)[i]? = some s → s.ads = [] := fun i s hs => by
    have hm := List.mem_of_getElem? hs
    unfold slots at hm
    rcases List.mem_append.mp hm with h | h
    · obtain ⟨d, _, rfl⟩ := List.mem_map.mp h; rfl
    · rw [List.eq_of_mem_replicate h]; rfl
  refine ⟨Ext.refl sm, Same.refl _, ?_, fun i s hs => ?_, fun i s hs => by rw [ads i s hs]; exact List.nodup_nil, fun i j s s' _ hs _ p hp => by rw [ads i s hs] at hp; cases hp⟩
  · unfold start slots; simp; lia
  · by_cases hi : i < ds.length
    · have e : (slots N.length ds)[i]? = some (.d ds[i]) := by
        unfold slots
        rw [List.getElem?_append_left (by simpa using hi), List.getElem?_map, List.getElem?_eq_getElem hi]; rfl
      rw [e] at hs
      cases hs
      obtain ⟨v, hv, rv⟩ := r.get' (List.getElem?_eq_getElem hi)
      refine ⟨v, ?_, rv⟩
      unfold start
      rw [List.getD_eq_getElem?_getD, List.getElem?_append_left (by simp; lia), List.getElem?_map, hv]; rfl
    · have hm : s = .un := by
        unfold slots at hs
        rw [List.getElem?_append_right (by simp; lia)] at hs
        exact List.eq_of_mem_replicate (List.mem_of_getElem? hs)
      rw [hm]; trivial
theorem go_spD {res : List D → D} (h : SpD K pre res vs H Q X) (hN : vs.length ≤ N.length) (body : ∀ G ds, pre ds → RtD K G H Q (res ds) → Go K G H G { nx := fun _ H' => Q .non H', rt := Q } (slots N.length ds) t) : t { nx := fun _ H' => Q .non H', rt := Q } (start N vs) H := by
  obtain ⟨G, ds, sm, r, hp, q⟩ := h
  exact body G ds hp (fun v F H' e r => q v F H' e r) G H _ (sat_start sm r hN)
theorem go_spO {res : List D → List D} (h : SpO K pre res vs H Q X) (hN : vs.length ≤ N.length) (body : ∀ G ds, pre ds → RtO K G H Q (res ds) → Go K G H G { nx := fun _ H' => Q .non H', rt := Q } (slots N.length ds) t) : t { nx := fun _ H' => Q .non H', rt := Q } (start N vs) H := by
  obtain ⟨G, ds, sm, r, hp, q⟩ := h
  exact body G ds hp (fun p ws F H' e h1 h2 h3 r => q p ws F H' e h1 h2 h3 r) G H _ (sat_start sm r hN)
theorem spD_len {res : List D → D} {n : Nat} (hpre : ∀ ds, pre ds → ds.length = n) (h : SpD K pre res vs H Q X) : vs.length = n := by
  obtain ⟨G, ds, sm, r, hp, q⟩ := h
  rw [← r.length]; exact hpre ds hp
theorem spO_len {res : List D → List D} {n : Nat} (hpre : ∀ ds, pre ds → ds.length = n) (h : SpO K pre res vs H Q X) : vs.length = n := by
  obtain ⟨G, ds, sm, r, hp, q⟩ := h
  rw [← r.length]; exact hpre ds hp
end
section
variable {K : PySem.W.Frag} {G H₀ L : Hp} {ss : List Sl} {t ta tb : TE} {d : D} {ds es : List D} {i j : Int}
theorem ev_mod (a : EvB K G H₀ L ss ta (.int i)) (b : EvB K G H₀ L ss tb (.int j)) (h : 0 < j) : Ev K G H₀ L ss (tOp (rI (fun _ j => 0 < j) fun i j => .int (i % j)) ta tb) (.int (i % j)) := ev_opI (C := fun _ j => 0 < j) (g := fun i j => i % j) a b h
theorem ev_mul (a : EvB K G H₀ L ss ta (.int i)) (b : EvB K G H₀ L ss tb (.int j)) (h : CMul i j) : Ev K G H₀ L ss (tOp (rI CMul fun i j => .int (i * j)) ta tb) (.int (i * j)) := ev_opI (C := CMul) (g := fun i j => i * j) a b h
theorem ev_fdiv (a : EvB K G H₀ L ss ta (.int i)) (b : EvB K G H₀ L ss tb (.int j)) (h : CDiv i j) : Ev K G H₀ L ss (tOp (rI CDiv fun i j => .int (i / j)) ta tb) (.int (i / j)) := ev_opI (C := CDiv) (g := fun i j => i / j) a b h
theorem ev_lt (a : EvB K G H₀ L ss ta (.int i)) (b : EvB K G H₀ L ss tb (.int j)) : Ev K G H₀ L ss (tOp (rI0 fun i j => .bl (decide (i < j))) ta tb) (.bl (decide (i < j))) := ev_cmpI (g := fun i j => decide (i < j)) a b
end
theorem sIx_at (n d : Nat) {a : Int} (h : 0 ≤ a) : HT.sIx n d (some a) = min a.toNat n := by
  show (if a < 0 then (a + (n : Int)).toNat else min a.toNat n) = _
  rw [if_neg (by lia)]
theorem cutD_to (m : List D) {a : Int} (h : 0 ≤ a) : cutD m none (some a) = m.take a.toNat := by
  unfold cutD
  rw [sIx_at _ _ h, show HT.sIx m.length 0 none = 0 from rfl, List.drop_zero, Nat.sub_zero, ← List.take_eq_take_min]
theorem cutD_from (m : List D) {b : Int} (h : 0 ≤ b) : cutD m (some b) none = m.drop b.toNat := by
  unfold cutD
  rw [sIx_at _ _ h, show HT.sIx m.length m.length none = m.length from rfl, List.take_of_length_le (by rw [List.length_drop]; lia)]
  by_cases hh : b.toNat ≤ m.length
  · rw [Nat.min_eq_left hh]
  · rw [Nat.min_eq_right (by lia), List.drop_length, List.drop_eq_nil_of_le (by lia)]
end L2

namespace L2
open PySem PySem.W PySem.Spec PyProof.Rows
theorem range_fm {α β : Type} (xs : List α) (z : α) (p : α → Bool) (f : α → β) : ((List.range xs.length).filter fun i => p (xs.getD i z)).map (fun i => f (xs.getD i z)) = (xs.filter p).map f := by
  have e : xs = (List.range xs.length).map fun i => xs.getD i z := by
    refine List.ext_getElem? fun i => ?_
    rw [List.getElem?_map]
    by_cases hi : i < xs.length
    · rw [List.getElem?_range hi, List.getElem?_eq_getElem hi]; simp [List.getD_eq_getElem?_getD, hi]
    · rw [List.getElem?_eq_none (by lia), List.getElem?_eq_none (by simp; lia)]; rfl
  conv => rhs; rw [e]
  rw [List.filter_map, List.map_map]
  rfl
section
variable {K : PySem.W.Frag} {G H₀ L : Hp} {ss : List Sl}
theorem evo_lcX {α : Type} (xs : List α) (enc : α → D) (p : α → Bool) (f : α → D) {tl : TE} {g : TG} {tt : TT} {te : TE} {nt : Nat} {cs : List Nat} (a : EvL K G H₀ L ss tl (xs.map enc)) (hk : GK nt g) (hc : cs.Nodup) (hz : xs.length < sizeLine)
    (hs : ∀ x ∈ xs, ∃ ss', Tg K G H₀ L g (enc x) (lcSl nt cs ss) ss' ∧ EvT K G H₀ L ss' tt (p x) ∧ (p x = true → Ev K G H₀ L ss' te (f x))) :
    EvO K G H₀ L ss (tLC nt cs (iList K tl) g tt te) ((xs.filter p).map f) := by
  cases xs with
  | nil =>
    have := evo_lcI (p := fun _ => true) (f := fun _ => .non) (tt := tt) (te := te) (evi_list a) hk hc (by simpa using hz) (fun i hi => by simp at hi)
    simpa using this
  | cons z zs =>
    have hl : ((z :: zs).map enc).length = (z :: zs).length := by simp
    have := evo_lcI (p := fun i => p ((z :: zs).getD i z)) (f := fun i => f ((z :: zs).getD i z)) (tt := tt) (te := te) (evi_list a) hk hc (by rw [hl]; exact hz) (fun i hi => by
      rw [hl] at hi
      have hm : (z :: zs).getD i z ∈ (z :: zs) := by
        rw [List.getD_eq_getElem?_getD, List.getElem?_eq_getElem hi]; exact List.getElem_mem hi
      have e : ((z :: zs).map enc).getD i .non = enc ((z :: zs).getD i z) := by
        rw [List.getD_eq_getElem?_getD, List.getElem?_map, List.getD_eq_getElem?_getD, List.getElem?_eq_getElem hi]; rfl
      rw [e]
      exact hs _ hm)
    rw [hl, range_fm] at this
    exact this
theorem evt_true : EvT K G H₀ L ss tTrue true := fun F H σ Q S q => q _ _ (Ext.refl S.ext.fh)
theorem evo_lcM {α : Type} (xs : List α) (enc : α → D) (f : α → D) {tl : TE} {g : TG} {te : TE} {nt : Nat} {cs : List Nat} (a : EvL K G H₀ L ss tl (xs.map enc)) (hk : GK nt g) (hc : cs.Nodup) (hz : xs.length < sizeLine)
    (hs : ∀ x ∈ xs, ∃ ss', Tg K G H₀ L g (enc x) (lcSl nt cs ss) ss' ∧ Ev K G H₀ L ss' te (f x)) :
    EvO K G H₀ L ss (tLC nt cs (iList K tl) g tTrue te) (xs.map f) := by
  have := evo_lcX xs enc (fun _ => true) f a hk hc hz (tt := tTrue) (te := te) fun x hx => by
    obtain ⟨ss', h1, h2⟩ := hs x hx
    exact ⟨ss', h1, evt_true, fun _ => h2⟩
  rw [show xs.filter (fun _ => true) = xs from List.filter_eq_self.mpr (by simp)] at this
  exact this
theorem ev_allM {α : Type} {xs : List α} {g : α → Bool} {t : TE} (b : EvL K G H₀ L ss t (xs.map fun x => D.bl (g x))) : Ev K G H₀ L ss (tCB (rAll K) (tCons t tNil)) (.bl (xs.all g)) := by
  have := ev_all (K := K) (G := G) (H₀ := H₀) (L := L) (ss := ss) (t := t) (bs := xs.map g) (by rw [List.map_map]; exact b)
  rw [List.all_map] at this
  exact this
end
end L2

set_option maxHeartbeats 4000000
namespace L2T
open PySem

theorem mono_at (xs : Array Nat) (hp : xs.toList.Pairwise (· < ·)) (i k x y : Nat) (hik : i < k) (hx : xs[i]? = some x) (hy : xs[k]? = some y) : x < y := by
  rw [← Array.getElem?_toList] at hx hy
  obtain ⟨hi', hx'⟩ := List.getElem?_eq_some_iff.mp hx
  obtain ⟨hk', hy'⟩ := List.getElem?_eq_some_iff.mp hy
  have h := List.pairwise_iff_getElem.mp hp i k hi' hk' hik
  rw [hx', hy'] at h; exact h

theorem below_go (xs : Array Nat) (j : Nat) (hp : xs.toList.Pairwise (· < ·)) : ∀ (fuel lo hi : Nat), hi - lo ≤ fuel → lo ≤ hi → hi ≤ xs.size →
    (∀ i x, i < lo → xs[i]? = some x → x < j) → (∀ i x, hi ≤ i → xs[i]? = some x → j ≤ x) →
    (SetTable.below.go xs j fuel lo hi ≤ xs.size) ∧ (∀ i x, i < SetTable.below.go xs j fuel lo hi → xs[i]? = some x → x < j) ∧ (∀ i x, SetTable.below.go xs j fuel lo hi ≤ i → xs[i]? = some x → j ≤ x) := by
  intro fuel
  induction fuel with
  | zero =>
    intro lo hi hf hl hs h1 h2
    have : lo = hi := by lia
    subst this
    exact ⟨hs, h1, h2⟩
  | succ fuel ih =>
    intro lo hi hf hl hs h1 h2
    unfold SetTable.below.go
    by_cases hlt : lo < hi
    · rw [if_pos hlt]
      have hm : (lo + hi) / 2 < xs.size := by lia
      have hgm : xs[(lo + hi) / 2]? = some xs[(lo + hi) / 2] := Array.getElem?_eq_getElem hm
      have hgd : xs.getD ((lo + hi) / 2) j = xs[(lo + hi) / 2] := by simp [Array.getD, hm]
      have hmono := mono_at xs hp
      dsimp only
      rw [hgd]
      by_cases hc : xs[(lo + hi) / 2] < j
      · rw [if_pos hc]
        refine ih _ _ (by omega) (by lia) hs ?_ h2
        intro i x hi' hx
        by_cases he : i = (lo + hi) / 2
        · subst he; rw [hgm] at hx; cases hx; exact hc
        · have := hmono i ((lo + hi) / 2) x _ (by lia) hx hgm; lia
      · rw [if_neg hc]
        refine ih _ _ (by omega) (by lia) (by lia) h1 ?_
        intro i x hi' hx
        by_cases he : i = (lo + hi) / 2
        · subst he; rw [hgm] at hx; cases hx; lia
        · have := hmono ((lo + hi) / 2) i _ x (by lia) hgm hx; lia
    · rw [if_neg hlt]
      have : lo = hi := by lia
      subst this
      exact ⟨hs, h1, h2⟩

theorem below_spec (xs : Array Nat) (j : Nat) (hp : xs.toList.Pairwise (· < ·)) :
    SetTable.below xs j ≤ xs.size ∧ (∀ i x, i < SetTable.below xs j → xs[i]? = some x → x < j) ∧ (∀ i x, SetTable.below xs j ≤ i → xs[i]? = some x → j ≤ x) := by
  unfold SetTable.below
  exact below_go xs j hp xs.size 0 xs.size (by lia) (by lia) (by lia) (fun i x h => by lia) (fun i x h hx => by
    have := (Array.getElem?_eq_some_iff.mp hx).1; lia)

theorem below_mem (xs : Array Nat) (j : Nat) (hp : xs.toList.Pairwise (· < ·)) : xs[SetTable.below xs j]? = some j ↔ j ∈ xs.toList := by
  obtain ⟨h0, h1, h2⟩ := below_spec xs j hp
  constructor
  · intro h; rw [← Array.getElem?_toList] at h; exact List.mem_of_getElem? h
  · intro h
    obtain ⟨i, hi⟩ := List.mem_iff_getElem?.mp h
    rw [Array.getElem?_toList] at hi
    rcases Nat.lt_or_ge i (SetTable.below xs j) with hc | hc
    · have := h1 i j hc hi; lia
    · have hib := (Array.getElem?_eq_some_iff.mp hi).1
      have hb : SetTable.below xs j < xs.size := by lia
      have hg : xs[SetTable.below xs j]? = some xs[SetTable.below xs j] := Array.getElem?_eq_getElem hb
      have h3 := h2 _ _ (Nat.le_refl _) hg
      rcases Nat.lt_or_ge (SetTable.below xs j) i with hd | hd
      · have := mono_at xs hp _ _ _ _ hd hg hi
        lia
      · have : i = SetTable.below xs j := by lia
        rw [← this]; exact hi

theorem has_iff (xs : Array Nat) (j : Nat) (hp : xs.toList.Pairwise (· < ·)) : SetTable.has xs j = true ↔ j ∈ xs.toList := by
  unfold SetTable.has
  rw [beq_iff_eq]
  exact below_mem xs j hp

theorem below_at (xs : Array Nat) (i j : Nat) (hp : xs.toList.Pairwise (· < ·)) (h : xs[i]? = some j) : SetTable.below xs j = i := by
  have hm := (below_mem xs j hp).mpr (by rw [← Array.getElem?_toList] at h; exact List.mem_of_getElem? h)
  rw [← Array.getElem?_toList] at h hm
  obtain ⟨hi, hx⟩ := List.getElem?_eq_some_iff.mp h
  obtain ⟨hk, hy⟩ := List.getElem?_eq_some_iff.mp hm
  rcases Nat.lt_trichotomy (SetTable.below xs j) i with hc | hc | hc
  · have := List.pairwise_iff_getElem.mp hp _ _ hk hi hc; lia
  · exact hc
  · have := List.pairwise_iff_getElem.mp hp _ _ hi hk hc; lia

theorem insertAt_list {α : Type} (xs : Array α) (p : Nat) (x : α) (hp : p ≤ xs.size) : (SetTable.insertAt xs p x).toList = xs.toList.take p ++ x :: xs.toList.drop p := by
  simp [SetTable.insertAt, Array.toList_extract, List.extract, List.take_of_length_le]

theorem eraseAt_list {α : Type} (xs : Array α) (p : Nat) : (SetTable.eraseAt xs p).toList = xs.toList.take p ++ xs.toList.drop (p + 1) := by
  simp [SetTable.eraseAt, Array.toList_extract, List.extract, List.take_of_length_le]

theorem insertAt_below (xs : Array Nat) (j : Nat) (hp : xs.toList.Pairwise (· < ·)) (hj : j ∉ xs.toList) :
    (SetTable.insertAt xs (SetTable.below xs j) j).toList.Pairwise (· < ·) := by
  obtain ⟨h0, h1, h2⟩ := below_spec xs j hp
  rw [insertAt_list _ _ _ h0, List.pairwise_append, List.pairwise_cons]
  have ht : ∀ x ∈ xs.toList.take (SetTable.below xs j), x < j := by
    intro x hx
    obtain ⟨i, hi⟩ := List.mem_iff_getElem?.mp hx
    rw [List.getElem?_take] at hi
    split at hi
    · rename_i hlt; exact h1 i x hlt (by rw [← Array.getElem?_toList]; exact hi)
    · cases hi
  have hd : ∀ x ∈ xs.toList.drop (SetTable.below xs j), j < x := by
    intro x hx
    obtain ⟨i, hi⟩ := List.mem_iff_getElem?.mp hx
    rw [List.getElem?_drop] at hi
    have := h2 _ x (Nat.le_add_right _ i) (by rw [← Array.getElem?_toList]; exact hi)
    have hne : x ≠ j := fun e => hj (e ▸ List.mem_of_getElem? hi)
    lia
  refine ⟨hp.sublist (List.take_sublist _ _), ⟨hd, hp.sublist (List.drop_sublist _ _)⟩, ?_⟩
  intro x hx y hy
  rcases List.mem_cons.mp hy with rfl | hy
  · exact ht x hx
  · have := ht x hx; have := hd y hy; lia

structure TOk (t : SetTable) : Prop where
  pl : t.place.toList.Pairwise (· < ·)
  du : t.dummies.toList.Pairwise (· < ·)
  ple : ∀ j ∈ t.place.toList, j ≤ t.mask
  dle : ∀ j ∈ t.dummies.toList, j ≤ t.mask
  dis : ∀ j ∈ t.dummies.toList, j ∉ t.place.toList
  pow : ∃ k, t.mask + 1 = 2 ^ (k + 3)
  big : t.mask ≤ 8191

theorem slot_live {t : SetTable} (h : TOk t) (j i : Nat) : t.slot j = .live i ↔ t.place[i]? = some j := by
  unfold SetTable.slot
  dsimp only
  by_cases hc : t.place[SetTable.below t.place j]? = some j
  · rw [if_pos (by rw [beq_iff_eq]; exact hc)]
    constructor
    · intro he; cases he; exact hc
    · intro hi; rw [below_at _ _ _ h.pl hi]
  · rw [if_neg (by rw [beq_iff_eq]; exact hc)]
    constructor
    · intro he; split at he <;> cases he
    · intro hi; exact absurd ((below_mem _ _ h.pl).mpr (by rw [← Array.getElem?_toList] at hi; exact List.mem_of_getElem? hi)) hc

theorem slot_dummy {t : SetTable} (h : TOk t) (j : Nat) : t.slot j = .dummy ↔ j ∈ t.dummies.toList := by
  unfold SetTable.slot
  dsimp only
  by_cases hc : t.place[SetTable.below t.place j]? = some j
  · rw [if_pos (by rw [beq_iff_eq]; exact hc)]
    constructor
    · intro he; cases he
    · intro hi; exact absurd ((below_mem _ _ h.pl).mp hc) (h.dis j hi)
  · rw [if_neg (by rw [beq_iff_eq]; exact hc)]
    by_cases hd : SetTable.has t.dummies j = true
    · rw [if_pos hd]; exact ⟨fun _ => (has_iff _ _ h.du).mp hd, fun _ => rfl⟩
    · rw [if_neg hd]; exact ⟨fun he => (by cases he), fun he => absurd ((has_iff _ _ h.du).mpr he) hd⟩

theorem slot_empty {t : SetTable} (h : TOk t) (j : Nat) : t.slot j = .empty ↔ (j ∉ t.place.toList ∧ j ∉ t.dummies.toList) := by
  constructor
  · intro he
    refine ⟨fun hm => ?_, fun hm => ?_⟩
    · obtain ⟨i, hi⟩ := List.mem_iff_getElem?.mp hm
      rw [Array.getElem?_toList] at hi
      rw [(slot_live h j i).mpr hi] at he; cases he
    · rw [(slot_dummy h j).mpr hm] at he; cases he
  · rintro ⟨h1, h2⟩
    cases hs : t.slot j with
    | empty => rfl
    | dummy => exact absurd ((slot_dummy h j).mp hs) h2
    | live i =>
      have := (slot_live h j i).mp hs
      rw [← Array.getElem?_toList] at this
      exact absurd (List.mem_of_getElem? this) h1

theorem len_of_all : ∀ (n : Nat) (L : List Nat), (∀ x, x < n → x ∈ L) → n ≤ L.length := by
  intro n
  induction n with
  | zero => intro L _; exact Nat.zero_le _
  | succ n ih =>
    intro L h
    have hn : n ∈ L := h n (by lia)
    have h1 := ih (L.erase n) (fun x hx => (List.mem_erase_of_ne (by lia)).mpr (h x (by lia)))
    have h2 := List.length_erase_of_mem hn
    have h3 : 0 < L.length := List.length_pos_of_mem hn
    lia

theorem some_empty {t : SetTable} (h : TOk t) (hr : t.fill ≤ t.mask) : ∃ e, e ≤ t.mask ∧ t.slot e = .empty := by
  refine Classical.byContradiction fun hc => ?_
  have hall : ∀ x, x < t.mask + 1 → x ∈ t.place.toList ++ t.dummies.toList := by
    intro x hx
    refine Classical.byContradiction fun hn => hc ⟨x, by lia, (slot_empty h x).mpr ?_⟩
    rw [List.mem_append] at hn
    exact ⟨fun a => hn (.inl a), fun a => hn (.inr a)⟩
  have := len_of_all _ _ hall
  simp only [SetTable.fill, List.length_append, Array.length_toList] at this hr
  lia

def lcg : Nat → Nat → Nat
  | 0, x => x
  | n + 1, x => lcg n (5 * x + 1)

theorem lcg_add (m n x : Nat) : lcg (m + n) x = lcg n (lcg m x) := by
  induction m generalizing x with
  | zero => simp [lcg]
  | succ m ih => rw [Nat.succ_add]; exact ih _

theorem lcg_pow : ∀ k, ∃ u v, ∀ x, lcg (2 ^ k) x = (1 + 2 ^ (k + 2) * u) * x + 2 ^ k * (2 * v + 1) := by
  intro k
  induction k with
  | zero => exact ⟨1, 0, fun x => by simp [lcg]⟩
  | succ k ih =>
    obtain ⟨u, v, h⟩ := ih
    refine ⟨u + 2 ^ (k + 1) * u * u, v + 2 ^ k * u * (2 * v + 1), fun x => ?_⟩
    have e : 2 ^ (k + 1) = 2 ^ k + 2 ^ k := by lia
    conv => lhs; rw [e]
    rw [lcg_add, h, h]
    have e1 : 2 ^ (k + 2) = 4 * 2 ^ k := by rw [Nat.pow_succ, Nat.pow_succ]; lia
    have e2 : 2 ^ (k + 1 + 2) = 8 * 2 ^ k := by rw [Nat.pow_succ, Nat.pow_succ, Nat.pow_succ]; lia
    rw [e1, e2, e]
    generalize 2 ^ k = a
    grind

theorem lcg_all : ∀ k x e, ∃ s, s < 2 ^ k ∧ lcg s x % 2 ^ k = e % 2 ^ k := by
  intro k
  induction k with
  | zero => intro x e; exact ⟨0, by simp, by simp [Nat.mod_one]⟩
  | succ k ih =>
    intro x e
    obtain ⟨s, hs, he⟩ := ih x e
    have e2 : 2 ^ (k + 1) = 2 * 2 ^ k := by lia
    have hpos : 0 < 2 ^ k := Nat.two_pow_pos k
    by_cases hc : lcg s x % 2 ^ (k + 1) = e % 2 ^ (k + 1)
    · exact ⟨s, by lia, hc⟩
    · refine ⟨s + 2 ^ k, by lia, ?_⟩
      rw [lcg_add]
      obtain ⟨u, v, h⟩ := lcg_pow k
      rw [h]
      generalize lcg s x = y at *
      have h3 : (1 + 2 ^ (k + 2) * u) * y + 2 ^ k * (2 * v + 1) = y + 2 ^ k + 2 ^ (k + 1) * (2 * u * y + v) := by
        have e1 : 2 ^ (k + 2) = 4 * 2 ^ k := by rw [Nat.pow_succ, Nat.pow_succ]; lia
        rw [e1, e2]; generalize 2 ^ k = a; grind
      rw [h3, Nat.add_mul_mod_self_left, e2]
      rw [e2] at hc
      generalize ha : 2 ^ k = a at *
      -- y ≡ e mod a, not mod 2a
      have hy := Nat.mod_add_div y a
      have hE := Nat.mod_add_div e a
      rw [he] at hy
      generalize y / a = p at *
      generalize e / a = q at *
      generalize hr : e % a = r at *
      have hra : r < a := by rw [← hr]; exact Nat.mod_lt _ hpos
      subst hy
      have h5 : ∀ z, (r + a * z) % (2 * a) = if z % 2 = 0 then r else r + a := by
        intro z
        have hz := Nat.mod_add_div z 2
        have h6 : r + a * z = r + a * (z % 2) + (2 * a) * (z / 2) := by
          conv => lhs; rw [← hz]
          generalize z % 2 = z1; generalize z / 2 = z2; grind
        rw [h6, Nat.add_mul_mod_self_left]
        rcases Nat.mod_two_eq_zero_or_one z with h7 | h7
        · rw [h7, if_pos rfl]; simp; exact Nat.mod_eq_of_lt (by lia)
        · rw [h7, if_neg (by lia)]; simp; exact Nat.mod_eq_of_lt (by lia)
      have h7 : r + a * p + a = r + a * (p + 1) := by grind
      rw [← hE] at hc ⊢
      rw [h7, h5, h5]
      rw [h5, h5] at hc
      by_cases hp2 : p % 2 = 0 <;> by_cases hq2 : q % 2 = 0 <;> simp only [hp2, hq2, if_true, if_false] at hc <;>
        (have : (p + 1) % 2 = 0 ∨ (p + 1) % 2 = 1 := Nat.mod_two_eq_zero_or_one _) <;> grind

end L2T

namespace L2T
open PySem SetTable

def advM (mask : Nat) (p : Probe) : Probe :=
  if p.more > 0 then { p with j := p.j + 1, more := p.more - 1 } else
  let (i, perturb) := leap mask p.i p.perturb
  { p with j := i, more := runEnd mask i - i, i, perturb }
theorem advance_eq (t : SetTable) (p : Probe) : t.advance p = advM t.mask p := rfl

def stM (mask i perturb : Nat) : Probe := { j := i, more := runEnd mask i - i, i, perturb, dummy := none }
def prM (mask : Nat) (h : Int) : Nat → Probe
  | 0 => stM mask (bits h % (mask + 1)) (bits h)
  | n + 1 => advM mask (prM mask h n)
def posM (mask : Nat) (h : Int) (n : Nat) : Nat := (prM mask h n).j

def lpM (mask : Nat) (h : Int) : Nat → Nat × Nat
  | 0 => (bits h % (mask + 1), bits h)
  | m + 1 => leap mask (lpM mask h m).1 (lpM mask h m).2
def lpS (mask : Nat) (h : Int) (m : Nat) : Probe := stM mask (lpM mask h m).1 (lpM mask h m).2

theorem adv_run (mask : Nat) : ∀ (r : Nat) (p : Probe) (F : Nat → Probe), (∀ n, F (n + 1) = advM mask (F n)) → F 0 = p → r ≤ p.more → F r = { p with j := p.j + r, more := p.more - r } := by
  intro r
  induction r with
  | zero => intro p F hF h0 hr; rw [h0]; rfl
  | succ r ih =>
    intro p F hF h0 hr
    rw [hF, ih p F hF h0 (by lia)]
    unfold advM
    rw [if_pos (by show p.more - r > 0; lia)]
    show ({ p with j := p.j + r + 1, more := p.more - r - 1 } : Probe) = _
    congr 1

theorem runEnd_le (mask i : Nat) : runEnd mask i - i ≤ 9 := by unfold runEnd; split <;> lia

theorem pr_next (mask : Nat) (h : Int) (n m : Nat) (hs : prM mask h n = lpS mask h m) :
    prM mask h (n + (runEnd mask (lpM mask h m).1 - (lpM mask h m).1) + 1) = lpS mask h (m + 1) ∧
    ∀ r, r ≤ runEnd mask (lpM mask h m).1 - (lpM mask h m).1 → posM mask h (n + r) = (lpM mask h m).1 + r := by
  have hrun := fun r hr => adv_run mask r (lpS mask h m) (fun k => prM mask h (n + k)) (fun k => rfl) hs hr
  refine ⟨?_, fun r hr => ?_⟩
  · show advM mask (prM mask h (n + (runEnd mask (lpM mask h m).1 - (lpM mask h m).1))) = _
    rw [hrun (runEnd mask (lpM mask h m).1 - (lpM mask h m).1) (Nat.le_refl _)]
    unfold advM
    rw [if_neg (by show ¬ (lpS mask h m).more - (runEnd mask (lpM mask h m).1 - (lpM mask h m).1) > 0; show ¬ (runEnd mask (lpM mask h m).1 - (lpM mask h m).1) - (runEnd mask (lpM mask h m).1 - (lpM mask h m).1) > 0; lia)]
    rfl
  · unfold posM
    rw [hrun r hr]; rfl

theorem pr_leap (mask : Nat) (h : Int) : ∀ m, ∃ n, n ≤ 10 * m ∧ prM mask h n = lpS mask h m := by
  intro m
  induction m with
  | zero => exact ⟨0, by lia, rfl⟩
  | succ m ih =>
    obtain ⟨n, hn, he⟩ := ih
    have := runEnd_le mask (lpM mask h m).1
    exact ⟨_, by lia, (pr_next mask h n m he).1⟩

theorem bits_lt (h : Int) : bits h < 2 ^ 64 := by
  unfold bits
  have : h % (2 ^ 64 : Int) < 2 ^ 64 := Int.emod_lt_of_pos _ (by decide)
  lia

theorem lp_per (mask : Nat) (h : Int) : ∀ m, (lpM mask h m).2 = bits h / 32 ^ m := by
  intro m
  induction m with
  | zero => simp [lpM]
  | succ m ih => show (lpM mask h m).2 / 32 = _; rw [ih, Nat.div_div_eq_div_mul, Nat.pow_succ]

theorem lp_per0 (mask : Nat) (h : Int) (m : Nat) (hm : 13 ≤ m) : (lpM mask h m).2 = 0 := by
  rw [lp_per]
  have h1 := bits_lt h
  have h2 : 32 ^ 13 ≤ 32 ^ m := Nat.pow_le_pow_right (by decide) hm
  exact Nat.div_eq_of_lt (by have : (32 : Nat) ^ 13 = 2 ^ 65 := by decide
                             lia)

theorem lp_lt (mask : Nat) (h : Int) (m : Nat) : (lpM mask h m).1 < mask + 1 := by
  cases m with
  | zero => exact Nat.mod_lt _ (by lia)
  | succ m => exact Nat.mod_lt _ (by lia)

theorem lp_lcg (mask : Nat) (h : Int) : ∀ s, (lpM mask h (13 + s)).1 = lcg s (lpM mask h 13).1 % (mask + 1) := by
  intro s
  induction s with
  | zero => exact (Nat.mod_eq_of_lt (lp_lt mask h 13)).symm
  | succ s ih =>
    show ((lpM mask h (13 + s)).1 * 5 + 1 + (lpM mask h (13 + s)).2 / 32) % (mask + 1) = _
    rw [lp_per0 mask h (13 + s) (by lia), ih, lcg_add]
    show _ = (5 * lcg s (lpM mask h 13).1 + 1) % (mask + 1)
    generalize lcg s (lpM mask h 13).1 = y
    simp [Nat.add_mod, Nat.mul_mod, Nat.mul_comm]

theorem lp_all (mask k : Nat) (hk : mask + 1 = 2 ^ k) (h : Int) (e : Nat) (he : e ≤ mask) : ∃ m, m ≤ 13 + mask ∧ (lpM mask h m).1 = e := by
  obtain ⟨s, hs, hl⟩ := lcg_all k (lpM mask h 13).1 e
  refine ⟨13 + s, by lia, ?_⟩
  rw [lp_lcg, hk, hl, ← hk]
  exact Nat.mod_eq_of_lt (by lia)

theorem pos_all (mask k : Nat) (hk : mask + 1 = 2 ^ k) (h : Int) (e : Nat) (he : e ≤ mask) : ∃ n, n < 10 * turns mask ∧ posM mask h n = e := by
  obtain ⟨m, hm, hl⟩ := lp_all mask k hk h e he
  obtain ⟨n, hn, hp⟩ := pr_leap mask h m
  refine ⟨n, by unfold turns; lia, ?_⟩
  unfold posM; rw [hp]; exact hl

def SameP (p q : Probe) : Prop := p.j = q.j ∧ p.more = q.more ∧ p.i = q.i ∧ p.perturb = q.perturb

theorem same_adv (mask : Nat) {p q : Probe} (h : SameP p q) : SameP (advM mask p) (advM mask q) := by
  obtain ⟨h1, h2, h3, h4⟩ := h
  unfold advM
  rw [h2, h3, h4, h1]
  split
  · exact ⟨rfl, rfl, rfl, rfl⟩
  · exact ⟨rfl, rfl, rfl, rfl⟩

theorem adv_dummy (mask : Nat) (p : Probe) : (advM mask p).dummy = p.dummy := by
  unfold advM; split <;> rfl

theorem probe_go (t : SetTable) (hashAt : Nat → Int) (h : Int) : ∀ (fuel : Nat) (p : Probe) (n : Nat), SameP p (prM t.mask h n) →
    (∃ N, n ≤ N ∧ N < n + fuel ∧ t.slot (posM t.mask h N) = .empty) →
    ∃ m, n ≤ m ∧ (∀ q, n ≤ q → q < m → t.slot (posM t.mask h q) ≠ .empty ∧ ∀ i, t.slot (posM t.mask h q) = .live i → hashAt i ≠ h) ∧
      ∃ d, (d = p.dummy ∨ ∃ q, n ≤ q ∧ q < m ∧ d = some (posM t.mask h q) ∧ t.slot (posM t.mask h q) = .dummy) ∧
      ((t.slot (posM t.mask h m) = .empty ∧ probe.go t hashAt h fuel p = some (.empty (posM t.mask h m) d)) ∨
       (∃ i nx, t.slot (posM t.mask h m) = .live i ∧ hashAt i = h ∧ probe.go t hashAt h fuel p = some (.candidate (posM t.mask h m) i nx) ∧ SameP nx (prM t.mask h (m + 1)) ∧ nx.dummy = d)) := by
  intro fuel
  induction fuel with
  | zero => rintro p n hs ⟨N, h1, h2, _⟩; omega
  | succ fuel ih =>
    rintro p n hs ⟨N, h1, h2, h3⟩
    have hj : p.j = posM t.mask h n := hs.1
    unfold probe.go
    rw [hj]
    cases hsl : t.slot (posM t.mask h n) with
    | empty =>
      exact ⟨n, Nat.le_refl _, fun q a b => by lia, p.dummy, .inl rfl, .inl ⟨hsl, rfl⟩⟩
    | dummy =>
      have hN : N ≠ n := fun e => by subst e; rw [hsl] at h3; cases h3
      have hs' : SameP (t.advance { p with dummy := some (posM t.mask h n) }) (prM t.mask h (n + 1)) := by
        rw [advance_eq]; exact same_adv _ (p := { p with dummy := some (posM t.mask h n) }) ⟨hs.1, hs.2.1, hs.2.2.1, hs.2.2.2⟩
      obtain ⟨m, hm, hq, d, hd, hr⟩ := ih _ (n + 1) hs' ⟨N, by lia, by lia, h3⟩
      refine ⟨m, by lia, ?_, d, ?_, ?_⟩
      · intro q a b
        rcases Nat.eq_or_lt_of_le a with e | e
        · subst e; exact ⟨(by rw [hsl]; exact fun x => (by cases x)), fun i hi => by rw [hsl] at hi; cases hi⟩
        · exact hq q e b
      · rcases hd with hd | ⟨q, a, b, c, e⟩
        · refine .inr ⟨n, Nat.le_refl _, by lia, ?_, hsl⟩
          rw [hd, advance_eq, adv_dummy]
        · exact .inr ⟨q, by lia, b, c, e⟩
      · rw [hj] at hr; exact hr
    | live i =>
      dsimp only
      by_cases hh : hashAt i = h
      · refine ⟨n, Nat.le_refl _, fun q a b => by lia, p.dummy, .inl rfl, .inr ⟨i, t.advance p, hsl, hh, ?_, ?_, ?_⟩⟩
        · rw [if_pos (by rw [hh]; exact beq_self_eq_true h)]
        · rw [advance_eq]; exact same_adv _ hs
        · rw [advance_eq, adv_dummy]
      · have hN : N ≠ n := fun e => by subst e; rw [hsl] at h3; cases h3
        obtain ⟨m, hm, hq, d, hd, hr⟩ := ih (t.advance p) (n + 1) (by rw [advance_eq]; exact same_adv _ hs) ⟨N, by lia, by lia, h3⟩
        refine ⟨m, by lia, ?_, d, ?_, ?_⟩
        · intro q a b
          rcases Nat.eq_or_lt_of_le a with e | e
          · subst e; exact ⟨(by rw [hsl]; exact fun x => (by cases x)), fun i' hi => by rw [hsl] at hi; cases hi; exact hh⟩
          · exact hq q e b
        · rcases hd with hd | ⟨q, a, b, c, e⟩
          · exact .inl (by rw [hd, advance_eq, adv_dummy])
          · exact .inr ⟨q, by lia, b, c, e⟩
        · rw [if_neg (by rw [beq_iff_eq]; exact hh)]; exact hr

def Reach (t : SetTable) (h : Int) (j : Nat) : Prop := ∃ n, posM t.mask h n = j ∧ ∀ m, m < n → t.slot (posM t.mask h m) ≠ .empty

theorem pos_le (mask k : Nat) (hk : mask + 1 = 2 ^ k) (h : Int) : ∀ n, posM mask h n ≤ mask := by
  have key : ∀ n, (prM mask h n).j + (prM mask h n).more ≤ mask := by
    intro n
    have hst : ∀ i p, i < mask + 1 → (stM mask i p).j + (stM mask i p).more ≤ mask := by
      intro i p hi; show i + (runEnd mask i - i) ≤ mask; unfold runEnd; split <;> lia
    induction n with
    | zero => exact hst _ _ (Nat.mod_lt _ (by lia))
    | succ n ih =>
      show (advM mask (prM mask h n)).j + (advM mask (prM mask h n)).more ≤ mask
      unfold advM
      split
      · show (prM mask h n).j + 1 + ((prM mask h n).more - 1) ≤ mask; lia
      · exact hst _ (leap mask (prM mask h n).i (prM mask h n).perturb).2 (Nat.mod_lt _ (by lia))
  intro n
  have := key n
  unfold posM; lia

end L2T

namespace L2T
open PySem SetTable

structure SOk {α : Type} (t : SetTable) (es : List (Int × α)) : Prop where
  ok : TOk t
  room : t.fill * 5 < t.mask * 3
  size : t.place.size = es.length
  reach : ∀ c ∈ t.place.toList.zip es, Reach t c.2.1 c.1

theorem free_spec (mask : Nat) (owner : Array (Option Nat)) (h : Int) : ∀ (fuel m n : Nat), prM mask h n = lpS mask h m →
    (∀ q, q < n → owner.getD (posM mask h q) (some 0) ≠ none) → (∃ M, m ≤ M ∧ M < m + fuel ∧ owner.getD (lpM mask h M).1 (some 0) = none) →
    ∃ j n', layClean.free mask owner fuel (lpM mask h m).1 (lpM mask h m).2 = some j ∧ posM mask h n' = j ∧ owner.getD j (some 0) = none ∧ ∀ q, q < n' → owner.getD (posM mask h q) (some 0) ≠ none := by
  intro fuel
  induction fuel with
  | zero => rintro m n hs hq ⟨M, a, b, c⟩; omega
  | succ fuel ih =>
    rintro m n hs hq ⟨M, a, b, c⟩
    obtain ⟨hnx, hrun⟩ := pr_next mask h n m hs
    unfold layClean.free
    cases hf : (List.range (runEnd mask (lpM mask h m).1 + 1 - (lpM mask h m).1)).find? (fun k => (owner.getD ((lpM mask h m).1 + k) (some 0)).isNone) with
    | some k =>
      obtain ⟨h1, h2, h3⟩ := List.find?_range_eq_some.mp hf
      rw [List.mem_range] at h2
      dsimp only
      refine ⟨_, n + k, rfl, hrun k (by lia), by simpa using h1, ?_⟩
      intro q hqq
      rcases Nat.lt_or_ge q n with hl | hl
      · exact hq q hl
      · have := h3 (q - n) (by lia)
        have e := hrun (q - n) (by omega)
        rw [show n + (q - n) = q by lia] at e
        rw [e]
        intro hc; rw [hc] at this; simp at this
    | none =>
      rw [List.find?_eq_none] at hf
      have hocc : ∀ k, k ≤ runEnd mask (lpM mask h m).1 - (lpM mask h m).1 → owner.getD ((lpM mask h m).1 + k) (some 0) ≠ none := by
        intro k hk hc
        have hle : (lpM mask h m).1 ≤ runEnd mask (lpM mask h m).1 := by unfold runEnd; split <;> lia
        exact hf k (List.mem_range.mpr (by lia)) (by rw [hc]; rfl)
      have hM : M ≠ m := fun e => by subst e; exact hocc 0 (Nat.zero_le _) c
      dsimp only
      refine ih (m + 1) _ hnx ?_ ⟨M, by lia, by lia, c⟩
      intro q hqq
      rcases Nat.lt_or_ge q n with hl | hl
      · exact hq q hl
      · have e := hrun (q - n) (by lia)
        rw [show n + (q - n) = q by lia] at e
        rw [e]
        exact hocc _ (by lia)

theorem fm_congr {α β : Type} {f g : α → Option β} : ∀ l : List α, (∀ x ∈ l, f x = g x) → l.filterMap f = l.filterMap g := by
  intro l
  induction l with
  | nil => intro _; rfl
  | cons x l ih => intro h; simp only [List.filterMap_cons, h x (.head _), ih (fun y hy => h y (.tail _ hy))]

theorem fm_range {α : Type} : ∀ l : List α, (List.range l.length).filterMap (fun i => l[i]?) = l := by
  intro l
  induction l with
  | nil => rfl
  | cons x l ih =>
    rw [List.length_cons, List.range_succ_eq_map, List.filterMap_cons_some (b := x) (by rfl), List.filterMap_map]
    congr 1

def lives (mask : Nat) (owner : Array (Option Nat)) : List (Nat × Nat) := (List.range (mask + 1)).filterMap fun j => (owner.getD j none).map (j, ·)

theorem fm_one {α β : Type} [DecidableEq α] (f f' : α → Option β) (x : α) (v : β) (h0 : f x = none) (h1 : f' x = some v) (h2 : ∀ y, y ≠ x → f' y = f y) :
    ∀ l : List α, l.Nodup → x ∈ l → (l.filterMap f').Perm (v :: l.filterMap f) := by
  intro l
  induction l with
  | nil => intro _ h; cases h
  | cons y l ih =>
    intro hn hx
    rw [List.nodup_cons] at hn
    by_cases he : y = x
    · subst he
      rw [List.filterMap_cons_some h1, List.filterMap_cons_none h0]
      have : l.filterMap f' = l.filterMap f := by
        refine fm_congr _ fun z hz => h2 z (fun e => hn.1 (e ▸ hz))
      rw [this]
    · have hx' : x ∈ l := by rcases List.mem_cons.mp hx with e | e; exact absurd e.symm he; exact e
      have hi := ih hn.2 hx'
      cases hf : f y with
      | none => rw [List.filterMap_cons_none (by rw [h2 y he]; exact hf), List.filterMap_cons_none hf]; exact hi
      | some b =>
        rw [List.filterMap_cons_some (by rw [h2 y he]; exact hf), List.filterMap_cons_some hf]
        exact (hi.cons b).trans (List.Perm.swap _ _ _)

theorem fm_len {α β : Type} (f : α → Option β) : ∀ l : List α, (∀ x ∈ l, f x ≠ none) → (l.filterMap f).length = l.length := by
  intro l
  induction l with
  | nil => intro _; rfl
  | cons x l ih =>
    intro h
    cases hf : f x with
    | none => exact absurd hf (h x (.head _))
    | some b => rw [List.filterMap_cons_some hf, List.length_cons, List.length_cons, ih (fun y hy => h y (.tail _ hy))]

structure LInv (mask : Nat) (hs : List Int) (owner : Array (Option Nat)) : Prop where
  size : owner.size = mask + 1
  perm : ((lives mask owner).map (·.2)).Perm (List.range hs.length)
  reach : ∀ j i, owner.getD j none = some i → ∃ h, hs[i]? = some h ∧ ∃ n, posM mask h n = j ∧ ∀ q, q < n → owner.getD (posM mask h q) (some 0) ≠ none

theorem getD_set (owner : Array (Option Nat)) (j k x : Nat) (d : Option Nat) (hj : j < owner.size) : (owner.setIfInBounds j (some k)).getD x d = if x = j then some k else owner.getD x d := by
  simp only [Array.getD_eq_getD_getElem?, Array.getElem?_setIfInBounds]
  by_cases h : x = j
  · subst h; simp [hj]
  · rw [if_neg (fun e => h e.symm), if_neg h]

theorem getD_two (owner : Array (Option Nat)) (j : Nat) (hj : j < owner.size) : owner.getD j (some 0) = owner.getD j none := by
  simp [Array.getD, hj]

theorem lay_step (mask k : Nat) (hk : mask + 1 = 2 ^ k) (hs : List Int) (owner : Array (Option Nat)) (h : Int) (inv : LInv mask hs owner) (hroom : hs.length < mask + 1) :
    ∃ j, layClean.free mask owner (turns mask) (bits h % (mask + 1)) (bits h) = some j ∧ LInv mask (hs ++ [h]) (owner.setIfInBounds j (some hs.length)) := by
  have hex : ∃ e, e ≤ mask ∧ owner.getD e none = none := by
    refine Classical.byContradiction fun hc => ?_
    have hl := fm_len (fun j => (owner.getD j none).map (fun i => (j, i))) (List.range (mask + 1)) (fun x hx hn => hc ⟨x, by have := List.mem_range.mp hx; lia, by simpa using hn⟩)
    have hp := inv.perm.length_eq
    rw [List.length_map] at hp
    unfold lives at hp
    rw [hl] at hp
    simp at hp; lia
  obtain ⟨e, he, hn⟩ := hex
  obtain ⟨M, hM, hMe⟩ := lp_all mask k hk h e he
  obtain ⟨j, n', hf, hp, hj, hq⟩ := free_spec mask owner h (turns mask) 0 0 rfl (fun q hq => by lia)
    ⟨M, by lia, by unfold turns; lia, by rw [hMe, getD_two _ _ (by rw [inv.size]; lia)]; exact hn⟩
  have hjm : j ≤ mask := by rw [← hp]; exact pos_le mask k hk h n'
  have hjs : j < owner.size := by rw [inv.size]; lia
  refine ⟨j, hf, ?_, ?_, ?_⟩
  · simp [inv.size]
  · have hone : (lives mask (owner.setIfInBounds j (some hs.length))).Perm ((j, hs.length) :: lives mask owner) := by
      unfold lives
      refine fm_one _ _ j (j, hs.length) ?_ ?_ ?_ _ List.nodup_range (List.mem_range.mpr (by lia))
      · rw [← getD_two _ _ hjs, hj]; rfl
      · rw [getD_set _ _ _ _ _ hjs, if_pos rfl]; rfl
      · intro y hy; rw [getD_set _ _ _ _ _ hjs, if_neg hy]
    refine (hone.map _).trans ?_
    rw [List.map_cons, List.length_append, List.length_singleton, List.range_succ]
    exact ((List.Perm.cons _ inv.perm)).trans (List.perm_append_comm (l₁ := [hs.length]))
  · intro x i hx
    rw [getD_set _ _ _ _ _ hjs] at hx
    have hne : ∀ y, owner.getD y (some 0) ≠ none → (owner.setIfInBounds j (some hs.length)).getD y (some 0) ≠ none := by
      intro y hy; rw [getD_set _ _ _ _ _ hjs]; split
      · exact fun c => by cases c
      · exact hy
    by_cases hxj : x = j
    · rw [if_pos hxj] at hx
      cases hx
      refine ⟨h, by simp, n', by rw [hp, hxj], fun q hqq => hne _ (hq q hqq)⟩
    · rw [if_neg hxj] at hx
      obtain ⟨h', e1, n, e2, e3⟩ := inv.reach x i hx
      refine ⟨h', ?_, n, e2, fun q hqq => hne _ (e3 q hqq)⟩
      rw [List.getElem?_append_left (List.getElem?_eq_some_iff.mp e1).1]; exact e1

theorem lay_fold (mask k : Nat) (hk : mask + 1 = 2 ^ k) : ∀ (hs done : List Int) (owner : Array (Option Nat)), LInv mask done owner → (done ++ hs).length ≤ mask →
    ∃ owner', hs.foldl (fun acc h => do
        let (owner, k) ← acc
        let j ← layClean.free mask owner (turns mask) (bits h % (mask + 1)) (bits h)
        pure (owner.setIfInBounds j (some k), k + 1)) (some (owner, done.length)) = some (owner', (done ++ hs).length) ∧ LInv mask (done ++ hs) owner' := by
  intro hs
  induction hs with
  | nil => intro done owner inv _; exact ⟨owner, by simp, by simpa using inv⟩
  | cons h hs ih =>
    intro done owner inv hl
    obtain ⟨j, hf, inv'⟩ := lay_step mask k hk done owner h inv (by simp at hl; lia)
    obtain ⟨ow, h1, h2⟩ := ih (done ++ [h]) _ inv' (by simpa using hl)
    refine ⟨ow, ?_, by simpa using h2⟩
    rw [List.foldl_cons]
    simp only [Option.bind_eq_bind, Option.bind_some, hf, Option.pure_def]
    rw [show (done ++ h :: hs).length = (done ++ [h] ++ hs).length by simp, ← h1]
    simp

theorem lay_clean (mask k : Nat) (hk : mask + 1 = 2 ^ k) (hs : Array Int) (hl : hs.size ≤ mask) : ∃ owner, layClean mask hs = some owner ∧ LInv mask hs.toList owner := by
  obtain ⟨ow, h1, h2⟩ := lay_fold mask k hk hs.toList [] (Array.replicate (mask + 1) none) ⟨by simp, by
      have : lives mask (Array.replicate (mask + 1) none) = [] := by
        unfold lives
        rw [List.filterMap_eq_nil_iff]
        intro x hx
        simp [Array.getD_eq_getD_getElem?, Array.getElem?_replicate]
        split <;> simp
      rw [this]; simp, fun j i h => by
      simp [Array.getD_eq_getD_getElem?, Array.getElem?_replicate] at h
      split at h <;> simp at h⟩ (by simpa using hl)
  refine ⟨ow, ?_, by simpa using h2⟩
  unfold layClean
  rw [← Array.foldl_toList]
  rw [show (([] : List Int).length) = 0 from rfl] at h1
  rw [h1]; rfl

theorem lives_fst (g : Nat → Option Nat) : ∀ l : List Nat, ((l.filterMap fun j => (g j).map (j, ·)).map (·.1)).Sublist l := by
  intro l
  induction l with
  | nil => exact List.Sublist.slnil
  | cons x l ih =>
    cases hg : g x with
    | none => rw [List.filterMap_cons_none (by rw [hg]; rfl)]; exact ih.cons x
    | some v => rw [List.filterMap_cons_some (b := (x, v)) (by rw [hg]; rfl)]; exact ih.cons_cons x

theorem zip_fm {α : Type} (g : Nat → Option α) : ∀ L : List (Nat × Nat), (∀ p ∈ L, g p.2 ≠ none) → ∀ c ∈ (L.map (·.1)).zip ((L.map (·.2)).filterMap g), ∃ p ∈ L, c.1 = p.1 ∧ g p.2 = some c.2 := by
  intro L
  induction L with
  | nil => intro _ c hc; simp at hc
  | cons p L ih =>
    intro h c hc
    cases hg : g p.2 with
    | none => exact absurd hg (h p (.head _))
    | some v =>
      rw [List.map_cons, List.map_cons, List.filterMap_cons_some hg, List.zip_cons_cons] at hc
      rcases List.mem_cons.mp hc with e | e
      · exact ⟨p, .head _, by rw [e], by rw [e]; exact hg⟩
      · obtain ⟨p', h1, h2⟩ := ih (fun q hq => h q (.tail _ hq)) c e
        exact ⟨p', .tail _ h1, h2⟩

theorem laid_ok {α : Type} (mask k : Nat) (hk : mask + 1 = 2 ^ (k + 3)) (hb : mask ≤ 8191) (finger moves : Nat) (led plain : Bool) (es : Array (Int × α)) (hroom : es.size * 5 < mask * 3) :
    ∃ t order, laid mask finger moves led plain (es.map (·.1)) = some (t, order) ∧ t.mask = mask ∧ t.dummies = #[] ∧ t.led = led ∧ t.plain = plain ∧ t.finger = finger ∧ t.moves = moves ∧
      order.toList.Perm (List.range es.size) ∧ (order.filterMap (es[·]?)).toList.Perm es.toList ∧ (order.filterMap (es[·]?)).size = es.size ∧ SOk t (order.filterMap (es[·]?)).toList := by
  obtain ⟨ow, h1, inv⟩ := lay_clean mask _ hk (es.map (·.1)) (by simp; lia)
  have hlen : (es.map (·.1)).toList.length = es.size := by simp
  have hperm := inv.perm
  rw [hlen] at hperm
  unfold laid
  rw [h1]
  have hL : (List.range (mask + 1)).filterMap (fun j => (ow.getD j none).map (j, ·)) = lives mask ow := rfl
  simp only [Option.bind_eq_bind, Option.bind_some, Option.pure_def, hL]
  refine ⟨_, _, rfl, rfl, rfl, rfl, rfl, rfl, rfl, hperm, ?_⟩
  have hlist : ((((lives mask ow).map (·.2)).toArray).filterMap (es[·]?)).toList = ((lives mask ow).map (·.2)).filterMap (es[·]?) := by simp
  have hp2 : ((((lives mask ow).map (·.2)).toArray).filterMap (es[·]?)).toList.Perm es.toList := by
    rw [hlist]
    refine (hperm.filterMap _).trans ?_
    have : (List.range es.size).filterMap (fun i => es[i]?) = es.toList := by
      have h := fm_range es.toList
      rw [Array.length_toList] at h
      rw [← h]
      refine fm_congr _ fun x _ => (Array.getElem?_toList ..).symm ▸ ?_
      simp
    rw [this]
  refine ⟨hp2, ?_, ?_⟩
  · rw [← Array.length_toList, hp2.length_eq, Array.length_toList]
  · have hsub := lives_fst (fun j => ow.getD j none) (List.range (mask + 1))
    have htok : TOk { mask := mask, place := ((lives mask ow).map (·.1)).toArray, dummies := #[], finger := finger, led := led, moves := moves, plain := plain } := by
      refine ⟨?_, by simp, ?_, by simp, by simp, ⟨k, hk⟩, hb⟩
      · show (((lives mask ow).map (·.1)).toArray).toList.Pairwise (· < ·)
        exact List.Pairwise.sublist hsub List.pairwise_lt_range
      · intro j hj
        have := hsub.subset hj
        rw [List.mem_range] at this
        show j ≤ mask; lia
    have hmem : ∀ j, ow.getD j none ≠ none → j ∈ (lives mask ow).map (·.1) := by
      intro j hj
      have hjs : j < ow.size := by
        refine Nat.lt_of_not_le fun c => hj ?_
        simp [Array.getD, Nat.not_lt.mpr c]
      cases hg : ow.getD j none with
      | none => exact absurd hg hj
      | some i => exact List.mem_map.mpr ⟨(j, i), List.mem_filterMap.mpr ⟨j, List.mem_range.mpr (by rw [← inv.size]; exact hjs), by rw [hg]; rfl⟩, rfl⟩
    have hlt : ∀ p ∈ lives mask ow, ow.getD p.1 none = some p.2 := by
      intro p hp
      obtain ⟨j, _, hj⟩ := List.mem_filterMap.mp hp
      cases hg : ow.getD j none with
      | none => rw [hg] at hj; cases hj
      | some i => rw [hg] at hj; cases hj; exact hg
    have hin : ∀ p ∈ lives mask ow, p.2 < es.size := by
      intro p hp
      have : p.2 ∈ (lives mask ow).map (·.2) := List.mem_map.mpr ⟨p, hp, rfl⟩
      exact List.mem_range.mp (hperm.mem_iff.mp this)
    refine ⟨htok, ?_, ?_, ?_⟩
    · show (((lives mask ow).map (·.1)).toArray.size + 0) * 5 < mask * 3
      have := hperm.length_eq
      simp at this ⊢
      rw [this]; exact hroom
    · rw [hp2.length_eq]
      have := hperm.length_eq
      simp at this ⊢
      exact this
    · intro c hc
      rw [hlist] at hc
      obtain ⟨p, hp, e1, e2⟩ := zip_fm (fun i => es[i]?) (lives mask ow) (fun p hp => by
        rw [Array.getElem?_eq_getElem (hin p hp)]; exact fun c => by cases c) c hc
      obtain ⟨h', a1, n, a2, a3⟩ := inv.reach p.1 p.2 (hlt p hp)
      have hh : h' = c.2.1 := by
        rw [Array.toList_map, List.getElem?_map, Array.getElem?_toList, e2] at a1
        simpa using a1.symm
      subst hh
      refine ⟨n, by rw [e1]; exact a2, fun m hm hc => ?_⟩
      have := (slot_empty htok _).mp hc
      refine this.1 (hmem _ ?_)
      have h3 := a3 m hm
      rwa [getD_two _ _ (by rw [inv.size]; exact Nat.lt_succ_of_le (pos_le mask _ hk _ _))] at h3
end L2T

namespace L2T
open PySem SetTable

theorem slot_alike (t t' : SetTable) (h1 : t'.place = t.place) (h2 : t'.dummies = t.dummies) (j : Nat) : t'.slot j = t.slot j := by
  unfold slot; rw [h1, h2]

theorem reach_mono {t t' : SetTable} (hm : t'.mask = t.mask) (h : ∀ j, t.slot j ≠ .empty → t'.slot j ≠ .empty) {x : Int} {j : Nat} (hr : Reach t x j) : Reach t' x j := by
  obtain ⟨n, h1, h2⟩ := hr
  exact ⟨n, by rw [hm]; exact h1, fun m hm' => by rw [hm]; exact h _ (h2 m hm')⟩

theorem sok_alike {α : Type} {t t' : SetTable} {es : List (Int × α)} (h : SOk t es) (hm : t'.mask = t.mask) (h1 : t'.place = t.place) (h2 : t'.dummies = t.dummies) : SOk t' es := by
  obtain ⟨⟨a1, a2, a3, a4, a5, a6, a7⟩, b, c, d⟩ := h
  refine ⟨⟨by rw [h1]; exact a1, by rw [h2]; exact a2, by rw [h1, hm]; exact a3, by rw [h2, hm]; exact a4, by rw [h1, h2]; exact a5, by rw [hm]; exact a6, by rw [hm]; exact a7⟩, ?_, by rw [h1]; exact c, ?_⟩
  · unfold fill at *; rw [h1, h2, hm]; exact b
  · rw [h1]; intro x hx
    exact reach_mono hm (fun j hj => by rw [slot_alike t t' h1 h2]; exact hj) (d x hx)

theorem sok_fresh {α : Type} (finger moves : Nat) (led : Bool) : SOk (α := α) (fresh finger moves led) [] := by
  refine ⟨⟨by simp [SetTable.fresh], by simp [SetTable.fresh], by simp [SetTable.fresh], by simp [SetTable.fresh], by simp [SetTable.fresh], ⟨0, by simp [SetTable.fresh]⟩, by simp [SetTable.fresh]⟩, by simp [SetTable.fresh, SetTable.fill], by simp [SetTable.fresh], ?_⟩
  intro c hc; simp at hc

theorem sizeAbove_go (n : Nat) : ∀ (fuel size : Nat), (∃ k, size = 2 ^ (k + 3)) → n < size * 2 ^ fuel →
    (∃ k, sizeAbove.go n fuel size = 2 ^ (k + 3)) ∧ n < sizeAbove.go n fuel size ∧ (sizeAbove.go n fuel size ≤ size ∨ sizeAbove.go n fuel size ≤ 2 * n) := by
  intro fuel
  induction fuel with
  | zero => intro size hk hn; unfold sizeAbove.go; exact ⟨hk, by simpa using hn, .inl (Nat.le_refl _)⟩
  | succ fuel ih =>
    intro size hk hn
    unfold sizeAbove.go
    by_cases hc : size ≤ n
    · rw [if_pos hc]
      obtain ⟨k, hk⟩ := hk
      obtain ⟨h1, h2, h3⟩ := ih (size * 2) ⟨k + 1, by rw [hk, Nat.pow_succ, Nat.pow_succ, Nat.pow_succ, Nat.pow_succ, Nat.pow_succ, Nat.pow_succ, Nat.pow_succ]⟩ (by
        rw [Nat.pow_succ] at hn; rw [Nat.mul_assoc, Nat.mul_comm 2]; exact hn)
      refine ⟨h1, h2, .inr ?_⟩
      rcases h3 with h3 | h3 <;> omega
    · rw [if_neg hc]
      exact ⟨hk, by lia, .inl (Nat.le_refl _)⟩

theorem sizeAbove_ok (n : Nat) (hn : n ≤ 4095) : (∃ k, sizeAbove n - 1 + 1 = 2 ^ (k + 3)) ∧ n ≤ sizeAbove n - 1 ∧ 7 ≤ sizeAbove n - 1 ∧ sizeAbove n - 1 ≤ 8191 ∧ sizeAbove n ≤ 8192 := by
  obtain ⟨⟨k, h1⟩, h2, h3⟩ := sizeAbove_go n 64 8 ⟨0, by decide⟩ (Nat.lt_of_le_of_lt hn (by decide))
  have h1' : sizeAbove n = 2 ^ (k + 3) := h1
  have h2' : n < sizeAbove n := h2
  have h3' : sizeAbove n ≤ 8 ∨ sizeAbove n ≤ 2 * n := h3
  have hk : 8 ≤ 2 ^ (k + 3) := by rw [Nat.pow_add]; have := Nat.two_pow_pos k; lia
  refine ⟨⟨k, by omega⟩, by omega, by omega, by omega, by omega⟩

theorem relaid_ok {α : Type} (t : SetTable) (es : Array (Int × α)) (wanted : Nat) (h1 : 2 * es.size ≤ wanted) (h2 : wanted ≤ 4095) :
    ∃ t' order, t.relaid (es.map (·.1)) wanted = some (t', order) ∧ t'.dummies = #[] ∧ t'.mask = sizeAbove wanted - 1 ∧ t'.led = t.led ∧ t'.plain = t.plain ∧
      order.toList.Perm (List.range es.size) ∧ (order.filterMap (es[·]?)).toList.Perm es.toList ∧ (order.filterMap (es[·]?)).size = es.size ∧ SOk t' (order.filterMap (es[·]?)).toList := by
  obtain ⟨⟨k, hk⟩, a, b, c, _⟩ := sizeAbove_ok wanted h2
  obtain ⟨t', order, e1, e2, e3, e4, e5, e6, e7, e8, e9, e10, e11⟩ := laid_ok (sizeAbove wanted - 1) k hk c t.finger (t.movedTo (sizeAbove wanted - 1)) t.led t.plain es (by lia)
  exact ⟨t', order, e1, e3, e2, e4, e5, e8, e9, e10, e11⟩

theorem take_zip' {α β : Type} : ∀ (p : Nat) (l : List α) (m : List β), (l.zip m).take p = (l.take p).zip (m.take p) := by
  intro p
  induction p with
  | zero => intro l m; simp
  | succ p ih => intro l m; cases l with
    | nil => simp
    | cons a l => cases m with
      | nil => simp
      | cons b m => simp [ih]
theorem drop_zip' {α β : Type} : ∀ (p : Nat) (l : List α) (m : List β), (l.zip m).drop p = (l.drop p).zip (m.drop p) := by
  intro p
  induction p with
  | zero => intro l m; simp
  | succ p ih => intro l m; cases l with
    | nil => simp
    | cons a l => cases m with
      | nil => simp
      | cons b m => simp [ih]

theorem zip_insert {α β : Type} (p : Nat) (a : α) (b : β) : ∀ (l : List α) (m : List β), l.length = m.length →
    (l.take p ++ a :: l.drop p).zip (m.take p ++ b :: m.drop p) = (l.zip m).take p ++ (a, b) :: (l.zip m).drop p := by
  intro l m h
  rw [List.zip_append (by simp [h]), List.zip_cons_cons, ← take_zip', ← drop_zip']

theorem take_drop_perm {α : Type} (p : Nat) (a : α) (l : List α) : (l.take p ++ a :: l.drop p).Perm (a :: l) := by
  have h : (l.take p ++ a :: l.drop p).Perm (a :: (l.take p ++ l.drop p)) := List.perm_middle
  rw [List.take_append_drop] at h; exact h

theorem mem_erase_at (xs : Array Nat) (i : Nat) (j : Nat) (hp : xs.toList.Pairwise (· < ·)) (h : xs[i]? = some j) (x : Nat) : x ∈ (eraseAt xs i).toList ↔ x ∈ xs.toList ∧ x ≠ j := by
  rw [eraseAt_list]
  rw [← Array.getElem?_toList] at h
  obtain ⟨hi, hx⟩ := List.getElem?_eq_some_iff.mp h
  have hsp : xs.toList = xs.toList.take i ++ j :: xs.toList.drop (i + 1) := by
    rw [← hx, List.getElem_cons_drop, List.take_append_drop]
  have hp' := hp
  rw [hsp, List.pairwise_append, List.pairwise_cons] at hp'
  obtain ⟨p1, ⟨p2, p3⟩, p4⟩ := hp'
  rw [List.mem_append]
  constructor
  · rintro (h1 | h1)
    · have := p4 x h1 j (.head _); exact ⟨List.mem_of_mem_take h1, by lia⟩
    · have := p2 x h1; exact ⟨List.mem_of_mem_drop h1, by lia⟩
  · rintro ⟨h1, h2⟩
    rw [hsp, List.mem_append] at h1
    rcases h1 with h1 | h1
    · exact .inl h1
    · rcases List.mem_cons.mp h1 with e | e
      · exact absurd e h2
      · exact .inr e

theorem put_ok {α : Type} (t : SetTable) (es : Array (Int × α)) (h : Int) (x : α) (s : Nat) (ok : SOk t es.toList) (hs : t.slot s = .empty ∨ t.slot s = .dummy) (hm : s ≤ t.mask) (hr : Reach t h s) :
    TOk (t.put s).1 ∧ (t.put s).1.mask = t.mask ∧ (t.put s).1.place.size = (insertAt es (t.put s).2 (h, x)).size ∧
    (∀ c ∈ (t.put s).1.place.toList.zip (insertAt es (t.put s).2 (h, x)).toList, Reach (t.put s).1 c.2.1 c.1) ∧
    (t.put s).1.fill ≤ t.fill + 1 ∧ (t.slot s = .dummy → (t.put s).1.fill = t.fill) ∧ (insertAt es (t.put s).2 (h, x)).toList.Perm ((h, x) :: es.toList) ∧
    (t.put s).1.led = t.led ∧ (t.put s).1.plain = t.plain := by
  obtain ⟨⟨a1, a2, a3, a4, a5, a6, a7⟩, b, c, d⟩ := ok
  have tok : TOk t := ⟨a1, a2, a3, a4, a5, a6, a7⟩
  have hnp : s ∉ t.place.toList := by
    rcases hs with hs | hs
    · exact ((slot_empty tok s).mp hs).1
    · exact a5 s ((slot_dummy tok s).mp hs)
  have hb := (below_spec t.place s a1).1
  have hbe : below t.place s ≤ es.size := by have : t.place.size = es.size := by simpa using c
                                             lia
  have hd' : ∀ y, y ∈ (if has t.dummies s = true then eraseAt t.dummies (below t.dummies s) else t.dummies).toList ↔ y ∈ t.dummies.toList ∧ y ≠ s := by
    intro y
    by_cases hh : has t.dummies s = true
    · rw [if_pos hh]
      exact mem_erase_at t.dummies _ s a2 ((below_mem _ _ a2).mpr ((has_iff _ _ a2).mp hh)) y
    · rw [if_neg hh]
      exact ⟨fun hy => ⟨hy, fun e => hh ((has_iff _ _ a2).mpr (e ▸ hy))⟩, fun hy => hy.1⟩
  have hpl : (t.put s).1.place.toList = t.place.toList.take (below t.place s) ++ s :: t.place.toList.drop (below t.place s) := insertAt_list _ _ _ hb
  have hmp : ∀ y, y ∈ (t.put s).1.place.toList ↔ y = s ∨ y ∈ t.place.toList := by
    intro y; rw [hpl, (take_drop_perm _ _ _).mem_iff, List.mem_cons]
  have hmd : ∀ y, y ∈ (t.put s).1.dummies.toList ↔ y ∈ t.dummies.toList ∧ y ≠ s := hd'
  have htok : TOk (t.put s).1 := by
    refine ⟨insertAt_below _ _ a1 hnp, ?_, ?_, ?_, ?_, a6, a7⟩
    · show (if has t.dummies s = true then eraseAt t.dummies (below t.dummies s) else t.dummies).toList.Pairwise (· < ·)
      split
      · rw [eraseAt_list]
        refine List.Pairwise.sublist ?_ a2
        have : (t.dummies.toList.take (below t.dummies s) ++ t.dummies.toList.drop (below t.dummies s + 1)).Sublist (t.dummies.toList.take (below t.dummies s) ++ t.dummies.toList.drop (below t.dummies s)) :=
          List.Sublist.append (List.Sublist.refl _) (by rw [← List.drop_drop]; exact List.drop_sublist _ _)
        rw [List.take_append_drop] at this; exact this
      · exact a2
    · intro j hj; rcases (hmp j).mp hj with e | e
      · rw [e]; exact hm
      · exact a3 j e
    · intro j hj; exact a4 j ((hmd j).mp hj).1
    · intro j hj hc
      rcases (hmp j).mp hc with e | e
      · exact ((hmd j).mp hj).2 e
      · exact a5 j ((hmd j).mp hj).1 e
  have hmono : ∀ j, t.slot j ≠ .empty → (t.put s).1.slot j ≠ .empty := by
    intro j hj hc
    obtain ⟨c1, c2⟩ := (slot_empty htok j).mp hc
    refine hj ((slot_empty tok j).mpr ⟨fun e => c1 ((hmp j).mpr (.inr e)), fun e => ?_⟩)
    by_cases he : j = s
    · exact c1 ((hmp j).mpr (.inl he))
    · exact c2 ((hmd j).mpr ⟨e, he⟩)
  refine ⟨htok, rfl, ?_, ?_, ?_, ?_, ?_, rfl, rfl⟩
  · show (insertAt t.place (below t.place s) s).size = (insertAt es (below t.place s) (h, x)).size
    rw [← Array.length_toList, ← Array.length_toList, insertAt_list _ _ _ hb, insertAt_list _ _ _ hbe, (take_drop_perm _ _ _).length_eq, (take_drop_perm _ _ _).length_eq]
    simpa using c
  · intro e he
    rw [hpl] at he
    have he' : e ∈ (t.place.toList.take (below t.place s) ++ s :: t.place.toList.drop (below t.place s)).zip (insertAt es (below t.place s) (h, x)).toList := he
    rw [insertAt_list _ _ _ hbe, zip_insert _ _ _ _ _ (by simpa using c), (take_drop_perm _ _ _).mem_iff, List.mem_cons] at he'
    rcases he' with e1 | e1
    · rw [e1]; exact reach_mono (t := t) (t' := (t.put s).1) rfl hmono hr
    · exact reach_mono (t := t) (t' := (t.put s).1) rfl hmono (d e e1)
  · show (insertAt t.place (below t.place s) s).size + (if has t.dummies s = true then eraseAt t.dummies (below t.dummies s) else t.dummies).size ≤ t.fill + 1
    have h1 : (insertAt t.place (below t.place s) s).size = t.place.size + 1 := by
      rw [← Array.length_toList, insertAt_list _ _ _ hb, (take_drop_perm _ _ _).length_eq]; simp
    have h2 : (if has t.dummies s = true then eraseAt t.dummies (below t.dummies s) else t.dummies).size ≤ t.dummies.size := by
      split
      · rw [← Array.length_toList, eraseAt_list]; simp; omega
      · exact Nat.le_refl _
    unfold fill; lia
  · intro hdm
    show (insertAt t.place (below t.place s) s).size + (if has t.dummies s = true then eraseAt t.dummies (below t.dummies s) else t.dummies).size = t.fill
    have h1 : (insertAt t.place (below t.place s) s).size = t.place.size + 1 := by
      rw [← Array.length_toList, insertAt_list _ _ _ hb, (take_drop_perm _ _ _).length_eq]; simp
    have hin := (slot_dummy tok s).mp hdm
    rw [if_pos ((has_iff _ _ a2).mpr hin)]
    have hlt := (Array.getElem?_eq_some_iff.mp ((below_mem _ _ a2).mpr hin)).1
    have h2 : (eraseAt t.dummies (below t.dummies s)).size + 1 = t.dummies.size := by
      rw [← Array.length_toList, eraseAt_list]; simp; lia
    unfold fill; lia
  · show (insertAt es (below t.place s) (h, x)).toList.Perm ((h, x) :: es.toList)
    rw [insertAt_list _ _ _ hbe]; exact take_drop_perm _ _ _

end L2T

namespace L2
open PySem PySem.Spec PyProof.Rows L2T

inductive SK where
  | one (k : Key)
  | many (ks : List Key)
  deriving DecidableEq
def SK.flat : SK → Bool
  | .one _ => true
  | .many _ => false
section
variable (prog : Program) (w : World)
def SK.is (h : Heap) : SK → Value → Prop
  | .one k, v => (mixKind prog w).is k v = true
  | .many ks, v => ∃ a, v = .ref a ∧ IsTupleKey (mixKind prog w) h ks a
def SK.hash : SK → Int
  | .one k => (mixKind prog w).hash k
  | .many ks => tupleKeyHash (mixKind prog w) ks
inductive Es (h : Heap) : List SK → List (Int × Value) → Prop
  | nil : Es h [] []
  | cons {k : SK} {e : Int × Value} {ks : List SK} {es : List (Int × Value)} : e.1 = k.hash prog w → k.is prog w h e.2 → Es h ks es → Es h (k :: ks) (e :: es)
def KeepT (h h' : Heap) : Prop := ∀ b o, o.cls = .type "tuple" → h.get? b = some o → h'.get? b = some o
def led0 : Bool := !w.params.followText "set-order"
structure SetO (h : Heap) (o : Obj) (ks : List SK) (es : Array (Int × Value)) (ep : Nat) (t : SetTable) : Prop where
  ex : o.ExactSet
  data : o.data = .set es ep t
  tab : SOk t es.toList
  ent : Es prog w h ks es.toList
  nod : ks.Nodup
  small : ks.length ≤ 1000
  led : t.led = led0 w
  kind : ∃ f, ∀ k ∈ ks, k.flat = f
def SetE (h : Heap) (a : Addr) (ks : List SK) (es : Array (Int × Value)) : Prop := ∃ o ep t, h.get? a = some o ∧ SetO prog w h o ks es ep t
end
section
variable {prog : Program} {w : World} {h h' : Heap}
theorem SK.is_mono {k : SK} {v : Value} (K : KeepT h h') (x : k.is prog w h v) : k.is prog w h' v := by
  cases k with
  | one k => exact x
  | many ks =>
    obtain ⟨a, rfl, o, its, n, e, c, d, i⟩ := x
    exact ⟨a, rfl, o, its, n, K a o c e, c, d, i⟩
theorem Es.mono {ks : List SK} {es : List (Int × Value)} (K : KeepT h h') (x : Es prog w h ks es) : Es prog w h' ks es := by
  induction x with
  | nil => exact .nil
  | cons a b _ ih => exact .cons a (SK.is_mono K b) ih
theorem Es.length {ks : List SK} {es : List (Int × Value)} (x : Es prog w h ks es) : ks.length = es.length := by
  induction x with
  | nil => rfl
  | cons a b _ ih => simp [ih]
theorem Es.get {ks : List SK} {es : List (Int × Value)} (x : Es prog w h ks es) : ∀ (i : Nat) (e : Int × Value), es[i]? = some e → ∃ k, ks[i]? = some k ∧ e.1 = k.hash prog w ∧ k.is prog w h e.2 := by
  induction x with
  | nil => intro i e he; simp at he
  | cons a b _ ih =>
    intro i e he
    cases i with
    | zero => simp at he; subst he; exact ⟨_, rfl, a, b⟩
    | succ i => exact ih i e he
theorem Es.perm {ks : List SK} {es es' : List (Int × Value)} (x : Es prog w h ks es) (p : es'.Perm es) : ∃ ks', ks'.Perm ks ∧ Es prog w h ks' es' := by
  have p' := p.symm
  clear p
  induction p' generalizing ks with
  | nil => exact ⟨ks, .refl _, x⟩
  | cons e _ ih =>
    cases x with
    | cons a b y =>
      obtain ⟨k2, q, z⟩ := ih y
      exact ⟨_ :: k2, q.cons _, .cons a b z⟩
  | swap e f l =>
    cases x with
    | cons a b y => cases y with
      | cons c d z => exact ⟨_ :: _ :: _, List.Perm.swap _ _ _, .cons c d (.cons a b z)⟩
  | trans _ _ ih1 ih2 =>
    obtain ⟨k1, q1, z1⟩ := ih1 x
    obtain ⟨k2, q2, z2⟩ := ih2 z1
    exact ⟨k2, q2.trans q1, z2⟩
theorem SetO.fits {o : Obj} {ks : List SK} {es : Array (Int × Value)} {ep : Nat} {t : SetTable} (S : SetO prog w h o ks es ep t) : t.fits es.size = true := by
  have h1 := S.tab.size
  have h2 := S.tab.room
  simp only [SetTable.fits, Bool.and_eq_true, beq_iff_eq, decide_eq_true_eq]
  exact ⟨by simpa using h1, by lia⟩
theorem SetO.mono {o : Obj} {ks : List SK} {es : Array (Int × Value)} {ep : Nat} {t : SetTable} (K : KeepT h h') (S : SetO prog w h o ks es ep t) : SetO prog w h' o ks es ep t :=
  ⟨S.ex, S.data, S.tab, S.ent.mono K, S.nod, S.small, S.led, S.kind⟩
theorem keepT_sameBut {a : Addr} {o : Obj} {es : Array (Int × Value)} {ep : Nat} {t : SetTable} (ho : h.get? a = some o) (hd : o.ExactSet) (hs : Heap.SameBut a h h') : KeepT h h' := by
  intro b u c e
  have hne : b ≠ a := by
    rintro rfl
    rw [ho] at e; cases e
    rw [hd.1] at c; exact absurd c (by decide)
  exact (hs.2 b hne).trans e
end
end L2

namespace L2
open PySem PySem.Spec PyProof.Rows L2T
theorem same_ref (b : Addr) : isSame (.ref b) (.ref b) = pure true := by
  show (if (b == b) = true then (pure true : Sem Bool) else _) = _
  rw [if_pos (beq_self_eq_true b)]
section
variable {prog : Program} {w : World} {A : Around} {E : Value → Shared → Prop} {s : Shared}
theorem state_w {M : Model} {a : Addr} {o : Obj} {ks : List SK} {es : Array (Int × Value)} {ep : Nat} {t : SetTable} {Q : Array (Int × Value) × Nat × SetTable → Shared → Prop}
    (ho : s.heap.get? a = some o) (S : SetO prog w s.heap o ks es ep t) (q : Q (es, ep, t) s) : wpAny (model prog w) A (setState a) Q E s :=
  wpAny_setState_of ho S.data S.fits q
theorem quietT {ks : List Key} {v : Value} {a : Addr} {Q : Bool → Shared → Prop} (hk : IsTupleKey (mixKind prog w) s.heap ks a) (h : Q false s) : wpAny (model prog w) A (ofAClassStatement 8 (.ref a)) Q E s := by
  have hT := hk.typeIs
  obtain ⟨o, its, n, ho, _, hd, hi⟩ := hk
  unfold ofAClassStatement
  refine wpAny_bind (wpAny_typeOf hT ?_)
  show wpAny _ _ ((if ("tuple" == "tuple") = true then pure true else isSubtype (.type "tuple") (.type "tuple")) >>= _) Q E s
  refine wpAny_bind (wpAny_pure ?_)
  show wpAny _ _ (seqItems? (.ref a) >>= _) Q E s
  refine wpAny_bind (wpAny_seqItems ho hd ?_)
  show wpAny _ _ (forIn its _ _ >>= _) Q E s
  refine wpAny_bind ?_
  rw [← Array.forIn_toList]
  refine wpAny_forIn_list _ (fun rest r s' => r.1 = none ∧ s' = s ∧ ∀ v ∈ rest, carriedByValue v = true) _ ?_ ?_ _ _ ⟨rfl, rfl, hi.byValue⟩
  · rintro v rest r s' ⟨hr, rfl, hall⟩
    have hv := hall v List.mem_cons_self
    have e : ofAClassStatement 7 v = pure false := by
      cases v <;> first | rfl | (simp [carriedByValue] at hv)
    show wpAny _ _ (ofAClassStatement 7 v >>= _) _ _ _
    rw [e]
    refine wpAny_bind (wpAny_pure ?_)
    simp only [Bool.false_eq_true, if_false]
    exact wpAny_pure ⟨rfl, rfl, fun u hu' => hall u (List.mem_cons_of_mem _ hu')⟩
  · rintro ⟨r1, r2⟩ s' ⟨hr, rfl, _⟩
    simp only at hr
    subst hr
    exact wpAny_pure h
theorem unseen_w {kk : List Key} {a : Addr} {Q : Bool → Shared → Prop} (hk : IsTupleKey (mixKind prog w) s.heap kk a) (h : Q false s) :
    ∀ ys : List Value, (∀ y ∈ ys, ∃ b ks, y = .ref b ∧ IsTupleKey (mixKind prog w) s.heap ks b) → wpAny (model prog w) A (searchCouldBeSeen (.ref a) ys) Q E s := by
  intro ys hys
  unfold searchCouldBeSeen
  refine wpAny_bind ?_
  refine wpAny_forIn_list _ (fun rest r s' => r.1 = none ∧ s' = s ∧ ∀ y ∈ rest, ∃ b ks, y = .ref b ∧ IsTupleKey (mixKind prog w) s.heap ks b) _ ?_ ?_ _ _ ⟨rfl, rfl, hys⟩
  · rintro y rest r s' ⟨hr, rfl, hall⟩
    obtain ⟨b, ks, rfl, hb⟩ := hall y List.mem_cons_self
    have hrest : ∀ y ∈ rest, ∃ b ks, y = .ref b ∧ IsTupleKey (mixKind prog w) s'.heap ks b := fun y hy => hall y (List.mem_cons_of_mem _ hy)
    dsimp only
    by_cases hab : (a == b) = true
    · rw [if_pos (by rw [hab]; rfl)]
      exact wpAny_pure ⟨rfl, rfl, hrest⟩
    · rw [if_neg (by rw [Bool.not_eq_true] at hab; rw [hab]; simp [carriedByValue])]
      refine wpAny_bind (wpAny_eqIsQuiet_tuple hk ?_)
      simp only [Bool.not_true, Bool.false_eq_true, if_false]
      refine wpAny_bind (wpAny_eqIsQuiet_tuple hb ?_)
      simp only [Bool.not_true, Bool.false_eq_true, if_false]
      refine wpAny_bind (quietT (v := .none) hk ?_)
      simp only [Bool.false_eq_true, if_false]
      refine wpAny_bind (quietT (v := .none) hb ?_)
      simp only [Bool.false_eq_true, if_false]
      exact wpAny_pure ⟨rfl, rfl, hrest⟩
  · rintro ⟨r1, r2⟩ s' ⟨hr, rfl, _⟩
    simp only at hr
    subst hr
    exact wpAny_pure h

theorem search_w {a : Addr} {o : Obj} {ks : List SK} {es : Array (Int × Value)} {ep : Nat} {t : SetTable} {x : Value} {kk : List Key} {adding : Bool} {Q : SetFound → Shared → Prop} (hu : A.units < cLine)
    (ho : s.heap.get? a = some o) (S : SetO prog w s.heap o ks es ep t) (hk : ∀ k ∈ ks, k.flat = false) (hx : (SK.many kk).is prog w s.heap x)
    (found : ∀ i, ks[i]? = some (.many kk) → Q (.there (if adding then none else some i)) s)
    (free : SK.many kk ∉ ks → ∀ sl wd, sl ≤ t.mask → Reach t (SK.hash prog w (.many kk)) sl → (wd = true → t.slot sl = .dummy) → (wd = false → t.slot sl = .empty) → Q (.free sl wd) s) :
    ∀ (fuel n : Nat) (stand : Option SetTable.Probe), (stand = none → n = 0) →
      (∀ p, stand = some p → SameP p (prM t.mask (SK.hash prog w (.many kk)) n) ∧ (p.dummy = none ∨ ∃ q, q < n ∧ p.dummy = some (posM t.mask (SK.hash prog w (.many kk)) q) ∧ t.slot (posM t.mask (SK.hash prog w (.many kk)) q) = .dummy)) →
      (∀ q, q < n → t.slot (posM t.mask (SK.hash prog w (.many kk)) q) ≠ .empty ∧ ∀ i, t.slot (posM t.mask (SK.hash prog w (.many kk)) q) = .live i → ks[i]? ≠ some (.many kk)) →
      (∃ N, n ≤ N ∧ N < n + fuel ∧ N < 10 * SetTable.turns t.mask ∧ t.slot (posM t.mask (SK.hash prog w (.many kk)) N) = .empty) →
      wpAny (model prog w) A (setSearchFrom a x (SK.hash prog w (.many kk)) adding fuel stand) Q E s := by
  generalize hH : SK.hash prog w (.many kk) = hh at *
  have tok := S.tab.ok
  obtain ⟨kp, hpow⟩ := tok.pow
  obtain ⟨ax, rfl, hax⟩ := hx
  have hgw : t.gaveWay = false := by
    unfold SetTable.gaveWay
    rw [Nat.pow_succ] at hpow
    rw [beq_eq_false_iff_ne]; lia
  have hent : ∀ (i : Nat) (h : Int) (y : Value), es[i]? = some (h, y) → ∃ (b : Addr) (k2 : List Key), y = Value.ref b ∧ IsTupleKey (mixKind prog w) s.heap k2 b ∧ ks[i]? = some (SK.many k2) ∧ h = SK.hash prog w (SK.many k2) := by
    intro i h y he
    obtain ⟨k, h1, h2, h3⟩ := S.ent.get i (h, y) (by rw [Array.getElem?_toList]; exact he)
    have hf := hk k (List.mem_of_getElem? h1)
    cases k with
    | one k => simp [SK.flat] at hf
    | many k2 => obtain ⟨b, rfl, hb⟩ := h3; exact ⟨b, k2, rfl, hb, h1, h2⟩
  intro fuel
  induction fuel with
  | zero => rintro n stand _ _ _ ⟨N, h1, h2, _⟩; lia
  | succ fuel ih =>
    rintro n stand hst hsp hq ⟨N, n1, n2, n3, n4⟩
    unfold setSearchFrom
    refine wpAny_bind (state_w (M := model prog w) ho S ?_)
    dsimp only
    rw [hgw]
    simp only [Bool.false_eq_true, if_false]
    have hstart : SameP (stand.getD (t.probeStart hh)) (prM t.mask hh n) ∧ ((stand.getD (t.probeStart hh)).dummy = none ∨ ∃ q, q < n ∧ (stand.getD (t.probeStart hh)).dummy = some (posM t.mask hh q) ∧ t.slot (posM t.mask hh q) = .dummy) := by
      cases stand with
      | none => rw [hst rfl]; exact ⟨⟨rfl, rfl, rfl, rfl⟩, .inl rfl⟩
      | some p => exact hsp p rfl
    obtain ⟨m, m1, m2, d, hd, hr⟩ := probe_go t (fun i => (es[i]?.map (·.1)).getD 0) hh (10 * SetTable.turns t.mask) _ n hstart.1 ⟨N, n1, by lia, n4⟩
    have hd' : d = none ∨ ∃ q, q < m ∧ d = some (posM t.mask hh q) ∧ t.slot (posM t.mask hh q) = .dummy := by
      rcases hd with hd | ⟨q, q1, q2, q3, q4⟩
      · rcases hstart.2 with e | ⟨q, q1, q2, q3⟩
        · exact .inl (hd.trans e)
        · exact .inr ⟨q, by lia, hd.trans q2, q3⟩
      · exact .inr ⟨q, q2, q3, q4⟩
    have hne : ∀ q, q < m → t.slot (posM t.mask hh q) ≠ .empty := fun q hqm => by
      rcases Nat.lt_or_ge q n with hl | hl
      · exact (hq q hl).1
      · exact (m2 q hl hqm).1
    rcases hr with ⟨hemp, hr⟩ | ⟨i, nx, hlive, hhash, hr, hsn, hdn⟩
    · -- an empty slot: it is not there
      have habs : SK.many kk ∉ ks := by
        intro hin
        obtain ⟨i, hi⟩ := List.mem_iff_getElem?.mp hin
        have hil : i < ks.length := (List.getElem?_eq_some_iff.mp hi).1
        have hie : i < es.size := by have := S.ent.length; simp at this; lia
        have hip : i < t.place.size := by have := S.tab.size; simp at this; lia
        have hpl : t.place[i]? = some t.place[i] := Array.getElem?_eq_getElem hip
        have hes : es[i]? = some es[i] := Array.getElem?_eq_getElem hie
        obtain ⟨b, k2, hy, hb, hki, hhi⟩ := hent i es[i].1 es[i].2 hes
        have hkk : k2 = kk := by rw [hi] at hki; cases hki; rfl
        subst hkk
        have hreach := S.tab.reach (t.place[i], es[i]) (by
          rw [List.mem_iff_getElem?]
          refine ⟨i, ?_⟩
          rw [List.getElem?_zip_eq_some]
          exact ⟨by rw [Array.getElem?_toList]; exact hpl, by rw [Array.getElem?_toList]; exact hes⟩)
        obtain ⟨n', e1, e2⟩ := hreach
        dsimp only at e1 e2
        rw [hhi, hH] at e1 e2
        have hl : t.slot (posM t.mask hh n') = .live i := by rw [e1]; exact (slot_live tok _ i).mpr hpl
        rcases Nat.lt_trichotomy n' m with c | c | c
        · rcases Nat.lt_or_ge n' n with c2 | c2
          · exact (hq n' c2).2 i hl hi
          · refine (m2 n' c2 c).2 i hl ?_
            rw [hes]; show es[i].1 = hh; rw [hhi, hH]
        · subst c; rw [hl] at hemp; cases hemp
        · exact e2 m c hemp
      generalize hX : t.probe _ hh _ = pX
      have hX2 := hX.symm.trans hr
      subst hX2
      rcases hd' with rfl | ⟨q, q1, rfl, q2⟩
      · exact wpAny_pure (free habs _ false (pos_le _ _ hpow hh m) ⟨m, rfl, hne⟩ (fun e => by cases e) (fun _ => hemp))
      · dsimp only
        rw [q2]
        have : (adding && (SetTable.Slot.dummy != SetTable.Slot.dummy)) = false := by cases adding <;> decide
        rw [this]
        simp only [Bool.false_eq_true, if_false]
        exact wpAny_pure (free habs _ true (pos_le _ _ hpow hh q) ⟨q, rfl, fun m' hm' => hne m' (by lia)⟩ (fun _ => q2) (fun e => by cases e))
    · have hpl := (slot_live tok _ i).mp hlive
      have hip : i < t.place.size := (Array.getElem?_eq_some_iff.mp hpl).1
      have hie : i < es.size := by have := S.tab.size; simp at this; lia
      have hes : es[i]? = some es[i] := Array.getElem?_eq_getElem hie
      obtain ⟨b, k2, hy, hb, hki, hhi⟩ := hent i es[i].1 es[i].2 hes
      generalize hX : t.probe _ hh _ = pX
      have hX2 := hX.symm.trans hr
      subst hX2
      dsimp only
      have hall : ∀ y ∈ (es.filter (·.1 == hh)).toList.map (·.2), ∃ (b : Addr) (k3 : List Key), y = Value.ref b ∧ IsTupleKey (mixKind prog w) s.heap k3 b := by
        intro y hy
        obtain ⟨e, he, rfl⟩ := List.mem_map.mp hy
        have he' := (Array.mem_filter.mp (Array.mem_toList_iff.mp he)).1
        obtain ⟨j, hj⟩ := List.mem_iff_getElem?.mp (Array.mem_toList_iff.mpr he')
        rw [Array.getElem?_toList] at hj
        obtain ⟨b, k3, hy, hb, _⟩ := hent j e.1 e.2 hj
        exact ⟨b, k3, hy, hb⟩
      by_cases hl : t.led = true
      case' pos => simp only [hl, Bool.not_true, Bool.false_eq_true, if_false]
      case' neg =>
        rw [Bool.not_eq_true] at hl
        simp only [hl, Bool.not_false, if_true]
        refine wpAny_bind (unseen_w hax ?_ _ hall)
        simp only [Bool.false_eq_true, if_false]
      all_goals
          rw [hes]
          dsimp only
          rw [hy]
          refine wpAny_bind (wpAny_holding (wpAny_eqBool_tuple hu hb hax ?_))
          refine wpAny_bind (state_w (M := model prog w) ho S ?_)
          dsimp only
          by_cases hkk : k2 = kk
          · subst hkk
            have hQ := found i hki
            rw [decide_eq_true rfl]
            cases adding with
            | true => exact wpAny_pure hQ
            | false =>
              have hsm : t.sameMemory t.moves t.mask = some true := by unfold SetTable.sameMemory; simp
              simp only [Bool.false_and, Bool.false_eq_true, if_false, hsm, if_true, hlive, hes, hy]
              have hself := same_ref b
              rw [hself]
              exact wpAny_bind (wpAny_pure (wpAny_bind (wpAny_pure (wpAny_pure hQ))))
          · rw [decide_eq_false hkk]
            have hsm : t.sameMemory t.moves t.mask = some true := by unfold SetTable.sameMemory; simp
            simp only [Bool.and_false, Bool.false_eq_true, if_false, hsm, if_true, hlive, hes, hy]
            have hself := same_ref b
            rw [hself]
            refine wpAny_bind (wpAny_pure (wpAny_bind (wpAny_pure ?_)))
            have hmN : m < N := by
              refine Nat.lt_of_not_le fun c => ?_
              rcases Nat.eq_or_lt_of_le c with e | e
              · rw [← e, n4] at hlive; cases hlive
              · exact hne N e n4
            refine ih (m + 1) (some nx) (fun e => by cases e) (fun p hp => ?_) (fun q hqm => ?_) ⟨N, by lia, by lia, n3, n4⟩
            · cases hp
              refine ⟨hsn, ?_⟩
              rw [hdn]
              rcases hd' with e | ⟨q, q1, q2, q3⟩
              · exact .inl e
              · exact .inr ⟨q, by lia, q2, q3⟩
            · rcases Nat.lt_or_ge q m with c | c
              · refine ⟨hne q c, fun j hj hkj => ?_⟩
                rcases Nat.lt_or_ge q n with c2 | c2
                · exact (hq q c2).2 j hj hkj
                · have hpj := (slot_live tok _ j).mp hj
                  have hjp : j < t.place.size := (Array.getElem?_eq_some_iff.mp hpj).1
                  have hje : j < es.size := by have := S.tab.size; simp at this; lia
                  have hej : es[j]? = some es[j] := Array.getElem?_eq_getElem hje
                  obtain ⟨_, k3, _, _, hkj', hhj⟩ := hent j es[j].1 es[j].2 hej
                  rw [hkj] at hkj'; cases hkj'
                  refine (m2 q c2 c).2 j hj ?_
                  rw [hej]; show es[j].1 = hh; rw [hhj, hH]
              · have : q = m := by lia
                subst this
                refine ⟨by rw [hlive]; exact fun e => (by cases e), fun j hj hkj => ?_⟩
                rw [hlive] at hj; cases hj
                rw [hki] at hkj; cases hkj; exact hkk rfl
end
end L2

namespace L2
open PySem PySem.Spec PyProof.Rows L2T
section
variable {prog : Program} {w : World} {h : Heap}
theorem put_get {a : Addr} {o : Obj} {es : Array (Int × Value)} {ep : Nat} {t : SetTable} (ho : h.get? a = some o) (hd : o.data = .set es ep t) (e1 : Array (Int × Value)) (t1 : SetTable) :
    (h.update a (Obj.putSet e1 t1)).get? a = some { o with data := .set e1 (ep + 1) t1 } := by
  have z := Heap.get?_update_self (Obj.putSet e1 t1) ho (by rw [putSet_of e1 t1 hd]; rfl)
  rw [putSet_of e1 t1 hd] at z
  exact z
theorem Es.flats {ks : List SK} {es : List (Int × Value)} (x : Es prog w h ks es) (hf : ∀ k ∈ ks, k.flat = true) : ElemsOf (mixKind prog w) es := by
  intro e he
  obtain ⟨i, hi⟩ := List.mem_iff_getElem?.mp he
  obtain ⟨k, a, b, c⟩ := x.get i e hi
  have hk := hf k (List.mem_of_getElem? a)
  cases k with
  | many _ => simp [SK.flat] at hk
  | one k =>
    refine ⟨⟨k, c, b⟩, ?_⟩
    rcases keyIs_shape c with ⟨j, t, _, e2⟩ | ⟨y, t, _, e2⟩ <;> rw [e2] <;> rfl
theorem flat_scan {k : Key} {x : Value} (hx : SK.is prog w h (.one k) x) : x.scannable = true := by
  rcases keyIs_shape hx with ⟨j, t, _, e2⟩ | ⟨y, t, _, e2⟩ <;> rw [e2] <;> rfl
theorem Es.idx {ks : List SK} {es : List (Int × Value)} (x : Es prog w h ks es) (hf : ∀ k ∈ ks, k.flat = true) (k : Key) :
    (∀ j, es.findIdx? (fun e => (mixKind prog w).is k e.2) = some j → ks[j]? = some (.one k)) ∧ (es.findIdx? (fun e => (mixKind prog w).is k e.2) = none → SK.one k ∉ ks) := by
  constructor
  · intro j hj
    obtain ⟨h1, h2, _⟩ := List.findIdx?_eq_some_iff_getElem.mp hj
    obtain ⟨k', a, b, c⟩ := x.get j es[j] (List.getElem?_eq_getElem h1)
    have hk := hf k' (List.mem_of_getElem? a)
    cases k' with
    | many _ => simp [SK.flat] at hk
    | one k' => rw [a, (mixKind prog w).inj _ _ _ c h2]
  · intro hn hin
    obtain ⟨i, hi⟩ := List.mem_iff_getElem?.mp hin
    have hil : i < es.length := by rw [← x.length]; exact (List.getElem?_eq_some_iff.mp hi).1
    obtain ⟨k', a, b, c⟩ := x.get i es[i] (List.getElem?_eq_getElem hil)
    rw [hi] at a; cases a
    have := List.findIdx?_eq_none_iff.mp hn es[i] (List.getElem_mem hil)
    rw [show (mixKind prog w).is k es[i].2 = true from c] at this; cases this
theorem layNew_ok {es : Array (Int × Value)} {t : SetTable} (ok : SOk t es.toList) (hh : Int) (x : Value) :
    ∃ sl wd, layNew t es hh x = (SetTable.insertAt es (t.put sl).2 (hh, x), (t.put sl).1, wd, false) ∧ sl ≤ t.mask ∧ Reach t hh sl ∧ (wd = true → t.slot sl = .dummy) ∧ (wd = false → t.slot sl = .empty) := by
  obtain ⟨kp, hpow⟩ := ok.ok.pow
  obtain ⟨e, he, hemp⟩ := some_empty ok.ok (by have := ok.room; lia)
  obtain ⟨N, hN, hp⟩ := pos_all t.mask _ hpow hh e he
  obtain ⟨m, m1, m2, d, hd, hr⟩ := probe_go t (fun _ => hh + 1) hh (10 * SetTable.turns t.mask) (t.probeStart hh) 0 ⟨rfl, rfl, rfl, rfl⟩ ⟨N, Nat.zero_le _, by lia, by rw [hp]; exact hemp⟩
  rcases hr with ⟨h1, h2⟩ | ⟨i, nx, _, h2, _⟩
  · have hfs : t.freeSlot hh = some (d.getD (posM t.mask hh m), d.isSome) := by
      unfold SetTable.freeSlot SetTable.probe
      rw [h2]
    have key : ∃ sl wd, t.freeSlot hh = some (sl, wd) ∧ sl ≤ t.mask ∧ Reach t hh sl ∧ (wd = true → t.slot sl = .dummy) ∧ (wd = false → t.slot sl = .empty) := by
      rcases hd with hd | ⟨q, q1, q2, q3, q4⟩
      · have : d = none := hd
        subst this
        exact ⟨_, _, hfs, pos_le _ _ hpow hh m, ⟨m, rfl, fun q hq => (m2 q (Nat.zero_le _) hq).1⟩, (fun e => by cases e), fun _ => h1⟩
      · subst q3
        exact ⟨_, _, hfs, pos_le _ _ hpow hh q, ⟨q, rfl, fun q' hq => (m2 q' (Nat.zero_le _) (by lia)).1⟩, (fun _ => q4), (fun e => by cases e)⟩
    obtain ⟨sl, wd, f1, f2, f3, f4, f5⟩ := key
    refine ⟨sl, wd, ?_, f2, f3, f4, f5⟩
    have hs : t.slot sl = .empty ∨ t.slot sl = .dummy := by cases wd with
      | true => exact .inr (f4 rfl)
      | false => exact .inl (f5 rfl)
    obtain ⟨g1, g2, g3, g4, g5, _⟩ := put_ok t es hh x sl ok hs f2 f3
    have hfit : (t.put sl).1.fits (SetTable.insertAt es (t.put sl).2 (hh, x)).size = true := by
      simp only [SetTable.fits, Bool.and_eq_true, beq_iff_eq, decide_eq_true_eq]
      refine ⟨g3, ?_⟩
      have := ok.room
      rw [g2]; lia
    unfold layNew
    rw [f1]
    show (_, (t.put sl).1.orStandIn _, wd, !(t.put sl).1.fits _) = _
    unfold SetTable.orStandIn
    have hfit' : (t.put sl).1.fits (SetTable.insertAt es (SetTable.below t.place sl) (hh, x)).size = true := hfit
    rw [hfit']; rfl
  · lia
theorem relayAll_ok (t : SetTable) (es : Array (Int × Value)) (wanted : Nat) (h1 : 2 * es.size ≤ wanted) (h2 : wanted ≤ 4095) :
    ∃ t' es', relayAll t es wanted = (es', t', false) ∧ t'.led = t.led ∧ t'.plain = t.plain ∧ es'.toList.Perm es.toList ∧ SOk t' es'.toList := by
  obtain ⟨t', order, e1, e2, e3, e4, e5, e6, e7, e8, e9⟩ := relaid_ok t es wanted h1 h2
  refine ⟨t', _, ?_, e4, e5, e7, e9⟩
  unfold relayAll
  rw [e1]
  dsimp only
  have c1 : coversAll order es.size = true := List.isPerm_iff.mpr e6
  have c2 : t'.fits (order.filterMap (es[·]?)).size = true := by
    simp only [SetTable.fits, Bool.and_eq_true, beq_iff_eq, decide_eq_true_eq]
    exact ⟨by rw [e9.size, Array.length_toList], by have := e9.room; lia⟩
  rw [c1, c2]; rfl
end
section
variable {prog : Program} {w : World} {A : Around} {E : Value → Shared → Prop} {s : Shared}
theorem odd_mask {t : SetTable} {es : List (Int × Value)} (ok : SOk t es) (hh : Int) : ∃ N, 0 ≤ N ∧ N < 0 + 100000 ∧ N < 10 * SetTable.turns t.mask ∧ t.slot (posM t.mask hh N) = .empty := by
  obtain ⟨kp, hpow⟩ := ok.ok.pow
  obtain ⟨e, he, hemp⟩ := some_empty ok.ok (by have := ok.room; lia)
  obtain ⟨N, hN, hp⟩ := pos_all t.mask _ hpow hh e he
  have hb := ok.ok.big
  refine ⟨N, Nat.zero_le _, ?_, hN, by rw [hp]; exact hemp⟩
  unfold SetTable.turns at hN; lia
theorem byScan_one {es : Array (Int × Value)} {k : Key} {x : Value} {ks : List SK} (hx : SK.is prog w s.heap (.one k) x) (ent : Es prog w s.heap ks es.toList) (hf : ∀ k ∈ ks, k.flat = true) (hs : ks.length ≤ 1000) : byScan x es = true :=
  byScan_of (knd := mixKind prog w) (flat_scan hx) (by have := ent.length; simp at this; unfold scanBound; lia) (ent.flats hf)
theorem byScan_many {es : Array (Int × Value)} {a : Addr} : byScan (.ref a) es = false := rfl
theorem hbv_w {k : SK} {x : Value} {Q : Bool → Shared → Prop} (hx : k.is prog w s.heap x) (q : ∀ b, Q b s) : wpAny (model prog w) A (hashByValue 8 x) Q E s := by
  cases k with
  | one k => rw [hashByValue_scannable 8 (flat_scan hx)]; exact wpAny_pure (q _)
  | many kk =>
    obtain ⟨a, rfl, hk⟩ := hx
    have hT := hk.typeIs
    obtain ⟨o, its, n, ho, _, hd, hi⟩ := hk
    unfold hashByValue
    refine wpAny_bind (wpAny_specialOf hT F.slot_tuple_hash.lookup ?_)
    show wpAny _ _ (seqItems? (.ref a) >>= _) Q E s
    refine wpAny_bind (wpAny_seqItems ho hd ?_)
    show wpAny _ _ (forIn its _ _ >>= _) Q E s
    refine wpAny_bind ?_
    rw [← Array.forIn_toList]
    refine wpAny_forIn_list _ (fun rest r s' => r.1 = none ∧ s' = s ∧ ∀ v ∈ rest, carriedByValue v = true ∧ v.scannable = true) _ ?_ ?_ _ _ ⟨rfl, rfl, ?_⟩
    · rintro v rest r s' ⟨hr, rfl, hall⟩
      have hv := hall v List.mem_cons_self
      show wpAny _ _ (hashByValue 7 v >>= _) _ _ _
      rw [hashByValue_scannable 7 hv.2]
      refine wpAny_bind (wpAny_pure ?_)
      cases plainKind v with
      | true =>
        simp only [Bool.not_true, Bool.false_eq_true, if_false]
        exact wpAny_pure ⟨rfl, rfl, fun u hu' => hall u (List.mem_cons_of_mem _ hu')⟩
      | false =>
        simp only [Bool.not_false, if_true]
        exact wpAny_pure (wpAny_pure (q false))
    · rintro ⟨r1, r2⟩ s' ⟨hr, rfl, _⟩
      simp only at hr
      subst hr
      exact wpAny_pure (q true)
    · intro v hv
      refine ⟨hi.byValue v hv, ?_⟩
      clear hd
      generalize its.toList = vs at hi hv
      induction hi with
      | nil => cases hv
      | cons h1 _ ih =>
        rcases List.mem_cons.mp hv with rfl | hv
        · rcases keyIs_shape h1 with ⟨j, t, _, e2⟩ | ⟨y, t, _, e2⟩ <;> rw [e2] <;> rfl
        · exact ih hv
end
end L2

namespace L2
open PySem PySem.Spec PyProof.Rows L2T
section
variable {prog : Program} {w : World} {h : Heap}
def plainIf (b : Bool) (t : SetTable) : SetTable := if b then t else { t with plain := false }
theorem plainIf_mask (b : Bool) (t : SetTable) : (plainIf b t).mask = t.mask := by cases b <;> rfl
theorem plainIf_place (b : Bool) (t : SetTable) : (plainIf b t).place = t.place := by cases b <;> rfl
theorem plainIf_dummies (b : Bool) (t : SetTable) : (plainIf b t).dummies = t.dummies := by cases b <;> rfl
theorem plainIf_led (b : Bool) (t : SetTable) : (plainIf b t).led = t.led := by cases b <;> rfl
theorem plainIf_fill (b : Bool) (t : SetTable) : (plainIf b t).fill = t.fill := by cases b <;> rfl
theorem put_facts {o : Obj} {ks : List SK} {es : Array (Int × Value)} {ep : Nat} {t : SetTable} {x : Value} {k : SK} {sl : Nat} {wd : Bool} (S : SetO prog w h o ks es ep t) (hx : k.is prog w h x)
    (h1 : sl ≤ t.mask) (h2 : Reach t (k.hash prog w) sl) (h3 : wd = true → t.slot sl = .dummy) (h4 : wd = false → t.slot sl = .empty) (bv : Bool) :
    (SetTable.insertAt es (t.put sl).2 (k.hash prog w, x)).size = es.size + 1 ∧ (plainIf bv (t.put sl).1).fits (SetTable.insertAt es (t.put sl).2 (k.hash prog w, x)).size = true ∧ (plainIf bv (t.put sl).1).led = led0 w ∧
    (SetTable.insertAt es (t.put sl).2 (k.hash prog w, x)).toList.Perm ((k.hash prog w, x) :: es.toList) ∧ (∃ k1, k1.Perm (k :: ks) ∧ Es prog w h k1 (SetTable.insertAt es (t.put sl).2 (k.hash prog w, x)).toList) ∧
    ((wd = true ∨ (plainIf bv (t.put sl).1).tooFull = false) → SOk (plainIf bv (t.put sl).1) (SetTable.insertAt es (t.put sl).2 (k.hash prog w, x)).toList) := by
  have hs : t.slot sl = .empty ∨ t.slot sl = .dummy := by cases wd with
    | true => exact .inr (h3 rfl)
    | false => exact .inl (h4 rfl)
  obtain ⟨g1, g2, g3, g4, g5, g6, g7, g8, g9⟩ := put_ok t es (k.hash prog w) x sl S.tab hs h1 h2
  have hroom := S.tab.room
  have hsz : (SetTable.insertAt es (t.put sl).2 (k.hash prog w, x)).size = es.size + 1 := by
    have := g7.length_eq; simpa using this
  refine ⟨hsz, ?_, ?_, g7, ?_, ?_⟩
  · simp only [SetTable.fits, Bool.and_eq_true, beq_iff_eq, decide_eq_true_eq]
    rw [plainIf_place, plainIf_fill, plainIf_mask]
    exact ⟨g3, by rw [g2]; lia⟩
  · rw [plainIf_led, g8]; exact S.led
  · exact (Es.cons (e := (k.hash prog w, x)) rfl hx S.ent).perm g7
  · intro hc
    refine sok_alike (t := (t.put sl).1) ⟨g1, ?_, by rw [g3, Array.length_toList], g4⟩ (plainIf_mask ..) (plainIf_place ..) (plainIf_dummies ..)
    rcases hc with hc | hc
    · rw [g6 (h3 hc), g2]; exact hroom
    · unfold SetTable.tooFull at hc
      rw [plainIf_fill, plainIf_mask] at hc
      simpa using hc
theorem SetO.newk {o : Obj} {ks : List SK} {es : Array (Int × Value)} {ep : Nat} {t : SetTable} (S : SetO prog w h o ks es ep t) {k : SK} (hk : ∀ k' ∈ ks, k'.flat = k.flat) (hn : k ∉ ks) (hr : ks.length + 1 ≤ 1000)
    {h' : Heap} {k1 : List SK} {e1 : Array (Int × Value)} {ep1 : Nat} {t1 : SetTable} (p : k1.Perm (k :: ks)) (ok : SOk t1 e1.toList) (en : Es prog w h' k1 e1.toList) (hl : t1.led = led0 w) :
    SetO prog w h' { o with data := .set e1 ep1 t1 } k1 e1 ep1 t1 :=
  ⟨S.ex, rfl, ok, en, p.nodup_iff.mpr (List.nodup_cons.mpr ⟨hn, S.nod⟩), by rw [p.length_eq]; simpa using hr, hl, k.flat, fun k' hk' => by
    rcases List.mem_cons.mp (p.mem_iff.mp hk') with rfl | e
    · rfl
    · exact hk k' e⟩
end
section
variable {prog : Program} {w : World} {A : Around} {E : Value → Shared → Prop} {s : Shared}
theorem small_fits {n : Nat} (h : n ≤ 1001) : n ≤ sizeLine := by rw [sizeLine_eq]; lia
theorem sizeAbove_line {n : Nat} (h : n ≤ 4095) : ¬ SetTable.sizeAbove n > sizeLine := by
  obtain ⟨_, _, _, _, h5⟩ := sizeAbove_ok n h
  rw [sizeLine_eq]; lia
theorem grown_small {n : Nat} (h : n ≤ 1000) : 2 * n ≤ SetTable.grown n ∧ SetTable.grown n ≤ 4095 := by
  unfold SetTable.grown
  rw [if_neg (by lia)]; lia
theorem add_w {a : Addr} {o : Obj} {ks : List SK} {es : Array (Int × Value)} {ep : Nat} {t : SetTable} {x : Value} {k : SK} {Q : Bool → Shared → Prop} (hu : A.units < cLine)
    (ho : s.heap.get? a = some o) (S : SetO prog w s.heap o ks es ep t) (hk : ∀ k' ∈ ks, k'.flat = k.flat) (hx : k.is prog w s.heap x) (hr : ks.length + 1 ≤ 1000)
    (q : ∀ h' k1 e1, Heap.SameBut a s.heap h' → SetE prog w h' a k1 e1 → k1.Perm (if k ∈ ks then ks else k :: ks) → (∀ e ∈ e1.toList, e ∈ es.toList ∨ e = (k.hash prog w, x)) → Q (decide (k ∉ ks)) { s with heap := h' }) :
    wpAny (model prog w) A (setAddHashed a x (k.hash prog w)) Q E s := by
  have hlen : es.size = ks.length := by have := S.ent.length; simp at this; lia
  have old : k ∈ ks → Q false s := fun hin => by
    have := q s.heap ks es (Heap.SameBut.refl _ _) ⟨o, ep, t, ho, S⟩ (by rw [if_pos hin]) (fun e he => .inl he)
    rw [decide_eq_false (by simpa using hin)] at this
    exact this
  have new : k ∉ ks → ∀ h' e1 ep1 t1 k1, Heap.SameBut a s.heap h' → h'.get? a = some { o with data := .set e1 ep1 t1 } → k1.Perm (k :: ks) → SOk t1 e1.toList → Es prog w s.heap k1 e1.toList → t1.led = led0 w → e1.toList.Perm ((k.hash prog w, x) :: es.toList) → Q true { s with heap := h' } := fun hn h' e1 ep1 t1 k1 hs hg p ok en hl hp => by
    have hK : KeepT s.heap h' := keepT_sameBut (es := es) (ep := ep) (t := t) ho S.ex hs
    have := q h' k1 e1 hs ⟨_, ep1, t1, hg, S.newk hk hn hr p ok (en.mono hK) hl⟩ (by rw [if_neg hn]; exact p) (fun e he => by
      rcases List.mem_cons.mp (hp.mem_iff.mp he) with z | z
      · exact .inr z
      · exact .inl z)
    rw [decide_eq_true hn] at this
    exact this
  unfold setAddHashed setAddHashedIn
  refine wpAny_holding (wpAny_bind (state_w (M := model prog w) ho S ?_))
  dsimp only
  cases k with
  | one k =>
    rw [byScan_one hx S.ent hk S.small, if_pos rfl]
    unfold setAddByScan
    refine wpAny_bind (wpAny_bind (wpAny_rule ?_))
    refine wpAny_bind (wpAny_setScan_of (knd := mixKind prog w) hx ho S.data S.fits (S.ent.flats hk) ?_)
    obtain ⟨i1, i2⟩ := S.ent.idx hk k
    cases hi : es.toList.findIdx? (fun e => (mixKind prog w).is k e.2) with
    | some j => exact wpAny_pure (wpAny_pure (old (List.mem_of_getElem? (i1 j hi))))
    | none =>
      have hn := i2 hi
      obtain ⟨sl, wd, f1, f2, f3, f4, f5⟩ := layNew_ok S.tab (SK.hash prog w (.one k)) x
      dsimp only
      rw [f1]
      refine wpAny_bind (wpAny_pure (a := ()) ?_)
      dsimp only
      have fin : ∀ (gw : Bool → Sem Unit) (hgw : ∀ (s : Shared) (Q : Unit → Shared → Prop), Q () s → wpAny (model prog w) A (gw false) Q E s) (bv : Bool), wpAny (model prog w) A (do
          storeSet a (SetTable.insertAt es (t.put sl).2 (SK.hash prog w (.one k), x)) (plainIf bv (t.put sl).1)
          if (!wd && (plainIf bv (t.put sl).1).tooFull) = true then do
            gw (relayAll (plainIf bv (t.put sl).1) (SetTable.insertAt es (t.put sl).2 (SK.hash prog w (.one k), x)) (SetTable.grown (SetTable.insertAt es (t.put sl).2 (SK.hash prog w (.one k), x)).size)).2.2
            storeSet a (relayAll (plainIf bv (t.put sl).1) (SetTable.insertAt es (t.put sl).2 (SK.hash prog w (.one k), x)) (SetTable.grown (SetTable.insertAt es (t.put sl).2 (SK.hash prog w (.one k), x)).size)).1
              (relayAll (plainIf bv (t.put sl).1) (SetTable.insertAt es (t.put sl).2 (SK.hash prog w (.one k), x)) (SetTable.grown (SetTable.insertAt es (t.put sl).2 (SK.hash prog w (.one k), x)).size)).2.1
            pure (some true)
          else pure (some true)) (fun r s' => wpAny (model prog w) A (match r with | some added => pure added | none => setAddHashedIn a x (SK.hash prog w (.one k)) 99999) Q E s') E s := by
        intro gw hgw bv
        obtain ⟨p1, p2, p3, p7, ⟨k1, p4, p5⟩, p6⟩ := put_facts (bv := bv) S (k := .one k) hx f2 f3 f4 f5
        refine wpAny_bind (wpAny_storeSet_of ho S.data ?_ (small_fits (by lia)))
        have g1 := put_get ho S.data (SetTable.insertAt es (t.put sl).2 (SK.hash prog w (.one k), x)) (plainIf bv (t.put sl).1)
        have sb1 := Heap.SameBut.update s.heap a (Obj.putSet (SetTable.insertAt es (t.put sl).2 (SK.hash prog w (.one k), x)) (plainIf bv (t.put sl).1))
        by_cases hc : (!wd && (plainIf bv (t.put sl).1).tooFull) = true
        · rw [if_pos hc]
          obtain ⟨t2, e2, r1, r2, _, r4, r5⟩ := relayAll_ok (plainIf bv (t.put sl).1) (SetTable.insertAt es (t.put sl).2 (SK.hash prog w (.one k), x)) (SetTable.grown (SetTable.insertAt es (t.put sl).2 (SK.hash prog w (.one k), x)).size)
            (grown_small (by lia)).1 (grown_small (by lia)).2
          rw [r1]
          refine wpAny_bind (hgw _ _ ?_)
          have z2 : e2.size = es.size + 1 := by rw [← p1]; have := r4.length_eq; simpa using this
          refine wpAny_bind (wpAny_storeSet_of g1 rfl ?_ (small_fits (by show e2.size ≤ 1001; lia)))
          obtain ⟨k2, q1, q2⟩ := p5.perm r4
          refine wpAny_pure (wpAny_pure (new hn _ e2 _ t2 k2 (sb1.trans (Heap.SameBut.update _ a _)) (put_get g1 rfl e2 t2) (q1.trans p4) r5 q2 (by rw [r2]; exact p3) (r4.trans p7)))
        · rw [if_neg hc]
          refine wpAny_pure (wpAny_pure (new hn _ _ _ _ k1 sb1 g1 p4 (p6 ?_) p5 p3 p7))
          cases wd with
          | true => exact .inl rfl
          | false => exact .inr (by simpa using hc)
      split
      · refine wpAny_bind (hbv_w (k := .one k) hx fun b => ?_)
        exact fin _ (fun _ _ q => wpAny_pure q) b
      · exact wpAny_bind (wpAny_pure (fin _ (fun _ _ q => wpAny_pure q) true))
  | many kk =>
    obtain ⟨ax, rfl, hax⟩ := hx
    rw [byScan_many]
    simp only [Bool.false_eq_true, if_false]
    unfold setSearch
    refine wpAny_bind (search_w hu ho S hk ⟨ax, rfl, hax⟩ (fun i hi => ?_) (fun hn sl wd f2 f3 f4 f5 => ?_) 100000 0 none (fun _ => rfl) (fun p hp => by cases hp) (fun q hq => by lia) (odd_mask S.tab _))
    · exact wpAny_pure (old (List.mem_of_getElem? hi))
    · dsimp only
      refine wpAny_bind (state_w (M := model prog w) ho S ?_)
      dsimp only
      have fin : ∀ bv : Bool, wpAny (model prog w) A (do
          storeSet a (SetTable.insertAt es (t.put sl).2 (SK.hash prog w (.many kk), .ref ax)) (plainIf bv (t.put sl).1)
          if (!wd && (plainIf bv (t.put sl).1).tooFull) = true then do
            setRelay a (SetTable.grown (es.size + 1))
            pure true
          else pure true) Q E s := by
        intro bv
        obtain ⟨p1, p2, p3, p7, ⟨k1, p4, p5⟩, p6⟩ := put_facts (bv := bv) S (k := .many kk) ⟨ax, rfl, hax⟩ f2 f3 f4 f5
        refine wpAny_bind (wpAny_storeSet_of ho S.data ?_ (small_fits (by lia)))
        have g1 := put_get ho S.data (SetTable.insertAt es (t.put sl).2 (SK.hash prog w (.many kk), .ref ax)) (plainIf bv (t.put sl).1)
        have sb1 := Heap.SameBut.update s.heap a (Obj.putSet (SetTable.insertAt es (t.put sl).2 (SK.hash prog w (.many kk), .ref ax)) (plainIf bv (t.put sl).1))
        by_cases hc : (!wd && (plainIf bv (t.put sl).1).tooFull) = true
        · rw [if_pos hc]
          obtain ⟨t2, order, r1, _, _, r2, _, _, r4, r6, r5⟩ := relaid_ok (plainIf bv (t.put sl).1) (SetTable.insertAt es (t.put sl).2 (SK.hash prog w (.many kk), .ref ax)) (SetTable.grown (es.size + 1))
            (by rw [p1]; exact (grown_small (by lia)).1) (grown_small (by lia)).2
          unfold setRelay
          refine wpAny_bind (wpAny_bind (wpAny_setState_of g1 rfl p2 ?_))
          dsimp only
          rw [if_neg (sizeAbove_line (grown_small (by lia)).2)]
          rw [r1]
          refine wpAny_bind (wpAny_ite_split (fun h => absurd h (by rw [r6]; simp)) (fun _ => wpAny_pure ?_))
          dsimp only
          refine wpAny_storeSet_of g1 rfl ?_ (small_fits (by rw [r6, p1]; lia))
          obtain ⟨k2, q1, q2⟩ := p5.perm r4
          exact wpAny_pure (new hn _ _ _ t2 k2 (sb1.trans (Heap.SameBut.update _ a _)) (put_get g1 rfl _ t2) (q1.trans p4) r5 q2 (by rw [r2]; exact p3) (r4.trans p7))
        · rw [if_neg hc]
          refine wpAny_pure (new hn _ _ _ _ k1 sb1 g1 p4 (p6 ?_) p5 p3 p7)
          cases wd with
          | true => exact .inl rfl
          | false => exact .inr (by simpa using hc)
      split
      · refine wpAny_bind (hbv_w (k := .many kk) ⟨ax, rfl, hax⟩ fun b => ?_)
        exact fin b
      · exact wpAny_bind (wpAny_pure (fin true))
end
end L2

namespace L2
open PySem PySem.Spec PyProof.Rows L2T
section
variable {prog : Program} {w : World} {A : Around} {E : Value → Shared → Prop} {s : Shared}
structure SetL (w : World) (o : Obj) (es : Array (Int × Value)) (ep : Nat) (t : SetTable) : Prop where
  data : o.data = .set es ep t
  tab : SOk t es.toList
  led : t.led = led0 w
theorem SetO.lite {o : Obj} {ks : List SK} {h : Heap} {es : Array (Int × Value)} {ep : Nat} {t : SetTable} (S : SetO prog w h o ks es ep t) : SetL w o es ep t := ⟨S.data, S.tab, S.led⟩
end
end L2

namespace L2
open PySem PySem.Spec PyProof.Rows L2T
end L2

namespace L2
open PySem PySem.Spec PyProof.Rows L2T
def Keeps' (h h' : Heap) : Prop := ∀ b o, h.get? b = some o → h'.get? b = some o
theorem Keeps'.T {h h' : Heap} (k : Keeps' h h') : KeepT h h' := fun b o _ e => k b o e
section
variable {prog : Program} {w : World} {A : Around} {E : Value → Shared → Prop} {s : Shared}
theorem push_get {h : Heap} {o : Obj} : Keeps' h (h.push o) := fun b u e => Heap.get?_push_of_some _ e
end
end L2

namespace L2
open PySem PySem.Spec PyProof.Rows L2T
section
variable {prog : Program} {w : World} {A : Around} {E : Value → Shared → Prop} {s : Shared}
theorem hash_w {k : SK} {x : Value} {Q : Int → Shared → Prop} (hu : A.units < cLine) (hx : k.is prog w s.heap x) (q : ∀ tk, Q (k.hash prog w) { s with toks := tk }) : wpAny (model prog w) A (pyHash x) Q E s := by
  cases k with
  | one k => exact (mixKind prog w).pyHash hx (q _)
  | many kk => obtain ⟨a, rfl, hk⟩ := hx; exact wpAny_pyHash_tuple hu hk (q _)
structure Part (prog : Program) (w : World) (k0 : List SK) (items : Array Value) (i : Nat) (ks : List SK) (es : Array (Int × Value)) : Prop where
  mem : ∀ k, k ∈ ks ↔ ∃ j : Nat, j < i ∧ k0[j]? = some k
  len : ks.length ≤ i
  ent : ∀ e ∈ es.toList, ∃ j : Nat, items[j]? = some e.2
theorem set_loop {S I l : Addr} {items : Array Value} {k0 : List SK} {f : Bool} {R : Result → Shared → Prop} (hu : A.units + 1 < cLine) (hh : A.handled = none) (hSI : S ≠ I) (hSl : S ≠ l) (hIl : l ≠ I)
    (hlen : k0.length = items.size) (hn : items.size ≤ 1000) (hf : ∀ k ∈ k0, k.flat = f) :
    ∀ (m i : Nat) (s : Shared) (ks : List SK) (es : Array (Int × Value)), items.size - i = m → i ≤ items.size → s.heap.IsListIter I l i → s.heap.IsList l items → SetE prog w s.heap S ks es → Part prog w k0 items i ks es →
      (∀ (j : Nat) (v : Value) (k : SK), items[j]? = some v → k0[j]? = some k → k.is prog w s.heap v) →
      (∀ s' ks' es', (∀ b o, b ≠ I → b ≠ S → s.heap.get? b = some o → s'.heap.get? b = some o) → (∃ tk, s' = { s with heap := s'.heap, toks := tk }) → SetE prog w s'.heap S ks' es' → Part prog w k0 items items.size ks' es' → R (.ok (.ret .none)) s') →
      codeAny (model prog w) A (.builtin "set.update.loop" ⟨[.ref S, .ref I], []⟩) R s := by
  intro m
  induction m with
  | zero =>
    intro i s ks es hk hi hit hl hS hp hkey hR
    have hin : i = items.size := by lia
    subst hin
    refine codeAny_builtin F.entry_set_update_loop ?_
    rw [Around.under_plainId F.plain_set_update_loop _]
    show wpAny _ A.in1 (pyNext (.ref I) >>= _) _ _ s
    refine wpAny_bind (wpAny_pyNext_list_end (by simp [hh]) hit hl (by simp) fun h' he => ?_)
    show wpAny _ A.in1 (ret Value.none) _ _ _
    obtain ⟨o, ep, t, ho, So⟩ := hS
    have kT : KeepT s.heap h' := fun b u c e => he b u (fun z => by
      obtain ⟨oi, h1, h2, _⟩ := hit
      rw [z, h1] at e; cases e; rw [h2] at c; exact absurd c (by decide)) e
    exact wpAny_pure (hR _ ks es (fun b u h1 _ e => he b u h1 e) ⟨s.toks, rfl⟩ ⟨o, ep, t, he S o hSI ho, So.mono kT⟩ hp)
  | succ m ih =>
    intro i s ks es hk hi hit hl hS hp hkey hR
    have hlt : i < items.size := by lia
    have hv : items[i]? = some items[i] := Array.getElem?_eq_getElem hlt
    have hki : k0[i]? = some (k0[i]'(by lia)) := List.getElem?_eq_getElem _
    have hx := hkey i _ _ hv hki
    have hfi := hf _ (List.mem_of_getElem? hki)
    generalize k0[i]'(by lia) = k at hki hx hfi
    refine codeAny_builtin F.entry_set_update_loop ?_
    rw [Around.under_plainId F.plain_set_update_loop _]
    show wpAny _ A.in1 (pyNext (.ref I) >>= _) _ _ s
    refine wpAny_bind (wpAny_pyNext_list_item hit hl hv fun h1 hit1 sb1 => ?_)
    have kT1 : KeepT s.heap h1 := fun b u c e => (sb1.2 b (fun z => by
      obtain ⟨oi, g1, g2, _⟩ := hit
      rw [z, g1] at e; cases e; rw [g2] at c; exact absurd c (by decide))).trans e
    obtain ⟨o, ep, t, ho, So⟩ := hS
    have ho1 : h1.get? S = some o := (sb1.2 S hSI).trans ho
    show wpAny _ A.in1 (holding [items[i]] (setAdd S items[i]) >>= _) _ _ _
    refine wpAny_bind (wpAny_holding ?_)
    unfold setAdd
    refine wpAny_holding (wpAny_bind (hash_w (by simp only [Around.in1_units]; omega) (SK.is_mono kT1 hx) fun tk => ?_))
    have kin : ∀ k' ∈ ks, k'.flat = k.flat := fun k' hk' => by
      obtain ⟨j, _, hj⟩ := (hp.mem k').mp hk'
      rw [hf _ (List.mem_of_getElem? hj), hfi]
    refine add_w (s := { s with heap := h1, toks := tk }) (by simp only [Around.in1_units]; omega) ho1 (So.mono kT1) kin (SK.is_mono kT1 hx) (by have := hp.len; lia) fun h2 k2 e2 sb2 S2 p2 en2 => ?_
    have hp2 : Part prog w k0 items (i + 1) k2 e2 := by
      refine ⟨fun k' => ?_, ?_, fun e he => ?_⟩
      · rw [p2.mem_iff]
        constructor
        · intro hm
          have hm' : k' ∈ k :: ks := by
            split at hm
            · exact List.mem_cons_of_mem _ hm
            · exact hm
          rcases List.mem_cons.mp hm' with e | e
          · exact ⟨i, by lia, by rw [e]; exact hki⟩
          · obtain ⟨j, hj, hkj⟩ := (hp.mem k').mp e; exact ⟨j, by lia, hkj⟩
        · rintro ⟨j, hj, hkj⟩
          have hm' : k' = k ∨ k' ∈ ks := by
            rcases Nat.lt_or_ge j i with c | c
            · exact .inr ((hp.mem k').mpr ⟨j, c, hkj⟩)
            · have : j = i := by lia
              subst this; rw [hki] at hkj; cases hkj; exact .inl rfl
          split
          · rename_i hin
            rcases hm' with e | e
            · rw [e]; exact hin
            · exact e
          · rcases hm' with e | e
            · rw [e]; exact List.mem_cons_self
            · exact List.mem_cons_of_mem _ e
      · rw [p2.length_eq]
        have := hp.len
        split
        · lia
        · simp; omega
      · rcases en2 e he with z | z
        · exact hp.ent e z
        · exact ⟨i, by rw [z]; exact hv⟩
    have k12 : KeepT h1 h2 := keepT_sameBut (es := es) (ep := ep) (t := t) ho1 So.ex sb2
    refine wpAny_pure ⟨plainId_quiet F.plain_set_update_loop _, ih (i + 1) _ k2 e2 (by lia) hlt ?_ ?_ S2 hp2 (fun j v k' h3 h4 => SK.is_mono (fun b u c e => k12 b u c (kT1 b u c e)) (hkey j v k' h3 h4)) fun s' k3 e3 kp ⟨tk', hs'⟩ S3 p3 => ?_⟩
    · exact hit1.at fun u e => (sb2.2 I (Ne.symm hSI)).trans e
    · exact (hl.extBut sb1.extBut hIl).at fun u e => (sb2.2 l (Ne.symm hSl)).trans e
    · refine hR s' k3 e3 (fun b u h3 h4 e => kp b u h3 h4 ((sb2.2 b h4).trans ((sb1.2 b h3).trans e))) ⟨tk', ?_⟩ S3 p3
      rw [hs']
end
end L2

namespace L2
open PySem PySem.Spec PyProof.Rows L2T
section
variable {prog : Program} {w : World} {A : Around} {E : Value → Shared → Prop} {s : Shared}
theorem new_setE {h : Heap} {a : Addr} {led : Bool} (hl : led = led0 w) (hg : h.get? a = some { cls := .type "set", dict := none, data := .set #[] 0 (.fresh 0 0 led) }) : SetE prog w h a [] #[] :=
  ⟨_, 0, _, hg, ⟨rfl, rfl, rfl⟩, rfl, sok_fresh 0 0 led, .nil, List.nodup_nil, by simp, hl, true, fun k hk => by cases hk⟩
theorem set_new_w (a : Value) {Q1 : Value → Shared → Prop} (h : Q1 (.ref s.heap.objs.size) { s with heap := s.heap.push { cls := .type "set", dict := none, data := .set #[] 0 (.fresh 0 0 (led0 w)) } }) :
    codeAny (model prog w) A (.call (.builtin "set.__new__") ⟨[.type "set", a], []⟩) (wants Q1 E) s := by
  refine codeAny_of_tree ?_
  show wpAny _ A.in1 (do checkBuiltinCall "set.__new__" ⟨[.type "set", a], []⟩; again (.builtin "set.__new__" ⟨[.type "set", a], []⟩)) _ _ s
  refine wpAny_bind (wpAny_of_eq (F.newCall_set_1 a) (wpAny_pure ⟨plainId_quiet F.plain_set_new _, codeAny_builtin F.entry_set_new ?_⟩))
  rw [Around.under_plainId F.plain_set_new _]
  unfold Builtin.«set.__new__» Builtin.Frozenset.newClass
  have hsub := sub_set_self
  obtain ⟨hp, g, d, tk, os⟩ := s
  dsimp only
  wp_walk
  refine wpAny_askSetting (wpAny_pure ?_)
  dsimp only
  simp only [newObj]
  refine wpAny_bind (wpAny_alloc (wpAny_pure ?_))
  exact wpAny_pure h
theorem call_set_w {l : Addr} {items : Array Value} {k0 : List SK} {f : Bool} {Q : Value → Shared → Prop} (hu : A.units + 16 < cLine) (hh : A.handled = none) (hl : s.heap.IsList l items) (hlen : k0.length = items.size) (hn : items.size ≤ 1000) (hf : ∀ k ∈ k0, k.flat = f)
    (hkey : ∀ (j : Nat) (v : Value) (k : SK), items[j]? = some v → k0[j]? = some k → k.is prog w s.heap v)
    (q : ∀ h' tk ks es, Keeps' s.heap h' → SetE prog w h' s.heap.objs.size ks es → Part prog w k0 items items.size ks es → Q (.ref s.heap.objs.size) { s with heap := h', toks := tk }) :
    wpAny (model prog w) A (call (.type "set") [.ref l]) Q E s := by
  obtain ⟨c, tl, hmro⟩ := F.called_set.mro
  have hmade := F.called_set.made
  have hsub := F.called_set.sub
  refine wpAny_call (codeAny_of_tree ?_)
  show wpAny _ _ (callAny (.type "set") _) _ _ _
  refine wpAny_pure ⟨Code.quiet_builtin _ (by decide +kernel), codeAny_builtin F.entry_type_call ?_⟩
  rw [Around.under_plain (weight_type_call_type "set" [.ref l] []) rfl]
  have h1 := F.called_set.notType
  have h2 := F.called_set.canCreate
  have hct := F.typeCall_set_1 (.ref l)
  repeat (any_goals (first | assumption | wp_step))
  refine codeAny_mono (set_new_w (.ref l) (E := E) (Q1 := fun obj s1 => obj = .ref s.heap.objs.size ∧ s1 = { s with heap := s.heap.push { cls := .type "set", dict := none, data := .set #[] 0 (.fresh 0 0 (led0 w)) } }) ⟨rfl, rfl⟩) fun r s1 hr => ?_
  cases r with
  | error e => exact hr
  | ok fl =>
    cases fl with
    | ret obj =>
      obtain ⟨rfl, rfl⟩ := hr
      generalize hN : s.heap.push { cls := .type "set", dict := none, data := .set #[] 0 (.fresh 0 0 (led0 w)) } = hp1
      have hS : hp1.get? s.heap.objs.size = some { cls := .type "set", dict := none, data := .set #[] 0 (.fresh 0 0 (led0 w)) } := by rw [← hN]; exact Heap.get?_push_size _ rfl
      have k1 : Keeps' s.heap hp1 := by rw [← hN]; exact push_get
      have z1 : hp1.objs.size = s.heap.objs.size + 1 := by rw [← hN, Heap.size_push]
      have hT : Shared.TypeIs { s with heap := hp1 } (.ref s.heap.objs.size) "set" := ⟨_, hS, rfl⟩
      have hli := F.called_set.init.lookup
      have hbi := F.called_set.init.bind (.ref s.heap.objs.size)
      repeat (any_goals (first | assumption | wp_step))
      refine codeAny_mono (codeAny_call_builtin (R := wants (fun r s2 => r = .none ∧ ∃ h' tk ks es, s2 = { s with heap := h', toks := tk } ∧ Keeps' s.heap h' ∧ SetE prog w h' s.heap.objs.size ks es ∧ Part prog w k0 items items.size ks es) E)
        F.called_set.init.plain F.entry_set_init (check_set_init_1 hT ?_)) fun r2 s2 hr2 => ?_
      · obtain ⟨ol, hol, hcl, nl, hdl⟩ := id hl
        obtain ⟨ocls, odict, odata, oslots⟩ := ol
        simp only at hcl hdl
        subst hcl; subst hdl
        have hol' := k1 _ _ hol
        have hsls := F.sub_list_set
        have hslf := F.sub_list_frozenset
        have hne : (Value.type "list" == Value.type "dict") = false := by decide
        have hl1 : hp1.IsList l items := ⟨_, hol', rfl, nl, rfl⟩
        unfold Builtin.«set.__init__» noKeywords Builtin.Frozenset.updateFrom
        generalize hPI : pyIter = PI
        wp_walk
        subst hPI
        refine wpAny_pyIter_list hl1 ?_
        refine wpAny_bind (wpAny_runValue ?_)
        have hlS : l < s.heap.objs.size := Heap.lt_size hol
        have hIt : (hp1.push { cls := .type "list_iterator", data := .fields #[.ref l, .int 0 0] }).IsListIter hp1.objs.size l 0 := ⟨_, Heap.get?_push_size _ rfl, rfl, rfl⟩
        refine set_loop (S := s.heap.objs.size) (I := hp1.objs.size) (l := l) (items := items) (k0 := k0) (f := f) ?hu ?hh ?n1 ?n2 ?n3 hlen hn hf (items.size - 0) 0 _ [] #[] (by lia) (Nat.zero_le _) hIt (hl1.push _) (new_setE rfl (push_get _ _ hS)) ⟨fun k => ⟨(fun h => by cases h), (fun ⟨j, hj, _⟩ => by lia)⟩, by simp, (fun e he => by cases he)⟩ (fun j v k a b => SK.is_mono (fun b u _ e => push_get _ _ (k1 _ _ e)) (hkey j v k a b)) ?hR
        case hu => simp only [Around.in1_units]; lia
        case hh => simp [hh]
        case n1 => rw [z1]; exact Nat.ne_of_lt (Nat.lt_succ_self _)
        case n2 => exact Nat.ne_of_gt hlS
        case n3 => rw [z1]; exact Nat.ne_of_lt (Nat.lt_succ_of_lt hlS)
        case hR =>
          intro s' ks' es' kp ⟨tk', hs'⟩ S' p'
          show wpAny _ _ _ _ _ _
          refine wpAny_pure ?_
          show wpAny _ _ (ret Value.none) _ _ _
          refine wpAny_pure ⟨rfl, s'.heap, tk', ks', es', hs', fun b o e => ?_, S', p'⟩
          have hb := Heap.lt_size e
          exact kp b o (by rw [z1]; exact Nat.ne_of_lt (Nat.lt_succ_of_lt hb)) (Nat.ne_of_lt hb) (push_get _ _ (k1 _ _ e))
      · cases r2 with
        | error e => exact hr2
        | ok fl2 =>
          cases fl2 with
          | ret r =>
            obtain ⟨rfl, h', tk, ks, es, rfl, a1, a2, a3⟩ := hr2
            repeat (any_goals (first | assumption | wp_step))
            exact q _ _ _ _ a1 a2 a3
          | _ => exact hr2.elim
    | _ => exact hr.elim
end
end L2

namespace L2
open PySem PySem.Spec PyProof.Rows L2T
end L2

namespace L2
open PySem PySem.Spec PyProof.Rows L2T
section
variable {prog : Program} {w : World} {A : Around} {E : Value → Shared → Prop} {s : Shared}
structure Took (kb : List SK) (p : SK → Bool) (es0 : List (Int × Value)) (kd : List SK) (kr : List SK) (er : Array (Int × Value)) : Prop where
  mem : ∀ k, k ∈ kr ↔ k ∈ kb ∨ (k ∈ kd ∧ p k = true)
  len : kr.length ≤ kb.length + kd.length
  ent : ∀ e ∈ er.toList, e ∈ es0
end
end L2

namespace L2
open PySem PySem.Spec PyProof.Rows L2T
end L2

namespace L2
open PySem PySem.Spec PyProof.Rows L2T
end L2

namespace L2
open PySem PySem.Spec PyProof.Rows L2T
end L2

namespace L2
open PySem PySem.Spec PyProof.Rows L2T
end L2

namespace L2
open PySem PySem.Spec PyProof.Rows L2T
end L2

namespace L2
open PySem PySem.Spec PyProof.Rows L2T
end L2

namespace L2
open PySem PySem.Spec PyProof.Rows L2T
def D.kk : D → Key
  | .int i => .inl i
  | .str l => .inr (T l)
  | _ => .inl 0
def D.fl : D → Bool
  | .int _ => true
  | .str _ => true
  | _ => false
def D.sk : D → SK
  | .tup ds => .many (ds.map D.kk)
  | d => .one d.kk
def D.hk : Bool → D → Bool
  | true, d => d.fl
  | false, .tup ds => ds.all D.fl
  | false, _ => false
theorem kk_inj {d e : D} (h1 : d.fl = true) (h2 : e.fl = true) (h : d.kk = e.kk) : d = e := by
  cases d <;> simp [D.fl] at h1 <;> cases e <;> simp [D.fl] at h2 <;> simp [D.kk] at h
  · rw [h]
  · rw [T_inj] at h; rw [h]
theorem kks_inj : ∀ {ds es : List D}, ds.all D.fl = true → es.all D.fl = true → ds.map D.kk = es.map D.kk → ds = es
  | [], [], _, _, _ => rfl
  | [], _ :: _, _, _, h => by simp at h
  | _ :: _, [], _, _, h => by simp at h
  | d :: ds, e :: es, h1, h2, h => by
    simp only [List.all_cons, Bool.and_eq_true] at h1 h2
    simp only [List.map_cons, List.cons.injEq] at h
    rw [kk_inj h1.1 h2.1 h.1, kks_inj h1.2 h2.2 h.2]
theorem sk_inj {f : Bool} {d e : D} (h1 : d.hk f = true) (h2 : e.hk f = true) (h : d.sk = e.sk) : d = e := by
  cases f with
  | true =>
    simp only [D.hk] at h1 h2
    have e1 : d.sk = .one d.kk := by cases d <;> first | rfl | simp [D.fl] at h1
    have e2 : e.sk = .one e.kk := by cases e <;> first | rfl | simp [D.fl] at h2
    rw [e1, e2] at h
    injection h with h
    exact kk_inj h1 h2 h
  | false =>
    cases d <;> simp [D.hk] at h1
    cases e <;> simp [D.hk] at h2
    simp [D.sk] at h
    rw [kks_inj (by simpa using h1) (by simpa using h2) h]
theorem sk_flat {f : Bool} {d : D} (h : d.hk f = true) : d.sk.flat = f := by
  cases f with
  | true => cases d <;> simp [D.hk, D.fl] at h <;> rfl
  | false => cases d <;> simp [D.hk] at h; rfl
section
variable (P : Program) (w : World)
def setHO (p : Addr) (ks : List SK) (xs : List V) : HO := .ext fun h => ∃ o es ep t, h.get? p = some o ∧ o.ExactSet ∧ SetL w o es ep t ∧ es.toList.map (·.1) = ks.map (SK.hash P w) ∧ Vals xs (es.toList.map (·.2)) ∧ ks.Nodup ∧ ks.length ≤ 1000
end
section
variable {X : Cx} {pins : List (Addr × Obj)} {σ : St} {H : Hp} {s : Shared}
theorem kk_is {d : D} {x : V} {u : Value} (hf : d.fl = true) (r : Rep X.K H d x) (q : RelV x u) : (mixKind X.prog X.w).is d.kk u = true := by
  cases d <;> simp [D.fl] at hf
  · rw [r.of_int] at q; obtain ⟨t, rfl⟩ := q; exact mixKind_int ..
  · rw [r.of_str] at q; obtain ⟨t, rfl⟩ := q; exact mixKind_str ..
theorem kks_is : ∀ {ds : List D} {xs : List V} {us : List Value}, ds.all D.fl = true → Reps X.K H ds xs → Vals xs us → ItemsAre (mixKind X.prog X.w) (ds.map D.kk) us
  | [], _, _, _, r, q => by rw [Reps] at r; subst r; cases q; exact .nil
  | d :: ds, _, _, hf, r, q => by
    rw [Reps] at r
    obtain ⟨x, xs, rfl, r1, r2⟩ := r
    simp only [List.all_cons, Bool.and_eq_true] at hf
    cases q with
    | cons q1 q2 => exact .cons (kk_is hf.1 r1 q1) (kks_is hf.2 r2 q2)
theorem Inv.sk (I : Inv X pins σ H s) {f : Bool} {d : D} {x : V} {u : Value} (hf : d.hk f = true) (r : Rep X.K H d x) (q : RelV x u) : d.sk.is X.prog X.w s.heap u := by
  cases f with
  | true =>
    have e1 : d.sk = .one d.kk := by cases d <;> first | rfl | simp [D.hk, D.fl] at hf
    rw [e1]; exact kk_is (by simpa [D.hk] using hf) r q
  | false =>
    cases d <;> simp [D.hk] at hf
    rename_i ds
    obtain ⟨p, xs, rfl, sq, rs⟩ := r.of_tup
    cases q
    obtain ⟨its, rv, ⟨o, e, c, n, hd⟩, _⟩ := I.tuple sq
    exact ⟨p, rfl, o, its.toArray, n, e, c, hd, by simpa using kks_is (by simpa using hf) rs rv⟩
theorem es_of (I : Inv X pins σ H s) {f : Bool} : ∀ {ds : List D} {xs : List V} {es : List (Int × Value)}, (∀ d ∈ ds, d.hk f = true) → Reps X.K H ds xs → Vals xs (es.map (·.2)) → es.map (·.1) = (ds.map D.sk).map (SK.hash X.prog X.w) → Es X.prog X.w s.heap (ds.map D.sk) es
  | [], _, es, _, r, q, _ => by
    rw [Reps] at r; subst r
    cases es with
    | nil => exact .nil
    | cons _ _ => cases q
  | d :: ds, _, es, hf, r, q, hh => by
    rw [Reps] at r
    obtain ⟨x, xs, rfl, r1, r2⟩ := r
    cases es with
    | nil => cases q
    | cons e es =>
      simp only [List.map_cons, List.cons.injEq] at hh
      cases q with
      | cons q1 q2 => exact .cons hh.1 (I.sk (hf d List.mem_cons_self) r1 q1) (es_of I (fun d' h => hf d' (List.mem_cons_of_mem _ h)) r2 q2 hh.2)
theorem Inv.setE (I : Inv X pins σ H s) {f : Bool} {a : Addr} {ds : List D} {xs : List V} (e : H a = some (setHO X.prog X.w a (ds.map D.sk) xs)) (hf : ∀ d ∈ ds, d.hk f = true) (r : Reps X.K H ds xs) :
    ∃ es, SetE X.prog X.w s.heap a (ds.map D.sk) es ∧ Vals xs (es.toList.map (·.2)) := by
  obtain ⟨⟨o, es, ep, t, ho, hx, S, hh, rv, hn, hl⟩, _, _⟩ := I.hok a _ e
  exact ⟨es, ⟨o, ep, t, ho, hx, S.data, S.tab, es_of I hf r rv hh, hn, hl, S.led, f, fun k hk => by
    obtain ⟨d, hd, rfl⟩ := List.mem_map.mp hk
    exact sk_flat (hf d hd)⟩, rv⟩
def Src (da : List D) (xa : List V) (db : List D) (xb : List V) (dr : List D) (xr : List V) : Prop :=
  dr.length = xr.length ∧ ∀ (i : Nat) d x, dr[i]? = some d → xr[i]? = some x → ∃ j : Nat, (da[j]? = some d ∧ xa[j]? = some x) ∨ (db[j]? = some d ∧ xb[j]? = some x)
theorem Src.reps {K : PySem.W.Frag} {F : Hp} {da db dr : List D} {xa xb xr : List V} (h : Src da xa db xb dr xr) (ra : Reps K F da xa) (rb : Reps K F db xb) : Reps K F dr xr := by
  obtain ⟨hl, h⟩ := h
  induction dr generalizing xr with
  | nil => cases xr with
    | nil => exact Reps.nil
    | cons _ _ => simp at hl
  | cons d dr ih => cases xr with
    | nil => simp at hl
    | cons x xr =>
      refine Reps.cons ?_ (ih (by simpa using hl) fun i d' x' h1 h2 => h (i + 1) d' x' h1 h2)
      obtain ⟨j, ⟨h1, h2⟩ | ⟨h1, h2⟩⟩ := h 0 d x rfl rfl
      · obtain ⟨x', e, r⟩ := ra.get' h1
        rw [h2] at e; cases e; exact r
      · obtain ⟨x', e, r⟩ := rb.get' h1
        rw [h2] at e; cases e; exact r
theorem Src.mem {da db dr : List D} {xa xb xr : List V} (h : Src da xa db xb dr xr) {d : D} (hd : d ∈ dr) : d ∈ da ∨ d ∈ db := by
  obtain ⟨i, hi⟩ := List.mem_iff_getElem?.mp hd
  have hil := (List.getElem?_eq_some_iff.mp hi).1
  obtain ⟨j, ⟨h1, _⟩ | ⟨h1, _⟩⟩ := h.2 i d (xr[i]'(by have := h.1; lia)) hi (List.getElem?_eq_getElem _)
  · exact .inl (List.mem_of_getElem? h1)
  · exact .inr (List.mem_of_getElem? h1)
theorem is_inj {h : Heap} {k k' : SK} {v : Value} (a : k.is X.prog X.w h v) (b : k'.is X.prog X.w h v) (hf : k.flat = k'.flat) : k = k' := by
  cases k <;> cases k' <;> simp [SK.flat] at hf
  · exact congrArg _ ((mixKind X.prog X.w).inj _ _ _ a b)
  · obtain ⟨u, e1, i1⟩ := a
    obtain ⟨v, e2, i2⟩ := b
    rw [e1] at e2; cases e2
    exact congrArg _ (i1.inj i2)
theorem setHO_ok {h' : Heap} {r : Addr} {H' : Hp} {dr : List D} {xr : List V} {er : Array (Int × Value)} (S : SetE X.prog X.w h' r (dr.map D.sk) er) (v : Vals xr (er.toList.map (·.2))) : ObjOk X.prog X.w H' h' r (setHO X.prog X.w r (dr.map D.sk) xr) := by
  obtain ⟨o, ep, t, ho, S⟩ := S
  refine ⟨⟨o, er, ep, t, ho, S.ex, S.lite, ?_, v, S.nod, S.small⟩, ⟨o, ho⟩, ?_⟩
  · have := S.ent
    generalize dr.map D.sk = kr at this
    generalize er.toList = el at this
    induction this with
    | nil => rfl
    | cons a _ _ ih => simp [a, ih]
  · rintro h1 h2 ⟨o, es, ep, t, ho, r⟩ k
    exact ⟨o, es, ep, t, k o ho, r⟩
end
end L2

namespace L2
open PySem PySem.Spec PyProof.Rows L2T
section
variable (P : Program) (w : World) (K : PySem.W.Frag)
def rSetOf (f : Bool) : List V → Hp → VK → Prop := fun vs H Q => ∃ a xs ds, vs = [.ref a] ∧ SqL K H a xs ∧ Reps K H ds xs ∧ (∀ d ∈ ds, d.hk f = true) ∧ ds.length ≤ 1000 ∧
  ∀ r dr xr, H r = none → dr.Nodup → (∀ d, d ∈ dr ↔ d ∈ ds) → Src ds xs [] [] dr xr → Q (.ref r) (upd H r (setHO P w r (dr.map D.sk) xr))
def rLenS (f : Bool) : List V → Hp → VK → Prop := fun vs H Q => ∃ a xs ds, vs = [.ref a] ∧ H a = some (setHO P w a (ds.map D.sk) xs) ∧ Reps K H ds xs ∧ (∀ d ∈ ds, d.hk f = true) ∧ Q (.int ds.length) H
end
theorem sk_mem {f : Bool} {ds : List D} (hf : ∀ d ∈ ds, d.hk f = true) {d : D} (hd : d.hk f = true) : d.sk ∈ ds.map D.sk ↔ d ∈ ds := by
  constructor
  · intro h
    obtain ⟨e, he, h2⟩ := List.mem_map.mp h
    rw [← sk_inj (hf e he) hd h2]; exact he
  · exact fun h => List.mem_map_of_mem h
theorem sk_nodup {dr : List D} (h : (dr.map D.sk).Nodup) : dr.Nodup := by
  unfold List.Nodup at *
  rw [List.pairwise_map] at h
  exact h.imp fun a e => a (congrArg _ e)
section
variable {X : Cx}
theorem call_setL {f : Bool} (hc : X.calm = true) (hu : X.A.units + 64 < cLine) : CallR X (.type "set") (rSetOf X.prog X.w X.K f) := by
  intro pins s σ H vs us Q I r h
  obtain ⟨a, xs, ds, rfl, hq, rs, hf, hl, q⟩ := h
  obtain ⟨u, rfl, ru⟩ := vals1 r
  cases ru
  obtain ⟨its, rv, pl, _⟩ := I.list hq
  have l1 := rs.length
  have l2 := rv.length
  have hk0 : ∀ k ∈ ds.map D.sk, k.flat = f := fun k hk => by obtain ⟨d, hd, rfl⟩ := List.mem_map.mp hk; exact sk_flat (hf d hd)
  have hkey : ∀ (j : Nat) (v : Value) (k : SK), its.toArray[j]? = some v → (ds.map D.sk)[j]? = some k → k.is X.prog X.w s.heap v := fun j v k h1 h2 => by
    rw [List.getElem?_map] at h2
    cases hd : ds[j]? with
    | none => rw [hd] at h2; cases h2
    | some d =>
      rw [hd] at h2
      have : d.sk = k := by simpa using h2
      subst this
      obtain ⟨x, hx, rx⟩ := rs.get' hd
      obtain ⟨u, hu', ru⟩ := rv.get hx
      have h1' : its[j]? = some v := by simpa using h1
      rw [h1'] at hu'; cases hu'
      exact I.sk (hf d (List.mem_of_getElem? hd)) rx ru
  refine call_set_w (k0 := ds.map D.sk) (f := f) (by lia) (I.ok.hd hc) pl.isList (by simp; lia) (by simp; lia) hk0 hkey fun h' tk ks es K' S p => ?_
  have hex : ∀ (kr : List SK) (el : List (Int × Value)), Es X.prog X.w h' kr el → (∀ k ∈ kr, k.flat = f) → (∀ e ∈ el, ∃ j : Nat, its.toArray[j]? = some e.2) → ∃ dr xr, dr.map D.sk = kr ∧ Vals xr (el.map (·.2)) ∧ Src ds xs [] [] dr xr := by
    intro kr el en
    induction en with
    | nil => intro _ _; exact ⟨[], [], rfl, .nil, rfl, fun i d x h => by simp at h⟩
    | @cons k e kr er g1 g2 _ ih =>
      intro hkk hent
      obtain ⟨dr, xr, a1, b1, c1⟩ := ih (fun k h => hkk k (List.mem_cons_of_mem _ h)) fun e h => hent e (List.mem_cons_of_mem _ h)
      obtain ⟨j, hj⟩ := hent e List.mem_cons_self
      have hj' : its[j]? = some e.2 := by simpa using hj
      have hjl := (List.getElem?_eq_some_iff.mp hj').1
      have hjd : ds[j]? = some (ds[j]'(by lia)) := List.getElem?_eq_getElem _
      obtain ⟨x, hx, rx⟩ := rs.get' hjd
      obtain ⟨u, hu', ru⟩ := rv.get hx
      rw [hj'] at hu'; cases hu'
      have hdk := hf _ (List.mem_of_getElem? hjd)
      have hsk : (ds[j]'(by lia)).sk = k := is_inj (SK.is_mono K'.T (I.sk hdk rx ru)) g2 (by rw [sk_flat hdk, hkk k List.mem_cons_self])
      refine ⟨_ :: dr, x :: xr, by rw [List.map_cons, hsk, a1], .cons ru b1, by simp [c1.1], fun i d' x' q1 q2 => ?_⟩
      cases i with
      | zero => simp at q1 q2; subst q1; subst q2; exact ⟨j, .inl ⟨hjd, hx⟩⟩
      | succ i => exact c1.2 i d' x' q1 q2
  obtain ⟨dr, xr, e1, v1, src⟩ := hex ks es.toList (let ⟨_, _, _, _, T⟩ := S; T.ent) (fun k hk => by
      obtain ⟨j, _, hj⟩ := (p.mem k).mp hk
      exact hk0 k (List.mem_of_getElem? hj)) p.ent
  subst e1
  have hnod : dr.Nodup := by obtain ⟨_, _, _, _, T⟩ := S; exact sk_nodup T.nod
  have hdr : ∀ d ∈ dr, d.hk f = true := fun d hd => by
    rcases src.mem hd with z | z
    · exact hf d z
    · cases z
  refine ⟨.ref s.heap.objs.size, _, I.laid (t' := tk) K' (Nat.le_refl _) (setHO_ok S v1), rfl, q _ dr xr (I.hok.fresh (Nat.le_refl _)) hnod (fun d => ⟨fun h => (src.mem h).elim id (fun z => by cases z), fun h => ?_⟩) src⟩
  refine (sk_mem hdr (hf d h)).mp ((p.mem d.sk).mpr ?_)
  obtain ⟨j, hj⟩ := List.mem_iff_getElem?.mp h
  exact ⟨j, by have := (List.getElem?_eq_some_iff.mp hj).1; simp; lia, by rw [List.getElem?_map, hj]; rfl⟩
theorem call_lenS {f : Bool} : CallR X (.builtin "len") (rLenS X.prog X.w X.K f) := by
  intro pins s σ H vs us Q I r h
  obtain ⟨a, xs, ds, rfl, ha, rs, hf, q⟩ := h
  obtain ⟨u, rfl, ru⟩ := vals1 r
  cases ru
  obtain ⟨es, ⟨o, ep, t, ho, S⟩, v⟩ := I.setE ha hf rs
  have hl : es.size = ds.length := by have := S.ent.length; simp at this; lia
  have hs := S.small
  simp at hs
  refine call_len_set ho S.ex S.data S.fits (by lia) ⟨.int ds.length, H, I.tok _, ⟨_, by rw [hl]⟩, q⟩
end
end L2

namespace L2
open PySem PySem.W PyProof.Rows L2T
end L2

namespace L2
open PySem PySem.W PyProof.Rows L2T
end L2

namespace L2
open PySem PySem.W PyProof.Rows L2T
def EvS (P : Program) (w : World) (K : PySem.W.Frag) (G H₀ L : Hp) (ss : List Sl) (t : TE) (ds : List D) : Prop := ∀ F H σ Q, Sat K G H₀ L F H σ ss →
  (∀ p xs F' H' ds', Ext F H F' H' → H p = none → F' p = none → H' p = some (setHO P w p (ds'.map D.sk) xs) → Reps K F' ds' xs → ds'.Nodup → (∀ d, d ∈ ds' ↔ d ∈ ds) → Q (.ref p) H') → t σ H Q
section
variable {P : Program} {w : World} {K : PySem.W.Frag} {G H₀ L : Hp} {ss : List Sl} {t ta tb : TE} {f : Bool} {ds da db dr : List D}
theorem evs_set (a : EvL K G H₀ L ss t ds) (hf : ∀ d ∈ ds, d.hk f = true) (hl : ds.length ≤ 1000) : EvS P w K G H₀ L ss (tCB (rSetOf P w K f) (tCons t tNil)) ds := fun F H σ Q S q =>
  a F H σ _ S fun p vs F' H' e sq r => ⟨p, vs, ds, rfl, sq, r.mono e.fh, hf, hl, fun l dr xr hl' hn hm src =>
    q l xr F' _ dr (e.newO hl') (e.hh.free hl') (e.fh.free hl') upd_same (src.reps r Reps.nil) hn hm⟩
theorem ev_lenSet (dd : List D) (a : EvS P w K G H₀ L ss t ds) (hf : ∀ d ∈ ds, d.hk f = true) (hn : dd.Nodup) (hm : ∀ d, d ∈ dd ↔ d ∈ ds) : Ev K G H₀ L ss (tCB (rLenS P w K f) (tCons t tNil)) (.int dd.length) := fun F H σ Q S q =>
  a F H σ _ S fun p xs F' H' d1 e hp fp hp1 r n1 m1 => ⟨p, xs, d1, rfl, hp1, r.mono e.fh, fun d h => hf d ((m1 d).mp h), by
    have hp : dd.Perm d1 := (List.perm_ext_iff_of_nodup hn n1).mpr fun d => by rw [hm, m1]
    rw [← hp.length_eq]
    exact q _ F' H' e Rep.int⟩
end
def ded : List D → List D
  | [] => []
  | d :: ds => if d ∈ ds then ded ds else d :: ded ds
theorem ded_mem {d : D} : ∀ {ds : List D}, d ∈ ded ds ↔ d ∈ ds
  | [] => Iff.rfl
  | e :: ds => by
    unfold ded
    split
    · rw [ded_mem, List.mem_cons]
      exact ⟨.inr, fun h => h.elim (fun z => z ▸ by assumption) id⟩
    · rw [List.mem_cons, List.mem_cons, ded_mem]
theorem ded_nodup : ∀ ds : List D, (ded ds).Nodup
  | [] => List.nodup_nil
  | e :: ds => by
    unfold ded
    split
    · exact ded_nodup ds
    · rw [List.nodup_cons, ded_mem]; exact ⟨by assumption, ded_nodup ds⟩
theorem ded_len : ∀ ds : List D, (ded ds).length ≤ ds.length
  | [] => Nat.le_refl _
  | e :: ds => by
    have := ded_len ds
    unfold ded
    split <;> simp <;> omega
end L2

namespace L2
open PySem PySem.W PyProof.Rows
section
variable {X : Cx} {pins : List (Addr × Obj)} {σ : St} {H : Hp} {s : Shared}
theorem sorts64 {h' : Heap} {ds : List D} {xs : List V} {us : List Value} {A' : Around} (I : Inv X pins σ H s) (rs : Reps X.K H ds xs) (rv : Vals xs us) (hal : Alike ds) (h2 : 2 ≤ us.length) (h64 : us.length < 64) (k : Keeps s.heap h') :
    Sorts X.prog X.w A' { s with heap := h' } us (OutK (rk ds) us) := by
  obtain ⟨κ, hk, hlt⟩ := cmp_alike (A' := A') I rs rv hal h2 k
  exact sorts_small h2 h64 hk hlt
end
end L2

namespace L2
open PySem PySem.Spec PyProof.Rows

section
variable {κ : Type} [DecidableEq κ]
def valV (kvs : List (κ × V)) (k : κ) : Option V := (kvs.find? fun kv => decide (kv.1 = k)).map (·.2)
def putK (kvs : List (κ × V)) (k : κ) (v : V) : List (κ × V) :=
  if (kvs.any fun kv => decide (kv.1 = k)) = true then kvs.map (fun kv => if kv.1 = k then (kv.1, v) else kv) else kvs ++ [(k, v)]
theorem valV_pos {p : κ × V} {r : List (κ × V)} {k : κ} (e : p.1 = k) : valV (p :: r) k = some p.2 := by simp [valV, List.find?_cons, e]
theorem valV_neg {p : κ × V} {r : List (κ × V)} {k : κ} (e : ¬ p.1 = k) : valV (p :: r) k = valV r k := by simp [valV, List.find?_cons, e]
theorem valV_any (k : κ) : ∀ kvs : List (κ × V), (kvs.any fun kv => decide (kv.1 = k)) = (valV kvs k).isSome
  | [] => rfl
  | p :: r => by
    rw [List.any_cons]
    by_cases e : p.1 = k
    · simp only [valV_pos e, decide_eq_true e, Bool.true_or, Option.isSome_some]
    · rw [valV_neg e, decide_eq_false e, Bool.false_or]; exact valV_any k r
theorem length_putK (kvs : List (κ × V)) (k : κ) (v : V) : (putK kvs k v).length ≤ kvs.length + 1 := by
  unfold putK
  split
  · rw [List.length_map]; omega
  · rw [List.length_append, List.length_cons, List.length_nil]; omega
theorem RelO.isSome_eq {o : Option V} {u : Option Value} (r : RelO o u) : o.isSome = u.isSome := by
  cases o with
  | none => cases u with
    | none => rfl
    | some _ => exact (show False from r).elim
  | some _ => cases u with
    | none => exact (show False from r).elim
    | some _ => rfl
theorem RelO.getD {o : Option V} {u : Option Value} {d : V} {d' : Value} (r : RelO o u) (rd : RelV d d') : RelV (o.getD d) (u.getD d') := by
  cases o with
  | none => cases u with
    | none => exact rd
    | some _ => exact (show False from r).elim
  | some _ => cases u with
    | none => exact (show False from r).elim
    | some _ => exact r

theorem KV.val {kvs : List (κ × V)} {vs : List (κ × Value)} (r : KV kvs vs) (k : κ) : RelO (valV kvs k) (valueAt vs k) := by
  unfold KV at r
  induction r with
  | nil => exact True.intro
  | @cons p q ps qs h t ih =>
    obtain ⟨h1, h2⟩ := h
    by_cases e : p.1 = k
    · have e' : q.1 = k := h1.symm.trans e
      have b : valueAt (q :: qs) k = some q.2 := by simp [valueAt, List.find?_cons, e']
      rw [valV_pos e, b]; exact h2
    · have e' : ¬ q.1 = k := fun z => e (h1.trans z)
      have b : valueAt (q :: qs) k = valueAt qs k := by simp [valueAt, List.find?_cons, e']
      rw [valV_neg e, b]; exact ih
theorem KV.any {kvs : List (κ × V)} {vs : List (κ × Value)} (r : KV kvs vs) (k : κ) : (kvs.any fun kv => decide (kv.1 = k)) = vs.any fun kv => decide (kv.1 = k) := by
  unfold KV at r
  induction r with
  | nil => rfl
  | cons h t ih => rw [List.any_cons, List.any_cons, ih, h.1]
theorem KV.repl {kvs : List (κ × V)} {vs : List (κ × Value)} (r : KV kvs vs) (k : κ) {y : V} {u : Value} (ry : RelV y u) :
    KV (kvs.map fun kv => if kv.1 = k then (kv.1, y) else kv) (vs.map fun kv => if kv.1 = k then (kv.1, u) else kv) := by
  unfold KV at r ⊢
  induction r with
  | nil => exact .nil
  | @cons p q ps qs h t ih =>
    rw [List.map_cons, List.map_cons]
    refine .cons ?_ ih
    obtain ⟨h1, h2⟩ := h
    by_cases e : p.1 = k
    · rw [if_pos e, if_pos (h1.symm.trans e)]; exact ⟨h1, ry⟩
    · rw [if_neg e, if_neg (fun z => e (h1.trans z))]; exact ⟨h1, h2⟩
theorem KV.put {kvs : List (κ × V)} {vs : List (κ × Value)} (r : KV kvs vs) (k : κ) {y : V} {u : Value} (ry : RelV y u) : KV (putK kvs k y) (stored vs k u) := by
  unfold putK stored
  rw [r.any k]
  by_cases e : (vs.any fun kv => decide (kv.1 = k)) = true
  · rw [if_pos e, if_pos e]; exact r.repl k ry
  · rw [if_neg e, if_neg e]; exact Paired.snoc r ⟨rfl, ry⟩
theorem KV.length {kvs : List (κ × V)} {vs : List (κ × Value)} (r : KV kvs vs) : kvs.length = vs.length := Paired.length r
end

theorem kV_is {P : Program} {w : World} {k : Key} {u : Value} (r : RelV (kV k) u) : (mixKind P w).is k u = true := by
  cases k with
  | inl i => obtain ⟨t, e⟩ := (show ∃ t, u = Value.int i t from r); subst e; exact mixKind_int P w i t
  | inr x => obtain ⟨t, e⟩ := (show ∃ t, u = Value.str x t from r); subst e; exact mixKind_str P w x t
theorem items_are {P : Program} {w : World} : ∀ {ks : List Key} {us : List Value}, Vals (ks.map kV) us → ItemsAre (mixKind P w) ks us
  | [], _, r => by rw [List.map_nil] at r; cases r; exact .nil
  | k :: ks, _, r => by
    rw [List.map_cons] at r
    cases r with
    | cons h t => exact .cons (kV_is h) (items_are t)

abbrev KT (H : Hp) : List (List Key × V) → List (List Key × Addr × Value) → Prop := Paired fun p q => p.1 = q.1 ∧ H q.2.1 = some (.tup (p.1.map kV)) ∧ RelV p.2 q.2.2
theorem KT.val {H : Hp} {kvs : List (List Key × V)} {xs : List (List Key × Addr × Value)} (r : KT H kvs xs) (k : List Key) : RelO (valV kvs k) ((atKey xs k).map (·.2)) := by
  induction r with
  | nil => exact True.intro
  | @cons p q ps qs h t ih =>
    obtain ⟨h1, _, h2⟩ := h
    by_cases e : p.1 = k
    · have e' : q.1 = k := h1.symm.trans e
      have b : atKey (q :: qs) k = some q.2 := by simp [atKey, List.find?_cons, e']
      rw [valV_pos e, b]; exact h2
    · have e' : ¬ q.1 = k := fun z => e (h1.trans z)
      have b : atKey (q :: qs) k = atKey qs k := by simp [atKey, List.find?_cons, e']
      rw [valV_neg e, b]; exact ih
theorem KT.repl {H : Hp} {kvs : List (List Key × V)} {xs : List (List Key × Addr × Value)} (r : KT H kvs xs) (k : List Key) {y : V} {u : Value} (ry : RelV y u) :
    KT H (kvs.map fun kv => if kv.1 = k then (kv.1, y) else kv) (xs.map (putAt k u)) := by
  induction r with
  | nil => exact .nil
  | @cons p q ps qs h t ih =>
    rw [List.map_cons, List.map_cons]
    refine .cons ?_ ih
    obtain ⟨h1, h2, h3⟩ := h
    unfold putAt
    by_cases e : p.1 = k
    · rw [if_pos e, if_pos (h1.symm.trans e)]; exact ⟨h1, h2, ry⟩
    · rw [if_neg e, if_neg (fun z => e (h1.trans z))]; exact ⟨h1, h2, h3⟩
theorem KT.put {H : Hp} {kvs : List (List Key × V)} {xs : List (List Key × Addr × Value)} (r : KT H kvs xs) (k : List Key) {b : Addr} {y : V} {u : Value} (hb : H b = some (.tup (k.map kV))) (ry : RelV y u) :
    KT H (putK kvs k y) (storedH xs k b u) := by
  have e : (kvs.any fun kv => decide (kv.1 = k)) = (atKey xs k).isSome := by
    rw [valV_any, (r.val k).isSome_eq, Option.isSome_map]
  unfold putK storedH
  rw [e]
  by_cases q : (atKey xs k).isSome = true
  · rw [if_pos q, if_pos q]; exact r.repl k ry
  · rw [if_neg q, if_neg q]; exact Paired.snoc r ⟨rfl, hb, ry⟩
theorem KT.keeps {H H' : Hp} {kvs : List (List Key × V)} {xs : List (List Key × Addr × Value)} (r : KT H kvs xs) (ht : ∀ b ys, H b = some (.tup ys) → H' b = some (.tup ys)) : KT H' kvs xs :=
  Paired.mapP r fun _ _ z => ⟨z.1, ht _ _ z.2.1, z.2.2⟩

section
variable {P : Program} {w : World} {H : Hp} {h : Heap} {a : Addr}
theorem rd_of {u : HO} (ok : HOk P w H h) (e : Rd H a u) : ObjOk P w H h a u := e.ok ok
theorem dk_rd {kvs : List (Key × V)} (ok : HOk P w H h) (e : Rd H a (.dK kvs)) : kvs.length ≤ sizeLine ∧ (a == sysModules) = false ∧ ∃ vs, KV kvs vs ∧ h.DictOf (mixKind P w) a vs :=
  show ObjOk P w H h a (.dK kvs) from rd_of ok e
theorem dk_of {kvs : List (Key × V)} (ok : HOk P w H h) (e : H a = some (.dK kvs)) : kvs.length ≤ sizeLine ∧ (a == sysModules) = false ∧ ∃ vs, KV kvs vs ∧ h.DictOf (mixKind P w) a vs := dk_rd ok (.inl e)
theorem key_of {ks : List Key} (ok : HOk P w H h) (e : H a = some (.tup (ks.map kV))) : (tupleKind (mixKind P w)).is h ks a := by
  obtain ⟨_, its, r, o, h1, h2, n, h3⟩ := (show ObjOk P w H h a (.tup (ks.map kV)) from ok a _ e)
  exact ⟨o, its.toArray, n, h1, h2, h3, by simpa using items_are r⟩
theorem dt_rd {kvs : List (List Key × V)} (ok : HOk P w H h) (e : Rd H a (.dT kvs)) : kvs.length ≤ sizeLine ∧ (a == sysModules) = false ∧
    ∃ xs, KT H kvs xs ∧ h.DictOfH (tupleKind (mixKind P w)) a xs := by
  obtain ⟨z, y, xs, r, o, es, ep, h1, h2, h3, h4, h5⟩ := (show ObjOk P w H h a (.dT kvs) from rd_of ok e)
  refine ⟨z, y, xs, r, o, es, ep, h1, h2, h3, h4, fun x hx => ?_, h5⟩
  have all : ∀ {l : List (List Key × V)} {m : List (List Key × Addr × Value)}, KT H l m → ∀ x ∈ m, (tupleKind (mixKind P w)).is h x.1 x.2.1 := by
    intro l m q
    induction q with
    | nil => intro x hx; exact nomatch hx
    | @cons p q ps qs hq t ih =>
      intro x hx
      rcases List.mem_cons.mp hx with e | hx
      · subst e
        exact key_of ok (by rw [← hq.1]; exact hq.2.1)
      · exact ih x hx
  exact all r x hx
theorem dt_of {kvs : List (List Key × V)} (ok : HOk P w H h) (e : H a = some (.dT kvs)) : kvs.length ≤ sizeLine ∧ (a == sysModules) = false ∧
    ∃ xs, KT H kvs xs ∧ h.DictOfH (tupleKind (mixKind P w)) a xs := dt_rd ok (.inl e)
end

def DGet (H : Hp) (a : Addr) (y : V) (r : Option V) : Prop :=
  (∃ kvs k, Rd H a (.dK kvs) ∧ y = kV k ∧ r = valV kvs k) ∨ ∃ kvs k b, Rd H a (.dT kvs) ∧ y = .ref b ∧ H b = some (.tup (k.map kV)) ∧ r = valV kvs k
def DPut (H : Hp) (a : Addr) (y v : V) (H' : Hp) : Prop :=
  (∃ kvs k, H a = some (.dK kvs) ∧ y = kV k ∧ kvs.length < sizeLine ∧ H' = upd H a (.dK (putK kvs k v))) ∨
  ∃ kvs k b, H a = some (.dT kvs) ∧ y = .ref b ∧ H b = some (.tup (k.map kV)) ∧ kvs.length < sizeLine ∧ H' = upd H a (.dT (putK kvs k v))
theorem DGet.t {H : Hp} {a b : Addr} {kvs : List (List Key × V)} {k : List Key} (e : H a = some (.dT kvs)) (eb : H b = some (.tup (k.map kV))) : DGet H a (.ref b) (valV kvs k) := .inr ⟨kvs, k, b, .inl e, rfl, eb, rfl⟩
theorem DPut.t {H : Hp} {a b : Addr} {kvs : List (List Key × V)} {k : List Key} {v : V} (e : H a = some (.dT kvs)) (eb : H b = some (.tup (k.map kV))) (hl : kvs.length < sizeLine) :
    DPut H a (.ref b) v (upd H a (.dT (putK kvs k v))) := .inr ⟨kvs, k, b, e, rfl, eb, hl, rfl⟩

section
variable {X : Cx} {pins : List (Addr × Obj)} {σ : St} {H : Hp} {s : Shared} {a : Addr} {y v : V} {u r : Value} {o : Option V} {A : Around} {E : Value → Shared → Prop}

theorem Inv.big (I : Inv X pins σ H s) : sysModules < s.heap.objs.size := by
  have h : mainGlobals < s.heap.objs.size := (I.mod.glob.keeps I.bk).lt
  exact Nat.lt_trans (by decide) h

theorem d_getItem {Q : Value → Shared → Prop} (hu : A.units + 1 < cLine) (I : Inv X pins σ H s) (g : DGet H a y (some v)) (ry : RelV y u) (h : ∀ w' s', Inv X pins σ H s' → RelV v w' → Q w' s') :
    wpAny (model X.prog X.w) A (getItem (.ref a) u) Q E s := by
  rcases g with ⟨kvs, k, e, ey, l⟩ | ⟨kvs, k, b, e, ey, eb, l⟩
  · subst ey
    obtain ⟨z, hd, vs, rel, dd⟩ := dk_rd I.hok e
    obtain ⟨w', hw, rw'⟩ := RelO.some_of (v := v) (o := valueAt vs k) (by rw [l]; exact rel.val k)
    exact wpAny_getItem_of (kV_is ry) dd.mapOf hw (h w' _ (I.tok _) rw')
  · subst ey
    cases (show u = Value.ref b from ry)
    obtain ⟨z, hd, xs, rel, dd⟩ := dt_rd I.hok e
    obtain ⟨w', hw, rw'⟩ := RelO.some_of (v := v) (o := (atKey xs k).map (·.2)) (by rw [l]; exact rel.val k)
    obtain ⟨p, hp, hp2⟩ := Option.map_eq_some_iff.mp hw
    refine wpAny_getItem_heap (tupleKind_room_in1 hu) (key_of I.hok eb) dd hp ?_
    rw [hp2]
    exact h w' _ (I.tok _) rw'
theorem d_in {Q : Value → Shared → Prop} (hu : A.units + 1 < cLine) (I : Inv X pins σ H s) (g : DGet H a y o) (ry : RelV y u) (h : ∀ s', Inv X pins σ H s' → Q (.bool o.isSome) s') :
    wpAny (model X.prog X.w) A (compareOp .In u (.ref a)) Q E s := by
  rcases g with ⟨kvs, k, e, ey, l⟩ | ⟨kvs, k, b, e, ey, eb, l⟩
  · subst ey
    obtain ⟨z, hd, vs, rel, dd⟩ := dk_rd I.hok e
    refine wpAny_in_of (kV_is ry) hd dd.mapOf ?_
    rw [← (rel.val k).isSome_eq, ← l]
    exact h _ (I.tok _)
  · subst ey
    cases (show u = Value.ref b from ry)
    obtain ⟨z, hd, xs, rel, dd⟩ := dt_rd I.hok e
    refine wpAny_in_heap (tupleKind_room_in1 hu) (key_of I.hok eb) hd dd ?_
    have q := (rel.val k).isSome_eq
    rw [Option.isSome_map] at q
    rw [← q, ← l]
    exact h _ (I.tok _)
theorem d_notIn {Q : Value → Shared → Prop} (hu : A.units + 1 < cLine) (I : Inv X pins σ H s) (g : DGet H a y o) (ry : RelV y u) (h : ∀ s', Inv X pins σ H s' → Q (.bool (!o.isSome)) s') :
    wpAny (model X.prog X.w) A (compareOp .NotIn u (.ref a)) Q E s := by
  rcases g with ⟨kvs, k, e, ey, l⟩ | ⟨kvs, k, b, e, ey, eb, l⟩
  · subst ey
    obtain ⟨z, hd, vs, rel, dd⟩ := dk_rd I.hok e
    refine wpAny_notIn_of (kV_is ry) hd dd.mapOf ?_
    rw [← (rel.val k).isSome_eq, ← l]
    exact h _ (I.tok _)
  · subst ey
    cases (show u = Value.ref b from ry)
    obtain ⟨z, hd, xs, rel, dd⟩ := dt_rd I.hok e
    refine wpAny_notIn_heap (tupleKind_room_in1 hu) (key_of I.hok eb) hd dd ?_
    have q := (rel.val k).isSome_eq
    rw [Option.isSome_map] at q
    rw [← q, ← l]
    exact h _ (I.tok _)
theorem d_write {h' : Heap} {t' : Nat} {ob : HO} (I : Inv X pins σ H s) (mu : Mut (H a)) (hs : Heap.SameBut a s.heap h') (he : ∃ q, h'.get? a = some q) (new : ObjOk X.prog X.w (upd H a ob) h' a ob) :
    Inv X pins σ (upd H a ob) { s with heap := h', toks := t' } :=
  I.write (x := a) (e := a) mu (.inl rfl) (fun b q hb z => (hs.2 b hb).trans z) he new
theorem dk_new {P : Program} {w : World} {H' : Hp} {h' : Heap} {kvs : List (Key × V)} {vs : List (Key × Value)} (z : kvs.length ≤ sizeLine) (hd : (a == sysModules) = false) (rel : KV kvs vs) (dd : h'.DictOf (mixKind P w) a vs) :
    ObjOk P w H' h' a (.dK kvs) := ⟨z, hd, vs, rel, dd⟩
theorem d_setItem {H' : Hp} {Q : Unit → Shared → Prop} (hu : A.units + 1 < cLine) (I : Inv X pins σ H s) (g : DPut H a y v H') (ry : RelV y u) (rv : RelV v r) (h : ∀ s', Inv X pins σ H' s' → Q () s') :
    wpAny (model X.prog X.w) A (setItem (.ref a) u r) Q E s := by
  rcases g with ⟨kvs, k, e, ey, l, eH⟩ | ⟨kvs, k, b, e, ey, eb, l, eH⟩
  · subst ey eH
    obtain ⟨z, hd, vs, rel, dd⟩ := dk_of I.hok e
    have hz : vs.length ≤ sizeLine := by rw [← rel.length]; exact z
    have hl : (putK kvs k v).length ≤ sizeLine := by have := length_putK kvs k v; omega
    refine wpAny_setItem_pairs (hsz := hz) (kV_is ry) dd fun h' dd' hs => h _ ?_
    have he : ∃ q, h'.get? a = some q := let ⟨q, _, _, hq, _⟩ := dd'; ⟨q, hq⟩
    exact d_write I (by rw [e]; exact True.intro) hs he (dk_new hl hd (rel.put k rv) dd')
  · subst ey eH
    cases (show u = Value.ref b from ry)
    obtain ⟨z, hd, xs, rel, dd⟩ := dt_of I.hok e
    have hz : xs.length ≤ sizeLine := by rw [← Paired.length rel]; exact z
    have hl : (putK kvs k v).length ≤ sizeLine := by have := length_putK kvs k v; omega
    refine wpAny_setItem_heap (hsz := hz) (tupleKind_room_in1 hu) (key_of I.hok eb) dd fun h' dd' hs => h _ ?_
    obtain ⟨q, es, ep, hq, h2, h3, h4, _, h5⟩ := dd'
    refine d_write I (by rw [e]; exact True.intro) hs ⟨q, hq⟩ ⟨hl, hd, _, (rel.put k eb rv).keeps fun c ys ec => ?_, q, es, ep, hq, h2, h3, h4, h5⟩
    rw [upd_ne (ne_of ec e (fun z => nomatch z))]
    exact ec
end


def NoSl (i : Expr) : Prop := ∀ ov iv, subscripted i false ov iv = operate [ov, iv] (getItem ov iv)
theorem subD_of {prog : Program} {w : World} {A : Around} {E : Value → Shared → Prop} {s : Shared} {env : Env} {value slice : Expr} {pos : Pos} {T id : String} {Q : Value → Shared → Prop}
    (hl : typeLookup (.type T) "__getitem__" = pure (some (.builtin id))) (hs : NoSl slice)
    (h : wpAny (model prog w) A (eval value env) (fun o s₁ => wpAny (model prog w) A (eval slice env) (fun i s₂ => s₂.TypeIs o T ∧ wpAny (model prog w) A (getItem o i) Q E s₂) E s₁) E s) :
    wpAny (model prog w) A (eval (.Subscript value slice pos) env) Q E s := by
  refine Subscript_ (wpAny_mono h (fun o s₁ h₁ => wpAny_mono h₁ (fun i s₂ h₂ => ?_) fun _ _ x => x) fun _ _ x => x)
  obtain ⟨hT, h₂⟩ := h₂
  unfold subscriptTail
  refine wpAny_bind ?_
  rw [getitemInPython_of_ne hT.not_modules]
  refine wpAny_bind (wpAny_specialOf hT hl ?_)
  have fin : wpAny (model prog w) A (subscripted slice false o i) (fun r s₃ => wpAny (model prog w) A (letTemporaryGo value o r >>= fun _ => pure r) Q E s₃) E s₂ := by
    rw [hs o i]
    exact wpAny_operating (wpAny_mono h₂ (fun r s₃ h₃ => wpAny_bind (wpAny_letTemporaryGo (wpAny_pure h₃))) fun _ _ x => x)
  first
    | exact wpAny_pure (wpAny_bind fin)
    | exact wpAny_bind (wpAny_pure (wpAny_bind fin))
    | exact wpAny_bind fin

theorem dict_typeIs {X : Cx} {pins : List (Addr × Obj)} {σ : St} {H : Hp} {s : Shared} {a : Addr} {y : V} {o : Option V} (I : Inv X pins σ H s) (g : DGet H a y o) : s.TypeIs (.ref a) "dict" := by
  rcases g with ⟨kvs, k, e, _, _⟩ | ⟨kvs, k, b, e, _, _, _⟩
  · obtain ⟨_, _, vs, _, dd⟩ := dk_rd I.hok e
    exact dd.typeIs
  · obtain ⟨_, _, xs, _, dd⟩ := dt_rd I.hok e
    exact dd.typeIs
def tDGet (td ty : TE) : TE := fun σ H Q => td σ H fun x H1 => ty σ H1 fun y H2 => ∃ a v, x = .ref a ∧ DGet H2 a y (some v) ∧ Q v H2
def tDIn (ty td : TE) : TE := fun σ H Q => ty σ H fun y H1 => td σ H1 fun x H2 => ∃ a o, x = .ref a ∧ DGet H2 a y o ∧ Q (.bl o.isSome) H2
def tDNotIn (ty td : TE) : TE := fun σ H Q => ty σ H fun y H1 => td σ H1 fun x H2 => ∃ a o, x = .ref a ∧ DGet H2 a y o ∧ Q (.bl (!o.isSome)) H2
def sDPut (td ty tv : TE) : TS := fun D σ H => tv σ H fun v H1 => td σ H1 fun x H2 => ty σ H2 fun y H3 => ∃ a H4, x = .ref a ∧ DPut H3 a y v H4 ∧ D.nx σ H4
section
variable {X : Cx} {o i e value : Expr} {pos pos' tpos : Pos} {td ty tv : TE}
theorem pe_dget (hu : X.A.units + 1 < cLine) (ho : PE X o td) (hi : PE X i ty) (hs : NoSl i) : PE X (.Subscript o i pos) (tDGet td ty) := by
  intro pins s σ H Q I h
  refine subD_of PySem.F.slot_dict_getitem.lookup hs (thn (ho pins s σ H _ I h) fun u s1 ⟨x, H1, I1, rx, q1⟩ => thn (hi pins s1 σ H1 _ I1 q1) fun iv s2 ⟨y, H2, I2, ry, a, v, ex, g, q2⟩ => ?_)
  subst ex
  obtain rfl : u = Value.ref a := rx
  exact ⟨dict_typeIs I2 g, d_getItem hu I2 g ry fun w' s3 I3 rw' => ⟨v, H2, I3, rw', q2⟩⟩
theorem pc_din (hu : X.A.units + 1 < cLine) (hi : PE X i ty) (ho : PE X o td) : PC X .In i o (tDIn ty td) := by
  intro pins s σ H Q I h
  refine thn (hi pins s σ H _ I h) fun iv s1 ⟨y, H1, I1, ry, q1⟩ => thn (ho pins s1 σ H1 _ I1 q1) fun u s2 ⟨x, H2, I2, rx, a, ov, ex, g, q2⟩ => ?_
  subst ex
  obtain rfl : u = Value.ref a := rx
  exact d_in hu I2 g ry fun s3 I3 => ⟨.bl ov.isSome, H2, I3, rfl, q2⟩
theorem pc_dnotin (hu : X.A.units + 1 < cLine) (hi : PE X i ty) (ho : PE X o td) : PC X .NotIn i o (tDNotIn ty td) := by
  intro pins s σ H Q I h
  refine thn (hi pins s σ H _ I h) fun iv s1 ⟨y, H1, I1, ry, q1⟩ => thn (ho pins s1 σ H1 _ I1 q1) fun u s2 ⟨x, H2, I2, rx, a, ov, ex, g, q2⟩ => ?_
  subst ex
  obtain rfl : u = Value.ref a := rx
  exact d_notIn hu I2 g ry fun s3 I3 => ⟨.bl (!ov.isSome), H2, I3, rfl, q2⟩
theorem ps_dput (hu : X.A.units + 1 < cLine) (ho : PE X o td) (hi : PE X i ty) (hv : PE X value tv) (hs : swapsWith value (some (.Subscript o i pos')) pos.line X.env = pure false) :
    PS X (.Assign [.Subscript o i pos'] value pos) (sDPut td ty tv) := by
  intro pins s σ H D I h
  refine wpAny_Assign_Subscript (thn (hv pins s σ H _ I h) fun r s1 ⟨v, H1, I1, rv, q1⟩ => thn (ho pins s1 σ H1 _ I1 q1) fun u s2 ⟨x, H2, I2, rx, q2⟩ => thn (hi pins s2 σ H2 _ I2 q2) fun iv s3 ⟨y, H3, I3, ry, a, H4, ex, g, q3⟩ => ?_) hs
  subst ex
  obtain rfl : u = Value.ref a := rx
  exact d_setItem hu I3 g ry rv fun s4 I4 => ⟨σ, H4, I4, q3⟩
end

theorem dt_empty {P : Program} {w : World} {H : Hp} (h : Heap) (hb : sysModules < h.objs.size) : ObjOk P w H (h.push { cls := .type "dict", data := .dict #[] }) h.objs.size (.dT []) :=
  ⟨Nat.zero_le _, beq_eq_false_iff_ne.mpr (Ne.symm (Nat.ne_of_lt hb)), [], .nil, _, #[], 0, Heap.get?_push_size _ rfl, ⟨rfl, rfl, rfl⟩, rfl, rfl, List.nodup_nil⟩
def tDNewT : TE := fun _ H Q => ∀ p, H p = none → Q (.ref p) (upd H p (.dT []))
section
variable {X : Cx} {pos : Pos}
theorem pe_dnewT : PE X (.Dict [] [] pos) tDNewT := fun pins s σ H Q I h =>
  wpAny_Dict_empty ⟨.ref s.heap.objs.size, _, I.laid (a := s.heap.objs.size) (o := .dT []) (t' := s.toks) (fun _ _ q => Heap.get?_push_of_some _ q) (Nat.le_refl _) (dt_empty s.heap I.big), rfl, h _ (I.hok.fresh (Nat.le_refl _))⟩
end

structure M1 (X : Cx) (o : Expr) (m : Str) (apos : Pos) (e : Expr) (cpos : Pos) : Prop where
  base : attributeBase o m X.env (eval o X.env) = eval o X.env
  few : ((backTo cpos (starEach [e] X.env)).all (fun x => !x.1) && (backToKw cpos (keywordEach [] X.env)).all (fun x => x.1.isSome)
    && decide (([e] : List Expr).length + ([] : List Keyword).length + (if ([] : List Keyword).isEmpty then 0 else 1) < 30)) = true
  line : (apos.endLine == cpos.line) = true
  trees : backTo cpos (starEach [e] X.env) = [(false, eval e X.env)]
structure M2 (X : Cx) (o : Expr) (m : Str) (apos : Pos) (e f : Expr) (cpos : Pos) : Prop where
  base : attributeBase o m X.env (eval o X.env) = eval o X.env
  few : ((backTo cpos (starEach [e, f] X.env)).all (fun x => !x.1) && (backToKw cpos (keywordEach [] X.env)).all (fun x => x.1.isSome)
    && decide (([e, f] : List Expr).length + ([] : List Keyword).length + (if ([] : List Keyword).isEmpty then 0 else 1) < 30)) = true
  line : (apos.endLine == cpos.line) = true
  trees : backTo cpos (starEach [e, f] X.env) = [(false, eval e X.env), (false, eval f X.env)]

def IsD (H : Hp) (a : Addr) : Prop := (∃ kvs, Rd H a (.dK kvs)) ∨ ∃ kvs, Rd H a (.dT kvs)
theorem isD_at {X : Cx} {pins : List (Addr × Obj)} {σ : St} {H : Hp} {s : Shared} {a : Addr} (I : Inv X pins σ H s) (d : IsD H a) :
    s.TypeIs (.ref a) "dict" ∧ (∀ b, Value.ref a = .ref b → ∃ ob, s.heap.get? b = some ob ∧ ob.dict = none) ∧ (a == sysModules) = false := by
  rcases d with ⟨kvs, e⟩ | ⟨kvs, e⟩
  · obtain ⟨_, hd, vs, _, dd⟩ := dk_rd I.hok e
    refine ⟨dd.typeIs, fun b q => ?_, hd⟩
    cases q
    obtain ⟨ob, _, _, h1, h2, _⟩ := dd
    exact ⟨ob, h1, h2.2.1⟩
  · obtain ⟨_, hd, xs, _, dd⟩ := dt_rd I.hok e
    refine ⟨dd.typeIs, fun b q => ?_, hd⟩
    cases q
    obtain ⟨ob, _, _, h1, h2, _⟩ := dd
    exact ⟨ob, h1, h2.2.1⟩

section
variable {X : Cx} {pins : List (Addr × Obj)} {σ : St} {H : Hp} {s : Shared} {a : Addr} {y d : V} {u r : Value} {o : Option V} {A : Around} {E : Value → Shared → Prop}
theorem d_get1 {Q : Value → Shared → Prop} (hu : A.units + 1 < cLine) (I : Inv X pins σ H s) (g : DGet H a y o) (ry : RelV y u) (h : ∀ w' s', Inv X pins σ H s' → RelV (o.getD .non) w' → Q w' s') :
    wpAny (model X.prog X.w) A (call (.builtin "dict.get") [.ref a, u]) Q E s := by
  rcases g with ⟨kvs, k, e, ey, l⟩ | ⟨kvs, k, b, e, ey, eb, l⟩
  · subst ey
    obtain ⟨z, hd, vs, rel, dd⟩ := dk_rd I.hok e
    refine call_meetsIn PySem.F.slot_dict_get dd.typeIs PySem.F.entry_dict_get (PySem.F.args_dict_get_2 _ _) (meets_dict_get (mixKind X.prog X.w) a (kV_is ry) hd) ⟨_, dd.mapOf, h _ _ (I.tok _) ?_⟩
    rw [l]
    exact (rel.val k).getD rfl
  · subst ey
    cases (show u = Value.ref b from ry)
    obtain ⟨z, hd, xs, rel, dd⟩ := dt_rd I.hok e
    refine call_meetsIn PySem.F.slot_dict_get dd.typeIs PySem.F.entry_dict_get (PySem.F.args_dict_get_2 _ _) (meetsH_dict_get (tupleKind (mixKind X.prog X.w)) a b hd) ⟨tupleKind_room_in1 hu, k, xs, key_of I.hok eb, dd, h _ _ (I.tok _) ?_⟩
    rw [l]
    exact (rel.val k).getD rfl
theorem d_get2 {Q : Value → Shared → Prop} (hu : A.units + 1 < cLine) (I : Inv X pins σ H s) (g : DGet H a y o) (ry : RelV y u) (rd : RelV d r) (h : ∀ w' s', Inv X pins σ H s' → RelV (o.getD d) w' → Q w' s') :
    wpAny (model X.prog X.w) A (call (.builtin "dict.get") [.ref a, u, r]) Q E s := by
  rcases g with ⟨kvs, k, e, ey, l⟩ | ⟨kvs, k, b, e, ey, eb, l⟩
  · subst ey
    obtain ⟨z, hd, vs, rel, dd⟩ := dk_rd I.hok e
    refine call_meetsIn PySem.F.slot_dict_get dd.typeIs PySem.F.entry_dict_get (PySem.F.args_dict_get_3 _ _ _) (meets_dict_get_default (mixKind X.prog X.w) a (kV_is ry) hd r) ⟨_, dd.mapOf, h _ _ (I.tok _) ?_⟩
    rw [l]
    exact (rel.val k).getD rd
  · subst ey
    cases (show u = Value.ref b from ry)
    obtain ⟨z, hd, xs, rel, dd⟩ := dt_rd I.hok e
    refine call_meetsIn PySem.F.slot_dict_get dd.typeIs PySem.F.entry_dict_get (PySem.F.args_dict_get_3 _ _ _) (meetsH_dict_get_default (tupleKind (mixKind X.prog X.w)) a b hd r) ⟨tupleKind_room_in1 hu, k, xs, key_of I.hok eb, dd, h _ _ (I.tok _) ?_⟩
    rw [l]
    exact (rel.val k).getD rd
end

def tDGet1 (td ty : TE) : TE := fun σ H Q => td σ H fun x H1 => ∃ a, x = .ref a ∧ IsD H1 a ∧ ty σ H1 fun y H2 => ∃ o, DGet H2 a y o ∧ Q (o.getD .non) H2
def tDGet2 (td ty tx : TE) : TE := fun σ H Q => td σ H fun x H1 => ∃ a, x = .ref a ∧ IsD H1 a ∧ ty σ H1 fun y H2 => tx σ H2 fun z H3 => ∃ o, DGet H3 a y o ∧ Q (o.getD z) H3
section
variable {X : Cx} {o e f : Expr} {apos cpos : Pos} {td ty tx : TE}
theorem pe_dget1 (hu : X.A.units + 1 < cLine) (ho : PE X o td) (he : PE X e ty) (m : M1 X o "get" apos e cpos) : PE X (.Call (.Attribute o "get" apos) [e] [] cpos) (tDGet1 td ty) := by
  intro pins s σ H Q I h
  refine wpAny_Call_method m.base m.few m.line PySem.F.plainAttrs_dict PySem.F.slot_dict_get PySem.F.type_dict_get (thn (ho pins s σ H _ I h) fun u s1 ⟨x, H1, I1, rx, a, ex, d, q1⟩ => ?_)
  subst ex
  obtain rfl : u = Value.ref a := rx
  obtain ⟨t1, t2, _⟩ := isD_at I1 d
  refine ⟨t1, t2, ?_⟩
  rw [m.trees]
  refine Calls.callWith_builtin rfl (Calls.evalArgs_plain (Calls.spliced_cons (thn (he pins s1 σ H1 _ I1 q1) fun iv s2 ⟨y, H2, I2, ry, ov, g, q2⟩ => Calls.spliced_nil ?_)))
  exact d_get1 hu I2 g ry fun w' s3 I3 rw' => ⟨_, H2, I3, rw', q2⟩
theorem pe_dget2 (hu : X.A.units + 1 < cLine) (ho : PE X o td) (he : PE X e ty) (hf : PE X f tx) (m : M2 X o "get" apos e f cpos) : PE X (.Call (.Attribute o "get" apos) [e, f] [] cpos) (tDGet2 td ty tx) := by
  intro pins s σ H Q I h
  refine wpAny_Call_method m.base m.few m.line PySem.F.plainAttrs_dict PySem.F.slot_dict_get PySem.F.type_dict_get (thn (ho pins s σ H _ I h) fun u s1 ⟨x, H1, I1, rx, a, ex, d, q1⟩ => ?_)
  subst ex
  obtain rfl : u = Value.ref a := rx
  obtain ⟨t1, t2, _⟩ := isD_at I1 d
  refine ⟨t1, t2, ?_⟩
  rw [m.trees]
  refine Calls.callWith_builtin rfl (Calls.evalArgs_plain (Calls.spliced_cons (thn (he pins s1 σ H1 _ I1 q1) fun iv s2 ⟨y, H2, I2, ry, q2⟩ =>
    Calls.spliced_cons (thn (hf pins s2 σ H2 _ I2 q2) fun fv s3 ⟨z, H3, I3, rz, ov, g, q3⟩ => Calls.spliced_nil ?_))))
  exact d_get2 hu I3 g ry rz fun w' s4 I4 rw' => ⟨_, H3, I4, rw', q3⟩
end


end L2

namespace L2
open PySem PySem.Spec PyProof.Rows
end L2

namespace L2
open PySem PySem.W PyProof.Rows L2T
def rCatD (K : PySem.W.Frag) : R2 := fun x y H Q => ∃ l b xs zs, x = .ref l ∧ y = .ref b ∧ SqL K H l xs ∧ SqL K H b zs ∧ xs.length + zs.length ≤ sizeLine ∧ ∀ p, H p = none → Q (.ref p) (upd H p (.lst (xs ++ zs)))
theorem op_catD {X : Cx} : OpR X (binaryOp .Add) (rCatD X.K) := by
  intro pins s σ H x y v u Q I rx ry h
  obtain ⟨l, b, xs, zs, rfl, rfl, hl, hb, hz, q⟩ := h
  cases rx
  cases ry
  obtain ⟨its, r, pl, _⟩ := I.list hl
  obtain ⟨its2, r2, pl2, _⟩ := I.list hb
  have z1 := r.length
  have z2 := r2.length
  obtain ⟨⟨cls, dd, data, sl⟩, ho, hc, n, hd⟩ := pl.isList
  obtain ⟨⟨cls2, dd2, data2, sl2⟩, ho2, hc2, n2, hd2⟩ := pl2.isList
  dsimp only at hc hd hc2 hd2
  subst hc; subst hd; subst hc2; subst hd2
  refine concat_meets ⟨_, ho, rfl⟩ ⟨_, ho2, rfl⟩ noFill_list_add seq_list_add PySem.F.slot_list_add PySem.F.entry_list_add (PySem.F.args_list_add_2 _ _) (list_addW l b its.toArray its2.toArray n n2 dd dd2 sl sl2 (by simp; lia)) ⟨ho, ho2, ?_⟩
  have ea : its.toArray ++ its2.toArray = (its ++ its2).toArray := by simp
  rw [ea]
  exact ⟨.ref _, _, I.lnew (t' := s.toks) (r.append r2) (by rw [List.length_append]; omega), rfl, q _ I.fresh⟩
section
variable {K : PySem.W.Frag} {G H₀ L : Hp} {ss : List Sl} {ta tb : TE} {da db : List D}
theorem evo_cat (a : EvL K G H₀ L ss ta da) (b : EvL K G H₀ L ss tb db) (hz : da.length + db.length ≤ sizeLine) : EvO K G H₀ L ss (tOp (rCatD K) ta tb) (da ++ db) := fun F H σ Q S q =>
  a F H σ _ S fun p vs F1 H1 e1 sq1 r1 => b F1 H1 σ _ (S.ext2 e1) fun p2 vs2 F2 H2 e2 sq2 r2 => by
    have l1 := r1.length
    have l2 := r2.length
    refine ⟨p, p2, vs, vs2, rfl, rfl, SqL.same e2.hh sq1, sq2, by lia, fun l hl => ?_⟩
    have e12 := e1.trans e2
    exact q l _ F2 _ (e12.newO hl) (e12.hh.free hl) (e12.fh.free hl) upd_same ((r1.mono e2.gf).append r2)
theorem ev_const {d : D} {v : V} (r : ∀ H, Rep K H d v) : Ev K G H₀ L ss (tC v) d := fun F H σ Q S q => q _ _ _ (Ext.refl S.ext.fh) (r _)
end
end L2

namespace L2
open PySem PySem.W PyProof.Rows L2T
mutual
def D.nl : D → Bool
  | .lst _ => false
  | .dct _ _ => false
  | .dctT _ _ => false
  | .ins _ _ _ => false
  | .tup a => D.nls a
  | _ => true
def D.nls : List D → Bool
  | [] => true
  | a :: x => a.nl && D.nls x
end
end L2

namespace L2
open PySem PySem.W PyProof.Rows L2T
end L2

namespace L2
open PySem PySem.W PyProof.Rows L2T
end L2

namespace L2
open PySem PySem.W PySem.Spec PyProof.Rows
end L2

namespace L2
open PySem PySem.W PySem.Spec PyProof.Rows
end L2

namespace L2
open PySem PySem.W PyProof.Rows L2T
theorem Reps.rev {K : PySem.W.Frag} {H : Hp} : ∀ {ds : List D} {xs : List V}, Reps K H ds xs → Reps K H ds.reverse xs.reverse
  | [], xs, h => by rw [Reps] at h; subst h; exact Reps.nil
  | d :: ds, xs, h => by
    rw [Reps] at h
    obtain ⟨x, xs', rfl, h1, h2⟩ := h
    rw [List.reverse_cons, List.reverse_cons]
    exact h2.rev.snoc h1
section
variable {K : PySem.W.Frag} {G H₀ L : Hp} {ss : List Sl} {ta tb t : TE}
theorem evi_range {ta : TA} {n : Int} (a : EvA K G H₀ L ss ta [.int n]) (hb : -(2 ^ 62) ≤ n ∧ n < 2 ^ 62) : EvI K G H₀ L ss (iRng1 ta) n.toNat fun i => .int (i : Int) := fun F H σ R S q =>
  a F H σ _ S fun vs F1 H1 e1 r1 => by
    rw [Reps] at r1
    obtain ⟨x, r, rfl, rx, r1⟩ := r1
    rw [Reps] at r1
    subst r1
    rw [rx.of_int]
    refine ⟨n, rfl, hb.1, hb.2, q F1 H1 _ e1 fun F2 H2 f1 h1 fh => ⟨fun i hi => ⟨hi, fun x H3 y => ?_⟩, Nat.le_refl _⟩⟩
    obtain ⟨rfl, rfl⟩ := y
    refine ⟨F2, Ext.refl fh, ?_⟩
    have e : (0 : Int) + (i : Int) = (i : Int) := by lia
    rw [e]
    exact Rep.int
theorem ev_maxI {i j : Int} (a : EvB K G H₀ L ss ta (.int i)) (b : EvB K G H₀ L ss tb (.int j)) : Ev K G H₀ L ss (tCB (fun xs H Q => ∃ i j, xs = [.int i, .int j] ∧ Q (.int (if j > i then j else i)) H) (tCons ta (tCons tb tNil))) (.int (if j > i then j else i)) := fun F H σ Q S q =>
  a F H σ _ S fun v F1 H1 e1 r1 => b F1 H1 σ _ (S.ext2 e1) fun v2 F2 H2 e2 r2 => by
    rw [r1.of_int, r2.of_int]
    exact ⟨i, j, rfl, q _ F2 H2 (e1.trans e2) Rep.int⟩
theorem ev_minI {i j : Int} (a : EvB K G H₀ L ss ta (.int i)) (b : EvB K G H₀ L ss tb (.int j)) : Ev K G H₀ L ss (tCB (fun xs H Q => ∃ i j, xs = [.int i, .int j] ∧ Q (.int (if j < i then j else i)) H) (tCons ta (tCons tb tNil))) (.int (if j < i then j else i)) := fun F H σ Q S q =>
  a F H σ _ S fun v F1 H1 e1 r1 => b F1 H1 σ _ (S.ext2 e1) fun v2 F2 H2 e2 r2 => by
    rw [r1.of_int, r2.of_int]
    exact ⟨i, j, rfl, q _ F2 H2 (e1.trans e2) Rep.int⟩
theorem ev_gt {i j : Int} (a : EvB K G H₀ L ss ta (.int i)) (b : EvB K G H₀ L ss tb (.int j)) : Ev K G H₀ L ss (tOp (rI0 fun i j => .bl (decide (j < i))) ta tb) (.bl (decide (j < i))) := ev_cmpI (g := fun i j => decide (j < i)) a b
theorem ev_le {i j : Int} (a : EvB K G H₀ L ss ta (.int i)) (b : EvB K G H₀ L ss tb (.int j)) : Ev K G H₀ L ss (tOp (rI0 fun i j => .bl (decide (i ≤ j))) ta tb) (.bl (decide (i ≤ j))) := ev_cmpI (g := fun i j => decide (i ≤ j)) a b
theorem ev_ge {i j : Int} (a : EvB K G H₀ L ss ta (.int i)) (b : EvB K G H₀ L ss tb (.int j)) : Ev K G H₀ L ss (tOp (rI0 fun i j => .bl (decide (j ≤ i))) ta tb) (.bl (decide (j ≤ i))) := ev_cmpI (g := fun i j => decide (j ≤ i)) a b
theorem evo_listrev {ds : List D} (a : EvL K G H₀ L ss t ds) : EvO K G H₀ L ss (tListRev K (tCons t tNil)) ds.reverse := fun F H σ Q S q =>
  a F H σ _ S fun p vs F' H' e sq r => ⟨p, vs, rfl, sq, fun l hl => q l vs.reverse F' _ (e.newO hl) (e.hh.free hl) (e.fh.free hl) upd_same r.rev⟩
end
end L2

namespace L2
open PySem PySem.W PySem.Spec PyProof.Rows
def SpRD (K : PySem.W.Frag) (pre : List D → Prop) (R : List D → D → Prop) : Sp := fun vs H Q _ => ∃ G ds, Same G H ∧ Reps K G ds vs ∧ pre ds ∧ ∀ r, R ds r → ∀ v G' H', Ext G H G' H' → Rep K G' r v → Q v H'
section
variable {K : PySem.W.Frag} {H : Hp} {vs : List V} {Q : VK} {X : XK} {N : List Str} {t : TS} {pre : List D → Prop} {R : List D → D → Prop}
theorem go_spRD (h : SpRD K pre R vs H Q X) (hN : vs.length ≤ N.length) (body : ∀ G ds, pre ds → (∀ r, R ds r → RtD K G H Q r) → Go K G H G { nx := fun _ H' => Q .non H', rt := Q } (slots N.length ds) t) : t { nx := fun _ H' => Q .non H', rt := Q } (start N vs) H := by
  obtain ⟨G, ds, sm, r, hp, q⟩ := h
  exact body G ds hp (fun rs hR v F H' e r => q rs hR v F H' e r) G H _ (sat_start sm r hN)
theorem spRD_len {n : Nat} (hpre : ∀ ds, pre ds → ds.length = n) (h : SpRD K pre R vs H Q X) : vs.length = n := by
  obtain ⟨G, ds, sm, r, hp, q⟩ := h
  rw [← r.length]; exact hpre ds hp
end
section
variable {K : PySem.W.Frag} {G H₀ L : Hp} {ss : List Sl} {t : TA} {ds : List D} {pre : List D → Prop} {R : List D → D → Prop} {E : XK} {D0 : Ends} {ta tb te : TE} {i j : Int}
theorem go_asgRD {g : TG} (a : EvAF K G H₀ L ss t ds) (hp : pre ds) (h : ∀ r, R ds r → ∃ ss', Tg K G H₀ L g r ss ss' ∧ Nx K G H₀ L D0.nx ss') : Go K G H₀ L D0 ss (tAsg (tCall (SpRD K pre R) [] E t) g) := fun F H σ S =>
  a F H σ _ S fun vs F1 H1 e1 r1 => ⟨F1, ds, e1.fh, by rw [List.append_nil]; exact r1, hp, fun r hR v G' H' e2 rr => by
    obtain ⟨ss', tg, nx⟩ := h r hR
    exact tg _ H' σ _ _ (S.ext2 (e1.trans e2)) rr fun σ' S' => nx _ H' σ' S'⟩
theorem ev_isI (a : EvB K G H₀ L ss te (.int i)) : Ev K G H₀ L ss (tCB (fun xs H Q => ∃ x, xs = [.int x, .ty "int"] ∧ Q (.bl true) H) (tCons te (tCons (tC (.ty "int")) tNil))) (.bl true) := fun F H σ Q S q =>
  a F H σ _ S fun v F1 H1 e1 r1 => ⟨i, by rw [r1.of_int], q _ _ _ e1 Rep.bl⟩
theorem ev_isIB (a : EvB K G H₀ L ss te (.int i)) : Ev K G H₀ L ss (tCB (fun xs H Q => ∃ x, xs = [.int x, .ty "bool"] ∧ Q (.bl false) H) (tCons te (tCons (tC (.ty "bool")) tNil))) (.bl false) := fun F H σ Q S q =>
  a F H σ _ S fun v F1 H1 e1 r1 => ⟨i, by rw [r1.of_int], q _ _ _ e1 Rep.bl⟩
theorem ev_isB {b : Bool} (a : EvB K G H₀ L ss te (.bl b)) : Ev K G H₀ L ss (tCB (fun xs H Q => ∃ x, xs = [.bl x, .ty "bool"] ∧ Q (.bl true) H) (tCons te (tCons (tC (.ty "bool")) tNil))) (.bl true) := fun F H σ Q S q =>
  a F H σ _ S fun v F1 H1 e1 r1 => ⟨b, by rw [r1.of_bl], q _ _ _ e1 Rep.bl⟩
theorem ev_absI (a : EvB K G H₀ L ss te (.int i)) : Ev K G H₀ L ss (tCB (fun xs H Q => ∃ i, xs = [.int i] ∧ Q (.int (if i < 0 then -i else i)) H) (tCons te tNil)) (.int (if i < 0 then -i else i)) := fun F H σ Q S q =>
  a F H σ _ S fun v F1 H1 e1 r1 => ⟨i, by rw [r1.of_int], q _ _ _ e1 Rep.int⟩
theorem ev_neg (a : EvB K G H₀ L ss te (.int i)) : Ev K G H₀ L ss (tUn (rU fun i => .int (-i)) te) (.int (-i)) := fun F H σ Q S q =>
  a F H σ _ S fun v F1 H1 e1 r1 => ⟨i, by rw [r1.of_int], q _ _ _ e1 Rep.int⟩
theorem ev_pow (a : EvB K G H₀ L ss ta (.int i)) (b : EvB K G H₀ L ss tb (.int j)) (h : CPow i j) : Ev K G H₀ L ss (tOp (rI CPow fun i j => .int (i ^ j.toNat)) ta tb) (.int (i ^ j.toNat)) := ev_opI (C := CPow) (g := fun i j => i ^ j.toNat) a b h
end
end L2

namespace L2
open PySem PySem.W PySem.Spec PyProof.Rows PySem.Builtin PySem.Builtin.Str PySem.StrLaws
end L2

namespace L2
open PySem PySem.W PySem.Spec PyProof.Rows PySem.Builtin PySem.Builtin.Str
end L2

namespace L2
open PySem PySem.W PySem.Spec PyProof.Rows
def SpG {α : Type} (K : PySem.W.Frag) (pre : α → List D → Prop) (res : α → D) : Sp := fun vs H Q _ => ∃ (G : Hp) (ds : List D) (x : α), Same G H ∧ Reps K G ds vs ∧ pre x ds ∧ ∀ v G' H', Ext G H G' H' → Rep K G' (res x) v → Q v H'
section
variable {α : Type} {K : PySem.W.Frag} {H : Hp} {vs : List V} {Q : VK} {X : XK} {N : List Str} {t : TS} {pre : α → List D → Prop} {res : α → D}
theorem go_spG (h : SpG K pre res vs H Q X) (hN : vs.length ≤ N.length) (body : ∀ G ds x, pre x ds → RtD K G H Q (res x) → Go K G H G { nx := fun _ H' => Q .non H', rt := Q } (slots N.length ds) t) : t { nx := fun _ H' => Q .non H', rt := Q } (start N vs) H := by
  obtain ⟨G, ds, x, sm, r, hp, q⟩ := h
  exact body G ds x hp (fun v F H' e r => q v F H' e r) G H _ (sat_start sm r hN)
theorem spG_len {n : Nat} (hpre : ∀ x ds, pre x ds → ds.length = n) (h : SpG K pre res vs H Q X) : vs.length = n := by
  obtain ⟨G, ds, x, sm, r, hp, q⟩ := h
  rw [← r.length]; exact hpre x ds hp
end
section
variable {α : Type} {K : PySem.W.Frag} {G H₀ L : Hp} {ss : List Sl} {ta tb tc te : TE} {t : TA} {ds : List D} {E : XK} {pre : α → List D → Prop} {res : α → D}
theorem ev_callG (x : α) (a : EvAF K G H₀ L ss t ds) (hp : pre x ds) : Ev K G H₀ L ss (tCall (SpG K pre res) [] E t) (res x) := fun F H σ Q S q =>
  a F H σ _ S fun vs F1 H1 e1 r1 => ⟨F1, ds, x, e1.fh, by rw [List.append_nil]; exact r1, hp, fun v G' H' e2 r => q _ _ _ (e1.trans e2) r⟩
end
end L2

namespace L2
open PySem PySem.W PySem.Spec PyProof.Rows
theorem key_inj {a b : D} (ha : a.isK = true) (hb : b.isK = true) (h : a.key = b.key) : a = b := by
  cases a <;> cases b <;> simp [D.isK, D.key] at * <;> first | exact h | exact T_inj.mp h
theorem rep_key {K : PySem.W.Frag} {H : Hp} {d : D} {v : V} (hk : d.isK = true) (r : Rep K H d v) : v = kV d.key := by
  cases d <;> simp [D.isK] at hk
  · exact r.of_int
  · exact r.of_str
abbrev DD := List (D × D)
def valD (kvs : DD) (k : D) : Option D := (kvs.find? fun kv => decide (kv.1 = k)).map (·.2)
def putD (kvs : DD) (k d : D) : DD := if (kvs.any fun kv => decide (kv.1 = k)) = true then kvs.map (fun kv => if kv.1 = k then (kv.1, d) else kv) else kvs ++ [(k, d)]
inductive Dks (K : PySem.W.Frag) (F : Hp) : DD → List (Key × V) → Prop
  | nil : Dks K F [] []
  | cons {k d : D} {v : V} {kvs : DD} {xs : List (Key × V)} (hk : k.isK = true) (hr : Rep K F k (kV k.key)) (r : Rep K F d v) (t : Dks K F kvs xs) : Dks K F ((k, d) :: kvs) ((k.key, v) :: xs)
end L2

namespace L2
open PySem PySem.Spec PyProof.Rows
end L2

namespace L2
open PySem PySem.W PySem.Spec PyProof.Rows
abbrev KQ := List (D × Addr × List D)
end L2

namespace L2
open PySem PySem.Spec PyProof.Rows
end L2

namespace L2
open PySem PySem.W PySem.Spec PyProof.Rows
section
variable {K : PySem.W.Frag} {G H₀ L : Hp} {ss : List Sl} {i : Nat} {p : Addr} {kqs : KQ} {kvs : DD} {E : Ends} {tk tv : TE} {k d : D}
def rListRng : List V → Hp → VK → Prop := fun xs H Q => ∃ r a b c n, xs = [.ref r] ∧ H r = some (RngO r a b c) ∧ Builtin.Range.small a b c = true ∧ Builtin.Range.rangeSize a b c = ((n : Nat) : Int) ∧ n ≤ 1048576 ∧ ∀ l, H l = none → Q (.ref l) (upd H l (.lst ((List.range n).map fun (i : Nat) => .int (a + (i : Int) * c))))
theorem evo_listrange {ta : TE} {n : Nat} (a : EvB K G H₀ L ss ta (.int n)) (hn : n ≤ 1048576) : EvO K G H₀ L ss (tCB rListRng (tCons (tRng1 (tCons ta tNil)) tNil)) ((List.range n).map fun j : Nat => .int j) := fun F H σ Q S q =>
  a F H σ _ S fun v F1 H1 e1 r1 => by
    rw [r1.of_int]
    refine ⟨n, rfl, fun r hr => ⟨r, 0, n, 1, n, rfl, upd_same, ?_, ?_, hn, fun l hl => ?_⟩⟩
    · exact small_one (by decide) (by decide) (by lia) (by lia)
    · unfold Builtin.Range.rangeSize
      rw [if_pos (by decide)]
      split <;> lia
    · have hlr : l ≠ r := fun z => by rw [z, upd_same] at hl; cases hl
      have hl0 : H1 l = none := by rw [upd_ne hlr] at hl; exact hl
      refine q l _ F1 _ ((e1.newO hr).newO hl) (e1.hh.free hl0) (e1.fh.free hl0) upd_same ?_
      have e : ((List.range n).map fun i : Nat => V.int ((0 : Int) + (i : Int) * 1)) = (List.range n).map fun i : Nat => V.int (i : Int) := List.map_congr_left fun i _ => by rw [Int.mul_one, Int.zero_add]
      rw [e]
      have := Reps.ints (K := K) (H := F1) (p := l) ((List.range n).map fun i : Nat => (i : Int))
      rw [List.map_map, List.map_map] at this
      exact this
end
end L2

namespace L2
open PySem PySem.Spec PyProof.Rows
def Itz (K : PySem.W.Frag) (a b : Addr) : It :=
  ⟨fun i H => ∃ xs ys x y, SqL K H a xs ∧ SqL K H b ys ∧ xs[i]? = some x ∧ ys[i]? = some y,
   fun i H x H' => ∃ T0 vs, x = .ref T0 ∧ H T0 = none ∧ H' = upd H T0 (.tup vs) ∧ ∀ xs ys, SqL K H a xs → SqL K H b ys → ∃ u v, xs[i]? = some u ∧ ys[i]? = some v ∧ vs = [u, v],
   fun i H => ∃ xs ys, SqL K H a xs ∧ SqL K H b ys ∧ min xs.length ys.length = i⟩
theorem turn_zip {P : Program} {w : World} {K : PySem.W.Frag} {elts : List Expr} {kk : Nat} {tp : Pos} (z TI TO i1 i2 a b : Addr) (D0 : ZipApart z TI TO i1 i2 a b) :
    Turn P w K (.Tuple elts kk tp) (Itz K a b) [z, TI, TO, i1, i2] z (fun i h => IsZip h z TI TO .none ∧ IsPair h TI (.ref i1) (.ref i2) ∧ (∃ c d, IsPair h TO c d) ∧ h.IsListIter i1 a i ∧ h.IsListIter i2 b i) where
  mem := by simp
  obj := fun i h st c hc => by
    obtain ⟨s1, s2, ⟨c1, d1, s3⟩, ⟨o4, s4, _, e4⟩, ⟨o5, s5, _, e5⟩⟩ := st
    simp only [List.mem_cons, List.not_mem_nil, or_false] at hc
    rcases hc with rfl | rfl | rfl | rfl | rfl
    · exact ⟨_, s1, fun v q => by cases q⟩
    · exact ⟨_, s2, fun v q => by cases q⟩
    · exact ⟨_, s3, fun v q => by cases q⟩
    · exact ⟨o4, s4, fun v q => by rw [e4] at q; cases q⟩
    · exact ⟨o5, s5, fun v q => by rw [e5] at q; cases q⟩
  keep := fun i h h' st k => by
    obtain ⟨s1, s2, ⟨c1, d1, s3⟩, s4, s5⟩ := st
    exact ⟨k z (by simp) _ s1, k TI (by simp) _ s2, ⟨c1, d1, k TO (by simp) _ s3⟩, s4.at fun o x => k i1 (by simp) o x, s5.at fun o x => k i2 (by simp) o x⟩
  item := by
    intro X hP hw hK hc i pins s σ H E I hf st hg
    subst hP hw hK
    obtain ⟨xs, ys, x, y, hq, hr, hx, hy⟩ := hg
    obtain ⟨its, rv, p, hz⟩ := I.list hq
    obtain ⟨jts, rv2, p2, hz2⟩ := I.list hr
    obtain ⟨u, hu, ru⟩ := rv.get hx
    obtain ⟨u2, hu2, ru2⟩ := rv2.get hy
    have hil : i < its.length := (List.getElem?_eq_some_iff.mp hu).1
    have hil2 : i < jts.length := (List.getElem?_eq_some_iff.mp hu2).1
    have W0 := WalksT.zip2 (prog := X.prog) (w := X.w) (A := X.A) (show X.A.handled = none from I.ok.hd hc) z TI TO i1 i2 a b D0 its.toArray jts.toArray
    obtain ⟨s1, s2, s3, s4, s5⟩ := st
    refine W0.item i s _ _ (by simp; lia) ⟨s1, s2, s3, s4, s5, p.isList, p2.isList⟩ fun T0 vals h1 tk hp hle ht mid kk => ?_
    obtain ⟨v, v2, hv, hv2, rfl⟩ := hp
    have hv : its[i]? = some v := by simpa using hv
    have hv2 : jts[i]? = some v2 := by simpa using hv2
    rw [hu] at hv; cases hv
    rw [hu2] at hv2; cases hv2
    have fresh : H T0 = none := I.hok.fresh hle
    have hfw : ∀ c ∈ [z, TO, i1, i2], FpOk X pins H c := fun c hc => hf c (by simp only [List.mem_cons, List.not_mem_nil, or_false] at hc ⊢; rcases hc with h | h | h | h <;> simp [h])
    have I1 : Inv X pins σ (upd H T0 (.tup [x, y])) { s with heap := h1, toks := tk } := I.turnsT (wr := [z, TO, i1, i2]) hfw kk hle ht (.cons ru (.cons ru2 .nil)) (by rw [sizeLine_eq]; simp)
    refine ⟨.ref T0, rfl, W0.go elts _ tp i T0 _ _ _ mid fun h2 st2 k2 => ?_⟩
    have hlt : ∀ c ∈ [z, TI, TO, i1, i2], c ≠ T0 := fun c hc q => by
      have old : ∃ o, s.heap.get? c = some o := by
        obtain ⟨c1, d1, s3⟩ := s3
        obtain ⟨o4, s4, _⟩ := s4
        obtain ⟨o5, s5, _⟩ := s5
        simp only [List.mem_cons, List.not_mem_nil, or_false] at hc
        rcases hc with rfl | rfl | rfl | rfl | rfl
        · exact ⟨_, s1⟩
        · exact ⟨_, s2⟩
        · exact ⟨_, s3⟩
        · exact ⟨_, s4⟩
        · exact ⟨_, s5⟩
      obtain ⟨o, ho⟩ := old
      exact absurd (Nat.lt_of_lt_of_le (Heap.lt_size ho) (q ▸ hle)) (Nat.lt_irrefl _)
    have hf1 : ∀ c ∈ [z, TO, i1, i2], FpOk X pins (upd H T0 (.tup [x, y])) c := fun c hc => ⟨by rw [upd_ne (hlt c (by simp only [List.mem_cons, List.not_mem_nil, or_false] at hc ⊢; rcases hc with h | h | h | h <;> simp [h]))]; exact (hfw c hc).1, (hfw c hc).2⟩
    exact ⟨.ref T0, _, I1.turns (t' := tk) hf1 k2, rfl, ⟨T0, _, rfl, fresh, rfl, fun ys1 ys2 g1 g2 => ⟨x, y, by rw [I.list_inj g1 hq]; exact hx, by rw [I.list_inj g2 hr]; exact hy, rfl⟩⟩, ⟨st2.1, st2.2.1, st2.2.2.1, st2.2.2.2.1, st2.2.2.2.2.1⟩, fun c hc => by rw [upd_ne (hlt c hc)]; exact (hf c hc).1⟩
  done := by
    intro X hP hw hK hc i pins s σ H E I hf st hg
    subst hP hw hK
    obtain ⟨xs, ys, hq, hr, hx⟩ := hg
    obtain ⟨its, rv, p, hz⟩ := I.list hq
    obtain ⟨jts, rv2, p2, hz2⟩ := I.list hr
    have hl := rv.length
    have hl2 := rv2.length
    have W0 := WalksT.zip2 (prog := X.prog) (w := X.w) (A := X.A) (show X.A.handled = none from I.ok.hd hc) z TI TO i1 i2 a b D0 its.toArray jts.toArray
    have hs : min its.toArray.size jts.toArray.size = i := by simp; lia
    rw [hs] at W0
    obtain ⟨s1, s2, s3, s4, s5⟩ := st
    have hfw : ∀ c ∈ [z, TO, i1, i2], FpOk X pins H c := fun c hc => hf c (by simp only [List.mem_cons, List.not_mem_nil, or_false] at hc ⊢; rcases hc with h | h | h | h <;> simp [h])
    exact W0.done s _ _ ⟨s1, s2, s3, s4, s5, p.isList, p2.isList⟩ fun h1 tk kk => ⟨rfl, I.turns (wr := [z, TO, i1, i2]) hfw kk⟩
  self := fun A i s Q E st h => wpAny_pyIter_zip st.1 h
section
variable {X : Cx} {e : Expr} {ta : TA} {elts : List Expr} {kk : Nat} {tp p pos : Pos}
def iZip (K : PySem.W.Frag) (ta : TA) : TI := fun σ H R => ta σ H fun vs H1 => ∃ a b, vs = [.ref a, .ref b] ∧ (∃ xs, SqL K H1 a xs) ∧ (∃ ys, SqL K H1 b ys) ∧ R (Itz K a b) H1
theorem pi_zip_list {e2 : Expr} (hg : Gl X "zip") (hm : X.mg "zip" = none) (hA : PA X [e, e2] ta) (hs : starEach [e, e2] X.env = (false, eval e X.env) :: starEach [e2] X.env := by rfl) (hp : (backTo pos (starEach [e2] X.env)).any (·.1) = false := by rfl) :
    PI X (.Tuple elts kk tp) (.Call (.Name "zip" p) [e, e2] [] pos) (iZip X.K ta) := by
  intro pins s σ H R I h
  refine Call_ (ld_blt I hg hm PyProof.Rows.Boot.zip (PyProof.Rows.callWith_type1 (thn (hA pos pins s σ H _ I h) fun us s1 ⟨vs, H1, I1, r1, q1⟩ => ?_) hs hp))
  obtain ⟨a, b, rfl, ⟨xs, hq⟩, ⟨ys, hr⟩, q⟩ := q1
  obtain ⟨u, u2, rfl, ru, ru2⟩ := vals2 r1
  cases ru
  cases ru2
  obtain ⟨its, rv, p, hz⟩ := I1.list hq
  obtain ⟨jts, rv2, p2, hz2⟩ := I1.list hr
  refine call_zip_2 p.isList p2.isList fun h1 hzp hTI hTO hi1 hi2 hsz hk => ?_
  have I2 : Inv X pins σ H1 { s1 with heap := h1 } := I1.kept (t' := s1.toks) hk
  refine wpAny_pyIter_zip hzp ?_
  have hlt : a < s1.heap.objs.size := by obtain ⟨o, ho, _⟩ := p.isList; exact Heap.lt_size ho
  have hlt2 : b < s1.heap.objs.size := by obtain ⟨o, ho, _⟩ := p2.isList; exact Heap.lt_size ho
  have ap := zipApart_new hlt hlt2
  refine ⟨s1.heap.objs.size + 4, [s1.heap.objs.size + 4, s1.heap.objs.size + 2, s1.heap.objs.size + 3, s1.heap.objs.size, s1.heap.objs.size + 1], _, _, H1, rfl, I2, turn_zip _ _ _ _ _ a b ap, ⟨hzp, hTI, ⟨_, _, hTO⟩, hi1, hi2⟩, fun c hc => ?_, q⟩
  have hcs : s1.heap.objs.size ≤ c := by
    simp only [List.mem_cons, List.not_mem_nil, or_false] at hc
    rcases hc with rfl | rfl | rfl | rfl | rfl <;> first | exact Nat.le_refl _ | exact Nat.le_add_right _ _
  exact I1.fpOk hcs (I1.hok.fresh hcs)
end
end L2

namespace L2
open PySem PySem.Spec PyProof.Rows
open AutoSeq1 (wpAny_loadPart')
end L2

namespace L2
open PySem PySem.Spec PyProof.Rows
end L2

namespace L2
open PySem PySem.Spec PyProof.Rows PySem.Builtin PySem.Builtin.Str
def SpGO {α : Type} (K : PySem.W.Frag) (pre : α → List D → Prop) (res : α → List D) : Sp := fun vs H Q _ => ∃ (G : Hp) (ds : List D) (x : α), Same G H ∧ Reps K G ds vs ∧ pre x ds ∧
  ∀ p ws G' H', Ext G H G' H' → H p = none → G' p = none → H' p = some (.lst ws) → Reps K G' (res x) ws → Q (.ref p) H'
section
variable {α : Type} {K : PySem.W.Frag} {H : Hp} {vs : List V} {Q : VK} {X : XK} {N : List Str} {t : TS} {pre : α → List D → Prop} {res : α → List D}
theorem go_spGO (h : SpGO K pre res vs H Q X) (hN : vs.length ≤ N.length) (body : ∀ G ds x, pre x ds → RtO K G H Q (res x) → Go K G H G { nx := fun _ H' => Q .non H', rt := Q } (slots N.length ds) t) : t { nx := fun _ H' => Q .non H', rt := Q } (start N vs) H := by
  obtain ⟨G, ds, x, sm, r, hp, q⟩ := h
  exact body G ds x hp (fun p ws F H' e h1 h2 h3 h4 => q p ws F H' e h1 h2 h3 h4) G H _ (sat_start sm r hN)
theorem spGO_len {n : Nat} (hpre : ∀ x ds, pre x ds → ds.length = n) (h : SpGO K pre res vs H Q X) : vs.length = n := by
  obtain ⟨G, ds, x, sm, r, hp, q⟩ := h
  rw [← r.length]; exact hpre x ds hp
end
section
variable {α : Type} {K : PySem.W.Frag} {G H₀ L : Hp} {ss : List Sl} {t : TA} {ds : List D} {E : XK} {pre : α → List D → Prop} {res : α → List D}
theorem evo_callGO (x : α) (a : EvAF K G H₀ L ss t ds) (hp : pre x ds) : EvO K G H₀ L ss (tCall (SpGO K pre res) [] E t) (res x) := fun F H σ Q S q =>
  a F H σ _ S fun vs F1 H1 e1 r1 => ⟨F1, ds, x, e1.fh, by rw [List.append_nil]; exact r1, hp, fun p ws G' H' e2 h1 h2 h3 r => q _ _ _ _ (e1.trans e2) (e1.hh.free h1) h2 h3 r⟩
end
end L2

namespace L2
open PySem PySem.W PySem.Spec PyProof.Rows
structure ITell (K : PySem.W.Frag) (C : Addr) : Prop where
  ha : findIn K (.ref C) "__class__" = some (some (.builtin "object.__class__"))
  hn : specialIn K (.builtin "object.__class__") "__get__" = some (some (.builtin "getset_descriptor.__get__"))
  tk : takesIn K (.builtin "object.__class__") = some true
  hm : mroIn K C (.type "object") = some true
end L2

namespace L2
open PySem PySem.W PySem.Spec PyProof.Rows
end L2

namespace L2
open PySem PySem.Spec PyProof.Rows
section
variable {X : Cx}
theorem sortedD_call {prog : Program} {w : World} {A : Around} {E : Value → Shared → Prop} {s : Shared} {T : String} {r d : Addr} {n : Nat} {P : Nat → Value → Prop} {OK : Heap → Prop} {Q : Value → Shared → Prop} (K : PySem.W.KdlSrc prog w T r d n P OK) (Out : List Value → Array Value → Prop) (hh : A.handled = none) (hok : OK s.heap) (hn : n ≤ sizeLine)
    (hs : ∀ (vs : List Value) (g : Heap) (h' : Heap) (tk : Nat), ItemsOf P vs.toArray n → 2 ≤ vs.length → Keeps s.heap g → Keeps g h' → Sorts prog w A.in1.in1 { s with heap := h', toks := tk } vs (Out vs)) (h1 : ∀ vs : List Value, ItemsOf P vs.toArray n → vs.length < 2 → Out vs vs.toArray)
    (h : ∀ (vs : List Value) out c (g : Heap) (h' : Heap) (tk : Nat), ItemsOf P vs.toArray n → Keeps s.heap g → Keeps g h' → h'.get? g.objs.size = some (seqObj "list" out c) → out.size = vs.length → Out vs out → Q (.ref g.objs.size) { s with heap := h', toks := tk }) :
    wpAny (model prog w) A (call (.builtin "sorted") [.ref r]) Q E s := by
  refine Calls.call_function_entry kind_sorted plain_sorted entry_sorted (args_sorted1 _) ?_
  unfold Builtin.«sorted»
  refine wpAny_bind (m := checkCount "sorted" 1 1 _) (wpAny_pure ?_)
  refine wpAny_bind (PySem.W.kdu_collect K (by simp [hh]) hok hn fun g1 tk acc K1 hacc => ?_)
  generalize hvs : acc.toList = vs
  have hacc : ItemsOf P vs.toArray n := by rw [← hvs]; simpa using hacc
  have hz : vs.length ≤ sizeLine := by
    have := hacc.1
    simp at this
    lia
  refine wpAny_bind (wpAny_newList ?_ hz)
  dsimp only
  have hg : (g1.push { cls := .type "list", data := .seq vs.toArray }).get? g1.objs.size = some (seqObj "list" vs.toArray 0) := Heap.get?_push_size _ rfl
  have k2 : Keeps g1 (g1.push { cls := .type "list", data := .seq vs.toArray }) := fun b u e => Heap.get?_push_of_some _ e
  have ne : ∀ b u, g1.get? b = some u → b ≠ g1.objs.size := fun b u e => Nat.ne_of_lt (Heap.lt_size e)
  refine wpAny_bind (wpAny_holding (wpAny_call_entry slot_list_sort ⟨_, hg, rfl⟩ entry_list_sort (sort_shell (s := { s with heap := g1.push { cls := .type "list", data := .seq vs.toArray }, toks := tk }) (Out vs) hg hz
    (fun h2 h' k => hs vs g1 h' tk hacc h2 K1 fun b u e => k b u (ne b u e) (k2 b u e)) (h1 vs hacc) fun out c h' k hc hsz hO => ⟨_, rfl, ?_⟩) (args_list_sort _)))
  exact wpAny_pure ⟨_, rfl, h vs out c g1 h' tk hacc K1 (fun b u e => k b u (ne b u e) (k2 b u e)) hc hsz hO⟩
end
end L2

namespace L2
open PySem PySem.W PySem.Spec PyProof.Rows
end L2

namespace L2
open PySem PySem.W PySem.Spec PyProof.Rows
end L2

namespace L2
open PySem PySem.W PySem.Spec PyProof.Rows PySem.Calls Builtin Builtin.ObjectAttr Builtin.Getset_descriptor
structure XTell (K : PySem.W.Frag) (C : Addr) : Prop where
  ga : findIn K (.ref C) "__getattribute__" = some (some (.builtin "BaseException.__getattribute__"))
  gt : findIn K (.ref C) "__getattr__" = some none
  mb : mroIn K C (.type "BaseException") = some true
  fc : findIn K (.ref C) "__class__" = some (some (.builtin "object.__class__"))
  sp : specialIn K (.builtin "object.__class__") "__get__" = some (some (.builtin "getset_descriptor.__get__"))
  tk : takesIn K (.builtin "object.__class__") = some true
  mo : mroIn K C (.type "object") = some true
  dc : hasDictIn K C = true
end L2

namespace L2
open PySem PySem.W PyProof.Rows
end L2

namespace L2
open PySem PySem.W PyProof.Rows
end L2

namespace L2
open PySem PySem.W PySem.Spec PyProof.Rows
abbrev QS := List (Addr × List D)
section
variable {K : PySem.W.Frag} {G H₀ L : Hp} {ss : List Sl} {i : Nat} {p : Addr} {kqs : KQ} {kvs : DD} {qs : QS} {E : Ends} {D0 : XK} {t : TA} {te ta td : TE} {d : D} {ds : List D} {dss : List (List D)} {pre : List D → Prop} {res : List D → List (List D)}
mutual
def D.nm : D → Bool
  | .lst _ => false
  | .dct ks vs => D.nms ks && D.nms vs
  | .dctT _ _ => false
  | .ins _ _ _ => false
  | .tup a => D.nms a
  | _ => true
def D.nms : List D → Bool
  | [] => true
  | a :: x => a.nm && D.nms x
end
def cut (F : Hp) (as : List Addr) : Hp := fun b => if b ∈ as then none else F b
end
end L2

namespace L2
open PySem PySem.W PySem.Spec PyProof.Rows
end L2

namespace L2
open PySem PySem.W PyProof.Rows
end L2

namespace L2
open PySem PySem.W PyProof.Rows
end L2

namespace L2
open PySem PySem.W PyProof.Rows
end L2

namespace L2
open PySem PySem.W PyProof.Rows
end L2

namespace L2
open PySem PySem.W PyProof.Rows
section
variable {X : Cx} {pins : List (Addr × Obj)} {σ : St} {H : Hp} {s : Shared} {A' : Around}
def D.hd : D → D
  | .tup (h :: _) => h
  | d => d
end
end L2

namespace L2
open PySem PySem.W PySem.Spec PyProof.Rows
def ItemsO (r d : Addr) : HO := .ext fun h => h.IsItemsView r d
section
variable {X : Cx} {pins : List (Addr × Obj)} {σ : St} {H : Hp} {s : Shared} {A' : Around}
theorem vals_refs : ∀ as : List Addr, Vals (as.map V.ref) (as.map Value.ref)
  | [] => .nil
  | _ :: as => .cons rfl (vals_refs as)
def prD (q : D × D) : D := .tup [q.1, q.2]
end
end L2

namespace L2
open PySem PySem.W PySem.Spec PyProof.Rows
structure DE (h : Heap) (d : Addr) (es : Array DictEntry) (ep : Nat) : Prop where
  ob : ∃ o, h.get? d = some o ∧ o.ExactDict ∧ o.data = .dict es ep
theorem DE.typeIs {s : Shared} {d : Addr} {es : Array DictEntry} {ep : Nat} (x : DE s.heap d es ep) : s.TypeIs (.ref d) "dict" := let ⟨o, ho, hc, _⟩ := x.ob; ⟨o, ho, hc.1⟩
theorem DE.at {h h' : Heap} {d : Addr} {es : Array DictEntry} {ep : Nat} (x : DE h d es ep) (k : ∀ o, h.get? d = some o → h'.get? d = some o) : DE h' d es ep := let ⟨o, ho, r⟩ := x.ob; ⟨o, k o ho, r⟩
section
variable {prog : Program} {w : World} {A : Around} {E : Value → Shared → Prop} {s : Shared} {d v it : Addr} {es : Array DictEntry} {ep i : Nat}
theorem de_view {Q : Value → Shared → Prop} (hd : (d == sysModules) = false) (x : DE s.heap d es ep) (h : Q (.ref s.heap.objs.size) { s with heap := s.heap.push { cls := .type "dict_items", data := .fields #[.ref d] } }) :
    wpAny (model prog w) A (call (.builtin "dict.items") [.ref d]) Q E s := by
  refine wpAny_call_entry PySem.F.slot_dict_items x.typeIs PySem.F.entry_dict_items ?_ (PySem.F.args_dict_items_1 _)
  unfold Builtin.«dict.items» Builtin.Dict.noArgs
  refine wpAny_bind (wpAny_bind (wpAny_notOrdered_dict x.typeIs (wpAny_pure ?_)))
  unfold Builtin.Dict.showsAll
  simp only [hd, Bool.false_eq_true, if_false]
  exact wpAny_bind (wpAny_pure (wpAny_bind (wpAny_newObj_type (wpAny_pure ⟨_, rfl, h⟩))))
theorem de_iter {Q : Value → Shared → Prop} (hv : s.heap.IsItemsView v d) (x : DE s.heap d es ep)
    (h : ∀ h1, IsItemIter h1 s.heap.objs.size d 0 es.size ep .none .none → (∀ b o, s.heap.get? b = some o → h1.get? b = some o) → h1.objs.size = s.heap.objs.size + 1 → Q (.ref s.heap.objs.size) { s with heap := h1 }) :
    wpAny (model prog w) A (pyIter (.ref v)) Q E s := by
  obtain ⟨o, ho, hc, hdat⟩ := id x.ob
  obtain ⟨y, hy, _, hyd⟩ := id hv
  refine wpAny_pyIter_slot hv.typeIs PySem.F.slot_dict_items_iter (wpAny_call_entry PySem.F.slot_dict_items_iter hv.typeIs PySem.F.entry_dict_items_iter ?_ (PySem.F.args_dict_items_iter_1 _))
  unfold Builtin.«dict_items.__iter__» Builtin.Dict_items.dictOf Builtin.Dict_items.newIterator
  refine wpAny_bind (wpAny_pure (wpAny_bind (wpAny_bind (wpAny_field hy hyd (i := 0) (x := .ref d) rfl (wpAny_pure (wpAny_bind (wpAny_bind (wpAny_dictEntries ho hdat (wpAny_bind (wpAny_dictEpoch ho hdat ?_))))))))))
  have e1 : Builtin.Dict_items.ownsTuple "dict_itemiterator" = true := by decide
  rw [e1]
  refine wpAny_newObj_type (wpAny_pure ⟨_, rfl, "dict_itemiterator", _, ⟨_, Heap.get?_push_size _ rfl, rfl⟩, PySem.F.slot_dict_itemiterator_next.lookup, ?_⟩) (by simp [sizeOk, Builtin.Dict_items.ownedTupleFields, sizeLine_eq])
  refine h _ ?_ (fun b u e => Heap.get?_push_of_some _ e) (Heap.size_push ..)
  exact Heap.get?_push_size _ rfl

theorem own_items : Builtin.Dict_items.ownsTuple "dict_itemiterator" = true := by decide
theorem wno {α : Type} {c : Prop} [Decidable c] {m1 m2 : Sem α} {Q : α → Shared → Prop} (hc : ¬ c) (h : wpAny (model prog w) A m2 Q E s) : wpAny (model prog w) A (if c then m1 else m2) Q E s := by rw [if_neg hc]; exact h
theorem de_pair {Q : Value → Shared → Prop} {ok ov key val : Value} {n : Nat} (st : IsItemIter s.heap it d i n ep ok ov)
    (h : ∀ h1, IsItemIterOut h1 it d i n ep key val s.heap.objs.size → h1.get? s.heap.objs.size = some { cls := .type "tuple", data := .seq #[key, val] } → h1.objs.size = s.heap.objs.size + 1 →
      (∀ b o, b ≠ it → s.heap.get? b = some o → h1.get? b = some o) → Q (.ref s.heap.objs.size) { s with heap := h1 }) :
    wpAny (model prog w) A (Builtin.Dict_items.pairFromOwner (.ref it) 6 key val) Q E s := by
  obtain ⟨hp, g, dr, tk, os⟩ := s
  have lt : it < hp.objs.size := Heap.lt_size st
  unfold Builtin.Dict_items.pairFromOwner Builtin.Dict_items.ownedTupleIsFree
  refine wpAny_bind (wpAny_newTuple ?_)
  have a1 : IsItemIter (hp.push { cls := .type "tuple", data := .seq #[key, val] }) it d i n ep ok ov := Heap.get?_push_of_some _ st
  have t1 : (hp.push { cls := .type "tuple", data := .seq #[key, val] }).get? hp.objs.size = some { cls := .type "tuple", data := .seq #[key, val] } := Heap.get?_push_size _ rfl
  have k1 : ∀ b o, b ≠ it → hp.get? b = some o → (hp.push { cls := .type "tuple", data := .seq #[key, val] }).get? b = some o := fun b o _ e => Heap.get?_push_of_some _ e
  have z1 : (hp.push { cls := .type "tuple", data := .seq #[key, val] }).objs.size = hp.objs.size + 1 := Heap.size_push ..
  show wpAny _ _ _ _ _ ⟨hp.push { cls := .type "tuple", data := .seq #[key, val] }, g, dr, tk, os⟩
  revert a1 t1 k1 z1
  generalize hp.push { cls := .type "tuple", data := .seq #[key, val] } = q1
  intro a1 t1 k1 z1
  refine wpAny_bind (wpAny_bind (wpAny_field a1 rfl (i := 0) (x := .none) rfl (wpAny_pure ?_)))
  rw [if_pos rfl]
  refine wpAny_bind (wpAny_field a1 rfl (i := 6) (x := ok) rfl (wpAny_bind (wpAny_field a1 rfl (i := 7) (x := ov) rfl ?_)))
  refine wpAny_bind (wpAny_setField_rec a1 (by simp) fun q2 a2 b2 => wpAny_bind (wpAny_setField_rec a2 (by simp) fun q3 a3 b3 => wpAny_bind (wpAny_setField_rec a3 (by simp) fun q4 a4 b4 => wpAny_bind (wpAny_setField_rec a4 (by simp) fun q5 a5 b5 => wpAny_bind (wpAny_letGo (wpAny_pure ?_))))))
  have kk : ∀ b o, b ≠ it → q1.get? b = some o → q5.get? b = some o := fun b o hb e => b5.extBut b o hb (b4.extBut b o hb (b3.extBut b o hb (b2.extBut b o hb e)))
  exact h q5 a5 (kk _ _ (Nat.ne_of_gt lt) t1) (by rw [b5.1, b4.1, b3.1, b2.1]; exact z1) fun b o hb e => kk b o hb (k1 b o hb e)
theorem de_turn {Q : Option Value → Shared → Prop} {ok ov : Value} (st : IsItemIter s.heap it d i es.size ep ok ov) (x : DE s.heap d es ep)
    (hyes : ∀ e, es[i]? = some e → ∀ h1, IsItemIterOut h1 it d (i + 1) es.size ep e.key e.val s.heap.objs.size → h1.get? s.heap.objs.size = some { cls := .type "tuple", data := .seq #[e.key, e.val] } → h1.objs.size = s.heap.objs.size + 1 →
      (∀ b o, b ≠ it → s.heap.get? b = some o → h1.get? b = some o) → Q (some (.ref s.heap.objs.size)) { s with heap := h1 })
    (hh : es[i]? = none → A.handled = none) (hno : es[i]? = none → ∀ h1, Heap.ExtBut it s.heap h1 → Q none { s with heap := h1 }) :
    wpAny (model prog w) A (pyNext (.ref it)) Q E s := by
  obtain ⟨hp, g, dr, tk, os⟩ := s
  obtain ⟨o, ho, hc, hdat⟩ := id x.ob
  have ty : Shared.TypeIs ⟨hp, g, dr, tk, os⟩ (.ref it) "dict_itemiterator" := ⟨_, st, rfl⟩
  unfold pyNext
  refine wpAny_bind (wpAny_attempt (wpAny_callSpecial?_slot (name := Str.ofString "__next__") ty PySem.F.slot_dict_itemiterator_next (wpAny_call_entry PySem.F.slot_dict_itemiterator_next ty PySem.F.entry_dict_itemiterator_next ?_ (PySem.F.args_dict_itemiterator_next_1 _))))
  refine wpAny_bind (wpAny_pure (wpAny_bind (wpAny_bind (wpAny_bind (wpAny_typeNameOfWhole_itemiter ty (wpAny_pure (wpAny_bind (wpAny_fieldsOf st rfl ?_))))))))
  rw [own_items]
  refine wno (show ¬ (Value.ref d == Value.none) = true from Bool.false_ne_true) (wpAny_bind (wpAny_pure (wpAny_bind (wpAny_dictEntries ho hdat (wno (by simp) (wpAny_bind (wpAny_pure (wpAny_bind (wpAny_dictEpoch ho hdat (wno (by simp) (wpAny_pure ?_)))))))))))
  have ni : ¬ ((i : Int) < 0) := by omega
  cases he : es[i]? with
  | some e =>
    simp only [if_neg ni, Int.toNat_natCast, he]
    refine wpAny_bind (wpAny_bind (wpAny_typeNameOfWhole_itemiter ty (wpAny_pure (wpAny_bind (wpAny_isOneOf_itemiter ty ?_)))))
    refine wpAny_bind (wpAny_setField_rec st (by rw [own_items]; simp) fun q1 a1 b1 => ?_)
    have a1 : IsItemIter q1 it d (i + 1) es.size ep ok ov := a1
    have ty1 : Shared.TypeIs ⟨q1, g, dr, tk, os⟩ (.ref it) "dict_itemiterator" := ⟨_, a1, rfl⟩
    refine wpAny_bind (wpAny_holding (wpAny_bind (wpAny_isOneOf_itemiter ty1 (wpAny_bind (wpAny_isOneOf_itemiter ty1 ?_)))))
    have z1 : q1.objs.size = hp.objs.size := b1.1
    refine de_pair a1 fun q2 o2 t2 z2 k2 => wpAny_pure ⟨_, rfl, wpAny_pure ?_⟩
    have o2 : IsItemIterOut q2 it d (i + 1) es.size ep e.key e.val q1.objs.size := o2
    rw [show Shared.heap ⟨q1, g, dr, tk, os⟩ = q1 from rfl, z1] at *
    exact hyes e he q2 o2 t2 z2 fun b u hb e => k2 b u hb (b1.extBut b u hb e)
  | none =>
    simp only [if_neg ni, Int.toNat_natCast, he]
    refine wpAny_bind (wpAny_bind (wpAny_typeNameOfWhole_itemiter ty (wpAny_pure ?_)))
    refine wpAny_bind (wpAny_setField st rfl (by rw [own_items]; simp) (wpAny_bind ?_))
    simp only [newExc, newTuple]
    refine wpAny_bind (wpAny_newObj_type (wpAny_bind (m := firstArgMember _ _) (wpAny_of_eq (a := Value.none) (by first | rfl | (simp only [firstArgMember]; rfl)) (wpAny_newObj_type ?_ (by size_fits)))) (by size_fits))
    simp only [raiseNew]
    refine wpAny_bind (wpAny_handled ?_)
    rw [show A.in1.handled = none from hh he]
    refine wpAny_bind (wpAny_pure (wpAny_throw ?_))
    refine wpAny_bind (wpAny_isInstance (b := true) (T := "StopIteration") ⟨_, Heap.get?_push_size _ rfl, rfl⟩ isSubtype_stop (wpAny_pure ?_))
    exact (hno he _ (((Heap.SameBut.update ..).extBut.push _).push _))
end
def ItM (d : Addr) (o : Obj) (kvs : List (List Key × V)) : It :=
  ⟨fun i H => i < kvs.length ∧ H d = some (.frz o (.dT kvs)),
   fun i H x H' => ∃ T0 b k v, x = .ref T0 ∧ kvs[i]? = some (k, v) ∧ H T0 = none ∧ H b = some (.tup (k.map kV)) ∧ H' = upd H T0 (.tup [.ref b, v]),
   fun i H => kvs.length ≤ i ∧ H d = some (.frz o (.dT kvs))⟩
theorem Paired.get {α β : Type} {R : α → β → Prop} : ∀ {l₁ : List α} {l₂ : List β}, Paired R l₁ l₂ → ∀ (i : Nat) (a : α), l₁[i]? = some a → ∃ b, l₂[i]? = some b ∧ R a b
  | _, _, .nil, i, a, h => by simp at h
  | _, _, .cons r t, 0, a, h => by simp at h; subst h; exact ⟨_, rfl, r⟩
  | _, _, .cons r t, i + 1, a, h => by simpa using Paired.get t i a (by simpa using h)
theorem Paired.len {α β : Type} {R : α → β → Prop} : ∀ {l₁ : List α} {l₂ : List β}, Paired R l₁ l₂ → l₁.length = l₂.length
  | _, _, .nil => rfl
  | _, _, .cons r t => by simp [Paired.len t]
section
variable {X : Cx} {pins : List (Addr × Obj)} {σ : St} {H : Hp} {s : Shared} {d it : Addr} {o : Obj} {kvs : List (List Key × V)} {es : Array DictEntry} {ep i : Nat}
theorem Inv.deM (I : Inv X pins σ H s) (e : H d = some (.frz o (.dT kvs))) (ho : o.data = .dict es ep) : DE s.heap d es ep ∧ es.size = kvs.length ∧
    ∀ (i : Nat) k v, kvs[i]? = some (k, v) → ∃ b u en, es[i]? = some en ∧ en.key = .ref b ∧ en.val = u ∧ H b = some (.tup (k.map kV)) ∧ RelV v u := by
  obtain ⟨h0, z, y, xs, r, o', es', ep', h1, h2, h3, h4, h5⟩ := I.hok d _ e
  rw [h0] at h1
  cases h1
  rw [ho] at h3
  cases h3
  have hl := Paired.len r
  have hz : es.size = xs.length := by rw [← Array.length_toList, h4, List.length_map]
  refine ⟨⟨o, h0, h2, ho⟩, by omega, fun i k v hk => ?_⟩
  obtain ⟨⟨k', b, u⟩, hb, e1, e2, e3⟩ := Paired.get r i _ hk
  have e1 : k = k' := e1
  subst e1
  have : es.toList[i]? = some (entryOfKey (tupleKind (mixKind X.prog X.w)) (k, b, u)) := by rw [h4, List.getElem?_map, hb]; rfl
  exact ⟨b, u, _, by simpa using this, rfl, rfl, e2, e3⟩
theorem turn_itemsM {P : Program} {w : World} {K : PySem.W.Frag} {elts : List Expr} {kk : Nat} {tp : Pos} (d it : Addr) (o : Obj) (kvs : List (List Key × V)) (es : Array DictEntry) (ep : Nat) (ho : o.data = .dict es ep) (hz : es.size = kvs.length) :
    Turn P w K (.Tuple elts kk tp) (ItM d o kvs) [it] it (fun i h => ∃ ok ov, IsItemIter h it d i es.size ep ok ov) where
  mem := by simp
  obj := fun i h st b hb => by
    obtain ⟨ok, ov, st⟩ := st
    rw [List.mem_singleton.mp hb]
    exact ⟨_, st, fun v z => by cases z⟩
  keep := fun i h h' st k => let ⟨ok, ov, e⟩ := st; ⟨ok, ov, k it (by simp) _ e⟩
  item := by
    intro X hP hw hK hc i pins s σ H E I hf st hg
    subst hP hw hK
    obtain ⟨hi, e⟩ := hg
    obtain ⟨ok, ov, st⟩ := st
    obtain ⟨de, _, at'⟩ := I.deM e ho
    obtain ⟨k, v, hkv⟩ : ∃ k v, kvs[i]? = some (k, v) := ⟨kvs[i].1, kvs[i].2, by rw [List.getElem?_eq_getElem hi]⟩
    obtain ⟨b, u, en, h1, h2, h3, h4, h5⟩ := at' i k v hkv
    have hne := fun c (hc : c ∈ [it]) => (show c = it by simpa using hc)
    refine de_turn st de (fun en' he h' out ht hsz kk => ?_) (fun z => by rw [h1] at z; cases z) fun z => by rw [h1] at z; cases z
    rw [h1] at he
    cases he
    have hT0 : H s.heap.objs.size = none := I.hok.fresh (Nat.le_refl _)
    rw [h2, h3] at ht
    have I1 : Inv X pins σ (upd H s.heap.objs.size (.tup [.ref b, v])) { s with heap := h' } := I.turnsT (t' := s.toks) (wr := [it]) hf (fun c oc hc e => kk c oc (fun z => hc (by simp [z])) e) (Nat.le_refl _) ⟨_, ht, rfl, _, rfl⟩ (.cons rfl (.cons h5 .nil)) (by rw [sizeLine_eq]; simp)
    have hitlt : it ≠ s.heap.objs.size := Nat.ne_of_lt (Heap.lt_size st)
    refine ⟨_, rfl, wpAny_letOwnedTupleGo_items out fun h2' st2 sb => ?_⟩
    have hf1 : ∀ c ∈ [it], FpOk X pins (upd H s.heap.objs.size (.tup [.ref b, v])) c := fun c hc => ⟨by rw [hne c hc, upd_ne hitlt, ← hne c hc]; exact (hf c hc).1, (hf c hc).2⟩
    exact ⟨.ref s.heap.objs.size, _, I1.turns (t' := s.toks) (wr := [it]) hf1 (fun c oc hc e => sb.extBut c oc (fun z => hc (by simp [z])) e), rfl, ⟨_, b, k, v, rfl, hkv, hT0, h4, rfl⟩, ⟨_, _, st2⟩, fun c hc => by rw [hne c hc, upd_ne hitlt, ← hne c hc]; exact (hf c hc).1⟩
  done := by
    intro X hP hw hK hc i pins s σ H E I hf st hg
    subst hP hw hK
    obtain ⟨hi, e⟩ := hg
    obtain ⟨ok, ov, st⟩ := st
    obtain ⟨de, _, _⟩ := I.deM e ho
    have hno : es[i]? = none := Array.getElem?_eq_none (by omega)
    exact de_turn st de (fun en he => by rw [hno] at he; cases he) (fun _ => I.ok.hd hc) fun _ h1 eb => ⟨rfl, I.turns (t' := s.toks) (wr := [it]) hf fun c oc hc e => eb c oc (fun z => hc (by simp [z])) e⟩
  self := fun A i s Q E st h => by
    obtain ⟨ok, ov, st⟩ := st
    exact PySem.W.kcp_self st h
def rItemsT : V → List V → Hp → VK → Prop := fun x vs H Q => ∃ d o kvs, x = .ref d ∧ vs = [] ∧ H d = some (.frz o (.dT kvs)) ∧ ∀ r, H r = none → Q (.ref r) (upd H r (ItemsO r d))
theorem mt_itemsT : MtR X "dict.items" rItemsT := by
  intro pins s σ H x xs v us Q I rx rs h
  obtain ⟨d, o, kvs, rfl, rfl, e, q⟩ := h
  obtain rfl : v = Value.ref d := rx
  cases rs
  obtain ⟨h0, z, y, xs, r, o', es', ep', h1, h2, h3, h4, h5⟩ := I.hok d _ e
  refine de_view (es := es') (ep := ep') y ⟨_, h1, h2, h3⟩ ?_
  have I2 : Inv X pins σ (upd H s.heap.objs.size (ItemsO s.heap.objs.size d)) { s with heap := s.heap.push { cls := .type "dict_items", data := .fields #[.ref d] } } :=
    I.laid (t' := s.toks) (fun _ _ q => Heap.get?_push_of_some _ q) (Nat.le_refl _) ⟨⟨_, Heap.get?_push_size _ rfl, rfl, rfl⟩, ⟨_, Heap.get?_push_size _ rfl⟩, fun h1 h2 ⟨o, ho, r⟩ k => ⟨o, k _ ho, r⟩⟩
  exact ⟨.ref s.heap.objs.size, _, I2, rfl, q _ I.fresh⟩
def tItM (td : TE) : TE := fun σ H Q => td σ H fun x H1 => rItemsT x [] H1 Q
theorem pe_itemsT {o : Expr} {apos cpos : Pos} {td : TE} (ho : PE X o td) (hbase : attributeBase o "items" X.env (eval o X.env) = eval o X.env := by rfl) (hline : (apos.endLine == cpos.line) = true := by rfl) : PE X (.Call (.Attribute o "items" apos) [] [] cpos) (tItM td) := by
  intro pins s σ H Q I h
  refine wpAny_Call_method0_late hbase hline (thn (ho pins s σ H _ I h) fun v s1 ⟨x, H1, I1, r1, q1⟩ => ?_)
  obtain ⟨d, o, kvs, ex, _, hd, _⟩ := id q1
  subst ex
  obtain rfl : v = Value.ref d := r1
  obtain ⟨h1, h2, _⟩ := isD_at I1 (.inr ⟨kvs, .inr ⟨o, hd⟩⟩)
  exact ⟨"dict", "dict.items", PySem.F.plainAttrs_dict, PySem.F.slot_dict_items, PySem.F.type_dict_items, h1, h2, Calls.callWith_builtin rfl (PySem.evalArgs_none (mt_itemsT pins s1 σ H1 (.ref d) [] _ [] Q I1 rfl .nil q1))⟩
def iItM (te : TE) : TI := fun σ H R => te σ H fun v H1 => ∃ r d o kvs, v = .ref r ∧ H1 r = some (ItemsO r d) ∧ H1 d = some (.frz o (.dT kvs)) ∧ R (ItM d o kvs) H1
theorem pi_itemsM {e : Expr} {te : TE} {elts : List Expr} {kk : Nat} {tp : Pos} (hE : PE X e te) : PI X (.Tuple elts kk tp) e (iItM te) := by
  intro pins s σ H R I h
  refine thn (hE pins s σ H _ I h) fun u s1 ⟨x, H1, I1, r1, q1⟩ => ?_
  obtain ⟨r, d, o, kvs, rfl, hr, hd, q⟩ := q1
  obtain rfl : u = Value.ref r := r1
  obtain ⟨hv, _, _⟩ := I1.hok r _ hr
  obtain ⟨h0, z, y, xs, rl, o', es, ep, h1, h2, h3, h4, h5⟩ := I1.hok d _ hd
  rw [h0] at h1
  cases h1
  obtain ⟨de, hz, _⟩ := I1.deM hd h3
  refine de_iter hv de fun g1 st k hsz => ?_
  exact ⟨s1.heap.objs.size, [s1.heap.objs.size], _, _, H1, rfl, I1.kept (t' := s1.toks) k, turn_itemsM d _ o kvs es ep h3 hz, ⟨_, _, st⟩, fun b hb => by rw [List.mem_singleton.mp hb]; exact I1.fpOk (Nat.le_refl _) (I1.hok.fresh (Nat.le_refl _)), q⟩
def sFrz (t : TS) : TS := fun D σ H => ∃ a kvs, H a = some (.dT kvs) ∧ ∀ o, t D σ (upd H a (.frz o (.dT kvs)))
theorem Inv.frzT (I : Inv X pins σ H s) (e : H d = some (.dT kvs)) : ∃ o, Inv X pins σ (upd H d (.frz o (.dT kvs))) s := by
  have ok := I.hok d _ e
  obtain ⟨z, y, xs, r, o, es, ep, h1, h2⟩ := id ok
  have mu : Mut (H d) := by rw [e]; trivial
  refine ⟨o, I.write (t' := s.toks) (h' := s.heap) mu (.inl rfl) (fun _ _ _ q => q) ⟨o, h1⟩ ⟨h1, ?_⟩⟩
  have nt : ∀ b ys, H b = some (.tup ys) → b ≠ d := fun b ys q z => by rw [z, e] at q; cases q
  exact ⟨z, y, xs, Paired.mapP r fun p q w => ⟨w.1, by rw [upd_ne (nt _ _ w.2.1)]; exact w.2.1, w.2.2⟩, o, es, ep, h1, h2⟩
theorem ps_frz {st : Stmt} {t : TS} (h : PS X st t) : PS X st (sFrz t) := fun pins s σ H D I ⟨a, kvs, e, q⟩ => by
  obtain ⟨o, I'⟩ := I.frzT e
  exact h pins s σ _ D I' (q o)
end
end L2

namespace L2
open PySem PySem.W PySem.Spec PyProof.Rows
theorem keys_inj : ∀ {a b : List D}, a.all D.isK = true → b.all D.isK = true → a.map D.key = b.map D.key → a = b
  | [], [], _, _, _ => rfl
  | [], _ :: _, _, _, h => by cases h
  | _ :: _, [], _, _, h => by cases h
  | x :: a, y :: b, ha, hb, h => by
    rw [List.all_cons, Bool.and_eq_true] at ha hb
    rw [List.map_cons, List.map_cons] at h
    injection h with h1 h2
    rw [key_inj ha.1 hb.1 h1, keys_inj ha.2 hb.2 h2]
theorem tkey_inj {a b : D} (ha : a.isT = true) (hb : b.isT = true) (h : a.tkey = b.tkey) : a = b := by
  cases a <;> simp only [D.isT] at ha <;> try (cases ha; done)
  cases b <;> simp only [D.isT] at hb <;> try (cases hb; done)
  rw [keys_inj ha hb h]
theorem reps_keys {K : PySem.W.Frag} {H : Hp} : ∀ {l : List D} {vs : List V}, l.all D.isK = true → Reps K H l vs → vs = (l.map D.key).map kV
  | [], vs, _, r => by rw [Reps] at r; subst r; rfl
  | d :: l, vs, h, r => by
    rw [List.all_cons, Bool.and_eq_true] at h
    rw [Reps] at r
    obtain ⟨v, r', rfl, rv, r⟩ := r
    rw [List.map_cons, List.map_cons, rep_key h.1 rv, reps_keys h.2 r]
inductive Dkt (K : PySem.W.Frag) (F : Hp) : DD → List (List Key × V) → Prop
  | nil : Dkt K F [] []
  | cons {k d : D} {v : V} {kvs : DD} {xs : List (List Key × V)} (hk : k.isT = true) (r : Rep K F d v) (t : Dkt K F kvs xs) : Dkt K F ((k, d) :: kvs) ((k.tkey, v) :: xs)
section
variable {K : PySem.W.Frag} {F F' : Hp} {kvs : DD} {xs : List (List Key × V)}
theorem Dkt.mono (h : Dkt K F kvs xs) (s : Same F F') : Dkt K F' kvs xs := by
  induction h with
  | nil => exact .nil
  | cons hk r t ih => exact .cons hk (r.mono s) ih
theorem Dkt.length (h : Dkt K F kvs xs) : kvs.length = xs.length := by
  induction h with
  | nil => rfl
  | cons hk r t ih => simp [ih]
theorem Dkt.val (h : Dkt K F kvs xs) {k : D} (hk : k.isT = true) : (valD kvs k = none ∧ valV xs k.tkey = none) ∨ ∃ d v, valD kvs k = some d ∧ valV xs k.tkey = some v ∧ Rep K F d v := by
  induction h with
  | nil => exact .inl ⟨rfl, rfl⟩
  | @cons k' d v kvs xs hk' r t ih =>
    by_cases e : k' = k
    · subst e
      exact .inr ⟨d, v, by simp [valD], by simp [valV], r⟩
    · have e2 : k'.tkey ≠ k.tkey := fun z => e (tkey_inj hk' hk z)
      have h1 : valD ((k', d) :: kvs) k = valD kvs k := by simp [valD, List.find?_cons, e]
      have h2 : valV ((k'.tkey, v) :: xs) k.tkey = valV xs k.tkey := by simp [valV, List.find?_cons, e2]
      rw [h1, h2]; exact ih
theorem Dkt.any (h : Dkt K F kvs xs) {k : D} (hk : k.isT = true) : (kvs.any fun kv => decide (kv.1 = k)) = xs.any fun kv => decide (kv.1 = k.tkey) := by
  induction h with
  | nil => rfl
  | @cons k' d v kvs xs hk' r t ih =>
    rw [List.any_cons, List.any_cons, ih]
    congr 1
    by_cases e : k' = k
    · subst e; simp
    · have e2 : k'.tkey ≠ k.tkey := fun z => e (tkey_inj hk' hk z)
      rw [decide_eq_false e, decide_eq_false e2]
theorem Dkt.snoc (h : Dkt K F kvs xs) {k d : D} {v : V} (hk : k.isT = true) (r : Rep K F d v) : Dkt K F (kvs ++ [(k, d)]) (xs ++ [(k.tkey, v)]) := by
  induction h with
  | nil => exact .cons hk r .nil
  | cons hk' r' t ih => exact .cons hk' r' ih
theorem Dkt.put (h : Dkt K F kvs xs) {k d : D} {v : V} (hk : k.isT = true) (r : Rep K F d v) : Dkt K F (putD kvs k d) (putK xs k.tkey v) := by
  unfold putD putK
  rw [h.any hk]
  by_cases hc : (xs.any fun kv => decide (kv.1 = k.tkey)) = true
  · rw [if_pos hc, if_pos hc]
    clear hc
    induction h with
    | nil => exact .nil
    | @cons k' d' v' kvs xs hk' r' t ih =>
      rw [List.map_cons, List.map_cons]
      by_cases e : k' = k
      · subst e; rw [if_pos rfl, if_pos rfl]; exact .cons hk' r ih
      · have e2 : k'.tkey ≠ k.tkey := fun z => e (tkey_inj hk' hk z)
        rw [if_neg e, if_neg e2]; exact .cons hk' r' ih
  · rw [if_neg hc, if_neg hc]; exact h.snoc hk r
end
def dWT (K : PySem.W.Frag) (p : Addr) (kvs : DD) : Hp → Hp → Prop := fun F H => ∃ xs, H p = some (.dT xs) ∧ Dkt K F kvs xs
def dslT (K : PySem.W.Frag) (p : Addr) (kvs : DD) : Sl := .g (.ref p) [p] (dWT K p kvs)
theorem dWT_stab (K : PySem.W.Frag) (p : Addr) (kvs : DD) : Stab [p] (dWT K p kvs) := fun F1 H1 F2 H2 sf hh ⟨xs, h1, h2⟩ => ⟨xs, by rw [hh p (by simp)]; exact h1, h2.mono sf⟩
section
variable {K : PySem.W.Frag} {G H₀ L : Hp} {ss : List Sl} {i j : Nat} {p b : Addr} {kvs : DD} {E : Ends} {ty td tv tx : TE} {t : TA} {k d z : D} {ds : List D}
theorem Sat.getMT {F H : Hp} {σ : St} (S : Sat K G H₀ L F H σ ss) (hs : ss[i]? = some (dslT K p kvs)) : σ[i]? = some (some (.ref p)) ∧ H₀ p = none ∧ F p = none ∧ ∃ xs, H p = some (.dT xs) ∧ Dkt K F kvs xs := by
  obtain ⟨v, e, ew, ha, hw, st⟩ := S.get hs (by intro z; cases z)
  cases ew
  obtain ⟨h0, fp, _⟩ := ha p (by simp)
  exact ⟨e, h0, fp, hw⟩
theorem Sat.writeMT {F H : Hp} {σ : St} {kvs' : DD} {xs : List (List Key × V)} (S : Sat K G H₀ L F H σ ss) (hs : ss[i]? = some (dslT K p kvs)) (r : Dkt K F kvs' xs) : Sat K G H₀ L F (upd H p (.dT xs)) σ (ss.set i (dslT K p kvs')) := by
  obtain ⟨e, h0, fp, ys, hp, _⟩ := S.getMT hs
  have hget : σ.getD i none = some (.ref p) := by rw [List.getD_eq_getElem?_getD, e]; rfl
  refine S.put (S.ext.write fp h0) S.fl rfl (fun _ _ => rfl) (fun _ => ?_) (by simp [dslT, Sl.ads]) (fun j s' hj h q hq => ?_) fun j s' hj h => (S.ok j s' h).updNe (S.ne i j _ s' (Ne.symm hj) hs h p (by simp [dslT, Sl.ads]))
  · rw [hget]
    exact ⟨rfl, fun a ha => by rw [List.mem_singleton.mp ha]; exact ⟨h0, fp, _, upd_same, trivial⟩, ⟨xs, upd_same, r⟩, dWT_stab K p kvs'⟩
  · have : q = p := by simpa [dslT, Sl.ads] using hq
    subst this
    exact S.ne i j _ s' (Ne.symm hj) hs h q (by simp [dslT, Sl.ads])
theorem go_setMT (h : ∀ p, Nx K G H₀ L E.nx (ss.set i (dslT K p []))) : Go K G H₀ L E ss (tAsg tDNewT (gName i)) := fun F H σ S p hp => by
  have e := (Ext.refl S.ext.fh).newO (o := .dT []) hp
  have S' := S.ext2 e
  refine h p F _ _ (S'.put S'.ext S'.fl (by simp) (fun j hj => getD_set_ne (Ne.symm hj)) (fun hi => ?_) (by simp [dslT, Sl.ads]) (fun j s' hj hs q hq => ?_) fun j s' hj hs => S'.ok j s' hs)
  · rw [getD_set_self (by rw [S.len]; exact hi)]
    exact ⟨rfl, fun a ha => by rw [List.mem_singleton.mp ha]; exact ⟨S.ext.hh.free hp, S.ext.fh.free hp, _, upd_same, trivial⟩, ⟨[], upd_same, .nil⟩, dWT_stab K p []⟩
  · have : q = p := by simpa [dslT, Sl.ads] using hq
    subst this
    exact fun hin => (S.ok j s' hs).live hin hp
end
end L2

namespace L2
open PySem PySem.Spec PyProof.Rows
section
variable {K : PySem.W.Frag} {G H₀ L : Hp} {ss : List Sl} {i j : Nat} {p b : Addr} {kvs : DD} {E : Ends} {ty td tv tx : TE} {t : TA} {k d z : D} {ds : List D}
theorem key_at {F H : Hp} {v : V} (r : Rep K F (.tup ds) v) (hk : ds.all D.isK = true) (hi : hasInt ds = true) (fh : Same F H) : ∃ b, v = .ref b ∧ H b = some (.tup ((D.tup ds).tkey.map kV)) := by
  obtain ⟨b, vs, rfl, hb, rs⟩ := r.trk hi
  exact ⟨b, rfl, by rw [fh _ _ hb, reps_keys hk rs]; rfl⟩
theorem ev_dgetK (hs : ss[i]? = some (dslT K p kvs)) (b : Ev K G H₀ L ss ty (.tup ds)) (hk : ds.all D.isK = true) (hi : hasInt ds = true) (hv : valD kvs (.tup ds) = some d) : Ev K G H₀ L ss (tDGet (tVar i) ty) d := fun F H σ Q S q => by
  obtain ⟨e, _⟩ := S.getMT hs
  refine ⟨_, e, b F H σ _ S fun v F1 H1 e1 r1 => ?_⟩
  have S1 := S.ext2 e1
  obtain ⟨_, _, _, xs, hp, dk⟩ := S1.getMT hs
  obtain ⟨b', rfl, hb⟩ := key_at r1 hk hi S1.ext.fh
  rcases dk.val (k := .tup ds) hk with ⟨h1, _⟩ | ⟨d', w, h1, h2, rw'⟩
  · rw [h1] at hv; cases hv
  · rw [h1] at hv; cases hv
    refine ⟨p, w, rfl, ?_, q w F1 H1 e1 rw'⟩
    rw [← h2]
    exact DGet.t hp hb
theorem go_dputK (hs : ss[i]? = some (dslT K p kvs)) (a : Ev K G H₀ L ss tv d) (b : Ev K G H₀ L ss ty (.tup ds)) (hk : ds.all D.isK = true) (hi : hasInt ds = true) (hz : kvs.length < sizeLine) (h : Nx K G H₀ L E.nx (ss.set i (dslT K p (putD kvs (.tup ds) d)))) : Go K G H₀ L E ss (sDPut (tVar i) ty tv) := fun F H σ S =>
  a F H σ _ S fun v F1 H1 e1 r1 => by
    have S1 := S.ext2 e1
    obtain ⟨e, _⟩ := S1.getMT hs
    refine ⟨_, e, b F1 H1 σ _ S1 fun y F2 H2 e2 r2 => ?_⟩
    have S2 := S1.ext2 e2
    obtain ⟨_, _, _, xs, hp, dk⟩ := S2.getMT hs
    obtain ⟨b', rfl, hb⟩ := key_at r2 hk hi S2.ext.fh
    exact ⟨p, _, rfl, DPut.t (k := (D.tup ds).tkey) (v := v) hp hb (by rw [← dk.length]; exact hz), h F2 _ σ (S2.writeMT hs (dk.put hk (r1.mono e2.gf)))⟩
end
end L2

namespace L2
open PySem PySem.W PySem.Spec PyProof.Rows
def D.dicT (kvs : DD) : D := .dctT (kvs.map (·.1)) (kvs.map (·.2))
theorem dkt_of {K : PySem.W.Frag} {F : Hp} : ∀ {kvs : DD} {kv : List (List Key × V)}, (kvs.map (·.1)).all D.isT = true → (kv.map fun q => q.1) = (kvs.map (·.1)).map D.tkey → Reps K F (kvs.map (·.2)) (kv.map fun q => q.2) → Dkt K F kvs kv
  | [], [], _, _, _ => .nil
  | [], _ :: _, _, h, _ => by simp at h
  | _ :: _, [], _, h, _ => by simp at h
  | (k, d) :: kvs, (q, v) :: kv, ha, h, r => by
    rw [List.map_cons, List.all_cons, Bool.and_eq_true] at ha
    simp only [List.map_cons, List.cons.injEq] at h
    rw [List.map_cons, List.map_cons, Reps] at r
    obtain ⟨x, r', e, rv, rr⟩ := r
    cases e
    obtain ⟨h1, h2⟩ := h
    have h1 : q = k.tkey := h1
    subst h1
    exact .cons ha.1 rv (dkt_of ha.2 h2 rr)
theorem Dkt.parts {K : PySem.W.Frag} {F : Hp} {kvs : DD} {xs : List (List Key × V)} (h : Dkt K F kvs xs) : (kvs.map (·.1)).all D.isT = true ∧ (xs.map fun q => q.1) = (kvs.map (·.1)).map D.tkey ∧ Reps K F (kvs.map (·.2)) (xs.map fun q => q.2) := by
  induction h with
  | nil => exact ⟨rfl, rfl, Reps.nil⟩
  | cons hk r t ih => exact ⟨by rw [List.map_cons, List.all_cons, hk, ih.1]; rfl, by simp only [List.map_cons]; rw [ih.2.1], Reps.cons r ih.2.2⟩
theorem Rep.of_dicT {K : PySem.W.Frag} {F : Hp} {kvs : DD} {v : V} (r : Rep K F (D.dicT kvs) v) : ∃ p o xs, v = .ref p ∧ F p = some (.frz o (.dT xs)) ∧ Dkt K F kvs xs := by
  unfold D.dicT at r
  rw [Rep] at r
  obtain ⟨p, kv, e, ⟨o, q⟩, ⟨h1, h2⟩, r2⟩ := r
  exact ⟨p, o, kv, e, q, dkt_of h1 h2 r2⟩
theorem Rep.dicT {K : PySem.W.Frag} {F : Hp} {kvs : DD} {p : Addr} {o : Obj} {xs : List (List Key × V)} (q : F p = some (.frz o (.dT xs))) (dk : Dkt K F kvs xs) : Rep K F (D.dicT kvs) (.ref p) := by
  obtain ⟨h1, h2, h3⟩ := dk.parts
  unfold D.dicT
  rw [Rep]
  exact ⟨p, xs, rfl, ⟨o, q⟩, ⟨h1, h2⟩, h3⟩
theorem DGet.tf {H : Hp} {a b : Addr} {o : Obj} {kvs : List (List Key × V)} {k : List Key} (e : H a = some (.frz o (.dT kvs))) (eb : H b = some (.tup (k.map kV))) : DGet H a (.ref b) (valV kvs k) := .inr ⟨kvs, k, b, .inr ⟨o, e⟩, rfl, eb, rfl⟩
def ItF (K : PySem.W.Frag) (J : It) (F' : Hp) (n : Nat) (y : Nat → D) : Prop := ∀ F2 H2, Same F' F2 → Same F2 H2 →
  (∀ i, i < n → J.go i H2 ∧ ∀ x H3, J.yld i H2 x H3 → ∃ F3, Ext F2 H2 F3 H3 ∧ Rep K F3 (y i) x) ∧ J.stop n H2
def EvF (K : PySem.W.Frag) (G H₀ L : Hp) (ss : List Sl) (wi : TI) (n : Nat) (y : Nat → D) : Prop := ∀ F H σ R, Sat K G H₀ L F H σ ss → (∀ F' H' J, Ext F H F' H' → ItF K J F' n y → R J H') → wi σ H R
section
variable {K : PySem.W.Frag} {G H₀ L : Hp} {ss : List Sl} {i j : Nat} {p b : Addr} {kvs : DD} {E : Ends} {ty td tv tx : TE} {t : TS} {k d z : D} {ds : List D} {wi : TI} {n : Nat} {y : Nat → D}
theorem EvF.evi (a : EvF K G H₀ L ss wi n y) : EvI K G H₀ L ss wi n y := fun F H σ R S q => a F H σ R S fun F' H' J e it => q F' H' J e fun F2 H2 f1 h1 fh => it F2 H2 f1 fh
theorem go_forF {g : TG} {tb : TS} (I : Nat → List Sl → Prop) (a : EvF K G H₀ L ss wi n y) (h0 : I 0 ss)
    (hs : ∀ L' k ss, Same L L' → k < n → I k ss → ∃ ss', Tg K G H₀ L' g (y k) ss ss' ∧ ∀ N, (∀ ss, I (k + 1) ss → Nx K G H₀ L' N ss) → Go K G H₀ L' { E with nx := N, ct := N, bk := E.nx } ss' tb)
    (hd : ∀ ss, I n ss → Nx K G H₀ L E.nx ss) : Go K G H₀ L E ss (tFor wi g tb) := fun F H σ S =>
  a F H σ _ S fun F1 H1 J e1 it => by
    refine ⟨fun i m σ' H' => m = n - i ∧ i ≤ n ∧ At K G H₀ F1 (I i) σ' H', ⟨_, rfl, Nat.zero_le _, ss, F1, (S.ext2 e1).raise, h0⟩, ?_⟩
    rintro i m σ' H' ⟨rfl, hi, ss1, F2, S2, h2⟩
    obtain ⟨it1, it2⟩ := it F2 H' S2.fl S2.ext.fh
    by_cases hlt : i < n
    · obtain ⟨go, yl⟩ := it1 i hlt
      refine .inr ⟨go, fun σ'' H'' => At K G H₀ F1 (I (i + 1)) σ'' H'', fun σ'' H'' h => ⟨n - (i + 1), by omega, rfl, hlt, h⟩, fun x H'' yx => ?_⟩
      obtain ⟨F3, e3, rx⟩ := yl x H'' yx
      obtain ⟨ss', tg, go⟩ := hs F1 i ss1 (S.fl.trans e1.gf) hlt h2
      exact tg F3 _ σ' x _ (S2.ext2 e3) rx fun σ3 S3 => go _ (fun ss h => nx_at h) F3 _ σ3 S3
    · have e : i = n := by omega
      subst e
      exact .inl ⟨it2, hd ss1 h2 F2 H' σ' (S2.lower (S.fl.trans e1.gf))⟩
theorem go_frz (hs : ss[i]? = some (dslT K p kvs)) (h : Go K G H₀ L E (ss.set i (.d (D.dicT kvs))) t) : Go K G H₀ L E ss (sFrz t) := fun F H σ S => by
  obtain ⟨e, h0, fp, xs, hp, dk⟩ := S.getMT hs
  have hget : σ.getD i none = some (.ref p) := by rw [List.getD_eq_getElem?_getD, e]; rfl
  refine ⟨p, xs, hp, fun o => h (upd F p (.frz o (.dT xs))) _ σ ?_⟩
  have hn : ∀ j s', j ≠ i → ss[j]? = some s' → p ∉ s'.ads := fun j s' hj h => S.ne i j _ s' (Ne.symm hj) hs h p (by simp [dslT, Sl.ads])
  exact S.put ((S.ext.write fp h0).freeze fp h0 upd_same) (S.fl.trans (Same.upd fp)) rfl (fun _ _ => rfl) (fun _ => by rw [hget]; exact ⟨_, rfl, Rep.dicT upd_same (dk.mono (Same.upd fp))⟩) (by simp [Sl.ads]) (fun _ _ _ _ q hq => by simp [Sl.ads] at hq)
    fun j s' hj h => ((S.ok j s' h).updNe (hn j s' hj h)).frz fp (hn j s' hj h)
theorem Dkt.at {F : Hp} {kvs : DD} {xs : List (List Key × V)} (h : Dkt K F kvs xs) : ∀ {i : Nat} {k : List Key} {v : V}, xs[i]? = some (k, v) → ∃ kd d, kvs[i]? = some (kd, d) ∧ k = kd.tkey ∧ Rep K F d v := by
  induction h with
  | nil => intro i k v h; simp at h
  | @cons k d v kvs xs hk r t ih =>
    intro i k' v' hi
    cases i with
    | zero => simp at hi; exact ⟨k, d, rfl, hi.1.symm, hi.2 ▸ r⟩
    | succ i => simpa using ih (by simpa using hi)
theorem some_dkt {F : Hp} {xs : List (List Key × V)} (dk : Dkt K F kvs xs) (hk : ds.all D.isK = true) : (valV xs (D.tup ds).tkey).isSome = (valD kvs (.tup ds)).isSome := by
  rcases dk.val (k := .tup ds) hk with ⟨h1, h2⟩ | ⟨d', w, h1, h2, _⟩ <;> rw [h1, h2] <;> rfl
theorem ev_dgetFT (a : Ev K G H₀ L ss td (D.dicT kvs)) (b : Ev K G H₀ L ss ty (.tup ds)) (hk : ds.all D.isK = true) (hi : hasInt ds = true) (hv : valD kvs (.tup ds) = some d) : Ev K G H₀ L ss (tDGet td ty) d := fun F H σ Q S q =>
  a F H σ _ S fun x F1 H1 e1 r1 => b F1 H1 σ _ (S.ext2 e1) fun v F2 H2 e2 r2 => by
    obtain ⟨p, o, xs, rfl, hp, dk⟩ := r1.of_dicT
    obtain ⟨b', rfl, hb⟩ := key_at r2 hk hi e2.fh
    rcases (dk.mono e2.gf).val (k := .tup ds) hk with ⟨h1, _⟩ | ⟨d', w, h1, h2, rw'⟩
    · rw [h1] at hv; cases hv
    · rw [h1] at hv; cases hv
      refine ⟨p, w, rfl, ?_, q w F2 H2 (e1.trans e2) rw'⟩
      rw [← h2]
      exact DGet.tf (e2.fh _ _ (e2.gf _ _ hp)) hb
theorem ev_dinFT (a : Ev K G H₀ L ss td (D.dicT kvs)) (b : Ev K G H₀ L ss ty (.tup ds)) (hk : ds.all D.isK = true) (hi : hasInt ds = true) : Ev K G H₀ L ss (tDIn ty td) (.bl (valD kvs (.tup ds)).isSome) := fun F H σ Q S q =>
  b F H σ _ S fun v F1 H1 e1 r1 => a F1 H1 σ _ (S.ext2 e1) fun x F2 H2 e2 r2 => by
    obtain ⟨p, o, xs, rfl, hp, dk⟩ := r2.of_dicT
    obtain ⟨b', rfl, hb⟩ := key_at (r1.mono e2.gf) hk hi e2.fh
    refine ⟨p, valV xs (D.tup ds).tkey, rfl, DGet.tf (e2.fh _ _ hp) hb, q _ F2 H2 (e1.trans e2) ?_⟩
    rw [some_dkt dk hk]; exact Rep.bl
theorem ev_dnotinFT (a : Ev K G H₀ L ss td (D.dicT kvs)) (b : Ev K G H₀ L ss ty (.tup ds)) (hk : ds.all D.isK = true) (hi : hasInt ds = true) : Ev K G H₀ L ss (tDNotIn ty td) (.bl (!(valD kvs (.tup ds)).isSome)) := fun F H σ Q S q =>
  b F H σ _ S fun v F1 H1 e1 r1 => a F1 H1 σ _ (S.ext2 e1) fun x F2 H2 e2 r2 => by
    obtain ⟨p, o, xs, rfl, hp, dk⟩ := r2.of_dicT
    obtain ⟨b', rfl, hb⟩ := key_at (r1.mono e2.gf) hk hi e2.fh
    refine ⟨p, valV xs (D.tup ds).tkey, rfl, DGet.tf (e2.fh _ _ hp) hb, q _ F2 H2 (e1.trans e2) ?_⟩
    rw [some_dkt dk hk]; exact Rep.bl
theorem ev_dget2FT (a : Ev K G H₀ L ss td (D.dicT kvs)) (b : Ev K G H₀ L ss ty (.tup ds)) (c : Ev K G H₀ L ss tx z) (hk : ds.all D.isK = true) (hi : hasInt ds = true) : Ev K G H₀ L ss (tDGet2 td ty tx) ((valD kvs (.tup ds)).getD z) := fun F H σ Q S q =>
  a F H σ _ S fun x F1 H1 e1 r1 => by
    obtain ⟨p, o, xs, rfl, hp, dk⟩ := r1.of_dicT
    refine ⟨p, rfl, .inr ⟨xs, .inr ⟨o, e1.fh _ _ hp⟩⟩, b F1 H1 σ _ (S.ext2 e1) fun v F2 H2 e2 r2 => c F2 H2 σ _ ((S.ext2 e1).ext2 e2) fun w F3 H3 e3 r3 => ?_⟩
    obtain ⟨b', rfl, hb⟩ := key_at (r2.mono e3.gf) hk hi e3.fh
    refine ⟨valV xs (D.tup ds).tkey, DGet.tf (e3.fh _ _ (e3.gf _ _ (e2.gf _ _ hp))) hb, q _ F3 H3 ((e1.trans e2).trans e3) ?_⟩
    rcases (dk.mono (e2.gf.trans e3.gf)).val (k := .tup ds) hk with ⟨h1, h2⟩ | ⟨d', u, h1, h2, ru⟩ <;> rw [h1, h2]
    · exact r3
    · exact ru
theorem ev_dget1FT (a : Ev K G H₀ L ss td (D.dicT kvs)) (b : Ev K G H₀ L ss ty (.tup ds)) (hk : ds.all D.isK = true) (hi : hasInt ds = true) : Ev K G H₀ L ss (tDGet1 td ty) ((valD kvs (.tup ds)).getD .non) := fun F H σ Q S q =>
  a F H σ _ S fun x F1 H1 e1 r1 => by
    obtain ⟨p, o, xs, rfl, hp, dk⟩ := r1.of_dicT
    refine ⟨p, rfl, .inr ⟨xs, .inr ⟨o, e1.fh _ _ hp⟩⟩, b F1 H1 σ _ (S.ext2 e1) fun v F2 H2 e2 r2 => ?_⟩
    obtain ⟨b', rfl, hb⟩ := key_at r2 hk hi e2.fh
    refine ⟨valV xs (D.tup ds).tkey, DGet.tf (e2.fh _ _ (e2.gf _ _ hp)) hb, q _ F2 H2 (e1.trans e2) ?_⟩
    rcases (dk.mono e2.gf).val (k := .tup ds) hk with ⟨h1, h2⟩ | ⟨d', u, h1, h2, ru⟩ <;> rw [h1, h2]
    · exact Rep.non
    · exact ru
theorem ev_dget2K (hs : ss[i]? = some (dslT K p kvs)) (b : Ev K G H₀ L ss ty (.tup ds)) (c : Ev K G H₀ L ss tx z) (hk : ds.all D.isK = true) (hi : hasInt ds = true) : Ev K G H₀ L ss (tDGet2 (tVar i) ty tx) ((valD kvs (.tup ds)).getD z) := fun F H σ Q S q => by
  obtain ⟨e, _, _, xs0, hp0, _⟩ := S.getMT hs
  refine ⟨_, e, p, rfl, .inr ⟨xs0, .inl hp0⟩, b F H σ _ S fun v F2 H2 e2 r2 => c F2 H2 σ _ (S.ext2 e2) fun w F3 H3 e3 r3 => ?_⟩
  obtain ⟨_, _, _, xs, hp, dk⟩ := ((S.ext2 e2).ext2 e3).getMT hs
  obtain ⟨b', rfl, hb⟩ := key_at (r2.mono e3.gf) hk hi e3.fh
  refine ⟨valV xs (D.tup ds).tkey, DGet.t hp hb, q _ F3 H3 (e2.trans e3) ?_⟩
  rcases dk.val (k := .tup ds) hk with ⟨h1, h2⟩ | ⟨d', u, h1, h2, ru⟩ <;> rw [h1, h2]
  · exact r3
  · exact ru
theorem reps_intk {F : Hp} : ∀ {es : List D}, (∀ d ∈ es, d.isInt = true) → Reps K F es ((es.map D.key).map kV)
  | [], _ => Reps.nil
  | d :: es, h => by
    have h1 := h d List.mem_cons_self
    cases d <;> simp [D.isInt] at h1
    exact Reps.cons Rep.int (reps_intk fun e he => h e (List.mem_cons_of_mem _ he))
theorem Ext.holdT {G H₀ F H : Hp} (x : Ext G H₀ F H) {b : Addr} {xs : List V} (hb : H b = some (.tup xs)) (h0 : ∀ o, H₀ b = some o → H₀ b = some (.tup xs)) : Ext G H₀ (upd F b (.tup xs)) H := by
  have sm : Same F (upd F b (.tup xs)) := fun c o e => by
    by_cases hc : c = b
    · subst hc; rw [upd_same]; have := x.fh c o e; rw [hb] at this; exact this
    · rw [upd_ne hc]; exact e
  refine ⟨x.gf.trans sm, fun c o e => ?_, x.hh, fun c o e nt => ?_⟩
  · by_cases hc : c = b
    · subst hc; rw [upd_same] at e; cases e; exact hb
    · rw [upd_ne hc] at e; exact x.fh c o e
  · have hc : c ≠ b := fun z => by subst z; have := h0 o e; rw [e] at this; cases this; exact nt
    rw [upd_ne hc]; exact x.no c o e nt
theorem evf_items (a : Ev K G H₀ L ss td (D.dicT kvs)) (hk : ∀ q ∈ kvs, ∃ es, q.1 = .tup es ∧ ∀ d ∈ es, d.isInt = true) : EvF K G H₀ L ss (iItM (tItM td)) kvs.length fun i => prD (kvs.getD i (.non, .non)) := fun F H σ R S q =>
  a F H σ _ S fun v F1 H1 e1 r1 => by
    obtain ⟨p, o, xs, rfl, hp, dk⟩ := r1.of_dicT
    refine ⟨p, o, xs, rfl, rfl, e1.fh _ _ hp, fun r hr => ?_⟩
    have e2 := e1.newO (o := ItemsO r p) hr
    have hpr : p ≠ r := fun z => by rw [← z, e1.fh _ _ hp] at hr; cases hr
    refine ⟨r, p, o, xs, rfl, upd_same, by rw [upd_ne hpr]; exact e1.fh _ _ hp, q F1 _ _ e2 fun F2 H2 f1 fh => ?_⟩
    have hp2 : H2 p = some (.frz o (.dT xs)) := fh _ _ (f1 _ _ hp)
    have hl := dk.length
    refine ⟨fun i hi => ⟨⟨by omega, hp2⟩, fun x H3 yx => ?_⟩, ⟨by omega, hp2⟩⟩
    obtain ⟨T0, b, k, v, rfl, hkv, hT, hb, rfl⟩ := yx
    obtain ⟨kd, dv, hkd, hkt, rv⟩ := dk.at hkv
    obtain ⟨es, he, hint⟩ := hk (kd, dv) (List.mem_of_getElem? hkd)
    have he : kd = .tup es := he
    subst he
    have e3 : Ext F2 H2 (upd F2 b (.tup (k.map kV))) H2 := (Ext.refl fh).holdT hb fun _ _ => hb
    have hTb : T0 ≠ b := fun z => by rw [← z, hT] at hb; cases hb
    have e4 := e3.newF (o := .tup [.ref b, v]) hT
    refine ⟨_, e4, ?_⟩
    show Rep K _ (prD (kvs.getD i (.non, .non))) _
    rw [List.getD_eq_getElem?_getD, hkd]
    refine Rep.tupN upd_same (Reps.cons (Rep.tupN (xs := k.map kV) (by rw [upd_ne (Ne.symm hTb)]; exact upd_same) ?_) (Reps.cons (rv.mono (f1.trans e4.gf)) Reps.nil))
    rw [hkt]
    exact reps_intk hint
end
end L2

namespace L2
open PySem PySem.W PySem.Spec PyProof.Rows
section
variable {prog : Program} {w : World} {A : Around} {E : Value → Shared → Prop} {s : Shared} {d it : Addr} {es : Array DictEntry} {ep i : Nat}
theorem own_keys : Builtin.Dict_items.ownsTuple "dict_keyiterator" = false := by decide
theorem de_iterK {Q : Value → Shared → Prop} (hd : (d == sysModules) = false) (x : DE s.heap d es ep)
    (h : Q (.ref s.heap.objs.size) { s with heap := s.heap.push { cls := .type "dict_keyiterator", data := .fields #[.ref d, .int 0 0, .int es.size 0, .int ep 0] } }) : wpAny (model prog w) A (pyIter (.ref d)) Q E s := by
  obtain ⟨o, ho, hc, hdat⟩ := id x.ob
  refine wpAny_pyIter_slot x.typeIs PySem.F.slot_dict_iter (wpAny_call_entry PySem.F.slot_dict_iter x.typeIs PySem.F.entry_dict_iter ?_ (PySem.F.args_dict_iter_1 _))
  unfold Builtin.«dict.__iter__» Builtin.Dict.dictSlotNone
  refine wpAny_bind (wpAny_bind (wpAny_notOrdered_dict x.typeIs (wpAny_pure ?_)))
  have nd : ¬ (d == sysModules) = true := by rw [hd]; exact Bool.false_ne_true
  refine wpAny_bind (m := Builtin.Dict.addrOf (.ref d)) (wpAny_pure (wpAny_bind (m := Builtin.Dict.showsAll d) (wno nd (wpAny_pure (wpAny_bind (wpAny_dictEntries ho hdat (wpAny_bind (wpAny_dictEpoch ho hdat (wpAny_bind ?_)))))))))
  exact wpAny_newObj_type (wpAny_pure ⟨_, rfl, "dict_keyiterator", _, ⟨_, Heap.get?_push_size _ rfl, rfl⟩, PySem.F.slot_dict_keyiterator_next.lookup, h⟩) (by simp [sizeOk, sizeLine_eq])
theorem de_turnK {Q : Option Value → Shared → Prop} (st : s.heap.IsKeyIter it d i es.size ep) (x : DE s.heap d es ep)
    (hyes : ∀ e, es[i]? = some e → ∀ h1, h1.IsKeyIter it d (i + 1) es.size ep → Heap.SameBut it s.heap h1 → Q (some e.key) { s with heap := h1 })
    (hh : es[i]? = none → A.handled = none) (hno : es[i]? = none → ∀ h1, Heap.ExtBut it s.heap h1 → Q none { s with heap := h1 }) :
    wpAny (model prog w) A (pyNext (.ref it)) Q E s := by
  obtain ⟨o, ho, hc, hdat⟩ := id x.ob
  obtain ⟨oi, hoi, hci, hdi⟩ := id st
  have ty := st.typeIs
  unfold pyNext
  refine wpAny_bind (wpAny_attempt (wpAny_callSpecial?_slot (name := Str.ofString "__next__") ty PySem.F.slot_dict_keyiterator_next (wpAny_call_entry PySem.F.slot_dict_keyiterator_next ty PySem.F.entry_dict_keyiterator_next ?_ (PySem.F.args_dict_keyiterator_next_1 _))))
  refine wpAny_bind (wpAny_pure (wpAny_bind (wpAny_bind (wpAny_bind (wpAny_typeNameOfWhole_keyiter ty (wpAny_pure (wpAny_bind (wpAny_fieldsOf hoi hdi ?_))))))))
  rw [own_keys]
  refine wno (show ¬ (Value.ref d == Value.none) = true from Bool.false_ne_true) (wpAny_bind (wpAny_pure (wpAny_bind (wpAny_dictEntries ho hdat (wno (by simp) (wpAny_bind (wpAny_pure (wpAny_bind (wpAny_dictEpoch ho hdat (wno (by simp) (wpAny_pure ?_)))))))))))
  have ni : ¬ ((i : Int) < 0) := by omega
  cases he : es[i]? with
  | some e =>
    simp only [if_neg ni, Int.toNat_natCast, he]
    refine wpAny_bind (wpAny_bind (wpAny_typeNameOfWhole_keyiter ty (wpAny_pure (wpAny_bind (wpAny_isOneOf_keyiter ty ?_)))))
    refine wpAny_bind (wpAny_setField hoi hdi (by rw [own_keys]; simp) ?_)
    have st1 : (s.heap.update it (Obj.mapFields (·.setIfInBounds 1 (rawInt ((i : Int) + 1))))).IsKeyIter it d (i + 1) es.size ep :=
      ⟨_, Heap.get?_update_self _ hoi (Obj.isFreed_of_fields (Obj.data_mapFields hdi _)), (Obj.cls_mapFields ..).trans hci, by rw [Obj.data_mapFields hdi]; simp [rawInt]⟩
    exact wpAny_bind (wpAny_holding (wpAny_bind (wpAny_isOneOf_keyiter (s := { s with heap := s.heap.update it (Obj.mapFields (·.setIfInBounds 1 (rawInt ((i : Int) + 1)))) }) st1.typeIs (wpAny_pure (wpAny_pure ⟨_, rfl, wpAny_pure (hyes e he _ st1 (Heap.SameBut.update ..))⟩)))))
  | none =>
    simp only [if_neg ni, Int.toNat_natCast, he]
    refine wpAny_bind (wpAny_bind (wpAny_typeNameOfWhole_keyiter ty (wpAny_pure ?_)))
    refine wpAny_bind (wpAny_setField hoi hdi (by rw [own_keys]; simp) (wpAny_bind ?_))
    simp only [newExc, newTuple]
    refine wpAny_bind (wpAny_newObj_type (wpAny_bind (m := firstArgMember _ _) (wpAny_of_eq (a := Value.none) (by first | rfl | (simp only [firstArgMember]; rfl)) (wpAny_newObj_type ?_ (by size_fits)))) (by size_fits))
    simp only [raiseNew]
    refine wpAny_bind (wpAny_handled ?_)
    rw [show A.in1.handled = none from hh he]
    refine wpAny_bind (wpAny_pure (wpAny_throw ?_))
    refine wpAny_bind (wpAny_isInstance (b := true) (T := "StopIteration") ⟨_, Heap.get?_push_size _ rfl, rfl⟩ isSubtype_stop (wpAny_pure ?_))
    exact (hno he _ (((Heap.SameBut.update ..).extBut.push _).push _))
theorem walks_de (hh : A.handled = none) (I d : Addr) (hne : d ≠ I) (es : Array DictEntry) (ep : Nat) :
    Walks prog w A I [I, d] [I] es.size (fun i v => ∃ e, es[i]? = some e ∧ v = e.key) (fun i h => h.IsKeyIter I d i es.size ep ∧ DE h d es ep) where
  sub := fun b hb => by simp at hb; simp [hb]
  frame := fun _ _ _ st hk => ⟨st.1.at fun o e => hk I (by simp) o e, st.2.at fun o e => hk d (by simp) o e⟩
  item := fun i s Q E hi st hQ => by
    refine de_turnK st.1 st.2 (fun e he h1 st1 sb => ?_) (fun z => absurd (Array.getElem?_eq_none_iff.mp z) (by omega)) fun z => absurd (Array.getElem?_eq_none_iff.mp z) (by omega)
    exact hQ e.key h1 s.toks ⟨e, he, rfl⟩ ⟨st1, st.2.at fun o e => sb.extBut d o hne e⟩ fun b o hb e => sb.extBut b o (fun z => hb (by simp [z])) e
  done := fun s Q E st hQ => de_turnK st.1 st.2 (fun e he => by have := (Array.getElem?_eq_some_iff.mp he).1; omega) (fun _ => hh) fun _ h1 eb => hQ h1 s.toks fun b o hb e => eb b o (fun z => hb (by simp [z])) e
  self := fun _ _ _ _ st hQ => wpAny_pyIter_keyiter st.1 hQ
theorem kdl_de (lo : (d == sysModules) = false) : KdlSrc prog w "dict" d d es.size (fun i v => ∃ e, es[i]? = some e ∧ v = e.key) (fun h => DE h d es ep) where
  type := fun _ x => x.typeIs
  there := fun _ x => let ⟨_, ho, _⟩ := x.ob; ⟨Heap.lt_size ho, Heap.lt_size ho⟩
  keep := fun _ _ x hk => x.at fun o e => hk d (.inl rfl) o e
  notList := by decide
  notTuple := by decide
  hint := fun _ _ _ _ x hq => kdl_hint_dict x.typeIs hq
  iter := fun _ s hh x => ⟨_, _, (fun _ _ hq => de_iterK lo x hq), walks_de hh _ d (by obtain ⟨o, ho, _⟩ := x.ob; exact Nat.ne_of_lt (Heap.lt_size ho)) es ep, ⟨⟨_, Heap.get?_push_size _ rfl, rfl, rfl⟩, x.at fun o e => Heap.get?_push_of_some _ e⟩⟩
end
section
variable {X : Cx}
def rSortT64 (K : PySem.W.Frag) : List V → Hp → VK → Prop := fun xs H Q => ∃ d kvs ds, xs = [.ref d] ∧ Rd H d (.dT kvs) ∧ (kvs.map fun q => q.1) = ds.map D.tkey ∧ (∀ e ∈ ds, ∃ l, e = .tup l ∧ ∀ z ∈ l, z.isInt = true) ∧ Alike ds ∧ ds.length < 64 ∧
  ∀ l (as : List Addr) (pm : List Nat), as.length = ds.length → (∀ (i : Nat) a e, as[i]? = some a → ds[i]? = some e → H a = some (.tup (e.tkey.map kV))) → pm.Perm (List.range ds.length) → (pm.map fun i => ds.getD i .non) = sortD ds → H l = none →
    Q (.ref l) (upd H l (.lst (pm.map fun i => (as.map V.ref).getD i .non)))
theorem kvs_keys {H : Hp} : ∀ {kvs : List (List Key × V)} {xs : List (List Key × Addr × Value)}, KT H kvs xs → ∀ (i : Nat) x, xs[i]? = some x → ∃ q, kvs[i]? = some q ∧ H x.2.1 = some (.tup (q.1.map kV))
  | _, _, .nil, i, x, h => by simp at h
  | _, _, .cons r t, 0, x, h => by simp at h; subst h; exact ⟨_, rfl, r.2.1⟩
  | _, _, .cons r t, i + 1, x, h => by simpa using kvs_keys t i x (by simpa using h)
theorem call_sortedT64 (hc : X.calm = true) : CallR X (.builtin "sorted") (rSortT64 X.K) := by
  intro pins s σ H xs us Q I r h
  obtain ⟨d, kvs, ds, rfl, e, hks, hint, hal, h64, q⟩ := h
  obtain ⟨u, rfl, ru⟩ := vals1 r
  cases ru
  obtain ⟨hz, hd, zs, rel, o, es, ep, h1, h2, h3, h4, h5⟩ := e.ok I.hok
  have l0 : kvs.length = ds.length := by have := congrArg List.length hks; simpa using this
  have lz : kvs.length = zs.length := rel.length
  have hsz : es.size = zs.length := by rw [← Array.length_toList, h4, List.length_map]
  have la : (zs.map fun z => z.2.1).length = ds.length := by rw [List.length_map]; omega
  have hat : ∀ (i : Nat) a e, (zs.map fun z => z.2.1)[i]? = some a → ds[i]? = some e → H a = some (.tup (e.tkey.map kV)) := fun i a e ha he => by
    rw [List.getElem?_map] at ha
    obtain ⟨z, hz1, rfl⟩ := Option.map_eq_some_iff.mp ha
    obtain ⟨q, hq, hq2⟩ := kvs_keys rel i z hz1
    have : (kvs.map fun q => q.1)[i]? = (ds.map D.tkey)[i]? := by rw [hks]
    rw [List.getElem?_map, List.getElem?_map, hq, he] at this
    simp only [Option.map_some, Option.some.injEq] at this
    rw [← this]; exact hq2
  have rs : Reps X.K H ds ((zs.map fun z => z.2.1).map V.ref) := by
    have : ∀ (ds : List D) (as : List Addr), as.length = ds.length → (∀ e ∈ ds, ∃ l, e = .tup l ∧ ∀ z ∈ l, z.isInt = true) → (∀ (i : Nat) a e, as[i]? = some a → ds[i]? = some e → H a = some (.tup (e.tkey.map kV))) → Reps X.K H ds (as.map V.ref) := by
      intro ds
      induction ds with
      | nil => intro as hl _ _; cases as with
        | nil => exact Reps.nil
        | cons => simp at hl
      | cons e ds ih =>
        intro as hl hi ha
        cases as with
        | nil => simp at hl
        | cons a as =>
          obtain ⟨l, rfl, hl2⟩ := hi e List.mem_cons_self
          refine Reps.cons (Rep.tupN (ha 0 a _ rfl rfl) (reps_intk hl2)) (ih as (by simpa using hl) (fun e he => hi e (List.mem_cons_of_mem _ he)) fun i a e h1 h2 => ha (i + 1) a e (by simpa using h1) (by simpa using h2))
    exact this ds _ la hint hat
  have l1 := rs.length
  have key : ∀ its : List Value, ItemsOf (fun i v => ∃ e, es[i]? = some e ∧ v = e.key) its.toArray es.size → Vals ((zs.map fun z => z.2.1).map V.ref) its := fun its hacc => by
    have hil : its.length = zs.length := by have := hacc.1; simp at this; omega
    have : its = (zs.map fun z => z.2.1).map Value.ref := by
      refine List.ext_getElem? fun i => ?_
      by_cases hi : i < its.length
      · obtain ⟨e, he, hv⟩ := hacc.2 i its[i] (by simp [hi])
        have he' : es.toList[i]? = some e := by simpa using he
        rw [h4, List.getElem?_map] at he'
        obtain ⟨z, hz1, rfl⟩ := Option.map_eq_some_iff.mp he'
        rw [List.getElem?_eq_getElem hi, hv, List.getElem?_map, List.getElem?_map, hz1]; rfl
      · rw [List.getElem?_eq_none (by omega), List.getElem?_eq_none (by simp; omega)]
    rw [this]; exact vals_refs _
  refine sortedD_call (kdl_de (es := es) (ep := ep) hd) (fun its => OutK (rk ds) its) (I.ok.hd hc) ⟨o, h1, h2, h3⟩ (by omega) (fun its g h' tk hacc h2 kg k => ?_) (fun its hacc h1 => outK_short h1) fun its out c g h' tk hacc kg k hcell hsz2 hO => ?_
  · exact sorts64 (A' := X.A.in1.in1) (I.kept (h' := g) (t' := tk) kg) rs (key its hacc) hal h2 (by have := (key its hacc).length; simp at this; omega) k
  · have rv := key its hacc
    have l2 := rv.length
    obtain ⟨p, hp, ho, hs⟩ := hO
    have hmem : ∀ i ∈ p, i < its.length := fun i hi => List.mem_range.mp (hp.mem_iff.mp hi)
    have hpm : (p.map fun i => ds.getD i .non).Perm ds := by
      have h1 := hp.map (fun i => ds.getD i D.non)
      have h2 : (List.range its.length).map (fun i => ds.getD i D.non) = ds := by
        rw [← l2, ← l1]
        refine List.ext_getElem? fun i => ?_
        rw [List.getElem?_map]
        by_cases hi : i < ds.length
        · rw [List.getElem?_range hi, List.getElem?_eq_getElem hi]
          simp [List.getD_eq_getElem?_getD, hi]
        · rw [List.getElem?_eq_none (by simpa using hi), List.getElem?_eq_none (by simpa using hi)]; rfl
      rw [h2] at h1; exact h1
    have hso : (p.map fun i => ds.getD i .non).Pairwise fun a b => a.leB b = true := by
      rw [List.pairwise_map]
      refine List.Pairwise.imp_of_mem (fun {i j} hi hj h => rk_le (by have := hmem i hi; omega) (by have := hmem j hj; omega) h) hs
    have eD := sortD_eq hal hpm hso
    have hv := rv.pick p (by rw [l2]; exact hmem)
    rw [← ho] at hv
    have hplen : p.length = its.length := by rw [hp.length_eq, List.length_range]
    have I1 := I.kept (h' := g) (t' := tk) kg
    refine ⟨.ref g.objs.size, _, I1.laid (t' := tk) (h' := h') k (Nat.le_refl _) (show ObjOk X.prog X.w _ _ _ (.lst _) from ⟨by rw [List.length_map, hplen, ← l2, List.length_map, List.length_map]; omega, out.toList, c, hv, by simpa [seqObj] using hcell⟩), rfl, q _ _ p la hat (by rw [l1, l2]; exact hp) eD (I1.hok.fresh (Nat.le_refl _))⟩
end
end L2

namespace L2
open PySem PySem.W PySem.Spec PyProof.Rows
def frzS (F H : Hp) (as : List Addr) : Hp := fun b => if b ∈ as then H b else F b
theorem frzS_in {F H : Hp} {as : List Addr} {b : Addr} (h : b ∈ as) : frzS F H as b = H b := if_pos h
theorem frzS_out {F H : Hp} {as : List Addr} {b : Addr} (h : b ∉ as) : frzS F H as b = F b := if_neg h
end L2

namespace L2
open PySem PySem.W PySem.Spec PyProof.Rows
theorem Ext.holdS {F H : Hp} (fh : Same F H) {as : List Addr} (h : ∀ a ∈ as, ∃ ys, H a = some (.tup ys)) : Ext F H (frzS F H as) H := by
  refine ⟨fun b o e => ?_, fun b o e => ?_, Same.refl _, fun b o e nt => ?_⟩
  · by_cases hb : b ∈ as
    · rw [frzS_in hb]; exact fh b o e
    · rw [frzS_out hb]; exact e
  · by_cases hb : b ∈ as
    · rw [frzS_in hb] at e; exact e
    · rw [frzS_out hb] at e; exact fh b o e
  · have hb : b ∉ as := fun z => by obtain ⟨ys, hy⟩ := h b z; rw [e] at hy; cases hy; exact nt
    rw [frzS_out hb]
section
variable {K : PySem.W.Frag} {G H₀ L : Hp} {ss : List Sl} {i j : Nat} {p b : Addr} {kvs : DD} {E : Ends} {ty td tv tx ta tb te : TE} {t : TS} {k d z : D} {ds es : List D} {wi : TI} {n : Nat} {y : Nat → D}
theorem reps_keysT {F : Hp} : ∀ {ds : List D} {as : List Addr}, as.length = ds.length → (∀ e ∈ ds, ∃ l, e = .tup l ∧ ∀ z ∈ l, z.isInt = true) → (∀ (i : Nat) a e, as[i]? = some a → ds[i]? = some e → F a = some (.tup (e.tkey.map kV))) → Reps K F ds (as.map V.ref)
  | [], [], _, _, _ => Reps.nil
  | [], _ :: _, h, _, _ => by simp at h
  | _ :: _, [], h, _, _ => by simp at h
  | e :: ds, a :: as, hl, hi, ha => by
    obtain ⟨l, rfl, hl2⟩ := hi e List.mem_cons_self
    exact Reps.cons (Rep.tupN (ha 0 a _ rfl rfl) (reps_intk hl2)) (reps_keysT (by simpa using hl) (fun e he => hi e (List.mem_cons_of_mem _ he)) fun i a e h1 h2 => ha (i + 1) a e (by simpa using h1) (by simpa using h2))
theorem sortT_end {F H : Hp} {ds : List D} (fh : Same F H) (hint : ∀ e ∈ ds, ∃ l, e = .tup l ∧ ∀ z ∈ l, z.isInt = true) {l : Addr} {as : List Addr} {pm : List Nat} {Q : VK}
    (q : ∀ p vs F' H', Ext F H F' H' → H p = none → F' p = none → H' p = some (.lst vs) → Reps K F' (sortD ds) vs → Q (.ref p) H')
    (la : as.length = ds.length) (hat : ∀ (i : Nat) a e, as[i]? = some a → ds[i]? = some e → H a = some (.tup (e.tkey.map kV))) (hpm : pm.Perm (List.range ds.length)) (hs : (pm.map fun i => ds.getD i .non) = sortD ds) (hl : H l = none) :
    Q (.ref l) (upd H l (.lst (pm.map fun i => (as.map V.ref).getD i .non))) := by
  have htup : ∀ a ∈ as, ∃ ys, H a = some (.tup ys) := fun a ha => by
    obtain ⟨i, hi⟩ := List.mem_iff_getElem?.mp ha
    have hlt := (List.getElem?_eq_some_iff.mp hi).1
    exact ⟨_, hat i a _ hi (List.getElem?_eq_getElem (by omega))⟩
  have ex := Ext.holdS fh htup
  have rs : Reps K (frzS F H as) ds (as.map V.ref) := reps_keysT la hint fun i a e h1 h2 => by rw [frzS_in (List.mem_of_getElem? h1)]; exact hat i a e h1 h2
  have := rs.pick pm fun i hi => List.mem_range.mp (hpm.mem_iff.mp hi)
  rw [hs] at this
  exact q l _ _ _ (ex.newO hl) hl (ex.fh.free hl) upd_same this
theorem evo_sortedTf (a : Ev K G H₀ L ss td (D.dicT kvs)) (hint : ∀ e ∈ kvs.map (·.1), ∃ l, e = .tup l ∧ ∀ z ∈ l, z.isInt = true) (hal : Alike (kvs.map (·.1))) (h64 : (kvs.map (·.1)).length < 64) : EvO K G H₀ L ss (tCB (rSortT64 K) (tCons td tNil)) (sortD (kvs.map (·.1))) := fun F H σ Q S q =>
  a F H σ _ S fun v F1 H1 e1 r1 => by
    obtain ⟨p, o, xs, rfl, hp, dk⟩ := r1.of_dicT
    exact ⟨p, xs, kvs.map (·.1), rfl, .inr ⟨o, e1.fh _ _ hp⟩, dk.parts.2.1, hint, hal, h64, fun l as pm la hat hpm hs hl => sortT_end e1.fh hint (fun p vs F' H' e2 hp fp hp' r => q p vs F' H' (e1.trans e2) (e1.hh.free hp) fp hp' r) la hat hpm hs hl⟩
theorem go_setPop (hs : ss[i]? = some (.o p (ds ++ [d]))) (hij : i ≠ j) (h : Nx K G H₀ L E.nx ((ss.set i (.o p ds)).set j (.d d))) : Go K G H₀ L E ss (tAsg (tBM0 K "list" rPop (tVar i)) (gName j)) := fun F H σ S => by
  obtain ⟨e, h0, fp, vs, hp, r⟩ := S.getO hs
  have hl := r.length
  rw [List.length_append, List.length_singleton] at hl
  have hne : vs ≠ [] := fun z => by rw [z] at hl; simp at hl
  have rr : Reps K F ds vs.dropLast := by
    have := r.take ds.length
    rw [List.take_left, show vs.take ds.length = vs.dropLast by rw [List.dropLast_eq_take]; congr 1; omega] at this
    exact this
  have rd : Rep K F d (vs.getLast hne) := by
    obtain ⟨x, hx, rx⟩ := r.get' (i := ds.length) (d := d) (by simp)
    rw [show ds.length = vs.length - 1 by omega, ← List.getLast?_eq_getElem?, List.getLast?_eq_getLast hne] at hx
    cases hx
    exact rx
  refine ⟨.ref p, e, .inl ⟨rfl, _, SqL.of hp⟩, p, vs, vs.getLast hne, rfl, rfl, hp, by rw [← List.getLast?_eq_getElem?, List.getLast?_eq_getLast hne], ?_⟩
  exact h F _ _ ((S.write hs rr).setD rd)
theorem reps_erase {F : Hp} : ∀ (c : Nat) {ds : List D} {vs : List V}, Reps K F ds vs → Reps K F (ds.eraseIdx c) (vs.eraseIdx c)
  | c, [], _, r => by rw [Reps] at r; subst r; exact Reps.nil
  | 0, d :: ds, _, r => by rw [Reps] at r; obtain ⟨x, r', rfl, _, b⟩ := r; exact b
  | c + 1, d :: ds, _, r => by rw [Reps] at r; obtain ⟨x, r', rfl, a, b⟩ := r; exact Reps.cons a (reps_erase c b)
theorem seqIx {c n : Nat} (h : c < n) : seqIndex? (c : Int) n = some c := by
  have h1 : ¬ ((c : Int) < 0) := by omega
  have h2 : (decide (0 ≤ (c : Int)) && decide ((c : Int) < (n : Int))) = true := by simp; omega
  unfold seqIndex?
  simp only [if_neg h1]
  rw [if_pos h2]; rfl
theorem go_popAt {c : Nat} (hs : ss[i]? = some (.o p ds)) (a : EvB K G H₀ L ss te (.int (c : Nat))) (hc : c < ds.length) (hz : ds.length < 2 ^ 62) (h : Nx K G H₀ L E.nx (ss.set i (.o p (ds.eraseIdx c)))) : Go K G H₀ L E ss (tDrop (tBM K "list" rPopAt (tVar i) (tCons te tNil))) := fun F H σ S => by
  obtain ⟨e, h0, fp, vs, hp, r⟩ := S.getO hs
  refine ⟨.ref p, e, .inl ⟨rfl, _, SqL.of hp⟩, a F H σ _ S fun v F1 H1 e1 r1 => ?_⟩
  have S1 := S.ext2 e1
  obtain ⟨_, _, _, ws, hp1, rs⟩ := S1.getO hs
  have hl := rs.length
  rw [r1.of_int]
  obtain ⟨x, hx, rx⟩ := rs.get' (i := c) (d := ds[c]) (List.getElem?_eq_getElem hc)
  refine ⟨p, ws, c, c, x, rfl, rfl, hp1, by omega, by omega, ?_, hx, ?_⟩
  · exact seqIx (by omega)
  · exact h F1 _ _ (S1.write hs (reps_erase c rs))
theorem go_appPop {c : Nat} {p' : Addr} (hij : i ≠ j) (hs : ss[i]? = some (.o p ds)) (hs' : ss[j]? = some (.o p' es)) (a : EvB K G H₀ L ss te (.int (c : Nat))) (hc : c < es.length) (hz : es.length < 2 ^ 62) (hd : es[c]? = some d) (hz2 : ds.length < sizeLine)
    (h : Nx K G H₀ L E.nx ((ss.set j (.o p' (es.eraseIdx c))).set i (.o p (ds ++ [d])))) : Go K G H₀ L E ss (tDrop (tBM K "list" rAppend (tVar i) (tCons (tBM K "list" rPopAt (tVar j) (tCons te tNil)) tNil))) := fun F H σ S => by
  obtain ⟨e, h0, fp, vs, hp, r⟩ := S.getO hs
  obtain ⟨e', h0', fp', vs', hp', r'⟩ := S.getO hs'
  refine ⟨.ref p, e, .inl ⟨rfl, _, SqL.of hp⟩, .ref p', e', .inl ⟨rfl, _, SqL.of hp'⟩, a F H σ _ S fun v F1 H1 e1 r1 => ?_⟩
  have S1 := S.ext2 e1
  obtain ⟨_, _, _, ws, hp1, rs⟩ := S1.getO hs'
  have hl := rs.length
  rw [r1.of_int]
  obtain ⟨x, hx, rx⟩ := rs.get' (i := c) (d := d) hd
  refine ⟨p', ws, c, c, x, rfl, rfl, hp1, by omega, by omega, seqIx (by omega), hx, ?_⟩
  have S2 := S1.write hs' (reps_erase c rs)
  have hs2 : (ss.set j (.o p' (es.eraseIdx c)))[i]? = some (.o p ds) := by rw [List.getElem?_set_ne (Ne.symm hij)]; exact hs
  obtain ⟨_, _, _, us, hp2, r2⟩ := S2.getO hs2
  exact ⟨p, us, x, rfl, rfl, hp2, by rw [← r2.length]; exact hz2, h F1 _ σ (S2.write hs2 (r2.snoc rx))⟩
theorem ev_eqNS {l : List Nat} (a : Ev K G H₀ L ss ta d) (hd : d = .non ∨ ∃ m, d = .str m) (b : EvB K G H₀ L ss tb (.str l)) : Ev K G H₀ L ss (tOp rEq ta tb) (.bl (decide (d = .str l))) := fun F H σ Q S q =>
  a F H σ _ S fun v F1 H1 e1 r1 => b F1 H1 σ _ (S.ext2 e1) fun v2 F2 H2 e2 r2 => by
    rw [r2.of_str]
    rcases hd with rfl | ⟨m, rfl⟩
    · rw [r1.of_non]
      refine ⟨rfl, q _ F2 H2 (e1.trans e2) ?_⟩
      rw [decide_eq_false (by intro z; cases z), decide_eq_false (by intro z; cases z)]
      exact Rep.bl
    · rw [r1.of_str]
      refine ⟨rfl, q _ F2 H2 (e1.trans e2) ?_⟩
      by_cases hml : m = l
      · subst hml; rw [decide_eq_true rfl, decide_eq_true rfl]; exact Rep.bl
      · rw [decide_eq_false (p := D.str m = D.str l) (by intro z; injection z with z; exact hml z), decide_eq_false (by intro z; injection z with z; exact hml (T_inj.mp z))]; exact Rep.bl
theorem ev_chainLL {i j k : Int} {tc : TE} (a : EvB K G H₀ L ss ta (.int i)) (b : EvB K G H₀ L ss tb (.int j)) (c : EvB K G H₀ L ss tc (.int k)) : Ev K G H₀ L ss (tChain (rI0 fun i j => .bl (decide (i ≤ j))) (rI0 fun i j => .bl (decide (i < j))) ta tb tc) (.bl (decide (i ≤ j) && decide (j < k))) := fun F H σ Q S q =>
  a F H σ _ S fun v F1 H1 e1 r1 => b F1 H1 σ _ (S.ext2 e1) fun v2 F2 H2 e2 r2 => by
    rw [r1.of_int, r2.of_int]
    refine ⟨i, j, rfl, rfl, _, rfl, ?_⟩
    by_cases h : i ≤ j
    · rw [if_pos (decide_eq_true h)]
      refine c F2 H2 σ _ ((S.ext2 e1).ext2 e2) fun v3 F3 H3 e3 r3 => ?_
      rw [r3.of_int]
      refine ⟨j, k, rfl, rfl, q _ F3 H3 ((e1.trans e2).trans e3) ?_⟩
      rw [decide_eq_true h, Bool.true_and]; exact Rep.bl
    · rw [if_neg (by rw [decide_eq_false h]; decide)]
      refine q _ F2 H2 (e1.trans e2) ?_
      rw [decide_eq_false h, Bool.false_and]; exact Rep.bl
theorem evf_zip (a : Ev K G H₀ L ss ta (.lst ds)) (b : Ev K G H₀ L ss tb (.lst es)) : EvF K G H₀ L ss (iZip K (tCons ta (tCons tb tNil))) (min ds.length es.length) fun i => .tup [ds.getD i .non, es.getD i .non] := fun F H σ R S q =>
  a F H σ _ S fun v F0 H0 e0 r0 => b F0 H0 σ _ (S.ext2 e0) fun v2 F1 H1 e1 r2 => by
    have r1 := r0.mono e1.gf
    obtain ⟨p, vs, rfl, sq, rs⟩ := r1.of_lst
    obtain ⟨p2, vs2, rfl, sqb, rsb⟩ := r2.of_lst
    refine ⟨p, p2, rfl, ⟨vs, SqL.same e1.fh sq⟩, ⟨vs2, SqL.same e1.fh sqb⟩, q F1 H1 _ (e0.trans e1) fun F2 H2 f1 fh => ?_⟩
    obtain ⟨ws, sq2, rs2⟩ := (r1.mono f1).itl fh
    obtain ⟨ws2, sq22, rs22⟩ := (r2.mono f1).itl fh
    have l1 := rs2.length
    have l2 := rs22.length
    refine ⟨fun i hi => ⟨⟨ws, ws2, ws[i]'(by omega), ws2[i]'(by omega), sq2, sq22, List.getElem?_eq_getElem _, List.getElem?_eq_getElem _⟩, fun x H3 y => ?_⟩, ⟨ws, ws2, sq2, sq22, by omega⟩⟩
    obtain ⟨T0, us, rfl, hf, rfl, y⟩ := y
    obtain ⟨w, w2, hx, hx2, rfl⟩ := y ws ws2 sq2 sq22
    obtain ⟨dx, hdx, rx⟩ := rs2.get hx
    obtain ⟨dx2, hdx2, rx2⟩ := rs22.get hx2
    have e3 : Ext F2 H2 (upd F2 T0 (.tup [w, w2])) (upd H2 T0 (.tup [w, w2])) := (Ext.refl fh).newF hf
    refine ⟨_, e3, ?_⟩
    show Rep K _ (.tup [ds.getD i .non, es.getD i .non]) _
    rw [List.getD_eq_getElem?_getD, List.getD_eq_getElem?_getD, hdx, hdx2]
    exact Rep.tupN upd_same (Reps.cons (rx.mono e3.gf) (Reps.cons (rx2.mono e3.gf) Reps.nil))
end
end L2

namespace L2
open PySem PySem.W PySem.Spec PyProof.Rows
section
variable {prog : Program} {w : World} {A : Around} {E : Value → Shared → Prop} {s : Shared}
theorem wp_each {α : Type} {f : α → PUnit → Sem (ForInStep PUnit)} : ∀ {l : List α} {Q : PUnit → Shared → Prop}, (∀ e ∈ l, ∀ R : ForInStep PUnit → Shared → Prop, R (.yield ⟨⟩) s → wpAny (model prog w) A (f e ⟨⟩) R E s) → Q ⟨⟩ s → wpAny (model prog w) A (forIn l PUnit.unit f) Q E s
  | [], Q, _, q => by rw [List.forIn_nil]; exact wpAny_pure q
  | a :: l, Q, h, q => by
    rw [List.forIn_cons]
    exact wpAny_bind (h a List.mem_cons_self _ (wp_each (fun e he => h e (List.mem_cons_of_mem _ he)) q))
theorem quiet_tuple {a : Addr} {Q : Bool → Shared → Prop} (ht : s.TypeIs (.ref a) "tuple") (h : Q false s) : wpAny (model prog w) A (Builtin.Dict.quietEq (.ref a)) Q E s := by
  unfold Builtin.Dict.quietEq
  exact wpAny_bind (wpAny_specialOf ht PySem.F.slot_tuple_eq.lookup (wpAny_pure h))
variable {o : Addr} {es : Array DictEntry} {ep : Nat}
theorem de_entries {id : String} {Q : Array DictEntry → Shared → Prop} (x : DE s.heap o es ep) (hk : ∀ e ∈ es, ∃ a, e.key = .ref a ∧ s.TypeIs (.ref a) "tuple") (hd : ∀ e ∈ es, (es.filter (·.hash == e.hash)).size ≤ 1) (h : Q es s) :
    wpAny (model prog w) A (Builtin.Dict.entriesForEmpty id o) Q E s := by
  obtain ⟨ob, ho, hc, hdat⟩ := x.ob
  unfold Builtin.Dict.entriesForEmpty
  refine wpAny_bind (wpAny_dictEntries ho hdat (wpAny_bind ?_))
  rw [← Array.forIn_toList]
  refine wp_each (fun e he R hR => ?_) (wpAny_pure h)
  have he := Array.mem_toList_iff.mp he
  obtain ⟨a, ea, ta⟩ := hk e he
  rw [ea]
  refine wpAny_bind (quiet_tuple ta ?_)
  have h1 := hd e he
  have n1 : ¬ ((es.filter (·.hash == e.hash)).size > 1) := by omega
  simp only [Bool.not_false, if_true, if_neg n1]
  exact wpAny_pure hR
theorem de_merge {id : String} {d : Addr} {ep0 : Nat} {Q : Unit → Shared → Prop} (hdo : d ≠ o) (hoS : (o == sysModules) = false) (y : DE s.heap d #[] ep0) (x : DE s.heap o es ep) (hk : ∀ e ∈ es, ∃ a, e.key = .ref a ∧ s.TypeIs (.ref a) "tuple") (hd : ∀ e ∈ es, (es.filter (·.hash == e.hash)).size ≤ 1) (hz : es.size ≤ sizeLine)
    (h : ∀ h' ep', DE h' d es ep' → Heap.SameBut d s.heap h' → Q () { s with heap := h' }) : wpAny (model prog w) A (Builtin.Dict.mergeDict id d o) Q E s := by
  obtain ⟨ob, ho, hc, hdat⟩ := x.ob
  obtain ⟨od, hod, hcd, hdd⟩ := y.ob
  unfold Builtin.Dict.mergeDict
  have n1 : ¬ (d == o) = true := fun z => hdo (eq_of_beq z)
  have n2 : ¬ (o == sysModules) = true := by rw [hoS]; exact Bool.false_ne_true
  refine wno n1 (wpAny_bind (m := Builtin.Dict.showsAll o) (wno n2 (wpAny_pure (wpAny_bind (wpAny_dictEntries ho hdat ?_)))))
  by_cases he : es = #[]
  · subst he
    refine wno (by simp) (wpAny_bind (wpAny_dictEpoch ho hdat (wpAny_bind (wpAny_dictEntries ho hdat (wpAny_bind ?_)))))
    refine wpAny_of_eq (a := PUnit.unit) (by simp) (wpAny_pure ?_)
    exact h s.heap ep0 y (Heap.SameBut.refl _ _)
  · have hpos : 0 < es.size := Nat.pos_of_ne_zero fun z => he (Array.size_eq_zero_iff.mp z)
    have hfew : (decide (es.size ≤ 8) && es.all fun e => (keyPart e.key).isSome) = false := by
      rw [Bool.and_eq_false_iff]
      refine .inr ?_
      rw [Array.all_eq_false]
      refine ⟨0, hpos, ?_⟩
      obtain ⟨a, ea, _⟩ := hk es[0] (Array.getElem_mem hpos)
      rw [ea]; simp [keyPart]
    simp only [hfew, Bool.not_false, if_true]
    refine wpAny_bind (wpAny_dictEntries hod hdd ?_)
    rw [if_pos (show (#[] : Array DictEntry).isEmpty = true from rfl)]
    refine wpAny_bind (de_entries x hk hd ?_)
    have hne : (!es.isEmpty) = true := by
      cases hb : es.isEmpty with
      | false => rfl
      | true => exact absurd (Array.isEmpty_iff.mp hb) he
    rw [if_pos hne]
    refine wpAny_bind (wpAny_updateDictKeysTo hod hdd (wpAny_pure (h _ (ep0 + 1) ⟨_, Heap.get?_update_self _ hod (Obj.isFreed_of_dict (Obj.data_mapDictKeys hdd _)), hcd.mapDictKeys _, Obj.data_mapDictKeys hdd _⟩ (Heap.SameBut.update ..))) (by omega))
theorem de_copy {Q : Value → Shared → Prop} (hoS : (o == sysModules) = false) (x : DE s.heap o es ep) (hk : ∀ e ∈ es, ∃ a, e.key = .ref a ∧ s.TypeIs (.ref a) "tuple") (hd : ∀ e ∈ es, (es.filter (·.hash == e.hash)).size ≤ 1) (hz : es.size ≤ sizeLine)
    (h : ∀ h' ep', DE h' s.heap.objs.size es ep' → (∀ b u, s.heap.get? b = some u → h'.get? b = some u) → Q (.ref s.heap.objs.size) { s with heap := h' }) : wpAny (model prog w) A (call (.type "dict") [.ref o]) Q E s := by
  refine callType_codes (Q₁ := fun obj s₁ => obj = .ref s.heap.objs.size ∧ s₁ = { s with heap := s.heap.push { cls := .type "dict", data := .dict #[] } }) F.kt_called_dict (F.kt_typeCall_dict_1 _) F.entry_dict_init (kt_code_dict_new _ ⟨rfl, rfl⟩) ?_
  rintro obj s₁ ⟨rfl, rfl⟩
  have y : DE (s.heap.push { cls := .type "dict", data := .dict #[] }) s.heap.objs.size #[] 0 := ⟨_, Heap.get?_push_size _ rfl, ⟨rfl, rfl, rfl⟩, rfl⟩
  have k0 : ∀ b u, s.heap.get? b = some u → (s.heap.push { cls := .type "dict", data := .dict #[] }).get? b = some u := fun b u e => Heap.get?_push_of_some _ e
  have x' : DE (s.heap.push { cls := .type "dict", data := .dict #[] }) o es ep := x.at fun u e => k0 o u e
  have hlt : s.heap.objs.size ≠ o := by
    obtain ⟨ob, ho, _⟩ := x.ob
    exact fun z => absurd (Heap.lt_size ho) (by rw [z]; exact Nat.lt_irrefl _)
  refine ⟨DE.typeIs (s := { s with heap := s.heap.push { cls := .type "dict", data := .dict #[] } }) y, F.args_dict_init_2 _ _, ?_⟩
  unfold Builtin.«dict.__init__» Builtin.Dict.selfAndRest
  refine wpAny_bind (wpAny_bind (wpAny_notOrdered_dict (DE.typeIs (s := { s with heap := s.heap.push { cls := .type "dict", data := .dict #[] } }) y) (wpAny_pure ?_)))
  show wpAny _ _ (Builtin.Dict.updateFrom "dict.__init__" s.heap.objs.size (.ref o) [] .none) _ _ _
  unfold Builtin.Dict.updateFrom
  have tx := DE.typeIs (s := { s with heap := s.heap.push { cls := .type "dict", data := .dict #[] } }) x'
  refine wpAny_bind (wpAny_typeOf tx (wno (by decide) (wpAny_bind ?_)))
  unfold Builtin.Dict.merge Builtin.Dict.readDirectly
  refine wpAny_bind (wpAny_bind (wpAny_isInstance tx isSubtype_dict_dict ?_))
  simp only [Bool.not_true, Bool.false_eq_true, if_false]
  refine wpAny_bind (wpAny_specialOf tx PySem.F.slot_dict_iter.lookup (wpAny_pure ?_))
  rw [if_pos (by decide)]
  refine wpAny_bind (wpAny_pure ?_)
  refine de_merge (s := { s with heap := s.heap.push { cls := .type "dict", data := .dict #[] } }) hlt hoS y x' (fun e he => ?_) hd hz fun h' ep' z sb => ?_
  · obtain ⟨a, ea, ta⟩ := hk e he
    exact ⟨a, ea, by obtain ⟨u, hu, hc⟩ := ta; exact ⟨u, k0 a u hu, hc⟩⟩
  · exact wpAny_bind (wpAny_pure (wpAny_pure ⟨rfl, h h' ep' z fun b u e => (sb.2 b (Nat.ne_of_lt (Heap.lt_size e))).trans (k0 b u e)⟩))
end
theorem bt_dict : bootBuiltins "dict" = some (.type "dict") := by decide +kernel
def th2 (i j : Int) : Int := reduceHash (Builtin.Tuple.tupleHashOf [hashInt i, hashInt j])
theorem th2_all : ((List.range 64).map fun n => th2 (n / 8 : Nat) (n % 8 : Nat)).Nodup := by decide +kernel
theorem th2_inj {a b c d : Nat} (ha : a < 8) (hb : b < 8) (hc : c < 8) (hd : d < 8) (h : th2 a b = th2 c d) : a = c ∧ b = d := by
  have key := th2_all
  have e1 : ((List.range 64).map fun n => th2 (n / 8 : Nat) (n % 8 : Nat))[8 * a + b]? = some (th2 a b) := by
    rw [List.getElem?_map, List.getElem?_range (by omega)]
    simp only [Option.map_some, show (8 * a + b) / 8 = a by omega, show (8 * a + b) % 8 = b by omega]
  have e2 : ((List.range 64).map fun n => th2 (n / 8 : Nat) (n % 8 : Nat))[8 * c + d]? = some (th2 c d) := by
    rw [List.getElem?_map, List.getElem?_range (by omega)]
    simp only [Option.map_some, show (8 * c + d) / 8 = c by omega, show (8 * c + d) % 8 = d by omega]
  obtain ⟨l1, f1⟩ := List.getElem?_eq_some_iff.mp e1
  obtain ⟨l2, f2⟩ := List.getElem?_eq_some_iff.mp e2
  have := (List.getElem_inj key).mp (f1.trans (h.trans f2.symm))
  omega
def Small2 (k : List Key) : Prop := ∃ a b : Nat, a < 8 ∧ b < 8 ∧ k = [.inl a, .inl b]
def rDictT : List V → Hp → VK → Prop := fun xs H Q => ∃ d kvs, xs = [.ref d] ∧ Rd H d (.dT kvs) ∧ (∀ q ∈ kvs, Small2 q.1) ∧ ∀ p, H p = none → Q (.ref p) (upd H p (.dT kvs))
theorem filter_one {α : Type} {f : α → Int} {l : List α} (h : (l.map f).Nodup) {e : α} (he : e ∈ l) : (l.filter fun x => f x == f e).length ≤ 1 := by
  induction l with
  | nil => cases he
  | cons a l ih =>
    rw [List.map_cons, List.nodup_cons] at h
    rw [List.filter_cons]
    rcases List.mem_cons.mp he with z | z
    · subst z
      rw [if_pos (by simp), List.length_cons]
      have : l.filter (fun x => f x == f e) = [] := List.filter_eq_nil_iff.mpr fun x hx z => h.1 (List.mem_map.mpr ⟨x, hx, by simpa using z⟩)
      rw [this]; simp
    · have : ¬ (f a == f e) = true := fun z' => h.1 (List.mem_map.mpr ⟨e, z, (by simpa using z' : f a = f e).symm⟩)
      rw [if_neg this]
      exact ih h.2 z
theorem call_dictT {X : Cx} : CallR X (.type "dict") rDictT := by
  intro pins s σ H xs us Q I r h
  obtain ⟨d, kvs, rfl, e, hsm, q⟩ := h
  obtain ⟨u, rfl, ru⟩ := vals1 r
  cases ru
  obtain ⟨hz, hd, zs, rel, o, es, ep, h1, h2, h3, h4, h5⟩ := e.ok I.hok
  have lz : kvs.length = zs.length := rel.length
  have hsz : es.size = zs.length := by rw [← Array.length_toList, h4, List.length_map]
  have hkey : ∀ z ∈ zs, Small2 z.1 ∧ H z.2.1 = some (.tup (z.1.map kV)) := fun z hz1 => by
    obtain ⟨i, hi⟩ := List.mem_iff_getElem?.mp hz1
    obtain ⟨q', hq', hq2⟩ := kvs_keys rel i z hi
    have hlt := (List.getElem?_eq_some_iff.mp hq').1
    obtain ⟨z', hz', e1, e2, _⟩ := Paired.get rel i q' hq'
    rw [hi] at hz'; cases hz'
    have e1 : q'.1 = z.1 := e1
    rw [← e1]
    exact ⟨hsm q' (List.mem_of_getElem? hq'), hq2⟩
  have hnd : (zs.map fun z => (tupleKind (mixKind X.prog X.w)).hash z.1).Nodup := by
    rw [List.nodup_iff_pairwise_ne, List.pairwise_map] at h5
    rw [List.nodup_iff_pairwise_ne, List.pairwise_map]
    refine List.Pairwise.imp_of_mem (fun {x y} hx hy hne hh => hne ?_) h5
    obtain ⟨⟨a, b, ha, hb, ex⟩, _⟩ := hkey x hx
    obtain ⟨⟨c, d', hc, hd', ey⟩, _⟩ := hkey y hy
    rw [ex, ey] at hh
    obtain ⟨z1, z2⟩ := th2_inj ha hb hc hd' hh
    rw [ex, ey, z1, z2]
  refine de_copy (es := es) (ep := ep) hd ⟨o, h1, h2, h3⟩ (fun en he => ?_) (fun en he => ?_) (by omega) fun h' ep' y k => ?_
  · have he : en ∈ es.toList := Array.mem_toList_iff.mpr he
    rw [h4] at he
    obtain ⟨z, hz1, rfl⟩ := List.mem_map.mp he
    refine ⟨z.2.1, rfl, ?_⟩
    obtain ⟨_, its, _, ob, ho, hc, _⟩ := (show ObjOk X.prog X.w H s.heap z.2.1 (.tup _) from I.hok _ _ (hkey z hz1).2)
    exact ⟨ob, ho, hc⟩
  · have he : en ∈ es.toList := Array.mem_toList_iff.mpr he
    rw [h4] at he
    obtain ⟨z, hz1, rfl⟩ := List.mem_map.mp he
    have e0 : (es.filter fun x => x.hash == (entryOfKey (tupleKind (mixKind X.prog X.w)) z).hash).size = (zs.filter fun x => (tupleKind (mixKind X.prog X.w)).hash x.1 == (tupleKind (mixKind X.prog X.w)).hash z.1).length := by
      rw [← Array.length_toList, Array.toList_filter, h4, List.filter_map, List.length_map]; rfl
    rw [e0]
    exact filter_one (f := fun x : List Key × Addr × Value => (tupleKind (mixKind X.prog X.w)).hash x.1) hnd hz1
  · have hf : H s.heap.objs.size = none := I.fresh
    have nt : ∀ b ys, H b = some (.tup ys) → b ≠ s.heap.objs.size := fun b ys q z => by rw [z, hf] at q; cases q
    obtain ⟨oy, hy1, hy2, hy3⟩ := y.ob
    refine ⟨.ref s.heap.objs.size, _, I.laid (t' := s.toks) k (Nat.le_refl _) (show ObjOk X.prog X.w _ _ _ (.dT kvs) from ⟨hz, beq_eq_false_iff_ne.mpr (Ne.symm (Nat.ne_of_lt I.big)), zs, Paired.mapP rel fun p q w => ⟨w.1, by rw [upd_ne (nt _ _ w.2.1)]; exact w.2.1, w.2.2⟩, oy, es, ep', hy1, hy2, hy3, h4, h5⟩), rfl, q _ hf⟩
section
variable {K : PySem.W.Frag} {G H₀ L : Hp} {ss : List Sl} {i j : Nat} {p b : Addr} {kvs : DD} {E : Ends} {td : TE}
theorem go_setCp (a : Ev K G H₀ L ss td (D.dicT kvs)) (hk : ∀ q ∈ kvs, ∃ a b : Nat, a < 8 ∧ b < 8 ∧ q.1 = .tup [.int a, .int b]) (h : ∀ p, Nx K G H₀ L E.nx (ss.set i (dslT K p kvs))) : Go K G H₀ L E ss (tAsg (tCB rDictT (tCons td tNil)) (gName i)) := fun F H σ S =>
  a F H σ _ S fun v F1 H1 e1 r1 => by
    obtain ⟨d, o, xs, rfl, hd, dk⟩ := r1.of_dicT
    refine ⟨d, xs, rfl, .inr ⟨o, e1.fh _ _ hd⟩, fun q hq => ?_, fun p hp => ?_⟩
    · obtain ⟨n, hn⟩ := List.mem_iff_getElem?.mp hq
      obtain ⟨kd, dv, h1, h2, _⟩ := dk.at (k := q.1) (v := q.2) hn
      obtain ⟨a, b, ha, hb, e⟩ := hk _ (List.mem_of_getElem? h1)
      have e : kd = .tup [.int a, .int b] := e
      exact ⟨a, b, ha, hb, by rw [h2, e]; rfl⟩
    · have e := e1.newO (o := .dT xs) hp
      have S' := S.ext2 e
      refine h p F1 _ _ (S'.put S'.ext S'.fl (by simp) (fun j hj => getD_set_ne (Ne.symm hj)) (fun hi => ?_) (by simp [dslT, Sl.ads]) (fun j s' hj hs q hq => ?_) fun j s' hj hs => S'.ok j s' hs)
      · rw [getD_set_self (by rw [S.len]; exact hi)]
        exact ⟨rfl, fun a ha => by rw [List.mem_singleton.mp ha]; exact ⟨S.ext.hh.free (e1.hh.free hp), e1.fh.free hp, _, upd_same, trivial⟩, ⟨xs, upd_same, dk⟩, dWT_stab K p kvs⟩
      · have : q = p := by simpa [dslT, Sl.ads] using hq
        subst this
        exact fun hin => (S.ok j s' hs).live hin (e1.hh.free hp)
end
end L2

namespace L2
open PySem PySem.W PySem.Spec PyProof.Rows
def Itv (K : PySem.W.Frag) (a : Addr) (n : Nat) : It :=
  ⟨fun i H => i < n ∧ ∃ xs x, SqL K H a xs ∧ xs[n - 1 - i]? = some x, fun i H x H' => H' = H ∧ ∀ xs, SqL K H a xs → xs[n - 1 - i]? = some x, fun i _ => i = n⟩
theorem turn_rev {P : Program} {w : World} {K : PySem.W.Frag} {tg : Expr} (a it : Addr) (n : Nat) : Turn P w K tg (Itv K a n) [it] it (fun i h => h.IsRevIter it a ((n : Int) - 1 - (i : Int))) where
  mem := by simp
  obj := fun i h st b hb => by
    have e : b = it := by simpa using hb
    subst e
    obtain ⟨o, e, c, d⟩ := st
    exact ⟨o, e, fun v z => by rw [d] at z; cases z⟩
  keep := fun i h h' st k => st.at fun o e => k it (by simp) o e
  item := by
    intro X hP hw hK hc i pins s σ H E I hf st hg
    subst hP hw hK
    obtain ⟨hi, xs, x, hq, hx⟩ := hg
    obtain ⟨its, rv, p, hz⟩ := I.list hq
    obtain ⟨u, hu, ru⟩ := rv.get hx
    obtain ⟨f0, f1, f2, f3, f4, f5⟩ := hf it (by simp)
    have ei : (n : Int) - 1 - (i : Int) = ((n - 1 - i : Nat) : Int) := by omega
    have st : s.heap.IsRevIter it a ((n - 1 - i : Nat) : Int) := by rw [← ei]; exact st
    refine wpAny_pyNext_rev_item st p.isList (x := u) (by simpa using hu) fun h' st' sb => ?_
    have I1 : Inv X pins σ H { s with heap := h' } := I.turned (t' := s.toks) (fun b o hb e => (sb.2 b hb).trans e) f0 f1 f3 f4 f5
    obtain ⟨o, e, c, d⟩ := id st'
    refine ⟨u, rfl, go_of (s := { s with heap := h' }) e c d (by decide) ⟨x, H, I1, ru, ⟨rfl, fun ys hy => by rw [I.list_inj hy hq]; exact hx⟩, ?_, fun b hb => (hf b hb).1⟩⟩
    have e2 : (n : Int) - 1 - ((i + 1 : Nat) : Int) = ((n - 1 - i : Nat) : Int) - 1 := by omega
    show h'.IsRevIter it a ((n : Int) - 1 - ((i + 1 : Nat) : Int))
    rw [e2]; exact st'
  done := by
    intro X hP hw hK hc i pins s σ H E I hf st hg
    subst hP hw hK
    obtain ⟨f0, f1, f2, f3, f4, f5⟩ := hf it (by simp)
    have hg : i = n := hg
    have st : s.heap.IsRevIter it a (-1) := by
      have e : (n : Int) - 1 - (i : Int) = -1 := by omega
      rw [← e]; exact st
    exact wpAny_pyNext_rev_end (I.ok.hd hc) st fun h' eb => ⟨rfl, I.turned (t' := s.toks) (fun b o hb e => eb b o hb e) f0 f1 f3 f4 f5⟩
  self := fun _ _ _ _ _ st h => wpAny_pyIter_revIter st h
section
variable {X : Cx} {e : Expr} {ta : TA} {p pos : Pos} {tg : Expr}
def iRev (K : PySem.W.Frag) (ta : TA) : TI := fun σ H R => ta σ H fun vs H1 => ∃ a xs, vs = [.ref a] ∧ SqL K H1 a xs ∧ R (Itv K a xs.length) H1
theorem pi_rev (hg : Gl X "reversed") (hm : X.mg "reversed" = none) (hA : PA X [e] ta) (hs : starEach [e] X.env = [(false, eval e X.env)] := by rfl) : PI X tg (.Call (.Name "reversed" p) [e] [] pos) (iRev X.K ta) := by
  intro pins s σ H R I h
  refine Call_ (ld_blt I hg hm boot_reversed (PyProof.Rows.callWith_type1 (thn (hA pos pins s σ H _ I h) fun us s1 ⟨vs, H1, I1, r1, q1⟩ => ?_) hs rfl))
  obtain ⟨a, xs, rfl, hq, q⟩ := q1
  obtain ⟨u, rfl, ru⟩ := vals1 r1
  cases ru
  obtain ⟨its, rv, pl, hz⟩ := I1.list hq
  have hn : its.toArray.size = xs.length := by rw [rv.length]; simp
  refine call_reversed_list pl.isList ?_
  have hR : (s1.heap.push (revObj a ((its.toArray.size : Int) - 1))).IsRevIter s1.heap.objs.size a ((its.toArray.size : Int) - 1) := ⟨_, Heap.get?_push_size _ rfl, rfl, rfl⟩
  refine wpAny_pyIter_revIter (s := { s1 with heap := s1.heap.push (revObj a ((its.toArray.size : Int) - 1)) }) hR ?_
  have hR2 : (s1.heap.push (revObj a ((its.toArray.size : Int) - 1))).IsRevIter s1.heap.objs.size a ((xs.length : Int) - 1 - ((0 : Nat) : Int)) := by
    have e : (xs.length : Int) - 1 - ((0 : Nat) : Int) = (its.toArray.size : Int) - 1 := by rw [hn]; omega
    rw [e]; exact hR
  exact ⟨s1.heap.objs.size, [s1.heap.objs.size], _, _, H1, rfl, I1.kept (t' := s1.toks) fun b o e => Heap.get?_push_of_some _ e, turn_rev a _ xs.length, hR2, fun b hb => by rw [List.mem_singleton.mp hb]; exact I1.fpOk (Nat.le_refl _) (I1.hok.fresh (Nat.le_refl _)), q⟩
end
section
variable {K : PySem.W.Frag} {G H₀ L : Hp} {ss : List Sl} {tl : TE} {ds : List D}
theorem evf_rev (a : Ev K G H₀ L ss tl (.lst ds)) : EvF K G H₀ L ss (iRev K (tCons tl tNil)) ds.length fun i => ds.reverse.getD i .non := fun F H σ R S q =>
  a F H σ _ S fun v F1 H1 e1 r1 => by
    obtain ⟨p, vs, rfl, sq, rs⟩ := r1.of_lst
    have hl := rs.length
    refine ⟨p, vs, rfl, SqL.same e1.fh sq, q F1 H1 _ e1 fun F2 H2 f1 fh => ?_⟩
    have rp : Rep K F2 (.lst ds) (.ref p) := r1.mono f1
    obtain ⟨ws, sq2, rs2⟩ := rp.itl fh
    have hlen := rs2.length
    refine ⟨fun i hi => ⟨⟨by omega, ws, ws[vs.length - 1 - i]'(by omega), sq2, List.getElem?_eq_getElem _⟩, fun x H3 y => ?_⟩, hl⟩
    obtain ⟨rfl, y⟩ := y
    obtain ⟨dx, hdx, rx⟩ := rs2.get (y ws sq2)
    refine ⟨F2, Ext.refl fh, ?_⟩
    show Rep K F2 (ds.reverse.getD i .non) x
    rw [List.getD_eq_getElem?_getD, List.getElem?_reverse (by omega), show ds.length - 1 - i = vs.length - 1 - i by omega, hdx]
    exact rx
end
end L2

namespace L2
section
variable {α β γ : Type} [DecidableEq α] [DecidableEq β] [DecidableEq γ] {f : α → β} {g : α → γ} {xs : List α} {x : α}
variable {enc : α → D} {encB : β → D}
def dA (enc : α → D) (encB : β → D) (xs : List α) (f : α → β) : DD := xs.map fun t => (enc t, encB (f t))
theorem valD_in (hi : ∀ a b, enc a = enc b → a = b) (h : x ∈ xs) : valD (dA enc encB xs f) (enc x) = some (encB (f x)) := by
  induction xs with
  | nil => cases h
  | cons y ys ih =>
    by_cases e : y = x
    · subst e; simp [valD, dA]
    · have e2 : enc y ≠ enc x := fun z => e (hi _ _ z)
      have : valD (dA enc encB (y :: ys) f) (enc x) = valD (dA enc encB ys f) (enc x) := by simp [valD, dA, List.find?_cons, e2]
      rw [this]
      rcases List.mem_cons.mp h with z | z
      · exact absurd z.symm e
      · exact ih z
theorem valD_out (hi : ∀ a b, enc a = enc b → a = b) (h : x ∉ xs) : valD (dA enc encB xs f) (enc x) = none := by
  induction xs with
  | nil => rfl
  | cons y ys ih =>
    have e2 : enc y ≠ enc x := fun z => h (by rw [hi _ _ z]; exact List.mem_cons_self)
    have : valD (dA enc encB (y :: ys) f) (enc x) = valD (dA enc encB ys f) (enc x) := by simp [valD, dA, List.find?_cons, e2]
    rw [this]
    exact ih fun z => h (List.mem_cons_of_mem _ z)
theorem dA_any (hi : ∀ a b, enc a = enc b → a = b) : ((dA enc encB xs f).any fun kv => decide (kv.1 = enc x)) = true ↔ x ∈ xs := by
  rw [List.any_eq_true]
  constructor
  · rintro ⟨kv, hkv, e⟩
    obtain ⟨y, hy, rfl⟩ := List.mem_map.mp hkv
    rw [← hi _ _ (of_decide_eq_true e)]; exact hy
  · intro h; exact ⟨_, List.mem_map.mpr ⟨x, h, rfl⟩, by simp⟩
theorem putD_new (hi : ∀ a b, enc a = enc b → a = b) (h : x ∉ xs) : putD (dA enc encB xs f) (enc x) (encB (f x)) = dA enc encB (xs ++ [x]) f := by
  unfold putD
  rw [if_neg fun z => h ((dA_any hi).mp z)]
  unfold dA
  rw [List.map_append]
  rfl
end
end L2

namespace L2
open PySem PySem.W PyProof.Rows
end L2

namespace L2
open PySem PySem.W PySem.Spec PyProof.Rows PySem.Calls
open PySem.MeetsSeq PySem.MeetsSeq2 PySem.MeetsSeq3
open AutoSeq1 (wpAny_loadPart')
inductive LexC (prog : Program) (w : World) (A : Around) (s : Shared) : List Value → List Value → Bool → Prop
  | nil : LexC prog w A s [] [] false
  | eq {u v : Value} {us vs : List Value} {r : Bool} (h : ∀ (E : Value → Shared → Prop) (Q : Bool → Shared → Prop), Q true s → wpAny (model prog w) A (eqBool u v) Q E s) (t : LexC prog w A s us vs r) : LexC prog w A s (u :: us) (v :: vs) r
  | ne {u v : Value} {us vs : List Value} {r : Bool} (h : ∀ (E : Value → Shared → Prop) (Q : Bool → Shared → Prop), Q false s → wpAny (model prog w) A (eqBool u v) Q E s) (g : ∀ (E : Value → Shared → Prop) (Q : Value → Shared → Prop), Q (.bool r) s → wpAny (model prog w) A (richCompare .Lt u v) Q E s) : LexC prog w A s (u :: us) (v :: vs) r
end L2

namespace L2
open PySem PySem.W PySem.Spec PyProof.Rows PySem.Calls
end L2

namespace L2
open PySem PySem.W PySem.Spec PyProof.Rows PySem.Calls
end L2

namespace L2
open PySem PySem.W PySem.Spec PyProof.Rows PySem.Calls
end L2

namespace L2
open PySem PySem.W PyProof.Rows PySem.Spec PySem.Calls
def one (f : V → Hp → Prop) : List V → Hp → Prop
  | [v], H => f v H
  | _, _ => False

end L2

namespace L2
open PySem PySem.W PySem.Spec PyProof.Rows PySem.Calls
end L2

namespace L2
open PySem PySem.W PyProof.Rows PySem.Spec PySem.Calls
end L2

namespace L2
open PySem PySem.W PySem.Spec PyProof.Rows
structure LamAt (base : Heap) (mg : Str → Option Value) (fl : FuncData) (T : Addr) : Prop where
  ex : ∃ c, fl.code = .ref c ∧ CodeHd base c T
  bt : base.BuiltinsAt mg T
end L2

namespace L2
open PySem PySem.Spec PyProof.Rows
end L2

namespace L2
open PySem PySem.Spec PyProof.Rows
end L2

namespace L2
open PySem PySem.W PyProof.Rows PySem.Spec PySem.Calls
end L2

namespace L2
open PySem PySem.Spec PyProof.Rows PySem.Calls
end L2

namespace L2
open PySem PySem.W PySem.Spec PyProof.Rows
end L2

namespace L2
open PySem PySem.W PySem.Spec PyProof.Rows
section
variable {K : PySem.W.Frag} {G H₀ L : Hp} {ss : List Sl} {i : Nat} {E : Ends} {te tk tv : TE} {k d : D} {c : TT} {tb : TS}
theorem go_while (I : Nat → List Sl → Prop) (m0 : Nat) (h0 : I m0 ss)
    (hs : ∀ m ss, I m ss → ∃ b, EvT K G H₀ L ss c b ∧ (b = true → ∀ N : St → Hp → Prop, (∀ m' ss, m' < m → I m' ss → Nx K G H₀ L N ss) → Go K G H₀ L { E with nx := N, ct := N, bk := E.nx } ss tb) ∧ (b = false → Nx K G H₀ L E.nx ss)) : Go K G H₀ L E ss (tWhile c tb) := fun F H σ S =>
  ⟨fun m σ' H' => At K G H₀ L (I m) σ' H', ⟨m0, ss, F, S, h0⟩, fun m σ' H' ⟨ss1, F1, S1, h1⟩ => by
    obtain ⟨b, ev, ht, hf⟩ := hs m ss1 h1
    refine ev F1 H' σ' _ S1 fun F2 H2 e2 => ?_
    cases b with
    | true =>
      rw [if_pos rfl]
      exact ⟨fun σ'' H'' => ∃ m', m' < m ∧ At K G H₀ L (I m') σ'' H'', fun σ'' H'' h => h, ht rfl _ (fun m' ss hm hI => fun F3 H3 σ3 S3 => ⟨m', hm, ss, F3, S3, hI⟩) F2 H2 σ' (S1.ext2 e2)⟩
    | false =>
      rw [if_neg Bool.false_ne_true]
      exact hf rfl F2 H2 σ' (S1.ext2 e2)⟩
end
end L2

set_option maxHeartbeats 8000000
namespace My
open PySem L2 PyProof.Rows
def top (i : Nat) : Stmt := PySem.Challenge.pw_folk_k42_nevers_shown.main.body.getD i (.Pass ⟨0, 0, 0, 0⟩)
abbrev s_is_whole : Stmt := top 3
theorem sc_is_whole : FnScope ["value"] ["value"] (defScope s_is_whole) := ⟨rfl, rfl, rfl, by decide +kernel, rfl, by decide +kernel, by decide +kernel⟩
abbrev s_is_block : Stmt := top 4
theorem sc_is_block : FnScope ["value", "many"] ["value", "many"] (defScope s_is_block) := ⟨rfl, rfl, rfl, by decide +kernel, rfl, by decide +kernel, by decide +kernel⟩
abbrev s_pair_of : Stmt := top 5
theorem sc_pair_of : FnScope ["one", "other"] ["one", "other"] (defScope s_pair_of) := ⟨rfl, rfl, rfl, by decide +kernel, rfl, by decide +kernel, by decide +kernel⟩
abbrev s_is_ring : Stmt := top 6
theorem sc_is_ring : FnScope ["ring", "many"] ["ring", "many"] (defScope s_is_ring) := ⟨rfl, rfl, rfl, by decide +kernel, rfl, by decide +kernel, by decide +kernel⟩
abbrev s_links_of : Stmt := top 7
theorem sc_links_of : FnScope ["ring"] ["ring"] (defScope s_links_of) := ⟨rfl, rfl, rfl, by decide +kernel, rfl, by decide +kernel, by decide +kernel⟩
abbrev s_gap_of : Stmt := top 8
theorem sc_gap_of : FnScope ["ring"] ["ring"] (defScope s_gap_of) := ⟨rfl, rfl, rfl, by decide +kernel, rfl, by decide +kernel, by decide +kernel⟩
abbrev s_open_pairs : Stmt := top 10
theorem sc_open_pairs : FnScope ["ring", "decided"] ["ring", "decided"] (defScope s_open_pairs) := ⟨rfl, rfl, rfl, by decide +kernel, rfl, by decide +kernel, by decide +kernel⟩
abbrev s_is_losing : Stmt := top 11
theorem sc_is_losing : FnScope ["ring", "many", "weights", "decided", "link", "gap"] ["ring", "many", "weights", "decided"] (defScope s_is_losing) := ⟨rfl, rfl, rfl, by decide +kernel, rfl, by decide +kernel, by decide +kernel⟩
abbrev s_decided_loss : Stmt := top 12
theorem sc_decided_loss : FnScope ["weights", "decided", "loss", "pair", "choice", "weight"] ["weights", "decided"] (defScope s_decided_loss) := ⟨rfl, rfl, rfl, by decide +kernel, rfl, by decide +kernel, by decide +kernel⟩
abbrev s_rings_show : Stmt := top 13
theorem sc_rings_show : FnScope ["rings", "many", "weights", "decided", "least", "shown", "used", "ring", "amount", "pair", "within"] ["rings", "many", "weights", "decided", "least"] (defScope s_rings_show) := ⟨rfl, rfl, rfl, by decide +kernel, rfl, by decide +kernel, by decide +kernel⟩
abbrev s_first_decided : Stmt := top 16
theorem sc_first_decided : FnScope ["aparts", "decided", "pair"] ["aparts"] (defScope s_first_decided) := ⟨rfl, rfl, rfl, by decide +kernel, rfl, by decide +kernel, by decide +kernel⟩
abbrev s_first_weights : Stmt := top 17
theorem sc_first_weights : FnScope ["pairs", "weights", "i", "j", "weight"] ["pairs"] (defScope s_first_weights) := ⟨rfl, rfl, rfl, by decide +kernel, rfl, by decide +kernel, by decide +kernel⟩
abbrev s_is_never : Stmt := top 9
theorem sc_is_never : FnScope ["ring", "many", "decided", "all_held"] ["ring", "many", "decided"] (defScope s_is_never) := ⟨rfl, rfl, rfl, by decide +kernel, rfl, by decide +kernel, by decide +kernel⟩
abbrev s_may_decide : Stmt := top 14
theorem sc_may_decide : FnScope ["paper", "many", "decided", "i", "j"] ["paper", "many", "decided"] (defScope s_may_decide) := ⟨rfl, rfl, rfl, by decide +kernel, rfl, by decide +kernel, by decide +kernel⟩
abbrev s_with_choice : Stmt := top 15
theorem sc_with_choice : FnScope ["decided", "pair", "choice", "more"] ["decided", "pair", "choice"] (defScope s_with_choice) := ⟨rfl, rfl, rfl, by decide +kernel, rfl, by decide +kernel, by decide +kernel⟩
abbrev s_is_shown : Stmt := top 18
theorem sc_is_shown : FnScope ["paper", "many", "pairs", "aparts", "least", "weights", "ahead", "here", "paper_here", "decided", "pair"] ["paper", "many", "pairs", "aparts", "least"] (defScope s_is_shown) := ⟨rfl, rfl, rfl, by decide +kernel, rfl, by decide +kernel, by decide +kernel⟩
abbrev s_law_cell_at : Stmt := top 20
theorem sc_law_cell_at : FnScope ["_law_script", "_law_k"] ["_law_script", "_law_k"] (defScope s_law_cell_at) := ⟨rfl, rfl, rfl, by decide +kernel, rfl, by decide +kernel, by decide +kernel⟩
abbrev s_law_pair : Stmt := top 21
theorem sc_law_pair : FnScope ["_law_one", "_law_other"] ["_law_one", "_law_other"] (defScope s_law_pair) := ⟨rfl, rfl, rfl, by decide +kernel, rfl, by decide +kernel, by decide +kernel⟩
abbrev s_law_links : Stmt := top 22
theorem sc_law_links : FnScope ["_law_ring_here"] ["_law_ring_here"] (defScope s_law_links) := ⟨rfl, rfl, rfl, by decide +kernel, rfl, by decide +kernel, by decide +kernel⟩
abbrev s_law_ring : Stmt := top 23
theorem sc_law_ring : FnScope ["_law_ring_here", "_law_weights_here", "_law_decided_here", "_law_never", "_law_gap", "_law_many", "_law_pair_here", "_law_weight"] ["_law_ring_here", "_law_weights_here", "_law_decided_here", "_law_never"] (defScope s_law_ring) := ⟨rfl, rfl, rfl, by decide +kernel, rfl, by decide +kernel, by decide +kernel⟩
abbrev s_law_leaf : Stmt := top 24
theorem sc_law_leaf : FnScope ["_law_rows", "_law_weights_here", "_law_decided_here", "_law_least", "_law_total", "_law_pair_here", "_law_held", "_law_used", "_law_ring_here", "_law_amount"] ["_law_rows", "_law_weights_here", "_law_decided_here", "_law_least"] (defScope s_law_leaf) := ⟨rfl, rfl, rfl, by decide +kernel, rfl, by decide +kernel, by decide +kernel⟩
abbrev s_law_judge : Stmt := top 25
theorem sc_law_judge : FnScope ["_law_paper_here", "_law_weights_here", "_law_decided_here", "_law_least", "_law_pair_here", "_law_held", "_law_parted"] ["_law_paper_here", "_law_weights_here", "_law_decided_here", "_law_least"] (defScope s_law_judge) := ⟨rfl, rfl, rfl, by decide +kernel, rfl, by decide +kernel, by decide +kernel⟩
abbrev s_law_decided : Stmt := top 27
theorem sc_law_decided : FnScope ["_law_aparts", "_law_decided_here", "_law_pair_here"] ["_law_aparts"] (defScope s_law_decided) := ⟨rfl, rfl, rfl, by decide +kernel, rfl, by decide +kernel, by decide +kernel⟩
abbrev s_law_ring_drawn : Stmt := top 28
theorem sc_law_ring_drawn : FnScope ["_law_many", "_law_cell", "_law_number", "_law_some", "_law_ring_here", "_law_k"] ["_law_many", "_law_cell"] (defScope s_law_ring_drawn) := ⟨rfl, rfl, rfl, by decide +kernel, rfl, by decide +kernel, by decide +kernel⟩
abbrev s_law_told : Stmt := top 29
theorem sc_law_told : FnScope ["_law_ring_here", "_law_cell", "_law_way", "_law_at"] ["_law_ring_here", "_law_cell"] (defScope s_law_told) := ⟨rfl, rfl, rfl, by decide +kernel, rfl, by decide +kernel, by decide +kernel⟩
abbrev s_law_paper : Stmt := top 30
theorem sc_law_paper : FnScope ["_law_ring_here", "_law_told_here", "_law_pairs", "_law_paper_here", "_law_i", "_law_j", "_law_held"] ["_law_ring_here", "_law_told_here", "_law_pairs"] (defScope s_law_paper) := ⟨rfl, rfl, rfl, by decide +kernel, rfl, by decide +kernel, by decide +kernel⟩
abbrev s_law : Stmt := top 31
theorem sc_law : FnScope ["_law_script", "_law_many", "_law_ring_here", "_law_weights_here", "_law_k", "_law_cell", "_law_pair_here", "_law_pairs", "_law_first", "_law_start", "_law_gap", "_law_aparts", "_law_told_here", "_law_paper_here", "_law_least", "_law_due", "_law_rows", "_law_found"] ["_law_script"] (defScope s_law) := ⟨rfl, rfl, rfl, by decide +kernel, rfl, by decide +kernel, by decide +kernel⟩
set_option genInjectivity false in
set_option genSizeOf false in
structure Ad where
  (f_is_whole f_is_block f_pair_of f_is_ring f_links_of f_gap_of f_open_pairs f_is_losing f_decided_loss f_rings_show f_first_decided f_first_weights f_is_never f_may_decide f_with_choice f_is_shown f_law_cell_at f_law_pair f_law_links f_law_ring f_law_leaf f_law_judge f_law_decided f_law_ring_drawn f_law_told f_law_paper f_law : Addr)
  (u_HELD u_PARTED : Value)
  (d_is_whole d_is_block d_pair_of d_is_ring d_links_of d_gap_of d_open_pairs d_is_losing d_decided_loss d_rings_show d_first_decided d_first_weights d_is_never d_may_decide d_with_choice d_is_shown d_law_cell_at d_law_pair d_law_links d_law_ring d_law_leaf d_law_judge d_law_decided d_law_ring_drawn d_law_told d_law_paper d_law : FuncData)
structure Tx (K : PySem.W.Frag) (mg : Str → Option Value) (ad0 : Ad) : Prop where
  M_HELD : mg "HELD" = some ad0.u_HELD
  R_HELD : RelV (.str (T [104, 101, 108, 100])) ad0.u_HELD
  M_PARTED : mg "PARTED" = some ad0.u_PARTED
  R_PARTED : RelV (.str (T [112, 97, 114, 116, 101, 100])) ad0.u_PARTED
  F_is_whole : Fun K "is_whole" "is_whole" s_is_whole ad0.f_is_whole ad0.d_is_whole
  B_is_whole : Binds K ad0.d_is_whole ["value"] []
  M_is_whole : mg "is_whole" = some (.ref ad0.f_is_whole)
  F_is_block : Fun K "is_block" "is_block" s_is_block ad0.f_is_block ad0.d_is_block
  B_is_block : Binds K ad0.d_is_block ["value", "many"] []
  M_is_block : mg "is_block" = some (.ref ad0.f_is_block)
  F_pair_of : Fun K "pair_of" "pair_of" s_pair_of ad0.f_pair_of ad0.d_pair_of
  B_pair_of : Binds K ad0.d_pair_of ["one", "other"] []
  M_pair_of : mg "pair_of" = some (.ref ad0.f_pair_of)
  F_is_ring : Fun K "is_ring" "is_ring" s_is_ring ad0.f_is_ring ad0.d_is_ring
  B_is_ring : Binds K ad0.d_is_ring ["ring", "many"] []
  M_is_ring : mg "is_ring" = some (.ref ad0.f_is_ring)
  F_links_of : Fun K "links_of" "links_of" s_links_of ad0.f_links_of ad0.d_links_of
  B_links_of : Binds K ad0.d_links_of ["ring"] []
  M_links_of : mg "links_of" = some (.ref ad0.f_links_of)
  F_gap_of : Fun K "gap_of" "gap_of" s_gap_of ad0.f_gap_of ad0.d_gap_of
  B_gap_of : Binds K ad0.d_gap_of ["ring"] []
  M_gap_of : mg "gap_of" = some (.ref ad0.f_gap_of)
  F_open_pairs : Fun K "open_pairs" "open_pairs" s_open_pairs ad0.f_open_pairs ad0.d_open_pairs
  B_open_pairs : Binds K ad0.d_open_pairs ["ring", "decided"] []
  M_open_pairs : mg "open_pairs" = some (.ref ad0.f_open_pairs)
  F_is_losing : Fun K "is_losing" "is_losing" s_is_losing ad0.f_is_losing ad0.d_is_losing
  B_is_losing : Binds K ad0.d_is_losing ["ring", "many", "weights", "decided"] []
  M_is_losing : mg "is_losing" = some (.ref ad0.f_is_losing)
  F_decided_loss : Fun K "decided_loss" "decided_loss" s_decided_loss ad0.f_decided_loss ad0.d_decided_loss
  B_decided_loss : Binds K ad0.d_decided_loss ["weights", "decided"] []
  M_decided_loss : mg "decided_loss" = some (.ref ad0.f_decided_loss)
  F_rings_show : Fun K "rings_show" "rings_show" s_rings_show ad0.f_rings_show ad0.d_rings_show
  B_rings_show : Binds K ad0.d_rings_show ["rings", "many", "weights", "decided", "least"] []
  M_rings_show : mg "rings_show" = some (.ref ad0.f_rings_show)
  F_first_decided : Fun K "first_decided" "first_decided" s_first_decided ad0.f_first_decided ad0.d_first_decided
  B_first_decided : Binds K ad0.d_first_decided ["aparts"] []
  M_first_decided : mg "first_decided" = some (.ref ad0.f_first_decided)
  F_first_weights : Fun K "first_weights" "first_weights" s_first_weights ad0.f_first_weights ad0.d_first_weights
  B_first_weights : Binds K ad0.d_first_weights ["pairs"] []
  M_first_weights : mg "first_weights" = some (.ref ad0.f_first_weights)
  F_is_never : Fun K "is_never" "is_never" s_is_never ad0.f_is_never ad0.d_is_never
  B_is_never : Binds K ad0.d_is_never ["ring", "many", "decided"] []
  M_is_never : mg "is_never" = some (.ref ad0.f_is_never)
  F_may_decide : Fun K "may_decide" "may_decide" s_may_decide ad0.f_may_decide ad0.d_may_decide
  B_may_decide : Binds K ad0.d_may_decide ["paper", "many", "decided"] []
  M_may_decide : mg "may_decide" = some (.ref ad0.f_may_decide)
  F_with_choice : Fun K "with_choice" "with_choice" s_with_choice ad0.f_with_choice ad0.d_with_choice
  B_with_choice : Binds K ad0.d_with_choice ["decided", "pair", "choice"] []
  M_with_choice : mg "with_choice" = some (.ref ad0.f_with_choice)
  F_is_shown : Fun K "is_shown" "is_shown" s_is_shown ad0.f_is_shown ad0.d_is_shown
  B_is_shown : Binds K ad0.d_is_shown ["paper", "many", "pairs", "aparts", "least"] []
  M_is_shown : mg "is_shown" = some (.ref ad0.f_is_shown)
  F_law_cell_at : Fun K "_law_cell_at" "_law_cell_at" s_law_cell_at ad0.f_law_cell_at ad0.d_law_cell_at
  B_law_cell_at : Binds K ad0.d_law_cell_at ["_law_script", "_law_k"] []
  M_law_cell_at : mg "_law_cell_at" = some (.ref ad0.f_law_cell_at)
  F_law_pair : Fun K "_law_pair" "_law_pair" s_law_pair ad0.f_law_pair ad0.d_law_pair
  B_law_pair : Binds K ad0.d_law_pair ["_law_one", "_law_other"] []
  M_law_pair : mg "_law_pair" = some (.ref ad0.f_law_pair)
  F_law_links : Fun K "_law_links" "_law_links" s_law_links ad0.f_law_links ad0.d_law_links
  B_law_links : Binds K ad0.d_law_links ["_law_ring_here"] []
  M_law_links : mg "_law_links" = some (.ref ad0.f_law_links)
  F_law_ring : Fun K "_law_ring" "_law_ring" s_law_ring ad0.f_law_ring ad0.d_law_ring
  B_law_ring : Binds K ad0.d_law_ring ["_law_ring_here", "_law_weights_here", "_law_decided_here", "_law_never"] []
  M_law_ring : mg "_law_ring" = some (.ref ad0.f_law_ring)
  F_law_leaf : Fun K "_law_leaf" "_law_leaf" s_law_leaf ad0.f_law_leaf ad0.d_law_leaf
  B_law_leaf : Binds K ad0.d_law_leaf ["_law_rows", "_law_weights_here", "_law_decided_here", "_law_least"] []
  M_law_leaf : mg "_law_leaf" = some (.ref ad0.f_law_leaf)
  F_law_judge : Fun K "_law_judge" "_law_judge" s_law_judge ad0.f_law_judge ad0.d_law_judge
  B_law_judge : Binds K ad0.d_law_judge ["_law_paper_here", "_law_weights_here", "_law_decided_here", "_law_least"] []
  M_law_judge : mg "_law_judge" = some (.ref ad0.f_law_judge)
  F_law_decided : Fun K "_law_decided" "_law_decided" s_law_decided ad0.f_law_decided ad0.d_law_decided
  B_law_decided : Binds K ad0.d_law_decided ["_law_aparts"] []
  M_law_decided : mg "_law_decided" = some (.ref ad0.f_law_decided)
  F_law_ring_drawn : Fun K "_law_ring_drawn" "_law_ring_drawn" s_law_ring_drawn ad0.f_law_ring_drawn ad0.d_law_ring_drawn
  B_law_ring_drawn : Binds K ad0.d_law_ring_drawn ["_law_many", "_law_cell"] []
  M_law_ring_drawn : mg "_law_ring_drawn" = some (.ref ad0.f_law_ring_drawn)
  F_law_told : Fun K "_law_told" "_law_told" s_law_told ad0.f_law_told ad0.d_law_told
  B_law_told : Binds K ad0.d_law_told ["_law_ring_here", "_law_cell"] []
  M_law_told : mg "_law_told" = some (.ref ad0.f_law_told)
  F_law_paper : Fun K "_law_paper" "_law_paper" s_law_paper ad0.f_law_paper ad0.d_law_paper
  B_law_paper : Binds K ad0.d_law_paper ["_law_ring_here", "_law_told_here", "_law_pairs"] []
  M_law_paper : mg "_law_paper" = some (.ref ad0.f_law_paper)
  F_law : Fun K "law" "law" s_law ad0.f_law ad0.d_law
  B_law : Binds K ad0.d_law ["_law_script"] []
  M_law : mg "law" = some (.ref ad0.f_law)
  z_abs : mg "abs" = none
  z_all : mg "all" = none
  z_bool : mg "bool" = none
  z_dict : mg "dict" = none
  z_int : mg "int" = none
  z_isinstance : mg "isinstance" = none
  z_len : mg "len" = none
  z_list : mg "list" = none
  z_max : mg "max" = none
  z_min : mg "min" = none
  z_range : mg "range" = none
  z_reversed : mg "reversed" = none
  z_set : mg "set" = none
  z_sorted : mg "sorted" = none
  z_zip : mg "zip" = none
section
variable {P : Program} {w : World} {K : PySem.W.Frag} {mg : Str → Option Value} {base : Heap} {ad0 : Ad}
def preCell (ds : List D) : Prop := ∃ (ns : List Int) (k : Int), ds = [.lst (ns.map .int), .int k] ∧ 0 ≤ k
def resCell : List D → D
  | [.lst xs, .int k] => xs.getD k.toNat (.int 0)
  | _ => .non
theorem ok_law_cell_at (Z : Tx K mg ad0) : FnOk P w K mg base CX0 1 ad0.f_law_cell_at ad0.d_law_cell_at ["_law_script", "_law_k"] (SpD K preCell resCell) := by
  refine Z.F_law_cell_at.ok sc_law_cell_at (fun vs H Q E h => spD_len (n := 2) (by rintro ds ⟨ns, k, rfl, _⟩; rfl) h) (fun cdv A outer s H vs Q E hr h => ⟨_, (pss_cons (ps_if (pt_cmpR op_lt (pv 1) (pe_callB call_len_seq (by rfl) Z.z_len boot_len (pa_cons (pv 0) pa_nil)) (nomark _)) (pss_one (ps_ret (pe_ix (show IxR _ (rIxL K) from ix_list) (pv 0) (pv 1) (fun _ _ => rfl)))) pss_nil)
      (pss_one (ps_ret pe_int))), ?_⟩)
  refine go_spD h (by rw [spD_len (n := 2) (by rintro ds ⟨ns, k, rfl, _⟩; rfl) h]; decide) fun G ds hp rt => ?_
  obtain ⟨ns, k, rfl, hk⟩ := hp
  have ll : (ns.map D.int).length = ns.length := by simp
  refine go_seq (go_if (evt_test (ev_cmpI (g := fun i j => decide (i < j)) (ev_var rfl).b (ev_lenL (ev_var rfl).l).b)) (fun hb => ?_) (fun hb => ?_))
  · simp only [decide_eq_true_eq] at hb
    have hk2 : k.toNat < ns.length := by omega
    refine go_ret (ev_ixL (d := .int (ns.getD k.toNat 0)) (ev_var rfl).l (ev_var rfl).b ?_) ?_
    · have := atI_nat (xs := ns.map D.int) (j := k.toNat) (v := D.int (ns.getD k.toNat 0)) (by rw [List.getElem?_map, List.getD_eq_getElem?_getD]; simp [hk2])
      rw [show ((k.toNat : Nat) : Int) = k by omega] at this
      exact this
    · have e : resCell [D.lst (ns.map D.int), D.int k] = .int (ns.getD k.toNat 0) := by
        simp [resCell, List.getD_eq_getElem?_getD, List.getElem?_map, hk2]
      rw [e] at rt; exact rt
  · simp only [decide_eq_false_iff_not] at hb
    have e : resCell [D.lst (ns.map D.int), D.int k] = .int 0 := by
      simp [resCell, List.getD_eq_getElem?_getD, List.getElem?_map, show ns[k.toNat]? = none from List.getElem?_eq_none (by omega)]
    rw [e] at rt
    refine go_next ?_
    ((try dsimp only); refine nx_go ?_)
    exact go_ret ev_int rt
theorem small {n : Nat} (h : n ≤ 1000) : n ≤ sizeLine := by rw [sizeLine_eq]; omega
abbrev Apt := Nat × Nat
abbrev Pr := Nat × Nat × Int
def encN (n : Nat) : D := .int n
theorem encN_inj (a b : Nat) (h : encN a = encN b) : a = b := by unfold encN at h; injection h with h; omega
def encA (a : Apt) : D := .tup [.int a.1, .int a.2]
theorem encA_inj (a b : Apt) (h : encA a = encA b) : a = b := by
  unfold encA at h
  injection h with h
  injection h with h1 h
  injection h with h2 h
  injection h1 with h1
  injection h2 with h2
  exact Prod.ext (by omega) (by omega)
def encP (p : Pr) : D := .tup [.int p.1, .int p.2.1, .int p.2.2]
def unN : D → Nat
  | .int i => i.toNat
  | _ => 0
def unA : D → Apt
  | .tup [.int i, .int j] => (i.toNat, j.toNat)
  | _ => (0, 0)
def unP : D → Pr
  | .tup [.int i, .int j, .int w] => (i.toNat, j.toNat, w)
  | _ => (0, 0, 0)
theorem unN_map (l : List Nat) : (l.map encN).map unN = l := by rw [List.map_map]; exact List.map_id l
theorem unA_map (as : List Apt) : (as.map encA).map unA = as := by rw [List.map_map]; exact List.map_id as
theorem encA_nb (a : Apt) : (encA a).nb = true := rfl
def absI (w : Int) : Int := if w < 0 then -w else w
def prF (a b : Nat) : Apt := (min a b, max a b)
def linksR (r : List Nat) : List Apt := (List.range (r.length - 1)).map fun k => prF (r.getD k 0) (r.getD (k + 1) 0)
def gapR (r : List Nat) : Apt := prF (r.getD 0 0) (r.getD (r.length - 1) 0)
def isRing (r : List Nat) : Bool := decide (3 ≤ r.length) && decide r.Nodup
abbrev dAp {β : Type} (encB : β → D) (ks : List Apt) (f : Apt → β) : DD := dA encA encB ks f
theorem valA {β : Type} [DecidableEq β] (encB : β → D) (ks : List Apt) (f : Apt → β) (a : Apt) : valD (dAp encB ks f) (encA a) = if a ∈ ks then some (encB (f a)) else none := by
  by_cases h : a ∈ ks
  · rw [if_pos h]; exact valD_in encA_inj h
  · rw [if_neg h]; exact valD_out encA_inj h
theorem someA {β : Type} [DecidableEq β] (encB : β → D) (ks : List Apt) (f : Apt → β) (a : Apt) : (valD (dAp encB ks f) (encA a)).isSome = decide (a ∈ ks) := by
  rw [valA]
  by_cases h : a ∈ ks
  · rw [if_pos h, decide_eq_true h]; rfl
  · rw [if_neg h, decide_eq_false h]; rfl
def wtF (ks : List Apt) (f : Apt → Int) (a : Apt) : Int := if a ∈ ks then f a else 0
theorem getA (ks : List Apt) (f : Apt → Int) (a : Apt) : (valD (dAp .int ks f) (encA a)).getD (.int 0) = .int (wtF ks f a) := by
  rw [valA]; unfold wtF
  by_cases h : a ∈ ks
  · rw [if_pos h, if_pos h]; rfl
  · rw [if_neg h, if_neg h]; rfl
theorem keysA {β : Type} (encB : β → D) (ks : List Apt) (f : Apt → β) : ∀ q ∈ dAp encB ks f, ∃ es, q.1 = .tup es ∧ ∀ d ∈ es, d.isInt = true := fun q hq => by
  obtain ⟨a, _, rfl⟩ := List.mem_map.mp hq
  exact ⟨_, rfl, fun d hd => by simp at hd; rcases hd with rfl | rfl <;> rfl⟩
theorem lenA {β : Type} (encB : β → D) (ks : List Apt) (f : Apt → β) : (dAp encB ks f).length = ks.length := by unfold dAp dA; rw [List.length_map]
theorem atA {β : Type} (encB : β → D) (ks : List Apt) (f : Apt → β) {k : Nat} {a : Apt} (h : ks[k]? = some a) : (dAp encB ks f).getD k (.non, .non) = (encA a, encB (f a)) := by
  unfold dAp dA; rw [List.getD_eq_getElem?_getD, List.getElem?_map, h]; rfl
abbrev sHeld : List Nat := [104, 101, 108, 100]
abbrev sParted : List Nat := [112, 97, 114, 116, 101, 100]
def encC (b : Bool) : D := .str (if b then sHeld else sParted)
theorem ok_is_whole (Z : Tx K mg ad0) : FnOk P w K mg base CX0 1 ad0.f_is_whole ad0.d_is_whole ["value"] (SpD K (fun ds => ∃ i : Int, ds = [.int i]) fun _ => .bl true) := by
  refine Z.F_is_whole.ok sc_is_whole (fun vs H Q E h => spD_len (n := 1) (by rintro ds ⟨i, rfl⟩; rfl) h) (fun cdv A outer s H vs Q E hr h => ⟨_, (pss_one (ps_ret (pe_and (pe_callB call_isi_int_int (by rfl) Z.z_isinstance boot_isinstance (pa_cons (pv 0) (pa_cons (pe_bltn (v := .ty "int") (by rfl) Z.z_int boot_int rfl) pa_nil))) (pe_one (pe_not (pe_callB call_isi_int_bool (by rfl) Z.z_isinstance boot_isinstance (pa_cons (pv 0) (pa_cons (pe_bltn (v := .ty "bool") (by rfl) Z.z_bool boot_bool rfl) pa_nil)))))))), ?_⟩)
  refine go_spD h (by rw [spD_len (n := 1) (by rintro ds ⟨i, rfl⟩; rfl) h]; decide) fun G ds hp rt => ?_
  obtain ⟨i, rfl⟩ := hp
  exact go_ret (d := .bl true) (ev_and (ev_isI (ev_var rfl).b) fun _ => ev_not (ev_isIB (ev_var rfl).b)) rt
def preBlk (ds : List D) : Prop := ∃ k m : Nat, ds = [encN k, encN m]
def resBlk : List D → D
  | [k, m] => .bl (decide (unN k < unN m))
  | _ => .non
theorem ok_is_block (Z : Tx K mg ad0) : FnOk P w K mg base CX0 2 ad0.f_is_block ad0.d_is_block ["value", "many"] (SpD K preBlk resBlk) := by
  have G_is_whole := ok_is_whole (P := P) (w := w) (base := base) Z
  refine Z.F_is_block.ok sc_is_block (fun vs H Q E h => spD_len (n := 2) (by rintro ds ⟨i, m, rfl⟩; rfl) h) (fun cdv A outer s H vs Q E hr h => ⟨_, (pss_one (ps_ret (pe_and (pe_call G_is_whole (hr.mono (by decide)) (by rfl) Z.M_is_whole Z.F_is_whole.kp Z.B_is_whole .nil pass0 (pa_cons (pv 0) pa_nil)) (pe_one (pe_chain op_le op_lt pe_int (pv 0) (pv 1)))))), ?_⟩)
  refine go_spD h (by rw [spD_len (n := 2) (by rintro ds ⟨i, m, rfl⟩; rfl) h]; decide) fun G ds hp rt => ?_
  obtain ⟨k, m, rfl⟩ := hp
  have e : resBlk [encN k, encN m] = .bl (true && (decide ((0 : Int) ≤ (k : Nat)) && decide (((k : Nat) : Int) < (m : Nat)))) := by
    show D.bl (decide (k < m)) = _
    rw [decide_eq_true (show (0 : Int) ≤ (k : Nat) by omega), Bool.true_and, Bool.true_and]
    congr 1
    exact decide_eq_decide.mpr (by omega)
  rw [e] at rt
  exact go_ret (ev_and (ev_call (pre := fun ds => ∃ i : Int, ds = [.int i]) (res := fun _ => .bl true) (evaf_cons (ev_var rfl) evaf_nil) ⟨k, rfl⟩) fun _ => ev_chainLL ev_int.b (ev_var (d := .int (k : Nat)) rfl).b (ev_var (d := .int (m : Nat)) rfl).b) rt
def prePair (ds : List D) : Prop := ∃ a b : Nat, ds = [encN a, encN b]
def resPair : List D → D
  | [a, b] => encA (prF (unN a) (unN b))
  | _ => .non
theorem ev_pair {G H₀ L : Hp} {ss : List Sl} {ta tb tc td : TE} {a b : Nat} (e1 : Ev K G H₀ L ss ta (.int (if (b : Int) < (a : Nat) then (b : Int) else (a : Nat)))) (e2 : Ev K G H₀ L ss tb (.int (if (b : Int) > (a : Nat) then (b : Int) else (a : Nat)))) : Ev K G H₀ L ss (tTup (tCons ta (tCons tb tNil))) (encA (prF a b)) := by
  have h1 : (if (b : Int) < (a : Nat) then (b : Int) else (a : Nat)) = ((min a b : Nat) : Int) := by split <;> omega
  have h2 : (if (b : Int) > (a : Nat) then (b : Int) else (a : Nat)) = ((max a b : Nat) : Int) := by split <;> omega
  rw [h1] at e1
  rw [h2] at e2
  exact ev_tup (evaf_cons e1 (evaf_cons e2 evaf_nil)) (small (by simp))
theorem ok_pair_of (Z : Tx K mg ad0) : FnOk P w K mg base CX0 1 ad0.f_pair_of ad0.d_pair_of ["one", "other"] (SpD K prePair resPair) := by
  refine Z.F_pair_of.ok sc_pair_of (fun vs H Q E h => spD_len (n := 2) (by rintro ds ⟨i, m, rfl⟩; rfl) h) (fun cdv A outer s H vs Q E hr h => ⟨_, (pss_one (ps_ret (pe_tup (pa_cons (pe_callB (call_min2 rfl) (by rfl) Z.z_min boot_min (pa_cons (pv 0) (pa_cons (pv 1) pa_nil))) (pa_cons (pe_callB (call_max2 rfl) (by rfl) Z.z_max boot_max (pa_cons (pv 0) (pa_cons (pv 1) pa_nil))) pa_nil))))), ?_⟩)
  refine go_spD h (by rw [spD_len (n := 2) (by rintro ds ⟨i, m, rfl⟩; rfl) h]; decide) fun G ds hp rt => ?_
  obtain ⟨a, b, rfl⟩ := hp
  exact go_ret (d := encA (prF a b)) (ev_pair (tc := tC .non) (td := tC .non) (ev_minI (ev_var (d := .int (a : Nat)) rfl).b (ev_var (d := .int (b : Nat)) rfl).b) (ev_maxI (ev_var (d := .int (a : Nat)) rfl).b (ev_var (d := .int (b : Nat)) rfl).b)) rt
theorem ded_nod : ∀ {r : List Nat}, ((ded (r.map encN)).length = r.length) ↔ r.Nodup := fun {r} => by
  have hinj : ∀ a b, encN a = encN b → a = b := encN_inj
  constructor
  · intro h
    have key : ∀ (ds : List D), (ded ds).length = ds.length → ds.Nodup := by
      intro ds
      induction ds with
      | nil => intro _; exact List.nodup_nil
      | cons d ds ih =>
        intro h
        have hl := ded_len ds
        unfold ded at h
        split at h
        · simp only [List.length_cons] at h; omega
        · rename_i hn
          simp only [List.length_cons] at h
          exact List.nodup_cons.mpr ⟨by simpa using hn, ih (by omega)⟩
    have := key _ (by rw [List.length_map]; exact h)
    exact (List.pairwise_map.mp this).imp fun h z => h (by rw [z])
  · intro h
    have key : ∀ (ds : List D), ds.Nodup → (ded ds).length = ds.length := by
      intro ds
      induction ds with
      | nil => intro _; rfl
      | cons d ds ih =>
        intro h
        obtain ⟨h1, h2⟩ := List.nodup_cons.mp h
        unfold ded
        split
        · rename_i hn; exact absurd (by simpa using hn) h1
        · simp only [List.length_cons]; rw [ih h2]
    rw [key _ (List.pairwise_map.mpr (h.imp fun h z => h (encN_inj _ _ z))), List.length_map]
theorem hkN (r : List Nat) : ∀ d ∈ r.map encN, d.hk true = true := fun d hd => by obtain ⟨k, _, rfl⟩ := List.mem_map.mp hd; rfl
def preRing (ds : List D) : Prop := ∃ (r : List Nat) (m : Nat), ds = [.lst (r.map encN), encN m] ∧ r.length ≤ 1000
def resRing : List D → D
  | [.lst r, m] => .bl (isRing (r.map unN) && (r.map unN).all fun k => decide (k < unN m))
  | _ => .non
theorem ok_is_ring (Z : Tx K mg ad0) : FnOk P w K mg base CX0 3 ad0.f_is_ring ad0.d_is_ring ["ring", "many"] (SpD K preRing resRing) := by
  have G_is_block := ok_is_block (P := P) (w := w) (base := base) Z
  refine Z.F_is_ring.ok sc_is_ring (fun vs H Q E h => spD_len (n := 2) (by rintro ds ⟨i, m, rfl, _⟩; rfl) h) (fun cdv A outer s H vs Q E hr h => ⟨_, (pss_one (ps_ret (pe_and (pe_cmpR op_ge (pe_callB call_len_seq (by rfl) Z.z_len boot_len (pa_cons (pv 0) pa_nil)) pe_int (nomark _)) (pe_and (pe_cmpR op_eq (pe_callB (show CallR _ _ (rLenS P w K true) from call_lenS) (by rfl) Z.z_len boot_len (pa_cons (pe_callTy (show CallR _ _ (rSetOf P w K true) from call_setL rfl hr.units) (by rfl) Z.z_set boot_set (pa_cons (pv 0) pa_nil)) pa_nil)) (pe_callB call_len_seq (by rfl) Z.z_len boot_len (pa_cons (pv 0) pa_nil)) (nomark _)) (pe_one (pe_callB (call_all rfl) (by rfl) Z.z_all boot_all (pa_cons (pe_lc rfl (LcOk.of (Nx := (["ring", "many"] : List Str)) (sc := defScope s_is_ring) (N' := (["block", "many"] : List Str)) (nt := 1) (cs := [1]) rfl rfl (by decide +kernel)) (pi_list (pv 0)) (fun _ _ _ _ => (pg_name (i := 0) (show List.Nodup (["block", "many"] : List Str) by decide +kernel) rfl (Or.inl rfl))) (fun _ _ _ _ => pifs_nil) (fun _ _ _ _ => (pe_call G_is_block (hr.mono (by decide)) (by rfl) Z.M_is_block Z.F_is_block.kp Z.B_is_block .nil pass0 (pa_cons (pv 0) (pa_cons (pv 1) pa_nil))))) pa_nil))))))), ?_⟩)
  refine go_spD h (by rw [spD_len (n := 2) (by rintro ds ⟨i, m, rfl, _⟩; rfl) h]; decide) fun G ds hp rt => ?_
  obtain ⟨r, m, rfl, hl⟩ := hp
  have ll : ((r.map encN).length : Int) = r.length := by rw [List.length_map]
  have e : resRing [.lst (r.map encN), encN m] = .bl (decide (((r.map encN).length : Int) ≥ 3) && (decide (((ded (r.map encN)).length : Int) = ((r.map encN).length : Int)) && r.all fun k => decide (k < m))) := by
    show D.bl (isRing ((r.map encN).map unN) && ((r.map encN).map unN).all fun k => decide (k < m)) = _
    rw [unN_map]
    unfold isRing
    rw [Bool.and_assoc]
    congr 2
    · exact decide_eq_decide.mpr (by rw [ll]; omega)
    · congr 1
      refine decide_eq_decide.mpr ?_
      rw [← ded_nod (r := r), List.length_map]
      omega
  rw [e] at rt
  refine go_ret (ev_and (ev_ge (ev_lenL (ev_var rfl).l).b ev_int.b) fun _ => ev_and (ev_eqI (ev_lenSet (f := true) (ded (r.map encN)) (evs_set (ev_var rfl).l (hkN r) (by rw [List.length_map]; omega)) (hkN r) (ded_nodup _) fun d => ded_mem).b (ev_lenL (ev_var rfl).l).b) fun _ => ev_allM (xs := r) (g := fun k => decide (k < m)) (EvO.l (evo_lcM r encN (fun k => .bl (decide (k < m))) (ev_var rfl).l (gk_name (by decide)) (by decide) (by rw [sizeLine_eq]; omega) fun k hk => ⟨_, tg_name, ?_⟩))) rt
  exact ev_call (pre := preBlk) (res := resBlk) (evaf_cons (ev_var rfl) (evaf_cons (ev_var rfl) evaf_nil)) ⟨k, m, rfl⟩
def preLk (ds : List D) : Prop := ∃ (r : List Nat), ds = [.lst (r.map encN)] ∧ r.length ≤ 1000
def resLk : List D → List D
  | [.lst r] => (linksR (r.map unN)).map encA
  | _ => []
theorem resLk_enc (r : List Nat) : resLk [.lst (r.map encN)] = (linksR r).map encA := by show (linksR ((r.map encN).map unN)).map encA = _; rw [unN_map]
theorem getN (r : List Nat) (k : Nat) (h : k < r.length) : (r.map encN).getD k .non = encN (r.getD k 0) := by
  rw [List.getD_eq_getElem?_getD, List.getD_eq_getElem?_getD, List.getElem?_map, List.getElem?_eq_getElem h]; rfl
theorem ok_links_of (Z : Tx K mg ad0) : FnOk P w K mg base CX0 2 ad0.f_links_of ad0.d_links_of ["ring"] (SpO K preLk resLk) := by
  have G_pair_of := ok_pair_of (P := P) (w := w) (base := base) Z
  refine Z.F_links_of.ok sc_links_of (fun vs H Q E h => spO_len (n := 1) (by rintro ds ⟨i, rfl, _⟩; rfl) h) (fun cdv A outer s H vs Q E hr h => ⟨_, (pss_one (ps_ret (pe_lc rfl (LcOk.of (Nx := (["ring"] : List Str)) (sc := defScope s_links_of) (N' := (["one", "other"] : List Str)) (nt := 2) (cs := []) rfl rfl (by decide +kernel)) (pi_zip_list (by rfl) Z.z_zip (pa_cons (pv 0) (pa_cons (pe_slice sl_list (pv 0) (po_some pe_int) po_none) pa_nil))) (fun _ _ _ _ => (show PG _ _ (gTup K 2 _) from pg_tup rfl (pgs_cons (pg_name (i := 0) (show List.Nodup (["one", "other"] : List Str) by decide +kernel) rfl (Or.inl rfl)) (pgs_cons (pg_name (i := 1) (show List.Nodup (["one", "other"] : List Str) by decide +kernel) rfl (Or.inl rfl)) pgs_nil)))) (fun _ _ _ _ => pifs_nil) (fun _ _ _ _ => (pe_call G_pair_of (hr.mono (by decide)) (by rfl) Z.M_pair_of Z.F_pair_of.kp Z.B_pair_of .nil pass0 (pa_cons (pv 0) (pa_cons (pv 1) pa_nil))))))), ?_⟩)
  refine go_spO h (by rw [spO_len (n := 1) (by rintro ds ⟨i, rfl, _⟩; rfl) h]; decide) fun G ds hp rt => ?_
  obtain ⟨r, rfl, hl⟩ := hp
  rw [resLk_enc] at rt
  have hsl : cutD (r.map encN) (some 1) none = (r.drop 1).map encN := by rw [cutD_from _ (by decide), List.map_drop]; rfl
  have e : (linksR r).map encA = ((List.range (min (r.map encN).length ((r.drop 1).map encN).length)).filter fun _ => true).map fun k => encA (prF (r.getD k 0) (r.getD (k + 1) 0)) := by
    unfold linksR
    rw [List.map_map, List.filter_eq_self.mpr (fun _ _ => rfl), List.length_map, List.length_map, List.length_drop, show min r.length (r.length - 1) = r.length - 1 by omega]
    rfl
  rw [e] at rt
  refine go_retO (evo_lcI (fun _ => true) (fun k => encA (prF (r.getD k 0) (r.getD (k + 1) 0))) (EvF.evi (evf_zip (ds := r.map encN) (es := (r.drop 1).map encN) (ev_var rfl) (EvO.ev (by rw [← hsl]; exact evo_slL (ev_var rfl).l (evp_part ev_int.b) evp_no)))) (gk_tup (gks_cons (gk_name (by decide)) (gks_cons (gk_name (by decide)) gks_nil))) (by decide) (by rw [sizeLine_eq]; simp; omega) fun k hk => ?_) rt
  rw [List.length_map, List.length_map, List.length_drop] at hk
  have h1 := getN r k (by omega)
  have h2 : ((r.drop 1).map encN).getD k .non = encN (r.getD (k + 1) 0) := by
    rw [List.getD_eq_getElem?_getD, List.getD_eq_getElem?_getD, List.getElem?_map, List.getElem?_drop, Nat.add_comm 1 k, List.getElem?_eq_getElem (by omega)]; rfl
  rw [h1, h2]
  exact ⟨_, tg_tup rfl (tgs_cons tg_name (tgs_cons tg_name tgs_nil)), evt_true, fun _ => ev_call (pre := prePair) (res := resPair) (evaf_cons (ev_var rfl) (evaf_cons (ev_var rfl) evaf_nil)) ⟨_, _, rfl⟩⟩
def preGap (ds : List D) : Prop := ∃ (r : List Nat), ds = [.lst (r.map encN)] ∧ r ≠ []
def resGap : List D → D
  | [.lst r] => encA (gapR (r.map unN))
  | _ => .non
theorem resGap_enc (r : List Nat) : resGap [.lst (r.map encN)] = encA (gapR r) := by show encA (gapR ((r.map encN).map unN)) = _; rw [unN_map]
theorem at_last {α : Type} {xs : List α} {v : α} (h : xs[xs.length - 1]? = some v) (hn : xs ≠ []) : atI xs (-1) = some v := by
  have hl : 0 < xs.length := List.length_pos_iff.mpr hn
  have h2 : ixN xs.length (-1) = some (xs.length - 1) := by
    unfold ixN
    split <;> rename_i z <;> first | omega | skip
    all_goals (split <;> first | omega | (congr 1; omega))
  unfold atI
  rw [h2]; exact h
theorem ok_gap_of (Z : Tx K mg ad0) : FnOk P w K mg base CX0 2 ad0.f_gap_of ad0.d_gap_of ["ring"] (SpD K preGap resGap) := by
  have G_pair_of := ok_pair_of (P := P) (w := w) (base := base) Z
  refine Z.F_gap_of.ok sc_gap_of (fun vs H Q E h => spD_len (n := 1) (by rintro ds ⟨i, rfl, _⟩; rfl) h) (fun cdv A outer s H vs Q E hr h => ⟨_, (pss_one (ps_ret (pe_call G_pair_of (hr.mono (by decide)) (by rfl) Z.M_pair_of Z.F_pair_of.kp Z.B_pair_of .nil pass0 (pa_cons (pe_ix (show IxR _ (rIxL K) from ix_list) (pv 0) pe_int (fun _ _ => rfl)) (pa_cons (pe_ix (show IxR _ (rIxL K) from ix_list) (pv 0) (pe_un un_neg pe_int) (fun _ _ => rfl)) pa_nil))))), ?_⟩)
  refine go_spD h (by rw [spD_len (n := 1) (by rintro ds ⟨i, rfl, _⟩; rfl) h]; decide) fun G ds hp rt => ?_
  obtain ⟨r, rfl, hn⟩ := hp
  have hl : 0 < r.length := List.length_pos_iff.mpr hn
  rw [resGap_enc] at rt
  have h0 : atI (r.map encN) 0 = some (encN (r.getD 0 0)) := atI_nat (j := 0) (by rw [List.getElem?_map, List.getD_eq_getElem?_getD, List.getElem?_eq_getElem hl]; rfl)
  have h1 : atI (r.map encN) (-1) = some (encN (r.getD (r.length - 1) 0)) := at_last (by rw [List.length_map, List.getElem?_map, List.getD_eq_getElem?_getD, List.getElem?_eq_getElem (by omega)]; rfl) (by simpa using hn)
  exact go_ret (ev_call (pre := prePair) (res := resPair) (evaf_cons (ev_ixL (ev_var rfl).l ev_int.b h0) (evaf_cons (ev_ixL (ev_var rfl).l (ev_neg (i := 1) ev_int.b).b h1) evaf_nil)) ⟨_, _, rfl⟩) rt
abbrev Dec := List Apt × (Apt → Bool)
abbrev Wts := List Apt × (Apt → Int)
def decD (x : Dec) : D := D.dicT (dAp encC x.1 x.2)
def wtsD (y : Wts) : D := D.dicT (dAp .int y.1 y.2)
def isHeld (x : Dec) (a : Apt) : Bool := decide (a ∈ x.1) && x.2 a
def isPart (x : Dec) (a : Apt) : Bool := decide (a ∈ x.1) && !x.2 a
theorem part_eq (x : Dec) (a : Apt) : decide ((valD (dAp encC x.1 x.2) (encA a)).getD .non = .str sParted) = isPart x a := by
  unfold isPart
  rw [valA]
  by_cases h : a ∈ x.1
  · rw [if_pos h, decide_eq_true h, Bool.true_and]
    show decide (encC (x.2 a) = .str sParted) = _
    cases x.2 a <;> decide
  · rw [if_neg h, decide_eq_false h, Bool.false_and]
    exact decide_eq_false (by intro z; cases z)
theorem getC (x : Dec) (a : Apt) : (valD (dAp encC x.1 x.2) (encA a)).getD .non = .non ∨ ∃ m, (valD (dAp encC x.1 x.2) (encA a)).getD .non = .str m := by
  rw [valA]
  by_cases h : a ∈ x.1
  · rw [if_pos h]; exact .inr ⟨_, rfl⟩
  · rw [if_neg h]; exact .inl rfl
section
variable {G H₀ L : Hp} {ss : List Sl} {td ty : TE} {a : Apt}
theorem ev_part (x : Dec) (e1 : Ev K G H₀ L ss td (decD x)) (e2 : Ev K G H₀ L ss ty (encA a)) : Ev K G H₀ L ss (tOp rEq (tDGet1 td ty) (tC (.str (T sParted)))) (.bl (isPart x a)) := by
  rw [← part_eq]
  exact ev_eqNS (ev_dget1FT e1 e2 rfl rfl) (getC x a) (ev_const (d := .str sParted) fun H => Rep.str (by decide)).b
theorem ev_notDec (x : Dec) (e1 : Ev K G H₀ L ss td (decD x)) (e2 : Ev K G H₀ L ss ty (encA a)) : Ev K G H₀ L ss (tDNotIn ty td) (.bl (!decide (a ∈ x.1))) := by
  rw [← someA encC x.1 x.2]
  exact ev_dnotinFT e1 e2 rfl rfl
theorem ev_wt (y : Wts) (e1 : Ev K G H₀ L ss td (wtsD y)) (e2 : Ev K G H₀ L ss ty (encA a)) : Ev K G H₀ L ss (tDGet2 td ty (tC (.int 0))) (.int (wtF y.1 y.2 a)) := by
  rw [← getA]
  exact ev_dget2FT e1 e2 ev_int rfl rfl
end
theorem evo_links {G H₀ L : Hp} {ss : List Sl} {i : Nat} {r : List Nat} {E : XK} (h : ss[i]? = some (.d (.lst (r.map encN)))) (hl : r.length ≤ 1000) : EvO K G H₀ L ss (tCall (SpO K preLk resLk) [] E (tCons (tVar i) tNil)) ((linksR r).map encA) := by
  rw [← resLk_enc]
  exact evo_call (pre := preLk) (res := resLk) (evaf_cons (ev_var h) evaf_nil) ⟨r, rfl, hl⟩
theorem ev_gap {G H₀ L : Hp} {ss : List Sl} {i : Nat} {r : List Nat} {E : XK} (h : ss[i]? = some (.d (.lst (r.map encN)))) (hn : r ≠ []) : Ev K G H₀ L ss (tCall (SpD K preGap resGap) [] E (tCons (tVar i) tNil)) (encA (gapR r)) := by
  rw [← resGap_enc]
  exact ev_call (pre := preGap) (res := resGap) (evaf_cons (ev_var h) evaf_nil) ⟨r, rfl, hn⟩
def openR (r : List Nat) (x : Dec) : List Apt := (linksR r ++ [gapR r]).filter fun a => !decide (a ∈ x.1)
def preOp (q : List Nat × Dec) (ds : List D) : Prop := ds = [.lst (q.1.map encN), decD q.2] ∧ q.1 ≠ [] ∧ q.1.length ≤ 1000
def resOp (q : List Nat × Dec) : List D := (openR q.1 q.2).map encA
theorem links_len (r : List Nat) : (linksR r).length = r.length - 1 := by unfold linksR; rw [List.length_map, List.length_range]
theorem ok_open_pairs (Z : Tx K mg ad0) : FnOk P w K mg base CX0 3 ad0.f_open_pairs ad0.d_open_pairs ["ring", "decided"] (SpGO K preOp resOp) := by
  have G_links_of := ok_links_of (P := P) (w := w) (base := base) Z
  have G_gap_of := ok_gap_of (P := P) (w := w) (base := base) Z
  refine Z.F_open_pairs.ok sc_open_pairs (fun vs H Q E h => spGO_len (n := 2) (by rintro q ds ⟨rfl, _⟩; rfl) h) (fun cdv A outer s H vs Q E hr h => ⟨_, (pss_one (ps_ret (pe_lc rfl (LcOk.of (Nx := (["ring", "decided"] : List Str)) (sc := defScope s_open_pairs) (N' := (["pair", "decided"] : List Str)) (nt := 1) (cs := [1]) rfl rfl (by decide +kernel)) (pi_list (pe_op (show OpR _ _ (rCatD K) from op_catD) (pe_call G_links_of (hr.mono (by decide)) (by rfl) Z.M_links_of Z.F_links_of.kp Z.B_links_of .nil pass0 (pa_cons (pv 0) pa_nil)) (pe_lst (pa_cons (pe_call G_gap_of (hr.mono (by decide)) (by rfl) Z.M_gap_of Z.F_gap_of.kp Z.B_gap_of .nil pass0 (pa_cons (pv 0) pa_nil)) pa_nil)))) (fun _ _ _ _ => (pg_name (i := 0) (show List.Nodup (["pair", "decided"] : List Str) by decide +kernel) rfl (Or.inl rfl))) (fun _ _ _ _ => (pifs_one (pt_cmp (pc_dnotin (hu_of hr) (pv 0) (pv 1)) (by with_unfolding_all rfl)))) (fun _ _ _ _ => (pv 0))))), ?_⟩)
  refine go_spGO h (by rw [spGO_len (n := 2) (by rintro q ds ⟨rfl, _⟩; rfl) h]; decide) fun G ds q hp rt => ?_
  obtain ⟨r, x⟩ := q
  obtain ⟨rfl, hn, hl⟩ := hp
  have hl : r.length ≤ 1000 := hl
  have e : (linksR r ++ [gapR r]).map encA = resLk [.lst (r.map encN)] ++ [encA (gapR r)] := by rw [resLk_enc, List.map_append]; rfl
  have hll : (resLk [.lst (r.map encN)]).length + 1 ≤ 1001 := by rw [resLk_enc, List.length_map, links_len]; omega
  refine go_retO (evo_lcX (linksR r ++ [gapR r]) encA (fun a => !decide (a ∈ x.1)) encA (by
      rw [e]
      refine EvO.l (evo_cat (EvO.l (evo_call (pre := preLk) (res := resLk) (evaf_cons (ev_var rfl) evaf_nil) ⟨r, rfl, hl⟩)) (EvO.l (evo_lst (evaf_cons ?_ evaf_nil) (small (by simp)))) (by rw [sizeLine_eq, List.length_singleton]; omega))
      rw [← resGap_enc]
      exact ev_call (pre := preGap) (res := resGap) (evaf_cons (ev_var rfl) evaf_nil) ⟨r, rfl, hn⟩) (gk_name (by decide)) (by decide) (by rw [sizeLine_eq, List.length_append, links_len]; simp; omega)
    fun a ha => ⟨_, tg_name, evt_b (ev_notDec x (ev_var rfl) (ev_var rfl)), fun _ => ev_var rfl⟩) rt
def linkOk (x : Dec) (y : Wts) (a : Apt) : Bool := !(isPart x a || (!decide (a ∈ x.1) && decide (wtF y.1 y.2 a ≤ 0)))
def gapOk (x : Dec) (y : Wts) (a : Apt) : Bool := isPart x a || (!decide (a ∈ x.1) && decide (wtF y.1 y.2 a < 0))
def loseR (r : List Nat) (m : Nat) (y : Wts) (x : Dec) : Bool := (isRing r && r.all fun k => decide (k < m)) && (!decide (openR r x = []) && ((linksR r).all (linkOk x y) && gapOk x y (gapR r)))
def preLo (q : List Nat × Nat × Wts × Dec) (ds : List D) : Prop := ds = [.lst (q.1.map encN), encN q.2.1, wtsD q.2.2.1, decD q.2.2.2] ∧ q.1.length ≤ 1000
def resLo (q : List Nat × Nat × Wts × Dec) : D := .bl (loseR q.1 q.2.1 q.2.2.1 q.2.2.2)
theorem resRing_enc (r : List Nat) (m : Nat) : resRing [.lst (r.map encN), encN m] = .bl (isRing r && r.all fun k => decide (k < m)) := by
  show D.bl (isRing ((r.map encN).map unN) && ((r.map encN).map unN).all fun k => decide (k < m)) = _
  rw [unN_map]
theorem enc_nil {l : List Apt} : decide (D.lst (l.map encA) = .lst []) = decide (l = []) := decide_eq_decide.mpr (by cases l <;> simp)
theorem nbsA (l : List Apt) : (D.lst (l.map encA)).nb = true := D.nbs_map encA_nb l
theorem depA (l : List Apt) : (D.lst (l.map encA)).dep ≤ 60 := by
  show D.deps (l.map encA) + 1 ≤ 60
  have : D.deps (l.map encA) ≤ 1 := by
    induction l with
    | nil => exact Nat.zero_le _
    | cons a l ih => exact Nat.max_le.mpr ⟨Nat.le_refl 1, ih⟩
  omega
theorem ok_is_losing (Z : Tx K mg ad0) : FnOk P w K mg base CX0 4 ad0.f_is_losing ad0.d_is_losing ["ring", "many", "weights", "decided"] (SpG K preLo resLo) := by
  have G_is_ring := ok_is_ring (P := P) (w := w) (base := base) Z
  have G_open_pairs := ok_open_pairs (P := P) (w := w) (base := base) Z
  have G_links_of := ok_links_of (P := P) (w := w) (base := base) Z
  have G_gap_of := ok_gap_of (P := P) (w := w) (base := base) Z
  refine Z.F_is_losing.ok sc_is_losing (fun vs H Q E h => spG_len (n := 4) (by rintro q ds ⟨rfl, _⟩; rfl) h) (fun cdv A outer s H vs Q E hr h => ⟨_, (pss_cons (ps_if (PW.pt (pw_or (pt_not (pt_val (pe_call G_is_ring (hr.mono (by decide)) (by rfl) Z.M_is_ring Z.F_is_ring.kp Z.B_is_ring .nil pass0 (pa_cons (pv 0) (pa_cons (pv 1) pa_nil))))) (pw_or1 (pt_cmpR (show OpR _ _ (rEqD K) from op_eqD hr.units) (pe_call G_open_pairs (hr.mono (by decide)) (by rfl) Z.M_open_pairs Z.F_open_pairs.kp Z.B_open_pairs .nil pass0 (pa_cons (pv 0) (pa_cons (pv 3) pa_nil))) (pe_lst pa_nil) (nomark _))))) (pss_one (ps_ret pe_bl)) pss_nil)
      (pss_cons (ps_for PassesOwn.never rfl (pi_list (pe_call G_links_of (hr.mono (by decide)) (by rfl) Z.M_links_of Z.F_links_of.kp Z.B_links_of .nil pass0 (pa_cons (pv 0) pa_nil))) (pg_name (i := 4) sc_is_losing.nd rfl (Or.inl rfl)) (pss_one (ps_if (PW.pt (pw_or (pt_cmpR op_eq (pe_dget1 (hu_of hr) (pv 3) (pv 4) ⟨by rfl, by rfl, by rfl, by rfl⟩) (pe_glob (by rfl) Z.M_PARTED Z.R_PARTED) (nomark _)) (pw_or1 (PW.pt (pw_and (pt_cmp (pc_dnotin (hu_of hr) (pv 4) (pv 3)) (by with_unfolding_all rfl)) (pw_and1 (pt_cmpR op_le (pe_dget2 (hu_of hr) (pv 2) (pv 4) pe_int ⟨by rfl, by rfl, by rfl, by rfl⟩) pe_int (nomark _)))))))) (pss_one (ps_ret pe_bl)) pss_nil)))
      (pss_cons (ps_set (i := 5) sc_is_losing.nd rfl (Or.inl rfl) (pe_call G_gap_of (hr.mono (by decide)) (by rfl) Z.M_gap_of Z.F_gap_of.kp Z.B_gap_of .nil pass0 (pa_cons (pv 0) pa_nil)))
      (pss_one (ps_ret (pe_or (pe_cmpR op_eq (pe_dget1 (hu_of hr) (pv 3) (pv 5) ⟨by rfl, by rfl, by rfl, by rfl⟩) (pe_glob (by rfl) Z.M_PARTED Z.R_PARTED) (nomark _)) (pe_one (pe_and (pe_cmp (pc_dnotin (hu_of hr) (pv 5) (pv 3)) (by with_unfolding_all rfl)) (pe_one (pe_cmpR op_lt (pe_dget2 (hu_of hr) (pv 2) (pv 5) pe_int ⟨by rfl, by rfl, by rfl, by rfl⟩) pe_int (nomark _))))))))))), ?_⟩)
  refine go_spG h (by rw [spG_len (n := 4) (by rintro q ds ⟨rfl, _⟩; rfl) h]; decide) fun G ds q hp rt => ?_
  obtain ⟨r, m, y, x⟩ := q
  obtain ⟨rfl, hl⟩ := hp
  have hl : r.length ≤ 1000 := hl
  have rt : RtD K G H Q (.bl (loseR r m y x)) := rt
  have ring : ∀ {ss' : List Sl} {L : Hp} {E}, ss'[0]? = some (.d (.lst (r.map encN))) → ss'[1]? = some (.d (encN m)) → Ev K G H L ss' (tCall (SpD K preRing resRing) [] E (tCons (tVar 0) (tCons (tVar 1) tNil))) (.bl (isRing r && r.all fun k => decide (k < m))) := fun {ss' L E} h0 h1 => by
    rw [← resRing_enc]
    exact ev_call (evaf_cons (ev_var h0) (evaf_cons (ev_var h1) evaf_nil)) ⟨r, m, rfl, hl⟩
  have rne : (isRing r && r.all fun k => decide (k < m)) = true → r ≠ [] := fun h z => by
    subst z; simp [isRing] at h
  refine go_seq (go_if (evt_or (c := decide (openR r x = [])) (evt_not (evt_test (ring rfl rfl))) fun hb => evt_test (by
    rw [Bool.not_eq_false'] at hb
    rw [← enc_nil]
    exact ev_eqD (EvO.ev (evo_callGO (pre := preOp) (res := resOp) (r, x) (evaf_cons (ev_var rfl) (evaf_cons (ev_var rfl) evaf_nil)) ⟨rfl, rne hb, hl⟩)).b (EvO.ev (evo_lst evaf_nil (small (by simp)))).b (nbsA _) rfl (depA _))) (fun hb => ?_) (fun hb => ?_))
  · refine go_ret ev_bl ?_
    have : loseR r m y x = false := by
      unfold loseR
      rw [Bool.or_eq_true, Bool.not_eq_true', decide_eq_true_eq] at hb
      rcases hb with hb | hb
      · rw [hb]; rfl
      · rw [decide_eq_true hb]; simp
    rw [this] at rt; exact rt
  rw [Bool.or_eq_false_iff, Bool.not_eq_false', decide_eq_false_iff_not] at hb
  obtain ⟨hr1, ho⟩ := hb
  have hrn := rne hr1
  have e0 : loseR r m y x = ((linksR r).all (linkOk x y) && gapOk x y (gapR r)) := by
    unfold loseR; rw [hr1, decide_eq_false ho]; simp
  rw [e0] at rt
  refine go_seq (go_for encA (linksR r) (fun k ss => (∀ a ∈ (linksR r).take k, linkOk x y a = true) ∧ ∃ v4, ss = [.d (.lst (r.map encN)), .d (encN m), .d (wtsD y), .d (decD x), v4, .un]) (EvO.ev (evo_links rfl hl)) ⟨by simp, .un, rfl⟩ ?_ ?_)
  · rintro L' k a ss hL hk ⟨hall, v4, rfl⟩
    refine ⟨_, tg_name, fun N hN => ?_⟩
    refine go_if (evt_or (evt_test (ev_part x (ev_var rfl) (ev_var rfl))) fun _ => evt_and (evt_b (ev_notDec x (ev_var rfl) (ev_var rfl))) fun _ => evt_test (ev_le (ev_wt y (ev_var rfl) (ev_var rfl)).b ev_int.b)) (fun hb => ?_) (fun hb => ?_)
    · refine go_ret ev_bl ?_
      have : (linksR r).all (linkOk x y) = false := by
        rw [List.all_eq_false]
        exact ⟨a, List.mem_of_getElem? hk, by unfold linkOk; rw [hb]; simp⟩
      rw [this] at rt; exact rt
    · refine go_next (hN _ ⟨fun b hb' => ?_, .d (encA a), rfl⟩)
      rw [List.take_add_one, hk] at hb'
      rcases List.mem_append.mp hb' with h | h
      · exact hall b h
      · rw [show b = a by simpa using h]; unfold linkOk; rw [hb]; rfl
  rintro ss ⟨hall, v4, rfl⟩
  rw [List.take_length] at hall
  rw [List.all_eq_true.mpr hall, Bool.true_and] at rt
  ((try dsimp only); refine nx_go ?_)
  refine go_seq (go_set (ev_gap rfl hrn) ?_)
  ((try dsimp only); refine nx_go ?_)
  exact go_ret (ev_or (ev_part x (ev_var rfl) (ev_var rfl)) fun _ => ev_and (ev_notDec x (ev_var rfl) (ev_var rfl)) fun _ => ev_lt (ev_wt y (ev_var rfl) (ev_var rfl)).b ev_int.b) rt
def sumA (f : Apt → Int) (as : List Apt) : Int := as.foldl (fun s a => s + f a) 0
theorem sumA_snoc (f : Apt → Int) (as : List Apt) (a : Apt) : sumA f (as ++ [a]) = sumA f as + f a := by unfold sumA; rw [List.foldl_append]; rfl
def lossA (y : Wts) (x : Dec) (a : Apt) : Int := if (!decide (x.2 a = decide (wtF y.1 y.2 a > 0))) = true then absI (wtF y.1 y.2 a) else 0
def lossD (y : Wts) (x : Dec) : Int := sumA (lossA y x) x.1
def preDl (q : Wts × Dec) (ds : List D) : Prop := ds = [wtsD q.1, decD q.2]
def resDl (q : Wts × Dec) : D := .int (lossD q.1 q.2)
theorem held_eq (b : Bool) : decide ((if b then sHeld else sParted) = sHeld) = b := by cases b <;> decide
theorem ok_decided_loss (Z : Tx K mg ad0) : FnOk P w K mg base CX0 1 ad0.f_decided_loss ad0.d_decided_loss ["weights", "decided"] (SpG K preDl resDl) := by
  refine Z.F_decided_loss.ok sc_decided_loss (fun vs H Q E h => spG_len (n := 2) (by rintro q ds rfl; rfl) h) (fun cdv A outer s H vs Q E hr h => ⟨_, (pss_cons (ps_set (i := 2) sc_decided_loss.nd rfl (Or.inl rfl) pe_int)
      (pss_cons (ps_for PassesOwn.never rfl (pi_itemsM (pe_itemsT (pv 1))) (pg_tup rfl (pgs_cons (pg_name (i := 3) sc_decided_loss.nd rfl (Or.inl rfl)) (pgs_cons (pg_name (i := 4) sc_decided_loss.nd rfl (Or.inl rfl)) pgs_nil))) (pss_cons (ps_set (i := 5) sc_decided_loss.nd rfl (Or.inl rfl) (pe_dget2 (hu_of hr) (pv 0) (pv 3) pe_int ⟨by rfl, by rfl, by rfl, by rfl⟩))
      (pss_one (ps_if (pt_cmpR op_ne (pe_cmpR op_eq (pv 4) (pe_glob (by rfl) Z.M_HELD Z.R_HELD) (nomark _)) (pe_cmpR op_gt (pv 5) pe_int (nomark _)) (nomark _)) (pss_one (ps_set (i := 2) sc_decided_loss.nd rfl (Or.inl rfl) (pe_op op_add (pv 2) (pe_callB call_abs (by rfl) Z.z_abs boot_abs (pa_cons (pv 5) pa_nil))))) pss_nil))))
      (pss_one (ps_ret (pv 2))))), ?_⟩)
  refine go_spG h (by rw [spG_len (n := 2) (by rintro q ds rfl; rfl) h]; decide) fun G ds q hp rt => ?_
  obtain ⟨y, x⟩ := q
  obtain rfl := hp
  have rt : RtD K G H Q (.int (lossD y x)) := rt
  refine go_seq (go_set ev_int ?_)
  ((try dsimp only); refine nx_go ?_)
  refine go_seq (go_forF (fun k ss => ∃ v3 v4 v5, ss = [.d (wtsD y), .d (decD x), .d (.int (sumA (lossA y x) (x.1.take k))), v3, v4, v5]) (evf_items (kvs := dAp encC x.1 x.2) (ev_var rfl) (keysA _ _ _)) ⟨.un, .un, .un, rfl⟩ ?_ ?_)
  · rintro L' k ss hL hk ⟨v3, v4, v5, rfl⟩
    rw [lenA] at hk
    have hka := List.getElem?_eq_getElem hk
    generalize x.1[k] = a at hka
    rw [atA encC x.1 x.2 hka]
    refine ⟨_, tg_tup (ds := [encA a, encC (x.2 a)]) rfl (tgs_cons tg_name (tgs_cons tg_name tgs_nil)), fun N hN => ?_⟩
    have hs : sumA (lossA y x) (x.1.take (k + 1)) = sumA (lossA y x) (x.1.take k) + lossA y x a := by rw [List.take_add_one, hka]; exact sumA_snoc ..
    refine go_seq (go_set (ev_wt (a := a) y (ev_var rfl) (ev_var rfl)) ?_)
    ((try dsimp only); refine nx_go ?_)
    refine go_if (b := !decide (x.2 a = decide (wtF y.1 y.2 a > 0))) (evt_test (by
      have h1 : Ev K G H L' ([.d (wtsD y), .d (decD x), .d (.int (sumA (lossA y x) (x.1.take k))), .d (encA a), .d (encC (x.2 a)), .d (.int (wtF y.1 y.2 a))] : List Sl) (tOp rEq (tVar 4) (tC (.str (T sHeld)))) (.bl (x.2 a)) := by
        have := ev_eqS (K := K) (G := G) (H₀ := H) (L := L') (ss := ([.d (wtsD y), .d (decD x), .d (.int (sumA (lossA y x) (x.1.take k))), .d (encA a), .d (encC (x.2 a)), .d (.int (wtF y.1 y.2 a))] : List Sl)) (l := if x.2 a then sHeld else sParted) (m := sHeld) (ta := tVar 4) (tb := tC (.str (T sHeld))) (ev_var rfl).b (ev_const (d := .str sHeld) fun H => Rep.str (by decide)).b
        rw [held_eq] at this; exact this
      exact ev_neB h1.b (ev_gt (ev_var rfl).b ev_int.b).b)) (fun hq => ?_) (fun hq => ?_)
    · refine go_set (ev_add (ev_var rfl).b (ev_absI (ev_var rfl).b).b) (hN _ ⟨.d (encA a), .d (encC (x.2 a)), .d (.int (wtF y.1 y.2 a)), ?_⟩)
      have e0 : lossA y x a = absI (wtF y.1 y.2 a) := by unfold lossA; rw [if_pos hq]
      rw [hs, e0]; rfl
    · refine go_next (hN _ ⟨.d (encA a), .d (encC (x.2 a)), .d (.int (wtF y.1 y.2 a)), ?_⟩)
      have e0 : lossA y x a = 0 := by unfold lossA; rw [if_neg (by rw [hq]; decide)]
      rw [hs, e0, Int.add_zero]; rfl
  rintro ss ⟨v3, v4, v5, rfl⟩
  rw [lenA, List.take_length]
  ((try dsimp only); refine nx_go ?_)
  exact go_ret (ev_var rfl) rt
abbrev Usd := List Apt × (Apt → Int)
def addU (v : Int) (u : Usd) (a : Apt) : Usd := (if a ∈ u.1 then u.1 else u.1 ++ [a], fun b => if b = a then wtF u.1 u.2 a + v else u.2 b)
theorem put_old {β : Type} [DecidableEq β] (encB : β → D) (ks : List Apt) (f : Apt → β) {a : Apt} (h : a ∈ ks) (v : β) : putD (dAp encB ks f) (encA a) (encB v) = dAp encB ks (fun b => if b = a then v else f b) := by
  unfold putD
  have : ((dAp encB ks f).any fun kv => decide (kv.1 = encA a)) = true := by
    rw [List.any_eq_true]
    exact ⟨(encA a, encB (f a)), List.mem_map.mpr ⟨a, h, rfl⟩, by simp⟩
  rw [if_pos this]
  unfold dAp dA
  rw [List.map_map]
  refine List.map_congr_left fun b hb => ?_
  show (if encA b = encA a then (encA b, encB v) else (encA b, encB (f b))) = _
  by_cases hba : b = a
  · subst hba; simp
  · rw [if_neg (fun z => hba (encA_inj _ _ z))]
    show _ = (encA b, encB (if b = a then v else f b))
    rw [if_neg hba]
theorem put_any {β : Type} [DecidableEq β] (encB : β → D) (ks : List Apt) (f : Apt → β) (a : Apt) (v : β) : putD (dAp encB ks f) (encA a) (encB v) = dAp encB (if a ∈ ks then ks else ks ++ [a]) (fun b => if b = a then v else f b) := by
  by_cases h : a ∈ ks
  · rw [if_pos h]; exact put_old encB ks f h v
  · rw [if_neg h]
    have e : dAp encB ks f = dAp encB ks (fun b => if b = a then v else f b) := by
      unfold dAp dA
      refine List.map_congr_left fun b hb => ?_
      show _ = (encA b, encB (if b = a then v else f b))
      rw [if_neg (fun z => h (by rw [← z]; exact hb))]
    rw [e]
    have := putD_new (enc := encA) (encB := encB) (f := fun b => if b = a then v else f b) (x := a) (xs := ks) encA_inj h
    rw [if_pos rfl] at this
    exact this
abbrev Row := List Nat × Int
def encRow (q : Row) : D := .tup [.lst (q.1.map encN), .int q.2]
def useR (x : Dec) (rows : List Row) : Usd := rows.foldl (fun u q => (openR q.1 x).foldl (addU q.2) u) ([], fun _ => 0)
def sumR (rows : List Row) : Int := rows.foldl (fun s q => s + q.2) 0
theorem useR_snoc (x : Dec) (rows : List Row) (q : Row) : useR x (rows ++ [q]) = (openR q.1 x).foldl (addU q.2) (useR x rows) := by unfold useR; rw [List.foldl_append]; rfl
theorem sumR_snoc (rows : List Row) (q : Row) : sumR (rows ++ [q]) = sumR rows + q.2 := by unfold sumR; rw [List.foldl_append]; rfl
def rowOk (m : Nat) (y : Wts) (x : Dec) (q : Row) : Bool := decide (1 ≤ q.2) && loseR q.1 m y x
def showR (rows : List Row) (m : Nat) (y : Wts) (x : Dec) (least : Int) : Bool := rows.all (rowOk m y x) && (((useR x rows).1.all fun a => decide ((useR x rows).2 a ≤ absI (wtF y.1 y.2 a))) && decide (lossD y x + sumR rows ≥ least))
theorem addU_keys (v : Int) : ∀ (as : List Apt) (u : Usd) (b : Apt), b ∈ (as.foldl (addU v) u).1 ↔ b ∈ u.1 ∨ b ∈ as
  | [], u, b => by simp
  | a :: as, u, b => by
    rw [List.foldl_cons, addU_keys v as]
    have : b ∈ (addU v u a).1 ↔ b ∈ u.1 ∨ b = a := by
      unfold addU
      by_cases h : a ∈ u.1
      · rw [if_pos h]
        exact ⟨.inl, fun z => z.elim id fun z => by rw [z]; exact h⟩
      · rw [if_neg h]; simp
    rw [this, List.mem_cons, or_assoc]
theorem useR_keys (x : Dec) : ∀ (rows : List Row) (b : Apt), b ∈ (useR x rows).1 ↔ ∃ q ∈ rows, b ∈ openR q.1 x := by
  have : ∀ (rows : List Row) (u : Usd) (b : Apt), b ∈ (rows.foldl (fun u q => (openR q.1 x).foldl (addU q.2) u) u).1 ↔ b ∈ u.1 ∨ ∃ q ∈ rows, b ∈ openR q.1 x := by
    intro rows
    induction rows with
    | nil => intro u b; simp
    | cons q rows ih =>
      intro u b
      rw [List.foldl_cons, ih, addU_keys]
      simp only [List.mem_cons, exists_eq_or_imp, or_assoc]
  intro rows b
  unfold useR
  rw [this]
  simp
theorem addU_len (v : Int) : ∀ (as : List Apt) (u : Usd), (as.foldl (addU v) u).1.length ≤ u.1.length + as.length
  | [], u => by simp
  | a :: as, u => by
    rw [List.foldl_cons]
    have h := addU_len v as (addU v u a)
    have h2 : (addU v u a).1.length ≤ u.1.length + 1 := by unfold addU; dsimp only; split <;> simp
    rw [List.length_cons]
    omega
theorem open_len (r : List Nat) (x : Dec) : (openR r x).length ≤ r.length - 1 + 1 := by
  unfold openR
  refine Nat.le_trans (List.length_filter_le _ _) ?_
  rw [List.length_append, links_len]; simp
theorem open_lost {r : List Nat} {m : Nat} {y : Wts} {x : Dec} (h : loseR r m y x = true) {a : Apt} (ha : a ∈ openR r x) : a ∈ y.1 := by
  unfold loseR at h
  simp only [Bool.and_eq_true] at h
  obtain ⟨_, _, hl, hg⟩ := h
  unfold openR at ha
  obtain ⟨hm, hn⟩ := List.mem_filter.mp ha
  have hnp : isPart x a = false := by unfold isPart; rw [Bool.not_eq_true'] at hn; rw [hn]; rfl
  have hw : wtF y.1 y.2 a ≠ 0 := by
    rcases List.mem_append.mp hm with hm | hm
    · have := List.all_eq_true.mp hl a hm
      unfold linkOk at this
      rw [hnp, hn] at this
      simp at this
      omega
    · have ea : a = gapR r := by simpa using hm
      subst ea
      unfold gapOk at hg
      rw [hnp, hn] at hg
      simp at hg
      omega
  unfold wtF at hw
  split at hw
  · assumption
  · exact absurd rfl hw
def preRs (q : List Row × Nat × Wts × Dec × Int) (ds : List D) : Prop := ds = [.lst (q.1.map encRow), encN q.2.1, wtsD q.2.2.1, decD q.2.2.2.1, .int q.2.2.2.2] ∧ q.1.length ≤ 100 ∧ ∀ r ∈ q.1, r.1.length ≤ 100
def resRs (q : List Row × Nat × Wts × Dec × Int) : D := .bl (showR q.1 q.2.1 q.2.2.1 q.2.2.2.1 q.2.2.2.2)
theorem take_mem {α : Type} {l : List α} {k : Nat} {a b : α} (hk : l[k]? = some a) (h : b ∈ l.take (k + 1)) : b ∈ l.take k ∨ b = a := by
  rw [List.take_add_one, hk] at h
  rcases List.mem_append.mp h with h | h
  · exact .inl h
  · exact .inr (by simpa using h)
theorem use_len (x : Dec) : ∀ (rows : List Row), (∀ q ∈ rows, q.1.length ≤ 100) → (useR x rows).1.length ≤ rows.length * 101 := by
  intro rows
  have : ∀ (rows : List Row) (u : Usd), (∀ q ∈ rows, q.1.length ≤ 100) → (rows.foldl (fun u q => (openR q.1 x).foldl (addU q.2) u) u).1.length ≤ u.1.length + rows.length * 101 := by
    intro rows
    induction rows with
    | nil => intro u _; simp
    | cons q rows ih =>
      intro u h
      rw [List.foldl_cons]
      have h1 := ih ((openR q.1 x).foldl (addU q.2) u) fun r hr => h r (List.mem_cons_of_mem _ hr)
      have h2 := addU_len q.2 (openR q.1 x) u
      have h3 := open_len q.1 x
      have h4 := h q List.mem_cons_self
      rw [List.length_cons]
      omega
  intro h
  have := this rows ([], fun _ => 0) h
  unfold useR
  simpa using this
theorem ok_rings_show (Z : Tx K mg ad0) : FnOk P w K mg base CX0 5 ad0.f_rings_show ad0.d_rings_show ["rings", "many", "weights", "decided", "least"] (SpG K preRs resRs) := by
  have G_is_whole := ok_is_whole (P := P) (w := w) (base := base) Z
  have G_decided_loss := ok_decided_loss (P := P) (w := w) (base := base) Z
  have G_is_losing := ok_is_losing (P := P) (w := w) (base := base) Z
  have G_open_pairs := ok_open_pairs (P := P) (w := w) (base := base) Z
  refine Z.F_rings_show.ok sc_rings_show (fun vs H Q E h => spG_len (n := 5) (by rintro q ds ⟨rfl, _⟩; rfl) h) (fun cdv A outer s H vs Q E hr h => ⟨_, (pss_cons (ps_set (i := 5) sc_rings_show.nd rfl (Or.inl rfl) (pe_call G_decided_loss (hr.mono (by decide)) (by rfl) Z.M_decided_loss Z.F_decided_loss.kp Z.B_decided_loss .nil pass0 (pa_cons (pv 2) (pa_cons (pv 3) pa_nil))))
      (pss_cons (ps_set (i := 6) sc_rings_show.nd rfl (Or.inl rfl) pe_dnewT)
      (pss_cons (ps_for PassesOwn.never rfl (pi_list (pv 0)) (pg_tup rfl (pgs_cons (pg_name (i := 7) sc_rings_show.nd rfl (Or.inl rfl)) (pgs_cons (pg_name (i := 8) sc_rings_show.nd rfl (Or.inl rfl)) pgs_nil))) (pss_cons (ps_if (PW.pt (pw_or (pt_not (pt_val (pe_call G_is_whole (hr.mono (by decide)) (by rfl) Z.M_is_whole Z.F_is_whole.kp Z.B_is_whole .nil pass0 (pa_cons (pv 8) pa_nil)))) (pw_or (pt_cmpR op_lt (pv 8) pe_int (nomark _)) (pw_or1 (pt_not (pt_val (pe_call G_is_losing (hr.mono (by decide)) (by rfl) Z.M_is_losing Z.F_is_losing.kp Z.B_is_losing .nil pass0 (pa_cons (pv 7) (pa_cons (pv 1) (pa_cons (pv 2) (pa_cons (pv 3) pa_nil))))))))))) (pss_one (ps_ret pe_bl)) pss_nil)
      (pss_cons (ps_set (i := 5) sc_rings_show.nd rfl (Or.inl rfl) (pe_op op_add (pv 5) (pv 8)))
      (pss_one (ps_for PassesOwn.never rfl (pi_list (pe_call G_open_pairs (hr.mono (by decide)) (by rfl) Z.M_open_pairs Z.F_open_pairs.kp Z.B_open_pairs .nil pass0 (pa_cons (pv 7) (pa_cons (pv 3) pa_nil)))) (pg_name (i := 9) sc_rings_show.nd rfl (Or.inl rfl)) (pss_one (ps_dput (hu_of hr) (pv 6) (pv 9) (pe_op op_add (pe_dget2 (hu_of hr) (pv 6) (pv 9) pe_int ⟨by rfl, by rfl, by rfl, by rfl⟩) (pv 8)) rfl)))))))
      (pss_cons (ps_frz (ps_set (i := 10) sc_rings_show.nd rfl (Or.inl rfl) (pe_callB (call_all rfl) (by rfl) Z.z_all boot_all (pa_cons (pe_lc rfl (LcOk.of (Nx := (["rings", "many", "weights", "decided", "least", "shown", "used", "ring", "amount", "pair", "within"] : List Str)) (sc := defScope s_rings_show) (N' := (["pair", "amount", "weights"] : List Str)) (nt := 2) (cs := [2]) rfl rfl (by decide +kernel)) (pi_itemsM (pe_itemsT (pv 6))) (fun _ _ _ _ => (show PG _ _ (gTup K 2 _) from pg_tup rfl (pgs_cons (pg_name (i := 0) (show List.Nodup (["pair", "amount", "weights"] : List Str) by decide +kernel) rfl (Or.inl rfl)) (pgs_cons (pg_name (i := 1) (show List.Nodup (["pair", "amount", "weights"] : List Str) by decide +kernel) rfl (Or.inl rfl)) pgs_nil)))) (fun _ _ _ _ => pifs_nil) (fun _ _ _ _ => (pe_cmpR op_le (pv 1) (pe_callB call_abs (by rfl) Z.z_abs boot_abs (pa_cons (pe_dget (hu_of hr) (pv 2) (pv 0) (fun _ _ => rfl)) pa_nil)) (nomark _)))) pa_nil))))
      (pss_one (ps_ret (pe_and (pv 10) (pe_one (pe_cmpR op_ge (pv 5) (pv 4) (nomark _)))))))))), ?_⟩)
  refine go_spG h (by rw [spG_len (n := 5) (by rintro q ds ⟨rfl, _⟩; rfl) h]; decide) fun G ds q hp rt => ?_
  obtain ⟨rows, m, y, x, least⟩ := q
  obtain ⟨rfl, hl, hrl⟩ := hp
  have hl : rows.length ≤ 100 := hl
  have hrl : ∀ r ∈ rows, r.1.length ≤ 100 := hrl
  have rt : RtD K G H Q (.bl (showR rows m y x least)) := rt
  refine go_seq (go_set (d := .int (lossD y x)) (ev_callG (pre := preDl) (res := resDl) (y, x) (evaf_cons (ev_var rfl) (evaf_cons (ev_var rfl) evaf_nil)) rfl) ?_)
  ((try dsimp only); refine nx_go ?_)
  refine go_seq (go_setMT fun p => ?_)
  ((try dsimp only); refine nx_go ?_)
  refine go_seq (go_for encRow rows (fun k ss => (∀ q ∈ rows.take k, rowOk m y x q = true) ∧ ∃ v7 v8 v9, ss = [.d (.lst (rows.map encRow)), .d (encN m), .d (wtsD y), .d (decD x), .d (.int least), .d (.int (lossD y x + sumR (rows.take k))), dslT K p (dAp .int (useR x (rows.take k)).1 (useR x (rows.take k)).2), v7, v8, v9, .un]) (ev_var rfl) ⟨by simp, .un, .un, .un, by simp [sumR, useR, dA]; rfl⟩ ?_ ?_)
  · rintro L' k q ss hL hk ⟨hall, v7, v8, v9, rfl⟩
    obtain ⟨r, am⟩ := q
    have hq : (r, am) ∈ rows := List.mem_of_getElem? hk
    have hr1 : r.length ≤ 100 := hrl _ hq
    have hkl : k < rows.length := (List.getElem?_eq_some_iff.mp hk).1
    have hul : (useR x (rows.take k)).1.length ≤ 10100 := by
      have := use_len x (rows.take k) fun q hq => hrl q (List.mem_of_mem_take hq)
      rw [List.length_take] at this
      omega
    have hol := open_len r x
    have ht : rows.take (k + 1) = rows.take k ++ [(r, am)] := by rw [List.take_add_one, hk]; rfl
    refine ⟨_, tg_tup (ds := [.lst (r.map encN), .int am]) rfl (tgs_cons tg_name (tgs_cons tg_name tgs_nil)), fun N hN => ?_⟩
    refine go_seq (go_if (b := !true || (decide (am < 1) || !loseR r m y x)) (evt_or (evt_not (evt_test (ev_call (pre := fun ds => ∃ i : Int, ds = [.int i]) (res := fun _ => .bl true) (evaf_cons (ev_var rfl) evaf_nil) ⟨am, rfl⟩))) fun _ => evt_or (evt_test (ev_lt (ev_var rfl).b ev_int.b)) fun _ => evt_not (evt_test (ev_callG (pre := preLo) (res := resLo) (r, m, y, x) (evaf_cons (ev_var rfl) (evaf_cons (ev_var rfl) (evaf_cons (ev_var rfl) (evaf_cons (ev_var rfl) evaf_nil)))) ⟨rfl, (by show r.length ≤ 1000; omega)⟩))) (fun hb => ?_) (fun hb => ?_))
    · refine go_ret ev_bl ?_
      have : showR rows m y x least = false := by
        have : rows.all (rowOk m y x) = false := by
          rw [List.all_eq_false]
          refine ⟨_, hq, ?_⟩
          unfold rowOk
          simp only [Bool.not_true, Bool.false_or, Bool.or_eq_true, decide_eq_true_eq, Bool.not_eq_true'] at hb
          rcases hb with hb | hb
          · rw [decide_eq_false (by show ¬ 1 ≤ am; omega)]; simp
          · show ¬ (decide (1 ≤ am) && loseR r m y x) = true
            rw [hb]; simp
        unfold showR; rw [this]; rfl
      rw [this] at rt; exact rt
    simp only [Bool.not_true, Bool.false_or, Bool.or_eq_false_iff, decide_eq_false_iff_not, Bool.not_eq_false'] at hb
    obtain ⟨hb1, hb2⟩ := hb
    have hrow : rowOk m y x (r, am) = true := by
      show (decide (1 ≤ am) && loseR r m y x) = true
      rw [decide_eq_true (by omega), hb2]; rfl
    have hrn : r ≠ [] := fun z => by subst z; simp [loseR, isRing] at hb2
    ((try dsimp only); refine nx_go ?_)
    refine go_seq (go_set (ev_add (ev_var rfl).b (ev_var rfl).b) ?_)
    ((try dsimp only); refine nx_go ?_)
    refine go_for encA (openR r x) (fun j ss => ∃ v9, ss = [.d (.lst (rows.map encRow)), .d (encN m), .d (wtsD y), .d (decD x), .d (.int least), .d (.int (lossD y x + sumR (rows.take k) + am)), dslT K p (dAp .int (((openR r x).take j).foldl (addU am) (useR x (rows.take k))).1 (((openR r x).take j).foldl (addU am) (useR x (rows.take k))).2), .d (.lst (r.map encN)), .d (.int am), v9, .un]) (EvO.ev (evo_callGO (pre := preOp) (res := resOp) (r, x) (evaf_cons (ev_var rfl) (evaf_cons (ev_var rfl) evaf_nil)) ⟨rfl, hrn, (by show r.length ≤ 1000; omega)⟩)) ⟨v9, by simp⟩ ?_ ?_
    · rintro L2 j a ss hL2 hj ⟨v9, rfl⟩
      refine ⟨_, tg_name, fun N2 hN2 => ?_⟩
      have hjl : j < (openR r x).length := (List.getElem?_eq_some_iff.mp hj).1
      have hl2 := addU_len am ((openR r x).take j) (useR x (rows.take k))
      rw [List.length_take] at hl2
      refine go_dputK (d := .int (wtF (((openR r x).take j).foldl (addU am) (useR x (rows.take k))).1 (((openR r x).take j).foldl (addU am) (useR x (rows.take k))).2 a + am)) rfl (ev_add (by rw [← getA]; exact (ev_dget2K rfl (ev_var rfl) ev_int rfl rfl).b) (ev_var rfl).b) (ev_var rfl) rfl rfl (by rw [sizeLine_eq, lenA]; omega) (hN2 _ ⟨.d (encA a), ?_⟩)
      have et : (openR r x).take (j + 1) = (openR r x).take j ++ [a] := by rw [List.take_add_one, hj]; rfl
      rw [et, List.foldl_append]
      have := put_any D.int (((openR r x).take j).foldl (addU am) (useR x (rows.take k))).1 (((openR r x).take j).foldl (addU am) (useR x (rows.take k))).2 a (wtF (((openR r x).take j).foldl (addU am) (useR x (rows.take k))).1 (((openR r x).take j).foldl (addU am) (useR x (rows.take k))).2 a + am)
      show List.set _ _ (dslT K p (putD _ (encA a) (.int _))) = _
      rw [this]; rfl
    · rintro ss ⟨v9, rfl⟩
      refine hN _ ⟨fun b hb => ?_, .d (.lst (r.map encN)), .d (.int am), v9, ?_⟩
      · rcases take_mem hk hb with h | h
        · exact hall b h
        · rw [h]; exact hrow
      · rw [List.take_length, ht, useR_snoc, sumR_snoc, Int.add_assoc]
  rintro ss ⟨hall, v7, v8, v9, rfl⟩
  rw [List.take_length] at hall ⊢
  ((try dsimp only); refine nx_go ?_)
  have hall2 : rows.all (rowOk m y x) = true := List.all_eq_true.mpr hall
  have e0 : showR rows m y x least = (((useR x rows).1.all fun a => decide ((useR x rows).2 a ≤ absI (wtF y.1 y.2 a))) && decide (lossD y x + sumR rows ≥ least)) := by unfold showR; rw [hall2, Bool.true_and]
  rw [e0] at rt
  have hul : (useR x rows).1.length ≤ 10100 := by
    have := use_len x rows hrl
    omega
  refine go_seq (go_frz (i := 6) rfl (go_set (d := .bl ((useR x rows).1.all fun a => decide ((useR x rows).2 a ≤ absI (wtF y.1 y.2 a)))) (ev_allM (xs := (useR x rows).1) (EvO.l ?_)) ?_))
  · have e1 : (useR x rows).1.map (fun a => D.bl (decide ((useR x rows).2 a ≤ absI (wtF y.1 y.2 a)))) = ((List.range (dAp .int (useR x rows).1 (useR x rows).2).length).filter fun _ => true).map fun k => D.bl (decide ((useR x rows).2 ((useR x rows).1.getD k (0, 0)) ≤ absI (wtF y.1 y.2 ((useR x rows).1.getD k (0, 0))))) := by
      rw [List.filter_eq_self.mpr (fun _ _ => rfl), lenA]
      refine List.ext_getElem? fun i => ?_
      rw [List.getElem?_map, List.getElem?_map]
      by_cases hi : i < (useR x rows).1.length
      · rw [List.getElem?_range hi, List.getElem?_eq_getElem hi]
        simp [List.getD_eq_getElem?_getD, hi]
      · rw [List.getElem?_eq_none (by omega), List.getElem?_eq_none (by simpa using hi)]; rfl
    rw [e1]
    refine evo_lcI (fun _ => true) (fun k => D.bl (decide ((useR x rows).2 ((useR x rows).1.getD k (0, 0)) ≤ absI (wtF y.1 y.2 ((useR x rows).1.getD k (0, 0)))))) (EvF.evi (evf_items (kvs := dAp .int (useR x rows).1 (useR x rows).2) (ev_var rfl) (keysA _ _ _))) (gk_tup (gks_cons (gk_name (by decide)) (gks_cons (gk_name (by decide)) gks_nil))) (by decide) (by rw [sizeLine_eq, lenA]; omega) fun k hk => ?_
    rw [lenA] at hk
    have hka := List.getElem?_eq_getElem hk
    have hget : (useR x rows).1.getD k (0, 0) = (useR x rows).1[k] := by rw [List.getD_eq_getElem?_getD, hka]; rfl
    rw [hget]
    have hmem : (useR x rows).1[k] ∈ (useR x rows).1 := List.getElem_mem hk
    generalize (useR x rows).1[k] = a at hka hmem
    rw [atA _ _ _ hka]
    obtain ⟨q, hq, hao⟩ := (useR_keys x rows a).mp hmem
    have hrq := hall q hq
    have hay : a ∈ y.1 := by
      unfold rowOk at hrq
      rw [Bool.and_eq_true] at hrq
      exact open_lost hrq.2 hao
    refine ⟨_, tg_tup (ds := [encA a, .int ((useR x rows).2 a)]) rfl (tgs_cons tg_name (tgs_cons tg_name tgs_nil)), evt_true, fun _ => ?_⟩
    have hw : wtF y.1 y.2 a = y.2 a := if_pos hay
    rw [hw]
    exact ev_le (ev_var rfl).b (ev_absI (ev_dgetFT (kvs := dAp .int y.1 y.2) (ev_var rfl) (ev_var (d := encA a) rfl) rfl rfl (by rw [show D.tup [.int a.1, .int a.2] = encA a from rfl, valA, if_pos hay])).b).b
  ((try dsimp only); refine nx_go ?_)
  exact go_ret (ev_and (ev_var rfl) fun _ => ev_ge (ev_var rfl).b (ev_var rfl).b) rt
def preFd (as : List Apt) (ds : List D) : Prop := ds = [.lst (as.map encA)] ∧ as.Nodup ∧ as.length ≤ 1000
def decP (as : List Apt) : Dec := (as, fun _ => false)
theorem nod_take {α : Type} {l : List α} (h : l.Nodup) {k : Nat} {a : α} (hk : l[k]? = some a) : a ∉ l.take k := fun hm => by
  have hl := (List.getElem?_eq_some_iff.mp hk).1
  have : (l.take (k + 1)).Nodup := h.sublist (List.take_sublist _ _)
  rw [List.take_add_one, hk] at this
  exact (List.nodup_append.mp this).2.2 a hm a (by simp) rfl
theorem ok_first_decided (Z : Tx K mg ad0) : FnOk P w K mg base CX0 1 ad0.f_first_decided ad0.d_first_decided ["aparts"] (SpG K preFd fun as => decD (decP as)) := by
  refine Z.F_first_decided.ok sc_first_decided (fun vs H Q E h => spG_len (n := 1) (by rintro q ds ⟨rfl, _⟩; rfl) h) (fun cdv A outer s H vs Q E hr h => ⟨_, (pss_cons (ps_set (i := 1) sc_first_decided.nd rfl (Or.inl rfl) pe_dnewT)
      (pss_cons (ps_for PassesOwn.never rfl (pi_list (pv 0)) (pg_name (i := 2) sc_first_decided.nd rfl (Or.inl rfl)) (pss_one (ps_dput (hu_of hr) (pv 1) (pv 2) (pe_glob (by rfl) Z.M_PARTED Z.R_PARTED) rfl)))
      (pss_one (ps_frz (ps_ret (pv 1)))))), ?_⟩)
  refine go_spG h (by rw [spG_len (n := 1) (by rintro q ds ⟨rfl, _⟩; rfl) h]; decide) fun G ds as hp rt => ?_
  obtain ⟨rfl, hn, hl⟩ := hp
  refine go_seq (go_setMT fun p => ?_)
  ((try dsimp only); refine nx_go ?_)
  refine go_seq (go_for encA as (fun k ss => ∃ v2, ss = [.d (.lst (as.map encA)), dslT K p (dAp encC (as.take k) (fun _ => false)), v2]) (ev_var rfl) ⟨.un, rfl⟩ ?_ ?_)
  · rintro L' k a ss hL hk ⟨v2, rfl⟩
    refine ⟨_, tg_name, fun N hN => ?_⟩
    refine go_dputK (d := encC false) rfl (ev_const (d := .str sParted) fun H => Rep.str (by decide)) (ev_var rfl) rfl rfl (by rw [sizeLine_eq, lenA, List.length_take]; omega) (hN _ ⟨.d (encA a), ?_⟩)
    have e : putD (dAp encC (as.take k) fun _ => false) (encA a) (encC false) = dAp encC (as.take (k + 1)) fun _ => false := by
      rw [List.take_add_one, hk]
      exact putD_new (f := fun _ => false) encA_inj (nod_take hn hk)
    show List.set _ _ (dslT K p (putD _ (encA a) _)) = _
    rw [e]; rfl
  rintro ss ⟨v2, rfl⟩
  rw [List.take_length]
  ((try dsimp only); refine nx_go ?_)
  exact go_frz (i := 1) rfl (go_ret (ev_var rfl) rt)
def keyP (p : Pr) : Apt := (p.1, p.2.1)
def wOf (ps : List Pr) (a : Apt) : Int := ((ps.find? fun p => decide (keyP p = a)).map (·.2.2)).getD 0
def wtsP (ps : List Pr) : Wts := (ps.map keyP, wOf ps)
def preFw (ps : List Pr) (ds : List D) : Prop := ds = [.lst (ps.map encP)] ∧ (ps.map keyP).Nodup ∧ ps.length ≤ 1000
theorem wOf_at : ∀ {ps : List Pr}, (ps.map keyP).Nodup → ∀ {p : Pr}, p ∈ ps → wOf ps (keyP p) = p.2.2
  | q :: ps, hn, p, hp => by
    rw [List.map_cons, List.nodup_cons] at hn
    unfold wOf
    rw [List.find?_cons]
    rcases List.mem_cons.mp hp with h | h
    · subst h; rw [decide_eq_true rfl]; rfl
    · have : ¬ keyP q = keyP p := fun z => hn.1 (by rw [z]; exact List.mem_map.mpr ⟨p, h, rfl⟩)
      rw [decide_eq_false this]
      exact wOf_at hn.2 h
theorem ok_first_weights (Z : Tx K mg ad0) : FnOk P w K mg base CX0 1 ad0.f_first_weights ad0.d_first_weights ["pairs"] (SpG K preFw fun ps => wtsD (wtsP ps)) := by
  refine Z.F_first_weights.ok sc_first_weights (fun vs H Q E h => spG_len (n := 1) (by rintro q ds ⟨rfl, _⟩; rfl) h) (fun cdv A outer s H vs Q E hr h => ⟨_, (pss_cons (ps_set (i := 1) sc_first_weights.nd rfl (Or.inl rfl) pe_dnewT)
      (pss_cons (ps_for PassesOwn.never rfl (pi_list (pv 0)) (pg_tup rfl (pgs_cons (pg_name (i := 2) sc_first_weights.nd rfl (Or.inl rfl)) (pgs_cons (pg_name (i := 3) sc_first_weights.nd rfl (Or.inl rfl)) (pgs_cons (pg_name (i := 4) sc_first_weights.nd rfl (Or.inl rfl)) pgs_nil)))) (pss_one (ps_dput (hu_of hr) (pv 1) (pe_tup (pa_cons (pv 2) (pa_cons (pv 3) pa_nil))) (pv 4) rfl)))
      (pss_one (ps_frz (ps_ret (pv 1)))))), ?_⟩)
  refine go_spG h (by rw [spG_len (n := 1) (by rintro q ds ⟨rfl, _⟩; rfl) h]; decide) fun G ds ps hp rt => ?_
  obtain ⟨rfl, hn, hl⟩ := hp
  refine go_seq (go_setMT fun p => ?_)
  ((try dsimp only); refine nx_go ?_)
  refine go_seq (go_for encP ps (fun k ss => ∃ v2 v3 v4, ss = [.d (.lst (ps.map encP)), dslT K p (dAp .int ((ps.take k).map keyP) (wOf ps)), v2, v3, v4]) (ev_var rfl) ⟨.un, .un, .un, rfl⟩ ?_ ?_)
  · rintro L' k q ss hL hk ⟨v2, v3, v4, rfl⟩
    refine ⟨_, tg_tup rfl (tgs_cons tg_name (tgs_cons tg_name (tgs_cons tg_name tgs_nil))), fun N hN => ?_⟩
    refine go_dputK (ds := [.int q.1, .int q.2.1]) (d := .int q.2.2) rfl (ev_var rfl) (ev_tup (evaf_cons (ev_var rfl) (evaf_cons (ev_var rfl) evaf_nil)) (small (by simp))) rfl rfl (by rw [sizeLine_eq, lenA, List.length_map, List.length_take]; omega) (hN _ ⟨.d (.int q.1), .d (.int q.2.1), .d (.int q.2.2), ?_⟩)
    have hq := List.mem_of_getElem? hk
    have hnt : keyP q ∉ (ps.take k).map keyP := by
      rw [List.map_take]
      exact nod_take hn (by rw [List.getElem?_map, hk]; rfl)
    have e : putD (dAp .int ((ps.take k).map keyP) (wOf ps)) (encA (keyP q)) (.int q.2.2) = dAp .int ((ps.take (k + 1)).map keyP) (wOf ps) := by
      rw [List.take_add_one, hk, List.map_append, ← wOf_at hn hq]
      exact putD_new (f := wOf ps) encA_inj hnt
    show List.set _ _ (dslT K p (putD _ (encA (keyP q)) _)) = _
    rw [e]; rfl
  rintro ss ⟨v2, v3, v4, rfl⟩
  rw [List.take_length]
  ((try dsimp only); refine nx_go ?_)
  exact go_frz (i := 1) rfl (go_ret (ev_var rfl) rt)
theorem held_of (x : Dec) (a : Apt) : decide ((valD (dAp encC x.1 x.2) (encA a)).getD .non = .str sHeld) = isHeld x a := by
  unfold isHeld
  rw [valA]
  by_cases h : a ∈ x.1
  · rw [if_pos h, decide_eq_true h, Bool.true_and]
    show decide (encC (x.2 a) = .str sHeld) = _
    cases x.2 a <;> decide
  · rw [if_neg h, decide_eq_false h, Bool.false_and]
    exact decide_eq_false (by intro z; cases z)
theorem ev_held {G H₀ L : Hp} {ss : List Sl} {td ty : TE} {a : Apt} (x : Dec) (e1 : Ev K G H₀ L ss td (decD x)) (e2 : Ev K G H₀ L ss ty (encA a)) : Ev K G H₀ L ss (tOp rEq (tDGet1 td ty) (tC (.str (T sHeld)))) (.bl (isHeld x a)) := by
  rw [← held_of]
  exact ev_eqNS (ev_dget1FT e1 e2 rfl rfl) (getC x a) (ev_const (d := .str sHeld) fun H => Rep.str (by decide)).b
def neverR (r : List Nat) (m : Nat) (x : Dec) : Bool := (isRing r && r.all fun k => decide (k < m)) && ((linksR r).all (isHeld x) && isPart x (gapR r))
def preNe (q : List Nat × Nat × Dec) (ds : List D) : Prop := ds = [.lst (q.1.map encN), encN q.2.1, decD q.2.2] ∧ q.1.length ≤ 1000
def resNe (q : List Nat × Nat × Dec) : D := .bl (neverR q.1 q.2.1 q.2.2)
theorem ok_is_never (Z : Tx K mg ad0) : FnOk P w K mg base CX0 4 ad0.f_is_never ad0.d_is_never ["ring", "many", "decided"] (SpG K preNe resNe) := by
  have G_is_ring := ok_is_ring (P := P) (w := w) (base := base) Z
  have G_links_of := ok_links_of (P := P) (w := w) (base := base) Z
  have G_gap_of := ok_gap_of (P := P) (w := w) (base := base) Z
  refine Z.F_is_never.ok sc_is_never (fun vs H Q E h => spG_len (n := 3) (by rintro q ds ⟨rfl, _⟩; rfl) h) (fun cdv A outer s H vs Q E hr h => ⟨_, (pss_cons (ps_if (pt_not (pt_val (pe_call G_is_ring (hr.mono (by decide)) (by rfl) Z.M_is_ring Z.F_is_ring.kp Z.B_is_ring .nil pass0 (pa_cons (pv 0) (pa_cons (pv 1) pa_nil))))) (pss_one (ps_ret pe_bl)) pss_nil)
      (pss_cons (ps_set (i := 3) sc_is_never.nd rfl (Or.inl rfl) (pe_callB (call_all rfl) (by rfl) Z.z_all boot_all (pa_cons (pe_lc rfl (LcOk.of (Nx := (["ring", "many", "decided", "all_held"] : List Str)) (sc := defScope s_is_never) (N' := (["link", "decided"] : List Str)) (nt := 1) (cs := [2]) rfl rfl (by decide +kernel)) (pi_list (pe_call G_links_of (hr.mono (by decide)) (by rfl) Z.M_links_of Z.F_links_of.kp Z.B_links_of .nil pass0 (pa_cons (pv 0) pa_nil))) (fun _ _ _ _ => (pg_name (i := 0) (show List.Nodup (["link", "decided"] : List Str) by decide +kernel) rfl (Or.inl rfl))) (fun _ _ _ _ => pifs_nil) (fun _ _ _ _ => (pe_cmpR op_eq (pe_dget1 (hu_of hr) (pv 1) (pv 0) ⟨by rfl, by rfl, by rfl, by rfl⟩) (pe_glob (by rfl) Z.M_HELD Z.R_HELD) (nomark _)))) pa_nil)))
      (pss_one (ps_ret (pe_and (pv 3) (pe_one (pe_cmpR op_eq (pe_dget1 (hu_of hr) (pv 2) (pe_call G_gap_of (hr.mono (by decide)) (by rfl) Z.M_gap_of Z.F_gap_of.kp Z.B_gap_of .nil pass0 (pa_cons (pv 0) pa_nil)) ⟨by rfl, by rfl, by rfl, by rfl⟩) (pe_glob (by rfl) Z.M_PARTED Z.R_PARTED) (nomark _)))))))), ?_⟩)
  refine go_spG h (by rw [spG_len (n := 3) (by rintro q ds ⟨rfl, _⟩; rfl) h]; decide) fun G ds q hp rt => ?_
  obtain ⟨r, m, x⟩ := q
  obtain ⟨rfl, hl⟩ := hp
  have hl : r.length ≤ 1000 := hl
  have rt : RtD K G H Q (.bl (neverR r m x)) := rt
  have ring : ∀ {ss' : List Sl} {L : Hp} {E}, ss'[0]? = some (.d (.lst (r.map encN))) → ss'[1]? = some (.d (encN m)) → Ev K G H L ss' (tCall (SpD K preRing resRing) [] E (tCons (tVar 0) (tCons (tVar 1) tNil))) (.bl (isRing r && r.all fun k => decide (k < m))) := fun {ss' L E} h0 h1 => by
    rw [← resRing_enc]
    exact ev_call (evaf_cons (ev_var h0) (evaf_cons (ev_var h1) evaf_nil)) ⟨r, m, rfl, hl⟩
  refine go_seq (go_if (evt_not (evt_test (ring rfl rfl))) (fun hb => ?_) (fun hb => ?_))
  · rw [Bool.not_eq_true'] at hb
    refine go_ret ev_bl ?_
    have : neverR r m x = false := by unfold neverR; rw [hb]; rfl
    rw [this] at rt; exact rt
  rw [Bool.not_eq_false'] at hb
  have hrn : r ≠ [] := fun z => by subst z; simp [isRing] at hb
  have e0 : neverR r m x = ((linksR r).all (isHeld x) && isPart x (gapR r)) := by unfold neverR; rw [hb, Bool.true_and]
  rw [e0] at rt
  ((try dsimp only); refine nx_go ?_)
  refine go_seq (go_set (d := .bl ((linksR r).all (isHeld x))) (ev_allM (xs := linksR r) (g := isHeld x) (EvO.l (evo_lcM (linksR r) encA (fun a => .bl (isHeld x a)) (EvO.l (evo_links rfl hl)) (gk_name (by decide)) (by decide) (by rw [sizeLine_eq, links_len]; omega) fun a ha => ⟨_, tg_name, ev_held x (ev_var rfl) (ev_var rfl)⟩))) ?_)
  ((try dsimp only); refine nx_go ?_)
  exact go_ret (ev_and (ev_var rfl) fun _ => ev_part x (ev_var rfl) (ev_gap rfl hrn)) rt
inductive Pap where
  | nev (r : List Nat) | rin (rows : List Row) | cas (i j : Nat) (a b : Pap)
abbrev sRings : List Nat := [114, 105, 110, 103, 115]
abbrev sCase : List Nat := [99, 97, 115, 101]
abbrev sNever : List Nat := [110, 101, 118, 101, 114]
def encPap : Pap → D
  | .nev r => .tup [.str sNever, .lst (r.map encN)]
  | .rin rows => .tup [.str sRings, .lst (rows.map encRow)]
  | .cas i j a b => .tup [.str sCase, encN i, encN j, encPap a, encPap b]
def PapOk : Pap → Prop
  | .nev r => r.length ≤ 100
  | .rin rows => rows.length ≤ 100 ∧ ∀ q ∈ rows, q.1.length ≤ 100
  | .cas i j a b => i < 8 ∧ j < 8 ∧ PapOk a ∧ PapOk b
def putX (x : Dec) (a : Apt) (b : Bool) : Dec := (x.1 ++ [a], fun c => if c = a then b else x.2 c)
def mayD (i j m : Nat) (x : Dec) : Bool := decide (i < m) && (decide (j < m) && (decide (i < j) && !decide ((i, j) ∈ x.1)))
def showP (m : Nat) (y : Wts) (least : Int) : Pap → Dec → Bool
  | .nev r, x => neverR r m x
  | .rin rows, x => showR rows m y x least
  | .cas i j a b, x => mayD i j m x && (showP m y least a (putX x (i, j) true) && showP m y least b (putX x (i, j) false))
def DecOk (x : Dec) : Prop := x.1.Nodup ∧ x.1.length ≤ 1000 ∧ ∀ a ∈ x.1, a.1 < 8 ∧ a.2 < 8
def preMd (q : Nat × Nat × Pap × Pap × Nat × Dec) (ds : List D) : Prop := ds = [encPap (.cas q.1 q.2.1 q.2.2.1 q.2.2.2.1), encN q.2.2.2.2.1, decD q.2.2.2.2.2]
def resMd (q : Nat × Nat × Pap × Pap × Nat × Dec) : D := .bl (mayD q.1 q.2.1 q.2.2.2.2.1 q.2.2.2.2.2)
theorem ok_may_decide (Z : Tx K mg ad0) : FnOk P w K mg base CX0 3 ad0.f_may_decide ad0.d_may_decide ["paper", "many", "decided"] (SpG K preMd resMd) := by
  have G_is_block := ok_is_block (P := P) (w := w) (base := base) Z
  refine Z.F_may_decide.ok sc_may_decide (fun vs H Q E h => spG_len (n := 3) (by rintro q ds rfl; rfl) h) (fun cdv A outer s H vs Q E hr h => ⟨_, (pss_cons (ps_set (i := 3) sc_may_decide.nd rfl (Or.inl rfl) (pe_ix (show IxR _ (rIxT K) from ix_tup) (pv 0) pe_int (fun _ _ => rfl)))
      (pss_cons (ps_set (i := 4) sc_may_decide.nd rfl (Or.inl rfl) (pe_ix (show IxR _ (rIxT K) from ix_tup) (pv 0) pe_int (fun _ _ => rfl)))
      (pss_one (ps_ret (pe_and (pe_call G_is_block (hr.mono (by decide)) (by rfl) Z.M_is_block Z.F_is_block.kp Z.B_is_block .nil pass0 (pa_cons (pv 3) (pa_cons (pv 1) pa_nil))) (pe_and (pe_call G_is_block (hr.mono (by decide)) (by rfl) Z.M_is_block Z.F_is_block.kp Z.B_is_block .nil pass0 (pa_cons (pv 4) (pa_cons (pv 1) pa_nil))) (pe_and (pe_cmpR op_lt (pv 3) (pv 4) (nomark _)) (pe_one (pe_cmp (pc_dnotin (hu_of hr) (pe_tup (pa_cons (pv 3) (pa_cons (pv 4) pa_nil))) (pv 2)) (by with_unfolding_all rfl)))))))))), ?_⟩)
  refine go_spG h (by rw [spG_len (n := 3) (by rintro q ds rfl; rfl) h]; decide) fun G ds q hp rt => ?_
  obtain ⟨i, j, a, b, m, x⟩ := q
  obtain rfl := hp
  have rt : RtD K G H Q (.bl (mayD i j m x)) := rt
  refine go_seq (go_set (d := encN i) (ev_ixT (ds := [.str sCase, encN i, encN j, encPap a, encPap b]) (ev_var rfl) ev_int.b rfl) ?_)
  ((try dsimp only); refine nx_go ?_)
  refine go_seq (go_set (d := encN j) (ev_ixT (ds := [.str sCase, encN i, encN j, encPap a, encPap b]) (ev_var rfl) ev_int.b rfl) ?_)
  ((try dsimp only); refine nx_go ?_)
  have hij : decide (i < j) = decide (((i : Nat) : Int) < ((j : Nat) : Int)) := decide_eq_decide.mpr (by omega)
  unfold mayD at rt
  rw [hij] at rt
  exact go_ret (ev_and (ev_call (pre := preBlk) (res := resBlk) (evaf_cons (ev_var rfl) (evaf_cons (ev_var rfl) evaf_nil)) ⟨i, m, rfl⟩) fun _ => ev_and (ev_call (pre := preBlk) (res := resBlk) (evaf_cons (ev_var rfl) (evaf_cons (ev_var rfl) evaf_nil)) ⟨j, m, rfl⟩) fun _ => ev_and (ev_lt (ev_var (d := .int (i : Nat)) rfl).b (ev_var (d := .int (j : Nat)) rfl).b) fun _ => ev_notDec (a := (i, j)) x (ev_var rfl) (ev_tup (ds := [.int (i : Nat), .int (j : Nat)]) (evaf_cons (ev_var rfl) (evaf_cons (ev_var rfl) evaf_nil)) (small (by simp)))) rt
def preWc (q : Dec × Apt × Bool) (ds : List D) : Prop := ds = [decD q.1, encA q.2.1, encC q.2.2] ∧ DecOk q.1 ∧ q.2.1 ∉ q.1.1
theorem put_new (x : Dec) {a : Apt} (h : a ∉ x.1) (b : Bool) {β : Type} [DecidableEq β] (encB : Bool → D) : putD (dAp encB x.1 x.2) (encA a) (encB b) = dAp encB (putX x a b).1 (putX x a b).2 := by
  rw [put_any, if_neg h]; rfl
theorem small_keys {β : Type} (encB : β → D) {ks : List Apt} (f : Apt → β) (h : ∀ a ∈ ks, a.1 < 8 ∧ a.2 < 8) : ∀ q ∈ dAp encB ks f, ∃ a b : Nat, a < 8 ∧ b < 8 ∧ q.1 = .tup [.int a, .int b] := fun q hq => by
  obtain ⟨a, ha, rfl⟩ := List.mem_map.mp hq
  exact ⟨a.1, a.2, (h a ha).1, (h a ha).2, rfl⟩
theorem ok_with_choice (Z : Tx K mg ad0) : FnOk P w K mg base CX0 1 ad0.f_with_choice ad0.d_with_choice ["decided", "pair", "choice"] (SpG K preWc fun q => decD (putX q.1 q.2.1 q.2.2)) := by
  refine Z.F_with_choice.ok sc_with_choice (fun vs H Q E h => spG_len (n := 3) (by rintro q ds ⟨rfl, _⟩; rfl) h) (fun cdv A outer s H vs Q E hr h => ⟨_, (pss_cons (ps_set (i := 3) sc_with_choice.nd rfl (Or.inl rfl) (pe_callTy (show CallR _ _ rDictT from call_dictT) (by rfl) Z.z_dict bt_dict (pa_cons (pv 0) pa_nil)))
      (pss_cons (ps_dput (hu_of hr) (pv 3) (pv 1) (pv 2) rfl)
      (pss_one (ps_frz (ps_ret (pv 3)))))), ?_⟩)
  refine go_spG h (by rw [spG_len (n := 3) (by rintro q ds ⟨rfl, _⟩; rfl) h]; decide) fun G ds q hp rt => ?_
  obtain ⟨x, a, b⟩ := q
  obtain ⟨rfl, ⟨hn, hl, hs⟩, ha⟩ := hp
  refine go_seq (go_setCp (kvs := dAp encC x.1 x.2) (ev_var rfl) (small_keys encC x.2 hs) fun p => ?_)
  ((try dsimp only); refine nx_go ?_)
  refine go_seq (go_dputK (i := 3) (d := encC b) rfl (ev_var rfl) (ev_var (d := encA a) rfl) rfl rfl (by rw [sizeLine_eq, lenA]; have hl : x.1.length ≤ 1000 := hl; omega) ?_)
  have hd : dslT K p (putD (dAp encC x.1 x.2) (.tup [.int a.1, .int a.2]) (encC b)) = dslT K p (dAp encC (putX x a b).1 (putX x a b).2) := by
    rw [show D.tup [.int a.1, .int a.2] = encA a from rfl, put_new (β := Bool) x ha b encC]
  rw [hd]
  ((try dsimp only); refine nx_go ?_)
  exact go_frz (i := 3) rfl (go_ret (ev_var rfl) rt)
def Pap.sz : Pap → Nat
  | .nev _ => 1 | .rin _ => 1 | .cas _ _ a b => a.sz + b.sz + 1
abbrev Itm := Pap × Dec
def encIt (t : Itm) : D := .tup [encPap t.1, decD t.2]
def stSz (st : List Itm) : Nat := st.foldr (fun t n => t.1.sz + n) 0
theorem stSz_snoc (st : List Itm) (t : Itm) : stSz (st ++ [t]) = stSz st + t.1.sz := by
  induction st with
  | nil => simp [stSz]
  | cons a st ih => simp only [stSz, List.cons_append, List.foldr_cons] at ih ⊢; omega
theorem pap_pos (p : Pap) : 1 ≤ p.sz := by cases p <;> simp [Pap.sz]
theorem st_len (st : List Itm) : st.length ≤ stSz st := by
  induction st with
  | nil => simp [stSz]
  | cons a st ih =>
    have := pap_pos a.1
    simp only [stSz, List.foldr_cons, List.length_cons] at ih ⊢
    omega
def Fits (t : Itm) : Prop := PapOk t.1 ∧ DecOk t.2 ∧ t.2.1.length + t.1.sz ≤ 1000
theorem put_ok {x : Dec} {i j : Nat} (h : DecOk x) (hn : (i, j) ∉ x.1) (hi : i < 8) (hj : j < 8) (hl : x.1.length < 1000) (b : Bool) : DecOk (putX x (i, j) b) := by
  obtain ⟨h1, h2, h3⟩ := h
  refine ⟨List.nodup_append.mpr ⟨h1, by simp, fun c hc d hd z => hn (by rw [← show d = (i, j) by simpa using hd, ← z]; exact hc)⟩, by show (x.1 ++ [(i, j)]).length ≤ 1000; simp; omega, fun a ha => ?_⟩
  rcases List.mem_append.mp ha with z | z
  · exact h3 a z
  · rw [show a = (i, j) by simpa using z]; exact ⟨hi, hj⟩
def preSh (q : Pap × Nat × List Pr × List Apt × Int) (ds : List D) : Prop := ds = [encPap q.1, encN q.2.1, .lst (q.2.2.1.map encP), .lst (q.2.2.2.1.map encA), .int q.2.2.2.2] ∧ Fits (q.1, decP q.2.2.2.1) ∧ (q.2.2.1.map keyP).Nodup ∧ q.2.2.1.length ≤ 1000
def resSh (q : Pap × Nat × List Pr × List Apt × Int) : D := .bl (showP q.2.1 (wtsP q.2.2.1) q.2.2.2.2 q.1 (decP q.2.2.2.1))
theorem ok_is_shown (Z : Tx K mg ad0) : FnOk P w K mg base CX0 6 ad0.f_is_shown ad0.d_is_shown ["paper", "many", "pairs", "aparts", "least"] (SpG K preSh resSh) := by
  have G_first_weights := ok_first_weights (P := P) (w := w) (base := base) Z
  have G_first_decided := ok_first_decided (P := P) (w := w) (base := base) Z
  have G_rings_show := ok_rings_show (P := P) (w := w) (base := base) Z
  have G_is_never := ok_is_never (P := P) (w := w) (base := base) Z
  have G_may_decide := ok_may_decide (P := P) (w := w) (base := base) Z
  have G_with_choice := ok_with_choice (P := P) (w := w) (base := base) Z
  refine Z.F_is_shown.ok sc_is_shown (fun vs H Q E h => spG_len (n := 5) (by rintro q ds ⟨rfl, _⟩; rfl) h) (fun cdv A outer s H vs Q E hr h => ⟨_, (pss_cons (ps_set (i := 5) sc_is_shown.nd rfl (Or.inl rfl) (pe_call G_first_weights (hr.mono (by decide)) (by rfl) Z.M_first_weights Z.F_first_weights.kp Z.B_first_weights .nil pass0 (pa_cons (pv 2) pa_nil)))
      (pss_cons (ps_set (i := 6) sc_is_shown.nd rfl (Or.inl rfl) (pe_lst (pa_cons (pe_tup (pa_cons (pv 0) (pa_cons (pe_call G_first_decided (hr.mono (by decide)) (by rfl) Z.M_first_decided Z.F_first_decided.kp Z.B_first_decided .nil pass0 (pa_cons (pv 3) pa_nil)) pa_nil))) pa_nil)))
      (pss_cons (ps_while PassesOwn.never (pt_cmpR op_gt (pe_callB call_len_seq (by rfl) Z.z_len boot_len (pa_cons (pv 6) pa_nil)) pe_int (nomark _)) (pss_cons (ps_set (i := 7) sc_is_shown.nd rfl (Or.inl rfl) (pe_bm0 F.plainAttrs_list F.slot_list_pop F.type_list_pop mt_pop (pv 6)))
      (pss_cons (ps_set (i := 8) sc_is_shown.nd rfl (Or.inl rfl) (pe_ix (show IxR _ (rIxT K) from ix_tup) (pv 7) pe_int (fun _ _ => rfl)))
      (pss_cons (ps_set (i := 9) sc_is_shown.nd rfl (Or.inl rfl) (pe_ix (show IxR _ (rIxT K) from ix_tup) (pv 7) pe_int (fun _ _ => rfl)))
      (pss_one (ps_if (pt_cmpR op_eq (pe_ix (show IxR _ (rIxT K) from ix_tup) (pv 8) pe_int (fun _ _ => rfl)) pe_str (nomark _)) (pss_cons (ps_if (pt_not (pt_val (pe_call G_may_decide (hr.mono (by decide)) (by rfl) Z.M_may_decide Z.F_may_decide.kp Z.B_may_decide .nil pass0 (pa_cons (pv 8) (pa_cons (pv 1) (pa_cons (pv 9) pa_nil)))))) (pss_one (ps_ret pe_bl)) pss_nil)
      (pss_cons (ps_set (i := 10) sc_is_shown.nd rfl (Or.inl rfl) (pe_tup (pa_cons (pe_ix (show IxR _ (rIxT K) from ix_tup) (pv 8) pe_int (fun _ _ => rfl)) (pa_cons (pe_ix (show IxR _ (rIxT K) from ix_tup) (pv 8) pe_int (fun _ _ => rfl)) pa_nil))))
      (pss_cons (ps_expr (pe_bm F.plainAttrs_list F.slot_list_append F.type_list_append mt_append (pv 6) (pa_cons (pe_tup (pa_cons (pe_ix (show IxR _ (rIxT K) from ix_tup) (pv 8) pe_int (fun _ _ => rfl)) (pa_cons (pe_call G_with_choice (hr.mono (by decide)) (by rfl) Z.M_with_choice Z.F_with_choice.kp Z.B_with_choice .nil pass0 (pa_cons (pv 9) (pa_cons (pv 10) (pa_cons (pe_glob (by rfl) Z.M_HELD Z.R_HELD) pa_nil)))) pa_nil))) pa_nil)))
      (pss_one (ps_expr (pe_bm F.plainAttrs_list F.slot_list_append F.type_list_append mt_append (pv 6) (pa_cons (pe_tup (pa_cons (pe_ix (show IxR _ (rIxT K) from ix_tup) (pv 8) pe_int (fun _ _ => rfl)) (pa_cons (pe_call G_with_choice (hr.mono (by decide)) (by rfl) Z.M_with_choice Z.F_with_choice.kp Z.B_with_choice .nil pass0 (pa_cons (pv 9) (pa_cons (pv 10) (pa_cons (pe_glob (by rfl) Z.M_PARTED Z.R_PARTED) pa_nil)))) pa_nil))) pa_nil))))))) (pss_one (ps_if (pt_cmpR op_eq (pe_ix (show IxR _ (rIxT K) from ix_tup) (pv 8) pe_int (fun _ _ => rfl)) pe_str (nomark _)) (pss_one (ps_if (pt_not (pt_val (pe_call G_rings_show (hr.mono (by decide)) (by rfl) Z.M_rings_show Z.F_rings_show.kp Z.B_rings_show .nil pass0 (pa_cons (pe_ix (show IxR _ (rIxT K) from ix_tup) (pv 8) pe_int (fun _ _ => rfl)) (pa_cons (pv 1) (pa_cons (pv 5) (pa_cons (pv 9) (pa_cons (pv 4) pa_nil)))))))) (pss_one (ps_ret pe_bl)) pss_nil)) (pss_one (ps_if (pt_not (pt_val (pe_call G_is_never (hr.mono (by decide)) (by rfl) Z.M_is_never Z.F_is_never.kp Z.B_is_never .nil pass0 (pa_cons (pe_ix (show IxR _ (rIxT K) from ix_tup) (pv 8) pe_int (fun _ _ => rfl)) (pa_cons (pv 1) (pa_cons (pv 9) pa_nil)))))) (pss_one (ps_ret pe_bl)) pss_nil))))))))))
      (pss_one (ps_ret pe_bl))))), ?_⟩)
  refine go_spG h (by rw [spG_len (n := 5) (by rintro q ds ⟨rfl, _⟩; rfl) h]; decide) fun G ds q hp rt => ?_
  obtain ⟨pp, m, ps, as, least⟩ := q
  obtain ⟨rfl, hfit, hpn, hpl⟩ := hp
  have hfit : Fits (pp, decP as) := hfit
  have han : as.Nodup := hfit.2.1.1
  have hal : as.length ≤ 1000 := hfit.2.1.2.1
  have rt : RtD K G H Q (.bl (showP m (wtsP ps) least pp (decP as))) := rt
  refine go_seq (go_set (ev_callG (pre := preFw) (res := fun ps => wtsD (wtsP ps)) ps (evaf_cons (ev_var rfl) evaf_nil) ⟨rfl, hpn, hpl⟩) ?_)
  ((try dsimp only); refine nx_go ?_)
  refine go_seq (go_setO (ds := [encIt (pp, decP as)]) (evo_lst (evaf_cons (ev_tup (ds := [encPap pp, decD (decP as)]) (evaf_cons (ev_var rfl) (evaf_cons (ev_callG (pre := preFd) (res := fun as => decD (decP as)) as (evaf_cons (ev_var rfl) evaf_nil) ⟨rfl, han, hal⟩) evaf_nil)) (small (by simp))) evaf_nil) (small (by simp))) fun p => ?_)
  ((try dsimp only); refine nx_go ?_)
  generalize wtsP ps = y at rt
  refine go_seq (go_while (fun n ss => ∃ (st : List Itm) (v7 v8 v9 v10 : Sl), n = stSz st ∧ (∀ t ∈ st, Fits t) ∧ showP m y least pp (decP as) = st.all (fun t => showP m y least t.1 t.2) ∧ stSz st ≤ 1000 ∧ ss = [.d (encPap pp), .d (encN m), .d (.lst (ps.map encP)), .d (.lst (as.map encA)), .d (.int least), .d (wtsD y), .o p (st.map encIt), v7, v8, v9, v10]) (stSz [(pp, decP as)]) ⟨[(pp, decP as)], .un, .un, .un, .un, rfl, fun t ht => by rw [show t = (pp, decP as) by simpa using ht]; exact hfit, by simp, by have h9 : as.length + pp.sz ≤ 1000 := hfit.2.2; show pp.sz + 0 ≤ 1000; omega, rfl⟩ ?_)
  rintro n ss ⟨st, v7, v8, v9, v10, rfl, hst, heq, hbd, rfl⟩
  refine ⟨_, evt_test (ev_gt (ev_lenL (evl_own rfl)).b ev_int.b), fun hb N hN => ?_, fun hb => ?_⟩
  · have hne : st ≠ [] := fun z => by subst z; simp at hb
    obtain ⟨st', t, rfl⟩ : ∃ st' t, st = st' ++ [t] := ⟨st.dropLast, st.getLast hne, (List.dropLast_concat_getLast hne).symm⟩
    have hft := hst t (by simp)
    have hst' : ∀ t ∈ st', Fits t := fun t ht => hst t (List.mem_append_left _ ht)
    rw [List.all_append, List.all_cons, List.all_nil, Bool.and_true] at heq
    rw [stSz_snoc] at hN hbd
    have hl1 := st_len st'
    rw [List.map_append]
    obtain ⟨pq, x⟩ := t
    have hsz := pap_pos pq
    have hbd : stSz st' + pq.sz ≤ 1000 := hbd
    refine go_seq (go_setPop (ds := st'.map encIt) (d := encIt (pq, x)) rfl (by decide) ?_)
    ((try dsimp only); refine nx_go ?_)
    refine go_seq (go_set (d := encPap pq) (ev_ixT (ds := [encPap pq, decD x]) (ev_var rfl) ev_int.b rfl) ?_)
    ((try dsimp only); refine nx_go ?_)
    refine go_seq (go_set (d := decD x) (ev_ixT (ds := [encPap pq, decD x]) (ev_var rfl) ev_int.b rfl) ?_)
    ((try dsimp only); refine nx_go ?_)
    cases pq with
    | rin rows =>
      refine go_if (b := false) (evt_test (ev_eqS (l := sRings) (m := sCase) (ev_ixT (ds := [.str sRings, .lst (rows.map encRow)]) (ev_var rfl) ev_int.b rfl).b (ev_str rfl (by decide)).b)) (fun h => by cases h) fun _ => ?_
      refine go_if (b := true) (evt_test (ev_eqS (l := sRings) (m := sRings) (ev_ixT (ds := [.str sRings, .lst (rows.map encRow)]) (ev_var rfl) ev_int.b rfl).b (ev_str rfl (by decide)).b)) (fun _ => ?_) fun h => by cases h
      refine go_if (evt_not (evt_test (ev_callG (pre := preRs) (res := resRs) (rows, m, y, x, least) (evaf_cons (ev_ixT (ds := [.str sRings, .lst (rows.map encRow)]) (ev_var rfl) ev_int.b rfl) (evaf_cons (ev_var rfl) (evaf_cons (ev_var rfl) (evaf_cons (ev_var rfl) (evaf_cons (ev_var rfl) evaf_nil))))) ⟨rfl, hft.1.1, hft.1.2⟩))) (fun hb => ?_) (fun hb => ?_)
      · rw [Bool.not_eq_true'] at hb
        have hb : showP m y least (.rin rows) x = false := hb
        refine go_ret ev_bl ?_
        rw [heq, hb, Bool.and_false] at rt; exact rt
      · rw [Bool.not_eq_false'] at hb
        have hb : showP m y least (.rin rows) x = true := hb
        rw [hb, Bool.and_true] at heq
        exact go_next (hN _ _ (by simp [Pap.sz]) ⟨st', .d (encIt (.rin rows, x)), .d (encPap (.rin rows)), .d (decD x), v10, rfl, hst', heq, by omega, rfl⟩)
    | nev r =>
      refine go_if (b := false) (evt_test (ev_eqS (l := sNever) (m := sCase) (ev_ixT (ds := [.str sNever, .lst (r.map encN)]) (ev_var rfl) ev_int.b rfl).b (ev_str rfl (by decide)).b)) (fun h => by cases h) fun _ => ?_
      refine go_if (b := false) (evt_test (ev_eqS (l := sNever) (m := sRings) (ev_ixT (ds := [.str sNever, .lst (r.map encN)]) (ev_var rfl) ev_int.b rfl).b (ev_str rfl (by decide)).b)) (fun h => by cases h) fun _ => ?_
      refine go_if (evt_not (evt_test (ev_callG (pre := preNe) (res := resNe) (r, m, x) (evaf_cons (ev_ixT (ds := [.str sNever, .lst (r.map encN)]) (ev_var rfl) ev_int.b rfl) (evaf_cons (ev_var rfl) (evaf_cons (ev_var rfl) evaf_nil))) ⟨rfl, Nat.le_trans hft.1 (by decide)⟩))) (fun hb => ?_) (fun hb => ?_)
      · rw [Bool.not_eq_true'] at hb
        have hb : showP m y least (.nev r) x = false := hb
        refine go_ret ev_bl ?_
        rw [heq, hb, Bool.and_false] at rt; exact rt
      · rw [Bool.not_eq_false'] at hb
        have hb : showP m y least (.nev r) x = true := hb
        rw [hb, Bool.and_true] at heq
        exact go_next (hN _ _ (by simp [Pap.sz]) ⟨st', .d (encIt (.nev r, x)), .d (encPap (.nev r)), .d (decD x), v10, rfl, hst', heq, by omega, rfl⟩)
    | cas i j a b =>
      obtain ⟨⟨hi, hj, ha, hb'⟩, hdo, hln⟩ := hft
      have hln : x.1.length + (a.sz + b.sz + 1) ≤ 1000 := hln
      have hdo : DecOk x := hdo
      have hbd : stSz st' + (a.sz + b.sz + 1) ≤ 1000 := hbd
      refine go_if (b := true) (evt_test (ev_eqS (l := sCase) (m := sCase) (ev_ixT (ds := [.str sCase, encN i, encN j, encPap a, encPap b]) (ev_var rfl) ev_int.b rfl).b (ev_str rfl (by decide)).b)) (fun _ => ?_) fun h => by cases h
      refine go_seq (go_if (evt_not (evt_test (ev_callG (pre := preMd) (res := resMd) (i, j, a, b, m, x) (evaf_cons (ev_var rfl) (evaf_cons (ev_var rfl) (evaf_cons (ev_var rfl) evaf_nil))) rfl))) (fun hb => ?_) (fun hb => ?_))
      · rw [Bool.not_eq_true'] at hb
        have hb : mayD i j m x = false := hb
        refine go_ret ev_bl ?_
        have : showP m y least (.cas i j a b) x = false := by unfold showP; rw [hb]; rfl
        rw [heq, this, Bool.and_false] at rt; exact rt
      rw [Bool.not_eq_false'] at hb
      have hb : mayD i j m x = true := hb
      have hnx : (i, j) ∉ x.1 := by unfold mayD at hb; simp at hb; exact hb.2.2.2
      ((try dsimp only); refine nx_go ?_)
      refine go_seq (go_set (d := encA (i, j)) (ev_tup (ds := [.int (i : Nat), .int (j : Nat)]) (evaf_cons (ev_ixT (ds := [.str sCase, encN i, encN j, encPap a, encPap b]) (ev_var rfl) ev_int.b rfl) (evaf_cons (ev_ixT (ds := [.str sCase, encN i, encN j, encPap a, encPap b]) (ev_var rfl) ev_int.b rfl) evaf_nil)) (small (by simp))) ?_)
      ((try dsimp only); refine nx_go ?_)
      refine go_seq (go_append (d := encIt (a, putX x (i, j) true)) rfl (ev_tup (ds := [encPap a, decD (putX x (i, j) true)]) (evaf_cons (ev_ixT (ds := [.str sCase, encN i, encN j, encPap a, encPap b]) (ev_var rfl) ev_int.b rfl) (evaf_cons (ev_callG (pre := preWc) (res := fun q => decD (putX q.1 q.2.1 q.2.2)) (x, (i, j), true) (evaf_cons (ev_var rfl) (evaf_cons (ev_var rfl) (evaf_cons (ev_const (d := .str sHeld) fun H => Rep.str (by decide)) evaf_nil))) ⟨rfl, hdo, hnx⟩) evaf_nil)) (small (by simp))) (by rw [sizeLine_eq, List.length_map]; omega) ?_)
      ((try dsimp only); refine nx_go ?_)
      refine go_append (d := encIt (b, putX x (i, j) false)) rfl (ev_tup (ds := [encPap b, decD (putX x (i, j) false)]) (evaf_cons (ev_ixT (ds := [.str sCase, encN i, encN j, encPap a, encPap b]) (ev_var rfl) ev_int.b rfl) (evaf_cons (ev_callG (pre := preWc) (res := fun q => decD (putX q.1 q.2.1 q.2.2)) (x, (i, j), false) (evaf_cons (ev_var rfl) (evaf_cons (ev_var rfl) (evaf_cons (ev_const (d := .str sParted) fun H => Rep.str (by decide)) evaf_nil))) ⟨rfl, hdo, hnx⟩) evaf_nil)) (small (by simp))) (by rw [sizeLine_eq]; simp; omega) (hN (stSz (st' ++ [(a, putX x (i, j) true)] ++ [(b, putX x (i, j) false)])) _ ?_ ⟨st' ++ [(a, putX x (i, j) true)] ++ [(b, putX x (i, j) false)], .d (encIt (.cas i j a b, x)), .d (encPap (.cas i j a b)), .d (decD x), .d (encA (i, j)), rfl, fun t ht => ?_, ?_, ?_, ?_⟩)
      · rw [stSz_snoc, stSz_snoc]; show stSz st' + a.sz + b.sz < stSz st' + (a.sz + b.sz + 1); omega
      · have hle : (putX x (i, j) true).1.length = x.1.length + 1 := by simp [putX]
        rcases List.mem_append.mp ht with z | z
        · rcases List.mem_append.mp z with z | z
          · exact hst' t z
          · rw [show t = (a, putX x (i, j) true) by simpa using z]
            exact ⟨ha, put_ok hdo hnx hi hj (by omega) true, by show (x.1 ++ [(i, j)]).length + a.sz ≤ 1000; simp; omega⟩
        · rw [show t = (b, putX x (i, j) false) by simpa using z]
          exact ⟨hb', put_ok hdo hnx hi hj (by omega) false, by show (x.1 ++ [(i, j)]).length + b.sz ≤ 1000; simp; omega⟩
      · rw [heq, List.all_append, List.all_append, List.all_cons, List.all_cons, List.all_nil, Bool.and_true, Bool.and_true]
        show (_ && (mayD i j m x && _)) = _
        rw [hb, Bool.true_and, ← Bool.and_assoc]
      · rw [stSz_snoc, stSz_snoc]; show stSz st' + a.sz + b.sz ≤ 1000; omega
      · rw [List.map_append, List.map_append]; rfl
  · have hst0 : st = [] := by
      cases st with
      | nil => rfl
      | cons t st => simp at hb
    subst hst0
    have heq : showP m y least pp (decP as) = true := heq
    ((try dsimp only); refine nx_go ?_)
    refine go_ret ev_bl ?_
    rw [heq] at rt; exact rt
def decB (x : Dec) : D := D.dicT (dAp .bl x.1 x.2)
theorem ok_law_pair (Z : Tx K mg ad0) : FnOk P w K mg base CX0 1 ad0.f_law_pair ad0.d_law_pair ["_law_one", "_law_other"] (SpD K prePair resPair) := by
  refine Z.F_law_pair.ok sc_law_pair (fun vs H Q E h => spD_len (n := 2) (by rintro ds ⟨i, m, rfl⟩; rfl) h) (fun cdv A outer s H vs Q E hr h => ⟨_, (pss_one (ps_ret (pe_tup (pa_cons (pe_callB (call_min2 rfl) (by rfl) Z.z_min boot_min (pa_cons (pv 0) (pa_cons (pv 1) pa_nil))) (pa_cons (pe_callB (call_max2 rfl) (by rfl) Z.z_max boot_max (pa_cons (pv 0) (pa_cons (pv 1) pa_nil))) pa_nil))))), ?_⟩)
  refine go_spD h (by rw [spD_len (n := 2) (by rintro ds ⟨i, m, rfl⟩; rfl) h]; decide) fun G ds hp rt => ?_
  obtain ⟨a, b, rfl⟩ := hp
  exact go_ret (d := encA (prF a b)) (ev_pair (tc := tC .non) (td := tC .non) (ev_minI (ev_var (d := .int (a : Nat)) rfl).b (ev_var (d := .int (b : Nat)) rfl).b) (ev_maxI (ev_var (d := .int (a : Nat)) rfl).b (ev_var (d := .int (b : Nat)) rfl).b)) rt
theorem at_N {r : List Nat} {k : Nat} (h : k < r.length) : atI (r.map encN) (k : Int) = some (encN (r.getD k 0)) := atI_nat (by rw [List.getElem?_map, List.getD_eq_getElem?_getD, List.getElem?_eq_getElem h]; rfl)
def preLk1 (ds : List D) : Prop := ∃ (r : List Nat), ds = [.lst (r.map encN)] ∧ r.length ≤ 1000 ∧ r ≠ []
theorem ok_law_links (Z : Tx K mg ad0) : FnOk P w K mg base CX0 2 ad0.f_law_links ad0.d_law_links ["_law_ring_here"] (SpO K preLk1 resLk) := by
  have G_law_pair := ok_law_pair (P := P) (w := w) (base := base) Z
  refine Z.F_law_links.ok sc_law_links (fun vs H Q E h => spO_len (n := 1) (by rintro ds ⟨i, rfl, _⟩; rfl) h) (fun cdv A outer s H vs Q E hr h => ⟨_, (pss_one (ps_ret (pe_lc rfl (LcOk.of (Nx := (["_law_ring_here"] : List Str)) (sc := defScope s_law_links) (N' := (["_law_k", "_law_ring_here"] : List Str)) (nt := 1) (cs := [0]) rfl rfl (by decide +kernel)) (pi_range1 (by rfl) Z.z_range (pa_cons (pe_op op_sub (pe_callB call_len_seq (by rfl) Z.z_len boot_len (pa_cons (pv 0) pa_nil)) pe_int) pa_nil)) (fun _ _ _ _ => (pg_name (i := 0) (show List.Nodup (["_law_k", "_law_ring_here"] : List Str) by decide +kernel) rfl (Or.inl rfl))) (fun _ _ _ _ => pifs_nil) (fun _ _ _ _ => (pe_call G_law_pair (hr.mono (by decide)) (by rfl) Z.M_law_pair Z.F_law_pair.kp Z.B_law_pair .nil pass0 (pa_cons (pe_ix (show IxR _ (rIxL K) from ix_list) (pv 1) (pv 0) (fun _ _ => rfl)) (pa_cons (pe_ix (show IxR _ (rIxL K) from ix_list) (pv 1) (pe_op op_add (pv 0) pe_int) (fun _ _ => rfl)) pa_nil))))))), ?_⟩)
  refine go_spO h (by rw [spO_len (n := 1) (by rintro ds ⟨i, rfl, _⟩; rfl) h]; decide) fun G ds hp rt => ?_
  obtain ⟨r, rfl, hl, hn⟩ := hp
  have hl1 : 0 < r.length := List.length_pos_iff.mpr hn
  rw [resLk_enc] at rt
  have ll : ((r.map encN).length : Int) - 1 = ((r.length - 1 : Nat) : Int) := by rw [List.length_map]; omega
  have e : (linksR r).map encA = ((List.range (((r.map encN).length : Int) - 1).toNat).filter fun _ => true).map fun k => encA (prF (r.getD k 0) (r.getD (k + 1) 0)) := by
    unfold linksR
    rw [List.map_map, List.filter_eq_self.mpr (fun _ _ => rfl), ll, Int.toNat_natCast]
    rfl
  rw [e] at rt
  refine go_retO (evo_lcI (fun _ => true) (fun k => encA (prF (r.getD k 0) (r.getD (k + 1) 0))) (evi_range (eva_cons (ev_sub (ev_lenL (ev_var rfl).l).b ev_int.b).b eva_nil) (by rw [ll]; omega)) (gk_name (by decide)) (by decide) (by rw [sizeLine_eq, ll, Int.toNat_natCast]; omega) fun k hk => ?_) rt
  rw [ll, Int.toNat_natCast] at hk
  exact ⟨_, tg_name, evt_true, fun _ => ev_call (pre := prePair) (res := resPair) (evaf_cons (ev_ixL (ev_var rfl).l (ev_var rfl).b (at_N (by omega))) (evaf_cons (ev_ixL (ev_var rfl).l (ev_add (ev_var rfl).b ev_int.b).b (at_N (k := k + 1) (by omega))) evaf_nil)) ⟨_, _, rfl⟩⟩
theorem evo_linksL {G H₀ L : Hp} {ss : List Sl} {i : Nat} {r : List Nat} {E : XK} (h : ss[i]? = some (.d (.lst (r.map encN)))) (hl : r.length ≤ 1000) (hn : r ≠ []) : EvO K G H₀ L ss (tCall (SpO K preLk1 resLk) [] E (tCons (tVar i) tNil)) ((linksR r).map encA) := by
  rw [← resLk_enc]
  exact evo_call (pre := preLk1) (res := resLk) (evaf_cons (ev_var h) evaf_nil) ⟨r, rfl, hl, hn⟩
def allR (r : List Nat) : List Apt := linksR r ++ [gapR r]
def pairOk (r : List Nat) (y : Wts) (x : Dec) (nv : Bool) (a : Apt) : Bool :=
  if a ∈ x.1 then decide (x.2 a = !decide (a = gapR r)) else !(nv || ((decide (a = gapR r) && decide (wtF y.1 y.2 a ≥ 0)) || (!decide (a = gapR r) && decide (wtF y.1 y.2 a ≤ 0))))
def ringL (r : List Nat) (y : Wts) (x : Dec) (nv : Bool) : Bool := isRing r && ((allR r).all (pairOk r y x nv) && (nv || decide ((openR r x).length > 0)))
def preLR (q : List Nat × Wts × Dec × Bool) (ds : List D) : Prop := ds = [.lst (q.1.map encN), wtsD q.2.1, decB q.2.2.1, .bl q.2.2.2] ∧ q.1.length ≤ 1000
def resLR (q : List Nat × Wts × Dec × Bool) : D := .bl (ringL q.1 q.2.1 q.2.2.1 q.2.2.2)
theorem gap_at {r : List Nat} (hn : r ≠ []) : atI (r.map encN) 0 = some (encN (r.getD 0 0)) ∧ atI (r.map encN) (-1) = some (encN (r.getD (r.length - 1) 0)) := by
  have hl : 0 < r.length := List.length_pos_iff.mpr hn
  exact ⟨atI_nat (j := 0) (by rw [List.getElem?_map, List.getD_eq_getElem?_getD, List.getElem?_eq_getElem hl]; rfl), at_last (by rw [List.length_map, List.getElem?_map, List.getD_eq_getElem?_getD, List.getElem?_eq_getElem (by omega)]; rfl) (by simpa using hn)⟩
theorem ev_gapL {G H₀ L : Hp} {ss : List Sl} {i : Nat} {r : List Nat} {E : XK} (h : ss[i]? = some (.d (.lst (r.map encN)))) (hn : r ≠ []) : Ev K G H₀ L ss (tCall (SpD K prePair resPair) [] E (tCons (tOp (rIxL K) (tVar i) (tC (.int 0))) (tCons (tOp (rIxL K) (tVar i) (tUn (rU fun i => .int (-i)) (tC (.int 1)))) tNil))) (encA (gapR r)) :=
  ev_call (pre := prePair) (res := resPair) (evaf_cons (ev_ixL (ev_var h).l ev_int.b (gap_at hn).1) (evaf_cons (ev_ixL (ev_var h).l (ev_neg (i := 1) ev_int.b).b (gap_at hn).2) evaf_nil)) ⟨_, _, rfl⟩
theorem encA_eq (a b : Apt) : decide (encA a = encA b) = decide (a = b) := decide_eq_decide.mpr ⟨encA_inj a b, fun z => by rw [z]⟩
section
variable {G H₀ L : Hp} {ss : List Sl} {ta tb td ty : TE} {a b : Apt}
theorem ev_eqA (e1 : Ev K G H₀ L ss ta (encA a)) (e2 : Ev K G H₀ L ss tb (encA b)) : Ev K G H₀ L ss (tOp (rEqD K) ta tb) (.bl (decide (a = b))) := by
  rw [← encA_eq]; exact ev_eqD e1.b e2.b rfl rfl (by show 1 ≤ 60; decide)
theorem ev_neA (e1 : Ev K G H₀ L ss ta (encA a)) (e2 : Ev K G H₀ L ss tb (encA b)) : Ev K G H₀ L ss (tOp (rNeD K) ta tb) (.bl (!decide (a = b))) := by
  rw [← encA_eq]; exact ev_neD e1.b e2.b rfl rfl (by show 1 ≤ 60; decide)
theorem ev_inB (x : Dec) (e1 : Ev K G H₀ L ss td (decB x)) (e2 : Ev K G H₀ L ss ty (encA a)) : Ev K G H₀ L ss (tDIn ty td) (.bl (decide (a ∈ x.1))) := by
  rw [← someA D.bl x.1 x.2]
  exact ev_dinFT e1 e2 rfl rfl
theorem ev_notB (x : Dec) (e1 : Ev K G H₀ L ss td (decB x)) (e2 : Ev K G H₀ L ss ty (encA a)) : Ev K G H₀ L ss (tDNotIn ty td) (.bl (!decide (a ∈ x.1))) := by
  rw [← someA D.bl x.1 x.2]
  exact ev_dnotinFT e1 e2 rfl rfl
theorem ev_atB (x : Dec) (h : a ∈ x.1) (e1 : Ev K G H₀ L ss td (decB x)) (e2 : Ev K G H₀ L ss ty (encA a)) : Ev K G H₀ L ss (tDGet td ty) (.bl (x.2 a)) :=
  ev_dgetFT (kvs := dAp .bl x.1 x.2) e1 e2 rfl rfl (by rw [show D.tup [.int a.1, .int a.2] = encA a from rfl, valA, if_pos h])
end
theorem open_take (x : Dec) {l : List Apt} {k : Nat} {a : Apt} (hk : l[k]? = some a) : ((l.take (k + 1)).filter fun a => !decide (a ∈ x.1)).length = ((l.take k).filter fun a => !decide (a ∈ x.1)).length + (if a ∈ x.1 then 0 else 1) := by
  rw [List.take_add_one, hk, List.filter_append, List.length_append]
  congr 1
  by_cases h : a ∈ x.1 <;> simp [h]
theorem ok_law_ring (Z : Tx K mg ad0) : FnOk P w K mg base CX0 3 ad0.f_law_ring ad0.d_law_ring ["_law_ring_here", "_law_weights_here", "_law_decided_here", "_law_never"] (SpG K preLR resLR) := by
  have G_law_pair := ok_law_pair (P := P) (w := w) (base := base) Z
  have G_law_links := ok_law_links (P := P) (w := w) (base := base) Z
  refine Z.F_law_ring.ok sc_law_ring (fun vs H Q E h => spG_len (n := 4) (by rintro q ds ⟨rfl, _⟩; rfl) h) (fun cdv A outer s H vs Q E hr h => ⟨_, (pss_cons (ps_if (PW.pt (pw_or (pt_cmpR op_lt (pe_callB call_len_seq (by rfl) Z.z_len boot_len (pa_cons (pv 0) pa_nil)) pe_int (nomark _)) (pw_or1 (pt_cmpR op_ne (pe_callB (show CallR _ _ (rLenS P w K true) from call_lenS) (by rfl) Z.z_len boot_len (pa_cons (pe_callTy (show CallR _ _ (rSetOf P w K true) from call_setL rfl hr.units) (by rfl) Z.z_set boot_set (pa_cons (pv 0) pa_nil)) pa_nil)) (pe_callB call_len_seq (by rfl) Z.z_len boot_len (pa_cons (pv 0) pa_nil)) (nomark _))))) (pss_one (ps_ret pe_bl)) pss_nil)
      (pss_cons (ps_set (i := 4) sc_law_ring.nd rfl (Or.inl rfl) (pe_call G_law_pair (hr.mono (by decide)) (by rfl) Z.M_law_pair Z.F_law_pair.kp Z.B_law_pair .nil pass0 (pa_cons (pe_ix (show IxR _ (rIxL K) from ix_list) (pv 0) pe_int (fun _ _ => rfl)) (pa_cons (pe_ix (show IxR _ (rIxL K) from ix_list) (pv 0) (pe_un un_neg pe_int) (fun _ _ => rfl)) pa_nil))))
      (pss_cons (ps_set (i := 5) sc_law_ring.nd rfl (Or.inl rfl) pe_int)
      (pss_cons (ps_for PassesOwn.never rfl (pi_list (pe_op (show OpR _ _ (rCatD K) from op_catD) (pe_call G_law_links (hr.mono (by decide)) (by rfl) Z.M_law_links Z.F_law_links.kp Z.B_law_links .nil pass0 (pa_cons (pv 0) pa_nil)) (pe_lst (pa_cons (pv 4) pa_nil)))) (pg_name (i := 6) sc_law_ring.nd rfl (Or.inl rfl)) (pss_cons (ps_set (i := 7) sc_law_ring.nd rfl (Or.inl rfl) (pe_dget2 (hu_of hr) (pv 1) (pv 6) pe_int ⟨by rfl, by rfl, by rfl, by rfl⟩))
      (pss_one (ps_if (pt_cmp (pc_din (hu_of hr) (pv 6) (pv 2)) (by with_unfolding_all rfl)) (pss_one (ps_if (pt_cmpR op_ne (pe_dget (hu_of hr) (pv 2) (pv 6) (fun _ _ => rfl)) (pe_cmpR (show OpR _ _ (rNeD K) from op_neD hr.units) (pv 6) (pv 4) (nomark _)) (nomark _)) (pss_one (ps_ret pe_bl)) pss_nil)) (pss_one (ps_if (PW.pt (pw_or (pt_val (pv 3)) (pw_or (PW.pt (pw_and (pt_cmpR (show OpR _ _ (rEqD K) from op_eqD hr.units) (pv 6) (pv 4) (nomark _)) (pw_and1 (pt_cmpR op_ge (pv 7) pe_int (nomark _))))) (pw_or1 (PW.pt (pw_and (pt_cmpR (show OpR _ _ (rNeD K) from op_neD hr.units) (pv 6) (pv 4) (nomark _)) (pw_and1 (pt_cmpR op_le (pv 7) pe_int (nomark _))))))))) (pss_one (ps_ret pe_bl)) (pss_one (ps_set (i := 5) sc_law_ring.nd rfl (Or.inl rfl) (pe_op op_add (pv 5) pe_int)))))))))
      (pss_one (ps_ret (pe_or (pv 3) (pe_one (pe_cmpR op_gt (pv 5) pe_int (nomark _)))))))))), ?_⟩)
  refine go_spG h (by rw [spG_len (n := 4) (by rintro q ds ⟨rfl, _⟩; rfl) h]; decide) fun G ds q hp rt => ?_
  obtain ⟨r, y, x, nv⟩ := q
  obtain ⟨rfl, hl⟩ := hp
  have hl : r.length ≤ 1000 := hl
  have rt : RtD K G H Q (.bl (ringL r y x nv)) := rt
  refine go_seq (go_if (evt_or (evt_test (ev_lt (ev_lenL (ev_var rfl).l).b ev_int.b)) fun _ => evt_test (ev_neI (ev_lenSet (f := true) (ded (r.map encN)) (evs_set (ev_var rfl).l (hkN r) (by rw [List.length_map]; omega)) (hkN r) (ded_nodup _) fun d => ded_mem).b (ev_lenL (ev_var rfl).l).b)) (fun hb => ?_) (fun hb => ?_))
  · refine go_ret ev_bl ?_
    have : ringL r y x nv = false := by
      have : isRing r = false := by
        unfold isRing
        rw [Bool.or_eq_true, decide_eq_true_eq, Bool.not_eq_true', decide_eq_false_iff_not] at hb
        simp only [List.length_map] at hb
        rcases hb with hb | hb
        · rw [decide_eq_false (by omega)]; rfl
        · rw [decide_eq_false (p := r.Nodup) (fun z => hb (by rw [ded_nod.mpr z]))]; simp
      unfold ringL; rw [this]; rfl
    rw [this] at rt; exact rt
  rw [Bool.or_eq_false_iff, decide_eq_false_iff_not, Bool.not_eq_false', decide_eq_true_eq] at hb
  simp only [List.length_map] at hb
  obtain ⟨hb1, hb2⟩ := hb
  have hring : isRing r = true := by
    unfold isRing
    rw [decide_eq_true (by omega), decide_eq_true (ded_nod.mp (by omega))]; rfl
  have hrn : r ≠ [] := fun z => by subst z; simp at hb1
  have e0 : ringL r y x nv = ((allR r).all (pairOk r y x nv) && (nv || decide ((openR r x).length > 0))) := by unfold ringL; rw [hring, Bool.true_and]
  rw [e0] at rt
  ((try dsimp only); refine nx_go ?_)
  refine go_seq (go_set (ev_gapL rfl hrn) ?_)
  ((try dsimp only); refine nx_go ?_)
  refine go_seq (go_set ev_int ?_)
  ((try dsimp only); refine nx_go ?_)
  have hcat : (allR r).map encA = (linksR r).map encA ++ [encA (gapR r)] := by unfold allR; rw [List.map_append]; rfl
  refine go_seq (go_for encA (allR r) (fun k ss => (∀ a ∈ (allR r).take k, pairOk r y x nv a = true) ∧ ∃ v6 v7, ss = [.d (.lst (r.map encN)), .d (wtsD y), .d (decB x), .d (.bl nv), .d (encA (gapR r)), .d (.int (((allR r).take k).filter fun a => !decide (a ∈ x.1)).length), v6, v7]) (by
    rw [hcat]
    exact EvO.ev (evo_cat (EvO.l (evo_linksL (i := 0) rfl hl hrn)) (EvO.l (evo_lst (evaf_cons (ev_var rfl) evaf_nil) (small (by simp)))) (by rw [sizeLine_eq, List.length_map, links_len]; simp; omega))) ⟨by simp, .un, .un, rfl⟩ ?_ ?_)
  · rintro L' k a ss hL hk ⟨hall, v6, v7, rfl⟩
    have hm : a ∈ allR r := List.mem_of_getElem? hk
    have bad : pairOk r y x nv a = false → (allR r).all (pairOk r y x nv) = false := fun h => List.all_eq_false.mpr ⟨a, hm, by rw [h]; simp⟩
    have good : pairOk r y x nv a = true → ∀ b ∈ (allR r).take (k + 1), pairOk r y x nv b = true := fun h b hb => by
      rcases take_mem hk hb with z | z
      · exact hall b z
      · rw [z]; exact h
    refine ⟨_, tg_name, fun N hN => ?_⟩
    refine go_seq (go_set (ev_wt (a := a) y (ev_var rfl) (ev_var rfl)) ?_)
    ((try dsimp only); refine nx_go ?_)
    refine go_if (evt_b (ev_inB (a := a) x (ev_var rfl) (ev_var rfl))) (fun hb => ?_) (fun hb => ?_)
    · rw [decide_eq_true_eq] at hb
      refine go_if (evt_test (ev_neB (ev_atB x hb (ev_var rfl) (ev_var rfl)).b (ev_neA (a := a) (b := gapR r) (ev_var rfl) (ev_var rfl)).b)) (fun hc => ?_) (fun hc => ?_)
      · refine go_ret ev_bl ?_
        rw [bad (by unfold pairOk; rw [if_pos hb]; rw [Bool.not_eq_true'] at hc; exact hc)] at rt; exact rt
      · refine go_next (hN _ ⟨good (by unfold pairOk; rw [if_pos hb]; rw [Bool.not_eq_false'] at hc; exact hc), .d (encA a), .d (.int (wtF y.1 y.2 a)), ?_⟩)
        rw [open_take x hk, if_pos hb]; rfl
    · rw [decide_eq_false_iff_not] at hb
      refine go_if (evt_or (evt_test (ev_var rfl)) fun _ => evt_or (evt_and (evt_test (ev_eqA (a := a) (b := gapR r) (ev_var rfl) (ev_var rfl))) fun _ => evt_test (ev_ge (ev_var rfl).b ev_int.b)) fun _ => evt_and (evt_test (ev_neA (a := a) (b := gapR r) (ev_var rfl) (ev_var rfl))) fun _ => evt_test (ev_le (ev_var rfl).b ev_int.b)) (fun hc => ?_) (fun hc => ?_)
      · refine go_ret ev_bl ?_
        rw [bad (by unfold pairOk; rw [if_neg hb, hc]; rfl)] at rt; exact rt
      · refine go_set (ev_add (ev_var rfl).b ev_int.b) (hN _ ⟨good (by unfold pairOk; rw [if_neg hb, hc]; rfl), .d (encA a), .d (.int (wtF y.1 y.2 a)), ?_⟩)
        rw [open_take x hk, if_neg hb]; rfl
  rintro ss ⟨hall, v6, v7, rfl⟩
  rw [List.take_length] at hall ⊢
  rw [List.all_eq_true.mpr hall, Bool.true_and] at rt
  ((try dsimp only); refine nx_go ?_)
  have e1 : decide ((openR r x).length > 0) = decide ((0 : Int) < (((allR r).filter fun a => !decide (a ∈ x.1)).length : Nat)) := decide_eq_decide.mpr (by unfold openR allR; omega)
  rw [e1] at rt
  exact go_ret (ev_or (ev_var rfl) fun _ => ev_gt (ev_var rfl).b ev_int.b) rt
def lostA (y : Wts) (x : Dec) (a : Apt) : Int := if decide (x.2 a = decide (wtF y.1 y.2 a < 0)) = true then absI (wtF y.1 y.2 a) else 0
theorem lost_loss (y : Wts) (x : Dec) (a : Apt) : lostA y x a = lossA y x a := by
  unfold lostA lossA
  by_cases h0 : wtF y.1 y.2 a = 0
  · rw [h0]; simp [absI]
  · have : decide (x.2 a = decide (wtF y.1 y.2 a < 0)) = !decide (x.2 a = decide (wtF y.1 y.2 a > 0)) := by
      by_cases h : wtF y.1 y.2 a < 0
      · rw [decide_eq_true h, decide_eq_false (p := wtF y.1 y.2 a > 0) (by omega)]; cases x.2 a <;> decide
      · rw [decide_eq_false h, decide_eq_true (p := wtF y.1 y.2 a > 0) (by omega)]; cases x.2 a <;> decide
    rw [this]
theorem sumA_congr {f g : Apt → Int} (h : ∀ a, f a = g a) (as : List Apt) : sumA f as = sumA g as := by rw [show f = g from funext h]
def pairsOK (x : Dec) (y : Wts) (v : Int) : List Apt → Usd → Bool
  | [], _ => true
  | a :: as, u => !(!decide (a ∈ x.1) && decide (absI (wtF y.1 y.2 a) < wtF u.1 u.2 a + v)) && pairsOK x y v as (addU v u a)
def leafOK (x : Dec) (y : Wts) : List Row → Usd → Bool
  | [], _ => true
  | q :: rows, u => (decide (1 ≤ q.2) && ringL q.1 y x false) && (pairsOK x y q.2 (allR q.1) u && leafOK x y rows ((allR q.1).foldl (addU q.2) u))
def u0 : Usd := ([], fun _ => 0)
def leafL (rows : List Row) (y : Wts) (x : Dec) (least : Int) : Bool := leafOK x y rows u0 && decide (sumA (lostA y x) x.1 + sumR rows ≥ least)
def useL (rows : List Row) : Usd := rows.foldl (fun u q => (allR q.1).foldl (addU q.2) u) u0
theorem useL_snoc (rows : List Row) (q : Row) : useL (rows ++ [q]) = (allR q.1).foldl (addU q.2) (useL rows) := by unfold useL; rw [List.foldl_append]; rfl
theorem ring_in {r : List Nat} {y : Wts} {x : Dec} (h : ringL r y x false = true) {a : Apt} (ha : a ∈ allR r) (hx : a ∉ x.1) : a ∈ y.1 := by
  unfold ringL at h
  simp only [Bool.and_eq_true] at h
  have := List.all_eq_true.mp h.2.1 a ha
  unfold pairOk at this
  rw [if_neg hx] at this
  have hw : wtF y.1 y.2 a ≠ 0 := fun z => by
    rw [z] at this
    by_cases hg : a = gapR r <;> simp [hg] at this
  unfold wtF at hw
  split at hw
  · assumption
  · exact absurd rfl hw
theorem addU_at (v : Int) (u : Usd) (a : Apt) : a ∈ (addU v u a).1 ∧ (addU v u a).2 a = wtF u.1 u.2 a + v := by
  refine ⟨?_, ?_⟩
  · show a ∈ (if a ∈ u.1 then u.1 else u.1 ++ [a])
    split
    · assumption
    · simp
  · show (if a = a then _ else _) = _
    rw [if_pos rfl]
theorem all_len (r : List Nat) : (allR r).length = r.length - 1 + 1 := by unfold allR; rw [List.length_append, links_len]; rfl
theorem useL_len : ∀ (rows : List Row), (∀ q ∈ rows, q.1.length ≤ 100) → (useL rows).1.length ≤ rows.length * 101 := by
  have : ∀ (rows : List Row) (u : Usd), (∀ q ∈ rows, q.1.length ≤ 100) → (rows.foldl (fun u q => (allR q.1).foldl (addU q.2) u) u).1.length ≤ u.1.length + rows.length * 101 := by
    intro rows
    induction rows with
    | nil => intro u _; simp
    | cons q rows ih =>
      intro u h
      rw [List.foldl_cons]
      have h1 := ih ((allR q.1).foldl (addU q.2) u) fun r hr => h r (List.mem_cons_of_mem _ hr)
      have h2 := addU_len q.2 (allR q.1) u
      have h3 := all_len q.1
      have h4 := h q List.mem_cons_self
      rw [List.length_cons]
      omega
  intro rows h
  have := this rows u0 h
  unfold useL
  simpa [u0] using this
def preLf (q : List Row × Wts × Dec × Int) (ds : List D) : Prop := ds = [.lst (q.1.map encRow), wtsD q.2.1, decB q.2.2.1, .int q.2.2.2] ∧ q.1.length ≤ 100 ∧ ∀ r ∈ q.1, r.1.length ≤ 100
def resLf (q : List Row × Wts × Dec × Int) : D := .bl (leafL q.1 q.2.1 q.2.2.1 q.2.2.2)
theorem drop_at {α : Type} {l : List α} {k : Nat} {a : α} (h : l[k]? = some a) : l.drop k = a :: l.drop (k + 1) := by
  obtain ⟨h1, h2⟩ := List.getElem?_eq_some_iff.mp h
  rw [List.drop_eq_getElem_cons h1, h2]
theorem ok_law_leaf (Z : Tx K mg ad0) : FnOk P w K mg base CX0 4 ad0.f_law_leaf ad0.d_law_leaf ["_law_rows", "_law_weights_here", "_law_decided_here", "_law_least"] (SpG K preLf resLf) := by
  have G_law_pair := ok_law_pair (P := P) (w := w) (base := base) Z
  have G_law_links := ok_law_links (P := P) (w := w) (base := base) Z
  have G_law_ring := ok_law_ring (P := P) (w := w) (base := base) Z
  refine Z.F_law_leaf.ok sc_law_leaf (fun vs H Q E h => spG_len (n := 4) (by rintro q ds ⟨rfl, _⟩; rfl) h) (fun cdv A outer s H vs Q E hr h => ⟨_, (pss_cons (ps_set (i := 4) sc_law_leaf.nd rfl (Or.inl rfl) pe_int)
      (pss_cons (ps_for PassesOwn.never rfl (pi_itemsM (pe_itemsT (pv 2))) (pg_tup rfl (pgs_cons (pg_name (i := 5) sc_law_leaf.nd rfl (Or.inl rfl)) (pgs_cons (pg_name (i := 6) sc_law_leaf.nd rfl (Or.inl rfl)) pgs_nil))) (pss_one (ps_if (pt_cmpR op_eq (pv 6) (pe_cmpR op_lt (pe_dget2 (hu_of hr) (pv 1) (pv 5) pe_int ⟨by rfl, by rfl, by rfl, by rfl⟩) pe_int (nomark _)) (nomark _)) (pss_one (ps_set (i := 4) sc_law_leaf.nd rfl (Or.inl rfl) (pe_op op_add (pv 4) (pe_callB call_abs (by rfl) Z.z_abs boot_abs (pa_cons (pe_dget2 (hu_of hr) (pv 1) (pv 5) pe_int ⟨by rfl, by rfl, by rfl, by rfl⟩) pa_nil))))) pss_nil)))
      (pss_cons (ps_set (i := 7) sc_law_leaf.nd rfl (Or.inl rfl) pe_dnewT)
      (pss_cons (ps_for PassesOwn.never rfl (pi_list (pv 0)) (pg_tup rfl (pgs_cons (pg_name (i := 8) sc_law_leaf.nd rfl (Or.inl rfl)) (pgs_cons (pg_name (i := 9) sc_law_leaf.nd rfl (Or.inl rfl)) pgs_nil))) (pss_cons (ps_if (PW.pt (pw_or (pt_cmpR op_lt (pv 9) pe_int (nomark _)) (pw_or1 (pt_not (pt_val (pe_call G_law_ring (hr.mono (by decide)) (by rfl) Z.M_law_ring Z.F_law_ring.kp Z.B_law_ring .nil pass0 (pa_cons (pv 8) (pa_cons (pv 1) (pa_cons (pv 2) (pa_cons pe_bl pa_nil)))))))))) (pss_one (ps_ret pe_bl)) pss_nil)
      (pss_cons (ps_set (i := 4) sc_law_leaf.nd rfl (Or.inl rfl) (pe_op op_add (pv 4) (pv 9)))
      (pss_one (ps_for PassesOwn.never rfl (pi_list (pe_op (show OpR _ _ (rCatD K) from op_catD) (pe_call G_law_links (hr.mono (by decide)) (by rfl) Z.M_law_links Z.F_law_links.kp Z.B_law_links .nil pass0 (pa_cons (pv 8) pa_nil)) (pe_lst (pa_cons (pe_call G_law_pair (hr.mono (by decide)) (by rfl) Z.M_law_pair Z.F_law_pair.kp Z.B_law_pair .nil pass0 (pa_cons (pe_ix (show IxR _ (rIxL K) from ix_list) (pv 8) pe_int (fun _ _ => rfl)) (pa_cons (pe_ix (show IxR _ (rIxL K) from ix_list) (pv 8) (pe_un un_neg pe_int) (fun _ _ => rfl)) pa_nil))) pa_nil)))) (pg_name (i := 5) sc_law_leaf.nd rfl (Or.inl rfl)) (pss_cons (ps_dput (hu_of hr) (pv 7) (pv 5) (pe_op op_add (pe_dget2 (hu_of hr) (pv 7) (pv 5) pe_int ⟨by rfl, by rfl, by rfl, by rfl⟩) (pv 9)) rfl)
      (pss_one (ps_if (PW.pt (pw_and (pt_cmp (pc_dnotin (hu_of hr) (pv 5) (pv 2)) (by with_unfolding_all rfl)) (pw_and1 (pt_cmpR op_gt (pe_dget (hu_of hr) (pv 7) (pv 5) (fun _ _ => rfl)) (pe_callB call_abs (by rfl) Z.z_abs boot_abs (pa_cons (pe_dget (hu_of hr) (pv 1) (pv 5) (fun _ _ => rfl)) pa_nil)) (nomark _))))) (pss_one (ps_ret pe_bl)) pss_nil))))))))
      (pss_one (ps_ret (pe_cmpR op_ge (pv 4) (pv 3) (nomark _)))))))), ?_⟩)
  refine go_spG h (by rw [spG_len (n := 4) (by rintro q ds ⟨rfl, _⟩; rfl) h]; decide) fun G ds q hp rt => ?_
  obtain ⟨rows, y, x, least⟩ := q
  obtain ⟨rfl, hl, hrl⟩ := hp
  have hl : rows.length ≤ 100 := hl
  have hrl : ∀ r ∈ rows, r.1.length ≤ 100 := hrl
  have rt : RtD K G H Q (.bl (leafL rows y x least)) := rt
  refine go_seq (go_set ev_int ?_)
  ((try dsimp only); refine nx_go ?_)
  refine go_seq (go_forF (fun k ss => ∃ v5 v6, ss = [.d (.lst (rows.map encRow)), .d (wtsD y), .d (decB x), .d (.int least), .d (.int (sumA (lostA y x) (x.1.take k))), v5, v6, .un, .un, .un]) (evf_items (kvs := dAp .bl x.1 x.2) (ev_var rfl) (keysA _ _ _)) ⟨.un, .un, rfl⟩ ?_ ?_)
  · rintro L' k ss hL hk ⟨v5, v6, rfl⟩
    rw [lenA] at hk
    have hka := List.getElem?_eq_getElem hk
    generalize x.1[k] = a at hka
    rw [atA D.bl x.1 x.2 hka]
    refine ⟨_, tg_tup (ds := [encA a, .bl (x.2 a)]) rfl (tgs_cons tg_name (tgs_cons tg_name tgs_nil)), fun N hN => ?_⟩
    have hs : sumA (lostA y x) (x.1.take (k + 1)) = sumA (lostA y x) (x.1.take k) + lostA y x a := by rw [List.take_add_one, hka]; exact sumA_snoc ..
    refine go_if (evt_test (ev_eqB (ev_var rfl).b (ev_lt (ev_wt (a := a) y (ev_var rfl) (ev_var rfl)).b ev_int.b).b)) (fun hq => ?_) (fun hq => ?_)
    · refine go_set (ev_add (ev_var rfl).b (ev_absI (ev_wt (a := a) y (ev_var rfl) (ev_var rfl)).b).b) (hN _ ⟨.d (encA a), .d (.bl (x.2 a)), ?_⟩)
      have e0 : lostA y x a = absI (wtF y.1 y.2 a) := by unfold lostA; rw [if_pos hq]
      rw [hs, e0]; rfl
    · refine go_next (hN _ ⟨.d (encA a), .d (.bl (x.2 a)), ?_⟩)
      have e0 : lostA y x a = 0 := by unfold lostA; rw [if_neg (by rw [hq]; decide)]
      rw [hs, e0, Int.add_zero]; rfl
  rintro ss ⟨v5, v6, rfl⟩
  rw [lenA, List.take_length]
  ((try dsimp only); refine nx_go ?_)
  refine go_seq (go_setMT fun p => ?_)
  ((try dsimp only); refine nx_go ?_)
  refine go_seq (go_for encRow rows (fun k ss => leafOK x y rows u0 = leafOK x y (rows.drop k) (useL (rows.take k)) ∧ ∃ v5 v6 v8 v9, ss = [.d (.lst (rows.map encRow)), .d (wtsD y), .d (decB x), .d (.int least), .d (.int (sumA (lostA y x) x.1 + sumR (rows.take k))), v5, v6, dslT K p (dAp .int (useL (rows.take k)).1 (useL (rows.take k)).2), v8, v9]) (ev_var rfl) ⟨rfl, v5, v6, .un, .un, by simp [sumR, useL, u0, dA]⟩ ?_ ?_)
  · rintro L' k q ss hL hk ⟨heq, v5, v6, v8, v9, rfl⟩
    obtain ⟨r, am⟩ := q
    have hq : (r, am) ∈ rows := List.mem_of_getElem? hk
    have hr1 : r.length ≤ 100 := hrl _ hq
    have hkl : k < rows.length := (List.getElem?_eq_some_iff.mp hk).1
    have hul : (useL (rows.take k)).1.length ≤ 10100 := by
      have := useL_len (rows.take k) fun q hq => hrl q (List.mem_of_mem_take hq)
      rw [List.length_take] at this
      omega
    have hal := all_len r
    have ht : rows.take (k + 1) = rows.take k ++ [(r, am)] := by rw [List.take_add_one, hk]; rfl
    rw [drop_at hk] at heq
    have heq : leafOK x y rows u0 = ((decide (1 ≤ am) && ringL r y x false) && (pairsOK x y am (allR r) (useL (rows.take k)) && leafOK x y (rows.drop (k + 1)) ((allR r).foldl (addU am) (useL (rows.take k))))) := heq
    refine ⟨_, tg_tup (ds := [.lst (r.map encN), .int am]) rfl (tgs_cons tg_name (tgs_cons tg_name tgs_nil)), fun N hN => ?_⟩
    refine go_seq (go_if (b := decide (am < 1) || !ringL r y x false) (evt_or (evt_test (ev_lt (ev_var rfl).b ev_int.b)) fun _ => evt_not (evt_test (ev_callG (pre := preLR) (res := resLR) (r, y, x, false) (evaf_cons (ev_var rfl) (evaf_cons (ev_var rfl) (evaf_cons (ev_var rfl) (evaf_cons ev_bl evaf_nil)))) ⟨rfl, (by show r.length ≤ 1000; omega)⟩))) (fun hb => ?_) (fun hb => ?_))
    · refine go_ret ev_bl ?_
      have : leafL rows y x least = false := by
        have : leafOK x y rows u0 = false := by
          rw [heq]
          simp only [Bool.or_eq_true, decide_eq_true_eq, Bool.not_eq_true'] at hb
          rcases hb with hb | hb
          · rw [decide_eq_false (by omega)]; rfl
          · rw [hb]; simp
        unfold leafL; rw [this]; rfl
      rw [this] at rt; exact rt
    simp only [Bool.or_eq_false_iff, decide_eq_false_iff_not, Bool.not_eq_false'] at hb
    obtain ⟨hb1, hb2⟩ := hb
    have hrn : r ≠ [] := fun z => by subst z; simp [ringL, isRing] at hb2
    rw [decide_eq_true (show 1 ≤ am by omega), hb2, Bool.and_true, Bool.true_and] at heq
    ((try dsimp only); refine nx_go ?_)
    refine go_seq (go_set (ev_add (ev_var rfl).b (ev_var rfl).b) ?_)
    ((try dsimp only); refine nx_go ?_)
    have hcat : (allR r).map encA = (linksR r).map encA ++ [encA (gapR r)] := by unfold allR; rw [List.map_append]; rfl
    refine go_for encA (allR r) (fun j ss => pairsOK x y am (allR r) (useL (rows.take k)) = pairsOK x y am ((allR r).drop j) (((allR r).take j).foldl (addU am) (useL (rows.take k))) ∧ ∃ v5, ss = [.d (.lst (rows.map encRow)), .d (wtsD y), .d (decB x), .d (.int least), .d (.int (sumA (lostA y x) x.1 + sumR (rows.take k) + am)), v5, v6, dslT K p (dAp .int (((allR r).take j).foldl (addU am) (useL (rows.take k))).1 (((allR r).take j).foldl (addU am) (useL (rows.take k))).2), .d (.lst (r.map encN)), .d (.int am)]) (by
      rw [hcat]
      exact EvO.ev (evo_cat (EvO.l (evo_linksL (i := 8) rfl (by omega) hrn)) (EvO.l (evo_lst (evaf_cons (ev_gapL (i := 8) rfl hrn) evaf_nil) (small (by simp)))) (by rw [sizeLine_eq, List.length_map, links_len]; simp; omega))) ⟨rfl, v5, rfl⟩ ?_ ?_
    · rintro L2 j a ss hL2 hj ⟨hpe, v5, rfl⟩
      have ham : a ∈ allR r := List.mem_of_getElem? hj
      have hjl : j < (allR r).length := (List.getElem?_eq_some_iff.mp hj).1
      have hl2 := addU_len am ((allR r).take j) (useL (rows.take k))
      rw [List.length_take] at hl2
      have et : (allR r).take (j + 1) = (allR r).take j ++ [a] := by rw [List.take_add_one, hj]; rfl
      have ef : ((allR r).take (j + 1)).foldl (addU am) (useL (rows.take k)) = addU am (((allR r).take j).foldl (addU am) (useL (rows.take k))) a := by rw [et, List.foldl_append]; rfl
      rw [drop_at hj] at hpe
      rw [ef]
      generalize ((allR r).take j).foldl (addU am) (useL (rows.take k)) = u at hpe hl2
      have hpe : pairsOK x y am (allR r) (useL (rows.take k)) = (!(!decide (a ∈ x.1) && decide (absI (wtF y.1 y.2 a) < wtF u.1 u.2 a + am)) && pairsOK x y am ((allR r).drop (j + 1)) (addU am u a)) := hpe
      refine ⟨_, tg_name, fun N2 hN2 => ?_⟩
      refine go_seq (go_dputK (d := .int (wtF u.1 u.2 a + am)) rfl (ev_add (by rw [← getA]; exact (ev_dget2K rfl (ev_var rfl) ev_int rfl rfl).b) (ev_var rfl).b) (ev_var rfl) rfl rfl (by rw [sizeLine_eq, lenA]; omega) ?_)
      have hput := put_any D.int u.1 u.2 a (wtF u.1 u.2 a + am)
      have hd : dslT K p (putD (dAp .int u.1 u.2) (.tup [.int a.1, .int a.2]) (.int (wtF u.1 u.2 a + am))) = dslT K p (dAp .int (addU am u a).1 (addU am u a).2) := by
        rw [show D.tup [.int a.1, .int a.2] = encA a from rfl, hput]; rfl
      rw [hd]
      ((try dsimp only); refine nx_go ?_)
      refine go_if (b := !decide (a ∈ x.1) && decide (absI (wtF y.1 y.2 a) < wtF u.1 u.2 a + am)) (evt_and (evt_b (ev_notB (a := a) x (ev_var rfl) (ev_var rfl))) fun hx => evt_test (by
        rw [Bool.not_eq_true', decide_eq_false_iff_not] at hx
        have hay := ring_in hb2 ham hx
        have hw : wtF y.1 y.2 a = y.2 a := if_pos hay
        rw [hw, ← (addU_at am u a).2]
        exact ev_gt (ev_dgetK (kvs := dAp .int (addU am u a).1 (addU am u a).2) rfl (ev_var (d := encA a) rfl) rfl rfl (by rw [show D.tup [.int a.1, .int a.2] = encA a from rfl, valA, if_pos (addU_at am u a).1])).b (ev_absI (ev_dgetFT (kvs := dAp .int y.1 y.2) (ev_var rfl) (ev_var (d := encA a) rfl) rfl rfl (by rw [show D.tup [.int a.1, .int a.2] = encA a from rfl, valA, if_pos hay])).b).b)) (fun hc => ?_) (fun hc => ?_)
      · refine go_ret ev_bl ?_
        have : leafL rows y x least = false := by unfold leafL; rw [heq, hpe, hc]; rfl
        rw [this] at rt; exact rt
      · refine go_next (hN2 _ ⟨by rw [hpe, hc]; rfl, .d (encA a), rfl⟩)
    · rintro ss ⟨hpe, v5, rfl⟩
      rw [List.drop_length, List.take_length] at hpe
      have hpe : pairsOK x y am (allR r) (useL (rows.take k)) = true := hpe
      rw [hpe, Bool.true_and] at heq
      refine hN _ ⟨by rw [heq, ht, useL_snoc], v5, v6, .d (.lst (r.map encN)), .d (.int am), ?_⟩
      rw [List.take_length, ht, useL_snoc, sumR_snoc, Int.add_assoc]
  rintro ss ⟨heq, v5, v6, v8, v9, rfl⟩
  rw [List.drop_length] at heq
  have heq : leafOK x y rows u0 = true := heq
  rw [List.take_length]
  ((try dsimp only); refine nx_go ?_)
  unfold leafL at rt
  rw [heq, Bool.true_and] at rt
  exact go_ret (ev_ge (ev_var rfl).b (ev_var rfl).b) rt
theorem ok_law_decided (Z : Tx K mg ad0) : FnOk P w K mg base CX0 1 ad0.f_law_decided ad0.d_law_decided ["_law_aparts"] (SpG K preFd fun as => decB (decP as)) := by
  refine Z.F_law_decided.ok sc_law_decided (fun vs H Q E h => spG_len (n := 1) (by rintro q ds ⟨rfl, _⟩; rfl) h) (fun cdv A outer s H vs Q E hr h => ⟨_, (pss_cons (ps_set (i := 1) sc_law_decided.nd rfl (Or.inl rfl) pe_dnewT)
      (pss_cons (ps_for PassesOwn.never rfl (pi_list (pv 0)) (pg_name (i := 2) sc_law_decided.nd rfl (Or.inl rfl)) (pss_one (ps_dput (hu_of hr) (pv 1) (pv 2) pe_bl rfl)))
      (pss_one (ps_frz (ps_ret (pv 1)))))), ?_⟩)
  refine go_spG h (by rw [spG_len (n := 1) (by rintro q ds ⟨rfl, _⟩; rfl) h]; decide) fun G ds as hp rt => ?_
  obtain ⟨rfl, hn, hl⟩ := hp
  refine go_seq (go_setMT fun p => ?_)
  ((try dsimp only); refine nx_go ?_)
  refine go_seq (go_for encA as (fun k ss => ∃ v2, ss = [.d (.lst (as.map encA)), dslT K p (dAp .bl (as.take k) (fun _ => false)), v2]) (ev_var rfl) ⟨.un, rfl⟩ ?_ ?_)
  · rintro L' k a ss hL hk ⟨v2, rfl⟩
    refine ⟨_, tg_name, fun N hN => ?_⟩
    refine go_dputK (d := .bl false) rfl ev_bl (ev_var rfl) rfl rfl (by rw [sizeLine_eq, lenA, List.length_take]; omega) (hN _ ⟨.d (encA a), ?_⟩)
    have e : putD (dAp .bl (as.take k) fun _ => false) (encA a) (.bl false) = dAp .bl (as.take (k + 1)) fun _ => false := by
      rw [List.take_add_one, hk]
      exact putD_new (f := fun _ => false) encA_inj (nod_take hn hk)
    show List.set _ _ (dslT K p (putD _ (encA a) _)) = _
    rw [e]; rfl
  rintro ss ⟨v2, rfl⟩
  rw [List.take_length]
  ((try dsimp only); refine nx_go ?_)
  exact go_frz (i := 1) rfl (go_ret (ev_var rfl) rt)
theorem nod_ix {r : List Nat} (h : r.Nodup) {i j : Nat} (hi : i < r.length) (hj : j < r.length) (e : r.getD i 0 = r.getD j 0) : i = j := by
  rw [List.getD_eq_getElem?_getD, List.getD_eq_getElem?_getD, List.getElem?_eq_getElem hi, List.getElem?_eq_getElem hj] at e
  exact (List.getElem_inj h).mp e
theorem link_ne {r : List Nat} (h : isRing r = true) {a : Apt} (ha : a ∈ linksR r) : a ≠ gapR r := by
  unfold isRing at h
  rw [Bool.and_eq_true, decide_eq_true_eq, decide_eq_true_eq] at h
  obtain ⟨h3, hn⟩ := h
  unfold linksR at ha
  obtain ⟨k, hk, rfl⟩ := List.mem_map.mp ha
  have hk := List.mem_range.mp hk
  intro e
  unfold gapR prF at e
  have e1 := congrArg Prod.fst e
  have e2 := congrArg Prod.snd e
  simp only at e1 e2
  have : (r.getD k 0 = r.getD 0 0 ∧ r.getD (k + 1) 0 = r.getD (r.length - 1) 0) ∨ (r.getD k 0 = r.getD (r.length - 1) 0 ∧ r.getD (k + 1) 0 = r.getD 0 0) := by omega
  rcases this with ⟨h1, h2⟩ | ⟨h1, h2⟩
  · have := nod_ix hn (by omega) (by omega) h1
    have := nod_ix hn (by omega) (by omega) h2
    omega
  · have := nod_ix hn (by omega) (by omega) h1
    have := nod_ix hn (by omega) (by omega) h2
    omega
theorem all_cg {α : Type} {f g : α → Bool} : ∀ {l : List α}, (∀ a ∈ l, f a = g a) → l.all f = l.all g
  | [], _ => rfl
  | a :: l, h => by rw [List.all_cons, List.all_cons, h a List.mem_cons_self, all_cg fun b hb => h b (List.mem_cons_of_mem _ hb)]
theorem lose_ring {r : List Nat} {m : Nat} (y : Wts) (x : Dec) (hm : ∀ k ∈ r, k < m) : loseR r m y x = ringL r y x false := by
  unfold loseR ringL
  have h1 : (r.all fun k => decide (k < m)) = true := List.all_eq_true.mpr fun k hk => decide_eq_true (hm k hk)
  rw [h1, Bool.and_true]
  cases hr : isRing r with
  | false => rfl
  | true =>
    rw [Bool.true_and, Bool.true_and, Bool.false_or]
    have h2 : (!decide (openR r x = [])) = decide ((openR r x).length > 0) := by
      cases openR r x <;> simp
    have h3 : (linksR r).all (linkOk x y) = (linksR r).all (pairOk r y x false) := by
      refine all_cg fun a ha => ?_
      have hg := link_ne hr ha
      unfold linkOk pairOk isPart
      rw [decide_eq_false hg]
      by_cases hx : a ∈ x.1
      · rw [if_pos hx, decide_eq_true hx]; cases x.2 a <;> simp
      · rw [if_neg hx, decide_eq_false hx]
        simp
    have h4 : gapOk x y (gapR r) = pairOk r y x false (gapR r) := by
      unfold gapOk pairOk isPart
      by_cases hx : gapR r ∈ x.1
      · rw [if_pos hx, decide_eq_true hx]; cases x.2 (gapR r) <;> simp
      · rw [if_neg hx, decide_eq_false hx]
        simp only [Bool.false_and, Bool.false_or, Bool.not_false, Bool.true_and, decide_true, Bool.not_true, Bool.or_false]
        rw [← decide_not]
        exact decide_eq_decide.mpr (by omega)
    rw [h2, h3, h4]
    unfold allR
    rw [List.all_append, List.all_cons, List.all_nil, Bool.and_true, Bool.and_comm]
theorem wt_add (v : Int) (u : Usd) (a b : Apt) : wtF (addU v u a).1 (addU v u a).2 b = wtF u.1 u.2 b + if b = a then v else 0 := by
  by_cases h : b = a
  · subst h
    rw [if_pos rfl]
    unfold wtF
    rw [if_pos (addU_at v u b).1, (addU_at v u b).2]
    rfl
  · rw [if_neg h, Int.add_zero]
    unfold wtF
    have h1 : (b ∈ (addU v u a).1) ↔ b ∈ u.1 := by
      show b ∈ (if a ∈ u.1 then u.1 else u.1 ++ [a]) ↔ _
      split
      · exact Iff.rfl
      · simp [h]
    have h2 : (addU v u a).2 b = u.2 b := if_neg h
    by_cases hb : b ∈ u.1
    · rw [if_pos (h1.mpr hb), if_pos hb, h2]
    · rw [if_neg (fun z => hb (h1.mp z)), if_neg hb]
theorem wt_fold (v : Int) : ∀ (as : List Apt) (u : Usd) (b : Apt), wtF (as.foldl (addU v) u).1 (as.foldl (addU v) u).2 b = wtF u.1 u.2 b + (as.count b : Nat) * v
  | [], u, b => by simp
  | a :: as, u, b => by
    rw [List.foldl_cons, wt_fold v as, wt_add, List.count_cons]
    by_cases h : b = a
    · subst h; simp [Int.add_mul]; omega
    · rw [if_neg h, if_neg (by simpa using Ne.symm h)]; simp
theorem pairs_iff {x : Dec} {y : Wts} {v : Int} (hv : 1 ≤ v) : ∀ (as : List Apt) (u : Usd), pairsOK x y v as u = true ↔ ∀ a ∈ as, a ∉ x.1 → wtF u.1 u.2 a + (as.count a : Nat) * v ≤ absI (wtF y.1 y.2 a)
  | [], u => by simp [pairsOK]
  | b :: as, u => by
    rw [pairsOK, Bool.and_eq_true, pairs_iff hv as]
    constructor
    · rintro ⟨h1, h2⟩ a ha hx
      by_cases hin : a ∈ as
      · have := h2 a hin hx
        rw [wt_add] at this
        rw [List.count_cons]
        by_cases hab : a = b
        · subst hab; simp [Int.add_mul] at this ⊢; omega
        · rw [if_neg hab] at this; rw [if_neg (by simpa using Ne.symm hab)]; simpa using this
      · have hab : a = b := (List.mem_cons.mp ha).resolve_right hin
        subst hab
        rw [List.count_cons_self, List.count_eq_zero.mpr hin]
        simp [hx] at h1
        simp
        omega
    · intro h
      refine ⟨?_, fun a ha hx => ?_⟩
      · by_cases hx : b ∈ x.1
        · simp [hx]
        · have := h b List.mem_cons_self hx
          rw [List.count_cons_self] at this
          have hc : (0 : Int) ≤ (as.count b : Nat) * v := Int.mul_nonneg (by omega) (by omega)
          simp [hx]
          simp [Int.add_mul] at this
          omega
      · have := h a (List.mem_cons_of_mem _ ha) hx
        rw [wt_add]
        rw [List.count_cons] at this
        by_cases hab : a = b
        · subst hab; simp [Int.add_mul] at this ⊢; omega
        · rw [if_neg hab]; rw [if_neg (by simpa using Ne.symm hab)] at this; simpa using this
def totR (P : Row → List Apt) (rows : List Row) (a : Apt) : Int := rows.foldr (fun q s => ((P q).count a : Nat) * q.2 + s) 0
theorem tot_cons (P : Row → List Apt) (q : Row) (rows : List Row) (a : Apt) : totR P (q :: rows) a = ((P q).count a : Nat) * q.2 + totR P rows a := rfl
theorem tot_nonneg (P : Row → List Apt) (a : Apt) : ∀ (rows : List Row), (∀ p ∈ rows, 1 ≤ p.2) → 0 ≤ totR P rows a
  | [], _ => Int.le_refl _
  | p :: rows, h => by
    rw [tot_cons]
    have h1 := tot_nonneg P a rows fun p hp => h p (List.mem_cons_of_mem _ hp)
    have h2 := h p List.mem_cons_self
    have h3 : (0 : Int) ≤ ((P p).count a : Nat) * p.2 := Int.mul_nonneg (by omega) (by omega)
    omega
theorem tot_zero (P : Row → List Apt) (a : Apt) : ∀ (rows : List Row), (¬ ∃ p ∈ rows, a ∈ P p) → totR P rows a = 0
  | [], _ => rfl
  | p :: rows, h => by
    rw [tot_cons, tot_zero P a rows fun ⟨p', hp', ha'⟩ => h ⟨p', List.mem_cons_of_mem _ hp', ha'⟩, List.count_eq_zero.mpr fun z => h ⟨p, List.mem_cons_self, z⟩]
    simp
theorem leaf_iff {x : Dec} {y : Wts} : ∀ (rows : List Row) (u : Usd), leafOK x y rows u = true ↔ (∀ q ∈ rows, 1 ≤ q.2 ∧ ringL q.1 y x false = true) ∧ ∀ a, a ∉ x.1 → (∃ q ∈ rows, a ∈ allR q.1) → wtF u.1 u.2 a + totR (fun q => allR q.1) rows a ≤ absI (wtF y.1 y.2 a)
  | [], u => by simp [leafOK]
  | q :: rows, u => by
    rw [leafOK, Bool.and_eq_true, Bool.and_eq_true, Bool.and_eq_true, decide_eq_true_eq, leaf_iff rows]
    have htot := tot_cons (fun q => allR q.1) q rows
    constructor
    · rintro ⟨⟨h1, h2⟩, h3, h4, h5⟩
      rw [pairs_iff h1] at h3
      refine ⟨fun p hp => ?_, fun a hx hq => ?_⟩
      · rcases List.mem_cons.mp hp with z | z
        · rw [z]; exact ⟨h1, h2⟩
        · exact h4 p z
      · rw [htot]
        by_cases hr : ∃ p ∈ rows, a ∈ allR p.1
        · have := h5 a hx hr
          rw [wt_fold] at this
          omega
        · obtain ⟨p, hp, ha⟩ := hq
          have ha : a ∈ allR q.1 := by
            rcases List.mem_cons.mp hp with z | z
            · rw [← z]; exact ha
            · exact absurd ⟨p, z, ha⟩ hr
          have h0 := tot_zero (fun q => allR q.1) a rows hr
          have := h3 a ha hx
          omega
    · rintro ⟨h1, h2⟩
      obtain ⟨h3, h4⟩ := h1 q List.mem_cons_self
      have h5 : ∀ p ∈ rows, 1 ≤ p.2 ∧ ringL p.1 y x false = true := fun p hp => h1 p (List.mem_cons_of_mem _ hp)
      refine ⟨⟨h3, h4⟩, (pairs_iff h3 _ _).mpr fun a ha hx => ?_, h5, fun a hx hq => ?_⟩
      · have := h2 a hx ⟨q, List.mem_cons_self, ha⟩
        rw [htot] at this
        have := tot_nonneg (fun q => allR q.1) a rows fun p hp => (h5 p hp).1
        omega
      · obtain ⟨p, hp, ha⟩ := hq
        have := h2 a hx ⟨p, List.mem_cons_of_mem _ hp, ha⟩
        rw [htot] at this
        rw [wt_fold]
        omega
theorem wt_use (x : Dec) : ∀ (rows : List Row) (u : Usd) (a : Apt), wtF (rows.foldl (fun u q => (openR q.1 x).foldl (addU q.2) u) u).1 (rows.foldl (fun u q => (openR q.1 x).foldl (addU q.2) u) u).2 a = wtF u.1 u.2 a + totR (fun q => openR q.1 x) rows a
  | [], u, a => by simp [totR]
  | q :: rows, u, a => by
    rw [List.foldl_cons, wt_use x rows, wt_fold, tot_cons]
    omega
theorem tot_open (x : Dec) {a : Apt} (hx : a ∉ x.1) : ∀ (rows : List Row), totR (fun q => openR q.1 x) rows a = totR (fun q => allR q.1) rows a
  | [] => rfl
  | q :: rows => by
    rw [tot_cons, tot_cons, tot_open x hx rows]
    have : (openR q.1 x).count a = (allR q.1).count a := by
      unfold openR
      exact List.count_filter (by simp [hx])
    simp only [this]
theorem open_iff (r : List Nat) (x : Dec) (a : Apt) : a ∈ openR r x ↔ a ∈ allR r ∧ a ∉ x.1 := by
  unfold openR allR
  rw [List.mem_filter]
  simp
theorem show_leaf {rows : List Row} {m : Nat} {y : Wts} {x : Dec} {least : Int} (hm : ∀ q ∈ rows, ∀ k ∈ q.1, k < m) : showR rows m y x least = leafL rows y x least := by
  unfold showR leafL
  have hloss : lossD y x = sumA (lostA y x) x.1 := (sumA_congr (lost_loss y x) x.1).symm
  rw [hloss, ← Bool.and_assoc]
  congr 1
  rw [Bool.eq_iff_iff, Bool.and_eq_true, leaf_iff, List.all_eq_true, List.all_eq_true]
  have h0 : ∀ a, wtF u0.1 u0.2 a = 0 := fun a => if_neg (by simp [u0])
  have huse : ∀ a, a ∈ (useR x rows).1 → (useR x rows).2 a = totR (fun q => openR q.1 x) rows a := fun a ha => by
    have h1 : wtF (useR x rows).1 (useR x rows).2 a = (useR x rows).2 a := if_pos ha
    have h2 := wt_use x rows u0 a
    have h3 : wtF (useR x rows).1 (useR x rows).2 a = wtF u0.1 u0.2 a + totR (fun q => openR q.1 x) rows a := h2
    rw [← h1, h3, h0, Int.zero_add]
  constructor
  · rintro ⟨h1, h2⟩
    refine ⟨fun q hq => ?_, fun a hx hq => ?_⟩
    · have := h1 q hq
      unfold rowOk at this
      rw [Bool.and_eq_true, decide_eq_true_eq, lose_ring y x (hm q hq)] at this
      exact this
    · obtain ⟨q, hq, ha⟩ := hq
      have hk : a ∈ (useR x rows).1 := (useR_keys x rows a).mpr ⟨q, hq, (open_iff _ _ _).mpr ⟨ha, hx⟩⟩
      have := h2 a hk
      rw [decide_eq_true_eq, huse a hk, tot_open x hx] at this
      rw [h0, Int.zero_add]; exact this
  · rintro ⟨h1, h2⟩
    refine ⟨fun q hq => ?_, fun a ha => ?_⟩
    · unfold rowOk
      rw [Bool.and_eq_true, decide_eq_true_eq, lose_ring y x (hm q hq)]
      exact h1 q hq
    · obtain ⟨q, hq, hao⟩ := (useR_keys x rows a).mp ha
      obtain ⟨haa, hx⟩ := (open_iff _ _ _).mp hao
      have := h2 a hx ⟨q, hq, haa⟩
      rw [h0, Int.zero_add] at this
      rw [decide_eq_true_eq, huse a ha, tot_open x hx]; exact this
def Pap.dp : Pap → Nat
  | .nev _ => 0 | .rin _ => 0 | .cas _ _ a b => max a.dp b.dp + 1
def judgeP (y : Wts) (least : Int) : Pap → Dec → Bool
  | .nev r, x => ringL r y x true
  | .rin rows, x => leafL rows y x least
  | .cas i j a b, x => !(decide (i ≥ j) || decide ((i, j) ∈ x.1)) && (judgeP y least a (putX x (i, j) true) && judgeP y least b (putX x (i, j) false))
def preJd (n : Nat) (q : Pap × Wts × Dec × Int) (ds : List D) : Prop := ds = [encPap q.1, wtsD q.2.1, decB q.2.2.1, .int q.2.2.2] ∧ Fits (q.1, q.2.2.1) ∧ q.1.dp < n
def resJd (q : Pap × Wts × Dec × Int) : D := .bl (judgeP q.2.1 q.2.2.2 q.1 q.2.2.1)
theorem ok_law_judge (Z : Tx K mg ad0) : ∀ n : Nat, FnOk P w K mg base CX0 (n + 4) ad0.f_law_judge ad0.d_law_judge ["_law_paper_here", "_law_weights_here", "_law_decided_here", "_law_least"] (SpG K (preJd n) resJd)
  | 0 => ⟨fun vs H Q E h => by obtain ⟨_, _, q, _, _, h, _⟩ := h; exact absurd h.2.2 (Nat.not_lt_zero _), fun A outer s H args us vs Q E _ _ _ _ h => by obtain ⟨_, _, q, _, _, h, _⟩ := h; exact absurd h.2.2 (Nat.not_lt_zero _)⟩
  | n + 1 => by
    have G_law_judge := ok_law_judge Z n
    have G_law_ring := ok_law_ring (P := P) (w := w) (base := base) Z
    have G_law_leaf := ok_law_leaf (P := P) (w := w) (base := base) Z
    refine Z.F_law_judge.ok (k := n + 4) sc_law_judge (fun vs H Q E h => spG_len (n := 4) (by rintro q ds ⟨rfl, _⟩; rfl) h) (fun cdv A outer s H vs Q E hr h => ⟨_, (pss_cons (ps_if (pt_cmpR op_eq (pe_ix (show IxR _ (rIxT K) from ix_tup) (pv 0) pe_int (fun _ _ => rfl)) pe_str (nomark _)) (pss_one (ps_ret (pe_call G_law_ring (hr.mono (by omega)) (by rfl) Z.M_law_ring Z.F_law_ring.kp Z.B_law_ring .nil pass0 (pa_cons (pe_ix (show IxR _ (rIxT K) from ix_tup) (pv 0) pe_int (fun _ _ => rfl)) (pa_cons (pv 1) (pa_cons (pv 2) (pa_cons pe_bl pa_nil))))))) pss_nil)
      (pss_cons (ps_if (pt_cmpR op_eq (pe_ix (show IxR _ (rIxT K) from ix_tup) (pv 0) pe_int (fun _ _ => rfl)) pe_str (nomark _)) (pss_one (ps_ret (pe_call G_law_leaf (hr.mono (by omega)) (by rfl) Z.M_law_leaf Z.F_law_leaf.kp Z.B_law_leaf .nil pass0 (pa_cons (pe_ix (show IxR _ (rIxT K) from ix_tup) (pv 0) pe_int (fun _ _ => rfl)) (pa_cons (pv 1) (pa_cons (pv 2) (pa_cons (pv 3) pa_nil))))))) pss_nil)
      (pss_cons (ps_set (i := 4) sc_law_judge.nd rfl (Or.inl rfl) (pe_tup (pa_cons (pe_ix (show IxR _ (rIxT K) from ix_tup) (pv 0) pe_int (fun _ _ => rfl)) (pa_cons (pe_ix (show IxR _ (rIxT K) from ix_tup) (pv 0) pe_int (fun _ _ => rfl)) pa_nil))))
      (pss_cons (ps_if (PW.pt (pw_or (pt_cmpR op_ge (pe_ix (show IxR _ (rIxT K) from ix_tup) (pv 4) pe_int (fun _ _ => rfl)) (pe_ix (show IxR _ (rIxT K) from ix_tup) (pv 4) pe_int (fun _ _ => rfl)) (nomark _)) (pw_or1 (pt_cmp (pc_din (hu_of hr) (pv 4) (pv 2)) (by with_unfolding_all rfl))))) (pss_one (ps_ret pe_bl)) pss_nil)
      (pss_cons (ps_set (i := 5) sc_law_judge.nd rfl (Or.inl rfl) (pe_callTy (show CallR _ _ rDictT from call_dictT) (by rfl) Z.z_dict bt_dict (pa_cons (pv 2) pa_nil)))
      (pss_cons (ps_dput (hu_of hr) (pv 5) (pv 4) pe_bl rfl)
      (pss_cons (ps_set (i := 6) sc_law_judge.nd rfl (Or.inl rfl) (pe_callTy (show CallR _ _ rDictT from call_dictT) (by rfl) Z.z_dict bt_dict (pa_cons (pv 2) pa_nil)))
      (pss_cons (ps_dput (hu_of hr) (pv 6) (pv 4) pe_bl rfl)
      (pss_one (ps_frz (ps_frz (ps_ret (pe_and (pe_call G_law_judge (hr.mono (by omega)) (by rfl) Z.M_law_judge Z.F_law_judge.kp Z.B_law_judge .nil pass0 (pa_cons (pe_ix (show IxR _ (rIxT K) from ix_tup) (pv 0) pe_int (fun _ _ => rfl)) (pa_cons (pv 1) (pa_cons (pv 5) (pa_cons (pv 3) pa_nil))))) (pe_one (pe_call G_law_judge (hr.mono (by omega)) (by rfl) Z.M_law_judge Z.F_law_judge.kp Z.B_law_judge .nil pass0 (pa_cons (pe_ix (show IxR _ (rIxT K) from ix_tup) (pv 0) pe_int (fun _ _ => rfl)) (pa_cons (pv 1) (pa_cons (pv 6) (pa_cons (pv 3) pa_nil))))))))))))))))))), ?_⟩)
    refine go_spG h (by rw [spG_len (n := 4) (by rintro q ds ⟨rfl, _⟩; rfl) h]; decide) fun G ds q hp rt => ?_
    obtain ⟨pq, y, x, least⟩ := q
    obtain ⟨rfl, hft, hdp⟩ := hp
    have hft : Fits (pq, x) := hft
    have hdp : pq.dp < n + 1 := hdp
    have rt : RtD K G H Q (.bl (judgeP y least pq x)) := rt
    cases pq with
    | nev r =>
      refine go_seq (go_if (b := true) (evt_test (ev_eqS (l := sNever) (m := sNever) (ev_ixT (ds := [.str sNever, .lst (r.map encN)]) (ev_var rfl) ev_int.b rfl).b (ev_str rfl (by decide)).b)) (fun _ => ?_) fun h => by cases h)
      exact go_ret (ev_callG (pre := preLR) (res := resLR) (r, y, x, true) (evaf_cons (ev_ixT (ds := [.str sNever, .lst (r.map encN)]) (ev_var rfl) ev_int.b rfl) (evaf_cons (ev_var rfl) (evaf_cons (ev_var rfl) (evaf_cons ev_bl evaf_nil)))) ⟨rfl, Nat.le_trans hft.1 (by decide)⟩) rt
    | rin rows =>
      refine go_seq (go_if (b := false) (evt_test (ev_eqS (l := sRings) (m := sNever) (ev_ixT (ds := [.str sRings, .lst (rows.map encRow)]) (ev_var rfl) ev_int.b rfl).b (ev_str rfl (by decide)).b)) (fun h => by cases h) fun _ => ?_)
      ((try dsimp only); refine nx_go ?_)
      refine go_seq (go_if (b := true) (evt_test (ev_eqS (l := sRings) (m := sRings) (ev_ixT (ds := [.str sRings, .lst (rows.map encRow)]) (ev_var rfl) ev_int.b rfl).b (ev_str rfl (by decide)).b)) (fun _ => ?_) fun h => by cases h)
      exact go_ret (ev_callG (pre := preLf) (res := resLf) (rows, y, x, least) (evaf_cons (ev_ixT (ds := [.str sRings, .lst (rows.map encRow)]) (ev_var rfl) ev_int.b rfl) (evaf_cons (ev_var rfl) (evaf_cons (ev_var rfl) (evaf_cons (ev_var rfl) evaf_nil)))) ⟨rfl, hft.1.1, hft.1.2⟩) rt
    | cas i j a b =>
      obtain ⟨⟨hi, hj, ha, hb'⟩, hdo, hln⟩ := hft
      have hln : x.1.length + (a.sz + b.sz + 1) ≤ 1000 := hln
      have hdo : DecOk x := hdo
      have hdp : max a.dp b.dp + 1 < n + 1 := hdp
      refine go_seq (go_if (b := false) (evt_test (ev_eqS (l := sCase) (m := sNever) (ev_ixT (ds := [.str sCase, encN i, encN j, encPap a, encPap b]) (ev_var rfl) ev_int.b rfl).b (ev_str rfl (by decide)).b)) (fun h => by cases h) fun _ => ?_)
      ((try dsimp only); refine nx_go ?_)
      refine go_seq (go_if (b := false) (evt_test (ev_eqS (l := sCase) (m := sRings) (ev_ixT (ds := [.str sCase, encN i, encN j, encPap a, encPap b]) (ev_var rfl) ev_int.b rfl).b (ev_str rfl (by decide)).b)) (fun h => by cases h) fun _ => ?_)
      ((try dsimp only); refine nx_go ?_)
      refine go_seq (go_set (d := encA (i, j)) (ev_tup (ds := [.int (i : Nat), .int (j : Nat)]) (evaf_cons (ev_ixT (ds := [.str sCase, encN i, encN j, encPap a, encPap b]) (ev_var rfl) ev_int.b rfl) (evaf_cons (ev_ixT (ds := [.str sCase, encN i, encN j, encPap a, encPap b]) (ev_var rfl) ev_int.b rfl) evaf_nil)) (small (by simp))) ?_)
      ((try dsimp only); refine nx_go ?_)
      have hij : decide (((i : Nat) : Int) ≥ ((j : Nat) : Int)) = decide (i ≥ j) := decide_eq_decide.mpr (by omega)
      refine go_seq (go_if (b := decide (i ≥ j) || decide ((i, j) ∈ x.1)) (evt_or (evt_test (by rw [← hij]; exact ev_ge (ev_ixT (ds := [.int (i : Nat), .int (j : Nat)]) (ev_var (d := encA (i, j)) rfl) ev_int.b rfl).b (ev_ixT (ds := [.int (i : Nat), .int (j : Nat)]) (ev_var (d := encA (i, j)) rfl) ev_int.b rfl).b)) fun _ => evt_b (ev_inB (a := (i, j)) x (ev_var rfl) (ev_var rfl))) (fun hb => ?_) (fun hb => ?_))
      · refine go_ret ev_bl ?_
        have : judgeP y least (.cas i j a b) x = false := by unfold judgeP; rw [hb]; rfl
        rw [this] at rt; exact rt
      have e0 : judgeP y least (.cas i j a b) x = (judgeP y least a (putX x (i, j) true) && judgeP y least b (putX x (i, j) false)) := by
        show (!(decide (i ≥ j) || decide ((i, j) ∈ x.1)) && _) = _
        rw [hb]; rfl
      rw [e0] at rt
      have hnx : (i, j) ∉ x.1 := by
        rw [Bool.or_eq_false_iff, decide_eq_false_iff_not, decide_eq_false_iff_not] at hb
        exact hb.2
      have hl1 : x.1.length ≤ 1000 := hdo.2.1
      ((try dsimp only); refine nx_go ?_)
      have hput : ∀ (p : Addr) (c : Bool), dslT K p (putD (dAp .bl x.1 x.2) (.tup [.int (i : Nat), .int (j : Nat)]) (.bl c)) = dslT K p (dAp .bl (putX x (i, j) c).1 (putX x (i, j) c).2) := fun p c => by
        rw [show D.tup [.int (i : Nat), .int (j : Nat)] = encA (i, j) from rfl, put_new (β := Bool) x hnx c D.bl]
      refine go_seq (go_setCp (kvs := dAp .bl x.1 x.2) (ev_var rfl) (small_keys D.bl x.2 hdo.2.2) fun p5 => ?_)
      ((try dsimp only); refine nx_go ?_)
      refine go_seq (go_dputK (i := 5) (d := .bl true) rfl ev_bl (ev_var (d := encA (i, j)) rfl) rfl rfl (by rw [sizeLine_eq, lenA]; omega) ?_)
      rw [hput]
      ((try dsimp only); refine nx_go ?_)
      refine go_seq (go_setCp (kvs := dAp .bl x.1 x.2) (ev_var rfl) (small_keys D.bl x.2 hdo.2.2) fun p6 => ?_)
      ((try dsimp only); refine nx_go ?_)
      refine go_seq (go_dputK (i := 6) (d := .bl false) rfl ev_bl (ev_var (d := encA (i, j)) rfl) rfl rfl (by rw [sizeLine_eq, lenA]; omega) ?_)
      rw [hput]
      ((try dsimp only); refine nx_go ?_)
      refine go_frz (i := 5) rfl (go_frz (i := 6) rfl ?_)
      have f1 : Fits (a, putX x (i, j) true) := ⟨ha, put_ok hdo hnx hi hj (by omega) true, by show (x.1 ++ [(i, j)]).length + a.sz ≤ 1000; simp; omega⟩
      have f2 : Fits (b, putX x (i, j) false) := ⟨hb', put_ok hdo hnx hi hj (by omega) false, by show (x.1 ++ [(i, j)]).length + b.sz ≤ 1000; simp; omega⟩
      exact go_ret (ev_and (ev_callG (pre := preJd n) (res := resJd) (a, y, putX x (i, j) true, least) (evaf_cons (ev_ixT (ds := [.str sCase, encN i, encN j, encPap a, encPap b]) (ev_var rfl) ev_int.b rfl) (evaf_cons (ev_var rfl) (evaf_cons (ev_var rfl) (evaf_cons (ev_var rfl) evaf_nil)))) ⟨rfl, f1, by show a.dp < n; omega⟩) fun _ => ev_callG (pre := preJd n) (res := resJd) (b, y, putX x (i, j) false, least) (evaf_cons (ev_ixT (ds := [.str sCase, encN i, encN j, encPap a, encPap b]) (ev_var rfl) ev_int.b rfl) (evaf_cons (ev_var rfl) (evaf_cons (ev_var rfl) (evaf_cons (ev_var rfl) evaf_nil)))) ⟨rfl, f2, by show b.dp < n; omega⟩) rt
def PapIn (m : Nat) : Pap → Prop
  | .nev r => ∀ k ∈ r, k < m
  | .rin rows => ∀ q ∈ rows, ∀ k ∈ q.1, k < m
  | .cas i j a b => i < m ∧ j < m ∧ PapIn m a ∧ PapIn m b
theorem never_ring {r : List Nat} {m : Nat} (y : Wts) (x : Dec) (hm : ∀ k ∈ r, k < m) : neverR r m x = ringL r y x true := by
  unfold neverR ringL
  have h1 : (r.all fun k => decide (k < m)) = true := List.all_eq_true.mpr fun k hk => decide_eq_true (hm k hk)
  rw [h1, Bool.and_true]
  cases hr : isRing r with
  | false => rfl
  | true =>
    rw [Bool.true_and, Bool.true_and, Bool.true_or, Bool.and_true]
    have h3 : (linksR r).all (isHeld x) = (linksR r).all (pairOk r y x true) := by
      refine all_cg fun a ha => ?_
      have hg := link_ne hr ha
      unfold isHeld pairOk
      rw [decide_eq_false hg]
      by_cases hx : a ∈ x.1
      · rw [if_pos hx, decide_eq_true hx]; cases x.2 a <;> simp
      · rw [if_neg hx, decide_eq_false hx]; rfl
    have h4 : isPart x (gapR r) = pairOk r y x true (gapR r) := by
      unfold isPart pairOk
      by_cases hx : gapR r ∈ x.1
      · rw [if_pos hx, decide_eq_true hx]; cases x.2 (gapR r) <;> simp
      · rw [if_neg hx, decide_eq_false hx]; rfl
    rw [h3, h4]
    unfold allR
    rw [List.all_append, List.all_cons, List.all_nil, Bool.and_true]
theorem show_judge {m : Nat} {y : Wts} {least : Int} : ∀ (p : Pap) (x : Dec), PapIn m p → showP m y least p x = judgeP y least p x
  | .nev r, x, h => never_ring y x h
  | .rin rows, x, h => show_leaf h
  | .cas i j a b, x, ⟨hi, hj, ha, hb⟩ => by
    unfold showP judgeP
    rw [show_judge a _ ha, show_judge b _ hb]
    congr 1
    unfold mayD
    have e : decide (i < j) = !decide (i ≥ j) := by rw [← decide_not]; exact decide_eq_decide.mpr (by omega)
    rw [decide_eq_true hi, decide_eq_true hj, Bool.true_and, Bool.true_and, Bool.not_or, e]
def preUn (ds : List D) : Prop := ∃ (m : Nat) (c : Int), ds = [encN m, .int c] ∧ 3 ≤ m ∧ m ≤ 6
def relUn (ds : List D) (d : D) : Prop := ∀ (m : Nat) (c : Int), ds = [encN m, .int c] → ∃ l : List Nat, d = .lst (l.map encN) ∧ (∀ k ∈ l, k < m) ∧ l.length ≤ 6 ∧ 3 ≤ l.length ∧ l.Nodup
theorem erase_map {α β : Type} (f : α → β) : ∀ (l : List α) (c : Nat), (l.map f).eraseIdx c = (l.eraseIdx c).map f
  | [], _ => rfl
  | _ :: _, 0 => rfl
  | a :: l, c + 1 => by simp [erase_map f l c]
theorem erase_perm {α : Type} : ∀ {l : List α} {c : Nat} (h : c < l.length), (l[c] :: l.eraseIdx c).Perm l
  | a :: l, 0, _ => List.Perm.refl _
  | a :: l, c + 1, h => by
    have ih := erase_perm (l := l) (c := c) (by simpa using h)
    exact (List.Perm.swap _ _ _).trans (List.Perm.cons a ih)
theorem ok_law_ring_drawn (Z : Tx K mg ad0) : FnOk P w K mg base CX0 1 ad0.f_law_ring_drawn ad0.d_law_ring_drawn ["_law_many", "_law_cell"] (SpRD K preUn relUn) := by
  refine Z.F_law_ring_drawn.ok sc_law_ring_drawn (fun vs H Q E h => spRD_len (n := 2) (by rintro ds ⟨m, c, rfl, _⟩; rfl) h) (fun cdv A outer s H vs Q E hr h => ⟨_, (pss_cons (ps_set (i := 2) sc_law_ring_drawn.nd rfl (Or.inl rfl) (pe_op op_add (pe_op op_mod (pv 1) pe_int) pe_int))
      (pss_cons (ps_set (i := 3) sc_law_ring_drawn.nd rfl (Or.inl rfl) (pe_callTy (show CallR _ _ rListRng from call_list_rng rfl) (by rfl) Z.z_list boot_list (pa_cons (pe_range1 (by rfl) Z.z_range (pa_cons (pv 0) pa_nil)) pa_nil)))
      (pss_cons (ps_set (i := 4) sc_law_ring_drawn.nd rfl (Or.inl rfl) (pe_lst pa_nil))
      (pss_cons (ps_for PassesOwn.never rfl (pi_range1 (by rfl) Z.z_range (pa_cons (pe_op op_add pe_int (pe_op op_mod (pv 1) (pe_op op_sub (pv 0) pe_int))) pa_nil)) (pg_name (i := 5) sc_law_ring_drawn.nd rfl (Or.inl rfl)) (pss_cons (ps_set (i := 2) sc_law_ring_drawn.nd rfl (Or.inl rfl) (pe_op op_mod (pe_op op_mul (pv 2) pe_int) pe_int))
      (pss_one (ps_expr (pe_bm F.plainAttrs_list F.slot_list_append F.type_list_append mt_append (pv 4) (pa_cons (pe_bm F.plainAttrs_list F.slot_list_pop F.type_list_pop mt_popAt (pv 3) (pa_cons (pe_op op_mod (pe_op op_fdiv (pv 2) pe_int) (pe_callB call_len_seq (by rfl) Z.z_len boot_len (pa_cons (pv 3) pa_nil))) pa_nil)) pa_nil))))))
      (pss_one (ps_ret (pv 4))))))), ?_⟩)
  refine go_spRD h (by rw [spRD_len (n := 2) (by rintro ds ⟨m, c, rfl, _⟩; rfl) h]; decide) fun G ds hp rt => ?_
  obtain ⟨m, c, rfl, h3, h6⟩ := hp
  refine go_seq (go_set (ev_add (ev_mod (ev_var rfl).b ev_int.b (by decide)).b ev_int.b) ?_)
  ((try dsimp only); refine nx_go ?_)
  refine go_seq (go_setO (ds := (List.range m).map encN) (evo_listrange (n := m) (ev_var rfl).b (by omega)) fun p => ?_)
  ((try dsimp only); refine nx_go ?_)
  refine go_seq (go_setO (ds := []) (evo_lst evaf_nil (small (by simp))) fun p2 => ?_)
  ((try dsimp only); refine nx_go ?_)
  have h0 := Int.emod_nonneg c (show ((m : Nat) : Int) - 2 ≠ 0 by omega)
  have h1 := Int.emod_lt_of_pos c (show (0 : Int) < ((m : Nat) : Int) - 2 by omega)
  refine go_seq (go_range (n := 3 + c % ((m : Nat) - 2)) (fun k ss => ∃ (l1 l2 : List Nat) (n : Int) (v5 : Sl), l1.length = m - k ∧ l2.length = k ∧ (l2 ++ l1).Perm (List.range m) ∧ ss = [.d (encN m), .d (.int c), .d (.int n), .o p (l1.map encN), .o p2 (l2.map encN), v5]) (eva_cons (ev_add ev_int.b (ev_mod (ev_var rfl).b (ev_sub (ev_var rfl).b ev_int.b).b (by omega)).b).b eva_nil) (by omega) ⟨List.range m, [], _, .un, by simp, rfl, List.Perm.refl _, rfl⟩ ?_ ?_ fun σ H R h => h)
  · rintro k ss hk ⟨l1, l2, n, v5, e1, e2, hpm, rfl⟩ N hN
    have hlen : 0 < l1.length := by omega
    refine go_seq (go_set (ev_mod (ev_mul (ev_var rfl).b ev_int.b (.inr ⟨by decide, by decide⟩)).b ev_int.b (by decide)) ?_)
    ((try dsimp only); refine nx_go ?_)
    have hlm : ((l1.map encN).length : Int) = (l1.length : Nat) := by rw [List.length_map]
    have hc0 := Int.emod_nonneg (n * 48271 % 4294967311 / 7) (show ((l1.map encN).length : Int) ≠ 0 by rw [hlm]; omega)
    have hc1 := Int.emod_lt_of_pos (n * 48271 % 4294967311 / 7) (show (0 : Int) < ((l1.map encN).length : Int) by rw [hlm]; omega)
    have hcz : (((n * 48271 % 4294967311 / 7) % ((l1.map encN).length : Int)).toNat : Int) = (n * 48271 % 4294967311 / 7) % ((l1.map encN).length : Int) := Int.toNat_of_nonneg hc0
    generalize hcd : ((n * 48271 % 4294967311 / 7) % ((l1.map encN).length : Int)).toNat = cc at hcz
    have hcl : cc < l1.length := by
      have : (cc : Int) < (l1.length : Nat) := by rw [hcz, ← hlm]; exact hc1
      omega
    refine go_appPop (i := 4) (j := 3) (c := cc) (d := encN l1[cc]) (by decide) rfl rfl (by rw [hcz]; exact (ev_mod (ev_fdiv (ev_var rfl).b ev_int.b ⟨by decide, by decide⟩).b (ev_lenL (evl_own rfl)).b (by rw [hlm]; omega)).b) (by rw [List.length_map]; exact hcl) (by rw [List.length_map]; omega) (by rw [List.getElem?_map, List.getElem?_eq_getElem hcl]; rfl) (by rw [sizeLine_eq, List.length_map]; omega) (hN _ ⟨l1.eraseIdx cc, l2 ++ [l1[cc]], n * 48271 % 4294967311, .d (.int (k : Nat)), ?_, ?_, ?_, ?_⟩)
    · rw [List.length_eraseIdx, if_pos hcl]; omega
    · simp; omega
    · rw [List.append_assoc]
      exact ((List.Perm.refl l2).append (erase_perm hcl)).trans hpm
    · rw [erase_map, List.map_append]; rfl
  rintro ss ⟨l1, l2, n, v5, e1, e2, hpm, rfl⟩
  refine nx_freeze (i := 4) rfl ?_
  ((try dsimp only); refine nx_go ?_)
  refine go_ret (ev_var rfl) (rt _ fun m' c' e => ?_)
  injection e with e3 e4
  have := encN_inj _ _ e3
  subst this
  exact ⟨l2, rfl, fun k hk => List.mem_range.mp (hpm.mem_iff.mp (List.mem_append_left _ hk)), by omega, by omega, (List.nodup_append.mp (hpm.nodup_iff.mpr List.nodup_range)).1⟩
def preTo (ds : List D) : Prop := ∃ (r : List Nat) (c : Int), ds = [.lst (r.map encN), .int c] ∧ 3 ≤ r.length ∧ r.length ≤ 6
def relTo (ds : List D) (d : D) : Prop := ∀ (r : List Nat) (c : Int), ds = [.lst (r.map encN), .int c] → ∃ l : List Nat, d = .lst (l.map encN) ∧ (∀ k ∈ l, k ∈ r) ∧ l.length ≤ 12
theorem ok_law_told (Z : Tx K mg ad0) : FnOk P w K mg base CX0 1 ad0.f_law_told ad0.d_law_told ["_law_ring_here", "_law_cell"] (SpRD K preTo relTo) := by
  refine Z.F_law_told.ok sc_law_told (fun vs H Q E h => spRD_len (n := 2) (by rintro ds ⟨m, c, rfl, _⟩; rfl) h) (fun cdv A outer s H vs Q E hr h => ⟨_, (pss_cons (ps_set (i := 2) sc_law_told.nd rfl (Or.inl rfl) (pe_op op_mod (pv 1) pe_int))
      (pss_cons (ps_set (i := 3) sc_law_told.nd rfl (Or.inl rfl) (pe_op op_add pe_int (pe_op op_mod (pe_op op_fdiv (pv 1) pe_int) (pe_op op_sub (pe_callB call_len_seq (by rfl) Z.z_len boot_len (pa_cons (pv 0) pa_nil)) pe_int))))
      (pss_cons (ps_if (pt_cmpR op_eq (pv 2) pe_int (nomark _)) (pss_one (ps_ret (pe_listrev rfl (by rfl) Z.z_list (by rfl) Z.z_reversed (pa_cons (pv 0) pa_nil)))) pss_nil)
      (pss_cons (ps_if (pt_cmpR op_eq (pv 2) pe_int (nomark _)) (pss_one (ps_ret (pe_op (show OpR _ _ (rCatD K) from op_catD) (pe_slice sl_list (pv 0) (po_some (pv 3)) po_none) (pe_slice sl_list (pv 0) po_none (po_some (pv 3)))))) pss_nil)
      (pss_cons (ps_if (pt_cmpR op_eq (pv 2) pe_int (nomark _)) (pss_one (ps_ret (pe_op (show OpR _ _ (rCatD K) from op_catD) (pe_slice sl_list (pv 0) po_none (po_some (pv 3))) (pe_slice sl_list (pv 0) (po_some (pe_op op_add (pv 3) pe_int)) po_none)))) pss_nil)
      (pss_cons (ps_if (pt_cmpR op_eq (pv 2) pe_int (nomark _)) (pss_one (ps_ret (pe_op (show OpR _ _ (rCatD K) from op_catD) (pv 0) (pe_slice sl_list (pv 0) po_none (po_some pe_int))))) pss_nil)
      (pss_cons (ps_if (pt_cmpR op_eq (pv 2) pe_int (nomark _)) (pss_one (ps_ret (pe_slice sl_list (pv 0) po_none (po_some pe_int)))) pss_nil)
      (pss_cons (ps_if (pt_cmpR op_eq (pv 2) pe_int (nomark _)) (pss_one (ps_ret (pe_lst pa_nil))) pss_nil)
      (pss_one (ps_ret (pe_callTy call_list_of (by rfl) Z.z_list boot_list (pa_cons (pv 0) pa_nil)))))))))))), ?_⟩)
  refine go_spRD h (by rw [spRD_len (n := 2) (by rintro ds ⟨m, c, rfl, _⟩; rfl) h]; decide) fun G ds hp rt => ?_
  obtain ⟨r, c, rfl, h3, h6⟩ := hp
  have tell : ∀ l : List Nat, (∀ k ∈ l, k ∈ r) → l.length ≤ 12 → RtD K G H Q (.lst (l.map encN)) := fun l h1 h2 => rt _ fun r' c' e => by
    injection e with e _
    injection e with e
    have : r = r' := by rw [← unN_map r, e, unN_map]
    subst this
    exact ⟨l, rfl, h1, h2⟩
  refine go_seq (go_set (ev_mod (ev_var rfl).b ev_int.b (by decide)) ?_)
  ((try dsimp only); refine nx_go ?_)
  generalize c % 8 = wy
  have hlm : ((r.map encN).length : Int) - 1 = ((r.length - 1 : Nat) : Int) := by rw [List.length_map]; omega
  have h0 := Int.emod_nonneg (c / 8) (show ((r.map encN).length : Int) - 1 ≠ 0 by rw [hlm]; omega)
  have h1 := Int.emod_lt_of_pos (c / 8) (show (0 : Int) < ((r.map encN).length : Int) - 1 by rw [hlm]; omega)
  refine go_seq (go_set (ev_add ev_int.b (ev_mod (ev_fdiv (ev_var rfl).b ev_int.b ⟨by decide, by decide⟩).b (ev_sub (ev_lenL (ev_var rfl).l).b ev_int.b).b (by rw [hlm]; omega)).b) ?_)
  obtain ⟨n, hn⟩ : ∃ n : Nat, 1 + c / 8 % (((r.map encN).length : Int) - 1) = (n : Int) := ⟨_, (Int.toNat_of_nonneg (by omega)).symm⟩
  rw [hn]
  ((try dsimp only); refine nx_go ?_)
  have cut1 : ∀ k : Nat, cutD (r.map encN) none (some (k : Int)) = (r.take k).map encN := fun k => by rw [cutD_to _ (by omega), List.map_take]; rfl
  have cut2 : ∀ k : Nat, cutD (r.map encN) (some (k : Int)) none = (r.drop k).map encN := fun k => by rw [cutD_from _ (by omega), List.map_drop]; rfl
  refine go_seq (go_if (evt_test (ev_eqI (ev_var rfl).b ev_int.b)) (fun _ => ?_) (fun _ => ?_))
  · exact go_ret (d := .lst (r.reverse.map encN)) (by rw [List.map_reverse]; exact EvO.ev (evo_listrev (ev_var rfl).l)) (tell _ (fun k hk => List.mem_reverse.mp hk) (by simp; omega))
  ((try dsimp only); refine nx_go ?_)
  refine go_seq (go_if (evt_test (ev_eqI (ev_var rfl).b ev_int.b)) (fun _ => ?_) (fun _ => ?_))
  · refine go_ret (d := .lst ((r.drop n ++ r.take n).map encN)) ?_ (tell _ (fun k hk => (List.mem_append.mp hk).elim List.mem_of_mem_drop List.mem_of_mem_take) (by simp; omega))
    rw [List.map_append, ← cut1, ← cut2]
    exact EvO.ev (evo_cat (EvO.l (evo_slL (ev_var rfl).l (evp_part (ev_var rfl).b) evp_no)) (EvO.l (evo_slL (ev_var rfl).l evp_no (evp_part (ev_var rfl).b))) (by rw [cut1, cut2, sizeLine_eq]; simp; omega))
  ((try dsimp only); refine nx_go ?_)
  refine go_seq (go_if (evt_test (ev_eqI (ev_var rfl).b ev_int.b)) (fun _ => ?_) (fun _ => ?_))
  · refine go_ret (d := .lst ((r.take n ++ r.drop (n + 1)).map encN)) ?_ (tell _ (fun k hk => (List.mem_append.mp hk).elim List.mem_of_mem_take List.mem_of_mem_drop) (by simp; omega))
    have cut3 : cutD (r.map encN) (some ((n : Int) + 1)) none = (r.drop (n + 1)).map encN := cut2 (n + 1)
    rw [List.map_append, ← cut1, ← cut3]
    exact EvO.ev (evo_cat (EvO.l (evo_slL (ev_var rfl).l evp_no (evp_part (ev_var rfl).b))) (EvO.l (evo_slL (ev_var rfl).l (evp_part (ev_add (ev_var rfl).b ev_int.b).b) evp_no)) (by rw [cut1, cut3, sizeLine_eq]; simp; omega))
  ((try dsimp only); refine nx_go ?_)
  refine go_seq (go_if (evt_test (ev_eqI (ev_var rfl).b ev_int.b)) (fun _ => ?_) (fun _ => ?_))
  · refine go_ret (d := .lst ((r ++ r.take 1).map encN)) ?_ (tell _ (fun k hk => (List.mem_append.mp hk).elim id List.mem_of_mem_take) (by simp; omega))
    have c1 : cutD (r.map encN) none (some 1) = (r.take 1).map encN := cut1 1
    rw [List.map_append, ← c1]
    exact EvO.ev (evo_cat (ev_var rfl).l (EvO.l (evo_slL (ev_var rfl).l evp_no (evp_part ev_int.b))) (by rw [c1, sizeLine_eq]; simp; omega))
  ((try dsimp only); refine nx_go ?_)
  refine go_seq (go_if (evt_test (ev_eqI (ev_var rfl).b ev_int.b)) (fun _ => ?_) (fun _ => ?_))
  · refine go_ret (d := .lst ((r.take 2).map encN)) ?_ (tell _ (fun k hk => List.mem_of_mem_take hk) (by simp; omega))
    have c2 : cutD (r.map encN) none (some 2) = (r.take 2).map encN := cut1 2
    rw [← c2]
    exact EvO.ev (evo_slL (ev_var rfl).l evp_no (evp_part ev_int.b))
  ((try dsimp only); refine nx_go ?_)
  refine go_seq (go_if (evt_test (ev_eqI (ev_var rfl).b ev_int.b)) (fun _ => ?_) (fun _ => ?_))
  · exact go_ret (d := .lst (([] : List Nat).map encN)) (EvO.ev (evo_lst evaf_nil (small (by simp)))) (tell [] (fun k hk => by cases hk) (by simp))
  ((try dsimp only); refine nx_go ?_)
  exact go_ret (d := .lst (r.map encN)) (EvO.ev (evo_list (ev_var rfl).l)) (tell r (fun k hk => hk) (by omega))
abbrev Trp := Nat × Nat × Bool
def encT (t : Trp) : D := .tup [.int t.1, .int t.2.1, .bl t.2.2]
def papF (told : List Nat) : List Trp → Pap
  | [] => .nev told
  | t :: ts => if t.2.2 then .cas t.1 t.2.1 (papF told ts) (.rin []) else .cas t.1 t.2.1 (.rin []) (papF told ts)
def prePp (q : List Nat × List Nat × List Trp) (ds : List D) : Prop := ds = [.lst (q.1.map encN), .lst (q.2.1.map encN), .lst (q.2.2.map encT)] ∧ q.2.2.length ≤ 100
theorem ok_law_paper (Z : Tx K mg ad0) : FnOk P w K mg base CX0 1 ad0.f_law_paper ad0.d_law_paper ["_law_ring_here", "_law_told_here", "_law_pairs"] (SpG K prePp fun q => encPap (papF q.2.1 q.2.2)) := by
  refine Z.F_law_paper.ok sc_law_paper (fun vs H Q E h => spG_len (n := 3) (by rintro q ds ⟨rfl, _⟩; rfl) h) (fun cdv A outer s H vs Q E hr h => ⟨_, (pss_cons (ps_set (i := 3) sc_law_paper.nd rfl (Or.inl rfl) (pe_tup (pa_cons pe_str (pa_cons (pv 1) pa_nil))))
      (pss_cons (ps_for PassesOwn.never rfl (pi_rev (by rfl) Z.z_reversed (pa_cons (pv 2) pa_nil)) (pg_tup rfl (pgs_cons (pg_name (i := 4) sc_law_paper.nd rfl (Or.inl rfl)) (pgs_cons (pg_name (i := 5) sc_law_paper.nd rfl (Or.inl rfl)) (pgs_cons (pg_name (i := 6) sc_law_paper.nd rfl (Or.inl rfl)) pgs_nil)))) (pss_one (ps_if (pt_val (pv 6)) (pss_one (ps_set (i := 3) sc_law_paper.nd rfl (Or.inl rfl) (pe_tup (pa_cons pe_str (pa_cons (pv 4) (pa_cons (pv 5) (pa_cons (pv 3) (pa_cons (pe_tup (pa_cons pe_str (pa_cons (pe_lst pa_nil) pa_nil))) pa_nil)))))))) (pss_one (ps_set (i := 3) sc_law_paper.nd rfl (Or.inl rfl) (pe_tup (pa_cons pe_str (pa_cons (pv 4) (pa_cons (pv 5) (pa_cons (pe_tup (pa_cons pe_str (pa_cons (pe_lst pa_nil) pa_nil))) (pa_cons (pv 3) pa_nil)))))))))))
      (pss_one (ps_ret (pv 3))))), ?_⟩)
  refine go_spG h (by rw [spG_len (n := 3) (by rintro q ds ⟨rfl, _⟩; rfl) h]; decide) fun G ds q hp rt => ?_
  obtain ⟨ring, told, ts⟩ := q
  obtain ⟨rfl, hl⟩ := hp
  have hl : ts.length ≤ 100 := hl
  have rt : RtD K G H Q (encPap (papF told ts)) := rt
  refine go_seq (go_set (d := encPap (.nev told)) (ev_tup (ds := [.str sNever, .lst (told.map encN)]) (evaf_cons (ev_str rfl (by decide)) (evaf_cons (ev_var rfl) evaf_nil)) (small (by simp))) ?_)
  ((try dsimp only); refine nx_go ?_)
  refine go_seq (go_forF (fun k ss => ∃ v4 v5 v6, ss = [.d (.lst (ring.map encN)), .d (.lst (told.map encN)), .d (.lst (ts.map encT)), .d (encPap (papF told (ts.drop (ts.length - k)))), v4, v5, v6]) (evf_rev (ds := ts.map encT) (ev_var rfl)) ⟨.un, .un, .un, by simp [papF]; rfl⟩ ?_ ?_)
  · rintro L' k ss hL hk ⟨v4, v5, v6, rfl⟩
    rw [List.length_map] at hk
    have hget : (ts.map encT).reverse.getD k .non = encT ts[ts.length - 1 - k] := by
      rw [List.getD_eq_getElem?_getD, List.getElem?_reverse (by rw [List.length_map]; exact hk), List.length_map, List.getElem?_map, List.getElem?_eq_getElem (by omega)]; rfl
    have hdrop : ts.drop (ts.length - (k + 1)) = ts[ts.length - 1 - k] :: ts.drop (ts.length - k) := by
      have e1 : ts.length - (k + 1) = ts.length - 1 - k := by omega
      rw [e1, List.drop_eq_getElem_cons (by omega), show ts.length - 1 - k + 1 = ts.length - k by omega]
    rw [hget]
    generalize ts[ts.length - 1 - k] = t at hdrop
    obtain ⟨i, j, hd⟩ := t
    refine ⟨_, tg_tup (ds := [.int i, .int j, .bl hd]) rfl (tgs_cons tg_name (tgs_cons tg_name (tgs_cons tg_name tgs_nil))), fun N hN => ?_⟩
    have rin0 : ∀ {ss' : List Sl}, Ev K G H L' ss' (tTup (tCons (tC (.str (T sRings))) (tCons (tLst tNil) tNil))) (encPap (.rin [])) := ev_tup (ds := [.str sRings, .lst []]) (evaf_cons (ev_str rfl (by decide)) (evaf_cons (EvO.ev (evo_lst evaf_nil (small (by simp)))) evaf_nil)) (small (by simp))
    refine go_if (evt_b (ev_var rfl)) (fun hb => ?_) (fun hb => ?_)
    · refine go_set (d := encPap (.cas i j (papF told (ts.drop (ts.length - k))) (.rin []))) (ev_tup (ds := [.str sCase, encN i, encN j, encPap (papF told (ts.drop (ts.length - k))), encPap (.rin [])]) (evaf_cons (ev_str rfl (by decide)) (evaf_cons (ev_var rfl) (evaf_cons (ev_var rfl) (evaf_cons (ev_var rfl) (evaf_cons rin0 evaf_nil))))) (small (by simp))) (hN _ ⟨.d (.int i), .d (.int j), .d (.bl hd), ?_⟩)
      have ep : papF told ((i, j, hd) :: ts.drop (ts.length - k)) = .cas i j (papF told (ts.drop (ts.length - k))) (.rin []) := by rw [papF, if_pos hb]
      rw [hdrop, ep]; rfl
    · refine go_set (d := encPap (.cas i j (.rin []) (papF told (ts.drop (ts.length - k))))) (ev_tup (ds := [.str sCase, encN i, encN j, encPap (.rin []), encPap (papF told (ts.drop (ts.length - k)))]) (evaf_cons (ev_str rfl (by decide)) (evaf_cons (ev_var rfl) (evaf_cons (ev_var rfl) (evaf_cons rin0 (evaf_cons (ev_var rfl) evaf_nil))))) (small (by simp))) (hN _ ⟨.d (.int i), .d (.int j), .d (.bl hd), ?_⟩)
      have ep : papF told ((i, j, hd) :: ts.drop (ts.length - k)) = .cas i j (.rin []) (papF told (ts.drop (ts.length - k))) := by rw [papF, if_neg (show ¬ hd = true by rw [hb]; decide)]
      rw [hdrop, ep]; rfl
  rintro ss ⟨v4, v5, v6, rfl⟩
  rw [List.length_map, Nat.sub_self, List.drop_zero]
  ((try dsimp only); refine nx_go ?_)
  exact go_ret (ev_var rfl) rt
def keyT (t : Trp) : Apt := (t.1, t.2.1)
def putT (x : Dec) (t : Trp) : Dec := putX x (keyT t) t.2.2
theorem puts_1 : ∀ (ts : List Trp) (x : Dec), (ts.foldl putT x).1 = x.1 ++ ts.map keyT
  | [], x => by simp
  | t :: ts, x => by rw [List.foldl_cons, puts_1 ts]; show x.1 ++ [keyT t] ++ _ = _; simp
theorem puts_out : ∀ (ts : List Trp) (x : Dec) (a : Apt), a ∉ ts.map keyT → (ts.foldl putT x).2 a = x.2 a
  | [], x, a, _ => rfl
  | t :: ts, x, a, h => by
    rw [List.map_cons, List.mem_cons, not_or] at h
    rw [List.foldl_cons, puts_out ts _ a h.2]
    exact if_neg h.1
theorem puts_in : ∀ (ts : List Trp) (x : Dec), (ts.map keyT).Nodup → ∀ t ∈ ts, (ts.foldl putT x).2 (keyT t) = t.2.2
  | u :: ts, x, hn, t, ht => by
    rw [List.map_cons, List.nodup_cons] at hn
    rw [List.foldl_cons]
    rcases List.mem_cons.mp ht with z | z
    · subst z
      rw [puts_out ts _ _ hn.1]
      exact if_pos rfl
    · exact puts_in ts _ hn.2 t z
theorem sum_nonneg {f : Apt → Int} (h : ∀ a, 0 ≤ f a) (as : List Apt) : 0 ≤ sumA f as := by
  unfold sumA
  have : ∀ (as : List Apt) (z : Int), 0 ≤ z → 0 ≤ as.foldl (fun s a => s + f a) z := by
    intro as
    induction as with
    | nil => intro z hz; exact hz
    | cons a as ih => intro z hz; exact ih (z + f a) (by have := h a; omega)
  exact this as 0 (Int.le_refl _)
theorem leaf_nil {y : Wts} {x : Dec} {least : Int} (h : least ≤ 0) : leafL [] y x least = true := by
  unfold leafL
  have h0 : 0 ≤ sumA (lostA y x) x.1 := sum_nonneg (fun a => by unfold lostA absI; split <;> (try split) <;> omega) _
  have : decide (sumA (lostA y x) x.1 + sumR [] ≥ least) = true := decide_eq_true (by show _ + 0 ≥ least; omega)
  rw [this]; rfl
theorem judge_true {y : Wts} {least : Int} {r : List Nat} (hl : least ≤ 0) : ∀ (ts : List Trp) (x : Dec), (∀ t ∈ ts, t.1 < t.2.1) → (ts.map keyT).Nodup → (∀ t ∈ ts, keyT t ∉ x.1) → ringL r y (ts.foldl putT x) true = true → judgeP y least (papF r ts) x = true
  | [], x, _, _, _, h => h
  | t :: ts, x, h1, h2, h3, h => by
    rw [List.map_cons, List.nodup_cons] at h2
    have hlt := h1 t List.mem_cons_self
    have hx := h3 t List.mem_cons_self
    have ih := judge_true hl ts (putT x t) (fun u hu => h1 u (List.mem_cons_of_mem _ hu)) h2.2 (fun u hu => by
      show keyT u ∉ x.1 ++ [keyT t]
      rw [List.mem_append, not_or]
      exact ⟨h3 u (List.mem_cons_of_mem _ hu), fun z => h2.1 (by rw [← show keyT u = keyT t by simpa using z]; exact List.mem_map.mpr ⟨u, hu, rfl⟩)⟩) h
    have hc : (!(decide (t.1 ≥ t.2.1) || decide ((t.1, t.2.1) ∈ x.1))) = true := by
      rw [decide_eq_false (by omega), decide_eq_false (show ¬ (t.1, t.2.1) ∈ x.1 from hx)]; rfl
    rw [papF]
    by_cases hb : t.2.2 = true
    · rw [if_pos hb]
      unfold putT at ih
      rw [hb] at ih
      show (!(decide (t.1 ≥ t.2.1) || decide ((t.1, t.2.1) ∈ x.1)) && (judgeP y least (papF r ts) (putX x (t.1, t.2.1) true) && leafL [] y (putX x (t.1, t.2.1) false) least)) = true
      rw [hc, leaf_nil hl, Bool.and_true, Bool.true_and]
      exact ih
    · rw [if_neg hb]
      rw [Bool.not_eq_true] at hb
      unfold putT at ih
      rw [hb] at ih
      show (!(decide (t.1 ≥ t.2.1) || decide ((t.1, t.2.1) ∈ x.1)) && (leafL [] y (putX x (t.1, t.2.1) true) least && judgeP y least (papF r ts) (putX x (t.1, t.2.1) false))) = true
      rw [hc, leaf_nil hl, Bool.true_and, Bool.true_and]
      exact ih
theorem links_lt {r : List Nat} (hn : r.Nodup) : ∀ a ∈ linksR r, a.1 < a.2 := fun a ha => by
  unfold linksR at ha
  obtain ⟨k, hk, rfl⟩ := List.mem_map.mp ha
  have hk := List.mem_range.mp hk
  have : r.getD k 0 ≠ r.getD (k + 1) 0 := fun z => by have := nod_ix hn (by omega) (by omega) z; omega
  show min _ _ < max _ _
  omega
theorem links_nod {r : List Nat} (hn : r.Nodup) : (linksR r).Nodup := by
  unfold linksR
  rw [List.nodup_iff_pairwise_ne, List.pairwise_map]
  refine List.Pairwise.imp_of_mem (fun {i j} hi hj hne e => hne ?_) (List.nodup_iff_pairwise_ne.mp List.nodup_range)
  have hi := List.mem_range.mp hi
  have hj := List.mem_range.mp hj
  have e1 := congrArg Prod.fst e
  have e2 := congrArg Prod.snd e
  simp only [prF] at e1 e2
  have : (r.getD i 0 = r.getD j 0 ∧ r.getD (i + 1) 0 = r.getD (j + 1) 0) ∨ (r.getD i 0 = r.getD (j + 1) 0 ∧ r.getD (i + 1) 0 = r.getD j 0) := by omega
  rcases this with ⟨h1, h2⟩ | ⟨h1, h2⟩
  · exact nod_ix hn (by omega) (by omega) h1
  · have := nod_ix hn (by omega) (by omega) h1
    have := nod_ix hn (by omega) (by omega) h2
    omega
theorem gap_lt {r : List Nat} (hn : r.Nodup) (h3 : 3 ≤ r.length) : (gapR r).1 < (gapR r).2 := by
  have : r.getD 0 0 ≠ r.getD (r.length - 1) 0 := fun z => by have := nod_ix hn (by omega) (by omega) z; omega
  show min _ _ < max _ _
  omega
theorem never_true {r : List Nat} {y : Wts} {x : Dec} (hn : r.Nodup) (h3 : 3 ≤ r.length) (h1 : ∀ a ∈ linksR r, a ∈ x.1 ∧ x.2 a = true) (h2 : gapR r ∈ x.1 ∧ x.2 (gapR r) = false) : ringL r y x true = true := by
  have hr : isRing r = true := by unfold isRing; rw [decide_eq_true h3, decide_eq_true hn]; rfl
  unfold ringL
  rw [hr, Bool.true_and, Bool.true_or, Bool.and_true, List.all_eq_true]
  intro a ha
  unfold allR at ha
  unfold pairOk
  rcases List.mem_append.mp ha with z | z
  · rw [if_pos (h1 a z).1, (h1 a z).2, decide_eq_false (link_ne hr z)]; rfl
  · have : a = gapR r := by simpa using z
    subst this
    rw [if_pos h2.1, h2.2, decide_eq_true rfl]; rfl
def cellF (ns : List Int) (k : Int) : Int := ns.getD k.toNat 0
theorem resCell_enc (ns : List Int) (k : Int) : resCell [.lst (ns.map .int), .int k] = .int (cellF ns k) := by
  show (ns.map D.int).getD k.toNat (.int 0) = _
  unfold cellF
  rw [List.getD_eq_getElem?_getD, List.getD_eq_getElem?_getD, List.getElem?_map]
  cases ns[k.toNat]? <;> rfl
theorem ev_cell {G H₀ L : Hp} {ss : List Sl} {i : Nat} {tk : TE} {E : XK} {ns : List Int} {k : Int} (h : ss[i]? = some (.d (.lst (ns.map .int)))) (e : Ev K G H₀ L ss tk (.int k)) (hk : 0 ≤ k) : Ev K G H₀ L ss (tCall (SpD K preCell resCell) [] E (tCons (tVar i) (tCons tk tNil))) (.int (cellF ns k)) := by
  rw [← resCell_enc]
  exact ev_call (pre := preCell) (res := resCell) (evaf_cons (ev_var h) (evaf_cons e evaf_nil)) ⟨ns, k, rfl, hk⟩
def GoodRow (m : Nat) (q : Row) : Prop := (∀ k ∈ q.1, k < m) ∧ q.1.length ≤ 7
def bF (us : List Apt) (f : Apt → Bool) (a : Apt) (d : Bool) : Bool := if a ∈ us then f a else d
theorem keysD {β : Type} (encB : β → D) (us : List Apt) (f : Apt → β) : (dAp encB us f).map (·.1) = us.map encA := by unfold dAp dA; rw [List.map_map]; rfl
theorem intA (us : List Apt) : ∀ e ∈ us.map encA, ∃ l, e = .tup l ∧ ∀ z ∈ l, z.isInt = true := fun e he => by
  obtain ⟨a, _, rfl⟩ := List.mem_map.mp he
  exact ⟨_, rfl, fun d hd => by simp at hd; rcases hd with rfl | rfl <;> rfl⟩
theorem alikeA (us : List Apt) : Alike (us.map encA) := .inr (.inr ⟨.i, [.i], fun d hd => by
  obtain ⟨a, _, rfl⟩ := List.mem_map.mp hd
  exact ⟨_, rfl, rfl⟩⟩)
def sortA (us : List Apt) : List Apt := (sortD (us.map encA)).map unA
theorem sortA_enc (us : List Apt) : (sortA us).map encA = sortD (us.map encA) := by
  unfold sortA
  rw [List.map_map]
  conv => rhs; rw [← List.map_id (sortD (us.map encA))]
  refine List.map_congr_left fun d hd => ?_
  obtain ⟨a, _, rfl⟩ := List.mem_map.mp ((sortD_perm _).mem_iff.mp hd)
  rfl
theorem sortA_perm (us : List Apt) : (sortA us).Perm us := by
  have := (sortD_perm (us.map encA)).map unA
  rw [unA_map] at this
  exact this
theorem nod_put {us : List Apt} (h : us.Nodup) (a : Apt) : (if a ∈ us then us else us ++ [a]).Nodup := by
  split
  · exact h
  · rename_i hn
    exact List.nodup_append.mpr ⟨h, by simp, fun b hb c hc z => hn (by rw [← show c = a by simpa using hc, ← z]; exact hb)⟩
theorem len_put (us : List Apt) (a : Apt) : (if a ∈ us then us else us ++ [a]).length ≤ us.length + 1 := by split <;> simp
section
variable {y y' : Wts} (h : wtF y.1 y.2 = wtF y'.1 y'.2)
include h
theorem pairOk_w (r : List Nat) (x : Dec) (nv : Bool) (a : Apt) : pairOk r y x nv a = pairOk r y' x nv a := by unfold pairOk; rw [h]
theorem ringL_w (r : List Nat) (x : Dec) (nv : Bool) : ringL r y x nv = ringL r y' x nv := by
  unfold ringL
  rw [all_cg fun a _ => pairOk_w h r x nv a]
theorem lostA_w (x : Dec) (a : Apt) : lostA y x a = lostA y' x a := by unfold lostA; rw [h]
theorem pairsOK_w (x : Dec) (v : Int) : ∀ (as : List Apt) (u : Usd), pairsOK x y v as u = pairsOK x y' v as u
  | [], u => rfl
  | a :: as, u => by rw [pairsOK, pairsOK, pairsOK_w x v as, h]
theorem leafOK_w (x : Dec) : ∀ (rows : List Row) (u : Usd), leafOK x y rows u = leafOK x y' rows u
  | [], u => rfl
  | q :: rows, u => by rw [leafOK, leafOK, leafOK_w x rows, pairsOK_w h, ringL_w h]
theorem judge_w (least : Int) : ∀ (p : Pap) (x : Dec), judgeP y least p x = judgeP y' least p x
  | .nev r, x => ringL_w h r x true
  | .rin rows, x => by
    unfold judgeP leafL
    rw [leafOK_w h, sumA_congr (lostA_w h x)]
  | .cas i j a b, x => by
    unfold judgeP
    rw [judge_w least a, judge_w least b]
end
theorem wts_sorted {us : List Apt} {g : Apt → Int} {ps : List Pr} (hn : us.Nodup) (hp : ps.map keyP = sortA us) (hv : ∀ p ∈ ps, p.2.2 = g (keyP p)) : wtF (wtsP ps).1 (wtsP ps).2 = wtF us g := by
  funext a
  unfold wtF wtsP
  have hm : a ∈ ps.map keyP ↔ a ∈ us := by rw [hp]; exact (sortA_perm us).mem_iff
  by_cases ha : a ∈ us
  · rw [if_pos (hm.mpr ha), if_pos ha]
    obtain ⟨p, hpm, rfl⟩ := List.mem_map.mp (hm.mpr ha)
    have hnd : (ps.map keyP).Nodup := by rw [hp]; exact (sortA_perm us).nodup_iff.mpr hn
    show wOf ps (keyP p) = _
    rw [wOf_at hnd hpm]; exact hv p hpm
  · rw [if_neg (fun z => ha (hm.mp z)), if_neg ha]
def spLaw (K : PySem.W.Frag) : Sp := fun vs H Q _ => ∃ (a : Addr) (ns : List Int), vs = [.ref a] ∧ SqL K H a (ns.map V.int) ∧ ns.length ≤ 63 ∧ ∀ H', Q (.bl true) H'
theorem reps_ints {K : PySem.W.Frag} {H : Hp} : ∀ ns : List Int, Reps K H (ns.map D.int) (ns.map V.int)
  | [] => Reps.nil
  | n :: ns => Reps.cons Rep.int (reps_ints ns)
theorem pap_ok {told : List Nat} (ht : told.length ≤ 100) : ∀ {ts : List Trp}, (∀ t ∈ ts, t.1 < 8 ∧ t.2.1 < 8) → PapOk (papF told ts) ∧ (papF told ts).sz ≤ 2 * ts.length + 1 ∧ (papF told ts).dp ≤ ts.length
  | [], _ => ⟨ht, by simp [papF, Pap.sz], by simp [papF, Pap.dp]⟩
  | t :: ts, h => by
    obtain ⟨h1, h2, h3⟩ := pap_ok ht (ts := ts) fun u hu => h u (List.mem_cons_of_mem _ hu)
    have h4 := h t List.mem_cons_self
    rw [papF]
    have hr : PapOk (.rin []) := ⟨by simp, by simp⟩
    split
    · exact ⟨⟨h4.1, h4.2, h1, hr⟩, by simp [Pap.sz]; omega, by simp [Pap.dp]; omega⟩
    · exact ⟨⟨h4.1, h4.2, hr, h1⟩, by simp [Pap.sz]; omega, by simp [Pap.dp]; omega⟩
theorem pap_in {told : List Nat} {m : Nat} (ht : ∀ k ∈ told, k < m) : ∀ {ts : List Trp}, (∀ t ∈ ts, t.1 < m ∧ t.2.1 < m) → PapIn m (papF told ts)
  | [], _ => ht
  | t :: ts, h => by
    have h1 := pap_in ht (ts := ts) fun u hu => h u (List.mem_cons_of_mem _ hu)
    have h4 := h t List.mem_cons_self
    rw [papF]
    have hr : PapIn m (.rin []) := by intro q hq; cases hq
    split
    · exact ⟨h4.1, h4.2, h1, hr⟩
    · exact ⟨h4.1, h4.2, hr, h1⟩
theorem links_in {r : List Nat} {m : Nat} (h : ∀ k ∈ r, k < m) : ∀ a ∈ linksR r, a.1 < m ∧ a.2 < m := fun a ha => by
  unfold linksR at ha
  obtain ⟨k, hk, rfl⟩ := List.mem_map.mp ha
  have hk := List.mem_range.mp hk
  have g : ∀ i, i < r.length → r.getD i 0 < m := fun i hi => by
    rw [List.getD_eq_getElem?_getD, List.getElem?_eq_getElem hi]; exact h _ (List.getElem_mem hi)
  have h1 := g k (by omega)
  have h2 := g (k + 1) (by omega)
  show min _ _ < m ∧ max _ _ < m
  omega
theorem gap_in {r : List Nat} {m : Nat} (h : ∀ k ∈ r, k < m) (hn : 0 < r.length) : (gapR r).1 < m ∧ (gapR r).2 < m := by
  have g : ∀ i, i < r.length → r.getD i 0 < m := fun i hi => by
    rw [List.getD_eq_getElem?_getD, List.getElem?_eq_getElem hi]; exact h _ (List.getElem_mem hi)
  have h1 := g 0 hn
  have h2 := g (r.length - 1) (by omega)
  show min _ _ < m ∧ max _ _ < m
  omega
def rotT (r : List Nat) (n : Nat) : List Trp := ((linksR r).map fun a => (a.1, a.2, true)).drop n ++ ((linksR r).map fun a => (a.1, a.2, true)).take n
theorem rot_perm (r : List Nat) (n : Nat) : (rotT r n).Perm ((linksR r).map fun a => (a.1, a.2, true)) := by
  unfold rotT
  exact List.perm_append_comm.trans (by rw [List.take_append_drop])
theorem due_rot {r : List Nat} {y : Wts} {least : Int} (hn : r.Nodup) (h3 : 3 ≤ r.length) (hl : least ≤ 0) (n : Nat) :
    judgeP y least (papF r (rotT r n)) (decP [gapR r]) = true ∧ judgeP y least (papF r (rotT r n ++ [((gapR r).1, (gapR r).2, false)])) (decP []) = true := by
  have hr : isRing r = true := by unfold isRing; rw [decide_eq_true h3, decide_eq_true hn]; rfl
  have hk : ((rotT r n).map keyT).Perm (linksR r) := by
    have := (rot_perm r n).map keyT
    rw [List.map_map] at this
    exact this.trans (by rw [show (keyT ∘ fun a : Apt => (a.1, a.2, true)) = id from rfl, List.map_id])
  have hnd : ((rotT r n).map keyT).Nodup := hk.nodup_iff.mpr (links_nod hn)
  have hmem : ∀ t ∈ rotT r n, keyT t ∈ linksR r ∧ t.2.2 = true := fun t ht => by
    obtain ⟨a, ha, rfl⟩ := List.mem_map.mp ((rot_perm r n).mem_iff.mp ht)
    exact ⟨ha, rfl⟩
  have hlt : ∀ t ∈ rotT r n, t.1 < t.2.1 := fun t ht => links_lt hn _ (hmem t ht).1
  have hex : ∀ a ∈ linksR r, ∃ t ∈ rotT r n, keyT t = a := fun a ha => List.mem_map.mp (hk.mem_iff.mpr ha)
  have hg : gapR r ∉ (rotT r n).map keyT := fun z => link_ne hr (hk.mem_iff.mp z) rfl
  constructor
  · refine judge_true hl _ _ hlt hnd (fun t ht z => link_ne hr (hmem t ht).1 (by simpa [decP] using z)) (never_true hn h3 (fun a ha => ?_) ?_)
    · obtain ⟨t, ht, rfl⟩ := hex a ha
      exact ⟨by rw [puts_1]; exact List.mem_append_right _ (List.mem_map.mpr ⟨t, ht, rfl⟩), by rw [puts_in _ _ hnd t ht]; exact (hmem t ht).2⟩
    · exact ⟨by rw [puts_1]; exact List.mem_append_left _ (by simp [decP]), by rw [puts_out _ _ _ hg]; rfl⟩
  · have hnd2 : ((rotT r n ++ [((gapR r).1, (gapR r).2, false)]).map keyT).Nodup := by
      rw [List.map_append]
      refine List.nodup_append.mpr ⟨hnd, by simp, fun b hb c hc z => hg ?_⟩
      rw [show c = gapR r by simpa [keyT] using hc] at z
      rw [← z]; exact hb
    refine judge_true hl _ _ (fun t ht => ?_) hnd2 (fun t ht z => by simp [decP] at z) (never_true hn h3 (fun a ha => ?_) ?_)
    · rcases List.mem_append.mp ht with z | z
      · exact hlt t z
      · rw [show t = ((gapR r).1, (gapR r).2, false) by simpa using z]; exact gap_lt hn h3
    · obtain ⟨t, ht, rfl⟩ := hex a ha
      exact ⟨by rw [puts_1]; exact List.mem_append_right _ (List.mem_map.mpr ⟨t, List.mem_append_left _ ht, rfl⟩), by rw [puts_in _ _ hnd2 t (List.mem_append_left _ ht)]; exact (hmem t ht).2⟩
    · exact ⟨by rw [puts_1]; exact List.mem_append_right _ (List.mem_map.mpr ⟨((gapR r).1, (gapR r).2, false), by simp, rfl⟩), by have := puts_in _ (decP []) hnd2 ((gapR r).1, (gapR r).2, false) (by simp); exact this⟩
theorem depL {α : Type} (enc : α → D) (n : Nat) (h : ∀ a, (enc a).dep ≤ n) (l : List α) : (D.lst (l.map enc)).dep ≤ n + 1 := by
  show D.deps (l.map enc) + 1 ≤ n + 1
  have : D.deps (l.map enc) ≤ n := by
    induction l with
    | nil => exact Nat.zero_le _
    | cons a l ih => exact Nat.max_le.mpr ⟨h a, ih⟩
  omega
theorem ok_law (Z : Tx K mg ad0) : FnOk P w K mg base CX0 21 ad0.f_law ad0.d_law ["_law_script"] (spLaw K) := by
  have G_law_cell_at := ok_law_cell_at (P := P) (w := w) (base := base) Z
  have G_law_ring_drawn := ok_law_ring_drawn (P := P) (w := w) (base := base) Z
  have G_law_pair := ok_law_pair (P := P) (w := w) (base := base) Z
  have G_law_links := ok_law_links (P := P) (w := w) (base := base) Z
  have G_law_told := ok_law_told (P := P) (w := w) (base := base) Z
  have G_law_paper := ok_law_paper (P := P) (w := w) (base := base) Z
  have G_law_decided := ok_law_decided (P := P) (w := w) (base := base) Z
  have G_law_judge := ok_law_judge (P := P) (w := w) (base := base) Z 9
  have G_is_shown := ok_is_shown (P := P) (w := w) (base := base) Z
  refine Z.F_law.ok sc_law (fun vs H Q E h => by obtain ⟨a, ns, rfl, _⟩ := h; rfl) (fun cdv A outer s H vs Q E hr h => ⟨_, (pss_cons (ps_set (i := 1) sc_law.nd rfl (Or.inl rfl) (pe_op op_add pe_int (pe_op op_mod (pe_call G_law_cell_at (hr.mono (by decide)) (by rfl) Z.M_law_cell_at Z.F_law_cell_at.kp Z.B_law_cell_at .nil pass0 (pa_cons (pv 0) (pa_cons pe_int pa_nil))) pe_int)))
      (pss_cons (ps_set (i := 2) sc_law.nd rfl (Or.inl rfl) (pe_call G_law_ring_drawn (hr.mono (by decide)) (by rfl) Z.M_law_ring_drawn Z.F_law_ring_drawn.kp Z.B_law_ring_drawn .nil pass0 (pa_cons (pv 1) (pa_cons (pe_call G_law_cell_at (hr.mono (by decide)) (by rfl) Z.M_law_cell_at Z.F_law_cell_at.kp Z.B_law_cell_at .nil pass0 (pa_cons (pv 0) (pa_cons pe_int pa_nil))) pa_nil))))
      (pss_cons (ps_set (i := 3) sc_law.nd rfl (Or.inr rfl) pe_dnewT)
      (pss_cons (ps_for PassesOwn.never rfl (pi_range1 (by rfl) Z.z_range (pa_cons pe_int pa_nil)) (pg_name (i := 4) sc_law.nd rfl (Or.inl rfl)) (pss_cons (ps_set (i := 5) sc_law.nd rfl (Or.inl rfl) (pe_call G_law_cell_at (hr.mono (by decide)) (by rfl) Z.M_law_cell_at Z.F_law_cell_at.kp Z.B_law_cell_at .nil pass0 (pa_cons (pv 0) (pa_cons (pe_op op_add pe_int (pv 4)) pa_nil))))
      (pss_cons (ps_set (i := 6) sc_law.nd rfl (Or.inl rfl) (pe_call G_law_pair (hr.mono (by decide)) (by rfl) Z.M_law_pair Z.F_law_pair.kp Z.B_law_pair .nil pass0 (pa_cons (pe_op op_mod (pv 5) (pv 1)) (pa_cons (pe_op op_mod (pe_op op_fdiv (pv 5) pe_int) (pv 1)) pa_nil))))
      (pss_one (ps_if (pt_cmpR op_lt (pe_ix (show IxR _ (rIxT K) from ix_tup) (pv 6) pe_int (fun _ _ => rfl)) (pe_ix (show IxR _ (rIxT K) from ix_tup) (pv 6) pe_int (fun _ _ => rfl)) (nomark _)) (pss_one (ps_dput (hu_of hr) (pv 3) (pv 6) (pe_op op_mul (pe_ix (show IxR _ (rIxL K) from ix_list) (pe_lst (pa_cons pe_int (pa_cons (pe_un un_neg pe_int) pa_nil))) (pe_op op_mod (pe_op op_fdiv (pv 5) pe_int) pe_int) (fun _ _ => rfl)) (pe_op op_add pe_int (pe_op op_mod (pe_op op_fdiv (pv 5) pe_int) (pe_op op_pow pe_int pe_int)))) rfl)) pss_nil)))))
      (pss_cons (ps_setLC (i := 7) sc_law.nd rfl (Or.inl rfl) rfl (LcOk.of (Nx := (["_law_script", "_law_many", "_law_ring_here", "_law_weights_here", "_law_k", "_law_cell", "_law_pair_here", "_law_pairs", "_law_first", "_law_start", "_law_gap", "_law_aparts", "_law_told_here", "_law_paper_here", "_law_least", "_law_due", "_law_rows", "_law_found"] : List Str)) (sc := defScope s_law) (N' := (["_law_link"] : List Str)) (nt := 1) (cs := []) rfl rfl (by decide +kernel)) (pi_list (pe_call G_law_links (hr.mono (by decide)) (by rfl) Z.M_law_links Z.F_law_links.kp Z.B_law_links .nil pass0 (pa_cons (pv 2) pa_nil))) (fun _ _ _ _ => (pg_name (i := 0) (show List.Nodup (["_law_link"] : List Str) by decide +kernel) rfl (Or.inl rfl))) (fun _ _ _ _ => pifs_nil) (fun _ _ _ _ => (pe_tup (pa_cons (pe_ix (show IxR _ (rIxT K) from ix_tup) (pv 0) pe_int (fun _ _ => rfl)) (pa_cons (pe_ix (show IxR _ (rIxT K) from ix_tup) (pv 0) pe_int (fun _ _ => rfl)) (pa_cons pe_bl pa_nil))))))
      (pss_cons (ps_set (i := 8) sc_law.nd rfl (Or.inl rfl) (pe_call G_law_cell_at (hr.mono (by decide)) (by rfl) Z.M_law_cell_at Z.F_law_cell_at.kp Z.B_law_cell_at .nil pass0 (pa_cons (pv 0) (pa_cons pe_int pa_nil))))
      (pss_cons (ps_set (i := 9) sc_law.nd rfl (Or.inl rfl) (pe_op op_mod (pv 8) (pe_callB call_len_seq (by rfl) Z.z_len boot_len (pa_cons (pv 7) pa_nil))))
      (pss_cons (ps_set (i := 7) sc_law.nd rfl (Or.inl rfl) (pe_op (show OpR _ _ (rCatD K) from op_catD) (pe_slice sl_list (pv 7) (po_some (pv 9)) po_none) (pe_slice sl_list (pv 7) po_none (po_some (pv 9)))))
      (pss_cons (ps_set (i := 10) sc_law.nd rfl (Or.inl rfl) (pe_call G_law_pair (hr.mono (by decide)) (by rfl) Z.M_law_pair Z.F_law_pair.kp Z.B_law_pair .nil pass0 (pa_cons (pe_ix (show IxR _ (rIxL K) from ix_list) (pv 2) pe_int (fun _ _ => rfl)) (pa_cons (pe_ix (show IxR _ (rIxL K) from ix_list) (pv 2) (pe_un un_neg pe_int) (fun _ _ => rfl)) pa_nil))))
      (pss_cons (ps_set (i := 11) sc_law.nd rfl (Or.inl rfl) (pe_lst pa_nil))
      (pss_cons (ps_if (pt_cmpR op_eq (pe_op op_mod (pe_op op_fdiv (pv 8) pe_int) pe_int) pe_int (nomark _)) (pss_one (ps_set (i := 11) sc_law.nd rfl (Or.inl rfl) (pe_lst (pa_cons (pv 10) pa_nil)))) (pss_one (ps_expr (pe_bm F.plainAttrs_list F.slot_list_append F.type_list_append mt_append (pv 7) (pa_cons (pe_tup (pa_cons (pe_ix (show IxR _ (rIxT K) from ix_tup) (pv 10) pe_int (fun _ _ => rfl)) (pa_cons (pe_ix (show IxR _ (rIxT K) from ix_tup) (pv 10) pe_int (fun _ _ => rfl)) (pa_cons pe_bl pa_nil)))) pa_nil)))))
      (pss_cons (ps_if (pt_cmpR op_eq (pe_op op_mod (pe_op op_fdiv (pv 8) pe_int) pe_int) pe_int (nomark _)) (pss_one (ps_expr (pe_bm F.plainAttrs_list F.slot_list_pop F.type_list_pop mt_popAt (pv 7) (pa_cons (pe_op op_mod (pe_op op_fdiv (pv 8) pe_int) (pe_callB call_len_seq (by rfl) Z.z_len boot_len (pa_cons (pv 7) pa_nil))) pa_nil)))) pss_nil)
      (pss_cons (ps_set (i := 12) sc_law.nd rfl (Or.inl rfl) (pe_call G_law_told (hr.mono (by decide)) (by rfl) Z.M_law_told Z.F_law_told.kp Z.B_law_told .nil pass0 (pa_cons (pv 2) (pa_cons (pe_call G_law_cell_at (hr.mono (by decide)) (by rfl) Z.M_law_cell_at Z.F_law_cell_at.kp Z.B_law_cell_at .nil pass0 (pa_cons (pv 0) (pa_cons pe_int pa_nil))) pa_nil))))
      (pss_cons (ps_set (i := 13) sc_law.nd rfl (Or.inl rfl) (pe_call G_law_paper (hr.mono (by decide)) (by rfl) Z.M_law_paper Z.F_law_paper.kp Z.B_law_paper .nil pass0 (pa_cons (pv 2) (pa_cons (pv 12) (pa_cons (pv 7) pa_nil)))))
      (pss_cons (ps_set (i := 14) sc_law.nd rfl (Or.inl rfl) (pe_ix (show IxR _ (rIxL K) from ix_list) (pe_lst (pa_cons pe_int (pa_cons pe_int (pa_cons pe_int (pa_cons (pe_un un_neg pe_int) pa_nil))))) (pe_op op_mod (pe_call G_law_cell_at (hr.mono (by decide)) (by rfl) Z.M_law_cell_at Z.F_law_cell_at.kp Z.B_law_cell_at .nil pass0 (pa_cons (pv 0) (pa_cons pe_int pa_nil))) pe_int) (fun _ _ => rfl)))
      (pss_cons (ps_frz (ps_set (i := 15) sc_law.nd rfl (Or.inl rfl) (pe_call G_law_judge (hr.mono (by decide)) (by rfl) Z.M_law_judge Z.F_law_judge.kp Z.B_law_judge .nil pass0 (pa_cons (pv 13) (pa_cons (pv 3) (pa_cons (pe_call G_law_decided (hr.mono (by decide)) (by rfl) Z.M_law_decided Z.F_law_decided.kp Z.B_law_decided .nil pass0 (pa_cons (pv 11) pa_nil)) (pa_cons (pv 14) pa_nil)))))))
      (pss_cons (ps_if (PW.pt (pw_and (pt_cmpR (show OpR _ _ (rEqD K) from op_eqD hr.units) (pv 12) (pv 2) (nomark _)) (pw_and (pt_cmpR op_ne (pe_op op_mod (pe_op op_fdiv (pv 8) pe_int) pe_int) pe_int (nomark _)) (pw_and (pt_cmpR op_le (pv 14) pe_int (nomark _)) (pw_and1 (pt_not (pt_val (pv 15)))))))) (pss_one (ps_ret pe_bl)) pss_nil)
      (pss_cons (ps_setLC (i := 16) sc_law.nd rfl (Or.inl rfl) rfl (LcOk.of (Nx := (["_law_script", "_law_many", "_law_ring_here", "_law_weights_here", "_law_k", "_law_cell", "_law_pair_here", "_law_pairs", "_law_first", "_law_start", "_law_gap", "_law_aparts", "_law_told_here", "_law_paper_here", "_law_least", "_law_due", "_law_rows", "_law_found"] : List Str)) (sc := defScope s_law) (N' := (["_law_pair_here", "_law_weights_here"] : List Str)) (nt := 1) (cs := [3]) rfl rfl (by decide +kernel)) (pi_list (pe_callB (show CallR _ _ (rSortT64 K) from call_sortedT64 rfl) (by rfl) Z.z_sorted boot_sorted (pa_cons (pv 3) pa_nil))) (fun _ _ _ _ => (pg_name (i := 0) (show List.Nodup (["_law_pair_here", "_law_weights_here"] : List Str) by decide +kernel) rfl (Or.inl rfl))) (fun _ _ _ _ => pifs_nil) (fun _ _ _ _ => (pe_tup (pa_cons (pe_ix (show IxR _ (rIxT K) from ix_tup) (pv 0) pe_int (fun _ _ => rfl)) (pa_cons (pe_ix (show IxR _ (rIxT K) from ix_tup) (pv 0) pe_int (fun _ _ => rfl)) (pa_cons (pe_dget (hu_of hr) (pv 1) (pv 0) (fun _ _ => rfl)) pa_nil))))))
      (pss_cons (ps_set (i := 17) sc_law.nd rfl (Or.inl rfl) (pe_call G_is_shown (hr.mono (by decide)) (by rfl) Z.M_is_shown Z.F_is_shown.kp Z.B_is_shown .nil pass0 (pa_cons (pv 13) (pa_cons (pv 1) (pa_cons (pv 16) (pa_cons (pv 11) (pa_cons (pv 14) pa_nil)))))))
      (pss_one (ps_ret (pe_and (pe_callB call_isi_bool_bool (by rfl) Z.z_isinstance boot_isinstance (pa_cons (pv 17) (pa_cons (pe_bltn (v := .ty "bool") (by rfl) Z.z_bool boot_bool rfl) pa_nil))) (pe_one (pe_cmpR op_eq (pv 17) (pv 15) (nomark _))))))))))))))))))))))))), ?_⟩)
  obtain ⟨a, ns, rfl, sq, hl, hQ⟩ := h
  have r0 : Reps K H [.lst (ns.map .int)] [.ref a] := Reps.cons (Rep.lst sq (reps_ints ns)) Reps.nil
  have rt : RtD K H H Q (.bl true) := fun v F H' e r => by rw [r.of_bl]; exact hQ H'
  refine (?_ : Go K H H H _ (slots 18 [.lst (ns.map .int)]) _) H H _ (sat_start (Same.refl H) r0 (by simp))
  have m0 := Int.emod_nonneg (cellF ns 0) (show (4 : Int) ≠ 0 by decide)
  have m1 := Int.emod_lt_of_pos (cellF ns 0) (show (0 : Int) < 4 by decide)
  refine go_seq (go_set (ev_add ev_int.b (ev_mod (ev_cell rfl ev_int (by decide)).b ev_int.b (by decide)).b) ?_)
  obtain ⟨m, em⟩ : ∃ m : Nat, 3 + cellF ns 0 % 4 = (m : Int) := ⟨(3 + cellF ns 0 % 4).toNat, by omega⟩
  rw [em]
  have h3 : 3 ≤ m := by omega
  have h6 : m ≤ 6 := by omega
  ((try dsimp only); refine nx_go ?_)
  refine go_seq (go_asgRD (pre := preUn) (R := relUn) (ds := [encN m, .int (cellF ns 1)]) (evaf_cons (ev_var rfl) (evaf_cons (ev_cell rfl ev_int (by decide)) evaf_nil)) ⟨m, _, rfl, h3, h6⟩ fun d hd => ?_)
  obtain ⟨r, rfl, hrm, hr6, hr3, hrn⟩ := hd m _ rfl
  have hrne : r ≠ [] := fun z => by subst z; simp at hr3
  refine ⟨_, tg_name, ?_⟩
  ((try dsimp only); refine nx_go ?_)
  refine go_seq (go_setMT fun p3 => ?_)
  ((try dsimp only); refine nx_go ?_)
  refine go_seq (go_range (n := 10) (fun k ss => ∃ (us : List Apt) (g : Apt → Int) (v4 v5 v6 : Sl), us.Nodup ∧ us.length ≤ k ∧ ss = [.d (.lst (ns.map .int)), .d (encN m), .d (.lst (r.map encN)), dslT K p3 (dAp .int us g), v4, v5, v6, .un, .un, .un, .un, .un, .un, .un, .un, .un, .un, .un]) (eva_cons ev_int.b eva_nil) (by decide) ⟨[], fun _ => 0, .un, .un, .un, List.nodup_nil, by simp, rfl⟩ ?_ ?_ fun σ H R h => h)
  · rintro k ss hk ⟨us, g, v4, v5, v6, hnd, hul, rfl⟩ N hN
    refine go_seq (go_set (ev_cell (k := 4 + (k : Int)) rfl (ev_add ev_int.b (ev_var rfl).b) (by omega)) ?_)
    ((try dsimp only); refine nx_go ?_)
    generalize cellF ns (4 + (k : Int)) = cc
    have a0 := Int.emod_nonneg cc (show (m : Int) ≠ 0 by omega)
    have b0 := Int.emod_nonneg (cc / 8) (show (m : Int) ≠ 0 by omega)
    obtain ⟨a, ea⟩ : ∃ a : Nat, cc % (m : Int) = (a : Int) := ⟨_, (Int.toNat_of_nonneg a0).symm⟩
    obtain ⟨b, eb⟩ : ∃ b : Nat, cc / 8 % (m : Int) = (b : Int) := ⟨_, (Int.toNat_of_nonneg b0).symm⟩
    refine go_seq (go_set (d := encA (prF a b)) (ev_call (pre := prePair) (res := resPair) (ds := [encN a, encN b]) (evaf_cons (by rw [show encN a = .int (cc % (m : Int)) by rw [ea]; rfl]; exact ev_mod (ev_var rfl).b (ev_var (d := .int (m : Nat)) rfl).b (by omega)) (evaf_cons (by rw [show encN b = .int (cc / 8 % (m : Int)) by rw [eb]; rfl]; exact ev_mod (ev_fdiv (ev_var rfl).b ev_int.b ⟨by decide, by decide⟩).b (ev_var (d := .int (m : Nat)) rfl).b (by omega)) evaf_nil)) ⟨a, b, rfl⟩) ?_)
    ((try dsimp only); refine nx_go ?_)
    have c0 := Int.emod_nonneg (cc / 64) (show (2 : Int) ≠ 0 by decide)
    have c1 := Int.emod_lt_of_pos (cc / 64) (show (0 : Int) < 2 by decide)
    refine go_if (evt_test (ev_lt (ev_ixT (ds := [.int ((prF a b).1 : Nat), .int ((prF a b).2 : Nat)]) (ev_var (d := encA (prF a b)) rfl) ev_int.b rfl).b (ev_ixT (ds := [.int ((prF a b).1 : Nat), .int ((prF a b).2 : Nat)]) (ev_var (d := encA (prF a b)) rfl) ev_int.b rfl).b)) (fun _ => ?_) (fun _ => ?_)
    · have hat : ∃ z : Int, atI (([1, -1] : List Int).map D.int) (cc / 64 % 2) = some (.int z) ∧ -(2 ^ 64) < z ∧ z < 2 ^ 64 := by
        rcases (show cc / 64 % 2 = 0 ∨ cc / 64 % 2 = 1 by omega) with z | z <;> rw [z]
        · exact ⟨1, rfl, by decide, by decide⟩
        · exact ⟨-1, rfl, by decide, by decide⟩
      obtain ⟨z, hz, hz1⟩ := hat
      refine go_dputK (i := 3) (d := .int (z * (1 + cc / 128 % 10 ^ (30 : Int).toNat))) rfl (ev_mul (ev_ixL (ds := ([1, -1] : List Int).map D.int) (EvO.l (evo_lst (evaf_cons ev_int (evaf_cons (ev_neg (i := 1) ev_int.b) evaf_nil)) (small (by simp)))) (ev_mod (ev_fdiv (ev_var rfl).b ev_int.b ⟨by decide, by decide⟩).b ev_int.b (by decide)).b hz).b (ev_add ev_int.b (ev_mod (ev_fdiv (ev_var rfl).b ev_int.b ⟨by decide, by decide⟩).b (ev_pow ev_int.b ev_int.b ⟨by decide, by decide, by decide⟩).b (by decide)).b).b (.inl hz1)) (ev_var (d := encA (prF a b)) rfl) rfl rfl (by rw [sizeLine_eq, lenA]; omega) (hN _ ⟨if prF a b ∈ us then us else us ++ [prF a b], (fun c => if c = prF a b then z * (1 + cc / 128 % 10 ^ (30 : Int).toNat) else g c), .d (.int (k : Int)), .d (.int cc), .d (encA (prF a b)), nod_put hnd _, by have := len_put us (prF a b); omega, ?_⟩)
      rw [show D.tup [.int ((prF a b).1 : Nat), .int ((prF a b).2 : Nat)] = encA (prF a b) from rfl, put_any D.int us g (prF a b)]; rfl
    · exact go_next (hN _ ⟨us, g, .d (.int (k : Int)), .d (.int cc), .d (encA (prF a b)), hnd, by omega, rfl⟩)
  rintro ss ⟨us, g, v4, v5, v6, hnd, hul, rfl⟩
  have hul : us.length ≤ 10 := hul
  ((try dsimp only); refine nx_go ?_)
  have hll := links_len r
  have eT : ((linksR r).map fun a => ((a.1, a.2, true) : Trp)).map encT = (linksR r).map fun a => encT (a.1, a.2, true) := by rw [List.map_map]; rfl
  refine go_seq (go_setO (ds := ((linksR r).map fun a => ((a.1, a.2, true) : Trp)).map encT) (by
    rw [eT]
    exact evo_lcM (linksR r) encA (fun a => encT (a.1, a.2, true)) (EvO.l (evo_linksL (i := 2) rfl (by omega) hrne)) (gk_name (by decide)) (by decide) (by rw [sizeLine_eq]; omega) fun a ha => ⟨_, tg_name, ev_tup (ds := [.int (a.1 : Nat), .int (a.2 : Nat), .bl true]) (evaf_cons (ev_ixT (ds := [.int (a.1 : Nat), .int (a.2 : Nat)]) (ev_var (d := encA a) rfl) ev_int.b rfl) (evaf_cons (ev_ixT (ds := [.int (a.1 : Nat), .int (a.2 : Nat)]) (ev_var (d := encA a) rfl) ev_int.b rfl) (evaf_cons ev_bl evaf_nil))) (small (by simp))⟩) fun p7 => ?_)
  ((try dsimp only); refine nx_go ?_)
  refine go_seq (go_set (ev_cell rfl ev_int (by decide)) ?_)
  ((try dsimp only); refine nx_go ?_)
  generalize cellF ns 2 = fs
  have hTl : ((((linksR r).map fun a => ((a.1, a.2, true) : Trp)).map encT).length : Int) = ((r.length - 1 : Nat) : Int) := by rw [List.length_map, List.length_map, hll]
  have s0 := Int.emod_nonneg fs (show ((((linksR r).map fun a => ((a.1, a.2, true) : Trp)).map encT).length : Int) ≠ 0 by rw [hTl]; omega)
  refine go_seq (go_set (ev_mod (ev_var rfl).b (ev_lenL (evl_own rfl)).b (by rw [hTl]; omega)) ?_)
  obtain ⟨n, hn⟩ : ∃ n : Nat, fs % ((((linksR r).map fun a => ((a.1, a.2, true) : Trp)).map encT).length : Int) = (n : Int) := ⟨_, (Int.toNat_of_nonneg s0).symm⟩
  rw [hn]
  ((try dsimp only); refine nx_go ?_)
  have cr : (rotT r n).map encT = cutD (((linksR r).map fun a => ((a.1, a.2, true) : Trp)).map encT) (some (n : Int)) none ++ cutD (((linksR r).map fun a => ((a.1, a.2, true) : Trp)).map encT) none (some (n : Int)) := by
    unfold rotT
    rw [cutD_from _ (by omega), cutD_to _ (by omega), List.map_append, List.map_drop, List.map_take]; rfl
  have hrl : (rotT r n).length = r.length - 1 := by rw [(rot_perm r n).length_eq, List.length_map, hll]
  refine go_seq (go_setO (ds := (rotT r n).map encT) (by
    rw [cr]
    exact evo_cat (EvO.l (evo_slL (evl_own rfl) (evp_part (ev_var rfl).b) evp_no)) (EvO.l (evo_slL (evl_own rfl) evp_no (evp_part (ev_var rfl).b))) (by rw [← List.length_append, ← cr, List.length_map, hrl, sizeLine_eq]; omega)) fun p7 => ?_)
  ((try dsimp only); refine nx_go ?_)
  refine go_seq (go_set (ev_gapL (i := 2) rfl hrne) ?_)
  ((try dsimp only); refine nx_go ?_)
  refine go_seq (go_setO (ds := []) (evo_lst evaf_nil (small (by simp))) fun p11 => ?_)
  ((try dsimp only); refine nx_go ?_)
  refine go_join (fun ss => ∃ (as : List Apt) (ts : List Trp) (q11 : Addr), ((as = [gapR r] ∧ ts = rotT r n) ∨ (as = [] ∧ ts = rotT r n ++ [((gapR r).1, (gapR r).2, false)])) ∧ ss = [.d (.lst (ns.map .int)), .d (encN m), .d (.lst (r.map encN)), dslT K p3 (dAp .int us g), v4, v5, v6, .o p7 (ts.map encT), .d (.int fs), .d (.int (n : Int)), .d (encA (gapR r)), .o q11 (as.map encA), .un, .un, .un, .un, .un, .un]) (fun N hN => go_if (evt_test (ev_eqI (ev_mod (ev_fdiv (ev_var rfl).b ev_int.b ⟨by decide, by decide⟩).b ev_int.b (by decide)).b ev_int.b)) (fun _ => ?_) (fun _ => ?_)) ?_
  · exact go_setO (ds := [encA (gapR r)]) (evo_lst (evaf_cons (ev_var rfl) evaf_nil) (small (by simp))) fun q11 => hN _ ⟨[gapR r], rotT r n, q11, .inl ⟨rfl, rfl⟩, rfl⟩
  · refine go_append (d := encT ((gapR r).1, (gapR r).2, false)) rfl (ev_tup (ds := [.int ((gapR r).1 : Nat), .int ((gapR r).2 : Nat), .bl false]) (evaf_cons (ev_ixT (ds := [.int ((gapR r).1 : Nat), .int ((gapR r).2 : Nat)]) (ev_var (d := encA (gapR r)) rfl) ev_int.b rfl) (evaf_cons (ev_ixT (ds := [.int ((gapR r).1 : Nat), .int ((gapR r).2 : Nat)]) (ev_var (d := encA (gapR r)) rfl) ev_int.b rfl) (evaf_cons ev_bl evaf_nil))) (small (by simp))) (by rw [sizeLine_eq, List.length_map]; omega) (hN _ ⟨[], rotT r n ++ [((gapR r).1, (gapR r).2, false)], p11, .inr ⟨rfl, rfl⟩, ?_⟩)
    rw [List.map_append]; rfl
  rintro ss ⟨as, ts, q11, hcase, rfl⟩
  have htl : ts.length ≤ 6 ∧ 0 < ts.length := by
    rcases hcase with ⟨_, h⟩ | ⟨_, h⟩ <;> rw [h]
    · omega
    · simp; omega
  have hel : ((ts.map encT).length : Int) = (ts.length : Nat) := by rw [List.length_map]
  have q0 := Int.emod_nonneg (fs / 64) (show ((ts.map encT).length : Int) ≠ 0 by rw [hel]; omega)
  have q1 := Int.emod_lt_of_pos (fs / 64) (show (0 : Int) < ((ts.map encT).length : Int) by rw [hel]; omega)
  obtain ⟨c, hc⟩ : ∃ c : Nat, fs / 64 % ((ts.map encT).length : Int) = (c : Int) := ⟨_, (Int.toNat_of_nonneg q0).symm⟩
  refine go_join (fun ss => ∃ (tz : List Trp), ((¬ fs / 16 % 4 = 1 ∧ tz = ts) ∨ (fs / 16 % 4 = 1 ∧ ∀ t ∈ tz, t ∈ ts)) ∧ tz.length ≤ 6 ∧ ss = [.d (.lst (ns.map .int)), .d (encN m), .d (.lst (r.map encN)), dslT K p3 (dAp .int us g), v4, v5, v6, .o p7 (tz.map encT), .d (.int fs), .d (.int (n : Int)), .d (encA (gapR r)), .o q11 (as.map encA), .un, .un, .un, .un, .un, .un]) (fun N hN => go_if (evt_test (ev_eqI (ev_mod (ev_fdiv (ev_var rfl).b ev_int.b ⟨by decide, by decide⟩).b ev_int.b (by decide)).b ev_int.b)) (fun hb => ?_) (fun hb => ?_)) ?_
  · refine go_popAt (i := 7) (c := c) rfl (by rw [← hc]; exact (ev_mod (ev_fdiv (ev_var rfl).b ev_int.b ⟨by decide, by decide⟩).b (ev_lenL (evl_own rfl)).b (by rw [hel]; omega)).b) (by rw [hc] at q1; omega) (by rw [List.length_map]; omega) (hN _ ⟨ts.eraseIdx c, .inr ⟨of_decide_eq_true hb, fun t ht => List.mem_of_mem_eraseIdx ht⟩, Nat.le_trans (List.length_eraseIdx_le ..) htl.1, ?_⟩)
    rw [erase_map]; rfl
  · exact go_next (hN _ ⟨ts, .inl ⟨of_decide_eq_false hb, rfl⟩, htl.1, rfl⟩)
  rintro ss ⟨tz, htz, hzl, rfl⟩
  have htin : ∀ t ∈ tz, t.1 < m ∧ t.2.1 < m := fun t ht => by
    have hts : t ∈ ts := by
      rcases htz with ⟨_, z⟩ | ⟨_, z⟩
      · rw [← z]; exact ht
      · exact z t ht
    have hro : ∀ u ∈ rotT r n, u.1 < m ∧ u.2.1 < m := fun u hu => by
      obtain ⟨a, ha, rfl⟩ := List.mem_map.mp ((rot_perm r n).mem_iff.mp hu)
      exact links_in hrm a ha
    rcases hcase with ⟨_, z⟩ | ⟨_, z⟩ <;> rw [z] at hts
    · exact hro t hts
    · rcases List.mem_append.mp hts with z | z
      · exact hro t z
      · rw [show t = ((gapR r).1, (gapR r).2, false) by simpa using z]; exact gap_in hrm (by omega)
  refine nx_freeze (i := 7) rfl (nx_freeze (i := 11) rfl ?_)
  ((try dsimp only); refine nx_go ?_)
  refine go_seq (go_asgRD (pre := preTo) (R := relTo) (ds := [.lst (r.map encN), .int (cellF ns 3)]) (evaf_cons (ev_var rfl) (evaf_cons (ev_cell rfl ev_int (by decide)) evaf_nil)) ⟨r, _, rfl, hr3, hr6⟩ fun d hd => ?_)
  obtain ⟨told, rfl, htm, htl⟩ := hd r _ rfl
  refine ⟨_, tg_name, ?_⟩
  ((try dsimp only); refine nx_go ?_)
  refine go_seq (go_set (d := encPap (papF told tz)) (ev_callG (pre := prePp) (res := fun q => encPap (papF q.2.1 q.2.2)) (r, told, tz) (evaf_cons (ev_var rfl) (evaf_cons (ev_var rfl) (evaf_cons (ev_var rfl) evaf_nil))) ⟨rfl, by show tz.length ≤ 100; omega⟩) ?_)
  ((try dsimp only); refine nx_go ?_)
  have e0 := Int.emod_nonneg (cellF ns 14) (show (4 : Int) ≠ 0 by decide)
  have e1 := Int.emod_lt_of_pos (cellF ns 14) (show (0 : Int) < 4 by decide)
  obtain ⟨least, hle⟩ : ∃ z : Int, atI (([0, 0, 1, -1] : List Int).map D.int) (cellF ns 14 % 4) = some (.int z) := by
    rcases (show cellF ns 14 % 4 = 0 ∨ cellF ns 14 % 4 = 1 ∨ cellF ns 14 % 4 = 2 ∨ cellF ns 14 % 4 = 3 by omega) with z | z | z | z <;> rw [z]
    · exact ⟨0, rfl⟩
    · exact ⟨0, rfl⟩
    · exact ⟨1, rfl⟩
    · exact ⟨-1, rfl⟩
  refine go_seq (go_set (d := .int least) (ev_ixL (ds := ([0, 0, 1, -1] : List Int).map D.int) (EvO.l (evo_lst (evaf_cons ev_int (evaf_cons ev_int (evaf_cons ev_int (evaf_cons (ev_neg (i := 1) ev_int.b) evaf_nil)))) (small (by simp)))) (ev_mod (ev_cell rfl ev_int (by decide)).b ev_int.b (by decide)).b hle) ?_)
  ((try dsimp only); refine nx_go ?_)
  have hpk := pap_ok (told := told) (by omega) (ts := tz) fun t ht => ⟨by have := (htin t ht).1; omega, by have := (htin t ht).2; omega⟩
  have hpi := pap_in (told := told) (m := m) (fun k hk => hrm k (htm k hk)) htin
  have hasn : as.Nodup ∧ as.length ≤ 1 ∧ ∀ a ∈ as, a.1 < 8 ∧ a.2 < 8 := by
    rcases hcase with ⟨z, _⟩ | ⟨z, _⟩ <;> rw [z]
    · refine ⟨by simp, by simp, fun a ha => ?_⟩
      rw [show a = gapR r by simpa using ha]
      have := gap_in hrm (by omega)
      exact ⟨by omega, by omega⟩
    · exact ⟨List.nodup_nil, by simp, fun a ha => by cases ha⟩
  have hfit : Fits (papF told tz, decP as) := ⟨hpk.1, ⟨hasn.1, by have := hasn.2.1; show as.length ≤ 1000; omega, hasn.2.2⟩, by have := hasn.2.1; have := hpk.2.1; show as.length + (papF told tz).sz ≤ 1000; omega⟩
  refine go_seq (go_frz (i := 3) rfl (go_set (d := .bl (judgeP (us, g) least (papF told tz) (decP as))) (ev_callG (pre := preJd 9) (res := resJd) (papF told tz, (us, g), decP as, least) (evaf_cons (ev_var rfl) (evaf_cons (ev_var rfl) (evaf_cons (ev_callG (pre := preFd) (res := fun as => decB (decP as)) as (evaf_cons (ev_var rfl) evaf_nil) ⟨rfl, hasn.1, by have := hasn.2.1; omega⟩) (evaf_cons (ev_var rfl) evaf_nil)))) ⟨rfl, hfit, by have := hpk.2.2; show (papF told tz).dp < 9; omega⟩) ?_))
  ((try dsimp only); refine nx_go ?_)
  have nbN : ∀ l : List Nat, (D.lst (l.map encN)).nb = true := fun l => D.nbs_map (fun _ => rfl) l
  refine go_seq (go_if (b := decide (D.lst (told.map encN) = .lst (r.map encN)) && (!decide (fs / 16 % 4 = 1) && (decide (least ≤ 0) && !(judgeP (us, g) least (papF told tz) (decP as))))) (evt_and (evt_test (ev_eqD (ev_var rfl).b (ev_var rfl).b (nbN _) (nbN _) (Nat.le_trans (depL encN 0 (fun _ => Nat.le_refl _) told) (by decide)))) fun _ => evt_and (evt_test (ev_neI (ev_mod (ev_fdiv (ev_var rfl).b ev_int.b ⟨by decide, by decide⟩).b ev_int.b (by decide)).b ev_int.b)) fun _ => evt_and (evt_test (ev_le (ev_var rfl).b ev_int.b)) fun _ => evt_not (evt_b (ev_var rfl))) (fun hb => ?_) (fun _ => ?_))
  · exfalso
    rw [Bool.and_eq_true, Bool.and_eq_true, Bool.and_eq_true, Bool.not_eq_true', Bool.not_eq_true', decide_eq_true_eq, decide_eq_true_eq, decide_eq_false_iff_not] at hb
    obtain ⟨b1, b2, b3, b4⟩ := hb
    injection b1 with b1
    have : told = r := by rw [← unN_map told, b1, unN_map]
    subst this
    have hzt : tz = ts := by
      rcases htz with ⟨_, z⟩ | ⟨z, _⟩
      · exact z
      · exact absurd z b2
    have hd := due_rot (y := (us, g)) hrn hr3 b3 n
    rcases hcase with ⟨z1, z2⟩ | ⟨z1, z2⟩ <;> rw [hzt, z1, z2] at b4
    · rw [hd.1] at b4; cases b4
    · rw [hd.2] at b4; cases b4
  refine go_next ?_
  ((try dsimp only); refine nx_go ?_)
  have hsl : (sortA us).length = us.length := (sortA_perm us).length_eq
  have eS : ((sortA us).map fun a => ((a.1, a.2, g a) : Pr)).map encP = (sortA us).map fun a => encP (a.1, a.2, g a) := by rw [List.map_map]; rfl
  refine go_seq (go_setO (ds := ((sortA us).map fun a => ((a.1, a.2, g a) : Pr)).map encP) (by
    rw [eS]
    exact evo_lcM (sortA us) encA (fun a => encP (a.1, a.2, g a)) (EvO.l (by
      rw [sortA_enc, ← keysD .int us g]
      exact evo_sortedTf (kvs := dAp .int us g) (ev_var rfl) (by rw [keysD]; exact intA us) (by rw [keysD]; exact alikeA us) (by rw [keysD, List.length_map]; omega))) (gk_name (by decide)) (by decide) (by rw [sizeLine_eq]; omega) fun a ha => ⟨_, tg_name, ev_tup (ds := [.int (a.1 : Nat), .int (a.2 : Nat), .int (g a)]) (evaf_cons (ev_ixT (ds := [.int (a.1 : Nat), .int (a.2 : Nat)]) (ev_var (d := encA a) rfl) ev_int.b rfl) (evaf_cons (ev_ixT (ds := [.int (a.1 : Nat), .int (a.2 : Nat)]) (ev_var (d := encA a) rfl) ev_int.b rfl) (evaf_cons (ev_dgetFT (kvs := dAp .int us g) (ds := [.int (a.1 : Nat), .int (a.2 : Nat)]) (ev_var rfl) (ev_var (d := encA a) rfl) rfl rfl (by
        have := valA D.int us g a
        rw [if_pos ((sortA_perm us).mem_iff.mp ha)] at this
        exact this)) evaf_nil))) (small (by simp))⟩) fun p16 => ?_)
  refine nx_freeze (i := 16) rfl ?_
  ((try dsimp only); refine nx_go ?_)
  have hkp : ((sortA us).map fun a => ((a.1, a.2, g a) : Pr)).map keyP = sortA us := by
    rw [List.map_map]
    exact List.map_id _
  have hwt := wts_sorted (us := us) (g := g) (ps := (sortA us).map fun a => ((a.1, a.2, g a) : Pr)) hnd hkp fun p hp => by
    obtain ⟨a, _, rfl⟩ := List.mem_map.mp hp
    rfl
  generalize ((sortA us).map fun a => ((a.1, a.2, g a) : Pr)) = ps at hkp hwt
  have hpn : (ps.map keyP).Nodup := by rw [hkp]; exact (sortA_perm us).nodup_iff.mpr hnd
  have hpl : ps.length ≤ 1000 := by
    have : (ps.map keyP).length = us.length := by rw [hkp]; exact hsl
    rw [List.length_map] at this; omega
  refine go_seq (go_set (d := .bl (showP m (wtsP ps) least (papF told tz) (decP as))) (ev_callG (pre := preSh) (res := resSh) (papF told tz, m, ps, as, least) (evaf_cons (ev_var rfl) (evaf_cons (ev_var rfl) (evaf_cons (ev_var rfl) (evaf_cons (ev_var rfl) (evaf_cons (ev_var rfl) evaf_nil))))) ⟨rfl, hfit, hpn, hpl⟩) ?_)
  ((try dsimp only); refine nx_go ?_)
  rw [show_judge _ _ hpi, judge_w (y := wtsP ps) (y' := (us, g)) hwt]
  refine go_ret (d := .bl (true && decide (judgeP (us, g) least (papF told tz) (decP as) = judgeP (us, g) least (papF told tz) (decP as)))) (ev_and (ev_isB (ev_var rfl).b) fun _ => ev_eqB (ev_var rfl).b (ev_var rfl).b) ?_
  rw [decide_eq_true rfl]
  exact rt
end
theorem lcase1 {α : Type} {P : List α → Prop} {us : List α} (hl : us.length = 1) (h : ∀ a0, P [a0]) : P us := match us, hl with
  | [a0], _ => h a0
theorem lcase2 {α : Type} {P : List α → Prop} {us : List α} (hl : us.length = 2) (h : ∀ a0 a1, P [a0, a1]) : P us := match us, hl with
  | [a0, a1], _ => h a0 a1
theorem lcase3 {α : Type} {P : List α → Prop} {us : List α} (hl : us.length = 3) (h : ∀ a0 a1 a2, P [a0, a1, a2]) : P us := match us, hl with
  | [a0, a1, a2], _ => h a0 a1 a2
theorem lcase4 {α : Type} {P : List α → Prop} {us : List α} (hl : us.length = 4) (h : ∀ a0 a1 a2 a3, P [a0, a1, a2, a3]) : P us := match us, hl with
  | [a0, a1, a2, a3], _ => h a0 a1 a2 a3
theorem lcase5 {α : Type} {P : List α → Prop} {us : List α} (hl : us.length = 5) (h : ∀ a0 a1 a2 a3 a4, P [a0, a1, a2, a3, a4]) : P us := match us, hl with
  | [a0, a1, a2, a3, a4], _ => h a0 a1 a2 a3 a4
theorem bd_is_whole (kV doc pm : Value) (an : Option Addr) (cdv ct : Value) (us : List Value) (hl : us.length = (["value"] : List Str).length) : bindArgs (PySem.W.fnOf "is_whole" "is_whole" (defArgs s_is_whole) (defBody s_is_whole) (defScope s_is_whole) .none kV doc pm an cdv ct) ⟨us, []⟩ = pure ((["value"] : List Str).zip us) :=
  lcase1 (P := fun us => bindArgs _ ⟨us, []⟩ = pure (List.zip _ us)) hl fun _ => rfl
theorem bd_is_block (kV doc pm : Value) (an : Option Addr) (cdv ct : Value) (us : List Value) (hl : us.length = (["value", "many"] : List Str).length) : bindArgs (PySem.W.fnOf "is_block" "is_block" (defArgs s_is_block) (defBody s_is_block) (defScope s_is_block) .none kV doc pm an cdv ct) ⟨us, []⟩ = pure ((["value", "many"] : List Str).zip us) :=
  lcase2 (P := fun us => bindArgs _ ⟨us, []⟩ = pure (List.zip _ us)) hl fun _ _ => rfl
theorem bd_pair_of (kV doc pm : Value) (an : Option Addr) (cdv ct : Value) (us : List Value) (hl : us.length = (["one", "other"] : List Str).length) : bindArgs (PySem.W.fnOf "pair_of" "pair_of" (defArgs s_pair_of) (defBody s_pair_of) (defScope s_pair_of) .none kV doc pm an cdv ct) ⟨us, []⟩ = pure ((["one", "other"] : List Str).zip us) :=
  lcase2 (P := fun us => bindArgs _ ⟨us, []⟩ = pure (List.zip _ us)) hl fun _ _ => rfl
theorem bd_is_ring (kV doc pm : Value) (an : Option Addr) (cdv ct : Value) (us : List Value) (hl : us.length = (["ring", "many"] : List Str).length) : bindArgs (PySem.W.fnOf "is_ring" "is_ring" (defArgs s_is_ring) (defBody s_is_ring) (defScope s_is_ring) .none kV doc pm an cdv ct) ⟨us, []⟩ = pure ((["ring", "many"] : List Str).zip us) :=
  lcase2 (P := fun us => bindArgs _ ⟨us, []⟩ = pure (List.zip _ us)) hl fun _ _ => rfl
theorem bd_links_of (kV doc pm : Value) (an : Option Addr) (cdv ct : Value) (us : List Value) (hl : us.length = (["ring"] : List Str).length) : bindArgs (PySem.W.fnOf "links_of" "links_of" (defArgs s_links_of) (defBody s_links_of) (defScope s_links_of) .none kV doc pm an cdv ct) ⟨us, []⟩ = pure ((["ring"] : List Str).zip us) :=
  lcase1 (P := fun us => bindArgs _ ⟨us, []⟩ = pure (List.zip _ us)) hl fun _ => rfl
theorem bd_gap_of (kV doc pm : Value) (an : Option Addr) (cdv ct : Value) (us : List Value) (hl : us.length = (["ring"] : List Str).length) : bindArgs (PySem.W.fnOf "gap_of" "gap_of" (defArgs s_gap_of) (defBody s_gap_of) (defScope s_gap_of) .none kV doc pm an cdv ct) ⟨us, []⟩ = pure ((["ring"] : List Str).zip us) :=
  lcase1 (P := fun us => bindArgs _ ⟨us, []⟩ = pure (List.zip _ us)) hl fun _ => rfl
theorem bd_open_pairs (kV doc pm : Value) (an : Option Addr) (cdv ct : Value) (us : List Value) (hl : us.length = (["ring", "decided"] : List Str).length) : bindArgs (PySem.W.fnOf "open_pairs" "open_pairs" (defArgs s_open_pairs) (defBody s_open_pairs) (defScope s_open_pairs) .none kV doc pm an cdv ct) ⟨us, []⟩ = pure ((["ring", "decided"] : List Str).zip us) :=
  lcase2 (P := fun us => bindArgs _ ⟨us, []⟩ = pure (List.zip _ us)) hl fun _ _ => rfl
theorem bd_is_losing (kV doc pm : Value) (an : Option Addr) (cdv ct : Value) (us : List Value) (hl : us.length = (["ring", "many", "weights", "decided"] : List Str).length) : bindArgs (PySem.W.fnOf "is_losing" "is_losing" (defArgs s_is_losing) (defBody s_is_losing) (defScope s_is_losing) .none kV doc pm an cdv ct) ⟨us, []⟩ = pure ((["ring", "many", "weights", "decided"] : List Str).zip us) :=
  lcase4 (P := fun us => bindArgs _ ⟨us, []⟩ = pure (List.zip _ us)) hl fun _ _ _ _ => rfl
theorem bd_decided_loss (kV doc pm : Value) (an : Option Addr) (cdv ct : Value) (us : List Value) (hl : us.length = (["weights", "decided"] : List Str).length) : bindArgs (PySem.W.fnOf "decided_loss" "decided_loss" (defArgs s_decided_loss) (defBody s_decided_loss) (defScope s_decided_loss) .none kV doc pm an cdv ct) ⟨us, []⟩ = pure ((["weights", "decided"] : List Str).zip us) :=
  lcase2 (P := fun us => bindArgs _ ⟨us, []⟩ = pure (List.zip _ us)) hl fun _ _ => rfl
theorem bd_rings_show (kV doc pm : Value) (an : Option Addr) (cdv ct : Value) (us : List Value) (hl : us.length = (["rings", "many", "weights", "decided", "least"] : List Str).length) : bindArgs (PySem.W.fnOf "rings_show" "rings_show" (defArgs s_rings_show) (defBody s_rings_show) (defScope s_rings_show) .none kV doc pm an cdv ct) ⟨us, []⟩ = pure ((["rings", "many", "weights", "decided", "least"] : List Str).zip us) :=
  lcase5 (P := fun us => bindArgs _ ⟨us, []⟩ = pure (List.zip _ us)) hl fun _ _ _ _ _ => rfl
theorem bd_first_decided (kV doc pm : Value) (an : Option Addr) (cdv ct : Value) (us : List Value) (hl : us.length = (["aparts"] : List Str).length) : bindArgs (PySem.W.fnOf "first_decided" "first_decided" (defArgs s_first_decided) (defBody s_first_decided) (defScope s_first_decided) .none kV doc pm an cdv ct) ⟨us, []⟩ = pure ((["aparts"] : List Str).zip us) :=
  lcase1 (P := fun us => bindArgs _ ⟨us, []⟩ = pure (List.zip _ us)) hl fun _ => rfl
theorem bd_first_weights (kV doc pm : Value) (an : Option Addr) (cdv ct : Value) (us : List Value) (hl : us.length = (["pairs"] : List Str).length) : bindArgs (PySem.W.fnOf "first_weights" "first_weights" (defArgs s_first_weights) (defBody s_first_weights) (defScope s_first_weights) .none kV doc pm an cdv ct) ⟨us, []⟩ = pure ((["pairs"] : List Str).zip us) :=
  lcase1 (P := fun us => bindArgs _ ⟨us, []⟩ = pure (List.zip _ us)) hl fun _ => rfl
theorem bd_is_never (kV doc pm : Value) (an : Option Addr) (cdv ct : Value) (us : List Value) (hl : us.length = (["ring", "many", "decided"] : List Str).length) : bindArgs (PySem.W.fnOf "is_never" "is_never" (defArgs s_is_never) (defBody s_is_never) (defScope s_is_never) .none kV doc pm an cdv ct) ⟨us, []⟩ = pure ((["ring", "many", "decided"] : List Str).zip us) :=
  lcase3 (P := fun us => bindArgs _ ⟨us, []⟩ = pure (List.zip _ us)) hl fun _ _ _ => rfl
theorem bd_may_decide (kV doc pm : Value) (an : Option Addr) (cdv ct : Value) (us : List Value) (hl : us.length = (["paper", "many", "decided"] : List Str).length) : bindArgs (PySem.W.fnOf "may_decide" "may_decide" (defArgs s_may_decide) (defBody s_may_decide) (defScope s_may_decide) .none kV doc pm an cdv ct) ⟨us, []⟩ = pure ((["paper", "many", "decided"] : List Str).zip us) :=
  lcase3 (P := fun us => bindArgs _ ⟨us, []⟩ = pure (List.zip _ us)) hl fun _ _ _ => rfl
theorem bd_with_choice (kV doc pm : Value) (an : Option Addr) (cdv ct : Value) (us : List Value) (hl : us.length = (["decided", "pair", "choice"] : List Str).length) : bindArgs (PySem.W.fnOf "with_choice" "with_choice" (defArgs s_with_choice) (defBody s_with_choice) (defScope s_with_choice) .none kV doc pm an cdv ct) ⟨us, []⟩ = pure ((["decided", "pair", "choice"] : List Str).zip us) :=
  lcase3 (P := fun us => bindArgs _ ⟨us, []⟩ = pure (List.zip _ us)) hl fun _ _ _ => rfl
theorem bd_is_shown (kV doc pm : Value) (an : Option Addr) (cdv ct : Value) (us : List Value) (hl : us.length = (["paper", "many", "pairs", "aparts", "least"] : List Str).length) : bindArgs (PySem.W.fnOf "is_shown" "is_shown" (defArgs s_is_shown) (defBody s_is_shown) (defScope s_is_shown) .none kV doc pm an cdv ct) ⟨us, []⟩ = pure ((["paper", "many", "pairs", "aparts", "least"] : List Str).zip us) :=
  lcase5 (P := fun us => bindArgs _ ⟨us, []⟩ = pure (List.zip _ us)) hl fun _ _ _ _ _ => rfl
theorem bd_law_cell_at (kV doc pm : Value) (an : Option Addr) (cdv ct : Value) (us : List Value) (hl : us.length = (["_law_script", "_law_k"] : List Str).length) : bindArgs (PySem.W.fnOf "_law_cell_at" "_law_cell_at" (defArgs s_law_cell_at) (defBody s_law_cell_at) (defScope s_law_cell_at) .none kV doc pm an cdv ct) ⟨us, []⟩ = pure ((["_law_script", "_law_k"] : List Str).zip us) :=
  lcase2 (P := fun us => bindArgs _ ⟨us, []⟩ = pure (List.zip _ us)) hl fun _ _ => rfl
theorem bd_law_pair (kV doc pm : Value) (an : Option Addr) (cdv ct : Value) (us : List Value) (hl : us.length = (["_law_one", "_law_other"] : List Str).length) : bindArgs (PySem.W.fnOf "_law_pair" "_law_pair" (defArgs s_law_pair) (defBody s_law_pair) (defScope s_law_pair) .none kV doc pm an cdv ct) ⟨us, []⟩ = pure ((["_law_one", "_law_other"] : List Str).zip us) :=
  lcase2 (P := fun us => bindArgs _ ⟨us, []⟩ = pure (List.zip _ us)) hl fun _ _ => rfl
theorem bd_law_links (kV doc pm : Value) (an : Option Addr) (cdv ct : Value) (us : List Value) (hl : us.length = (["_law_ring_here"] : List Str).length) : bindArgs (PySem.W.fnOf "_law_links" "_law_links" (defArgs s_law_links) (defBody s_law_links) (defScope s_law_links) .none kV doc pm an cdv ct) ⟨us, []⟩ = pure ((["_law_ring_here"] : List Str).zip us) :=
  lcase1 (P := fun us => bindArgs _ ⟨us, []⟩ = pure (List.zip _ us)) hl fun _ => rfl
theorem bd_law_ring (kV doc pm : Value) (an : Option Addr) (cdv ct : Value) (us : List Value) (hl : us.length = (["_law_ring_here", "_law_weights_here", "_law_decided_here", "_law_never"] : List Str).length) : bindArgs (PySem.W.fnOf "_law_ring" "_law_ring" (defArgs s_law_ring) (defBody s_law_ring) (defScope s_law_ring) .none kV doc pm an cdv ct) ⟨us, []⟩ = pure ((["_law_ring_here", "_law_weights_here", "_law_decided_here", "_law_never"] : List Str).zip us) :=
  lcase4 (P := fun us => bindArgs _ ⟨us, []⟩ = pure (List.zip _ us)) hl fun _ _ _ _ => rfl
theorem bd_law_leaf (kV doc pm : Value) (an : Option Addr) (cdv ct : Value) (us : List Value) (hl : us.length = (["_law_rows", "_law_weights_here", "_law_decided_here", "_law_least"] : List Str).length) : bindArgs (PySem.W.fnOf "_law_leaf" "_law_leaf" (defArgs s_law_leaf) (defBody s_law_leaf) (defScope s_law_leaf) .none kV doc pm an cdv ct) ⟨us, []⟩ = pure ((["_law_rows", "_law_weights_here", "_law_decided_here", "_law_least"] : List Str).zip us) :=
  lcase4 (P := fun us => bindArgs _ ⟨us, []⟩ = pure (List.zip _ us)) hl fun _ _ _ _ => rfl
theorem bd_law_judge (kV doc pm : Value) (an : Option Addr) (cdv ct : Value) (us : List Value) (hl : us.length = (["_law_paper_here", "_law_weights_here", "_law_decided_here", "_law_least"] : List Str).length) : bindArgs (PySem.W.fnOf "_law_judge" "_law_judge" (defArgs s_law_judge) (defBody s_law_judge) (defScope s_law_judge) .none kV doc pm an cdv ct) ⟨us, []⟩ = pure ((["_law_paper_here", "_law_weights_here", "_law_decided_here", "_law_least"] : List Str).zip us) :=
  lcase4 (P := fun us => bindArgs _ ⟨us, []⟩ = pure (List.zip _ us)) hl fun _ _ _ _ => rfl
theorem bd_law_decided (kV doc pm : Value) (an : Option Addr) (cdv ct : Value) (us : List Value) (hl : us.length = (["_law_aparts"] : List Str).length) : bindArgs (PySem.W.fnOf "_law_decided" "_law_decided" (defArgs s_law_decided) (defBody s_law_decided) (defScope s_law_decided) .none kV doc pm an cdv ct) ⟨us, []⟩ = pure ((["_law_aparts"] : List Str).zip us) :=
  lcase1 (P := fun us => bindArgs _ ⟨us, []⟩ = pure (List.zip _ us)) hl fun _ => rfl
theorem bd_law_ring_drawn (kV doc pm : Value) (an : Option Addr) (cdv ct : Value) (us : List Value) (hl : us.length = (["_law_many", "_law_cell"] : List Str).length) : bindArgs (PySem.W.fnOf "_law_ring_drawn" "_law_ring_drawn" (defArgs s_law_ring_drawn) (defBody s_law_ring_drawn) (defScope s_law_ring_drawn) .none kV doc pm an cdv ct) ⟨us, []⟩ = pure ((["_law_many", "_law_cell"] : List Str).zip us) :=
  lcase2 (P := fun us => bindArgs _ ⟨us, []⟩ = pure (List.zip _ us)) hl fun _ _ => rfl
theorem bd_law_told (kV doc pm : Value) (an : Option Addr) (cdv ct : Value) (us : List Value) (hl : us.length = (["_law_ring_here", "_law_cell"] : List Str).length) : bindArgs (PySem.W.fnOf "_law_told" "_law_told" (defArgs s_law_told) (defBody s_law_told) (defScope s_law_told) .none kV doc pm an cdv ct) ⟨us, []⟩ = pure ((["_law_ring_here", "_law_cell"] : List Str).zip us) :=
  lcase2 (P := fun us => bindArgs _ ⟨us, []⟩ = pure (List.zip _ us)) hl fun _ _ => rfl
theorem bd_law_paper (kV doc pm : Value) (an : Option Addr) (cdv ct : Value) (us : List Value) (hl : us.length = (["_law_ring_here", "_law_told_here", "_law_pairs"] : List Str).length) : bindArgs (PySem.W.fnOf "_law_paper" "_law_paper" (defArgs s_law_paper) (defBody s_law_paper) (defScope s_law_paper) .none kV doc pm an cdv ct) ⟨us, []⟩ = pure ((["_law_ring_here", "_law_told_here", "_law_pairs"] : List Str).zip us) :=
  lcase3 (P := fun us => bindArgs _ ⟨us, []⟩ = pure (List.zip _ us)) hl fun _ _ _ => rfl
theorem bd_law (kV doc pm : Value) (an : Option Addr) (cdv ct : Value) (us : List Value) (hl : us.length = (["_law_script"] : List Str).length) : bindArgs (PySem.W.fnOf "law" "law" (defArgs s_law) (defBody s_law) (defScope s_law) .none kV doc pm an cdv ct) ⟨us, []⟩ = pure ((["_law_script"] : List Str).zip us) :=
  lcase1 (P := fun us => bindArgs _ ⟨us, []⟩ = pure (List.zip _ us)) hl fun _ => rfl
theorem all_mk {l : PySem.W.OpenLaw} {w : World} {K : PySem.W.Frag} {h : Heap} {mg : Str → Option Value} {fa g0 g1 g2 g3 g4 g5 g6 g7 g8 g9 g10 g11 g12 g13 g14 g15 g16 g17 g18 g19 g20 g21 g22 g23 g24 g25 g26 : Addr} (X : K.In h) (G : h.Ns mainGlobals mg) (hfa : mg "law" = some (.ref fa))
    {od0 an0 od1 an1 od2 an2 od3 an3 od4 an4 od5 an5 od6 an6 od7 an7 od8 an8 od9 an9 od10 an10 od11 an11 od12 an12 od13 an13 od14 an14 od15 an15 od16 an16 od17 an17 od18 an18 od19 an19 od20 an20 od21 an21 od22 an22 od23 an23 od24 an24 od25 an25 od26 an26 : Option Addr} {sl0 sl1 sl2 sl3 sl4 sl5 sl6 sl7 sl8 sl9 sl10 sl11 sl12 sl13 sl14 sl15 sl16 sl17 sl18 sl19 sl20 sl21 sl22 sl23 sl24 sl25 sl26 : Array (Option Value)} {oc0 kV0 dc0 pm0 cd0 ct0 oc1 kV1 dc1 pm1 cd1 ct1 oc2 kV2 dc2 pm2 cd2 ct2 oc3 kV3 dc3 pm3 cd3 ct3 oc4 kV4 dc4 pm4 cd4 ct4 oc5 kV5 dc5 pm5 cd5 ct5 oc6 kV6 dc6 pm6 cd6 ct6 oc7 kV7 dc7 pm7 cd7 ct7 oc8 kV8 dc8 pm8 cd8 ct8 oc9 kV9 dc9 pm9 cd9 ct9 oc10 kV10 dc10 pm10 cd10 ct10 oc11 kV11 dc11 pm11 cd11 ct11 oc12 kV12 dc12 pm12 cd12 ct12 oc13 kV13 dc13 pm13 cd13 ct13 oc14 kV14 dc14 pm14 cd14 ct14 oc15 kV15 dc15 pm15 cd15 ct15 oc16 kV16 dc16 pm16 cd16 ct16 oc17 kV17 dc17 pm17 cd17 ct17 oc18 kV18 dc18 pm18 cd18 ct18 oc19 kV19 dc19 pm19 cd19 ct19 oc20 kV20 dc20 pm20 cd20 ct20 oc21 kV21 dc21 pm21 cd21 ct21 oc22 kV22 dc22 pm22 cd22 ct22 oc23 kV23 dc23 pm23 cd23 ct23 oc24 kV24 dc24 pm24 cd24 ct24 oc25 kV25 dc25 pm25 cd25 ct25 oc26 kV26 dc26 pm26 cd26 ct26 : Value}
    {t_HELD : Tok} {t_PARTED : Tok}
    (a0 : PySem.W.nsIn K mainGlobals "is_whole" = some (some (.ref g0))) (l0 : K.lookup g0 = some ⟨oc0, od0, .func (PySem.W.fnOf "is_whole" "is_whole" (defArgs s_is_whole) (defBody s_is_whole) (defScope s_is_whole) .none kV0 dc0 pm0 an0 cd0 ct0), sl0⟩) (c0 : PySem.W.codeIn K cd0 "is_whole" = true) (k0 : PySem.W.keepIn K (.ref g0) = true)
    (a1 : PySem.W.nsIn K mainGlobals "is_block" = some (some (.ref g1))) (l1 : K.lookup g1 = some ⟨oc1, od1, .func (PySem.W.fnOf "is_block" "is_block" (defArgs s_is_block) (defBody s_is_block) (defScope s_is_block) .none kV1 dc1 pm1 an1 cd1 ct1), sl1⟩) (c1 : PySem.W.codeIn K cd1 "is_block" = true) (k1 : PySem.W.keepIn K (.ref g1) = true)
    (a2 : PySem.W.nsIn K mainGlobals "pair_of" = some (some (.ref g2))) (l2 : K.lookup g2 = some ⟨oc2, od2, .func (PySem.W.fnOf "pair_of" "pair_of" (defArgs s_pair_of) (defBody s_pair_of) (defScope s_pair_of) .none kV2 dc2 pm2 an2 cd2 ct2), sl2⟩) (c2 : PySem.W.codeIn K cd2 "pair_of" = true) (k2 : PySem.W.keepIn K (.ref g2) = true)
    (a3 : PySem.W.nsIn K mainGlobals "is_ring" = some (some (.ref g3))) (l3 : K.lookup g3 = some ⟨oc3, od3, .func (PySem.W.fnOf "is_ring" "is_ring" (defArgs s_is_ring) (defBody s_is_ring) (defScope s_is_ring) .none kV3 dc3 pm3 an3 cd3 ct3), sl3⟩) (c3 : PySem.W.codeIn K cd3 "is_ring" = true) (k3 : PySem.W.keepIn K (.ref g3) = true)
    (a4 : PySem.W.nsIn K mainGlobals "links_of" = some (some (.ref g4))) (l4 : K.lookup g4 = some ⟨oc4, od4, .func (PySem.W.fnOf "links_of" "links_of" (defArgs s_links_of) (defBody s_links_of) (defScope s_links_of) .none kV4 dc4 pm4 an4 cd4 ct4), sl4⟩) (c4 : PySem.W.codeIn K cd4 "links_of" = true) (k4 : PySem.W.keepIn K (.ref g4) = true)
    (a5 : PySem.W.nsIn K mainGlobals "gap_of" = some (some (.ref g5))) (l5 : K.lookup g5 = some ⟨oc5, od5, .func (PySem.W.fnOf "gap_of" "gap_of" (defArgs s_gap_of) (defBody s_gap_of) (defScope s_gap_of) .none kV5 dc5 pm5 an5 cd5 ct5), sl5⟩) (c5 : PySem.W.codeIn K cd5 "gap_of" = true) (k5 : PySem.W.keepIn K (.ref g5) = true)
    (a6 : PySem.W.nsIn K mainGlobals "open_pairs" = some (some (.ref g6))) (l6 : K.lookup g6 = some ⟨oc6, od6, .func (PySem.W.fnOf "open_pairs" "open_pairs" (defArgs s_open_pairs) (defBody s_open_pairs) (defScope s_open_pairs) .none kV6 dc6 pm6 an6 cd6 ct6), sl6⟩) (c6 : PySem.W.codeIn K cd6 "open_pairs" = true) (k6 : PySem.W.keepIn K (.ref g6) = true)
    (a7 : PySem.W.nsIn K mainGlobals "is_losing" = some (some (.ref g7))) (l7 : K.lookup g7 = some ⟨oc7, od7, .func (PySem.W.fnOf "is_losing" "is_losing" (defArgs s_is_losing) (defBody s_is_losing) (defScope s_is_losing) .none kV7 dc7 pm7 an7 cd7 ct7), sl7⟩) (c7 : PySem.W.codeIn K cd7 "is_losing" = true) (k7 : PySem.W.keepIn K (.ref g7) = true)
    (a8 : PySem.W.nsIn K mainGlobals "decided_loss" = some (some (.ref g8))) (l8 : K.lookup g8 = some ⟨oc8, od8, .func (PySem.W.fnOf "decided_loss" "decided_loss" (defArgs s_decided_loss) (defBody s_decided_loss) (defScope s_decided_loss) .none kV8 dc8 pm8 an8 cd8 ct8), sl8⟩) (c8 : PySem.W.codeIn K cd8 "decided_loss" = true) (k8 : PySem.W.keepIn K (.ref g8) = true)
    (a9 : PySem.W.nsIn K mainGlobals "rings_show" = some (some (.ref g9))) (l9 : K.lookup g9 = some ⟨oc9, od9, .func (PySem.W.fnOf "rings_show" "rings_show" (defArgs s_rings_show) (defBody s_rings_show) (defScope s_rings_show) .none kV9 dc9 pm9 an9 cd9 ct9), sl9⟩) (c9 : PySem.W.codeIn K cd9 "rings_show" = true) (k9 : PySem.W.keepIn K (.ref g9) = true)
    (a10 : PySem.W.nsIn K mainGlobals "first_decided" = some (some (.ref g10))) (l10 : K.lookup g10 = some ⟨oc10, od10, .func (PySem.W.fnOf "first_decided" "first_decided" (defArgs s_first_decided) (defBody s_first_decided) (defScope s_first_decided) .none kV10 dc10 pm10 an10 cd10 ct10), sl10⟩) (c10 : PySem.W.codeIn K cd10 "first_decided" = true) (k10 : PySem.W.keepIn K (.ref g10) = true)
    (a11 : PySem.W.nsIn K mainGlobals "first_weights" = some (some (.ref g11))) (l11 : K.lookup g11 = some ⟨oc11, od11, .func (PySem.W.fnOf "first_weights" "first_weights" (defArgs s_first_weights) (defBody s_first_weights) (defScope s_first_weights) .none kV11 dc11 pm11 an11 cd11 ct11), sl11⟩) (c11 : PySem.W.codeIn K cd11 "first_weights" = true) (k11 : PySem.W.keepIn K (.ref g11) = true)
    (a12 : PySem.W.nsIn K mainGlobals "is_never" = some (some (.ref g12))) (l12 : K.lookup g12 = some ⟨oc12, od12, .func (PySem.W.fnOf "is_never" "is_never" (defArgs s_is_never) (defBody s_is_never) (defScope s_is_never) .none kV12 dc12 pm12 an12 cd12 ct12), sl12⟩) (c12 : PySem.W.codeIn K cd12 "is_never" = true) (k12 : PySem.W.keepIn K (.ref g12) = true)
    (a13 : PySem.W.nsIn K mainGlobals "may_decide" = some (some (.ref g13))) (l13 : K.lookup g13 = some ⟨oc13, od13, .func (PySem.W.fnOf "may_decide" "may_decide" (defArgs s_may_decide) (defBody s_may_decide) (defScope s_may_decide) .none kV13 dc13 pm13 an13 cd13 ct13), sl13⟩) (c13 : PySem.W.codeIn K cd13 "may_decide" = true) (k13 : PySem.W.keepIn K (.ref g13) = true)
    (a14 : PySem.W.nsIn K mainGlobals "with_choice" = some (some (.ref g14))) (l14 : K.lookup g14 = some ⟨oc14, od14, .func (PySem.W.fnOf "with_choice" "with_choice" (defArgs s_with_choice) (defBody s_with_choice) (defScope s_with_choice) .none kV14 dc14 pm14 an14 cd14 ct14), sl14⟩) (c14 : PySem.W.codeIn K cd14 "with_choice" = true) (k14 : PySem.W.keepIn K (.ref g14) = true)
    (a15 : PySem.W.nsIn K mainGlobals "is_shown" = some (some (.ref g15))) (l15 : K.lookup g15 = some ⟨oc15, od15, .func (PySem.W.fnOf "is_shown" "is_shown" (defArgs s_is_shown) (defBody s_is_shown) (defScope s_is_shown) .none kV15 dc15 pm15 an15 cd15 ct15), sl15⟩) (c15 : PySem.W.codeIn K cd15 "is_shown" = true) (k15 : PySem.W.keepIn K (.ref g15) = true)
    (a16 : PySem.W.nsIn K mainGlobals "_law_cell_at" = some (some (.ref g16))) (l16 : K.lookup g16 = some ⟨oc16, od16, .func (PySem.W.fnOf "_law_cell_at" "_law_cell_at" (defArgs s_law_cell_at) (defBody s_law_cell_at) (defScope s_law_cell_at) .none kV16 dc16 pm16 an16 cd16 ct16), sl16⟩) (c16 : PySem.W.codeIn K cd16 "_law_cell_at" = true) (k16 : PySem.W.keepIn K (.ref g16) = true)
    (a17 : PySem.W.nsIn K mainGlobals "_law_pair" = some (some (.ref g17))) (l17 : K.lookup g17 = some ⟨oc17, od17, .func (PySem.W.fnOf "_law_pair" "_law_pair" (defArgs s_law_pair) (defBody s_law_pair) (defScope s_law_pair) .none kV17 dc17 pm17 an17 cd17 ct17), sl17⟩) (c17 : PySem.W.codeIn K cd17 "_law_pair" = true) (k17 : PySem.W.keepIn K (.ref g17) = true)
    (a18 : PySem.W.nsIn K mainGlobals "_law_links" = some (some (.ref g18))) (l18 : K.lookup g18 = some ⟨oc18, od18, .func (PySem.W.fnOf "_law_links" "_law_links" (defArgs s_law_links) (defBody s_law_links) (defScope s_law_links) .none kV18 dc18 pm18 an18 cd18 ct18), sl18⟩) (c18 : PySem.W.codeIn K cd18 "_law_links" = true) (k18 : PySem.W.keepIn K (.ref g18) = true)
    (a19 : PySem.W.nsIn K mainGlobals "_law_ring" = some (some (.ref g19))) (l19 : K.lookup g19 = some ⟨oc19, od19, .func (PySem.W.fnOf "_law_ring" "_law_ring" (defArgs s_law_ring) (defBody s_law_ring) (defScope s_law_ring) .none kV19 dc19 pm19 an19 cd19 ct19), sl19⟩) (c19 : PySem.W.codeIn K cd19 "_law_ring" = true) (k19 : PySem.W.keepIn K (.ref g19) = true)
    (a20 : PySem.W.nsIn K mainGlobals "_law_leaf" = some (some (.ref g20))) (l20 : K.lookup g20 = some ⟨oc20, od20, .func (PySem.W.fnOf "_law_leaf" "_law_leaf" (defArgs s_law_leaf) (defBody s_law_leaf) (defScope s_law_leaf) .none kV20 dc20 pm20 an20 cd20 ct20), sl20⟩) (c20 : PySem.W.codeIn K cd20 "_law_leaf" = true) (k20 : PySem.W.keepIn K (.ref g20) = true)
    (a21 : PySem.W.nsIn K mainGlobals "_law_judge" = some (some (.ref g21))) (l21 : K.lookup g21 = some ⟨oc21, od21, .func (PySem.W.fnOf "_law_judge" "_law_judge" (defArgs s_law_judge) (defBody s_law_judge) (defScope s_law_judge) .none kV21 dc21 pm21 an21 cd21 ct21), sl21⟩) (c21 : PySem.W.codeIn K cd21 "_law_judge" = true) (k21 : PySem.W.keepIn K (.ref g21) = true)
    (a22 : PySem.W.nsIn K mainGlobals "_law_decided" = some (some (.ref g22))) (l22 : K.lookup g22 = some ⟨oc22, od22, .func (PySem.W.fnOf "_law_decided" "_law_decided" (defArgs s_law_decided) (defBody s_law_decided) (defScope s_law_decided) .none kV22 dc22 pm22 an22 cd22 ct22), sl22⟩) (c22 : PySem.W.codeIn K cd22 "_law_decided" = true) (k22 : PySem.W.keepIn K (.ref g22) = true)
    (a23 : PySem.W.nsIn K mainGlobals "_law_ring_drawn" = some (some (.ref g23))) (l23 : K.lookup g23 = some ⟨oc23, od23, .func (PySem.W.fnOf "_law_ring_drawn" "_law_ring_drawn" (defArgs s_law_ring_drawn) (defBody s_law_ring_drawn) (defScope s_law_ring_drawn) .none kV23 dc23 pm23 an23 cd23 ct23), sl23⟩) (c23 : PySem.W.codeIn K cd23 "_law_ring_drawn" = true) (k23 : PySem.W.keepIn K (.ref g23) = true)
    (a24 : PySem.W.nsIn K mainGlobals "_law_told" = some (some (.ref g24))) (l24 : K.lookup g24 = some ⟨oc24, od24, .func (PySem.W.fnOf "_law_told" "_law_told" (defArgs s_law_told) (defBody s_law_told) (defScope s_law_told) .none kV24 dc24 pm24 an24 cd24 ct24), sl24⟩) (c24 : PySem.W.codeIn K cd24 "_law_told" = true) (k24 : PySem.W.keepIn K (.ref g24) = true)
    (a25 : PySem.W.nsIn K mainGlobals "_law_paper" = some (some (.ref g25))) (l25 : K.lookup g25 = some ⟨oc25, od25, .func (PySem.W.fnOf "_law_paper" "_law_paper" (defArgs s_law_paper) (defBody s_law_paper) (defScope s_law_paper) .none kV25 dc25 pm25 an25 cd25 ct25), sl25⟩) (c25 : PySem.W.codeIn K cd25 "_law_paper" = true) (k25 : PySem.W.keepIn K (.ref g25) = true)
    (a26 : PySem.W.nsIn K mainGlobals "law" = some (some (.ref g26))) (l26 : K.lookup g26 = some ⟨oc26, od26, .func (PySem.W.fnOf "law" "law" (defArgs s_law) (defBody s_law) (defScope s_law) .none kV26 dc26 pm26 an26 cd26 ct26), sl26⟩) (c26 : PySem.W.codeIn K cd26 "law" = true) (k26 : PySem.W.keepIn K (.ref g26) = true)
    (a_HELD : PySem.W.nsIn K mainGlobals "HELD" = some (some (.str (T [104, 101, 108, 100]) t_HELD)))
    (a_PARTED : PySem.W.nsIn K mainGlobals "PARTED" = some (some (.str (T [112, 97, 114, 116, 101, 100]) t_PARTED)))
    (y_abs : PySem.W.nsIn K mainGlobals "abs" = some none)
    (y_all : PySem.W.nsIn K mainGlobals "all" = some none)
    (y_bool : PySem.W.nsIn K mainGlobals "bool" = some none)
    (y_dict : PySem.W.nsIn K mainGlobals "dict" = some none)
    (y_int : PySem.W.nsIn K mainGlobals "int" = some none)
    (y_isinstance : PySem.W.nsIn K mainGlobals "isinstance" = some none)
    (y_len : PySem.W.nsIn K mainGlobals "len" = some none)
    (y_list : PySem.W.nsIn K mainGlobals "list" = some none)
    (y_max : PySem.W.nsIn K mainGlobals "max" = some none)
    (y_min : PySem.W.nsIn K mainGlobals "min" = some none)
    (y_range : PySem.W.nsIn K mainGlobals "range" = some none)
    (y_reversed : PySem.W.nsIn K mainGlobals "reversed" = some none)
    (y_set : PySem.W.nsIn K mainGlobals "set" = some none)
    (y_sorted : PySem.W.nsIn K mainGlobals "sorted" = some none)
    (y_zip : PySem.W.nsIn K mainGlobals "zip" = some none) :
    ∃ fd : FuncData, (∀ (s : Shared) (v : Value), BindsTo s fd ⟨[v], []⟩ [("_law_script", v)]) ∧ ∀ base : Heap, K.In base → base.Ns mainGlobals mg → FnOk l.prog w K mg base CX0 21 fa fd ["_law_script"] (spLaw K) := by
  have e := hfa.symm.trans (PySem.W.mg_of X G a26)
  cases e
  have F0 := fun_mk (st := s_is_whole) l0 c0 k0
  have b0 := F0.binds (ps := ["value"]) bd_is_whole
  have F1 := fun_mk (st := s_is_block) l1 c1 k1
  have b1 := F1.binds (ps := ["value", "many"]) bd_is_block
  have F2 := fun_mk (st := s_pair_of) l2 c2 k2
  have b2 := F2.binds (ps := ["one", "other"]) bd_pair_of
  have F3 := fun_mk (st := s_is_ring) l3 c3 k3
  have b3 := F3.binds (ps := ["ring", "many"]) bd_is_ring
  have F4 := fun_mk (st := s_links_of) l4 c4 k4
  have b4 := F4.binds (ps := ["ring"]) bd_links_of
  have F5 := fun_mk (st := s_gap_of) l5 c5 k5
  have b5 := F5.binds (ps := ["ring"]) bd_gap_of
  have F6 := fun_mk (st := s_open_pairs) l6 c6 k6
  have b6 := F6.binds (ps := ["ring", "decided"]) bd_open_pairs
  have F7 := fun_mk (st := s_is_losing) l7 c7 k7
  have b7 := F7.binds (ps := ["ring", "many", "weights", "decided"]) bd_is_losing
  have F8 := fun_mk (st := s_decided_loss) l8 c8 k8
  have b8 := F8.binds (ps := ["weights", "decided"]) bd_decided_loss
  have F9 := fun_mk (st := s_rings_show) l9 c9 k9
  have b9 := F9.binds (ps := ["rings", "many", "weights", "decided", "least"]) bd_rings_show
  have F10 := fun_mk (st := s_first_decided) l10 c10 k10
  have b10 := F10.binds (ps := ["aparts"]) bd_first_decided
  have F11 := fun_mk (st := s_first_weights) l11 c11 k11
  have b11 := F11.binds (ps := ["pairs"]) bd_first_weights
  have F12 := fun_mk (st := s_is_never) l12 c12 k12
  have b12 := F12.binds (ps := ["ring", "many", "decided"]) bd_is_never
  have F13 := fun_mk (st := s_may_decide) l13 c13 k13
  have b13 := F13.binds (ps := ["paper", "many", "decided"]) bd_may_decide
  have F14 := fun_mk (st := s_with_choice) l14 c14 k14
  have b14 := F14.binds (ps := ["decided", "pair", "choice"]) bd_with_choice
  have F15 := fun_mk (st := s_is_shown) l15 c15 k15
  have b15 := F15.binds (ps := ["paper", "many", "pairs", "aparts", "least"]) bd_is_shown
  have F16 := fun_mk (st := s_law_cell_at) l16 c16 k16
  have b16 := F16.binds (ps := ["_law_script", "_law_k"]) bd_law_cell_at
  have F17 := fun_mk (st := s_law_pair) l17 c17 k17
  have b17 := F17.binds (ps := ["_law_one", "_law_other"]) bd_law_pair
  have F18 := fun_mk (st := s_law_links) l18 c18 k18
  have b18 := F18.binds (ps := ["_law_ring_here"]) bd_law_links
  have F19 := fun_mk (st := s_law_ring) l19 c19 k19
  have b19 := F19.binds (ps := ["_law_ring_here", "_law_weights_here", "_law_decided_here", "_law_never"]) bd_law_ring
  have F20 := fun_mk (st := s_law_leaf) l20 c20 k20
  have b20 := F20.binds (ps := ["_law_rows", "_law_weights_here", "_law_decided_here", "_law_least"]) bd_law_leaf
  have F21 := fun_mk (st := s_law_judge) l21 c21 k21
  have b21 := F21.binds (ps := ["_law_paper_here", "_law_weights_here", "_law_decided_here", "_law_least"]) bd_law_judge
  have F22 := fun_mk (st := s_law_decided) l22 c22 k22
  have b22 := F22.binds (ps := ["_law_aparts"]) bd_law_decided
  have F23 := fun_mk (st := s_law_ring_drawn) l23 c23 k23
  have b23 := F23.binds (ps := ["_law_many", "_law_cell"]) bd_law_ring_drawn
  have F24 := fun_mk (st := s_law_told) l24 c24 k24
  have b24 := F24.binds (ps := ["_law_ring_here", "_law_cell"]) bd_law_told
  have F25 := fun_mk (st := s_law_paper) l25 c25 k25
  have b25 := F25.binds (ps := ["_law_ring_here", "_law_told_here", "_law_pairs"]) bd_law_paper
  have F26 := fun_mk (st := s_law) l26 c26 k26
  have b26 := F26.binds (ps := ["_law_script"]) bd_law
  exact ⟨_, fun s v => .of_eq rfl, fun base _ _ => ok_law (ad0 := ⟨g0, g1, g2, g3, g4, g5, g6, g7, g8, g9, g10, g11, g12, g13, g14, g15, g16, g17, g18, g19, g20, g21, g22, g23, g24, g25, _, _, _, _, _, _, _, _, _, _, _, _, _, _, _, _, _, _, _, _, _, _, _, _, _, _, _, _, _, _⟩) ⟨PySem.W.mg_of X G a_HELD, ⟨_, rfl⟩, PySem.W.mg_of X G a_PARTED, ⟨_, rfl⟩, F0, b0, PySem.W.mg_of X G a0, F1, b1, PySem.W.mg_of X G a1, F2, b2, PySem.W.mg_of X G a2, F3, b3, PySem.W.mg_of X G a3, F4, b4, PySem.W.mg_of X G a4, F5, b5, PySem.W.mg_of X G a5, F6, b6, PySem.W.mg_of X G a6, F7, b7, PySem.W.mg_of X G a7, F8, b8, PySem.W.mg_of X G a8, F9, b9, PySem.W.mg_of X G a9, F10, b10, PySem.W.mg_of X G a10, F11, b11, PySem.W.mg_of X G a11, F12, b12, PySem.W.mg_of X G a12, F13, b13, PySem.W.mg_of X G a13, F14, b14, PySem.W.mg_of X G a14, F15, b15, PySem.W.mg_of X G a15, F16, b16, PySem.W.mg_of X G a16, F17, b17, PySem.W.mg_of X G a17, F18, b18, PySem.W.mg_of X G a18, F19, b19, PySem.W.mg_of X G a19, F20, b20, PySem.W.mg_of X G a20, F21, b21, PySem.W.mg_of X G a21, F22, b22, PySem.W.mg_of X G a22, F23, b23, PySem.W.mg_of X G a23, F24, b24, PySem.W.mg_of X G a24, F25, b25, PySem.W.mg_of X G a25, F26, b26, PySem.W.mg_of X G a26, PySem.W.mg_none_of X G y_abs, PySem.W.mg_none_of X G y_all, PySem.W.mg_none_of X G y_bool, PySem.W.mg_none_of X G y_dict, PySem.W.mg_none_of X G y_int, PySem.W.mg_none_of X G y_isinstance, PySem.W.mg_none_of X G y_len, PySem.W.mg_none_of X G y_list, PySem.W.mg_none_of X G y_max, PySem.W.mg_none_of X G y_min, PySem.W.mg_none_of X G y_range, PySem.W.mg_none_of X G y_reversed, PySem.W.mg_none_of X G y_set, PySem.W.mg_none_of X G y_sorted, PySem.W.mg_none_of X G y_zip⟩⟩
theorem walk {l : PySem.W.OpenLaw} {q : Program} {loose : List Str} {XP : (Str → Option Value) → Heap → Prop} {YP : World → Heap → Prop} {d : DefRec} {K : Params → PySem.W.Frag} (hn : l.most = some 63) (hdf : d.params.defaults = [])
    (hY : ∀ (w : World) (h : Heap), YP w h → (K w.params).In h)
    (F : ∀ (w : World) (mg : Str → Option Value) (fa : Addr) (h : Heap), (K w.params).In h → h.Ns mainGlobals mg → mg d.name = some (.ref fa) →
      ∃ fd : FuncData, (∀ (s : Shared) (u : Value), BindsTo s fd ⟨[u], []⟩ [("_law_script", u)]) ∧ ∀ base : Heap, (K w.params).In base → base.Ns mainGlobals mg → FnOk l.prog w (K w.params) mg base CX0 21 fa fd ["_law_script"] (spLaw (K w.params))) :
    PySem.W.WalkO q loose XP YP l.row.toRowW d [] (fun f vs => PySem.call f vs) :=
  L2.walk_of (n := 63) (k := 21) (x := "_law_script") (CX := fun _ => CX0) (sp := fun w => spLaw (K w.params)) hn (by decide) hdf ⟨rfl, by decide, by decide, rfl⟩ hY F (fun _ _ a ns hl _ hS => ⟨a, ns, rfl, hS, hl, fun _ => rfl⟩) fun _ _ _ _ _ z => z
end My
def PySem.W.Fast.tw16672204797803205420 : Unit := ()
open PySem PySem.W PyProof.Rows
set_option maxRecDepth 100000 in
set_option maxHeartbeats 0 in
theorem PySem.Challenge.cw_folk_k42_nevers_shown_holds : PySem.Challenge.rw_folk_k42_nevers_shown.Holds := by
  w_on; o_law; k_head; (case hw => w_witness2)
  k_fill
  refine My.walk (l := PySem.Challenge.rw_folk_k42_nevers_shown) rfl rfl (fun w h Y => PySem.W.kIn_of Y) ?F
  case F =>
    intro w mg fa h KX G hmg
    refine' My.all_mk KX G hmg ?a0 ?l0 ?c0 ?k0 ?a1 ?l1 ?c1 ?k1 ?a2 ?l2 ?c2 ?k2 ?a3 ?l3 ?c3 ?k3 ?a4 ?l4 ?c4 ?k4 ?a5 ?l5 ?c5 ?k5 ?a6 ?l6 ?c6 ?k6 ?a7 ?l7 ?c7 ?k7 ?a8 ?l8 ?c8 ?k8 ?a9 ?l9 ?c9 ?k9 ?a10 ?l10 ?c10 ?k10 ?a11 ?l11 ?c11 ?k11 ?a12 ?l12 ?c12 ?k12 ?a13 ?l13 ?c13 ?k13 ?a14 ?l14 ?c14 ?k14 ?a15 ?l15 ?c15 ?k15 ?a16 ?l16 ?c16 ?k16 ?a17 ?l17 ?c17 ?k17 ?a18 ?l18 ?c18 ?k18 ?a19 ?l19 ?c19 ?k19 ?a20 ?l20 ?c20 ?k20 ?a21 ?l21 ?c21 ?k21 ?a22 ?l22 ?c22 ?k22 ?a23 ?l23 ?c23 ?k23 ?a24 ?l24 ?c24 ?k24 ?a25 ?l25 ?c25 ?k25 ?a26 ?l26 ?c26 ?k26 ?a_HELD ?a_PARTED ?y_abs ?y_all ?y_bool ?y_dict ?y_int ?y_isinstance ?y_len ?y_list ?y_max ?y_min ?y_range ?y_reversed ?y_set ?y_sorted ?y_zip
    (case a_HELD => k_is)
    (case a_PARTED => k_is)
    (case a0 => k_is)
    (case l0 => k_is)
    (case c0 => k_is)
    (case k0 => k_is)
    (case a1 => k_is)
    (case l1 => k_is)
    (case c1 => k_is)
    (case k1 => k_is)
    (case a2 => k_is)
    (case l2 => k_is)
    (case c2 => k_is)
    (case k2 => k_is)
    (case a3 => k_is)
    (case l3 => k_is)
    (case c3 => k_is)
    (case k3 => k_is)
    (case a4 => k_is)
    (case l4 => k_is)
    (case c4 => k_is)
    (case k4 => k_is)
    (case a5 => k_is)
    (case l5 => k_is)
    (case c5 => k_is)
    (case k5 => k_is)
    (case a6 => k_is)
    (case l6 => k_is)
    (case c6 => k_is)
    (case k6 => k_is)
    (case a7 => k_is)
    (case l7 => k_is)
    (case c7 => k_is)
    (case k7 => k_is)
    (case a8 => k_is)
    (case l8 => k_is)
    (case c8 => k_is)
    (case k8 => k_is)
    (case a9 => k_is)
    (case l9 => k_is)
    (case c9 => k_is)
    (case k9 => k_is)
    (case a10 => k_is)
    (case l10 => k_is)
    (case c10 => k_is)
    (case k10 => k_is)
    (case a11 => k_is)
    (case l11 => k_is)
    (case c11 => k_is)
    (case k11 => k_is)
    (case a12 => k_is)
    (case l12 => k_is)
    (case c12 => k_is)
    (case k12 => k_is)
    (case a13 => k_is)
    (case l13 => k_is)
    (case c13 => k_is)
    (case k13 => k_is)
    (case a14 => k_is)
    (case l14 => k_is)
    (case c14 => k_is)
    (case k14 => k_is)
    (case a15 => k_is)
    (case l15 => k_is)
    (case c15 => k_is)
    (case k15 => k_is)
    (case a16 => k_is)
    (case l16 => k_is)
    (case c16 => k_is)
    (case k16 => k_is)
    (case a17 => k_is)
    (case l17 => k_is)
    (case c17 => k_is)
    (case k17 => k_is)
    (case a18 => k_is)
    (case l18 => k_is)
    (case c18 => k_is)
    (case k18 => k_is)
    (case a19 => k_is)
    (case l19 => k_is)
    (case c19 => k_is)
    (case k19 => k_is)
    (case a20 => k_is)
    (case l20 => k_is)
    (case c20 => k_is)
    (case k20 => k_is)
    (case a21 => k_is)
    (case l21 => k_is)
    (case c21 => k_is)
    (case k21 => k_is)
    (case a22 => k_is)
    (case l22 => k_is)
    (case c22 => k_is)
    (case k22 => k_is)
    (case a23 => k_is)
    (case l23 => k_is)
    (case c23 => k_is)
    (case k23 => k_is)
    (case a24 => k_is)
    (case l24 => k_is)
    (case c24 => k_is)
    (case k24 => k_is)
    (case a25 => k_is)
    (case l25 => k_is)
    (case c25 => k_is)
    (case k25 => k_is)
    (case a26 => k_is)
    (case l26 => k_is)
    (case c26 => k_is)
    (case k26 => k_is)
    (case y_abs => k_is)
    (case y_all => k_is)
    (case y_bool => k_is)
    (case y_dict => k_is)
    (case y_int => k_is)
    (case y_isinstance => k_is)
    (case y_len => k_is)
    (case y_list => k_is)
    (case y_max => k_is)
    (case y_min => k_is)
    (case y_range => k_is)
    (case y_reversed => k_is)
    (case y_set => k_is)
    (case y_sorted => k_is)
    (case y_zip => k_is)
