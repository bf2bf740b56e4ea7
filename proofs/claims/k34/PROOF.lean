import PyProof.Rows.All
import Wide.All
import OpenK.AllK
import Wide.FinOn
import Lean
import PyProof.EqAt
import PyProof.EqKinds
import PyProof.TupleCall
import KE.KSortTup
import KE.KSortKey
import KE.KMinKey
import PySem.SetTable
import KE.KDictList
import PyProof.Rows.SeqMore
import PyProof.StrLawsIn
import PyProof.MeetsStr3
import PyProof.Rows.StrSplitMax
import KE.KLam
import KE.KDictLaws
import PyProof.Rows.SumAny
import PyProof.Rows.CallKwBuiltin
import PyProof.ZipIter
import PyProof.Rows.ZipGen
import PyProof.Rows.StrWeight2
import KE.KDictSum
import KE.KTryMore
import PyProof.Rows.TopTwo
import PyProof.ExcBaseAll.ValueError
import KE.RegKIsAll
import KE.RegKTryMore
import PyProof.ExcAttrAll.ValueError
import PyProof.ExcInit
import PyProof.Rows.StrDouble
import OpenK.KCls
import PyProof.Rows.FStr
import PyProof.Rows.FStrParts
import PyProof.InstStoreFacts
import OpenK.KMake
import PyProof.Logic
import PyProof.Rows.StrJoinMade
import PyProof.ReprRoads
import PyProof.ReprLen
import PyProof.StrLawsRepr
import PySem.Challenge.RW_folk_k34_too_many_blocks
noncomputable section
set_option Elab.async false
set_option linter.all false
set_option maxRecDepth 100000
namespace L2
open PySem PySem.Spec PyProof.Rows

abbrev Key := Sum Int Str
def keyIs : Key → Value → Bool
  | .inl k, v => Value.isInt k v
  | .inr x, v => Value.isStrOf x v
def keyH (w : World) : Key → Int
  | .inl k => hashInt k
  | .inr x => hashStr w x
theorem keyIs_shape : ∀ {k : Key} {v : Value}, keyIs k v = true → (∃ i t, k = Sum.inl i ∧ v = Value.int i t) ∨ (∃ x t, k = Sum.inr x ∧ v = Value.str x t)
  | .inl i, v, h => by
    obtain ⟨t, e⟩ := Value.isInt_shape (k := i) (v := v) h
    exact .inl ⟨i, t, rfl, e⟩
  | .inr x, v, h => by
    obtain ⟨t, e⟩ := Value.isStrOf_shape (x := x) (v := v) h
    exact .inr ⟨x, t, rfl, e⟩
theorem keyIs_int (i : Int) (t : Tok) : keyIs (.inl i) (.int i t) = true := by simp [keyIs, Value.isInt]
theorem keyIs_str (x : Str) (t : Tok) : keyIs (.inr x) (.str x t) = true := by simp [keyIs, Value.isStrOf]
theorem key_ll (a b : Int) : decide ((Sum.inl a : Key) = Sum.inl b) = (a == b) := by
  by_cases e : a = b
  · subst e; simp
  · have h : ¬ (Sum.inl a : Key) = Sum.inl b := fun q => e (Sum.inl.inj q)
    rw [decide_eq_false h]
    exact (beq_eq_false_iff_ne.mpr e).symm
theorem key_rr (a b : Str) : decide ((Sum.inr a : Key) = Sum.inr b) = decide (a = b) := by
  by_cases e : a = b
  · subst e; simp
  · have h : ¬ (Sum.inr a : Key) = Sum.inr b := fun q => e (Sum.inr.inj q)
    rw [decide_eq_false h, decide_eq_false e]
theorem key_lr (a : Int) (b : Str) : decide ((Sum.inl a : Key) = Sum.inr b) = false := decide_eq_false (fun q => nomatch q)
theorem key_rl (a : Str) (b : Int) : decide ((Sum.inr a : Key) = Sum.inl b) = false := decide_eq_false (fun q => nomatch q)

def mixKind (prog : Program) (w : World) : PySem.KeyKind prog w Key where
  is := keyIs
  hash := keyH w
  inj := fun v a b ha hb => by
    rcases keyIs_shape ha with ⟨i, t, rfl, rfl⟩ | ⟨x, t, rfl, rfl⟩
    · rcases keyIs_shape hb with ⟨j, u, rfl, e⟩ | ⟨y, u, rfl, e⟩
      · injection e with e1 _; rw [e1]
      · exact nomatch e
    · rcases keyIs_shape hb with ⟨j, u, rfl, e⟩ | ⟨y, u, rfl, e⟩
      · exact nomatch e
      · injection e with e1 _; rw [e1]
  byValue := fun k v h => by
    rcases keyIs_shape h with ⟨i, t, rfl, rfl⟩ | ⟨x, t, rfl, rfl⟩ <;> rfl
  pyHash := fun hv h => by
    rcases keyIs_shape hv with ⟨i, t, rfl, rfl⟩ | ⟨x, t, rfl, rfl⟩
    · exact wpAny_pyHash_int h
    · exact wpAny_pyHash_str h
  eqBool := fun hu hv h => by
    rcases keyIs_shape hu with ⟨i, t, rfl, rfl⟩ | ⟨x, t, rfl, rfl⟩
    · rcases keyIs_shape hv with ⟨j, u, rfl, rfl⟩ | ⟨y, u, rfl, rfl⟩
      · rw [key_ll] at h; exact wpAny_eqBool_int h
      · rw [key_lr] at h; exact SeqAt.EqAt.int_str i t y u _ _ _ _ h
    · rcases keyIs_shape hv with ⟨j, u, rfl, rfl⟩ | ⟨y, u, rfl, rfl⟩
      · rw [key_rl] at h; exact SeqAt.EqAt.str_int x t j u _ _ _ _ h
      · rw [key_rr] at h; exact wpAny_eqBool_str h
  «strs» := fun k x t v h => by
    rcases keyIs_shape h with ⟨i, u, rfl, e⟩ | ⟨y, u, rfl, e⟩
    · exact nomatch e
    · injection e with e1 _
      subst e1
      cases v <;> rfl

theorem mixKind_int (prog : Program) (w : World) (i : Int) (t : Tok) : (mixKind prog w).is (.inl i) (.int i t) = true := keyIs_int i t
theorem mixKind_str (prog : Program) (w : World) (x : Str) (t : Tok) : (mixKind prog w).is (.inr x) (.str x t) = true := keyIs_str x t
end L2

namespace L2
open PySem PySem.Spec PyProof.Rows

inductive V where
  | non | bl (b : Bool) | int (i : Int) | str (x : Str) | byt (b : Array UInt8) | flt (b : UInt64) | ref (a : Addr) | ty (n : String)
  deriving DecidableEq

def RelV : V → Value → Prop
  | .non, u => u = Value.none
  | .bl b, u => u = Value.bool b
  | .int i, u => ∃ t, u = Value.int i t
  | .str x, u => ∃ t, u = Value.str x t
  | .byt b, u => ∃ t, u = Value.bytes b t
  | .flt b, u => ∃ t, u = Value.float b t
  | .ref a, u => u = Value.ref a
  | .ty n, u => u = Value.type n

abbrev Vals : List V → List Value → Prop := Paired RelV
theorem Vals.length {xs : List V} {us : List Value} (r : Vals xs us) : xs.length = us.length := Paired.length r
theorem Vals.get : ∀ {xs : List V} {us : List Value} {i : Nat} {x : V}, Vals xs us → xs[i]? = some x → ∃ u, us[i]? = some u ∧ RelV x u
  | _, _, _, _, .nil, e => by simp at e
  | _, _, 0, _, .cons r _, e => by simp at e; subst e; exact ⟨_, rfl, r⟩
  | _, _, i + 1, x, .cons _ t, e => by
    obtain ⟨u, h1, h2⟩ := Vals.get (i := i) (x := x) t (by simpa using e)
    exact ⟨u, by simpa using h1, h2⟩
theorem Vals.append : ∀ {xs ys : List V} {us ws : List Value}, Vals xs us → Vals ys ws → Vals (xs ++ ys) (us ++ ws)
  | _, _, _, _, .nil, s => s
  | _, _, _, _, .cons r t, s => .cons r (Vals.append t s)
theorem Vals.take : ∀ {xs : List V} {us : List Value} (n : Nat), Vals xs us → Vals (xs.take n) (us.take n)
  | _, _, 0, _ => .nil
  | _, _, _ + 1, .nil => .nil
  | _, _, n + 1, .cons r t => .cons r (Vals.take n t)
theorem Vals.drop : ∀ {xs : List V} {us : List Value} (n : Nat), Vals xs us → Vals (xs.drop n) (us.drop n)
  | _, _, 0, r => r
  | _, _, _ + 1, .nil => .nil
  | _, _, n + 1, .cons _ t => Vals.drop n t
def RelO : Option V → Option Value → Prop
  | some v, some u => RelV v u
  | none, none => True
  | _, _ => False
def KV {κ : Type} : List (κ × V) → List (κ × Value) → Prop := Paired fun (p : κ × V) (q : κ × Value) => p.1 = q.1 ∧ RelV p.2 q.2

def kV : Key → V
  | .inl i => .int i
  | .inr x => .str x

inductive HO where
  /-- a list -/
  | lst (xs : List V)
  /-- a tuple (never changes) -/
  | tup (xs : List V)
  /-- a dict whose keys are ints and texts; one whose keys are tuples of ints and texts (the empty one is both) -/
  | dK (kvs : List (Key × V)) | dT (kvs : List (List Key × V))
  /-- a set of ints: its members, its size -/
  | set (S : Int → Bool) (n : Nat)
  /-- an instance of the class at C, its dict at dx, its attributes -/
  | ins (C dx : Addr) (fs : List (Str × V))
  /-- the dict of the instance at x -/
  | own (x : Addr)
  /-- the dict of an exception -/
  | xd (fs : List (Str × V))
  /-- a bound method, f of x -/
  | met (f x : Addr)
  /-- a range object lo, lo + 1, .. below hi -/
  | rng (lo hi : Int)
  /-- a thing that is known to the object (the script; a dict while a loop walks it): read, never written while it is so -/
  | frz (o : Obj) (u : HO)
  /-- a code object's table -/
  | tbl (ps : Array Value)
  /-- any other thing, by what is true of its one object (a def of one's own: SetO a S n := HO.ext fun h => ..) -/
  | ext (φ : Heap → Prop)
  | tab (ps : Array Value) (pos : Pos) (q : Str)

abbrev Hp := Addr → Option HO
def upd (H : Hp) (a : Addr) (o : HO) : Hp := fun b => if b = a then some o else H b
theorem upd_same {H : Hp} {a : Addr} {o : HO} : upd H a o a = some o := by unfold upd; rw [if_pos rfl]
theorem upd_ne {H : Hp} {a b : Addr} {o : HO} (h : b ≠ a) : upd H a o b = H b := by unfold upd; rw [if_neg h]
theorem ne_of {H : Hp} {a b : Addr} {o u : HO} (h : H a = some o) (h' : H b = some u) (d : o ≠ u) : a ≠ b := by
  intro e; subst e; rw [h] at h'; exact d (Option.some.inj h')
theorem ne_of_none {H : Hp} {a b : Addr} {o : HO} (h : H a = some o) (h' : H b = none) : a ≠ b := by
  intro e; subst e; rw [h] at h'; cases h'

section
variable (P : Program) (w : World)
def ObjOk (H : Hp) (h : Heap) (a : Addr) : HO → Prop
  | .lst xs => xs.length ≤ sizeLine ∧ ∃ (its : List Value) (n : Nat), Vals xs its ∧ h.get? a = some { cls := .type "list", data := .seq its.toArray n }
  | .tup xs => xs.length ≤ sizeLine ∧ ∃ its : List Value, Vals xs its ∧ IsTup h a its.toArray
  | .dK kvs => kvs.length ≤ sizeLine ∧ (a == sysModules) = false ∧ ∃ vs, KV kvs vs ∧ h.DictOf (mixKind P w) a vs
  | .dT kvs => kvs.length ≤ sizeLine ∧ (a == sysModules) = false ∧ ∃ xs : List (List Key × Addr × Value),
      Paired (fun (p : List Key × V) (q : List Key × Addr × Value) => p.1 = q.1 ∧ H q.2.1 = some (.tup (p.1.map kV)) ∧ RelV p.2 q.2.2) kvs xs ∧
      ∃ o es ep, h.get? a = some o ∧ o.ExactDict ∧ o.data = .dict es ep ∧ es.toList = xs.map (entryOfKey (tupleKind (mixKind P w))) ∧ (xs.map (·.1)).Nodup
  | .set S n => h.SetOf (intKind P w) a S n
  | .ins C dx fs => H dx = some (.own a) ∧ fs.length ≤ 1000 ∧ dx ≠ a ∧ h.get? a = some (PySem.W.instObj C dx) ∧
      ∃ mA, h.Ns1 dx mA ∧ (∀ f, RelO (fs.lookup f) (mA f)) ∧ PySem.Within mA (fs.map (·.1))
  | .own _ => ∃ o, h.get? a = some o
  | .xd fs => ∃ mA, h.Ns1 a mA ∧ ∀ f, RelO (fs.lookup f) (mA f)
  | .rng lo hi => ∃ t u v, h.get? a = some { cls := .type "range", data := .fields #[.int lo t, .int hi u, .int 1 v] }
  | .frz o u => h.get? a = some o ∧ ObjOk H h a u
  | .tbl ps => h.get? a = some { cls := .none, data := .fields ps }
  | .met f x => h.get? a = some (PySem.W.methodObj (.ref f) (.ref x))
  | .ext φ => φ h ∧ (∃ o, h.get? a = some o) ∧ ∀ h1 h2 : Heap, φ h1 → (∀ o, h1.get? a = some o → h2.get? a = some o) → φ h2
  | .tab ps pos q => ∃ more : Array Value, h.get? a = some { cls := .none, data := .fields (ps ++ more) } ∧ TriplesOk (ps ++ more).toList ∧ (codeAmong pos (ps ++ more).toList = none ∨ ∃ c' oc vs t, codeAmong pos (ps ++ more).toList = some (.ref c') ∧ H c' = some (.frz oc (.own a)) ∧ oc.data = .fields vs ∧ vs[1]? = some (.str q t))
def HOk (H : Hp) (h : Heap) : Prop := ∀ a o, H a = some o → ObjOk P w H h a o
end

section
variable {P : Program} {w : World} {H H' : Hp} {h h' : Heap} {a : Addr} {o : HO}
theorem ObjOk.lt (x : ObjOk P w H h a o) : a < h.objs.size := by
  cases o with
  | lst xs => obtain ⟨_, _, _, _, e⟩ := x; exact Heap.lt_size e
  | tup xs => obtain ⟨_, _, _, p⟩ := x; exact p.lt
  | dK kvs => obtain ⟨_, _, _, _, o, _, _, e, _⟩ := x; exact Heap.lt_size e
  | dT kvs => obtain ⟨_, _, _, _, o, _, _, e, _⟩ := x; exact Heap.lt_size e
  | set S n => obtain ⟨o, _, _, _, e, _⟩ := x; exact Heap.lt_size e
  | ins C dx fs => obtain ⟨_, _, _, e, _⟩ := x; exact Heap.lt_size e
  | own y => obtain ⟨_, e⟩ := x; exact Heap.lt_size e
  | xd fs => obtain ⟨_, ⟨_, _, _, e, _⟩, _⟩ := x; exact Heap.lt_size e
  | rng lo hi => obtain ⟨_, _, _, e⟩ := x; exact Heap.lt_size e
  | frz ob u => obtain ⟨e, _⟩ := x; exact Heap.lt_size e
  | tbl ps => exact Heap.lt_size (show h.get? a = some _ from x)
  | met f y => exact Heap.lt_size (show h.get? a = some _ from x)
  | ext φ => obtain ⟨_, ⟨_, e⟩, _⟩ := x; exact Heap.lt_size e
  | tab ps pos q => obtain ⟨_, e, _⟩ := x; exact Heap.lt_size e
theorem Paired.mapP {α β : Type} {F G : α → β → Prop} : ∀ {l₁ : List α} {l₂ : List β}, Paired F l₁ l₂ → (∀ a b, F a b → G a b) → Paired G l₁ l₂
  | _, _, .nil, _ => .nil
  | _, _, .cons r t, f => .cons (f _ _ r) (Paired.mapP t f)
theorem ObjOk.stay (x : ObjOk P w H h a o) (k : ∀ b u, (b = a ∨ H b = some (.own a)) → h.get? b = some u → h'.get? b = some u)
    (ho : ∀ b, H b = some (.own a) → H' b = some (.own a)) (ht : ∀ b xs, H b = some (.tup xs) → H' b = some (.tup xs))
    (hf : ∀ b o u, H b = some (.frz o u) → H' b = some (.frz o u) := by first | exact fun _ _ _ q => q | exact fun c _ _ q => (upd_ne (ne_of_none q (by assumption))).trans q | exact fun c _ _ r => (upd_ne (fun z => by rw [← z, r] at mu; exact mu)).trans r) : ObjOk P w H' h' a o := by
  induction o with
  | lst xs => obtain ⟨z, its, n, r, e⟩ := x; exact ⟨z, its, n, r, k _ _ (.inl rfl) e⟩
  | tup xs => obtain ⟨z, its, r, ob, e, c⟩ := x; exact ⟨z, its, r, ob, k _ _ (.inl rfl) e, c⟩
  | dK kvs => obtain ⟨z, y, vs, r, ob, es, ep, e, c⟩ := x; exact ⟨z, y, vs, r, ob, es, ep, k _ _ (.inl rfl) e, c⟩
  | dT kvs =>
    obtain ⟨z, y, xs, r, ob, es, ep, e, c⟩ := x
    exact ⟨z, y, xs, Paired.mapP r fun p q z => ⟨z.1, ht _ _ z.2.1, z.2.2⟩, ob, es, ep, k _ _ (.inl rfl) e, c⟩
  | set S n => obtain ⟨ob, es, ep, t, e, c⟩ := x; exact ⟨ob, es, ep, t, k _ _ (.inl rfl) e, c⟩
  | ins C dx fs =>
    obtain ⟨d, z, ne, e, mA, ⟨od, es, ep, e2, c⟩, r⟩ := x
    exact ⟨ho _ d, z, ne, k _ _ (.inl rfl) e, mA, ⟨od, es, ep, k _ _ (.inr d) e2, c⟩, r⟩
  | own y => obtain ⟨ob, e⟩ := x; exact ⟨ob, k _ _ (.inl rfl) e⟩
  | xd fs => obtain ⟨mA, ⟨od, es, ep, e, c⟩, r⟩ := x; exact ⟨mA, ⟨od, es, ep, k _ _ (.inl rfl) e, c⟩, r⟩
  | rng lo hi => obtain ⟨t, u, v, e⟩ := x; exact ⟨t, u, v, k _ _ (.inl rfl) e⟩
  | frz ob u ih => obtain ⟨e, q⟩ := x; exact ⟨k _ _ (.inl rfl) e, ih q⟩
  | tbl ps =>
    have e : h.get? a = some { cls := .none, data := .fields ps } := x
    show h'.get? a = some { cls := .none, data := .fields ps }
    exact k a _ (.inl rfl) e
  | met f y =>
    have e : h.get? a = some (PySem.W.methodObj (.ref f) (.ref y)) := x
    show h'.get? a = some (PySem.W.methodObj (.ref f) (.ref y))
    exact k a _ (.inl rfl) e
  | ext φ => obtain ⟨p, ⟨o, e⟩, st⟩ := x; exact ⟨st _ _ p fun o q => k _ _ (.inl rfl) q, ⟨o, k _ _ (.inl rfl) e⟩, st⟩
  | tab ps pos q =>
    obtain ⟨m, e, t, r⟩ := x
    exact ⟨m, k _ _ (.inl rfl) e, t, r.imp id fun ⟨c', oc, vs, t2, e1, e2, q1, q2⟩ => ⟨c', oc, vs, t2, e1, hf _ _ _ e2, q1, q2⟩⟩
theorem HOk.lt (x : HOk P w H h) (e : H a = some o) : a < h.objs.size := (x a o e).lt
theorem HOk.fresh (x : HOk P w H h) (e : h.objs.size ≤ a) : H a = none := by
  cases q : H a with
  | none => rfl
  | some u => exact absurd (Nat.lt_of_lt_of_le (x.lt q) e) (Nat.lt_irrefl _)
theorem HOk.kept (x : HOk P w H h) (k : ∀ b u, h.get? b = some u → h'.get? b = some u) : HOk P w H h' := fun a o e =>
  (x a o e).stay (fun b u _ q => k b u q) (fun _ q => q) fun _ _ q => q
theorem HOk.laid (x : HOk P w H h) (k : ∀ b u, h.get? b = some u → h'.get? b = some u) (hp : h.objs.size ≤ a) (new : ObjOk P w (upd H a o) h' a o) : HOk P w (upd H a o) h' := fun b u e => by
  have hn := x.fresh hp
  by_cases hb : b = a
  · subst hb; rw [upd_same] at e; cases e; exact new
  · rw [upd_ne hb] at e
    exact (x b u e).stay (fun c v _ q => k c v q) (fun c q => by rw [upd_ne (ne_of_none q hn)]; exact q) fun c xs q => by rw [upd_ne (ne_of_none q hn)]; exact q
end

def Rd (H : Hp) (a : Addr) (u : HO) : Prop := H a = some u ∨ ∃ o, H a = some (.frz o u)
theorem Rd.ok {P : Program} {w : World} {H : Hp} {h : Heap} {a : Addr} {u : HO} (r : Rd H a u) (x : HOk P w H h) : ObjOk P w H h a u := by
  rcases r with r | ⟨o, r⟩
  · exact x a u r
  · obtain ⟨_, q⟩ := x a _ r
    exact q
def Mut : Option HO → Prop
  | some (.lst _) => True
  | some (.dK _) => True
  | some (.dT _) => True
  | some (.set _ _) => True
  | some (.ins _ _ _) => True
  | some (.ext _) => True
  | _ => False
section
variable {P : Program} {w : World} {H : Hp} {h h' : Heap} {x e : Addr} {o' : HO}
theorem HOk.write (ok : HOk P w H h) (mu : Mut (H x)) (he : e = x ∨ H e = some (.own x)) (k : ∀ b u, b ≠ e → h.get? b = some u → h'.get? b = some u) (heo : ∃ u, h'.get? e = some u)
    (new : ObjOk P w (upd H x o') h' x o') : HOk P w (upd H x o') h' := fun b u q => by
  have nown : ∀ c y, H c = some (.own y) → c ≠ x := fun c y r z => by subst z; rw [r] at mu; exact mu
  have ntup : ∀ c xs, H c = some (.tup xs) → c ≠ x := fun c xs r z => by subst z; rw [r] at mu; exact mu
  by_cases hb : b = x
  · subst hb; rw [upd_same] at q; cases q; exact new
  · rw [upd_ne hb] at q
    by_cases hbe : b = e
    · have q' : H b = some (.own x) := by
        rcases he with z | z
        · exact absurd (hbe.trans z) hb
        · rw [hbe]; exact z
      rw [q] at q'; cases q'
      obtain ⟨v, hv⟩ := heo
      exact ⟨v, by rw [hbe]; exact hv⟩
    · refine (ok b u q).stay (fun c v hc r => k c v ?_ r) (fun c r => by rw [upd_ne (nown c b r)]; exact r) fun c xs r => by rw [upd_ne (ntup c xs r)]; exact r
      rcases hc with rfl | hc
      · exact hbe
      · rintro rfl
        rcases he with z | z
        · exact nown c b hc z
        · rw [hc] at z; cases z; exact hb rfl
end

structure Un (fs ex : List Addr) (H H' : Hp) (h h' : Heap) : Prop where
  keep : ∀ b o, h.get? b = some o → H b = none → b ∉ fs → b ∉ ex → h'.get? b = some o
  slot : ∀ b o, h.get? b = some o → H b = none → b ∈ fs → b ∉ ex → ∃ sl, h'.get? b = some { o with slots := sl }
  free : ∀ b o, h.get? b = some o → H b = none → b ∉ ex → H' b = none
  there : ∀ b o, h.get? b = some o → b ∉ ex → ∃ o', h'.get? b = some o'
  tups : ∀ b xs, H b = some (.tup xs) → H' b = some (.tup xs)
  frzs : ∀ b o u, H b = some (.frz o u) → H' b = some (.frz o u)
  tbls : ∀ b ps, H b = some (.tbl ps) → ∃ more, H' b = some (.tbl (ps ++ more))
section
variable {fs fs' ex ex' : List Addr} {H H1 H2 : Hp} {h h1 h2 h' : Heap} {a x e : Addr} {o : HO}
theorem Un.any (u : Un fs ex H H1 h h1) {b : Addr} {ob : Obj} (q : h.get? b = some ob) (n : H b = none) (hx : b ∉ ex) : ∃ sl, h1.get? b = some { ob with slots := sl } := by
  by_cases hb : b ∈ fs
  · exact u.slot b ob q n hb hx
  · exact ⟨ob.slots, u.keep b ob q n hb hx⟩
theorem Un.kept (k : ∀ b u, h.get? b = some u → h'.get? b = some u) : Un fs ex H H h h' :=
  ⟨fun b ob q _ _ _ => k b ob q, fun b ob q _ _ _ => ⟨ob.slots, k b ob q⟩, fun _ _ _ n _ => n, fun b ob q _ => ⟨ob, k b ob q⟩, fun _ _ q => q, fun _ _ _ q => q, fun _ ps q => ⟨#[], by rw [q]; simp⟩⟩
theorem Un.refl : Un fs ex H H h h := Un.kept fun _ _ q => q
theorem Un.laid (k : ∀ b u, h.get? b = some u → h'.get? b = some u) (hp : h.objs.size ≤ a) (hn : H a = none) : Un fs ex H (upd H a o) h h' where
  keep := fun b u q _ _ _ => k b u q
  slot := fun b u q _ _ _ => ⟨u.slots, k b u q⟩
  free := fun b u q n _ => by rw [upd_ne (Nat.ne_of_lt (Nat.lt_of_lt_of_le (Heap.lt_size q) hp))]; exact n
  there := fun b u q _ => ⟨u, k b u q⟩
  tups := fun b xs q => by rw [upd_ne (ne_of_none q hn)]; exact q
  frzs := fun b u xs q => by rw [upd_ne (ne_of_none q hn)]; exact q
  tbls := fun b ps q => ⟨#[], by rw [upd_ne (ne_of_none q hn), q]; simp⟩
theorem Un.write (mu : Mut (H x)) (he : e = x ∨ H e = some (.own x)) (k : ∀ b u, b ≠ e → h.get? b = some u → h'.get? b = some u) (heo : ∃ u, h'.get? e = some u) : Un fs ex H (upd H x o) h h' := by
  have hx : ∀ b, H b = none → b ≠ x := fun b n z => by subst z; rw [n] at mu; exact mu
  have hb : ∀ b, H b = none → b ≠ e := fun b n z => by
    subst z
    rcases he with r | r
    · exact hx b n r
    · rw [n] at r; cases r
  have hm : ∀ b u, H b = some u → ¬ Mut (some u) → b ≠ x := fun b u q nm z => by subst z; rw [q] at mu; exact nm mu
  refine ⟨fun b u q n _ _ => k b u (hb b n) q, fun b u q n _ _ => ⟨u.slots, k b u (hb b n) q⟩, fun b u q n _ => by rw [upd_ne (hx b n)]; exact n, fun b u q _ => ?_,
    fun b xs q => by rw [upd_ne (hm b _ q fun z => z)]; exact q, fun b u xs q => by rw [upd_ne (hm b _ q fun z => z)]; exact q, fun b ps q => ⟨#[], by rw [upd_ne (hm b _ q fun z => z), q]; simp⟩⟩
  by_cases hbe : b = e
  · subst hbe; exact heo
  · exact ⟨u, k b u hbe q⟩
end

def trk (h : Heap) (H : Hp) : List Addr := (List.range h.objs.size).filter fun a => (H a).isSome
def hidT (h : Heap) (H : Hp) : Heap := PySem.W.hideAll h (trk h H)
theorem hidT_size (h : Heap) (H : Hp) : (hidT h H).objs.size = h.objs.size := PySem.W.hideAll_size _ _
theorem hidT_get {h : Heap} {H : Hp} {b : Addr} {o : Obj} (e : h.get? b = some o) (n : H b = none) : (hidT h H).get? b = some o :=
  PySem.W.hideAll_get _ e fun hm => by
    have q : (H b).isSome = true := (List.mem_filter.mp hm).2
    rw [n] at q; simp at q
theorem of_hidT {h : Heap} {H : Hp} {b : Addr} {o : Obj} (e : (hidT h H).get? b = some o) : h.get? b = some o ∧ H b = none := by
  have e' : h.get? b = some o := PySem.W.of_hideAll (trk h H) e
  refine ⟨e', ?_⟩
  cases q : H b with
  | none => rfl
  | some x =>
    have hm : b ∈ trk h H := List.mem_filter.mpr ⟨List.mem_range.mpr (Heap.lt_size e'), by simp [q]⟩
    have z : (hidT h H).get? b = none := PySem.W.hideAll_none (trk h H) hm
    rw [z] at e; cases e

def allNews (g h : Heap) (L : Addr) : List (Addr × Obj) := (List.range h.objs.size).filterMap fun a => if a = L ∨ (g.get? a).isSome = true then none else (h.get? a).map fun o => (a, o)
def rest (g h : Heap) (L d : Addr) : List (Addr × Obj) := (allNews g h L).filter fun p => decide (p.1 ≠ d)
end L2

namespace L2
open PySem PySem.Spec PyProof.Rows

structure Mod (K : PySem.W.Frag) (mg : Str → Option Value) (base : Heap) : Prop where
  kin : K.In base
  glob : base.Ns mainGlobals mg
  blt : ∃ mb, base.Ns builtinsNs mb ∧ ∀ x : Str, x ≠ "__name__" → mb x = bootBuiltins x
  nolimit : base.NoLimit

structure Cx where
  prog : Program
  w : World
  K : PySem.W.Frag
  mg : Str → Option Value
  base : Heap
  A : Around
  N : List Str
  s₀ : Shared
  H₀ : Hp
  env : Env
  outer : List Env
  stack : List Env
  ex : List Addr
  fn : Str → Bool
  calm : Bool
  pn : List (Addr × Obj)
  xe : Value → Shared → Prop
def frs (l : List Env) : List Addr := l.filterMap (·.frame)
abbrev Cx.fs (X : Cx) : List Addr := frs X.outer

def Vis (sc : Scope) (x : Str) : Prop := sc.names.lookup x = some .local ∨ sc.names.lookup x = some .cell ∨ sc.names.lookup x = some .free
def Loc (sc : Scope) (x : Str) : Prop := sc.names.lookup x = some .local ∨ sc.names.lookup x = some .cell
def Look (env : Env) (h : Heap) (m : Str → Option Value) (x : Str) (u : Value) : Prop :=
  (env.kindOf x = some .local ∧ m x = some u) ∨ ((env.kindOf x = some .cell ∨ env.kindOf x = some .free) ∧ ∃ c, env.cells.lookup x = some c ∧ h.IsCell c (some u))

structure Cx.Ok (X : Cx) : Prop where
  mod : Mod X.K X.mg X.base
  kind : X.env.scope.kind = .function
  glob : X.env.globals = mainGlobals
  blt : X.env.builtins = builtinsNs
  above : X.s₀.heap.objs.size ≤ X.env.locals
  inj : ∀ x y c, X.env.cells.lookup x = some c → X.env.cells.lookup y = some c → x = y
  has : ∀ x, (X.env.kindOf x = some .cell ∨ X.env.kindOf x = some .free) → ∃ c, X.env.cells.lookup x = some c
  cab : ∀ x c, X.fn x = true → X.env.cells.lookup x = some c → X.s₀.heap.objs.size ≤ c
  hd : X.calm = true → X.A.handled = none
  frames : X.A.frames = some X.stack
  stk : X.stack = X.outer ∨ (X.stack = X.env :: X.outer ∧ X.env.frame = some X.env.locals)
  exf : ∀ b ∈ X.ex, b ≠ X.env.locals ∧ ∀ x c, X.env.cells.lookup x = some c → c ≠ b
  bs : ∀ b o, X.base.get? b = some o → X.s₀.heap.get? b = some o ∧ X.H₀ b = none
  bsz : X.base.objs.size ≤ X.s₀.heap.objs.size
  noex : ∀ b o, X.base.get? b = some o → b ∉ X.ex
  exfs : ∀ b ∈ X.ex, b ∉ X.fs
  funs : X.s₀.heap.FunFrames X.base X.outer
  frf : ∀ b ∈ X.fs, X.H₀ b = none

structure Inv (X : Cx) (pins : List (Addr × Obj)) (σ : List (Option V)) (H : Hp) (s : Shared) : Prop where
  ok : X.Ok
  os : s.os = X.s₀.os
  bare : AllBare s.gens
  base : Un X.fs X.ex X.H₀ H X.s₀.heap s.heap
  loc : ∃ m, s.heap.Ns X.env.locals m ∧ ∀ (i : Nat) (x : Str) (v : V), X.N[i]? = some x → σ[i]? = some (some v) → Vis X.env.scope x → ∃ u, RelV v u ∧ Look X.env s.heap m x u
  cell : ∀ x c, X.env.cells.lookup x = some c → ∃ v, s.heap.IsCell c v
  free : H X.env.locals = none
  freeC : ∀ x c, X.env.cells.lookup x = some c → H c = none
  pin : ∀ p ∈ X.pn ++ pins, s.heap.get? p.1 = some p.2 ∧ H p.1 = none ∧ p.1 ≠ X.env.locals ∧ p.1 ∉ X.fs ∧ ∀ v, p.2.data ≠ .cell v
  hok : HOk X.prog X.w H s.heap
  len : σ.length = X.N.length

section
variable {X : Cx} {pins : List (Addr × Obj)} {σ : List (Option V)} {H H' : Hp} {s : Shared} {h' : Heap}

theorem Cx.Ok.nofr (ok : X.Ok) {b : Addr} {o : Obj} (e : X.base.get? b = some o) : b ∉ X.fs := fun hb => by
  have := (ok.funs.mem hb).1
  rw [e] at this; cases this
theorem Inv.bs (I : Inv X pins σ H s) : ∀ b o, X.base.get? b = some o → s.heap.get? b = some o ∧ H b = none := fun b o e =>
  ⟨I.base.keep b o (I.ok.bs b o e).1 (I.ok.bs b o e).2 (I.ok.nofr e) (I.ok.noex b o e), I.base.free b o (I.ok.bs b o e).1 (I.ok.bs b o e).2 (I.ok.noex b o e)⟩
theorem Inv.bk (I : Inv X pins σ H s) : ∀ b o, X.base.get? b = some o → s.heap.get? b = some o := fun b o e => (I.bs b o e).1
theorem Inv.mod (I : Inv X pins σ H s) : Mod X.K X.mg X.base := I.ok.mod
theorem Inv.kIn (I : Inv X pins σ H s) : X.K.In s.heap := I.ok.mod.kin.keeps I.bk
theorem Inv.nolimit (I : Inv X pins σ H s) : s.heap.NoLimit := I.ok.mod.nolimit.keeps I.bk
theorem Inv.fr (I : Inv X pins σ H s) : ∃ m, Fr X.base X.env.locals s.heap m :=
  let ⟨m, hn, _⟩ := I.loc
  ⟨m, hn, I.bk, Nat.le_trans I.ok.bsz I.ok.above⟩
theorem Inv.lt (I : Inv X pins σ H s) : X.env.locals < s.heap.objs.size := let ⟨_, hn, _⟩ := I.loc; hn.lt
theorem Inv.sz (I : Inv X pins σ H s) : X.s₀.heap.objs.size ≤ s.heap.objs.size := Nat.le_trans I.ok.above (Nat.le_of_lt I.lt)
theorem Inv.nofs (I : Inv X pins σ H s) {a : Addr} (h : s.heap.objs.size ≤ a) : a ∉ X.fs := fun hb => by
  obtain ⟨_, o, ho, _⟩ := I.ok.funs.mem hb
  exact absurd (Nat.lt_of_lt_of_le (Heap.lt_size ho) (Nat.le_trans I.sz h)) (Nat.lt_irrefl _)
theorem Inv.cne (I : Inv X pins σ H s) : ∀ x c, X.env.cells.lookup x = some c → c ≠ X.env.locals := fun x c e z => by
  obtain ⟨v, o, ho, hd⟩ := I.cell x c e
  obtain ⟨m, ⟨o', es, ep, ho', hd', _⟩, _⟩ := I.loc
  rw [z, ho'] at ho; cases ho; rw [hd'] at hd; cases hd
theorem Inv.funs (I : Inv X pins σ H s) : s.heap.FunFrames X.base X.outer := by
  have all : ∀ (l : List Env), (∀ b ∈ frs l, b ∈ X.fs) → X.s₀.heap.FunFrames X.base l → s.heap.FunFrames X.base l := by
    intro l
    induction l with
    | nil => intro _ _; trivial
    | cons env r ih =>
      intro hs hl
      obtain ⟨hk, ⟨L, o, hf, hn, ho, hd⟩, hr⟩ := hl
      have hL : L ∈ X.fs := hs L (by unfold frs; rw [List.filterMap_cons, hf]; exact List.mem_cons_self)
      obtain ⟨sl, e⟩ := I.base.slot L o ho (I.ok.frf L hL) hL fun z => I.ok.exfs L z hL
      exact ⟨hk, ⟨L, _, hf, hn, e, hd⟩, ih (fun b hb => hs b (by unfold frs; rw [List.filterMap_cons, hf]; exact List.mem_cons_of_mem _ hb)) hr⟩
  exact all X.outer (fun _ hb => hb) I.ok.funs

theorem Inv.stack (I : Inv X pins σ H s) : s.heap.FunFrames X.base X.stack := by
  rcases I.ok.stk with e | ⟨e, hf⟩
  · rw [e]; exact I.funs
  · rw [e]
    obtain ⟨m, hn, _⟩ := I.loc
    refine .cons (by rw [I.ok.kind]; decide) hf hn ?_ I.funs
    exact Heap.get?_none_of_le (Nat.le_trans I.ok.bsz I.ok.above)
theorem Inv.stkSub (I : Inv X pins σ H s) : ∀ b ∈ frs X.stack, b ∈ X.env.locals :: X.fs := fun b hb => by
  rcases I.ok.stk with e | ⟨e, hf⟩
  · rw [e] at hb; exact List.mem_cons_of_mem _ hb
  · rw [e] at hb
    unfold frs at hb
    rw [List.filterMap_cons, hf] at hb
    exact hb
theorem Inv.stkFree (I : Inv X pins σ H s) : ∀ b ∈ frs X.stack, H b = none := fun b hb => by
  rcases List.mem_cons.mp (I.stkSub b hb) with e | hb
  · rw [e]; exact I.free
  · obtain ⟨_, o, ho, _⟩ := I.ok.funs.mem hb
    exact I.base.free b o ho (I.ok.frf b hb) fun z => I.ok.exfs b z hb

theorem Inv.step {g' : Array GenState} {t' : Nat} {d' : Drawn} {ch : List Addr} (I : Inv X pins σ H s)
    (hch : ∀ b ∈ ch, (b ∈ X.ex ∨ X.s₀.heap.objs.size ≤ b) ∧ b ≠ X.env.locals ∧ (∀ x c, X.env.cells.lookup x = some c → c ≠ b) ∧ ∀ p ∈ X.pn ++ pins, p.1 ≠ b)
    (keep : ∀ b o, b ≠ X.env.locals → b ∉ X.fs → b ∉ ch → s.heap.get? b = some o → H b = none → h'.get? b = some o)
    (slot : ∀ b o, b ≠ X.env.locals → b ∈ X.fs → b ∉ ch → s.heap.get? b = some o → H b = none → ∃ sl, h'.get? b = some { o with slots := sl }) (free : ∀ b o, b ∉ ch → s.heap.get? b = some o → H b = none → H' b = none)
    (there : ∀ b o, b ∉ ch → s.heap.get? b = some o → ∃ o', h'.get? b = some o')
    (tups : ∀ b xs, H b = some (.tup xs) → H' b = some (.tup xs)) (frzs : ∀ b o u, H b = some (.frz o u) → H' b = some (.frz o u)) (tbls : ∀ b ps, H b = some (.tbl ps) → ∃ more, H' b = some (.tbl (ps ++ more)))
    (ns : ∀ m, s.heap.Ns X.env.locals m → h'.Ns X.env.locals m) (hok : HOk X.prog X.w H' h') (hg : AllBare g') :
    Inv X pins σ H' { s with heap := h', gens := g', drawn := d', toks := t' } := by
  have neL : ∀ b o, X.s₀.heap.get? b = some o → b ≠ X.env.locals := fun b o e => Nat.ne_of_lt (Nat.lt_of_lt_of_le (Heap.lt_size e) I.ok.above)
  have neC : ∀ b o, X.s₀.heap.get? b = some o → b ∉ X.ex → b ∉ ch := fun b o e hx hb => by
    rcases (hch b hb).1 with z | z
    · exact hx z
    · exact absurd (Nat.lt_of_lt_of_le (Heap.lt_size e) z) (Nat.lt_irrefl _)
  have cellK : ∀ x c, X.env.cells.lookup x = some c → ∀ v, s.heap.IsCell c v → h'.IsCell c v := fun x c e v ⟨o, ho, hd⟩ => by
    have nch : c ∉ ch := fun z => (hch c z).2.2.1 x c e rfl
    by_cases hc : c ∈ X.fs
    · obtain ⟨sl, q⟩ := slot c o (I.cne x c e) hc nch ho (I.freeC x c e)
      exact ⟨_, q, hd⟩
    · exact ⟨o, keep c o (I.cne x c e) hc nch ho (I.freeC x c e), hd⟩
  refine ⟨I.ok, I.os, hg, ⟨fun b o e n hb hx => ?_, fun b o e n hb hx => ?_, fun b o e n hx => ?_, fun b o e hx => ?_, fun b xs e => tups b xs (I.base.tups b xs e), fun b o xs e => frzs b o xs (I.base.frzs b o xs e), fun b ps e => ?_⟩, ?_, fun x c e => ?_, ?_, fun x c e => ?_, fun p hp => ?_, hok, I.len⟩
  · exact keep b o (neL b o e) hb (neC b o e hx) (I.base.keep b o e n hb hx) (I.base.free b o e n hx)
  · obtain ⟨sl, e1⟩ := I.base.slot b o e n hb hx
    obtain ⟨sl', e2⟩ := slot b _ (neL b o e) hb (neC b o e hx) e1 (I.base.free b o e n hx)
    exact ⟨sl', e2⟩
  · obtain ⟨o', e1⟩ := I.base.there b o e hx
    exact free b o' (neC b o e hx) e1 (I.base.free b o e n hx)
  · obtain ⟨o', e1⟩ := I.base.there b o e hx
    exact there b o' (neC b o e hx) e1
  · obtain ⟨m1, e1⟩ := I.base.tbls b ps e
    obtain ⟨m2, e2⟩ := tbls b _ e1
    exact ⟨m1 ++ m2, by rw [e2, Array.append_assoc]⟩
  · obtain ⟨m, hn, hl⟩ := I.loc
    refine ⟨m, ns m hn, fun i x v e1 e2 e3 => ?_⟩
    obtain ⟨u, r, l⟩ := hl i x v e1 e2 e3
    refine ⟨u, r, ?_⟩
    rcases l with l | ⟨k, c, e, z⟩
    · exact .inl l
    · exact .inr ⟨k, c, e, cellK x c e _ z⟩
  · obtain ⟨v, z⟩ := I.cell x c e
    exact ⟨v, cellK x c e v z⟩
  · obtain ⟨m, ⟨o, _, _, ho, _⟩, _⟩ := I.loc
    exact free _ o (fun z => (hch _ z).2.1 rfl) ho I.free
  · obtain ⟨v, o, ho, hd⟩ := I.cell x c e
    exact free c o (fun z => (hch c z).2.2.1 x c e rfl) ho (I.freeC x c e)
  · obtain ⟨e, n, ne, nf, d⟩ := I.pin p hp
    have nch : p.1 ∉ ch := fun z => (hch p.1 z).2.2.2 p hp rfl
    exact ⟨keep p.1 p.2 ne nf nch e n, free p.1 p.2 nch e n, ne, nf, d⟩
theorem Inv.un {t' : Nat} (I : Inv X pins σ H s) (u : Un X.fs [] H H' s.heap h') (hok : HOk X.prog X.w H' h') : Inv X pins σ H' { s with heap := h', toks := t' } := by
  obtain ⟨m, ⟨o, es, ep, ho, r⟩, _⟩ := id I.loc
  obtain ⟨sl, hL⟩ := u.any ho I.free (by simp)
  exact I.step (g' := s.gens) (d' := s.drawn) (ch := []) (fun _ z => nomatch z) (fun b o _ hb _ e n => u.keep b o e n hb (by simp)) (fun b o _ hb _ e n => u.slot b o e n hb (by simp)) (fun b o _ e n => u.free b o e n (by simp)) (fun b o _ e => u.there b o e (by simp)) u.tups u.frzs u.tbls (fun m' hm => by
    obtain ⟨o', es', ep', ho', r'⟩ := hm
    rw [ho] at ho'; cases ho'
    exact ⟨_, es', ep', hL, r'⟩) hok I.bare
theorem Inv.call {g' : Array GenState} {t' : Nat} {d' : Drawn} {ch : List Addr} (I : Inv X pins σ H s) (u : Un (frs X.stack) ch H H' s.heap h') (hok : HOk X.prog X.w H' h') (hg : AllBare g')
    (hch : ∀ b ∈ ch, (b ∈ X.ex ∨ X.s₀.heap.objs.size ≤ b) ∧ b ≠ X.env.locals ∧ (∀ x c, X.env.cells.lookup x = some c → c ≠ b) ∧ ∀ p ∈ X.pn ++ pins, p.1 ≠ b) :
    Inv X pins σ H' { s with heap := h', gens := g', drawn := d', toks := t' } := by
  obtain ⟨m, ⟨o, es, ep, ho, r⟩, _⟩ := id I.loc
  obtain ⟨sl, hL⟩ := u.any ho I.free fun z => (hch _ z).2.1 rfl
  exact I.step (ch := ch) hch (fun b o hL hb hc e n => u.keep b o e n (fun z => (List.mem_cons.mp (I.stkSub b z)).elim hL hb) hc) (fun b o _ _ hc e n => u.any e n hc) (fun b o hc e n => u.free b o e n hc) (fun b o hc e => u.there b o e hc) u.tups u.frzs u.tbls (fun m' hm => by
    obtain ⟨o', es', ep', ho', r'⟩ := hm
    rw [ho] at ho'; cases ho'
    exact ⟨_, es', ep', hL, r'⟩) hok hg
theorem Inv.turned {t' : Nat} {it : Addr} (I : Inv X pins σ H s) (k : ∀ b o, b ≠ it → s.heap.get? b = some o → h'.get? b = some o) (hn : H it = none) (hL : it ≠ X.env.locals)
    (h1 : it ∈ X.ex ∨ X.s₀.heap.objs.size ≤ it) (h2 : ∀ x c, X.env.cells.lookup x = some c → c ≠ it) (h3 : ∀ p ∈ X.pn ++ pins, p.1 ≠ it) : Inv X pins σ H { s with heap := h', toks := t' } := by
  have nit : ∀ b u, H b = some u → b ≠ it := fun b u e z => by rw [z, hn] at e; cases e
  refine I.step (g' := s.gens) (d' := s.drawn) (ch := [it]) (fun b hb => ?_) (fun b o _ _ hc e _ => k b o (fun z => hc (by simp [z])) e) (fun b o _ _ hc e _ => ⟨o.slots, k b o (fun z => hc (by simp [z])) e⟩) (fun _ _ _ _ n => n)
    (fun b o hc e => ⟨o, k b o (fun z => hc (by simp [z])) e⟩) (fun _ _ e => e) (fun _ _ _ e => e) (fun b ps e => ⟨#[], by rw [e]; simp⟩) (fun m hm => ?_) (fun b u e => ?_) I.bare
  · have e : b = it := by simpa using hb
    subst e
    exact ⟨h1, hL, h2, h3⟩
  · obtain ⟨o, es, ep, ho, r⟩ := hm
    exact ⟨o, es, ep, k _ o (Ne.symm hL) ho, r⟩
  · refine (I.hok b u e).stay (fun c v hc q => k c v ?_ q) (fun _ q => q) fun _ _ q => q
    rcases hc with z | z
    · rw [z]; exact nit b u e
    · exact nit c _ z
theorem Inv.tok (I : Inv X pins σ H s) (t : Nat) : Inv X pins σ H { s with toks := t } := I.un (h' := s.heap) (t' := t) Un.refl I.hok
theorem Inv.kept {t' : Nat} (I : Inv X pins σ H s) (k : ∀ b u, s.heap.get? b = some u → h'.get? b = some u) : Inv X pins σ H { s with heap := h', toks := t' } := I.un (Un.kept k) (I.hok.kept k)
theorem Inv.laid {a : Addr} {o : HO} {t' : Nat} (I : Inv X pins σ H s) (k : ∀ b u, s.heap.get? b = some u → h'.get? b = some u) (hp : s.heap.objs.size ≤ a) (new : ObjOk X.prog X.w (upd H a o) h' a o) :
    Inv X pins σ (upd H a o) { s with heap := h', toks := t' } := I.un (Un.laid k hp (I.hok.fresh hp)) (I.hok.laid k hp new)
theorem Inv.write {x e : Addr} {o : HO} {t' : Nat} (I : Inv X pins σ H s) (mu : Mut (H x)) (he : e = x ∨ H e = some (.own x)) (k : ∀ b u, b ≠ e → s.heap.get? b = some u → h'.get? b = some u) (heo : ∃ u, h'.get? e = some u)
    (new : ObjOk X.prog X.w (upd H x o) h' x o) : Inv X pins σ (upd H x o) { s with heap := h', toks := t' } := I.un (Un.write mu he k heo) (I.hok.write mu he k heo new)
theorem Inv.weak {σ' : List (Option V)} (I : Inv X pins σ H s) (hl : σ'.length = σ.length) (w : ∀ (i : Nat) v, σ'[i]? = some (some v) → σ[i]? = some (some v)) : Inv X pins σ' H s :=
  ⟨I.ok, I.os, I.bare, I.base, let ⟨m, hn, hl'⟩ := I.loc; ⟨m, hn, fun i x v e1 e2 e3 => hl' i x v e1 (w i v e2) e3⟩, I.cell, I.free, I.freeC, I.pin, I.hok, hl.trans I.len⟩
theorem Inv.pins_of {pins' : List (Addr × Obj)} (I : Inv X pins σ H s) (h : ∀ p ∈ pins', s.heap.get? p.1 = some p.2 ∧ H p.1 = none ∧ p.1 ≠ X.env.locals ∧ p.1 ∉ X.fs ∧ ∀ v, p.2.data ≠ .cell v) : Inv X pins' σ H s :=
  ⟨I.ok, I.os, I.bare, I.base, I.loc, I.cell, I.free, I.freeC, fun p hp => (List.mem_append.mp hp).elim (fun z => I.pin p (List.mem_append_left _ z)) (h p), I.hok, I.len⟩

theorem nodup_ix {N : List Str} (hN : N.Nodup) {i j : Nat} {x : Str} (a : N[i]? = some x) (b : N[j]? = some x) : i = j := by
  obtain ⟨h1, e1⟩ := List.getElem?_eq_some_iff.mp a
  obtain ⟨h2, e2⟩ := List.getElem?_eq_some_iff.mp b
  exact (List.getElem_inj hN).mp (e1.trans e2.symm)

theorem store_ok2 {M : Model} {A : Around} {E : Value → Shared → Prop} {i : Nat} {x : Str} {v : V} {u : Value} {Q : Unit → Shared → Prop} (I : Inv X pins σ H s) (hN : X.N.Nodup) (hi : X.N[i]? = some x) (hx : Loc X.env.scope x) (r : RelV v u)
    (h : ∀ s', Inv X pins (σ.set i (some v)) H s' → (∃ a, Heap.SameBut a s.heap s'.heap ∧ (a = X.env.locals ∨ X.env.cells.lookup x = some a)) → Q () s') (hf : X.fn x = true ∨ X.env.scope.names.lookup x = some .local := by first | exact .inl rfl | exact .inr rfl | assumption) : wpAny M A (storeName X.env x u) Q E s := by
  obtain ⟨m, hn, hl⟩ := id I.loc
  have hcls : (X.env.scope.kind == .class || (X.env.scope.kind == .module && X.env.locals != X.env.globals)) = false := by rw [I.ok.kind]; rfl
  have hiσ : i < σ.length := by rw [I.len]; exact (List.getElem?_eq_some_iff.mp hi).1
  have cne := I.cne
  have tracked : ∀ {a : Addr} {h' : Heap}, (∃ o, s.heap.get? a = some o ∧ H a = none) → Heap.SameBut a s.heap h' → HOk X.prog X.w H h' := fun {a h'} ha hs b ob e => by
    obtain ⟨_, _, hfree⟩ := ha
    refine (I.hok b ob e).stay (fun c w' hc q => (hs.2 c ?_).trans q) (fun _ q => q) fun _ _ q => q
    rintro rfl
    rcases hc with rfl | hc
    · rw [hfree] at e; cases e
    · rw [hfree] at hc; cases hc
  rcases hx with hk | hk
  · refine wpAny_storeName_local hk hn (fun h' hn' hs => ?_) hcls
    obtain ⟨oL, _, _, hoL, _⟩ := id hn
    refine h _ ⟨I.ok, I.os, I.bare, ⟨fun b o e n hb hx => ?_, fun b o e n hb hx => ?_, I.base.free, fun b o e hx => ?_, I.base.tups, I.base.frzs, I.base.tbls⟩, ⟨_, hn', fun j y v' e1 e2 e3 => ?_⟩, fun y c e => ?_, I.free, I.freeC, fun p hp => ?_, tracked ⟨oL, hoL, I.free⟩ hs, by simpa using I.len⟩ ⟨_, hs, .inl rfl⟩
    · exact (hs.2 b (Nat.ne_of_lt (Nat.lt_of_lt_of_le (Heap.lt_size e) I.ok.above))).trans (I.base.keep b o e n hb hx)
    · obtain ⟨sl, e1⟩ := I.base.slot b o e n hb hx
      exact ⟨sl, (hs.2 b (Nat.ne_of_lt (Nat.lt_of_lt_of_le (Heap.lt_size e) I.ok.above))).trans e1⟩
    · obtain ⟨o', e1⟩ := I.base.there b o e hx
      exact ⟨o', (hs.2 b (Nat.ne_of_lt (Nat.lt_of_lt_of_le (Heap.lt_size e) I.ok.above))).trans e1⟩
    · by_cases hj : j = i
      · subst hj
        rw [hi] at e1; cases e1
        rw [List.getElem?_set_self hiσ] at e2
        cases e2
        exact ⟨u, r, .inl ⟨hk, by simp⟩⟩
      · rw [List.getElem?_set_ne (Ne.symm hj)] at e2
        obtain ⟨u', r', q⟩ := hl j y v' e1 e2 e3
        refine ⟨u', r', ?_⟩
        rcases q with ⟨k, e⟩ | ⟨k, c, e, z⟩
        · refine .inl ⟨k, ?_⟩
          have : y ≠ x := fun e => hj (nodup_ix hN e1 (e ▸ hi))
          simp [this, e]
        · exact .inr ⟨k, c, e, z.sameBut hs (cne y c e)⟩
    · obtain ⟨w', z⟩ := I.cell y c e
      exact ⟨w', z.sameBut hs (cne y c e)⟩
    · obtain ⟨e, n, ne, nf, d⟩ := I.pin p hp
      exact ⟨(hs.2 p.1 ne).trans e, n, ne, nf, d⟩
  · have hfn : X.fn x = true := by
      rcases hf with z | z
      · exact z
      · rw [z] at hk; cases hk
    obtain ⟨c, hc⟩ := I.ok.has x (.inl hk)
    obtain ⟨w', z⟩ := I.cell x c hc
    refine wpAny_storeName_cell I.ok.kind hk hc z (fun h' hc' hs => ?_)
    obtain ⟨oc, hoc, hocd⟩ := id z
    refine h { s with heap := h' } ⟨I.ok, I.os, I.bare, ⟨fun b o e n hb hx => ?_, fun b o e n hb hx => ?_, I.base.free, fun b o e hx => ?_, I.base.tups, I.base.frzs, I.base.tbls⟩, ⟨m, hn.sameBut hs (Ne.symm (cne x c hc)), fun j y v' e1 e2 e3 => ?_⟩, fun y c' e => ?_, I.free, I.freeC, fun p hp => ?_, tracked ⟨oc, hoc, I.freeC x c hc⟩ hs, by simpa using I.len⟩ ⟨c, hs, .inr hc⟩
    · exact (hs.2 b (Nat.ne_of_lt (Nat.lt_of_lt_of_le (Heap.lt_size e) (I.ok.cab x c hfn hc)))).trans (I.base.keep b o e n hb hx)
    · obtain ⟨sl, e1⟩ := I.base.slot b o e n hb hx
      exact ⟨sl, (hs.2 b (Nat.ne_of_lt (Nat.lt_of_lt_of_le (Heap.lt_size e) (I.ok.cab x c hfn hc)))).trans e1⟩
    · obtain ⟨o', e1⟩ := I.base.there b o e hx
      exact ⟨o', (hs.2 b (Nat.ne_of_lt (Nat.lt_of_lt_of_le (Heap.lt_size e) (I.ok.cab x c hfn hc)))).trans e1⟩
    · by_cases hj : j = i
      · subst hj
        rw [hi] at e1; cases e1
        rw [List.getElem?_set_self hiσ] at e2
        cases e2
        exact ⟨u, r, .inr ⟨.inl hk, c, hc, hc'⟩⟩
      · rw [List.getElem?_set_ne (Ne.symm hj)] at e2
        obtain ⟨u', r', q⟩ := hl j y v' e1 e2 e3
        refine ⟨u', r', ?_⟩
        rcases q with q | ⟨k, c', e, z'⟩
        · exact .inl q
        · refine .inr ⟨k, c', e, z'.sameBut hs ?_⟩
          rintro rfl
          exact hj (nodup_ix hN e1 (I.ok.inj _ _ _ e hc ▸ hi))
    · by_cases hcc : c' = c
      · subst hcc; exact ⟨_, hc'⟩
      · obtain ⟨w2, z2⟩ := I.cell y c' e
        exact ⟨w2, z2.sameBut hs hcc⟩
    · obtain ⟨e, n, ne, nf, d⟩ := I.pin p hp
      refine ⟨(hs.2 p.1 ?_).trans e, n, ne, nf, d⟩
      intro q
      rw [q, hoc] at e
      have q' : oc = p.2 := Option.some.inj e
      exact d w' (by rw [← q']; exact hocd)
theorem store_ok {M : Model} {A : Around} {E : Value → Shared → Prop} {i : Nat} {x : Str} {v : V} {u : Value} {Q : Unit → Shared → Prop} (I : Inv X pins σ H s) (hN : X.N.Nodup) (hi : X.N[i]? = some x) (hx : Loc X.env.scope x) (r : RelV v u)
    (h : ∀ s', Inv X pins (σ.set i (some v)) H s' → Q () s') (hf : X.fn x = true ∨ X.env.scope.names.lookup x = some .local := by first | exact .inl rfl | exact .inr rfl | assumption) : wpAny M A (storeName X.env x u) Q E s :=
  store_ok2 I hN hi hx r (fun s' I' _ => h s' I') hf
theorem Inv.call' {s' : Shared} {ch : List Addr} (I : Inv X pins σ H s) (ho : s'.os = s.os) (u : Un (frs X.stack) ch H H' s.heap s'.heap) (hok : HOk X.prog X.w H' s'.heap) (hg : AllBare s'.gens)
    (hch : ∀ b ∈ ch, (b ∈ X.ex ∨ X.s₀.heap.objs.size ≤ b) ∧ b ≠ X.env.locals ∧ (∀ x c, X.env.cells.lookup x = some c → c ≠ b) ∧ ∀ p ∈ X.pn ++ pins, p.1 ≠ b) : Inv X pins σ H' s' := by
  obtain ⟨h', g', d', t', o'⟩ := s'
  have e : o' = s.os := ho
  subst e
  exact I.call (g' := g') (t' := t') (d' := d') u hok hg hch
end

abbrev XK := Value → Option Addr → Hp → Prop
abbrev St := List (Option V)
abbrev VK := V → Hp → Prop
abbrev TE := St → Hp → VK → Prop
abbrev TT := St → Hp → (Bool → Hp → Prop) → Prop
abbrev TA := St → Hp → (List V → Hp → Prop) → Prop
structure Ends where
  nx : St → Hp → Prop
  rt : VK
  bk : St → Hp → Prop := fun _ _ => False
  ct : St → Hp → Prop := fun _ _ => False
abbrev TS := Ends → St → Hp → Prop

def EP (X : Cx) (pins : List (Addr × Obj)) (σ : St) (Q : VK) (u : Value) (s' : Shared) : Prop := ∃ v H', Inv X pins σ H' s' ∧ RelV v u ∧ Q v H'
def TP (X : Cx) (pins : List (Addr × Obj)) (σ : St) (Q : Bool → Hp → Prop) (b : Bool) (s' : Shared) : Prop := ∃ H', Inv X pins σ H' s' ∧ Q b H'
def AP (X : Cx) (pins : List (Addr × Obj)) (σ : St) (Q : List V → Hp → Prop) (us : List Value) (s' : Shared) : Prop := ∃ vs H', Inv X pins σ H' s' ∧ Vals vs us ∧ Q vs H'
def SP (X : Cx) (pins : List (Addr × Obj)) (D : Ends) (f : Flow) (s' : Shared) : Prop :=
  match f with
  | .next => ∃ σ' H', Inv X pins σ' H' s' ∧ D.nx σ' H'
  | .brk => ∃ σ' H', Inv X pins σ' H' s' ∧ D.bk σ' H'
  | .cont => ∃ σ' H', Inv X pins σ' H' s' ∧ D.ct σ' H'
  | .ret u => ∃ v σ' H', Inv X pins σ' H' s' ∧ RelV v u ∧ D.rt v H'

def PE (X : Cx) (e : Expr) (t : TE) : Prop :=
  ∀ (pins : List (Addr × Obj)) (s : Shared) (σ : St) (H : Hp) (Q : VK), Inv X pins σ H s → t σ H Q → wpAny (model X.prog X.w) X.A (eval e X.env) (EP X pins σ Q) X.xe s
def PT (X : Cx) (e : Expr) (t : TT) : Prop :=
  ∀ (pins : List (Addr × Obj)) (s : Shared) (σ : St) (H : Hp) (Q : Bool → Hp → Prop), Inv X pins σ H s → t σ H Q → wpAny (model X.prog X.w) X.A (isTrue e X.env (eval e X.env)) (TP X pins σ Q) X.xe s
def PW (X : Cx) (e : Expr) (t : TT) : Prop :=
  ∀ (whole : Sem Value) (pins : List (Addr × Obj)) (s : Shared) (σ : St) (H : Hp) (Q : Bool → Hp → Prop), Inv X pins σ H s → t σ H Q → wpAny (model X.prog X.w) X.A (isTrue e X.env whole) (TP X pins σ Q) X.xe s
theorem PW.pt {X : Cx} {e : Expr} {t : TT} (h : PW X e t) : PT X e t := h _
def PA (X : Cx) (es : List Expr) (t : TA) : Prop :=
  ∀ (pos : Pos) (pins : List (Addr × Obj)) (s : Shared) (σ : St) (H : Hp) (Q : List V → Hp → Prop), Inv X pins σ H s → t σ H Q → wpAny (model X.prog X.w) X.A (spliced (backTo pos (starEach es X.env))) (AP X pins σ Q) X.xe s
def PS (X : Cx) (st : Stmt) (t : TS) : Prop :=
  ∀ (pins : List (Addr × Obj)) (s : Shared) (σ : St) (H : Hp) (D : Ends), Inv X pins σ H s → t D σ H → wpAny (model X.prog X.w) X.A (exec st X.env) (SP X pins D) X.xe s
def PSs (X : Cx) (st : List Stmt) (t : TS) : Prop :=
  ∀ (pins : List (Addr × Obj)) (s : Shared) (σ : St) (H : Hp) (D : Ends), Inv X pins σ H s → t D σ H → wpAny (model X.prog X.w) X.A (execs st X.env) (SP X pins D) X.xe s
theorem thn {α : Type} {t : Sem α} {Q Q' : α → Shared → Prop} {M : Model} {A : Around} {E : Value → Shared → Prop} {s : Shared} (h : wpAny M A t Q E s) (hQ : ∀ a s, Q a s → Q' a s) : wpAny M A t Q' E s := wpAny_mono h hQ fun _ _ x => x
end L2

namespace L2
open PySem PySem.Spec PyProof.Rows
section
variable {X : Cx}

def tVar (i : Nat) : TE := fun σ H Q => ∃ v, σ[i]? = some (some v) ∧ Q v H
def tC (v : V) : TE := fun _ H Q => Q v H
theorem pe_var {i : Nat} {x : Str} {pos : Pos} (hN : X.N[i]? = some x) (hv : Vis X.env.scope x) (hd : (x == ("__debug__" : Str)) = false := by decide) (hcd : (x == ("__classdict__" : Str)) = false := by decide) : PE X (.Name x pos) (tVar i) := by
  intro pins s σ H Q I h
  obtain ⟨v, e, h⟩ := h
  obtain ⟨m, hn, hl⟩ := I.loc
  obtain ⟨u, r, l⟩ := hl i x v hN e hv
  have fin : EP X pins σ Q u s := ⟨v, H, I, r, h⟩
  rcases l with ⟨hk, hm⟩ | ⟨hk, c, hc, hcell⟩
  · exact wpAny_Name (wpAny_loadName_local I.ok.kind hk hn hm fin) hd
  · rcases hk with hk | hk
    · exact wpAny_Name (wpAny_loadName_cell I.ok.kind hk hc hcell fin) hd
    · exact wpAny_Name (wpAny_loadName_free I.ok.kind hk hc hcell fin hcd) hd
theorem pe_int {i j pos} : PE X (.Constant (.int i) j pos) (tC (.int i)) := fun _ _ _ H _ I h => wpAny_Constant_int ⟨.int i, H, I.tok _, ⟨_, rfl⟩, h⟩
theorem pe_bl {b j pos} : PE X (.Constant (.bool b) j pos) (tC (.bl b)) := fun _ _ _ H _ I h => Constant_bool ⟨.bl b, H, I, rfl, h⟩
theorem pe_non {j pos} : PE X (.Constant .none j pos) (tC .non) := fun _ _ _ H _ I h => Constant_none ⟨.non, H, I, rfl, h⟩
theorem pe_str {x j pos} : PE X (.Constant (.str x) j pos) (tC (.str x)) := fun _ _ _ H _ I h => Calls.Constant_str ⟨.str x, H, I.tok _, ⟨_, rfl⟩, h⟩

def Gl (X : Cx) (x : Str) : Prop := X.env.kindOf x = some .globalImplicit
theorem ld_glob {E : Value → Shared → Prop} {pins : List (Addr × Obj)} {s : Shared} {σ : St} {H : Hp} {x : Str} {u : Value} {pos : Pos} {Q : Value → Shared → Prop} (I : Inv X pins σ H s) (hg : Gl X x) (hm : X.mg x = some u) (h : Q u s)
    (hd : (x == ("__debug__" : Str)) = false := by decide) : wpAny (model X.prog X.w) X.A (eval (.Name x pos) X.env) Q E s :=
  Calls.Name_function_global I.ok.kind hg (Calls.loadGlobal_global (by rw [I.ok.glob]; exact I.mod.glob.keeps I.bk) hm h) hd
theorem ld_blt {E : Value → Shared → Prop} {pins : List (Addr × Obj)} {s : Shared} {σ : St} {H : Hp} {x : Str} {u : Value} {pos : Pos} {Q : Value → Shared → Prop} (I : Inv X pins σ H s) (hg : Gl X x) (hm : X.mg x = none) (hv : bootBuiltins x = some u) (h : Q u s)
    (hn : x ≠ "__name__" := by decide) (hd : (x == ("__debug__" : Str)) = false := by decide) : wpAny (model X.prog X.w) X.A (eval (.Name x pos) X.env) Q E s := by
  obtain ⟨mb, h1, h2⟩ := I.mod.blt
  exact Calls.Name_function_global I.ok.kind hg (Calls.loadGlobal_builtin (by rw [I.ok.glob]; exact I.mod.glob.keeps I.bk) hm (by rw [I.ok.blt]; exact h1.keeps I.bk) ((h2 x hn).trans hv) h) hd
theorem pe_glob {x : Str} {v : V} {u : Value} {pos : Pos} (hg : Gl X x) (hm : X.mg x = some u) (r : RelV v u) (hd : (x == ("__debug__" : Str)) = false := by decide) : PE X (.Name x pos) (tC v) :=
  fun _ _ _ H _ I h => ld_glob I hg hm ⟨v, H, I, r, h⟩ hd
theorem pe_bltn {x : Str} {v : V} {u : Value} {pos : Pos} (hg : Gl X x) (hm : X.mg x = none) (hv : bootBuiltins x = some u) (r : RelV v u) (hn : x ≠ "__name__" := by decide) (hd : (x == ("__debug__" : Str)) = false := by decide) : PE X (.Name x pos) (tC v) :=
  fun _ _ _ H _ I h => ld_blt I hg hm hv ⟨v, H, I, r, h⟩ hn hd

variable {a b : Expr} {ta tb : TE} {pos : Pos}
def PC (X : Cx) (op : CmpOp) (a b : Expr) (t : TE) : Prop :=
  ∀ (pins : List (Addr × Obj)) (s : Shared) (σ : St) (H : Hp) (Q : VK), Inv X pins σ H s → t σ H Q →
    wpAny (model X.prog X.w) X.A (eval a X.env) (fun v s₁ => wpAny (model X.prog X.w) X.A (eval b X.env) (fun u s₂ => wpAny (model X.prog X.w) X.A (compareOp op v u) (EP X pins σ Q) X.xe s₂) X.xe s₁) X.xe s
def tB (t : TE) : TT := fun σ H Q => t σ H fun x H1 => ∃ c, x = .bl c ∧ Q c H1
theorem pt_cmp {op : CmpOp} {t : TE} (h : PC X op a b t) (h1 : behindInMarks op b = false := by first | exact nobehind _ (by decide) (by decide) | rfl) : PT X (.Compare a [op] [b] pos) (tB t) := by
  intro pins s σ H Q I hw
  refine wpAny_isTrue_Compare1 (thn (h pins s σ H _ I hw) fun v s1 h1 => thn h1 fun u s2 h2 => thn h2 fun c s3 ⟨x, H1, I1, r1, q1⟩ => ?_) h1
  obtain ⟨d, rfl, q⟩ := q1
  cases r1
  exact wpAny_truthy_bool ⟨H1, I1, q⟩
theorem pt_val {e : Expr} {t : TE} (h : PE X e t) (he : ∀ whole, isTrue e X.env whole = (do let v ← whole; standAt e.pos; holding [v] (truthy v)) := by intro _; rfl) : PT X e (tB t) := by
  intro pins s σ H Q I hw
  refine isTrue_plain (thn (h pins s σ H _ I hw) fun v s1 ⟨x, H1, I1, r1, q1⟩ => ?_) (he _)
  obtain ⟨d, rfl, q⟩ := q1
  cases r1
  exact wpAny_truthy_bool ⟨H1, I1, q⟩

variable {tA tB' : TT} {rest : List Expr}
def tAnd (t u : TT) : TT := fun σ H Q => t σ H fun c H1 => if c = true then u σ H1 Q else Q false H1
def tOr (t u : TT) : TT := fun σ H Q => t σ H fun c H1 => if c = true then Q true H1 else u σ H1 Q
def tNot (t : TT) : TT := fun σ H Q => t σ H fun c H1 => Q (!c) H1
theorem pw_and1 (ha : PT X a tA) : PW X (.BoolOp .And [a] pos) tA := by
  intro wh pins s σ H Q I h
  refine isTrue_and (thn (ha pins s σ H Q I h) fun c s1 e => ?_)
  cases c with
  | true => exact isTrue_and_nil e
  | false => exact e
theorem pw_or1 (ha : PT X a tA) : PW X (.BoolOp .Or [a] pos) tA := by
  intro wh pins s σ H Q I h
  refine isTrue_or (thn (ha pins s σ H Q I h) fun c s1 e => ?_)
  cases c with
  | false => exact isTrue_or_nil e
  | true => exact e
theorem pw_and (ha : PT X a tA) (hb : PW X (.BoolOp .And (b :: rest) pos) tB') : PW X (.BoolOp .And (a :: b :: rest) pos) (tAnd tA tB') := by
  intro wh pins s σ H Q I h
  refine isTrue_and (thn (ha pins s σ H _ I h) fun c s1 ⟨H1, I1, q1⟩ => ?_)
  cases c with
  | true => exact hb wh pins s1 σ H1 Q I1 q1
  | false => exact ⟨H1, I1, q1⟩
theorem pw_or (ha : PT X a tA) (hb : PW X (.BoolOp .Or (b :: rest) pos) tB') : PW X (.BoolOp .Or (a :: b :: rest) pos) (tOr tA tB') := by
  intro wh pins s σ H Q I h
  refine isTrue_or (thn (ha pins s σ H _ I h) fun c s1 ⟨H1, I1, q1⟩ => ?_)
  cases c with
  | true => exact ⟨H1, I1, q1⟩
  | false => exact hb wh pins s1 σ H1 Q I1 q1
theorem pt_not (ha : PT X a tA) : PT X (.UnaryOp .Not a pos) (tNot tA) := by
  intro pins s σ H Q I h
  exact isTrue_not (ha pins s σ H (fun c H1 => Q (!c) H1) I h)
def tAndV (ta tb : TE) : TE := fun σ H Q => ta σ H fun x H1 => ∃ c, x = .bl c ∧ if c = true then tb σ H1 Q else Q (.bl false) H1
def tNotV (ta : TE) : TE := fun σ H Q => ta σ H fun x H1 => ∃ c, x = .bl c ∧ Q (.bl (!c)) H1
theorem pe_one {op} {t : TE} (h : PE X a t) : PE X (.BoolOp op [a] pos) t := fun pins s σ H Q I hw => BoolOp_one (h pins s σ H Q I hw)
theorem pe_and (ha : PE X a ta) (hb : PE X (.BoolOp .And (b :: rest) pos) tb) : PE X (.BoolOp .And (a :: b :: rest) pos) (tAndV ta tb) := by
  intro pins s σ H Q I h
  refine BoolOp_and (thn (ha pins s σ H _ I h) fun v s1 ⟨x, H1, I1, r1, q1⟩ => ?_)
  obtain ⟨c, rfl, q1⟩ := q1
  cases r1
  refine wpAny_truthy_bool ?_
  cases c with
  | true => exact hb pins s1 σ H1 Q I1 q1
  | false => exact ⟨.bl false, H1, I1, rfl, q1⟩
theorem pe_not (ha : PE X a ta) : PE X (.UnaryOp .Not a pos) (tNotV ta) := by
  intro pins s σ H Q I h
  refine UnaryOp_ (thn (ha pins s σ H _ I h) fun v s1 ⟨x, H1, I1, r1, q1⟩ => ?_)
  obtain ⟨c, rfl, q1⟩ := q1
  cases r1
  exact not_of (wpAny_truthy_bool ⟨.bl (!c), H1, I1, rfl, q1⟩)
end
end L2

namespace L2
open PySem PySem.Spec PyProof.Rows

def SqL (K : PySem.W.Frag) (H : Hp) (a : Addr) (xs : List V) : Prop :=
  Rd H a (.lst xs) ∨
    ∃ (o : Obj) (its : Array Value) (n : Nat), K.lookup a = some o ∧ o.cls = .type "list" ∧ o.dict = none ∧ o.data = .seq its n ∧ its.size ≤ sizeLine ∧ Vals xs its.toList
def SqT (K : PySem.W.Frag) (H : Hp) (a : Addr) (xs : List V) : Prop :=
  Rd H a (.tup xs) ∨
    ∃ (o : Obj) (its : Array Value) (n : Nat), K.lookup a = some o ∧ o.cls = .type "tuple" ∧ o.data = .seq its n ∧ its.size ≤ sizeLine ∧ Vals xs its.toList
def absV : Value → Option V
  | .none => some .non
  | .bool b => some (.bl b)
  | .int i _ => some (.int i)
  | .str x _ => some (.str x)
  | .bytes b _ => some (.byt b)
  | .float b _ => some (.flt b)
  | .ref a => some (.ref a)
  | .type n => some (.ty n)
  | _ => none
theorem RelV.abs {x : V} {u : Value} (r : RelV x u) : absV u = some x := by
  cases x with
  | non => cases r; rfl
  | bl _ => cases r; rfl
  | int _ => obtain ⟨t, rfl⟩ := r; rfl
  | str _ => obtain ⟨t, rfl⟩ := r; rfl
  | byt _ => obtain ⟨t, rfl⟩ := r; rfl
  | flt _ => obtain ⟨t, rfl⟩ := r; rfl
  | ref _ => cases r; rfl
  | ty _ => cases r; rfl
theorem RelV.inj {x y : V} {u : Value} (r : RelV x u) (q : RelV y u) : x = y := Option.some.inj (r.abs.symm.trans q.abs)
theorem Vals.inj : ∀ {xs ys : List V} {us : List Value}, Vals xs us → Vals ys us → xs = ys
  | _, _, _, .nil, .nil => rfl
  | _, _, _, .cons r t, .cons r' t' => by rw [r.inj r', Vals.inj t t']
section
variable {X : Cx} {pins : List (Addr × Obj)} {σ : St} {H : Hp} {s : Shared} {a : Addr} {xs ys : List V}
theorem SqL.of {K : PySem.W.Frag} (h : H a = some (.lst xs)) : SqL K H a xs := .inl (.inl h)
theorem SqT.of {K : PySem.W.Frag} (h : H a = some (.tup xs)) : SqT K H a xs := .inl (.inl h)
theorem Inv.list (I : Inv X pins σ H s) (h : SqL X.K H a xs) : ∃ its : List Value, Vals xs its ∧ PlainL s.heap a its.toArray ∧ xs.length ≤ sizeLine := by
  rcases h with h | ⟨o, its, n, hk, hc, hd, hs, hz, r⟩
  · obtain ⟨z, its, n, r, e⟩ := h.ok I.hok
    exact ⟨its, r, ⟨_, n, e, rfl, rfl, rfl⟩, z⟩
  · refine ⟨its.toList, r, ⟨o, n, I.kIn a o hk, hc, hd, by simpa using hs⟩, ?_⟩
    have e := r.length
    simp only [Array.length_toList] at e
    omega
theorem Inv.tuple (I : Inv X pins σ H s) (h : SqT X.K H a xs) : ∃ its : List Value, Vals xs its ∧ IsTup s.heap a its.toArray ∧ xs.length ≤ sizeLine := by
  rcases h with h | ⟨o, its, n, hk, hc, hs, hz, r⟩
  · obtain ⟨z, its, r, p⟩ := h.ok I.hok
    exact ⟨its, r, p, z⟩
  · refine ⟨its.toList, r, ⟨o, I.kIn a o hk, hc, n, by simpa using hs⟩, ?_⟩
    have e := r.length
    simp only [Array.length_toList] at e
    omega
theorem Inv.list_inj (I : Inv X pins σ H s) (h : SqL X.K H a xs) (h' : SqL X.K H a ys) : xs = ys := by
  obtain ⟨its, r, ⟨o, n, e, _, _, d⟩, _⟩ := I.list h
  obtain ⟨its', r', ⟨o', n', e', _, _, d'⟩, _⟩ := I.list h'
  rw [e] at e'; cases e'
  rw [d] at d'
  injection d' with d1 _
  have : its = its' := by simpa using congrArg Array.toList d1
  subst this
  exact r.inj r'
end

abbrev Cx.wish (X : Cx) (E : Value → Shared → Prop) : Cx := { X with xe := E }
abbrev Cx.nox (X : Cx) : Cx := X.wish fun _ _ => False
theorem Cx.Ok.wish {X : Cx} (ok : X.Ok) (E : Value → Shared → Prop) : (X.wish E).Ok :=
  ⟨ok.mod, ok.kind, ok.glob, ok.blt, ok.above, ok.inj, ok.has, ok.cab, ok.hd, ok.frames, ok.stk, ok.exf, ok.bs, ok.bsz, ok.noex, ok.exfs, ok.funs, ok.frf⟩
theorem Cx.Ok.unwish {X : Cx} {E : Value → Shared → Prop} (ok : (X.wish E).Ok) : X.Ok :=
  ⟨ok.mod, ok.kind, ok.glob, ok.blt, ok.above, ok.inj, ok.has, ok.cab, ok.hd, ok.frames, ok.stk, ok.exf, ok.bs, ok.bsz, ok.noex, ok.exfs, ok.funs, ok.frf⟩
section
variable {X : Cx} {pins : List (Addr × Obj)} {σ : St} {H : Hp} {s : Shared} {E : Value → Shared → Prop}
theorem Inv.wish (I : Inv X pins σ H s) (E : Value → Shared → Prop) : Inv (X.wish E) pins σ H s := ⟨I.ok.wish E, I.os, I.bare, I.base, I.loc, I.cell, I.free, I.freeC, I.pin, I.hok, I.len⟩
theorem Inv.unwish (I : Inv (X.wish E) pins σ H s) : Inv X pins σ H s := ⟨I.ok.unwish, I.os, I.bare, I.base, I.loc, I.cell, I.free, I.freeC, I.pin, I.hok, I.len⟩
theorem SP.unwish {D : Ends} {f : Flow} {s' : Shared} (h : SP (X.wish E) pins D f s') : SP X pins D f s' := by
  cases f with
  | next => obtain ⟨σ', H', I, q⟩ := h; exact ⟨σ', H', I.unwish, q⟩
  | brk => obtain ⟨σ', H', I, q⟩ := h; exact ⟨σ', H', I.unwish, q⟩
  | cont => obtain ⟨σ', H', I, q⟩ := h; exact ⟨σ', H', I.unwish, q⟩
  | ret u => obtain ⟨v, σ', H', I, r, q⟩ := h; exact ⟨v, σ', H', I.unwish, r, q⟩
theorem PE.nox {e : Expr} {t : TE} (h : PE X.nox e t) : PE X e t := fun pins s σ H Q I hw =>
  wpAny_mono (h pins s σ H Q (I.wish _) hw) (fun _ _ ⟨v, H', I', r, q⟩ => ⟨v, H', I'.unwish, r, q⟩) fun _ _ z => False.elim z
theorem PT.nox {e : Expr} {t : TT} (h : PT X.nox e t) : PT X e t := fun pins s σ H Q I hw =>
  wpAny_mono (h pins s σ H Q (I.wish _) hw) (fun _ _ ⟨H', I', q⟩ => ⟨H', I'.unwish, q⟩) fun _ _ z => False.elim z
theorem PSs.nox {st : List Stmt} {t : TS} (h : PSs X.nox st t) : PSs X st t := fun pins s σ H D I hw =>
  wpAny_mono (h pins s σ H D (I.wish _) hw) (fun _ _ q => q.unwish) fun _ _ z => False.elim z
end

section
variable {X : Cx} {st : Stmt} {rest : List Stmt} {t u : TS} {e : Expr} {te : TE} {pos : Pos}
def tNext : TS := fun D σ H => D.nx σ H
def tSeq (t u : TS) : TS := fun D σ H => t { D with nx := u D } σ H
theorem pss_nil : PSs X [] tNext := fun _ _ σ H _ I h => wpAny_execs_nil ⟨σ, H, I, h⟩
theorem pss_cons (h1 : PS X st t) (h2 : PSs X rest u) : PSs X (st :: rest) (tSeq t u) := by
  intro pins s σ H D I h
  refine wpAny_execs_cons (thn (h1 pins s σ H { D with nx := u D } I h) fun f s1 q => ?_)
  cases f with
  | next =>
    obtain ⟨σ', H', I', q⟩ := q
    exact h2 pins s1 σ' H' D I' q
  | ret v => exact q
  | brk => exact q
  | cont => exact q
theorem pss_one (h1 : PS X st t) : PSs X [st] t := by
  intro pins s σ H D I h
  refine wpAny_execs_cons (thn (h1 pins s σ H D I h) fun f s1 q => ?_)
  cases f with
  | next => exact wpAny_execs_nil q
  | ret v => exact q
  | brk => exact q
  | cont => exact q
theorem Inv.quiet {pins : List (Addr × Obj)} {σ : St} {H : Hp} {s : Shared} (I : Inv X pins σ H s) : interactive X.env = false := by simp [interactive, I.ok.kind]
def tDrop (te : TE) : TS := fun D σ H => te σ H fun _ H1 => D.nx σ H1
theorem ps_expr (he : PE X e te) (hs : swapsWith e none pos.line X.env = pure false := by rfl) : PS X (.Expr e pos) (tDrop te) := by
  intro pins s σ H D I h
  exact wpAny_Expr_any (thn (he pins s σ H _ I h) fun v s1 ⟨x, H1, I1, r1, q1⟩ => ⟨σ, H1, I1, q1⟩) I.quiet hs
def tRet (te : TE) : TS := fun D σ H => te σ H D.rt
theorem ps_ret (he : PE X e te) : PS X (.Return (some e) pos) (tRet te) := by
  intro pins s σ H D I h
  exact wpAny_Return_some (thn (he pins s σ H _ I h) fun v s1 ⟨x, H1, I1, r1, q1⟩ => ⟨x, σ, H1, I1, r1, q1⟩)
def tIfS (c : TT) (t u : TS) : TS := fun D σ H => c σ H fun b H1 => if b = true then t D σ H1 else u D σ H1
theorem ps_if {c : Expr} {a b : List Stmt} {tc : TT} (hc : PT X c tc) (ha : PSs X a t) (hb : PSs X b u) : PS X (.If c a b pos) (tIfS tc t u) := by
  intro pins s σ H D I h
  refine wpAny_If (thn (hc pins s σ H _ I h) fun d s1 ⟨H1, I1, q1⟩ => ?_)
  cases d with
  | true => exact ha pins s1 σ H1 D I1 q1
  | false => exact hb pins s1 σ H1 D I1 q1
end

abbrev TG := V → St → Hp → (St → Hp → Prop) → Prop
abbrev TGs := List V → St → Hp → (St → Hp → Prop) → Prop
def PG (X : Cx) (target : Expr) (t : TG) : Prop :=
  ∀ (pins : List (Addr × Obj)) (s : Shared) (σ : St) (H : Hp) (v : V) (u : Value) (Q : St → Hp → Prop), Inv X pins σ H s → RelV v u → t v σ H Q →
    wpAny (model X.prog X.w) X.A (assign target X.env u) (fun _ s' => ∃ σ' H', Inv X pins σ' H' s' ∧ Q σ' H') X.xe s
def PGs (X : Cx) (ts : List Expr) (t : TGs) : Prop :=
  ∀ (pins : List (Addr × Obj)) (s : Shared) (σ : St) (H : Hp) (vs : List V) (us : List Value) (Q : St → Hp → Prop), Inv X pins σ H s → Vals vs us → t vs σ H Q →
    wpAny (model X.prog X.w) X.A (assignInOrder ((assignEach ts X.env).map (·.2)) us) (fun _ s' => ∃ σ' H', Inv X pins σ' H' s' ∧ Q σ' H') X.xe s
section
variable {X : Cx} {pos : Pos}
def gName (i : Nat) : TG := fun v σ H Q => Q (σ.set i (some v)) H
theorem pg_name {i : Nat} {x : Str} (hN : X.N.Nodup) (hi : X.N[i]? = some x) (hx : Loc X.env.scope x) (hf : X.fn x = true ∨ X.env.scope.names.lookup x = some .local := by first | exact .inl rfl | exact .inr rfl | assumption) : PG X (.Name x pos) (gName i) := by
  intro pins s σ H v u Q I r h
  exact wpAny_assign_Name (store_ok I hN hi hx r (fun s' I' => ⟨_, H, I', h⟩) hf)
def gNil : TGs := fun vs σ H Q => vs = [] ∧ Q σ H
def gCons (t : TG) (u : TGs) : TGs := fun vs σ H Q => ∃ v r, vs = v :: r ∧ t v σ H fun σ' H' => u r σ' H' Q
theorem pgs_nil : PGs X [] gNil := by
  intro pins s σ H vs us Q I r h
  obtain ⟨e, h⟩ := h
  subst e
  cases r
  exact assignInOrder_nil ⟨σ, H, I, h⟩
theorem pgs_cons {e : Expr} {es : List Expr} {t : TG} {u : TGs} (h1 : PG X e t) (h2 : PGs X es u)
    (hs : (assignEach (e :: es) X.env).map (·.2) = assign e X.env :: (assignEach es X.env).map (·.2) := by rfl) : PGs X (e :: es) (gCons t u) := by
  intro pins s σ H vs us Q I r h
  obtain ⟨v, vr, e1, h⟩ := h
  subst e1
  cases r with
  | cons r rr =>
    rw [hs]
    refine assignInOrder_cons (thn (h1 pins s σ H _ _ _ I r h) fun _ s1 ⟨σ1, H1, I1, q1⟩ => ?_)
    exact h2 pins s1 σ1 H1 _ _ Q I1 rr q1
def gTup (K : PySem.W.Frag) (n : Nat) (t : TGs) : TG := fun v σ H Q => ∃ a xs, v = .ref a ∧ SqT K H a xs ∧ xs.length = n ∧ t xs σ H Q
theorem pg_tup {es : List Expr} {k : Nat} {t : TGs} {n : Nat} (hc : X.calm = true) (h : PGs X es t)
    (hn : (assignEach es X.env).length = n := by rfl) (hst : (assignEach es X.env).findIdx? (·.1) = none := by rfl) : PG X (.Tuple es k pos) (gTup X.K n t) := by
  intro pins s σ H v u Q I r hw
  obtain ⟨a, xs, e1, hq, hl, hw⟩ := hw
  subst e1
  cases r
  obtain ⟨its, rv, ht, hz⟩ := I.tuple hq
  refine assign_Tuple_tuple (I.ok.hd hc) ht (by simp [hn, ← hl, rv.length]) hst fun h' hx => ?_
  have I1 : Inv X pins σ H { s with heap := h' } := I.kept (t' := s.toks) fun b o e => hx b o (Nat.ne_of_lt (Heap.lt_size e)) e
  exact h pins _ σ H xs _ Q I1 (by simpa using rv) hw
def tAsg (te : TE) (g : TG) : TS := fun D σ H => te σ H fun x H1 => g x σ H1 D.nx
theorem ps_asg {tg e : Expr} {te : TE} {g : TG} (he : PE X e te) (hg : PG X tg g) (hs : swapsWithSole [tg] e pos.line X.env = pure false := by rfl) (hw : swappedStores [tg] e X.env = pure none := by rfl)
    (h1 : (assignEach [tg] X.env).map (·.2) = [assign tg X.env] := by rfl) : PS X (.Assign [tg] e pos) (tAsg te g) := by
  intro pins s σ H D I h
  refine wpAny_Assign_stores (thn (he pins s σ H _ I h) fun v s1 ⟨x, H1, I1, r1, q1⟩ => ?_) hs hw
  rw [h1]
  exact thn (hg pins s1 σ H1 x v _ I1 r1 q1) fun _ s2 q => q
theorem ps_set {i : Nat} {x : Str} {e : Expr} {te : TE} {pos' : Pos} (hN : X.N.Nodup) (hi : X.N[i]? = some x) (hx : Loc X.env.scope x) (he : PE X e te) (hs : swapsWith e (some (.Name x pos')) pos.line X.env = pure false := by rfl) (hf : X.fn x = true ∨ X.env.scope.names.lookup x = some .local := by first | exact .inl rfl | exact .inr rfl | assumption) :
    PS X (.Assign [.Name x pos'] e pos) (tAsg te (gName i)) := by
  intro pins s σ H D I h
  refine wpAny_Assign_Name (thn (he pins s σ H _ I h) fun v s1 ⟨y, H1, I1, r1, q1⟩ => ?_) hs
  exact store_ok I1 hN hi hx r1 (fun s2 I2 => ⟨_, H1, I2, q1⟩) hf
end


structure It where
  go : Nat → Hp → Prop
  yld : Nat → Hp → V → Hp → Prop
  stop : Nat → Hp → Prop
def FpOk (X : Cx) (pins : List (Addr × Obj)) (H : Hp) (b : Addr) : Prop :=
  H b = none ∧ b ≠ X.env.locals ∧ b ∉ X.fs ∧ (b ∈ X.ex ∨ X.s₀.heap.objs.size ≤ b) ∧ (∀ x c, X.env.cells.lookup x = some c → c ≠ b) ∧ ∀ p ∈ X.pn ++ pins, p.1 ≠ b
theorem Inv.fpOk {X : Cx} {pins : List (Addr × Obj)} {σ : St} {H H' : Hp} {s : Shared} {b : Addr} (I : Inv X pins σ H s) (hb : s.heap.objs.size ≤ b) (hn : H' b = none) : FpOk X pins H' b := by
  refine ⟨hn, Nat.ne_of_gt (Nat.lt_of_lt_of_le I.lt hb), I.nofs hb, .inr (Nat.le_trans I.sz hb), fun x c e z => ?_, fun p hp z => ?_⟩
  · obtain ⟨v, q⟩ := I.cell x c e
    exact absurd (Nat.lt_of_lt_of_le q.lt (by rw [z]; exact hb)) (Nat.lt_irrefl _)
  · exact absurd (Nat.lt_of_lt_of_le (Heap.lt_size (I.pin p hp).1) (by rw [z]; exact hb)) (Nat.lt_irrefl _)
structure Turn (P : Program) (w : World) (K : PySem.W.Frag) (tg : Expr) (J : It) (fp : List Addr) (it : Addr) (tn : Nat → Heap → Prop) : Prop where
  mem : it ∈ fp
  obj : ∀ i h, tn i h → ∀ b ∈ fp, ∃ o, h.get? b = some o ∧ ∀ v, o.data ≠ .cell v
  keep : ∀ i h h', tn i h → (∀ b ∈ fp, ∀ o, h.get? b = some o → h'.get? b = some o) → tn i h'
  item : ∀ (X : Cx), X.prog = P → X.w = w → X.K = K → X.calm = true → ∀ (i : Nat) (pins : List (Addr × Obj)) (s : Shared) (σ : St) (H : Hp) (E : Value → Shared → Prop), Inv X pins σ H s → (∀ b ∈ fp, FpOk X pins H b) → tn i s.heap → J.go i H →
    wpAny (model P w) X.A (pyNext (.ref it)) (fun r s1 => ∃ u, r = some u ∧
      wpAny (model P w) X.A (letOwnedTupleGo tg (.ref it) u) (fun _ s2 => ∃ x H', Inv X pins σ H' s2 ∧ RelV x u ∧ J.yld i H x H' ∧ tn (i + 1) s2.heap ∧ ∀ b ∈ fp, H' b = none) E s1) E s
  done : ∀ (X : Cx), X.prog = P → X.w = w → X.K = K → X.calm = true → ∀ (i : Nat) (pins : List (Addr × Obj)) (s : Shared) (σ : St) (H : Hp) (E : Value → Shared → Prop), Inv X pins σ H s → (∀ b ∈ fp, FpOk X pins H b) → tn i s.heap → J.stop i H →
    wpAny (model P w) X.A (pyNext (.ref it)) (fun r s1 => r = none ∧ Inv X pins σ H s1) E s
  self : ∀ (A : Around) (i : Nat) (s : Shared) (Q : Value → Shared → Prop) (E : Value → Shared → Prop), tn i s.heap → Q (.ref it) s → wpAny (model P w) A (pyIter (.ref it)) Q E s
abbrev TI := St → Hp → (It → Hp → Prop) → Prop
def PIE (X : Cx) (pins : List (Addr × Obj)) (σ : St) (tg : Expr) (R : It → Hp → Prop) (itv : Value) (s2 : Shared) : Prop :=
  ∃ (it : Addr) (fp : List Addr) (tn : Nat → Heap → Prop) (J : It) (H' : Hp), itv = .ref it ∧ Inv X pins σ H' s2 ∧ Turn X.prog X.w X.K tg J fp it tn ∧ tn 0 s2.heap ∧ (∀ b ∈ fp, FpOk X pins H' b) ∧ R J H'
def PI (X : Cx) (tg iter : Expr) (wi : TI) : Prop :=
  ∀ (pins : List (Addr × Obj)) (s : Shared) (σ : St) (H : Hp) (R : It → Hp → Prop), Inv X pins σ H s → wi σ H R →
    wpAny (model X.prog X.w) X.A (eval iter X.env) (fun v s1 => wpAny (model X.prog X.w) X.A (pyIter v) (PIE X pins σ tg R) X.xe s1) X.xe s

theorem go_of {M : Model} {A : Around} {E : Value → Shared → Prop} {s : Shared} {tg : Expr} {it : Addr} {u : Value} {o : Obj} {n : String} {vs : Array Value} {Q : Unit → Shared → Prop} (ho : s.heap.get? it = some o) (hc : o.cls = .type n) (hd : o.data = .fields vs)
    (hn : ["enumerate", "zip", "dict_itemiterator", "dict_reverseitemiterator", "odict_iterator", "itertools.zip_longest", "itertools.pairwise"].contains n = false) (hQ : Q () s) : wpAny M A (letOwnedTupleGo tg (.ref it) u) Q E s := by
  unfold letOwnedTupleGo
  cases tg <;> first
    | exact wpAny_pure hQ
    | (cases u <;> first
        | exact wpAny_pure hQ
        | (refine wpAny_bind (wpAny_load ho ?_)
           rw [hc, hd]
           show wpAny M A (if (["enumerate", "zip", "dict_itemiterator", "dict_reverseitemiterator", "odict_iterator", "itertools.zip_longest", "itertools.pairwise"].contains n && vs[0]? == some (rawInt _)) = true then _ else _) Q E s
           rw [if_neg (by intro h; rw [hn, Bool.false_and] at h; cases h)]
           exact wpAny_pure hQ))

def Itl (K : PySem.W.Frag) (a : Addr) : It :=
  ⟨fun i H => ∃ xs x, SqL K H a xs ∧ xs[i]? = some x, fun i H x H' => H' = H ∧ ∀ xs, SqL K H a xs → xs[i]? = some x, fun i H => ∃ xs, SqL K H a xs ∧ xs.length ≤ i⟩
def Itr (lo : Int) (n : Nat) : It := ⟨fun i _ => i < n, fun i H x H' => H' = H ∧ x = .int (lo + i), fun i _ => n ≤ i⟩
theorem turn_list {P : Program} {w : World} {K : PySem.W.Frag} {tg : Expr} (a it : Addr) : Turn P w K tg (Itl K a) [it] it (fun i h => h.IsListIter it a i) where
  mem := by simp
  obj := fun i h st b hb => by
    have e : b = it := by simpa using hb
    subst e
    obtain ⟨o, e, c, d⟩ := st
    exact ⟨o, e, fun v z => by rw [d] at z; cases z⟩
  keep := fun i h h' st k => st.at fun o e => k it (by simp) o e
  item := by
    intro X hP hw hK hc i pins s σ H E I hf st hg
    subst hP hw hK
    obtain ⟨xs, x, hq, hx⟩ := hg
    obtain ⟨its, rv, p, hz⟩ := I.list hq
    obtain ⟨u, hu, ru⟩ := rv.get hx
    obtain ⟨f0, f1, f2, f3, f4, f5⟩ := hf it (by simp)
    refine wpAny_pyNext_list_item st p.isList (x := u) (by simpa using hu) fun h' st' sb => ?_
    have I1 : Inv X pins σ H { s with heap := h' } := I.turned (t' := s.toks) (fun b o hb e => (sb.2 b hb).trans e) f0 f1 f3 f4 f5
    obtain ⟨o, e, c, d⟩ := id st'
    exact ⟨u, rfl, go_of (s := { s with heap := h' }) e c d (by decide) ⟨x, H, I1, ru, ⟨rfl, fun ys hy => by rw [I.list_inj hy hq]; exact hx⟩, st', fun b hb => (hf b hb).1⟩⟩
  done := by
    intro X hP hw hK hc i pins s σ H E I hf st hg
    subst hP hw hK
    obtain ⟨xs, hq, hx⟩ := hg
    obtain ⟨its, rv, p, hz⟩ := I.list hq
    obtain ⟨f0, f1, f2, f3, f4, f5⟩ := hf it (by simp)
    have hl := rv.length
    exact wpAny_pyNext_list_end (I.ok.hd hc) st p.isList (by simp; omega) fun h' eb => ⟨rfl, I.turned (t' := s.toks) (fun b o hb e => eb b o hb e) f0 f1 f3 f4 f5⟩
  self := fun _ _ _ _ _ st h => wpAny_pyIter_listiter st h
theorem turn_range {P : Program} {w : World} {K : PySem.W.Frag} {tg : Expr} (it : Addr) (lo : Int) (n : Nat) : Turn P w K tg (Itr lo n) [it] it (fun i h => IsRangeIter h it (lo + (i : Nat) * 1) ((n : Int) - (i : Nat)) 1) where
  mem := by simp
  obj := fun i h st b hb => by
    have e : b = it := by simpa using hb
    subst e
    exact ⟨_, st, fun v z => by
      have z' : Data.fields _ = Data.cell v := z
      cases z'⟩
  keep := fun i h h' st k => k it (by simp) _ st
  item := by
    intro X hP hw hK hc i pins s σ H E I hf st hg
    subst hP hw hK
    obtain ⟨f0, f1, f2, f3, f4, f5⟩ := hf it (by simp)
    have W := Walks.range (prog := X.prog) (w := X.w) (I.ok.hd hc) it lo 1 n
    refine W.item i s _ _ hg st fun v h' tk hv st' kk => ?_
    obtain ⟨t, rfl⟩ := hv
    have I1 : Inv X pins σ H { s with heap := h', toks := tk } := I.turned (fun b o hb e => kk b o (by simpa using hb) e) f0 f1 f3 f4 f5
    refine ⟨_, rfl, go_of (s := { s with heap := h', toks := tk }) (n := "range_iterator") st' rfl rfl (by decide) ⟨.int (lo + i), H, I1, ⟨t, ?_⟩, ⟨rfl, rfl⟩, st', fun b hb => (hf b hb).1⟩⟩
    rw [Int.mul_one]
  done := by
    intro X hP hw hK hc i pins s σ H E I hf st hg
    subst hP hw hK
    obtain ⟨f0, f1, f2, f3, f4, f5⟩ := hf it (by simp)
    exact wpAny_pyNext_range_end (I.ok.hd hc) st (by have : n ≤ i := hg; omega) fun h' eb => ⟨rfl, I.turned (t' := s.toks) (fun b o hb e => eb b o hb e) f0 f1 f3 f4 f5⟩
  self := fun _ _ _ _ _ st h => wpAny_pyIter_rangeiter st h
end L2

namespace L2
open PySem PySem.Spec PyProof.Rows
section
variable {X : Cx} {tg : Expr}
def iList (K : PySem.W.Frag) (tl : TE) : TI := fun σ H R => tl σ H fun x H1 => ∃ a, x = .ref a ∧ (∃ xs, SqL K H1 a xs) ∧ R (Itl K a) H1
theorem pi_list {l : Expr} {tl : TE} (hl : PE X l tl) : PI X tg l (iList X.K tl) := by
  intro pins s σ H R I h
  refine thn (hl pins s σ H _ I h) fun v s1 ⟨x, H1, I1, r1, q1⟩ => ?_
  obtain ⟨a, e, ⟨xs, hq⟩, q⟩ := q1
  subst e
  cases r1
  obtain ⟨its, rv, p, hz⟩ := I1.list hq
  refine wpAny_pyIter_list p.isList ?_
  refine ⟨s1.heap.objs.size, [s1.heap.objs.size], _, _, H1, rfl, I1.kept (t' := s1.toks) fun b o e => Heap.get?_push_of_some _ e, turn_list a _, ⟨_, Heap.get?_push_size _ rfl, rfl, rfl⟩, fun b hb => ?_, q⟩
  have e : b = s1.heap.objs.size := by simpa using hb
  subst e
  exact I1.fpOk (Nat.le_refl _) (I1.hok.fresh (Nat.le_refl _))
theorem range_it {pins : List (Addr × Obj)} {σ : St} {H : Hp} {s : Shared} {R : It → Hp → Prop} {E : Value → Shared → Prop} {lo hi : Int} {t u v : Tok} {tk : Nat} (I : Inv X pins σ H s) (h1 : -(2 ^ 62) ≤ lo) (h2 : lo < 2 ^ 62) (h3 : -(2 ^ 62) ≤ hi) (h4 : hi < 2 ^ 62)
    (q : R (Itr lo (hi - lo).toNat) H) : wpAny (model X.prog X.w) X.A (pyIter (.ref s.heap.objs.size)) (PIE X pins σ tg R) E { s with heap := s.heap.push { cls := .type "range", data := .fields #[.int lo t, .int hi u, .int 1 v] }, toks := tk } := by
  refine wpAny_pyIter_range (IsRange.new ..) (small_one h1 h2 h3 h4) ?_
  have I1 : Inv X pins σ H { s with heap := s.heap.push { cls := .type "range", data := .fields #[.int lo t, .int hi u, .int 1 v] }, toks := tk } := I.kept fun b o e => Heap.get?_push_of_some _ e
  refine ⟨(s.heap.push { cls := .type "range", data := .fields #[.int lo t, .int hi u, .int 1 v] }).objs.size, [(s.heap.push { cls := .type "range", data := .fields #[.int lo t, .int hi u, .int 1 v] }).objs.size], _, _, H, rfl,
    I1.kept (t' := tk) fun b o e => Heap.get?_push_of_some _ e, turn_range _ lo (hi - lo).toNat, ?_, fun b hb => ?_, q⟩
  · have e1 : lo + ((0 : Nat) : Int) * 1 = lo := by simp
    have e2 : (((hi - lo).toNat : Nat) : Int) - ((0 : Nat) : Int) = Builtin.Range.rangeSize lo hi 1 := by rw [rangeSize_one]; split <;> omega
    show IsRangeIter _ _ (lo + ((0 : Nat) : Int) * 1) ((((hi - lo).toNat : Nat) : Int) - ((0 : Nat) : Int)) 1
    rw [e1, e2]
    exact Heap.get?_push_size _ rfl
  · have e : b = (s.heap.push { cls := .type "range", data := .fields #[.int lo t, .int hi u, .int 1 v] }).objs.size := by simpa using hb
    subst e
    exact I1.fpOk (Nat.le_refl _) (I1.hok.fresh (Nat.le_refl _))
def iRng1 (ta : TA) : TI := fun σ H R => ta σ H fun vs H1 => ∃ j : Int, vs = [.int j] ∧ -(2 ^ 62) ≤ j ∧ j < 2 ^ 62 ∧ R (Itr 0 j.toNat) H1
theorem pi_range1 {a : Expr} {ta : TA} {p pos : Pos} (hg : Gl X "range") (hm : X.mg "range" = none) (ha : PA X [a] ta) (hs : starEach [a] X.env = [(false, eval a X.env)] := by rfl) : PI X tg (.Call (.Name "range" p) [a] [] pos) (iRng1 ta) := by
  intro pins s σ H R I h
  refine Call_ (ld_blt I hg hm boot_range (PyProof.Rows.callWith_type1 (thn (ha pos pins s σ H _ I h) fun us s1 ⟨vs, H1, I1, r1, q1⟩ => ?_) hs rfl))
  obtain ⟨j, e, q1, q2, q⟩ := q1
  subst e
  cases r1 with
  | cons r rr =>
    cases rr
    obtain ⟨t, rfl⟩ := r
    exact call_range_1 (range_it I1 (by omega) (by omega) q1 q2 (by simpa using q))
def tFor (wi : TI) (g : TG) (tb : TS) : TS := fun D σ H => wi σ H fun J H1 => ∃ W : Nat → Nat → St → Hp → Prop, (∃ m, W 0 m σ H1) ∧ ∀ i m σ H, W i m σ H →
  (J.stop i H ∧ D.nx σ H) ∨ (J.go i H ∧ ∃ N : St → Hp → Prop, (∀ σ' H', N σ' H' → ∃ m', m' < m ∧ W (i + 1) m' σ' H') ∧ ∀ x H', J.yld i H x H' → g x σ H' fun σ2 H2 => tb { D with nx := N, ct := N, bk := D.nx } σ2 H2)
def pinsAt (fp : List Addr) (h : Heap) : List (Addr × Obj) := fp.filterMap fun b => (h.get? b).map fun o => (b, o)
theorem mem_pinsAt {fp : List Addr} {h : Heap} {b : Addr} {o : Obj} (hb : b ∈ fp) (e : h.get? b = some o) : (b, o) ∈ pinsAt fp h := List.mem_filterMap.mpr ⟨b, hb, by rw [e]; rfl⟩
theorem of_pinsAt {fp : List Addr} {h : Heap} {p : Addr × Obj} (hp : p ∈ pinsAt fp h) : p.1 ∈ fp ∧ h.get? p.1 = some p.2 := by
  obtain ⟨b, hb, e⟩ := List.mem_filterMap.mp hp
  cases q : h.get? b with
  | none => rw [q] at e; cases e
  | some o =>
    rw [q] at e
    have e' : (b, o) = p := Option.some.inj e
    subst e'
    exact ⟨hb, q⟩
theorem Inv.pinned {pins : List (Addr × Obj)} {σ : St} {H : Hp} {s : Shared} {fp : List Addr} (I : Inv X pins σ H s) (hf : ∀ b ∈ fp, FpOk X pins H b) (ho : ∀ b ∈ fp, ∃ o, s.heap.get? b = some o ∧ ∀ v, o.data ≠ .cell v) : Inv X (pins ++ pinsAt fp s.heap) σ H s :=
  I.pins_of fun p hp => (List.mem_append.mp hp).elim (fun z => I.pin p (List.mem_append_right _ z)) fun z => by
    obtain ⟨hb, e⟩ := of_pinsAt z
    obtain ⟨f0, f1, f2, _⟩ := hf p.1 hb
    obtain ⟨o, e', d⟩ := ho p.1 hb
    rw [e] at e'; cases e'
    exact ⟨e, f0, f1, f2, d⟩
theorem Inv.unpinned {pins pl : List (Addr × Obj)} {σ : St} {H : Hp} {s : Shared} (I : Inv X (pins ++ pl) σ H s) : Inv X pins σ H s := I.pins_of fun p hp => I.pin p (List.mem_append_right _ (List.mem_append_left _ hp))
theorem ps_for {iter : Expr} {body : List Stmt} {wi : TI} {g : TG} {tb : TS} {pos : Pos} (hp : PassesOwn (model X.prog X.w) X.A X.env X.xe) (hc : X.calm = true) (hi : PI X tg iter wi) (hg : PG X tg g) (hb : PSs X body tb)
    (hs : ∀ x, foldedSetIterable iter X.env x = pure x := by intro _; rfl) : PS X (.For tg iter body [] pos) (tFor wi g tb) := by
  intro pins s σ H D I h
  refine wpAny_For (thn (hi pins s σ H _ I h) fun v s1 h1 => thn h1 fun itv s2 h2 => ?_) hs
  obtain ⟨it, fp, tn, J, H2, e, I2, T, st2, f2, W, ⟨m0, w0⟩, turn⟩ := h2
  subst e
  -- what stays true of the iterator's objects through the loop
  have stat : ∀ {H' : Hp}, (∀ b ∈ fp, H' b = none) → ∀ b ∈ fp, FpOk X pins H' b := fun hn b hb => ⟨hn b hb, (f2 b hb).2⟩
  refine codeAny_forLoop_any (fun n s' => ∃ i σ' H', Inv X pins σ' H' s' ∧ tn i s'.heap ∧ (∀ b ∈ fp, H' b = none) ∧ W i n σ' H') ?_ m0 ⟨0, σ, H2, I2, st2, fun b hb => (f2 b hb).1, w0⟩
  rintro n s3 ⟨i, σ3, H3, I3, st3, fr3, w3⟩
  rcases turn i n σ3 H3 w3 with ⟨stop, qn⟩ | ⟨go, N, hN, step⟩
  · refine wpAny_passesOwn hp (thn (T.done X rfl rfl rfl hc i pins s3 σ3 H3 X.xe I3 (stat fr3) st3 stop) fun r s4 ⟨hr, I4⟩ => ?_)
    subst hr
    exact wpAny_execs_nil ⟨σ3, H3, I4, qn⟩
  · refine wpAny_passesOwn hp (thn (T.item X rfl rfl rfl hc i pins s3 σ3 H3 X.xe I3 (stat fr3) st3 go) fun r s4 ⟨u, hr, h4⟩ => ?_)
    subst hr
    refine wpAny_passesOwn hp (thn h4 fun _ s5 ⟨x, H5, I5, r5, y5, st5, fr5⟩ => ?_)
    have I5' := I5.pinned (stat fr5) (T.obj _ _ st5)
    refine wpAny_passesOwn hp (thn (hg _ s5 σ3 H5 x u _ I5' r5 (step x H5 y5)) fun _ s6 ⟨σ6, H6, I6, q6⟩ => ?_)
    refine wpAny_passesOwn hp (thn (hb _ s6 σ6 H6 _ I6 q6) fun f s7 q7 => ?_)
    have again : ∀ {σ7 : St} {H7 : Hp}, Inv X (pins ++ pinsAt fp s5.heap) σ7 H7 s7 → N σ7 H7 → ∃ m, m < n ∧ ∃ i σ' H', Inv X pins σ' H' s7 ∧ tn i s7.heap ∧ (∀ b ∈ fp, H' b = none) ∧ W i m σ' H' := fun {σ7 H7} I7 n7 => by
      obtain ⟨m', hm, w7⟩ := hN σ7 H7 n7
      refine ⟨m', hm, i + 1, σ7, H7, I7.unpinned, T.keep _ _ _ st5 fun b hb o e => (I7.pin (b, o) (List.mem_append_right _ (List.mem_append_right _ (mem_pinsAt hb e)))).1, fun b hb => ?_, w7⟩
      obtain ⟨o, e, d⟩ := T.obj _ _ st5 b hb
      exact (I7.pin (b, o) (List.mem_append_right _ (List.mem_append_right _ (mem_pinsAt hb e)))).2.1
    cases f with
    | next => obtain ⟨σ7, H7, I7, n7⟩ := q7; exact again I7 n7
    | cont => obtain ⟨σ7, H7, I7, n7⟩ := q7; exact again I7 n7
    | brk => obtain ⟨σ7, H7, I7, q7⟩ := q7; exact ⟨σ7, H7, I7.unpinned, q7⟩
    | ret v => obtain ⟨x7, σ7, H7, I7, r7, q7⟩ := q7; exact ⟨x7, σ7, H7, I7.unpinned, r7, q7⟩
end

end L2

namespace L2
open PySem PySem.Spec PyProof.Rows

abbrev R2 := V → V → Hp → VK → Prop
def OpR (X : Cx) (f : Value → Value → Sem Value) (r : R2) : Prop :=
  ∀ (pins : List (Addr × Obj)) (s : Shared) (σ : St) (H : Hp) (x y : V) (v u : Value) (Q : VK), Inv X pins σ H s → RelV x v → RelV y u → r x y H Q →
    wpAny (model X.prog X.w) X.A (f v u) (EP X pins σ Q) X.xe s
def UnR (X : Cx) (f : Value → Sem Value) (r : V → Hp → VK → Prop) : Prop :=
  ∀ (pins : List (Addr × Obj)) (s : Shared) (σ : St) (H : Hp) (x : V) (v : Value) (Q : VK), Inv X pins σ H s → RelV x v → r x H Q →
    wpAny (model X.prog X.w) X.A (f v) (EP X pins σ Q) X.xe s
def CallR (X : Cx) (f : Value) (r : List V → Hp → VK → Prop) : Prop :=
  ∀ (pins : List (Addr × Obj)) (s : Shared) (σ : St) (H : Hp) (xs : List V) (us : List Value) (Q : VK), Inv X pins σ H s → Vals xs us → r xs H Q →
    wpAny (model X.prog X.w) X.A (call f us) (EP X pins σ Q) X.xe s
def tOp (r : R2) (ta tb : TE) : TE := fun σ H Q => ta σ H fun x H1 => tb σ H1 fun y H2 => r x y H2 Q
def tUn (r : V → Hp → VK → Prop) (ta : TE) : TE := fun σ H Q => ta σ H fun x H1 => r x H1 Q
def rI (C : Int → Int → Prop) (g : Int → Int → V) : R2 := fun x y H Q => ∃ i j, x = .int i ∧ y = .int j ∧ C i j ∧ Q (g i j) H
def rI0 (g : Int → Int → V) : R2 := fun x y H Q => ∃ i j, x = .int i ∧ y = .int j ∧ Q (g i j) H
def rU (g : Int → V) : V → Hp → VK → Prop := fun x H Q => ∃ i, x = .int i ∧ Q (g i) H

section
variable {X : Cx} {a b c : Expr} {ta tb tc : TE} {pos : Pos}

theorem binT (ha : PE X a ta) (hb : PE X b tb) {pins : List (Addr × Obj)} {s : Shared} {σ : St} {H : Hp} {R : V → V → Hp → Prop} (I : Inv X pins σ H s)
    (h : ta σ H fun x H1 => tb σ H1 fun y H2 => R x y H2) {Q : Value → Shared → Prop} {f : Value → Value → Sem Value}
    (hf : ∀ v u s2 x y H2, Inv X pins σ H2 s2 → RelV x v → RelV y u → R x y H2 → wpAny (model X.prog X.w) X.A (f v u) Q X.xe s2) :
    wpAny (model X.prog X.w) X.A (eval a X.env) (fun v s₁ => wpAny (model X.prog X.w) X.A (eval b X.env) (fun u s₂ => wpAny (model X.prog X.w) X.A (f v u) Q X.xe s₂) X.xe s₁) X.xe s := by
  refine thn (ha pins s σ H _ I h) fun v s1 ⟨x, H1, I1, r1, q1⟩ => ?_
  refine thn (hb pins s1 σ H1 _ I1 q1) fun u s2 ⟨y, H2, I2, r2, q2⟩ => ?_
  exact hf v u s2 x y H2 I2 r1 r2 q2

theorem pe_op {op : Operator} {r : R2} (ho : OpR X (binaryOp op) r) (ha : PE X a ta) (hb : PE X b tb) : PE X (.BinOp a op b pos) (tOp r ta tb) := by
  intro pins s σ H Q I h
  exact wpAny_BinOp (binT ha hb I h fun v u s2 x y H2 I2 rx ry q => ho pins s2 σ H2 x y v u Q I2 rx ry q)
theorem pe_un {op : UnaryOp} {r : V → Hp → VK → Prop} (ho : UnR X (unaryOp op) r) (ha : PE X a ta) : PE X (.UnaryOp op a pos) (tUn r ta) := by
  intro pins s σ H Q I h
  exact UnaryOp_ (thn (ha pins s σ H _ I h) fun v s1 ⟨x, H1, I1, r1, q1⟩ => ho pins s1 σ H1 x v Q I1 r1 q1)
theorem opI {f : Value → Value → Sem Value} {C : Int → Int → Prop} {g : Int → Int → Int}
    (rule : ∀ (i j : Int) (t u : Tok) (s : Shared) (Q : Value → Shared → Prop) (E : Value → Shared → Prop), C i j → Q (.int (g i j) s.toks) { s with toks := s.toks + 1 } → wpAny (model X.prog X.w) X.A (f (.int i t) (.int j u)) Q E s) :
    OpR X f (rI C fun i j => .int (g i j)) := by
  intro pins s σ H x y v u Q I rx ry h
  obtain ⟨i, j, rfl, rfl, hc, q⟩ := h
  obtain ⟨t, rfl⟩ := rx
  obtain ⟨t', rfl⟩ := ry
  exact rule i j t t' s _ _ hc ⟨.int (g i j), H, I.tok _, ⟨_, rfl⟩, q⟩
theorem opI0 {f : Value → Value → Sem Value} {g : Int → Int → Int}
    (rule : ∀ (i j : Int) (t u : Tok) (s : Shared) (Q : Value → Shared → Prop) (E : Value → Shared → Prop), Q (.int (g i j) s.toks) { s with toks := s.toks + 1 } → wpAny (model X.prog X.w) X.A (f (.int i t) (.int j u)) Q E s) :
    OpR X f (rI0 fun i j => .int (g i j)) := by
  intro pins s σ H x y v u Q I rx ry h
  obtain ⟨i, j, rfl, rfl, q⟩ := h
  obtain ⟨t, rfl⟩ := rx
  obtain ⟨t', rfl⟩ := ry
  exact rule i j t t' s _ _ ⟨.int (g i j), H, I.tok _, ⟨_, rfl⟩, q⟩
theorem opB0 {f : Value → Value → Sem Value} {g : Int → Int → Bool}
    (rule : ∀ (i j : Int) (t u : Tok) (s : Shared) (Q : Value → Shared → Prop) (E : Value → Shared → Prop), Q (.bool (g i j)) s → wpAny (model X.prog X.w) X.A (f (.int i t) (.int j u)) Q E s) :
    OpR X f (rI0 fun i j => .bl (g i j)) := by
  intro pins s σ H x y v u Q I rx ry h
  obtain ⟨i, j, rfl, rfl, q⟩ := h
  obtain ⟨t, rfl⟩ := rx
  obtain ⟨t', rfl⟩ := ry
  exact rule i j t t' s _ _ ⟨.bl (g i j), H, I, rfl, q⟩

def CDiv (i j : Int) : Prop := 0 < j ∧ j < 1073741824
def CPow (i j : Int) : Prop := 0 ≤ j ∧ j ≤ 1000000 ∧ i.natAbs < 2 ^ 64
theorem op_add : OpR X (binaryOp .Add) (rI0 fun i j => .int (i + j)) := opI0 fun _ _ _ _ _ _ _ q => add_int q
theorem op_sub : OpR X (binaryOp .Sub) (rI0 fun i j => .int (i - j)) := opI0 fun _ _ _ _ _ _ _ q => sub_int q
theorem op_fdiv : OpR X (binaryOp .FloorDiv) (rI CDiv fun i j => .int (i / j)) := opI fun i j _ _ _ _ _ hc q => by
  have h1 : (0 : Int) < j := hc.1
  have h2 : j < 1073741824 := hc.2
  exact floordiv_int (by omega) (by rw [Int.fdiv_eq_ediv_of_nonneg i (by omega)]; exact q) (.inl (PyProof.noPylong_small (by omega)))
theorem op_mod : OpR X (binaryOp .Mod) (rI (fun _ j => 0 < j) fun i j => .int (i % j)) := opI fun i j _ _ _ _ _ hc q => by
  have h1 : (0 : Int) < j := hc
  exact mod_int' (by omega) (by rw [Int.fmod_eq_emod_of_nonneg i (by omega)]; exact q)
theorem op_pow : OpR X (binaryOp .Pow) (rI CPow fun i j => .int (i ^ j.toNat)) := opI fun _ _ _ _ _ _ _ hc q => pow_int_small hc.1 hc.2.1 hc.2.2 q
theorem unI {f : Value → Sem Value} {g : Int → Int}
    (rule : ∀ (i : Int) (t : Tok) (s : Shared) (Q : Value → Shared → Prop) (E : Value → Shared → Prop), Q (.int (g i) s.toks) { s with toks := s.toks + 1 } → wpAny (model X.prog X.w) X.A (f (.int i t)) Q E s) :
    UnR X f (rU fun i => .int (g i)) := by
  intro pins s σ H x v Q I rx h
  obtain ⟨i, rfl, q⟩ := h
  obtain ⟨t, rfl⟩ := rx
  exact rule i t s _ _ ⟨.int (g i), H, I.tok _, ⟨_, rfl⟩, q⟩
theorem un_neg : UnR X (unaryOp .USub) (rU fun i => .int (-i)) := unI fun _ _ _ _ _ q => neg_int q
end

def scal : V → V → Bool
  | .non, .non => true | .non, .int _ => true | .int _, .non => true | .non, .bl _ => true | .bl _, .non => true | .non, .str _ => true | .str _, .non => true
  | .int _, .int _ => true | .bl _, .bl _ => true | .str _, .str _ => true | .byt _, .byt _ => true
  | .int _, .str _ => true | .str _, .int _ => true | .bl _, .str _ => true | .str _, .bl _ => true
  | _, _ => false
def rEq : R2 := fun x y H Q => scal x y = true ∧ Q (.bl (decide (x = y))) H
def rNe : R2 := fun x y H Q => scal x y = true ∧ Q (.bl (!decide (x = y))) H

theorem dec_int {i j : Int} : decide (V.int i = V.int j) = (i == j) := by
  rw [Bool.eq_iff_iff]
  simp
theorem dec_bl {i j : Bool} : decide (V.bl i = V.bl j) = (i == j) := by
  rw [Bool.eq_iff_iff]
  simp
theorem dec_str {i j : Str} : decide (V.str i = V.str j) = (i == j) := by
  rw [Bool.eq_iff_iff]
  simp
theorem dec_byt {i j : Array UInt8} : decide (V.byt i = V.byt j) = (i.toList == j.toList) := by
  rw [Bool.eq_iff_iff]
  cases i
  cases j
  simp

section
variable {X : Cx} {a b c : Expr} {ta tb tc : TE} {pos : Pos}
theorem fin_bl {pins : List (Addr × Obj)} {σ : St} {H : Hp} {s : Shared} {Q : VK} {k k' : Bool} (I : Inv X pins σ H s) (q : Q (.bl k) H) (e : k = k') : EP X pins σ Q (.bool k') s := by
  subst e
  exact ⟨.bl k, H, I, rfl, q⟩
theorem op_eq : OpR X (compareOp .Eq) rEq := by
  intro pins s σ H x y v u Q I rx ry h
  obtain ⟨hs, q⟩ := h
  cases x with
  | non =>
    cases rx
    cases y with
    | non => cases ry; exact PySem.EqNone.eq_none_none (fin_bl I q (by simp))
    | bl j => cases ry; exact PySem.EqNone.eq_none_bool (fin_bl I q (by simp))
    | int j => obtain ⟨t', rfl⟩ := ry; exact PySem.EqNone.eq_none_int (fin_bl I q (by simp))
    | str j => obtain ⟨t', rfl⟩ := ry; exact PySem.EqNone.eq_none_str (fin_bl I q (by simp))
    | _ => exact absurd (show false = true from hs) Bool.false_ne_true
  | bl i =>
    cases rx
    cases y with
    | non => cases ry; exact PySem.EqNone.eq_bool_none (fin_bl I q (by simp))
    | bl j => cases ry; exact eq_bool (fin_bl I q dec_bl)
    | str j => obtain ⟨t', rfl⟩ := ry; exact PySem.EqMixed.eq_bool_str (fin_bl I q (by simp))
    | _ => exact absurd (show false = true from hs) Bool.false_ne_true
  | int i =>
    obtain ⟨t, rfl⟩ := rx
    cases y with
    | non => cases ry; exact PySem.EqNone.eq_int_none (fin_bl I q (by simp))
    | int j => obtain ⟨t', rfl⟩ := ry; exact eq_int (fin_bl I q dec_int)
    | str j => obtain ⟨t', rfl⟩ := ry; exact PySem.EqMixed.eq_int_str (fin_bl I q (by simp))
    | _ => exact absurd (show false = true from hs) Bool.false_ne_true
  | str i =>
    obtain ⟨t, rfl⟩ := rx
    cases y with
    | non => cases ry; exact PySem.EqNone.eq_str_none (fin_bl I q (by simp))
    | bl j => cases ry; exact PySem.EqMixed.eq_str_bool (fin_bl I q (by simp))
    | int j => obtain ⟨t', rfl⟩ := ry; exact PySem.EqMixed.eq_str_int (fin_bl I q (by simp))
    | str j => obtain ⟨t', rfl⟩ := ry; exact eq_str (fin_bl I q dec_str)
    | _ => exact absurd (show false = true from hs) Bool.false_ne_true
  | byt i =>
    obtain ⟨t, rfl⟩ := rx
    cases y with
    | byt j => obtain ⟨t', rfl⟩ := ry; exact PySem.W.eq_bytes (fin_bl I q dec_byt)
    | _ => exact absurd (show false = true from hs) Bool.false_ne_true
  | _ => cases y <;> exact absurd (show false = true from hs) Bool.false_ne_true
theorem op_ne : OpR X (compareOp .NotEq) rNe := by
  intro pins s σ H x y v u Q I rx ry h
  obtain ⟨hs, q⟩ := h
  cases x with
  | non =>
    cases rx
    cases y with
    | non => cases ry; exact PySem.EqNone.ne_none_none (fin_bl I q (by simp))
    | bl j => cases ry; exact PySem.EqNone.ne_none_bool (fin_bl I q (by simp))
    | int j => obtain ⟨t', rfl⟩ := ry; exact PySem.EqNone.ne_none_int (fin_bl I q (by simp))
    | str j => obtain ⟨t', rfl⟩ := ry; exact PySem.EqNone.ne_none_str (fin_bl I q (by simp))
    | _ => exact absurd (show false = true from hs) Bool.false_ne_true
  | bl i =>
    cases rx
    cases y with
    | non => cases ry; exact PySem.EqNone.ne_bool_none (fin_bl I q (by simp))
    | bl j => cases ry; exact ne_bool (fin_bl I q (congrArg not dec_bl))
    | str j => obtain ⟨t', rfl⟩ := ry; exact PySem.EqMixed.ne_bool_str (fin_bl I q (by simp))
    | _ => exact absurd (show false = true from hs) Bool.false_ne_true
  | int i =>
    obtain ⟨t, rfl⟩ := rx
    cases y with
    | non => cases ry; exact PySem.EqNone.ne_int_none (fin_bl I q (by simp))
    | int j => obtain ⟨t', rfl⟩ := ry; exact ne_int (fin_bl I q (congrArg not dec_int))
    | str j => obtain ⟨t', rfl⟩ := ry; exact PySem.EqMixed.ne_int_str (fin_bl I q (by simp))
    | _ => exact absurd (show false = true from hs) Bool.false_ne_true
  | str i =>
    obtain ⟨t, rfl⟩ := rx
    cases y with
    | non => cases ry; exact PySem.EqNone.ne_str_none (fin_bl I q (by simp))
    | bl j => cases ry; exact PySem.EqMixed.ne_str_bool (fin_bl I q (by simp))
    | int j => obtain ⟨t', rfl⟩ := ry; exact PySem.EqMixed.ne_str_int (fin_bl I q (by simp))
    | str j => obtain ⟨t', rfl⟩ := ry; exact ne_str (fin_bl I q (congrArg not dec_str))
    | _ => exact absurd (show false = true from hs) Bool.false_ne_true
  | byt i =>
    obtain ⟨t, rfl⟩ := rx
    cases y with
    | byt j => obtain ⟨t', rfl⟩ := ry; exact PySem.W.ne_bytes (fin_bl I q (congrArg not dec_byt))
    | _ => exact absurd (show false = true from hs) Bool.false_ne_true
  | _ => cases y <;> exact absurd (show false = true from hs) Bool.false_ne_true

theorem op_lt : OpR X (compareOp .Lt) (rI0 fun i j => .bl (decide (i < j))) := opB0 fun _ _ _ _ _ _ _ q => lt_int q
theorem op_gt : OpR X (compareOp .Gt) (rI0 fun i j => .bl (decide (j < i))) := opB0 fun _ _ _ _ _ _ _ q => gt_int q
theorem op_isN : OpR X (compareOp .Is) (fun x y H Q => y = .non ∧ Q (.bl (decide (x = .non))) H) := by
  intro pins s σ H x y v u Q I rx ry h
  obtain ⟨rfl, q⟩ := h
  cases ry
  refine is_none_gen (fin_bl I q ?_)
  cases x <;> first
    | (cases rx; rfl)
    | (obtain ⟨t, rfl⟩ := rx; rfl)
theorem nomark (b : Expr) {op : CmpOp} (h : op ≠ .In := by decide) (h2 : op ≠ .NotIn := by decide) : behindInMarks op b = false := by
  have e1 : (op == CmpOp.In) = false := by cases op <;> first | rfl | exact absurd rfl h
  have e2 : (op == CmpOp.NotIn) = false := by cases op <;> first | rfl | exact absurd rfl h2
  cases b <;> simp [behindInMarks, e1, e2]
theorem pe_cmpR {op : CmpOp} {r : R2} (ho : OpR X (compareOp op) r) (ha : PE X a ta) (hb : PE X b tb) (hm : behindInMarks op b = false) : PE X (.Compare a [op] [b] pos) (tOp r ta tb) := by
  intro pins s σ H Q I h
  exact wpAny_Compare1 (binT ha hb I h fun v u s2 x y H2 I2 rx ry q => ho pins s2 σ H2 x y v u Q I2 rx ry q) hm
def tTest (t : TE) : TT := fun σ H Q => t σ H fun x H' => ∃ k, x = .bl k ∧ Q k H'
theorem pt_cmpR {op : CmpOp} {r : R2} (ho : OpR X (compareOp op) r) (ha : PE X a ta) (hb : PE X b tb) (hm : behindInMarks op b = false) : PT X (.Compare a [op] [b] pos) (tTest (tOp r ta tb)) := by
  intro pins s σ H Q I h
  refine wpAny_isTrue_Compare1 (thn (ha pins s σ H _ I h) fun v s1 ⟨x, H1, I1, r1, q1⟩ => thn (hb pins s1 σ H1 _ I1 q1) fun u s2 ⟨y, H2, I2, r2, q2⟩ =>
    thn (ho pins s2 σ H2 x y v u _ I2 r1 r2 q2) fun c s3 ⟨z, H3, I3, r3, k, e, q3⟩ => ?_) hm
  subst e
  cases r3
  exact wpAny_truthy_bool ⟨H3, I3, q3⟩
theorem line63 : (sizeLine : Nat) < 2 ^ 63 := by rw [sizeLine_eq]; decide
theorem vals1 {x : V} {us : List Value} (r : Vals [x] us) : ∃ u, us = [u] ∧ RelV x u := by
  cases r with
  | cons r1 r2 => cases r2; exact ⟨_, rfl, r1⟩
theorem vals2 {x y : V} {us : List Value} (r : Vals [x, y] us) : ∃ u w', us = [u, w'] ∧ RelV x u ∧ RelV y w' := by
  cases r with
  | cons r1 r2 =>
    cases r2 with
    | cons r3 r4 => cases r4; exact ⟨_, _, rfl, r1, r3⟩
theorem call_abs : CallR X (.builtin "abs") (fun xs H Q => ∃ i, xs = [.int i] ∧ Q (.int (if i < 0 then -i else i)) H) := by
  intro pins s σ H xs us Q I r h
  obtain ⟨i, rfl, q⟩ := h
  obtain ⟨u, rfl, t, rfl⟩ := vals1 r
  exact call_abs_int fun u tk => ⟨.int (if i < 0 then -i else i), H, I.tok _, ⟨_, rfl⟩, q⟩
theorem call_max2 (hc : X.calm = true) : CallR X (.builtin "max") (fun xs H Q => ∃ i j, xs = [.int i, .int j] ∧ Q (.int (if j > i then j else i)) H) := by
  intro pins s σ H xs us Q I r h
  obtain ⟨i, j, rfl, q⟩ := h
  obtain ⟨u, w', rfl, ⟨t, rfl⟩, ⟨t', rfl⟩⟩ := vals2 r
  refine max_two_ints (I.ok.hd hc) fun h' tk k => ⟨_, H, I.kept k, ?_, q⟩
  by_cases hj : j > i
  · rw [if_pos hj, if_pos hj]; exact ⟨_, rfl⟩
  · rw [if_neg hj, if_neg hj]; exact ⟨_, rfl⟩
theorem call_min2 (hc : X.calm = true) : CallR X (.builtin "min") (fun xs H Q => ∃ i j, xs = [.int i, .int j] ∧ Q (.int (if j < i then j else i)) H) := by
  intro pins s σ H xs us Q I r h
  obtain ⟨i, j, rfl, q⟩ := h
  obtain ⟨u, w', rfl, ⟨t, rfl⟩, ⟨t', rfl⟩⟩ := vals2 r
  refine min_two_ints (I.ok.hd hc) fun h' tk k => ⟨_, H, I.kept k, ?_, q⟩
  by_cases hj : j < i
  · rw [if_pos hj, if_pos hj]; exact ⟨_, rfl⟩
  · rw [if_neg hj, if_neg hj]; exact ⟨_, rfl⟩
end
end L2

namespace L2
open PySem PySem.Spec PyProof.Rows

structure ObjM (h : Heap) (x dx C : Addr) (mA : Str → Option Value) : Prop where
  obj : h.get? x = some (PySem.W.instObj C dx)
  ns : h.Ns1 dx mA
  ne : dx ≠ x

theorem lookIn_ns {h : Heap} {dx : Addr} {mA : Str → Option Value} (n : h.Ns1 dx mA) : ∃ od, h.get? dx = some od ∧ ∀ name, PySem.W.lookIn name od = some (mA name) := by
  obtain ⟨o, es, ep, ho, hd, hk, _, hm⟩ := n
  refine ⟨o, ho, fun name => ?_⟩
  have e := hm name
  unfold nsFind findBy at e
  rw [← Array.find?_toList] at e
  unfold PySem.W.lookIn
  rw [hd]
  dsimp only
  split
  · rename_i y q
    rw [q] at e
    exact congrArg some e
  · rename_i q
    rw [q] at e
    have a : es.toList.any (·.refKey) = false := by
      rw [List.any_eq_false]
      intro y hy
      obtain ⟨z, t, hkey⟩ := hk y (Array.mem_toList_iff.mp hy)
      simp [DictEntry.refKey, hkey]
    have a' : ¬ es.toList.any (·.refKey) = true := by rw [a]; exact Bool.false_ne_true
    rw [if_neg a']
    exact congrArg some e

section
variable {prog : Program} {w : World} {A : Around} {E : Value → Shared → Prop} {s : Shared} {K : PySem.W.Frag} {x dx C f : Addr} {mA : Str → Option Value} {name : Str} {v : Value}

end

theorem RelO.some_of {v : V} {o : Option Value} (r : RelO (some v) o) : ∃ u, o = some u ∧ RelV v u := by
  cases o with
  | none => exact (show False from r).elim
  | some u => exact ⟨u, rfl, r⟩
theorem handed_of {v : V} {u : Value} (r : RelV v u) : PySem.W.handedIn u = true := by
  cases v with
  | non => cases (show u = Value.none from r); rfl
  | bl b => cases (show u = Value.bool b from r); rfl
  | int i => obtain ⟨t, e⟩ := (show ∃ t, u = Value.int i t from r); cases e; rfl
  | str x => obtain ⟨t, e⟩ := (show ∃ t, u = Value.str x t from r); cases e; rfl
  | byt b => obtain ⟨t, e⟩ := (show ∃ t, u = Value.bytes b t from r); cases e; rfl
  | flt b => obtain ⟨t, e⟩ := (show ∃ t, u = Value.float b t from r); cases e; rfl
  | ref a => cases (show u = Value.ref a from r); rfl
  | ty n => cases (show u = Value.type n from r); rfl


structure Cls (K : PySem.W.Frag) (C : Addr) : Prop where
  pg : PySem.W.plainGet K C Str.empty = true
  hd : PySem.W.hasDictIn K C = true
  po : PySem.W.plainOver K C = true
  sa : PySem.W.findIn K (.ref C) "__setattr__" = some (some (.builtin "object.__setattr__"))
def NoAttr (K : PySem.W.Frag) (C : Addr) (f : Str) : Prop := PySem.W.findIn K (.ref C) f = some none
structure Con (K : PySem.W.Frag) (C : Addr) (f : Str) (v : V) (u : Value) : Prop where
  at_ : PySem.W.findIn K (.ref C) f = some (some u)
  rel : RelV v u
  get : PySem.W.specialIn K u "__get__" = some none
  cp : PySem.W.copiedNames.contains f = false
structure Meth (K : PySem.W.Frag) (C : Addr) (m : Str) (f : Addr) : Prop where
  at_ : PySem.W.findIn K (.ref C) m = some (some (.ref f))
  fn : PySem.W.isFn K (.ref f) = true
  kp : PySem.W.keepIn K (.ref f) = true

section
variable {X : Cx} {pins : List (Addr × Obj)} {σ : St} {H : Hp} {s : Shared} {a C dx : Addr} {fs : List (Str × V)} {f : Str} {v : V} {A : Around} {E : Value → Shared → Prop}

theorem attr_of {prog : Program} {w : World} {env : Env} {e : Expr} {f : Str} {pos : Pos} {s : Shared} {Q : Value → Shared → Prop} (hb : attributeBase e f env (eval e env) = eval e env)
    (h : wpAny (model prog w) A (eval e env) (fun o s₁ => wpAny (model prog w) A (getAttr o f true) Q E s₁) E s) : wpAny (model prog w) A (eval (.Attribute e f pos) env) Q E s :=
  Attribute_any_ h (by rw [arm_eval_Attribute, hb])
end


section
variable {X : Cx} {pins : List (Addr × Obj)} {σ : St} {H : Hp} {s : Shared} {A : Around} {E : Value → Shared → Prop} {Q : Value → Shared → Prop} {c : Value} {b : Bool}
inductive TyOf (K : PySem.W.Frag) (H : Hp) : V → Value → Prop where
  | non : TyOf K H .non (.type "NoneType")
  | bl (x : Bool) : TyOf K H (.bl x) (.type "bool")
  | int (i : Int) : TyOf K H (.int i) (.type "int")
  | str (x : Str) : TyOf K H (.str x) (.type "str")
  | flt (x : UInt64) : TyOf K H (.flt x) (.type "float")
  | lst {a : Addr} {xs : List V} (e : H a = some (.lst xs)) : TyOf K H (.ref a) (.type "list")
  | frz {a : Addr} {o : Obj} {xs : List V} (e : H a = some (.frz o (.lst xs))) : TyOf K H (.ref a) (.type "list")
  | tup {a : Addr} {xs : List V} (e : H a = some (.tup xs)) : TyOf K H (.ref a) (.type "tuple")
  | dK {a : Addr} {kvs : List (Key × V)} (e : H a = some (.dK kvs)) : TyOf K H (.ref a) (.type "dict")
  | dT {a : Addr} {kvs : List (List Key × V)} (e : H a = some (.dT kvs)) : TyOf K H (.ref a) (.type "dict")
  | ins {a C dx : Addr} {fs : List (Str × V)} (e : H a = some (.ins C dx fs)) (cl : Cls K C) (ha : PySem.W.findIn K (.ref C) "__class__" = some (some (.builtin "object.__class__")))
      (hn : PySem.W.specialIn K (.builtin "object.__class__") "__get__" = some (some (.builtin "getset_descriptor.__get__"))) (htk : PySem.W.takesIn K (.builtin "object.__class__") = some true)
      (hm : PySem.W.mroIn K C (.type "object") = some true) : TyOf K H (.ref a) (.ref C)
end
end L2

namespace L2
open PySem PySem.Spec PyProof.Rows

structure Room (k : Nat) (A : Around) : Prop where
  hd : A.handled = none
  dp : A.depth + 3 * k + 5 < recursionLimit
  un : A.units + 16 * k + 200 < cLine
  gd : A.guards = some []
theorem Room.mono {j k : Nat} {A : Around} (r : Room k A) (h : j ≤ k) : Room j A := ⟨r.hd, by have := r.dp; omega, by have := r.un; omega, r.gd⟩
theorem Room.deeper {k : Nat} {A : Around} (r : Room (k + 1) A) (env : Env) : Room k (A.deeper env) :=
  ⟨r.hd, by have := r.dp; show A.depth + 1 + 3 * k + 5 < _; omega, by have := r.un; show A.units + 3 + 16 * k + 200 < _; omega, r.gd⟩
theorem Room.in1 {k : Nat} {A : Around} (r : Room (k + 1) A) : Room k A.in1 :=
  ⟨r.hd, by have := r.dp; show A.depth + 3 * k + 5 < _; omega, by have := r.un; show A.units + 1 + 16 * k + 200 < _; omega, r.gd⟩
theorem make_depth {A : Around} {C : Addr} {us : List Value} {kw : List (Str × Value)} : (A.under (.builtin "type.__call__" ⟨.ref C :: us, kw⟩)).depth = A.depth + 1 := by
  first | rfl | simp [Around.under, Code.weight, Code.isCreation, Code.isGuard, Code.isCaller, Code.frames, Code.isFrame, guardIds]
theorem make_units {A : Around} {C : Addr} {us : List Value} {kw : List (Str × Value)} : (A.under (.builtin "type.__call__" ⟨.ref C :: us, kw⟩)).units = A.units + 1 := by
  first | rfl | simp [Around.under, Code.cUnits, Code.frames, Code.isFrame]
theorem Room.make {k : Nat} {A : Around} (r : Room (k + 1) A) (C : Addr) (us : List Value) (kw : List (Str × Value)) : Room k (A.under (.builtin "type.__call__" ⟨.ref C :: us, kw⟩)) :=
  ⟨r.hd, by have := r.dp; rw [make_depth]; omega, by have := r.un; rw [make_units]; omega, r.gd⟩
theorem Room.depth {k : Nat} {A : Around} (r : Room k A) : A.depth < recursionLimit := by have := r.dp; omega
theorem Room.units {k : Nat} {A : Around} (r : Room k A) : A.units + 64 < cLine := by have := r.un; omega
def tNil : TA := fun _ H Q => Q [] H
def tCons (ta : TE) (tr : TA) : TA := fun σ H Q => ta σ H fun x H1 => tr σ H1 fun xs H2 => Q (x :: xs) H2
section
variable {X : Cx} {e : Expr} {es : List Expr} {te : TE} {t : TA} {pos : Pos}
theorem pa_nil : PA X [] tNil := fun _ _ _ _ H Q I h => Calls.spliced_nil ⟨[], H, I, .nil, h⟩
theorem pa_cons (ha : PE X e te) (hr : PA X es t) (hs : starEach (e :: es) X.env = (false, eval e X.env) :: starEach es X.env := by rfl) : PA X (e :: es) (tCons te t) := by
  intro pos pins s σ H Q I h
  rw [hs]
  show wpAny _ _ (spliced ((false, eval e X.env) :: backTo pos (starEach es X.env))) _ _ s
  refine Calls.spliced_cons (thn (ha pins s σ H _ I h) fun u s1 ⟨x, H1, I1, r1, q1⟩ => ?_)
  exact thn (hr pos pins s1 σ H1 _ I1 q1) fun us s2 ⟨xs, H2, I2, r2, q2⟩ => ⟨x :: xs, H2, I2, .cons r1 r2, q2⟩

def tTup (t : TA) : TE := fun σ H Q => t σ H fun xs H1 => xs.length ≤ sizeLine ∧ ∀ p, H1 p = none → Q (.ref p) (upd H1 p (.tup xs))
def tLst (t : TA) : TE := fun σ H Q => t σ H fun xs H1 => xs.length ≤ sizeLine ∧ ∀ p, H1 p = none → Q (.ref p) (upd H1 p (.lst xs))
theorem pe_tup {x1} (h : PA X es t) : PE X (.Tuple es x1 pos) (tTup t) := by
  intro pins s σ H Q I hq
  refine wpAny_Tuple_spliced (thn (h pos pins s σ H _ I hq) fun us s1 ⟨xs, H1, I1, r, z, q⟩ => ⟨by rw [← r.length]; exact z, ?_⟩)
  have hf : H1 s1.heap.objs.size = none := I1.hok.fresh (Nat.le_refl _)
  refine ⟨.ref s1.heap.objs.size, upd H1 s1.heap.objs.size (.tup xs), I1.laid (t' := s1.toks) (fun b u e => Heap.get?_push_of_some _ e) (Nat.le_refl _) ?_, rfl, q _ hf⟩
  exact ⟨z, us, r, ⟨_, Heap.get?_push_size _ rfl, rfl, _, rfl⟩⟩
theorem pe_lst (h : PA X es t) : PE X (.List es pos) (tLst t) := by
  intro pins s σ H Q I hq
  refine wpAny_List_spliced (thn (h pos pins s σ H _ I hq) fun us s1 ⟨xs, H1, I1, r, z, q⟩ => ⟨by rw [← r.length]; exact z, ?_⟩)
  have hf : H1 s1.heap.objs.size = none := I1.hok.fresh (Nat.le_refl _)
  refine ⟨.ref s1.heap.objs.size, upd H1 s1.heap.objs.size (.lst xs), I1.laid (t' := s1.toks) (fun b u e => Heap.get?_push_of_some _ e) (Nat.le_refl _) ?_, rfl, q _ hf⟩
  exact ⟨z, us, 0, r, Heap.get?_push_size _ rfl⟩
end

abbrev Sp := List V → Hp → VK → XK → Prop
abbrev CXT := List Env → Hp → Shared → XK → Value → Shared → Prop

structure Env0 (P : Program) (w : World) (K : PySem.W.Frag) (mg : Str → Option Value) (base : Heap) (A : Around) (outer : List Env) (s : Shared) (H : Hp) : Prop where
  frames : A.frames = some outer
  mod : Mod K mg base
  bs : ∀ b o, base.get? b = some o → s.heap.get? b = some o ∧ H b = none
  bsz : base.objs.size ≤ s.heap.objs.size
  funs : s.heap.FunFrames base outer
  frf : ∀ b ∈ frs outer, H b = none
  hok : HOk P w H s.heap
  bare : AllBare s.gens
def CE (outer : List Env) (P : Program) (w : World) (H : Hp) (s : Shared) (Q : VK) (u : Value) (s' : Shared) : Prop :=
  ∃ v H', s'.os = s.os ∧ AllBare s'.gens ∧ Un (frs outer) [] H H' s.heap s'.heap ∧ HOk P w H' s'.heap ∧ RelV v u ∧ Q v H'
def CR (CX : CXT) (outer : List Env) (P : Program) (w : World) (H : Hp) (s : Shared) (Q : VK) (E : XK) (r : Result) (s' : Shared) : Prop :=
  match r with
  | .ok (.ret u) => CE outer P w H s Q u s'
  | .ok _ => False
  | .error e => CX outer H s E e s'
structure FnOk (P : Program) (w : World) (K : PySem.W.Frag) (mg : Str → Option Value) (base : Heap) (CX : CXT) (k : Nat) (f : Addr) (fd : FuncData) (ps : List Str) (sp : Sp) : Prop where
  len : ∀ vs H Q E, sp vs H Q E → vs.length = ps.length
  run : ∀ (A : Around) (outer : List Env) (s : Shared) (H : Hp) (args : Args) (us : List Value) (vs : List V) (Q : VK) (E : XK), Room k A → Env0 P w K mg base A outer s H → BindsTo s fd args (ps.zip us) → Vals vs us → sp vs H Q E →
    codeAny (model P w) A (.call (.ref f) args) (CR CX outer P w H s Q E) s
theorem Env0.make {P : Program} {w : World} {K : PySem.W.Frag} {mg : Str → Option Value} {base : Heap} {A : Around} {outer : List Env} {s : Shared} {H : Hp} (e : Env0 P w K mg base A outer s H) (C : Addr) (us : List Value) (kw : List (Str × Value)) :
    Env0 P w K mg base (A.under (.builtin "type.__call__" ⟨.ref C :: us, kw⟩)) outer s H := ⟨by first | exact e.frames | (simpa [Around.under, Code.envs, Code.isFrame, pushEnvs] using e.frames), e.mod, e.bs, e.bsz, e.funs, e.frf, e.hok, e.bare⟩
section
variable {X : Cx} {pins : List (Addr × Obj)} {σ : St} {H : Hp} {s s' : Shared}
theorem Inv.env0 (I : Inv X pins σ H s) : Env0 X.prog X.w X.K X.mg X.base X.A X.stack s H :=
  ⟨I.ok.frames, I.ok.mod, I.bs, Nat.le_trans I.ok.bsz I.sz, I.stack, I.stkFree, I.hok, I.bare⟩
theorem Inv.after {Q : VK} {u : Value} (I : Inv X pins σ H s) (h : CE X.stack X.prog X.w H s Q u s') : EP X pins σ Q u s' := by
  obtain ⟨v, H', os, bare, un, hok, r, q⟩ := h
  obtain ⟨hh, g, d, t, os'⟩ := s'
  obtain rfl : os' = s.os := os
  exact ⟨v, H', I.call (h' := hh) (g' := g) (d' := d) (t' := t) (ch := []) un hok bare (fun b z => absurd z (by simp)), r, q⟩
end

def tCall (sp : Sp) (dvs : List V) (E : XK) (t : TA) : TE := fun σ H Q => t σ H fun vs H1 => sp (vs ++ dvs) H1 Q E
def Binds (K : PySem.W.Frag) (fd : FuncData) (ps : List Str) (ds : List Value) : Prop :=
  ∀ (s : Shared) (us : List Value), K.In s.heap → (us ++ ds).length = ps.length → BindsTo s fd ⟨us, []⟩ (ps.zip (us ++ ds))
theorem Binds.all {K : PySem.W.Frag} {fd : FuncData} {ps : List Str} (h : ∀ us : List Value, us.length = ps.length → bindArgs fd ⟨us, []⟩ = pure (ps.zip us)) : Binds K fd ps [] := fun s us _ hl => by
  rw [List.append_nil] at hl ⊢
  exact .of_eq (h us hl)

def Passes (CX : CXT) (X : Cx) (E : XK) : Prop := ∀ (pins : List (Addr × Obj)) (σ : St) (H : Hp) (s : Shared) (e : Value) (s' : Shared), Inv X pins σ H s → CX X.stack H s E e s' → X.xe e s'

section
variable {X : Cx} {CX : CXT} {k : Nat} {f C : Addr} {fd : FuncData} {ps : List Str} {sp : Sp} {dvs : List V} {ds : List Value} {E : XK} {x m : Str} {p pos apos : Pos} {e o : Expr} {es : List Expr} {ta : TE} {t : TA}

theorem run_fn {pins : List (Addr × Obj)} {σ : St} {H : Hp} {s : Shared} {Q : VK} {us : List Value} {vs : List V} (F : FnOk X.prog X.w X.K X.mg X.base CX k f fd ps sp) (hr : Room k X.A) (hb : Binds X.K fd ps ds) (hd : Vals dvs ds) (hx : Passes CX X E)
    (I : Inv X pins σ H s) (r : Vals vs us) (h : sp (vs ++ dvs) H Q E) : wpAny (model X.prog X.w) X.A (call (.ref f) us) (EP X pins σ Q) X.xe s := by
  have r2 : Vals (vs ++ dvs) (us ++ ds) := r.append hd
  have hl : (us ++ ds).length = ps.length := by rw [← r2.length]; exact F.len _ _ _ _ h
  refine wpAny_call (codeAny_mono (F.run X.A X.stack s H ⟨us, []⟩ (us ++ ds) (vs ++ dvs) Q E hr I.env0 (hb s us I.kIn hl) r2 h) fun r s' hq => ?_)
  cases r with
  | error e => exact hx pins σ H s e s' I hq
  | ok fl =>
    cases fl with
    | ret u => exact I.after hq
    | next => exact False.elim hq
    | brk => exact False.elim hq
    | cont => exact False.elim hq

theorem pe_call (F : FnOk X.prog X.w X.K X.mg X.base CX k f fd ps sp) (hr : Room k X.A) (hg : Gl X x) (hm : X.mg x = some (.ref f)) (hk : PySem.W.keepIn X.K (.ref f) = true) (hb : Binds X.K fd ps ds) (hd : Vals dvs ds) (hx : Passes CX X E)
    (ha : PA X (e :: es) t) (hdb : (x == ("__debug__" : Str)) = false := by decide) (he : starEach (e :: es) X.env = (false, eval e X.env) :: starEach es X.env := by rfl) (hpl : (backTo pos (starEach es X.env)).any (·.1) = false := by rfl) :
    PE X (.Call (.Name x p) (e :: es) [] pos) (tCall sp dvs E t) := by
  intro pins s σ H Q I h
  refine wpAny_Call_Name_kw (ld_glob I hg hm ?_ hdb)
  refine PySem.W.callWith_K (h₀ := X.base) I.ok.mod.kin hk (thn (ha pos pins s σ H _ I h) fun us s1 ⟨vs, H1, I1, r, q⟩ => ⟨I1.kIn, ?_⟩) he hpl
  exact run_fn F hr hb hd hx I1 r q
structure Mk (K : PySem.W.Frag) (C f : Addr) : Prop where
  makes : PySem.W.makesIn K C = true
  init : PySem.W.findIn K (.ref C) "__init__" = some (some (.ref f))
  fn : PySem.W.isFn K (.ref f) = true
  kp : PySem.W.keepIn K (.ref C) = true

end

def PK (X : Cx) (kws : List Keyword) (t : TA) : Prop :=
  ∀ (pos : Pos) (pins : List (Addr × Obj)) (s : Shared) (σ : St) (H : Hp) (Q : List V → Hp → Prop), Inv X pins σ H s → t σ H Q → wpAny (model X.prog X.w) X.A (evalAll ((backToKw pos (keywordEach kws X.env)).map (·.2))) (AP X pins σ Q) X.xe s
section
variable {X : Cx} {CX : CXT} {k : Nat} {f C : Addr} {fd : FuncData} {ps ks : List Str} {sp : Sp} {E : XK} {x m : Str} {p pos apos kpos : Pos} {e o : Expr} {es : List Expr} {kws : List Keyword} {te ta : TE} {t tk : TA} {nm : Option Str}
theorem pk_nil : PK X [] tNil := fun _ _ _ _ H Q I h => wpAny_evalAll_nil ⟨[], H, I, .nil, h⟩
theorem pk_cons (ha : PE X e te) (hr : PK X kws t) : PK X (⟨nm, e, kpos⟩ :: kws) (tCons te t) := by
  intro pos pins s σ H Q I h
  show wpAny _ _ (evalAll ((do let v ← eval e X.env; standAt pos; pure v) :: (backToKw pos (keywordEach kws X.env)).map (·.2))) _ _ s
  refine wpAny_evalAll_cons (wpAny_bind (thn (ha pins s σ H _ I h) fun u s1 ⟨x, H1, I1, r1, q1⟩ => wpAny_bind (wpAny_standAt (wpAny_pure ?_))))
  exact thn (hr pos pins s1 σ H1 _ I1 q1) fun us s2 ⟨xs, H2, I2, r2, q2⟩ => ⟨x :: xs, H2, I2, .cons r1 r2, q2⟩

structure KBinds (K : PySem.W.Frag) (fd : FuncData) (ps ks : List Str) (g : List Value → List Value → List Value) (gV : List V → List V → List V) : Prop where
  to : ∀ (s : Shared) (us ws : List Value), K.In s.heap → (g us ws).length = ps.length → BindsTo s fd ⟨us, ks.zip ws⟩ (ps.zip (g us ws))
  rel : ∀ {vs : List V} {us : List Value} {zs : List V} {ws : List Value}, Vals vs us → Vals zs ws → Vals (gV vs zs) (g us ws)
variable {g : List Value → List Value → List Value} {gV : List V → List V → List V}
end

structure FnScope (N P : List Str) (sc : Scope) : Prop where
  kind : sc.kind = .function
  co : sc.isCoroutine = false
  gen : sc.isGenerator = false
  nd : N.Nodup
  pre : N.take P.length = P
  par : ∀ x ∈ P, sc.names.lookup x = some .local ∨ sc.names.lookup x = some .cell
  nofree : ∀ y ∈ sc.names, y.2 ≠ .free

theorem bindL_out {kindOf : Str → Option NameKind} {x : Str} : ∀ {binds : List (Str × Value)} {m : Str → Option Value}, (∀ v, (x, v) ∉ binds) → bindL kindOf binds m x = m x
  | [], _, _ => rfl
  | (n, v) :: r, m, h => by
    unfold bindL
    rw [bindL_out fun w hw => h w (List.mem_cons_of_mem _ hw)]
    split
    · have : x ≠ n := by rintro rfl; exact h v List.mem_cons_self
      simp [this]
    · rfl
theorem bindC_out {kindOf : Str → Option NameKind} {x : Str} : ∀ {binds : List (Str × Value)} {m : Str → Option Value}, (∀ v, (x, v) ∉ binds) → bindC kindOf binds m x = m x
  | [], _, _ => rfl
  | (n, v) :: r, m, h => by
    unfold bindC
    rw [bindC_out fun w hw => h w (List.mem_cons_of_mem _ hw)]
    split
    · rfl
    · have : x ≠ n := by rintro rfl; exact h v List.mem_cons_self
      simp [this]
theorem bindL_get {kindOf : Str → Option NameKind} {x : Str} {v : Value} : ∀ {P : List Str} {vs : List Value} {i : Nat} {m : Str → Option Value}, P.Nodup → P[i]? = some x → vs[i]? = some v → kindOf x = some .local →
    bindL kindOf (P.zip vs) m x = some v
  | [], _, _, _, _, h, _, _ => by simp at h
  | _ :: _, [], _, _, _, _, h, _ => by simp at h
  | p :: P, w :: vs, 0, m, nd, h1, h2, hk => by
    simp at h1 h2; subst h1; subst h2
    show bindL kindOf ((p, w) :: P.zip vs) m p = _
    unfold bindL
    rw [bindL_out fun v hv => (List.nodup_cons.mp nd).1 (List.of_mem_zip hv).1, if_pos hk]
    simp
  | p :: P, w :: vs, i + 1, m, nd, h1, h2, hk => by
    show bindL kindOf ((p, w) :: P.zip vs) m x = _
    unfold bindL
    exact bindL_get (i := i) (List.nodup_cons.mp nd).2 (by simpa using h1) (by simpa using h2) hk
theorem bindC_get {kindOf : Str → Option NameKind} {x : Str} {v : Value} : ∀ {P : List Str} {vs : List Value} {i : Nat} {m : Str → Option Value}, P.Nodup → P[i]? = some x → vs[i]? = some v → kindOf x ≠ some .local →
    bindC kindOf (P.zip vs) m x = some v
  | [], _, _, _, _, h, _, _ => by simp at h
  | _ :: _, [], _, _, _, _, h, _ => by simp at h
  | p :: P, w :: vs, 0, m, nd, h1, h2, hk => by
    simp at h1 h2; subst h1; subst h2
    show bindC kindOf ((p, w) :: P.zip vs) m p = _
    unfold bindC
    rw [bindC_out fun v hv => (List.nodup_cons.mp nd).1 (List.of_mem_zip hv).1, if_neg hk]
    simp
  | p :: P, w :: vs, i + 1, m, nd, h1, h2, hk => by
    show bindC kindOf ((p, w) :: P.zip vs) m x = _
    unfold bindC
    exact bindC_get (i := i) (List.nodup_cons.mp nd).2 (by simpa using h1) (by simpa using h2) hk

def start (N : List Str) (vs : List V) : St := vs.map some ++ List.replicate (N.length - vs.length) none

def cxOf (CX : CXT) (P : Program) (w : World) (K : PySem.W.Frag) (mg : Str → Option Value) (base : Heap) (N : List Str) (qual : Str) (scope : Scope) (f : Addr) (cd : Value) (A : Around) (outer : List Env) (s : Shared) (H : Hp) (E : XK) : Cx where
  prog := P
  w := w
  K := K
  mg := mg
  base := base
  A := A.deeper (envOfC qual scope s.heap.objs.size f cd)
  N := N
  s₀ := s
  H₀ := H
  env := envOfC qual scope s.heap.objs.size f cd
  outer := outer
  stack := envOfC qual scope s.heap.objs.size f cd :: outer
  ex := []
  calm := true
  fn := fun _ => true
  pn := []
  xe := fun e s' => wpAny (model P w) (A.deeper (envOfC qual scope s.heap.objs.size f cd)) (leaving (envOfC qual scope s.heap.objs.size f cd) e) (fun _ s'' => CX outer H s E e s'') (fun e' s'' => CX outer H s E e' s'') s'

theorem cell_has {sc : Scope} {n : Nat} {x : Str} (h : sc.names.lookup x = some .cell) : ∃ c, (cellsFrom n sc.names []).lookup x = some c := by
  have q := PySem.W.cellsFrom_some sc.names n [] (.inl h)
  exact Option.isSome_iff_exists.mp q

theorem inv_start {CX : CXT} {P : Program} {w : World} {K : PySem.W.Frag} {mg : Str → Option Value} {base : Heap} {N ps : List Str} {qual : Str} {scope : Scope} {f : Addr} {cd : Value} {A : Around} {outer : List Env} {s s1 : Shared} {H : Hp} {E : XK} {us : List Value} {vs : List V}
    (S : FnScope N ps scope) (hd : A.handled = none) (e0 : Env0 P w K mg base A outer s H) (hl : vs.length = ps.length) (r : Vals vs us)
    (x : InCallC s s.heap.objs.size (bindL (envOfC qual scope s.heap.objs.size f cd).kindOf (ps.zip us) fun _ => none) (cellsFrom (s.heap.objs.size + 1) scope.names []) (bindC (envOfC qual scope s.heap.objs.size f cd).kindOf (ps.zip us) fun _ => none) s1) :
    Inv (cxOf CX P w K mg base N qual scope f cd A outer s H E) [] (start N vs) H s1 := by
  have hpl : ps.length ≤ N.length := by have := congrArg List.length S.pre; rw [List.length_take] at this; omega
  obtain ⟨h1, tk, rfl, hk⟩ := x.done
  have noA : ∀ b : Addr, b ∉ (cxOf CX P w K mg base N qual scope f cd A outer s H E).ex := fun b z => absurd (show b ∈ ([] : List Addr) from z) (by simp)
  refine ⟨⟨e0.mod, S.kind, rfl, rfl, Nat.le_refl _, fun y z c h1 h2 => ?_, fun y hy => ?_, fun y c _ h => ?_, fun _ => hd, Around.frames_deeper e0.frames, .inr ⟨rfl, rfl⟩, fun b z => absurd z (noA b), e0.bs, e0.bsz, fun b _ _ => noA b, fun b z => absurd z (noA b), e0.funs, e0.frf⟩,
    rfl, e0.bare, Un.kept hk, ⟨_, x.toInCall.ns, fun i y v h1 h2 h3 => ?_⟩, fun y c h => ⟨_, x.cell y c h⟩, e0.hok.fresh (Nat.le_refl _), fun y c h => ?_, fun p hp => absurd (show p ∈ ([] : List (Addr × Obj)) from hp) (by simp), e0.hok.kept hk, ?_⟩
  · exact name_of_addr x.apart (PySem.mem_of_lookup h1) (PySem.mem_of_lookup h2)
  · have hy : scope.names.lookup y = some .cell ∨ scope.names.lookup y = some .free := hy
    rcases hy with hy | hy
    · exact cell_has hy
    · exact absurd rfl (S.nofree _ (PySem.mem_of_lookup hy))
  · exact Nat.le_of_lt (x.above y c (PySem.mem_of_lookup h))
  · have hi : i < vs.length := by
      unfold start at h2
      by_cases hi : i < vs.length
      · exact hi
      · rw [List.getElem?_append_right (by simpa using hi)] at h2
        rw [List.getElem?_replicate] at h2
        split at h2 <;> cases h2
    have ha : vs[i]? = some v := by
      unfold start at h2
      rw [List.getElem?_append_left (by simpa using hi), List.getElem?_map] at h2
      cases e : vs[i]? with
      | none => rw [e] at h2; cases h2
      | some a => rw [e] at h2; cases h2; rfl
    obtain ⟨u, hu, rv⟩ := r.get ha
    have hp : ps[i]? = some y := by
      rw [← S.pre, List.getElem?_take_of_lt (by omega)]; exact h1
    have ndP : ps.Nodup := by rw [← S.pre]; exact S.nd.sublist (List.take_sublist _ _)
    refine ⟨u, rv, ?_⟩
    rcases S.par y (List.mem_of_getElem? hp) with k | k
    · exact .inl ⟨k, bindL_get ndP hp hu k⟩
    · obtain ⟨c, e⟩ := cell_has (n := s.heap.objs.size + 1) k
      refine .inr ⟨.inl k, c, e, ?_⟩
      have q := x.cell y c e
      rw [bindC_get ndP hp hu (by show scope.names.lookup y ≠ _; rw [k]; decide)] at q
      exact q
  · exact e0.hok.fresh (Nat.le_of_lt (x.above y c (PySem.mem_of_lookup h)))
  · unfold start
    show _ = N.length
    rw [List.length_append, List.length_map, List.length_replicate]
    omega

theorem fn_of {CX : CXT} {P : Program} {w : World} {K : PySem.W.Frag} {mg : Str → Option Value} {base : Heap} {k : Nat} {f : Addr} {name qual : Str} {params : Arguments} {body : List Stmt} {scope : Scope} {dV kV doc pm cdv ct oc : Value} {an od : Option Addr}
    {osl : Array (Option Value)} {N ps : List Str} {sp : Sp} (lk : K.lookup f = some ⟨oc, od, .func (PySem.W.fnOf name qual params body scope dV kV doc pm an cdv ct), osl⟩) (hcd : PySem.W.codeIn K cdv qual = true) (S : FnScope N ps scope)
    (len : ∀ vs H Q E, sp vs H Q E → vs.length = ps.length)
    (hbody : ∀ (A : Around) (outer : List Env) (s : Shared) (H : Hp) (vs : List V) (Q : VK) (E : XK), Room k (A.deeper (envOfC qual scope s.heap.objs.size f cdv)) → sp vs H Q E →
      ∃ t, PSs (cxOf CX P w K mg base N qual scope f cdv A outer s H E) body t ∧ t { nx := fun _ H' => Q .non H', rt := Q } (start N vs) H) :
    FnOk P w K mg base CX (k + 1) f (PySem.W.fnOf name qual params body scope dV kV doc pm an cdv ct) ps sp := by
  refine ⟨len, fun A outer s H args us vs Q E hr e0 hb r hsp => ?_⟩
  have hl := len _ _ _ _ hsp
  have KX : K.In s.heap := e0.mod.kin.keeps fun b o e => (e0.bs b o e).1
  have lim : s.heap.NoLimit := e0.mod.nolimit.keeps fun b o e => (e0.bs b o e).1
  have hkind : ∀ y ∈ ps.zip us, scope.names.lookup y.1 = some .local ∨ (scope.names.lookup y.1 = some .cell ∧ ((cellsFrom (s.heap.objs.size + 1) scope.names []).lookup y.1).isSome = true) := fun ⟨n, v⟩ hy => by
    rcases S.par n (List.of_mem_zip hy).1 with q | q
    · exact .inl q
    · exact .inr ⟨q, PySem.W.cellsFrom_some _ _ _ (.inl q)⟩
  refine codeAny_call_function hr.depth (KX _ _ lk) rfl S.co S.gen rfl (PySem.W.codeRec_of KX hcd) (hb _ _ _ _ ?_)
  refine wpAny_newFunctionEnv_cells S.kind hkind fun env he s1 x => ?_
  subst he
  refine ⟨lim.keeps x.toInCall.keep, codeAny_func ?_⟩
  obtain ⟨t, ht, hq⟩ := hbody A outer s H vs Q E (hr.deeper _) hsp
  have I : Inv (cxOf CX P w K mg base N qual scope f cdv A outer s H E) [] (start N vs) H s1 := inv_start S hr.hd e0 hl r x
  refine wpAny_mono (ht [] s1 (start N vs) H _ I hq) (fun fl s' hs => ?_) fun e s' hs => hs
  have fin : ∀ {σ' : St} {H' : Hp} {v : V} {u : Value}, Inv (cxOf CX P w K mg base N qual scope f cdv A outer s H E) [] σ' H' s' → RelV v u → Q v H' → CE outer P w H s Q u s' :=
    fun {σ' H' v u} J rv q => ⟨v, H', J.os, J.bare, J.base, J.hok, rv, q⟩
  cases fl with
  | ret u =>
    obtain ⟨v, σ', H', J, rv, q⟩ := hs
    exact fin J rv q
  | next =>
    obtain ⟨σ', H', J, q⟩ := hs
    exact fin (v := V.non) (u := Value.none) J rfl q
  | brk =>
    obtain ⟨_, _, _, q⟩ := hs
    exact False.elim q
  | cont =>
    obtain ⟨_, _, _, q⟩ := hs
    exact False.elim q
end L2

namespace L2
open PySem PySem.Spec PyProof.Rows
section
variable {X : Cx} {x : Str} {p pos : Pos} {e : Expr} {es : List Expr} {t : TA} {id T : String} {r : List V → Hp → VK → Prop}

def tCB (r : List V → Hp → VK → Prop) (t : TA) : TE := fun σ H Q => t σ H fun vs H1 => r vs H1 Q
theorem pe_callB (hc : CallR X (.builtin id) r) (hg : Gl X x) (hm : X.mg x = none) (hv : bootBuiltins x = some (.builtin id)) (ha : PA X (e :: es) t) (hn : x ≠ "__name__" := by decide) (hdb : (x == ("__debug__" : Str)) = false := by decide)
    (he : starEach (e :: es) X.env = (false, eval e X.env) :: starEach es X.env := by rfl) (hpl : (backTo pos (starEach es X.env)).any (·.1) = false := by rfl) : PE X (.Call (.Name x p) (e :: es) [] pos) (tCB r t) := by
  intro pins s σ H Q I h
  refine wpAny_Call_Name_kw (ld_blt I hg hm hv ?_ hn hdb)
  exact PyProof.Rows.callWith_builtin1 (thn (ha pos pins s σ H _ I h) fun us s1 ⟨vs, H1, I1, r1, q1⟩ => hc pins s1 σ H1 vs us Q I1 r1 q1) he hpl
theorem pe_callTy (hc : CallR X (.type T) r) (hg : Gl X x) (hm : X.mg x = none) (hv : bootBuiltins x = some (.type T)) (ha : PA X (e :: es) t) (hn : x ≠ "__name__" := by decide) (hdb : (x == ("__debug__" : Str)) = false := by decide)
    (he : starEach (e :: es) X.env = (false, eval e X.env) :: starEach es X.env := by rfl) (hpl : (backTo pos (starEach es X.env)).any (·.1) = false := by rfl) : PE X (.Call (.Name x p) (e :: es) [] pos) (tCB r t) := by
  intro pins s σ H Q I h
  refine wpAny_Call_Name_kw (ld_blt I hg hm hv ?_ hn hdb)
  exact PyProof.Rows.callWith_type1 (thn (ha pos pins s σ H _ I h) fun us s1 ⟨vs, H1, I1, r1, q1⟩ => hc pins s1 σ H1 vs us Q I1 r1 q1) he hpl
end
end L2

namespace HT
open PySem PyProof.Rows

section
open PySem.SeqAt
open PySem.AutoSeq1 (wpAny_loadPart')
open PySem.MeetsSeq PySem.MeetsSeq2 PySem.MeetsSeq3

end

section
variable {prog : Program} {w : World} {A : Around} {E : Value → Shared → Prop} {s : Shared}

def sIx (n d : Nat) : Option Int → Nat
  | none => d
  | some v => if v < 0 then (v + (n : Int)).toNat else min v.toNat n
end
end HT

namespace L2
open PySem PySem.Spec PyProof.Rows

abbrev TO := St → Hp → (Option Int → Hp → Prop) → Prop
def PO (X : Cx) (e : Option Expr) (t : TO) : Prop :=
  ∀ (pins : List (Addr × Obj)) (s : Shared) (σ : St) (H : Hp) (Q : Option Int → Hp → Prop), Inv X pins σ H s → t σ H Q →
    wpAny (model X.prog X.w) X.A (evalPart e X.env) (fun u s' => ∃ o H', Inv X pins σ H' s' ∧ IsPart u o ∧ Q o H') X.xe s
def tPart (t : TE) : TO := fun σ H Q => t σ H fun x H1 => ∃ i, x = .int i ∧ Q (some i) H1

section
variable {X : Cx} {e : Expr} {te : TE} {lo hi : Option Expr} {tl th : TO} {pos p2 : Pos}

theorem po_some (h : PE X e te) : PO X (some e) (tPart te) := by
  intro pins s σ H Q I hw
  rw [evalPart_some]
  refine thn (h pins s σ H _ I hw) fun u s1 ⟨x, H1, I1, r1, q1⟩ => ?_
  obtain ⟨i, rfl, q⟩ := q1
  obtain ⟨t, rfl⟩ := r1
  exact ⟨some i, H1, I1, .int i t, q⟩

def SlR (X : Cx) (r : V → Option Int → Option Int → Hp → VK → Prop) : Prop :=
  ∀ (pins : List (Addr × Obj)) (s : Shared) (σ : St) (H : Hp) (x : V) (v vl vu : Value) (lo hi : Option Int) (sl : Addr) (Q : VK), Inv X pins σ H s → RelV x v → s.heap.IsSliceOf sl vl vu .none → IsPart vl lo → IsPart vu hi → r x lo hi H Q →
    ∃ T id, typeLookup (.type T) "__getitem__" = pure (some (.builtin id)) ∧ s.TypeIs v T ∧ wpAny (model X.prog X.w) X.A (getItem v (.ref sl)) (EP X pins σ Q) X.xe s
def tSl (r : V → Option Int → Option Int → Hp → VK → Prop) (te : TE) (tl th : TO) : TE := fun σ H Q => te σ H fun x H1 => tl σ H1 fun l H2 => th σ H2 fun u H3 => r x l u H3 Q
theorem pe_slice {r : V → Option Int → Option Int → Hp → VK → Prop} (hr : SlR X r) (he : PE X e te) (hl : PO X lo tl) (hu : PO X hi th) : PE X (.Subscript e (.Slice lo hi none p2) pos) (tSl r te tl th) := by
  intro pins s σ H Q I h
  refine Subscript_ (thn (he pins s σ H _ I h) fun v s1 ⟨x, H1, I1, r1, q1⟩ => ?_)
  refine wpAny_Slice (thn (hl pins s1 σ H1 _ I1 q1) fun vl s2 ⟨l, H2, I2, pl, q2⟩ => thn (hu pins s2 σ H2 _ I2 q2) fun vu s3 ⟨u, H3, I3, pu, q3⟩ => ?_)
  rw [evalPart_none]
  refine wpAny_pure ?_
  have I4 : Inv X pins σ H3 { s3 with heap := s3.heap.push { cls := .type "slice", data := .fields #[vl, vu, .none] } } := I3.kept (t' := s3.toks) fun b ob q => Heap.get?_push_of_some _ q
  obtain ⟨T, id, hT, ht, hg⟩ := hr pins { s3 with heap := s3.heap.push { cls := .type "slice", data := .fields #[vl, vu, .none] } } σ H3 x v vl vu l u s3.heap.objs.size Q I4 r1 (Heap.IsSliceOf.new ..) pl pu q3
  show wpAny (model X.prog X.w) X.A (subscriptTail e (.Slice lo hi none p2) v (.ref s3.heap.objs.size)) (EP X pins σ Q) X.xe { s3 with heap := s3.heap.push { cls := .type "slice", data := .fields #[vl, vu, .none] } }
  exact tail_any (ops := [.ref s3.heap.objs.size, v]) ht hT hg (by with_unfolding_all rfl)

def cutV (xs : List V) (lo hi : Option Int) : List V := (xs.drop (HT.sIx xs.length 0 lo)).take (HT.sIx xs.length xs.length hi - HT.sIx xs.length 0 lo)
theorem cutV_length (xs : List V) (lo hi : Option Int) : (cutV xs lo hi).length ≤ xs.length := by
  unfold cutV
  rw [List.length_take, List.length_drop]
  omega
end
end L2

namespace L2
open PySem PySem.Spec PyProof.Rows

def ixN (n : Nat) (i : Int) : Option Nat := if 0 ≤ i then (if i < n then some i.toNat else none) else if -(n : Int) ≤ i then some (i + n).toNat else none
def atI {α : Type} (xs : List α) (i : Int) : Option α := (ixN xs.length i).bind fun j => xs[j]?
theorem ixN_seq {n : Nat} {i : Int} {j : Nat} (h : ixN n i = some j) : seqIndex? i n = some j ∧ j < n ∧ -(n : Int) ≤ i ∧ i < n := by
  unfold ixN at h
  by_cases h0 : 0 ≤ i
  · rw [if_pos h0] at h
    by_cases h1 : i < n
    · rw [if_pos h1] at h
      have e : i.toNat = j := Option.some.inj h
      exact ⟨by rw [seqIndex_of h0 h1, e], by omega, by omega, h1⟩
    · rw [if_neg h1] at h; cases h
  · rw [if_neg h0] at h
    by_cases h1 : -(n : Int) ≤ i
    · rw [if_pos h1] at h
      have e : (i + n).toNat = j := Option.some.inj h
      exact ⟨by rw [seqIndex_neg (by omega) h1, e], by omega, h1, by omega⟩
    · rw [if_neg h1] at h; cases h
theorem atI_get {α : Type} {xs : List α} {i : Int} {v : α} (h : atI xs i = some v) : ∃ j, seqIndex? i xs.length = some j ∧ xs[j]? = some v ∧ j < xs.length ∧ -(xs.length : Int) ≤ i ∧ i < xs.length := by
  unfold atI at h
  cases e : ixN xs.length i with
  | none => rw [e] at h; cases h
  | some j =>
    rw [e] at h
    obtain ⟨h1, h2, h3, h4⟩ := ixN_seq e
    exact ⟨j, h1, h, h2, h3, h4⟩
theorem atI_nat {α : Type} {xs : List α} {j : Nat} {v : α} (h : xs[j]? = some v) : atI xs (j : Int) = some v := by
  have hj : j < xs.length := (List.getElem?_eq_some_iff.mp h).1
  have e : ixN xs.length (j : Int) = some j := by
    unfold ixN
    rw [if_pos (by omega), if_pos (by omega)]; simp
  unfold atI; rw [e]; exact h
def PlainIx (b : Expr) : Prop := ∀ o i, subscripted b false o i = operate [o, i] (getItem o i)
def IxR (X : Cx) (r : R2) : Prop :=
  ∀ (value slice : Expr) (pins : List (Addr × Obj)) (s : Shared) (σ : St) (H : Hp) (x y : V) (v u : Value) (Q : VK), Inv X pins σ H s → RelV x v → RelV y u → r x y H Q →
    subscripted slice false v u = operate [v, u] (getItem v u) → wpAny (model X.prog X.w) X.A (subscriptTail value slice v u) (EP X pins σ Q) X.xe s
def MtR (X : Cx) (id : String) (r : V → List V → Hp → VK → Prop) : Prop :=
  ∀ (pins : List (Addr × Obj)) (s : Shared) (σ : St) (H : Hp) (x : V) (xs : List V) (v : Value) (us : List Value) (Q : VK), Inv X pins σ H s → RelV x v → Vals xs us → r x xs H Q →
    wpAny (model X.prog X.w) X.A (call (.builtin id) (v :: us)) (EP X pins σ Q) X.xe s
section
variable {X : Cx} {a b : Expr} {ta tb : TE} {pos : Pos}
theorem pe_ix {r : R2} (hr : IxR X r) (ha : PE X a ta) (hb : PE X b tb) (hs : PlainIx b) : PE X (.Subscript a b pos) (tOp r ta tb) := by
  intro pins s σ H Q I h
  exact Subscript_ (binT ha hb I h fun v u s2 x y H2 I2 rx ry q => hr a b pins s2 σ H2 x y v u Q I2 rx ry q (hs _ _))

def rIxL (K : PySem.W.Frag) : R2 := fun x y H Q => ∃ p xs i v, x = .ref p ∧ y = .int i ∧ SqL K H p xs ∧ atI xs i = some v ∧ Q v H
def rIxT (K : PySem.W.Frag) : R2 := fun x y H Q => ∃ p xs i v, x = .ref p ∧ y = .int i ∧ SqT K H p xs ∧ atI xs i = some v ∧ Q v H
theorem ix_list : IxR X (rIxL X.K) := by
  intro value slice pins s σ H x y v u Q I rx ry h hs
  obtain ⟨p, xs, i, z, rfl, rfl, hq, he, q⟩ := h
  cases rx
  obtain ⟨t, rfl⟩ := ry
  obtain ⟨its, r, pl, hz⟩ := I.list hq
  obtain ⟨j, h1, h2, h3, h4, h5⟩ := atI_get he
  obtain ⟨w, ew, rw'⟩ := r.get h2
  have hl := r.length
  have hn := line63
  have fin : EP X pins σ Q w s := ⟨z, H, I, rw', q⟩
  by_cases h0 : 0 ≤ i
  · have hj : i.toNat = j := by
      rw [seqIndex_of h0 h5] at h1
      exact Option.some.inj h1
    exact item_listR pl.isList h0 (by omega) (by rw [hj]; simpa using ew) fin hs
  · have hj : (i + (its.toArray.size : Int)).toNat = j := by
      rw [seqIndex_neg (by omega) h4] at h1
      rw [List.size_toArray, ← hl]
      exact Option.some.inj h1
    exact subscriptTail_builtinR (x := w) pl.isList.typeIs slot_list_getitem.lookup
      (wpAny_getItem_list_neg (Q := fun r s' => r = w ∧ EP X pins σ Q r s') pl.isList (by omega) (by rw [List.size_toArray] <;> omega) (by omega) (by rw [hj]; simpa using ew) ⟨rfl, fin⟩) hs
theorem ix_tup : IxR X (rIxT X.K) := by
  intro value slice pins s σ H x y v u Q I rx ry h hs
  obtain ⟨p, xs, i, z, rfl, rfl, hq, he, q⟩ := h
  cases rx
  obtain ⟨t, rfl⟩ := ry
  obtain ⟨its, r, pl, hz⟩ := I.tuple hq
  obtain ⟨j, h1, h2, h3, h4, h5⟩ := atI_get he
  obtain ⟨w, ew, rw'⟩ := r.get h2
  have hl := r.length
  have hn := line63
  have fin : EP X pins σ Q w s := ⟨z, H, I, rw', q⟩
  exact subscriptTail_builtinR (x := w) pl.typeIs slot_tuple_getitem.lookup
    (getItem_tuple (j := j) (Q := fun r s' => r = w ∧ EP X pins σ Q r s') pl (by omega) (by omega) (by rw [List.size_toArray, ← hl]; exact h1) (by simpa using ew) ⟨rfl, fin⟩) hs
theorem slice_bounds (lo hi : Option Int) (n : Nat) : (sliceBounds lo hi none n).1 = ((HT.sIx n 0 lo : Nat) : Int) ∧ (sliceBounds lo hi none n).2.1 = ((HT.sIx n n hi : Nat) : Int) ∧ (sliceBounds lo hi none n).2.2 = 1 := by
  refine ⟨?_, ?_, rfl⟩
  · cases lo with
    | none => simp [sliceBounds, HT.sIx]
    | some i =>
      simp only [sliceBounds, HT.sIx, Option.getD_none, show (1 : Int) > 0 by decide, if_true]
      by_cases h : i < 0
      · simp only [h, if_true] <;> omega
      · simp only [h, if_false] <;> omega
  · cases hi with
    | none => simp [sliceBounds, HT.sIx]
    | some i =>
      simp only [sliceBounds, HT.sIx, Option.getD_none, show (1 : Int) > 0 by decide, if_true]
      by_cases h : i < 0
      · simp only [h, if_true] <;> omega
      · simp only [h, if_false] <;> omega
theorem slicePick_cut (its : List Value) (lo hi : Option Int) : slicePick its.toArray lo hi none = ((its.drop (HT.sIx its.length 0 lo)).take (HT.sIx its.length its.length hi - HT.sIx its.length 0 lo)).toArray := by
  obtain ⟨h1, h2, h3⟩ := slice_bounds lo hi its.toArray.size
  unfold slicePick
  rw [h1, h2, h3]
  simp only [sliceRange_one, pick_run, List.size_toArray] <;> rfl
def rSlL (K : PySem.W.Frag) : V → Option Int → Option Int → Hp → VK → Prop := fun x lo hi H Q => ∃ a xs, x = .ref a ∧ SqL K H a xs ∧ ∀ p, H p = none → Q (.ref p) (upd H p (.lst (cutV xs lo hi)))
theorem sl_list : SlR X (rSlL X.K) := by
  intro pins s σ H x v vl vu lo hi sl Q I rx hs pl pu h
  obtain ⟨a, xs, rfl, hx, q⟩ := h
  cases rx
  obtain ⟨its, r, ht, hz⟩ := I.list hx
  have hlen := r.length
  refine ⟨"list", _, slot_list_getitem.lookup, ht.isList.typeIs, ?_⟩
  refine wpAny_getItem_list_slice ht.isList hs pl pu .none (by simp) ?_ (by rw [List.size_toArray] <;> omega)
  rw [slicePick_cut, ← hlen]
  refine ⟨.ref s.heap.objs.size, _, I.laid (t' := s.toks) (o := .lst (cutV xs lo hi)) (fun b ob q => Heap.get?_push_of_some _ q) (Nat.le_refl _) ?_, rfl, q _ (I.hok.fresh (Nat.le_refl _))⟩
  exact ⟨Nat.le_trans (cutV_length xs lo hi) hz, _, 0, (r.drop (HT.sIx xs.length 0 lo)).take (HT.sIx xs.length xs.length hi - HT.sIx xs.length 0 lo), Heap.get?_push_size _ rfl⟩

theorem call_len_seq : CallR X (.builtin "len") (fun xs H Q => ∃ p ys, xs = [.ref p] ∧ (SqL X.K H p ys ∨ SqT X.K H p ys) ∧ Q (.int ys.length) H) := by
  intro pins s σ H xs us Q I r h
  obtain ⟨p, ys, rfl, hq, q⟩ := h
  obtain ⟨u, rfl, rx⟩ := vals1 r
  cases rx
  have hn := line63
  rcases hq with hq | hq
  · obtain ⟨its, r', pl, hz⟩ := I.list hq
    have hlen := r'.length
    exact Calls.call_len_list pl.isList (by simp only [List.size_toArray] <;> omega) ⟨.int ys.length, H, I.tok _, ⟨s.toks + 1, by rw [List.size_toArray, hlen]⟩, q⟩
  · obtain ⟨its, r', pl, hz⟩ := I.tuple hq
    have hlen := r'.length
    exact len_tuple pl (by simp only [List.size_toArray] <;> omega) ⟨.int ys.length, H, I.tok _, ⟨s.toks + 1, by rw [List.size_toArray, hlen]⟩, q⟩
theorem call_list_of : CallR X (.type "list") (fun xs H Q => ∃ p ys, xs = [.ref p] ∧ (SqL X.K H p ys ∨ SqT X.K H p ys) ∧ ∀ l, H l = none → Q (.ref l) (upd H l (.lst ys))) := by
  intro pins s σ H xs us Q I r h
  obtain ⟨p, ys, rfl, hq, q⟩ := h
  obtain ⟨u, rfl, rx⟩ := vals1 r
  cases rx
  have fin : ∀ (its : List Value), Vals ys its → ys.length ≤ sizeLine → ∀ (h' : Heap) (c' : Nat), (∀ b o', s.heap.get? b = some o' → h'.get? b = some o') →
      h'.get? s.heap.objs.size = some { cls := .type "list", dict := none, data := .seq its.toArray c', slots := #[] } → EP X pins σ Q (.ref s.heap.objs.size) { s with heap := h' } := fun its r' hz h' c' kp e =>
    ⟨.ref s.heap.objs.size, _, I.laid (t' := s.toks) kp (Nat.le_refl _) (show ObjOk X.prog X.w _ h' _ (.lst ys) from ⟨hz, its, c', r', e⟩), rfl, q _ (I.hok.fresh (Nat.le_refl _))⟩
  rcases hq with hq | hq
  · obtain ⟨its, r', pl, hz⟩ := I.list hq
    have hlen := r'.length
    obtain ⟨o, ho, hc, n, hd⟩ := pl.isList
    exact call_list_seq p (.inl rfl) ho hc hd (fun h' c' kp e => fin its r' hz h' c' kp e) (by simp only [List.size_toArray] <;> omega)
  · obtain ⟨its, r', pl, hz⟩ := I.tuple hq
    have hlen := r'.length
    obtain ⟨o, ho, hc, n, hd⟩ := pl
    exact call_list_seq p (.inr rfl) ho hc hd (fun h' c' kp e => fin its r' hz h' c' kp e) (by simp only [List.size_toArray] <;> omega)
def tyV (K : PySem.W.Frag) (T : String) (x : V) (H : Hp) : Prop := match x with
  | .str _ => T = "str"
  | .int _ => T = "int"
  | .ref p => (T = "list" ∧ ∃ xs, SqL K H p xs) ∨ (T = "tuple" ∧ ∃ o, K.lookup p = some o ∧ o.cls = .type "tuple" ∧ o.dict = none) ∨
      (T = "dict" ∧ ((∃ kvs, H p = some (.dK kvs)) ∨ ∃ kvs, H p = some (.dT kvs))) ∨ (T = "set" ∧ ∃ S n, H p = some (.set S n))
  | _ => False
theorem tyV_is {pins : List (Addr × Obj)} {σ : St} {H : Hp} {s : Shared} {T : String} {x : V} {v : Value} (I : Inv X pins σ H s) (r : RelV x v) (ty : tyV X.K T x H) :
    s.TypeIs v T ∧ ∀ a, v = .ref a → ∃ ob, s.heap.get? a = some ob ∧ ob.dict = none := by
  cases x with
  | str z =>
    obtain ⟨t, rfl⟩ := r
    cases (show T = "str" from ty)
    exact ⟨typeIs_str s z t, fun _ e => nomatch e⟩
  | int i =>
    obtain ⟨t, rfl⟩ := r
    cases (show T = "int" from ty)
    exact ⟨typeIs_int s i t, fun _ e => nomatch e⟩
  | ref p =>
    cases r
    rcases ty with ⟨rfl, xs, hq⟩ | ⟨rfl, o, hk, hc, hd⟩ | ⟨rfl, hk⟩ | ⟨rfl, S, n, hk⟩
    · obtain ⟨its, _, pl, _⟩ := I.list hq
      refine ⟨pl.isList.typeIs, fun a e => ?_⟩
      cases e
      obtain ⟨o, n, e, c, hd, _⟩ := pl
      exact ⟨o, e, hd⟩
    · refine ⟨⟨o, I.kIn p o hk, hc⟩, fun a e => ?_⟩
      cases e
      exact ⟨o, I.kIn _ o hk, hd⟩
    · have z : ∃ o, s.heap.get? p = some o ∧ o.ExactDict := by
        rcases hk with ⟨kvs, hk⟩ | ⟨kvs, hk⟩
        · obtain ⟨_, _, _, _, o, _, _, e, ex, _⟩ := I.hok p _ hk
          exact ⟨o, e, ex⟩
        · obtain ⟨_, _, _, _, o, _, _, e, ex, _⟩ := I.hok p _ hk
          exact ⟨o, e, ex⟩
      obtain ⟨o, e, ex⟩ := z
      refine ⟨⟨o, e, ex.1⟩, fun a e2 => ?_⟩
      cases e2
      exact ⟨o, e, ex.2.1⟩
    · obtain ⟨o, _, _, _, e, ex, _⟩ := I.hok p _ hk
      refine ⟨⟨o, e, ex.1⟩, fun a e2 => ?_⟩
      cases e2
      exact ⟨o, e, ex.2.1⟩
  | _ => exact False.elim ty
def tBM0 (K : PySem.W.Frag) (T : String) (r : V → List V → Hp → VK → Prop) (to : TE) : TE := fun σ H Q => to σ H fun x H1 => tyV K T x H1 ∧ r x [] H1 Q
def tBM (K : PySem.W.Frag) (T : String) (r : V → List V → Hp → VK → Prop) (to : TE) (t : TA) : TE := fun σ H Q => to σ H fun x H1 => tyV K T x H1 ∧ t σ H1 fun xs H2 => r x xs H2 Q
variable {o e : Expr} {es : List Expr} {to : TE} {t : TA} {name : Str} {apos cpos : Pos} {T id : String} {r : V → List V → Hp → VK → Prop}
theorem pe_bm0 (pa : PlainAttrs T) (slot : Slot T name id) (hty : typeOf (.builtin id) = pure (.type "method_descriptor")) (hm : MtR X id r) (ho : PE X o to)
    (hbase : attributeBase o name X.env (eval o X.env) = eval o X.env := by rfl) (hline : (apos.endLine == cpos.line) = true := by rfl) : PE X (.Call (.Attribute o name apos) [] [] cpos) (tBM0 X.K T r to) := by
  intro pins s σ H Q I h
  refine wpAny_Call_method0_late hbase hline (thn (ho pins s σ H _ I h) fun v s1 ⟨x, H1, I1, r1, ty, q1⟩ => ?_)
  obtain ⟨h1, h2⟩ := tyV_is I1 r1 ty
  exact ⟨T, id, pa, slot, hty, h1, h2, Calls.callWith_builtin rfl (PySem.evalArgs_none (hm pins s1 σ H1 x [] v [] Q I1 r1 .nil q1))⟩
theorem pe_bm (pa : PlainAttrs T) (slot : Slot T name id) (hty : typeOf (.builtin id) = pure (.type "method_descriptor")) (hm : MtR X id r) (ho : PE X o to) (ha : PA X (e :: es) t)
    (hbase : attributeBase o name X.env (eval o X.env) = eval o X.env := by rfl)
    (hfew : ((backTo cpos (starEach (e :: es) X.env)).all (fun x => !x.1) && (backToKw cpos (keywordEach [] X.env)).all (fun x => x.1.isSome)
      && decide ((e :: es).length + ([] : List Keyword).length + (if ([] : List Keyword).isEmpty then 0 else 1) < 30)) = true := by rfl)
    (hline : (apos.endLine == cpos.line) = true := by rfl) (hs : starEach (e :: es) X.env = (false, eval e X.env) :: starEach es X.env := by rfl) (hplain : (backTo cpos (starEach es X.env)).any (·.1) = false := by rfl) :
    PE X (.Call (.Attribute o name apos) (e :: es) [] cpos) (tBM X.K T r to t) := by
  intro pins s σ H Q I h
  refine wpAny_Call_method_late hbase hfew hline rfl (thn (ho pins s σ H _ I h) fun v s1 ⟨x, H1, I1, r1, ty, q1⟩ => ?_)
  obtain ⟨h1, h2⟩ := tyV_is I1 r1 ty
  refine ⟨T, id, pa, slot, hty, h1, h2, ?_⟩
  have hA := ha cpos pins s1 σ H1 _ I1 q1
  rw [hs] at hA ⊢
  refine Calls.callWith_builtin (by show (false || (backTo cpos (starEach es X.env)).any (·.1)) = false; rw [hplain] <;> rfl) (Calls.evalArgs_plain ?_)
  exact thn hA fun us s2 ⟨vs, H2, I2, r2, q2⟩ => hm pins s2 σ H2 x vs v us Q I2 r1 r2 q2
end
end L2

namespace L2
open PySem PySem.Spec PyProof.Rows

def MtM (X : Cx) (id : String) (r : V → List V → Hp → VK → Prop) : Prop :=
  ∀ (pins : List (Addr × Obj)) (s : Shared) (σ : St) (H : Hp) (x : V) (xs : List V) (v : Value) (us : List Value) (Q : VK), Inv X pins σ H s → RelV x v → Vals xs us → r x xs H Q →
    wpAny (model X.prog X.w) X.A (call (.builtin id) (v :: us)) (EP X pins σ Q) X.xe s

theorem Vals.one : ∀ {x : V} {us : List Value}, Vals [x] us → ∃ u, us = [u] ∧ RelV x u
  | _, _, .cons r .nil => ⟨_, rfl, r⟩
theorem Vals.rep {xs : List V} {us : List Value} (h : Vals xs us) : ∀ k : Nat, Vals (List.replicate k xs).flatten (List.replicate k us).flatten
  | 0 => .nil
  | k + 1 => by
    rw [List.replicate_succ, List.replicate_succ, List.flatten_cons, List.flatten_cons]
    exact Vals.append h (Vals.rep h k)
theorem foldl_rep (its : List Value) : ∀ (k : Nat) (acc : List Value),
    List.foldl (fun x1 x2 => x1 ++ x2) acc.toArray (List.replicate k its.toArray) = (acc ++ (List.replicate k its).flatten).toArray
  | 0, acc => by simp
  | k + 1, acc => by
    have e : acc.toArray ++ its.toArray = (acc ++ its).toArray := by simp
    have e2 : (acc ++ its) ++ (List.replicate k its).flatten = acc ++ (List.replicate (k + 1) its).flatten := by
      rw [List.replicate_succ, List.flatten_cons, List.append_assoc]
    rw [← e2, ← foldl_rep its k (acc ++ its), ← e, List.replicate_succ, List.foldl_cons]

section
variable {X : Cx} {pins : List (Addr × Obj)} {σ : St} {H : Hp} {s : Shared} {l b : Addr} {xs ys zs : List V}

theorem Inv.lset {its its' : List Value} {n : Nat} {f : Array Value → Array Value} {t' : Nat} (I : Inv X pins σ H s) (hH : H l = some (.lst xs))
    (e : s.heap.get? l = some { cls := .type "list", data := .seq its.toArray n }) (hf : f its.toArray = its'.toArray) (hv : Vals ys its') (hz : ys.length ≤ sizeLine) :
    Inv X pins σ (upd H l (.lst ys)) { s with heap := s.heap.update l (Obj.mapSeq f), toks := t' } := by
  have q := PySem.IsL.update e f
  rw [hf] at q
  refine I.write (x := l) (e := l) (by rw [hH]; exact trivial) (.inl rfl) (fun b' u hb hu => (Heap.get?_update_other s.heap (Obj.mapSeq f) (Ne.symm hb)).trans hu) ⟨_, q⟩ ?_
  exact ⟨hz, its', _, hv, q⟩
theorem Inv.lnew {its : List Value} {t' : Nat} (I : Inv X pins σ H s) (hv : Vals ys its) (hz : ys.length ≤ sizeLine) :
    Inv X pins σ (upd H s.heap.objs.size (.lst ys)) { s with heap := s.heap.push { cls := .type "list", data := .seq its.toArray }, toks := t' } :=
  I.laid (fun _ _ q => Heap.get?_push_of_some _ q) (Nat.le_refl _) ⟨hz, its, 0, hv, Heap.get?_push_size _ rfl⟩
theorem Inv.fresh (I : Inv X pins σ H s) : H s.heap.objs.size = none := I.hok.fresh (Nat.le_refl _)
theorem Inv.lstM (I : Inv X pins σ H s) (hH : H l = some (.lst xs)) : xs.length ≤ sizeLine ∧ ∃ (its : List Value) (n : Nat), Vals xs its ∧ xs.length = its.length ∧ s.heap.get? l = some { cls := .type "list", data := .seq its.toArray n } := by
  obtain ⟨z, its, n, r, e⟩ := I.hok l _ hH
  exact ⟨z, its, n, r, r.length, e⟩

theorem notLongL {n : Nat} (h : n ≤ sizeLine) : Builtin.List.listTooLong n = false := by
  unfold Builtin.List.listTooLong
  exact decide_eq_false (by omega)
end

section
variable {X : Cx}

def rAppend : V → List V → Hp → VK → Prop := fun x vs H Q => ∃ l xs y, x = .ref l ∧ vs = [y] ∧ H l = some (.lst xs) ∧ xs.length < sizeLine ∧ Q .non (upd H l (.lst (xs ++ [y])))
theorem mt_append : MtM X "list.append" rAppend := by
  intro pins s σ H x vs v us Q I rx rv h
  obtain ⟨l, xs, y, rfl, rfl, hH, hz, q⟩ := h
  cases rx
  obtain ⟨u, rfl, ru⟩ := rv.one
  obtain ⟨z, its, n, r, hl, e⟩ := I.lstM hH
  refine call_meets F.slot_list_append ⟨_, e, rfl⟩ F.entry_list_append (F.args_list_append_2 _ _) (PySem.list_append l its.toArray n u (by rw [List.size_toArray]; omega)) ⟨e, ?_⟩
  refine ⟨.non, _, I.lset (its' := its ++ [u]) hH e (by simp) (r.append (.cons ru .nil)) ?_, rfl, q⟩
  rw [List.length_append, List.length_singleton]
  omega

def rRep : R2 := fun x y H Q => ∃ l k xs, x = .ref l ∧ y = .int k ∧ H l = some (.lst xs) ∧ -(2 ^ 63) ≤ k ∧ k < 2 ^ 63 ∧ xs.length * k.toNat ≤ sizeLine ∧
  ∀ p, H p = none → Q (.ref p) (upd H p (.lst (List.replicate k.toNat xs).flatten))
theorem len_rep {α : Type} (xs : List α) (k : Nat) : (List.replicate k xs).flatten.length = k * xs.length := by
  induction k with
  | zero => simp
  | succ k ih => rw [List.replicate_succ, List.flatten_cons, List.length_append, ih, Nat.succ_mul, Nat.add_comm]
theorem op_rep : OpR X (binaryOp .Mult) rRep := by
  intro pins s σ H x y v u Q I rx ry h
  obtain ⟨l, k, xs, rfl, rfl, hH, h1, h2, hz, q⟩ := h
  cases rx
  obtain ⟨t, rfl⟩ := ry
  obtain ⟨z, its, n, r, hl, e⟩ := I.lstM hH
  have hlen : its.toArray.size * k.toNat ≤ sizeLine := by rw [List.size_toArray, ← hl]; exact hz
  have hcap : ¬ its.toArray.size * k.toNat > (2 ^ 63 - 1) / 8 := by
    have : (sizeLine : Nat) ≤ (2 ^ 63 - 1) / 8 := by decide
    omega
  have hfit : ¬ (!Builtin.List.listFitsIndex k) = true := by
    rw [fitsIndex_both h1 h2]
    exact Bool.false_ne_true
  have hlong : ¬ Builtin.List.listTooLong (its.toArray.size * k.toNat) = true := by
    rw [notLongL hlen]
    exact Bool.false_ne_true
  have hnew : List.foldl (fun x1 x2 => x1 ++ x2) #[] (List.replicate (if its.toArray.isEmpty = true then 0 else k.toNat) its.toArray) = (List.replicate k.toNat its).flatten.toArray := by
    have f0 : ∀ m : Nat, List.foldl (fun x1 x2 => x1 ++ x2) #[] (List.replicate m its.toArray) = (List.replicate m its).flatten.toArray := fun m => by
      have := foldl_rep its m []
      rw [List.nil_append] at this
      exact this
    rw [f0]
    cases its with
    | nil => simp
    | cons a r' => rw [if_neg (by simp)]
  refine wpAny_binaryOp_repeat_ref (T := "list") (U := "int") (by decide) ⟨_, e, rfl⟩ (fun s' => typeIs_int s' k t) noFill_list_mul F.fills_int_mul F.slot_int_rmul repeat_list F.slot_int_index.lookup
    (call_meets F.slot_int_rmul (typeIs_int s k t) F.entry_int_rmul (F.args_int_rmul_2 _ _) (int___rmul___int_list k t l its.toArray n)
      ⟨e, rfl, ⟨_, e, rfl⟩, call_meets F.slot_list_mul ⟨_, e, rfl⟩ F.entry_list_mul (F.args_list_mul_2 _ _) (AutoListH.list___mul___list_int_3 l its.toArray n k t hfit hcap hlong) ⟨e, ?_⟩⟩)
  rw [hnew]
  exact ⟨.ref _, _, I.lnew (t' := s.toks) (r.rep k.toNat) (by rw [len_rep, Nat.mul_comm]; exact hz), rfl, q _ I.fresh⟩

end


end L2

namespace Att
open PySem PySem.W PySem.Calls PyProof.Rows

theorem ints_of_wellAll {P : Params} {h : Heap} : ∀ (ns : List Int) (vs : List Value), WellAll P h vs (ns.map WData.int) → IntsAre vs ns := by
  intro ns
  induction ns with
  | nil =>
    intro vs w
    rw [List.map_nil] at w
    cases w
    exact .nil
  | cons n ns ih =>
    intro vs w
    rw [List.map_cons] at w
    cases w with
    | cons a b =>
      cases a
      exact .cons _ _ (ih _ b)

theorem script_of {l : OpenLaw} {n : Nat} (hn : l.most = some n) {P : Params} {h : Heap} {args : List WData} {vals : List Value}
    (hpre : l.row.toRowW.claim.pre args = true) (hwl : WellAll P h vals args) :
    ∃ a vs ns, vals = [Value.ref a] ∧ args = [WData.list (ns.map WData.int)] ∧ h.get? a = some { cls := .type "list", data := .seq vs.toArray } ∧ IntsAre vs ns ∧ ns.length ≤ n := by
  have hsh : WShape.hasAll [] args [.list .int] = true := (pre_splitW hpre).1
  have hc : l.pre.holds [] { args := args } = true := (pre_splitW hpre).2
  obtain ⟨d, r, rfl, h1, h2⟩ := hasAllW_cons hsh
  obtain rfl := hasAllW_nil h2
  obtain ⟨xs, rfl, h3⟩ := hasW_list h1
  obtain ⟨ns, rfl⟩ := items_int h3
  have hlen : ns.length ≤ n := by
    unfold OpenLaw.pre at hc
    have h4 : (WTm.not (.lt (.lit (.int (n : Int))) (.len (.arg 0)))).holds [] { args := [.list (ns.map .int)] } = true := by
      have h4 := (holds_andW hc).1
      rw [hn] at h4
      exact h4
    have h5 := condW_of h4 (w_not (w_lt w_lit (w_len_list (w_arg rfl))))
    rw [List.length_map] at h5
    refine Nat.le_of_not_lt fun q => ?_
    have q' : (n : Int) < ((ns.length : Nat) : Int) := by omega
    first
      | (rw [decide_eq_true q'] at h5; exact absurd h5 (by decide))
      | (simp at h5; omega)
  cases hwl with
  | cons w1 w2 =>
    cases w2
    cases w1 with
    | list ho hall => exact ⟨_, _, ns, rfl, rfl, ho, ints_of_wellAll ns _ hall, hlen⟩

theorem post_true (l : OpenLaw) (args : List WData) : l.row.toRowW.claim.post args (.bool true) args = true :=
  postW_of (r := l.row.toRowW) (X := (true == true))
    (show WShape.has [] (.bool true) .bool = true by first | rfl | decide | simp [WShape.has, WShape.arms, WShape.armsAll])
    (show (WTm.eq .res (.lit (.bool true))).value [] { args := args, res := some (.bool true), after := args } = some (.bool (true == true)) from w_eq_bool (w_res rfl) w_lit) rfl

theorem attach_call {l : OpenLaw} {n : Nat} {q : Program} {loose : List Str} {XP : (Str → Option Value) → Heap → Prop} {YP : World → Heap → Prop} {d : DefRec}
    (hn : l.most = some n) (hdf : d.params.defaults = [])
    (call : ∀ (w : World) (s₀ s₁ : Shared) (mg mb : Str → Option Value) (fa : Addr) (o : Obj) (pm cd doc : Value) (a : Addr) (vs : List Value) (ns : List Int),
      Ground q loose [] XP w s₀ mg mb s₁.heap → YP w s₁.heap →
      s₁.heap.get? fa = some o → o.data = .func (docDef d.name d.params d.body d.scope pm cd doc) → s₁.heap.CodeRec cd d.name → mg d.name = some (.ref fa) →
      s₁.heap.get? a = some { cls := .type "list", data := .seq vs.toArray } → IntsAre vs ns → ns.length ≤ n → s₁.gens = #[] →
      codeAny (model l.prog w) callerA (.call (.ref fa) ⟨[.ref a], []⟩) (fun r s' => r = .ok (.ret (.bool true)) ∧ OldK s₁.heap s'.heap ∧ s'.os = s₁.os ∧ AllBare s'.gens) s₁) :
    WalkO q loose XP YP l.row.toRowW d [] (fun f vs => PySem.call f vs) := by
  intro w s₀ s₁ mg mb G Y fa o pm cd doc dV kV ho hd hcd hD hmg hg args vals as hpre hlay hrd hwl hlo
  obtain rfl : dV = .none := Dflts.none hD hdf
  obtain rfl : kV = .none := Dflts.noKw hD
  obtain ⟨a, vs, ns, rfl, rfl, hobj, hints, hlen⟩ := script_of hn hpre hwl
  refine enter_call (codeAny_mono (call w s₀ s₁ mg mb fa o pm cd doc a vs ns G Y ho (fd_plain hd) hcd hmg hobj hints hlen hg) fun r s' hq => ?_)
  obtain ⟨rfl, h2, h3, h4⟩ := hq
  exact ⟨.inl ⟨.bool true, .bool true, [], rfl, fun _ => rfl, .bool true, post_true l _, fun _ => ⟨List.Pairwise.nil, fun _ hm => (nomatch hm)⟩⟩, h2, h3, h4⟩

section
variable {prog : Program} {w : World} {A : Around} {E : Value → Shared → Prop} {s : Shared} {K : Frag}

end
end Att

namespace L2
open PySem PySem.Spec PyProof.Rows

theorem vals_ints : ∀ {vs : List Value} {ns : List Int}, IntsAre vs ns → Vals (ns.map V.int) vs
  | _, _, .nil => .nil
  | _, _, .cons n t h => .cons ⟨t, rfl⟩ (vals_ints h)

end L2

namespace L2
open PySem PySem.Spec PyProof.Rows

end L2

namespace L2
open PySem PySem.Spec PyProof.Rows

def defArgs (s : Stmt) : Arguments := match s with
  | .FunctionDef _ a _ _ _ _ _ _ _ _ => a
  | _ => { posonlyargs := [], args := [], vararg := none, kwonlyargs := [], kw_defaults := [], kwarg := none, defaults := [] }
def defBody (s : Stmt) : List Stmt := match s with
  | .FunctionDef _ _ b _ _ _ _ _ _ _ => b
  | _ => []
def defScope (s : Stmt) : Scope := match s with
  | .FunctionDef _ _ _ _ _ _ sc _ _ _ => sc
  | _ => { kind := .function, names := [], isGenerator := false, isCoroutine := false }

abbrev CX0 : CXT := fun _ _ _ _ _ _ => False
abbrev E0 : XK := fun _ _ _ => False
theorem pass0 {X : Cx} : Passes CX0 X E0 := fun _ _ _ _ _ _ _ h => h.elim

structure Fun (K : PySem.W.Frag) (x qual : Str) (st : Stmt) (f : Addr) (fd : FuncData) : Prop where
  ex : ∃ (oc : Value) (od : Option Addr) (kV doc pm : Value) (an : Option Addr) (cdv ct : Value) (osl : Array (Option Value)),
    fd = PySem.W.fnOf x qual (defArgs st) (defBody st) (defScope st) .none kV doc pm an cdv ct ∧ K.lookup f = some ⟨oc, od, .func fd, osl⟩ ∧ PySem.W.codeIn K cdv qual = true
  kp : PySem.W.keepIn K (.ref f) = true
section
variable {P : Program} {w : World} {K : PySem.W.Frag} {mg : Str → Option Value} {base : Heap}
theorem Fun.ok {x qual : Str} {st : Stmt} {f : Addr} {fd : FuncData} {N ps : List Str} {k : Nat} {sp : Sp} (F : Fun K x qual st f fd) (S : FnScope N ps (defScope st)) (len : ∀ vs H Q E, sp vs H Q E → vs.length = ps.length)
    (hbody : ∀ (cdv : Value) (A : Around) (outer : List Env) (s : Shared) (H : Hp) (vs : List V) (Q : VK) (E : XK), Room k (A.deeper (envOfC qual (defScope st) s.heap.objs.size f cdv)) → sp vs H Q E →
      ∃ t, PSs (cxOf CX0 P w K mg base N qual (defScope st) f cdv A outer s H E).nox (defBody st) t ∧ t { nx := fun _ H' => Q .non H', rt := Q } (start N vs) H) : FnOk P w K mg base CX0 (k + 1) f fd ps sp := by
  obtain ⟨oc, od, kV, doc, pm, an, cdv, ct, osl, rfl, lk, hcd⟩ := F.ex
  refine fn_of lk hcd S len fun A outer s H vs Q E hr hsp => ?_
  obtain ⟨t, h, q⟩ := hbody cdv A outer s H vs Q E hr hsp
  exact ⟨t, h.nox, q⟩
theorem Fun.binds {x qual : Str} {st : Stmt} {f : Addr} {fd : FuncData} {ps : List Str} (F : Fun K x qual st f fd)
    (h : ∀ (kV doc pm : Value) (an : Option Addr) (cdv ct : Value) (us : List Value), us.length = ps.length → bindArgs (PySem.W.fnOf x qual (defArgs st) (defBody st) (defScope st) .none kV doc pm an cdv ct) ⟨us, []⟩ = pure (ps.zip us)) : Binds K fd ps [] := by
  obtain ⟨oc, od, kV, doc, pm, an, cdv, ct, osl, rfl, lk, hcd⟩ := F.ex
  exact .all (h kV doc pm an cdv ct)
theorem fun_mk {x qual : Str} {st : Stmt} {f : Addr} {oc : Value} {od an : Option Addr} {osl : Array (Option Value)} {kV doc pm cdv ct : Value} (l : K.lookup f = some ⟨oc, od, .func (PySem.W.fnOf x qual (defArgs st) (defBody st) (defScope st) .none kV doc pm an cdv ct), osl⟩)
    (c : PySem.W.codeIn K cdv qual = true) (k : PySem.W.keepIn K (.ref f) = true) : Fun K x qual st f (PySem.W.fnOf x qual (defArgs st) (defBody st) (defScope st) .none kV doc pm an cdv ct) := ⟨⟨oc, od, kV, doc, pm, an, cdv, ct, osl, rfl, l, c⟩, k⟩
end
theorem hu_of {A : Around} {k : Nat} (hr : Room k A) : A.units + 1 < cLine := Nat.lt_of_le_of_lt (Nat.add_le_add_left (by decide : 1 ≤ 64) _) hr.units
section
variable {X : Cx}
theorem pv (i : Nat) {x : Str} {pos : Pos} (hN : X.N[i]? = some x := by rfl) (hv : Vis X.env.scope x := by first | exact Or.inl rfl | exact Or.inr (Or.inl rfl) | exact Or.inr (Or.inr rfl)) (hd : (x == ("__debug__" : Str)) = false := by decide)
    (hcd : (x == ("__classdict__" : Str)) = false := by decide) : PE X (.Name x pos) (tVar i) := pe_var hN hv hd hcd
end

theorem iteF {A B : Prop} (h : B) : if false = true then A else B := by
  rw [if_neg Bool.false_ne_true]
  exact h
theorem iteT {A B : Prop} (h : A) : if true = true then A else B := by
  rw [if_pos rfl]
  exact h
def Same (H H' : Hp) : Prop := ∀ b o, H b = some o → H' b = some o
theorem Same.refl (H : Hp) : Same H H := fun _ _ h => h
theorem Same.trans {H H1 H2 : Hp} (a : Same H H1) (b : Same H1 H2) : Same H H2 := fun c o h => b c o (a c o h)
theorem Same.free {H H' : Hp} (e : Same H H') {l : Addr} (h : H' l = Option.none) : H l = Option.none := by
  cases q : H l with
  | none => rfl
  | some o =>
    rw [e l o q] at h
    cases h
theorem Same.seq {K : PySem.W.Frag} {H H' : Hp} {a : Addr} {xs : List V} (e : Same H H') (h : SqL K H a xs) : SqL K H' a xs := by
  rcases h with (h | ⟨o, h⟩) | h
  · exact .inl (.inl (e _ _ h))
  · exact .inl (.inr ⟨o, e _ _ h⟩)
  · exact .inr h

end L2

set_option maxHeartbeats 4000000
namespace L2
open PySem PySem.Spec PyProof.Rows PySem.Builtin PySem.Builtin.Str

def T (l : List Nat) : Str := ⟨l.toArray⟩
theorem T_cps (l : List Nat) : (T l).cps.toList = l := by simp [T]
theorem T_inj {a b : List Nat} : T a = T b ↔ a = b := by
  constructor
  · intro h
    have := congrArg (fun x : Str => x.cps.toList) h
    simpa [T] using this
  · rintro rfl; rfl

end L2

namespace L2
open PySem PySem.Spec PyProof.Rows

def clos (cells : List (Str × Addr)) : List (Str × NameKind) → List (Str × Addr) → List (Str × Addr)
  | [], acc => acc
  | (n, k) :: r, acc => if k == .free then (match cells.lookup n with | some c => clos cells r ((n, c) :: acc) | none => clos cells r acc) else clos cells r acc
theorem clos_sub {cells : List (Str × Addr)} : ∀ (names : List (Str × NameKind)) (acc : List (Str × Addr)), (∀ x c, acc.lookup x = some c → cells.lookup x = some c) → ∀ x c, (clos cells names acc).lookup x = some c → cells.lookup x = some c
  | [], _, h => h
  | (n, k) :: r, acc, h => by
    intro x c
    unfold clos
    split
    · cases e : cells.lookup n with
      | none => exact clos_sub r acc h x c
      | some d =>
        refine clos_sub r _ (fun y z hy => ?_) x c
        rw [List.lookup_cons] at hy
        cases q : y == n with
        | true =>
          rw [q] at hy
          have : y = n := by simpa using q
          subst this
          simpa [e] using hy
        | false => rw [q] at hy; exact h y z hy
    · exact clos_sub r acc h x c
theorem clos_acc {cells : List (Str × Addr)} : ∀ (names : List (Str × NameKind)) (acc : List (Str × Addr)) (x : Str), (acc.lookup x).isSome = true → ((clos cells names acc).lookup x).isSome = true
  | [], _, _, h => h
  | (n, k) :: r, acc, x, h => by
    unfold clos
    split
    · cases e : cells.lookup n with
      | none => exact clos_acc r acc x h
      | some d =>
        refine clos_acc r _ x ?_
        rw [List.lookup_cons]
        cases q : x == n with
        | true => rfl
        | false => exact h
    · exact clos_acc r acc x h
theorem clos_has {cells : List (Str × Addr)} : ∀ (names : List (Str × NameKind)) (acc : List (Str × Addr)) (x : Str), (x, NameKind.free) ∈ names → (cells.lookup x).isSome = true → ((clos cells names acc).lookup x).isSome = true
  | (n, k) :: r, acc, x, hm, hs => by
    unfold clos
    rcases List.mem_cons.mp hm with e | hm
    · cases e
      simp only [beq_self_eq_true, if_true]
      obtain ⟨c, hc⟩ := Option.isSome_iff_exists.mp hs
      rw [hc]
      refine clos_acc r _ _ ?_
      simp [List.lookup_cons]
    · split
      · cases e : cells.lookup n with
        | none => exact clos_has r acc x hm hs
        | some d => exact clos_has r _ x hm hs
      · exact clos_has r acc x hm hs
theorem closure_eq {scope : Scope} {env : Env} (h : ∀ x, (x, NameKind.free) ∈ scope.names → (env.cells.lookup x).isSome = true) : closureFor scope env = pure (clos env.cells scope.names []) := by
  have gen : ∀ (names : List (Str × NameKind)) (acc : List (Str × Addr)), (∀ x, (x, NameKind.free) ∈ names → (env.cells.lookup x).isSome = true) →
      (forIn names acc (fun (p : Str × NameKind) (r : List (Str × Addr)) => (if p.2 == NameKind.free then (do let c ← cellOf env p.1; pure (ForInStep.yield ((p.1, c) :: r))) else pure (ForInStep.yield r) : Sem (ForInStep (List (Str × Addr)))))) = pure (clos env.cells names acc) := by
    intro names
    induction names with
    | nil => intro acc _; rfl
    | cons p r ih =>
      obtain ⟨n, k⟩ := p
      intro acc hh
      rw [List.forIn_cons]
      unfold clos
      cases hk : k == NameKind.free with
      | false =>
        simp only [hk, Bool.false_eq_true, if_false]
        exact ih acc fun x hx => hh x (List.mem_cons_of_mem _ hx)
      | true =>
        have hk' : k = .free := by simpa using hk
        subst hk'
        obtain ⟨c, hc⟩ := Option.isSome_iff_exists.mp (hh n List.mem_cons_self)
        have e : cellOf env n = pure c := by unfold cellOf; rw [hc]
        simp only [beq_self_eq_true, if_true, e, hc]
        exact ih _ fun x hx => hh x (List.mem_cons_of_mem _ hx)
  exact (congrArg (fun (m : Sem (List (Str × Addr))) => m >>= fun cs => pure cs) (gen scope.names [] h)).trans rfl

def lcS (nt : Nat) (cs : List Nat) (σ : St) : St := List.replicate nt none ++ cs.map fun i => (σ[i]?).getD none
def lcCx (X : Cx) (N' : List Str) (scope : Scope) (s : Shared) (H : Hp) (C : Addr) (fp : List Addr) : Cx :=
  { X with N := N', s₀ := s, H₀ := H, env := compEnvC scope (clos X.env.cells scope.names []) C X.env, outer := X.stack, stack := X.stack, ex := fp, fn := fun _ => false, pn := [], xe := fun _ _ => False }
def lcOk (Nx : List Str) (sc scope : Scope) (N' : List Str) (nt : Nat) (cs : List Nat) : Bool :=
  decide (scope.kind = .function) && (scope.names.all fun p => match p.2 with
    | .cell => false
    | .local => decide (scope.names.lookup p.1 = some .local)
    | .free => decide (sc.names.lookup p.1 = some .cell) || decide (sc.names.lookup p.1 = some .free)
    | _ => true) && decide (N'.length = nt + cs.length) && (((N'.drop nt).zip cs).all fun p => decide (Nx[p.2]? = some p.1) && decide (scope.names.lookup p.1 = some .free) && (decide (sc.names.lookup p.1 = some .cell) || decide (sc.names.lookup p.1 = some .free)))
structure LcOk (X : Cx) (scope : Scope) (N' : List Str) (nt : Nat) (cs : List Nat) : Prop where
  kind : scope.kind = .function
  nocell : ∀ y ∈ scope.names, y.2 ≠ .cell
  loc : ∀ y ∈ scope.names, y.2 = .local → scope.names.lookup y.1 = some .local
  fr : ∀ x, (x, NameKind.free) ∈ scope.names → X.env.kindOf x = some .cell ∨ X.env.kindOf x = some .free
  len : N'.length = nt + cs.length
  cap : ∀ j i, cs[j]? = some i → ∃ x, N'[nt + j]? = some x ∧ X.N[i]? = some x ∧ scope.names.lookup x = some .free ∧ Vis X.env.scope x ∧ X.env.kindOf x ≠ some .local
theorem LcOk.of {X : Cx} {scope : Scope} {N' : List Str} {nt : Nat} {cs : List Nat} {Nx : List Str} {sc : Scope} (hN : X.N = Nx) (hs : X.env.scope = sc) (h : lcOk Nx sc scope N' nt cs = true) : LcOk X scope N' nt cs := by
  subst hN hs
  unfold lcOk at h
  simp only [Bool.and_eq_true, decide_eq_true_eq, List.all_eq_true] at h
  obtain ⟨⟨⟨h1, h2⟩, h3⟩, h4⟩ := h
  refine ⟨h1, fun y hy e => ?_, fun y hy e => ?_, fun x hx => ?_, h3, fun j i e => ?_⟩
  · have := h2 y hy; rw [e] at this; exact Bool.false_ne_true this
  · have := h2 y hy; rw [e] at this; exact of_decide_eq_true this
  · have := h2 _ hx
    simp only [Bool.or_eq_true, decide_eq_true_eq] at this
    exact this
  · have hj : j < cs.length := (List.getElem?_eq_some_iff.mp e).1
    have hd : (N'.drop nt).length = cs.length := by rw [List.length_drop, h3]; lia
    have hx : (N'.drop nt)[j]? = some ((N'.drop nt)[j]'(by lia)) := by simp [hd, hj]
    generalize (N'.drop nt)[j]'(by lia) = x at hx
    have hz : (x, i) ∈ (N'.drop nt).zip cs := by
      refine List.mem_of_getElem? (i := j) ?_
      rw [List.getElem?_zip_eq_some]
      exact ⟨hx, e⟩
    have q := h4 _ hz
    simp only [Bool.and_eq_true, Bool.or_eq_true, decide_eq_true_eq] at q
    refine ⟨x, by rw [List.getElem?_drop] at hx; exact hx, q.1.1, q.1.2, ?_, fun z => ?_⟩
    · exact q.2.elim (fun z => .inr (.inl z)) fun z => .inr (.inr z)
    · have z' : X.env.scope.names.lookup x = some .local := z
      rcases q.2 with y | y <;> · rw [z'] at y; cases y
theorem relabel_free {env : Env} : ∀ {names : List (Str × NameKind)} {x : Str}, names.lookup x = some .free →
    (names.map fun (n, k) => if (k == NameKind.free && env.scope.kind == .function && env.kindOf n == some .cell) then (n, NameKind.cell) else (n, k)).lookup x = some .cell ∨
    (names.map fun (n, k) => if (k == NameKind.free && env.scope.kind == .function && env.kindOf n == some .cell) then (n, NameKind.cell) else (n, k)).lookup x = some .free
  | [], _, h => by simp at h
  | (n, k) :: r, x, h => by
    have ih := @relabel_free env r x
    show List.lookup x ((if (k == NameKind.free && env.scope.kind == .function && env.kindOf n == some .cell) = true then (n, NameKind.cell) else (n, k)) :: _) = _ ∨ List.lookup x ((if (k == NameKind.free && env.scope.kind == .function && env.kindOf n == some .cell) = true then (n, NameKind.cell) else (n, k)) :: _) = _
    cases hx : x == n with
    | true =>
      simp only [List.lookup_cons, hx] at h
      cases h
      by_cases hc : (NameKind.free == NameKind.free && env.scope.kind == .function && env.kindOf n == some .cell) = true
      · rw [if_pos hc]; left; simp only [List.lookup_cons, hx]
      · rw [if_neg hc]; right; simp only [List.lookup_cons, hx]
    | false =>
      simp only [List.lookup_cons, hx] at h
      by_cases hc : (k == NameKind.free && env.scope.kind == .function && env.kindOf n == some .cell) = true
      · rw [if_pos hc]; simp only [List.lookup_cons, hx]; exact ih h
      · rw [if_neg hc]; simp only [List.lookup_cons, hx]; exact ih h
theorem relabel_back {env : Env} : ∀ {names : List (Str × NameKind)} {x : Str} {q : NameKind}, (∀ y ∈ names, y.2 ≠ .cell) → (q = .cell ∨ q = .free) →
    (names.map fun (n, k) => if (k == NameKind.free && env.scope.kind == .function && env.kindOf n == some .cell) then (n, NameKind.cell) else (n, k)).lookup x = some q → (x, NameKind.free) ∈ names
  | [], _, _, _, _, h => by simp at h
  | (n, k) :: r, x, q, hn, hq, h => by
    have ih := @relabel_back env r x q (fun y hy => hn y (List.mem_cons_of_mem _ hy)) hq
    have h' : List.lookup x ((if (k == NameKind.free && env.scope.kind == .function && env.kindOf n == some .cell) = true then (n, NameKind.cell) else (n, k)) :: (r.map fun (n, k) => if (k == NameKind.free && env.scope.kind == .function && env.kindOf n == some .cell) then (n, NameKind.cell) else (n, k))) = some q := h
    cases hx : x == n with
    | true =>
      have e : x = n := by simpa using hx
      subst e
      by_cases hc : (k == NameKind.free && env.scope.kind == .function && env.kindOf x == some .cell) = true
      · simp only [Bool.and_eq_true, beq_iff_eq] at hc
        rw [hc.1.1]; exact List.mem_cons_self
      · rw [if_neg hc] at h'
        simp only [List.lookup_cons, beq_self_eq_true] at h'
        cases h'
        rcases hq with rfl | rfl
        · exact absurd rfl (hn (x, .cell) List.mem_cons_self)
        · exact List.mem_cons_self
    | false =>
      refine List.mem_cons_of_mem _ (ih ?_)
      by_cases hc : (k == NameKind.free && env.scope.kind == .function && env.kindOf n == some .cell) = true
      · rw [if_pos hc] at h'; simp only [List.lookup_cons, hx] at h'; exact h'
      · rw [if_neg hc] at h'; simp only [List.lookup_cons, hx] at h'; exact h'

section
variable {X : Cx} {pins : List (Addr × Obj)} {σ : St} {H : Hp} {s s' : Shared} {scope : Scope} {N' : List Str} {nt : Nat} {cs : List Nat} {C : Addr} {fp : List Addr} {h' : Heap} {t' : Nat}
theorem lc_enter (I : Inv X pins σ H s) (L : LcOk X scope N' nt cs) (hf : ∀ b ∈ fp, FpOk X pins H b) (hC : s.heap.objs.size ≤ C) (k : ∀ b u, s.heap.get? b = some u → h'.get? b = some u) (hns : h'.Ns C fun _ => none) (fpo : ∀ b ∈ fp, b < s.heap.objs.size) :
    Inv (lcCx X N' scope s H C fp) [] (lcS nt cs σ) H { s with heap := h', toks := t' } := by
  have hfree : H C = none := I.hok.fresh hC
  have csub : ∀ x c, (clos X.env.cells scope.names []).lookup x = some c → X.env.cells.lookup x = some c := clos_sub _ _ fun x c h => by simp at h
  have chas : ∀ x, (x, NameKind.free) ∈ scope.names → ((clos X.env.cells scope.names []).lookup x).isSome = true := fun x hx => by
    refine clos_has _ _ x hx ?_
    obtain ⟨c, e⟩ := I.ok.has x (L.fr x hx)
    rw [e]; rfl
  have I4 : Inv X pins σ H { s with heap := h', toks := t' } := I.kept k
  refine ⟨⟨I.ok.mod, L.kind, I.ok.glob, I.ok.blt, hC, fun x y c h1 h2 => I.ok.inj x y c (csub x c h1) (csub y c h2), fun x hx => ?_, fun x c hx => (nomatch hx), I.ok.hd, I.ok.frames, .inl rfl, fun b hb => ⟨?_, fun x c e => ?_⟩, I.bs, Nat.le_trans I.ok.bsz I.sz, fun b o e hb => ?_, fun b hb => ?_, I.stack, I.stkFree⟩,
    rfl, I.bare, Un.kept k, ⟨_, hns, fun i x v e1 e2 e3 => ?_⟩, fun x c e => ?_, hfree, fun x c e => I.freeC x c (csub x c e), fun p hp => absurd (show p ∈ ([] : List (Addr × Obj)) from hp) (by simp), I4.hok, ?_⟩
  · have hx' : (x, NameKind.free) ∈ scope.names := by
      rcases hx with hx | hx
      · exact relabel_back (env := X.env) L.nocell (.inl rfl) hx
      · exact relabel_back (env := X.env) L.nocell (.inr rfl) hx
    exact Option.isSome_iff_exists.mp (chas x hx')
  · exact Nat.ne_of_lt (Nat.lt_of_lt_of_le (fpo b hb) hC)
  · exact (hf b hb).2.2.2.2.1 x c (csub x c e)
  · obtain ⟨f0, f1, f2, f3, _⟩ := hf b hb
    rcases f3 with z | z
    · exact I.ok.noex b o e z
    · exact absurd (Nat.lt_of_lt_of_le (Heap.lt_size e) (Nat.le_trans I.ok.bsz z)) (Nat.lt_irrefl _)
  · obtain ⟨f0, f1, f2, f3, _⟩ := hf b hb
    intro z
    rcases List.mem_cons.mp (I.stkSub b z) with q | q
    · exact f1 q
    · exact f2 q
  · -- a captured name
    have e2' : (lcS nt cs σ)[i]? = some (some v) := e2
    unfold lcS at e2'
    by_cases hi : i < nt
    · rw [List.getElem?_append_left (by simpa using hi), List.getElem?_replicate] at e2'
      split at e2' <;> cases e2'
    · rw [List.getElem?_append_right (by simpa using hi), List.length_replicate, List.getElem?_map] at e2'
      cases ej : cs[i - nt]? with
      | none => rw [ej] at e2'; cases e2'
      | some j =>
        rw [ej] at e2'
        have e2'' : (σ[j]?).getD none = some v := Option.some.inj e2'
        have hσ : σ[j]? = some (some v) := by
          cases q : σ[j]? with
          | none => rw [q] at e2''; cases e2''
          | some z => rw [q] at e2''; exact congrArg some e2''
        obtain ⟨y, y1, y2, y3, y4, y5⟩ := L.cap _ _ ej
        have hxy : x = y := by
          have e1' : N'[i]? = some x := e1
          rw [show nt + (i - nt) = i by lia, e1'] at y1
          exact Option.some.inj y1
        subst hxy
        obtain ⟨m, hn, hl⟩ := I4.loc
        obtain ⟨u, r, l⟩ := hl j x v y2 hσ y4
        refine ⟨u, r, .inr ⟨relabel_free (env := X.env) y3, ?_⟩⟩
        rcases l with ⟨l, _⟩ | ⟨_, c, hc, hcell⟩
        · exact absurd l y5
        · refine ⟨c, ?_, hcell⟩
          obtain ⟨d, hd⟩ := Option.isSome_iff_exists.mp (chas x (PySem.mem_of_lookup y3))
          have := csub x d hd
          rw [hc] at this
          cases this
          exact hd
  · exact I4.cell x c (csub x c e)
  · show (lcS nt cs σ).length = N'.length
    unfold lcS
    rw [L.len]; simp
theorem lc_leave {σ2 : St} {H2 : Hp} (I : Inv X pins σ H s) (hf : ∀ b ∈ fp, FpOk X pins H b) (J : Inv (lcCx X N' scope s H C fp) [] σ2 H2 s') : Inv X pins σ H2 s' :=
  I.call' (ch := fp) J.os J.base J.hok J.bare fun b hb => by
    obtain ⟨f0, f1, f2, f3, f4, f5⟩ := hf b hb
    exact ⟨f3, f1, f4, f5⟩
end

def PIfs (X : Cx) (ifs : List Expr) (t : TT) : Prop :=
  ∀ (pins : List (Addr × Obj)) (s : Shared) (σ : St) (H : Hp) (Q : Bool → Hp → Prop), Inv X pins σ H s → t σ H Q →
    wpAny (model X.prog X.w) X.A (forIn ifs true fun c r => if r = true then do let ok ← isTrue c X.env (eval c X.env); pure (ForInStep.yield ok) else pure (ForInStep.yield r)) (TP X pins σ Q) X.xe s
def tTrue : TT := fun _ H Q => Q true H
theorem pifs_nil {X : Cx} : PIfs X [] tTrue := fun _ _ _ H _ I h => wpAny_tests_nil ⟨H, I, h⟩
theorem pifs_one {X : Cx} {c : Expr} {t : TT} (h : PT X c t) : PIfs X [c] t := fun pins s σ H Q I hq => wpAny_tests_one (h pins s σ H Q I hq)

def LCG (nt : Nat) (cs : List Nat) (g : TG) (tt : TT) (te : TE) (σ : St) (Q : VK) (J : It) (H1 : Hp) : Prop := ∀ l, H1 l = none → ∃ W : Nat → Nat → Hp → Prop, (∃ m, W 0 m (upd H1 l (.lst []))) ∧ ∀ i m H2, W i m H2 →
  (J.stop i H2 ∧ Q (.ref l) H2) ∨ (J.go i H2 ∧ ∃ N : Hp → Prop, (∀ H', N H' → ∃ m', m' < m ∧ W (i + 1) m' H') ∧ ∀ x H3, J.yld i H2 x H3 → g x (lcS nt cs σ) H3 fun σ2 H4 =>
    (σ2.length = nt + cs.length ∧ σ2.drop nt = (lcS nt cs σ).drop nt) ∧ tt σ2 H4 fun b H5 => if b = true then te σ2 H5 fun y H6 => ∃ xs, H6 l = some (.lst xs) ∧ xs.length < sizeLine ∧ N (upd H6 l (.lst (xs ++ [y]))) else N H5)
def tLC (nt : Nat) (cs : List Nat) (wi : TI) (g : TG) (tt : TT) (te : TE) : TE := fun σ H Q => wi σ H fun J H1 => LCG nt cs g tt te σ Q J H1

theorem lc_turn {prog : Program} {w : World} {A : Around} {R : Result → Shared → Prop} {s : Shared} {elt target iter : Expr} {ifs : List Expr} {scope : Scope} {pos : Pos} {it acc : Value} {env : Env} (I : Nat → Shared → Prop)
    (turn : ∀ n s, I n s → wpAny (model prog w) A (pyNext it) (fun r s₁ => match r with
      | none => R (.ok .next) s₁
      | some v => wpAny (model prog w) A (letOwnedTupleGo target it v) (fun _ s₁' => wpAny (model prog w) A (assign target env v) (fun _ s₂ =>
          wpAny (model prog w) A (forIn ifs true fun c r => if r = true then do let ok ← isTrue c env (eval c env); pure (ForInStep.yield ok) else pure (ForInStep.yield r)) (fun ok s₃ =>
            if ok = true then wpAny (model prog w) A (eval elt env) (fun x s₄ =>
              wpAny (model prog w) A (call (.builtin "list.append") [acc, x]) (fun _ s₅ => ∃ m, m < n ∧ I m s₅) (fun _ _ => False) s₄) (fun _ _ => False) s₃
            else ∃ m, m < n ∧ I m s₃) (fun _ _ => False) s₂) (fun _ _ => False) s₁') (fun _ _ => False) s₁) (fun _ _ => False) s)
    (n : Nat) (h : I n s) : codeAny (model prog w) A (.compLoop (.ListComp elt [⟨target, iter, ifs, 0⟩] scope pos) 0 it acc env) R s := by
  refine codeAny_loop rfl I (fun n s hI => ?_) n h
  show wpAny _ A ((compTurn (.ListComp elt [⟨target, iter, ifs, 0⟩] scope pos) 0 it acc env).onRaise (fun x => do noteFrame x env; theTreesLotGoes x)) _ _ s
  refine wpAny_noted ?_
  rw [compTurn_list]
  refine wpAny_bind (wpAny_standAt (wpAny_bind (wpAny_mono (turn n s hI) (fun r s₁ h₁ => ?_) fun _ _ h' => h'.elim)))
  cases r with
  | none => exact wpAny_pure h₁
  | some v =>
    refine wpAny_bind (wpAny_mono h₁ (fun _ s₁' h₁' => ?_) fun _ _ h' => h'.elim)
    refine wpAny_bind (wpAny_mono h₁' (fun _ s₂ h₂ => wpAny_bind (wpAny_mono h₂ (fun ok s₃ h₃ => ?_) fun _ _ h' => h'.elim)) fun _ _ h' => h'.elim)
    cases ok with
    | false => exact wpAny_pure ⟨rfl, h₃⟩
    | true =>
      exact wpAny_bind (wpAny_bind (wpAny_mono h₃ (fun x s₄ h₄ => wpAny_bind (wpAny_mono h₄ (fun _ s₅ h₅ => wpAny_pure (wpAny_pure ⟨rfl, h₅⟩)) fun _ _ h' => h'.elim)) fun _ _ h' => h'.elim))

section
variable {X : Cx} {elt target iter : Expr} {ifs : List Expr} {scope : Scope} {pos : Pos} {N' : List Str} {nt : Nat} {cs : List Nat} {wi : TI} {g : TG} {tt : TT} {te : TE}
theorem lc_core {use : Option (Value → Sem Unit)} {QQ : Value → Shared → Prop} {p2 : Pos} (hc : X.calm = true) (L : LcOk X scope N' nt cs) (hi : PI X target iter wi)
    (hg : ∀ s H C fp, PG (lcCx X N' scope s H C fp) target g) (ht : ∀ s H C fp, PIfs (lcCx X N' scope s H C fp) ifs tt) (he : ∀ s H C fp, PE (lcCx X N' scope s H C fp) elt te)
    {pins : List (Addr × Obj)} {s : Shared} {σ : St} {H : Hp} {Q : VK} (I : Inv X pins σ H s) (h : tLC nt cs wi g tt te σ H Q)
    (fin : ∀ (l : Addr) (H' : Hp) (s' : Shared) (C : Addr), Inv X pins σ H' s' → FpOk X pins H' C → (∃ m, s'.heap.Ns C m) → Q (.ref l) H' → compPost (model X.prog X.w) X.A X.xe use QQ (.ref l) C (.ok .next) s')
    (hs : ∀ x, foldedSetIterable iter X.env x = pure x := by intro _; rfl) :
    wpAny (model X.prog X.w) X.A (comprehension (.ListComp elt [⟨target, iter, ifs, 0⟩] scope pos) scope X.env p2 (newList []) false (eval iter X.env) use) QQ X.xe s := by
  have hcl : closureFor scope X.env = pure (clos X.env.cells scope.names []) := closure_eq fun x hx => by
    obtain ⟨c, e⟩ := I.ok.has x (L.fr x hx)
    rw [e]; rfl
  refine wpAny_comprehension_free (env := X.env) rfl hs hcl L.kind L.loc (thn (hi pins s σ H _ I h) fun v s1 h1 => thn h1 fun itv s2 h2 => ?_)
  obtain ⟨it, fp, tn, J, H1, e, I2, T, st2, f2, R⟩ := h2
  subst e
  refine wpAny_newObj_type ?_
  have hv : Vals [] ([] : List Value) := .nil
  have I3 := I2.lnew (t' := s2.toks) hv (Nat.zero_le _)
  have hfr : H1 s2.heap.objs.size = none := I2.fresh
  have ne3 : ∀ b ∈ fp, b ≠ s2.heap.objs.size := fun b hb z => by
    obtain ⟨o, e, _⟩ := T.obj _ _ st2 b hb
    have := Heap.lt_size e
    rw [z] at this
    exact Nat.lt_irrefl _ this
  have f3 : ∀ b ∈ fp, FpOk X pins (upd H1 s2.heap.objs.size (.lst [])) b := fun b hb => ⟨by rw [upd_ne (ne3 b hb)]; exact (f2 b hb).1, (f2 b hb).2⟩
  obtain ⟨W, ⟨m0, w0⟩, turn⟩ := R _ hfr
  refine wpAny_newFunctionEnv L.nocell (by intro y hy; simp at hy) (fun h4 hns hsb => ?_) L.kind
  dsimp only at hns hsb ⊢
  generalize hH3 : s2.heap.push { cls := .type "list", dict := none, data := .seq ([] : List Value).toArray } = h3 at hns hsb I3 ⊢
  have hsz3 : h3.objs.size = s2.heap.objs.size + 1 := by rw [← hH3, Heap.size_push]
  have up4 : ∀ b u, h3.get? b = some u → h4.get? b = some u := fun b u e => hsb.extBut b u (Nat.ne_of_lt (Heap.lt_size e)) (Heap.get?_push_of_some _ e)
  have fpo : ∀ b ∈ fp, b < h3.objs.size := fun b hb => by
    obtain ⟨o, e, _⟩ := T.obj _ _ st2 b hb
    exact Nat.lt_of_lt_of_le (Heap.lt_size e) (by rw [hsz3]; exact Nat.le_succ _)
  have up3 : ∀ b u, s2.heap.get? b = some u → h3.get? b = some u := fun b u e => hH3 ▸ Heap.get?_push_of_some _ e
  have J4 : Inv (lcCx X N' scope { s2 with heap := h3 } (upd H1 s2.heap.objs.size (.lst [])) h3.objs.size fp) [] (lcS nt cs σ) (upd H1 s2.heap.objs.size (.lst [])) { s2 with heap := h4, toks := s2.toks + ([] : List (Str × Value)).length } :=
    lc_enter (t' := s2.toks + ([] : List (Str × Value)).length) I3 L f3 (Nat.le_refl _) up4 (by simpa using hns) fpo
  have st4 : tn 0 h4 := T.keep _ _ _ st2 fun b hb o e => up4 b o (up3 b o e)
  generalize hs3 : ({ s2 with heap := h3 } : Shared) = s3 at I3 J4
  generalize hX' : lcCx X N' scope s3 (upd H1 s2.heap.objs.size (.lst [])) h3.objs.size fp = X' at J4
  have hg' : PG X' target g := hX' ▸ hg _ _ _ _
  have ht' : PIfs X' ifs tt := hX' ▸ ht _ _ _ _
  have he' : PE X' elt te := hX' ▸ he _ _ _ _
  have stat : ∀ {H' : Hp}, (∀ b ∈ fp, H' b = none) → ∀ b ∈ fp, FpOk X' [] H' b := fun hn b hb => by
    subst hX'
    refine ⟨hn b hb, Nat.ne_of_lt (fpo b hb), J4.ok.exfs b hb, .inl hb, (J4.ok.exf b hb).2, fun p hp => absurd (show p ∈ ([] : List (Addr × Obj)) from hp) (by simp)⟩
  have loop : codeAny (model X.prog X.w) X.A (.compLoop (.ListComp elt [⟨target, iter, ifs, 0⟩] scope pos) 0 (.ref it) (.ref s2.heap.objs.size) (compEnvC scope (clos X.env.cells scope.names []) h3.objs.size X.env))
      (compPost (model X.prog X.w) X.A X.xe use QQ (.ref s2.heap.objs.size) h3.objs.size) { s2 with heap := h4, toks := s2.toks + ([] : List (Str × Value)).length } := by
    have eA : X'.A = X.A := by subst hX'; rfl
    have eP : X'.prog = X.prog := by subst hX'; rfl
    have eW : X'.w = X.w := by subst hX'; rfl
    have eK : X'.K = X.K := by subst hX'; rfl
    have eC : X'.calm = true := by subst hX'; exact hc
    have eE : X'.env = compEnvC scope (clos X.env.cells scope.names []) h3.objs.size X.env := by subst hX'; rfl
    have eX : X'.xe = fun _ _ => False := by subst hX'; rfl
    refine lc_turn (fun n s' => ∃ i H', Inv X' [] (lcS nt cs σ) H' s' ∧ tn i s'.heap ∧ (∀ b ∈ fp, H' b = none) ∧ W i n H') ?_ m0 ⟨0, _, J4, st4, fun b hb => (f3 b hb).1, w0⟩
    rintro n s5 ⟨i, H5, J5, st5, fr5, w5⟩
    rcases turn i n H5 w5 with ⟨stop, qn⟩ | ⟨go, N, hN, step⟩
    · have d := T.done X' eP eW eK eC i [] s5 (lcS nt cs σ) H5 (fun _ _ => False) J5 (stat fr5) st5 stop
      rw [eA] at d
      refine thn d fun r s6 ⟨hr, J6⟩ => ?_
      subst hr
      have I6 : Inv X pins σ H5 s6 := by subst hX'; subst hs3; exact lc_leave I3 f3 J6
      refine fin _ H5 s6 h3.objs.size I6 ?_ ?_ qn
      · have hn : H5 h3.objs.size = none := by subst hX'; exact J6.free
        subst hs3
        exact I3.fpOk (Nat.le_refl _) hn
      · obtain ⟨m, hm, _⟩ := J6.loc
        subst hX'
        exact ⟨m, hm⟩
    · have d := T.item X' eP eW eK eC i [] s5 (lcS nt cs σ) H5 (fun _ _ => False) J5 (stat fr5) st5 go
      rw [eA] at d
      refine thn d fun r s6 ⟨u, hr, h6⟩ => ?_
      subst hr
      refine thn h6 fun _ s7 ⟨x, H7, J7, r7, y7, st7, fr7⟩ => ?_
      have J7' := J7.pinned (stat fr7) (T.obj _ _ st7)
      have a := hg' _ s7 (lcS nt cs σ) H7 x u _ J7' r7 (step x H7 y7)
      rw [eA, eP, eW, eE, eX] at a
      refine thn a fun _ s8 ⟨σ8, H8, J8, ⟨e8, d8⟩, q8⟩ => ?_
      have b := ht' _ s8 σ8 H8 _ J8 q8
      rw [eA, eP, eW, eE, eX] at b
      have again : ∀ {s9 : Shared} {H9 : Hp}, Inv X' ([] ++ pinsAt fp s7.heap) σ8 H9 s9 → N H9 → ∃ m, m < n ∧ ∃ i H', Inv X' [] (lcS nt cs σ) H' s9 ∧ tn i s9.heap ∧ (∀ b ∈ fp, H' b = none) ∧ W i m H' := fun {s9 H9} J9 n9 => by
        obtain ⟨m', hm, w9⟩ := hN H9 n9
        refine ⟨m', hm, i + 1, H9, ?_, T.keep _ _ _ st7 fun b hb o e => (J9.pin (b, o) (List.mem_append_right _ (List.mem_append_right _ (mem_pinsAt hb e)))).1, fun b hb => ?_, w9⟩
        · refine J9.unpinned.weak ?_ fun j v ej => ?_
          · rw [e8]; unfold lcS; simp
          · by_cases hj : j < nt
            · unfold lcS at ej
              rw [List.getElem?_append_left (by simpa using hj), List.getElem?_replicate] at ej
              split at ej <;> cases ej
            · have z := congrArg (fun l : St => l[j - nt]?) d8
              simp only [List.getElem?_drop] at z
              rw [show nt + (j - nt) = j by omega] at z
              rw [z]; exact ej
        · obtain ⟨o, e, _⟩ := T.obj _ _ st7 b hb
          exact (J9.pin (b, o) (List.mem_append_right _ (List.mem_append_right _ (mem_pinsAt hb e)))).2.1
      refine thn b fun ok s9 ⟨H9, J9, q9⟩ => ?_
      cases ok with
      | false =>
        rw [if_neg Bool.false_ne_true] at q9 ⊢
        exact again J9 q9
      | true =>
        rw [if_pos rfl] at q9 ⊢
        have c := he' _ s9 σ8 H9 _ J9 q9
        rw [eA, eP, eW, eE, eX] at c
        refine thn c fun y sA ⟨vy, HA, JA, ry, xs, hl, hz, nA⟩ => ?_
        have ap := mt_append (X := X') _ sA σ8 HA (.ref s2.heap.objs.size) [vy] (.ref s2.heap.objs.size) [y] (fun _ H' => N H') JA rfl (.cons ry .nil) ⟨_, xs, vy, rfl, rfl, hl, hz, nA⟩
        rw [eA, eP, eW, eX] at ap
        exact thn ap fun _ sB ⟨_, HB, JB, _, nB⟩ => again JB nB
  exact codeAny_compStart_list loop (T.self X.A 0 _ _ _ st4 loop)

theorem pe_lc (hc : X.calm = true) (L : LcOk X scope N' nt cs) (hi : PI X target iter wi)
    (hg : ∀ s H C fp, PG (lcCx X N' scope s H C fp) target g) (ht : ∀ s H C fp, PIfs (lcCx X N' scope s H C fp) ifs tt) (he : ∀ s H C fp, PE (lcCx X N' scope s H C fp) elt te)
    (hs : ∀ x, foldedSetIterable iter X.env x = pure x := by intro _; rfl) : PE X (.ListComp elt [⟨target, iter, ifs, 0⟩] scope pos) (tLC nt cs wi g tt te) := by
  intro pins s σ H Q I h
  rw [eval_ListComp]
  refine lc_core (use := none) hc L hi hg ht he I h (fun l H' s' C I' f ⟨m, hm⟩ q => ⟨m, hm, fun h' hs' => ?_⟩) hs
  obtain ⟨f0, f1, f2, f3, f4, f5⟩ := f
  exact ⟨.ref l, H', I'.turned (t' := s'.toks) (fun b o hb e => hs'.extBut b o hb e) f0 f1 f3 f4 f5, rfl, q⟩
theorem ps_setLC {i : Nat} {y : Str} {py spos : Pos} (hN : X.N.Nodup) (hy : X.N[i]? = some y) (hx : Loc X.env.scope y) (hc : X.calm = true) (L : LcOk X scope N' nt cs) (hi : PI X target iter wi)
    (hg : ∀ s H C fp, PG (lcCx X N' scope s H C fp) target g) (ht : ∀ s H C fp, PIfs (lcCx X N' scope s H C fp) ifs tt) (he : ∀ s H C fp, PE (lcCx X N' scope s H C fp) elt te)
    (hsw : swapsWith (.ListComp elt [⟨target, iter, ifs, 0⟩] scope pos) (some (.Name y py)) spos.line X.env = pure true := by rfl)
    (hs : ∀ x, foldedSetIterable iter X.env x = pure x := by intro _; rfl) (hf : X.fn y = true ∨ X.env.scope.names.lookup y = some .local := by first | exact .inl rfl | exact .inr rfl | assumption) :
    PS X (.Assign [.Name y py] (.ListComp elt [⟨target, iter, ifs, 0⟩] scope pos) spos) (tAsg (tLC nt cs wi g tt te) (gName i)) := by
  intro pins s σ H D I h
  rw [exec_Assign_Name_used _ _ _ _ hsw]
  refine wpAny_bind (wpAny_standAt (wpAny_bind ?_))
  show wpAny _ X.A (do let _ ← comprehension (.ListComp elt [⟨target, iter, ifs, 0⟩] scope pos) scope X.env _ (newList []) false (eval iter X.env) (some (assign (.Name y py) X.env))) _ _ s
  refine wpAny_bind (thn (lc_core (QQ := fun _ s' => SP X pins D .next s') (use := some (assign (.Name y py) X.env)) hc L hi hg ht he I h (fun l H' s' C I' f hm q => ?_) hs) (fun _ s' hq => wpAny_pure (wpAny_pure hq)))
  show wpAny _ X.A (assign (.Name y py) X.env (.ref l)) _ _ _
  refine wpAny_assign_Name (store_ok2 I' hN hy hx (v := .ref l) rfl (fun s2 I2 ⟨a, hsb, ha⟩ => ?_) hf)
  obtain ⟨m, hm⟩ := hm
  obtain ⟨f0, f1, f2, f3, f4, f5⟩ := f
  have hCa : C ≠ a := by
    rcases ha with rfl | ha
    · exact f1
    · exact fun z => f4 y a ha z.symm
  refine ⟨m, hm.sameBut hsb hCa, fun h' hs' => ?_⟩
  exact ⟨_, H', I2.turned (t' := s2.toks) (fun b o hb e => hs'.extBut b o hb e) f0 f1 f3 f4 f5, q⟩
end
end L2

namespace L2
open PySem PySem.Spec PyProof.Rows
section
variable {X : Cx} {a b : Expr} {ta tb : TE} {pos : Pos}
theorem call_isi_int_bool : CallR X (.builtin "isinstance") (fun xs H Q => ∃ x, xs = [.int x, .ty "bool"] ∧ Q (.bl false) H) := by
  intro pins s σ H xs us Q I r h
  obtain ⟨x, rfl, q⟩ := h
  obtain ⟨u, v, rfl, ⟨t, rfl⟩, rfl⟩ := vals2 r
  exact IsiPair.int_bool ⟨.bl false, H, I.tok _, rfl, q⟩
end
end L2
namespace L2
open PySem PySem.Spec PyProof.Rows
theorem SqL.same {K : PySem.W.Frag} {H H' : Hp} {a : Addr} {xs : List V} (e : Same H H') (h : SqL K H a xs) : SqL K H' a xs := e.seq h
theorem SqT.same {K : PySem.W.Frag} {H H' : Hp} {a : Addr} {xs : List V} (e : Same H H') (h : SqT K H a xs) : SqT K H' a xs := by
  rcases h with (h | ⟨o, h⟩) | h
  · exact .inl (.inl (e _ _ h))
  · exact .inl (.inr ⟨o, e _ _ h⟩)
  · exact .inr h
theorem Same.upd {H : Hp} {l : Addr} {o : HO} (h : H l = none) : Same H (upd H l o) := fun b u e => by rw [upd_ne (ne_of_none e h)]; exact e
end L2
namespace L2
open PySem
end L2
namespace L2
open PySem
end L2
namespace L2
open PySem
end L2

namespace L2
open PySem PySem.Spec PyProof.Rows
section
variable {X : Cx} {pins : List (Addr × Obj)} {σ : St} {H : Hp} {s : Shared} {h' : Heap} {t' : Nat} {wr : List Addr}
theorem Inv.turns (I : Inv X pins σ H s) (hf : ∀ b ∈ wr, FpOk X pins H b) (k : ∀ b o, b ∉ wr → s.heap.get? b = some o → h'.get? b = some o) : Inv X pins σ H { s with heap := h', toks := t' } := by
  have nw : ∀ b u, H b = some u → b ∉ wr := fun b u e z => by have := (hf b z).1; rw [e] at this; cases this
  have nL : X.env.locals ∉ wr := fun z => (hf _ z).2.1 rfl
  refine I.step (g' := s.gens) (d' := s.drawn) (ch := wr) (fun b hb => ?_) (fun b o _ _ hc e _ => k b o hc e) (fun b o _ _ hc e _ => ⟨o.slots, k b o hc e⟩) (fun _ _ _ _ n => n)
    (fun b o hc e => ⟨o, k b o hc e⟩) (fun _ _ e => e) (fun _ _ _ e => e) (fun b ps e => ⟨#[], by rw [e]; simp⟩) (fun m hm => ?_) (fun b u e => ?_) I.bare
  · obtain ⟨f0, f1, f2, f3, f4, f5⟩ := hf b hb
    exact ⟨f3, f1, f4, f5⟩
  · obtain ⟨o, es, ep, ho, r⟩ := hm
    exact ⟨o, es, ep, k _ o nL ho, r⟩
  · refine (I.hok b u e).stay (fun c v hc q => k c v ?_ q) (fun _ q => q) fun _ _ q => q
    rcases hc with z | z
    · rw [z]; exact nw b u e
    · exact nw c _ z
theorem Inv.turnsT (I : Inv X pins σ H s) {T0 : Addr} {vs : List V} {vals : Array Value} (hf : ∀ b ∈ wr, FpOk X pins H b) (k : ∀ b o, b ∉ wr → s.heap.get? b = some o → h'.get? b = some o) (hT : s.heap.objs.size ≤ T0) (ht : h'.IsTuple T0 vals) (hv : Vals vs vals.toList)
    (hz : vs.length ≤ sizeLine) : Inv X pins σ (upd H T0 (.tup vs)) { s with heap := h', toks := t' } := by
  have nw : ∀ b u, H b = some u → b ∉ wr := fun b u e z => by have := (hf b z).1; rw [e] at this; cases this
  have nL : X.env.locals ∉ wr := fun z => (hf _ z).2.1 rfl
  have fresh : H T0 = none := I.hok.fresh hT
  have ne : ∀ b o, s.heap.get? b = some o → b ≠ T0 := fun b o e => Nat.ne_of_lt (Nat.lt_of_lt_of_le (Heap.lt_size e) hT)
  refine I.step (g' := s.gens) (d' := s.drawn) (ch := wr) (fun b hb => ?_) (fun b o _ _ hc e _ => k b o hc e) (fun b o _ _ hc e _ => ⟨o.slots, k b o hc e⟩) (fun b o _ e n => by rw [upd_ne (ne b o e)]; exact n)
    (fun b o hc e => ⟨o, k b o hc e⟩) (fun b xs e => by rw [upd_ne (ne_of_none e fresh)]; exact e) (fun b o u e => by rw [upd_ne (ne_of_none e fresh)]; exact e) (fun b ps e => ⟨#[], by rw [upd_ne (ne_of_none e fresh), e]; simp⟩) (fun m hm => ?_) (fun b u e => ?_) I.bare
  · obtain ⟨f0, f1, f2, f3, f4, f5⟩ := hf b hb
    exact ⟨f3, f1, f4, f5⟩
  · obtain ⟨o, es, ep, ho, r⟩ := hm
    exact ⟨o, es, ep, k _ o nL ho, r⟩
  · by_cases hb : b = T0
    · subst hb
      rw [upd_same] at e
      cases e
      have ht2 : h'.IsTuple b vals.toList.toArray := by simpa using ht
      exact ⟨hz, vals.toList, hv, ht2⟩
    · rw [upd_ne hb] at e
      refine (I.hok b u e).stay (fun c v hc q => k c v ?_ q) (fun c q => by rw [upd_ne (ne_of_none q fresh)]; exact q) fun c xs q => by rw [upd_ne (ne_of_none q fresh)]; exact q
      rcases hc with z | z
      · rw [z]; exact nw b u e
      · exact nw c _ z
end
end L2

namespace L2
open PySem PySem.Spec PyProof.Rows
def RngO (r : Addr) (a b c : Int) : HO := .ext fun h => ∃ t u v, IsRange h r a b c t u v
section
variable {X : Cx} {pins : List (Addr × Obj)} {σ : St} {H : Hp} {s : Shared}
theorem Inv.rng {a b c : Int} {t u v : Tok} {t' : Nat} (I : Inv X pins σ H s) : Inv X pins σ (upd H s.heap.objs.size (RngO s.heap.objs.size a b c)) { s with heap := s.heap.push { cls := .type "range", data := .fields #[.int a t, .int b u, .int c v] }, toks := t' } :=
  I.laid (fun _ _ q => Heap.get?_push_of_some _ q) (Nat.le_refl _) ⟨⟨t, u, v, Heap.get?_push_size _ rfl⟩, ⟨_, Heap.get?_push_size _ rfl⟩, fun h1 h2 ⟨t1, u1, v1, z⟩ k => ⟨t1, u1, v1, k _ z⟩⟩
end
section
variable {X : Cx} {e1 e2 e3 : Expr} {ta : TA} {p pos : Pos} {tg : Expr}
def tRng1 (ta : TA) : TE := fun σ H Q => ta σ H fun vs H1 => ∃ j : Int, vs = [.int j] ∧ ∀ r, H1 r = none → Q (.ref r) (upd H1 r (RngO r 0 j 1))
theorem pe_range1 (hg : Gl X "range") (hm : X.mg "range" = none) (ha : PA X [e1] ta) (hs : starEach [e1] X.env = [(false, eval e1 X.env)] := by rfl) : PE X (.Call (.Name "range" p) [e1] [] pos) (tRng1 ta) := by
  intro pins s σ H Q I h
  refine Call_ (ld_blt I hg hm boot_range (PyProof.Rows.callWith_type1 (thn (ha pos pins s σ H _ I h) fun us s1 ⟨vs, H1, I1, r1, q1⟩ => ?_) hs rfl))
  obtain ⟨j, rfl, q⟩ := q1
  obtain ⟨u, rfl, ru⟩ := vals1 r1
  obtain ⟨t, rfl⟩ := ru
  exact call_range_1 ⟨.ref s1.heap.objs.size, _, I1.rng, rfl, q _ I1.fresh⟩
theorem call_list_rng (hc : X.calm = true) : CallR X (.type "list") (fun xs H Q => ∃ r a b c n, xs = [.ref r] ∧ H r = some (RngO r a b c) ∧ Builtin.Range.small a b c = true ∧ Builtin.Range.rangeSize a b c = ((n : Nat) : Int) ∧ n ≤ 1048576 ∧ ∀ l, H l = none → Q (.ref l) (upd H l (.lst ((List.range n).map fun (i : Nat) => .int (a + (i : Int) * c))))) := by
  intro pins s σ H xs us Q I r h
  obtain ⟨rr, a, b, c, n, rfl, hr, hsm, hn, hle, q⟩ := h
  obtain ⟨u, rfl, ru⟩ := vals1 r
  cases ru
  obtain ⟨⟨t, u, v, hR⟩, _, _⟩ := I.hok rr _ hr
  refine call_list_range (I.ok.hd hc) hR hsm hn (Nat.le_trans hle (by decide)) fun h' tk acc k hk hl hit => ?_
  have hv : Vals ((List.range n).map fun (i : Nat) => V.int (a + (i : Int) * c)) acc.toList := by
    obtain ⟨hsz, hit⟩ := hit
    have gen : ∀ (m : Nat) (l : List Value), l.length = m → (∀ (i : Nat) v, l[i]? = some v → ∃ t, v = Value.int (a + (i : Int) * c) t) → Vals ((List.range m).map fun (i : Nat) => V.int (a + (i : Int) * c)) l := by
      intro m
      induction m with
      | zero => intro l hl _; have := List.eq_nil_of_length_eq_zero hl; subst this; exact .nil
      | succ m ih =>
        intro l hl hi
        obtain ⟨l', x, rfl⟩ : ∃ l' x, l = l' ++ [x] := by
          cases e : l.getLast? with
          | none => have := List.getLast?_eq_none_iff.mp e; subst this; cases hl
          | some x => obtain ⟨l', e'⟩ := List.getLast?_eq_some_iff.mp e; exact ⟨l', x, e'⟩
        have hl' : l'.length = m := by simpa using hl
        rw [List.range_succ, List.map_append]
        refine Vals.append (ih l' hl' fun i v hv => hi i v ?_) (.cons ?_ .nil)
        · rw [List.getElem?_append_left (List.getElem?_eq_some_iff.mp hv).1]; exact hv
        · obtain ⟨t, e⟩ := hi m x (by rw [← hl']; simp)
          exact ⟨t, e⟩
    exact gen n acc.toList (by simpa using hsz) fun i v hv => by
      have : acc[i]? = some v := by simpa using hv
      obtain ⟨t, e⟩ := hit i v this
      exact ⟨t, e⟩
  have hz : ((List.range n).map fun (i : Nat) => V.int (a + (i : Int) * c)).length ≤ sizeLine := by rw [List.length_map, List.length_range, sizeLine_eq]; lia
  exact ⟨.ref s.heap.objs.size, _, I.laid hk (Nat.le_refl _) (show ObjOk X.prog X.w _ _ _ (.lst _) from ⟨hz, acc.toList, k, hv, by simpa using hl⟩), rfl, q _ I.fresh⟩
end
end L2
namespace L2
open PySem PySem.Spec PyProof.Rows
end L2
namespace L2
open PySem
end L2

namespace L2
open PySem PySem.Spec PyProof.Rows
structure ZipAp (z TI TO i1 i2 : Addr) (fp1 fp2 : List Addr) : Prop where
  TIz : TI ≠ z
  TOz : TO ≠ z
  i1z : i1 ≠ z
  i2z : i2 ≠ z
  TITO : TI ≠ TO
  TIi1 : TI ≠ i1
  TIi2 : TI ≠ i2
  TOi1 : TO ≠ i1
  TOi2 : TO ≠ i2
  i12 : i1 ≠ i2
  m1 : i1 ∈ fp1
  m2 : i2 ∈ fp2
  f1 : ∀ b ∈ fp1, b ≠ z ∧ b ≠ TO ∧ b ≠ i2
  f2 : ∀ b ∈ fp2, b ≠ z ∧ b ≠ TO ∧ b ≠ i1
end L2

namespace L2
open PySem PySem.Spec PyProof.Rows
end L2

namespace L2
open PySem
end L2

namespace L2
open PySem PySem.Spec PyProof.Rows
inductive D where
  | non | bl (b : Bool) | int (i : Int) | str (l : List Nat) | lst (xs : List D) | tup (xs : List D) | dct (ks vs : List D) | dctT (ks vs : List D) | ins (C : Addr) (ns : List Str) (vs : List D)
instance : Inhabited D := ⟨.non⟩
mutual
def D.beq : D → D → Bool
  | .non, .non => true
  | .bl a, .bl b => a == b
  | .int a, .int b => a == b
  | .str a, .str b => a == b
  | .lst a, .lst b => D.beqs a b
  | .tup a, .tup b => D.beqs a b
  | .dct a b, .dct c d => D.beqs a c && D.beqs b d
  | .dctT a b, .dctT c d => D.beqs a c && D.beqs b d
  | .ins C n a, .ins E m b => (decide (C = E) && decide (n = m)) && D.beqs a b
  | _, _ => false
def D.beqs : List D → List D → Bool
  | [], [] => true
  | a :: x, b :: y => a.beq b && D.beqs x y
  | _, _ => false
end
mutual
theorem D.beq_iff : ∀ a b : D, a.beq b = true ↔ a = b
  | .non, b => by cases b <;> simp [D.beq]
  | .bl _, b => by cases b <;> simp [D.beq]
  | .int _, b => by cases b <;> simp [D.beq]
  | .str _, b => by cases b <;> simp [D.beq]
  | .lst a, b => by cases b <;> simp [D.beq, D.beqs_iff a]
  | .tup a, b => by cases b <;> simp [D.beq, D.beqs_iff a]
  | .dct a b, c => by cases c <;> simp [D.beq, D.beqs_iff a, D.beqs_iff b]
  | .dctT a b, c => by cases c <;> simp [D.beq, D.beqs_iff a, D.beqs_iff b]
  | .ins C n a, c => by cases c <;> simp [D.beq, D.beqs_iff a, and_assoc]
theorem D.beqs_iff : ∀ a b : List D, D.beqs a b = true ↔ a = b
  | [], b => by cases b <;> simp [D.beqs]
  | a :: x, b => by cases b <;> simp [D.beqs, D.beq_iff a, D.beqs_iff x]
end
instance : DecidableEq D := fun a b => decidable_of_iff _ (D.beq_iff a b)
mutual
def D.dep : D → Nat
  | .lst a => D.deps a + 1
  | .tup a => D.deps a + 1
  | _ => 0
def D.deps : List D → Nat
  | [] => 0
  | a :: x => max a.dep (D.deps x)
end
mutual
def D.nb : D → Bool
  | .bl _ => false
  | .dct _ _ => false
  | .dctT _ _ => false
  | .ins _ _ _ => false
  | .lst a => D.nbs a
  | .tup a => D.nbs a
  | _ => true
def D.nbs : List D → Bool
  | [] => true
  | a :: x => a.nb && D.nbs x
end

def D.isInt : D → Bool
  | .int _ => true
  | _ => false
def hasInt (ds : List D) : Bool := ds.any D.isInt
section
variable (K : PySem.W.Frag) (H : Hp)
mutual
def Rep : D → V → Prop
  | .non, v => v = .non
  | .bl b, v => v = .bl b
  | .int i, v => v = .int i
  | .str l, v => v = .str (T l) ∧ ∀ c ∈ l, c < 128
  | .lst ds, v => ∃ p xs, v = .ref p ∧ SqL K H p xs ∧ Reps ds xs
  | .tup ds, v => ∃ p xs, v = .ref p ∧ SqT K H p xs ∧ Reps ds xs ∧ (hasInt ds = true → H p = some (.tup xs))
  | .dct ks vs, v => ∃ p kv, v = .ref p ∧ H p = some (.dK kv) ∧ Reps ks (kv.map fun q => kV q.1) ∧ Reps vs (kv.map fun q => q.2)
  | .dctT ks vs, v => ∃ p kv, v = .ref p ∧ H p = some (.dT kv) ∧ TKs ks (kv.map fun q => q.1) ∧ Reps vs (kv.map fun q => q.2)
  | .ins C ns vs, v => ∃ x dx fs, v = .ref x ∧ H x = some (.ins C dx fs) ∧ H dx = some (.own x) ∧ fs.map (fun q => q.1) = ns ∧ Reps vs (fs.map fun q => q.2)
def TK : D → List Key → Prop
  | .tup es, k => Reps es (k.map kV)
  | _, _ => False
def TKs : List D → List (List Key) → Prop
  | [], ks => ks = []
  | d :: ds, ks => ∃ k r, ks = k :: r ∧ TK d k ∧ TKs ds r
def Reps : List D → List V → Prop
  | [], xs => xs = []
  | d :: ds, xs => ∃ x r, xs = x :: r ∧ Rep d x ∧ Reps ds r
end
end
section
variable {K : PySem.W.Frag} {H H' : Hp}
mutual
theorem Rep.mono (s : Same H H') : ∀ {d : D} {v : V}, Rep K H d v → Rep K H' d v
  | .non, _, h => by simpa [Rep] using h
  | .bl _, _, h => by simpa [Rep] using h
  | .int _, _, h => by simpa [Rep] using h
  | .str _, _, h => by simpa [Rep] using h
  | .lst ds, _, h => by
    rw [Rep] at h ⊢
    obtain ⟨p, xs, e, q, r⟩ := h
    exact ⟨p, xs, e, SqL.same s q, Reps.mono s r⟩
  | .tup ds, _, h => by
    rw [Rep] at h ⊢
    obtain ⟨p, xs, e, q, r, t⟩ := h
    exact ⟨p, xs, e, SqT.same s q, Reps.mono s r, fun z => s _ _ (t z)⟩
  | .dct ks vs, _, h => by
    rw [Rep] at h ⊢
    obtain ⟨p, kv, e, q, r1, r2⟩ := h
    exact ⟨p, kv, e, s _ _ q, Reps.mono s r1, Reps.mono s r2⟩
  | .dctT ks vs, _, h => by
    rw [Rep] at h ⊢
    obtain ⟨p, kv, e, q, r1, r2⟩ := h
    exact ⟨p, kv, e, s _ _ q, TKs.mono s r1, Reps.mono s r2⟩
  | .ins C ns vs, _, h => by
    rw [Rep] at h ⊢
    obtain ⟨x, dx, fs, e, q1, q2, hn, r⟩ := h
    exact ⟨x, dx, fs, e, s _ _ q1, s _ _ q2, hn, Reps.mono s r⟩
theorem TK.mono (s : Same H H') : ∀ {d : D} {k : List Key}, TK K H d k → TK K H' d k
  | .tup es, _, h => by rw [TK] at h ⊢; exact Reps.mono s h
  | .non, _, h => by simp [TK] at h
  | .bl _, _, h => by simp [TK] at h
  | .int _, _, h => by simp [TK] at h
  | .str _, _, h => by simp [TK] at h
  | .lst _, _, h => by simp [TK] at h
  | .dct _ _, _, h => by simp [TK] at h
  | .dctT _ _, _, h => by simp [TK] at h
  | .ins _ _ _, _, h => by simp [TK] at h
theorem TKs.mono (s : Same H H') : ∀ {ds : List D} {ks : List (List Key)}, TKs K H ds ks → TKs K H' ds ks
  | [], _, h => by rw [TKs] at h ⊢; exact h
  | d :: ds, _, h => by
    rw [TKs] at h ⊢
    obtain ⟨k, r, e, a, b⟩ := h
    exact ⟨k, r, e, TK.mono s a, TKs.mono s b⟩
theorem Reps.mono (s : Same H H') : ∀ {ds : List D} {xs : List V}, Reps K H ds xs → Reps K H' ds xs
  | [], _, h => by simpa [Reps] using h
  | d :: ds, _, h => by
    rw [Reps] at h ⊢
    obtain ⟨x, r, e, a, b⟩ := h
    exact ⟨x, r, e, Rep.mono s a, Reps.mono s b⟩
end
theorem Reps.nil : Reps K H [] [] := by rw [Reps]
theorem Reps.cons {d : D} {ds : List D} {x : V} {xs : List V} (a : Rep K H d x) (b : Reps K H ds xs) : Reps K H (d :: ds) (x :: xs) := by rw [Reps]; exact ⟨x, xs, rfl, a, b⟩
theorem Reps.length : ∀ {ds : List D} {xs : List V}, Reps K H ds xs → ds.length = xs.length
  | [], _, h => by rw [Reps] at h; subst h; rfl
  | d :: ds, _, h => by
    rw [Reps] at h
    obtain ⟨x, r, rfl, _, b⟩ := h
    simp [b.length]
theorem Reps.get : ∀ {ds : List D} {xs : List V} {i : Nat} {x : V}, Reps K H ds xs → xs[i]? = some x → ∃ d, ds[i]? = some d ∧ Rep K H d x
  | [], _, _, _, h, e => by rw [Reps] at h; subst h; simp at e
  | d :: ds, _, 0, _, h, e => by
    rw [Reps] at h
    obtain ⟨y, r, rfl, a, _⟩ := h
    cases e
    exact ⟨d, rfl, a⟩
  | d :: ds, _, i + 1, _, h, e => by
    rw [Reps] at h
    obtain ⟨y, r, rfl, _, b⟩ := h
    exact Reps.get (i := i) b e
theorem Reps.get' : ∀ {ds : List D} {xs : List V} {i : Nat} {d : D}, Reps K H ds xs → ds[i]? = some d → ∃ x, xs[i]? = some x ∧ Rep K H d x := fun {ds xs i d} h e => by
  have hl := h.length
  have hi := (List.getElem?_eq_some_iff.mp e).1
  obtain ⟨d', e', r⟩ := h.get (i := i) (x := xs[i]'(by lia)) (List.getElem?_eq_getElem _)
  rw [e] at e'; cases e'
  exact ⟨_, List.getElem?_eq_getElem _, r⟩
theorem Reps.append : ∀ {ds es : List D} {xs ys : List V}, Reps K H ds xs → Reps K H es ys → Reps K H (ds ++ es) (xs ++ ys)
  | [], _, _, _, h, h2 => by rw [Reps] at h; subst h; exact h2
  | d :: ds, _, _, _, h, h2 => by
    rw [Reps] at h
    obtain ⟨y, r, rfl, a, b⟩ := h
    exact Reps.cons a (Reps.append b h2)
theorem Reps.snoc {ds : List D} {xs : List V} {d : D} {x : V} (h : Reps K H ds xs) (a : Rep K H d x) : Reps K H (ds ++ [d]) (xs ++ [x]) := h.append (.cons a .nil)
theorem Reps.drop : ∀ (n : Nat) {ds : List D} {xs : List V}, Reps K H ds xs → Reps K H (ds.drop n) (xs.drop n)
  | 0, _, _, h => h
  | n + 1, [], _, h => by rw [Reps] at h; subst h; exact Reps.nil
  | n + 1, d :: ds, _, h => by
    rw [Reps] at h
    obtain ⟨y, r, rfl, _, b⟩ := h
    exact Reps.drop n b
theorem Reps.take : ∀ (n : Nat) {ds : List D} {xs : List V}, Reps K H ds xs → Reps K H (ds.take n) (xs.take n)
  | 0, _, _, h => Reps.nil
  | n + 1, [], _, h => by rw [Reps] at h; subst h; exact Reps.nil
  | n + 1, d :: ds, _, h => by
    rw [Reps] at h
    obtain ⟨y, r, rfl, a, b⟩ := h
    exact Reps.cons a (Reps.take n b)
theorem Rep.lst {ds : List D} {p : Addr} {xs : List V} (q : SqL K H p xs) (r : Reps K H ds xs) : Rep K H (.lst ds) (.ref p) := by rw [Rep]; exact ⟨p, xs, rfl, q, r⟩
theorem Rep.tup {ds : List D} {p : Addr} {xs : List V} (q : SqT K H p xs) (r : Reps K H ds xs) (t : hasInt ds = true → H p = some (.tup xs)) : Rep K H (.tup ds) (.ref p) := by rw [Rep]; exact ⟨p, xs, rfl, q, r, t⟩
theorem Rep.tupN {ds : List D} {p : Addr} {xs : List V} (q : H p = some (.tup xs)) (r : Reps K H ds xs) : Rep K H (.tup ds) (.ref p) := Rep.tup (SqT.of q) r fun _ => q
theorem Rep.int {i : Int} : Rep K H (.int i) (.int i) := by rw [Rep]
theorem Rep.bl {b : Bool} : Rep K H (.bl b) (.bl b) := by rw [Rep]
theorem Rep.str {l : List Nat} (h : ∀ c ∈ l, c < 128) : Rep K H (.str l) (.str (T l)) := by rw [Rep]; exact ⟨rfl, h⟩
theorem Rep.non : Rep K H .non .non := by rw [Rep]
theorem Rep.of_int {i : Int} {v : V} (h : Rep K H (.int i) v) : v = .int i := by rw [Rep] at h; exact h
theorem Rep.of_bl {b : Bool} {v : V} (h : Rep K H (.bl b) v) : v = .bl b := by rw [Rep] at h; exact h
theorem Rep.of_str {l : List Nat} {v : V} (h : Rep K H (.str l) v) : v = .str (T l) := by rw [Rep] at h; exact h.1
theorem Rep.asc {l : List Nat} {v : V} (h : Rep K H (.str l) v) : ∀ c ∈ l, c < 128 := by rw [Rep] at h; exact h.2
theorem Rep.of_non {v : V} (h : Rep K H .non v) : v = .non := by rw [Rep] at h; exact h
theorem Rep.of_lst {ds : List D} {v : V} (h : Rep K H (.lst ds) v) : ∃ p xs, v = .ref p ∧ SqL K H p xs ∧ Reps K H ds xs := by rw [Rep] at h; exact h
theorem Rep.of_tup {ds : List D} {v : V} (h : Rep K H (.tup ds) v) : ∃ p xs, v = .ref p ∧ SqT K H p xs ∧ Reps K H ds xs := by rw [Rep] at h; obtain ⟨p, xs, e, q, r, _⟩ := h; exact ⟨p, xs, e, q, r⟩
theorem Rep.trk {ds : List D} {v : V} (h : Rep K H (.tup ds) v) (z : hasInt ds = true) : ∃ p xs, v = .ref p ∧ H p = some (.tup xs) ∧ Reps K H ds xs := by rw [Rep] at h; obtain ⟨p, xs, e, _, r, t⟩ := h; exact ⟨p, xs, e, t z, r⟩
theorem Rep.of_dct {ks vs : List D} {v : V} (h : Rep K H (.dct ks vs) v) : ∃ p kv, v = .ref p ∧ H p = some (.dK kv) ∧ Reps K H ks (kv.map fun q => kV q.1) ∧ Reps K H vs (kv.map fun q => q.2) := by rw [Rep] at h; exact h
theorem Rep.of_ins {C : Addr} {ns : List Str} {vs : List D} {v : V} (h : Rep K H (.ins C ns vs) v) : ∃ x dx fs, v = .ref x ∧ H x = some (.ins C dx fs) ∧ H dx = some (.own x) ∧ fs.map (fun q => q.1) = ns ∧ Reps K H vs (fs.map fun q => q.2) := by rw [Rep] at h; exact h
theorem Reps.ints {p : Addr} : ∀ (ns : List Int), Reps K H (ns.map D.int) (ns.map V.int)
  | [] => Reps.nil
  | n :: ns => Reps.cons Rep.int (Reps.ints (p := p) ns)
end

structure Ext (G H₀ F H : Hp) : Prop where
  gf : Same G F
  fh : Same F H
  hh : Same H₀ H
  no : ∀ b o, H₀ b = some o → F b = G b
theorem Ext.refl {G H : Hp} (s : Same G H) : Ext G H G H := ⟨Same.refl _, s, Same.refl _, fun _ _ _ => rfl⟩
theorem Ext.trans {G H F1 H1 F2 H2 : Hp} (a : Ext G H F1 H1) (b : Ext F1 H1 F2 H2) : Ext G H F2 H2 :=
  ⟨a.gf.trans b.gf, b.fh, a.hh.trans b.hh, fun c o e => (b.no c o (a.hh c o e)).trans (a.no c o e)⟩
theorem Ext.newF {G H₀ F H : Hp} (x : Ext G H₀ F H) {p : Addr} {o : HO} (hp : H p = none) : Ext G H₀ (upd F p o) (upd H p o) := by
  have fp : F p = none := x.fh.free hp
  refine ⟨x.gf.trans (Same.upd fp), fun b u e => ?_, x.hh.trans (Same.upd hp), fun b u e => ?_⟩
  · by_cases hb : b = p
    · subst hb; rw [upd_same] at e ⊢; exact e
    · rw [upd_ne hb] at e ⊢; exact x.fh b u e
  · have hb : b ≠ p := fun z => by subst z; have := x.hh b u e; rw [hp] at this; cases this
    rw [upd_ne hb]; exact x.no b u e
theorem Ext.newO {G H₀ F H : Hp} (x : Ext G H₀ F H) {p : Addr} {o : HO} (hp : H p = none) : Ext G H₀ F (upd H p o) :=
  ⟨x.gf, x.fh.trans (Same.upd hp), x.hh.trans (Same.upd hp), x.no⟩
theorem Ext.write {G H₀ F H : Hp} (x : Ext G H₀ F H) {p : Addr} {o : HO} (fp : F p = none) (hp : H₀ p = none) : Ext G H₀ F (upd H p o) :=
  ⟨x.gf, fun b u e => by rw [upd_ne (ne_of_none e fp)]; exact x.fh b u e, fun b u e => by rw [upd_ne (ne_of_none e hp)]; exact x.hh b u e, x.no⟩
theorem Ext.freeze {G H₀ F H : Hp} (x : Ext G H₀ F H) {p : Addr} {o : HO} (fp : F p = none) (hp : H₀ p = none) (e : H p = some o) : Ext G H₀ (upd F p o) H := by
  refine ⟨x.gf.trans (Same.upd fp), fun b u q => ?_, x.hh, fun b u q => ?_⟩
  · by_cases hb : b = p
    · subst hb; rw [upd_same] at q; cases q; exact e
    · rw [upd_ne hb] at q; exact x.fh b u q
  · rw [upd_ne (ne_of_none q hp)]; exact x.no b u q

inductive Sl where
  | un | d (x : D) | o (p : Addr) (xs : List D) | oo (p : Addr) (qs : List (Addr × List D)) | g (v : V) (as : List Addr) (W : Hp → Hp → Prop)
def Sl.ads : Sl → List Addr
  | .un => [] | .d _ => [] | .o p _ => [p] | .oo p qs => p :: qs.map (·.1) | .g _ as _ => as
def OwnL (K : PySem.W.Frag) (H₀ F H : Hp) (p : Addr) (xs : List D) : Prop := H₀ p = none ∧ F p = none ∧ ∃ vs, H p = some (.lst vs) ∧ Reps K F xs vs
def Stab (as : List Addr) (W : Hp → Hp → Prop) : Prop := ∀ F1 H1 F2 H2 : Hp, Same F1 F2 → (∀ a ∈ as, H2 a = H1 a) → W F1 H1 → W F2 H2
def SlOk (K : PySem.W.Frag) (H₀ F H : Hp) (ov : Option V) : Sl → Prop
  | .un => True
  | .d x => ∃ v, ov = some v ∧ Rep K F x v
  | .o p xs => ov = some (.ref p) ∧ OwnL K H₀ F H p xs
  | .oo p qs => ov = some (.ref p) ∧ H₀ p = none ∧ F p = none ∧ H p = some (.lst (qs.map fun q => V.ref q.1)) ∧ ∀ q ∈ qs, OwnL K H₀ F H q.1 q.2
  | .g v as W => ov = some v ∧ (∀ a ∈ as, H₀ a = none ∧ F a = none ∧ ∃ o, H a = some o) ∧ W F H ∧ Stab as W
structure Sat (K : PySem.W.Frag) (G H₀ L F H : Hp) (σ : St) (ss : List Sl) : Prop where
  ext : Ext G H₀ F H
  fl : Same L F
  len : σ.length = ss.length
  ok : ∀ (i : Nat) s, ss[i]? = some s → SlOk K H₀ F H (σ.getD i none) s
  nd : ∀ (i : Nat) s, ss[i]? = some s → s.ads.Nodup
  ne : ∀ (i j : Nat) s s', i ≠ j → ss[i]? = some s → ss[j]? = some s' → ∀ p ∈ s.ads, p ∉ s'.ads
section
variable {K : PySem.W.Frag} {H₀ F H F' H' : Hp}
theorem OwnL.ext2 {p : Addr} {xs : List D} (h : OwnL K H₀ F H p xs) (e : Ext F H F' H') : OwnL K H₀ F' H' p xs := by
  obtain ⟨h0, fp, vs, hp, r⟩ := h
  exact ⟨h0, (e.no p _ hp).trans fp, vs, e.hh p _ hp, r.mono e.gf⟩
theorem SlOk.ext2 {ov : Option V} {s : Sl} (h : SlOk K H₀ F H ov s) (e : Ext F H F' H') : SlOk K H₀ F' H' ov s := by
  cases s with
  | un => trivial
  | d x => obtain ⟨v, ev, r⟩ := h; exact ⟨v, ev, r.mono e.gf⟩
  | o p xs => exact ⟨h.1, h.2.ext2 e⟩
  | oo p qs =>
    obtain ⟨ev, h0, fp, hp, hq⟩ := h
    exact ⟨ev, h0, (e.no p _ hp).trans fp, e.hh p _ hp, fun q hm => (hq q hm).ext2 e⟩
  | g v as W =>
    obtain ⟨ev, ha, hw, st⟩ := h
    refine ⟨ev, fun a hm => ?_, st _ _ _ _ e.gf (fun a hm => ?_) hw, st⟩
    · obtain ⟨h0, fa, o, ho⟩ := ha a hm
      exact ⟨h0, (e.no a _ ho).trans fa, o, e.hh a _ ho⟩
    · obtain ⟨h0, fa, o, ho⟩ := ha a hm
      rw [e.hh a _ ho, ho]
theorem OwnL.updNe {p a : Addr} {o : HO} {xs : List D} (h : OwnL K H₀ F H p xs) (hn : p ≠ a) : OwnL K H₀ F (upd H a o) p xs := by
  obtain ⟨h0, fp, vs, hp, r⟩ := h
  exact ⟨h0, fp, vs, by rw [upd_ne hn]; exact hp, r⟩
theorem SlOk.updNe {ov : Option V} {s : Sl} {a : Addr} {o : HO} (h : SlOk K H₀ F H ov s) (hn : a ∉ s.ads) : SlOk K H₀ F (upd H a o) ov s := by
  cases s with
  | un => trivial
  | d x => exact h
  | o p xs => exact ⟨h.1, h.2.updNe fun z => hn (by simp [Sl.ads, z])⟩
  | oo p qs =>
    obtain ⟨ev, h0, fp, hp, hq⟩ := h
    refine ⟨ev, h0, fp, by rw [upd_ne fun z => hn (by simp [Sl.ads, z])]; exact hp, fun q hm => (hq q hm).updNe fun z => hn ?_⟩
    rw [← z]
    exact List.mem_cons_of_mem _ (List.mem_map_of_mem hm)
  | g v as W =>
    obtain ⟨ev, ha, hw, st⟩ := h
    have hne : ∀ b ∈ as, b ≠ a := fun b hm z => hn (by rw [← z]; exact hm)
    refine ⟨ev, fun b hm => ?_, st _ _ _ _ (Same.refl _) (fun b hm => upd_ne (hne b hm)) hw, st⟩
    obtain ⟨h0, fa, x, ho⟩ := ha b hm
    exact ⟨h0, fa, x, by rw [upd_ne (hne b hm)]; exact ho⟩
theorem OwnL.frz {p a : Addr} {o : HO} {xs : List D} (h : OwnL K H₀ F H p xs) (fa : F a = none) (hn : p ≠ a) : OwnL K H₀ (upd F a o) H p xs := by
  obtain ⟨h0, fp, vs, hp, r⟩ := h
  exact ⟨h0, by rw [upd_ne hn]; exact fp, vs, hp, r.mono (Same.upd fa)⟩
theorem SlOk.frz {ov : Option V} {s : Sl} {a : Addr} {o : HO} (h : SlOk K H₀ F H ov s) (fa : F a = none) (hn : a ∉ s.ads) : SlOk K H₀ (upd F a o) H ov s := by
  cases s with
  | un => trivial
  | d x => obtain ⟨v, ev, r⟩ := h; exact ⟨v, ev, r.mono (Same.upd fa)⟩
  | o p xs => exact ⟨h.1, h.2.frz fa fun z => hn (by simp [Sl.ads, z])⟩
  | oo p qs =>
    obtain ⟨ev, h0, fp, hp, hq⟩ := h
    refine ⟨ev, h0, by rw [upd_ne fun z => hn (by simp [Sl.ads, z])]; exact fp, hp, fun q hm => (hq q hm).frz fa fun z => hn ?_⟩
    rw [← z]
    exact List.mem_cons_of_mem _ (List.mem_map_of_mem hm)
  | g v as W =>
    obtain ⟨ev, ha, hw, st⟩ := h
    have hne : ∀ b ∈ as, b ≠ a := fun b hm z => hn (by rw [← z]; exact hm)
    refine ⟨ev, fun b hm => ?_, st _ _ _ _ (Same.upd fa) (fun _ _ => rfl) hw, st⟩
    obtain ⟨h0, fb, x, ho⟩ := ha b hm
    exact ⟨h0, by rw [upd_ne (hne b hm)]; exact fb, x, ho⟩
theorem SlOk.live {ov : Option V} {s : Sl} (h : SlOk K H₀ F H ov s) {p : Addr} (hp : p ∈ s.ads) : H p ≠ none := by
  cases s with
  | un => simp [Sl.ads] at hp
  | d x => simp [Sl.ads] at hp
  | o q xs =>
    obtain ⟨_, _, _, vs, hq, _⟩ := h
    simp [Sl.ads] at hp; subst hp; rw [hq]; simp
  | oo q qs =>
    obtain ⟨ev, h0, fp, hq, hqs⟩ := h
    rcases List.mem_cons.mp hp with rfl | hp
    · rw [hq]; simp
    · obtain ⟨r, hr, rfl⟩ := List.mem_map.mp hp
      obtain ⟨_, _, vs, hv, _⟩ := hqs r hr
      rw [hv]; simp
  | g v as W =>
    obtain ⟨ev, ha, hw, st⟩ := h
    obtain ⟨_, _, x, ho⟩ := ha p hp
    rw [ho]; simp
end
end L2

namespace L2
open PySem PySem.Spec PyProof.Rows
section
variable {K : PySem.W.Frag} {G H₀ L F H F' H' : Hp} {σ : St} {ss : List Sl}
theorem Sat.ext2 (S : Sat K G H₀ L F H σ ss) (e : Ext F H F' H') : Sat K G H₀ L F' H' σ ss :=
  ⟨S.ext.trans e, S.fl.trans e.gf, S.len, fun i s hs => (S.ok i s hs).ext2 e, S.nd, S.ne⟩
theorem Sat.get (S : Sat K G H₀ L F H σ ss) {i : Nat} {s : Sl} (hs : ss[i]? = some s) (hn : s ≠ .un) : ∃ v, σ[i]? = some (some v) ∧ SlOk K H₀ F H (some v) s := by
  have hi : i < σ.length := by rw [S.len]; exact (List.getElem?_eq_some_iff.mp hs).1
  have := S.ok i s hs
  rw [List.getD_eq_getElem?_getD, List.getElem?_eq_getElem hi] at this
  simp only [Option.getD_some] at this
  cases hv : σ[i] with
  | none =>
    rw [hv] at this
    cases s with
    | un => exact absurd rfl hn
    | d x => obtain ⟨v, ev, _⟩ := this; cases ev
    | o p xs => obtain ⟨ev, _⟩ := this; cases ev
    | oo p qs => obtain ⟨ev, _⟩ := this; cases ev
    | g v as W => obtain ⟨ev, _⟩ := this; cases ev
  | some v =>
    rw [hv] at this
    exact ⟨v, by rw [List.getElem?_eq_getElem hi, hv], this⟩
theorem Sat.getD (S : Sat K G H₀ L F H σ ss) {i : Nat} {x : D} (hs : ss[i]? = some (.d x)) : ∃ v, σ[i]? = some (some v) ∧ Rep K F x v := by
  obtain ⟨v, e, w, ew, r⟩ := S.get hs (by intro z; cases z)
  cases ew
  exact ⟨v, e, r⟩
theorem Sat.getO (S : Sat K G H₀ L F H σ ss) {i : Nat} {p : Addr} {xs : List D} (hs : ss[i]? = some (.o p xs)) : σ[i]? = some (some (.ref p)) ∧ OwnL K H₀ F H p xs := by
  obtain ⟨v, e, ew, r⟩ := S.get hs (by intro z; cases z)
  cases ew
  exact ⟨e, r⟩
theorem getD_set_self {σ : St} {i : Nat} {v : Option V} (h : i < σ.length) : (σ.set i v).getD i none = v := by
  rw [List.getD_eq_getElem?_getD, List.getElem?_set_self h]; rfl
theorem getD_set_ne {σ : St} {i j : Nat} {v : Option V} (h : i ≠ j) : (σ.set i v).getD j none = σ.getD j none := by
  rw [List.getD_eq_getElem?_getD, List.getElem?_set_ne h, List.getD_eq_getElem?_getD]
theorem set_cases {i j : Nat} {s t : Sl} (h : (ss.set i s)[j]? = some t) : (i = j ∧ t = s ∧ i < ss.length) ∨ (i ≠ j ∧ ss[j]? = some t) := by
  by_cases hj : i = j
  · subst hj
    have hi := (List.getElem?_eq_some_iff.mp h).1
    rw [List.length_set] at hi
    rw [List.getElem?_set_self hi] at h
    exact .inl ⟨rfl, (Option.some.inj h).symm, hi⟩
  · rw [List.getElem?_set_ne hj] at h; exact .inr ⟨hj, h⟩
theorem Sat.put {σ' : St} (S : Sat K G H₀ L F H σ ss) {i : Nat} {s : Sl} (ex : Ext G H₀ F' H') (fl : Same L F') (hl : σ'.length = σ.length) (hσ : ∀ j, j ≠ i → σ'.getD j none = σ.getD j none) (hi : i < ss.length → SlOk K H₀ F' H' (σ'.getD i none) s)
    (nd : s.ads.Nodup) (dj : ∀ (j : Nat) s', j ≠ i → ss[j]? = some s' → ∀ p ∈ s.ads, p ∉ s'.ads) (st : ∀ (j : Nat) s', j ≠ i → ss[j]? = some s' → SlOk K H₀ F' H' (σ.getD j none) s') : Sat K G H₀ L F' H' σ' (ss.set i s) := by
  refine ⟨ex, fl, by rw [List.length_set, hl, S.len], fun j t ht => ?_, fun j t ht => ?_, fun j k t u hjk ht hu => ?_⟩
  · rcases set_cases ht with ⟨rfl, rfl, hlt⟩ | ⟨hj, ht⟩
    · exact hi hlt
    · rw [hσ j (Ne.symm hj)]; exact st j t (Ne.symm hj) ht
  · rcases set_cases ht with ⟨rfl, rfl, _⟩ | ⟨hj, ht⟩
    · exact nd
    · exact S.nd j t ht
  · rcases set_cases ht with ⟨rfl, rfl, _⟩ | ⟨hj, ht'⟩
    · rcases set_cases hu with ⟨rfl, rfl, _⟩ | ⟨hk, hu'⟩
      · exact absurd rfl hjk
      · exact dj k u (Ne.symm hk) hu'
    · rcases set_cases hu with ⟨rfl, rfl, _⟩ | ⟨hk, hu'⟩
      · exact fun p hp hp' => dj j t (Ne.symm hj) ht' p hp' hp
      · exact S.ne j k t u hjk ht' hu'
theorem Sat.setD (S : Sat K G H₀ L F H σ ss) {i : Nat} {x : D} {v : V} (r : Rep K F x v) : Sat K G H₀ L F H (σ.set i (some v)) (ss.set i (.d x)) :=
  S.put S.ext S.fl (by simp) (fun j hj => getD_set_ne (Ne.symm hj)) (fun hi => by rw [getD_set_self (by rw [S.len]; exact hi)]; exact ⟨v, rfl, r⟩) (by simp [Sl.ads]) (fun _ _ _ _ p hp => by simp [Sl.ads] at hp) fun j s' _ h => S.ok j s' h
theorem Sat.setO (S : Sat K G H₀ L F H σ ss) {i : Nat} {xs : List D} {p : Addr} (r : OwnL K H₀ F H p xs) (hne : ∀ (j : Nat) s', j ≠ i → ss[j]? = some s' → p ∉ s'.ads) : Sat K G H₀ L F H (σ.set i (some (.ref p))) (ss.set i (.o p xs)) :=
  S.put S.ext S.fl (by simp) (fun j hj => getD_set_ne (Ne.symm hj)) (fun hi => by rw [getD_set_self (by rw [S.len]; exact hi)]; exact ⟨rfl, r⟩) (by simp [Sl.ads]) (fun j s' hj h q hq => by simp [Sl.ads] at hq; subst hq; exact hne j s' hj h) fun j s' _ h => S.ok j s' h
theorem Sat.write (S : Sat K G H₀ L F H σ ss) {i : Nat} {xs ys : List D} {p : Addr} {vs : List V} (hs : ss[i]? = some (.o p xs)) (r : Reps K F ys vs) : Sat K G H₀ L F (upd H p (.lst vs)) σ (ss.set i (.o p ys)) := by
  obtain ⟨e, h0, fp, ws, hp, _⟩ := S.getO hs
  have hget : σ.getD i none = some (.ref p) := by rw [List.getD_eq_getElem?_getD, e]; rfl
  refine S.put (S.ext.write fp h0) S.fl rfl (fun _ _ => rfl) (fun _ => by rw [hget]; exact ⟨rfl, h0, fp, vs, upd_same, r⟩) (by simp [Sl.ads]) (fun j s' hj h q hq => ?_) fun j s' hj h => (S.ok j s' h).updNe (S.ne i j _ s' (Ne.symm hj) hs h p (by simp [Sl.ads]))
  simp [Sl.ads] at hq; subst hq
  exact S.ne i j _ s' (Ne.symm hj) hs h q (by simp [Sl.ads])
theorem Sat.freeze (S : Sat K G H₀ L F H σ ss) {i : Nat} {p : Addr} {xs : List D} (hs : ss[i]? = some (.o p xs)) : ∃ F', Sat K G H₀ L F' H σ (ss.set i (.d (.lst xs))) := by
  obtain ⟨e, h0, fp, vs, hp, r⟩ := S.getO hs
  have hget : σ.getD i none = some (.ref p) := by rw [List.getD_eq_getElem?_getD, e]; rfl
  exact ⟨upd F p (.lst vs), S.put (S.ext.freeze fp h0 hp) (S.fl.trans (Same.upd fp)) rfl (fun _ _ => rfl) (fun _ => by rw [hget]; exact ⟨_, rfl, Rep.lst (SqL.of upd_same) (r.mono (Same.upd fp))⟩) (by simp [Sl.ads]) (fun _ _ _ _ q hq => by simp [Sl.ads] at hq)
    fun j s' hj h => (S.ok j s' h).frz fp (S.ne i j _ s' (Ne.symm hj) hs h p (by simp [Sl.ads]))⟩
theorem Sat.raise (S : Sat K G H₀ L F H σ ss) : Sat K G H₀ F F H σ ss := ⟨S.ext, Same.refl _, S.len, S.ok, S.nd, S.ne⟩
theorem Sat.lower {L' : Hp} (S : Sat K G H₀ L' F H σ ss) (h : Same L L') : Sat K G H₀ L F H σ ss := ⟨S.ext, h.trans S.fl, S.len, S.ok, S.nd, S.ne⟩
end

section
variable (K : PySem.W.Frag) (G H₀ L : Hp) (ss : List Sl)
def Ev (t : TE) (d : D) : Prop := ∀ F H σ Q, Sat K G H₀ L F H σ ss → (∀ v F' H', Ext F H F' H' → Rep K F' d v → Q v H') → t σ H Q
def EvO (t : TE) (ds : List D) : Prop := ∀ F H σ Q, Sat K G H₀ L F H σ ss → (∀ p vs F' H', Ext F H F' H' → H p = none → F' p = none → H' p = some (.lst vs) → Reps K F' ds vs → Q (.ref p) H') → t σ H Q
def EvL (t : TE) (ds : List D) : Prop := ∀ F H σ Q, Sat K G H₀ L F H σ ss → (∀ p vs F' H', Ext F H F' H' → SqL K H' p vs → Reps K F' ds vs → Q (.ref p) H') → t σ H Q
def EvB (t : TE) (d : D) : Prop := ∀ F H σ Q, Sat K G H₀ L F H σ ss → (∀ v F' H', Ext F H F' H' → Rep K H' d v → Q v H') → t σ H Q
def EvT (t : TT) (b : Bool) : Prop := ∀ F H σ (Q : Bool → Hp → Prop), Sat K G H₀ L F H σ ss → (∀ F' H', Ext F H F' H' → Q b H') → t σ H Q
def EvA (t : TA) (ds : List D) : Prop := ∀ F H σ (Q : List V → Hp → Prop), Sat K G H₀ L F H σ ss → (∀ vs F' H', Ext F H F' H' → Reps K H' ds vs → Q vs H') → t σ H Q
def EvAF (t : TA) (ds : List D) : Prop := ∀ F H σ (Q : List V → Hp → Prop), Sat K G H₀ L F H σ ss → (∀ vs F' H', Ext F H F' H' → Reps K F' ds vs → Q vs H') → t σ H Q
end
section
variable {K : PySem.W.Frag} {G H₀ L : Hp} {ss : List Sl} {t ta tb : TE} {d d1 d2 : D} {ds es : List D}
theorem EvO.ev (h : EvO K G H₀ L ss t ds) : Ev K G H₀ L ss t (.lst ds) := fun F H σ Q S q => h F H σ Q S fun p vs F' H' e hp fp hp' r => q _ _ _ (e.freeze fp hp hp') (Rep.lst (SqL.of upd_same) (r.mono (Same.upd fp)))
theorem EvO.l (h : EvO K G H₀ L ss t ds) : EvL K G H₀ L ss t ds := fun F H σ Q S q => h F H σ Q S fun p vs F' H' e hp fp hp' r => q _ _ _ _ e (SqL.of hp') r
theorem Ev.l (h : Ev K G H₀ L ss t (.lst ds)) : EvL K G H₀ L ss t ds := fun F H σ Q S q => h F H σ Q S fun v F' H' e r => by
  obtain ⟨p, xs, rfl, sq, rs⟩ := r.of_lst
  exact q _ _ _ _ e (SqL.same e.fh sq) rs
theorem Ev.b (h : Ev K G H₀ L ss t d) : EvB K G H₀ L ss t d := fun F H σ Q S q => h F H σ Q S fun v F' H' e r => q _ _ _ e (r.mono e.fh)
theorem EvL.b (h : EvL K G H₀ L ss t ds) : EvB K G H₀ L ss t (.lst ds) := fun F H σ Q S q => h F H σ Q S fun p vs F' H' e sq r => q _ _ _ e (Rep.lst sq (r.mono e.fh))
theorem ev_var {i : Nat} (hs : ss[i]? = some (.d d)) : Ev K G H₀ L ss (tVar i) d := fun F H σ Q S q => by
  obtain ⟨v, e, r⟩ := S.getD hs
  exact ⟨v, e, q _ _ _ (Ext.refl S.ext.fh) r⟩
theorem evl_own {i : Nat} {p : Addr} (hs : ss[i]? = some (.o p ds)) : EvL K G H₀ L ss (tVar i) ds := fun F H σ Q S q => by
  obtain ⟨e, h0, fp, vs, hp, r⟩ := S.getO hs
  exact ⟨.ref p, e, q _ _ _ _ (Ext.refl S.ext.fh) (SqL.of hp) r⟩
theorem ev_int {i : Int} : Ev K G H₀ L ss (tC (.int i)) (.int i) := fun F H σ Q S q => q _ _ _ (Ext.refl S.ext.fh) Rep.int
theorem ev_bl {b : Bool} : Ev K G H₀ L ss (tC (.bl b)) (.bl b) := fun F H σ Q S q => q _ _ _ (Ext.refl S.ext.fh) Rep.bl
theorem ev_non : Ev K G H₀ L ss (tC .non) .non := fun F H σ Q S q => q _ _ _ (Ext.refl S.ext.fh) Rep.non
theorem ev_op2 {r : R2} {w : V} (a : EvB K G H₀ L ss ta d1) (b : EvB K G H₀ L ss tb d2) (hr : ∀ H x y (Q : VK), Rep K H d1 x → Rep K H d2 y → Q w H → r x y H Q) (hw : ∀ F H x y, Rep K H d1 x → Rep K H d2 y → Rep K F d w) : Ev K G H₀ L ss (tOp r ta tb) d := fun F H σ Q S q =>
  a F H σ _ S fun x F1 H1 e1 r1 => b F1 H1 σ _ (S.ext2 e1) fun y F2 H2 e2 r2 => hr H2 x y Q (r1.mono e2.hh) r2 (q _ _ _ (e1.trans e2) (hw _ _ _ _ (r1.mono e2.hh) r2))
theorem ev_add {i j : Int} (a : EvB K G H₀ L ss ta (.int i)) (b : EvB K G H₀ L ss tb (.int j)) : Ev K G H₀ L ss (tOp (rI0 fun i j => .int (i + j)) ta tb) (.int (i + j)) :=
  ev_op2 a b (fun H x y Q r1 r2 q => ⟨i, j, r1.of_int, r2.of_int, q⟩) fun _ _ _ _ _ _ => Rep.int
theorem ev_sub {i j : Int} (a : EvB K G H₀ L ss ta (.int i)) (b : EvB K G H₀ L ss tb (.int j)) : Ev K G H₀ L ss (tOp (rI0 fun i j => .int (i - j)) ta tb) (.int (i - j)) :=
  ev_op2 a b (fun H x y Q r1 r2 q => ⟨i, j, r1.of_int, r2.of_int, q⟩) fun _ _ _ _ _ _ => Rep.int
theorem ev_opI {C : Int → Int → Prop} {g : Int → Int → Int} {i j : Int} (a : EvB K G H₀ L ss ta (.int i)) (b : EvB K G H₀ L ss tb (.int j)) (hC : C i j) : Ev K G H₀ L ss (tOp (rI C fun i j => .int (g i j)) ta tb) (.int (g i j)) :=
  ev_op2 a b (fun H x y Q r1 r2 q => ⟨i, j, r1.of_int, r2.of_int, hC, q⟩) fun _ _ _ _ _ _ => Rep.int
theorem ev_cmpI {g : Int → Int → Bool} {i j : Int} (a : EvB K G H₀ L ss ta (.int i)) (b : EvB K G H₀ L ss tb (.int j)) : Ev K G H₀ L ss (tOp (rI0 fun i j => .bl (g i j)) ta tb) (.bl (g i j)) :=
  ev_op2 a b (fun H x y Q r1 r2 q => ⟨i, j, r1.of_int, r2.of_int, q⟩) fun _ _ _ _ _ _ => Rep.bl
theorem ev_eqI {i j : Int} (a : EvB K G H₀ L ss ta (.int i)) (b : EvB K G H₀ L ss tb (.int j)) : Ev K G H₀ L ss (tOp rEq ta tb) (.bl (decide (i = j))) :=
  ev_op2 (w := .bl (decide (i = j))) a b (fun H x y Q r1 r2 q => by rw [r1.of_int, r2.of_int]; exact ⟨rfl, by simpa using q⟩) fun _ _ _ _ _ _ => Rep.bl
theorem ev_neI {i j : Int} (a : EvB K G H₀ L ss ta (.int i)) (b : EvB K G H₀ L ss tb (.int j)) : Ev K G H₀ L ss (tOp rNe ta tb) (.bl (!decide (i = j))) :=
  ev_op2 (w := .bl (!decide (i = j))) a b (fun H x y Q r1 r2 q => by rw [r1.of_int, r2.of_int]; exact ⟨rfl, by simpa using q⟩) fun _ _ _ _ _ _ => Rep.bl
theorem ev_neB {l m : Bool} (a : EvB K G H₀ L ss ta (.bl l)) (b : EvB K G H₀ L ss tb (.bl m)) : Ev K G H₀ L ss (tOp rNe ta tb) (.bl (!decide (l = m))) :=
  ev_op2 (w := .bl (!decide (l = m))) a b (fun H x y Q r1 r2 q => by rw [r1.of_bl, r2.of_bl]; exact ⟨rfl, by simpa using q⟩) fun _ _ _ _ _ _ => Rep.bl
theorem Reps.atI {H : Hp} {ds : List D} {vs : List V} {i : Int} {d : D} (r : Reps K H ds vs) (h : L2.atI ds i = some d) : ∃ v, L2.atI vs i = some v ∧ Rep K H d v := by
  unfold L2.atI at h ⊢
  rw [r.length] at h
  cases hx : ixN vs.length i with
  | none => rw [hx] at h; cases h
  | some j => rw [hx] at h; exact r.get' h
theorem ev_ixL {i : Int} (a : EvL K G H₀ L ss ta ds) (b : EvB K G H₀ L ss tb (.int i)) (hc : atI ds i = some d) : Ev K G H₀ L ss (tOp (rIxL K) ta tb) d := fun F H σ Q S q =>
  a F H σ _ S fun p vs F1 H1 e1 sq r1 => b F1 H1 σ _ (S.ext2 e1) fun y F2 H2 e2 r2 => by
    obtain ⟨v, hv, rv⟩ := r1.atI hc
    exact ⟨p, vs, i, v, rfl, r2.of_int, SqL.same e2.hh sq, hv, q _ _ _ (e1.trans e2) (rv.mono e2.gf)⟩
theorem ev_ixT {i : Int} (a : Ev K G H₀ L ss ta (.tup ds)) (b : EvB K G H₀ L ss tb (.int i)) (hc : atI ds i = some d) : Ev K G H₀ L ss (tOp (rIxT K) ta tb) d := fun F H σ Q S q =>
  a F H σ _ S fun x F1 H1 e1 r1 => b F1 H1 σ _ (S.ext2 e1) fun y F2 H2 e2 r2 => by
    obtain ⟨p, vs, rfl, sq, rs⟩ := r1.of_tup
    obtain ⟨v, hv, rv⟩ := rs.atI hc
    exact ⟨p, vs, i, v, rfl, r2.of_int, SqT.same (e1.fh.trans e2.hh) sq, hv, q _ _ _ (e1.trans e2) (rv.mono e2.gf)⟩
theorem eva_nil : EvA K G H₀ L ss tNil [] := fun F H σ Q S q => q _ _ _ (Ext.refl S.ext.fh) Reps.nil
theorem eva_cons {t : TA} (a : EvB K G H₀ L ss ta d) (b : EvA K G H₀ L ss t ds) : EvA K G H₀ L ss (tCons ta t) (d :: ds) := fun F H σ Q S q =>
  a F H σ _ S fun x F1 H1 e1 r1 => b F1 H1 σ _ (S.ext2 e1) fun vs F2 H2 e2 r2 => q _ _ _ (e1.trans e2) (Reps.cons (r1.mono e2.hh) r2)
theorem evaf_nil : EvAF K G H₀ L ss tNil [] := fun F H σ Q S q => q _ _ _ (Ext.refl S.ext.fh) Reps.nil
theorem evaf_cons {t : TA} (a : Ev K G H₀ L ss ta d) (b : EvAF K G H₀ L ss t ds) : EvAF K G H₀ L ss (tCons ta t) (d :: ds) := fun F H σ Q S q =>
  a F H σ _ S fun x F1 H1 e1 r1 => b F1 H1 σ _ (S.ext2 e1) fun vs F2 H2 e2 r2 => q _ _ _ (e1.trans e2) (Reps.cons (r1.mono e2.gf) r2)
theorem ev_tup {t : TA} (a : EvAF K G H₀ L ss t ds) (hz : ds.length ≤ sizeLine) : Ev K G H₀ L ss (tTup t) (.tup ds) := fun F H σ Q S q =>
  a F H σ _ S fun vs F1 H1 e1 r1 => ⟨by rw [← r1.length]; exact hz, fun p hp => q _ _ _ (e1.newF hp) (Rep.tupN (upd_same) (r1.mono (Same.upd (e1.fh.free hp))))⟩
theorem evo_lst {t : TA} (a : EvAF K G H₀ L ss t ds) (hz : ds.length ≤ sizeLine) : EvO K G H₀ L ss (tLst t) ds := fun F H σ Q S q =>
  a F H σ _ S fun vs F1 H1 e1 r1 => ⟨by rw [← r1.length]; exact hz, fun p hp => q p vs F1 _ (e1.newO hp) (e1.hh.free hp) (e1.fh.free hp) upd_same r1⟩
theorem evt_test {b : Bool} (a : Ev K G H₀ L ss t (.bl b)) : EvT K G H₀ L ss (tTest t) b := fun F H σ Q S q => a F H σ _ S fun v F' H' e r => ⟨b, r.of_bl, q _ _ e⟩
theorem evt_b {b : Bool} (a : Ev K G H₀ L ss t (.bl b)) : EvT K G H₀ L ss (tB t) b := fun F H σ Q S q => a F H σ _ S fun v F' H' e r => ⟨b, r.of_bl, q _ _ e⟩
theorem evt_not {u : TT} {b : Bool} (a : EvT K G H₀ L ss u b) : EvT K G H₀ L ss (tNot u) (!b) := fun F H σ Q S q => a F H σ _ S fun F' H' e => q _ _ e
theorem evt_and {u v : TT} {b c : Bool} (a : EvT K G H₀ L ss u b) (h : b = true → EvT K G H₀ L ss v c) : EvT K G H₀ L ss (tAnd u v) (b && c) := fun F H σ Q S q => a F H σ _ S fun F' H' e => by
  cases b with
  | false => exact iteF (q _ _ e)
  | true => exact iteT (h rfl _ _ _ _ (S.ext2 e) fun F'' H'' e' => q _ _ (e.trans e'))
theorem evt_or {u v : TT} {b c : Bool} (a : EvT K G H₀ L ss u b) (h : b = false → EvT K G H₀ L ss v c) : EvT K G H₀ L ss (tOr u v) (b || c) := fun F H σ Q S q => a F H σ _ S fun F' H' e => by
  cases b with
  | true => exact iteT (q _ _ e)
  | false => exact iteF (h rfl _ _ _ _ (S.ext2 e) fun F'' H'' e' => q _ _ (e.trans e'))
theorem ev_and {b c : Bool} (a : Ev K G H₀ L ss ta (.bl b)) (h : b = true → Ev K G H₀ L ss tb (.bl c)) : Ev K G H₀ L ss (tAndV ta tb) (.bl (b && c)) := fun F H σ Q S q => a F H σ _ S fun v F' H' e r => by
  refine ⟨b, r.of_bl, ?_⟩
  cases b with
  | false => exact iteF (q _ _ _ e Rep.bl)
  | true => exact iteT (h rfl _ _ _ _ (S.ext2 e) fun v F'' H'' e' r' => q _ _ _ (e.trans e') r')
theorem ev_not {b : Bool} (a : Ev K G H₀ L ss ta (.bl b)) : Ev K G H₀ L ss (tNotV ta) (.bl (!b)) := fun F H σ Q S q => a F H σ _ S fun v F' H' e r => ⟨b, r.of_bl, q _ _ _ e Rep.bl⟩
end
end L2

namespace L2
open PySem PySem.Spec PyProof.Rows
def SpD (K : PySem.W.Frag) (pre : List D → Prop) (res : List D → D) : Sp := fun vs H Q _ => ∃ G ds, Same G H ∧ Reps K G ds vs ∧ pre ds ∧ ∀ v G' H', Ext G H G' H' → Rep K G' (res ds) v → Q v H'
def SpO (K : PySem.W.Frag) (pre : List D → Prop) (res : List D → List D) : Sp := fun vs H Q _ => ∃ G ds, Same G H ∧ Reps K G ds vs ∧ pre ds ∧ ∀ p ws G' H', Ext G H G' H' → H p = none → G' p = none → H' p = some (.lst ws) → Reps K G' (res ds) ws → Q (.ref p) H'
def D.flat : D → Bool
  | .lst _ => false | .tup _ => false | .dct _ _ => false | .dctT _ _ => false | .ins _ _ _ => false | _ => true
theorem Rep.flat {K : PySem.W.Frag} {H H' : Hp} {d : D} {v : V} (f : d.flat = true) (r : Rep K H d v) : Rep K H' d v := by
  cases d with
  | lst _ => cases f
  | tup _ => cases f
  | dct _ _ => cases f
  | dctT _ _ => cases f
  | ins _ _ _ => cases f
  | non => rw [r.of_non]; exact Rep.non
  | bl b => rw [r.of_bl]; exact Rep.bl
  | int i => rw [r.of_int]; exact Rep.int
  | str l => rw [r.of_str]; exact Rep.str r.asc
section
variable {K : PySem.W.Frag} {G H₀ L : Hp} {ss : List Sl} {t : TA} {ds : List D} {pre : List D → Prop} {E : XK}
theorem ev_call {res : List D → D} (a : EvAF K G H₀ L ss t ds) (hp : pre ds) : Ev K G H₀ L ss (tCall (SpD K pre res) [] E t) (res ds) := fun F H σ Q S q =>
  a F H σ _ S fun vs F1 H1 e1 r1 => ⟨F1, ds, e1.fh, by rw [List.append_nil]; exact r1, hp, fun v G' H' e2 r => q _ _ _ (e1.trans e2) r⟩
theorem evo_call {res : List D → List D} (a : EvAF K G H₀ L ss t ds) (hp : pre ds) : EvO K G H₀ L ss (tCall (SpO K pre res) [] E t) (res ds) := fun F H σ Q S q =>
  a F H σ _ S fun vs F1 H1 e1 r1 => ⟨F1, ds, e1.fh, by rw [List.append_nil]; exact r1, hp, fun p ws G' H' e2 h1 h2 h3 r => q _ _ _ _ (e1.trans e2) (e1.hh.free h1) h2 h3 r⟩
theorem ev_callS {res : List D → D} (a : EvA K G H₀ L ss t ds) (hp : pre ds) (hf : (res ds).flat = true) : Ev K G H₀ L ss (tCall (SpD K pre res) [] E t) (res ds) := fun F H σ Q S q =>
  a F H σ _ S fun vs F1 H1 e1 r1 => ⟨H1, ds, Same.refl _, by rw [List.append_nil]; exact r1, hp, fun v G' H' e2 r => q v F1 H' (e1.trans ⟨Same.refl _, e1.fh.trans e2.hh, e2.hh, fun _ _ _ => rfl⟩) (r.flat hf)⟩
end

section
variable (K : PySem.W.Frag) (G H₀ L : Hp)
def Nx (P : St → Hp → Prop) (ss : List Sl) : Prop := ∀ F H σ, Sat K G H₀ L F H σ ss → P σ H
def Go (E : Ends) (ss : List Sl) (t : TS) : Prop := ∀ F H σ, Sat K G H₀ L F H σ ss → t E σ H
def Tg (g : TG) (d : D) (ss ss' : List Sl) : Prop := ∀ F H σ v (Q : St → Hp → Prop), Sat K G H₀ L F H σ ss → Rep K F d v → (∀ σ' , Sat K G H₀ L F H σ' ss' → Q σ' H) → g v σ H Q
def Tgs (g : TGs) (ds : List D) (ss ss' : List Sl) : Prop := ∀ F H σ vs (Q : St → Hp → Prop), Sat K G H₀ L F H σ ss → Reps K F ds vs → (∀ σ' , Sat K G H₀ L F H σ' ss' → Q σ' H) → g vs σ H Q
def At (I : List Sl → Prop) : St → Hp → Prop := fun σ H => ∃ ss F, Sat K G H₀ L F H σ ss ∧ I ss
end
def RtD (K : PySem.W.Frag) (G H₀ : Hp) (rt : VK) (d : D) : Prop := ∀ v F H, Ext G H₀ F H → Rep K F d v → rt v H
def RtO (K : PySem.W.Frag) (G H₀ : Hp) (rt : VK) (ds : List D) : Prop := ∀ p vs F H, Ext G H₀ F H → H₀ p = none → F p = none → H p = some (.lst vs) → Reps K F ds vs → rt (.ref p) H
section
variable {K : PySem.W.Frag} {G H₀ L : Hp} {ss ss' : List Sl} {E : Ends} {t u : TS} {te : TE} {d : D} {ds : List D} {P : St → Hp → Prop}
theorem go_seq (h : Go K G H₀ L { E with nx := u E } ss t) : Go K G H₀ L E ss (tSeq t u) := h
theorem go_set {i : Nat} (a : Ev K G H₀ L ss te d) (h : Nx K G H₀ L E.nx (ss.set i (.d d))) : Go K G H₀ L E ss (tAsg te (gName i)) := fun F H σ S => a F H σ _ S fun v F' H' e r => h F' H' _ ((S.ext2 e).setD r)
theorem Sat.notin {F H : Hp} {σ : St} {p : Addr} (S : Sat K G H₀ L F H σ ss) (hp : H p = none) (j : Nat) (s : Sl) (h : ss[j]? = some s) : p ∉ s.ads := fun z => (S.ok j s h).live z hp
theorem Sat.newO {F H F' H' : Hp} {σ : St} {p : Addr} {vs : List V} {i : Nat} (S : Sat K G H₀ L F H σ ss) (e : Ext F H F' H') (hp : H p = none) (fp : F' p = none) (hp' : H' p = some (.lst vs)) (r : Reps K F' ds vs) : Sat K G H₀ L F' H' (σ.set i (some (.ref p))) (ss.set i (.o p ds)) :=
  (S.ext2 e).setO ⟨S.ext.hh.free hp, fp, vs, hp', r⟩ fun j s _ h => S.notin hp j s h
theorem go_setO {i : Nat} (a : EvO K G H₀ L ss te ds) (h : ∀ p, Nx K G H₀ L E.nx (ss.set i (.o p ds))) : Go K G H₀ L E ss (tAsg te (gName i)) := fun F H σ S => a F H σ _ S fun p vs F' H' e hp fp hp' r => h p F' H' _ (S.newO e hp fp hp' r)
theorem go_asg {g : TG} (a : Ev K G H₀ L ss te d) (hg : Tg K G H₀ L g d ss ss') (h : Nx K G H₀ L E.nx ss') : Go K G H₀ L E ss (tAsg te g) := fun F H σ S => a F H σ _ S fun v F' H' e r => hg F' H' σ v _ (S.ext2 e) r fun σ' S' => h F' H' σ' S'
theorem go_if {c : TT} {b : Bool} (a : EvT K G H₀ L ss c b) (h1 : b = true → Go K G H₀ L E ss t) (h2 : b = false → Go K G H₀ L E ss u) : Go K G H₀ L E ss (tIfS c t u) := fun F H σ S => a F H σ _ S fun F' H' e => by
  cases b with
  | true => exact iteT (h1 rfl F' H' σ (S.ext2 e))
  | false => exact iteF (h2 rfl F' H' σ (S.ext2 e))
theorem go_next (h : Nx K G H₀ L E.nx ss) : Go K G H₀ L E ss tNext := h
theorem go_ret (a : Ev K G H₀ L ss te d) (h : RtD K G H₀ E.rt d) : Go K G H₀ L E ss (tRet te) := fun F H σ S => a F H σ _ S fun v F' H' e r => h v F' H' (S.ext.trans e) r
theorem go_retO (a : EvO K G H₀ L ss te ds) (h : RtO K G H₀ E.rt ds) : Go K G H₀ L E ss (tRet te) := fun F H σ S => a F H σ _ S fun p vs F' H' e hp fp hp' r => h p vs F' H' (S.ext.trans e) (S.ext.hh.free hp) fp hp' r
theorem go_retV {i : Nat} {p : Addr} (hs : ss[i]? = some (.o p ds)) (h : RtO K G H₀ E.rt ds) : Go K G H₀ L E ss (tRet (tVar i)) := fun F H σ S => by
  obtain ⟨e, h0, fp, vs, hp, r⟩ := S.getO hs
  exact ⟨.ref p, e, h p vs F H S.ext h0 fp hp r⟩
theorem nx_freeze {i : Nat} {p : Addr} (hs : ss[i]? = some (.o p ds)) (h : Nx K G H₀ L P (ss.set i (.d (.lst ds)))) : Nx K G H₀ L P ss := fun F H σ S => by
  obtain ⟨F', S'⟩ := S.freeze hs
  exact h F' H σ S'
theorem nx_go (h : Go K G H₀ L E ss t) : Nx K G H₀ L (t E) ss := h
theorem nx_at {I : List Sl → Prop} (h : I ss) : Nx K G H₀ L (At K G H₀ L I) ss := fun F H σ S => ⟨ss, F, S, h⟩
theorem go_join (I : List Sl → Prop) (h1 : ∀ N : St → Hp → Prop, (∀ ss, I ss → Nx K G H₀ L N ss) → Go K G H₀ L { E with nx := N } ss t) (h2 : ∀ ss, I ss → Go K G H₀ L E ss u) : Go K G H₀ L E ss (tSeq t u) := h1 _ h2
theorem tg_name {i : Nat} : Tg K G H₀ L (gName i) d ss (ss.set i (.d d)) := fun F H σ v Q S r q => q _ (S.setD r)
theorem tgs_nil : Tgs K G H₀ L gNil [] ss ss := fun F H σ vs Q S r q => by
  rw [Reps] at r
  exact ⟨r, q _ S⟩
theorem tgs_cons {g : TG} {gs : TGs} {ss1 ss2 : List Sl} (a : Tg K G H₀ L g d ss ss1) (b : Tgs K G H₀ L gs ds ss1 ss2) : Tgs K G H₀ L (gCons g gs) (d :: ds) ss ss2 := fun F H σ vs Q S r q => by
  rw [Reps] at r
  obtain ⟨x, xs, rfl, r1, r2⟩ := r
  exact ⟨x, xs, rfl, a F H σ x _ S r1 fun σ' S' => b F H σ' xs _ S' r2 q⟩
theorem tg_tup {g : TGs} {n : Nat} (hn : ds.length = n) (a : Tgs K G H₀ L g ds ss ss') : Tg K G H₀ L (gTup K n g) (.tup ds) ss ss' := fun F H σ v Q S r q => by
  obtain ⟨p, xs, rfl, sq, rs⟩ := r.of_tup
  exact ⟨p, xs, rfl, SqT.same S.ext.fh sq, by rw [← rs.length]; exact hn, a F H σ xs _ S rs q⟩
theorem go_append {i : Nat} {p : Addr} {t1 : TE} (hs : ss[i]? = some (.o p ds)) (a : Ev K G H₀ L ss t1 d) (hz : ds.length < sizeLine) (h : Nx K G H₀ L E.nx (ss.set i (.o p (ds ++ [d])))) :
    Go K G H₀ L E ss (tDrop (tBM K "list" rAppend (tVar i) (tCons t1 tNil))) := fun F H σ S => by
  obtain ⟨e, h0, fp, vs, hp, r⟩ := S.getO hs
  refine ⟨.ref p, e, .inl ⟨rfl, _, SqL.of hp⟩, a F H σ _ S fun v F' H' e' r' => ?_⟩
  have S' := S.ext2 e'
  obtain ⟨e2, h02, fp2, vs', hp2, r2⟩ := S'.getO hs
  exact ⟨p, vs', v, rfl, rfl, hp2, by rw [← r2.length]; exact hz, h F' _ σ (S'.write hs (r2.snoc r'))⟩
theorem Rep.itl {F H : Hp} {p : Addr} (h : Same F H) (r : Rep K F (.lst ds) (.ref p)) : ∃ vs, SqL K H p vs ∧ Reps K F ds vs := by
  obtain ⟨q, xs, e, sq, rs⟩ := r.of_lst
  cases e
  exact ⟨xs, SqL.same h sq, rs⟩
theorem go_for {tl : TE} {g : TG} {tb : TS} {α : Type} (enc : α → D) (xs : List α) (I : Nat → List Sl → Prop) (a : Ev K G H₀ L ss tl (.lst (xs.map enc))) (h0 : I 0 ss)
    (hs : ∀ L' k x ss, Same L L' → xs[k]? = some x → I k ss → ∃ ss', Tg K G H₀ L' g (enc x) ss ss' ∧ ∀ N, (∀ ss, I (k + 1) ss → Nx K G H₀ L' N ss) → Go K G H₀ L' { E with nx := N, ct := N, bk := E.nx } ss' tb)
    (hd : ∀ ss, I xs.length ss → Nx K G H₀ L E.nx ss) : Go K G H₀ L E ss (tFor (iList K tl) g tb) := fun F H σ S =>
  a F H σ _ S fun v F1 H1 e1 r1 => by
    obtain ⟨p, vs, rfl, sq, rs⟩ := r1.of_lst
    refine ⟨p, rfl, ⟨vs, SqL.same e1.fh sq⟩, ?_⟩
    refine ⟨fun i m σ' H' => m = xs.length - i ∧ i ≤ xs.length ∧ At K G H₀ F1 (I i) σ' H', ⟨_, rfl, Nat.zero_le _, ss, F1, (S.ext2 e1).raise, h0⟩, ?_⟩
    rintro i m σ' H' ⟨rfl, hi, ss1, F2, S2, h2⟩
    have rp : Rep K F2 (.lst (xs.map enc)) (.ref p) := r1.mono S2.fl
    obtain ⟨ws, sq2, rs2⟩ := rp.itl S2.ext.fh
    have hlen : ws.length = xs.length := by rw [← rs2.length, List.length_map]
    by_cases hlt : i < xs.length
    · refine .inr ⟨⟨ws, ws[i]'(by lia), sq2, List.getElem?_eq_getElem _⟩, fun σ'' H'' => At K G H₀ F1 (I (i + 1)) σ'' H'', fun σ'' H'' h => ⟨xs.length - (i + 1), by lia, rfl, hlt, h⟩, fun x H'' y => ?_⟩
      obtain ⟨rfl, y⟩ := y
      have hx := y ws sq2
      obtain ⟨dx, hdx, rx⟩ := rs2.get hx
      rw [List.getElem?_map, List.getElem?_eq_getElem hlt] at hdx
      cases hdx
      obtain ⟨ss', tg, go⟩ := hs F1 i _ ss1 (S.fl.trans e1.gf) (List.getElem?_eq_getElem hlt) h2
      exact tg F2 _ σ' x _ S2 rx fun σ3 S3 => go _ (fun ss h => nx_at h) F2 _ σ3 S3
    · have e : i = xs.length := by lia
      subst e
      exact .inl ⟨⟨ws, sq2, by lia⟩, hd ss1 h2 F2 H' σ' (S2.lower (S.fl.trans e1.gf))⟩
theorem go_range {ta : TA} {j : Nat} {tb : TS} {n : Int} (I : Nat → List Sl → Prop) (a : EvA K G H₀ L ss ta [.int n]) (hb : -(2 ^ 62) ≤ n ∧ n < 2 ^ 62) (h0 : I 0 ss)
    (hs : ∀ (k : Nat) ss, (k : Int) < n → I k ss → ∀ N, (∀ ss, I (k + 1) ss → Nx K G H₀ L N ss) → Go K G H₀ L { E with nx := N, ct := N, bk := E.nx } (ss.set j (.d (.int (k : Int)))) tb)
    (hd : ∀ ss, I n.toNat ss → Nx K G H₀ L E.nx ss) {ti : TI} (hti : ∀ σ H R, (ta σ H fun vs H1 => ∃ m : Int, vs = [.int m] ∧ -(2 ^ 62) ≤ m ∧ m < 2 ^ 62 ∧ R (Itr 0 m.toNat) H1) → ti σ H R) : Go K G H₀ L E ss (tFor ti (gName j) tb) := fun F H σ S => by
  refine hti σ H _ (a F H σ _ S fun vs F1 H1 e1 r1 => ?_)
  rw [Reps] at r1
  obtain ⟨x, r, rfl, rx, r1⟩ := r1
  rw [Reps] at r1
  subst r1
  rw [rx.of_int]
  refine ⟨n, rfl, hb.1, hb.2, fun i m σ' H' => m = n.toNat - i ∧ i ≤ n.toNat ∧ At K G H₀ L (I i) σ' H', ⟨_, rfl, Nat.zero_le _, ss, F1, S.ext2 e1, h0⟩, ?_⟩
  rintro i m σ' H' ⟨rfl, hi, ss1, F2, S2, h2⟩
  by_cases hlt : i < n.toNat
  · refine .inr ⟨hlt, fun σ'' H'' => At K G H₀ L (I (i + 1)) σ'' H'', fun σ'' H'' h => ⟨n.toNat - (i + 1), by lia, rfl, hlt, h⟩, fun x H'' y => ?_⟩
    obtain ⟨rfl, rfl⟩ := y
    refine hs i ss1 (by omega) h2 _ (fun ss h => nx_at h) F2 _ _ ?_
    have e : (0 : Int) + (i : Int) = (i : Int) := by lia
    rw [e]
    exact S2.setD Rep.int
  · have e : i = n.toNat := by lia
    subst e
    exact .inl ⟨Nat.le_refl _, hd ss1 h2 F2 H' σ' S2⟩
end
end L2

namespace L2
open PySem PySem.Spec PyProof.Rows
mutual
def D.toP : D → PyData
  | .non => .none
  | .bl b => .bool b
  | .int i => .int i
  | .str l => .str (T l)
  | .lst a => .list (D.toPs a)
  | .tup a => .tuple (D.toPs a)
  | .dct _ _ => .none
  | .dctT _ _ => .none
  | .ins _ _ _ => .none
def D.toPs : List D → List PyData
  | [] => []
  | a :: x => a.toP :: D.toPs x
end
mutual
theorem D.toP_depth : ∀ d : D, d.toP.depth = d.dep
  | .non => rfl
  | .bl _ => rfl
  | .int _ => rfl
  | .str _ => rfl
  | .lst a => by simp [D.toP, PyData.depth, D.dep, D.toPs_depth a]
  | .tup a => by simp [D.toP, PyData.depth, D.dep, D.toPs_depth a]
  | .dct _ _ => rfl
  | .dctT _ _ => rfl
  | .ins _ _ _ => rfl
theorem D.toPs_depth : ∀ a : List D, PyData.depthAll (D.toPs a) = D.deps a
  | [] => rfl
  | d :: a => by simp [D.toPs, PyData.depthAll, D.deps, D.toP_depth d, D.toPs_depth a]
end
mutual
theorem D.eqv : ∀ d e : D, d.nb = true → e.nb = true → PyData.eqv d.toP e.toP = decide (d = e)
  | .non, e, _, h2 => by cases e <;> simp [D.toP, PyData.eqv, D.nb] at h2 ⊢
  | .bl _, _, h1, _ => by simp [D.nb] at h1
  | .dct _ _, _, h1, _ => by simp [D.nb] at h1
  | .dctT _ _, _, h1, _ => by simp [D.nb] at h1
  | .ins _ _ _, _, h1, _ => by simp [D.nb] at h1
  | .int i, e, _, h2 => by
    cases e <;> simp [D.toP, PyData.eqv, D.nb] at h2 ⊢
    exact Bool.beq_eq_decide_eq _ _
  | .str l, e, _, h2 => by
    cases e <;> simp [D.toP, PyData.eqv, D.nb] at h2 ⊢
    rename_i m
    rw [Bool.eq_iff_iff]; simp [T_inj]
  | .lst a, e, h1, h2 => by
    cases e with
    | lst b =>
      simp only [D.nb] at h1 h2
      simp only [D.toP, PyData.eqv, D.lst.injEq]
      exact D.eqvs a b h1 h2
    | _ => simp [D.toP, PyData.eqv, D.nb] at h2 ⊢
  | .tup a, e, h1, h2 => by
    cases e with
    | tup b =>
      simp only [D.nb] at h1 h2
      simp only [D.toP, PyData.eqv, D.tup.injEq]
      exact D.eqvs a b h1 h2
    | _ => simp [D.toP, PyData.eqv, D.nb] at h2 ⊢
theorem D.eqvs : ∀ a b : List D, D.nbs a = true → D.nbs b = true → PyData.eqvAll (D.toPs a) (D.toPs b) = decide (a = b)
  | [], b, _, _ => by cases b <;> simp [D.toPs, PyData.eqvAll]
  | d :: a, b, h1, h2 => by
    cases b with
    | nil => simp [D.toPs, PyData.eqvAll]
    | cons e b =>
      simp only [D.nbs, Bool.and_eq_true] at h1 h2
      simp only [D.toPs, PyData.eqvAll, D.eqv d e h1.1 h2.1, D.eqvs a b h1.2 h2.2, List.cons.injEq]
      by_cases x : d = e <;> by_cases y : a = b <;> simp [x, y]
end
section
variable {X : Cx} {pins : List (Addr × Obj)} {σ : St} {H : Hp} {s : Shared}
theorem strOk_T {l : List Nat} (h : ∀ c ∈ l, c < 128) : PyData.strOk (T l) = true := by
  unfold PyData.strOk T
  simp
  intro c hc
  have := h c hc
  lia
mutual
theorem Inv.reads (I : Inv X pins σ H s) : ∀ {d : D} {v : V} {u : Value}, d.nb = true → Rep X.K H d v → RelV v u → (∃ as, Reads s.heap u d.toP as) ∧ d.toP.canLay0 = true
  | .non, _, _, _, r, q => by rw [r.of_non] at q; cases q; exact ⟨⟨_, Reads.none⟩, rfl⟩
  | .bl b, _, _, n, _, _ => by simp [D.nb] at n
  | .dct _ _, _, _, n, _, _ => by simp [D.nb] at n
  | .dctT _ _, _, _, n, _, _ => by simp [D.nb] at n
  | .ins _ _ _, _, _, n, _, _ => by simp [D.nb] at n
  | .int i, _, _, _, r, q => by rw [r.of_int] at q; obtain ⟨t, rfl⟩ := q; exact ⟨⟨_, Reads.int i t⟩, rfl⟩
  | .str l, _, _, _, r, q => by
    have ha := r.asc
    rw [r.of_str] at q; obtain ⟨t, rfl⟩ := q
    exact ⟨⟨_, Reads.str _ t⟩, strOk_T ha⟩
  | .lst ds, _, _, nn, r, q => by
    obtain ⟨p, xs, rfl, sq, rs⟩ := r.of_lst
    cases q
    obtain ⟨its, rv, ⟨o, n, e, c, _, hd⟩, _⟩ := I.list sq
    obtain ⟨⟨as, ra⟩, hc⟩ := I.readsAll (by simpa [D.nb] using nn) rs rv
    exact ⟨⟨_, Reads.list e c hd (by simpa using ra)⟩, by simpa [D.toP, PyData.canLay0] using hc⟩
  | .tup ds, _, _, nn, r, q => by
    obtain ⟨p, xs, rfl, sq, rs⟩ := r.of_tup
    cases q
    obtain ⟨its, rv, ⟨o, e, c, n, hd⟩, _⟩ := I.tuple sq
    obtain ⟨⟨as, ra⟩, hc⟩ := I.readsAll (by simpa [D.nb] using nn) rs rv
    exact ⟨⟨_, Reads.tuple e c hd (by simpa using ra)⟩, by simpa [D.toP, PyData.canLay0] using hc⟩
theorem Inv.readsAll (I : Inv X pins σ H s) : ∀ {ds : List D} {vs : List V} {us : List Value}, D.nbs ds = true → Reps X.K H ds vs → Vals vs us → (∃ as, ReadsAll s.heap us (D.toPs ds) as) ∧ PyData.canLayAll0 (D.toPs ds) = true
  | [], _, _, _, r, q => by
    rw [Reps] at r; subst r
    cases q
    exact ⟨⟨_, ReadsAll.nil⟩, rfl⟩
  | d :: ds, _, _, n, r, q => by
    simp only [D.nbs, Bool.and_eq_true] at n
    rw [Reps] at r
    obtain ⟨x, xs, rfl, r1, r2⟩ := r
    cases q with
    | cons q1 q2 =>
      obtain ⟨⟨as, a⟩, hc⟩ := I.reads n.1 r1 q1
      obtain ⟨⟨bs, b⟩, hc2⟩ := I.readsAll n.2 r2 q2
      exact ⟨⟨_, ReadsAll.cons a b⟩, by simp [D.toPs, PyData.canLayAll0, hc, hc2]⟩
end
end
def rEqD (K : PySem.W.Frag) : R2 := fun x y H Q => ∃ d e, Rep K H d x ∧ Rep K H e y ∧ d.nb = true ∧ e.nb = true ∧ d.dep ≤ 60 ∧ Q (.bl (decide (d = e))) H
def rNeD (K : PySem.W.Frag) : R2 := fun x y H Q => ∃ d e, Rep K H d x ∧ Rep K H e y ∧ d.nb = true ∧ e.nb = true ∧ d.dep ≤ 60 ∧ Q (.bl (!decide (d = e))) H
section
variable {X : Cx}
theorem op_eqD (hu : X.A.units + 64 < cLine) : OpR X (compareOp .Eq) (rEqD X.K) := by
  intro pins s σ H x y v u Q I rx ry h
  obtain ⟨d, e, r1, r2, n1, n2, hd, q⟩ := h
  obtain ⟨⟨as, a⟩, c1⟩ := I.reads n1 r1 rx
  obtain ⟨⟨bs, b⟩, c2⟩ := I.reads n2 r2 ry
  have h1 := D.toP_depth d
  refine SeqAt.compareEq_reads a b c1 c2 (by lia) ?_
  rw [D.eqv d e n1 n2]
  exact ⟨.bl _, H, I, rfl, q⟩
theorem op_neD (hu : X.A.units + 64 < cLine) : OpR X (compareOp .NotEq) (rNeD X.K) := by
  intro pins s σ H x y v u Q I rx ry h
  obtain ⟨d, e, r1, r2, n1, n2, hd, q⟩ := h
  obtain ⟨⟨as, a⟩, c1⟩ := I.reads n1 r1 rx
  obtain ⟨⟨bs, b⟩, c2⟩ := I.reads n2 r2 ry
  have h1 := D.toP_depth d
  refine SeqAt.compareNe_reads a b c1 c2 (by lia) ?_
  rw [D.eqv d e n1 n2]
  exact ⟨.bl _, H, I, rfl, q⟩
theorem any_toPs (d : D) (hd : d.nb = true) : ∀ ds : List D, D.nbs ds = true → ((D.toPs ds).any fun y => PyData.eqv y d.toP) = decide (d ∈ ds)
  | [], _ => by simp [D.toPs]
  | e :: ds, h => by
    simp only [D.nbs, Bool.and_eq_true] at h
    rw [D.toPs, List.any_cons, any_toPs d hd ds h.2, D.eqv e d h.1 hd]
    by_cases x : e = d
    · subst x; simp
    · have : ¬ d = e := fun z => x z.symm
      simp [x, this]
def rInD (K : PySem.W.Frag) (neg : Bool) : R2 := fun x y H Q => ∃ d ds, Rep K H d x ∧ (Rep K H (.lst ds) y ∨ Rep K H (.tup ds) y) ∧ d.nb = true ∧ D.nbs ds = true ∧ d.dep ≤ 60 ∧ Q (.bl (if neg then !decide (d ∈ ds) else decide (d ∈ ds))) H
theorem op_inD (hu : X.A.units + 64 < cLine) : OpR X (compareOp .In) (rInD X.K false) := by
  intro pins s σ H x y v u Q I rx ry h
  obtain ⟨d, ds, r1, r2, n1, n2, hd, q⟩ := h
  obtain ⟨⟨as, a⟩, c1⟩ := I.reads n1 r1 rx
  have h1 := D.toP_depth d
  have fin : EP X pins σ Q (.bool ((D.toPs ds).any fun y => PyData.eqv y d.toP)) s := by rw [any_toPs d n1 ds n2]; exact ⟨.bl _, H, I, rfl, q⟩
  rcases r2 with r2 | r2
  · obtain ⟨⟨bs, b⟩, c2⟩ := I.reads (by simpa [D.nb] using n2) r2 ry
    rw [D.toP] at b c2
    exact SeqAt.in_list_reads b a (by simpa [PyData.canLay0] using c2) c1 (by lia) fin
  · obtain ⟨⟨bs, b⟩, c2⟩ := I.reads (by simpa [D.nb] using n2) r2 ry
    rw [D.toP] at b c2
    exact SeqAt.in_tuple_reads b a (by simpa [PyData.canLay0] using c2) c1 (by lia) fin
theorem op_notInD (hu : X.A.units + 64 < cLine) : OpR X (compareOp .NotIn) (rInD X.K true) := by
  intro pins s σ H x y v u Q I rx ry h
  obtain ⟨d, ds, r1, r2, n1, n2, hd, q⟩ := h
  obtain ⟨⟨as, a⟩, c1⟩ := I.reads n1 r1 rx
  have h1 := D.toP_depth d
  have fin : EP X pins σ Q (.bool (!(D.toPs ds).any fun y => PyData.eqv y d.toP)) s := by rw [any_toPs d n1 ds n2]; exact ⟨.bl _, H, I, rfl, q⟩
  rcases r2 with r2 | r2
  · obtain ⟨⟨bs, b⟩, c2⟩ := I.reads (by simpa [D.nb] using n2) r2 ry
    rw [D.toP] at b c2
    exact SeqAt.notIn_list_reads b a (by simpa [PyData.canLay0] using c2) c1 (by lia) fin
  · obtain ⟨⟨bs, b⟩, c2⟩ := I.reads (by simpa [D.nb] using n2) r2 ry
    rw [D.toP] at b c2
    exact SeqAt.notIn_tuple_reads b a (by simpa [PyData.canLay0] using c2) c1 (by lia) fin
end
section
variable {K : PySem.W.Frag} {G H₀ L : Hp} {ss : List Sl} {t ta tb : TE} {d d1 d2 : D} {ds es : List D}
theorem ev_eqD (a : EvB K G H₀ L ss ta d1) (b : EvB K G H₀ L ss tb d2) (n1 : d1.nb = true) (n2 : d2.nb = true) (hd : d1.dep ≤ 60) : Ev K G H₀ L ss (tOp (rEqD K) ta tb) (.bl (decide (d1 = d2))) :=
  ev_op2 (w := .bl (decide (d1 = d2))) a b (fun H x y Q r1 r2 q => ⟨d1, d2, r1, r2, n1, n2, hd, q⟩) fun _ _ _ _ _ _ => Rep.bl
theorem ev_neD (a : EvB K G H₀ L ss ta d1) (b : EvB K G H₀ L ss tb d2) (n1 : d1.nb = true) (n2 : d2.nb = true) (hd : d1.dep ≤ 60) : Ev K G H₀ L ss (tOp (rNeD K) ta tb) (.bl (!decide (d1 = d2))) :=
  ev_op2 (w := .bl (!decide (d1 = d2))) a b (fun H x y Q r1 r2 q => ⟨d1, d2, r1, r2, n1, n2, hd, q⟩) fun _ _ _ _ _ _ => Rep.bl
theorem ev_inD (a : EvB K G H₀ L ss ta d) (b : EvB K G H₀ L ss tb (.lst ds)) (n1 : d.nb = true) (n2 : D.nbs ds = true) (hd : d.dep ≤ 60) : Ev K G H₀ L ss (tOp (rInD K false) ta tb) (.bl (decide (d ∈ ds))) :=
  ev_op2 (w := .bl (decide (d ∈ ds))) a b (fun H x y Q r1 r2 q => ⟨d, ds, r1, .inl r2, n1, n2, hd, q⟩) fun _ _ _ _ _ _ => Rep.bl
theorem ev_notInD (a : EvB K G H₀ L ss ta d) (b : EvB K G H₀ L ss tb (.lst ds)) (n1 : d.nb = true) (n2 : D.nbs ds = true) (hd : d.dep ≤ 60) : Ev K G H₀ L ss (tOp (rInD K true) ta tb) (.bl (!decide (d ∈ ds))) :=
  ev_op2 (w := .bl (!decide (d ∈ ds))) a b (fun H x y Q r1 r2 q => ⟨d, ds, r1, .inl r2, n1, n2, hd, q⟩) fun _ _ _ _ _ _ => Rep.bl
end
theorem D.nbs_map {α : Type} {enc : α → D} (h : ∀ x, (enc x).nb = true) : ∀ xs : List α, D.nbs (xs.map enc) = true
  | [] => rfl
  | x :: xs => by simp [D.nbs, h x, D.nbs_map h xs]
theorem D.deps_map {α : Type} {enc : α → D} {n : Nat} (h : ∀ x, (enc x).dep ≤ n) : ∀ xs : List α, D.deps (xs.map enc) ≤ n
  | [] => Nat.zero_le _
  | x :: xs => by
    have h1 := h x
    have h2 := D.deps_map h xs
    simp only [List.map_cons, D.deps]; lia
theorem D.nb_lst {ds : List D} : (D.lst ds).nb = D.nbs ds := by rw [D.nb]
theorem D.dep_lst {ds : List D} : (D.lst ds).dep = D.deps ds + 1 := by rw [D.dep]
end L2

namespace L2
open PySem PySem.Spec PyProof.Rows
def ItOk (K : PySem.W.Frag) (J : It) (F' H' : Hp) (n : Nat) (y : Nat → D) : Prop := ∀ F2 H2, Same F' F2 → Same H' H2 → Same F2 H2 →
  (∀ i, i < n → J.go i H2 ∧ ∀ x H3, J.yld i H2 x H3 → ∃ F3, Ext F2 H2 F3 H3 ∧ Rep K F3 (y i) x) ∧ J.stop n H2
def EvI (K : PySem.W.Frag) (G H₀ L : Hp) (ss : List Sl) (wi : TI) (n : Nat) (y : Nat → D) : Prop := ∀ F H σ R, Sat K G H₀ L F H σ ss → (∀ F' H' J, Ext F H F' H' → ItOk K J F' H' n y → R J H') → wi σ H R
section
variable {K : PySem.W.Frag} {G H₀ L : Hp} {ss : List Sl}
theorem evi_list {tl : TE} {ds : List D} (a : EvL K G H₀ L ss tl ds) : EvI K G H₀ L ss (iList K tl) ds.length fun i => ds.getD i .non := fun F H σ R S q =>
  a F H σ _ S fun p vs F' H' e sq r => ⟨p, rfl, ⟨vs, sq⟩, q F' H' _ e fun F2 H2 f1 h1 fh => by
    have sq2 := SqL.same h1 sq
    have hl := r.length
    refine ⟨fun i hi => ⟨⟨vs, vs[i]'(by lia), sq2, List.getElem?_eq_getElem _⟩, fun x H3 y => ?_⟩, ⟨vs, sq2, by lia⟩⟩
    obtain ⟨rfl, y⟩ := y
    obtain ⟨d, hd, rd⟩ := r.get (y vs sq2)
    refine ⟨F2, Ext.refl fh, ?_⟩
    show Rep K F2 (ds.getD i D.non) x
    rw [List.getD_eq_getElem?_getD, hd]
    exact rd.mono f1⟩
def lcSl (nt : Nat) (cs : List Nat) (ss : List Sl) : List Sl := List.replicate nt .un ++ cs.map fun i => ss.getD i .un
theorem Sat.lc {F H : Hp} {σ : St} {nt : Nat} {cs : List Nat} (S : Sat K G H₀ L F H σ ss) (hc : cs.Nodup) : Sat K G H₀ L F H (lcS nt cs σ) (lcSl nt cs ss) := by
  have cut : ∀ (i : Nat) s, (lcSl nt cs ss)[i]? = some s → s = .un ∨ ∃ j, nt ≤ i ∧ cs[i - nt]? = some j ∧ ss[j]? = some s := by
    intro i s h
    unfold lcSl at h
    by_cases hi : i < nt
    · rw [List.getElem?_append_left (by simpa using hi), List.getElem?_replicate, if_pos hi] at h
      exact .inl (Option.some.inj h).symm
    · rw [List.getElem?_append_right (by simpa using hi), List.length_replicate, List.getElem?_map] at h
      cases hj : cs[i - nt]? with
      | none => rw [hj] at h; cases h
      | some j =>
        rw [hj] at h
        have h : ss.getD j .un = s := Option.some.inj h
        rw [List.getD_eq_getElem?_getD] at h
        cases hs : ss[j]? with
        | none => rw [hs] at h; exact .inl h.symm
        | some s' => rw [hs] at h; exact .inr ⟨j, by lia, rfl, by rw [hs]; exact congrArg some h⟩
  have val : ∀ (i j : Nat), nt ≤ i → cs[i - nt]? = some j → (lcS nt cs σ).getD i none = σ.getD j none := by
    intro i j hi hj
    unfold lcS
    rw [List.getD_eq_getElem?_getD, List.getElem?_append_right (by simpa using hi), List.length_replicate, List.getElem?_map, hj]
    simp [List.getD_eq_getElem?_getD]
  refine ⟨S.ext, S.fl, by unfold lcS lcSl; simp, fun i s h => ?_, fun i s h => ?_, fun i j s s' hij h h' p hp => ?_⟩
  · rcases cut i s h with rfl | ⟨j, hi, hj, hs⟩
    · trivial
    · rw [val i j hi hj]; exact S.ok j s hs
  · rcases cut i s h with rfl | ⟨j, hi, hj, hs⟩
    · simp [Sl.ads]
    · exact S.nd j s hs
  · rcases cut i s h with rfl | ⟨k, hi, hk, hs⟩
    · simp [Sl.ads] at hp
    · rcases cut j s' h' with rfl | ⟨m, hj, hm, hs'⟩
      · simp [Sl.ads]
      · have : k ≠ m := fun z => by
          subst z
          obtain ⟨l1, e1⟩ := List.getElem?_eq_some_iff.mp hk
          obtain ⟨l2, e2⟩ := List.getElem?_eq_some_iff.mp hm
          have := (List.getElem_inj hc).mp (e1.trans e2.symm)
          lia
        exact S.ne k m s s' this hs hs' p hp
def GK (nt : Nat) (g : TG) : Prop := ∀ v σ H (Q Q' : St → Hp → Prop), (∀ σ' H', Q σ' H' → σ'.length = σ.length → σ'.drop nt = σ.drop nt → Q' σ' H') → g v σ H Q → g v σ H Q'
def GKs (nt : Nat) (g : TGs) : Prop := ∀ v σ H (Q Q' : St → Hp → Prop), (∀ σ' H', Q σ' H' → σ'.length = σ.length → σ'.drop nt = σ.drop nt → Q' σ' H') → g v σ H Q → g v σ H Q'
theorem gk_name {nt i : Nat} (h : i < nt) : GK nt (gName i) := fun v σ H Q Q' f q => f _ _ q (by simp) (by rw [List.drop_set_of_lt h])
theorem gks_nil {nt : Nat} : GKs nt gNil := fun v σ H Q Q' f q => ⟨q.1, f _ _ q.2 rfl rfl⟩
theorem gks_cons {nt : Nat} {g : TG} {gs : TGs} (a : GK nt g) (b : GKs nt gs) : GKs nt (gCons g gs) := fun vs σ H Q Q' f q => by
  obtain ⟨v, r, e, q⟩ := q
  exact ⟨v, r, e, a v σ H _ _ (fun σ' H' q1 l1 d1 => b r σ' H' Q Q' (fun σ'' H'' q2 l2 d2 => f _ _ q2 (l2.trans l1) (d2.trans d1)) q1) q⟩
theorem gk_tup {nt n : Nat} {gs : TGs} (b : GKs nt gs) : GK nt (gTup K n gs) := fun v σ H Q Q' f q => by
  obtain ⟨a, xs, e, sq, hn, q⟩ := q
  exact ⟨a, xs, e, sq, hn, b xs σ H Q Q' f q⟩

theorem evo_lcI {wi : TI} {g : TG} {tt : TT} {te : TE} {nt : Nat} {cs : List Nat} {n : Nat} {y : Nat → D} (p : Nat → Bool) (f : Nat → D) (a : EvI K G H₀ L ss wi n y) (hk : GK nt g) (hc : cs.Nodup) (hz : n < sizeLine)
    (hs : ∀ i, i < n → ∃ ss', Tg K G H₀ L g (y i) (lcSl nt cs ss) ss' ∧ EvT K G H₀ L ss' tt (p i) ∧ (p i = true → Ev K G H₀ L ss' te (f i))) :
    EvO K G H₀ L ss (tLC nt cs wi g tt te) (((List.range n).filter p).map f) := fun F H σ Q S q =>
  a F H σ _ S fun F1 H1 J e1 it => by
    intro l hl
    have S1 := S.ext2 e1
    refine ⟨fun i m H2 => m = n - i ∧ i ≤ n ∧ ∃ F2 vs, Ext F1 H1 F2 H2 ∧ F2 l = none ∧ H2 l = some (.lst vs) ∧ Reps K F2 (((List.range i).filter p).map f) vs ∧ vs.length ≤ i,
      ⟨n, by lia, Nat.zero_le _, F1, [], (Ext.refl e1.fh).newO hl, e1.fh.free hl, upd_same, Reps.nil, Nat.le_refl _⟩, ?_⟩
    rintro i m H2 ⟨rfl, hi, F2, vs, e2, fl, hl2, rs, hvs⟩
    obtain ⟨it1, it2⟩ := it F2 H2 e2.gf e2.hh e2.fh
    by_cases hlt : i < n
    · obtain ⟨go, yl⟩ := it1 i hlt
      refine .inr ⟨go, fun H' => ∃ F2 vs, Ext F1 H1 F2 H' ∧ F2 l = none ∧ H' l = some (.lst vs) ∧ Reps K F2 (((List.range (i + 1)).filter p).map f) vs ∧ vs.length ≤ i + 1, fun H' h => ⟨n - (i + 1), by omega, rfl, hlt, h⟩, fun x H3 yx => ?_⟩
      obtain ⟨F3, e3, rx⟩ := yl x H3 yx
      obtain ⟨ss', tg, evt, ev⟩ := hs i hlt
      have S3 := ((S1.ext2 e2).ext2 e3).lc (nt := nt) hc
      have hl3 : H3 l = some (.lst vs) := e3.hh l _ hl2
      have fl3 : F3 l = none := (e3.no l _ hl2).trans fl
      have base := tg F3 H3 (lcS nt cs σ) x (fun σ2 H4 => H4 = H3 ∧ Sat K G H₀ L F3 H3 σ2 ss') S3 rx fun σ' S' => ⟨rfl, S'⟩
      have fin : ∀ σ2, Sat K G H₀ L F3 H3 σ2 ss' → tt σ2 H3 fun b H5 => if b = true then te σ2 H5 fun y H6 => ∃ xs, H6 l = some (.lst xs) ∧ xs.length < sizeLine ∧ (∃ F2 vs, Ext F1 H1 F2 (upd H6 l (.lst (xs ++ [y]))) ∧ F2 l = none ∧ (upd H6 l (.lst (xs ++ [y]))) l = some (.lst vs) ∧ Reps K F2 (((List.range (i + 1)).filter p).map f) vs ∧ vs.length ≤ i + 1) else ∃ F2 vs, Ext F1 H1 F2 H5 ∧ F2 l = none ∧ H5 l = some (.lst vs) ∧ Reps K F2 (((List.range (i + 1)).filter p).map f) vs ∧ vs.length ≤ i + 1 := fun σ2 S2 => by
        refine evt F3 H3 σ2 _ S2 fun F5 H5 e5 => ?_
        have S5 := S2.ext2 e5
        have hl5 : H5 l = some (.lst vs) := e5.hh l _ hl3
        have fl5 : F5 l = none := (e5.no l _ hl3).trans fl3
        have gf : Same F2 F5 := e3.gf.trans e5.gf
        cases hp : p i with
        | false =>
          refine iteF ⟨F5, vs, (e2.trans e3).trans e5, fl5, hl5, ?_, by lia⟩
          rw [List.range_succ, List.filter_append, List.filter_cons, hp]
          simpa using rs.mono gf
        | true =>
          refine iteT (ev hp F5 H5 σ2 _ S5 fun v F6 H6 e6 rv => ?_)
          have hl6 : H6 l = some (.lst vs) := e6.hh l _ hl5
          have fl6 : F6 l = none := (e6.no l _ hl5).trans fl5
          refine ⟨vs, hl6, by lia, F6, vs ++ [v], (((e2.trans e3).trans e5).trans e6).write fl6 hl, fl6, upd_same, ?_, by simp; omega⟩
          rw [List.range_succ, List.filter_append, List.filter_cons, hp, if_pos rfl, List.map_append]
          exact (rs.mono (gf.trans e6.gf)).snoc rv
      refine hk x (lcS nt cs σ) H3 _ _ (fun σ2 H4 h l1 d1 => ?_) base
      obtain ⟨rfl, S2⟩ := h
      exact ⟨⟨by rw [l1]; unfold lcS; simp, d1⟩, fin σ2 S2⟩
    · have e : i = n := by lia
      subst e
      exact .inl ⟨it2, q l vs F2 H2 (e1.trans e2) (e1.hh.free hl) fl hl2 rs⟩
end
end L2

namespace L2
open PySem PySem.W PyProof.Rows
def runT {α : Type} (lt : Nat → Nat → Bool) : KasT α → α
  | .ret a => a
  | .ask i j k => runT lt (k (lt i j))
section
variable (key : Nat → Int)
def ltK (i j : Nat) : Bool := decide (key i < key j)
def kk (p : Array Nat) (i : Nat) : Int := key (p.getD i 0)
variable {key}
theorem rev_perm (p : Array Nat) (i j : Nat) : (kas_rev p i j).Perm p := mirror_perm _ _ _ _
end
end L2

namespace L2
open PySem PySem.W PyProof.Rows
section
variable {prog : Program} {w : World} {A : Around} {E : Value → Shared → Prop} {s : Shared}
def Keeps (h h' : Heap) : Prop := ∀ b o, h.get? b = some o → h'.get? b = some o
def Sorts (prog : Program) (w : World) (A : Around) (s : Shared) (vs : List Value) (Out : Array Value → Prop) : Prop :=
  ∃ κ, (∀ (Q : SortKind → Shared → Prop) (E : Value → Shared → Prop), Q κ s → wpAny (model prog w) A (keyKind' vs.toArray) Q E s) ∧
    ∀ (Q : SortSt → Shared → Prop) (E : Value → Shared → Prop), (∀ st', failedOf st' = none → (arrOf st').size = vs.length → Out ((arrOf st').map (·.2)) → Q st' s) → wpAny (model prog w) A (sortRuns'.run (SortSt.mk' κ (vs.toArray.zip vs.toArray) #[] 7 none)) (fun r s' => Q r.2 s') E s
theorem sort_shell {a : Addr} {vs : List Value} {n0 : Nat} {P : PySem.Fin → Shared → Prop} (Out : Array Value → Prop) (ho : s.heap.get? a = some (seqObj "list" vs.toArray n0)) (hz : vs.length ≤ sizeLine)
    (hs : 2 ≤ vs.length → ∀ h', (∀ b o, b ≠ a → s.heap.get? b = some o → h'.get? b = some o) → Sorts prog w A { s with heap := h' } vs Out) (h1 : vs.length < 2 → Out vs.toArray)
    (h : ∀ out c h', (∀ b o, b ≠ a → s.heap.get? b = some o → h'.get? b = some o) → h'.get? a = some (seqObj "list" out c) → out.size = vs.length → Out out → P (.done (.ret .none)) { s with heap := h' }) :
    wpAny (model prog w) A (Builtin.«list.sort» ⟨[.ref a], []⟩) P E s := by
  have alt : a < s.heap.objs.size := Heap.lt_size ho
  rw [list_sort_plain]
  refine wpAny_bind (listItems_at ho rfl ?_)
  refine wpAny_bind (listUpdate_at ho rfl ?_ (by simpa using hz) (Nat.zero_le _))
  generalize hg1 : s.heap.update a (Obj.mapSeq fun _ => (#[] : Array Value)) = g1
  have k1 : ∀ b o, b ≠ a → s.heap.get? b = some o → g1.get? b = some o := fun b o hb e => by rw [← hg1]; exact (Heap.get?_update_other _ _ (Ne.symm hb)).trans e
  obtain ⟨e1, ho1⟩ : ∃ e1, g1.get? a = some (seqObj "list" #[] e1) := by rw [← hg1]; exact ⟨_, get?_update_seq ho fun _ => #[]⟩
  have sz1 : g1.objs.size = s.heap.objs.size := by rw [← hg1, Heap.size_update]
  refine wpAny_bind (seqEpoch_at ho1 rfl ?_)
  refine wpAny_bind (wpAny_newTuple ?_ (by show vs.length ≤ _; exact hz))
  refine wpAny_bind (wpAny_newList ?_ (Nat.zero_le _))
  refine wpAny_holding ?_
  dsimp only
  generalize hg3 : (g1.push { cls := .type "tuple", data := .seq vs.toArray }).push { cls := .type "list", data := .seq #[] } = g3
  have k3 : ∀ b o, g1.get? b = some o → g3.get? b = some o := fun b o e => by rw [← hg3]; exact Heap.get?_push_of_some _ (Heap.get?_push_of_some _ e)
  have ho3 := k3 a _ ho1
  have keep : ∀ b o, b ≠ a → s.heap.get? b = some o → g3.get? b = some o := fun b o hb e => k3 b o (k1 b o hb e)
  have fin : ∀ (st' : SortSt), failedOf st' = none → (arrOf st').size = vs.length → Out ((arrOf st').map (·.2)) → P (.done (.ret .none)) { s with heap := g3.update a (Obj.mapSeq fun _ => (arrOf st').map (·.2)) } := fun st' hf hsz hO => by
    obtain ⟨c2, hc2⟩ : ∃ c2, (g3.update a (Obj.mapSeq fun _ => (arrOf st').map (·.2))).get? a = some (seqObj "list" ((arrOf st').map (·.2)) c2) := ⟨_, get?_update_seq ho3 fun _ => (arrOf st').map (·.2)⟩
    exact h _ c2 _ (fun b o hb e => (Heap.get?_update_other _ _ (Ne.symm hb)).trans (keep b o hb e)) hc2 (by simpa using hsz) hO
  have hsz : vs.toArray.size = vs.length := by simp
  by_cases h2 : vs.length < 2
  · rw [if_pos (by omega), if_pos (by omega)]
    refine wpAny_bind (wpAny_pure ?_)
    rw [StateT.run_pure]
    refine wpAny_bind (wpAny_pure ?_)
    have eo : (arrOf (SortSt.mk' general' (vs.toArray.zip vs.toArray) #[] 7 none)).map (·.2) = vs.toArray := by
      show (vs.toArray.zip vs.toArray).map (·.2) = vs.toArray
      apply Array.toList_inj.mp
      rw [Array.toList_map]
      have : (vs.toArray.zip vs.toArray).toList = vs.zip vs := by simp
      rw [this]
      simp [List.map_snd_zip]
    dsimp only
    refine wpAny_bind (seqEpoch_at ho3 rfl ?_)
    refine wpAny_bind (listUpdate_at ho3 rfl ?_ (Nat.zero_le _) (by rw [eo]; simp only [List.size_toArray]; lia))
    simp only [bne_self_eq_false, Bool.false_eq_true, if_false]
    exact wpAny_pure (fin (SortSt.mk' general' (vs.toArray.zip vs.toArray) #[] 7 none) rfl (by show (vs.toArray.zip vs.toArray).size = _; simp) (by rw [eo]; exact h1 h2))
  · rw [if_neg (by omega), if_neg (by omega)]
    obtain ⟨κ, hk, hr⟩ := hs (by lia) g3 keep
    refine wpAny_bind (hk _ _ ?_)
    refine wpAny_bind (wpAny_mono (hr (fun st' s' => s' = { s with heap := g3 } ∧ failedOf st' = none ∧ (arrOf st').size = vs.length ∧ Out ((arrOf st').map (·.2))) (fun _ _ => False) fun st' hf hsz hO => ⟨rfl, hf, hsz, hO⟩) ?_ fun _ _ x => x.elim)
    rintro ⟨⟨⟩, st'⟩ s' ⟨rfl, hf, hsz, hO⟩
    dsimp only at hf hsz hO ⊢
    refine wpAny_bind (seqEpoch_at ho3 rfl ?_)
    refine wpAny_bind (listUpdate_at ho3 rfl ?_ (Nat.zero_le _) (by simp only [Array.size_map]; lia))
    rw [hf]
    simp only [bne_self_eq_false, Bool.false_eq_true, if_false]
    exact wpAny_pure (fin st' hf hsz hO)
theorem sorted_call {l : Addr} {vs : List Value} {Q : Value → Shared → Prop} (Out : Array Value → Prop) (hl : s.heap.IsList l vs.toArray) (hz : vs.length ≤ sizeLine)
    (hs : 2 ≤ vs.length → ∀ h', Keeps s.heap h' → Sorts prog w A.in1.in1 { s with heap := h' } vs Out) (h1 : vs.length < 2 → Out vs.toArray)
    (h : ∀ out c h', Keeps s.heap h' → h'.get? (s.heap.objs.size + 1) = some (seqObj "list" out c) → out.size = vs.length → Out out → Q (.ref (s.heap.objs.size + 1)) { s with heap := h' }) :
    wpAny (model prog w) A (call (.builtin "sorted") [.ref l]) Q E s := by
  refine Calls.call_function_entry kind_sorted plain_sorted entry_sorted (args_sorted1 _) ?_
  unfold Builtin.«sorted»
  refine wpAny_bind (m := checkCount "sorted" 1 1 _) (wpAny_pure ?_)
  refine wpAny_bind (collect_list hl ?_ hz)
  refine wpAny_bind (wpAny_newList ?_ hz)
  generalize hg1 : (s.heap.push (seqObj "list" #[] 0)).update s.heap.objs.size (Obj.mapSeq (· ++ vs.toArray)) = g1
  have sz1 : g1.objs.size = s.heap.objs.size + 1 := by rw [← hg1, Heap.size_update, size_push']
  have k1 : Keeps s.heap g1 := fun b o e => by
    have hlt := Heap.lt_size e
    rw [← hg1]
    exact (Heap.get?_update_other _ _ (Nat.ne_of_gt hlt)).trans (Heap.get?_push_of_some _ e)
  dsimp only
  have ho : (g1.push { cls := .type "list", data := .seq vs.toArray }).get? (s.heap.objs.size + 1) = some (seqObj "list" vs.toArray 0) := by rw [← sz1]; exact Heap.get?_push_size _ rfl
  have k2 : Keeps s.heap (g1.push { cls := .type "list", data := .seq vs.toArray }) := fun b o e => Heap.get?_push_of_some _ (k1 b o e)
  rw [sz1]
  have ne : ∀ b o, s.heap.get? b = some o → b ≠ s.heap.objs.size + 1 := fun b o e => Nat.ne_of_lt (Nat.lt_succ_of_lt (Heap.lt_size e))
  refine wpAny_bind (wpAny_holding (wpAny_call_entry slot_list_sort ⟨_, ho, rfl⟩ entry_list_sort (sort_shell (s := { s with heap := g1.push { cls := .type "list", data := .seq vs.toArray } }) Out ho hz
    (fun h2 h' k => hs h2 h' fun b o e => k b o (ne b o e) (k2 b o e)) h1 fun out c h' k hc hsz hO => ⟨_, rfl, ?_⟩) (args_list_sort _)))
  exact wpAny_pure ⟨_, rfl, h out c h' (fun b o e => k b o (ne b o e) (k2 b o e)) hc hsz hO⟩
end
end L2

namespace L2
open PySem PySem.W PyProof.Rows
def InR {α : Type} (n : Nat) (P : α → Prop) : KasT α → Prop
  | .ret a => P a
  | .ask i j k => i < n ∧ j < n ∧ ∀ b, InR n P (k b)
theorem InR.bind {α β : Type} {n : Nat} {f : α → KasT β} {P : α → Prop} {Q : β → Prop} (hf : ∀ a, P a → InR n Q (f a)) : ∀ {t : KasT α}, InR n P t → InR n Q (t.bind f)
  | .ret a, h => hf a h
  | .ask i j k, h => ⟨h.1, h.2.1, fun b => InR.bind hf (h.2.2 b)⟩
theorem wp_runIn {α : Type} {cmp : Nat → Nat → (Bool → Shared → Prop) → Shared → Prop} {lt : Nat → Nat → Bool} {Q : α → Shared → Prop} {s : Shared} {n : Nat} {P : α → Prop} (h : ∀ i j C, i < n → j < n → C (lt i j) s → cmp i j C s) : ∀ {t : KasT α}, InR n P t → Q (runT lt t) s → t.kasWp cmp Q s
  | .ret _, _, q => q
  | .ask i j k, r, q => h i j _ r.1 r.2.1 (wp_runIn h (r.2.2 _) q)
def Ent (n : Nat) (p : Array Nat) : Prop := ∀ i, p.getD i 0 < n
theorem Ent.perm {n : Nat} {p q : Array Nat} (h : Ent n p) (hp : q.Perm p) (hn : 0 < n) : Ent n q := fun i => by
  have e : ∀ (q : Array Nat) (m : Nat), q.getD m 0 = (q[m]?).getD 0 := fun q m => by simp [Array.getD_eq_getD_getElem?]
  rw [e]
  cases hq : q[i]? with
  | none => exact hn
  | some x =>
    have hx : x ∈ q := Array.mem_of_getElem? hq
    have hx2 : x ∈ p := hp.mem_iff.mp hx
    obtain ⟨j, hj, ej⟩ := Array.mem_iff_getElem.mp hx2
    have := h j
    rw [e, Array.getElem?_eq_getElem hj, ej] at this
    exact this
section
variable {n : Nat} (hn : 0 < n)
theorem asc_in {p : Array Nat} (h : Ent n p) : ∀ f m, InR n (fun _ : Nat => True) (kas_asc p f m)
  | 0, _ => trivial
  | f + 1, m => ⟨h _, h _, fun b => by cases b <;> simp only [if_true, Bool.false_eq_true, if_false]; exact asc_in h f (m + 1); trivial⟩
theorem place_in {p : Array Nat} (h : Ent n p) (k : Nat) : ∀ f l r, InR n (fun _ : Nat => True) (kas_place p k f l r)
  | 0, _, _ => trivial
  | f + 1, l, r => by
    unfold kas_place
    split
    · trivial
    · exact ⟨h _, h _, fun b => by cases b <;> simp only [if_true, Bool.false_eq_true, if_false] <;> exact place_in h k f _ _⟩
end
end L2

namespace L2
open PySem PySem.W PyProof.Rows
def D.fo : D → List Int
  | .str l => l.map Int.ofNat
  | .int i => [i]
  | _ => []
def D.ord : D → List (List Int)
  | .tup ds => ds.map D.fo
  | .lst ds => ds.map D.fo
  | d => [d.fo]
inductive Ty where | s | i
def Ty.ok : Ty → D → Bool
  | .s, .str _ => true
  | .i, .int _ => true
  | _, _ => false
def shOk : List Ty → List D → Bool
  | [], [] => true
  | t :: ts, d :: ds => t.ok d && shOk ts ds
  | _, _ => false
def Alike (ds : List D) : Prop := (∀ d ∈ ds, Ty.ok .s d = true) ∨ (∀ d ∈ ds, Ty.ok .i d = true) ∨ ∃ t ts, ∀ d ∈ ds, ∃ es, d = .tup es ∧ shOk (t :: ts) es = true
theorem ofNat_inj {l m : List Nat} (h : l.map Int.ofNat = m.map Int.ofNat) : l = m := by
  induction l generalizing m with
  | nil => cases m with
    | nil => rfl
    | cons _ _ => simp at h
  | cons a l ih => cases m with
    | nil => simp at h
    | cons b m =>
      simp only [List.map_cons, List.cons.injEq, Int.ofNat_eq_natCast] at h
      rw [show a = b by lia, ih h.2]
theorem ofNat_lt (l m : List Nat) : l < m ↔ l.map Int.ofNat < m.map Int.ofNat := by
  induction l generalizing m with
  | nil => cases m <;> simp
  | cons a l ih => cases m with
    | nil => simp
    | cons b m =>
      simp only [List.map_cons, List.cons_lt_cons_iff, ih m, Int.ofNat_eq_natCast]
      constructor
      · rintro (h | ⟨h, x⟩)
        · exact .inl (by lia)
        · exact .inr ⟨by lia, x⟩
      · rintro (h | ⟨h, x⟩)
        · exact .inl (by lia)
        · exact .inr ⟨by lia, x⟩
theorem fo_inj {t : Ty} {d e : D} (h1 : t.ok d = true) (h2 : t.ok e = true) (h : d.fo = e.fo) : d = e := by
  cases t <;> cases d <;> simp [Ty.ok] at h1 <;> cases e <;> simp [Ty.ok] at h2
  · rw [ofNat_inj h]
  · simp [D.fo] at h; rw [h]
theorem one_lt (x y : List Int) : [x] < [y] ↔ x < y := by simp [List.cons_lt_cons_iff]
def rk (ds : List D) (i : Nat) : Int := ((ds.filter fun d => decide (d.ord < (ds.getD i .non).ord)).length : Nat)
theorem filter_len_le {α : Type} {p q : α → Bool} (h : ∀ x, p x = true → q x = true) : ∀ l : List α, (l.filter p).length ≤ (l.filter q).length
  | [] => Nat.le_refl _
  | x :: l => by
    have ih := filter_len_le h l
    simp only [List.filter_cons]
    cases hp : p x with
    | false =>
      cases hq : q x with
      | false => simpa using ih
      | true => simp; lia
    | true => rw [h x hp]; simp; omega
theorem filter_len_lt {α : Type} {p q : α → Bool} (h : ∀ x, p x = true → q x = true) {y : α} (hy : q y = true) (hn : p y = false) : ∀ l : List α, y ∈ l → (l.filter p).length < (l.filter q).length
  | [], hm => by simp at hm
  | x :: l, hm => by
    have le := filter_len_le h l
    simp only [List.filter_cons]
    rcases List.mem_cons.mp hm with rfl | hm
    · rw [hy, hn]; simp; lia
    · have ih := filter_len_lt h hy hn l hm
      cases hp : p x with
      | false =>
        cases hq : q x with
        | false => simpa using ih
        | true => simp; lia
      | true => rw [h x hp]; simp; omega
theorem rk_lt {ds : List D} {i j : Nat} (hi : i < ds.length) : decide (rk ds i < rk ds j) = decide ((ds.getD i .non).ord < (ds.getD j .non).ord) := by
  have hm : ds.getD i .non ∈ ds := by rw [List.getD_eq_getElem?_getD, List.getElem?_eq_getElem hi]; exact List.getElem_mem _
  unfold rk
  generalize ds.getD i .non = a at hm
  generalize ds.getD j .non = b
  by_cases h : a.ord < b.ord
  · rw [decide_eq_true h]
    refine decide_eq_true ?_
    have := filter_len_lt (p := fun d : D => decide (d.ord < a.ord)) (q := fun d : D => decide (d.ord < b.ord)) (fun x hx => decide_eq_true (List.lt_trans (of_decide_eq_true hx) h)) (y := a) (decide_eq_true h) (decide_eq_false (List.lt_irrefl _)) ds hm
    lia
  · rw [decide_eq_false h]
    refine decide_eq_false ?_
    have := filter_len_le (p := fun d : D => decide (d.ord < b.ord)) (q := fun d : D => decide (d.ord < a.ord)) (fun x hx => by
      have hx := of_decide_eq_true hx
      refine decide_eq_true ?_
      by_cases hxa : x.ord < a.ord
      · exact hxa
      · exact absurd hx (List.not_lt.mpr (List.le_trans (List.not_lt.mp h) (List.not_lt.mp hxa)))) ds
    lia
section
variable {prog : Program} {w : World} {A : Around} {E : Value → Shared → Prop} {s : Shared}
def FV : D → Value → Prop
  | .str l, u => ∃ t, u = .str (T l) t
  | .int i, u => ∃ t, u = .int i t
  | _, _ => False
theorem flat_eq {t : Ty} {d e : D} {u v : Value} (h1 : t.ok d = true) (h2 : t.ok e = true) (ru : FV d u) (rv : FV e v) {Q : Bool → Shared → Prop} (q : Q (decide (d = e)) s) : wpAny (model prog w) A (eqBool u v) Q E s := by
  cases t <;> cases d <;> simp [Ty.ok] at h1 <;> cases e <;> simp [Ty.ok] at h2
  · obtain ⟨t, rfl⟩ := ru
    obtain ⟨t', rfl⟩ := rv
    refine SeqAt.EqAt.str_str _ _ _ _ prog w E Q ?_
    rename_i l m
    have : (T l == T m) = decide (D.str l = D.str m) := by
      rw [Bool.eq_iff_iff]; simp [T_inj]
    rw [this]; exact q
  · obtain ⟨t, rfl⟩ := ru
    obtain ⟨t', rfl⟩ := rv
    refine SeqAt.EqAt.int_int _ _ _ _ prog w E Q ?_
    rename_i i j
    have : (i == j) = decide (D.int i = D.int j) := by
      rw [Bool.eq_iff_iff]; simp
    rw [this]; exact q
theorem flat_lt {t : Ty} {d e : D} {u v : Value} (h1 : t.ok d = true) (h2 : t.ok e = true) (ru : FV d u) (rv : FV e v) (f : Bool) {Q : Bool → Shared → Prop} (q : Q (decide (d.fo < e.fo)) s) : wpAny (model prog w) A (oneLt' f u v) Q E s := by
  cases t <;> cases d <;> simp [Ty.ok] at h1 <;> cases e <;> simp [Ty.ok] at h2
  · obtain ⟨t, rfl⟩ := ru
    obtain ⟨t', rfl⟩ := rv
    rename_i l m
    have ee : decide ((T l).cps.toList < (T m).cps.toList) = decide ((D.str l).fo < (D.str m).fo) := by
      rw [T_cps, T_cps, Bool.eq_iff_iff, decide_eq_true_eq, decide_eq_true_eq]
      exact ofNat_lt l m
    cases f with
    | true => exact oneLt_str (by rw [ee]; exact q)
    | false => exact kat_one _ _ (lt_str (by show Q _ _; rw [ee]; exact q))
  · obtain ⟨t, rfl⟩ := ru
    obtain ⟨t', rfl⟩ := rv
    rename_i i j
    have ee : decide (i < j) = decide ((D.int i).fo < (D.int j).fo) := by
      rw [Bool.eq_iff_iff]
      simp [D.fo, List.cons_lt_cons_iff]
    cases f with
    | true => exact oneLt_int (by rw [ee]; exact q)
    | false => exact kat_one _ _ (lt_int (by show Q _ _; rw [ee]; exact q))
inductive FVs : List D → List Value → Prop
  | nil : FVs [] []
  | cons {d ds u us} : FV d u → FVs ds us → FVs (d :: ds) (u :: us)
theorem lex_flat {b : Bool} {Q : Bool → Shared → Prop} : ∀ {ts : List Ty} {ds es : List D} {us vs : List Value} (i : Nat), shOk ts ds = true → shOk ts es = true → FVs ds us → FVs es vs → Q (decide (ds.map D.fo < es.map D.fo)) s → KatLex prog w A b false Q (us.zip vs) i s
  | [], ds, es, _, _, i, h1, h2, r1, r2, q => by
    cases ds <;> cases es <;> simp [shOk] at h1 h2
    cases r1; cases r2
    exact kat_nil (by simpa using q)
  | t :: ts, ds, es, _, _, i, h1, h2, r1, r2, q => by
    cases r1 with
    | nil => simp [shOk] at h1
    | cons a1 a2 =>
      cases r2 with
      | nil => simp [shOk] at h2
      | cons b1 b2 =>
        rename_i d ds u us e es v vs
        simp only [shOk, Bool.and_eq_true] at h1 h2
        rw [List.zip_cons_cons]
        refine kat_cons (flat_eq h1.1 h2.1 a1 b1 ?_)
        by_cases hde : d = e
        · subst hde
          rw [decide_eq_true rfl]
          refine kat_yes (lex_flat (i + 1) h1.2 h2.2 a2 b2 ?_)
          have : decide (ds.map D.fo < es.map D.fo) = decide ((d :: ds).map D.fo < (d :: es).map D.fo) := by
            rw [Bool.eq_iff_iff]
            simp only [decide_eq_true_eq, List.map_cons, List.cons_lt_cons_iff]
            exact ⟨fun h => .inr ⟨trivial, h⟩, fun h => h.elim (fun z => absurd z (List.lt_irrefl _)) fun z => z.2⟩
          rw [this]; exact q
        · rw [decide_eq_false hde]
          refine kat_no (flat_lt h1.1 h2.1 a1 b1 _ ?_)
          have hf : ¬ d.fo = e.fo := fun z => hde (fo_inj h1.1 h2.1 z)
          have : decide (d.fo < e.fo) = decide ((d :: ds).map D.fo < (e :: es).map D.fo) := by
            rw [Bool.eq_iff_iff]
            simp only [decide_eq_true_eq, List.map_cons, List.cons_lt_cons_iff]
            exact ⟨fun h => .inl h, fun h => h.elim id fun z => absurd z.1 hf⟩
          rw [this]; exact q
end
end L2

set_option maxHeartbeats 1000000
namespace L2
open PySem PySem.W PyProof.Rows
end L2

namespace L2
open PySem PySem.W PyProof.Rows
structure MI (R : Nat → Nat → Prop) (ua ub o : List Nat) (i j : Nat) : Prop where
  hi : i ≤ ua.length
  hj : j ≤ ub.length
  pw : o.Pairwise R
  pa : ∀ x ∈ o, ∀ y ∈ ua.drop i, R x y
  pb : ∀ x ∈ o, ∀ y ∈ ub.drop j, R x y
  pm : o.Perm (ua.take i ++ ub.take j)
end L2

set_option maxHeartbeats 2000000
namespace L2
open PySem PySem.W PyProof.Rows
end L2

namespace L2
open PySem PySem.W PyProof.Rows
end L2

namespace L2
open PySem PySem.W PyProof.Rows
def Seg (key : Nat → Int) (p : Array Nat) (i j : Nat) : Prop := ∀ s t, i ≤ s → s ≤ t → t < j → kk key p s ≤ kk key p t
end L2

namespace L2
open PySem PySem.W PyProof.Rows
end L2

namespace L2
open PySem PySem.W PyProof.Rows
def Runs (key : Nat → Int) (p : Array Nat) : List (Nat × Nat × Nat) → Nat → Nat → Prop
  | [], lo, hi => lo = hi
  | r :: l, lo, hi => r.1 = lo ∧ 0 < r.2.1 ∧ Seg key p lo (lo + r.2.1) ∧ Runs key p l (lo + r.2.1) hi
end L2

set_option maxHeartbeats 4000000
namespace L2
open PySem PySem.W PyProof.Rows
theorem Vals.pick {xs : List V} {us : List Value} (r : Vals xs us) : ∀ p : List Nat, (∀ i ∈ p, i < xs.length) → Vals (p.map fun i => xs.getD i .non) (p.map fun i => us.getD i Value.none)
  | [], _ => .nil
  | i :: p, h => by
    have hi := h i List.mem_cons_self
    obtain ⟨u, hu, ru⟩ := r.get (List.getElem?_eq_getElem hi)
    refine .cons ?_ (Vals.pick r p fun j hj => h j (List.mem_cons_of_mem _ hj))
    show RelV (xs.getD i .non) (us.getD i Value.none)
    rw [List.getD_eq_getElem?_getD, List.getElem?_eq_getElem hi, List.getD_eq_getElem?_getD, hu]
    exact ru
theorem Reps.pick {K : PySem.W.Frag} {H : Hp} {ds : List D} {xs : List V} (r : Reps K H ds xs) : ∀ p : List Nat, (∀ i ∈ p, i < ds.length) → Reps K H (p.map fun i => ds.getD i .non) (p.map fun i => xs.getD i .non)
  | [], _ => Reps.nil
  | i :: p, h => by
    have hi := h i List.mem_cons_self
    obtain ⟨u, hu, ru⟩ := r.get' (List.getElem?_eq_getElem hi)
    refine Reps.cons ?_ (Reps.pick r p fun j hj => h j (List.mem_cons_of_mem _ hj))
    show Rep K H (ds.getD i .non) (xs.getD i .non)
    rw [List.getD_eq_getElem?_getD, List.getElem?_eq_getElem hi, List.getD_eq_getElem?_getD, hu]
    exact ru
section
variable {X : Cx} {pins : List (Addr × Obj)} {σ : St} {H : Hp} {s : Shared}
theorem FV.of {t : Ty} {d : D} {x : V} {u : Value} (ht : t.ok d = true) (r : Rep X.K H d x) (q : RelV x u) : FV d u := by
  cases t <;> cases d <;> simp [Ty.ok] at ht
  · rw [r.of_str] at q; exact q
  · rw [r.of_int] at q; exact q
theorem FVs.of : ∀ {ts : List Ty} {ds : List D} {xs : List V} {us : List Value}, shOk ts ds = true → Reps X.K H ds xs → Vals xs us → FVs ds us
  | [], ds, _, _, ht, r, q => by
    cases ds <;> simp [shOk] at ht
    rw [Reps] at r; subst r; cases q; exact .nil
  | t :: ts, ds, _, _, ht, r, q => by
    cases ds with
    | nil => simp [shOk] at ht
    | cons d ds =>
      simp only [shOk, Bool.and_eq_true] at ht
      rw [Reps] at r
      obtain ⟨x, xs, rfl, r1, r2⟩ := r
      cases q with
      | cons q1 q2 => exact .cons (FV.of ht.1 r1 q1) (FVs.of ht.2 r2 q2)
def TV (h : Heap) (es : List D) (u : Value) : Prop := ∃ a o its n, u = .ref a ∧ h.get? a = some o ∧ o.cls = .type "tuple" ∧ o.data = .seq its n ∧ FVs es its.toList
theorem Inv.tv (I : Inv X pins σ H s) {ts : List Ty} {es : List D} {x : V} {u : Value} (ht : shOk ts es = true) (r : Rep X.K H (.tup es) x) (q : RelV x u) : TV s.heap es u := by
  obtain ⟨p, xs, rfl, sq, rs⟩ := r.of_tup
  cases q
  obtain ⟨its, rv, ⟨o, e, c, n, hd⟩, _⟩ := I.tuple sq
  exact ⟨p, o, its.toArray, n, rfl, e, c, hd, by simpa using FVs.of ht rs rv⟩
theorem getD_rel {ds : List D} {xs : List V} {us : List Value} (rs : Reps X.K H ds xs) (rv : Vals xs us) {i : Nat} (hi : i < us.length) : ∃ x, Rep X.K H (ds.getD i .non) x ∧ RelV x (us.getD i Value.none) ∧ ds.getD i .non ∈ ds := by
  have l1 := rs.length
  have l2 := rv.length
  obtain ⟨x, hx, r⟩ := rs.get' (List.getElem?_eq_getElem (show i < ds.length by lia))
  obtain ⟨u, hu, ru⟩ := rv.get hx
  refine ⟨x, ?_, ?_, ?_⟩
  · rw [List.getD_eq_getElem?_getD, List.getElem?_eq_getElem (show i < ds.length by lia)]; exact r
  · rw [List.getD_eq_getElem?_getD, hu]; exact ru
  · rw [List.getD_eq_getElem?_getD, List.getElem?_eq_getElem (show i < ds.length by lia)]; exact List.getElem_mem _
theorem mem_getD {us : List Value} {v : Value} (h : v ∈ us) : ∃ i, i < us.length ∧ v = us.getD i Value.none := by
  obtain ⟨i, hi, e⟩ := List.getElem_of_mem h
  exact ⟨i, hi, by rw [List.getD_eq_getElem?_getD, List.getElem?_eq_getElem hi]; exact e.symm⟩
def Ty.tv : Ty → Value
  | .s => .type "str"
  | .i => .type "int"
def CmpOk (prog : Program) (w : World) (A : Around) (s : Shared) (vs : List Value) (key : Nat → Int) : Prop :=
  ∃ κ, (∀ (Q : SortKind → Shared → Prop) (E : Value → Shared → Prop), Q κ s → wpAny (model prog w) A (keyKind' vs.toArray) Q E s) ∧
    ∀ i j (C : Bool → Shared → Prop), i < vs.length → j < vs.length → C (decide (key i < key j)) s → wpAny (model prog w) A (keyLt' κ (vs.getD i Value.none) (vs.getD j Value.none)) C (fun _ _ => False) s
theorem cmp_alike {h' : Heap} {ds : List D} {xs : List V} {us : List Value} {A' : Around} (I : Inv X pins σ H s) (rs : Reps X.K H ds xs) (rv : Vals xs us) (hal : Alike ds) (h2 : 2 ≤ us.length) (k : Keeps s.heap h') :
    CmpOk X.prog X.w A' { s with heap := h' } us (rk ds) := by
  have l1 := rs.length
  have l2 := rv.length
  have flat : ∀ (t : Ty) (T0 : Value), (∀ d u, t.ok d = true → FV d u → typeOf u = pure T0) → (T0 != Value.type "tuple") = true → (T0 == T0) = true → (∀ d ∈ ds, t.ok d = true) → CmpOk X.prog X.w A' { s with heap := h' } us (rk ds) := fun t T0 hty hT1 hT2 ht => by
    have fv : ∀ i, i < us.length → FV (ds.getD i .non) (us.getD i Value.none) ∧ t.ok (ds.getD i .non) = true := fun i hi => by
      obtain ⟨x, r, q, hm⟩ := getD_rel rs rv hi
      exact ⟨FV.of (ht _ hm) r q, ht _ hm⟩
    refine ⟨oneType', fun Q E q => kas_kind h2 (T := T0) (fun v hv => ?_) hT1 hT2 q, fun i j C hi hj hC => ?_⟩
    · obtain ⟨i, hi, rfl⟩ := mem_getD hv
      obtain ⟨f, o⟩ := fv i hi
      rw [hty _ _ o f]
      exact .now
    · obtain ⟨f1, o1⟩ := fv i hi
      obtain ⟨f2, o2⟩ := fv j hj
      rw [keyLt'_oneType]
      refine flat_lt o1 o2 f1 f2 true ?_
      rw [rk_lt (by lia)] at hC
      have e : ∀ d : D, t.ok d = true → d.ord = [d.fo] := fun d hd => by cases t <;> cases d <;> simp [Ty.ok] at hd <;> rfl
      rw [e _ o1, e _ o2] at hC
      have : decide ((ds.getD i .non).fo < (ds.getD j .non).fo) = decide ([(ds.getD i .non).fo] < [(ds.getD j .non).fo]) := by
        rw [Bool.eq_iff_iff, decide_eq_true_eq, decide_eq_true_eq]; exact (one_lt _ _).symm
      rw [this]; exact hC
  rcases hal with ht | ht | ⟨t, ts, ht⟩
  · exact flat .s (.type "str") (fun d u hd f => by cases d <;> simp [Ty.ok] at hd; obtain ⟨t, rfl⟩ := f; rfl) (by decide) (by decide) ht
  · exact flat .i (.type "int") (fun d u hd f => by cases d <;> simp [Ty.ok] at hd; obtain ⟨t, rfl⟩ := f; rfl) (by decide) (by decide) ht
  · have tv : ∀ i, i < us.length → ∃ es, ds.getD i .non = .tup es ∧ shOk (t :: ts) es = true ∧ TV h' es (us.getD i Value.none) := fun i hi => by
      obtain ⟨x, r, q, hm⟩ := getD_rel rs rv hi
      obtain ⟨es, e, ho⟩ := ht _ hm
      rw [e] at r
      obtain ⟨a, o, its, n, eu, ho', hc, hd, fv⟩ := I.tv ho r q
      exact ⟨es, e, ho, a, o, its, n, eu, k a o ho', hc, hd, fv⟩
    obtain ⟨T0, hT0, hb, hbb⟩ : ∃ T0 : Value, (T0 = t.tv) ∧ (T0 != Value.type "tuple") = true ∧ (T0 == T0) = true := ⟨t.tv, rfl, by cases t <;> decide, by cases t <;> decide⟩
    have hfs : ∀ (l : List Value), (∀ v ∈ l, ∃ es, shOk (t :: ts) es = true ∧ TV h' es v) → ∃ fs, KatTups h' l fs ∧ fs.length = l.length ∧ ∀ f ∈ fs, typeOf f = pure T0 := by
      intro l
      induction l with
      | nil => intro _; exact ⟨[], KatTups.nil, rfl, by simp⟩
      | cons v l ih =>
        intro h
        obtain ⟨fs, h1, h2, h3⟩ := ih fun u hu => h u (List.mem_cons_of_mem _ hu)
        obtain ⟨es, ho, a, o, its, n, rfl, hg, hc, hd, fv⟩ := h v List.mem_cons_self
        cases es with
        | nil => simp [shOk] at ho
        | cons d es =>
          simp only [shOk, Bool.and_eq_true] at ho
          cases hits : its.toList with
          | nil => rw [hits] at fv; cases fv
          | cons f fr =>
            rw [hits] at fv
            cases fv with
            | cons fd _ =>
              have h0 : its[0]? = some f := by
                have : its.toList[0]? = some f := by rw [hits]; rfl
                simpa using this
              refine ⟨f :: fs, KatTups.cons hg hc hd h0 h1, by simp [h2], fun g hgm => ?_⟩
              rcases List.mem_cons.mp hgm with rfl | hgm
              · cases t <;> cases d <;> simp [Ty.ok] at ho
                · obtain ⟨t', rfl⟩ := fd; rw [hT0]; rfl
                · obtain ⟨t', rfl⟩ := fd; rw [hT0]; rfl
              · exact h3 g hgm
    obtain ⟨fs, hk1, hk2, hk3⟩ := hfs us fun v hv => by
      obtain ⟨i, hi, rfl⟩ := mem_getD hv
      obtain ⟨es, _, ho, tvv⟩ := tv i hi
      exact ⟨es, ho, tvv⟩
    refine ⟨tuples' (T0 != Value.type "tuple"), fun Q E q => kat_kind (s := { s with heap := h' }) (T := T0) hk1 (by lia) (fun v hv => ?_) hbb q, fun i j C hi hj hC => ?_⟩
    · rw [hk3 v hv]; exact .now
    · obtain ⟨es, e1, o1, a, o, its, n, eu, hg, hc, hd, fv⟩ := tv i hi
      obtain ⟨es', e1', o1', a', o', its', n', eu', hg', hc', hd', fv'⟩ := tv j hj
      rw [eu, eu']
      rw [rk_lt (by lia), e1, e1'] at hC
      have sz : ∀ {ts : List Ty} {es : List D} {us : List Value}, shOk ts es = true → FVs es us → us.length = ts.length := by
        intro ts
        induction ts with
        | nil => intro es us h f; cases f with
          | nil => rfl
          | cons _ _ => simp [shOk] at h
        | cons t ts ih => intro es us h f; cases f with
          | nil => simp [shOk] at h
          | cons _ f => simp only [shOk, Bool.and_eq_true] at h; simp [ih h.2 f]
      have z1 := sz o1 fv
      have z2 := sz o1' fv'
      refine kat_lt (s := { s with heap := h' }) hg hd hg' hd' ?_
      rw [decide_eq_false (by simp at z1 z2; lia)]
      exact lex_flat 0 o1 o1' fv fv' hC
end
end L2

set_option maxHeartbeats 2000000
namespace L2
open PySem PySem.W PySem.Spec PyProof.Rows
def cutD (xs : List D) (lo hi : Option Int) : List D := (xs.drop (HT.sIx xs.length 0 lo)).take (HT.sIx xs.length xs.length hi - HT.sIx xs.length 0 lo)
theorem Reps.cut {K : PySem.W.Frag} {H : Hp} {ds : List D} {xs : List V} (lo hi : Option Int) (h : Reps K H ds xs) : Reps K H (cutD ds lo hi) (cutV xs lo hi) := by
  unfold cutD cutV
  rw [← h.length]
  exact (h.drop _).take _
section
variable {K : PySem.W.Frag} {G H₀ L : Hp} {ss : List Sl} {t ta tb : TE} {d : D} {ds : List D}
theorem ev_lenL (a : EvL K G H₀ L ss t ds) : Ev K G H₀ L ss (tCB (fun xs H Q => ∃ p ys, xs = [.ref p] ∧ (SqL K H p ys ∨ SqT K H p ys) ∧ Q (.int ys.length) H) (tCons t tNil)) (.int ds.length) := fun F H σ Q S q =>
  a F H σ _ S fun p vs F' H' e sq r => ⟨p, vs, rfl, .inl sq, q _ _ _ e (by rw [← r.length]; exact Rep.int)⟩
theorem evo_list (a : EvL K G H₀ L ss t ds) : EvO K G H₀ L ss (tCB (fun xs H Q => ∃ p ys, xs = [.ref p] ∧ (SqL K H p ys ∨ SqT K H p ys) ∧ ∀ l, H l = none → Q (.ref l) (upd H l (.lst ys))) (tCons t tNil)) ds := fun F H σ Q S q =>
  a F H σ _ S fun p vs F' H' e sq r => ⟨p, vs, rfl, .inl sq, fun l hl => q l vs F' _ (e.newO hl) (e.hh.free hl) (e.fh.free hl) upd_same r⟩
def EvP (K : PySem.W.Frag) (G H₀ L : Hp) (ss : List Sl) (t : TO) (o : Option Int) : Prop := ∀ F H σ (Q : Option Int → Hp → Prop), Sat K G H₀ L F H σ ss → (∀ F' H', Ext F H F' H' → Q o H') → t σ H Q
theorem evp_part {i : Int} (a : EvB K G H₀ L ss t (.int i)) : EvP K G H₀ L ss (tPart t) (some i) := fun F H σ Q S q => a F H σ _ S fun v F' H' e r => ⟨i, r.of_int, q _ _ e⟩
theorem evo_slL {tl th : TO} {lo hi : Option Int} (a : EvL K G H₀ L ss t ds) (b : EvP K G H₀ L ss tl lo) (c : EvP K G H₀ L ss th hi) : EvO K G H₀ L ss (tSl (rSlL K) t tl th) (cutD ds lo hi) := fun F H σ Q S q =>
  a F H σ _ S fun p vs F1 H1 e1 sq r => b F1 H1 σ _ (S.ext2 e1) fun F2 H2 e2 => c F2 H2 σ _ ((S.ext2 e1).ext2 e2) fun F3 H3 e3 =>
    ⟨p, vs, rfl, SqL.same e3.hh (SqL.same e2.hh sq), fun l hl => q l _ F3 _ (((e1.trans e2).trans e3).newO hl) (((e1.trans e2).trans e3).hh.free hl) (((e1.trans e2).trans e3).fh.free hl) upd_same (((r.mono e2.gf).mono e3.gf).cut lo hi)⟩
end
end L2

namespace L2
open PySem PySem.W PySem.Spec PyProof.Rows
def rAll (K : PySem.W.Frag) : List V → Hp → VK → Prop := fun xs H Q => ∃ p, ∃ bs : List Bool, xs = [.ref p] ∧ SqL K H p (bs.map V.bl) ∧ Q (.bl (bs.all id)) H
section
variable {X : Cx} {prog : Program} {w : World} {A : Around} {E : Value → Shared → Prop} {s : Shared}
theorem old_kept {h' : Heap} {o : Obj} {k : Nat} (hk : ∀ b x, b ∉ [s.heap.objs.size] → (s.heap.push o).get? b = some x → h'.get? b = some x) : Keeps s.heap h' := fun b x e => by
  refine hk b x (fun hm => ?_) (Heap.get?_push_of_some _ e)
  have h1 := Heap.lt_size e
  rw [List.mem_singleton.mp hm] at h1
  exact Nat.lt_irrefl _ h1
theorem vals_bl : ∀ {bs : List Bool} {us : List Value}, Vals (bs.map V.bl) us → us = bs.map Value.bool
  | [], _, .nil => rfl
  | b :: bs, _, .cons r1 r2 => by rw [vals_bl r2]; cases r1; rfl
theorem range_allB : ∀ bs : List Bool, ((List.range bs.length).all fun i => (bs[i]?).getD true) = bs.all id := fun bs => by
  rw [Bool.eq_iff_iff, List.all_eq_true, List.all_eq_true]
  constructor
  · intro h b hb
    obtain ⟨i, hi, e⟩ := List.getElem_of_mem hb
    have := h i (List.mem_range.mpr hi)
    rw [List.getElem?_eq_getElem hi, Option.getD_some, e] at this
    exact this
  · intro h i hi
    have hi' := List.mem_range.mp hi
    rw [List.getElem?_eq_getElem hi', Option.getD_some]
    exact h _ (List.getElem_mem hi')
theorem call_all (hc : X.calm = true) : CallR X (.builtin "all") (rAll X.K) := by
  intro pins s σ H xs us Q I r h
  obtain ⟨p, bs, rfl, hq, q⟩ := h
  obtain ⟨u, rfl, ru⟩ := vals1 r
  cases ru
  obtain ⟨its, rv, pl, _⟩ := I.list hq
  obtain rfl := vals_bl rv
  have hl := pl.isList
  have hlt : p < s.heap.objs.size := by obtain ⟨_, e, _⟩ := hl; exact Heap.lt_size e
  refine call_all_walk (wpAny_pyIter_list hl ⟨s.heap.objs.size, [s.heap.objs.size, p], [s.heap.objs.size], (bs.map Value.bool).toArray.size, _, _, fun i => (bs[i]?).getD true, rfl,
    Walks.list (A := X.A.in1) (I.ok.hd hc) _ p (Nat.ne_of_lt hlt) _, ⟨⟨_, Heap.get?_push_size _ rfl, rfl, rfl⟩, hl.push _⟩, fun i v s' Q' E' hP hQ => ?_, fun h' tk hk => ?_⟩)
  · have hP' : (bs.map Value.bool)[i]? = some v := by simpa using hP
    rw [List.getElem?_map] at hP'
    cases hb : bs[i]? with
    | none => rw [hb] at hP'; cases hP'
    | some b =>
      rw [hb] at hP'
      cases hP'
      simp only [hb, Option.getD_some] at hQ
      exact wpAny_truthy_bool hQ
  · have e : ((List.range (bs.map Value.bool).toArray.size).all fun i => (bs[i]?).getD true) = bs.all id := by
      rw [List.size_toArray, List.length_map]; exact range_allB bs
    rw [e]
    exact ⟨.bl _, H, I.kept (old_kept (k := 0) hk), rfl, q⟩
end
end L2

namespace L2
open PySem PySem.W PySem.Spec PyProof.Rows PySem.Calls
open PySem.MeetsSeq PySem.MeetsSeq2 PySem.MeetsSeq3
theorem rcLt_flat {t : Ty} {d e : D} {u v : Value} (h1 : t.ok d = true) (h2 : t.ok e = true) (ru : FV d u) (rv : FV e v) {prog : Program} {w : World} {A : Around} {E : Value → Shared → Prop} {s : Shared} {Q : Value → Shared → Prop} (q : Q (.bool (decide (d.fo < e.fo))) s) :
    wpAny (model prog w) A (richCompare .Lt u v) Q E s := by
  cases t <;> cases d <;> simp [Ty.ok] at h1 <;> cases e <;> simp [Ty.ok] at h2
  · obtain ⟨t, rfl⟩ := ru
    obtain ⟨t', rfl⟩ := rv
    rename_i l m
    have ee : decide ((T l).cps.toList < (T m).cps.toList) = decide ((D.str l).fo < (D.str m).fo) := by
      rw [T_cps, T_cps, Bool.eq_iff_iff, decide_eq_true_eq, decide_eq_true_eq]
      exact ofNat_lt l m
    rw [← ee] at q
    exact richCompare_gives (op := .Lt) (typeIs_str _ _ _) (typeIs_str _ _ _) F.slot_str_lt F.entry_str_lt (F.args_str_lt_2 _ _) (gives_str_lt _ _ _ _) (fun e => nomatch e) q
  · obtain ⟨t, rfl⟩ := ru
    obtain ⟨t', rfl⟩ := rv
    rename_i i j
    have ee : decide (i < j) = decide ((D.int i).fo < (D.int j).fo) := by
      rw [Bool.eq_iff_iff]
      simp [D.fo, List.cons_lt_cons_iff]
    rw [← ee] at q
    exact richCompare_gives (op := .Lt) (typeIs_int _ _ _) (typeIs_int _ _ _) F.slot_int_lt F.entry_int_lt (F.args_int_lt_2 _ _) (gives_int_lt _ _ _ _) (fun e => nomatch e) q
section
variable {K : PySem.W.Frag} {G H₀ L : Hp} {ss : List Sl} {t ta tb : TE} {d : D} {ds es : List D}
theorem Reps.bools {H : Hp} : ∀ {bs : List Bool} {vs : List V}, Reps K H (bs.map D.bl) vs → vs = bs.map V.bl
  | [], vs, h => by rw [List.map_nil, Reps] at h; exact h
  | b :: bs, vs, h => by
    rw [List.map_cons, Reps] at h
    obtain ⟨x, xs, rfl, h1, h2⟩ := h
    rw [h1.of_bl, h2.bools]; rfl
theorem ev_all {bs : List Bool} (a : EvL K G H₀ L ss t (bs.map D.bl)) : Ev K G H₀ L ss (tCB (rAll K) (tCons t tNil)) (.bl (bs.all id)) := fun F H σ Q S q =>
  a F H σ _ S fun p vs F1 H1 e1 sq r1 => ⟨p, bs, rfl, by rw [r1.bools] at sq; exact sq, q _ _ _ e1 Rep.bl⟩
end
end L2

set_option maxHeartbeats 4000000
namespace L2
open PySem PySem.W PyProof.Rows
end L2

namespace L2
open PySem PySem.W PyProof.Rows
section
variable {X : Cx} {pins pl : List (Addr × Obj)} {σ : St} {H : Hp} {s : Shared} {h' : Heap} {t' : Nat}
theorem Inv.reset {b : Addr} {o o' : Obj} (I : Inv X (pins ++ (b, o) :: pl) σ H s) (fb : FpOk X pins H b) (hne : ∀ q ∈ pl, q.1 ≠ b) (hs : ∀ c u, c ≠ b → s.heap.get? c = some u → h'.get? c = some u) (hb : h'.get? b = some o') (hd : ∀ v, o'.data ≠ .cell v) :
    Inv X (pins ++ (b, o') :: pl) σ H { s with heap := h', toks := t' } := by
  obtain ⟨f0, f1, f2, f3, f4, f5⟩ := fb
  have I1 : Inv X pins σ H { s with heap := h', toks := t' } := I.unpinned.turned hs f0 f1 f3 f4 f5
  refine I1.pins_of fun p hp => ?_
  rcases List.mem_append.mp hp with hp | hp
  · exact I1.pin p (List.mem_append_right _ hp)
  · rcases List.mem_cons.mp hp with rfl | hp
    · exact ⟨hb, f0, f1, f2, hd⟩
    · obtain ⟨e, n, ne, nf, d⟩ := I.pin p (List.mem_append_right _ (List.mem_append_right _ (List.mem_cons_of_mem _ hp)))
      exact ⟨hs _ _ (hne p hp) e, n, ne, nf, d⟩
variable {A' : Around} {a kS : Addr} {e1 : Nat} {us : List Value} {ks : List D} {f : Value} {J : Hp → Prop} {P : PySem.Fin → Shared → Prop} {E : Value → Shared → Prop}
end
end L2

namespace L2
open PySem PySem.W PyProof.Rows
end L2

namespace L2
open PySem PySem.W PyProof.Rows
section
variable {X : Cx} {pins : List (Addr × Obj)} {σ : St} {H : Hp} {s : Shared} {l I0 S : Addr} {xs : List V} {ks : List D} {q : Addr} {J : Hp → Prop} {R : Result → Shared → Prop} {lt : Nat → Nat → Bool}
def ItAt (o : Obj) (l : Addr) (j : Nat) : Prop := o.cls = .type "list_iterator" ∧ o.data = .fields #[.ref l, .int (j : Int) 0]
theorem minK_loop (hh : X.A.handled = none) (hlI : l ≠ I0) (hSI : S ≠ I0) (fpS : ∀ H' : Hp, H' S = none → FpOk X pins H' S) (fpI : ∀ H' : Hp, H' I0 = none → FpOk X pins H' I0) (hJl : ∀ H', J H' → SqL X.K H' l xs) (hkl : ks.length = xs.length)
    (turn : ∀ (i : Nat) x u k H' s' pl, xs[i]? = some x → ks[i]? = some k → RelV x u → Inv X (pins ++ pl) σ H' s' → J H' →
      wpAny (model X.prog X.w) X.A.in1 (call (.ref q) [u]) (fun v s'' => ∃ y H'', Inv X (pins ++ pl) σ H'' s'' ∧ J H'' ∧ Same H' H'' ∧ RelV y v ∧ Rep X.K H'' k y) (fun _ _ => False) s')
    (hlt : ∀ (i j : Nat) k k' H' s' pl y z u v (C : Value → Shared → Prop), ks[i]? = some k → ks[j]? = some k' → Inv X (pins ++ pl) σ H' s' → Rep X.K H' k y → RelV y u → Rep X.K H' k' z → RelV z v → C (.bool (lt i j)) s' →
      wpAny (model X.prog X.w) X.A.in1 (richCompare .Lt u v) C (fun _ _ => False) s')
    (tr : ∀ a b c : Nat, lt a b = true → lt c b = false → lt a c = true) (asy : ∀ a b : Nat, lt a b = true → lt b a = false)
    (hR : ∀ (i : Nat) x v H' s', xs[i]? = some x → RelV x v → (∀ j, j < xs.length → lt j i = false ∧ (j < i → lt i j = true)) → Inv X pins σ H' s' → J H' → R (.ok (.ret v)) s') :
    ∀ (r j i : Nat) (H : Hp) (s : Shared) (xb y : V) (vb kb : Value) (kd : D) (c : Nat) (oI : Obj), xs.length - (j + 1) = r → j + 1 ≤ xs.length → Inv X (pins ++ [(S, seqObj "list" #[vb, kb] c), (I0, oI)]) σ H s → J H → ItAt oI l (j + 1) →
      xs[i]? = some xb → RelV xb vb → ks[i]? = some kd → RelV y kb → Rep X.K H kd y → i ≤ j → (∀ j', j' ≤ j → lt j' i = false ∧ (j' < i → lt i j' = true)) →
      codeAny (model X.prog X.w) X.A (.builtin "min.loop" ⟨[.ref I0, .ref q, .ref S], []⟩) R s := by
  have hname : (toString "min" ++ toString ".loop" : String) = "min.loop" := by decide
  intro r
  induction r with
  | zero =>
    intro j i H s xb y vb kb kd c oI hr hj I hJ hit hxb rxb hkd rkb rpb hij hbest
    have hin : j + 1 = xs.length := by omega
    have nS := I.pin (S, seqObj "list" #[vb, kb] c) (List.mem_append_right _ (List.mem_append_right _ (.head _)))
    have nI := I.pin (I0, oI) (List.mem_append_right _ (List.mem_append_right _ (.tail _ (.head _))))
    obtain ⟨us, rv, pl, hz⟩ := I.list (hJl H hJ)
    have hul := rv.length
    have W := Walks.list (prog := X.prog) (w := X.w) (A := X.A.in1) hh I0 l hlI us.toArray
    have hsz : us.toArray.size = us.length := List.size_toArray ..
    refine codeAny_builtin PySem.F.entry_min_loop ?_
    rw [Around.under_plainId PySem.F.plain_min_loop _]
    show wpAny _ X.A.in1 (seqItems? (.ref S) >>= _) _ _ _
    refine wpAny_bind (wpAny_seqItems nS.1 rfl ?_)
    show wpAny _ X.A.in1 (tryCatch (pyNext (.ref I0)) _ >>= _) _ _ _
    refine wpAny_bind (wpAny_tryCatch (W.done _ _ _ ⟨by rw [hsz, ← hul, ← hin]; exact ⟨oI, nI.1, hit.1, hit.2⟩, pl.isList⟩ fun h' tk' hk' => ?_))
    have hS' := hk' S _ (by simpa using hSI) nS.1
    have fI := fpI H nI.2.1
    have fS := fpS H nS.2.1
    have I1 : Inv X pins σ H { s with heap := h', toks := tk' } := I.unpinned.turned (fun b o hb q => hk' b o (by simpa using hb) q) fI.1 fI.2.1 fI.2.2.2.1 fI.2.2.2.2.1 fI.2.2.2.2.2
    have s1 := Heap.SameBut.update h' S (Obj.mapSeq fun _ => (#[] : Array Value))
    show wpAny _ X.A.in1 (updateSeq S (fun _ => #[]) >>= _) _ _ _
    refine wpAny_bind ?_
    refine wpAny_updateSeq hS' rfl (wpAny_bind (wpAny_letGo (wpAny_pure ?_)))
    have I2 : Inv X pins σ H { s with heap := h'.update S (Obj.mapSeq fun _ => (#[] : Array Value)), toks := tk' } := I1.turned (t' := tk') (fun b o hb q => (s1.2 b hb).trans q) fS.1 fS.2.1 fS.2.2.2.1 fS.2.2.2.2.1 fS.2.2.2.2.2
    exact hR i xb vb H _ hxb rxb (fun j' hj' => hbest j' (by omega)) I2 hJ
  | succ r ih =>
    intro j i H s xb y vb kb kd c oI hr hj I hJ hit hxb rxb hkd rkb rpb hij hbest
    have hlt2 : j + 1 < xs.length := by omega
    have nS := I.pin (S, seqObj "list" #[vb, kb] c) (List.mem_append_right _ (List.mem_append_right _ (.head _)))
    have nI := I.pin (I0, oI) (List.mem_append_right _ (List.mem_append_right _ (.tail _ (.head _))))
    obtain ⟨us, rv, pl, hz⟩ := I.list (hJl H hJ)
    have hul := rv.length
    have W := Walks.list (prog := X.prog) (w := X.w) (A := X.A.in1) hh I0 l hlI us.toArray
    have hsz : us.toArray.size = us.length := List.size_toArray ..
    refine codeAny_builtin PySem.F.entry_min_loop ?_
    rw [Around.under_plainId PySem.F.plain_min_loop _]
    show wpAny _ X.A.in1 (seqItems? (.ref S) >>= _) _ _ _
    refine wpAny_bind (wpAny_seqItems nS.1 rfl ?_)
    show wpAny _ X.A.in1 (tryCatch (pyNext (.ref I0)) _ >>= _) _ _ _
    refine wpAny_bind (wpAny_tryCatch (W.item (j + 1) _ _ _ (by rw [hsz]; omega) ⟨⟨oI, nI.1, hit.1, hit.2⟩, pl.isList⟩ fun v h' tk' hP hst' hk' => ?_))
    have hv : us[j + 1]? = some v := by simpa using hP
    obtain ⟨oI', hoI', hoc, hod⟩ := id hst'.1
    obtain ⟨x, hx, rx⟩ : ∃ x, xs[j + 1]? = some x ∧ RelV x v := by
      obtain ⟨u', hu', ru'⟩ := rv.get (List.getElem?_eq_getElem hlt2)
      rw [hv] at hu'; cases hu'
      exact ⟨_, List.getElem?_eq_getElem hlt2, ru'⟩
    obtain ⟨k, hk⟩ : ∃ k, ks[j + 1]? = some k := ⟨_, List.getElem?_eq_getElem (by omega)⟩
    have Ip : Inv X (pins ++ (I0, oI) :: [(S, seqObj "list" #[vb, kb] c)]) σ H s := I.pins_of fun p hp => I.pin p (List.mem_append_right _ (by
      rcases List.mem_append.mp hp with hp | hp
      · exact List.mem_append_left _ hp
      · refine List.mem_append_right _ ?_
        rcases List.mem_cons.mp hp with rfl | hp
        · exact .tail _ (.head _)
        · rw [List.mem_singleton.mp hp]; exact .head _))
    have Iq : Inv X (pins ++ (I0, oI') :: [(S, seqObj "list" #[vb, kb] c)]) σ H { s with heap := h', toks := tk' } := Ip.reset (fpI H nI.2.1) (fun q hq => by rw [List.mem_singleton.mp hq]; exact hSI) (fun b o hb q => hk' b o (by simpa using hb) q) hoI' (fun v z => by rw [hod] at z; cases z)
    have I1 : Inv X (pins ++ [(S, seqObj "list" #[vb, kb] c), (I0, oI')]) σ H { s with heap := h', toks := tk' } := Iq.pins_of fun p hp => Iq.pin p (List.mem_append_right _ (by
      rcases List.mem_append.mp hp with hp | hp
      · exact List.mem_append_left _ hp
      · refine List.mem_append_right _ ?_
        rcases List.mem_cons.mp hp with rfl | hp
        · exact .tail _ (.head _)
        · rw [List.mem_singleton.mp hp]; exact .head _))
    show wpAny _ X.A.in1 (tryCatch (holding [v] (call (.ref q) [v])) _ >>= _) _ _ _
    refine wpAny_bind (wpAny_tryCatch (wpAny_holding (wpAny_mono (turn (j + 1) x v k H _ _ hx hk rx I1 hJ) (fun kv s2 he => ?_) fun _ _ hF => hF.elim)))
    obtain ⟨y2, H2, I2, hJ2, hsame, ry2, rp2⟩ := he
    have nS2 := I2.pin (S, seqObj "list" #[vb, kb] c) (List.mem_append_right _ (List.mem_append_right _ (.head _)))
    have nI2 := I2.pin (I0, oI') (List.mem_append_right _ (List.mem_append_right _ (.tail _ (.head _))))
    show wpAny _ X.A.in1 (tryCatch (holding [v, kv] (richCompare .Lt kv kb >>= _)) _ >>= _) _ _ _
    refine wpAny_bind (wpAny_tryCatch (wpAny_holding (wpAny_bind (wpAny_mono (hlt (j + 1) i k kd H2 s2 _ y2 y kv kb (fun z s3 => z = .bool (lt (j + 1) i) ∧ s3 = s2) hk hkd I2 rp2 ry2 (rpb.mono hsame) rkb ⟨rfl, rfl⟩) (fun z s3 hz => ?_) fun _ _ hF => hF.elim))))
    obtain ⟨rfl, rfl⟩ := hz
    refine wpAny_bind (wpAny_holding (wpAny_truthy_bool ?_))
    refine wpAny_bind (wpAny_letGo (wpAny_pure ?_))
    by_cases hb' : lt (j + 1) i = true
    · have s1 := Heap.SameBut.update s3.heap S (Obj.mapSeq fun _ => #[v, kv])
      obtain ⟨c2, hc2⟩ : ∃ c2, (s3.heap.update S (Obj.mapSeq fun _ => #[v, kv])).get? S = some (seqObj "list" #[v, kv] c2) := ⟨_, get?_update_seq nS2.1 fun _ => #[v, kv]⟩
      simp only [hb', if_true]
      refine wpAny_bind ?_
      refine wpAny_updateSeq nS2.1 rfl (wpAny_bind (wpAny_letGo ?_))
      rw [hname]
      have I3 : Inv X (pins ++ [(S, seqObj "list" #[v, kv] c2), (I0, oI')]) σ H2 { s3 with heap := s3.heap.update S (Obj.mapSeq fun _ => #[v, kv]) } := I2.reset (t' := s3.toks) (fpS H2 nS2.2.1) (fun q hq => by rw [List.mem_singleton.mp hq]; exact Ne.symm hSI) (fun c u hc q => (s1.2 c hc).trans q) hc2 (fun v z => by cases z)
      refine wpAny_pure ⟨plainId_quiet PySem.F.plain_min_loop _, ih (j + 1) (j + 1) H2 _ x y2 v kv k c2 oI' (by omega) hlt2 I3 hJ2 ⟨hoc, hod⟩ hx rx hk ry2 rp2 (Nat.le_refl _) fun j' hj' => ?_⟩
      by_cases e : j' = j + 1
      · subst e
        refine ⟨?_, fun h => absurd h (Nat.lt_irrefl _)⟩
        cases hq : lt (j + 1) (j + 1) with
        | false => rfl
        | true => have := asy _ _ hq; rw [hq] at this; cases this
      · have h1 := tr (j + 1) i j' hb' (hbest j' (by omega)).1
        exact ⟨asy _ _ h1, fun _ => h1⟩
    · have hb2 : lt (j + 1) i = false := by simpa using hb'
      simp only [hb2, Bool.false_eq_true, if_false]
      refine wpAny_bind (wpAny_letGo ?_)
      rw [hname]
      refine wpAny_pure ⟨plainId_quiet PySem.F.plain_min_loop _, ih (j + 1) i H2 _ xb y vb kb kd c oI' (by omega) hlt2 I2 hJ2 ⟨hoc, hod⟩ hxb rxb hkd rkb (rpb.mono hsame) (by omega) fun j' hj' => ?_⟩
      by_cases e : j' = j + 1
      · subst e
        exact ⟨hb2, fun h => absurd h (by omega)⟩
      · exact hbest j' (by omega)
theorem call_minK {QQ : Value → Shared → Prop} {E : Value → Shared → Prop} (hc : X.calm = true) (I : Inv X pins σ H s) (hJ : J H) (hJl : ∀ H', J H' → SqL X.K H' l xs) (hkl : ks.length = xs.length) (hne : 0 < xs.length)
    (turn : ∀ (i : Nat) x u k H' s' pl, xs[i]? = some x → ks[i]? = some k → RelV x u → Inv X (pins ++ pl) σ H' s' → J H' →
      wpAny (model X.prog X.w) X.A.in1 (call (.ref q) [u]) (fun v s'' => ∃ y H'', Inv X (pins ++ pl) σ H'' s'' ∧ J H'' ∧ Same H' H'' ∧ RelV y v ∧ Rep X.K H'' k y) (fun _ _ => False) s')
    (hlt : ∀ (i j : Nat) k k' H' s' pl y z u v (C : Value → Shared → Prop), ks[i]? = some k → ks[j]? = some k' → Inv X (pins ++ pl) σ H' s' → Rep X.K H' k y → RelV y u → Rep X.K H' k' z → RelV z v → C (.bool (lt i j)) s' →
      wpAny (model X.prog X.w) X.A.in1 (richCompare .Lt u v) C (fun _ _ => False) s')
    (tr : ∀ a b c : Nat, lt a b = true → lt c b = false → lt a c = true) (asy : ∀ a b : Nat, lt a b = true → lt b a = false)
    (hQ : ∀ (i : Nat) x v H' s', xs[i]? = some x → RelV x v → (∀ j, j < xs.length → lt j i = false ∧ (j < i → lt i j = true)) → Inv X pins σ H' s' → J H' → QQ v s') :
    wpAny (model X.prog X.w) X.A (call (.builtin "min") [.ref l] [(Str.ofString "key", .ref q)]) QQ E s := by
  have hname : (toString "min" ++ toString ".loop" : String) = "min.loop" := by decide
  have hh : X.A.handled = none := I.ok.hd hc
  obtain ⟨us0, rv0, pl0, hz0⟩ := I.list (hJl H hJ)
  have hls := pl0.isList
  obtain ⟨ol, hol, _⟩ := id hls
  have hll : l < s.heap.objs.size := Heap.lt_size hol
  refine kmk_tree PySem.F.kind_min PySem.F.plain_min PySem.F.entry_min (kmk_min_key _ _) ?_
  show wpAny _ X.A.in1 (Builtin.Builtins.bindParams "min" ["key", "default"] 0 ⟨[], [(Str.ofString "key", .ref q)]⟩ >>= _) _ _ s
  refine wpAny_bind (wpAny_of_eq (show Builtin.Builtins.bindParams "min" ["key", "default"] 0 ⟨[], [(Str.ofString "key", .ref q)]⟩ = pure [some (.ref q), none] from rfl) ?_)
  refine wpAny_bind (wpAny_pure ?_)
  refine wpAny_bind (wpAny_pyIter_list hls ?_)
  refine wpAny_bind (wpAny_newList ?_ (Nat.zero_le _))
  rw [hname]
  have hS : (s.heap.push { cls := .type "list_iterator", data := .fields #[.ref l, .int 0 0] }).objs.size = s.heap.objs.size + 1 := size_push' ..
  have hlI : l ≠ s.heap.objs.size := Nat.ne_of_lt hll
  have hSI : (s.heap.push { cls := .type "list_iterator", data := .fields #[.ref l, .int 0 0] }).objs.size ≠ s.heap.objs.size := by rw [hS]; exact Nat.ne_of_gt (Nat.lt_succ_self _)
  have fpI : ∀ H' : Hp, H' s.heap.objs.size = none → FpOk X pins H' s.heap.objs.size := fun H' hn => I.fpOk (Nat.le_refl _) hn
  have fpS : ∀ H' : Hp, H' (s.heap.push { cls := .type "list_iterator", data := .fields #[.ref l, .int 0 0] }).objs.size = none → FpOk X pins H' (s.heap.push { cls := .type "list_iterator", data := .fields #[.ref l, .int 0 0] }).objs.size := fun H' hn => I.fpOk (by rw [hS]; exact Nat.le_succ _) hn
  have gI : ((s.heap.push { cls := .type "list_iterator", data := .fields #[.ref l, .int 0 0] }).push (seqObj "list" #[] 0)).get? s.heap.objs.size = some { cls := .type "list_iterator", data := .fields #[.ref l, .int 0 0] } :=
    Heap.get?_push_of_some _ (Heap.get?_push_size _ rfl)
  have gS : ((s.heap.push { cls := .type "list_iterator", data := .fields #[.ref l, .int 0 0] }).push (seqObj "list" #[] 0)).get? (s.heap.push { cls := .type "list_iterator", data := .fields #[.ref l, .int 0 0] }).objs.size = some (seqObj "list" #[] 0) := Heap.get?_push_size _ rfl
  have I1 : Inv X pins σ H { s with heap := (s.heap.push { cls := .type "list_iterator", data := .fields #[.ref l, .int 0 0] }).push (seqObj "list" #[] 0) } := I.kept (t' := s.toks) fun b o e => Heap.get?_push_of_some _ (Heap.get?_push_of_some _ e)
  generalize (s.heap.push { cls := .type "list_iterator", data := .fields #[.ref l, .int 0 0] }).objs.size = S at *
  refine wpAny_pure ⟨plainId_quiet PySem.F.plain_min_loop _, ?_⟩
  have hIn : H s.heap.objs.size = none := I.hok.fresh (Nat.le_refl _)
  have hSn : H S = none := I.hok.fresh (by rw [hS]; exact Nat.le_succ _)
  generalize s.heap.objs.size = I0 at *
  obtain ⟨us, rv, pl, hz⟩ := I1.list (hJl H hJ)
  have hul := rv.length
  have W := Walks.list (prog := X.prog) (w := X.w) (A := X.A.in1) hh I0 l hlI us.toArray
  have hsz : us.toArray.size = us.length := List.size_toArray ..
  refine codeAny_builtin PySem.F.entry_min_loop ?_
  rw [Around.under_plainId PySem.F.plain_min_loop _]
  show wpAny _ X.A.in1 (seqItems? (.ref S) >>= _) _ _ _
  refine wpAny_bind (wpAny_seqItems gS rfl ?_)
  show wpAny _ X.A.in1 (tryCatch (pyNext (.ref I0)) _ >>= _) _ _ _
  refine wpAny_bind (wpAny_tryCatch (W.item 0 _ _ _ (by rw [hsz]; omega) ⟨⟨_, gI, rfl, rfl⟩, pl.isList⟩ fun v h' tk' hP hst' hk' => ?_))
  have hv : us[0]? = some v := by simpa using hP
  obtain ⟨oI', hoI', hoc, hod⟩ := id hst'.1
  obtain ⟨x, hx, rx⟩ : ∃ x, xs[0]? = some x ∧ RelV x v := by
    obtain ⟨u', hu', ru'⟩ := rv.get (List.getElem?_eq_getElem hne)
    rw [hv] at hu'; cases hu'
    exact ⟨_, List.getElem?_eq_getElem hne, ru'⟩
  obtain ⟨k, hk⟩ : ∃ k, ks[0]? = some k := ⟨_, List.getElem?_eq_getElem (by omega)⟩
  have fI := fpI H hIn
  have fS := fpS H hSn
  have I2 : Inv X pins σ H { s with heap := h', toks := tk' } := I1.turned (fun b o hb q => hk' b o (by simpa using hb) q) fI.1 fI.2.1 fI.2.2.2.1 fI.2.2.2.2.1 fI.2.2.2.2.2
  have I3 : Inv X (pins ++ [(S, seqObj "list" #[] 0), (I0, oI')]) σ H { s with heap := h', toks := tk' } := I2.pins_of fun p hp => by
    rcases List.mem_append.mp hp with hp | hp
    · exact I2.pin p (List.mem_append_right _ hp)
    · rcases List.mem_cons.mp hp with rfl | hp
      · exact ⟨hk' S _ (by simpa using hSI) gS, fS.1, fS.2.1, fS.2.2.1, fun v z => by cases z⟩
      · rw [List.mem_singleton.mp hp]
        exact ⟨hoI', fI.1, fI.2.1, fI.2.2.1, fun v z => by rw [hod] at z; cases z⟩
  show wpAny _ X.A.in1 (tryCatch (holding [v] (call (.ref q) [v])) _ >>= _) _ _ _
  refine wpAny_bind (wpAny_tryCatch (wpAny_holding (wpAny_mono (turn 0 x v k H _ _ hx hk rx I3 hJ) (fun kv s2 he => ?_) fun _ _ hF => hF.elim)))
  obtain ⟨y2, H2, I4, hJ2, hsame, ry2, rp2⟩ := he
  have nS2 := I4.pin (S, seqObj "list" #[] 0) (List.mem_append_right _ (List.mem_append_right _ (.head _)))
  have s1 := Heap.SameBut.update s2.heap S (Obj.mapSeq fun _ => #[v, kv])
  obtain ⟨c2, hc2⟩ : ∃ c2, (s2.heap.update S (Obj.mapSeq fun _ => #[v, kv])).get? S = some (seqObj "list" #[v, kv] c2) := ⟨_, get?_update_seq nS2.1 fun _ => #[v, kv]⟩
  show wpAny _ X.A.in1 (updateSeq S (fun _ => #[v, kv]) >>= _) _ _ _
  refine wpAny_bind ?_
  refine wpAny_updateSeq nS2.1 rfl ?_
  rw [hname]
  have I5 : Inv X (pins ++ [(S, seqObj "list" #[v, kv] c2), (I0, oI')]) σ H2 { s2 with heap := s2.heap.update S (Obj.mapSeq fun _ => #[v, kv]) } := I4.reset (t' := s2.toks) (fpS H2 nS2.2.1) (fun q hq => by rw [List.mem_singleton.mp hq]; exact Ne.symm hSI) (fun c u hc q => (s1.2 c hc).trans q) hc2 (fun v z => by cases z)
  refine wpAny_pure ⟨plainId_quiet PySem.F.plain_min_loop _, minK_loop hh hlI hSI fpS fpI hJl hkl turn hlt tr asy (fun i x v H' s' h1 h2 h3 h4 h5 => hQ i x v H' s' h1 h2 h3 h4 h5) _ 0 0 H2 _ x y2 v kv k c2 oI' rfl hne I5 hJ2 ⟨hoc, hod⟩ hx rx hk ry2 rp2 (Nat.le_refl _) fun j' hj' => ?_⟩
  have e : j' = 0 := by omega
  subst e
  refine ⟨?_, fun h => absurd h (Nat.lt_irrefl _)⟩
  cases hq : lt 0 0 with
  | false => rfl
  | true => have := asy _ _ hq; rw [hq] at this; cases this
end
end L2

namespace L2
open PySem PySem.W PySem.Spec PyProof.Rows PySem.Calls
open PySem.MeetsSeq PySem.MeetsSeq2 PySem.MeetsSeq3
open AutoSeq1 (wpAny_loadPart')
theorem int_cons_lt {x y : Int} {xs ys : List Int} : decide (x :: xs < y :: ys) = if x = y then decide (xs < ys) else decide (x < y) := by
  by_cases h : x = y
  · subst h
    rw [if_pos rfl, Bool.eq_iff_iff]
    simp only [decide_eq_true_eq, List.cons_lt_cons_iff]
    exact ⟨fun h => h.elim (fun z => absurd z (Int.lt_irrefl _)) fun z => z.2, fun h => .inr ⟨trivial, h⟩⟩
  · rw [if_neg h, Bool.eq_iff_iff]
    simp only [decide_eq_true_eq, List.cons_lt_cons_iff]
    exact ⟨fun z => z.elim id fun z => absurd z.1 h, fun z => .inl z⟩
theorem fo_int (x y : Int) : decide ((D.int x).fo < (D.int y).fo) = decide (x < y) := by
  rw [Bool.eq_iff_iff]
  simp [D.fo, List.cons_lt_cons_iff]
theorem lt_loop (l b : Addr) (items items2 : Array Value) (n n2 : Nat) (dd dd2 : Option Addr) (sl sl2 : Array (Option Value)) (xs ys : List Int) (h1 : ∀ (i : Nat) (x : Int), xs[i]? = some x → ∃ t, items[i]? = some (Value.int x t)) (h2 : ∀ (i : Nat) (x : Int), ys[i]? = some x → ∃ t, items2[i]? = some (Value.int x t))
    (z1 : items.size = xs.length) (z2 : items2.size = ys.length) (hsz : xs.length = ys.length) (k : Nat) :
    ∀ i : Nat, xs.length - i = k → Meets (Builtin.«list.__eq__.loop» ⟨[.ref l, .ref b, rawInt i, rawInt 0], []⟩)
      (fun _ R s => s.heap.get? l = some { cls := .type "list", dict := dd, data := .seq items n, slots := sl } ∧ s.heap.get? b = some { cls := .type "list", dict := dd2, data := .seq items2 n2, slots := sl2 } ∧
        R (.ok (.ret (.bool (decide (xs.drop i < ys.drop i))))) s) := by
  induction k with
  | zero =>
    intro i hk prog w A R s h
    obtain ⟨hp, g, d, tk, os⟩ := s; obtain ⟨hl, hb, h⟩ := h
    wp_walk using wpAny_loadPart' hl, wpAny_loadPart' hb
    have hi1 : items[((i : Nat) : Int).toNat]? = none := by simp; omega
    have hi2 : items2[((i : Nat) : Int).toNat]? = none := by simp; omega
    have hd : xs.drop i = [] := by simp; omega
    have hd2 : ys.drop i = [] := by simp; omega
    rw [hd, hd2] at h
    rw [hi1, hi2]
    wp_walk using wpAny_loadPart' hl, wpAny_loadPart' hb
    show R (.ok (.ret (.bool (decide (items.size < items2.size))))) _
    rw [decide_eq_false (show ¬ items.size < items2.size by omega)]
    simpa using h
  | succ k ih =>
    intro i hk prog w A R s h
    obtain ⟨hp, g, d, tk, os⟩ := s; obtain ⟨hl, hb, h⟩ := h
    wp_walk using wpAny_loadPart' hl, wpAny_loadPart' hb
    have hlt : i < xs.length := by omega
    have hlt2 : i < ys.length := by omega
    obtain ⟨t1, e1⟩ := h1 i xs[i] (List.getElem?_eq_getElem hlt)
    obtain ⟨t2, e2⟩ := h2 i ys[i] (List.getElem?_eq_getElem hlt2)
    have hi1 : items[((i : Nat) : Int).toNat]? = some (.int xs[i] t1) := by simpa using e1
    have hi2 : items2[((i : Nat) : Int).toNat]? = some (.int ys[i] t2) := by simpa using e2
    have hc : ((i : Int) + 1) = ((i + 1 : Nat) : Int) := by push_cast; rfl
    rw [List.drop_eq_getElem_cons hlt, List.drop_eq_getElem_cons hlt2, int_cons_lt] at h
    rw [hi1, hi2]
    refine wpAny_bind (flat_eq (t := .i) (d := .int xs[i]) (e := .int ys[i]) rfl rfl ⟨t1, rfl⟩ ⟨t2, rfl⟩ ?_)
    by_cases he : xs[i] = ys[i]
    · rw [if_pos he] at h
      rw [decide_eq_true (show D.int xs[i] = D.int ys[i] by rw [he])]
      wp_walk
      rw [hc]
      exact ⟨plainId_quiet plain_eq_loop _, codeAny_builtin entry_eq_loop (by
        rw [Around.under_plainId plain_eq_loop _]
        exact ih (i + 1) (by omega) prog w A R _ ⟨hl, hb, h⟩)⟩
    · rw [if_neg he] at h
      rw [decide_eq_false (show ¬ D.int xs[i] = D.int ys[i] from fun z => he (by injection z))]
      wp_walk using wpAny_loadPart' hl, wpAny_loadPart' hb
      rw [hi1, hi2]
      refine wpAny_bind (rcLt_flat (t := .i) (d := .int xs[i]) (e := .int ys[i]) rfl rfl ⟨t1, rfl⟩ ⟨t2, rfl⟩ ?_)
      rw [fo_int]
      wp_walk
      simpa using h
theorem list_lt (l b : Addr) (items items2 : Array Value) (n n2 : Nat) (dd dd2 : Option Addr) (sl sl2 : Array (Option Value)) (xs ys : List Int) (h1 : ∀ (i : Nat) (x : Int), xs[i]? = some x → ∃ t, items[i]? = some (Value.int x t)) (h2 : ∀ (i : Nat) (x : Int), ys[i]? = some x → ∃ t, items2[i]? = some (Value.int x t))
    (z1 : items.size = xs.length) (z2 : items2.size = ys.length) (hsz : xs.length = ys.length) :
    Meets (Builtin.«list.__lt__» ⟨[.ref l, .ref b], []⟩)
      (fun _ R s => s.heap.get? l = some { cls := .type "list", dict := dd, data := .seq items n, slots := sl } ∧ s.heap.get? b = some { cls := .type "list", dict := dd2, data := .seq items2 n2, slots := sl2 } ∧
        R (.ok (.ret (.bool (decide (xs < ys))))) s) := by
  intro prog w A R s h
  obtain ⟨hp, g, d, tk, os⟩ := s; obtain ⟨hl, hb, h⟩ := h
  have f3 := AutoSeq1.sub_list_list
  wp_walk using wpAny_loadPart' hl, wpAny_loadPart' hb
  exact ⟨plainId_quiet plain_eq_loop _, codeAny_builtin entry_eq_loop (by
    rw [Around.under_plainId plain_eq_loop _]
    exact lt_loop l b items items2 n n2 dd dd2 sl sl2 xs ys h1 h2 z1 z2 hsz _ 0 rfl prog w A R _ ⟨hl, hb, by simpa using h⟩)⟩
inductive LexC (prog : Program) (w : World) (A : Around) (s : Shared) : List Value → List Value → Bool → Prop
  | nil : LexC prog w A s [] [] false
  | eq {u v : Value} {us vs : List Value} {r : Bool} (h : ∀ (E : Value → Shared → Prop) (Q : Bool → Shared → Prop), Q true s → wpAny (model prog w) A (eqBool u v) Q E s) (t : LexC prog w A s us vs r) : LexC prog w A s (u :: us) (v :: vs) r
  | ne {u v : Value} {us vs : List Value} {r : Bool} (h : ∀ (E : Value → Shared → Prop) (Q : Bool → Shared → Prop), Q false s → wpAny (model prog w) A (eqBool u v) Q E s) (g : ∀ (E : Value → Shared → Prop) (Q : Value → Shared → Prop), Q (.bool r) s → wpAny (model prog w) A (richCompare .Lt u v) Q E s) : LexC prog w A s (u :: us) (v :: vs) r
theorem tuple_lt_gen (prog : Program) (w : World) (l b : Addr) (items items2 : Array Value) (n n2 : Nat) (dd dd2 : Option Addr) (sl sl2 : Array (Option Value)) (hsz : items.size = items2.size) (r : Bool) :
    MeetsIn prog w (Builtin.«tuple.__lt__» ⟨[.ref l, .ref b], []⟩)
      (fun A R s => s.heap.get? l = some { cls := .type "tuple", dict := dd, data := .seq items n, slots := sl } ∧ s.heap.get? b = some { cls := .type "tuple", dict := dd2, data := .seq items2 n2, slots := sl2 } ∧
        LexC prog w A.in1 s items.toList items2.toList r ∧ R (.ok (.ret (.bool r))) s) :=
  .of_wp fun A R s h => by
    obtain ⟨hp, g, d, tk, os⟩ := s; obtain ⟨hl, hb, hx, h⟩ := h
    have f2 := AutoSeq1.sub_tuple_tuple
    wp_walk using wpAny_loadPart' hl, wpAny_loadPart' hb, wpAny_forIn_list _ (fun rest b s' => b.1 = none ∧ s' = ⟨hp, g, d, tk, os⟩ ∧ ∃ (vs ws : List Value), rest = vs.zip ws ∧ LexC prog w A.in1 ⟨hp, g, d, tk, os⟩ vs ws r) _
    case turn =>
      rintro ⟨y, x⟩ rest b s' ⟨hb', rfl, vs, ws, hz, hc⟩
      cases hc with
      | nil => cases hz
      | eq he ht =>
        rw [List.zip_cons_cons] at hz
        injection hz with hyx hrest
        injection hyx with hy hx
        subst hy hx
        refine wpAny_bind (he _ _ ?_)
        wp_walk
        exact ⟨rfl, rfl, _, _, hrest, ht⟩
      | ne he hg =>
        rw [List.zip_cons_cons] at hz
        injection hz with hyx hrest
        injection hyx with hy hx
        subst hy hx
        refine wpAny_bind (he _ _ ?_)
        refine wpAny_bind (wpAny_rule ?_)
        refine wpAny_bind (hg _ _ ?_)
        wp_walk
        exact ⟨_, rfl, by simpa using h⟩
    case fin =>
      rintro ⟨b1, b2⟩ s' ⟨hb', rfl, vs, ws, hz, hc⟩
      simp only at hb'
      subst hb'
      cases hc with
      | nil =>
        wp_walk
        exact ⟨_, rfl, by
          have hd : decide (items.size < items2.size) = false := decide_eq_false (by omega)
          simpa [Builtin.Tuple.tupleCompareSizes, hd] using h⟩
      | eq he ht => rw [List.zip_cons_cons] at hz; cases hz
      | ne he hg => rw [List.zip_cons_cons] at hz; cases hz
    case h =>
      exact ⟨rfl, rfl, items.toList, items2.toList, rfl, hx⟩
end L2

set_option maxHeartbeats 2000000
namespace L2
open PySem PySem.W PySem.Spec PyProof.Rows
def slots (n : Nat) (ds : List D) : List Sl := ds.map Sl.d ++ List.replicate (n - ds.length) .un
section
variable {K : PySem.W.Frag} {H : Hp} {vs : List V} {Q : VK} {X : XK} {N : List Str} {t : TS} {pre : List D → Prop}
theorem sat_start {G : Hp} {ds : List D} (sm : Same G H) (r : Reps K G ds vs) (hN : vs.length ≤ N.length) : Sat K G H G G H (start N vs) (slots N.length ds) := by
  have hl := r.length
  have ads : ∀ (i : Nat) s, (slots N.length ds)[i]? = some s → s.ads = [] := fun i s hs => by
    have hm := List.mem_of_getElem? hs
    unfold slots at hm
    rcases List.mem_append.mp hm with h | h
    · obtain ⟨d, _, rfl⟩ := List.mem_map.mp h; rfl
    · rw [List.eq_of_mem_replicate h]; rfl
  refine ⟨Ext.refl sm, Same.refl _, ?_, fun i s hs => ?_, fun i s hs => by rw [ads i s hs]; exact List.nodup_nil, fun i j s s' _ hs _ p hp => by rw [ads i s hs] at hp; cases hp⟩
  · unfold start slots; simp; lia
  · by_cases hi : i < ds.length
    · have e : (slots N.length ds)[i]? = some (.d ds[i]) := by
        unfold slots
        rw [List.getElem?_append_left (by simpa using hi), List.getElem?_map, List.getElem?_eq_getElem hi]; rfl
      rw [e] at hs
      cases hs
      obtain ⟨v, hv, rv⟩ := r.get' (List.getElem?_eq_getElem hi)
      refine ⟨v, ?_, rv⟩
      unfold start
      rw [List.getD_eq_getElem?_getD, List.getElem?_append_left (by simp; lia), List.getElem?_map, hv]; rfl
    · have hm : s = .un := by
        unfold slots at hs
        rw [List.getElem?_append_right (by simp; lia)] at hs
        exact List.eq_of_mem_replicate (List.mem_of_getElem? hs)
      rw [hm]; trivial
theorem go_spD {res : List D → D} (h : SpD K pre res vs H Q X) (hN : vs.length ≤ N.length) (body : ∀ G ds, pre ds → RtD K G H Q (res ds) → Go K G H G { nx := fun _ H' => Q .non H', rt := Q } (slots N.length ds) t) : t { nx := fun _ H' => Q .non H', rt := Q } (start N vs) H := by
  obtain ⟨G, ds, sm, r, hp, q⟩ := h
  exact body G ds hp (fun v F H' e r => q v F H' e r) G H _ (sat_start sm r hN)
theorem go_spO {res : List D → List D} (h : SpO K pre res vs H Q X) (hN : vs.length ≤ N.length) (body : ∀ G ds, pre ds → RtO K G H Q (res ds) → Go K G H G { nx := fun _ H' => Q .non H', rt := Q } (slots N.length ds) t) : t { nx := fun _ H' => Q .non H', rt := Q } (start N vs) H := by
  obtain ⟨G, ds, sm, r, hp, q⟩ := h
  exact body G ds hp (fun p ws F H' e h1 h2 h3 r => q p ws F H' e h1 h2 h3 r) G H _ (sat_start sm r hN)
theorem spD_len {res : List D → D} {n : Nat} (hpre : ∀ ds, pre ds → ds.length = n) (h : SpD K pre res vs H Q X) : vs.length = n := by
  obtain ⟨G, ds, sm, r, hp, q⟩ := h
  rw [← r.length]; exact hpre ds hp
theorem spO_len {res : List D → List D} {n : Nat} (hpre : ∀ ds, pre ds → ds.length = n) (h : SpO K pre res vs H Q X) : vs.length = n := by
  obtain ⟨G, ds, sm, r, hp, q⟩ := h
  rw [← r.length]; exact hpre ds hp
end
section
variable {K : PySem.W.Frag} {G H₀ L : Hp} {ss : List Sl} {t ta tb : TE} {d : D} {ds es : List D} {i j : Int}
theorem ev_mod (a : EvB K G H₀ L ss ta (.int i)) (b : EvB K G H₀ L ss tb (.int j)) (h : 0 < j) : Ev K G H₀ L ss (tOp (rI (fun _ j => 0 < j) fun i j => .int (i % j)) ta tb) (.int (i % j)) := ev_opI (C := fun _ j => 0 < j) (g := fun i j => i % j) a b h
theorem ev_fdiv (a : EvB K G H₀ L ss ta (.int i)) (b : EvB K G H₀ L ss tb (.int j)) (h : CDiv i j) : Ev K G H₀ L ss (tOp (rI CDiv fun i j => .int (i / j)) ta tb) (.int (i / j)) := ev_opI (C := CDiv) (g := fun i j => i / j) a b h
theorem ev_lt (a : EvB K G H₀ L ss ta (.int i)) (b : EvB K G H₀ L ss tb (.int j)) : Ev K G H₀ L ss (tOp (rI0 fun i j => .bl (decide (i < j))) ta tb) (.bl (decide (i < j))) := ev_cmpI (g := fun i j => decide (i < j)) a b
end
theorem sIx_at (n d : Nat) {a : Int} (h : 0 ≤ a) : HT.sIx n d (some a) = min a.toNat n := by
  show (if a < 0 then (a + (n : Int)).toNat else min a.toNat n) = _
  rw [if_neg (by lia)]
theorem cutD_mid (m : List D) {a b : Int} (h : 0 ≤ a) (h2 : a ≤ b) : cutD m (some a) (some b) = (m.drop a.toNat).take (b.toNat - a.toNat) := by
  unfold cutD
  rw [sIx_at _ _ h, sIx_at _ _ (by lia)]
  by_cases h3 : a.toNat ≤ m.length
  · rw [Nat.min_eq_left h3]
    by_cases h4 : b.toNat ≤ m.length
    · rw [Nat.min_eq_left h4]
    · rw [Nat.min_eq_right (by lia), List.take_of_length_le (by simp), List.take_of_length_le (by simp; lia)]
  · rw [List.drop_eq_nil_of_le (as := m) (i := a.toNat) (by lia), List.drop_eq_nil_of_le (by omega)]; simp
end L2

namespace L2
open PySem PySem.W PySem.Spec PyProof.Rows
theorem range_fm {α β : Type} (xs : List α) (z : α) (p : α → Bool) (f : α → β) : ((List.range xs.length).filter fun i => p (xs.getD i z)).map (fun i => f (xs.getD i z)) = (xs.filter p).map f := by
  have e : xs = (List.range xs.length).map fun i => xs.getD i z := by
    refine List.ext_getElem? fun i => ?_
    rw [List.getElem?_map]
    by_cases hi : i < xs.length
    · rw [List.getElem?_range hi, List.getElem?_eq_getElem hi]; simp [List.getD_eq_getElem?_getD, hi]
    · rw [List.getElem?_eq_none (by lia), List.getElem?_eq_none (by simp; lia)]; rfl
  conv => rhs; rw [e]
  rw [List.filter_map, List.map_map]
  rfl
section
variable {K : PySem.W.Frag} {G H₀ L : Hp} {ss : List Sl}
theorem evo_lcX {α : Type} (xs : List α) (enc : α → D) (p : α → Bool) (f : α → D) {tl : TE} {g : TG} {tt : TT} {te : TE} {nt : Nat} {cs : List Nat} (a : EvL K G H₀ L ss tl (xs.map enc)) (hk : GK nt g) (hc : cs.Nodup) (hz : xs.length < sizeLine)
    (hs : ∀ x ∈ xs, ∃ ss', Tg K G H₀ L g (enc x) (lcSl nt cs ss) ss' ∧ EvT K G H₀ L ss' tt (p x) ∧ (p x = true → Ev K G H₀ L ss' te (f x))) :
    EvO K G H₀ L ss (tLC nt cs (iList K tl) g tt te) ((xs.filter p).map f) := by
  cases xs with
  | nil =>
    have := evo_lcI (p := fun _ => true) (f := fun _ => .non) (tt := tt) (te := te) (evi_list a) hk hc (by simpa using hz) (fun i hi => by simp at hi)
    simpa using this
  | cons z zs =>
    have hl : ((z :: zs).map enc).length = (z :: zs).length := by simp
    have := evo_lcI (p := fun i => p ((z :: zs).getD i z)) (f := fun i => f ((z :: zs).getD i z)) (tt := tt) (te := te) (evi_list a) hk hc (by rw [hl]; exact hz) (fun i hi => by
      rw [hl] at hi
      have hm : (z :: zs).getD i z ∈ (z :: zs) := by
        rw [List.getD_eq_getElem?_getD, List.getElem?_eq_getElem hi]; exact List.getElem_mem hi
      have e : ((z :: zs).map enc).getD i .non = enc ((z :: zs).getD i z) := by
        rw [List.getD_eq_getElem?_getD, List.getElem?_map, List.getD_eq_getElem?_getD, List.getElem?_eq_getElem hi]; rfl
      rw [e]
      exact hs _ hm)
    rw [hl, range_fm] at this
    exact this
theorem evt_true : EvT K G H₀ L ss tTrue true := fun F H σ Q S q => q _ _ (Ext.refl S.ext.fh)
theorem evo_lcM {α : Type} (xs : List α) (enc : α → D) (f : α → D) {tl : TE} {g : TG} {te : TE} {nt : Nat} {cs : List Nat} (a : EvL K G H₀ L ss tl (xs.map enc)) (hk : GK nt g) (hc : cs.Nodup) (hz : xs.length < sizeLine)
    (hs : ∀ x ∈ xs, ∃ ss', Tg K G H₀ L g (enc x) (lcSl nt cs ss) ss' ∧ Ev K G H₀ L ss' te (f x)) :
    EvO K G H₀ L ss (tLC nt cs (iList K tl) g tTrue te) (xs.map f) := by
  have := evo_lcX xs enc (fun _ => true) f a hk hc hz (tt := tTrue) (te := te) fun x hx => by
    obtain ⟨ss', h1, h2⟩ := hs x hx
    exact ⟨ss', h1, evt_true, fun _ => h2⟩
  rw [show xs.filter (fun _ => true) = xs from List.filter_eq_self.mpr (by simp)] at this
  exact this
theorem ev_allM {α : Type} {xs : List α} {g : α → Bool} {t : TE} (b : EvL K G H₀ L ss t (xs.map fun x => D.bl (g x))) : Ev K G H₀ L ss (tCB (rAll K) (tCons t tNil)) (.bl (xs.all g)) := by
  have := ev_all (K := K) (G := G) (H₀ := H₀) (L := L) (ss := ss) (t := t) (bs := xs.map g) (by rw [List.map_map]; exact b)
  rw [List.all_map] at this
  exact this
end
end L2

set_option maxHeartbeats 4000000
namespace L2T
open PySem

structure TOk (t : SetTable) : Prop where
  pl : t.place.toList.Pairwise (· < ·)
  du : t.dummies.toList.Pairwise (· < ·)
  ple : ∀ j ∈ t.place.toList, j ≤ t.mask
  dle : ∀ j ∈ t.dummies.toList, j ≤ t.mask
  dis : ∀ j ∈ t.dummies.toList, j ∉ t.place.toList
  pow : ∃ k, t.mask + 1 = 2 ^ (k + 3)
  big : t.mask ≤ 8191

end L2T

namespace L2T
open PySem SetTable

def advM (mask : Nat) (p : Probe) : Probe :=
  if p.more > 0 then { p with j := p.j + 1, more := p.more - 1 } else
  let (i, perturb) := leap mask p.i p.perturb
  { p with j := i, more := runEnd mask i - i, i, perturb }
def stM (mask i perturb : Nat) : Probe := { j := i, more := runEnd mask i - i, i, perturb, dummy := none }
def prM (mask : Nat) (h : Int) : Nat → Probe
  | 0 => stM mask (bits h % (mask + 1)) (bits h)
  | n + 1 => advM mask (prM mask h n)
def posM (mask : Nat) (h : Int) (n : Nat) : Nat := (prM mask h n).j

def Reach (t : SetTable) (h : Int) (j : Nat) : Prop := ∃ n, posM t.mask h n = j ∧ ∀ m, m < n → t.slot (posM t.mask h m) ≠ .empty

end L2T

namespace L2T
open PySem SetTable

structure SOk {α : Type} (t : SetTable) (es : List (Int × α)) : Prop where
  ok : TOk t
  room : t.fill * 5 < t.mask * 3
  size : t.place.size = es.length
  reach : ∀ c ∈ t.place.toList.zip es, Reach t c.2.1 c.1

def lives (mask : Nat) (owner : Array (Option Nat)) : List (Nat × Nat) := (List.range (mask + 1)).filterMap fun j => (owner.getD j none).map (j, ·)

structure LInv (mask : Nat) (hs : List Int) (owner : Array (Option Nat)) : Prop where
  size : owner.size = mask + 1
  perm : ((lives mask owner).map (·.2)).Perm (List.range hs.length)
  reach : ∀ j i, owner.getD j none = some i → ∃ h, hs[i]? = some h ∧ ∃ n, posM mask h n = j ∧ ∀ q, q < n → owner.getD (posM mask h q) (some 0) ≠ none

end L2T

namespace L2T
open PySem SetTable

end L2T

namespace L2
open PySem PySem.Spec PyProof.Rows L2T

inductive SK where
  | one (k : Key)
  | many (ks : List Key)
  deriving DecidableEq
def SK.flat : SK → Bool
  | .one _ => true
  | .many _ => false
section
variable (prog : Program) (w : World)
def SK.is (h : Heap) : SK → Value → Prop
  | .one k, v => (mixKind prog w).is k v = true
  | .many ks, v => ∃ a, v = .ref a ∧ IsTupleKey (mixKind prog w) h ks a
def SK.hash : SK → Int
  | .one k => (mixKind prog w).hash k
  | .many ks => tupleKeyHash (mixKind prog w) ks
inductive Es (h : Heap) : List SK → List (Int × Value) → Prop
  | nil : Es h [] []
  | cons {k : SK} {e : Int × Value} {ks : List SK} {es : List (Int × Value)} : e.1 = k.hash prog w → k.is prog w h e.2 → Es h ks es → Es h (k :: ks) (e :: es)
def led0 : Bool := !w.params.followText "set-order"
structure SetO (h : Heap) (o : Obj) (ks : List SK) (es : Array (Int × Value)) (ep : Nat) (t : SetTable) : Prop where
  ex : o.ExactSet
  data : o.data = .set es ep t
  tab : SOk t es.toList
  ent : Es prog w h ks es.toList
  nod : ks.Nodup
  small : ks.length ≤ 1000
  led : t.led = led0 w
  kind : ∃ f, ∀ k ∈ ks, k.flat = f
end
end L2

namespace L2
open PySem PySem.Spec PyProof.Rows L2T
end L2

namespace L2
open PySem PySem.Spec PyProof.Rows L2T
end L2

namespace L2
open PySem PySem.Spec PyProof.Rows L2T
section
variable {prog : Program} {w : World} {A : Around} {E : Value → Shared → Prop} {s : Shared}
theorem small_fits {n : Nat} (h : n ≤ 1001) : n ≤ sizeLine := by rw [sizeLine_eq]; lia
end
end L2

namespace L2
open PySem PySem.Spec PyProof.Rows L2T
section
variable {prog : Program} {w : World} {A : Around} {E : Value → Shared → Prop} {s : Shared}
structure SetL (w : World) (o : Obj) (es : Array (Int × Value)) (ep : Nat) (t : SetTable) : Prop where
  data : o.data = .set es ep t
  tab : SOk t es.toList
  led : t.led = led0 w
end
end L2

namespace L2
open PySem PySem.Spec PyProof.Rows L2T
end L2

namespace L2
open PySem PySem.Spec PyProof.Rows L2T
end L2

namespace L2
open PySem PySem.Spec PyProof.Rows L2T
section
variable {prog : Program} {w : World} {A : Around} {E : Value → Shared → Prop} {s : Shared}
structure Part (prog : Program) (w : World) (k0 : List SK) (items : Array Value) (i : Nat) (ks : List SK) (es : Array (Int × Value)) : Prop where
  mem : ∀ k, k ∈ ks ↔ ∃ j : Nat, j < i ∧ k0[j]? = some k
  len : ks.length ≤ i
  ent : ∀ e ∈ es.toList, ∃ j : Nat, items[j]? = some e.2
end
end L2

namespace L2
open PySem PySem.Spec PyProof.Rows L2T
end L2

namespace L2
open PySem PySem.Spec PyProof.Rows L2T
end L2

namespace L2
open PySem PySem.Spec PyProof.Rows L2T
section
variable {prog : Program} {w : World} {A : Around} {E : Value → Shared → Prop} {s : Shared}
structure Took (kb : List SK) (p : SK → Bool) (es0 : List (Int × Value)) (kd : List SK) (kr : List SK) (er : Array (Int × Value)) : Prop where
  mem : ∀ k, k ∈ kr ↔ k ∈ kb ∨ (k ∈ kd ∧ p k = true)
  len : kr.length ≤ kb.length + kd.length
  ent : ∀ e ∈ er.toList, e ∈ es0
end
end L2

namespace L2
open PySem PySem.Spec PyProof.Rows L2T
end L2

namespace L2
open PySem PySem.Spec PyProof.Rows L2T
end L2

namespace L2
open PySem PySem.Spec PyProof.Rows L2T
end L2

namespace L2
open PySem PySem.Spec PyProof.Rows L2T
end L2

namespace L2
open PySem PySem.Spec PyProof.Rows L2T
end L2

namespace L2
open PySem PySem.Spec PyProof.Rows L2T
end L2

namespace L2
open PySem PySem.Spec PyProof.Rows L2T
def D.kk : D → Key
  | .int i => .inl i
  | .str l => .inr (T l)
  | _ => .inl 0
def D.fl : D → Bool
  | .int _ => true
  | .str _ => true
  | _ => false
def D.hk : Bool → D → Bool
  | true, d => d.fl
  | false, .tup ds => ds.all D.fl
  | false, _ => false
end L2

namespace L2
open PySem PySem.Spec PyProof.Rows L2T
end L2

namespace L2
open PySem PySem.W PyProof.Rows L2T
end L2

namespace L2
open PySem PySem.W PyProof.Rows L2T
end L2

namespace L2
open PySem PySem.W PyProof.Rows L2T
end L2

namespace L2
open PySem PySem.W PyProof.Rows L2T
def rCatD (K : PySem.W.Frag) : R2 := fun x y H Q => ∃ l b xs zs, x = .ref l ∧ y = .ref b ∧ SqL K H l xs ∧ SqL K H b zs ∧ xs.length + zs.length ≤ sizeLine ∧ ∀ p, H p = none → Q (.ref p) (upd H p (.lst (xs ++ zs)))
theorem op_catD {X : Cx} : OpR X (binaryOp .Add) (rCatD X.K) := by
  intro pins s σ H x y v u Q I rx ry h
  obtain ⟨l, b, xs, zs, rfl, rfl, hl, hb, hz, q⟩ := h
  cases rx
  cases ry
  obtain ⟨its, r, pl, _⟩ := I.list hl
  obtain ⟨its2, r2, pl2, _⟩ := I.list hb
  have z1 := r.length
  have z2 := r2.length
  obtain ⟨⟨cls, dd, data, sl⟩, ho, hc, n, hd⟩ := pl.isList
  obtain ⟨⟨cls2, dd2, data2, sl2⟩, ho2, hc2, n2, hd2⟩ := pl2.isList
  dsimp only at hc hd hc2 hd2
  subst hc; subst hd; subst hc2; subst hd2
  refine concat_meets ⟨_, ho, rfl⟩ ⟨_, ho2, rfl⟩ noFill_list_add seq_list_add PySem.F.slot_list_add PySem.F.entry_list_add (PySem.F.args_list_add_2 _ _) (list_addW l b its.toArray its2.toArray n n2 dd dd2 sl sl2 (by simp; lia)) ⟨ho, ho2, ?_⟩
  have ea : its.toArray ++ its2.toArray = (its ++ its2).toArray := by simp
  rw [ea]
  exact ⟨.ref _, _, I.lnew (t' := s.toks) (r.append r2) (by rw [List.length_append]; omega), rfl, q _ I.fresh⟩
section
variable {K : PySem.W.Frag} {G H₀ L : Hp} {ss : List Sl} {ta tb : TE} {da db : List D}
theorem evo_cat (a : EvL K G H₀ L ss ta da) (b : EvL K G H₀ L ss tb db) (hz : da.length + db.length ≤ sizeLine) : EvO K G H₀ L ss (tOp (rCatD K) ta tb) (da ++ db) := fun F H σ Q S q =>
  a F H σ _ S fun p vs F1 H1 e1 sq1 r1 => b F1 H1 σ _ (S.ext2 e1) fun p2 vs2 F2 H2 e2 sq2 r2 => by
    have l1 := r1.length
    have l2 := r2.length
    refine ⟨p, p2, vs, vs2, rfl, rfl, SqL.same e2.hh sq1, sq2, by lia, fun l hl => ?_⟩
    have e12 := e1.trans e2
    exact q l _ F2 _ (e12.newO hl) (e12.hh.free hl) (e12.fh.free hl) upd_same ((r1.mono e2.gf).append r2)
end
end L2

namespace L2
open PySem PySem.W PyProof.Rows L2T
end L2

namespace L2
open PySem PySem.W PyProof.Rows L2T
def EvOO (K : PySem.W.Frag) (G H₀ L : Hp) (ss : List Sl) (t : TE) (dss : List (List D)) : Prop := ∀ F H σ Q, Sat K G H₀ L F H σ ss →
  (∀ p (qs : List (Addr × List D)) F' H', Ext F H F' H' → H p = none → F' p = none → H' p = some (.lst (qs.map fun q => V.ref q.1)) → (∀ q ∈ qs, H q.1 = none ∧ F' q.1 = none ∧ ∃ vs, H' q.1 = some (.lst vs) ∧ Reps K F' q.2 vs) → (p :: qs.map (·.1)).Nodup → qs.map (·.2) = dss → Q (.ref p) H') → t σ H Q
def EvAO (K : PySem.W.Frag) (G H₀ L : Hp) (ss : List Sl) (t : TA) (dss : List (List D)) : Prop := ∀ F H σ (Q : List V → Hp → Prop), Sat K G H₀ L F H σ ss →
  (∀ (qs : List (Addr × List D)) F' H', Ext F H F' H' → (∀ q ∈ qs, H q.1 = none ∧ F' q.1 = none ∧ ∃ vs, H' q.1 = some (.lst vs) ∧ Reps K F' q.2 vs) → (qs.map (·.1)).Nodup → qs.map (·.2) = dss → Q (qs.map fun q => V.ref q.1) H') → t σ H Q
section
variable {K : PySem.W.Frag} {G H₀ L : Hp} {ss : List Sl} {i : Nat} {ta tk t1 : TE} {t : TA} {d : D} {ds : List D} {dss : List (List D)}
theorem evao_nil : EvAO K G H₀ L ss tNil [] := fun F H σ Q S q => q [] F H (Ext.refl S.ext.fh) (fun _ h => by cases h) List.nodup_nil rfl
theorem evoo_lst (a : EvAO K G H₀ L ss t dss) (hz : dss.length ≤ sizeLine) : EvOO K G H₀ L ss (tLst t) dss := fun F H σ Q S q =>
  a F H σ _ S fun qs F' H' e hq hn hm => ⟨by rw [List.length_map, show qs.length = dss.length by rw [← hm, List.length_map]]; exact hz, fun p hp => by
    refine q p qs F' _ (e.newO hp) (e.hh.free hp) (e.fh.free hp) upd_same (fun z hz => ?_) ?_ hm
    · obtain ⟨z1, z2, vs, z3, z4⟩ := hq z hz
      have : z.1 ≠ p := fun x => by rw [x, hp] at z3; cases z3
      exact ⟨z1, z2, vs, by rw [upd_ne this]; exact z3, z4⟩
    · rw [List.nodup_cons]
      refine ⟨fun hin => ?_, hn⟩
      obtain ⟨z, hz, x⟩ := List.mem_map.mp hin
      obtain ⟨_, _, vs, z3, _⟩ := hq z hz
      rw [x, hp] at z3; cases z3⟩
theorem Sat.getOO {F H : Hp} {σ : St} (S : Sat K G H₀ L F H σ ss) {p : Addr} {qs : List (Addr × List D)} (hs : ss[i]? = some (.oo p qs)) : σ[i]? = some (some (.ref p)) ∧ H₀ p = none ∧ F p = none ∧ H p = some (.lst (qs.map fun q => V.ref q.1)) ∧ ∀ q ∈ qs, OwnL K H₀ F H q.1 q.2 := by
  obtain ⟨v, e, ew, r⟩ := S.get hs (by intro z; cases z)
  cases ew
  exact ⟨e, r⟩
theorem Sat.setOO {F H : Hp} {σ : St} (S : Sat K G H₀ L F H σ ss) {qs : List (Addr × List D)} {p : Addr} (h0 : H₀ p = none) (fp : F p = none) (hp : H p = some (.lst (qs.map fun q => V.ref q.1))) (hq : ∀ q ∈ qs, OwnL K H₀ F H q.1 q.2) (hn : (p :: qs.map (·.1)).Nodup)
    (hne : ∀ (j : Nat) s', j ≠ i → ss[j]? = some s' → ∀ z ∈ p :: qs.map (·.1), z ∉ s'.ads) : Sat K G H₀ L F H (σ.set i (some (.ref p))) (ss.set i (.oo p qs)) :=
  S.put S.ext S.fl (by simp) (fun j hj => getD_set_ne (Ne.symm hj)) (fun hi => by rw [getD_set_self (by rw [S.len]; exact hi)]; exact ⟨rfl, h0, fp, hp, hq⟩) hn (fun j s' hj h q hq' => hne j s' hj h q hq') fun j s' _ h => S.ok j s' h
theorem go_setOO {E : Ends} (a : EvOO K G H₀ L ss ta dss) (h : ∀ p (qs : List (Addr × List D)), qs.map (·.2) = dss → Nx K G H₀ L E.nx (ss.set i (.oo p qs))) : Go K G H₀ L E ss (tAsg ta (gName i)) := fun F H σ S =>
  a F H σ _ S fun p qs F' H' e hp fp hp' hq hn hm => by
    have S' := S.ext2 e
    have live : ∀ z, H z = none → ∀ (j : Nat) s', ss[j]? = some s' → z ∉ s'.ads := fun z hz j s' hs hin => (S.ok j s' hs).live hin hz
    refine h p qs hm F' H' _ (S'.setOO (S.ext.hh.free hp) fp hp' (fun q hqm => ?_) hn fun j s' _ hs z hz => ?_)
    · obtain ⟨z1, z2, vs, z3, z4⟩ := hq q hqm
      exact ⟨S.ext.hh.free z1, z2, vs, z3, z4⟩
    · rcases List.mem_cons.mp hz with rfl | hz
      · exact live _ hp j s' hs
      · obtain ⟨q, hqm, rfl⟩ := List.mem_map.mp hz
        exact live _ (hq q hqm).1 j s' hs
theorem Sat.writeOO {F H : Hp} {σ : St} (S : Sat K G H₀ L F H σ ss) {p q : Addr} {qs : List (Addr × List D)} {j : Nat} {es : List D} {vs : List V} (hs : ss[i]? = some (.oo p qs)) (hj : qs[j]? = some (q, ds)) (r : Reps K F es vs) :
    Sat K G H₀ L F (upd H q (.lst vs)) σ (ss.set i (.oo p (qs.set j (q, es)))) := by
  obtain ⟨e, h0, fp, hp, hq⟩ := S.getOO hs
  have hnd := S.nd i _ hs
  have hmem := List.mem_of_getElem? hj
  obtain ⟨q0, qf, ws, hqw, rq⟩ := hq _ hmem
  have hget : σ.getD i none = some (.ref p) := by rw [List.getD_eq_getElem?_getD, e]; rfl
  have hpq : p ≠ q := by
    have : (p :: qs.map (·.1)).Nodup := hnd
    rw [List.nodup_cons] at this
    exact fun z => this.1 (z ▸ List.mem_map.mpr ⟨_, hmem, rfl⟩)
  have hmapf : (qs.set j (q, es)).map (·.1) = qs.map (·.1) := by
    rw [List.map_set]
    refine List.ext_getElem? fun k => ?_
    by_cases hk : j = k
    · subst hk
      have hl := (List.getElem?_eq_some_iff.mp hj).1
      rw [List.getElem?_set_self (by simpa using hl), List.getElem?_map, hj]; rfl
    · rw [List.getElem?_set_ne hk]
  have hmapr : (qs.set j (q, es)).map (fun z => V.ref z.1) = qs.map fun z => V.ref z.1 := by
    have := congrArg (List.map V.ref) hmapf
    rw [List.map_map, List.map_map] at this
    exact this
  have hdup : ∀ k z, qs[k]? = some z → k ≠ j → z.1 ≠ q := fun k z hk hkj hz => by
    have hn2 : (qs.map (·.1)).Nodup := (List.nodup_cons.mp hnd).2
    unfold List.Nodup at hn2
    rw [List.pairwise_iff_getElem] at hn2
    have hkl := (List.getElem?_eq_some_iff.mp hk)
    have hjl := (List.getElem?_eq_some_iff.mp hj)
    have e1 : (qs.map (·.1))[k]'(by simpa using hkl.1) = q := by rw [List.getElem_map, hkl.2]; exact hz
    have e2 : (qs.map (·.1))[j]'(by simpa using hjl.1) = q := by rw [List.getElem_map, hjl.2]
    rcases Nat.lt_or_ge k j with c | c
    · exact hn2 k j (by simpa using hkl.1) (by simpa using hjl.1) c (e1.trans e2.symm)
    · exact hn2 j k (by simpa using hjl.1) (by simpa using hkl.1) (by lia) (e2.trans e1.symm)
  refine S.put (S.ext.write qf q0) S.fl rfl (fun _ _ => rfl) (fun _ => ?_) (by show (p :: (qs.set j (q, es)).map (·.1)).Nodup; rw [hmapf]; exact hnd) (fun k s' hk h z hz => ?_) fun k s' hk h => (S.ok k s' h).updNe (S.ne i k _ s' (Ne.symm hk) hs h q (by simp [Sl.ads]; exact .inr ⟨_, hmem⟩))
  · rw [hget]
    refine ⟨rfl, h0, fp, by rw [upd_ne hpq, hmapr]; exact hp, fun z hz => ?_⟩
    obtain ⟨k, hk⟩ := List.mem_iff_getElem?.mp hz
    by_cases hkj : j = k
    · subst hkj
      rw [List.getElem?_set_self (List.getElem?_eq_some_iff.mp hj).1] at hk
      cases hk
      exact ⟨q0, qf, vs, upd_same, r⟩
    · rw [List.getElem?_set_ne hkj] at hk
      exact (hq z (List.mem_of_getElem? hk)).updNe (hdup k z hk (Ne.symm hkj))
  · have hz' : z ∈ p :: (qs.set j (q, es)).map (·.1) := hz
    rw [hmapf] at hz'
    exact S.ne i k _ s' (Ne.symm hk) hs h z hz'
theorem Sat.freezeOO {F H : Hp} {σ : St} (S : Sat K G H₀ L F H σ ss) {p : Addr} {qs : List (Addr × List D)} (hs : ss[i]? = some (.oo p qs)) : ∃ F', Sat K G H₀ L F' H σ (ss.set i (.d (.lst (qs.map fun q => .lst q.2)))) := by
  obtain ⟨e, h0, fp, hp, hq⟩ := S.getOO hs
  have hget : σ.getD i none = some (.ref p) := by rw [List.getD_eq_getElem?_getD, e]; rfl
  have off : ∀ b, b ∈ p :: qs.map (·.1) → H₀ b = none ∧ F b = none := fun b hb => by
    rcases List.mem_cons.mp hb with rfl | hb
    · exact ⟨h0, fp⟩
    · obtain ⟨q, hqm, rfl⟩ := List.mem_map.mp hb
      exact ⟨(hq q hqm).1, (hq q hqm).2.1⟩
  let F' : Hp := fun b => if b ∈ p :: qs.map (·.1) then H b else F b
  have fin : ∀ b, b ∈ p :: qs.map (·.1) → F' b = H b := fun b hb => if_pos hb
  have fout : ∀ b, b ∉ p :: qs.map (·.1) → F' b = F b := fun b hb => if_neg hb
  have ff : Same F F' := fun b o h => by
    have : b ∉ p :: qs.map (·.1) := fun hb => by rw [(off b hb).2] at h; cases h
    rw [fout b this]; exact h
  have fh : Same F' H := fun b o h => by
    by_cases hb : b ∈ p :: qs.map (·.1)
    · rw [fin b hb] at h; exact h
    · rw [fout b hb] at h; exact S.ext.fh b o h
  have ex : Ext G H₀ F' H := ⟨S.ext.gf.trans ff, fh, S.ext.hh, fun b o h => by
    have : b ∉ p :: qs.map (·.1) := fun hb => by rw [(off b hb).1] at h; cases h
    rw [fout b this]; exact S.ext.no b o h⟩
  refine ⟨F', S.put ex (S.fl.trans ff) rfl (fun _ _ => rfl) (fun _ => ?_) (by simp [Sl.ads]) (fun _ _ _ _ q hq => by simp [Sl.ads] at hq) fun j s' hj h => ?_⟩
  · rw [hget]
    refine ⟨_, rfl, Rep.lst (SqL.of ((fin p List.mem_cons_self).trans hp)) ?_⟩
    have key : ∀ zs : List (Addr × List D), (∀ z ∈ zs, z ∈ qs) → Reps K F' (zs.map fun q => .lst q.2) (zs.map fun q => V.ref q.1) := by
      intro zs
      induction zs with
      | nil => intro _; exact Reps.nil
      | cons z zs ih =>
        intro hz
        obtain ⟨_, _, vs, hv, r⟩ := hq z (hz z List.mem_cons_self)
        exact Reps.cons (Rep.lst (SqL.of ((fin z.1 (List.mem_cons_of_mem _ (List.mem_map.mpr ⟨z, hz z List.mem_cons_self, rfl⟩))).trans hv)) (r.mono ff)) (ih fun y hy => hz y (List.mem_cons_of_mem _ hy))
    exact key qs fun z h => h
  · have dis : ∀ b ∈ s'.ads, b ∉ p :: qs.map (·.1) := fun b hb hb2 => S.ne i j _ s' (Ne.symm hj) hs h b hb2 hb
    have own : ∀ {b : Addr} {xs : List D}, b ∈ s'.ads → OwnL K H₀ F H b xs → OwnL K H₀ F' H b xs := fun hb ⟨a1, a2, vs, a3, a4⟩ => ⟨a1, by rw [fout _ (dis _ hb)]; exact a2, vs, a3, a4.mono ff⟩
    have ok := S.ok j s' h
    cases s' with
    | un => trivial
    | d x => obtain ⟨v, ev, r⟩ := ok; exact ⟨v, ev, r.mono ff⟩
    | o b xs => exact ⟨ok.1, own (by simp [Sl.ads]) ok.2⟩
    | oo b zs =>
      obtain ⟨a1, a2, a3, a4, a5⟩ := ok
      exact ⟨a1, a2, by rw [fout b (dis b (by simp [Sl.ads]))]; exact a3, a4, fun z hz => own (by simp [Sl.ads]; exact .inr ⟨_, hz⟩) (a5 z hz)⟩
    | g v as W =>
      obtain ⟨a1, a2, a3, a4⟩ := ok
      refine ⟨a1, fun b hb => ?_, a4 _ _ _ _ ff (fun _ _ => rfl) a3, a4⟩
      obtain ⟨b1, b2, b3⟩ := a2 b hb
      exact ⟨b1, by rw [fout b (dis b hb)]; exact b2, b3⟩
theorem nx_freezeOO {N : St → Hp → Prop} {p : Addr} {qs : List (Addr × List D)} (hs : ss[i]? = some (.oo p qs)) (h : Nx K G H₀ L N (ss.set i (.d (.lst (qs.map fun q => .lst q.2))))) : Nx K G H₀ L N ss := fun F H σ S => by
  obtain ⟨F', S'⟩ := S.freezeOO hs
  exact h F' H σ S'
end
end L2

namespace L2
open PySem PySem.W PyProof.Rows L2T
end L2

namespace L2
open PySem PySem.W PySem.Spec PyProof.Rows
end L2

namespace L2
open PySem PySem.W PySem.Spec PyProof.Rows
end L2

namespace L2
open PySem PySem.W PyProof.Rows L2T
section
variable {K : PySem.W.Frag} {G H₀ L : Hp} {ss : List Sl} {ta tb t : TE}
theorem evi_range {ta : TA} {n : Int} (a : EvA K G H₀ L ss ta [.int n]) (hb : -(2 ^ 62) ≤ n ∧ n < 2 ^ 62) : EvI K G H₀ L ss (iRng1 ta) n.toNat fun i => .int (i : Int) := fun F H σ R S q =>
  a F H σ _ S fun vs F1 H1 e1 r1 => by
    rw [Reps] at r1
    obtain ⟨x, r, rfl, rx, r1⟩ := r1
    rw [Reps] at r1
    subst r1
    rw [rx.of_int]
    refine ⟨n, rfl, hb.1, hb.2, q F1 H1 _ e1 fun F2 H2 f1 h1 fh => ⟨fun i hi => ⟨hi, fun x H3 y => ?_⟩, Nat.le_refl _⟩⟩
    obtain ⟨rfl, rfl⟩ := y
    refine ⟨F2, Ext.refl fh, ?_⟩
    have e : (0 : Int) + (i : Int) = (i : Int) := by lia
    rw [e]
    exact Rep.int
theorem ev_maxI {i j : Int} (a : EvB K G H₀ L ss ta (.int i)) (b : EvB K G H₀ L ss tb (.int j)) : Ev K G H₀ L ss (tCB (fun xs H Q => ∃ i j, xs = [.int i, .int j] ∧ Q (.int (if j > i then j else i)) H) (tCons ta (tCons tb tNil))) (.int (if j > i then j else i)) := fun F H σ Q S q =>
  a F H σ _ S fun v F1 H1 e1 r1 => b F1 H1 σ _ (S.ext2 e1) fun v2 F2 H2 e2 r2 => by
    rw [r1.of_int, r2.of_int]
    exact ⟨i, j, rfl, q _ F2 H2 (e1.trans e2) Rep.int⟩
theorem ev_minI {i j : Int} (a : EvB K G H₀ L ss ta (.int i)) (b : EvB K G H₀ L ss tb (.int j)) : Ev K G H₀ L ss (tCB (fun xs H Q => ∃ i j, xs = [.int i, .int j] ∧ Q (.int (if j < i then j else i)) H) (tCons ta (tCons tb tNil))) (.int (if j < i then j else i)) := fun F H σ Q S q =>
  a F H σ _ S fun v F1 H1 e1 r1 => b F1 H1 σ _ (S.ext2 e1) fun v2 F2 H2 e2 r2 => by
    rw [r1.of_int, r2.of_int]
    exact ⟨i, j, rfl, q _ F2 H2 (e1.trans e2) Rep.int⟩
theorem ev_gt {i j : Int} (a : EvB K G H₀ L ss ta (.int i)) (b : EvB K G H₀ L ss tb (.int j)) : Ev K G H₀ L ss (tOp (rI0 fun i j => .bl (decide (j < i))) ta tb) (.bl (decide (j < i))) := ev_cmpI (g := fun i j => decide (j < i)) a b
end
end L2

namespace L2
open PySem PySem.W PySem.Spec PyProof.Rows
def SpRD (K : PySem.W.Frag) (pre : List D → Prop) (R : List D → D → Prop) : Sp := fun vs H Q _ => ∃ G ds, Same G H ∧ Reps K G ds vs ∧ pre ds ∧ ∀ r, R ds r → ∀ v G' H', Ext G H G' H' → Rep K G' r v → Q v H'
section
variable {K : PySem.W.Frag} {H : Hp} {vs : List V} {Q : VK} {X : XK} {N : List Str} {t : TS} {pre : List D → Prop} {R : List D → D → Prop}
theorem go_spRD (h : SpRD K pre R vs H Q X) (hN : vs.length ≤ N.length) (body : ∀ G ds, pre ds → (∀ r, R ds r → RtD K G H Q r) → Go K G H G { nx := fun _ H' => Q .non H', rt := Q } (slots N.length ds) t) : t { nx := fun _ H' => Q .non H', rt := Q } (start N vs) H := by
  obtain ⟨G, ds, sm, r, hp, q⟩ := h
  exact body G ds hp (fun rs hR v F H' e r => q rs hR v F H' e r) G H _ (sat_start sm r hN)
theorem spRD_len {n : Nat} (hpre : ∀ ds, pre ds → ds.length = n) (h : SpRD K pre R vs H Q X) : vs.length = n := by
  obtain ⟨G, ds, sm, r, hp, q⟩ := h
  rw [← r.length]; exact hpre ds hp
end
section
variable {K : PySem.W.Frag} {G H₀ L : Hp} {ss : List Sl} {t : TA} {ds : List D} {pre : List D → Prop} {R : List D → D → Prop} {E : XK} {D0 : Ends} {ta tb te : TE} {i j : Int}
theorem go_asgRD {g : TG} (a : EvAF K G H₀ L ss t ds) (hp : pre ds) (h : ∀ r, R ds r → ∃ ss', Tg K G H₀ L g r ss ss' ∧ Nx K G H₀ L D0.nx ss') : Go K G H₀ L D0 ss (tAsg (tCall (SpRD K pre R) [] E t) g) := fun F H σ S =>
  a F H σ _ S fun vs F1 H1 e1 r1 => ⟨F1, ds, e1.fh, by rw [List.append_nil]; exact r1, hp, fun r hR v G' H' e2 rr => by
    obtain ⟨ss', tg, nx⟩ := h r hR
    exact tg _ H' σ _ _ (S.ext2 (e1.trans e2)) rr fun σ' S' => nx _ H' σ' S'⟩
theorem ev_isIB (a : EvB K G H₀ L ss te (.int i)) : Ev K G H₀ L ss (tCB (fun xs H Q => ∃ x, xs = [.int x, .ty "bool"] ∧ Q (.bl false) H) (tCons te (tCons (tC (.ty "bool")) tNil))) (.bl false) := fun F H σ Q S q =>
  a F H σ _ S fun v F1 H1 e1 r1 => ⟨i, by rw [r1.of_int], q _ _ _ e1 Rep.bl⟩
theorem ev_absI (a : EvB K G H₀ L ss te (.int i)) : Ev K G H₀ L ss (tCB (fun xs H Q => ∃ i, xs = [.int i] ∧ Q (.int (if i < 0 then -i else i)) H) (tCons te tNil)) (.int (if i < 0 then -i else i)) := fun F H σ Q S q =>
  a F H σ _ S fun v F1 H1 e1 r1 => ⟨i, by rw [r1.of_int], q _ _ _ e1 Rep.int⟩
theorem ev_neg (a : EvB K G H₀ L ss te (.int i)) : Ev K G H₀ L ss (tUn (rU fun i => .int (-i)) te) (.int (-i)) := fun F H σ Q S q =>
  a F H σ _ S fun v F1 H1 e1 r1 => ⟨i, by rw [r1.of_int], q _ _ _ e1 Rep.int⟩
theorem ev_pow (a : EvB K G H₀ L ss ta (.int i)) (b : EvB K G H₀ L ss tb (.int j)) (h : CPow i j) : Ev K G H₀ L ss (tOp (rI CPow fun i j => .int (i ^ j.toNat)) ta tb) (.int (i ^ j.toNat)) := ev_opI (C := CPow) (g := fun i j => i ^ j.toNat) a b h
end
end L2

namespace L2
open PySem PySem.W PySem.Spec PyProof.Rows PySem.Builtin PySem.Builtin.Str PySem.StrLaws
end L2

namespace L2
open PySem PySem.W PySem.Spec PyProof.Rows PySem.Builtin PySem.Builtin.Str
end L2

namespace L2
open PySem PySem.W PySem.Spec PyProof.Rows
end L2

namespace L2
open PySem PySem.W PyProof.Rows
end L2

namespace L2
open PySem PySem.W PyProof.Rows
section
variable {X : Cx} {pins : List (Addr × Obj)} {σ : St} {H : Hp} {s : Shared} {A' : Around}
theorem Inv.eqAt (I : Inv X pins σ H s) {d e : D} {x y : V} {u v : Value} (r1 : Rep X.K H d x) (rx : RelV x u) (r2 : Rep X.K H e y) (ry : RelV y v) (n1 : d.nb = true) (n2 : e.nb = true) (hd : d.dep ≤ 60) (hu : A'.units + 64 < cLine) : SeqAt.EqAt A' s u v (decide (d = e)) := by
  obtain ⟨⟨as, a⟩, c1⟩ := I.reads n1 r1 rx
  obtain ⟨⟨bs, b⟩, c2⟩ := I.reads n2 r2 ry
  have h1 := D.toP_depth d
  have := SeqAt.eqAt_reads d.toP e.toP A' s u v as bs a b c1 c2 (by lia)
  rw [D.eqv d e n1 n2] at this
  exact this
def D.hd : D → D
  | .tup (h :: _) => h
  | d => d
end
end L2

namespace L2
open PySem PySem.W PySem.Spec PyProof.Rows PySem.Calls
def keyD (a b : Int) (xs : List Int) : D := .tup [.int a, .int b, .lst (xs.map .int)]
section
variable {X : Cx} {pins : List (Addr × Obj)} {σ : St} {H : Hp} {s : Shared} {A' : Around}
theorem vals_int_at {us : List Value} : ∀ {xs : List Int}, Vals (xs.map V.int) us → ∀ (i : Nat) (x : Int), xs[i]? = some x → ∃ t, us.toArray[i]? = some (Value.int x t) := fun {xs} r i x h => by
  obtain ⟨u, hu, ru⟩ := r.get (i := i) (x := V.int x) (by rw [List.getElem?_map, h]; rfl)
  obtain ⟨t, rfl⟩ := ru
  exact ⟨t, by simpa using hu⟩
theorem reps_int_vals {F : Hp} : ∀ {ns : List Int} {vs : List V}, Reps X.K F (ns.map D.int) vs → vs = ns.map V.int
  | [], vs, r => by rw [List.map_nil, Reps] at r; exact r
  | n :: ns, vs, r => by
    rw [List.map_cons, Reps] at r
    obtain ⟨v, ws, rfl, h1, h2⟩ := r
    rw [h1.of_int, reps_int_vals h2]; rfl
theorem map_int_inj : ∀ {xs ys : List Int}, xs.map D.int = ys.map D.int → xs = ys
  | [], [], _ => rfl
  | [], _ :: _, h => by simp at h
  | _ :: _, [], h => by simp at h
  | x :: xs, y :: ys, h => by
    rw [List.map_cons, List.map_cons] at h
    injection h with h1 h2
    injection h1 with h1
    rw [h1, map_int_inj h2]
theorem Inv.key (I : Inv X pins σ H s) {a b : Int} {xs : List Int} {y : V} {u : Value} (r : Rep X.K H (keyD a b xs) y) (ry : RelV y u) :
    ∃ p o its n t1 t2 q y3, u = .ref p ∧ s.heap.get? p = some o ∧ o.cls = .type "tuple" ∧ o.data = .seq its n ∧ its.toList = [Value.int a t1, Value.int b t2, Value.ref q] ∧ Rep X.K H (.lst (xs.map .int)) y3 ∧ RelV y3 (.ref q) ∧
      ∃ ol us m, s.heap.get? q = some ol ∧ ol.cls = .type "list" ∧ ol.data = .seq us m ∧ us.size = xs.length ∧ ∀ (i : Nat) (x : Int), xs[i]? = some x → ∃ t, us[i]? = some (Value.int x t) := by
  obtain ⟨p, vs, rfl, sq, rs⟩ := r.of_tup
  cases ry
  obtain ⟨its, rv, ⟨o, e, c, n, hd⟩, _⟩ := I.tuple sq
  rw [Reps] at rs
  obtain ⟨x1, vs, rfl, r1, rs⟩ := rs
  rw [Reps] at rs
  obtain ⟨x2, vs, rfl, r2, rs⟩ := rs
  rw [Reps] at rs
  obtain ⟨x3, vs, rfl, r3, rs⟩ := rs
  rw [Reps] at rs
  subst rs
  have e1 := r1.of_int
  have e2 := r2.of_int
  subst e1 e2
  obtain ⟨q, ws, rfl, sq3, rs3⟩ := id r3.of_lst
  have ew := reps_int_vals rs3
  subst ew
  cases rv with
  | cons a1 rv => cases rv with
    | cons a2 rv => cases rv with
      | cons a3 rv =>
        cases rv
        obtain ⟨t1, rfl⟩ := a1
        obtain ⟨t2, rfl⟩ := a2
        cases a3
        obtain ⟨us, rv2, ⟨ol, m, e3, c3, _, d3⟩, _⟩ := I.list sq3
        have hl := rv2.length
        rw [List.length_map] at hl
        exact ⟨p, o, _, n, t1, t2, q, .ref q, rfl, e, c, hd, rfl, r3, rfl, ol, us.toArray, m, e3, c3, d3, by simp [hl], vals_int_at rv2⟩
theorem key_lt (I : Inv X pins σ H s) {a b a' b' : Int} {xs ys : List Int} {y z : V} {u v : Value} {C : Value → Shared → Prop} {E : Value → Shared → Prop} (r1 : Rep X.K H (keyD a b xs) y) (ry : RelV y u) (r2 : Rep X.K H (keyD a' b' ys) z) (rz : RelV z v) (hl : xs.length = ys.length) (hu : A'.units + 70 < cLine)
    (hC : C (.bool (decide (a :: b :: xs < a' :: b' :: ys))) s) : wpAny (model X.prog X.w) A' (richCompare .Lt u v) C E s := by
  obtain ⟨p, ⟨cls, dd, data, sl⟩, its, n, t1, t2, q, y3, rfl, ho, hc, hd, hits, r3, ry3, ⟨clsl, ddl, datal, sll⟩, us, m, hq, hcl, hdl, hus, hui⟩ := I.key r1 ry
  obtain ⟨p', ⟨cls', dd', data', sl'⟩, its', n', t1', t2', q', y3', rfl, ho', hc', hd', hits', r3', ry3', ⟨clsl', ddl', datal', sll'⟩, us', m', hq', hcl', hdl', hus', hui'⟩ := I.key r2 rz
  simp only at hc hd hc' hd' hcl hdl hcl' hdl'
  subst hc hd hc' hd' hcl hdl hcl' hdl'
  have z1 : its.size = 3 := by rw [← Array.length_toList, hits]; rfl
  have z2 : its'.size = 3 := by rw [← Array.length_toList, hits']; rfl
  have hlex : LexC X.prog X.w A'.in1 s its.toList its'.toList (decide (a :: b :: xs < a' :: b' :: ys)) := by
    rw [hits, hits', int_cons_lt]
    by_cases ha : a = a'
    · rw [if_pos ha, int_cons_lt]
      refine .eq (fun E Q hQ => flat_eq (t := .i) (d := .int a) (e := .int a') rfl rfl ⟨t1, rfl⟩ ⟨t1', rfl⟩ (by rw [decide_eq_true (show D.int a = D.int a' by rw [ha])]; exact hQ)) ?_
      by_cases hb : b = b'
      · rw [if_pos hb]
        refine .eq (fun E Q hQ => flat_eq (t := .i) (d := .int b) (e := .int b') rfl rfl ⟨t2, rfl⟩ ⟨t2', rfl⟩ (by rw [decide_eq_true (show D.int b = D.int b' by rw [hb])]; exact hQ)) ?_
        have nb : ∀ zs : List Int, (D.lst (zs.map .int)).nb = true := fun zs => by rw [D.nb_lst]; exact D.nbs_map (fun _ => rfl) zs
        have dp : (D.lst (xs.map .int)).dep ≤ 60 := by rw [D.dep_lst]; have := D.deps_map (enc := D.int) (n := 0) (fun _ => Nat.le_refl _) xs; omega
        have heq := I.eqAt (A' := A'.in1) r3 ry3 r3' ry3' (nb xs) (nb ys) dp (by show A'.units + 1 + 64 < _; omega)
        by_cases hx : xs = ys
        · subst hx
          rw [decide_eq_false (List.lt_irrefl _)]
          rw [decide_eq_true rfl] at heq
          exact .eq (fun E Q hQ => heq _ _ _ _ hQ) .nil
        · rw [decide_eq_false (fun z => hx (by
            injection z with z
            exact map_int_inj z))] at heq
          refine .ne (fun E Q hQ => heq _ _ _ _ hQ) fun E Q hQ => ?_
          exact richCompare_meets_room (op := .Lt) ⟨_, hq, rfl⟩ ⟨_, hq', rfl⟩ PySem.F.slot_list_lt PySem.F.entry_list_lt (PySem.F.args_list_lt_2 _ _) (list_lt q q' us us' m m' ddl ddl' sll sll' xs ys hui hui' hus hus' hl) ⟨hq, hq', (fun z => nomatch z), hQ⟩ (by show A'.units + 1 < _; omega)
      · rw [if_neg hb]
        refine .ne (fun E Q hQ => flat_eq (t := .i) (d := .int b) (e := .int b') rfl rfl ⟨t2, rfl⟩ ⟨t2', rfl⟩ (by rw [decide_eq_false (show ¬ D.int b = D.int b' from fun z => hb (by injection z))]; exact hQ)) fun E Q hQ => rcLt_flat (t := .i) (d := .int b) (e := .int b') rfl rfl ⟨t2, rfl⟩ ⟨t2', rfl⟩ (by rw [fo_int]; exact hQ)
    · rw [if_neg ha]
      refine .ne (fun E Q hQ => flat_eq (t := .i) (d := .int a) (e := .int a') rfl rfl ⟨t1, rfl⟩ ⟨t1', rfl⟩ (by rw [decide_eq_false (show ¬ D.int a = D.int a' from fun z => ha (by injection z))]; exact hQ)) fun E Q hQ => rcLt_flat (t := .i) (d := .int a) (e := .int a') rfl rfl ⟨t1, rfl⟩ ⟨t1', rfl⟩ (by rw [fo_int]; exact hQ)
  exact wpAny_richCompare_same_room ⟨_, ho, rfl⟩ ⟨_, ho', rfl⟩ PySem.F.slot_tuple_lt (call_meetsIn PySem.F.slot_tuple_lt ⟨_, ho, rfl⟩ PySem.F.entry_tuple_lt (PySem.F.args_tuple_lt_2 _ _) (tuple_lt_gen X.prog X.w p p' its its' n n' dd dd' sl sl' (by omega) _) ⟨ho, ho', hlex, (fun z => nomatch z), hC⟩) (by omega)
end
end L2

namespace L2
open PySem PySem.W PySem.Spec PyProof.Rows PySem.Calls
def lamCx (X : Cx) (N : List Str) (qual : Str) (scope : Scope) (f c' : Addr) (cl : List (Str × Addr)) (A : Around) (s : Shared) (H : Hp) : Cx where
  prog := X.prog
  w := X.w
  K := X.K
  mg := X.mg
  base := X.base
  A := A.deeper (envX qual scope s.heap.objs.size f (.ref c') cl)
  N := N
  s₀ := s
  H₀ := H
  env := envX qual scope s.heap.objs.size f (.ref c') cl
  outer := X.stack
  stack := envX qual scope s.heap.objs.size f (.ref c') cl :: X.stack
  ex := []
  calm := true
  fn := fun _ => false
  pn := []
  xe := fun _ _ => False
section
variable {X : Cx} {pins : List (Addr × Obj)} {σ : St} {H : Hp} {s : Shared} {A' : Around}
theorem lam_run (I : Inv X pins σ H s) (hA : A'.frames = some X.stack) (hd : A'.handled = none) (hroom : A'.depth < recursionLimit) {f c' cc : Addr} {qual : Str} {params : Arguments} {body : Expr} {scope : Scope} {pm ctv : Value} {x y : Str} {u uy : Value} {v vy : V} {te : TE} {Q : VK}
    (ho : s.heap.get? f = some (kla_obj "<lambda>" qual params body scope [(y, cc)] pm c' ctv)) (hcd : s.heap.CodeRec (.ref c') qual) (hcc : X.env.cells.lookup y = some cc) (hcell : s.heap.IsCell cc (some uy)) (ry : RelV vy uy) (ru : RelV v u)
    (hbind : bindArgs (kla_fn "<lambda>" qual params body scope [(y, cc)] pm (.ref c') ctv) ⟨[u], []⟩ = pure [(x, u)]) (hx : scope.names.lookup x = some .local) (hy : scope.names.lookup y = some .free) (hnc : ∀ z ∈ scope.names, z.2 ≠ .cell) (hfr : ∀ z, scope.names.lookup z = some .free → z = y)
    (hco : scope.isCoroutine = false) (hgen : scope.isGenerator = false) (hk : scope.kind = .function)
    (he : PE (lamCx X [x, y] qual scope f c' [(y, cc)] A' s H) body te) (h : te [some v, some vy] H Q) :
    wpAny (model X.prog X.w) A' (call (.ref f) [u]) (fun r s' => CE X.stack X.prog X.w H s Q r s') (fun _ _ => False) s := by
  have e0 := I.env0
  refine wpAny_call (kla_callFunE hroom ho rfl hco hgen rfl hcd ?_)
  rw [hbind]
  refine wpAny_pure (wpAny_newFunctionEnv hnc (fun z hz => by rw [List.mem_singleton.mp hz]; exact hx) (fun h₁ hns hsb => ⟨I.nolimit.fresh _ hsb, ?_⟩) hk)
  show codeAny _ _ (.expr body (envX qual scope s.heap.objs.size f (.ref c') [(y, cc)])) _ _
  have hk₁ : ∀ b o, s.heap.get? b = some o → h₁.get? b = some o := fun b o e => hsb.extBut b o (Nat.ne_of_lt (Heap.lt_size e)) (Heap.get?_push_of_some _ e)
  have look1 : ∀ {z : Str} {c : Addr}, ([(y, cc)] : List (Str × Addr)).lookup z = some c → z = y ∧ c = cc := fun {z c} e => by
    by_cases hz : z = y
    · subst hz; simp at e; exact ⟨rfl, e.symm⟩
    · have : (z == y) = false := by simpa using hz
      simp [List.lookup, this] at e
  have noA : ∀ b : Addr, b ∉ (lamCx X [x, y] qual scope f c' [(y, cc)] A' s H).ex := fun b z => absurd (show b ∈ ([] : List Addr) from z) (by simp)
  have J : Inv (lamCx X [x, y] qual scope f c' [(y, cc)] A' s H) [] [some v, some vy] H { s with heap := h₁, toks := s.toks + [(x, u)].length } := by
    refine ⟨⟨e0.mod, hk, rfl, rfl, Nat.le_refl _, fun z1 z2 c q1 q2 => ?_, fun z hz => ?_, (fun z c q _ => by cases q), fun _ => hd, Around.frames_deeper hA, .inr ⟨rfl, rfl⟩, fun b z => absurd z (noA b), e0.bs, e0.bsz, fun b _ _ => noA b, fun b z => absurd z (noA b), e0.funs, e0.frf⟩,
      rfl, e0.bare, Un.kept hk₁, ⟨_, hns, fun i z v' q1 q2 q3 => ?_⟩, fun z c q => ?_, e0.hok.fresh (Nat.le_refl _), fun z c q => ?_, fun p hp => absurd (show p ∈ ([] : List (Addr × Obj)) from hp) (by simp), e0.hok.kept hk₁, rfl⟩
    · rw [(look1 q1).1, (look1 q2).1]
    · have hz : scope.names.lookup z = some .cell ∨ scope.names.lookup z = some .free := hz
      rcases hz with hz | hz
      · exact absurd rfl (hnc _ (PySem.mem_of_lookup hz))
      · rw [hfr z hz]; exact ⟨cc, by simp [lamCx]⟩
    · match i, q1, q2 with
      | 0, q1, q2 =>
        cases q1; cases q2
        exact ⟨u, ru, .inl ⟨hx, by simp⟩⟩
      | 1, q1, q2 =>
        cases q1; cases q2
        obtain ⟨o, e1, e2⟩ := hcell
        exact ⟨uy, ry, .inr ⟨.inr hy, cc, by simp [lamCx], ⟨o, hk₁ _ _ e1, e2⟩⟩⟩
      | n + 2, q1, q2 => cases q2
    · obtain ⟨rfl, rfl⟩ := look1 q
      obtain ⟨o, e1, e2⟩ := hcell
      exact ⟨_, ⟨o, hk₁ _ _ e1, e2⟩⟩
    · obtain ⟨rfl, rfl⟩ := look1 q
      exact I.freeC _ _ hcc
  exact kla_codeExpr (wpAny_mono (he [] _ _ _ _ J h) (fun r s' hs => by
    obtain ⟨y', H', J', r', q'⟩ := hs
    exact ⟨y', H', J'.os, J'.bare, J'.base, J'.hok, r', q'⟩) fun _ _ z => z.elim)
end
end L2

namespace L2
open PySem PySem.W PySem.Spec PyProof.Rows PySem.Calls
def CodeK (H : Hp) (c' P : Addr) (q : Str) : Prop := ∃ oc vs t, H c' = some (.frz oc (.own P)) ∧ oc.data = .fields vs ∧ vs[1]? = some (.str q t)
theorem CodeK.same {H H' : Hp} {c' P : Addr} {q : Str} (x : CodeK H c' P q) (h : Same H H') : CodeK H' c' P q := by
  obtain ⟨oc, vs, t, a, b⟩ := x
  exact ⟨oc, vs, t, h _ _ a, b⟩
theorem CodeK.rec {P : Program} {w : World} {H : Hp} {h : Heap} {c' T : Addr} {q : Str} (x : CodeK H c' T q) (ok : HOk P w H h) : h.CodeRec (.ref c') q := by
  obtain ⟨oc, vs, t, a, b, c⟩ := x
  exact ⟨c', oc, vs, t, rfl, (ok _ _ a).1, b, c⟩
section
variable {X : Cx} {pins : List (Addr × Obj)} {σ : St} {H : Hp} {s : Shared} {A' : Around} {P c : Addr} {pos : Pos}
theorem lam_make {E : Value → Shared → Prop} {Q : Value → Shared → Prop} {params : Arguments} {body : Expr} {scope : Scope} {clos : List (Str × Addr)} (I : Inv X pins σ H s) (hT : H P = some (.tab #[] pos (X.env.qual ++ "<lambda>"))) (C : CodeHd X.base c P) (hb : X.base.BuiltinsAt X.mg P) (hcode : X.env.code = .ref c)
    (hdef : defaultsOf params X.env = ([], [])) (hcl : closureFor scope X.env = pure clos)
    (h : ∀ f c' ctv H' s', Inv X (pins ++ [(f, kla_obj "<lambda>" (X.env.qual ++ "<lambda>") params body scope clos ((X.mg "__name__").getD .none) c' ctv)]) σ H' s' → Same H H' → CodeK H' c' P (X.env.qual ++ "<lambda>") → Q (.ref f) s') :
    wpAny (model X.prog X.w) A' (eval (.Lambda params body scope pos) X.env) Q E s := by
  have hns : s.heap.Ns mainGlobals X.mg := I.mod.glob.keeps I.bk
  have hgP : mainGlobals ≠ P := fun z => by
    obtain ⟨o, es, ep, e, _⟩ := I.mod.glob
    rw [← z, (I.bs _ _ e).2] at hT; cases hT
  have hLP : X.env.locals ≠ P := fun z => by rw [← z, I.free] at hT; cases hT
  have hb' : s.heap.BuiltinsAt X.mg P := by
    obtain ⟨bm, o, b1, b2, b3, b4, b5, b6⟩ := hb
    exact ⟨bm, o, b1, b2, b3, b4, I.bk _ _ b5, b6⟩
  have C' := C.keeps I.bk
  obtain ⟨more, hP, ht, hc⟩ := I.hok _ _ hT
  refine kla_eval hdef ?_
  have pin1 : ∀ {H' : Hp} {s' : Shared} {o : Obj}, Inv X pins σ H' { s' with heap := s'.heap.push o } → (∀ v, o.data ≠ .cell v) → o.isFreed = false → s.heap.objs.size ≤ s'.heap.objs.size → H' s'.heap.objs.size = none → Inv X (pins ++ [(s'.heap.objs.size, o)]) σ H' { s' with heap := s'.heap.push o } := fun {H' s' o} J hd hfr hsz hn => by
    refine J.pins_of fun p hp => ?_
    rcases List.mem_append.mp hp with hp | hp
    · exact J.pin p (List.mem_append_right _ hp)
    · rw [List.mem_singleton.mp hp]
      have f := I.fpOk (H' := H') hsz hn
      exact ⟨Heap.get?_push_size _ hfr, f.1, f.2.1, f.2.2.1, hd⟩
  rcases hc with hc | ⟨c', oc, vs, t, hc, hf, d1, d2⟩
  · refine kla_makeFunction hcl I.ok.glob hns hcode C' hP ht hc hgP hb' fun c' ctv h' tk hx hge hlt hrec htb => ?_
    obtain ⟨c2, oc, vs, t, e2, hoc, d1, d2⟩ := hrec
    cases e2
    have fc : H c' = none := I.hok.fresh hge
    have ncP : c' ≠ P := fun z => by rw [← z, fc] at hT; cases hT
    have sm : Same H (upd H c' (.frz oc (.own P))) := fun b o q => by rw [upd_ne (ne_of_none q fc)]; exact q
    have kp : ∀ (o2 : Obj) b o, b ≠ P → s.heap.get? b = some o → (h'.push o2).get? b = some o := fun o2 b o hb e => Heap.get?_push_of_some _ (hx b o hb e)
    have hsz : s.heap.objs.size ≤ h'.objs.size := Nat.le_trans hge (Nat.le_of_lt hlt)
    have I2 : ∀ o2 : Obj, Inv X pins σ (upd H c' (.frz oc (.own P))) { s with heap := h'.push o2, toks := tk } := fun o2 => by
      refine I.step (g' := s.gens) (d' := s.drawn) (ch := []) (fun _ z => nomatch z) (fun b o _ _ _ e n => kp o2 b o (fun z => by rw [z, hT] at n; cases n) e) (fun b o _ _ _ e n => ⟨o.slots, kp o2 b o (fun z => by rw [z, hT] at n; cases n) e⟩)
        (fun b o _ e n => by rw [upd_ne (Nat.ne_of_lt (Nat.lt_of_lt_of_le (Heap.lt_size e) hge))]; exact n) (fun b o _ e => ?_) (fun b xs q => sm _ _ q) (fun b o u q => sm _ _ q) (fun b ps q => ⟨#[], by rw [sm _ _ q]; simp⟩) (fun m hm => ?_) (fun b u q => ?_) I.bare
      · by_cases hb : b = P
        · rw [hb]; exact ⟨_, Heap.get?_push_of_some _ htb⟩
        · exact ⟨o, kp o2 b o hb e⟩
      · obtain ⟨o, es, ep, ho, r⟩ := hm
        exact ⟨o, es, ep, kp o2 _ o hLP ho, r⟩
      · by_cases hb : b = c'
        · subst hb
          rw [upd_same] at q; cases q
          exact ⟨Heap.get?_push_of_some _ hoc, _, Heap.get?_push_of_some _ hoc⟩
        · rw [upd_ne hb] at q
          by_cases hp : b = P
          · subst hp
            rw [hT] at q; cases q
            refine ⟨more ++ #[rawInt pos.line, rawInt pos.col, .ref c'], ?_, ?_, .inr ⟨c', oc, vs, t, ?_, upd_same, d1, d2⟩⟩
            · have := Heap.get?_push_of_some o2 htb
              rw [Array.append_assoc] at this
              exact this
            · have := TriplesOk_snoc pos.line pos.col (.ref c') _ ht
              simpa using this
            · have := codeAmong_snoc (c := .ref c') _ ht hc
              simpa using this
          · refine (I.hok b u q).stay (fun d v hd r => kp o2 d v (fun z => ?_) r) (fun d r => sm _ _ r) (fun d xs r => sm _ _ r) (fun d o u r => sm _ _ r)
            rcases hd with hd | hd
            · exact hp (hd.symm.trans z)
            · rw [z, hT] at hd; cases hd
    refine h h'.objs.size c' ctv _ _ (pin1 (s' := { s with heap := h', toks := tk }) (I2 _) (fun v z => by cases z) rfl hsz ?_) sm ⟨oc, vs, t, upd_same, d1, d2⟩
    show upd H c' _ h'.objs.size = none
    rw [upd_ne (Nat.ne_of_gt hlt)]
    exact I.hok.fresh hsz
  · refine kla_makeFunctionHit hcl I.ok.glob hns hcode C' hP ht hc hb' fun ctv h' tk hk hsz => ?_
    exact h h'.objs.size c' ctv _ _ (pin1 (s' := { s with heap := h', toks := tk }) (I.kept (t' := tk) fun b o e => Heap.get?_push_of_some _ (hk b o e)) (fun v z => by cases z) rfl hsz (I.hok.fresh hsz)) (Same.refl _) ⟨oc, vs, t, hf, d1, d2⟩
end
end L2

namespace L2
open PySem PySem.W PyProof.Rows PySem.Spec PySem.Calls
def one (f : V → Hp → Prop) : List V → Hp → Prop
  | [v], H => f v H
  | _, _ => False
theorem one_of {f : V → Hp → Prop} : ∀ {vs : List V} {H : Hp}, one f vs H → ∃ v, vs = [v] ∧ f v H
  | [v], _, h => ⟨v, rfl, h⟩
  | [], _, h => h.elim
  | _ :: _ :: _, _, h => h.elim
section
variable {prog : Program} {w : World} {A : Around} {R : Result → Shared → Prop} {l I0 S : Addr} {vs : Array Value} {ns : List Int} {kw : List (Str × Value)}
theorem max_loop (hh : A.handled = none) (hlI : l ≠ I0) (hSI : S ≠ I0) (hlS : l ≠ S) (hv : ∀ (i : Nat) (v : Value), vs[i]? = some v → ∃ x t, ns[i]? = some x ∧ v = .int x t) (hsz : vs.size = ns.length) :
    ∀ (r j : Nat) (s : Shared) (m : Int) (t : Tok) (c : Nat), ns.length - (j + 1) = r → j + 1 ≤ ns.length → s.heap.IsListIter I0 l (j + 1) → s.heap.IsList l vs → s.heap.get? S = some (seqObj "list" #[.int m t, .int m t] c) →
      m ∈ ns → (∀ n ∈ ns.take (j + 1), n ≤ m) →
      (∀ (m' : Int) (t' : Tok) (h' : Heap) (tk : Nat), m' ∈ ns → (∀ n ∈ ns, n ≤ m') → (∀ b o, b ≠ I0 → b ≠ S → s.heap.get? b = some o → h'.get? b = some o) → R (.ok (.ret (.int m' t'))) { s with heap := h', toks := tk }) →
      codeAny (model prog w) A (.builtin "max.loop" ⟨[.ref I0, .none, .ref S], kw⟩) R s := by
  have hname : (toString "max" ++ toString ".loop" : String) = "max.loop" := by decide
  have W := Walks.list (prog := prog) (w := w) (A := A.in1) hh I0 l hlI vs
  intro r
  induction r with
  | zero =>
    intro j s m t c hr hj hit hl hS hm hb hR
    have hin : j + 1 = ns.length := by omega
    refine codeAny_builtin PySem.F.entry_max_loop ?_
    rw [Around.under_plainId PySem.F.plain_max_loop _]
    show wpAny _ A.in1 (seqItems? (.ref S) >>= _) _ _ _
    refine wpAny_bind (wpAny_seqItems hS rfl ?_)
    show wpAny _ A.in1 (tryCatch (pyNext (.ref I0)) _ >>= _) _ _ _
    refine wpAny_bind (wpAny_tryCatch (W.done _ _ _ ⟨by rw [hsz, ← hin]; exact hit, hl⟩ fun h' tk' hk' => ?_))
    have hS' := hk' S _ (by simpa using hSI) hS
    have s1 := Heap.SameBut.update h' S (Obj.mapSeq fun _ => (#[] : Array Value))
    show wpAny _ A.in1 (updateSeq S (fun _ => #[]) >>= _) _ _ _
    refine wpAny_bind (wpAny_updateSeq hS' rfl (wpAny_bind (wpAny_letGo (wpAny_pure ?_))))
    exact hR m t _ tk' hm (fun n hn => hb n (by rw [hin, List.take_length]; exact hn)) fun b o h1 h2 e => (s1.2 b h2).trans (hk' b o (by simpa using h1) e)
  | succ r ih =>
    intro j s m t c hr hj hit hl hS hm hb hR
    have hlt2 : j + 1 < ns.length := by omega
    refine codeAny_builtin PySem.F.entry_max_loop ?_
    rw [Around.under_plainId PySem.F.plain_max_loop _]
    show wpAny _ A.in1 (seqItems? (.ref S) >>= _) _ _ _
    refine wpAny_bind (wpAny_seqItems hS rfl ?_)
    show wpAny _ A.in1 (tryCatch (pyNext (.ref I0)) _ >>= _) _ _ _
    refine wpAny_bind (wpAny_tryCatch (W.item (j + 1) _ _ _ (by rw [hsz]; omega) ⟨hit, hl⟩ fun v h' tk' hP hst' hk' => ?_))
    obtain ⟨x, t2, hx, rfl⟩ := hv (j + 1) v (by simpa using hP)
    have hS' := hk' S _ (by simpa using hSI) hS
    have tk1 : ns.take (j + 1 + 1) = ns.take (j + 1) ++ [x] := by rw [List.take_add_one, hx]; rfl
    show wpAny _ A.in1 (pure (Value.int x t2) >>= _) _ _ _
    refine wpAny_bind (wpAny_pure ?_)
    show wpAny _ A.in1 (tryCatch (holding [.int x t2, .int x t2] (richCompare .Gt (.int x t2) (.int m t) >>= _)) _ >>= _) _ _ _
    refine wpAny_bind (wpAny_tryCatch (wpAny_holding (wpAny_bind (richCompare_gives (op := .Gt) (typeIs_int _ _ t2) (typeIs_int _ _ t) PySem.F.slot_int_gt PySem.F.entry_int_gt (PySem.F.args_int_gt_2 _ _) (gives_int_gt _ _ t2 t) (fun x => nomatch x) ?_))))
    refine wpAny_bind (wpAny_holding (wpAny_truthy_bool ?_))
    refine wpAny_bind (wpAny_letGo (wpAny_pure ?_))
    by_cases hb' : x > m
    · have s1 := Heap.SameBut.update h' S (Obj.mapSeq fun _ => #[.int x t2, .int x t2])
      obtain ⟨c2, hc2⟩ : ∃ c2, (h'.update S (Obj.mapSeq fun _ => #[.int x t2, .int x t2])).get? S = some (seqObj "list" #[.int x t2, .int x t2] c2) := ⟨_, get?_update_seq hS' fun _ => #[.int x t2, .int x t2]⟩
      simp only [hb', decide_true, if_true]
      refine wpAny_bind ?_
      refine wpAny_updateSeq hS' rfl (wpAny_bind (wpAny_letGo ?_))
      rw [hname]
      refine wpAny_pure ⟨plainId_quiet PySem.F.plain_max_loop _, ih (j + 1) _ x t2 c2 (by omega) hlt2 ?_ ?_ hc2 (List.mem_of_getElem? hx) (fun n hn => ?_) fun m' t' h'' tk q1 q2 q3 => ?_⟩
      · obtain ⟨o, e, q⟩ := hst'.1
        exact ⟨o, (s1.2 _ (Ne.symm hSI)).trans e, q⟩
      · obtain ⟨o, e, q⟩ := hst'.2
        exact ⟨o, (s1.2 _ hlS).trans e, q⟩
      · rw [tk1] at hn
        rcases List.mem_append.mp hn with z | z
        · exact Int.le_trans (hb n z) (Int.le_of_lt hb')
        · rw [List.mem_singleton.mp z]; exact Int.le_refl _
      · exact hR m' t' h'' tk q1 q2 fun b o h1 h2 e => q3 b o h1 h2 ((s1.2 b h2).trans (hk' b o (by simpa using h1) e))
    · simp only [hb', decide_false, Bool.false_eq_true, if_false]
      refine wpAny_bind (wpAny_letGo ?_)
      rw [hname]
      refine wpAny_pure ⟨plainId_quiet PySem.F.plain_max_loop _, ih (j + 1) _ m t c (by omega) hlt2 hst'.1 hst'.2 hS' hm (fun n hn => ?_) fun m' t' h'' tk q1 q2 q3 => ?_⟩
      · rw [tk1] at hn
        rcases List.mem_append.mp hn with z | z
        · exact hb n z
        · rw [List.mem_singleton.mp z]; omega
      · exact hR m' t' h'' tk q1 q2 fun b o h1 h2 e => q3 b o h1 h2 (hk' b o (by simpa using h1) e)
theorem max_first {s : Shared} {c : Nat} (hh : A.handled = none) (hlI : l ≠ I0) (hSI : S ≠ I0) (hlS : l ≠ S) (hv : ∀ (i : Nat) (v : Value), vs[i]? = some v → ∃ x t, ns[i]? = some x ∧ v = .int x t) (hsz : vs.size = ns.length) (hit : s.heap.IsListIter I0 l 0) (hl : s.heap.IsList l vs) (hS : s.heap.get? S = some (seqObj "list" #[] c))
    (hR : ∀ (m' : Int) (t' : Tok) (h' : Heap) (tk : Nat), m' ∈ ns → (∀ n ∈ ns, n ≤ m') → (∀ b o, b ≠ I0 → b ≠ S → s.heap.get? b = some o → h'.get? b = some o) → R (.ok (.ret (.int m' t'))) { s with heap := h', toks := tk })
    (hD : ns = [] → ∃ k d r, kw = (k, d) :: r ∧ ∀ (h' : Heap) (tk : Nat), (∀ b o, b ≠ I0 → b ≠ S → s.heap.get? b = some o → h'.get? b = some o) → R (.ok (.ret d)) { s with heap := h', toks := tk }) :
    codeAny (model prog w) A (.builtin "max.loop" ⟨[.ref I0, .none, .ref S], kw⟩) R s := by
  have hname : (toString "max" ++ toString ".loop" : String) = "max.loop" := by decide
  have W := Walks.list (prog := prog) (w := w) (A := A.in1) hh I0 l hlI vs
  refine codeAny_builtin PySem.F.entry_max_loop ?_
  rw [Around.under_plainId PySem.F.plain_max_loop _]
  show wpAny _ A.in1 (seqItems? (.ref S) >>= _) _ _ _
  refine wpAny_bind (wpAny_seqItems hS rfl ?_)
  show wpAny _ A.in1 (tryCatch (pyNext (.ref I0)) _ >>= _) _ _ _
  by_cases hn : ns = []
  · obtain ⟨k, d, r, rfl, hd⟩ := hD hn
    refine wpAny_bind (wpAny_tryCatch (W.done _ _ _ ⟨by rw [hsz, hn]; exact hit, hl⟩ fun h' tk' hk' => ?_))
    show wpAny _ A.in1 (do rule _; ret d) _ _ _
    exact wpAny_bind (wpAny_rule (wpAny_pure (hd h' tk' fun b o h1 h2 e => hk' b o (by simpa using h1) e)))
  · have hpos : 0 < ns.length := List.length_pos_iff.mpr hn
    refine wpAny_bind (wpAny_tryCatch (W.item 0 _ _ _ (by rw [hsz]; exact hpos) ⟨hit, hl⟩ fun v h' tk' hP hst' hk' => ?_))
    obtain ⟨x, t2, hx, rfl⟩ := hv 0 v (by simpa using hP)
    have hS' := hk' S _ (by simpa using hSI) hS
    show wpAny _ A.in1 (pure (Value.int x t2) >>= _) _ _ _
    refine wpAny_bind (wpAny_pure ?_)
    have s1 := Heap.SameBut.update h' S (Obj.mapSeq fun _ => #[.int x t2, .int x t2])
    obtain ⟨c2, hc2⟩ : ∃ c2, (h'.update S (Obj.mapSeq fun _ => #[.int x t2, .int x t2])).get? S = some (seqObj "list" #[.int x t2, .int x t2] c2) := ⟨_, get?_update_seq hS' fun _ => #[.int x t2, .int x t2]⟩
    show wpAny _ A.in1 (updateSeq S (fun _ => #[.int x t2, .int x t2]) >>= _) _ _ _
    refine wpAny_bind (wpAny_updateSeq hS' rfl ?_)
    rw [hname]
    refine wpAny_pure ⟨plainId_quiet PySem.F.plain_max_loop _, max_loop hh hlI hSI hlS hv hsz _ 0 _ x t2 c2 rfl hpos ?_ ?_ hc2 (List.mem_of_getElem? hx) (fun n hn => ?_) fun m' t' h'' tk q1 q2 q3 => ?_⟩
    · obtain ⟨o, e, q⟩ := hst'.1
      exact ⟨o, (s1.2 _ (Ne.symm hSI)).trans e, q⟩
    · obtain ⟨o, e, q⟩ := hst'.2
      exact ⟨o, (s1.2 _ hlS).trans e, q⟩
    · rw [List.take_add_one, hx] at hn
      have : n = x := by simpa using hn
      rw [this]; exact Int.le_refl _
    · exact hR m' t' h'' tk q1 q2 fun b o h1 h2 e => q3 b o h1 h2 ((s1.2 b h2).trans (hk' b o (by simpa using h1) e))
end

def rMaxL (K : PySem.W.Frag) : List V → Hp → VK → Prop := fun vs H Q => ∃ a ns, vs = [.ref a] ∧ SqL K H a (ns.map V.int) ∧ ns ≠ [] ∧ ∀ m, m ∈ ns → (∀ n ∈ ns, n ≤ m) → Q (.int m) H
def tMaxD (K : PySem.W.Frag) (ta tk : TE) : TE := fun σ H Q => ta σ H fun v H1 => tk σ H1 fun dv H2 => ∃ (a : Addr) (ns : List Int) (d : Int), v = .ref a ∧ dv = .int d ∧ SqL K H2 a (ns.map V.int) ∧ (∀ m, m ∈ ns → (∀ n ∈ ns, n ≤ m) → Q (.int m) H2) ∧ (ns = [] → Q (.int d) H2)
section
variable {X : Cx} {pins : List (Addr × Obj)} {σ : St} {H : Hp} {s : Shared}
theorem ints_back {us : List Value} : ∀ {ns : List Int}, Vals (ns.map V.int) us → ∀ (i : Nat) (v : Value), us.toArray[i]? = some v → ∃ x t, ns[i]? = some x ∧ v = .int x t := fun {ns} r i v h => by
  have hl := r.length
  rw [List.length_map] at hl
  have h' : us[i]? = some v := by simpa using h
  have hi : i < ns.length := by rw [hl]; exact (List.getElem?_eq_some_iff.mp h').1
  obtain ⟨u, hu, ru⟩ := r.get (i := i) (x := V.int ns[i]) (by rw [List.getElem?_map, List.getElem?_eq_getElem hi]; rfl)
  obtain ⟨t, rfl⟩ := ru
  rw [h'] at hu
  cases hu
  exact ⟨_, t, List.getElem?_eq_getElem hi, rfl⟩
theorem max_any {A : Around} {l : Addr} {ns : List Int} {QQ : Value → Shared → Prop} {E : Value → Shared → Prop} {kw : List (Str × Value)} {dv : Option Value} (hh : A.handled = none) (I : Inv X pins σ H s) (sq : SqL X.K H l (ns.map V.int))
    (harg : argsOk "max" ⟨[.ref l], kw⟩) (hbp : Builtin.Builtins.bindParams "max" ["key", "default"] 0 ⟨[], kw⟩ = pure [none, dv])
    (hQ : ∀ m t s', m ∈ ns → (∀ n ∈ ns, n ≤ m) → Inv X pins σ H s' → QQ (.int m t) s') (hD : ns = [] → ∃ d, dv = some d ∧ ∀ s', Inv X pins σ H s' → QQ d s') :
    wpAny (model X.prog X.w) A (call (.builtin "max") [.ref l] kw) QQ E s := by
  have hname : (toString "max" ++ toString ".loop" : String) = "max.loop" := by decide
  obtain ⟨us0, rv0, pl0, hz0⟩ := I.list sq
  have hls := pl0.isList
  obtain ⟨ol, hol, _⟩ := id hls
  have hll : l < s.heap.objs.size := Heap.lt_size hol
  refine kmk_tree PySem.F.kind_max PySem.F.plain_max PySem.F.entry_max harg ?_
  show wpAny _ A.in1 (Builtin.Builtins.bindParams "max" ["key", "default"] 0 ⟨[], kw⟩ >>= _) _ _ s
  refine wpAny_bind (wpAny_of_eq hbp ?_)
  refine wpAny_bind (wpAny_pure ?_)
  refine wpAny_bind (wpAny_pyIter_list hls ?_)
  refine wpAny_bind (wpAny_newList ?_ (Nat.zero_le _))
  rw [hname]
  have hS : (s.heap.push { cls := .type "list_iterator", data := .fields #[.ref l, .int 0 0] }).objs.size = s.heap.objs.size + 1 := size_push' ..
  have old : ∀ {h' : Heap}, (∀ b o, b ≠ s.heap.objs.size → b ≠ (s.heap.push { cls := .type "list_iterator", data := .fields #[.ref l, .int 0 0] }).objs.size → ((s.heap.push { cls := .type "list_iterator", data := .fields #[.ref l, .int 0 0] }).push (seqObj "list" #[] 0)).get? b = some o → h'.get? b = some o) → ∀ b o, s.heap.get? b = some o → h'.get? b = some o := fun k b o e =>
    k b o (Nat.ne_of_lt (Heap.lt_size e)) (by rw [hS]; exact Nat.ne_of_lt (Nat.lt_succ_of_lt (Heap.lt_size e))) (Heap.get?_push_of_some _ (Heap.get?_push_of_some _ e))
  have hl2 := rv0.length
  rw [List.length_map] at hl2
  refine wpAny_pure ⟨plainId_quiet PySem.F.plain_max_loop _, max_first (vs := us0.toArray) (ns := ns) (c := 0) hh (Nat.ne_of_lt hll) (by rw [hS]; exact Nat.ne_of_gt (Nat.lt_succ_self _)) (by rw [hS]; exact Nat.ne_of_lt (Nat.lt_succ_of_lt hll)) (ints_back rv0) (by rw [List.size_toArray, hl2]) ⟨_, Heap.get?_push_of_some _ (Heap.get?_push_size _ rfl), rfl, rfl⟩ ((hls.push _).push _) (Heap.get?_push_size _ rfl) (fun m t h' tk q1 q2 q3 => ?_) fun hn => ?_⟩
  · exact hQ m t _ q1 q2 (I.kept (t' := tk) (old q3))
  · obtain ⟨d, rfl, hd⟩ := hD hn
    exact ⟨"default", d, [], rfl, fun h' tk q3 => hd _ (I.kept (t' := tk) (old q3))⟩
theorem call_maxL (hc : X.calm = true) : CallR X (.builtin "max") (rMaxL X.K) := by
  intro pins s σ H xs us Q I r h
  obtain ⟨a, ns, rfl, sq, hne, q⟩ := h
  obtain ⟨u, rfl, ru⟩ := vals1 r
  cases ru
  exact max_any (dv := none) (I.ok.hd hc) I sq (PySem.F.args_max1 _) rfl (fun m t s' h1 h2 J => ⟨.int m, H, J, ⟨t, rfl⟩, q m h1 h2⟩) fun z => absurd z hne
theorem max_dflt (a v : Value) : argsOk "max" ⟨[a], [(Str.ofString "default", v)]⟩ := by unfold argsOk; kernel_rfl
theorem pe_maxD {e ke : Expr} {ta tk : TE} {p pos kp : Pos} (hc : X.calm = true) (hg : Gl X "max") (hm : X.mg "max" = none) (ha : PE X e ta) (hk : PE X ke tk) (hs : starEach [e] X.env = [(false, eval e X.env)] := by rfl) : PE X (.Call (.Name "max" p) [e] [⟨some "default", ke, kp⟩] pos) (tMaxD X.K ta tk) := by
  intro pins s σ H Q I h
  refine wpAny_Call_Name_kw (ld_blt I hg hm boot_max ?_)
  refine callWith_kw (rest := []) (thn (pa_cons ha pa_nil hs pos pins s σ H (one fun v H1 => tk σ H1 fun dv H2 => ∃ (a : Addr) (ns : List Int) (d : Int), v = .ref a ∧ dv = .int d ∧ SqL X.K H2 a (ns.map V.int) ∧ (∀ m, m ∈ ns → (∀ n ∈ ns, n ≤ m) → Q (.int m) H2) ∧ (ns = [] → Q (.int d) H2)) I (by exact h)) fun us s1 ⟨vs, H1, I1, r1, q0⟩ => ?_) (by rw [hs]; rfl) (by rw [hs]; rfl)
  obtain ⟨v, rfl, q1⟩ := one_of q0
  obtain ⟨u, rfl, ru⟩ := vals1 r1
  refine thn (pk_cons hk pk_nil pos pins s1 σ H1 (one fun dv H2 => ∃ (a : Addr) (ns : List Int) (d : Int), v = .ref a ∧ dv = .int d ∧ SqL X.K H2 a (ns.map V.int) ∧ (∀ m, m ∈ ns → (∀ n ∈ ns, n ≤ m) → Q (.int m) H2) ∧ (ns = [] → Q (.int d) H2)) I1 (by exact q1)) fun ws s2 ⟨zs, H2, I2, r2, q2⟩ => ?_
  obtain ⟨dv, rfl, a, ns, d, rfl, rfl, sq, f1, f2⟩ := one_of q2
  obtain ⟨w', rfl, t, rfl⟩ := vals1 r2
  cases ru
  exact max_any (dv := some (.int d t)) (I2.ok.hd hc) I2 sq (max_dflt _ _) rfl (fun m t s' h1 h2 J => ⟨.int m, H2, J, ⟨t, rfl⟩, f1 m h1 h2⟩) fun z => ⟨_, rfl, fun s' J => ⟨.int d, H2, J, ⟨t, rfl⟩, f2 z⟩⟩
end
end L2

namespace L2
open PySem PySem.W PySem.Spec PyProof.Rows PySem.Calls
def kI (ks : List (Int × Int × List Int)) (i : Nat) : List Int := match ks[i]? with
  | some k => k.1 :: k.2.1 :: k.2.2
  | none => []
theorem kI_at {ks : List (Int × Int × List Int)} {i : Nat} {k : Int × Int × List Int} (h : ks[i]? = some k) : kI ks i = k.1 :: k.2.1 :: k.2.2 := by unfold kI; rw [h]
theorem ints_tr {a b c : List Int} (h : a < b) (h2 : ¬ c < b) : a < c := by
  by_cases q : a < c
  · exact q
  · exact absurd (List.lt_of_le_of_lt (List.not_lt.mp q) h) h2
theorem ints_asy {a b : List Int} (h : a < b) : ¬ b < a := fun q => List.lt_irrefl _ (List.lt_trans h q)
def tMinL (K : PySem.W.Frag) (P : Addr) (pos : Pos) (q : Str) (i : Nat) (te ta : TE) : TE := fun σ H Q => ta σ H fun v H1 => ∃ a xs vy ks n, v = .ref a ∧ SqL K H1 a xs ∧ σ[i]? = some (some vy) ∧ H1 P = some (.tab #[] pos q) ∧ 0 < xs.length ∧ ks.length = xs.length ∧ (∀ k ∈ ks, k.2.2.length = n) ∧
  (∀ (j : Nat) x k H', xs[j]? = some x → ks[j]? = some k → Same H1 H' → te [some x, some vy] H' (fun y H2 => Same H' H2 ∧ Rep K H2 (keyD k.1 k.2.1 k.2.2) y)) ∧
  (∀ (j : Nat) x H', xs[j]? = some x → (∀ m, m < xs.length → ¬ kI ks m < kI ks j ∧ (m < j → kI ks j < kI ks m)) → Same H1 H' → Q x H')
section
variable {X : Cx} {P c : Addr}
theorem pe_minLam {k : Nat} {e body : Expr} {ta te : TE} {x y q : Str} {i : Nat} {params : Arguments} {scope : Scope} {p pos lp kp : Pos} (hc : X.calm = true) (hr : Room (k + 2) X.A) (hg : Gl X "min") (hm : X.mg "min" = none) (ha : PE X e ta) (C : CodeHd X.base c P) (hb : X.base.BuiltinsAt X.mg P) (hcode : X.env.code = .ref c)
    (hq : X.env.qual ++ "<lambda>" = q) (hi : X.N[i]? = some y) (hky : X.env.scope.names.lookup y = some .cell)
    (hbind : ∀ (pm cv ctv u : Value) (cc : Addr), bindArgs (kla_fn "<lambda>" q params body scope [(y, cc)] pm cv ctv) ⟨[u], []⟩ = pure [(x, u)]) (hx : scope.names.lookup x = some .local) (hy : scope.names.lookup y = some .free) (hnc : ∀ z ∈ scope.names, z.2 ≠ .cell) (hfr : ∀ z, scope.names.lookup z = some .free → z = y)
    (hco : scope.isCoroutine = false) (hgen : scope.isGenerator = false) (hk : scope.kind = .function) (hdef : defaultsOf params X.env = ([], []))
    (hcl : ∀ cc : Addr, X.env.cells.lookup y = some cc → closureFor scope X.env = pure [(y, cc)])
    (he : ∀ f c' cc s H, Room k (X.A.in1.deeper (envX q scope s.heap.objs.size f (.ref c') [(y, cc)])) → PE (lamCx X [x, y] q scope f c' [(y, cc)] X.A.in1 s H) body te)
    (hs : starEach [e] X.env = [(false, eval e X.env)] := by rfl) : PE X (.Call (.Name "min" p) [e] [⟨some "key", .Lambda params body scope lp, kp⟩] pos) (tMinL X.K P lp q i te ta) := by
  intro pins s σ H Q I h
  subst hq
  refine wpAny_Call_Name_kw (ld_blt I hg hm boot_min ?_)
  refine callWith_kw (rest := []) (thn (pa_cons ha pa_nil hs pos pins s σ H (one fun v H1 => ∃ (a : Addr) (xs : List V) (vy : V) (ks : List (Int × Int × List Int)) (n : Nat), v = .ref a ∧ SqL X.K H1 a xs ∧ σ[i]? = some (some vy) ∧ H1 P = some (.tab #[] lp (X.env.qual ++ "<lambda>")) ∧ 0 < xs.length ∧ ks.length = xs.length ∧ (∀ k ∈ ks, k.2.2.length = n) ∧
    (∀ (j : Nat) x k H', xs[j]? = some x → ks[j]? = some k → Same H1 H' → te [some x, some vy] H' (fun y H2 => Same H' H2 ∧ Rep X.K H2 (keyD k.1 k.2.1 k.2.2) y)) ∧
    (∀ (j : Nat) x H', xs[j]? = some x → (∀ m, m < xs.length → ¬ kI ks m < kI ks j ∧ (m < j → kI ks j < kI ks m)) → Same H1 H' → Q x H')) I (by exact h)) fun us s1 ⟨vs, H1, I1, r1, q0⟩ => ?_) (by rw [hs]; rfl) (by rw [hs]; rfl)
  obtain ⟨v, rfl, a, xs, vy, ks, n, rfl, sq, hσ, hT, hne, hkl, hkn, turn, fin⟩ := one_of q0
  obtain ⟨u, rfl, ru⟩ := vals1 r1
  cases ru
  obtain ⟨cc, hcc⟩ := I1.ok.has y (.inl hky)
  have hA : X.A.in1.frames = some X.stack := I1.ok.frames
  have hd : X.A.in1.handled = none := I1.ok.hd hc
  show wpAny _ _ (evalAll ((do let v ← eval (.Lambda params body scope lp) X.env; standAt pos; pure v) :: (backToKw pos (keywordEach [] X.env)).map (·.2))) _ _ s1
  refine wpAny_evalAll_cons (wpAny_bind (lam_make I1 hT C hb hcode hdef (hcl cc hcc) fun f c' ctv H2 s2 J sm ck => wpAny_bind (wpAny_standAt (wpAny_pure (wpAny_evalAll_nil ?_)))))
  show wpAny _ _ (call (.builtin "min") [.ref a] [(Str.ofString "key", .ref f)]) _ _ s2
  refine call_minK (J := Same H2) (ks := ks.map fun k => keyD k.1 k.2.1 k.2.2) (lt := fun i j => decide (kI ks i < kI ks j)) hc J (Same.refl _) (fun H' z => SqL.same z (SqL.same sm sq)) (by rw [List.length_map]; exact hkl) hne ?_ ?_ (fun a b c h1 h2 => decide_eq_true (ints_tr (of_decide_eq_true h1) (of_decide_eq_false h2))) (fun a b h1 => decide_eq_false (ints_asy (of_decide_eq_true h1))) ?_
  · intro j x' u k H' s' pl hx' hk' ru I' hJ
    rw [List.getElem?_map] at hk'
    obtain ⟨k0, hk0, rfl⟩ := Option.map_eq_some_iff.mp hk'
    obtain ⟨uy, ry, hcell⟩ : ∃ uy, RelV vy uy ∧ s'.heap.IsCell cc (some uy) := by
      obtain ⟨m, _, hl⟩ := I'.loc
      obtain ⟨uy, ry, l⟩ := hl i y vy hi hσ (.inr (.inl hky))
      refine ⟨uy, ry, ?_⟩
      rcases l with ⟨l, _⟩ | ⟨_, c2, e2, z⟩
      · have l : X.env.scope.names.lookup y = some .local := l
        rw [hky] at l; cases l
      · rw [hcc] at e2; cases e2; exact z
    have ho := (I'.pin _ (List.mem_append_right _ (List.mem_append_left _ (List.mem_append_right _ (.head _))))).1
    refine wpAny_mono (lam_run I' hA hd hr.in1.depth ho ((ck.same hJ).rec I'.hok) hcc hcell ry ru (hbind _ _ _ _ _) hx hy hnc hfr hco hgen hk (he _ _ _ _ _ (hr.in1.deeper _)) (turn j x' k0 H' hx' hk0 (sm.trans hJ))) (fun v s'' hz => ?_) fun _ _ z => z
    obtain ⟨y', H'', os, bare, un, hok, r, z1, z2⟩ := hz
    exact ⟨y', H'', I'.call' (ch := []) os un hok bare (fun _ z => nomatch z), hJ.trans z1, z1, r, z2⟩
  · intro j m k k' H' s' pl y1 z1 u v C' hj hm' I' r1 rr1 r2 rr2 hC
    rw [List.getElem?_map] at hj hm'
    obtain ⟨k1, hk1, rfl⟩ := Option.map_eq_some_iff.mp hj
    obtain ⟨k2, hk2, rfl⟩ := Option.map_eq_some_iff.mp hm'
    rw [kI_at hk1, kI_at hk2] at hC
    refine key_lt I' r1 rr1 r2 rr2 ?_ ?_ hC
    · rw [hkn _ (List.mem_of_getElem? hk1), hkn _ (List.mem_of_getElem? hk2)]
    · have := hr.in1.un; omega
  · intro j x' v H' s' hx' rx hb' I' hJ
    exact ⟨x', H', I'.unpinned, rx, fin j x' H' hx' (fun m hm' => ⟨of_decide_eq_false (hb' m hm').1, fun z => of_decide_eq_true ((hb' m hm').2 z)⟩) (sm.trans hJ)⟩
end
end L2

namespace L2
open PySem PySem.W PySem.Spec PyProof.Rows
structure LamAt (base : Heap) (mg : Str → Option Value) (fl : FuncData) (T : Addr) : Prop where
  ex : ∃ c, fl.code = .ref c ∧ CodeHd base c T
  bt : base.BuiltinsAt mg T
theorem tab_start {P : Program} {w : World} {H : Hp} {h : Heap} {T : Addr} {pos : Pos} {q : Str} (e : h.get? T = some (tabObj #[])) : ObjOk P w H h T (.tab #[] pos q) := ⟨#[], e, trivial, .inl rfl⟩
theorem law_callT {P : Program} {w : World} {K : PySem.W.Frag} {mg mb : Str → Option Value} {CX : CXT} {k : Nat} {fa a T c : Addr} {fd fl : FuncData} {x q : Str} {pos : Pos} {sp : Sp} {s₁ : Shared} {vs : List Value} {ns : List Int}
    (KX : K.In s₁.heap) (hns : s₁.heap.Ns mainGlobals mg) (hb : s₁.heap.Ns builtinsNs mb) (hbb : ∀ y : Str, y ≠ "__name__" → mb y = bootBuiltins y) (hlim : s₁.heap.NoLimit) (hg : s₁.gens = #[])
    (ha : s₁.heap.get? a = some { cls := .type "list", data := .seq vs.toArray }) (hi : IntsAre vs ns) (hl : ns.length ≤ sizeLine) (hr : Room k callerA)
    (hfl : fl.code = .ref c) (hC : CodeHd s₁.heap c T) (hT : s₁.heap.get? T = some (tabObj #[])) (hno : noTabs K = true) (hB : s₁.heap.BuiltinsAt mg T)
    (F : ∀ base : Heap, K.In base → base.Ns mainGlobals mg → LamAt base mg fl T → FnOk P w K mg base CX k fa fd [x] sp) (hbind : ∀ (s : Shared) (u : Value), BindsTo s fd ⟨[u], []⟩ [(x, u)])
    (hsp : ∀ H : Hp, SqL K H a (ns.map V.int) → H T = some (.tab #[] pos q) → sp [.ref a] H (fun v H' => v = .bl true ∧ H' T = some (.tab #[] pos q)) fun _ _ _ => False)
    (hCX : ∀ H e s', CX [] H s₁ (fun _ _ _ => False) e s' → False) :
    codeAny (model P w) callerA (.call (.ref fa) ⟨[.ref a], []⟩) (fun r s' => r = .ok (.ret (.bool true)) ∧ OldK s₁.heap s'.heap ∧ s'.os = s₁.os ∧ AllBare s'.gens) s₁ := by
  have rv := vals_ints hi
  have lenV := hi.length
  have hKT : K.lookup T = none := by
    cases z : K.lookup T with
    | none => rfl
    | some o =>
      have e := KX T o z
      rw [hT] at e
      cases e
      exact absurd (List.all_eq_true.mp hno _ (mem_of_lookupK z)) Bool.false_ne_true
  have haT : a ≠ T := fun z => by rw [z, hT] at ha; cases ha
  -- from a tracked part: the table, and perhaps the script
  have core : ∀ H : Hp, (∀ b u, H b = some u → (b = T ∧ u = .tab #[] pos q) ∨ (b = a ∧ K.lookup a = none ∧ ∃ o xs, u = .frz o (.lst xs))) → H T = some (.tab #[] pos q) → SqL K H a (ns.map V.int) → HOk P w H s₁.heap →
      codeAny (model P w) callerA (.call (.ref fa) ⟨[.ref a], []⟩) (fun r s' => r = .ok (.ret (.bool true)) ∧ OldK s₁.heap s'.heap ∧ s'.os = s₁.os ∧ AllBare s'.gens) s₁ := by
    intro H hO hHT hS hok
    have out : ∀ {b : Addr} {o : Obj}, s₁.heap.get? b = some o → (∀ its, o.data ≠ .fields its ∨ o.cls ≠ .none) → (∀ its n, o.data ≠ .seq its n) → H b = none := fun {b o} e h1 h2 => by
      cases z : H b with
      | none => rfl
      | some u =>
        rcases hO b u z with ⟨rfl, _⟩ | ⟨rfl, _⟩
        · rw [hT] at e; cases e
          exact (h1 #[]).elim (fun z => absurd rfl z) fun z => absurd rfl z
        · rw [ha] at e; cases e
          exact absurd rfl (h2 _ _)
    have nsK : ∀ {b : Addr} {m : Str → Option Value}, s₁.heap.Ns b m → (hidT s₁.heap H).Ns b m := fun {b m} ⟨o, es, ep, e, d, r⟩ => ⟨o, es, ep, hidT_get e (out e (fun _ => .inl (by rw [d]; nofun)) fun _ _ => by rw [d]; nofun), d, r⟩
    have hKb : K.In (hidT s₁.heap H) := fun b o e => hidT_get (KX b o e) (by
      cases z : H b with
      | none => rfl
      | some u =>
        rcases hO b u z with ⟨rfl, _⟩ | ⟨rfl, n, _⟩
        · rw [hKT] at e; cases e
        · rw [n] at e; cases e)
    have hM : Mod K mg (hidT s₁.heap H) := ⟨hKb, nsK hns, ⟨mb, nsK hb, hbb⟩, let ⟨mc, h1, h2⟩ := hlim; ⟨mc, nsK h1, h2⟩⟩
    have e0 : Env0 P w K mg (hidT s₁.heap H) callerA [] s₁ H := ⟨rfl, hM, fun b o e => of_hidT e, Nat.le_of_eq (hidT_size _ _), trivial, fun b hb => absurd (show b ∈ ([] : List Addr) from hb) (by simp), hok, .of_eq hg⟩
    have hL : LamAt (hidT s₁.heap H) mg fl T := by
      refine ⟨⟨c, hfl, ?_⟩, ?_⟩
      · obtain ⟨o, vs', file, tf, flags, tg, inF, text, tt, e1, r1, r2, r⟩ := hC
        exact ⟨o, vs', file, tf, flags, tg, inF, text, tt, hidT_get e1 (out e1 (fun _ => .inr (by rw [r1]; nofun)) fun _ _ => by rw [r2]; nofun), r1, r2, r⟩
      · obtain ⟨bm, o, a1, a2, a3, a4, e, r1, r2, r3⟩ := hB
        exact ⟨bm, o, a1, a2, a3, a4, hidT_get e (out e (fun _ => .inl (by rw [r3]; nofun)) fun _ _ => by rw [r3]; nofun), r1, r2, r3⟩
    refine codeAny_mono ((F _ hKb (nsK hns) hL).run callerA [] s₁ H ⟨[.ref a], []⟩ [.ref a] [.ref a] _ _ hr e0 (hbind s₁ (.ref a)) (.cons rfl .nil) (hsp H hS hHT)) fun r s' h => ?_
    cases r with
    | error e => exact (hCX H e s' h).elim
    | ok fl =>
      cases fl with
      | next => exact False.elim h
      | brk => exact False.elim h
      | cont => exact False.elim h
      | ret u =>
        obtain ⟨v, H', os, bare, un, hok', r', q1, q2⟩ := h
        subst q1
        obtain rfl : u = Value.bool true := r'
        obtain ⟨more, hT', _⟩ := hok' T _ q2
        have step : ∀ b o, s₁.heap.get? b = some o → b ≠ T → s'.heap.get? b = some o := fun b o e hb => by
          cases z : H b with
          | none => exact un.keep b o e z (by intro z; exact absurd (show b ∈ ([] : List Addr) from z) (by simp)) (by simp)
          | some u =>
            rcases hO b u z with ⟨h1, _⟩ | ⟨_, _, ob, xs, rfl⟩
            · exact absurd h1 hb
            · have z2 := un.frzs b ob _ z
              obtain ⟨e1, _⟩ := hok b _ z
              obtain ⟨e2, _⟩ := hok' b _ z2
              rw [e] at e1; cases e1
              exact e2
        refine ⟨rfl, ⟨fun b o e => ?_, fun b o e => ?_⟩, os, bare⟩
        · by_cases hb : b = T
          · subst hb
            rw [hT] at e; cases e
            exact .inr (.inl ⟨(hC.tab hT).isCodeTable, rfl, #[], more, rfl, hT'⟩)
          · exact .inl (step b o e hb)
        · by_cases hb : b = T
          · subst hb
            exact ⟨_, hT'⟩
          · exact ⟨o, step b o e hb⟩
  cases hk : K.lookup a with
  | some o =>
    have e := KX a o hk
    rw [ha] at e
    cases e
    refine core (fun b => if b = T then some (.tab #[] pos q) else none) (fun b u z => ?_) (if_pos rfl) (.inr ⟨_, vs.toArray, _, hk, rfl, rfl, rfl, by rw [List.size_toArray, lenV]; exact hl, by simpa using rv⟩) fun b u z => ?_
    · by_cases hb : b = T
      · have z' := (if_pos hb).symm.trans z
        cases z'
        exact .inl ⟨hb, rfl⟩
      · have z' := (if_neg hb).symm.trans z
        cases z'
    · by_cases hb : b = T
      · have z' := (if_pos hb).symm.trans z
        cases z'
        subst hb
        exact tab_start hT
      · have z' := (if_neg hb).symm.trans z
        cases z'
  | none =>
    refine core (fun b => if b = T then some (.tab #[] pos q) else if b = a then some (.frz { cls := .type "list", data := .seq vs.toArray } (.lst (ns.map V.int))) else none) (fun b u z => ?_) (if_pos rfl) (.inl (.inr ⟨{ cls := .type "list", data := .seq vs.toArray }, (if_neg haT).trans (if_pos rfl)⟩)) fun b u z => ?_
    · by_cases hb : b = T
      · have z' := (if_pos hb).symm.trans z
        cases z'
        exact .inl ⟨hb, rfl⟩
      · have z' := (if_neg hb).symm.trans z
        by_cases hb2 : b = a
        · have z'' := (if_pos hb2).symm.trans z'
          cases z''
          exact .inr ⟨hb2, hk, _, _, rfl⟩
        · have z'' := (if_neg hb2).symm.trans z'
          cases z''
    · by_cases hb : b = T
      · have z' := (if_pos hb).symm.trans z
        cases z'
        subst hb
        exact tab_start hT
      · have z' := (if_neg hb).symm.trans z
        by_cases hb2 : b = a
        · have z'' := (if_pos hb2).symm.trans z'
          cases z''
          subst hb2
          exact ⟨ha, by rw [List.length_map]; exact hl, vs, _, rv, ha⟩
        · have z'' := (if_neg hb2).symm.trans z'
          cases z''
theorem builtinsAt_of {h : Heap} {mg : Str → Option Value} {T : Addr} (hT : h.get? T = some (tabObj #[])) (hns : h.Ns mainGlobals mg) (hB : ∃ bm ob, mg "__builtins__" = some (.ref bm) ∧ bm ≠ builtinsNs ∧ h.get? bm = some ob ∧ ob.cls = .type "module" ∧ ob.dict = some builtinsNs ∧ ob.data = .plain) : h.BuiltinsAt mg T := by
  obtain ⟨bm, ob, a1, a2, e, r1, r2, r3⟩ := hB
  refine ⟨bm, ob, a1, a2, fun z => ?_, fun z => ?_, e, r1, r2, r3⟩
  · obtain ⟨o, es, ep, e2, d, _⟩ := hns
    rw [z, e2] at e; cases e
    rw [r3] at d; cases d
  · rw [z, hT] at e; cases e
    cases r3
theorem walk_ofT {l : PySem.W.OpenLaw} {n k : Nat} {q : Program} {loose : List Str} {XP : (Str → Option Value) → Heap → Prop} {YP : World → Heap → Prop} {d : DefRec} {K : Params → PySem.W.Frag} {CX : CXT} {sp : PySem.W.Frag → Addr → Sp} {x nm lq : Str} {pos : Pos}
    (hn : l.most = some n) (hn2 : n ≤ sizeLine) (hdf : d.params.defaults = []) (hr : Room k callerA)
    (hY : ∀ (w : World) (h : Heap), YP w h → (K w.params).In h)
    (hrec : ((recsOf q).find? fun e => e.name == nm).isSome = true) (hno : ∀ p, noTabs (K p) = true)
    (F : ∀ (w : World) (mg : Str → Option Value) (fa : Addr) (h : Heap), (K w.params).In h → h.Ns mainGlobals mg → mg d.name = some (.ref fa) →
      ∃ fd fl : FuncData, (∀ (s : Shared) (u : Value), BindsTo s fd ⟨[u], []⟩ [(x, u)]) ∧ (∃ g oc od osl, mg nm = some (.ref g) ∧ (K w.params).lookup g = some ⟨oc, od, .func fl, osl⟩) ∧
        ∀ (base : Heap) (T : Addr), (K w.params).In base → base.Ns mainGlobals mg → LamAt base mg fl T → FnOk l.prog w (K w.params) mg base CX k fa fd [x] (sp (K w.params) T))
    (hsp : ∀ (K : PySem.W.Frag) (H : Hp) (a T : Addr) (ns : List Int), ns.length ≤ n → SqL K H a (ns.map V.int) → H T = some (.tab #[] pos lq) → sp K T [.ref a] H (fun v H' => v = .bl true ∧ H' T = some (.tab #[] pos lq)) fun _ _ _ => False)
    (hCX : ∀ (H : Hp) (s : Shared) (e : Value) (s' : Shared), CX [] H s (fun _ _ _ => False) e s' → False) :
    PySem.W.WalkO q loose XP YP l.row.toRowW d [] (fun f vs => PySem.call f vs) := by
  refine Att.attach_call hn hdf fun w s₀ s₁ mg mb fa o pm cd doc a vs ns G Y ho hd hcd hmg hobj hints hlen hg => ?_
  have KX := hY w _ Y
  obtain ⟨fd, fl, hb, ⟨g, oc, od, osl, hm, hlk⟩, hF⟩ := F w mg fa _ KX G.T.g hmg
  obtain ⟨e, he⟩ := Option.isSome_iff_exists.mp hrec
  have hen : e.name = nm := beq_iff_eq.mp (List.find?_some (p := fun e : DefRec => e.name == nm) he)
  obtain ⟨a', o', fd', c, T, h1, h2, h3, h4, h5, h6⟩ := G.T.tab e (List.mem_of_find?_eq_some he)
  rw [hen, hm] at h1
  cases h1
  have e2 := KX _ _ hlk
  rw [h2] at e2
  cases e2
  have h3' : fl = fd' := by injection h3
  subst h3'
  have hC := CodeHd.of h5 h6
  exact law_callT (pos := pos) (q := lq) KX G.T.g G.T.b G.T.builtins G.T.nolimit hg hobj hints (Nat.le_trans hlen hn2) hr h4 hC h6.2 (hno _) (builtinsAt_of h6.2 G.T.g G.T.bmain) (fun base h1 h2 h3 => hF base T h1 h2 h3) hb (fun H hS hHT => hsp _ H a T ns hlen hS hHT) fun H e s' => hCX H s₁ e s'
theorem Fun.okC {P : Program} {w : World} {K : PySem.W.Frag} {mg : Str → Option Value} {base : Heap} {x qual : Str} {st : Stmt} {f : Addr} {fd : FuncData} {N ps : List Str} {k : Nat} {sp : Sp} (F : Fun K x qual st f fd) (S : FnScope N ps (defScope st)) (len : ∀ vs H Q E, sp vs H Q E → vs.length = ps.length)
    (hbody : ∀ (cdv : Value) (A : Around) (outer : List Env) (s : Shared) (H : Hp) (vs : List V) (Q : VK) (E : XK), fd.code = cdv → Room k (A.deeper (envOfC qual (defScope st) s.heap.objs.size f cdv)) → sp vs H Q E →
      ∃ t, PSs (cxOf CX0 P w K mg base N qual (defScope st) f cdv A outer s H E).nox (defBody st) t ∧ t { nx := fun _ H' => Q .non H', rt := Q } (start N vs) H) : FnOk P w K mg base CX0 (k + 1) f fd ps sp := by
  obtain ⟨oc, od, kV, doc, pm, an, cdv, ct, osl, rfl, lk, hcd⟩ := F.ex
  refine fn_of lk hcd S len fun A outer s H vs Q E hr hsp => ?_
  obtain ⟨t, h, q⟩ := hbody cdv A outer s H vs Q E rfl hr hsp
  exact ⟨t, h.nox, q⟩
theorem lam_free {names : List (Str × NameKind)} {y : Str} (hf : names.filter (fun n => n.2 == .free) = [(y, .free)]) : ∀ z, names.lookup z = some .free → z = y := fun z hz => by
  have hm := PySem.mem_of_lookup hz
  have : (z, NameKind.free) ∈ names.filter (fun n => n.2 == .free) := List.mem_filter.mpr ⟨hm, rfl⟩
  rw [hf] at this
  have := List.mem_singleton.mp this
  injection this
theorem clos_go {env : Env} {cc : Addr} : ∀ (names : List (Str × NameKind)) (acc : List (Str × Addr)), (∀ x ∈ names, x.2 = .free → env.cells.lookup x.1 = some cc) →
    (forIn (m := Sem) names acc fun x r => do
      let cs := r
      if (x.2 == .free) = true then do
        let a ← cellOf env x.1
        let cs := (x.1, a) :: cs
        pure PUnit.unit
        pure (ForInStep.yield cs)
      else do
        pure PUnit.unit
        pure (ForInStep.yield cs)) = pure (((names.filter fun n => n.2 == .free).map fun n => (n.1, cc)).reverse ++ acc) := by
  intro names
  induction names with
  | nil => intro acc _; rfl
  | cons x names ih =>
    intro acc h
    rw [List.forIn_cons]
    have ih' := fun acc => ih acc fun z hz => h z (List.mem_cons_of_mem _ hz)
    cases hx : (x.2 == NameKind.free) with
    | true =>
      have := h x List.mem_cons_self (by simpa using hx)
      have hco : cellOf env x.1 = pure cc := by unfold cellOf; rw [this]
      simp only [hx, hco, if_true, List.filter_cons, List.map_cons, List.reverse_cons, List.append_assoc, List.singleton_append]
      simpa using ih' _
    | false =>
      simp only [hx, List.filter_cons]
      simpa using ih' acc
theorem lam_clos {scope : Scope} {env : Env} {y : Str} {cc : Addr} (hf : scope.names.filter (fun n => n.2 == .free) = [(y, .free)]) (hc : env.cells.lookup y = some cc) : closureFor scope env = pure [(y, cc)] := by
  have h := clos_go (env := env) (cc := cc) scope.names [] fun x hx hk => by
    have : x ∈ scope.names.filter (fun n => n.2 == .free) := List.mem_filter.mpr ⟨hx, by rw [hk]; rfl⟩
    rw [hf] at this
    rw [List.mem_singleton.mp this]; exact hc
  rw [hf] at h
  unfold closureFor
  refine (bind_congr (fun _ => rfl)).trans ?_
  rotate_left
  exact (congrArg (· >>= fun r => pure r) h).trans rfl
end L2

namespace L2
open PySem PySem.Spec PyProof.Rows
abbrev HasT (H : Hp) (T : Addr) (pos : Pos) (q : Str) : Prop := H T = some (.tab #[] pos q)
def SpDT (K : PySem.W.Frag) (T : Addr) (pos : Pos) (q : Str) (pre : List D → Prop) (res : List D → D) : Sp := fun vs H Q _ => ∃ G ds, Same G H ∧ HasT G T pos q ∧ Reps K G ds vs ∧ pre ds ∧ ∀ v G' H', Ext G H G' H' → Rep K G' (res ds) v → Q v H'
def RtPO (K : PySem.W.Frag) (G H₀ : Hp) (rt : VK) (l : Int) (ds : List D) : Prop := ∀ a p vs F H, Ext G H₀ F H → H₀ p = none → F p = none → F a = some (.tup [.int l, .ref p]) → H p = some (.lst vs) → Reps K F ds vs → rt (.ref a) H
section
variable {K : PySem.W.Frag} {G H₀ L : Hp} {ss : List Sl} {t : TA} {ta te tb : TE} {ds : List D} {d : D} {pre : List D → Prop} {E : XK} {T : Addr} {pos : Pos} {q : Str}
theorem ev_callT {res : List D → D} (hT : HasT G T pos q) (a : EvAF K G H₀ L ss t ds) (hp : pre ds) : Ev K G H₀ L ss (tCall (SpDT K T pos q pre res) [] E t) (res ds) := fun F H σ Q S k =>
  a F H σ _ S fun vs F1 H1 e1 r1 => ⟨F1, ds, e1.fh, (S.ext.trans e1).gf _ _ hT, by rw [List.append_nil]; exact r1, hp, fun v G' H' e2 r => k _ _ _ (e1.trans e2) r⟩
theorem go_spDT {vs : List V} {H : Hp} {Q : VK} {X : XK} {N : List Str} {ts : TS} {res : List D → D} (h : SpDT K T pos q pre res vs H Q X) (hN : vs.length ≤ N.length) (body : ∀ G ds, HasT G T pos q → pre ds → RtD K G H Q (res ds) → Go K G H G { nx := fun _ H' => Q .non H', rt := Q } (slots N.length ds) ts) : ts { nx := fun _ H' => Q .non H', rt := Q } (start N vs) H := by
  obtain ⟨G, ds, sm, hT, r, hp, q⟩ := h
  exact body G ds hT hp (fun v F H' e r => q v F H' e r) G H _ (sat_start sm r hN)
theorem spDT_len {vs : List V} {H : Hp} {Q : VK} {X : XK} {res : List D → D} {n : Nat} (hpre : ∀ ds, pre ds → ds.length = n) (h : SpDT K T pos q pre res vs H Q X) : vs.length = n := by
  obtain ⟨G, ds, sm, hT, r, hp, q⟩ := h
  rw [← r.length]; exact hpre ds hp
theorem go_retPO {Es : Ends} {i : Nat} {p : Addr} {l : Int} (hs : ss[i]? = some (.o p ds)) (a : Ev K G H₀ L ss ta (.int l)) (h : RtPO K G H₀ Es.rt l ds) : Go K G H₀ L Es ss (tRet (tTup (tCons ta (tCons (tVar i) tNil)))) := fun F H σ S =>
  a F H σ _ S fun v F1 H1 e1 r1 => by
    have e := r1.of_int
    subst e
    obtain ⟨e2, h0, fp, vs, hp, r⟩ := (S.ext2 e1).getO hs
    refine ⟨_, e2, small_fits (by simp), fun x hx => ?_⟩
    have hne : p ≠ x := fun z => by rw [z, hx] at hp; cases hp
    exact h x p vs _ _ ((S.ext.trans e1).newF hx) h0 (by rw [upd_ne hne]; exact fp) upd_same (by rw [upd_ne hne]; exact hp) (r.mono (Same.upd (e1.fh.free hx)))
theorem reps_int_valsK {F : Hp} : ∀ {ns : List Int} {vs : List V}, Reps K F (ns.map D.int) vs → vs = ns.map V.int
  | [], vs, r => by rw [List.map_nil, Reps] at r; exact r
  | n :: ns, vs, r => by
    rw [List.map_cons, Reps] at r
    obtain ⟨v, ws, rfl, h1, h2⟩ := r
    rw [h1.of_int, reps_int_valsK h2]; rfl
theorem sat_lam {F H : Hp} {d1 d2 : D} {x y : V} (sm : Same F H) (r1 : Rep K F d1 x) (r2 : Rep K F d2 y) : Sat K F H F F H [some x, some y] [.d d1, .d d2] := by
  have := sat_start (N := ["a", "b"]) sm (Reps.cons r1 (Reps.cons r2 Reps.nil)) (Nat.le_refl _)
  exact this
theorem ev_minLam {α : Type} {i : Nat} {dy : D} (enc : α → D) (xs : List α) (key : α → Int × Int × List Int) (n : Nat) (a : EvL K G H₀ L ss ta (xs.map enc)) (hi : ss[i]? = some (.d dy)) (hT : HasT G T pos q) (hne : xs ≠ []) (hn : ∀ x ∈ xs, (key x).2.2.length = n)
    (he : ∀ F H, ∀ x ∈ xs, Ev K F H F [.d (enc x), .d dy] te (keyD (key x).1 (key x).2.1 (key x).2.2))
    (hd : ∀ x ∈ xs, (∀ y ∈ xs, ¬ ((key y).1 :: (key y).2.1 :: (key y).2.2) < ((key x).1 :: (key x).2.1 :: (key x).2.2)) → enc x = d) : Ev K G H₀ L ss (tMinL K T pos q i te ta) d := fun F H σ Q S k =>
  a F H σ _ S fun p vs F1 H1 e1 sq rs => by
    obtain ⟨vy, hσ, ry⟩ := (S.ext2 e1).getD hi
    have hl : vs.length = xs.length := by rw [← rs.length, List.length_map]
    have at_ : ∀ {j : Nat} {v : V}, vs[j]? = some v → ∃ x, xs[j]? = some x ∧ Rep K F1 (enc x) v := fun {j v} hv => by
      obtain ⟨d', hd', r⟩ := rs.get hv
      rw [List.getElem?_map] at hd'
      obtain ⟨x, hx, rfl⟩ := Option.map_eq_some_iff.mp hd'
      exact ⟨x, hx, r⟩
    refine ⟨p, vs, vy, xs.map key, n, rfl, sq, hσ, (S.ext.trans e1).fh _ _ ((S.ext.trans e1).gf _ _ hT), by rw [hl]; exact List.length_pos_iff.mpr hne, by rw [List.length_map, hl], fun z hz => ?_, fun j v z H' hv hz sm => ?_, fun j v H' hv hm sm => ?_⟩
    · obtain ⟨x, hx, rfl⟩ := List.mem_map.mp hz
      exact hn x hx
    · obtain ⟨x, hx, r⟩ := at_ hv
      rw [List.getElem?_map, hx] at hz
      cases hz
      exact he F1 H' x (List.mem_of_getElem? hx) F1 H' _ _ (sat_lam (e1.fh.trans sm) r ry) fun y F2 H2 e2 r2 => ⟨e2.hh, r2.mono e2.fh⟩
    · obtain ⟨x, hx, r⟩ := at_ hv
      have e : enc x = d := hd x (List.mem_of_getElem? hx) fun y hy => by
        obtain ⟨m, hm', hy'⟩ := List.getElem_of_mem hy
        have h1 := (hm m (by omega)).1
        rw [kI_at (k := key y) (by rw [List.getElem?_map, List.getElem?_eq_getElem hm', hy']; rfl), kI_at (k := key x) (by rw [List.getElem?_map, hx]; rfl)] at h1
        exact h1
      rw [e] at r
      exact k v F1 H' (e1.trans ⟨Same.refl _, e1.fh.trans sm, sm, fun _ _ _ => rfl⟩) r
theorem max_uniq {ns : List Int} {m m' : Int} (h1 : m ∈ ns) (h2 : ∀ n ∈ ns, n ≤ m) (h3 : m' ∈ ns) (h4 : ∀ n ∈ ns, n ≤ m') : m' = m := Int.le_antisymm (h2 _ h3) (h4 _ h1)
theorem ev_maxL {ns : List Int} {m : Int} (a : EvL K G H₀ L ss ta (ns.map .int)) (hm : m ∈ ns) (hge : ∀ n ∈ ns, n ≤ m) : Ev K G H₀ L ss (tCB (rMaxL K) (tCons ta tNil)) (.int m) := fun F H σ Q S k =>
  a F H σ _ S fun p vs F' H' e sq rs => by
    have ev := reps_int_valsK rs
    subst ev
    exact ⟨p, ns, rfl, sq, (fun z => by rw [z] at hm; cases hm), fun m' h3 h4 => by rw [max_uniq hm hge h3 h4]; exact k _ _ _ e Rep.int⟩
theorem ev_maxD {ns : List Int} {m d0 : Int} (a : EvL K G H₀ L ss ta (ns.map .int)) (b : Ev K G H₀ L ss tb (.int d0)) (h : (ns = [] ∧ m = d0) ∨ (m ∈ ns ∧ ∀ n ∈ ns, n ≤ m)) : Ev K G H₀ L ss (tMaxD K ta tb) (.int m) := fun F H σ Q S k =>
  a F H σ _ S fun p vs F' H' e sq rs => by
    have ev := reps_int_valsK rs
    subst ev
    refine b F' H' σ _ (S.ext2 e) fun v F2 H2 e2 r2 => ?_
    refine ⟨p, ns, d0, rfl, r2.of_int, SqL.same e2.hh sq, fun m' h3 h4 => ?_, fun hn => ?_⟩
    · rcases h with ⟨rfl, _⟩ | ⟨h1, h2⟩
      · cases h3
      · rw [max_uniq h1 h2 h3 h4]; exact k _ _ _ (e.trans e2) Rep.int
    · rcases h with ⟨_, rfl⟩ | ⟨h1, h2⟩
      · exact k _ _ _ (e.trans e2) Rep.int
      · rw [hn] at h1; cases h1
end
end L2

namespace L2
open PySem PySem.Spec PyProof.Rows
def Ite (K : PySem.W.Frag) (a : Addr) : It :=
  ⟨fun i H => ∃ xs x, SqL K H a xs ∧ xs[i]? = some x, fun i H x H' => ∃ T0 vs, x = .ref T0 ∧ H T0 = none ∧ H' = upd H T0 (.tup vs) ∧ ∀ xs, SqL K H a xs → ∃ y, xs[i]? = some y ∧ vs = [.int i, y], fun i H => ∃ xs, SqL K H a xs ∧ xs.length = i⟩
theorem turn_enumL {P : Program} {w : World} {K : PySem.W.Frag} {elts : List Expr} {kk : Nat} {tp : Pos} (a it e : Addr) (hae : a ≠ e) (hai : a ≠ it) (hei : e ≠ it) :
    Turn P w K (.Tuple elts kk tp) (Ite K a) [e, it] e (fun i h => (∃ old, IsEnum h e it i old) ∧ h.IsListIter it a i) where
  mem := by simp
  obj := fun i h st b hb => by
    obtain ⟨⟨old, ho⟩, oi, hoi, _, hdi⟩ := st
    rcases List.mem_cons.mp hb with rfl | hb
    · exact ⟨_, ho, fun v z => by cases z⟩
    · rw [List.mem_singleton.mp hb]
      exact ⟨oi, hoi, fun v z => by rw [hdi] at z; cases z⟩
  keep := fun i h h' st k => ⟨let ⟨old, ho⟩ := st.1; ⟨old, k e (by simp) _ ho⟩, st.2.at fun o x => k it (by simp) o x⟩
  item := by
    intro X hP hw hK hc i pins s σ H E I hf st hg
    subst hP hw hK
    obtain ⟨xs, x, hq, hx⟩ := hg
    obtain ⟨its, rv, p, hz⟩ := I.list hq
    obtain ⟨u, hu, ru⟩ := rv.get hx
    have hil : i < its.length := (List.getElem?_eq_some_iff.mp hu).1
    have W0 := WalksT.enumerateD (A := X.A) (Draws.list (prog := X.prog) (w := X.w) (A := X.A.in1) (show X.A.in1.handled = none from I.ok.hd hc) it a hai its.toArray) e hei (by simp [hei, Ne.symm hae]) (by simp)
    refine W0.item i s _ _ (by simpa using hil) ⟨st.1, st.2, p.isList⟩ fun T0 vals h1 tk hp hle ht mid kk => ?_
    obtain ⟨t, v, hv, rfl⟩ := hp
    have hv : its[i]? = some v := by simpa using hv
    rw [hu] at hv; cases hv
    have fresh : H T0 = none := I.hok.fresh hle
    have I1 : Inv X pins σ (upd H T0 (.tup [.int i, x])) { s with heap := h1, toks := tk } := I.turnsT (wr := [e, it]) hf kk hle ht (.cons ⟨t, rfl⟩ (.cons ru .nil)) (by rw [sizeLine_eq]; simp)
    refine ⟨.ref T0, rfl, W0.go elts _ tp i T0 _ _ _ mid fun h2 st2 k2 => ?_⟩
    have hlt : ∀ b ∈ [e, it], b ≠ T0 := fun b hb z => by
      obtain ⟨⟨old, ho⟩, oi, hoi, _, hdi⟩ := st
      rcases List.mem_cons.mp hb with rfl | hb
      · exact absurd (Nat.lt_of_lt_of_le (Heap.lt_size ho) (z ▸ hle)) (Nat.lt_irrefl _)
      · rw [List.mem_singleton.mp hb] at z
        exact absurd (Nat.lt_of_lt_of_le (Heap.lt_size hoi) (z ▸ hle)) (Nat.lt_irrefl _)
    have hf1 : ∀ b ∈ [e, it], FpOk X pins (upd H T0 (.tup [.int i, x])) b := fun b hb => ⟨by rw [upd_ne (hlt b hb)]; exact (hf b hb).1, (hf b hb).2⟩
    exact ⟨.ref T0, _, I1.turns (t' := tk) hf1 k2, rfl, ⟨T0, _, rfl, fresh, rfl, fun ys hy => ⟨x, by rw [I.list_inj hy hq]; exact hx, rfl⟩⟩, ⟨st2.1, st2.2.1⟩, fun b hb => by rw [upd_ne (hlt b hb)]; exact (hf b hb).1⟩
  done := by
    intro X hP hw hK hc i pins s σ H E I hf st hg
    subst hP hw hK
    obtain ⟨xs, hq, hx⟩ := hg
    obtain ⟨its, rv, p, hz⟩ := I.list hq
    have hl := rv.length
    have hs : its.toArray.size = i := by simp; lia
    have W0 := WalksT.enumerateD (A := X.A) (Draws.list (prog := X.prog) (w := X.w) (A := X.A.in1) (show X.A.in1.handled = none from I.ok.hd hc) it a hai its.toArray) e hei (by simp [hei, Ne.symm hae]) (by simp)
    rw [hs] at W0
    exact W0.done s _ _ ⟨st.1, st.2, p.isList⟩ fun h1 tk kk => ⟨rfl, I.turns (wr := [e, it]) hf kk⟩
  self := fun A i s Q E st h => wpAny_pyIter_enum st.1.choose_spec h
section
variable {X : Cx} {e : Expr} {ta : TA} {elts : List Expr} {kk : Nat} {tp p pos : Pos}
def iEnL (K : PySem.W.Frag) (ta : TA) : TI := fun σ H R => ta σ H fun vs H1 => ∃ a, vs = [.ref a] ∧ (∃ xs, SqL K H1 a xs) ∧ R (Ite K a) H1
theorem pi_enum_list (hg : Gl X "enumerate") (hm : X.mg "enumerate" = none) (hA : PA X [e] ta) (hs : starEach [e] X.env = [(false, eval e X.env)] := by rfl) :
    PI X (.Tuple elts kk tp) (.Call (.Name "enumerate" p) [e] [] pos) (iEnL X.K ta) := by
  intro pins s σ H R I h
  refine Call_ (ld_blt I hg hm boot_enumerate (PyProof.Rows.callWith_type1 (thn (hA pos pins s σ H _ I h) fun us s1 ⟨vs, H1, I1, r1, q1⟩ => ?_) hs rfl))
  obtain ⟨a, rfl, ⟨xs, hq⟩, q⟩ := q1
  obtain ⟨u, rfl, ru⟩ := vals1 r1
  cases ru
  obtain ⟨its, rv, p, hz⟩ := I1.list hq
  refine call_enumerate_list p.isList fun h1 hen hit hsz hk => ?_
  have I2 : Inv X pins σ H1 { s1 with heap := h1 } := I1.kept (t' := s1.toks) hk
  refine wpAny_pyIter_enum hen ?_
  have hlt : a < s1.heap.objs.size := by obtain ⟨o, ho, _⟩ := p.isList; exact Heap.lt_size ho
  refine ⟨s1.heap.objs.size + 1, [s1.heap.objs.size + 1, s1.heap.objs.size], _, _, H1, rfl, I2, turn_enumL a s1.heap.objs.size (s1.heap.objs.size + 1) (Nat.ne_of_lt (Nat.lt_succ_of_lt hlt)) (Nat.ne_of_lt hlt) (Nat.succ_ne_self _), ⟨⟨_, hen⟩, hit⟩, fun b hb => ?_, q⟩
  rcases List.mem_cons.mp hb with rfl | hb
  · exact I1.fpOk (Nat.le_succ _) (I1.hok.fresh (Nat.le_succ _))
  · rw [List.mem_singleton.mp hb]
    exact I1.fpOk (Nat.le_refl _) (I1.hok.fresh (Nat.le_refl _))
theorem ints_are : ∀ {ns : List Int} {its : List Value}, Vals (ns.map V.int) its → IntsAre its ns
  | [], _, h => by cases h; exact .nil
  | n :: ns, _, h => by
    cases h with
    | cons a b =>
      obtain ⟨t, rfl⟩ := a
      exact .cons n t (ints_are b)
end
end L2

namespace L2
open PySem PySem.Spec PyProof.Rows PySem.Calls
section
variable {K : PySem.W.Frag} {G H₀ L : Hp} {ss : List Sl} {ta tb te ti : TE} {ds : List D} {d : D} {E : Ends} {i j : Nat} {p : Addr}
theorem Reps.rep {H : Hp} {vs : List V} (r : Reps K H ds vs) : ∀ n : Nat, Reps K H (List.replicate n ds).flatten (List.replicate n vs).flatten
  | 0 => Reps.nil
  | n + 1 => by rw [List.replicate_succ, List.replicate_succ, List.flatten_cons, List.flatten_cons]; exact r.append (Reps.rep r n)
theorem evo_rep {n : Nat} (a : EvO K G H₀ L ss ta ds) (b : EvB K G H₀ L ss tb (.int n)) (hz : ds.length * n ≤ 1000) (hn : n ≤ 1000) : EvO K G H₀ L ss (tOp rRep ta tb) (List.replicate n ds).flatten := fun F H σ Q S q =>
  a F H σ _ S fun p vs F1 H1 e1 hp fp hp' r => b F1 H1 σ _ (S.ext2 e1) fun w F2 H2 e2 r2 => by
    rw [r2.of_int]
    refine ⟨p, n, vs, rfl, rfl, e2.hh _ _ hp', by omega, by omega, ?_, fun l hl => ?_⟩
    · rw [← r.length, sizeLine_eq]
      have : ((n : Int)).toNat = n := rfl
      rw [this]; omega
    · exact q l _ F2 _ ((e1.trans e2).newO hl) ((e1.trans e2).hh.free hl) ((e1.trans e2).fh.free hl) upd_same ((r.mono e2.gf).rep n)
end
end L2

namespace L2
open PySem PySem.Spec PyProof.Rows

section
variable {κ : Type} [DecidableEq κ]
def valV (kvs : List (κ × V)) (k : κ) : Option V := (kvs.find? fun kv => decide (kv.1 = k)).map (·.2)
def putK (kvs : List (κ × V)) (k : κ) (v : V) : List (κ × V) :=
  if (kvs.any fun kv => decide (kv.1 = k)) = true then kvs.map (fun kv => if kv.1 = k then (kv.1, v) else kv) else kvs ++ [(k, v)]
theorem valV_pos {p : κ × V} {r : List (κ × V)} {k : κ} (e : p.1 = k) : valV (p :: r) k = some p.2 := by simp [valV, List.find?_cons, e]
theorem valV_neg {p : κ × V} {r : List (κ × V)} {k : κ} (e : ¬ p.1 = k) : valV (p :: r) k = valV r k := by simp [valV, List.find?_cons, e]
theorem valV_any (k : κ) : ∀ kvs : List (κ × V), (kvs.any fun kv => decide (kv.1 = k)) = (valV kvs k).isSome
  | [] => rfl
  | p :: r => by
    rw [List.any_cons]
    by_cases e : p.1 = k
    · simp only [valV_pos e, decide_eq_true e, Bool.true_or, Option.isSome_some]
    · rw [valV_neg e, decide_eq_false e, Bool.false_or]; exact valV_any k r
theorem length_putK (kvs : List (κ × V)) (k : κ) (v : V) : (putK kvs k v).length ≤ kvs.length + 1 := by
  unfold putK
  split
  · rw [List.length_map]; omega
  · rw [List.length_append, List.length_cons, List.length_nil]; omega
theorem putK_new {kvs : List (κ × V)} {k : κ} (v : V) (h : valV kvs k = none) : putK kvs k v = kvs ++ [(k, v)] := by
  unfold putK
  rw [valV_any, h]
  exact if_neg (by decide)

theorem RelO.isSome_eq {o : Option V} {u : Option Value} (r : RelO o u) : o.isSome = u.isSome := by
  cases o with
  | none => cases u with
    | none => rfl
    | some _ => exact (show False from r).elim
  | some _ => cases u with
    | none => exact (show False from r).elim
    | some _ => rfl
theorem KV.val {kvs : List (κ × V)} {vs : List (κ × Value)} (r : KV kvs vs) (k : κ) : RelO (valV kvs k) (valueAt vs k) := by
  unfold KV at r
  induction r with
  | nil => exact True.intro
  | @cons p q ps qs h t ih =>
    obtain ⟨h1, h2⟩ := h
    by_cases e : p.1 = k
    · have e' : q.1 = k := h1.symm.trans e
      have b : valueAt (q :: qs) k = some q.2 := by simp [valueAt, List.find?_cons, e']
      rw [valV_pos e, b]; exact h2
    · have e' : ¬ q.1 = k := fun z => e (h1.trans z)
      have b : valueAt (q :: qs) k = valueAt qs k := by simp [valueAt, List.find?_cons, e']
      rw [valV_neg e, b]; exact ih
theorem KV.any {kvs : List (κ × V)} {vs : List (κ × Value)} (r : KV kvs vs) (k : κ) : (kvs.any fun kv => decide (kv.1 = k)) = vs.any fun kv => decide (kv.1 = k) := by
  unfold KV at r
  induction r with
  | nil => rfl
  | cons h t ih => rw [List.any_cons, List.any_cons, ih, h.1]
theorem KV.repl {kvs : List (κ × V)} {vs : List (κ × Value)} (r : KV kvs vs) (k : κ) {y : V} {u : Value} (ry : RelV y u) :
    KV (kvs.map fun kv => if kv.1 = k then (kv.1, y) else kv) (vs.map fun kv => if kv.1 = k then (kv.1, u) else kv) := by
  unfold KV at r ⊢
  induction r with
  | nil => exact .nil
  | @cons p q ps qs h t ih =>
    rw [List.map_cons, List.map_cons]
    refine .cons ?_ ih
    obtain ⟨h1, h2⟩ := h
    by_cases e : p.1 = k
    · rw [if_pos e, if_pos (h1.symm.trans e)]; exact ⟨h1, ry⟩
    · rw [if_neg e, if_neg (fun z => e (h1.trans z))]; exact ⟨h1, h2⟩
theorem KV.put {kvs : List (κ × V)} {vs : List (κ × Value)} (r : KV kvs vs) (k : κ) {y : V} {u : Value} (ry : RelV y u) : KV (putK kvs k y) (stored vs k u) := by
  unfold putK stored
  rw [r.any k]
  by_cases e : (vs.any fun kv => decide (kv.1 = k)) = true
  · rw [if_pos e, if_pos e]; exact r.repl k ry
  · rw [if_neg e, if_neg e]; exact Paired.snoc r ⟨rfl, ry⟩
theorem KV.length {kvs : List (κ × V)} {vs : List (κ × Value)} (r : KV kvs vs) : kvs.length = vs.length := Paired.length r
end

theorem kV_is {P : Program} {w : World} {k : Key} {u : Value} (r : RelV (kV k) u) : (mixKind P w).is k u = true := by
  cases k with
  | inl i => obtain ⟨t, e⟩ := (show ∃ t, u = Value.int i t from r); subst e; exact mixKind_int P w i t
  | inr x => obtain ⟨t, e⟩ := (show ∃ t, u = Value.str x t from r); subst e; exact mixKind_str P w x t
theorem items_are {P : Program} {w : World} : ∀ {ks : List Key} {us : List Value}, Vals (ks.map kV) us → ItemsAre (mixKind P w) ks us
  | [], _, r => by rw [List.map_nil] at r; cases r; exact .nil
  | k :: ks, _, r => by
    rw [List.map_cons] at r
    cases r with
    | cons h t => exact .cons (kV_is h) (items_are t)

abbrev KT (H : Hp) : List (List Key × V) → List (List Key × Addr × Value) → Prop := Paired fun p q => p.1 = q.1 ∧ H q.2.1 = some (.tup (p.1.map kV)) ∧ RelV p.2 q.2.2
theorem KT.val {H : Hp} {kvs : List (List Key × V)} {xs : List (List Key × Addr × Value)} (r : KT H kvs xs) (k : List Key) : RelO (valV kvs k) ((atKey xs k).map (·.2)) := by
  induction r with
  | nil => exact True.intro
  | @cons p q ps qs h t ih =>
    obtain ⟨h1, _, h2⟩ := h
    by_cases e : p.1 = k
    · have e' : q.1 = k := h1.symm.trans e
      have b : atKey (q :: qs) k = some q.2 := by simp [atKey, List.find?_cons, e']
      rw [valV_pos e, b]; exact h2
    · have e' : ¬ q.1 = k := fun z => e (h1.trans z)
      have b : atKey (q :: qs) k = atKey qs k := by simp [atKey, List.find?_cons, e']
      rw [valV_neg e, b]; exact ih
theorem KT.repl {H : Hp} {kvs : List (List Key × V)} {xs : List (List Key × Addr × Value)} (r : KT H kvs xs) (k : List Key) {y : V} {u : Value} (ry : RelV y u) :
    KT H (kvs.map fun kv => if kv.1 = k then (kv.1, y) else kv) (xs.map (putAt k u)) := by
  induction r with
  | nil => exact .nil
  | @cons p q ps qs h t ih =>
    rw [List.map_cons, List.map_cons]
    refine .cons ?_ ih
    obtain ⟨h1, h2, h3⟩ := h
    unfold putAt
    by_cases e : p.1 = k
    · rw [if_pos e, if_pos (h1.symm.trans e)]; exact ⟨h1, h2, ry⟩
    · rw [if_neg e, if_neg (fun z => e (h1.trans z))]; exact ⟨h1, h2, h3⟩
theorem KT.put {H : Hp} {kvs : List (List Key × V)} {xs : List (List Key × Addr × Value)} (r : KT H kvs xs) (k : List Key) {b : Addr} {y : V} {u : Value} (hb : H b = some (.tup (k.map kV))) (ry : RelV y u) :
    KT H (putK kvs k y) (storedH xs k b u) := by
  have e : (kvs.any fun kv => decide (kv.1 = k)) = (atKey xs k).isSome := by
    rw [valV_any, (r.val k).isSome_eq, Option.isSome_map]
  unfold putK storedH
  rw [e]
  by_cases q : (atKey xs k).isSome = true
  · rw [if_pos q, if_pos q]; exact r.repl k ry
  · rw [if_neg q, if_neg q]; exact Paired.snoc r ⟨rfl, hb, ry⟩
theorem KT.keeps {H H' : Hp} {kvs : List (List Key × V)} {xs : List (List Key × Addr × Value)} (r : KT H kvs xs) (ht : ∀ b ys, H b = some (.tup ys) → H' b = some (.tup ys)) : KT H' kvs xs :=
  Paired.mapP r fun _ _ z => ⟨z.1, ht _ _ z.2.1, z.2.2⟩

section
variable {P : Program} {w : World} {H : Hp} {h : Heap} {a : Addr}
theorem rd_of {u : HO} (ok : HOk P w H h) (e : Rd H a u) : ObjOk P w H h a u := e.ok ok
theorem dk_rd {kvs : List (Key × V)} (ok : HOk P w H h) (e : Rd H a (.dK kvs)) : kvs.length ≤ sizeLine ∧ (a == sysModules) = false ∧ ∃ vs, KV kvs vs ∧ h.DictOf (mixKind P w) a vs :=
  show ObjOk P w H h a (.dK kvs) from rd_of ok e
theorem dk_of {kvs : List (Key × V)} (ok : HOk P w H h) (e : H a = some (.dK kvs)) : kvs.length ≤ sizeLine ∧ (a == sysModules) = false ∧ ∃ vs, KV kvs vs ∧ h.DictOf (mixKind P w) a vs := dk_rd ok (.inl e)
theorem key_of {ks : List Key} (ok : HOk P w H h) (e : H a = some (.tup (ks.map kV))) : (tupleKind (mixKind P w)).is h ks a := by
  obtain ⟨_, its, r, o, h1, h2, n, h3⟩ := (show ObjOk P w H h a (.tup (ks.map kV)) from ok a _ e)
  exact ⟨o, its.toArray, n, h1, h2, h3, by simpa using items_are r⟩
theorem dt_rd {kvs : List (List Key × V)} (ok : HOk P w H h) (e : Rd H a (.dT kvs)) : kvs.length ≤ sizeLine ∧ (a == sysModules) = false ∧
    ∃ xs, KT H kvs xs ∧ h.DictOfH (tupleKind (mixKind P w)) a xs := by
  obtain ⟨z, y, xs, r, o, es, ep, h1, h2, h3, h4, h5⟩ := (show ObjOk P w H h a (.dT kvs) from rd_of ok e)
  refine ⟨z, y, xs, r, o, es, ep, h1, h2, h3, h4, fun x hx => ?_, h5⟩
  have all : ∀ {l : List (List Key × V)} {m : List (List Key × Addr × Value)}, KT H l m → ∀ x ∈ m, (tupleKind (mixKind P w)).is h x.1 x.2.1 := by
    intro l m q
    induction q with
    | nil => intro x hx; exact nomatch hx
    | @cons p q ps qs hq t ih =>
      intro x hx
      rcases List.mem_cons.mp hx with e | hx
      · subst e
        exact key_of ok (by rw [← hq.1]; exact hq.2.1)
      · exact ih x hx
  exact all r x hx
theorem dt_of {kvs : List (List Key × V)} (ok : HOk P w H h) (e : H a = some (.dT kvs)) : kvs.length ≤ sizeLine ∧ (a == sysModules) = false ∧
    ∃ xs, KT H kvs xs ∧ h.DictOfH (tupleKind (mixKind P w)) a xs := dt_rd ok (.inl e)
end

def DGet (H : Hp) (a : Addr) (y : V) (r : Option V) : Prop :=
  (∃ kvs k, Rd H a (.dK kvs) ∧ y = kV k ∧ r = valV kvs k) ∨ ∃ kvs k b, Rd H a (.dT kvs) ∧ y = .ref b ∧ H b = some (.tup (k.map kV)) ∧ r = valV kvs k
def DPut (H : Hp) (a : Addr) (y v : V) (H' : Hp) : Prop :=
  (∃ kvs k, H a = some (.dK kvs) ∧ y = kV k ∧ kvs.length < sizeLine ∧ H' = upd H a (.dK (putK kvs k v))) ∨
  ∃ kvs k b, H a = some (.dT kvs) ∧ y = .ref b ∧ H b = some (.tup (k.map kV)) ∧ kvs.length < sizeLine ∧ H' = upd H a (.dT (putK kvs k v))
theorem DGet.k {H : Hp} {a : Addr} {kvs : List (Key × V)} {k : Key} (e : H a = some (.dK kvs)) : DGet H a (kV k) (valV kvs k) := .inl ⟨kvs, k, .inl e, rfl, rfl⟩
theorem DGet.t {H : Hp} {a b : Addr} {kvs : List (List Key × V)} {k : List Key} (e : H a = some (.dT kvs)) (eb : H b = some (.tup (k.map kV))) : DGet H a (.ref b) (valV kvs k) := .inr ⟨kvs, k, b, .inl e, rfl, eb, rfl⟩
theorem DPut.k {H : Hp} {a : Addr} {kvs : List (Key × V)} {k : Key} {v : V} (e : H a = some (.dK kvs)) (hl : kvs.length < sizeLine) : DPut H a (kV k) v (upd H a (.dK (putK kvs k v))) := .inl ⟨kvs, k, e, rfl, hl, rfl⟩
theorem DPut.t {H : Hp} {a b : Addr} {kvs : List (List Key × V)} {k : List Key} {v : V} (e : H a = some (.dT kvs)) (eb : H b = some (.tup (k.map kV))) (hl : kvs.length < sizeLine) :
    DPut H a (.ref b) v (upd H a (.dT (putK kvs k v))) := .inr ⟨kvs, k, b, e, rfl, eb, hl, rfl⟩

section
variable {X : Cx} {pins : List (Addr × Obj)} {σ : St} {H : Hp} {s : Shared} {a : Addr} {y v : V} {u r : Value} {o : Option V} {A : Around} {E : Value → Shared → Prop}

theorem Inv.big (I : Inv X pins σ H s) : sysModules < s.heap.objs.size := by
  have h : mainGlobals < s.heap.objs.size := (I.mod.glob.keeps I.bk).lt
  exact Nat.lt_trans (by decide) h

theorem d_getItem {Q : Value → Shared → Prop} (hu : A.units + 1 < cLine) (I : Inv X pins σ H s) (g : DGet H a y (some v)) (ry : RelV y u) (h : ∀ w' s', Inv X pins σ H s' → RelV v w' → Q w' s') :
    wpAny (model X.prog X.w) A (getItem (.ref a) u) Q E s := by
  rcases g with ⟨kvs, k, e, ey, l⟩ | ⟨kvs, k, b, e, ey, eb, l⟩
  · subst ey
    obtain ⟨z, hd, vs, rel, dd⟩ := dk_rd I.hok e
    obtain ⟨w', hw, rw'⟩ := RelO.some_of (v := v) (o := valueAt vs k) (by rw [l]; exact rel.val k)
    exact wpAny_getItem_of (kV_is ry) dd.mapOf hw (h w' _ (I.tok _) rw')
  · subst ey
    cases (show u = Value.ref b from ry)
    obtain ⟨z, hd, xs, rel, dd⟩ := dt_rd I.hok e
    obtain ⟨w', hw, rw'⟩ := RelO.some_of (v := v) (o := (atKey xs k).map (·.2)) (by rw [l]; exact rel.val k)
    obtain ⟨p, hp, hp2⟩ := Option.map_eq_some_iff.mp hw
    refine wpAny_getItem_heap (tupleKind_room_in1 hu) (key_of I.hok eb) dd hp ?_
    rw [hp2]
    exact h w' _ (I.tok _) rw'
theorem d_in {Q : Value → Shared → Prop} (hu : A.units + 1 < cLine) (I : Inv X pins σ H s) (g : DGet H a y o) (ry : RelV y u) (h : ∀ s', Inv X pins σ H s' → Q (.bool o.isSome) s') :
    wpAny (model X.prog X.w) A (compareOp .In u (.ref a)) Q E s := by
  rcases g with ⟨kvs, k, e, ey, l⟩ | ⟨kvs, k, b, e, ey, eb, l⟩
  · subst ey
    obtain ⟨z, hd, vs, rel, dd⟩ := dk_rd I.hok e
    refine wpAny_in_of (kV_is ry) hd dd.mapOf ?_
    rw [← (rel.val k).isSome_eq, ← l]
    exact h _ (I.tok _)
  · subst ey
    cases (show u = Value.ref b from ry)
    obtain ⟨z, hd, xs, rel, dd⟩ := dt_rd I.hok e
    refine wpAny_in_heap (tupleKind_room_in1 hu) (key_of I.hok eb) hd dd ?_
    have q := (rel.val k).isSome_eq
    rw [Option.isSome_map] at q
    rw [← q, ← l]
    exact h _ (I.tok _)
theorem d_notIn {Q : Value → Shared → Prop} (hu : A.units + 1 < cLine) (I : Inv X pins σ H s) (g : DGet H a y o) (ry : RelV y u) (h : ∀ s', Inv X pins σ H s' → Q (.bool (!o.isSome)) s') :
    wpAny (model X.prog X.w) A (compareOp .NotIn u (.ref a)) Q E s := by
  rcases g with ⟨kvs, k, e, ey, l⟩ | ⟨kvs, k, b, e, ey, eb, l⟩
  · subst ey
    obtain ⟨z, hd, vs, rel, dd⟩ := dk_rd I.hok e
    refine wpAny_notIn_of (kV_is ry) hd dd.mapOf ?_
    rw [← (rel.val k).isSome_eq, ← l]
    exact h _ (I.tok _)
  · subst ey
    cases (show u = Value.ref b from ry)
    obtain ⟨z, hd, xs, rel, dd⟩ := dt_rd I.hok e
    refine wpAny_notIn_heap (tupleKind_room_in1 hu) (key_of I.hok eb) hd dd ?_
    have q := (rel.val k).isSome_eq
    rw [Option.isSome_map] at q
    rw [← q, ← l]
    exact h _ (I.tok _)
theorem d_write {h' : Heap} {t' : Nat} {ob : HO} (I : Inv X pins σ H s) (mu : Mut (H a)) (hs : Heap.SameBut a s.heap h') (he : ∃ q, h'.get? a = some q) (new : ObjOk X.prog X.w (upd H a ob) h' a ob) :
    Inv X pins σ (upd H a ob) { s with heap := h', toks := t' } :=
  I.write (x := a) (e := a) mu (.inl rfl) (fun b q hb z => (hs.2 b hb).trans z) he new
theorem dk_new {P : Program} {w : World} {H' : Hp} {h' : Heap} {kvs : List (Key × V)} {vs : List (Key × Value)} (z : kvs.length ≤ sizeLine) (hd : (a == sysModules) = false) (rel : KV kvs vs) (dd : h'.DictOf (mixKind P w) a vs) :
    ObjOk P w H' h' a (.dK kvs) := ⟨z, hd, vs, rel, dd⟩
theorem d_setItem {H' : Hp} {Q : Unit → Shared → Prop} (hu : A.units + 1 < cLine) (I : Inv X pins σ H s) (g : DPut H a y v H') (ry : RelV y u) (rv : RelV v r) (h : ∀ s', Inv X pins σ H' s' → Q () s') :
    wpAny (model X.prog X.w) A (setItem (.ref a) u r) Q E s := by
  rcases g with ⟨kvs, k, e, ey, l, eH⟩ | ⟨kvs, k, b, e, ey, eb, l, eH⟩
  · subst ey eH
    obtain ⟨z, hd, vs, rel, dd⟩ := dk_of I.hok e
    have hz : vs.length ≤ sizeLine := by rw [← rel.length]; exact z
    have hl : (putK kvs k v).length ≤ sizeLine := by have := length_putK kvs k v; omega
    refine wpAny_setItem_pairs (hsz := hz) (kV_is ry) dd fun h' dd' hs => h _ ?_
    have he : ∃ q, h'.get? a = some q := let ⟨q, _, _, hq, _⟩ := dd'; ⟨q, hq⟩
    exact d_write I (by rw [e]; exact True.intro) hs he (dk_new hl hd (rel.put k rv) dd')
  · subst ey eH
    cases (show u = Value.ref b from ry)
    obtain ⟨z, hd, xs, rel, dd⟩ := dt_of I.hok e
    have hz : xs.length ≤ sizeLine := by rw [← Paired.length rel]; exact z
    have hl : (putK kvs k v).length ≤ sizeLine := by have := length_putK kvs k v; omega
    refine wpAny_setItem_heap (hsz := hz) (tupleKind_room_in1 hu) (key_of I.hok eb) dd fun h' dd' hs => h _ ?_
    obtain ⟨q, es, ep, hq, h2, h3, h4, _, h5⟩ := dd'
    refine d_write I (by rw [e]; exact True.intro) hs ⟨q, hq⟩ ⟨hl, hd, _, (rel.put k eb rv).keeps fun c ys ec => ?_, q, es, ep, hq, h2, h3, h4, h5⟩
    rw [upd_ne (ne_of ec e (fun z => nomatch z))]
    exact ec
end

section
variable {X : Cx} {pins : List (Addr × Obj)} {σ : St} {H : Hp} {s : Shared} {a : Addr} {kvs : List (Key × V)} {k : Key} {u : Value} {A : Around} {E : Value → Shared → Prop}
theorem d_len {Q : Value → Shared → Prop} (I : Inv X pins σ H s) (e : Rd H a (.dK kvs)) (h : ∀ t s', Inv X pins σ H s' → Q (.int kvs.length t) s') : wpAny (model X.prog X.w) A (call (.builtin "len") [.ref a]) Q E s := by
  obtain ⟨z, hd, vs, rel, dd⟩ := dk_rd I.hok e
  refine call_len_dict hd dd (by rw [← rel.length]; rw [sizeLine_eq] at z; omega) ?_
  rw [← rel.length]
  exact h _ _ (I.tok _)
end

def NoSl (i : Expr) : Prop := ∀ ov iv, subscripted i false ov iv = operate [ov, iv] (getItem ov iv)
theorem subD_of {prog : Program} {w : World} {A : Around} {E : Value → Shared → Prop} {s : Shared} {env : Env} {value slice : Expr} {pos : Pos} {T id : String} {Q : Value → Shared → Prop}
    (hl : typeLookup (.type T) "__getitem__" = pure (some (.builtin id))) (hs : NoSl slice)
    (h : wpAny (model prog w) A (eval value env) (fun o s₁ => wpAny (model prog w) A (eval slice env) (fun i s₂ => s₂.TypeIs o T ∧ wpAny (model prog w) A (getItem o i) Q E s₂) E s₁) E s) :
    wpAny (model prog w) A (eval (.Subscript value slice pos) env) Q E s := by
  refine Subscript_ (wpAny_mono h (fun o s₁ h₁ => wpAny_mono h₁ (fun i s₂ h₂ => ?_) fun _ _ x => x) fun _ _ x => x)
  obtain ⟨hT, h₂⟩ := h₂
  unfold subscriptTail
  refine wpAny_bind ?_
  rw [getitemInPython_of_ne hT.not_modules]
  refine wpAny_bind (wpAny_specialOf hT hl ?_)
  have fin : wpAny (model prog w) A (subscripted slice false o i) (fun r s₃ => wpAny (model prog w) A (letTemporaryGo value o r >>= fun _ => pure r) Q E s₃) E s₂ := by
    rw [hs o i]
    exact wpAny_operating (wpAny_mono h₂ (fun r s₃ h₃ => wpAny_bind (wpAny_letTemporaryGo (wpAny_pure h₃))) fun _ _ x => x)
  first
    | exact wpAny_pure (wpAny_bind fin)
    | exact wpAny_bind (wpAny_pure (wpAny_bind fin))
    | exact wpAny_bind fin

theorem dict_typeIs {X : Cx} {pins : List (Addr × Obj)} {σ : St} {H : Hp} {s : Shared} {a : Addr} {y : V} {o : Option V} (I : Inv X pins σ H s) (g : DGet H a y o) : s.TypeIs (.ref a) "dict" := by
  rcases g with ⟨kvs, k, e, _, _⟩ | ⟨kvs, k, b, e, _, _, _⟩
  · obtain ⟨_, _, vs, _, dd⟩ := dk_rd I.hok e
    exact dd.typeIs
  · obtain ⟨_, _, xs, _, dd⟩ := dt_rd I.hok e
    exact dd.typeIs
def tDGet (td ty : TE) : TE := fun σ H Q => td σ H fun x H1 => ty σ H1 fun y H2 => ∃ a v, x = .ref a ∧ DGet H2 a y (some v) ∧ Q v H2
def tDIn (ty td : TE) : TE := fun σ H Q => ty σ H fun y H1 => td σ H1 fun x H2 => ∃ a o, x = .ref a ∧ DGet H2 a y o ∧ Q (.bl o.isSome) H2
def tDNotIn (ty td : TE) : TE := fun σ H Q => ty σ H fun y H1 => td σ H1 fun x H2 => ∃ a o, x = .ref a ∧ DGet H2 a y o ∧ Q (.bl (!o.isSome)) H2
def sDPut (td ty tv : TE) : TS := fun D σ H => tv σ H fun v H1 => td σ H1 fun x H2 => ty σ H2 fun y H3 => ∃ a H4, x = .ref a ∧ DPut H3 a y v H4 ∧ D.nx σ H4
section
variable {X : Cx} {o i e value : Expr} {pos pos' tpos : Pos} {td ty tv : TE}
theorem pe_dget (hu : X.A.units + 1 < cLine) (ho : PE X o td) (hi : PE X i ty) (hs : NoSl i) : PE X (.Subscript o i pos) (tDGet td ty) := by
  intro pins s σ H Q I h
  refine subD_of PySem.F.slot_dict_getitem.lookup hs (thn (ho pins s σ H _ I h) fun u s1 ⟨x, H1, I1, rx, q1⟩ => thn (hi pins s1 σ H1 _ I1 q1) fun iv s2 ⟨y, H2, I2, ry, a, v, ex, g, q2⟩ => ?_)
  subst ex
  obtain rfl : u = Value.ref a := rx
  exact ⟨dict_typeIs I2 g, d_getItem hu I2 g ry fun w' s3 I3 rw' => ⟨v, H2, I3, rw', q2⟩⟩
theorem pc_din (hu : X.A.units + 1 < cLine) (hi : PE X i ty) (ho : PE X o td) : PC X .In i o (tDIn ty td) := by
  intro pins s σ H Q I h
  refine thn (hi pins s σ H _ I h) fun iv s1 ⟨y, H1, I1, ry, q1⟩ => thn (ho pins s1 σ H1 _ I1 q1) fun u s2 ⟨x, H2, I2, rx, a, ov, ex, g, q2⟩ => ?_
  subst ex
  obtain rfl : u = Value.ref a := rx
  exact d_in hu I2 g ry fun s3 I3 => ⟨.bl ov.isSome, H2, I3, rfl, q2⟩
theorem pc_dnotin (hu : X.A.units + 1 < cLine) (hi : PE X i ty) (ho : PE X o td) : PC X .NotIn i o (tDNotIn ty td) := by
  intro pins s σ H Q I h
  refine thn (hi pins s σ H _ I h) fun iv s1 ⟨y, H1, I1, ry, q1⟩ => thn (ho pins s1 σ H1 _ I1 q1) fun u s2 ⟨x, H2, I2, rx, a, ov, ex, g, q2⟩ => ?_
  subst ex
  obtain rfl : u = Value.ref a := rx
  exact d_notIn hu I2 g ry fun s3 I3 => ⟨.bl (!ov.isSome), H2, I3, rfl, q2⟩
theorem ps_dput (hu : X.A.units + 1 < cLine) (ho : PE X o td) (hi : PE X i ty) (hv : PE X value tv) (hs : swapsWith value (some (.Subscript o i pos')) pos.line X.env = pure false) :
    PS X (.Assign [.Subscript o i pos'] value pos) (sDPut td ty tv) := by
  intro pins s σ H D I h
  refine wpAny_Assign_Subscript (thn (hv pins s σ H _ I h) fun r s1 ⟨v, H1, I1, rv, q1⟩ => thn (ho pins s1 σ H1 _ I1 q1) fun u s2 ⟨x, H2, I2, rx, q2⟩ => thn (hi pins s2 σ H2 _ I2 q2) fun iv s3 ⟨y, H3, I3, ry, a, H4, ex, g, q3⟩ => ?_) hs
  subst ex
  obtain rfl : u = Value.ref a := rx
  exact d_setItem hu I3 g ry rv fun s4 I4 => ⟨σ, H4, I4, q3⟩
end

theorem dk_empty {P : Program} {w : World} {H : Hp} (h : Heap) (hb : sysModules < h.objs.size) : ObjOk P w H (h.push { cls := .type "dict", data := .dict #[] }) h.objs.size (.dK []) :=
  ⟨Nat.zero_le _, beq_eq_false_iff_ne.mpr (Ne.symm (Nat.ne_of_lt hb)), [], .nil, Heap.DictOf.new h⟩
theorem dt_empty {P : Program} {w : World} {H : Hp} (h : Heap) (hb : sysModules < h.objs.size) : ObjOk P w H (h.push { cls := .type "dict", data := .dict #[] }) h.objs.size (.dT []) :=
  ⟨Nat.zero_le _, beq_eq_false_iff_ne.mpr (Ne.symm (Nat.ne_of_lt hb)), [], .nil, _, #[], 0, Heap.get?_push_size _ rfl, ⟨rfl, rfl, rfl⟩, rfl, rfl, List.nodup_nil⟩
def tDNewK : TE := fun _ H Q => ∀ p, H p = none → Q (.ref p) (upd H p (.dK []))
def tDNewT : TE := fun _ H Q => ∀ p, H p = none → Q (.ref p) (upd H p (.dT []))
section
variable {X : Cx} {pos : Pos}
theorem pe_dnewK : PE X (.Dict [] [] pos) tDNewK := fun pins s σ H Q I h =>
  wpAny_Dict_empty ⟨.ref s.heap.objs.size, _, I.laid (a := s.heap.objs.size) (o := .dK []) (t' := s.toks) (fun _ _ q => Heap.get?_push_of_some _ q) (Nat.le_refl _) (dk_empty s.heap I.big), rfl, h _ (I.hok.fresh (Nat.le_refl _))⟩
theorem pe_dnewT : PE X (.Dict [] [] pos) tDNewT := fun pins s σ H Q I h =>
  wpAny_Dict_empty ⟨.ref s.heap.objs.size, _, I.laid (a := s.heap.objs.size) (o := .dT []) (t' := s.toks) (fun _ _ q => Heap.get?_push_of_some _ q) (Nat.le_refl _) (dt_empty s.heap I.big), rfl, h _ (I.hok.fresh (Nat.le_refl _))⟩
end

structure M1 (X : Cx) (o : Expr) (m : Str) (apos : Pos) (e : Expr) (cpos : Pos) : Prop where
  base : attributeBase o m X.env (eval o X.env) = eval o X.env
  few : ((backTo cpos (starEach [e] X.env)).all (fun x => !x.1) && (backToKw cpos (keywordEach [] X.env)).all (fun x => x.1.isSome)
    && decide (([e] : List Expr).length + ([] : List Keyword).length + (if ([] : List Keyword).isEmpty then 0 else 1) < 30)) = true
  line : (apos.endLine == cpos.line) = true
  trees : backTo cpos (starEach [e] X.env) = [(false, eval e X.env)]
structure M2 (X : Cx) (o : Expr) (m : Str) (apos : Pos) (e f : Expr) (cpos : Pos) : Prop where
  base : attributeBase o m X.env (eval o X.env) = eval o X.env
  few : ((backTo cpos (starEach [e, f] X.env)).all (fun x => !x.1) && (backToKw cpos (keywordEach [] X.env)).all (fun x => x.1.isSome)
    && decide (([e, f] : List Expr).length + ([] : List Keyword).length + (if ([] : List Keyword).isEmpty then 0 else 1) < 30)) = true
  line : (apos.endLine == cpos.line) = true
  trees : backTo cpos (starEach [e, f] X.env) = [(false, eval e X.env), (false, eval f X.env)]




end L2

namespace L2
open PySem PySem.Spec PyProof.Rows
end L2

namespace L2
open PySem PySem.W PySem.Spec PyProof.Rows
def D.isK : D → Bool
  | .int _ => true | .str _ => true | _ => false
def D.key : D → Key
  | .int i => .inl i | .str l => .inr (T l) | _ => .inl 0
theorem key_inj {a b : D} (ha : a.isK = true) (hb : b.isK = true) (h : a.key = b.key) : a = b := by
  cases a <;> cases b <;> simp [D.isK, D.key] at * <;> first | exact h | exact T_inj.mp h
theorem rep_key {K : PySem.W.Frag} {H : Hp} {d : D} {v : V} (hk : d.isK = true) (r : Rep K H d v) : v = kV d.key := by
  cases d <;> simp [D.isK] at hk
  · exact r.of_int
  · exact r.of_str
abbrev DD := List (D × D)
def valD (kvs : DD) (k : D) : Option D := (kvs.find? fun kv => decide (kv.1 = k)).map (·.2)
def putD (kvs : DD) (k d : D) : DD := if (kvs.any fun kv => decide (kv.1 = k)) = true then kvs.map (fun kv => if kv.1 = k then (kv.1, d) else kv) else kvs ++ [(k, d)]
inductive Dks (K : PySem.W.Frag) (F : Hp) : DD → List (Key × V) → Prop
  | nil : Dks K F [] []
  | cons {k d : D} {v : V} {kvs : DD} {xs : List (Key × V)} (hk : k.isK = true) (hr : Rep K F k (kV k.key)) (r : Rep K F d v) (t : Dks K F kvs xs) : Dks K F ((k, d) :: kvs) ((k.key, v) :: xs)
section
variable {K : PySem.W.Frag} {F F' : Hp} {kvs : DD} {xs : List (Key × V)}
theorem Dks.mono (h : Dks K F kvs xs) (s : Same F F') : Dks K F' kvs xs := by
  induction h with
  | nil => exact .nil
  | cons hk hr r t ih => exact .cons hk (hr.mono s) (r.mono s) ih
theorem Dks.length (h : Dks K F kvs xs) : kvs.length = xs.length := by
  induction h with
  | nil => rfl
  | cons hk hr r t ih => simp [ih]
theorem isK_flat {k : D} (hk : k.isK = true) : k.flat = true := by cases k <;> simp [D.isK] at hk <;> rfl
theorem key_rep {K : PySem.W.Frag} {H F : Hp} {k : D} {v : V} (hk : k.isK = true) (r : Rep K H k v) : Rep K F k (kV k.key) := by
  rw [← rep_key hk r]; exact r.flat (isK_flat hk)
theorem Dks.val (h : Dks K F kvs xs) {k : D} (hk : k.isK = true) : (valD kvs k = none ∧ valV xs k.key = none) ∨ ∃ d v, valD kvs k = some d ∧ valV xs k.key = some v ∧ Rep K F d v := by
  induction h with
  | nil => exact .inl ⟨rfl, rfl⟩
  | @cons k' d v kvs xs hk' hr' r t ih =>
    by_cases e : k' = k
    · subst e
      exact .inr ⟨d, v, by simp [valD], by simp [valV], r⟩
    · have e2 : k'.key ≠ k.key := fun z => e (key_inj hk' hk z)
      have h1 : valD ((k', d) :: kvs) k = valD kvs k := by simp [valD, List.find?_cons, e]
      have h2 : valV ((k'.key, v) :: xs) k.key = valV xs k.key := by simp [valV, List.find?_cons, e2]
      rw [h1, h2]; exact ih
theorem Dks.any (h : Dks K F kvs xs) {k : D} (hk : k.isK = true) : (kvs.any fun kv => decide (kv.1 = k)) = xs.any fun kv => decide (kv.1 = k.key) := by
  induction h with
  | nil => rfl
  | @cons k' d v kvs xs hk' hr' r t ih =>
    rw [List.any_cons, List.any_cons, ih]
    congr 1
    by_cases e : k' = k
    · subst e; simp
    · have e2 : k'.key ≠ k.key := fun z => e (key_inj hk' hk z)
      rw [decide_eq_false e, decide_eq_false e2]
theorem Dks.snoc (h : Dks K F kvs xs) {k d : D} {v : V} (hk : k.isK = true) (hr : Rep K F k (kV k.key)) (r : Rep K F d v) : Dks K F (kvs ++ [(k, d)]) (xs ++ [(k.key, v)]) := by
  induction h with
  | nil => exact .cons hk hr r .nil
  | cons hk' hr' r' t ih => exact .cons hk' hr' r' ih
theorem Dks.put (h : Dks K F kvs xs) {k d : D} {v : V} (hk : k.isK = true) (hr : Rep K F k (kV k.key)) (r : Rep K F d v) : Dks K F (putD kvs k d) (putK xs k.key v) := by
  unfold putD putK
  rw [h.any hk]
  by_cases hc : (xs.any fun kv => decide (kv.1 = k.key)) = true
  · rw [if_pos hc, if_pos hc]
    clear hc
    induction h with
    | nil => exact .nil
    | @cons k' d' v' kvs xs hk' hr' r' t ih =>
      rw [List.map_cons, List.map_cons]
      by_cases e : k' = k
      · subst e; rw [if_pos rfl, if_pos rfl]; exact .cons hk' hr' r ih
      · have e2 : k'.key ≠ k.key := fun z => e (key_inj hk' hk z)
        rw [if_neg e, if_neg e2]; exact .cons hk' hr' r' ih
  · rw [if_neg hc, if_neg hc]; exact h.snoc hk hr r
end
theorem putD_len (kvs : DD) (k d : D) : (putD kvs k d).length ≤ kvs.length + 1 := by
  unfold putD; split <;> simp
def dW (K : PySem.W.Frag) (p : Addr) (kvs : DD) : Hp → Hp → Prop := fun F H => ∃ xs, H p = some (.dK xs) ∧ Dks K F kvs xs
def dsl (K : PySem.W.Frag) (p : Addr) (kvs : DD) : Sl := .g (.ref p) [p] (dW K p kvs)
theorem dW_stab (K : PySem.W.Frag) (p : Addr) (kvs : DD) : Stab [p] (dW K p kvs) := fun F1 H1 F2 H2 sf hh ⟨xs, h1, h2⟩ => ⟨xs, by rw [hh p (by simp)]; exact h1, h2.mono sf⟩
section
variable {K : PySem.W.Frag} {G H₀ L : Hp} {ss : List Sl} {i : Nat} {p : Addr} {kvs : DD} {E : Ends} {ty td tv tx : TE} {k d z : D}
theorem Sat.getM {F H : Hp} {σ : St} (S : Sat K G H₀ L F H σ ss) (hs : ss[i]? = some (dsl K p kvs)) : σ[i]? = some (some (.ref p)) ∧ H₀ p = none ∧ F p = none ∧ ∃ xs, H p = some (.dK xs) ∧ Dks K F kvs xs := by
  obtain ⟨v, e, ew, ha, hw, st⟩ := S.get hs (by intro z; cases z)
  cases ew
  obtain ⟨h0, fp, _⟩ := ha p (by simp)
  exact ⟨e, h0, fp, hw⟩
theorem Sat.writeM {F H : Hp} {σ : St} {kvs' : DD} {xs : List (Key × V)} (S : Sat K G H₀ L F H σ ss) (hs : ss[i]? = some (dsl K p kvs)) (r : Dks K F kvs' xs) : Sat K G H₀ L F (upd H p (.dK xs)) σ (ss.set i (dsl K p kvs')) := by
  obtain ⟨e, h0, fp, ys, hp, _⟩ := S.getM hs
  have hget : σ.getD i none = some (.ref p) := by rw [List.getD_eq_getElem?_getD, e]; rfl
  refine S.put (S.ext.write fp h0) S.fl rfl (fun _ _ => rfl) (fun _ => ?_) (by simp [dsl, Sl.ads]) (fun j s' hj h q hq => ?_) fun j s' hj h => (S.ok j s' h).updNe (S.ne i j _ s' (Ne.symm hj) hs h p (by simp [dsl, Sl.ads]))
  · rw [hget]
    exact ⟨rfl, fun a ha => by rw [List.mem_singleton.mp ha]; exact ⟨h0, fp, _, upd_same⟩, ⟨xs, upd_same, r⟩, dW_stab K p kvs'⟩
  · have : q = p := by simpa [dsl, Sl.ads] using hq
    subst this
    exact S.ne i j _ s' (Ne.symm hj) hs h q (by simp [dsl, Sl.ads])
theorem go_setM (h : ∀ p, Nx K G H₀ L E.nx (ss.set i (dsl K p []))) : Go K G H₀ L E ss (tAsg tDNewK (gName i)) := fun F H σ S p hp => by
  have e := (Ext.refl S.ext.fh).newO (o := .dK []) hp
  have S' := S.ext2 e
  refine h p F _ _ (S'.put S'.ext S'.fl (by simp) (fun j hj => getD_set_ne (Ne.symm hj)) (fun hi => ?_) (by simp [dsl, Sl.ads]) (fun j s' hj hs q hq => ?_) fun j s' hj hs => S'.ok j s' hs)
  · rw [getD_set_self (by rw [S.len]; exact hi)]
    exact ⟨rfl, fun a ha => by rw [List.mem_singleton.mp ha]; exact ⟨S.ext.hh.free hp, S.ext.fh.free hp, _, upd_same⟩, ⟨[], upd_same, .nil⟩, dW_stab K p []⟩
  · have : q = p := by simpa [dsl, Sl.ads] using hq
    subst this
    exact fun hin => (S.ok j s' hs).live hin hp
theorem ev_dget (hs : ss[i]? = some (dsl K p kvs)) (b : EvB K G H₀ L ss ty k) (hk : k.isK = true) (hv : valD kvs k = some d) : Ev K G H₀ L ss (tDGet (tVar i) ty) d := fun F H σ Q S q => by
  obtain ⟨e, _⟩ := S.getM hs
  refine ⟨_, e, b F H σ _ S fun v F1 H1 e1 r1 => ?_⟩
  obtain ⟨_, _, _, xs, hp, dk⟩ := (S.ext2 e1).getM hs
  rcases dk.val hk with ⟨h1, _⟩ | ⟨d', w, h1, h2, rw'⟩
  · rw [h1] at hv; cases hv
  · rw [h1] at hv; cases hv
    refine ⟨p, w, rfl, ?_, q w F1 H1 e1 rw'⟩
    rw [rep_key hk r1, ← h2]
    exact DGet.k hp
theorem ev_din (hs : ss[i]? = some (dsl K p kvs)) (b : EvB K G H₀ L ss ty k) (hk : k.isK = true) : Ev K G H₀ L ss (tDIn ty (tVar i)) (.bl (valD kvs k).isSome) := fun F H σ Q S q =>
  b F H σ _ S fun v F1 H1 e1 r1 => by
    obtain ⟨e, _, _, xs, hp, dk⟩ := (S.ext2 e1).getM hs
    refine ⟨_, e, p, valV xs k.key, rfl, by rw [rep_key hk r1]; exact DGet.k hp, q _ F1 H1 e1 ?_⟩
    have : (valV xs k.key).isSome = (valD kvs k).isSome := by
      rcases dk.val hk with ⟨h1, h2⟩ | ⟨d', w, h1, h2, _⟩ <;> rw [h1, h2] <;> rfl
    rw [this]; exact Rep.bl
theorem go_dput (hs : ss[i]? = some (dsl K p kvs)) (a : Ev K G H₀ L ss tv d) (b : EvB K G H₀ L ss ty k) (hk : k.isK = true) (hz : kvs.length < sizeLine) (h : Nx K G H₀ L E.nx (ss.set i (dsl K p (putD kvs k d)))) : Go K G H₀ L E ss (sDPut (tVar i) ty tv) := fun F H σ S =>
  a F H σ _ S fun v F1 H1 e1 r1 => by
    have S1 := S.ext2 e1
    obtain ⟨e, _⟩ := S1.getM hs
    refine ⟨_, e, b F1 H1 σ _ S1 fun w F2 H2 e2 r2 => ?_⟩
    have S2 := S1.ext2 e2
    obtain ⟨_, _, _, xs, hp, dk⟩ := S2.getM hs
    refine ⟨p, _, rfl, by rw [rep_key hk r2]; exact DPut.k (v := v) hp (by rw [← dk.length]; exact hz), h F2 _ σ (S2.writeM hs (dk.put hk (key_rep hk r2) (r1.mono e2.gf)))⟩
end
end L2

namespace L2
open PySem PySem.Spec PyProof.Rows
section
variable {X : Cx}
def rSetDef : V → List V → Hp → VK → Prop := fun x vs H Q => ∃ a kvs k z, x = .ref a ∧ vs = [kV k, z] ∧ H a = some (.dK kvs) ∧ kvs.length < sizeLine ∧ (∀ v, valV kvs k = some v → Q v H) ∧ (valV kvs k = none → Q z (upd H a (.dK (putK kvs k z))))
theorem mt_setdefault : MtR X "dict.setdefault" rSetDef := by
  intro pins s σ H x xs v us Q I rx rs h
  obtain ⟨a, kvs, k, z, rfl, rfl, e, hl, q1, q2⟩ := h
  obtain rfl : v = Value.ref a := rx
  obtain ⟨u1, u2, rfl, ry, rz⟩ := vals2 rs
  obtain ⟨hz, hd, vs, rel, dd⟩ := dk_of I.hok e
  have hzz : vs.length ≤ sizeLine := by rw [← rel.length]; exact hz
  refine call_meetsIn PySem.F.slot_dict_setdefault dd.typeIs PySem.F.entry_dict_setdefault (PySem.F.args_dict_setdefault_3 _ _ _) (kt_meets_setdefault (mixKind X.prog X.w) a (kV_is ry) hd u2) ⟨vs, dd, hzz, fun v' hv => ?_, fun hn h' dd' hs => ?_⟩
  · have r := rel.val k
    rw [hv] at r
    cases hk : valV kvs k with
    | none => rw [hk] at r; exact r.elim
    | some w' => rw [hk] at r; exact ⟨w', H, I.tok _, r, q1 w' hk⟩
  · have hk : valV kvs k = none := by
      have r := rel.val k
      rw [hn] at r
      cases hk : valV kvs k with
      | none => rfl
      | some w' => rw [hk] at r; exact r.elim
    have hl2 : (putK kvs k z).length ≤ sizeLine := by have := length_putK kvs k z; lia
    have he : ∃ q, h'.get? a = some q := let ⟨q, _, _, hq, _⟩ := dd'; ⟨q, hq⟩
    exact ⟨z, _, d_write I (by rw [e]; exact True.intro) hs he (dk_new hl2 hd (rel.put k rz) dd'), rz, q2 hk⟩
def ValsO (r d : Addr) : HO := .ext fun h => h.IsValuesView r d
def rValues : V → List V → Hp → VK → Prop := fun x vs H Q => ∃ d kvs, x = .ref d ∧ vs = [] ∧ H d = some (.dK kvs) ∧ ∀ r, H r = none → Q (.ref r) (upd H r (ValsO r d))
theorem mt_values : MtR X "dict.values" rValues := by
  intro pins s σ H x xs v us Q I rx rs h
  obtain ⟨d, kvs, rfl, rfl, e, q⟩ := h
  obtain rfl : v = Value.ref d := rx
  cases rs
  obtain ⟨hz, hd, vs, rel, dd⟩ := dk_of I.hok e
  refine call_meetsIn PySem.F.slot_dict_values dd.typeIs PySem.F.entry_dict_values (PySem.F.args_dict_values_1 _) (meets_dict_values (mixKind X.prog X.w) d hd) ⟨⟨vs, dd⟩, ?_⟩
  have I2 : Inv X pins σ (upd H s.heap.objs.size (ValsO s.heap.objs.size d)) { s with heap := s.heap.push { cls := .type "dict_values", data := .fields #[.ref d] } } :=
    I.laid (t' := s.toks) (fun _ _ q => Heap.get?_push_of_some _ q) (Nat.le_refl _) ⟨⟨_, Heap.get?_push_size _ rfl, rfl, rfl⟩, ⟨_, Heap.get?_push_size _ rfl⟩, fun h1 h2 ⟨o, ho, r⟩ k => ⟨o, k _ ho, r⟩⟩
  exact ⟨.ref s.heap.objs.size, _, I2, rfl, q _ I.fresh⟩
theorem KV.snds {κ : Type} [DecidableEq κ] {kvs : List (κ × V)} {vs : List (κ × Value)} (r : KV kvs vs) : Vals (kvs.map (·.2)) (vs.map (·.2)) := by
  induction r with
  | nil => exact .nil
  | cons h t ih => exact .cons h.2 ih
theorem call_list_vals (hc : X.calm = true) : CallR X (.type "list") (fun xs H Q => ∃ r d kvs, xs = [.ref r] ∧ H r = some (ValsO r d) ∧ H d = some (.dK kvs) ∧ ∀ l, H l = none → Q (.ref l) (upd H l (.lst (kvs.map (·.2))))) := by
  intro pins s σ H xs us Q I rs h
  obtain ⟨r, d, kvs, rfl, hr, e, q⟩ := h
  obtain ⟨u, rfl, ru⟩ := vals1 rs
  cases ru
  obtain ⟨hz, hd, vs, rel, dd⟩ := dk_of I.hok e
  obtain ⟨ep, da⟩ := dd.dictAt
  obtain ⟨hv, _, _⟩ := I.hok r _ hr
  have hzz : vs.length ≤ sizeLine := by rw [← rel.length]; exact hz
  refine PySem.W.kdl_call (PySem.W.kdl_values (kvs := vs) (d := d) (r := r) (ep := ep)) (I.ok.hd hc) ⟨hv, da⟩ hzz fun h' tk acc c' hk hD hacc => ?_
  have hacc2 : acc.toList = vs.map (·.2) := PySem.W.kdl_vals_eq acc.toList (by rw [Array.length_toList]; exact hacc.1) fun j v hj => hacc.2 j v (by rw [← Array.getElem?_toList]; exact hj)
  have hval : Vals (kvs.map (·.2)) acc.toList := by rw [hacc2]; exact rel.snds
  exact ⟨.ref s.heap.objs.size, _, I.laid hk (Nat.le_refl _) (show ObjOk X.prog X.w _ _ _ (.lst _) from ⟨by rw [List.length_map]; exact hz, acc.toList, c', hval, by simpa using hD⟩), rfl, q _ I.fresh⟩
end
end L2

namespace L2
open PySem PySem.W PySem.Spec PyProof.Rows
abbrev KQ := List (D × Addr × List D)
def dat (q : D × Addr × List D) : D × List D := (q.1, q.2.2)
def raw (q : D × Addr × List D) : Key × V := (q.1.key, .ref q.2.1)
def appD : List (D × List D) → D → D → List (D × List D)
  | [], k, d => [(k, [d])]
  | kv :: r, k, d => if kv.1 = k then (kv.1, kv.2 ++ [d]) :: r else kv :: appD r k d
theorem find_at {kqs : KQ} {k : D} (hk : k.isK = true) (hks : ∀ q ∈ kqs, q.1.isK = true) : (valV (kqs.map raw) k.key = none ∧ ∀ d, appD (kqs.map dat) k d = kqs.map dat ++ [(k, [d])]) ∨
    ∃ j a ds, kqs[j]? = some (k, a, ds) ∧ valV (kqs.map raw) k.key = some (.ref a) ∧ ∀ d, (kqs.set j (k, a, ds ++ [d])).map dat = appD (kqs.map dat) k d := by
  induction kqs with
  | nil => exact .inl ⟨rfl, fun _ => rfl⟩
  | cons q r ih =>
    obtain ⟨k', a', ds'⟩ := q
    by_cases e : k' = k
    · subst e
      refine .inr ⟨0, a', ds', rfl, by simp [valV, raw], fun d => ?_⟩
      show (k', ds' ++ [d]) :: r.map dat = appD ((k', ds') :: r.map dat) k' d
      rw [appD, if_pos rfl]
    · have e2 : k'.key ≠ k.key := fun z => e (key_inj (hks _ List.mem_cons_self) hk z)
      have hv : valV (((k', a', ds') :: r).map raw) k.key = valV (r.map raw) k.key := by simp [valV, raw, List.find?_cons, e2]
      have ha : ∀ d, appD (((k', a', ds') :: r).map dat) k d = (k', ds') :: appD (r.map dat) k d := fun d => by
        show appD ((k', ds') :: r.map dat) k d = _
        rw [appD, if_neg e]
      rw [hv]
      rcases ih fun q hq => hks q (List.mem_cons_of_mem _ hq) with ⟨h1, h2⟩ | ⟨j, a, ds, h1, h2, h3⟩
      · exact .inl ⟨h1, fun d => by rw [ha, h2]; rfl⟩
      · refine .inr ⟨j + 1, a, ds, h1, h2, fun d => ?_⟩
        rw [ha, ← h3]; rfl
def lW (K : PySem.W.Frag) (p : Addr) (kqs : KQ) : Hp → Hp → Prop := fun F H => H p = some (.dK (kqs.map raw)) ∧ ∀ q ∈ kqs, q.1.isK = true ∧ Rep K F q.1 (kV q.1.key) ∧ ∃ vs, H q.2.1 = some (.lst vs) ∧ Reps K F q.2.2 vs
def dls (K : PySem.W.Frag) (p : Addr) (kqs : KQ) : Sl := .g (.ref p) (p :: kqs.map (·.2.1)) (lW K p kqs)
theorem lW_stab (K : PySem.W.Frag) (p : Addr) (kqs : KQ) : Stab (p :: kqs.map (·.2.1)) (lW K p kqs) := fun F1 H1 F2 H2 sf hh ⟨h1, h2⟩ =>
  ⟨by rw [hh p (by simp)]; exact h1, fun q hq => by
    obtain ⟨a, kr, vs, b, c⟩ := h2 q hq
    exact ⟨a, kr.mono sf, vs, by rw [hh q.2.1 (List.mem_cons_of_mem _ (List.mem_map_of_mem hq))]; exact b, c.mono sf⟩⟩
section
variable {K : PySem.W.Frag} {G H₀ L : Hp} {ss : List Sl} {i : Nat} {p : Addr} {kqs : KQ} {E : Ends} {tk tv : TE} {k d : D}
theorem Sat.getL {F H : Hp} {σ : St} (S : Sat K G H₀ L F H σ ss) (hs : ss[i]? = some (dls K p kqs)) : σ[i]? = some (some (.ref p)) ∧ (∀ a ∈ p :: kqs.map (·.2.1), H₀ a = none ∧ F a = none) ∧ lW K p kqs F H := by
  obtain ⟨v, e, ew, ha, hw, st⟩ := S.get hs (by intro z; cases z)
  cases ew
  exact ⟨e, fun a h => ⟨(ha a h).1, (ha a h).2.1⟩, hw⟩
theorem go_setML (h : ∀ p, Nx K G H₀ L E.nx (ss.set i (dls K p []))) : Go K G H₀ L E ss (tAsg tDNewK (gName i)) := fun F H σ S p hp => by
  have e := (Ext.refl S.ext.fh).newO (o := .dK []) hp
  have S' := S.ext2 e
  refine h p F _ _ (S'.put S'.ext S'.fl (by simp) (fun j hj => getD_set_ne (Ne.symm hj)) (fun hi => ?_) (by simp [dls, Sl.ads]) (fun j s' hj hs q hq => ?_) fun j s' hj hs => S'.ok j s' hs)
  · rw [getD_set_self (by rw [S.len]; exact hi)]
    exact ⟨rfl, fun a ha => by rw [List.mem_singleton.mp ha]; exact ⟨S.ext.hh.free hp, S.ext.fh.free hp, _, upd_same⟩, ⟨upd_same, fun _ h => by cases h⟩, lW_stab K p []⟩
  · have : q = p := by simpa [dls, Sl.ads] using hq
    subst this
    exact fun hin => (S.ok j s' hs).live hin hp
theorem set_same {α : Type} {xs : List α} {i : Nat} {x : α} (h : xs[i]? = some x) : xs.set i x = xs := by
  refine List.ext_getElem? fun n => ?_
  by_cases hn : i = n
  · subst hn; rw [List.getElem?_set_self (List.getElem?_eq_some_iff.mp h).1, h]
  · rw [List.getElem?_set_ne hn]
theorem Sat.appL {F H : Hp} {σ : St} (S : Sat K G H₀ L F H σ ss) {j : Nat} {a : Addr} {ds es : List D} {vs : List V} (hs : ss[i]? = some (dls K p kqs)) (hj : kqs[j]? = some (k, a, ds)) (r : Reps K F es vs) :
    Sat K G H₀ L F (upd H a (.lst vs)) σ (ss.set i (dls K p (kqs.set j (k, a, es)))) := by
  obtain ⟨e, hoff, hp, hq⟩ := S.getL hs
  have hget : σ.getD i none = some (.ref p) := by rw [List.getD_eq_getElem?_getD, e]; rfl
  have hnd : (p :: kqs.map (·.2.1)).Nodup := S.nd i _ hs
  have hm := List.mem_of_getElem? hj
  have ham : a ∈ p :: kqs.map (·.2.1) := List.mem_cons_of_mem _ (List.mem_map.mpr ⟨_, hm, rfl⟩)
  obtain ⟨a0, af⟩ := hoff a ham
  have hpa : p ≠ a := fun z => (List.nodup_cons.mp hnd).1 (z ▸ List.mem_map.mpr ⟨_, hm, rfl⟩)
  have mset : ∀ {β : Type} (f : D × Addr × List D → β), f (k, a, es) = f (k, a, ds) → (kqs.set j (k, a, es)).map f = kqs.map f := fun {β} f hf => by
    rw [List.map_set]
    refine List.ext_getElem? fun n => ?_
    by_cases hn : j = n
    · subst hn
      rw [List.getElem?_set_self (by rw [List.length_map]; exact (List.getElem?_eq_some_iff.mp hj).1), List.getElem?_map, hj, hf]; rfl
    · rw [List.getElem?_set_ne hn]
  have hads : (dls K p (kqs.set j (k, a, es))).ads = p :: kqs.map (·.2.1) := by show p :: (kqs.set j (k, a, es)).map (·.2.1) = _; rw [mset (·.2.1) rfl]
  have hdup : ∀ n z, kqs[n]? = some z → n ≠ j → z.2.1 ≠ a := fun n z hn hnj hz => by
    have h2 : (kqs.map (·.2.1)).Nodup := (List.nodup_cons.mp hnd).2
    unfold List.Nodup at h2
    rw [List.pairwise_iff_getElem] at h2
    have hnl := (List.getElem?_eq_some_iff.mp hn)
    have hjl := (List.getElem?_eq_some_iff.mp hj)
    have e1 : (kqs.map (·.2.1))[n]'(by simpa using hnl.1) = a := by rw [List.getElem_map, hnl.2]; exact hz
    have e2 : (kqs.map (·.2.1))[j]'(by simpa using hjl.1) = a := by rw [List.getElem_map, hjl.2]
    rcases Nat.lt_or_ge n j with c | c
    · exact h2 n j (by simpa using hnl.1) (by simpa using hjl.1) c (e1.trans e2.symm)
    · exact h2 j n (by simpa using hjl.1) (by simpa using hnl.1) (by lia) (e2.trans e1.symm)
  refine S.put (S.ext.write af a0) S.fl rfl (fun _ _ => rfl) (fun _ => ?_) (by rw [hads]; exact hnd) (fun n s' hn h z hz => ?_) fun n s' hn h => (S.ok n s' h).updNe (S.ne i n _ s' (Ne.symm hn) hs h a ham)
  · rw [hget]
    refine ⟨rfl, fun b hb => ?_, ⟨by rw [upd_ne hpa, mset raw rfl]; exact hp, fun z hz => ?_⟩, lW_stab _ _ _⟩
    · have hb : b ∈ p :: (kqs.set j (k, a, es)).map (·.2.1) := hb
      rw [mset (·.2.1) rfl] at hb
      obtain ⟨b0, bf⟩ := hoff b hb
      refine ⟨b0, bf, ?_⟩
      by_cases hba : b = a
      · subst hba; exact ⟨_, upd_same⟩
      · rw [upd_ne hba]
        have := (S.ok i _ hs).live (p := b) hb
        cases hx : H b with
        | none => exact absurd hx this
        | some o => exact ⟨o, rfl⟩
    · obtain ⟨n, hn⟩ := List.mem_iff_getElem?.mp hz
      by_cases hnj : j = n
      · subst hnj
        rw [List.getElem?_set_self (List.getElem?_eq_some_iff.mp hj).1] at hn
        cases hn
        exact ⟨(hq _ hm).1, (hq _ hm).2.1, vs, upd_same, r⟩
      · rw [List.getElem?_set_ne hnj] at hn
        obtain ⟨z1, kr, ws, z2, z3⟩ := hq z (List.mem_of_getElem? hn)
        exact ⟨z1, kr, ws, by rw [upd_ne (hdup n z hn (Ne.symm hnj))]; exact z2, z3⟩
  · have hz : z ∈ (dls K p (kqs.set j (k, a, es))).ads := hz
    rw [hads] at hz
    exact S.ne i n _ s' (Ne.symm hn) hs h z hz
theorem Sat.keyL {F H : Hp} {σ : St} (S : Sat K G H₀ L F H σ ss) {l : Addr} (hs : ss[i]? = some (dls K p kqs)) (hk : k.isK = true) (kr : Rep K F k (kV k.key)) (hl : H l = none) :
    Sat K G H₀ L F (upd (upd H l (.lst [])) p (.dK ((kqs ++ [(k, l, [])]).map raw))) σ (ss.set i (dls K p (kqs ++ [(k, l, [])]))) := by
  have S2 := S.ext2 ((Ext.refl S.ext.fh).newO (o := .lst []) hl)
  obtain ⟨e, hoff, hp, hq⟩ := S2.getL hs
  have hget : σ.getD i none = some (.ref p) := by rw [List.getD_eq_getElem?_getD, e]; rfl
  have hnd : (p :: kqs.map (·.2.1)).Nodup := S.nd i _ hs
  obtain ⟨p0, pf⟩ := hoff p List.mem_cons_self
  have hnl : ∀ b ∈ p :: kqs.map (·.2.1), b ≠ l := fun b hb z => (S.ok i _ hs).live (p := b) hb (z ▸ hl)
  have hpl : p ≠ l := hnl p List.mem_cons_self
  have hads : (dls K p (kqs ++ [(k, l, [])])).ads = (p :: kqs.map (·.2.1)) ++ [l] := by show p :: List.map (fun q : D × Addr × List D => q.2.1) (kqs ++ [(k, l, [])]) = _; rw [List.map_append]; rfl
  refine S2.put (S2.ext.write pf p0) S2.fl rfl (fun _ _ => rfl) (fun _ => ?_) ?_ (fun n s' hn h z hz => ?_) fun n s' hn h => (S2.ok n s' h).updNe (S2.ne i n _ s' (Ne.symm hn) hs h p List.mem_cons_self)
  · rw [hget]
    refine ⟨rfl, fun b hb => ?_, ⟨upd_same, fun z hz => ?_⟩, lW_stab _ _ _⟩
    · have hb : b ∈ (dls K p (kqs ++ [(k, l, [])])).ads := hb
      rw [hads] at hb
      rcases List.mem_append.mp hb with hb | hb
      · obtain ⟨b0, bf⟩ := hoff b hb
        refine ⟨b0, bf, ?_⟩
        by_cases hbp : b = p
        · subst hbp; exact ⟨_, upd_same⟩
        · rw [upd_ne hbp]
          have := (S2.ok i _ hs).live (p := b) hb
          cases hx : (upd H l (.lst [])) b with
          | none => exact absurd hx this
          | some o => exact ⟨o, rfl⟩
      · rw [List.mem_singleton.mp hb]
        exact ⟨S.ext.hh.free hl, S.ext.fh.free hl, _, by rw [upd_ne (Ne.symm hpl)]; exact upd_same⟩
    · rcases List.mem_append.mp hz with hz | hz
      · obtain ⟨z1, zr, ws, z2, z3⟩ := hq z hz
        have hzp : z.2.1 ≠ p := fun e => (List.nodup_cons.mp hnd).1 (e ▸ List.mem_map_of_mem hz)
        exact ⟨z1, zr, ws, by rw [upd_ne hzp]; exact z2, z3⟩
      · rw [List.mem_singleton.mp hz]
        exact ⟨hk, kr, [], by rw [upd_ne (Ne.symm hpl)]; exact upd_same, Reps.nil⟩
  · rw [hads]
    exact List.nodup_append.mpr ⟨hnd, by simp, fun x hx y hy e => by rw [List.mem_singleton.mp hy] at e; exact hnl x hx e⟩
  · have hz : z ∈ (dls K p (kqs ++ [(k, l, [])])).ads := hz
    rw [hads] at hz
    rcases List.mem_append.mp hz with hz | hz
    · exact S.ne i n _ s' (Ne.symm hn) hs h z hz
    · rw [List.mem_singleton.mp hz]
      exact fun hin => (S.ok n s' h).live hin hl
theorem go_dapp (hs : ss[i]? = some (dls K p kqs)) (b : EvB K G H₀ L ss tk k) (hk : k.isK = true) (a : ∀ kqs', Ev K G H₀ L (ss.set i (dls K p kqs')) tv d) (hz : kqs.length < sizeLine) (hz2 : ∀ q ∈ kqs, q.2.2.length < sizeLine)
    (h : ∀ kqs', kqs'.map dat = appD (kqs.map dat) k d → Nx K G H₀ L E.nx (ss.set i (dls K p kqs'))) :
    Go K G H₀ L E ss (tDrop (tBM K "list" rAppend (tBM K "dict" rSetDef (tVar i) (tCons tk (tCons (tLst tNil) tNil))) (tCons tv tNil))) := fun F H σ S => by
  obtain ⟨e, hoff, hp, hq⟩ := S.getL hs
  have hks : ∀ q ∈ kqs, q.1.isK = true := fun q hm => (hq q hm).1
  have hil : i < ss.length := (List.getElem?_eq_some_iff.mp hs).1
  refine ⟨.ref p, e, .inr (.inr (.inl ⟨rfl, .inl ⟨_, hp⟩⟩)), b F H σ _ S fun v F1 H1 e1 r1 => ⟨Nat.zero_le _, fun l hl => ?_⟩⟩
  have S1 := S.ext2 e1
  have S2 := S1.ext2 ((Ext.refl S1.ext.fh).newO (o := .lst []) hl)
  obtain ⟨_, _, hp2, hq2⟩ := S2.getL hs
  refine ⟨p, kqs.map raw, k.key, .ref l, rfl, by rw [rep_key hk r1], hp2, by rw [List.length_map]; exact hz, fun v' hv' => ?_, fun hn => ?_⟩
  · rcases find_at hk hks with ⟨h1, _⟩ | ⟨j, q, ds, h1, h2, h3⟩
    · rw [h1] at hv'; cases hv'
    · rw [h2] at hv'; cases hv'
      obtain ⟨_, _, ws, hw, _⟩ := hq2 _ (List.mem_of_getElem? h1)
      have es : ss.set i (dls K p kqs) = ss := set_same hs
      have S2' : Sat K G H₀ L F1 (upd H1 l (.lst [])) σ (ss.set i (dls K p kqs)) := by rw [es]; exact S2
      refine ⟨.inl ⟨rfl, _, SqL.of hw⟩, a kqs F1 _ σ _ S2' fun w F3 H3 e3 r3 => ?_⟩
      have S3 := S2.ext2 e3
      obtain ⟨_, _, _, hq3⟩ := S3.getL hs
      obtain ⟨_, _, ws3, hw3, rs3⟩ := hq3 _ (List.mem_of_getElem? h1)
      refine ⟨q, ws3, w, rfl, rfl, hw3, by rw [← rs3.length]; exact hz2 _ (List.mem_of_getElem? h1), h _ (h3 d) F3 _ σ (S3.appL hs h1 (rs3.snoc r3))⟩
  · rcases find_at hk hks with ⟨h1, h2⟩ | ⟨j, q, ds, h1, h2, h3⟩
    · have S4 := S1.keyL (k := k) hs hk (key_rep hk r1) hl
      have eput : putK (kqs.map raw) k.key (.ref l) = (kqs ++ [(k, l, [])]).map raw := by rw [putK_new _ hn, List.map_append]; rfl
      rw [eput]
      have hs4 : (ss.set i (dls K p (kqs ++ [(k, l, [])])))[i]? = some (dls K p (kqs ++ [(k, l, [])])) := List.getElem?_set_self hil
      obtain ⟨_, _, _, hq4⟩ := S4.getL hs4
      have hj : (kqs ++ [(k, l, ([] : List D))])[kqs.length]? = some (k, l, []) := by rw [List.getElem?_append_right (Nat.le_refl _), Nat.sub_self]; rfl
      obtain ⟨_, _, ws, hw, _⟩ := hq4 _ (List.mem_of_getElem? hj)
      refine ⟨.inl ⟨rfl, _, SqL.of hw⟩, a _ F1 _ σ _ S4 fun w F3 H3 e3 r3 => ?_⟩
      have S5 := S4.ext2 e3
      obtain ⟨_, _, _, hq5⟩ := S5.getL hs4
      obtain ⟨_, _, ws5, hw5, rs5⟩ := hq5 _ (List.mem_of_getElem? hj)
      have S6 := S5.appL hs4 hj (rs5.snoc r3)
      rw [List.set_set] at S6
      refine ⟨l, ws5, w, rfl, rfl, hw5, by rw [← rs5.length]; show 0 < _; rw [sizeLine_eq]; decide, h _ ?_ F3 _ σ S6⟩
      rw [h2, List.set_append_right _ _ (Nat.le_refl _), Nat.sub_self, List.map_append]
      rfl
    · rw [h2] at hn; cases hn
end
end L2

namespace L2
open PySem PySem.W PySem.Spec PyProof.Rows
section
variable {K : PySem.W.Frag} {G H₀ L : Hp} {ss : List Sl} {i : Nat} {p : Addr} {kqs : KQ} {kvs : DD} {E : Ends} {tk tv : TE} {k d : D}
def frzL (q : D × Addr × List D) : D × D := (q.1, .lst q.2.2)
theorem Sat.freezeL {F H : Hp} {σ : St} (S : Sat K G H₀ L F H σ ss) (hs : ss[i]? = some (dls K p kqs)) : ∃ F', Sat K G H₀ L F' H σ (ss.set i (dsl K p (kqs.map frzL))) := by
  obtain ⟨e, hoff, hp, hq⟩ := S.getL hs
  have hget : σ.getD i none = some (.ref p) := by rw [List.getD_eq_getElem?_getD, e]; rfl
  have hnd : (p :: kqs.map (·.2.1)).Nodup := S.nd i _ hs
  have off : ∀ b, b ∈ kqs.map (·.2.1) → H₀ b = none ∧ F b = none := fun b hb => hoff b (List.mem_cons_of_mem _ hb)
  let F' : Hp := fun b => if b ∈ kqs.map (·.2.1) then H b else F b
  have fin : ∀ b, b ∈ kqs.map (·.2.1) → F' b = H b := fun b hb => if_pos hb
  have fout : ∀ b, b ∉ kqs.map (·.2.1) → F' b = F b := fun b hb => if_neg hb
  have ff : Same F F' := fun b o h => by
    have : b ∉ kqs.map (·.2.1) := fun hb => by rw [(off b hb).2] at h; cases h
    rw [fout b this]; exact h
  have fh : Same F' H := fun b o h => by
    by_cases hb : b ∈ kqs.map (·.2.1)
    · rw [fin b hb] at h; exact h
    · rw [fout b hb] at h; exact S.ext.fh b o h
  have ex : Ext G H₀ F' H := ⟨S.ext.gf.trans ff, fh, S.ext.hh, fun b o h => by
    have : b ∉ kqs.map (·.2.1) := fun hb => by rw [(off b hb).1] at h; cases h
    rw [fout b this]; exact S.ext.no b o h⟩
  obtain ⟨p0, pf⟩ := hoff p List.mem_cons_self
  refine ⟨F', S.put ex (S.fl.trans ff) rfl (fun _ _ => rfl) (fun _ => ?_) (by simp [dsl, Sl.ads]) (fun j s' hj h q hq => ?_) fun j s' hj h => ?_⟩
  · rw [hget]
    refine ⟨rfl, fun a ha => by rw [List.mem_singleton.mp ha]; exact ⟨p0, by rw [fout p (List.nodup_cons.mp hnd).1]; exact pf, _, hp⟩, ⟨_, hp, ?_⟩, dW_stab _ _ _⟩
    have key : ∀ zs : KQ, (∀ z ∈ zs, z ∈ kqs) → Dks K F' (zs.map frzL) (zs.map raw) := by
      intro zs
      induction zs with
      | nil => intro _; exact .nil
      | cons z zs ih =>
        intro hz
        obtain ⟨z1, kr, vs, hv, r⟩ := hq z (hz z List.mem_cons_self)
        exact .cons z1 (kr.mono ff) (Rep.lst (SqL.of ((fin z.2.1 (List.mem_map.mpr ⟨z, hz z List.mem_cons_self, rfl⟩)).trans hv)) (r.mono ff)) (ih fun y hy => hz y (List.mem_cons_of_mem _ hy))
    exact key kqs fun z h => h
  · have : q = p := by simpa [dsl, Sl.ads] using hq
    subst this
    exact S.ne i j _ s' (Ne.symm hj) hs h q List.mem_cons_self
  · have dis : ∀ b ∈ s'.ads, b ∉ kqs.map (·.2.1) := fun b hb hb2 => S.ne i j _ s' (Ne.symm hj) hs h b (List.mem_cons_of_mem _ hb2) hb
    have own : ∀ {b : Addr} {xs : List D}, b ∈ s'.ads → OwnL K H₀ F H b xs → OwnL K H₀ F' H b xs := fun hb ⟨a1, a2, vs, a3, a4⟩ => ⟨a1, by rw [fout _ (dis _ hb)]; exact a2, vs, a3, a4.mono ff⟩
    have ok := S.ok j s' h
    cases s' with
    | un => trivial
    | d x => obtain ⟨v, ev, r⟩ := ok; exact ⟨v, ev, r.mono ff⟩
    | o b xs => exact ⟨ok.1, own (by simp [Sl.ads]) ok.2⟩
    | oo b zs =>
      obtain ⟨a1, a2, a3, a4, a5⟩ := ok
      exact ⟨a1, a2, by rw [fout b (dis b (by simp [Sl.ads]))]; exact a3, a4, fun z hz => own (by simp [Sl.ads]; exact .inr ⟨_, hz⟩) (a5 z hz)⟩
    | g v as W =>
      obtain ⟨a1, a2, a3, a4⟩ := ok
      refine ⟨a1, fun b hb => ?_, a4 _ _ _ _ ff (fun _ _ => rfl) a3, a4⟩
      obtain ⟨b1, b2, b3⟩ := a2 b hb
      exact ⟨b1, by rw [fout b (dis b hb)]; exact b2, b3⟩
theorem nx_freezeL {N : St → Hp → Prop} (hs : ss[i]? = some (dls K p kqs)) (h : Nx K G H₀ L N (ss.set i (dsl K p (kqs.map frzL)))) : Nx K G H₀ L N ss := fun F H σ S => by
  obtain ⟨F', S'⟩ := S.freezeL hs
  exact h F' H σ S'
theorem Dks.snds {F : Hp} {xs : List (Key × V)} (h : Dks K F kvs xs) : Reps K F (kvs.map (·.2)) (xs.map (·.2)) := by
  induction h with
  | nil => exact Reps.nil
  | cons hk hr r t ih => exact Reps.cons r ih
def rListVals : List V → Hp → VK → Prop := fun xs H Q => ∃ r d kvs, xs = [.ref r] ∧ H r = some (ValsO r d) ∧ H d = some (.dK kvs) ∧ ∀ l, H l = none → Q (.ref l) (upd H l (.lst (kvs.map (·.2))))
theorem evo_vals (hs : ss[i]? = some (dsl K p kvs)) : EvO K G H₀ L ss (tCB rListVals (tCons (tBM0 K "dict" rValues (tVar i)) tNil)) (kvs.map (·.2)) := fun F H σ Q S q => by
  obtain ⟨e, h0, fp, xs, hp, dk⟩ := S.getM hs
  refine ⟨.ref p, e, .inr (.inr (.inl ⟨rfl, .inl ⟨_, hp⟩⟩)), p, xs, rfl, rfl, hp, fun r hr => ?_⟩
  have hpr : p ≠ r := fun z => by rw [z, hr] at hp; cases hp
  refine ⟨r, p, xs, rfl, upd_same, by rw [upd_ne hpr]; exact hp, fun l hl => ?_⟩
  have hlr : l ≠ r := fun z => by rw [z, upd_same] at hl; cases hl
  have hl0 : H l = none := by rw [upd_ne hlr] at hl; exact hl
  exact q l _ F _ ((Ext.newO ((Ext.refl S.ext.fh).newO hr) hl)) hl0 (S.ext.fh.free hl0) upd_same dk.snds
def rListRng : List V → Hp → VK → Prop := fun xs H Q => ∃ r a b c n, xs = [.ref r] ∧ H r = some (RngO r a b c) ∧ Builtin.Range.small a b c = true ∧ Builtin.Range.rangeSize a b c = ((n : Nat) : Int) ∧ n ≤ 1048576 ∧ ∀ l, H l = none → Q (.ref l) (upd H l (.lst ((List.range n).map fun (i : Nat) => .int (a + (i : Int) * c))))
theorem evo_listrange {ta : TE} {n : Nat} (a : EvB K G H₀ L ss ta (.int n)) (hn : n ≤ 1048576) : EvO K G H₀ L ss (tCB rListRng (tCons (tRng1 (tCons ta tNil)) tNil)) ((List.range n).map fun j : Nat => .int j) := fun F H σ Q S q =>
  a F H σ _ S fun v F1 H1 e1 r1 => by
    rw [r1.of_int]
    refine ⟨n, rfl, fun r hr => ⟨r, 0, n, 1, n, rfl, upd_same, ?_, ?_, hn, fun l hl => ?_⟩⟩
    · exact small_one (by decide) (by decide) (by lia) (by lia)
    · unfold Builtin.Range.rangeSize
      rw [if_pos (by decide)]
      split <;> lia
    · have hlr : l ≠ r := fun z => by rw [z, upd_same] at hl; cases hl
      have hl0 : H1 l = none := by rw [upd_ne hlr] at hl; exact hl
      refine q l _ F1 _ ((e1.newO hr).newO hl) (e1.hh.free hl0) (e1.fh.free hl0) upd_same ?_
      have e : ((List.range n).map fun i : Nat => V.int ((0 : Int) + (i : Int) * 1)) = (List.range n).map fun i : Nat => V.int (i : Int) := List.map_congr_left fun i _ => by rw [Int.mul_one, Int.zero_add]
      rw [e]
      have := Reps.ints (K := K) (H := F1) (p := l) ((List.range n).map fun i : Nat => (i : Int))
      rw [List.map_map, List.map_map] at this
      exact this
theorem go_enum {tl : TE} {g : TG} {tb : TS} {α : Type} (enc : α → D) (xs : List α) (I : Nat → List Sl → Prop) (a : Ev K G H₀ L ss tl (.lst (xs.map enc))) (h0 : I 0 ss)
    (hs : ∀ L' k x ss, Same L L' → xs[k]? = some x → I k ss → ∃ ss', Tg K G H₀ L' g (.tup [.int k, enc x]) ss ss' ∧ ∀ N, (∀ ss, I (k + 1) ss → Nx K G H₀ L' N ss) → Go K G H₀ L' { E with nx := N, ct := N, bk := E.nx } ss' tb)
    (hd : ∀ ss, I xs.length ss → Nx K G H₀ L E.nx ss) : Go K G H₀ L E ss (tFor (iEnL K (tCons tl tNil)) g tb) := fun F H σ S =>
  a F H σ _ S fun v F1 H1 e1 r1 => by
    obtain ⟨p, vs, rfl, sq, rs⟩ := r1.of_lst
    refine ⟨p, rfl, ⟨vs, SqL.same e1.fh sq⟩, ?_⟩
    refine ⟨fun i m σ' H' => m = xs.length - i ∧ i ≤ xs.length ∧ At K G H₀ F1 (I i) σ' H', ⟨_, rfl, Nat.zero_le _, ss, F1, (S.ext2 e1).raise, h0⟩, ?_⟩
    rintro i m σ' H' ⟨rfl, hi, ss1, F2, S2, h2⟩
    have rp : Rep K F2 (.lst (xs.map enc)) (.ref p) := r1.mono S2.fl
    obtain ⟨ws, sq2, rs2⟩ := rp.itl S2.ext.fh
    have hlen : ws.length = xs.length := by rw [← rs2.length, List.length_map]
    by_cases hlt : i < xs.length
    · refine .inr ⟨⟨ws, ws[i]'(by lia), sq2, List.getElem?_eq_getElem _⟩, fun σ'' H'' => At K G H₀ F1 (I (i + 1)) σ'' H'', fun σ'' H'' h => ⟨xs.length - (i + 1), by lia, rfl, hlt, h⟩, fun x H'' y => ?_⟩
      obtain ⟨T0, us, rfl, hf, rfl, y⟩ := y
      obtain ⟨w, hx, rfl⟩ := y ws sq2
      obtain ⟨dx, hdx, rx⟩ := rs2.get hx
      rw [List.getElem?_map, List.getElem?_eq_getElem hlt] at hdx
      cases hdx
      obtain ⟨ss', tg, go⟩ := hs F1 i _ ss1 (S.fl.trans e1.gf) (List.getElem?_eq_getElem hlt) h2
      have e3 : Ext F2 H' (upd F2 T0 (.tup [.int i, w])) (upd H' T0 (.tup [.int i, w])) := (Ext.refl S2.ext.fh).newF hf
      have rt : Rep K (upd F2 T0 (.tup [.int i, w])) (.tup [.int i, enc xs[i]]) (.ref T0) := Rep.tupN (upd_same) (Reps.cons Rep.int (Reps.cons (rx.mono e3.gf) Reps.nil))
      exact tg _ _ σ' _ _ (S2.ext2 e3) rt fun σ3 S3 => go _ (fun ss h => nx_at h) _ _ σ3 S3
    · have e : i = xs.length := by lia
      subst e
      exact .inl ⟨⟨ws, sq2, hlen⟩, hd ss1 h2 F2 H' σ' (S2.lower (S.fl.trans e1.gf))⟩
theorem reps_ints_eq {F : Hp} : ∀ {ns : List Int} {vs : List V}, Reps K F (ns.map D.int) vs → vs = ns.map V.int
  | [], vs, r => by rw [List.map_nil, Reps] at r; exact r
  | n :: ns, vs, r => by
    rw [List.map_cons, Reps] at r
    obtain ⟨x, r', rfl, r1, r2⟩ := r
    rw [r1.of_int, reps_ints_eq r2]; rfl
end
end L2

namespace L2
open PySem PySem.W PyProof.Rows PySem.Spec PySem.Calls
def rSumL (K : PySem.W.Frag) : List V → Hp → VK → Prop := fun vs H Q => ∃ (a : Addr) (ns : List Int), vs = [.ref a] ∧ SqL K H a (ns.map V.int) ∧ Q (.int ns.sum) H
theorem call_sumL {X : Cx} (hc : X.calm = true) : CallR X (.builtin "sum") (rSumL X.K) := by
  intro pins s σ H vs us Q I r h
  obtain ⟨l, ns, rfl, sq, q⟩ := h
  obtain ⟨u, rfl, ru⟩ := vals1 r
  cases ru
  obtain ⟨its, rv, pl, hz⟩ := I.list sq
  have hi := ints_are rv
  have hn := hi.numsOf
  obtain ⟨xs, hx⟩ := hi.allInts.items
  have hl := pl.isList
  rw [hx] at hl
  refine sum_intListG (I.ok.hd hc) hl fun h' tk t' hk => ⟨.int ns.sum, H, I.kept (t' := tk) hk, ⟨t', ?_⟩, q⟩
  have h2 : numsOf its = numsOf (intItems xs).toList := by rw [← hx]
  rw [hn, nums_intItems] at h2
  rw [preSum_eq, List.take_of_length_le (by simp), h2]
section
variable {K : PySem.W.Frag} {G H₀ L : Hp} {ss : List Sl} {ta : TE}
theorem ev_sumL {ns : List Int} (a : EvL K G H₀ L ss ta (ns.map .int)) : Ev K G H₀ L ss (tCB (rSumL K) (tCons ta tNil)) (.int ns.sum) := fun F H σ Q S k =>
  a F H σ _ S fun p vs F' H' e sq rs => by
    have ev := reps_ints_eq rs
    subst ev
    exact ⟨p, ns, rfl, sq, k _ _ _ e Rep.int⟩
end
end L2

namespace L2
theorem sn_ind {α : Type} {P : List α → Prop} (h0 : P []) (hs : ∀ xs x, P xs → P (xs ++ [x])) (xs : List α) : P xs := by
  have : ∀ ys : List α, P ys.reverse := by
    intro ys
    induction ys with
    | nil => exact h0
    | cons y ys ih => rw [List.reverse_cons]; exact hs _ _ ih
  have := this xs.reverse
  rwa [List.reverse_reverse] at this
section
variable {β γ : Type} [DecidableEq β] [DecidableEq γ]
def ddS (acc : List β) (x : β) : List β := if x ∈ acc then acc else acc ++ [x]
def dd (ls : List β) : List β := ls.foldl ddS []
theorem dd_snoc0 (ls : List β) (x : β) : dd (ls ++ [x]) = ddS (dd ls) x := by unfold dd; rw [List.foldl_append]; rfl
theorem mem_dd {x : β} (ls : List β) : x ∈ dd ls ↔ x ∈ ls := by
  induction ls using sn_ind generalizing x with
  | h0 => exact Iff.rfl
  | hs ls y ih =>
    rw [dd_snoc0]
    unfold ddS
    by_cases h : y ∈ dd ls
    · rw [if_pos h, ih, List.mem_append, List.mem_singleton]
      exact ⟨.inl, fun z => z.elim id fun e => e ▸ ih.mp h⟩
    · rw [if_neg h, List.mem_append, List.mem_append, ih]
theorem dd_in {ls : List β} {x : β} (h : x ∈ ls) : dd (ls ++ [x]) = dd ls := by rw [dd_snoc0]; exact if_pos ((mem_dd ls).mpr h)
theorem dd_out {ls : List β} {x : β} (h : x ∉ ls) : dd (ls ++ [x]) = dd ls ++ [x] := by rw [dd_snoc0]; exact if_neg fun z => h ((mem_dd ls).mp z)
theorem ix_in {ls : List β} {x y : β} (h : x ∈ ls) : (ls ++ [y]).idxOf x = ls.idxOf x := by rw [List.idxOf_append, if_pos h]
theorem ix_out {ls : List β} {x : β} (h : x ∉ ls) : ls.idxOf x = ls.length := List.idxOf_eq_length h
theorem ix_lt {ls : List β} {x : β} (h : x ∈ ls) : ls.idxOf x < ls.length := List.idxOf_lt_length_iff.mpr h
theorem ix_le {ls : List β} {x : β} : ls.idxOf x ≤ ls.length := List.idxOf_le_length
theorem ix_new {ls : List β} {x y : β} (h : x ∉ ls) : (ls ++ [y]).idxOf x = if y = x then ls.length else ls.length + 1 := by
  rw [List.idxOf_append, if_neg h]
  by_cases e : y = x
  · subst e; rw [if_pos rfl]; simp
  · rw [if_neg e]
    have : [y].idxOf x = 1 := by
      rw [ix_out (by simp; exact fun z => e z.symm)]; rfl
    omega
theorem ix_self {ls : List β} {x : β} : (ls ++ [x]).idxOf x = ls.idxOf x := by
  by_cases h : x ∈ ls
  · exact ix_in h
  · rw [ix_new h, if_pos rfl, ix_out h]
def numF (ls : List β) : List Nat := ls.map fun x => (dd ls).idxOf x
theorem numF_snoc (ls : List β) (x : β) : numF (ls ++ [x]) = numF ls ++ [(dd ls).idxOf x] := by
  unfold numF
  rw [List.map_append, List.map_singleton]
  congr 1
  · refine List.map_congr_left fun y hy => ?_
    by_cases h : x ∈ ls
    · rw [dd_in h]
    · rw [dd_out h, ix_in ((mem_dd ls).mpr hy)]
  · by_cases h : x ∈ ls
    · rw [dd_in h]
    · rw [dd_out h, ix_self]
theorem numF_len (ls : List β) : (numF ls).length = ls.length := by unfold numF; rw [List.length_map]
def fstF (ls : List β) : List Nat := ls.map fun x => ls.idxOf x
theorem fstF_len (ls : List β) : (fstF ls).length = ls.length := by unfold fstF; rw [List.length_map]
theorem fstF_snoc (ls : List β) (x : β) : fstF (ls ++ [x]) = fstF ls ++ [ls.idxOf x] := by
  unfold fstF
  rw [List.map_append, List.map_singleton, ix_self]
  congr 1
  exact List.map_congr_left fun y hy => ix_in hy
def cntF (F : List Nat) (k : Nat) : Nat := ((List.range k).filter fun j => decide (F[j]? = some j)).length
theorem cnt_succ (F : List Nat) (k : Nat) : cntF F (k + 1) = cntF F k + if F[k]? = some k then 1 else 0 := by
  unfold cntF
  rw [List.range_succ, List.filter_append, List.length_append]
  by_cases h : F[k]? = some k
  · rw [if_pos h]; simp [h]
  · rw [if_neg h]; simp [h]
theorem cnt_snoc {F : List Nat} {y k : Nat} (h : k ≤ F.length) : cntF (F ++ [y]) k = cntF F k := by
  unfold cntF
  congr 1
  refine List.filter_congr fun j hj => ?_
  have : j < F.length := Nat.lt_of_lt_of_le (List.mem_range.mp hj) h
  rw [List.getElem?_append_left this]
theorem cnt_mono (F : List Nat) {k k' : Nat} (h : k ≤ k') : cntF F k ≤ cntF F k' := by
  induction k' with
  | zero => rw [Nat.le_zero.mp h]; exact Nat.le_refl _
  | succ n ih =>
    rw [cnt_succ]
    rcases Nat.lt_or_ge n k with c | c
    · have : k = n + 1 := by omega
      subst this
      rw [cnt_succ]; exact Nat.le_refl _
    · have := ih c; omega
theorem cnt_lt {F : List Nat} {k k' : Nat} (hk : F[k]? = some k) (h : k < k') : cntF F k < cntF F k' := by
  have h1 := cnt_succ F k
  rw [if_pos hk] at h1
  have := cnt_mono F (show k + 1 ≤ k' from h)
  omega
theorem idx_cnt (ls : List β) : ∀ x, (dd ls).idxOf x = cntF (fstF ls) (ls.idxOf x) := by
  induction ls using sn_ind with
  | h0 => intro x; rfl
  | hs ls z ih =>
    intro x
    have fl := fstF_len ls
    rw [fstF_snoc]
    by_cases hx : x ∈ ls
    · rw [ix_in hx, cnt_snoc (by rw [fl]; exact ix_le), ← ih]
      by_cases hz : z ∈ ls
      · rw [dd_in hz]
      · rw [dd_out hz, ix_in ((mem_dd ls).mpr hx)]
    · have h0 := ih x
      rw [ix_out hx] at h0
      have hxd : x ∉ dd ls := fun q => hx ((mem_dd ls).mp q)
      by_cases hz : z ∈ ls
      · have hzx : z ≠ x := fun e => hx (e ▸ hz)
        rw [dd_in hz, ix_new hx, if_neg hzx, cnt_succ, cnt_snoc (by rw [fl]; exact Nat.le_refl _), h0]
        have : (fstF ls ++ [ls.idxOf z])[ls.length]? = some (ls.idxOf z) := by rw [← fl, List.getElem?_append_right (Nat.le_refl _)]; simp
        rw [this, if_neg]
        · rfl
        · intro e; injection e with e; have := ix_lt hz; omega
      · rw [dd_out hz, ix_new hxd, ix_new hx]
        have hl : (dd ls).length = cntF (fstF ls) ls.length := by rw [← h0, ix_out hxd]
        by_cases e : z = x
        · rw [if_pos e, if_pos e, cnt_snoc (by rw [fl]; exact Nat.le_refl _), hl]
        · rw [if_neg e, if_neg e, cnt_succ, cnt_snoc (by rw [fl]; exact Nat.le_refl _), hl]
          have : (fstF ls ++ [ls.idxOf z])[ls.length]? = some (ls.idxOf z) := by rw [← fl, List.getElem?_append_right (Nat.le_refl _)]; simp
          rw [this, ix_out hz, if_pos rfl]
theorem lt_snoc : ∀ {a b : List Nat} {x y : Nat}, a.length = b.length → (a ++ [x] < b ++ [y] ↔ a < b ∨ (a = b ∧ x < y))
  | [], [], x, y, _ => by
    rw [List.nil_append, List.nil_append, List.cons_lt_cons_iff]
    exact ⟨fun z => .inr ⟨rfl, z.elim id fun q => absurd q.2 (List.lt_irrefl _)⟩, fun z => z.elim (fun q => absurd q (List.lt_irrefl _)) fun q => .inl q.2⟩
  | [], _ :: _, _, _, h => by simp at h
  | _ :: _, [], _, _, h => by simp at h
  | c :: a, d :: b, x, y, h => by
    have ih := lt_snoc (a := a) (b := b) (x := x) (y := y) (by simpa using h)
    rw [List.cons_append, List.cons_append, List.cons_lt_cons_iff, List.cons_lt_cons_iff, ih]
    constructor
    · rintro (k | ⟨rfl, k | ⟨rfl, k⟩⟩)
      · exact .inl (.inl k)
      · exact .inl (.inr ⟨rfl, k⟩)
      · exact .inr ⟨rfl, k⟩
    · rintro ((k | ⟨rfl, k⟩) | ⟨e, k⟩)
      · exact .inl k
      · exact .inr ⟨rfl, .inl k⟩
      · injection e with e1 e2
        exact .inr ⟨e1, .inr ⟨e2, k⟩⟩
theorem eq_snoc {α : Type} {a b : List α} {x y : α} : a ++ [x] = b ++ [y] ↔ a = b ∧ x = y := by
  constructor
  · intro h
    have := List.append_inj' h rfl
    exact ⟨this.1, by simpa using this.2⟩
  · rintro ⟨rfl, rfl⟩; rfl
theorem fst_good {ls : List β} {x : β} : ls.idxOf x = ls.length ∨ (fstF ls)[ls.idxOf x]? = some (ls.idxOf x) := by
  by_cases h : x ∈ ls
  · refine .inr ?_
    unfold fstF
    rw [List.getElem?_map, List.getElem?_eq_getElem (ix_lt h), Option.map_some, List.getElem_idxOf]
  · exact .inl (ix_out h)
theorem num_fst (n : Nat) : ∀ (ls : List β) (ms : List γ), ls.length = n → ms.length = n → ((numF ls < numF ms ↔ fstF ls < fstF ms) ∧ (numF ls = numF ms ↔ fstF ls = fstF ms)) := by
  induction n with
  | zero =>
    intro ls ms h1 h2
    rw [List.length_eq_zero_iff.mp h1, List.length_eq_zero_iff.mp h2]
    exact ⟨Iff.rfl, Iff.rfl⟩
  | succ n ih =>
    intro ls ms h1 h2
    rcases List.eq_nil_or_concat ls with rfl | ⟨ls, x, rfl⟩
    · simp at h1
    rcases List.eq_nil_or_concat ms with rfl | ⟨ms, y, rfl⟩
    · simp at h2
    simp only [List.concat_eq_append] at h1 h2 ⊢
    rw [List.length_append] at h1 h2
    have h1 : ls.length = n := by simpa using h1
    have h2 : ms.length = n := by simpa using h2
    obtain ⟨i1, i2⟩ := ih ls ms h1 h2
    have key : fstF ls = fstF ms → (((dd ls).idxOf x < (dd ms).idxOf y ↔ ls.idxOf x < ms.idxOf y) ∧ ((dd ls).idxOf x = (dd ms).idxOf y ↔ ls.idxOf x = ms.idxOf y)) := fun e => by
      rw [idx_cnt, idx_cnt, e]
      have g1 := fst_good (ls := ls) (x := x)
      have g2 := fst_good (ls := ms) (x := y)
      rw [e] at g1
      have b1 := ix_le (ls := ls) (x := x)
      have b2 := ix_le (ls := ms) (x := y)
      rcases Nat.lt_trichotomy (ls.idxOf x) (ms.idxOf y) with c | c | c
      · have := cnt_lt (g1.resolve_left (by omega)) c
        exact ⟨⟨fun _ => c, fun _ => this⟩, ⟨fun z => by omega, fun z => by omega⟩⟩
      · rw [c]; exact ⟨⟨fun z => absurd z (Nat.lt_irrefl _), fun z => absurd z (Nat.lt_irrefl _)⟩, ⟨fun _ => rfl, fun _ => rfl⟩⟩
      · have := cnt_lt (g2.resolve_left (by omega)) c
        exact ⟨⟨fun z => by omega, fun z => by omega⟩, ⟨fun z => by omega, fun z => by omega⟩⟩
    rw [numF_snoc, numF_snoc, fstF_snoc, fstF_snoc, lt_snoc (by rw [numF_len, numF_len, h1, h2]), lt_snoc (by rw [fstF_len, fstF_len, h1, h2]), eq_snoc, eq_snoc, i1, i2]
    constructor
    · constructor
      · rintro (z | ⟨z1, z2⟩)
        · exact .inl z
        · exact .inr ⟨z1, (key z1).1.mp z2⟩
      · rintro (z | ⟨z1, z2⟩)
        · exact .inl z
        · exact .inr ⟨z1, (key z1).1.mpr z2⟩
    · constructor
      · rintro ⟨z1, z2⟩; exact ⟨z1, (key z1).2.mp z2⟩
      · rintro ⟨z1, z2⟩; exact ⟨z1, (key z1).2.mpr z2⟩
def ngF (g : List Nat) : Nat := g.foldl (fun a x => max a (x + 1)) 0
theorem ng_snoc (g : List Nat) (x : Nat) : ngF (g ++ [x]) = max (ngF g) (x + 1) := by unfold ngF; rw [List.foldl_append]; rfl
theorem ng_num (ls : List β) : ngF (numF ls) = (dd ls).length := by
  induction ls using sn_ind with
  | h0 => rfl
  | hs ls x ih =>
    rw [numF_snoc, ng_snoc, ih]
    by_cases h : x ∈ ls
    · rw [dd_in h]
      have := ix_lt ((mem_dd (x := x) ls).mpr h)
      omega
    · rw [dd_out h, ix_out fun z => h ((mem_dd ls).mp z), List.length_append]
      simp
def rgs : Nat → List (List Nat)
  | 0 => [[]]
  | n + 1 => (rgs n).flatMap fun g => (List.range (ngF g + 1)).map fun x => g ++ [x]
theorem mem_rgs {n : Nat} {g : List Nat} : g ∈ rgs (n + 1) ↔ ∃ g' ∈ rgs n, ∃ x, x ≤ ngF g' ∧ g = g' ++ [x] := by
  rw [rgs, List.mem_flatMap]
  constructor
  · rintro ⟨g', h1, h2⟩
    obtain ⟨x, hx, rfl⟩ := List.mem_map.mp h2
    exact ⟨g', h1, x, by have := List.mem_range.mp hx; omega, rfl⟩
  · rintro ⟨g', h1, x, hx, rfl⟩
    exact ⟨g', h1, List.mem_map.mpr ⟨x, List.mem_range.mpr (by omega), rfl⟩⟩
theorem rgs_len {n : Nat} : ∀ {g : List Nat}, g ∈ rgs n → g.length = n := by
  induction n with
  | zero => intro g h; rw [rgs] at h; rw [List.mem_singleton.mp h]; rfl
  | succ n ih =>
    intro g h
    obtain ⟨g', h1, x, _, rfl⟩ := mem_rgs.mp h
    rw [List.length_append, ih h1]; rfl
theorem num_rgs (ls : List β) : numF ls ∈ rgs ls.length := by
  induction ls using sn_ind with
  | h0 => exact List.mem_singleton.mpr rfl
  | hs ls x ih =>
    rw [numF_snoc, List.length_append]
    exact mem_rgs.mpr ⟨_, ih, _, by rw [ng_num]; exact ix_le, rfl⟩
theorem ix_range (k : Nat) : ∀ x, x ≤ k → (List.range k).idxOf x = x := by
  induction k with
  | zero => intro x h; rw [Nat.le_zero.mp h]; rfl
  | succ k ih =>
    intro x h
    rw [List.range_succ]
    rcases Nat.lt_or_ge x k with c | c
    · rw [ix_in (List.mem_range.mpr c), ih x (by omega)]
    · rw [ix_new (fun z => by have := List.mem_range.mp z; omega), List.length_range]
      by_cases e : k = x
      · rw [if_pos e]; exact e
      · rw [if_neg e]; omega
theorem rgs_dd {n : Nat} : ∀ {g : List Nat}, g ∈ rgs n → dd g = List.range (ngF g) := by
  induction n with
  | zero => intro g h; rw [rgs] at h; rw [List.mem_singleton.mp h]; rfl
  | succ n ih =>
    intro g h
    obtain ⟨g', h1, x, hx, rfl⟩ := mem_rgs.mp h
    have e := ih h1
    have hm : x ∈ g' ↔ x < ngF g' := by rw [← mem_dd g', e, List.mem_range]
    rw [ng_snoc]
    rcases Nat.lt_or_ge x (ngF g') with c | c
    · rw [dd_in (hm.mpr c), e]; congr 1; omega
    · have : x = ngF g' := by omega
      rw [dd_out (fun z => by have := hm.mp z; omega), e, this]
      rw [show max (ngF g') (ngF g' + 1) = ngF g' + 1 by omega, List.range_succ]
theorem rgs_num {n : Nat} : ∀ {g : List Nat}, g ∈ rgs n → numF g = g := by
  induction n with
  | zero => intro g h; rw [rgs] at h; rw [List.mem_singleton.mp h]; rfl
  | succ n ih =>
    intro g h
    obtain ⟨g', h1, x, hx, rfl⟩ := mem_rgs.mp h
    rw [numF_snoc, ih h1, rgs_dd h1, ix_range _ _ hx]
theorem num_eq (ls : List β) {i j : Nat} {x y : β} (hi : ls[i]? = some x) (hj : ls[j]? = some y) : (numF ls).getD i 0 = (numF ls).getD j 0 ↔ x = y := by
  have e : ∀ {k : Nat} {z : β}, ls[k]? = some z → (numF ls).getD k 0 = (dd ls).idxOf z := fun {k z} h => by
    unfold numF
    rw [List.getD_eq_getElem?_getD, List.getElem?_map, h]; rfl
  rw [e hi, e hj]
  constructor
  · intro h
    have hx : x ∈ dd ls := (mem_dd ls).mpr (List.mem_of_getElem? hi)
    have h1 := List.getElem_idxOf (ix_lt hx)
    have hy : y ∈ dd ls := (mem_dd ls).mpr (List.mem_of_getElem? hj)
    have h2 := List.getElem_idxOf (ix_lt hy)
    rw [← h1, ← h2]
    exact getElem_congr rfl h _
  · rintro rfl; rfl
theorem num_ker {α : Type} (xs : List α) (f : α → β) (g : α → γ) : (∀ a ∈ xs, ∀ b ∈ xs, (f a = f b ↔ g a = g b)) → numF (xs.map f) = numF (xs.map g) := by
  intro h
  refine (num_fst _ _ _ (List.length_map _) (List.length_map _)).2.mpr ?_
  unfold fstF
  rw [List.map_map, List.map_map]
  refine List.map_congr_left fun a ha => ?_
  show (xs.map f).idxOf (f a) = (xs.map g).idxOf (g a)
  have : ∀ ys : List α, (∀ b ∈ ys, (f b = f a ↔ g b = g a)) → (ys.map f).idxOf (f a) = (ys.map g).idxOf (g a) := by
    intro ys
    induction ys with
    | nil => intro _; rfl
    | cons y ys ih =>
      intro hy
      rw [List.map_cons, List.map_cons, List.idxOf_cons, List.idxOf_cons, ih fun b hb => hy b (List.mem_cons_of_mem _ hb)]
      have : (f y == f a) = (g y == g a) := by rw [Bool.eq_iff_iff, beq_iff_eq, beq_iff_eq]; exact hy y List.mem_cons_self
      rw [this]
  exact this xs fun b hb => h b hb a ha
theorem dd_map (φ : β → γ) (ls : List β) : (dd (ls.map φ)).length ≤ (dd ls).length ∧ ((dd (ls.map φ)).length = (dd ls).length → ∀ x ∈ ls, ∀ y ∈ ls, φ x = φ y → x = y) := by
  induction ls using sn_ind with
  | h0 => exact ⟨Nat.le_refl _, fun _ x hx => by simp at hx⟩
  | hs ls z ih =>
    obtain ⟨i1, i2⟩ := ih
    rw [List.map_append, List.map_singleton]
    by_cases hz : z ∈ ls
    · rw [dd_in hz, dd_in (List.mem_map_of_mem hz)]
      refine ⟨i1, fun e x hx y hy => ?_⟩
      have : ∀ {u : β}, u ∈ ls ++ [z] → u ∈ ls := fun {u} hu => by
        rcases List.mem_append.mp hu with q | q
        · exact q
        · rw [List.mem_singleton.mp q]; exact hz
      exact i2 e x (this hx) y (this hy)
    · rw [dd_out hz, List.length_append]
      by_cases hm : φ z ∈ ls.map φ
      · rw [dd_in hm]
        refine ⟨by omega, fun e => ?_⟩
        have : [z].length = 1 := rfl
        omega
      · rw [dd_out hm, List.length_append]
        refine ⟨Nat.add_le_add_right i1 _, fun e x hx y hy hxy => ?_⟩
        have e' : (dd (ls.map φ)).length = (dd ls).length := by
          have h1 : [φ z].length = 1 := rfl
          have h2 : [z].length = 1 := rfl
          omega
        rcases List.mem_append.mp hx with q | q <;> rcases List.mem_append.mp hy with r | r
        · exact i2 e' x q y r hxy
        · rw [List.mem_singleton.mp r] at hxy ⊢
          exact absurd (hxy ▸ List.mem_map_of_mem q) hm
        · rw [List.mem_singleton.mp q] at hxy ⊢
          exact absurd (hxy ▸ List.mem_map_of_mem r) hm
        · rw [List.mem_singleton.mp q, List.mem_singleton.mp r]
theorem dd_split (π : β → Bool) (ls : List β) : (dd ls).length = (dd (ls.filter π)).length + (dd (ls.filter fun x => !π x)).length := by
  induction ls using sn_ind with
  | h0 => rfl
  | hs ls z ih =>
    rw [List.filter_append, List.filter_append]
    cases hp : π z with
    | true =>
      rw [List.filter_cons_of_pos hp, List.filter_nil, List.filter_cons_of_neg (by simp [hp]), List.filter_nil, List.append_nil]
      by_cases hz : z ∈ ls
      · rw [dd_in hz, dd_in (List.mem_filter.mpr ⟨hz, hp⟩), ih]
      · rw [dd_out hz, dd_out (fun q => hz (List.mem_filter.mp q).1), List.length_append, List.length_append, ih]
        omega
    | false =>
      rw [List.filter_cons_of_neg (by simp [hp]), List.filter_nil, List.append_nil, List.filter_cons_of_pos (by simp [hp]), List.filter_nil]
      by_cases hz : z ∈ ls
      · rw [dd_in hz, dd_in (List.mem_filter.mpr ⟨hz, by simp [hp]⟩), ih]
      · rw [dd_out hz, dd_out (fun q => hz (List.mem_filter.mp q).1), List.length_append, List.length_append, ih]
        omega
def ixo (ls : List β) (x : β) : Nat := ls.idxOf x
theorem ixo_in {ls : List β} {x y : β} (h : x ∈ ls) : ixo (ls ++ [y]) x = ixo ls x := ix_in h
theorem ixo_self {ls : List β} {x : β} : ixo (ls ++ [x]) x = ixo ls x := ix_self
theorem ixo_out {ls : List β} {x : β} (h : x ∉ ls) : ixo ls x = ls.length := ix_out h
theorem numF_snoc' (ls : List β) (x : β) : numF (ls ++ [x]) = numF ls ++ [ixo (dd ls) x] := numF_snoc ls x
end
end L2

namespace L2
abbrev Apt := Nat × Nat
abbrev Pr := Nat × Nat × Int
def absI (w : Int) : Int := if w < 0 then -w else w
theorem absI_nn (w : Int) : 0 ≤ absI w := by unfold absI; split <;> omega
section
variable {β γ : Type} [DecidableEq β] [DecidableEq γ]
def lossK (f : Nat → β) (p : Pr) : Int := if decide (f p.1 = f p.2.1) = decide (0 < p.2.2) then 0 else absI p.2.2
theorem lossK_nn (f : Nat → β) (p : Pr) : 0 ≤ lossK f p := by unfold lossK; split; exact Int.le_refl _; exact absI_nn _
theorem lossK_congr {f : Nat → β} {g : Nat → γ} {p : Pr} (h : f p.1 = f p.2.1 ↔ g p.1 = g p.2.1) : lossK f p = lossK g p := by
  unfold lossK
  have : decide (f p.1 = f p.2.1) = decide (g p.1 = g p.2.1) := by rw [Bool.eq_iff_iff, decide_eq_true_eq, decide_eq_true_eq]; exact h
  rw [this]
def sumI : List Int → Int
  | [] => 0
  | x :: xs => x + sumI xs
def lossS (f : Nat → β) (ps : List Pr) : Int := sumI (ps.map (lossK f))
theorem sum_le {α : Type} {f g : α → Int} : ∀ {ps : List α}, (∀ p ∈ ps, f p ≤ g p) → sumI (ps.map f) ≤ sumI (ps.map g)
  | [], _ => Int.le_refl _
  | p :: ps, h => by
    have h1 := h p List.mem_cons_self
    have h2 := sum_le fun q hq => h q (List.mem_cons_of_mem _ hq)
    show f p + sumI _ ≤ g p + sumI _
    omega
theorem sum_congr {α : Type} {f g : α → Int} {ps : List α} (h : ∀ p ∈ ps, f p = g p) : sumI (ps.map f) = sumI (ps.map g) := by rw [List.map_congr_left h]
theorem sum_split {α : Type} (f : α → Int) (π : α → Bool) : ∀ ps : List α, sumI (ps.map f) = sumI ((ps.filter π).map f) + sumI ((ps.filter fun p => !π p).map f)
  | [] => rfl
  | p :: ps => by
    have ih := sum_split f π ps
    show f p + sumI (ps.map f) = _
    cases hp : π p with
    | true =>
      rw [List.filter_cons_of_pos hp, List.filter_cons_of_neg (by simp [hp])]
      show _ = f p + sumI _ + _
      omega
    | false =>
      rw [List.filter_cons_of_neg (by simp [hp]), List.filter_cons_of_pos (by simp [hp])]
      show _ = _ + (f p + sumI _)
      omega
end
def atG (g : List Nat) (i : Nat) : Nat := g.getD i 0
def toI (g : List Nat) : List Int := g.map fun n : Nat => (n : Int)
def lossG (ps : List Pr) (g : List Nat) : Int := lossS (atG g) ps
def keyG (ps : List Pr) (g : List Nat) : List Int := lossG ps g :: (1 - (ngF g : Int)) :: toI g
def keepG (as : List Apt) (g : List Nat) : Prop := ∀ a ∈ as, atG g a.1 ≠ atG g a.2
instance (as : List Apt) (g : List Nat) : Decidable (keepG as g) := by unfold keepG; infer_instance
theorem toI_lt : ∀ {g h : List Nat}, toI g < toI h ↔ g < h
  | [], [] => by unfold toI; simp
  | [], _ :: _ => by unfold toI; simp
  | _ :: _, [] => by unfold toI; simp
  | x :: g, y :: h => by
    have ih := toI_lt (g := g) (h := h)
    unfold toI at ih ⊢
    rw [List.map_cons, List.map_cons, List.cons_lt_cons_iff, List.cons_lt_cons_iff, ih]
    constructor
    · rintro (z | ⟨z, q⟩)
      · exact .inl (by omega)
      · exact .inr ⟨by omega, q⟩
    · rintro (z | ⟨z, q⟩)
      · exact .inl (by omega)
      · exact .inr ⟨by omega, q⟩
theorem keyG_lt {ps qs : List Pr} {g h : List Nat} : keyG ps g < keyG qs h ↔ lossG ps g < lossG qs h ∨ (lossG ps g = lossG qs h ∧ (ngF h < ngF g ∨ (ngF g = ngF h ∧ g < h))) := by
  unfold keyG
  rw [List.cons_lt_cons_iff, List.cons_lt_cons_iff, toI_lt]
  constructor
  · rintro (z | ⟨z, q | ⟨q, r⟩⟩)
    · exact .inl z
    · exact .inr ⟨z, .inl (by omega)⟩
    · exact .inr ⟨z, .inr ⟨by omega, r⟩⟩
  · rintro (z | ⟨z, q | ⟨q, r⟩⟩)
    · exact .inl z
    · exact .inr ⟨z, .inl (by omega)⟩
    · exact .inr ⟨z, .inr ⟨by omega, r⟩⟩
theorem keyG_inj {ps : List Pr} {g h : List Nat} (h1 : ¬ keyG ps g < keyG ps h) (h2 : ¬ keyG ps h < keyG ps g) : g = h := by
  have e : keyG ps g = keyG ps h := List.le_antisymm (List.not_lt.mp h2) (List.not_lt.mp h1)
  unfold keyG at e
  injection e with _ e
  injection e with _ e
  unfold toI at e
  have := congrArg (List.map Int.toNat) e
  rw [List.map_map, List.map_map] at this
  exact (List.map_id g).symm.trans (this.trans (List.map_id h))
def inB (B : List Nat) (i j : Nat) : Bool := decide (i ∈ B) && decide (j ∈ B)
def inP (B : List Nat) (ps : List Pr) : List Pr := (ps.filter fun p => inB B p.1 p.2.1).map fun p => (B.idxOf p.1, B.idxOf p.2.1, p.2.2)
def inA (B : List Nat) (as : List Apt) : List Apt := (as.filter fun a => inB B a.1 a.2).map fun a => (B.idxOf a.1, B.idxOf a.2)
theorem lossS_eq {β γ : Type} [DecidableEq β] [DecidableEq γ] {f : Nat → β} {g : Nat → γ} {ps : List Pr} (h : ∀ p ∈ ps, (f p.1 = f p.2.1 ↔ g p.1 = g p.2.1)) : lossS f ps = lossS g ps := sum_congr fun p hp => lossK_congr (h p hp)
section
variable {β γ : Type} [DecidableEq β] [DecidableEq γ]
theorem loss_num {m : Nat} {f : Nat → β} {ps : List Pr} (h : ∀ p ∈ ps, p.1 < m ∧ p.2.1 < m) : lossG ps (numF ((List.range m).map f)) = lossS f ps := by
  refine lossS_eq fun p hp => ?_
  obtain ⟨h1, h2⟩ := h p hp
  exact num_eq _ (by rw [List.getElem?_map, List.getElem?_range h1]; rfl) (by rw [List.getElem?_map, List.getElem?_range h2]; rfl)
theorem ix_at {B : List Nat} {b : Nat} (h : b ∈ B) : B[B.idxOf b]? = some b := by
  rw [List.getElem?_eq_getElem (ix_lt h), List.getElem_idxOf]
theorem loss_in {B : List Nat} {f : Nat → β} {ps : List Pr} : lossG (inP B ps) (numF (B.map f)) = lossS f (ps.filter fun p => inB B p.1 p.2.1) := by
  unfold lossG lossS inP
  rw [List.map_map]
  refine sum_congr fun p hp => ?_
  obtain ⟨_, hb⟩ := List.mem_filter.mp hp
  obtain ⟨h1, h2⟩ : p.1 ∈ B ∧ p.2.1 ∈ B := by simpa [inB] using hb
  have := num_eq (B.map f) (i := B.idxOf p.1) (j := B.idxOf p.2.1) (by rw [List.getElem?_map, ix_at h1]; rfl) (by rw [List.getElem?_map, ix_at h2]; rfl)
  show lossK (atG (numF (B.map f))) (B.idxOf p.1, B.idxOf p.2.1, p.2.2) = lossK f p
  unfold lossK
  have e : decide (atG (numF (B.map f)) (B.idxOf p.1) = atG (numF (B.map f)) (B.idxOf p.2.1)) = decide (f p.1 = f p.2.1) := by rw [Bool.eq_iff_iff, decide_eq_true_eq, decide_eq_true_eq]; exact this
  show (if decide (atG (numF (B.map f)) (B.idxOf p.1) = atG (numF (B.map f)) (B.idxOf p.2.1)) = _ then _ else _) = _
  rw [e]
theorem refine_le {m : Nat} {ps : List Pr} {as : List Apt} {place : Nat → Nat} {h : List Nat} (hh : h ∈ rgs m) (hk : keepG as h) (hin : ∀ p ∈ ps, p.1 < m ∧ p.2.1 < m) (hl : ∀ p ∈ ps, 0 < p.2.2 → place p.1 = place p.2.1 ∨ (p.1, p.2.1) ∈ as) :
    ¬ keyG ps h < keyG ps (numF ((List.range m).map fun b => (place b, atG h b))) := by
  have hlen := rgs_len hh
  have e1 : (List.range m).map (atG h) = h := by
    refine List.ext_getElem? fun i => ?_
    rw [List.getElem?_map]
    by_cases hi : i < m
    · rw [List.getElem?_range hi]
      show some (atG h i) = _
      unfold atG
      rw [List.getD_eq_getElem?_getD, List.getElem?_eq_getElem (by omega)]; rfl
    · rw [List.getElem?_eq_none (by simp; omega), List.getElem?_eq_none (by omega)]; rfl
  have e2 : ((List.range m).map fun b => (place b, atG h b)).map Prod.snd = h := by rw [List.map_map]; exact e1
  obtain ⟨d1, d2⟩ := dd_map (Prod.snd : Nat × Nat → Nat) ((List.range m).map fun b => (place b, atG h b))
  rw [e2] at d1 d2
  have hn : ngF h = (dd h).length := by have := ng_num h; rw [rgs_num hh] at this; exact this
  have hL : lossG ps (numF ((List.range m).map fun b => (place b, atG h b))) ≤ lossG ps h := by
    rw [loss_num hin]
    unfold lossG
    refine sum_le fun p hp => ?_
    by_cases hq : place p.1 = place p.2.1
    · refine Int.le_of_eq (lossK_congr ?_)
      rw [Prod.mk.injEq]
      exact ⟨fun z => z.2, fun z => ⟨hq, z⟩⟩
    · have hne : ¬ ((place p.1, atG h p.1) = (place p.2.1, atG h p.2.1)) := fun z => hq (by injection z)
      rcases Int.lt_or_le 0 p.2.2 with c | c
      · have := hk _ ((hl p hp c).resolve_left hq)
        refine Int.le_of_eq (lossK_congr ⟨fun z => absurd z hne, fun z => absurd z this⟩)
      · have : lossK (fun b => (place b, atG h b)) p = 0 := by
          unfold lossK
          rw [decide_eq_false hne, decide_eq_false (by omega), if_pos rfl]
        rw [this]; exact lossK_nn _ _
  rw [keyG_lt, ng_num, hn]
  rintro (z | ⟨z, q | ⟨q, r⟩⟩)
  · omega
  · omega
  · have inj := d2 q
    have : numF ((List.range m).map fun b => (place b, atG h b)) = numF ((List.range m).map (atG h)) := num_ker _ _ _ fun a ha b hb => by
      rw [Prod.mk.injEq]
      refine ⟨fun z => z.2, fun z => ?_⟩
      have := inj (place a, atG h a) (List.mem_map.mpr ⟨a, ha, rfl⟩) (place b, atG h b) (List.mem_map.mpr ⟨b, hb, rfl⟩) z
      rw [Prod.mk.injEq] at this
      exact this
    rw [this, e1, rgs_num hh] at r
    exact List.lt_irrefl _ r
theorem step_le {m : Nat} {ps : List Pr} {B : List Nat} {π : Nat → Bool} {f : Nat → β} {g : Nat → γ} (hin : ∀ p ∈ ps, p.1 < m ∧ p.2.1 < m) (hB : B = (List.range m).filter π) (hout : ∀ a < m, ∀ b < m, π a = false → π b = false → (f a = f b ↔ g a = g b))
    (hf : ∀ a < m, ∀ b < m, π a = true → π b = false → f a ≠ f b) (hg : ∀ a < m, ∀ b < m, π a = true → π b = false → g a ≠ g b) (hle : ¬ keyG (inP B ps) (numF (B.map f)) < keyG (inP B ps) (numF (B.map g))) :
    ¬ keyG ps (numF ((List.range m).map f)) < keyG ps (numF ((List.range m).map g)) := by
  have memB : ∀ {b : Nat}, b < m → (b ∈ B ↔ π b = true) := fun {b} hb => by
    rw [hB, List.mem_filter, List.mem_range]; exact ⟨fun z => z.2, fun z => ⟨hb, z⟩⟩
  have hs := sum_split (lossK f) (fun p : Pr => inB B p.1 p.2.1) ps
  have hs2 := sum_split (lossK g) (fun p : Pr => inB B p.1 p.2.1) ps
  have ho : sumI ((ps.filter fun p => !inB B p.1 p.2.1).map (lossK f)) = sumI ((ps.filter fun p => !inB B p.1 p.2.1).map (lossK g)) := sum_congr fun p hp => lossK_congr (by
    obtain ⟨h1, h2⟩ := List.mem_filter.mp hp
    obtain ⟨b1, b2⟩ := hin p h1
    have h2 : ¬ (p.1 ∈ B ∧ p.2.1 ∈ B) := fun z => by rw [show inB B p.1 p.2.1 = true by unfold inB; rw [decide_eq_true z.1, decide_eq_true z.2]; rfl] at h2; cases h2
    rw [memB b1, memB b2] at h2
    cases c1 : π p.1 with
    | true =>
      have c2 : π p.2.1 = false := by cases c : π p.2.1 with
        | true => exact absurd ⟨c1, c⟩ h2
        | false => rfl
      exact ⟨fun z => absurd z (hf _ b1 _ b2 c1 c2), fun z => absurd z (hg _ b1 _ b2 c1 c2)⟩
    | false =>
      cases c2 : π p.2.1 with
      | true => exact ⟨fun z => absurd z.symm (hf _ b2 _ b1 c2 c1), fun z => absurd z.symm (hg _ b2 _ b1 c2 c1)⟩
      | false => exact hout _ b1 _ b2 c1 c2)
  have l1 : lossG ps (numF ((List.range m).map f)) = lossG (inP B ps) (numF (B.map f)) + sumI ((ps.filter fun p => !inB B p.1 p.2.1).map (lossK f)) := by rw [loss_num hin, loss_in]; exact hs
  have l2 : lossG ps (numF ((List.range m).map g)) = lossG (inP B ps) (numF (B.map g)) + sumI ((ps.filter fun p => !inB B p.1 p.2.1).map (lossK f)) := by rw [loss_num hin, loss_in, ho]; exact hs2
  have cut : ∀ {δ : Type} [DecidableEq δ] {u : Nat → δ}, (∀ a < m, ∀ b < m, π a = true → π b = false → u a ≠ u b) → (dd ((List.range m).map u)).length = (dd (B.map u)).length + (dd (((List.range m).filter fun b => !π b).map u)).length := fun {δ _ u} hu => by
    have := dd_split (fun x => decide (x ∈ B.map u)) ((List.range m).map u)
    rw [List.filter_map, List.filter_map] at this
    have q1 : (List.range m).filter ((fun x => decide (x ∈ B.map u)) ∘ u) = B := by
      rw [hB]
      refine List.filter_congr fun b hb => ?_
      have hb := List.mem_range.mp hb
      show decide (u b ∈ ((List.range m).filter π).map u) = π b
      cases c : π b with
      | true => exact decide_eq_true (List.mem_map.mpr ⟨b, List.mem_filter.mpr ⟨List.mem_range.mpr hb, c⟩, rfl⟩)
      | false =>
        refine decide_eq_false fun z => ?_
        obtain ⟨a, ha, e⟩ := List.mem_map.mp z
        obtain ⟨h1, h2⟩ := List.mem_filter.mp ha
        exact hu a (List.mem_range.mp h1) b hb h2 c e
    have q2 : (List.range m).filter ((fun x => !decide (x ∈ B.map u)) ∘ u) = (List.range m).filter fun b => !π b := by
      refine List.filter_congr fun b hb => ?_
      have hb := List.mem_range.mp hb
      show (!decide (u b ∈ B.map u)) = !π b
      congr 1
      cases c : π b with
      | true => exact decide_eq_true (List.mem_map.mpr ⟨b, (memB hb).mpr c, rfl⟩)
      | false =>
        refine decide_eq_false fun z => ?_
        obtain ⟨a, ha, e⟩ := List.mem_map.mp z
        have ha' := ha
        rw [hB] at ha'
        obtain ⟨h1, h2⟩ := List.mem_filter.mp ha'
        exact hu a (List.mem_range.mp h1) b hb h2 c e
    rw [q1, q2] at this
    exact this
  have n1 := cut hf
  have n2 := cut hg
  have n3 : (dd (((List.range m).filter fun b => !π b).map f)).length = (dd (((List.range m).filter fun b => !π b).map g)).length := by
    rw [← ng_num, ← ng_num]
    refine congrArg ngF (num_ker _ _ _ fun a ha b hb => ?_)
    obtain ⟨a1, a2⟩ := List.mem_filter.mp ha
    obtain ⟨b1, b2⟩ := List.mem_filter.mp hb
    exact hout a (List.mem_range.mp a1) b (List.mem_range.mp b1) (by simpa using a2) (by simpa using b2)
  rw [keyG_lt, ng_num, ng_num] at hle ⊢
  rw [l1, l2, n1, n2, n3]
  rintro (z | ⟨z, q | ⟨q, r⟩⟩)
  · exact hle (.inl (by omega))
  · exact hle (.inr ⟨by omega, .inl (by omega)⟩)
  · refine hle (.inr ⟨by omega, .inr ⟨by omega, ?_⟩⟩)
    -- the first place where they differ lies in the part
    have lm : ∀ {δ : Type} (u : Nat → δ), ((List.range m).map u).length = m := fun u => by simp
    have r' := (num_fst m _ _ (lm f) (lm g)).1.mp r
    refine (num_fst B.length _ _ (List.length_map _) (List.length_map _)).1.mpr ?_
    have glo : ∀ {δ : Type} [DecidableEq δ] (u : Nat → δ) (b : Nat), b < m → ∀ k, ((List.range m).map u).idxOf (u b) = k ↔ k < m ∧ u k = u b ∧ ∀ c < k, u c ≠ u b := fun {δ _} u b hb k => by
      have hm : u b ∈ (List.range m).map u := List.mem_map.mpr ⟨b, List.mem_range.mpr hb, rfl⟩
      have hlt := ix_lt hm
      rw [lm] at hlt
      have hget := List.getElem_idxOf (ix_lt hm)
      rw [List.getElem_map, List.getElem_range] at hget
      have hmin : ∀ c < ((List.range m).map u).idxOf (u b), u c ≠ u b := fun c hc z => by
        have h1 : ((List.range m).map u)[c]'(by rw [lm]; omega) = u b := by rw [List.getElem_map, List.getElem_range]; exact z
        have h2 := List.not_of_lt_findIdx (p := (· == u b)) (xs := (List.range m).map u) (i := c) hc
        rw [h1] at h2
        simp at h2
      constructor
      · rintro rfl
        exact ⟨hlt, hget, hmin⟩
      · rintro ⟨k1, k2, k3⟩
        rcases Nat.lt_trichotomy (((List.range m).map u).idxOf (u b)) k with c | c | c
        · exact absurd hget (k3 _ c)
        · exact c
        · exact absurd k2 (hmin _ c)
    have asc : B.Pairwise (· < ·) := by rw [hB]; exact List.Pairwise.sublist List.filter_sublist List.pairwise_lt_range
    have bm : ∀ {t : Nat} (h : t < B.length), B[t] < m := fun {t} h => by
      have : B[t] ∈ (List.range m).filter π := hB ▸ List.getElem_mem h
      exact List.mem_range.mp (List.mem_filter.mp this).1
    have bπ : ∀ {t : Nat} (h : t < B.length), π B[t] = true := fun {t} h => (memB (bm h)).mp (List.getElem_mem h)
    have mono : ∀ {s t : Nat} (h1 : s < B.length) (h2 : t < B.length), (B[s] < B[t] ↔ s < t) := fun {s t} h1 h2 => by
      rw [List.pairwise_iff_getElem] at asc
      rcases Nat.lt_trichotomy s t with c | c | c
      · exact ⟨fun _ => c, fun _ => asc _ _ h1 h2 c⟩
      · subst c; exact ⟨fun z => absurd z (Nat.lt_irrefl _), fun z => absurd z (Nat.lt_irrefl _)⟩
      · have := asc _ _ h2 h1 c
        exact ⟨fun z => by omega, fun z => by omega⟩
    -- a first within the part
    have loc : ∀ {δ : Type} [DecidableEq δ] (u : Nat → δ), (∀ a < m, ∀ b < m, π a = true → π b = false → u a ≠ u b) → ∀ t (h : t < B.length), ∃ s, ∃ hs : s < B.length, (B.map u).idxOf (u B[t]) = s ∧ ((List.range m).map u).idxOf (u B[t]) = B[s] := fun {δ _} u hu t ht => by
      have hm : u B[t] ∈ B.map u := List.mem_map.mpr ⟨_, List.getElem_mem ht, rfl⟩
      have hlt := ix_lt hm
      rw [List.length_map] at hlt
      refine ⟨_, hlt, rfl, (glo u _ (bm ht) _).mpr ⟨bm hlt, ?_, fun c hc z => ?_⟩⟩
      · have hget := List.getElem_idxOf (ix_lt hm)
        rw [List.getElem_map] at hget
        exact hget
      · have hcm : c < m := Nat.lt_trans hc (bm hlt)
        have hcB : c ∈ B := (memB hcm).mpr (by
          cases q : π c with
          | true => rfl
          | false => exact absurd z.symm (hu _ (bm ht) _ hcm (bπ ht) q))
        obtain ⟨s, hs, rfl⟩ := List.getElem_of_mem hcB
        have hst : s < (B.map u).idxOf (u B[t]) := (mono hs hlt).mp hc
        have h2 := List.not_of_lt_findIdx (p := (· == u B[t])) (xs := B.map u) (i := s) hst
        rw [List.getElem_map, z] at h2
        simp at h2
    rw [List.lt_iff_exists] at r' ⊢
    rcases r' with ⟨_, z⟩ | ⟨b, hb1, hb2, heq, hlt⟩
    · rw [fstF_len, fstF_len, lm, lm] at z; omega
    · refine .inr ?_
      rw [fstF_len, lm] at hb1
      have ga : ∀ {δ : Type} [DecidableEq δ] (u : Nat → δ) (c : Nat) (h : c < (fstF ((List.range m).map u)).length), (fstF ((List.range m).map u))[c] = ((List.range m).map u).idxOf (u c) := fun {δ _} u c h => by
        simp [fstF]
      have gb : ∀ {δ : Type} [DecidableEq δ] (u : Nat → δ) (c : Nat) (h : c < (fstF (B.map u)).length) (hc : c < B.length), (fstF (B.map u))[c] = (B.map u).idxOf (u B[c]) := fun {δ _} u c h hc => by
        simp [fstF]
      rw [ga, ga] at hlt
      have heq' : ∀ c < b, ((List.range m).map f).idxOf (f c) = ((List.range m).map g).idxOf (g c) := fun c hc => by
        have := heq c hc
        rw [ga, ga] at this
        exact this
      have hbB : π b = true := by
        cases q : π b with
        | true => rfl
        | false =>
          refine absurd hlt (Nat.not_lt.mpr (Nat.le_of_eq ?_))
          symm
          refine (glo f b hb1 _).mpr ?_
          obtain ⟨k1, k2, k3⟩ := (glo g b hb1 _).mp rfl
          have πk : ∀ c, c < m → g c = g b → π c = false := fun c hc z => by
            cases w : π c with
            | false => rfl
            | true => exact absurd z (hg c hc b hb1 w q)
          refine ⟨k1, (hout _ k1 _ hb1 (πk _ k1 k2) q).mpr k2, fun c hc z => ?_⟩
          have hcm := Nat.lt_trans hc k1
          have : π c = false := by
            cases w : π c with
            | false => rfl
            | true => exact absurd z (hf c hcm b hb1 w q)
          exact k3 c hc ((hout _ hcm _ hb1 this q).mp z)
      obtain ⟨t, ht, rfl⟩ := List.getElem_of_mem ((memB hb1).mpr hbB)
      refine ⟨t, by rw [fstF_len, List.length_map]; exact ht, by rw [fstF_len, List.length_map]; exact ht, fun s hs => ?_, ?_⟩
      · have hsl : s < B.length := Nat.lt_trans hs ht
        rw [gb f s _ hsl, gb g s _ hsl]
        obtain ⟨s1, p1, q1, w1⟩ := loc f hf s hsl
        obtain ⟨s2, p2, q2, w2⟩ := loc g hg s hsl
        have := heq' B[s] ((mono hsl ht).mpr hs)
        rw [w1, w2] at this
        rw [q1, q2]
        rcases Nat.lt_trichotomy s1 s2 with c | c | c
        · have := (mono p1 p2).mpr c; omega
        · exact c
        · have := (mono p2 p1).mpr c; omega
      · rw [gb f t _ ht, gb g t _ ht]
        obtain ⟨s1, p1, q1, w1⟩ := loc f hf t ht
        obtain ⟨s2, p2, q2, w2⟩ := loc g hg t ht
        rw [w1, w2] at hlt
        rw [q1, q2]
        exact (mono p1 p2).mp hlt
def labG (place : Nat → Nat) (B : Nat → List Nat) (Gs : Nat → List Nat) (b : Nat) : Nat × Nat := (place b, atG (Gs (place b)) ((B (place b)).idxOf b))
def bestG (m : Nat) (place : Nat → Nat) (B : Nat → List Nat) (Gs : Nat → List Nat) : List Nat := numF ((List.range m).map (labG place B Gs))
structure BestOf (n : Nat) (ps : List Pr) (as : List Apt) (g : List Nat) : Prop where
  rg : g ∈ rgs n
  kp : keepG as g
  le : ∀ h ∈ rgs n, keepG as h → ¬ keyG ps h < keyG ps g
theorem BestOf.uniq {n : Nat} {ps : List Pr} {as : List Apt} {g h : List Nat} (a : BestOf n ps as g) (b : BestOf n ps as h) : g = h := keyG_inj (b.le _ a.rg a.kp) (a.le _ b.rg b.kp)
theorem keep_num {n : Nat} {f : Nat → β} {as : List Apt} (ha : ∀ a ∈ as, a.1 < n ∧ a.2 < n) (h : ∀ a ∈ as, f a.1 ≠ f a.2) : keepG as (numF ((List.range n).map f)) := fun a hm => by
  obtain ⟨h1, h2⟩ := ha a hm
  refine fun z => h a hm ?_
  exact (num_eq ((List.range n).map f) (by rw [List.getElem?_map, List.getElem?_range h1]; rfl) (by rw [List.getElem?_map, List.getElem?_range h2]; rfl)).mp z
theorem ix_get {B : List Nat} (hn : B.Nodup) {i : Nat} (h : i < B.length) : B.idxOf B[i] = i := by
  have hl := ix_lt (List.getElem_mem h)
  have h1 := List.getElem_idxOf hl
  unfold List.Nodup at hn
  rw [List.pairwise_iff_getElem] at hn
  rcases Nat.lt_trichotomy (B.idxOf B[i]) i with c | c | c
  · exact absurd h1 (hn _ _ hl h c)
  · exact c
  · exact absurd h1.symm (hn _ _ h hl c)
theorem map_idx {B : List Nat} {g : List Nat} (hn : B.Nodup) (hl : g.length = B.length) : B.map (fun b => atG g (B.idxOf b)) = g := by
  refine List.ext_getElem? fun i => ?_
  rw [List.getElem?_map]
  by_cases hi : i < B.length
  · rw [List.getElem?_eq_getElem hi]
    show some (atG g (B.idxOf B[i])) = _
    rw [ix_get hn hi]
    unfold atG
    rw [List.getD_eq_getElem?_getD, List.getElem?_eq_getElem (by omega)]; rfl
  · rw [List.getElem?_eq_none (by omega), List.getElem?_eq_none (by omega)]; rfl
theorem best_parts {m n : Nat} {ps : List Pr} {as : List Apt} {place : Nat → Nat} {B : Nat → List Nat} {Gs : Nat → List Nat} (hin : ∀ p ∈ ps, p.1 < m ∧ p.2.1 < m) (ha : ∀ a ∈ as, a.1 < m ∧ a.2 < m) (hl : ∀ p ∈ ps, 0 < p.2.2 → place p.1 = place p.2.1 ∨ (p.1, p.2.1) ∈ as)
    (hp : ∀ b < m, place b < n) (hB : ∀ k < n, B k = (List.range m).filter fun b => decide (place b = k)) (hG : ∀ k < n, BestOf (B k).length (inP (B k) ps) (inA (B k) as) (Gs k)) : BestOf m ps as (bestG m place B Gs) := by
  have hnd : ∀ k < n, (B k).Nodup := fun k hk => by rw [hB k hk]; exact List.Nodup.sublist List.filter_sublist List.nodup_range
  have hmem : ∀ k < n, ∀ b < m, (b ∈ B k ↔ place b = k) := fun k hk b hb => by
    rw [hB k hk, List.mem_filter, List.mem_range, decide_eq_true_eq]; exact ⟨fun z => z.2, fun z => ⟨hb, z⟩⟩
  refine ⟨?_, ?_, fun h hh hk => ?_⟩
  · have := num_rgs ((List.range m).map (labG place B Gs))
    rw [List.length_map, List.length_range] at this
    exact this
  · refine keep_num ha fun a hm z => ?_
    obtain ⟨h1, h2⟩ := ha a hm
    unfold labG at z
    rw [Prod.mk.injEq] at z
    obtain ⟨z1, z2⟩ := z
    rw [← z1] at z2
    have hk := hp a.1 h1
    have b1 := (hmem _ hk _ h1).mpr rfl
    have b2 := (hmem _ hk _ h2).mpr z1.symm
    exact (hG _ hk).kp ((B (place a.1)).idxOf a.1, (B (place a.1)).idxOf a.2) (List.mem_map.mpr ⟨a, List.mem_filter.mpr ⟨hm, by unfold inB; rw [decide_eq_true b1, decide_eq_true b2]; rfl⟩, rfl⟩) z2
  · -- part after part takes its best grouping
    let fk : Nat → Nat → Nat × Nat := fun k b => if place b < k then labG place B Gs b else (place b, atG h b)
    have step : ∀ k, k ≤ n → ¬ keyG ps h < keyG ps (numF ((List.range m).map (fk k))) := by
      intro k
      induction k with
      | zero =>
        intro _
        have : (List.range m).map (fk 0) = (List.range m).map fun b => (place b, atG h b) := List.map_congr_left fun b _ => if_neg (Nat.not_lt_zero _)
        rw [this]
        exact refine_le hh hk hin hl
      | succ k ih =>
        intro hkn
        have hkn' : k < n := hkn
        have h1 := ih (Nat.le_of_lt hkn)
        have f0 : ∀ b, place b ≠ k → fk (k + 1) b = fk k b := fun b hb => by
          show (if place b < k + 1 then _ else _) = if place b < k then _ else _
          by_cases c : place b < k
          · rw [if_pos c, if_pos (by omega)]
          · rw [if_neg c, if_neg (by omega)]
        have fst1 : ∀ j b, (fk j b).1 = place b := fun j b => by
          show (if place b < j then labG place B Gs b else (place b, atG h b)).1 = _
          split <;> rfl
        have sep : ∀ j, ∀ a < m, ∀ b < m, decide (place a = k) = true → decide (place b = k) = false → fk j a ≠ fk j b := fun j a _ b _ c1 c2 z => by
          have := congrArg Prod.fst z
          rw [fst1, fst1] at this
          rw [decide_eq_true_eq] at c1
          rw [decide_eq_false_iff_not] at c2
          omega
        have h2 : ¬ keyG ps (numF ((List.range m).map (fk k))) < keyG ps (numF ((List.range m).map (fk (k + 1)))) := by
          refine step_le (B := B k) (π := fun b => decide (place b = k)) hin (hB k hkn') (fun a _ b _ c1 c2 => ?_) (sep k) (sep (k + 1)) ?_
          · rw [decide_eq_false_iff_not] at c1 c2
            rw [f0 a c1, f0 b c2]
          · have hb : ∀ b ∈ B k, place b = k := fun b hb => by
              rw [hB k hkn'] at hb
              exact of_decide_eq_true (List.mem_filter.mp hb).2
            have e1 : numF ((B k).map (fk k)) = numF ((B k).map (atG h)) := num_ker _ _ _ fun a ha b hb' => by
              show (if place a < k then _ else _) = (if place b < k then _ else _) ↔ _
              rw [if_neg (by rw [hb a ha]; omega), if_neg (by rw [hb b hb']; omega), hb a ha, hb b hb', Prod.mk.injEq]
              exact ⟨fun z => z.2, fun z => ⟨rfl, z⟩⟩
            have e2 : numF ((B k).map (fk (k + 1))) = Gs k := by
              have : numF ((B k).map (fk (k + 1))) = numF ((B k).map fun b => atG (Gs k) ((B k).idxOf b)) := num_ker _ _ _ fun a ha b hb' => by
                show (if place a < k + 1 then _ else _) = (if place b < k + 1 then _ else _) ↔ _
                rw [if_pos (by rw [hb a ha]; omega), if_pos (by rw [hb b hb']; omega)]
                unfold labG
                rw [hb a ha, hb b hb', Prod.mk.injEq]
                exact ⟨fun z => z.2, fun z => ⟨rfl, z⟩⟩
              rw [this, map_idx (hnd k hkn') (rgs_len (hG k hkn').rg), rgs_num (hG k hkn').rg]
            rw [e1, e2]
            have hr := num_rgs ((B k).map (atG h))
            rw [List.length_map] at hr
            refine (hG k hkn').le _ hr fun a hm => ?_
            obtain ⟨c, hc, rfl⟩ := List.mem_map.mp hm
            obtain ⟨hc1, hc2⟩ := List.mem_filter.mp hc
            obtain ⟨b1, b2⟩ : c.1 ∈ B k ∧ c.2 ∈ B k := by
              unfold inB at hc2
              rw [Bool.and_eq_true, decide_eq_true_eq, decide_eq_true_eq] at hc2
              exact hc2
            intro z
            exact hk c hc1 ((num_eq ((B k).map (atG h)) (by rw [List.getElem?_map, ix_at b1]; rfl) (by rw [List.getElem?_map, ix_at b2]; rfl)).mp z)
        exact fun z => h2 (List.lt_of_le_of_lt (List.not_lt.mp h1) z)
    have := step n (Nat.le_refl _)
    have e : (List.range m).map (fk n) = (List.range m).map (labG place B Gs) := List.map_congr_left fun b hb => if_pos (hp b (List.mem_range.mp hb))
    rw [e] at this
    exact this
end
end L2

namespace L2
theorem snoc_ind {α : Type} {P : List α → Prop} (h0 : P []) (hs : ∀ xs x, P xs → P (xs ++ [x])) (xs : List α) : P xs := by
  have : ∀ ys : List α, P ys.reverse := by
    intro ys
    induction ys with
    | nil => exact h0
    | cons y ys ih => rw [List.reverse_cons]; exact hs _ _ ih
  have := this xs.reverse
  rwa [List.reverse_reverse] at this
section
variable {α β γ : Type} [DecidableEq α] [DecidableEq β] [DecidableEq γ] {f : α → β} {g : α → γ} {xs : List α} {x : α}
def hdStep (f : α → β) (acc : List α) (x : α) : List α := if (acc.any fun y => decide (f y = f x)) = true then acc else acc ++ [x]
def heads (f : α → β) (xs : List α) : List α := xs.foldl (hdStep f) []
theorem heads_snoc : heads f (xs ++ [x]) = hdStep f (heads f xs) x := by unfold heads; rw [List.foldl_append]; rfl
theorem heads_val (v : β) : (∃ y ∈ heads f xs, f y = v) ↔ ∃ y ∈ xs, f y = v := by
  induction xs using snoc_ind with
  | h0 => simp [heads]
  | hs xs x ih =>
    rw [heads_snoc]
    unfold hdStep
    split
    · rename_i h
      rw [List.any_eq_true] at h
      obtain ⟨y, hy, e⟩ := h
      have e := of_decide_eq_true e
      rw [ih]
      constructor
      · rintro ⟨z, hz, ez⟩; exact ⟨z, List.mem_append_left _ hz, ez⟩
      · rintro ⟨z, hz, ez⟩
        rcases List.mem_append.mp hz with hz | hz
        · exact ⟨z, hz, ez⟩
        · rw [List.mem_singleton.mp hz] at ez
          exact ih.mp ⟨y, hy, e.trans ez⟩
    · constructor
      · rintro ⟨z, hz, ez⟩
        rcases List.mem_append.mp hz with hz | hz
        · obtain ⟨w, hw, ew⟩ := ih.mp ⟨z, hz, ez⟩
          exact ⟨w, List.mem_append_left _ hw, ew⟩
        · exact ⟨z, List.mem_append_right _ hz, ez⟩
      · rintro ⟨z, hz, ez⟩
        rcases List.mem_append.mp hz with hz | hz
        · obtain ⟨w, hw, ew⟩ := ih.mpr ⟨z, hz, ez⟩
          exact ⟨w, List.mem_append_left _ hw, ew⟩
        · exact ⟨z, List.mem_append_right _ hz, ez⟩
theorem heads_sub {y : α} : y ∈ heads f xs → y ∈ xs := by
  induction xs using snoc_ind with
  | h0 => exact fun h => h
  | hs xs x ih =>
    rw [heads_snoc]
    unfold hdStep
    split
    · exact fun h => List.mem_append_left _ (ih h)
    · intro h
      rcases List.mem_append.mp h with h | h
      · exact List.mem_append_left _ (ih h)
      · exact List.mem_append_right _ h
theorem heads_nd : ((heads f xs).map f).Nodup := by
  induction xs using snoc_ind with
  | h0 => exact List.nodup_nil
  | hs xs x ih =>
    rw [heads_snoc]
    unfold hdStep
    split
    · exact ih
    · rename_i h
      rw [List.map_append]
      refine List.nodup_append.mpr ⟨ih, by simp, fun a ha b hb e => h ?_⟩
      obtain ⟨y, hy, ey⟩ := List.mem_map.mp ha
      have hb : b = f x := by simpa using hb
      rw [List.any_eq_true]
      exact ⟨y, hy, decide_eq_true (ey.trans (e.trans hb))⟩
def partsF (f : α → β) (xs : List α) : List (List α) := (heads f xs).map fun h => xs.filter fun t => decide (f t = f h)
def SameK (xs : List α) (f : α → β) (g : α → γ) : Prop := ∀ a ∈ xs, ∀ b ∈ xs, (f a = f b ↔ g a = g b)
theorem heads_congr (h : SameK xs f g) : heads f xs = heads g xs := by
  induction xs using snoc_ind with
  | h0 => rfl
  | hs xs x ih =>
    rw [heads_snoc, heads_snoc, ih fun a ha b hb => h a (List.mem_append_left _ ha) b (List.mem_append_left _ hb)]
    unfold hdStep
    have : ((heads g xs).any fun y => decide (f y = f x)) = (heads g xs).any fun y => decide (g y = g x) := by
      rw [Bool.eq_iff_iff, List.any_eq_true, List.any_eq_true]
      simp only [decide_eq_true_eq]
      constructor
      · rintro ⟨y, hy, e⟩; exact ⟨y, hy, (h y (List.mem_append_left _ (heads_sub hy)) x (by simp)).mp e⟩
      · rintro ⟨y, hy, e⟩; exact ⟨y, hy, (h y (List.mem_append_left _ (heads_sub hy)) x (by simp)).mpr e⟩
    rw [this]
theorem partsF_congr (h : SameK xs f g) : partsF f xs = partsF g xs := by
  unfold partsF
  rw [heads_congr h]
  refine List.map_congr_left fun y hy => List.filter_congr fun t ht => ?_
  rw [Bool.eq_iff_iff, decide_eq_true_eq, decide_eq_true_eq]
  exact h t ht y (heads_sub hy)
theorem partsF_len : (partsF f xs).length ≤ xs.length := by
  unfold partsF
  rw [List.length_map]
  induction xs using snoc_ind with
  | h0 => exact Nat.le_refl _
  | hs xs x ih =>
    rw [heads_snoc]
    unfold hdStep
    split <;> simp <;> omega
def stepF (k l : β) (f : α → β) : α → β := fun t => if f t = l then k else f t
theorem step_ker {k l : β} {x y a b : α} (h : (k = f x ∧ l = f y) ∨ (k = f y ∧ l = f x)) : stepF k l f a = stepF k l f b ↔ f a = f b ∨ ((f a = f x ∨ f a = f y) ∧ (f b = f x ∨ f b = f y)) := by
  unfold stepF
  rcases h with ⟨rfl, rfl⟩ | ⟨rfl, rfl⟩
  · by_cases h1 : f a = f y <;> by_cases h2 : f b = f y <;> simp [h1, h2]
    · constructor
      · intro e; exact .inr e.symm
      · rintro (e | e)
        · exact absurd e.symm h2
        · exact e.symm
    · intro e e2; exact e.trans e2.symm
  · by_cases h1 : f a = f x <;> by_cases h2 : f b = f x <;> simp [h1, h2]
    · constructor
      · intro e; exact .inr e.symm
      · rintro (e | e)
        · exact absurd e.symm h2
        · exact e.symm
    · intro e e2; exact e.trans e2.symm
variable {enc : α → D} {encB : β → D}
def dA (enc : α → D) (encB : β → D) (xs : List α) (f : α → β) : DD := xs.map fun t => (enc t, encB (f t))
theorem valD_in (hi : ∀ a b, enc a = enc b → a = b) (h : x ∈ xs) : valD (dA enc encB xs f) (enc x) = some (encB (f x)) := by
  induction xs with
  | nil => cases h
  | cons y ys ih =>
    by_cases e : y = x
    · subst e; simp [valD, dA]
    · have e2 : enc y ≠ enc x := fun z => e (hi _ _ z)
      have : valD (dA enc encB (y :: ys) f) (enc x) = valD (dA enc encB ys f) (enc x) := by simp [valD, dA, List.find?_cons, e2]
      rw [this]
      rcases List.mem_cons.mp h with z | z
      · exact absurd z.symm e
      · exact ih z
theorem valD_out (hi : ∀ a b, enc a = enc b → a = b) (h : x ∉ xs) : valD (dA enc encB xs f) (enc x) = none := by
  induction xs with
  | nil => rfl
  | cons y ys ih =>
    have e2 : enc y ≠ enc x := fun z => h (by rw [hi _ _ z]; exact List.mem_cons_self)
    have : valD (dA enc encB (y :: ys) f) (enc x) = valD (dA enc encB ys f) (enc x) := by simp [valD, dA, List.find?_cons, e2]
    rw [this]
    exact ih fun z => h (List.mem_cons_of_mem _ z)
theorem dA_any (hi : ∀ a b, enc a = enc b → a = b) : ((dA enc encB xs f).any fun kv => decide (kv.1 = enc x)) = true ↔ x ∈ xs := by
  rw [List.any_eq_true]
  constructor
  · rintro ⟨kv, hkv, e⟩
    obtain ⟨y, hy, rfl⟩ := List.mem_map.mp hkv
    rw [← hi _ _ (of_decide_eq_true e)]; exact hy
  · intro h; exact ⟨_, List.mem_map.mpr ⟨x, h, rfl⟩, by simp⟩
theorem putD_in (hi : ∀ a b, enc a = enc b → a = b) (h : x ∈ xs) (v : β) : putD (dA enc encB xs f) (enc x) (encB v) = dA enc encB xs (fun u => if u = x then v else f u) := by
  unfold putD
  rw [if_pos ((dA_any hi).mpr h)]
  unfold dA
  rw [List.map_map]
  refine List.map_congr_left fun u _ => ?_
  show (if enc u = enc x then (enc u, encB v) else (enc u, encB (f u))) = (enc u, encB (if u = x then v else f u))
  by_cases e : u = x
  · rw [if_pos (by rw [e]), if_pos e]
  · rw [if_neg fun z => e (hi _ _ z), if_neg e]
theorem putD_new (hi : ∀ a b, enc a = enc b → a = b) (h : x ∉ xs) : putD (dA enc encB xs f) (enc x) (encB (f x)) = dA enc encB (xs ++ [x]) f := by
  unfold putD
  rw [if_neg fun z => h ((dA_any hi).mp z)]
  unfold dA
  rw [List.map_append]
  rfl
theorem dA_congr {g : α → β} (h : ∀ a ∈ xs, f a = g a) : dA enc encB xs f = dA enc encB xs g := by
  unfold dA
  exact List.map_congr_left fun a ha => by rw [h a ha]
def grpD (enc : α → D) (encB : β → D) (f : α → β) (xs : List α) : List (D × List D) := (heads f xs).map fun h => (encB (f h), (xs.filter fun t => decide (f t = f h)).map enc)
theorem appD_in (hi : ∀ a b, encB a = encB b → a = b) {F : α → List D} {d : D} : ∀ {hs : List α}, (hs.map f).Nodup → (∃ h ∈ hs, f h = f x) → appD (hs.map fun h => (encB (f h), F h)) (encB (f x)) d = hs.map fun h => (encB (f h), if f h = f x then F h ++ [d] else F h)
  | [], _, h => by obtain ⟨_, h, _⟩ := h; cases h
  | y :: ys, hn, h => by
    rw [List.map_cons, List.map_cons, appD]
    rw [List.map_cons, List.nodup_cons] at hn
    by_cases e : f y = f x
    · rw [if_pos (by show encB (f y) = encB (f x); rw [e]), if_pos e]
      congr 1
      refine List.map_congr_left fun z hz => ?_
      have : f z ≠ f x := fun w => hn.1 (by rw [e, ← w]; exact List.mem_map_of_mem hz)
      rw [if_neg this]
    · rw [if_neg (fun z => e (hi _ _ z)), if_neg e]
      congr 1
      refine appD_in hi hn.2 ?_
      obtain ⟨z, hz, ez⟩ := h
      rcases List.mem_cons.mp hz with rfl | hz
      · exact absurd ez e
      · exact ⟨z, hz, ez⟩
theorem appD_out (hi : ∀ a b, encB a = encB b → a = b) {F : α → List D} {d : D} : ∀ {hs : List α}, (∀ h ∈ hs, f h ≠ f x) → appD (hs.map fun h => (encB (f h), F h)) (encB (f x)) d = (hs.map fun h => (encB (f h), F h)) ++ [(encB (f x), [d])]
  | [], _ => rfl
  | y :: ys, h => by
    rw [List.map_cons, appD, if_neg (fun z => h y List.mem_cons_self (hi _ _ z)), appD_out hi fun z hz => h z (List.mem_cons_of_mem _ hz)]
    rfl
theorem appD_grp (hi : ∀ a b, encB a = encB b → a = b) : appD (grpD enc encB f xs) (encB (f x)) (enc x) = grpD enc encB f (xs ++ [x]) := by
  unfold grpD
  rw [heads_snoc]
  unfold hdStep
  have ef : ∀ h, ((xs ++ [x]).filter fun t => decide (f t = f h)).map enc = if f h = f x then (xs.filter fun t => decide (f t = f h)).map enc ++ [enc x] else (xs.filter fun t => decide (f t = f h)).map enc := fun h => by
    rw [List.filter_append]
    by_cases e : f h = f x
    · rw [if_pos e, List.filter_cons_of_pos (by simp [e]), List.filter_nil, List.map_append]; rfl
    · rw [if_neg e, List.filter_cons_of_neg (by simp; exact fun z => e z.symm), List.filter_nil, List.append_nil]
  split
  · rename_i h
    rw [List.any_eq_true] at h
    obtain ⟨y, hy, e⟩ := h
    rw [appD_in hi heads_nd ⟨y, hy, of_decide_eq_true e⟩]
    exact List.map_congr_left fun h _ => by rw [ef]
  · rename_i h
    have hno : ∀ y ∈ heads f xs, f y ≠ f x := fun y hy e => h (by rw [List.any_eq_true]; exact ⟨y, hy, decide_eq_true e⟩)
    rw [appD_out hi hno, List.map_append]
    congr 1
    · exact List.map_congr_left fun h hh => by rw [ef, if_neg (hno h hh)]
    · rw [List.map_singleton, ef, if_pos rfl]
      have : (xs.filter fun t => decide (f t = f x)) = [] := by
        rw [List.filter_eq_nil_iff]
        intro t ht e
        obtain ⟨z, hz, ez⟩ := (heads_val (f := f) (xs := xs) (f x)).mpr ⟨t, ht, of_decide_eq_true e⟩
        exact hno z hz ez
      rw [this]; rfl
theorem grpD_vals : ((grpD enc encB f xs).map fun q => D.lst q.2) = (partsF f xs).map fun p => D.lst (p.map enc) := by
  unfold grpD partsF
  rw [List.map_map, List.map_map]
  rfl
theorem grpD_len : (grpD enc encB f xs).length ≤ xs.length := by
  have := partsF_len (f := f) (xs := xs)
  unfold partsF at this
  unfold grpD
  simpa using this
theorem grpD_item {q : D × List D} (h : q ∈ grpD enc encB f xs) : q.2.length ≤ xs.length := by
  unfold grpD at h
  obtain ⟨y, _, rfl⟩ := List.mem_map.mp h
  rw [List.length_map]
  exact List.length_filter_le ..
end
end L2

namespace L2
theorem min_ex {α : Type} (key : α → List Int) : ∀ {xs : List α}, xs ≠ [] → ∃ x ∈ xs, ∀ y ∈ xs, ¬ key y < key x
  | [], h => absurd rfl h
  | [x], _ => ⟨x, List.mem_cons_self, fun y hy => by rw [List.mem_singleton.mp hy]; exact List.lt_irrefl _⟩
  | x :: y :: r, _ => by
    obtain ⟨z, hz, hm⟩ := min_ex key (xs := y :: r) (List.cons_ne_nil _ _)
    by_cases c : key x < key z
    · refine ⟨x, List.mem_cons_self, fun u hu => ?_⟩
      rcases List.mem_cons.mp hu with rfl | hu
      · exact List.lt_irrefl _
      · exact fun q => hm u hu (List.lt_trans q c)
    · refine ⟨z, List.mem_cons_of_mem _ hz, fun u hu => ?_⟩
      rcases List.mem_cons.mp hu with rfl | hu
      · exact c
      · exact hm u hu
theorem range_rg (n : Nat) : numF (List.range n) ∈ rgs n := by
  have := num_rgs (List.range n)
  rw [List.length_range] at this
  exact this
theorem range_kp {n : Nat} {as : List Apt} (h : ∀ a ∈ as, a.1 < n ∧ a.2 < n ∧ a.1 ≠ a.2) : keepG as (numF (List.range n)) := by
  have := keep_num (n := n) (f := id) (as := as) (fun a ha => ⟨(h a ha).1, (h a ha).2.1⟩) fun a ha => (h a ha).2.2
  rw [List.map_id] at this
  exact this
theorem best_ex {n : Nat} (ps : List Pr) {as : List Apt} (h : ∀ a ∈ as, a.1 < n ∧ a.2 < n ∧ a.1 ≠ a.2) : ∃ g, BestOf n ps as g := by
  have hm : numF (List.range n) ∈ (rgs n).filter fun g => decide (keepG as g) := List.mem_filter.mpr ⟨range_rg n, decide_eq_true (range_kp h)⟩
  obtain ⟨g, hg, hl⟩ := min_ex (keyG ps) (List.ne_nil_of_mem hm)
  obtain ⟨g1, g2⟩ := List.mem_filter.mp hg
  exact ⟨g, g1, of_decide_eq_true g2, fun h h1 h2 => hl h (List.mem_filter.mpr ⟨h1, decide_eq_true h2⟩)⟩
open Classical in
noncomputable def bestP (n : Nat) (ps : List Pr) (as : List Apt) : List Nat := if h : ∃ g, BestOf n ps as g then choose h else []
theorem bestP_ok {n : Nat} {ps : List Pr} {as : List Apt} (h : ∀ a ∈ as, a.1 < n ∧ a.2 < n ∧ a.1 ≠ a.2) : BestOf n ps as (bestP n ps as) := by
  have hx := best_ex ps h
  unfold bestP
  rw [dif_pos hx]
  exact Classical.choose_spec hx
theorem bestP_eq {n : Nat} {ps : List Pr} {as : List Apt} {g : List Nat} (h : BestOf n ps as g) : bestP n ps as = g := by
  have hx : ∃ g, BestOf n ps as g := ⟨g, h⟩
  have : BestOf n ps as (bestP n ps as) := by
    unfold bestP
    rw [dif_pos hx]
    exact Classical.choose_spec hx
  exact this.uniq h
def GoodB (n : Nat) (ps : List Pr) (as : List Apt) : Prop := (∀ p ∈ ps, p.1 < n ∧ p.2.1 < n) ∧ ∀ a ∈ as, a.1 < n ∧ a.2 < n ∧ a.1 ≠ a.2
theorem ix_inj {B : List Nat} {i j : Nat} (hi : i ∈ B) (hj : j ∈ B) (h : B.idxOf i = B.idxOf j) : i = j := by
  have h1 := ix_at hi
  rw [h, ix_at hj] at h1
  injection h1 with h1
  exact h1.symm
theorem inB_iff {B : List Nat} {i j : Nat} : inB B i j = true ↔ i ∈ B ∧ j ∈ B := by
  unfold inB
  rw [Bool.and_eq_true, decide_eq_true_eq, decide_eq_true_eq]
theorem good_in {m : Nat} {ps : List Pr} {as : List Apt} (h : GoodB m ps as) (B : List Nat) : GoodB B.length (inP B ps) (inA B as) := by
  refine ⟨fun p hp => ?_, fun a ha => ?_⟩
  · obtain ⟨q, hq, rfl⟩ := List.mem_map.mp hp
    obtain ⟨b1, b2⟩ := inB_iff.mp (List.mem_filter.mp hq).2
    exact ⟨ix_lt b1, ix_lt b2⟩
  · obtain ⟨q, hq, rfl⟩ := List.mem_map.mp ha
    obtain ⟨q1, q2⟩ := List.mem_filter.mp hq
    obtain ⟨b1, b2⟩ := inB_iff.mp q2
    exact ⟨ix_lt b1, ix_lt b2, fun z => (h.2 q q1).2.2 (ix_inj b1 b2 z)⟩
section
variable {f : Nat → Nat} {m : Nat}
def plc (f : Nat → Nat) (m b : Nat) : Nat := ((heads f (List.range m)).map f).idxOf (f b)
def prt (f : Nat → Nat) (m k : Nat) : List Nat := (partsF f (List.range m)).getD k []
theorem plc_lt {b : Nat} (h : b < m) : plc f m b < (partsF f (List.range m)).length := by
  have : f b ∈ (heads f (List.range m)).map f := by
    obtain ⟨y, hy, e⟩ := (heads_val (f := f) (xs := List.range m) (f b)).mpr ⟨b, List.mem_range.mpr h, rfl⟩
    exact List.mem_map.mpr ⟨y, hy, e⟩
  have := ix_lt this
  unfold partsF
  rw [List.length_map] at this ⊢
  exact this
theorem plc_iff {b k : Nat} (hb : b < m) {y : Nat} (hy : (heads f (List.range m))[k]? = some y) : f b = f y ↔ plc f m b = k := by
  have hnd := heads_nd (f := f) (xs := List.range m)
  have hyk : ((heads f (List.range m)).map f)[k]? = some (f y) := by rw [List.getElem?_map, hy]; rfl
  have hk := (List.getElem?_eq_some_iff.mp hyk)
  unfold plc
  constructor
  · intro e
    rw [e, ← hk.2]
    exact ix_get hnd hk.1
  · intro e
    have hm : f b ∈ (heads f (List.range m)).map f := by
      obtain ⟨z, hz, e⟩ := (heads_val (f := f) (xs := List.range m) (f b)).mpr ⟨b, List.mem_range.mpr hb, rfl⟩
      exact List.mem_map.mpr ⟨z, hz, e⟩
    have := List.getElem_idxOf (ix_lt hm)
    rw [← this, ← hk.2]
    exact getElem_congr rfl e _
theorem prt_eq {k : Nat} (h : k < (partsF f (List.range m)).length) : prt f m k = (List.range m).filter fun b => decide (plc f m b = k) := by
  have h' : k < (heads f (List.range m)).length := by unfold partsF at h; rw [List.length_map] at h; exact h
  unfold prt partsF
  rw [List.getD_eq_getElem?_getD, List.getElem?_map, List.getElem?_eq_getElem h']
  show (List.range m).filter _ = _
  refine List.filter_congr fun b hb => ?_
  rw [Bool.eq_iff_iff, decide_eq_true_eq, decide_eq_true_eq]
  exact plc_iff (List.mem_range.mp hb) (List.getElem?_eq_getElem h')
theorem prt_mem {k b : Nat} (hk : k < (partsF f (List.range m)).length) : b ∈ prt f m k ↔ b < m ∧ plc f m b = k := by
  rw [prt_eq hk, List.mem_filter, List.mem_range, decide_eq_true_eq]
theorem prt_nd {k : Nat} (hk : k < (partsF f (List.range m)).length) : (prt f m k).Nodup := by
  rw [prt_eq hk]; exact List.Nodup.sublist List.filter_sublist List.nodup_range
noncomputable def grsM (f : Nat → Nat) (m : Nat) (ps : List Pr) (as : List Apt) (k : Nat) : List Nat := bestP (prt f m k).length (inP (prt f m k) ps) (inA (prt f m k) as)
noncomputable def labM (f : Nat → Nat) (m : Nat) (ps : List Pr) (as : List Apt) : Nat → Nat × Nat := labG (plc f m) (prt f m) (grsM f m ps as)
noncomputable def bestM (f : Nat → Nat) (m : Nat) (ps : List Pr) (as : List Apt) : List Nat := numF ((List.range m).map (labM f m ps as))
theorem bestM_ok {ps : List Pr} {as : List Apt} (hg : GoodB m ps as) (hl : ∀ p ∈ ps, 0 < p.2.2 → f p.1 = f p.2.1 ∨ (p.1, p.2.1) ∈ as) : BestOf m ps as (bestM f m ps as) :=
  best_parts (n := (partsF f (List.range m)).length) (B := prt f m) (Gs := grsM f m ps as) hg.1 (fun a ha => ⟨(hg.2 a ha).1, (hg.2 a ha).2.1⟩) (fun p hp hw => (hl p hp hw).imp (fun e => by unfold plc; rw [e]) id) (fun b hb => plc_lt hb) (fun k hk => prt_eq hk) fun k hk => bestP_ok (good_in hg _).2
end
end L2

namespace L2
section
variable {jn : Nat → Bool}
def numR (jn : Nat → Bool) : Nat → Nat
  | 0 => 0
  | b + 1 => if jn (b + 1) = true then numR jn b else numR jn b + 1
def cntR (jn : Nat → Bool) : Nat → Nat
  | 0 => 0
  | m + 1 => numR jn m + 1
def runR (jn : Nat → Bool) (m t : Nat) : List Nat := (List.range m).filter fun b => decide (numR jn b = t)
def runsR (jn : Nat → Bool) (m : Nat) : List (List Nat) := (List.range (cntR jn m)).map (runR jn m)
theorem numR_step (b : Nat) : numR jn (b + 1) = numR jn b ∨ numR jn (b + 1) = numR jn b + 1 := by
  rw [numR]; split
  · exact .inl rfl
  · exact .inr rfl
theorem numR_mono {a b : Nat} (h : a ≤ b) : numR jn a ≤ numR jn b := by
  induction b with
  | zero => rw [Nat.le_zero.mp h]; exact Nat.le_refl _
  | succ b ih =>
    rcases Nat.lt_or_ge b a with c | c
    · rw [show a = b + 1 by omega]; exact Nat.le_refl _
    · have := ih c
      rcases numR_step (jn := jn) b with e | e <;> omega
theorem numR_lt {m b : Nat} (h : b < m) : numR jn b < cntR jn m := by
  cases m with
  | zero => omega
  | succ m => have := numR_mono (jn := jn) (show b ≤ m by omega); rw [cntR]; omega
theorem run_succ (m t : Nat) : runR jn (m + 1) t = runR jn m t ++ if numR jn m = t then [m] else [] := by
  unfold runR
  rw [List.range_succ, List.filter_append]
  by_cases h : numR jn m = t
  · rw [if_pos h, List.filter_cons_of_pos (by simpa using h), List.filter_nil]
  · rw [if_neg h, List.filter_cons_of_neg (by simp [h]), List.filter_nil]
theorem run_none {m t : Nat} (h : cntR jn m ≤ t) : runR jn m t = [] := List.filter_eq_nil_iff.mpr fun b hb z => by
  have := numR_lt (jn := jn) (List.mem_range.mp hb)
  have := of_decide_eq_true z
  omega
theorem runs_join {m : Nat} (h : jn (m + 1) = true) : runsR jn (m + 2) = (runsR jn (m + 1)).set (cntR jn (m + 1) - 1) (runR jn (m + 1) (cntR jn (m + 1) - 1) ++ [m + 1]) := by
  have e : numR jn (m + 1) = numR jn m := by rw [numR, if_pos h]
  have ec : cntR jn (m + 2) = cntR jn (m + 1) := by rw [cntR, cntR, e]
  unfold runsR
  rw [ec]
  refine List.ext_getElem? fun i => ?_
  rw [List.getElem?_set, List.length_map, List.length_range, List.getElem?_map, List.getElem?_map]
  have ec1 : cntR jn (m + 1) = numR jn m + 1 := rfl
  by_cases c : cntR jn (m + 1) - 1 = i
  · rw [if_pos c, if_pos (by omega), List.getElem?_range (by omega)]
    show some (runR jn (m + 2) i) = _
    rw [run_succ, if_pos (by omega), c]
  · rw [if_neg c]
    cases hi : (List.range (cntR jn (m + 1)))[i]? with
    | none => rfl
    | some y =>
      have : y = i := by have := (List.getElem?_eq_some_iff.mp hi).2; simpa using this.symm
      subst this
      show some (runR jn (m + 2) y) = some (runR jn (m + 1) y)
      rw [run_succ, if_neg (by omega), List.append_nil]
theorem runs_new {m : Nat} (h : m = 0 ∨ jn m = false) : runsR jn (m + 1) = runsR jn m ++ [[m]] := by
  have e : numR jn m = cntR jn m := by
    cases m with
    | zero => rfl
    | succ m => rw [cntR, numR, if_neg (by rcases h with h | h; · omega
                                           · rw [h]; decide)]
  unfold runsR
  have ec : cntR jn (m + 1) = cntR jn m + 1 := by rw [cntR, e]
  rw [ec, List.range_succ, List.map_append]
  congr 1
  · refine List.map_congr_left fun t ht => ?_
    rw [run_succ, if_neg (by have := List.mem_range.mp ht; omega), List.append_nil]
  · show [runR jn (m + 1) (cntR jn m)] = _
    rw [run_succ, if_pos e, run_none (Nat.le_refl _)]; rfl
theorem heads_num (m : Nat) : (heads (numR jn) (List.range m)).map (numR jn) = List.range (cntR jn m) := by
  induction m with
  | zero => rfl
  | succ m ih =>
    rw [List.range_succ, heads_snoc]
    unfold hdStep
    have key : ((heads (numR jn) (List.range m)).any fun y => decide (numR jn y = numR jn m)) = decide (numR jn m < cntR jn m) := by
      rw [Bool.eq_iff_iff, List.any_eq_true, decide_eq_true_eq]
      constructor
      · rintro ⟨y, hy, e⟩
        have := of_decide_eq_true e
        have h2 := numR_lt (jn := jn) (List.mem_range.mp (heads_sub hy))
        omega
      · intro h
        have : numR jn m ∈ (heads (numR jn) (List.range m)).map (numR jn) := by rw [ih]; exact List.mem_range.mpr h
        obtain ⟨y, hy, e⟩ := List.mem_map.mp this
        exact ⟨y, hy, decide_eq_true e⟩
    rw [key]
    have hle : numR jn m ≤ cntR jn m := by
      cases m with
      | zero => exact Nat.le_refl _
      | succ m => rcases numR_step (jn := jn) m with e | e <;> rw [cntR] <;> omega
    by_cases c : numR jn m < cntR jn m
    · rw [if_pos (decide_eq_true c), ih]
      congr 1
      cases m with
      | zero => exact absurd c (Nat.lt_irrefl _)
      | succ m => rw [cntR] at c ⊢; rw [cntR]; have := numR_mono (jn := jn) (show m ≤ m + 1 by omega); omega
    · rw [if_neg (by rw [decide_eq_false c]; decide), List.map_append, ih, cntR, List.range_succ]
      have : numR jn m = cntR jn m := by omega
      rw [this, List.map_singleton, this]
theorem parts_runs (m : Nat) : partsF (numR jn) (List.range m) = runsR jn m := by
  unfold partsF runsR
  rw [← heads_num, List.map_map]; rfl
theorem runs_flat (m : Nat) : (runsR jn m).flatten = List.range m := by
  induction m with
  | zero => rfl
  | succ m ih =>
    cases m with
    | zero => rw [runs_new (.inl rfl)]; rfl
    | succ m =>
      cases h : jn (m + 1) with
      | false => rw [runs_new (.inr h), List.flatten_append, ih, List.range_succ (n := m + 1)]; rfl
      | true =>
        rw [runs_join h]
        have hl : (runsR jn (m + 1)).length = cntR jn (m + 1) := by unfold runsR; simp
        have hpos : 0 < cntR jn (m + 1) := by rw [cntR]; omega
        have e1 : runsR jn (m + 1) = (runsR jn (m + 1)).take (cntR jn (m + 1) - 1) ++ [runR jn (m + 1) (cntR jn (m + 1) - 1)] := by
          conv => lhs; rw [← List.take_append_drop (cntR jn (m + 1) - 1) (runsR jn (m + 1))]
          congr 1
          rw [List.drop_eq_getElem_cons (by omega), List.drop_eq_nil_of_le (by omega)]
          unfold runsR
          simp
        have e2 : (runsR jn (m + 1)).set (cntR jn (m + 1) - 1) (runR jn (m + 1) (cntR jn (m + 1) - 1) ++ [m + 1]) = (runsR jn (m + 1)).take (cntR jn (m + 1) - 1) ++ [runR jn (m + 1) (cntR jn (m + 1) - 1) ++ [m + 1]] := by
          conv => lhs; rw [e1]
          rw [List.set_append_right _ _ (by rw [List.length_take]; omega)]
          have : cntR jn (m + 1) - 1 - ((runsR jn (m + 1)).take (cntR jn (m + 1) - 1)).length = 0 := by rw [List.length_take]; omega
          rw [this]; rfl
        rw [e2, List.flatten_append]
        rw [e1, List.flatten_append] at ih
        rw [List.range_succ, ← ih]
        simp
theorem num_rg (m : Nat) : (List.range m).map (numR jn) ∈ rgs m ∧ ngF ((List.range m).map (numR jn)) = cntR jn m := by
  induction m with
  | zero => exact ⟨List.mem_singleton.mpr rfl, rfl⟩
  | succ m ih =>
    rw [List.range_succ, List.map_append, List.map_singleton]
    have hle : numR jn m ≤ cntR jn m := by
      cases m with
      | zero => exact Nat.le_refl _
      | succ m => rcases numR_step (jn := jn) m with e | e <;> rw [cntR] <;> omega
    refine ⟨mem_rgs.mpr ⟨_, ih.1, _, by rw [ih.2]; exact hle, rfl⟩, ?_⟩
    rw [ng_snoc, ih.2, cntR]
    cases m with
    | zero => rfl
    | succ m => rcases numR_step (jn := jn) m with e | e <;> rw [cntR] <;> omega
theorem runs_best {m : Nat} {ps : List Pr} {as : List Apt} (hin : ∀ p ∈ ps, p.1 < m ∧ p.2.1 < m) (ha : ∀ a ∈ as, a.2 < m ∧ a.1 < m ∧ numR jn a.1 ≠ numR jn a.2)
    (hp : ∀ p ∈ ps, 0 < p.2.2 → (numR jn p.1 = numR jn p.2.1 ∧ (p.1, p.2.1) ∉ as) ∨ (p.1, p.2.1) ∈ as) (hn : ∀ p ∈ ps, p.2.2 < 0 → numR jn p.1 ≠ numR jn p.2.1)
    (hj : ∀ b, b + 1 < m → jn (b + 1) = true → ∃ p ∈ ps, p.1 = b ∧ p.2.1 = b + 1 ∧ 0 < p.2.2 ∧ (b, b + 1) ∉ as) : BestOf m ps as ((List.range m).map (numR jn)) ∧ lossG ps ((List.range m).map (numR jn)) = sumI (ps.map fun p => if (p.1, p.2.1) ∈ as then (if 0 < p.2.2 then p.2.2 else 0) else 0) := by
  have hat : ∀ b, b < m → atG ((List.range m).map (numR jn)) b = numR jn b := fun b hb => by
    unfold atG
    rw [List.getD_eq_getElem?_getD, List.getElem?_map, List.getElem?_range hb]; rfl
  have hloss : lossG ps ((List.range m).map (numR jn)) = sumI (ps.map fun p => if (p.1, p.2.1) ∈ as then (if 0 < p.2.2 then p.2.2 else 0) else 0) := sum_congr fun p hpm => by
    obtain ⟨b1, b2⟩ := hin p hpm
    unfold lossK
    rw [hat _ b1, hat _ b2]
    by_cases c : (p.1, p.2.1) ∈ as
    · rw [if_pos c, decide_eq_false (ha _ c).2.2]
      by_cases c2 : 0 < p.2.2
      · rw [if_pos c2, decide_eq_true c2, if_neg (by decide)]
        unfold absI; rw [if_neg (by omega)]
      · rw [if_neg c2, decide_eq_false c2, if_pos rfl]
    · rw [if_neg c]
      by_cases c2 : 0 < p.2.2
      · rw [decide_eq_true c2, decide_eq_true ((hp p hpm c2).resolve_right c).1, if_pos rfl]
      · rw [decide_eq_false c2]
        by_cases c3 : p.2.2 = 0
        · rw [c3]; split <;> rfl
        · rw [decide_eq_false (hn p hpm (by omega)), if_pos rfl]
  refine ⟨⟨(num_rg m).1, fun a ham => by rw [hat _ (ha a ham).2.1, hat _ (ha a ham).1]; exact (ha a ham).2.2, fun h hh hk => ?_⟩, hloss⟩
  have hge : ∀ p ∈ ps, (if (p.1, p.2.1) ∈ as then (if 0 < p.2.2 then p.2.2 else 0) else 0) ≤ lossK (atG h) p := fun p hpm => by
    by_cases c : (p.1, p.2.1) ∈ as
    · rw [if_pos c]
      by_cases c2 : 0 < p.2.2
      · rw [if_pos c2]
        unfold lossK
        rw [decide_eq_false (hk _ c), decide_eq_true c2, if_neg (by decide)]
        unfold absI; rw [if_neg (by omega)]; exact Int.le_refl _
      · rw [if_neg c2]; exact lossK_nn _ _
    · rw [if_neg c]; exact lossK_nn _ _
  have hL : lossG ps ((List.range m).map (numR jn)) ≤ lossG ps h := by rw [hloss]; exact sum_le hge
  rw [keyG_lt]
  rintro (z | ⟨z, q⟩)
  · omega
  · -- each pair loses just as much
    have heq : ∀ p ∈ ps, lossK (atG h) p = if (p.1, p.2.1) ∈ as then (if 0 < p.2.2 then p.2.2 else 0) else 0 := by
      rw [hloss] at z
      unfold lossG lossS at z
      clear hloss hL q hj hn hp hin
      induction ps with
      | nil => intro p hp; simp at hp
      | cons p0 ps ih =>
        have g0 := hge p0 List.mem_cons_self
        have g1 := sum_le fun q hq => hge q (List.mem_cons_of_mem _ hq)
        have z' : lossK (atG h) p0 + sumI (ps.map (lossK (atG h))) = (if (p0.1, p0.2.1) ∈ as then (if 0 < p0.2.2 then p0.2.2 else 0) else 0) + sumI (ps.map fun p => if (p.1, p.2.1) ∈ as then (if 0 < p.2.2 then p.2.2 else 0) else 0) := z
        intro p hp
        rcases List.mem_cons.mp hp with rfl | hp
        · omega
        · exact ih (fun q hq => hge q (List.mem_cons_of_mem _ hq)) (by omega) p hp
    have hcon : ∀ b, b + 1 < m → jn (b + 1) = true → atG h b = atG h (b + 1) := fun b hb hjb => by
      obtain ⟨p, hpm, e1, e2, e3, e4⟩ := hj b hb hjb
      have := heq p hpm
      rw [if_neg (by rw [e1, e2]; exact e4)] at this
      unfold lossK at this
      rw [decide_eq_true e3, e1, e2] at this
      by_cases c : atG h b = atG h (b + 1)
      · exact c
      · rw [decide_eq_false c, if_neg (by decide)] at this
        unfold absI at this
        rw [if_neg (by omega)] at this
        omega
    have hrun : ∀ b a, a ≤ b → b < m → numR jn a = numR jn b → atG h a = atG h b := by
      intro b
      induction b with
      | zero => intro a h1 _ _; rw [Nat.le_zero.mp h1]
      | succ b ih =>
        intro a h1 h2 h3
        rcases Nat.lt_or_ge b a with c | c
        · rw [show a = b + 1 by omega]
        · have m1 := numR_mono (jn := jn) c
          rcases numR_step (jn := jn) b with e | e
          · have hjb : jn (b + 1) = true := by
              cases hq : jn (b + 1) with
              | true => rfl
              | false => rw [numR, if_neg (by rw [hq]; decide)] at e; omega
            rw [ih a c (by omega) (by omega)]
            exact hcon b h2 hjb
          · omega
    -- so the runs tell the groups
    have e1 : (List.range m).map (atG h) = h := by
      refine List.ext_getElem? fun i => ?_
      rw [List.getElem?_map]
      have hlen := rgs_len hh
      by_cases hi : i < m
      · rw [List.getElem?_range hi]
        show some (atG h i) = _
        unfold atG
        rw [List.getD_eq_getElem?_getD, List.getElem?_eq_getElem (by omega)]; rfl
      · rw [List.getElem?_eq_none (by simp; omega), List.getElem?_eq_none (by omega)]; rfl
    have hpair : (List.range m).map (fun b => (numR jn b, atG h b)) = (List.range m).map fun b => (numR jn b, atG h b) := rfl
    obtain ⟨d1, d2⟩ := dd_map (Prod.snd : Nat × Nat → Nat) ((List.range m).map fun b => (numR jn b, atG h b))
    have es : ((List.range m).map fun b => (numR jn b, atG h b)).map Prod.snd = h := by rw [List.map_map]; exact e1
    have ek : numF ((List.range m).map fun b => (numR jn b, atG h b)) = numF ((List.range m).map (numR jn)) := num_ker _ _ _ fun a ha' b hb' => by
      rw [Prod.mk.injEq]
      refine ⟨fun z => z.1, fun z => ⟨z, ?_⟩⟩
      have ha' := List.mem_range.mp ha'
      have hb' := List.mem_range.mp hb'
      rcases Nat.le_total a b with c | c
      · exact hrun b a c hb' z
      · exact (hrun a b c ha' z.symm).symm
    have n1 := ng_num ((List.range m).map fun b => (numR jn b, atG h b))
    rw [ek, rgs_num (num_rg m).1] at n1
    have n2 := ng_num h
    rw [rgs_num hh] at n2
    rw [es] at d1 d2
    rcases q with q | ⟨q, r⟩
    · omega
    · have inj := d2 (by omega)
      have : numF ((List.range m).map fun b => (numR jn b, atG h b)) = numF ((List.range m).map (atG h)) := num_ker _ _ _ fun a ha' b hb' => by
        rw [Prod.mk.injEq]
        refine ⟨fun z => z.2, fun z => ?_⟩
        have := inj (numR jn a, atG h a) (List.mem_map.mpr ⟨a, ha', rfl⟩) (numR jn b, atG h b) (List.mem_map.mpr ⟨b, hb', rfl⟩) z
        rw [Prod.mk.injEq] at this
        exact this
      rw [ek, e1, rgs_num (num_rg m).1, rgs_num hh] at this
      rw [this] at r
      exact List.lt_irrefl _ r
end
end L2

namespace L2
open PySem PySem.Spec PyProof.Rows
def Itz (K : PySem.W.Frag) (a b : Addr) : It :=
  ⟨fun i H => ∃ xs ys x y, SqL K H a xs ∧ SqL K H b ys ∧ xs[i]? = some x ∧ ys[i]? = some y,
   fun i H x H' => ∃ T0 vs, x = .ref T0 ∧ H T0 = none ∧ H' = upd H T0 (.tup vs) ∧ ∀ xs ys, SqL K H a xs → SqL K H b ys → ∃ u v, xs[i]? = some u ∧ ys[i]? = some v ∧ vs = [u, v],
   fun i H => ∃ xs ys, SqL K H a xs ∧ SqL K H b ys ∧ min xs.length ys.length = i⟩
theorem turn_zip {P : Program} {w : World} {K : PySem.W.Frag} {elts : List Expr} {kk : Nat} {tp : Pos} (z TI TO i1 i2 a b : Addr) (D0 : ZipApart z TI TO i1 i2 a b) :
    Turn P w K (.Tuple elts kk tp) (Itz K a b) [z, TI, TO, i1, i2] z (fun i h => IsZip h z TI TO .none ∧ IsPair h TI (.ref i1) (.ref i2) ∧ (∃ c d, IsPair h TO c d) ∧ h.IsListIter i1 a i ∧ h.IsListIter i2 b i) where
  mem := by simp
  obj := fun i h st c hc => by
    obtain ⟨s1, s2, ⟨c1, d1, s3⟩, ⟨o4, s4, _, e4⟩, ⟨o5, s5, _, e5⟩⟩ := st
    simp only [List.mem_cons, List.not_mem_nil, or_false] at hc
    rcases hc with rfl | rfl | rfl | rfl | rfl
    · exact ⟨_, s1, fun v q => by cases q⟩
    · exact ⟨_, s2, fun v q => by cases q⟩
    · exact ⟨_, s3, fun v q => by cases q⟩
    · exact ⟨o4, s4, fun v q => by rw [e4] at q; cases q⟩
    · exact ⟨o5, s5, fun v q => by rw [e5] at q; cases q⟩
  keep := fun i h h' st k => by
    obtain ⟨s1, s2, ⟨c1, d1, s3⟩, s4, s5⟩ := st
    exact ⟨k z (by simp) _ s1, k TI (by simp) _ s2, ⟨c1, d1, k TO (by simp) _ s3⟩, s4.at fun o x => k i1 (by simp) o x, s5.at fun o x => k i2 (by simp) o x⟩
  item := by
    intro X hP hw hK hc i pins s σ H E I hf st hg
    subst hP hw hK
    obtain ⟨xs, ys, x, y, hq, hr, hx, hy⟩ := hg
    obtain ⟨its, rv, p, hz⟩ := I.list hq
    obtain ⟨jts, rv2, p2, hz2⟩ := I.list hr
    obtain ⟨u, hu, ru⟩ := rv.get hx
    obtain ⟨u2, hu2, ru2⟩ := rv2.get hy
    have hil : i < its.length := (List.getElem?_eq_some_iff.mp hu).1
    have hil2 : i < jts.length := (List.getElem?_eq_some_iff.mp hu2).1
    have W0 := WalksT.zip2 (prog := X.prog) (w := X.w) (A := X.A) (show X.A.handled = none from I.ok.hd hc) z TI TO i1 i2 a b D0 its.toArray jts.toArray
    obtain ⟨s1, s2, s3, s4, s5⟩ := st
    refine W0.item i s _ _ (by simp; lia) ⟨s1, s2, s3, s4, s5, p.isList, p2.isList⟩ fun T0 vals h1 tk hp hle ht mid kk => ?_
    obtain ⟨v, v2, hv, hv2, rfl⟩ := hp
    have hv : its[i]? = some v := by simpa using hv
    have hv2 : jts[i]? = some v2 := by simpa using hv2
    rw [hu] at hv; cases hv
    rw [hu2] at hv2; cases hv2
    have fresh : H T0 = none := I.hok.fresh hle
    have hfw : ∀ c ∈ [z, TO, i1, i2], FpOk X pins H c := fun c hc => hf c (by simp only [List.mem_cons, List.not_mem_nil, or_false] at hc ⊢; rcases hc with h | h | h | h <;> simp [h])
    have I1 : Inv X pins σ (upd H T0 (.tup [x, y])) { s with heap := h1, toks := tk } := I.turnsT (wr := [z, TO, i1, i2]) hfw kk hle ht (.cons ru (.cons ru2 .nil)) (by rw [sizeLine_eq]; simp)
    refine ⟨.ref T0, rfl, W0.go elts _ tp i T0 _ _ _ mid fun h2 st2 k2 => ?_⟩
    have hlt : ∀ c ∈ [z, TI, TO, i1, i2], c ≠ T0 := fun c hc q => by
      have old : ∃ o, s.heap.get? c = some o := by
        obtain ⟨c1, d1, s3⟩ := s3
        obtain ⟨o4, s4, _⟩ := s4
        obtain ⟨o5, s5, _⟩ := s5
        simp only [List.mem_cons, List.not_mem_nil, or_false] at hc
        rcases hc with rfl | rfl | rfl | rfl | rfl
        · exact ⟨_, s1⟩
        · exact ⟨_, s2⟩
        · exact ⟨_, s3⟩
        · exact ⟨_, s4⟩
        · exact ⟨_, s5⟩
      obtain ⟨o, ho⟩ := old
      exact absurd (Nat.lt_of_lt_of_le (Heap.lt_size ho) (q ▸ hle)) (Nat.lt_irrefl _)
    have hf1 : ∀ c ∈ [z, TO, i1, i2], FpOk X pins (upd H T0 (.tup [x, y])) c := fun c hc => ⟨by rw [upd_ne (hlt c (by simp only [List.mem_cons, List.not_mem_nil, or_false] at hc ⊢; rcases hc with h | h | h | h <;> simp [h]))]; exact (hfw c hc).1, (hfw c hc).2⟩
    exact ⟨.ref T0, _, I1.turns (t' := tk) hf1 k2, rfl, ⟨T0, _, rfl, fresh, rfl, fun ys1 ys2 g1 g2 => ⟨x, y, by rw [I.list_inj g1 hq]; exact hx, by rw [I.list_inj g2 hr]; exact hy, rfl⟩⟩, ⟨st2.1, st2.2.1, st2.2.2.1, st2.2.2.2.1, st2.2.2.2.2.1⟩, fun c hc => by rw [upd_ne (hlt c hc)]; exact (hf c hc).1⟩
  done := by
    intro X hP hw hK hc i pins s σ H E I hf st hg
    subst hP hw hK
    obtain ⟨xs, ys, hq, hr, hx⟩ := hg
    obtain ⟨its, rv, p, hz⟩ := I.list hq
    obtain ⟨jts, rv2, p2, hz2⟩ := I.list hr
    have hl := rv.length
    have hl2 := rv2.length
    have W0 := WalksT.zip2 (prog := X.prog) (w := X.w) (A := X.A) (show X.A.handled = none from I.ok.hd hc) z TI TO i1 i2 a b D0 its.toArray jts.toArray
    have hs : min its.toArray.size jts.toArray.size = i := by simp; lia
    rw [hs] at W0
    obtain ⟨s1, s2, s3, s4, s5⟩ := st
    have hfw : ∀ c ∈ [z, TO, i1, i2], FpOk X pins H c := fun c hc => hf c (by simp only [List.mem_cons, List.not_mem_nil, or_false] at hc ⊢; rcases hc with h | h | h | h <;> simp [h])
    exact W0.done s _ _ ⟨s1, s2, s3, s4, s5, p.isList, p2.isList⟩ fun h1 tk kk => ⟨rfl, I.turns (wr := [z, TO, i1, i2]) hfw kk⟩
  self := fun A i s Q E st h => wpAny_pyIter_zip st.1 h
section
variable {X : Cx} {e : Expr} {ta : TA} {elts : List Expr} {kk : Nat} {tp p pos : Pos}
def iZip (K : PySem.W.Frag) (ta : TA) : TI := fun σ H R => ta σ H fun vs H1 => ∃ a b, vs = [.ref a, .ref b] ∧ (∃ xs, SqL K H1 a xs) ∧ (∃ ys, SqL K H1 b ys) ∧ R (Itz K a b) H1
theorem pi_zip_list {e2 : Expr} (hg : Gl X "zip") (hm : X.mg "zip" = none) (hA : PA X [e, e2] ta) (hs : starEach [e, e2] X.env = (false, eval e X.env) :: starEach [e2] X.env := by rfl) (hp : (backTo pos (starEach [e2] X.env)).any (·.1) = false := by rfl) :
    PI X (.Tuple elts kk tp) (.Call (.Name "zip" p) [e, e2] [] pos) (iZip X.K ta) := by
  intro pins s σ H R I h
  refine Call_ (ld_blt I hg hm PyProof.Rows.Boot.zip (PyProof.Rows.callWith_type1 (thn (hA pos pins s σ H _ I h) fun us s1 ⟨vs, H1, I1, r1, q1⟩ => ?_) hs hp))
  obtain ⟨a, b, rfl, ⟨xs, hq⟩, ⟨ys, hr⟩, q⟩ := q1
  obtain ⟨u, u2, rfl, ru, ru2⟩ := vals2 r1
  cases ru
  cases ru2
  obtain ⟨its, rv, p, hz⟩ := I1.list hq
  obtain ⟨jts, rv2, p2, hz2⟩ := I1.list hr
  refine call_zip_2 p.isList p2.isList fun h1 hzp hTI hTO hi1 hi2 hsz hk => ?_
  have I2 : Inv X pins σ H1 { s1 with heap := h1 } := I1.kept (t' := s1.toks) hk
  refine wpAny_pyIter_zip hzp ?_
  have hlt : a < s1.heap.objs.size := by obtain ⟨o, ho, _⟩ := p.isList; exact Heap.lt_size ho
  have hlt2 : b < s1.heap.objs.size := by obtain ⟨o, ho, _⟩ := p2.isList; exact Heap.lt_size ho
  have ap := zipApart_new hlt hlt2
  refine ⟨s1.heap.objs.size + 4, [s1.heap.objs.size + 4, s1.heap.objs.size + 2, s1.heap.objs.size + 3, s1.heap.objs.size, s1.heap.objs.size + 1], _, _, H1, rfl, I2, turn_zip _ _ _ _ _ a b ap, ⟨hzp, hTI, ⟨_, _, hTO⟩, hi1, hi2⟩, fun c hc => ?_, q⟩
  have hcs : s1.heap.objs.size ≤ c := by
    simp only [List.mem_cons, List.not_mem_nil, or_false] at hc
    rcases hc with rfl | rfl | rfl | rfl | rfl <;> first | exact Nat.le_refl _ | exact Nat.le_add_right _ _
  exact I1.fpOk hcs (I1.hok.fresh hcs)
end
end L2

namespace L2
open PySem PySem.Spec PyProof.Rows
open AutoSeq1 (wpAny_loadPart')
end L2

namespace L2
open PySem PySem.Spec PyProof.Rows
end L2

namespace L2
open PySem PySem.Spec PyProof.Rows PySem.Builtin PySem.Builtin.Str
section
variable {K : PySem.W.Frag} {G H₀ L : Hp} {ss : List Sl} {ta tb tc t t1 t2 te : TE} {ds : List D} {E : Ends}
theorem go_zip {tl tm : TE} {g : TG} {tb : TS} {α β : Type} (enc : α → D) (enc2 : β → D) (xs : List α) (ys : List β) (I : Nat → List Sl → Prop) (a : Ev K G H₀ L ss tl (.lst (xs.map enc))) (b : Ev K G H₀ L ss tm (.lst (ys.map enc2))) (hxy : xs.length = ys.length) (h0 : I 0 ss)
    (hs : ∀ L' k x y ss, Same L L' → xs[k]? = some x → ys[k]? = some y → I k ss → ∃ ss', Tg K G H₀ L' g (.tup [enc x, enc2 y]) ss ss' ∧ ∀ N, (∀ ss, I (k + 1) ss → Nx K G H₀ L' N ss) → Go K G H₀ L' { E with nx := N, ct := N, bk := E.nx } ss' tb)
    (hd : ∀ ss, I xs.length ss → Nx K G H₀ L E.nx ss) : Go K G H₀ L E ss (tFor (iZip K (tCons tl (tCons tm tNil))) g tb) := fun F H σ S =>
  a F H σ _ S fun v F0 H0 e0 r0 => b F0 H0 σ _ (S.ext2 e0) fun v2 F1 H1 e1 r2 => by
    have r1 := r0.mono e1.gf
    obtain ⟨p, vs, rfl, sq, rs⟩ := r1.of_lst
    obtain ⟨p2, vs2, rfl, sqb, rsb⟩ := r2.of_lst
    refine ⟨p, p2, rfl, ⟨vs, SqL.same e1.fh sq⟩, ⟨vs2, SqL.same e1.fh sqb⟩, ?_⟩
    have S1 := (S.ext2 e0).ext2 e1
    have hLF : Same L F1 := (S.fl.trans e0.gf).trans e1.gf
    refine ⟨fun i m σ' H' => m = xs.length - i ∧ i ≤ xs.length ∧ At K G H₀ F1 (I i) σ' H', ⟨_, rfl, Nat.zero_le _, ss, F1, S1.raise, h0⟩, ?_⟩
    rintro i m σ' H' ⟨rfl, hi, ss1, F2, S2, h2⟩
    have rp : Rep K F2 (.lst (xs.map enc)) (.ref p) := r1.mono S2.fl
    have rp2 : Rep K F2 (.lst (ys.map enc2)) (.ref p2) := r2.mono S2.fl
    obtain ⟨ws, sq2, rs2⟩ := rp.itl S2.ext.fh
    obtain ⟨ws2, sq22, rs22⟩ := rp2.itl S2.ext.fh
    have hlen : ws.length = xs.length := by rw [← rs2.length, List.length_map]
    have hlen2 : ws2.length = ys.length := by rw [← rs22.length, List.length_map]
    by_cases hlt : i < xs.length
    · refine .inr ⟨⟨ws, ws2, ws[i]'(by lia), ws2[i]'(by lia), sq2, sq22, List.getElem?_eq_getElem _, List.getElem?_eq_getElem _⟩, fun σ'' H'' => At K G H₀ F1 (I (i + 1)) σ'' H'', fun σ'' H'' h => ⟨xs.length - (i + 1), by lia, rfl, hlt, h⟩, fun x H'' y => ?_⟩
      obtain ⟨T0, us, rfl, hf, rfl, y⟩ := y
      obtain ⟨w, w2, hx, hx2, rfl⟩ := y ws ws2 sq2 sq22
      obtain ⟨dx, hdx, rx⟩ := rs2.get hx
      obtain ⟨dx2, hdx2, rx2⟩ := rs22.get hx2
      rw [List.getElem?_map, List.getElem?_eq_getElem hlt] at hdx
      rw [List.getElem?_map, List.getElem?_eq_getElem (by lia)] at hdx2
      cases hdx
      cases hdx2
      obtain ⟨ss', tg, go⟩ := hs F1 i _ _ ss1 hLF (List.getElem?_eq_getElem hlt) (List.getElem?_eq_getElem (by lia)) h2
      have e3 : Ext F2 H' (upd F2 T0 (.tup [w, w2])) (upd H' T0 (.tup [w, w2])) := (Ext.refl S2.ext.fh).newF hf
      have rt : Rep K (upd F2 T0 (.tup [w, w2])) (.tup [enc xs[i], enc2 (ys[i]'(by lia))]) (.ref T0) := Rep.tupN (upd_same) (Reps.cons (rx.mono e3.gf) (Reps.cons (rx2.mono e3.gf) Reps.nil))
      exact tg _ _ σ' _ _ (S2.ext2 e3) rt fun σ3 S3 => go _ (fun ss h => nx_at h) _ _ σ3 S3
    · have e : i = xs.length := by lia
      subst e
      exact .inl ⟨⟨ws, ws2, sq2, sq22, by lia⟩, hd ss1 h2 F2 H' σ' (S2.lower hLF)⟩
end
end L2

namespace L2
open PySem PySem.W PySem.Spec PyProof.Rows
structure ITell (K : PySem.W.Frag) (C : Addr) : Prop where
  ha : findIn K (.ref C) "__class__" = some (some (.builtin "object.__class__"))
  hn : specialIn K (.builtin "object.__class__") "__get__" = some (some (.builtin "getset_descriptor.__get__"))
  tk : takesIn K (.builtin "object.__class__") = some true
  hm : mroIn K C (.type "object") = some true
end L2

namespace L2
open PySem PySem.W PySem.Spec PyProof.Rows
end L2

namespace L2
open PySem PySem.Spec PyProof.Rows
end L2

namespace L2
open PySem PySem.W PySem.Spec PyProof.Rows
section
variable {P : Program} {w : World} {fs : List Addr} {H H' : Hp} {h h2 h3 B : Heap}
theorem Un.fly (U : Un fs [] H H' h h2) (st2 : B.StaysIn h2) (st3 : B.StaysIn h3) (c1 : ∀ b o, h.get? b = some o → b ∉ fs → ∃ o', B.get? b = some o') (up : h2.UpToSlots h3)
    (ff : ∀ b ∈ fs, ∃ o, h2.get? b = some o ∧ ∀ vs, o.data ≠ .fields vs) : Un fs [] H H' h h3 where
  keep := fun b o e n hb hx => by
    obtain ⟨o', q⟩ := c1 b o e hb
    have q1 := U.keep b o e n hb hx
    have q2 := st2 b o' q
    rw [q1] at q2; cases q2
    exact st3 b _ q
  slot := fun b o e n hb hx => by
    obtain ⟨sl, q⟩ := U.slot b o e n hb hx
    obtain ⟨o2, q2, nf⟩ := ff b hb
    rw [q] at q2; cases q2
    obtain ⟨sl', q3⟩ := up b _ q nf
    exact ⟨sl', q3⟩
  free := U.free
  there := fun b o e hx => by
    by_cases hb : b ∈ fs
    · obtain ⟨o2, q2, nf⟩ := ff b hb
      obtain ⟨sl, q3⟩ := up b _ q2 nf
      exact ⟨_, q3⟩
    · obtain ⟨o', q⟩ := c1 b o e hb
      exact ⟨o', st3 b _ q⟩
  tups := U.tups
  frzs := U.frzs
  tbls := U.tbls
theorem HOk.fly (hok : HOk P w H h2) (c2 : ∀ b u, H b = some u → ∃ o', B.get? b = some o') (st2 : B.StaysIn h2) (st3 : B.StaysIn h3) : HOk P w H h3 := fun b u e => by
  refine (hok b u e).stay (fun c v hc q => ?_) (fun _ q => q) fun _ _ q => q
  obtain ⟨o', q'⟩ : ∃ o', B.get? c = some o' := by
    rcases hc with rfl | hc
    · exact c2 c _ e
    · exact c2 c _ hc
  have := st2 c o' q'
  rw [q] at this; cases this
  exact st3 c _ q'
end
section
variable {P : Program} {w : World} {K : PySem.W.Frag} {mg : Str → Option Value} {base : Heap} {N : List Str} {qual : Str} {scope : Scope} {f : Addr} {cd : Value} {A : Around} {outer : List Env} {s : Shared} {H : Hp} {E : XK}
def vmro : List Value := [.type "ValueError", .type "Exception", .type "BaseException", .type "object"]
theorem ObjOk.there {h : Heap} {a : Addr} {o : HO} (x : ObjOk P w H h a o) : ∃ ob, h.get? a = some ob := by
  cases o with
  | lst xs => obtain ⟨_, _, _, _, e⟩ := x; exact ⟨_, e⟩
  | tup xs => obtain ⟨_, _, _, ob, e, _⟩ := x; exact ⟨_, e⟩
  | dK kvs => obtain ⟨_, _, _, _, o, _, _, e, _⟩ := x; exact ⟨_, e⟩
  | dT kvs => obtain ⟨_, _, _, _, o, _, _, e, _⟩ := x; exact ⟨_, e⟩
  | set S n => obtain ⟨o, _, _, _, e, _⟩ := x; exact ⟨_, e⟩
  | ins C dx fs => obtain ⟨_, _, _, e, _⟩ := x; exact ⟨_, e⟩
  | own y => obtain ⟨_, e⟩ := x; exact ⟨_, e⟩
  | xd fs => obtain ⟨_, ⟨_, _, _, e, _⟩, _⟩ := x; exact ⟨_, e⟩
  | rng lo hi => obtain ⟨_, _, _, e⟩ := x; exact ⟨_, e⟩
  | frz ob u => obtain ⟨e, _⟩ := x; exact ⟨_, e⟩
  | tbl ps => exact ⟨_, x⟩
  | met f y => exact ⟨_, x⟩
  | ext φ => obtain ⟨_, e, _⟩ := x; exact e
  | tab ps pos q => obtain ⟨_, e, _⟩ := x; exact ⟨_, e⟩
end
end L2

namespace L2
open PySem PySem.W PySem.Spec PyProof.Rows
abbrev Cx.inSuite (X : Cx) (x : Addr) : Cx := { X with A := X.A.mark (some (.ref x)), calm := false, xe := fun _ _ => False }
section
variable {X : Cx} {pins : List (Addr × Obj)} {σ : St} {H : Hp} {s : Shared} {x : Addr}
theorem Inv.inSuite (I : Inv X pins σ H s) (x : Addr) : Inv (X.inSuite x) pins σ H s :=
  ⟨⟨I.ok.mod, I.ok.kind, I.ok.glob, I.ok.blt, I.ok.above, I.ok.inj, I.ok.has, I.ok.cab, (fun z => by cases z), I.ok.frames, I.ok.stk, I.ok.exf, I.ok.bs, I.ok.bsz, I.ok.noex, I.ok.exfs, I.ok.funs, I.ok.frf⟩, I.os, I.bare, I.base, I.loc, I.cell, I.free, I.freeC, I.pin, I.hok, I.len⟩
theorem Inv.outSuite (ok : X.Ok) (I : Inv (X.inSuite x) pins σ H s) : Inv X pins σ H s := ⟨ok, I.os, I.bare, I.base, I.loc, I.cell, I.free, I.freeC, I.pin, I.hok, I.len⟩
theorem unbind_ok {M : Model} {A : Around} {E : Value → Shared → Prop} {i : Nat} {n : Str} {v : V} {Q : Unit → Shared → Prop} (I : Inv X pins σ H s) (hN : X.N.Nodup) (hi : X.N[i]? = some n) (hx : X.env.scope.names.lookup n = some .local) (hv : σ[i]? = some (some v))
    (h : ∀ s', Inv X pins (σ.set i none) H s' → Q () s') : wpAny M A (unbindName X.env n) Q E s := by
  obtain ⟨m, hn, hl⟩ := id I.loc
  have hcls : (X.env.scope.kind == .class || (X.env.scope.kind == .module && X.env.locals != X.env.globals)) = false := by rw [I.ok.kind]; rfl
  obtain ⟨u, r, lk⟩ := hl i n v hi hv (.inl hx)
  have hm : m n = some u := by
    rcases lk with ⟨_, e⟩ | ⟨k, _⟩
    · exact e
    · have k : X.env.scope.names.lookup n = some .cell ∨ X.env.scope.names.lookup n = some .free := k
      rw [hx] at k
      rcases k with k | k <;> cases k
  refine wpAny_unbindName_local hx hn hm hcls fun h' u' hn' hs => ?_
  obtain ⟨oL, _, _, hoL, _⟩ := id hn
  have cne := I.cne
  have hiσ : i < σ.length := by rw [I.len]; exact (List.getElem?_eq_some_iff.mp hi).1
  refine h _ ⟨I.ok, I.os, I.bare, ⟨fun b o e n hb hx => ?_, fun b o e n hb hx => ?_, I.base.free, fun b o e hx => ?_, I.base.tups, I.base.frzs, I.base.tbls⟩, ⟨_, hn', fun j y v' e1 e2 e3 => ?_⟩, fun y c e => ?_, I.free, I.freeC, fun p hp => ?_, fun b ob e => ?_, by simpa using I.len⟩
  · exact (hs.2 b (Nat.ne_of_lt (Nat.lt_of_lt_of_le (Heap.lt_size e) I.ok.above))).trans (I.base.keep b o e n hb hx)
  · obtain ⟨sl, e1⟩ := I.base.slot b o e n hb hx
    exact ⟨sl, (hs.2 b (Nat.ne_of_lt (Nat.lt_of_lt_of_le (Heap.lt_size e) I.ok.above))).trans e1⟩
  · obtain ⟨o', e1⟩ := I.base.there b o e hx
    exact ⟨o', (hs.2 b (Nat.ne_of_lt (Nat.lt_of_lt_of_le (Heap.lt_size e) I.ok.above))).trans e1⟩
  · by_cases hj : j = i
    · subst hj
      rw [List.getElem?_set_self hiσ] at e2
      cases e2
    · rw [List.getElem?_set_ne (Ne.symm hj)] at e2
      obtain ⟨u', r', q⟩ := hl j y v' e1 e2 e3
      refine ⟨u', r', ?_⟩
      rcases q with ⟨k, e⟩ | ⟨k, c, e, z⟩
      · refine .inl ⟨k, ?_⟩
        have : y ≠ n := fun e => hj (nodup_ix hN e1 (e ▸ hi))
        simp [this, e]
      · exact .inr ⟨k, c, e, z.sameBut hs (cne y c e)⟩
  · obtain ⟨w', z⟩ := I.cell y c e
    exact ⟨w', z.sameBut hs (cne y c e)⟩
  · obtain ⟨e, n, ne, nf, d⟩ := I.pin p hp
    exact ⟨(hs.2 p.1 ne).trans e, n, ne, nf, d⟩
  · refine (I.hok b ob e).stay (fun c w' hc q => (hs.2 c ?_).trans q) (fun _ q => q) fun _ _ q => q
    rintro rfl
    rcases hc with rfl | hc
    · rw [I.free] at e; cases e
    · rw [I.free] at hc; cases hc
end
end L2

namespace L2
open PySem PySem.W PySem.Spec PyProof.Rows PySem.Calls Builtin Builtin.ObjectAttr Builtin.Getset_descriptor
structure XTell (K : PySem.W.Frag) (C : Addr) : Prop where
  ga : findIn K (.ref C) "__getattribute__" = some (some (.builtin "BaseException.__getattribute__"))
  gt : findIn K (.ref C) "__getattr__" = some none
  mb : mroIn K C (.type "BaseException") = some true
  fc : findIn K (.ref C) "__class__" = some (some (.builtin "object.__class__"))
  sp : specialIn K (.builtin "object.__class__") "__get__" = some (some (.builtin "getset_descriptor.__get__"))
  tk : takesIn K (.builtin "object.__class__") = some true
  mo : mroIn K C (.type "object") = some true
  dc : hasDictIn K C = true
section
variable {K : PySem.W.Frag} {x C : Addr}
def XAt (x C : Addr) (h : Heap) : Prop := ∃ o, h.get? x = some o ∧ o.cls = .ref C
theorem XAt.ty {M : Model} {h : Heap} (p : XAt x C h) : Looks M h (typeOf (.ref x)) (.ref C) := by
  obtain ⟨o, ho, hc⟩ := p
  rw [← hc]; exact (Looks.ld ho).andThen .now
theorem find_dd {M : Model} {h : Heap} (X : K.In h) (T : XTell K C) : Looks M h (Builtin.ObjectAttr.find (.ref x) (.ref C) "__class__") (.bind (.builtin "getset_descriptor.__get__") (.builtin "object.__class__")) :=
  (looks_findIn X T.fc).andThen ((show Looks M h (Builtin.ObjectAttr.getOf (some (.builtin "object.__class__"))) (some (.builtin "getset_descriptor.__get__")) from looks_specialIn X T.sp).andThen
    ((show Looks M h (Builtin.ObjectAttr.dataDescriptor? (some (.builtin "object.__class__")) (some (.builtin "getset_descriptor.__get__"))) (some (_, _)) from (looks_takesIn (M := M) X T.tk).andThen .now).andThen (Looks.tag .now)))
section
variable {prog : Program} {w : World} {A : Around} {s : Shared}
theorem exc_cget {R : Result → Shared → Prop} {tp : Value} (X : K.In s.heap) (T : XTell K C) (p : XAt x C s.heap) (h : R (.ok (.ret (.ref C))) s) : codeAny (model prog w) A (.call (.builtin "getset_descriptor.__get__") ⟨[.builtin "object.__class__", .ref x, tp], []⟩) R s := by
  obtain ⟨hh, g, dr, t, os⟩ := s
  have L0 := p.ty (M := model prog w); have L1 := looks_mroIn (M := model prog w) X T.mo
  refine codeAny_call_builtin KF.slot_gs.plain KF.entry_gs (KF.slot_gs.check _ _ _ _ _ _ _ _ KF.type_class (KF.args_gs _ _ _) (show wpAny _ _ _ _ _ _ from ?_))
  unfold Builtin.«getset_descriptor.__get__» descrGet; rw [dga_obj]; refine wpAny_bind (wpAny_pure ?_); unfold descrGetter descrCheckInstance descrNameAndClass isInstance; simp only [KF.owner_class]
  repeat lk
  refine ⟨Code.quiet_builtin _ (by decide +kernel), codeAny_builtin KF.entry_class (show wpAny _ _ _ _ _ _ from ?_)⟩
  unfold Builtin.«object.__class__» shownTypeOf; repeat lk
  exact h
theorem exc_class {E : Value → Shared → Prop} {Q : Option Value → Shared → Prop} (X : K.In s.heap) (T : XTell K C) (p : XAt x C s.heap) (q : Q (some (.ref C)) { s with toks := s.toks + 1 }) :
    wpAny (model prog w) A (getAttr? (.ref x) "__class__") Q E s := by
  obtain ⟨hh, g, d, t, os⟩ := s
  have L0 := p.ty (M := model prog w); have L1 := looks_findIn (M := model prog w) X T.ga; have L2 := looks_findIn (M := model prog w) X T.gt
  have L3 := find_dd (x := x) (M := model prog w) X T; have L4 := looks_mroIn (M := model prog w) X T.mb
  have hbd := F.attr_ValueError.ga.bind (.ref x)
  have hk : builtinKind "BaseException.__getattribute__" = some .slot := by decide +kernel
  have hs : splitId "BaseException.__getattribute__" = some ("BaseException", "__getattribute__") := by decide +kernel
  unfold getAttr? getAttrBy? getAttrBy; refine wpAny_bind (wpAny_mkText (wpAny_bind (wpAny_attempt (wpAny_holding (wpAny_bind (L0.at (wpAny_bind (L1.at ?_))))))))
  show wpAny _ _ (if (_ && _) then _ else _) _ _ _
  rw [if_neg (by rw [Bool.and_eq_true]; intro z; exact absurd z.2 (by decide +kernel))]
  unfold getAttrByItsOwn
  refine wpAny_bind ((show Looks _ _ (hookBefore (.ref C)) none from L2).at (wpAny_bind (wpAny_attempt (wpAny_holding ?_))))
  unfold callGetattribute boundAndCalled
  rw [if_neg (by intro z; cases z), hbd]
  refine wpAny_bind (wpAny_pure (wpAny_call ?_))
  refine codeAny_call_builtin F.attr_ValueError.ga.plain F.entry_bexc_ga ?_
  have hao := F.args_bexc_ga (.ref x) (.str "__class__" t)
  simp only [checkBuiltinCall, hk, hs]; unfold isInstance
  repeat lk
  refine wpAny_run (exc_cget (x := x) X T p ?_)
  repeat lk
  exact q
end
theorem kitx_exc (T : XTell K C) : KitX K (.ref x) (.ref C) (XAt x C) where
  ty := fun _ _ _ p => p.ty
  it := fun _ _ X _ => by
    obtain ⟨cd, hc, _⟩ := any_some T.dc
    unfold clsIn at hc; split at hc
    · rename_i ho
      intro A' Q' E' s' k q
      unfold isType loadHead; exact wpAny_bind (wpAny_loadPart (k _ _ (X _ _ ho)) (wpAny_pure q))
    · cases hc
  ne := fun h tp dd its n sl X htp => by
    obtain ⟨cd, hc, _⟩ := any_some T.dc
    refine Bool.eq_false_iff.mpr fun q => ?_
    obtain rfl : C = tp := Value.ref.inj (beq_iff_eq.mp q)
    unfold clsIn at hc; split at hc
    · rename_i ho
      have z := (X _ _ ho).symm.trans htp; cases z
    · cases hc
  ca := fun X p k => exc_class X T p k
end
end L2

namespace L2
open PySem PySem.W PyProof.Rows
end L2

namespace L2
open PySem PySem.W PyProof.Rows
theorem ps_nox {X : Cx} {st : Stmt} {t : TS} (h : PS X.nox st t) : PS X st t := fun pins s σ H D I hw =>
  wpAny_mono (h pins s σ H D (I.wish _) hw) (fun _ _ q => q.unwish) fun _ _ z => False.elim z
end L2

namespace L2
open PySem PySem.W PySem.Spec PyProof.Rows
abbrev QS := List (Addr × List D)
section
variable {K : PySem.W.Frag} {G H₀ L : Hp} {ss : List Sl} {i : Nat} {p : Addr} {kqs : KQ} {kvs : DD} {qs : QS} {E : Ends} {D0 : XK} {t : TA} {te ta td : TE} {d : D} {ds : List D} {dss : List (List D)} {pre : List D → Prop} {res : List D → List (List D)}
mutual
def D.nm : D → Bool
  | .lst _ => false
  | .dct ks vs => D.nms ks && D.nms vs
  | .dctT _ _ => false
  | .ins _ _ _ => false
  | .tup a => D.nms a
  | _ => true
def D.nms : List D → Bool
  | [] => true
  | a :: x => a.nm && D.nms x
end
def cut (F : Hp) (as : List Addr) : Hp := fun b => if b ∈ as then none else F b
end
end L2

namespace L2
open PySem PySem.W PySem.Spec PyProof.Rows
def rIsN : R2 := fun x y H Q => y = .non ∧ Q (.bl (decide (x = .non))) H
theorem rep_non_iff {K : PySem.W.Frag} {H : Hp} {d : D} {x : V} (r : Rep K H d x) : (x = .non) ↔ d = .non := by
  cases d with
  | non => exact ⟨fun _ => rfl, fun _ => r.of_non⟩
  | bl b => rw [r.of_bl]; exact ⟨fun h => (by cases h), fun h => (by cases h)⟩
  | int b => rw [r.of_int]; exact ⟨fun h => (by cases h), fun h => (by cases h)⟩
  | str b => rw [r.of_str]; exact ⟨fun h => (by cases h), fun h => (by cases h)⟩
  | lst b => obtain ⟨p, xs, rfl, _⟩ := r.of_lst; exact ⟨fun h => (by cases h), fun h => (by cases h)⟩
  | tup b => obtain ⟨p, xs, rfl, _⟩ := r.of_tup; exact ⟨fun h => (by cases h), fun h => (by cases h)⟩
  | dct a b => obtain ⟨p, xs, rfl, _⟩ := r.of_dct; exact ⟨fun h => (by cases h), fun h => (by cases h)⟩
  | dctT a b => rw [Rep] at r; obtain ⟨p, xs, rfl, _⟩ := r; exact ⟨fun h => (by cases h), fun h => (by cases h)⟩
  | ins a b c => obtain ⟨p, dx, fs, rfl, _⟩ := r.of_ins; exact ⟨fun h => (by cases h), fun h => (by cases h)⟩
section
variable {K : PySem.W.Frag} {G H₀ L : Hp} {ss : List Sl} {i : Nat} {E : Ends} {te tk tv : TE} {k d : D} {c : TT} {tb : TS}
theorem ev_isN (a : EvB K G H₀ L ss te d) : Ev K G H₀ L ss (tOp rIsN te (tC .non)) (.bl (decide (d = .non))) := fun F H σ Q S q =>
  a F H σ _ S fun x F1 H1 e1 r1 => ⟨rfl, by
    rw [decide_eq_decide.mpr (rep_non_iff r1)]
    exact q _ _ _ e1 Rep.bl⟩
end
end L2

namespace PySem
open Sem (wp)
section
variable {prog : Program} {w : World} {A : Around} {E : Value → Shared → Prop} {h : Heap} {g : Array GenState} {d : Drawn} {t : Nat} {os : OsState}
variable {nm q : Str} {C N : Addr} {bs bm bmB : List Value} {hdct : Bool} {sn : List Str} {sub : List Value} {ab : Bool} {col : Option Bool} {dd : Option Addr} {k0 k1 k2 k3 k5 : Option Value} {B Bn newId nid initId inN : String} {bmN : List Value}
theorem type_call_initU (Fn : ExcBaseFacts Bn newId inN bmN) (hBn : bmB.contains (.type Bn) = true) (F : ExcBaseFacts B nid initId bmB) (T : OwnTail h bmB bm) {mN : Str → Option Value} {rest : List Value} {fI : Addr} {oI : Obj} {Q : Fin → Shared → Prop}
    (hC : h.get? C = some (excClassObj nm q C N bs bm hdct sn sub ab col dd k0 k1 k2 k3 k5 newId)) (hn : h.Ns N mN) (hi : mN "__init__" = some (.ref fI)) (hfI : h.get? fI = some oI) (hfc : oI.cls = .type "function")
    (hq : ∀ h' e, h.objs.size ≤ e → Heap.MadeExcOf h h' e (.ref C) rest → wpAny (model prog w) A (call (.ref fI) (.ref e :: rest)) (fun r s' => r = .none ∧ Q (.done (.ret (.ref e))) s') E ⟨h', g, d, t, os⟩) (hrest : rest.length ≤ sizeLine) :
    wpAny (model prog w) A (Builtin.«type.__call__» ⟨.ref C :: rest, []⟩) Q E ⟨h, g, d, t, os⟩ := by
  repeat (first | with_reducible refine wpAny_loadPart_at hC ?_ | with_reducible refine wpAny_madeBy_exc hC ?_ | wp_step)
  refine codeAny_call_builtin_code (Code.quiet_builtin _ Fn.quiet) (wpAny_check_new_subU Fn hBn T hC ?_)
  refine codeAny_exc_new_subU Fn hBn F T hC ?_ hrest
  show wpAny _ _ _ _ _ _
  have k2 : ∀ b o, h.get? b = some o → ((h.push { cls := .type "tuple", data := .seq rest.toArray }).push { cls := .ref C, data := .fields #[.ref h.objs.size, .none, .none, .none, .bool false, .none] }).get? b = some o := fun b o e => Heap.get?_push_of_some _ (Heap.get?_push_of_some _ e)
  have hC1 := k2 _ _ hC
  have hf1 := k2 _ _ hfI
  have hn1 : ((h.push { cls := .type "tuple", data := .seq rest.toArray }).push { cls := .ref C, data := .fields #[.ref h.objs.size, .none, .none, .none, .bool false, .none] }).Ns N mN := let ⟨o, es, ep, e, r⟩ := hn; ⟨o, es, ep, k2 _ _ e, r⟩
  have hget : ((h.push { cls := .type "tuple", data := .seq rest.toArray }).push { cls := .ref C, data := .fields #[.ref h.objs.size, .none, .none, .none, .bool false, .none] }).get? (h.objs.size + 1) = some { cls := .ref C, data := .fields #[.ref h.objs.size, .none, .none, .none, .bool false, .none] } := by heap_get
  have hcC : (Value.ref C :: bm).contains (.ref C) = true := by simp
  have T1 := T.keeps k2
  unfold isInstance
  repeat (first | with_reducible refine wpAny_loadPart_at hget ?_ | (with_reducible refine wpAny_isSubtype_exc hC1 ?_; rw [hcC]) | wp_step)
  show wpAny _ _ (typeLookup (.ref C) _) _ _ _
  refine wpAny_typeLookup_tail hC1 hn1 T1 F.mroIs F.init.lookup ?_
  rw [hi]
  refine wpAny_holding (wpAny_bind ?_)
  unfold bindSpecial
  refine wpAny_bind (wpAny_typeOf (T := "function") ⟨_, hf1, hfc⟩ ?_)
  rw [if_pos (by decide)]
  refine wpAny_pure (wpAny_bind (wpAny_mono (hq _ (h.objs.size + 1) (Nat.le_succ _) ⟨k2, Heap.get?_none_of_le (Nat.le_succ _), h.objs.size, hget, Heap.get?_none_of_le (Nat.le_refl _), ?_⟩) (fun r s' hr => ?_) fun _ _ x => x))
  · exact Heap.get?_push_of_some _ (Heap.get?_push_at rfl rfl)
  · obtain ⟨rfl, hQ⟩ := hr
    wp_walk
    exact hQ
theorem call_initU (Fn : ExcBaseFacts Bn newId inN bmN) (hBn : bmB.contains (.type Bn) = true) (F : ExcBaseFacts B nid initId bmB) (T : OwnTail h bmB bm) {mN : Str → Option Value} {rest : List Value} {fI : Addr} {oI : Obj} {Q : Value → Shared → Prop}
    (hC : h.get? C = some (excClassObj nm q C N bs bm hdct sn sub ab col dd k0 k1 k2 k3 k5 newId)) (hn : h.Ns N mN) (hi : mN "__init__" = some (.ref fI)) (hfI : h.get? fI = some oI) (hfc : oI.cls = .type "function")
    (hq : ∀ h' e, h.objs.size ≤ e → Heap.MadeExcOf h h' e (.ref C) rest → wpAny (model prog w) (A.under (.builtin "type.__call__" ⟨.ref C :: rest, []⟩)) (call (.ref fI) (.ref e :: rest)) (fun r s' => r = .none ∧ Q (.ref e) s') E ⟨h', g, d, t, os⟩) (hrest : rest.length ≤ sizeLine) :
    wpAny (model prog w) A (call (.ref C) rest) Q E ⟨h, g, d, t, os⟩ := by
  have f1 := tc_lookup
  have f2 := tc_bind (.ref C)
  have hT : (⟨h, g, d, t, os⟩ : Shared).TypeIs (.ref C) "type" := ⟨_, hC, rfl⟩
  refine wpAny_call (codeAny_of_tree ?_)
  show wpAny _ _ (callAny (.ref C) _) _ _ _
  repeat (any_goals (first | assumption | with_reducible refine wpAny_loadPart_at hC ?_ | wp_step))
  refine ⟨rfl, ?_⟩
  exact codeAny_call_builtin_at (Code.quiet_builtin _ (by decide +kernel)) entry_typeCall (wpAny_check_type_call_sub hC (type_call_initU (hrest := hrest) Fn hBn F T hC hn hi hfI hfc fun h' e hs hm => hq h' e hs hm))
end
end PySem
namespace L2
open PySem PySem.W PySem.Spec PyProof.Rows
def excInI (K : PySem.W.Frag) (C : Addr) (bmB : List Value) (newId : String) (fI : Addr) : Bool := match K.lookup C with
  | some ⟨.type "type", _, .cls cd, sl⟩ => (match cd.mro, sl.toList with
    | .ref C' :: bm, [_, _, _, _, some (.builtin n), _] => C' == C && n == newId && !cd.hasDel && tailIn K bmB bm && nsOkIn K cd.ns && nsIn K cd.ns "__init__" == some (some (.ref fI))
    | _, _ => false)
  | _ => false
def XClsI (K : PySem.W.Frag) (C fI : Addr) : Prop := excInI K C vmro "ValueError.__new__" fI = true
theorem ns_at {K : PySem.W.Frag} {h : Heap} {N : Addr} {m : Str → Option Value} {n : Str} {v : Value} (X : K.In h) (G : h.Ns N m) (e : nsIn K N n = some (some v)) : m n = some v := by
  obtain ⟨o, es, ep, ho, hd, _, hf⟩ := G
  unfold nsIn at e
  split at e
  · rename_i c d es' n' sl q
    have := X _ _ q
    rw [ho] at this
    cases this
    cases hd
    split at e
    · rename_i en he
      cases e
      rw [← hf]
      unfold nsFind findBy
      rw [← Array.find?_toList, he]
      rfl
    · split at e <;> cases e
  · cases e
theorem xclsI_of {K : PySem.W.Frag} {h : Heap} {C fI : Addr} (X : K.In h) (q : XClsI K C fI) : ∃ tl N nm q bs hdct sn sub ab col dd k0 k1 k2 k3 k5 mN, h.get? C = some (excClassObj nm q C N bs tl hdct sn sub ab col dd k0 k1 k2 k3 k5 "ValueError.__new__") ∧ h.Ns N mN ∧ mN "__init__" = some (.ref fI) ∧ OwnTail h vmro tl := by
  unfold XClsI excInI at q
  split at q
  · rename_i dd cd sl ho
    split at q
    · rename_i C' bm k0 k1 k2 k3 n k5 hm hs
      simp only [Bool.and_eq_true, beq_iff_eq, Bool.not_eq_true'] at q
      obtain ⟨⟨⟨⟨⟨rfl, rfl⟩, hdel⟩, ht⟩, hok⟩, hni⟩ := q
      obtain ⟨nm, bs, mro, ns, qn, hd, sn, sub, ab, col, del⟩ := cd
      dsimp only at hm hdel hok hni
      subst hm hdel
      have hsl : sl = #[k0, k1, k2, k3, some (.builtin "ValueError.__new__"), k5] := by
        obtain ⟨l⟩ := sl
        simp only at hs
        rw [hs]
      subst hsl
      exact ⟨bm, ns, nm, qn, bs, hd, sn, sub, ab, col, dd, k0, k1, k2, k3, k5, _, X _ _ ho, .of_isNs (isNs_of_in X hok), ns_at X (.of_isNs (isNs_of_in X hok)) hni, tail_of_in X ht⟩
    · cases q
  · cases q
def ErrAt (e C : Addr) (dd : Option Addr) (h : Heap) : Prop := ∃ t : Value, h.get? e = some { cls := .ref C, dict := dd, data := .fields #[t, .none, .none, .none, .bool false, .none] }
def ErrO (e C : Addr) (dd : Option Addr) : HO := .ext (ErrAt e C dd)
theorem errO_ok {P : Program} {w : World} {H : Hp} {h : Heap} {e C : Addr} {dd : Option Addr} (x : ErrAt e C dd h) : ObjOk P w H h e (ErrO e C dd) :=
  ⟨x, let ⟨_, q⟩ := x; ⟨_, q⟩, fun h1 h2 ⟨t, q⟩ k => ⟨t, k _ q⟩⟩
theorem Inv.errMade {X : Cx} {pins : List (Addr × Obj)} {σ : St} {H : Hp} {s : Shared} {h' : Heap} {e C : Addr} {rest : List Value} (I : Inv X pins σ H s) (hs : s.heap.objs.size ≤ e) (m : Heap.MadeExcOf s.heap h' e (.ref C) rest) :
    Inv X pins σ (upd H e (ErrO e C none)) { s with heap := h', toks := s.toks } := by
  obtain ⟨t, q, _, _⟩ := m.there
  exact I.laid (t' := s.toks) (fun b u z => m.keeps b u z) hs (errO_ok ⟨.ref t, q⟩)
end L2

namespace L2
open PySem PySem.Spec PyProof.Rows
end L2

namespace L2
open PySem PySem.W PySem.Spec PyProof.Rows
structure CMeth (K : PySem.W.Frag) (C : Addr) (m : Str) (f : Addr) : Prop where
  ga : specialIn K (.ref C) "__getattribute__" = some (some (.builtin "type.__getattribute__"))
  rd : readsIn K C (.type "type") = true
  fc : findCls K (.ref C) (.type "type") m = some (.val (.ref f))
  kp : keepIn K (.ref f) = true
end L2

namespace L2
open PySem PySem.W PySem.Spec PyProof.Rows
end L2

namespace L2
open PySem PySem.W PySem.Spec PyProof.Rows
section
variable {X : Cx} {a b : Str} {e : Expr} {te : TE} {k1 k2 : Nat} {p1 p2 p3 pos : Pos}
theorem relv_str {x : Str} {u : Value} (r : RelV (.str x) u) : ∃ t, u = .str x t := r
theorem relv_int {i : Int} {u : Value} (r : RelV (.int i) u) : ∃ t, u = .int i t := r
end
end L2

namespace L2
open PySem PySem.W PySem.Spec PyProof.Rows
structure CInitB (K : PySem.W.Frag) (C : Addr) : Prop where
  ga : specialIn K (.ref C) "__getattribute__" = some (some (.builtin "type.__getattribute__"))
  rd : readsIn K C (.type "type") = true
  fc : findCls K (.ref C) (.type "type") "__init__" = some (.val (.builtin "ValueError.__init__"))
def tErrInit (K : PySem.W.Frag) (t : TA) : TE := fun σ H Q => t σ H fun vs H1 => ∃ e C dd v, vs = [.ref e, v] ∧ H1 e = some (ErrO e C dd) ∧ (∃ fI, XClsI K C fI) ∧ Q .non H1
section
variable {X : Cx} {B : Addr} {x : Str} {e1 e2 : Expr} {t : TA} {p apos pos : Pos}
theorem pe_errInit {pl : Sem Bool} (hg : Gl X x) (hm : X.mg x = some (.ref B)) (M : CInitB X.K B) (ha : PA X [e1, e2] t)
    (hdb : (x == ("__debug__" : Str)) = false := by decide) (hst : starEach [e1, e2] X.env = (false, eval e1 X.env) :: starEach [e2] X.env := by rfl) (hpl : (backTo pos (starEach [e2] X.env)).any (·.1) = false := by rfl)
    (ht : eval (.Call (.Attribute (.Name x p) "__init__" apos) [e1, e2] [] pos) X.env = (do
      let ov ← eval (.Name x p) X.env
      standAt apos.atName
      let (f, first) ← holding [ov] (getMethod ov "__init__" pl)
      callWith pos f first (backTo pos (starEach [e1, e2] X.env)) (backToKw pos (keywordEach [] X.env))) := by rfl) :
    PE X (.Call (.Attribute (.Name x p) "__init__" apos) [e1, e2] [] pos) (tErrInit X.K t) := by
  intro pins s σ H Q I h
  refine PySem.W.methodCall_KW (pl := pl) (thn (pe_glob (v := .ref B) hg hm rfl hdb pins s σ H (fun v H1 => v = .ref B ∧ H1 = H) I ⟨rfl, rfl⟩) fun u s1 ⟨v, H1, I1, rx, ev, eh⟩ => ?_) ht
  subst ev eh
  obtain rfl : u = Value.ref B := rx
  refine method_cls I1.kIn M.ga (cls_value I1.kIn M.rd M.fc rfl ?_)
  have hA := ha pos pins _ σ _ _ (I1.tok (s1.toks + 1)) h
  rw [hst] at hA ⊢
  refine Calls.callWith_builtin (by show (false || (backTo pos (starEach [e2] X.env)).any (·.1)) = false; rw [hpl] <;> rfl) (Calls.evalArgs_plain ?_)
  refine thn hA fun us s2 ⟨vs, H2, I2, r, e, C, dd, v, ev, he, ⟨fI, hx⟩, q⟩ => ?_
  subst ev
  obtain ⟨u1, u2, rfl, r1, r2⟩ := vals2 r
  cases r1
  obtain ⟨tl, Na, nm, q', bs, hdct, sn, sub, ab, col, ddc, k0, k1, k2, k3, k5, mN, hC, hN, hni, T⟩ := xclsI_of I2.kIn hx
  obtain ⟨t0, ho⟩ : ErrAt e C dd s2.heap := (I2.hok e _ he).1
  obtain ⟨hh, g, d, tk, os⟩ := s2
  refine wpAny_call (codeAny_call_builtin PySem.F.excBase_ValueError.init.plain PySem.F.excBase_ValueError.initEntry (wpAny_check_init_subU PySem.F.excBase_ValueError T hC ho rfl ?_))
  wp_walk
  have hk : ∀ b u, b ≠ e → hh.get? b = some u → ((hh.push { cls := .type "tuple", data := .seq #[u2] }).update e (Obj.mapFields (·.setIfInBounds 0 (Value.ref hh.objs.size)))).get? b = some u := fun b u hb z => by
    rw [Heap.get?_update_other _ _ (Ne.symm hb)]
    exact Heap.get?_push_of_some _ z
  have hget : ((hh.push { cls := .type "tuple", data := .seq #[u2] }).update e (Obj.mapFields (·.setIfInBounds 0 (Value.ref hh.objs.size)))).get? e = some { cls := .ref C, dict := dd, data := .fields #[.ref hh.objs.size, .none, .none, .none, .bool false, .none] } := by
    rw [Heap.get?_update_self _ (Heap.get?_push_of_some _ ho) rfl]
    rfl
  have J := Inv.write (o := ErrO e C dd) (t' := tk) I2 (by rw [he]; trivial) (.inl rfl) hk ⟨_, hget⟩ (errO_ok ⟨_, hget⟩)
  have eH : upd H2 e (ErrO e C dd) = H2 := by
    funext b
    by_cases hb : b = e
    · subst hb; rw [upd_same, he]
    · rw [upd_ne hb]
  rw [eH] at J
  cases t0 <;> first | exact wpAny_letGo (wpAny_pure ⟨.non, H2, J, rfl, q⟩) | exact wpAny_pure (wpAny_pure ⟨.non, H2, J, rfl, q⟩)
end
end L2

namespace L2
open PySem PySem.W PySem.Spec PyProof.Rows PySem.Calls Builtin Builtin.ObjectAttr
def vtail : List Value → Bool
  | .ref _ :: r => vtail r
  | l => l == vmro
structure XStore (K : PySem.W.Frag) (C : Addr) (name : Str) : Prop where
  sa : findIn K (.ref C) "__setattr__" = some (some (.builtin "object.__setattr__"))
  nm : findIn K (.ref C) name = some none
  ob : mroIn K C (.type "object") = some true
  hd : hasDictIn K C = true
  tl : ((clsIn K C).any fun cd => vtail cd.mro) = true
theorem refuse_v (self : Value) : ∀ {l : List Value}, vtail l = true → refuseLoop self "__setattr__" l = pure ()
  | .ref c :: r, e => by rw [refuseLoop_ref]; exact refuse_v self e
  | [], e => by cases e
  | .type n :: r, e => by rw [beq_iff_eq.mp (show ((Value.type n :: r) == vmro) = true from e)]; exact PySem.F.store_ValueError.passes self
  | .none :: r, e => by have := beq_iff_eq.mp (show ((Value.none :: r) == vmro) = true from e); cases this
  | .bool _ :: r, e => by have := beq_iff_eq.mp (show ((Value.bool _ :: r) == vmro) = true from e); cases this
  | .int _ _ :: r, e => by have := beq_iff_eq.mp (show ((Value.int _ _ :: r) == vmro) = true from e); cases this
  | .float _ _ :: r, e => by have := beq_iff_eq.mp (show ((Value.float _ _ :: r) == vmro) = true from e); cases this
  | .str _ _ :: r, e => by have := beq_iff_eq.mp (show ((Value.str _ _ :: r) == vmro) = true from e); cases this
  | .bytes _ _ :: r, e => by have := beq_iff_eq.mp (show ((Value.bytes _ _ :: r) == vmro) = true from e); cases this
  | .builtin _ :: r, e => by have := beq_iff_eq.mp (show ((Value.builtin _ :: r) == vmro) = true from e); cases this
section
variable {prog : Program} {w : World} {A : Around} {E : Value → Shared → Prop} {K : PySem.W.Frag} {h : Heap} {g : Array GenState} {d : Drawn} {t : Nat} {os : OsState} {e C : Addr} {oe : Obj} {name : Str} {v : Value}
theorem set_err {Q : Unit → Shared → Prop} (X : K.In h) (S : XStore K C name) (ho : h.get? e = some oe) (hc : oe.cls = .ref C) (hdn : oe.dict = none) (hnc : notCls oe = true) {vs : Array Value} (hdat : oe.data = .fields vs)
    (hq : ∀ h' tk, h'.get? e = some { oe with dict := some h.objs.size } → h'.Ns1 h.objs.size (fun y => if y = name then some v else none) → (∀ b o, b ≠ e → h.get? b = some o → h'.get? b = some o) → Q () ⟨h', g, d, tk, os⟩) :
    wpAny (model prog w) A (setAttr (.ref e) name v) Q E ⟨h, g, d, t, os⟩ := by
  have SF := PySem.F.store_ValueError
  have I : InstAt h e oe C none := ⟨ho, hc, hnc, by rw [hdn]; trivial⟩
  obtain ⟨cd, hcl, htl⟩ := any_some S.tl
  obtain ⟨cd2, hcl2, hdd⟩ := any_some S.hd
  have e2 : cd = cd2 := Option.some.inj (hcl.symm.trans hcl2)
  subst e2
  refine set_plain (s := ⟨h, g, d, t, os⟩) X I S.sa ?_
  have sub : Looks (model prog w) h (isInstance (.ref e) (.type "object")) true := I.type.andThen (looks_mroIn X S.ob)
  refine codeAny_call_builtin SF.slot.plain SF.entry (@check_slot (model prog w) _ _ ⟨h, g, d, t + 1, os⟩ "object.__setattr__" "object" "__setattr__" (.ref e) [.str name t, v] [] _ SF.kind SF.split sub (SF.args (.ref e) (.str name t) v) ?_)
  have hm : Looks (model prog w) h (mroOf (.ref C)) cd.mro := (looks_clsIn X hcl).andThen .now
  rw [osa_eq, refuse_eq]
  refine wpAny_bind (wpAny_bind (Looks.here (s := ⟨h, g, d, t + 1, os⟩) I.type (wpAny_bind (Looks.here (s := ⟨h, g, d, t + 1, os⟩) hm ?_))))
  rw [refuse_v _ htl]
  refine wpAny_pure (wpAny_bind (Looks.here (s := ⟨h, g, d, t + 1, os⟩) I.type (wpAny_bind (Looks.here (s := ⟨h, g, d, t + 1, os⟩) (looks_findIn X S.nm) (wpAny_bind (wpAny_pure ?_))))))
  show wpAny _ _ (storeInOwnDict (.ref e) (.ref C) (.str name t) name v false) _ _ _
  refine wpAny_bind (wpAny_pure (wpAny_bind ?_))
  obtain ⟨oc, odi, oda, osl⟩ := oe
  dsimp only at hc hdn hdat hq
  subst hc hdn hdat
  refine wpAny_bind (wpAny_loadPart ho (wpAny_bind (Looks.here (s := ⟨h, g, d, t + 1, os⟩) (looks_clsIn X hcl) ?_)))
  rw [hdd]
  rw [if_neg (by decide)]
  have ho1 : (h.push { cls := .type "dict", data := .dict #[] }).get? e = some (⟨.ref C, none, .fields vs, osl⟩ : Obj) := Heap.get?_push_of_some _ ho
  have hes : e ≠ h.objs.size := Nat.ne_of_lt (Heap.lt_size ho)
  show wpAny _ _ (alloc { cls := .type "dict", data := .dict #[] } >>= fun dx => (update e fun o => { cls := o.cls, dict := some dx, data := o.data, slots := o.slots }) >>= fun _ => dictMade (.ref C) e dx) _ _ _
  refine wpAny_bind (wpAny_alloc' ?_)
  refine wpAny_bind (wpAny_update' ho1 ?_)
  refine wpAny_pure ?_
  have hgd : ((h.push { cls := .type "dict", data := .dict #[] }).update e fun o => { cls := o.cls, dict := some h.objs.size, data := o.data, slots := o.slots }).get? h.objs.size = some { cls := .type "dict", data := .dict #[] } := (Heap.get?_update_ne _ _ _ _ hes.symm).trans (Heap.get?_push_at rfl rfl)
  have hnd : ((h.push { cls := .type "dict", data := .dict #[] }).update e fun o => { cls := o.cls, dict := some h.objs.size, data := o.data, slots := o.slots }).Ns h.objs.size (fun _ => none) := ⟨_, #[], _, hgd, rfl, fun _ z => absurd z (by simp), fun _ => rfl⟩
  show wpAny _ _ (storeInDict h.objs.size (.str name t) name v) _ _ _
  unfold storeInDict newKeyGuard
  refine wpAny_bind (wpAny_pure (wpAny_bind (wpAny_nsSet1 (Heap.Ns1.of_empty hnd) fun h' hn' hs => ?_)))
  obtain ⟨oD, esD, epD, hoD, hdD, hcD⟩ := hn'.count (Within.cons name v Within.nil)
  refine wpAny_bind (wpAny_lookBehind hoD (by rw [hdD]; exact pastItsLine_dict (Nat.le_trans hcD (by rw [List.length_cons, List.length_nil, sizeLine_eq]; lia))) ?_)
  wp_walk
  refine hq h' _ ((hs.2 e hes).trans (Heap.get?_update_self _ ho1 rfl)) hn' fun b o hb z => ?_
  exact (hs.2 b (Nat.ne_of_lt (Heap.lt_size z))).trans ((Heap.get?_update_ne _ _ _ _ hb).trans (Heap.get?_push_of_some _ z))
end
def sErrSet (K : PySem.W.Frag) (ta tv : TE) (f : Str) : TS := fun D σ H => tv σ H fun y H1 => ta σ H1 fun x H2 => ∃ e C, x = .ref e ∧ H2 e = some (ErrO e C none) ∧ XStore K C f ∧ ∀ dx, H2 dx = none → dx ≠ e → D.nx σ (upd (upd H2 e (ErrO e C (some dx))) dx (.xd [(f, y)]))
section
variable {X : Cx} {o value : Expr} {ta tv : TE} {f : Str} {pos' pos : Pos}
theorem ps_errSet (ha : PE X o ta) (hv : PE X value tv) (hs : swapsWith value (some (.Attribute o f pos')) pos.line X.env = pure false) : PS X (.Assign [.Attribute o f pos'] value pos) (sErrSet X.K ta tv f) := by
  intro pins s σ H D I h
  refine plainObj_wpAny_Assign_Attribute (thn (hv pins s σ H _ I h) fun u s1 ⟨y, H1, I1, ry, q⟩ => thn (ha pins s1 σ H1 _ I1 q) fun ov s2 ⟨x, H2, I2, rx, e, C, ex, he, S, q2⟩ => ?_) hs
  subst ex
  obtain rfl : ov = Value.ref e := rx
  obtain ⟨t0, ho⟩ : ErrAt e C none s2.heap := (I2.hok e _ he).1
  obtain ⟨hh, g, d, tk, os⟩ := s2
  refine set_err I2.kIn S ho rfl rfl rfl rfl fun h' tk' hget hns hk => ?_
  have hes : e ≠ hh.objs.size := Nat.ne_of_lt (Heap.lt_size ho)
  have hmk : ∀ b u, b ≠ e → hh.get? b = some u → (hh.update e fun o => { cls := o.cls, dict := some hh.objs.size, data := o.data, slots := o.slots }).get? b = some u := fun b u hb z => (Heap.get?_update_ne _ _ _ _ hb).trans z
  have hme : (hh.update e fun o => { cls := o.cls, dict := some hh.objs.size, data := o.data, slots := o.slots }).get? e = some { cls := .ref C, dict := some hh.objs.size, data := .fields #[t0, .none, .none, .none, .bool false, .none] } := Heap.get?_update_self _ ho rfl
  have I3 := Inv.write (o := ErrO e C (some hh.objs.size)) (t' := tk') I2 (by rw [he]; trivial) (.inl rfl) hmk ⟨_, hme⟩ (errO_ok ⟨_, hme⟩)
  have hkk : ∀ b u, (hh.update e fun o => { cls := o.cls, dict := some hh.objs.size, data := o.data, slots := o.slots }).get? b = some u → h'.get? b = some u := fun b u z => by
    by_cases hb : b = e
    · subst hb; rw [hme] at z; cases z; exact hget
    · have z2 := (Heap.get?_update_ne _ _ _ _ hb).symm.trans z
      exact hk b u hb z2
  have hsz : (hh.update e fun o => { cls := o.cls, dict := some hh.objs.size, data := o.data, slots := o.slots }).objs.size ≤ hh.objs.size := by simp [Heap.update]
  have I4 := Inv.laid (a := hh.objs.size) (o := .xd [(f, y)]) (t' := tk') I3 hkk hsz ⟨_, hns, fun n => ?_⟩
  · exact ⟨σ, _, I4, q2 _ (I2.hok.fresh (Nat.le_refl _)) hes.symm⟩
  · by_cases hn : n = f
    · subst hn; simp [List.lookup]; exact ry
    · have : (n == f) = false := by simpa using hn
      simp [List.lookup, this, hn]; trivial
end
end L2

namespace L2
open PySem
def RI (M : Model) (Γ : _root_.PySem.Ctx) (p : Pos) (s : Shared) (e : End) (s' : Shared) : Sem PySem.Fin → Prop
  | .pure (.done f) => e = .ret (.ok f) ∧ s' = s
  | .raise x => e = .ret (.error x) ∧ s' = s
  | .yield v g l k => e = .susp v g l k Γ.code p [] ∧ s' = s
  | .pure (.again c) => _root_.PySem.Runs M (Γ.goto c) p (M.den c) [] s e s'
  | .rule _ k => _root_.PySem.Runs M Γ p (k ()) [] s e s'
  | .at p' k => _root_.PySem.Runs M Γ p' (k ()) [] s e s'
  | .load a _ k => ∃ o, s.heap.get? a = some o ∧ _root_.PySem.Runs M Γ p (k o) [] s e s'
  | .update a _ f k => _root_.PySem.Runs M Γ p (k ()) [] { s with heap := s.heap.update a f } e s'
  | .loadIfAlive a k => _root_.PySem.Runs M Γ p (k (s.heap.get? a)) [] s e s'
  | .point _ k => _root_.PySem.Runs M Γ p (k ()) [] s e s'
  | .alloc o k => _root_.PySem.Runs M Γ p (k s.heap.objs.size) [] { s with heap := s.heap.push o } e s'
  | .fresh k => _root_.PySem.Runs M Γ p (k s.toks) [] { s with toks := s.toks + 1 } e s'
  | .ask k => _root_.PySem.Runs M Γ p (k ⟨M.prog, M.w.params⟩) [] s e s'
  | .choose src n k => _root_.PySem.Runs M Γ p (k (M.w.draws src (s.drawn.get src) % n)) [] { s with drawn := s.drawn.bump src } e s'
  | .os q _ k => _root_.PySem.Runs M Γ p (k (Os.step s.os q).2) [] { s with os := (Os.step s.os q).1 } e s'
  | .handled own k => _root_.PySem.Runs M Γ p (k (if own then Γ.own else Γ.handled)) [] s e s'
  | .genState g k => ∃ st, s.gens[g]? = some st ∧ _root_.PySem.Runs M Γ p (k st.seen) [] s e s'
  | .stack k => _root_.PySem.Runs M Γ p (k ((Γ.code, p) :: Γ.below)) [] s e s'
  | .thread k => _root_.PySem.Runs M Γ p (k 0) [] s e s'
  | .newGen c k => _root_.PySem.Runs M Γ p (k s.gens.size) [] { s with gens := s.gens.push (.fresh c) } e s'
  | .call c h g l k => (∃ r s₁, _root_.PySem.Runs M (Γ.enter c h p) p (M.den c) [] s (.ret r) s₁ ∧ _root_.PySem.Runs M Γ p (k r) [] s₁ e s') ∨
      ∃ v g₀ l₀ k₀ c₀ p₀ fs, _root_.PySem.Runs M (Γ.enter c h p) p (M.den c) [] s (.susp v g₀ l₀ k₀ c₀ p₀ fs) s' ∧ e = .susp v g₀ l₀ k₀ c₀ p₀ (fs ++ [.ret k h g l Γ.code p []])
  | .resume g r _ k => ∃ res s₁, Wakes M Γ p g r s res s₁ ∧ _root_.PySem.Runs M Γ p (k res) [] s₁ e s'
  | _ => False
theorem wakes_send {M : Model} {Γ : _root_.PySem.Ctx} {p : Pos} {g : Nat} {v : Value} {s s' : Shared} {res : GenResult} {c : Code} (e1 : s.gens[g]? = some (.fresh c)) (hv : v ≠ .none) : Wakes M Γ p g (.send v) s res s' ↔ res = .justStarted ∧ s' = s := by
  unfold Wakes
  rw [e1]
  cases v with
  | none => exact absurd rfl hv
  | _ => exact Iff.rfl
theorem runs_inv {M : Model} {Γ : _root_.PySem.Ctx} {p : Pos} {t : Sem PySem.Fin} {s s' : Shared} {e : End} (h : _root_.PySem.Runs M Γ p t [] s e s') : RI M Γ p s e s' t := by
  cases h with
  | load e1 r => exact ⟨_, e1, r⟩
  | genState e1 r => exact ⟨_, e1, r⟩
  | call a b => exact .inl ⟨_, _, a, b⟩
  | callSusp a => exact .inr ⟨_, _, _, _, _, _, _, a, rfl⟩
  | done => exact ⟨rfl, rfl⟩
  | raise => exact ⟨rfl, rfl⟩
  | yield => exact ⟨rfl, rfl⟩
  | resumeFresh e1 a q b => exact ⟨_, _, by unfold Wakes; rw [e1]; exact ⟨_, _, a, q, rfl, rfl⟩, b⟩
  | resumeSuspended e1 a q b => exact ⟨_, _, by unfold Wakes; rw [e1]; exact ⟨_, _, a, q, rfl, rfl⟩, b⟩
  | resumeJustStarted e1 n b => exact ⟨_, _, (wakes_send e1 n).mpr ⟨rfl, rfl⟩, b⟩
  | resumeThrowFresh e1 b => exact ⟨_, _, by unfold Wakes; rw [e1]; exact ⟨rfl, rfl⟩, b⟩
  | resumeRunning e1 b => exact ⟨_, _, by unfold Wakes; rw [e1]; exact ⟨rfl, rfl⟩, b⟩
  | resumeFinished e1 b => exact ⟨_, _, by unfold Wakes; rw [e1]; exact ⟨rfl, rfl⟩, b⟩
  | again _ r => exact r
  | update _ r => exact r
  | choose _ r => exact r
  | rule r => exact r
  | «at» r => exact r
  | loadIfAlive r => exact r
  | point r => exact r
  | alloc r => exact r
  | fresh r => exact r
  | ask r => exact r
  | os r => exact r
  | handled r => exact r
  | stack r => exact r
  | thread r => exact r
  | newGen r => exact r
def SG (M : Model) (Γ : _root_.PySem.Ctx) (p : Pos) (t : Sem PySem.Fin) (F : Frame) (fs : List Frame) (s : Shared) (e : End) (s' : Shared) : Prop :=
    (∃ k h' g l c₁ p₁ kp r s₁, F = .ret k h' g l c₁ p₁ kp ∧ _root_.PySem.Runs M (Γ.over (F :: fs)) p t [] s (.ret r) s₁ ∧ _root_.PySem.Runs M (Γ.goto c₁) p₁ (k r) fs s₁ e s') ∨
    (∃ g k l c₁ p₁ r s₁, F = .gen g k l c₁ p₁ ∧ _root_.PySem.Runs M (Γ.over (F :: fs)) p t [] s (.ret r) s₁ ∧ _root_.PySem.Runs M (Γ.goto c₁) p₁ (k (End.ret r).result) fs (s₁.setGen g .finished) e s') ∨
    (∃ v g₀ l₀ k₀ c₀ p₀ fs₀, splitAtGen (F :: fs) = none ∧ _root_.PySem.Runs M (Γ.over (F :: fs)) p t [] s (.susp v g₀ l₀ k₀ c₀ p₀ fs₀) s' ∧ e = .susp v g₀ l₀ k₀ c₀ p₀ (fs₀ ++ F :: fs)) ∨
    ∃ pre g k c₁ p₁ rest v g₀ l₀ k₀ c₀ p₀ fs₀ s₁, splitAtGen (F :: fs) = some (pre, (g, k, c₁, p₁), rest) ∧ _root_.PySem.Runs M (Γ.over (F :: fs)) p t [] s (.susp v g₀ l₀ k₀ c₀ p₀ fs₀) s₁ ∧ _root_.PySem.Runs M (Γ.goto c₁) p₁ (k (.yielded v)) rest (s₁.setGen g (End.susp v g₀ l₀ k₀ c₀ p₀ (fs₀ ++ pre)).genState) e s'
theorem runs_seg {M : Model} {Γ : _root_.PySem.Ctx} {p : Pos} {t : Sem PySem.Fin} {F : Frame} {fs : List Frame} {s s' : Shared} {e : End} (h : _root_.PySem.Runs M Γ p t (F :: fs) s e s') : SG M Γ p t F fs s e s' := by
  cases h with
  | segRet a b => exact .inl ⟨_, _, _, _, _, _, _, _, _, rfl, a, b⟩
  | segGen a b => exact .inr (.inl ⟨_, _, _, _, _, _, _, rfl, a, b⟩)
  | segSuspOut n a => exact .inr (.inr (.inl ⟨_, _, _, _, _, _, _, n, a, rfl⟩))
  | segSuspGen n a _ b => exact .inr (.inr (.inr ⟨_, _, _, _, _, _, _, _, _, _, _, _, _, _, n, a, b⟩))
theorem runs_det {M : Model} {Γ : _root_.PySem.Ctx} {p : Pos} {t : Sem PySem.Fin} {fs : List Frame} {s s' : Shared} {e : End} (h : _root_.PySem.Runs M Γ p t fs s e s') :
    ∀ {e2 s2}, _root_.PySem.Runs M Γ p t fs s e2 s2 → e2 = e ∧ s2 = s' := by
  induction h with
  | done | raise | yield => exact fun h2 => runs_inv h2
  | again _ _ ih | update _ _ ih | choose _ _ ih => exact fun h2 => ih (runs_inv h2)
  | rule _ ih | «at» _ ih | loadIfAlive _ ih | point _ ih | alloc _ ih | fresh _ ih | ask _ ih | os _ ih | handled _ ih | stack _ ih | thread _ ih | newGen _ ih => exact fun h2 => ih (runs_inv h2)
  | load e1 _ ih =>
    intro e2 s2 h2
    obtain ⟨o, e3, r⟩ := runs_inv h2
    cases e1.symm.trans e3
    exact ih r
  | genState e1 _ ih =>
    intro e2 s2 h2
    obtain ⟨o, e3, r⟩ := runs_inv h2
    cases e1.symm.trans e3
    exact ih r
  | call _ _ i1 i2 =>
    intro e2 s2 h2
    rcases runs_inv h2 with ⟨r, s1, a, b⟩ | ⟨v, g0, l0, k0, c0, p0, fs, a, _⟩
    · obtain ⟨q, rfl⟩ := i1 a; cases q; exact i2 b
    · cases (i1 a).1
  | callSusp _ i1 =>
    intro e2 s2 h2
    rcases runs_inv h2 with ⟨r, s1, a, b⟩ | ⟨v, g0, l0, k0, c0, p0, fs, a, e3⟩
    · cases (i1 a).1
    · obtain ⟨q, rfl⟩ := i1 a; cases q; exact ⟨e3, rfl⟩
  | resumeFresh e1 _ _ _ i1 i2 =>
    intro e2 s2 h2
    obtain ⟨res, s1, w, r⟩ := runs_inv h2
    unfold Wakes at w
    rw [e1] at w
    obtain ⟨e3, s3, a, _, rfl, rfl⟩ := w
    obtain ⟨rfl, rfl⟩ := i1 a
    exact i2 r
  | resumeSuspended e1 _ _ _ i1 i2 =>
    intro e2 s2 h2
    obtain ⟨res, s1, w, r⟩ := runs_inv h2
    unfold Wakes at w
    rw [e1] at w
    obtain ⟨e3, s3, a, _, rfl, rfl⟩ := w
    obtain ⟨rfl, rfl⟩ := i1 a
    exact i2 r
  | resumeJustStarted e1 n1 _ i1 =>
    intro e2 s2 h2
    obtain ⟨res, s1, w, r⟩ := runs_inv h2
    obtain ⟨rfl, rfl⟩ := (wakes_send e1 n1).mp w
    exact i1 r
  | resumeThrowFresh e1 _ i1 | resumeRunning e1 _ i1 | resumeFinished e1 _ i1 =>
    intro e2 s2 h2
    obtain ⟨res, s1, w, r⟩ := runs_inv h2
    unfold Wakes at w
    rw [e1] at w
    obtain ⟨rfl, rfl⟩ := w
    exact i1 r
  | segRet _ _ i1 i2 =>
    intro e2 s2 h2
    rcases runs_seg h2 with ⟨k, h', g, l, c1, p1, kp, r, s1, q, a, b⟩ | ⟨g, k, l, c1, p1, r, s1, q, _⟩ | ⟨v, g0, l0, k0, c0, p0, f0, n, a, _⟩ | ⟨pre, g, k, c1, p1, rest, v, g0, l0, k0, c0, p0, f0, s1, n, a, _⟩
    · cases q; obtain ⟨q, rfl⟩ := i1 a; cases q; exact i2 b
    · cases q
    · cases (i1 a).1
    · cases (i1 a).1
  | segGen _ _ i1 i2 =>
    intro e2 s2 h2
    rcases runs_seg h2 with ⟨k, h', g, l, c1, p1, kp, r, s1, q, _⟩ | ⟨g, k, l, c1, p1, r, s1, q, a, b⟩ | ⟨v, g0, l0, k0, c0, p0, f0, n, a, _⟩ | ⟨pre, g, k, c1, p1, rest, v, g0, l0, k0, c0, p0, f0, s1, n, a, _⟩
    · cases q
    · cases q; obtain ⟨q, rfl⟩ := i1 a; cases q; exact i2 b
    · cases (i1 a).1
    · cases (i1 a).1
  | segSuspOut n1 _ i1 =>
    intro e2 s2 h2
    rcases runs_seg h2 with ⟨k, h', g, l, c1, p1, kp, r, s1, q, a, b⟩ | ⟨g, k, l, c1, p1, r, s1, q, a, b⟩ | ⟨v, g0, l0, k0, c0, p0, f0, n, a, e3⟩ | ⟨pre, g, k, c1, p1, rest, v, g0, l0, k0, c0, p0, f0, s1, n, a, _⟩
    · cases (i1 a).1
    · cases (i1 a).1
    · obtain ⟨q, rfl⟩ := i1 a; cases q; exact ⟨e3, rfl⟩
    · rw [n1] at n; cases n
  | segSuspGen n1 _ _ _ i1 i2 =>
    intro e2 s2 h2
    rcases runs_seg h2 with ⟨k, h', g, l, c1, p1, kp, r, s1, q, a, b⟩ | ⟨g, k, l, c1, p1, r, s1, q, a, b⟩ | ⟨v, g0, l0, k0, c0, p0, f0, n, a, e3⟩ | ⟨pre, g, k, c1, p1, rest, v, g0, l0, k0, c0, p0, f0, s1, n, a, b⟩
    · cases (i1 a).1
    · cases (i1 a).1
    · rw [n1] at n; cases n
    · rw [n1] at n; cases n; obtain ⟨q, rfl⟩ := i1 a; cases q; exact i2 b
theorem wakes_det {M : Model} {Γ : _root_.PySem.Ctx} {p : Pos} {g : Nat} {r : Resume} {s s' s2 : Shared} {res res2 : GenResult} (h : Wakes M Γ p g r s res s') (h2 : Wakes M Γ p g r s res2 s2) : res2 = res ∧ s2 = s' := by
  cases hg : s.gens[g]? with
  | none => unfold Wakes at h; rw [hg] at h; exact h.elim
  | some gs =>
    cases gs with
    | fresh c =>
      cases r with
      | send v =>
        by_cases hv : v = .none
        · subst hv
          unfold Wakes at h h2
          rw [hg] at h h2
          obtain ⟨e1, s1, h1, _, rfl, rfl⟩ := h
          obtain ⟨e3, s3, h3, _, rfl, rfl⟩ := h2
          obtain ⟨rfl, rfl⟩ := runs_det h1 h3
          exact ⟨rfl, rfl⟩
        · obtain ⟨rfl, rfl⟩ := (wakes_send hg hv).mp h
          exact (wakes_send hg hv).mp h2
      | throw x =>
        unfold Wakes at h h2
        rw [hg] at h h2
        obtain ⟨rfl, rfl⟩ := h; exact h2
    | suspended k0 _ c0 p0 fs _ =>
      unfold Wakes at h h2
      rw [hg] at h h2
      obtain ⟨e1, s1, h1, _, rfl, rfl⟩ := h
      obtain ⟨e3, s3, h3, _, rfl, rfl⟩ := h2
      obtain ⟨rfl, rfl⟩ := runs_det h1 h3
      exact ⟨rfl, rfl⟩
    | running =>
      unfold Wakes at h h2
      rw [hg] at h h2
      obtain ⟨rfl, rfl⟩ := h; exact h2
    | finished =>
      unfold Wakes at h h2
      rw [hg] at h h2
      obtain ⟨rfl, rfl⟩ := h; exact h2
theorem wp_both {α : Type} {M : Model} {Γ : _root_.PySem.Ctx} {Q Q' : α → Pos → Shared → Prop} {E E' : Value → Pos → Shared → Prop} (t : Sem α) : ∀ (p : Pos) (s : Shared), Sem.wp M Γ t Q E p s → Sem.wp M Γ t Q' E' p s →
    Sem.wp M Γ t (fun a p s => Q a p s ∧ Q' a p s) (fun e p s => E e p s ∧ E' e p s) p s := by
  induction t with
  | pure x => exact fun p s h h' => ⟨h, h'⟩
  | raise v => exact fun p s h h' => ⟨h, h'⟩
  | unsupported | finish | yield | fork | await | register => exact fun p s h h' => h
  | rule _ k ih | «at» _ k ih | alloc _ k ih | loadIfAlive _ k ih | point _ k ih | ask k ih | os _ _ k ih | handled _ k ih | newGen _ k ih | stack k ih | thread k ih | fresh k ih => exact fun p s h h' => ih _ _ _ h h'
  | load a _ k ih | genState a k ih => exact fun p s ⟨o, ho, h⟩ ⟨o', ho', h'⟩ => by rw [ho] at ho'; cases ho'; exact ⟨o, ho, ih _ _ _ h h'⟩
  | update a _ f k ih | choose _ _ k ih => exact fun p s ⟨ha, h⟩ ⟨_, h'⟩ => ⟨ha, ih _ _ _ h h'⟩
  | call c h g l k ih => exact fun p s ⟨r, s1, h1, h2⟩ ⟨r', s1', h1', h2'⟩ => by obtain ⟨q, rfl⟩ := runs_det h1 h1'; cases q; exact ⟨_, _, h1, ih _ _ _ h2 h2'⟩
  | resume g r l k ih => exact fun p s ⟨res, s1, hw, h⟩ ⟨res', s1', hw', h'⟩ => by obtain ⟨rfl, rfl⟩ := wakes_det hw hw'; exact ⟨_, _, hw, ih _ _ _ h h'⟩
theorem wpAny_both {α : Type} {t : Sem α} {Q Q' : α → Shared → Prop} {M : Model} {A : Around} {E E' : Value → Shared → Prop} {s : Shared} (h : wpAny M A t Q E s) (h' : wpAny M A t Q' E' s) : wpAny M A t (fun a s => Q a s ∧ Q' a s) (fun e s => E e s ∧ E' e s) s :=
  fun Γ p hΓ => wp_both t p s (h Γ p hΓ) (h' Γ p hΓ)
end L2

namespace L2
open PySem PySem.W PySem.Spec PyProof.Rows
def fld2 (o : Obj) : Option Value := match o.data with
  | .fields vs => vs[2]?
  | _ => none
def DK (h h' : Heap) : Prop := ∀ b o, h.get? b = some o → ∃ o', h'.get? b = some o' ∧ o'.dict = o.dict ∧ fld2 o' = fld2 o
theorem DK.trans {h1 h2 h3 : Heap} (x : DK h1 h2) (y : DK h2 h3) : DK h1 h3 := fun b o e => by
  obtain ⟨o1, e1, q1, r1⟩ := x b o e
  obtain ⟨o2, e2, q2, r2⟩ := y b o1 e1
  exact ⟨o2, e2, q2.trans q1, r2.trans r1⟩
theorem dk_push (h : Heap) (o : Obj) : DK h (h.push o) := fun b u e => ⟨u, Heap.get?_push_of_some _ e, rfl, rfl⟩
theorem dict_mapFields (g : Array Value → Array Value) (o : Obj) : (Obj.mapFields g o).dict = o.dict := by
  obtain ⟨c, d, da, sl⟩ := o
  cases da <;> rfl
theorem dk_fields {h : Heap} {a : Addr} {o : Obj} {vs : Array Value} (k : Nat) (v : Value) (ho : h.get? a = some o) (hd : o.data = .fields vs) (hk : k ≠ 2) : DK h (h.update a (Obj.mapFields (·.setIfInBounds k v))) := fun b u e => by
  by_cases hb : b = a
  · subst hb
    rw [ho] at e; cases e
    have hg := Obj.data_mapFields hd (·.setIfInBounds k v)
    refine ⟨_, Heap.get?_update_self (Obj.mapFields (·.setIfInBounds k v)) ho (Obj.isFreed_of_fields hg), dict_mapFields _ o, ?_⟩
    unfold fld2
    rw [hg, hd]
    show (vs.setIfInBounds k v)[2]? = vs[2]?
    exact Array.getElem?_setIfInBounds_ne hk
  · exact ⟨u, (Heap.get?_update_other _ _ (Ne.symm hb)).trans e, rfl, rfl⟩
section
variable {M : Model} {A : Around} {E : Value → Shared → Prop} {s : Shared} {B : Heap} {env : Env} {outer : List Env} {L e : Addr}
theorem dk_entry {oe : Obj} {vs : Array Value} {head : Value} {hn : Bool} (q1 : A.frames = some (env :: outer)) (q2 : s.heap.FunFrames B (env :: outer)) (q3 : env.frame = some L) (q4 : s.heap.get? e = some oe) (q5 : oe.data = .fields vs) (q6 : 1 < vs.size) :
    wpAny M A (do let a ← frameOf env; let pl ← entryPlaceOf L hn; let b ← EntryCells.newEntry head a .none (rawInt L) .none pl; setField (.ref e) 1 b) (fun _ s' => DK s.heap s'.heap) E s := by
  have ne : e ∉ (env :: outer).filterMap (·.frame) := fun z => by
    obtain ⟨_, o, ho, nf⟩ := q2.mem z
    rw [q4] at ho; cases ho; exact nf vs q5
  refine wpAny_bind (wpAny_frameOf_fun q1 q2 q3 fun g kk => wpAny_bind (wpAny_entryPlaceOf fun pl hp => ?_))
  unfold EntryCells.newEntry newFields
  have k1 : DK s.heap g := fun b o z => by obtain ⟨sl, z2⟩ := kk.2.2 b o z; exact ⟨_, z2, rfl, rfl⟩
  have k2 : g.get? e = some oe := (kk.2.1 e ne).trans q4
  exact wpAny_bind (wpAny_newObj_type (wpAny_setField (Heap.get?_push_of_some _ k2) q5 q6 (k1.trans ((dk_push _ _).trans (dk_fields _ _ (Heap.get?_push_of_some _ k2) q5 (by decide))))) (hp.sizeOk5 _ _ _ _ _))
theorem dk_note1 {oe : Obj} {vs : Array Value} (q1 : A.frames = some (env :: outer)) (q2 : s.heap.FunFrames B (env :: outer)) (q3 : env.frame = some L) (q4 : s.heap.get? e = some oe) (q5 : oe.data = .fields vs) (q6 : vs[1]? = some .none) :
    wpAny M A (noteFrame (.ref e) env) (fun _ s' => DK s.heap s'.heap) E s := by
  unfold noteFrame
  simp only [q3]
  refine wpAny_bind (wpAny_field q4 q5 q6 ?_)
  rw [if_neg (by decide)]
  exact dk_entry q1 q2 q3 q4 q5 (Array.getElem?_eq_some_iff.mp q6).1
theorem dk_note2 {C a0 : Value} (q1 : A.frames = some (env :: outer)) (q2 : s.heap.FunFrames B (env :: outer)) (q3 : env.frame = some L) (q4 : s.heap.TracedW B e C a0) : wpAny M A (noteFrame (.ref e) env) (fun _ s' => DK s.heap s'.heap) E s := by
  obtain ⟨oe, vs, T, oT, ts, he, ⟨_, _⟩, hd, h1, hnT, hTe, hT, hdT, h3⟩ := q4
  unfold noteFrame
  simp only [q3]
  refine wpAny_bind (wpAny_field he hd h1 ?_)
  rw [if_pos (by simp)]
  refine wpAny_bind (wpAny_field hT hdT h3 ?_)
  rw [if_neg (by simp [rawInt])]
  have k1 := dk_fields 3 Value.none hT hdT (by decide)
  refine wpAny_bind (wpAny_setField hT hdT (Array.getElem?_eq_some_iff.mp h3).1 ?_)
  have oth : ∀ b, b ≠ T → (s.heap.update T (Obj.mapFields (·.setIfInBounds 3 Value.none))).get? b = s.heap.get? b := fun b hb => Heap.get?_update_other _ _ (Ne.symm hb)
  have nr : ∀ b o, s.heap.get? b = some o → (∀ vs, o.data ≠ .fields vs) → b ≠ T := fun b o hb nf q => by rw [q, hT] at hb; cases hb; exact nf ts hdT
  exact thn (dk_entry q1 (q2.of_keeps fun b o hb nf => ⟨o, (oth b (nr b o hb nf)).trans hb, rfl⟩) q3 ((oth e (Ne.symm hTe)).trans he) hd (Array.getElem?_eq_some_iff.mp h1).1) fun _ _ k => k1.trans k
theorem dk_fly {C a0 fl : Value} (q4 : s.heap.TracedAtW B e C a0 fl) : wpAny M A (setFlight (.ref e) none) (fun _ s' => DK s.heap s'.heap) E s := by
  obtain ⟨oe, vs, T, oT, ts, he, _, hd, h1, _, _, hT, hdT, h3⟩ := q4
  unfold setFlight
  refine wpAny_bind (wpAny_field he hd h1 ?_)
  rw [if_pos (by simp)]
  exact wpAny_setField hT hdT (Array.getElem?_eq_some_iff.mp h3).1 (dk_fields _ _ hT hdT (by decide))
end
end L2

namespace L2
open PySem PySem.W PySem.Spec PyProof.Rows
def DictIs (c : Bool) (h : Heap) (e : Addr) (dd : Option Addr) : Prop := ∃ o, h.get? e = some o ∧ o.dict = dd ∧ (c = true → fld2 o = some .none)
theorem DK.is {c : Bool} {h h' : Heap} {e : Addr} {dd : Option Addr} (k : DK h h') (x : DictIs c h e dd) : DictIs c h' e dd := by
  obtain ⟨o, e1, q, r⟩ := x
  obtain ⟨o', e2, q2, r2⟩ := k e o e1
  exact ⟨o', e2, q2.trans q, fun z => r2.trans (r z)⟩
section
variable {M : Model} {A : Around} {E : Value → Shared → Prop} {s : Shared} {B : Heap} {env : Env} {outer : List Env} {L e : Addr} {C a0 : Value} {Q : Unit → Shared → Prop}
theorem dk_leave {h0 : Heap} {m : Sem Unit} (hm : wpAny M A m (fun _ s' => (∃ fl, s'.heap.TracedAtW B e C a0 fl) ∧ DK h0 s'.heap) E s) : wpAny M A (m >>= fun _ => setFlight (.ref e) none) (fun _ s' => DK h0 s'.heap) E s :=
  wpAny_bind (wpAny_mono hm (fun _ s1 ⟨⟨fl, t⟩, k⟩ => wpAny_mono (dk_fly t) (fun _ _ k2 => k.trans k2) fun _ _ z => z) fun _ _ z => z)
theorem leaves_first2 {oe : Obj} {vs : Array Value} (q1 : A.frames = some (env :: outer)) (q2 : s.heap.FunFrames B (env :: outer)) (q3 : env.frame = some L) (q4 : s.heap.get? e = some oe) (qb : B.StaysIn s.heap) (qe : B.get? e = none) (q5 : oe.data = .fields vs) (q6 : vs[1]? = some .none)
    (q7 : vs[0]? = some a0) (h : ∀ h', Heap.FlyingW B outer e oe.cls a0 h' → s.heap.UpToSlots h' → DK s.heap h' → Q () { s with heap := h' }) : wpAny M A (leaving env (.ref e)) Q E s := by
  refine wpAny_mono (wpAny_both (wpAny_leaving_firstW (Q := fun _ s' => ∃ h', s' = { s with heap := h' } ∧ Heap.LeftW B (env :: outer) e oe.cls a0 s.heap h') (E := E) q1 q2 q3 q4 qb qe q5 q6 q7 fun h' a => ⟨h', rfl, a⟩) (dk_leave (E := E) (C := oe.cls) (a0 := a0) (B := B) (m := noteFrame (.ref e) env)
    (wpAny_mono (wpAny_both (Q := fun _ s' => ∃ fl, s'.heap.TracedAtW B e oe.cls a0 fl) (E := E) ?_ (dk_note1 (E := E) q1 q2 q3 q4 q5 q6)) (fun _ _ z => z) fun _ _ z => z.1))) (fun _ s' z => ?_) fun _ _ z => z.1
  · unfold noteFrame
    simp only [q3]
    refine wpAny_bind (wpAny_field q4 q5 q6 ?_)
    rw [if_neg (by decide)]
    exact wpAny_entryW q1 q2 q3 q4 qb qe q5 (Array.getElem?_eq_some_iff.mp q6).1 q7 fun h' n => ⟨_, n.2.2.1⟩
  · obtain ⟨⟨h', rfl, k1, ⟨_, _, k2⟩, k3, k4⟩, k⟩ := z
    exact h h' ⟨k1, qe, k2, k3⟩ k4 k
theorem looks_on2 (q1 : A.frames = some (env :: outer)) (q3 : env.frame = some L) (fl : Heap.FlyingW B (env :: outer) e C a0 s.heap) (h : ∀ h', Heap.HeldW B (env :: outer) e C a0 L h' → s.heap.UpToSlots h' → DK s.heap h' → Q () { s with heap := h' }) :
    wpAny M A (noteFrame (.ref e) env) Q E s := by
  refine wpAny_mono (wpAny_both (wpAny_looks_onW (Q := fun _ s' => ∃ h', s' = { s with heap := h' } ∧ Heap.HeldW B (env :: outer) e C a0 L h' ∧ s.heap.UpToSlots h') (E := E) q1 q3 fl fun h' a b => ⟨h', rfl, a, b⟩) (dk_note2 (E := E) q1 fl.2.2.1 q3 fl.2.2.2)) (fun _ s' z => ?_) fun _ _ z => z.1
  obtain ⟨⟨h', rfl, a, b⟩, k⟩ := z
  exact h h' a b k
theorem lands2 {l : List Env} (hh : Heap.HeldW B l e C a0 L s.heap) (h : ∀ h', Heap.FlyingW B l e C a0 h' → s.heap.UpToSlots h' → DK s.heap h' → Q () { s with heap := h' }) : wpAny M A (setFlight (.ref e) none) Q E s := by
  refine wpAny_mono (wpAny_both (wpAny_landsW (Q := fun _ s' => ∃ h', s' = { s with heap := h' } ∧ Heap.FlyingW B l e C a0 h' ∧ s.heap.UpToSlots h') (E := E) hh fun h' a b => ⟨h', rfl, a, b⟩) (dk_fly (E := E) hh.2.2.2)) (fun _ s' z => ?_) fun _ _ z => z.1
  obtain ⟨⟨h', rfl, a, b⟩, k⟩ := z
  exact h h' a b k
end
def CXB (c : Bool) (P : Program) (w : World) : CXT := fun outer H s E e s' => ∃ (x C : Addr) (a0 : Value) (B : Heap) (H' : Hp) (dd : Option Addr), e = .ref x ∧ s'.os = s.os ∧ AllBare s'.gens ∧ Un (frs outer) [] H H' s.heap s'.heap ∧ HOk P w H' s'.heap ∧
  Heap.FlyingW B outer x (.ref C) a0 s'.heap ∧ (∀ b o, s.heap.get? b = some o → b ∉ frs outer → ∃ o', B.get? b = some o') ∧ (∀ b u, H' b = some u → ∃ o', B.get? b = some o') ∧ s.heap.get? x = none ∧ H' x = none ∧ DictIs c s'.heap x dd ∧ E (.ref C) dd H'
abbrev CX2 := CXB false
def del (H : Hp) (e : Addr) : Hp := fun b => if b = e then none else H b
theorem del_same {H : Hp} {e : Addr} : del H e e = none := by unfold del; rw [if_pos rfl]
theorem del_ne {H : Hp} {e b : Addr} (h : b ≠ e) : del H e b = H b := by unfold del; rw [if_neg h]
theorem del_some {H : Hp} {e b : Addr} {u : HO} (h : del H e b = some u) : b ≠ e ∧ H b = some u := by
  by_cases hb : b = e
  · rw [hb, del_same] at h; cases h
  · rw [del_ne hb] at h; exact ⟨hb, h⟩
section
variable {c : Bool} {P : Program} {w : World} {K : PySem.W.Frag} {mg : Str → Option Value} {base : Heap} {N : List Str} {qual : Str} {scope : Scope} {f : Addr} {cd : Value} {A : Around} {outer : List Env} {s : Shared} {H : Hp} {E : XK}
theorem Un.del {fs : List Addr} {H H1 : Hp} {h h2 : Heap} {e : Addr} (U : Un fs [] H H1 h h2) (he : H e = none) : Un fs [] H (L2.del H1 e) h h2 where
  keep := U.keep
  slot := U.slot
  free := fun b o q n hx => by
    by_cases hb : b = e
    · rw [hb]; exact del_same
    · rw [del_ne hb]; exact U.free b o q n hx
  there := U.there
  tups := fun b xs q => by rw [del_ne (ne_of_none q he)]; exact U.tups b xs q
  frzs := fun b o u q => by rw [del_ne (ne_of_none q he)]; exact U.frzs b o u q
  tbls := fun b ps q => by obtain ⟨m, z⟩ := U.tbls b ps q; exact ⟨m, by rw [del_ne (ne_of_none q he)]; exact z⟩
theorem HOk.del {H : Hp} {h : Heap} {e : Addr} {φ : Heap → Prop} (hok : HOk P w H h) (he : H e = some (.ext φ)) : HOk P w (L2.del H e) h := fun b u q => by
  obtain ⟨hb, q⟩ := del_some q
  refine (hok b u q).stay (fun _ _ _ z => z) (fun c z => ?_) (fun c xs z => ?_) fun c o u z => by rw [del_ne (ne_of z he (by intro z; cases z))]; exact z
  · rw [del_ne (ne_of z he (by intro z; cases z))]; exact z
  · rw [del_ne (ne_of z he (by intro z; cases z))]; exact z
end
def ExcClsAt (h : Heap) (C : Addr) (bm : List Value) : Prop := ∃ nm q N bs hdct sn sub ab col dd k0 k1 k2 k3 k5 newId, h.get? C = some (excClassObj nm q C N bs bm hdct sn sub ab col dd k0 k1 k2 k3 k5 newId)
section
variable {M : Model} {A : Around} {E : Value → Shared → Prop} {env : Env}
theorem raise_inst {s : Shared} {x : Sem Value} {Q : Flow → Shared → Prop} (hh : A.handled = none)
    (h : wpAny M A x (fun v s1 => ∃ e t de C bm, v = .ref e ∧ ExcClsAt s1.heap C bm ∧ bm.contains (.type "BaseException") = true ∧
      s1.heap.get? e = some { cls := .ref C, dict := de, data := .fields #[t, .none, .none, .none, .bool false, .none] } ∧ E (.ref e) s1) E s) :
    wpAny M A (raiseStmt env (some x) none) Q E s := by
  unfold raiseStmt
  refine wpAny_bind (wpAny_mono h (fun v s1 h1 => ?_) fun _ _ x => x)
  obtain ⟨e, t, de, C, bm, rfl, ⟨_, _, _, _, _, _, _, _, _, _, _, _, _, _, _, _, hC⟩, hb, he, hE⟩ := h1
  have hB : (Value.ref C :: bm).contains (.type "BaseException") = true := by rw [List.contains_cons, hb, Bool.or_true]
  obtain ⟨hp, g, d, tk, os⟩ := s1
  repeat (first | with_reducible refine wpAny_loadPart_at he ?_ | with_reducible refine wpAny_loadPart_at hC ?_ | (with_reducible refine wpAny_isSubtype_exc hC ?_; rw [hB]) | wp_step)
  exact wpAny_raiseNew_none hh hE
end
def tRaiseV (K : PySem.W.Frag) (E : XK) (H₀ : Hp) (te : TE) : TS := fun _ σ H => te σ H fun v H1 => ∃ e C dd, v = .ref e ∧ H1 e = some (ErrO e C dd) ∧ H₀ e = none ∧ (∃ fI, XClsI K C fI) ∧ E (.ref C) dd (del H1 e)
section
variable {c : Bool} {P : Program} {w : World} {K : PySem.W.Frag} {mg : Str → Option Value} {base : Heap} {N : List Str} {qual : Str} {scope : Scope} {f : Addr} {cd : Value} {A : Around} {outer : List Env} {s : Shared} {H : Hp} {E : XK}
theorem fly_out {pins : List (Addr × Obj)} {σ : St} {H2 : Hp} {s2 : Shared} {e C : Addr} {dd : Option Addr} {oe : Obj} {vs : Array Value} {φ : Heap → Prop} {a0 : Value} (I2 : Inv (cxOf (CXB c P w) P w K mg base N qual scope f cd A outer s H E) pins σ H2 s2) (he : H2 e = some (.ext φ)) (hn : H e = none)
    (ho : s2.heap.get? e = some oe) (hc : oe.cls = .ref C) (hd : oe.dict = dd) (hv : oe.data = .fields vs) (h1 : vs[1]? = some .none) (h0 : vs[0]? = some a0) (h2 : c = true → vs[2]? = some .none) (q : E (.ref C) dd (del H2 e)) :
    (cxOf (CXB c P w) P w K mg base N qual scope f cd A outer s H E).xe (.ref e) s2 := by
  have thr : ∀ b o, s.heap.get? b = some o → ∃ o1, s2.heap.get? b = some o1 := fun b o e => I2.base.there b o e (fun z => nomatch z)
  have stk : s2.heap.FunFrames base (envOfC qual scope s.heap.objs.size f cd :: outer) := I2.stack
  have nx : s.heap.get? e = none := by
    cases z : s.heap.get? e with
    | none => rfl
    | some o =>
      have := I2.base.free e o z hn (fun z => nomatch z)
      rw [he] at this; cases this
  generalize hfr : (envOfC qual scope s.heap.objs.size f cd :: outer).filterMap (·.frame) = fr
  have hin : ∀ env ∈ (envOfC qual scope s.heap.objs.size f cd :: outer), ∀ b, env.frame = some b → b ∈ e :: fr := fun env hz b hb => List.mem_cons_of_mem _ (by rw [← hfr]; exact List.mem_filterMap.mpr ⟨env, hz, hb⟩)
  have hfs : frs (envOfC qual scope s.heap.objs.size f cd :: outer) = fr := hfr
  generalize hB : hideAll s2.heap (e :: fr) = B
  have bst : B.StaysIn s2.heap := fun b o e => by rw [← hB] at e; exact of_hideAll _ e
  have bget : ∀ b o, s2.heap.get? b = some o → b ∉ e :: fr → B.get? b = some o := fun b o e hb => by rw [← hB]; exact hideAll_get _ e hb
  have bff : s2.heap.FunFrames B (envOfC qual scope s.heap.objs.size f cd :: outer) := by rw [← hB]; exact funFrames_hide stk hin
  have be : B.get? e = none := by rw [← hB]; exact hideAll_none _ (List.mem_cons_self ..)
  have c1 : ∀ b o, s.heap.get? b = some o → b ∉ frs outer → ∃ o', B.get? b = some o' := fun b o z hb => by
    obtain ⟨o1, e1⟩ := thr b o z
    refine ⟨o1, bget b o1 e1 fun k => ?_⟩
    rcases List.mem_cons.mp k with k | k
    · rw [k, nx] at z; cases z
    · have k : b ∈ s.heap.objs.size :: frs outer := by rw [← hfs] at k; exact k
      rcases List.mem_cons.mp k with k | k
      · exact absurd (Heap.lt_size z) (by rw [k]; exact Nat.lt_irrefl _)
      · exact hb k
  have tin : ∀ b u, del H2 e b = some u → ∃ o', B.get? b = some o' := fun b u z => by
    obtain ⟨hb, z⟩ := del_some z
    obtain ⟨o, ho⟩ : ∃ o, s2.heap.get? b = some o := (I2.hok b u z).there
    refine ⟨o, bget b o ho fun k => ?_⟩
    rcases List.mem_cons.mp k with k | k
    · exact hb k
    · have := I2.stkFree b (by rw [← hfs] at k; exact k)
      rw [z] at this; cases this
  refine leaves_first2 I2.ok.frames bff rfl ho bst be hv h1 h0 fun h3 fl3 up dk => ?_
  rw [hc] at fl3
  refine ⟨e, C, a0, B, del H2 e, dd, rfl, I2.os, I2.bare, ?_, (I2.hok.del he).fly tin bst fl3.1, fl3, c1, tin, nx, del_same, dk.is ⟨oe, ho, hd, fun z => by unfold fld2; rw [hv]; exact h2 z⟩, q⟩
  exact Un.fly (B := B) (I2.base.del hn) bst fl3.1 c1 up fun b hb => (stk.mem (b := b) (List.mem_cons_of_mem _ hb)).2
theorem ps_raiseV {x : Expr} {te : TE} {pos : Pos} (hp : PE (cxOf (CXB c P w) P w K mg base N qual scope f cd A outer s H E) x te) : PS (cxOf (CXB c P w) P w K mg base N qual scope f cd A outer s H E) (.Raise (some x) none pos) (tRaiseV K E H te) := by
  intro pins s1 σ H1 D I h
  have W := hp pins s1 σ H1 _ I h
  show wpAny _ _ (do standAt pos; raiseStmt _ (some (do let v ← eval x _; standAt pos; pure v)) none) _ _ s1
  refine wpAny_bind (wpAny_standAt (raise_inst (I.ok.hd rfl) (wpAny_bind (thn W fun v s2 ⟨u, H2, I2, ru, e, C, dd, eu, he, hn, ⟨fI, hx⟩, q⟩ => wpAny_bind (wpAny_standAt (wpAny_pure ?_))))))
  subst eu
  obtain rfl : v = Value.ref e := ru
  obtain ⟨tl, Na, nm, q', bs, hdct, sn, sub, ab, col, dc, k0, k1, k2, k3, k5, mN, hC, hN, hni, T⟩ := xclsI_of I2.kIn hx
  obtain ⟨t0, ho⟩ : ErrAt e C dd s2.heap := (I2.hok e _ he).1
  exact ⟨e, t0, dd, C, tl, rfl, ⟨_, _, _, _, _, _, _, _, _, _, _, _, _, _, _, _, hC⟩, T.hasType PySem.F.excBase_ValueError.hasBase, ho, fly_out I2 he hn ho rfl rfl rfl rfl rfl (fun _ => rfl) q⟩
end
end L2

namespace L2
open PySem PySem.W PySem.Spec PyProof.Rows
def tErrNew (C : Addr) (sp : Sp) (E : XK) (t : TA) : TE := fun σ H Q => t σ H fun vs H1 => ∀ e, H1 e = none → sp (.ref e :: vs) (upd H1 e (ErrO e C none)) (fun v H2 => v = .non ∧ Q (.ref e) H2) E
structure XMk (K : PySem.W.Frag) (C f : Addr) : Prop where
  cls : XClsI K C f
  fn : PySem.W.isFn K (.ref f) = true
  kp : PySem.W.keepIn K (.ref C) = true
section
variable {X : Cx} {CX : CXT} {k : Nat} {f C : Addr} {fd : FuncData} {ps : List Str} {sp : Sp} {E : XK} {x : Str} {p pos : Pos} {e : Expr} {es : List Expr} {t : TA}
theorem pe_errNew (M : XMk X.K C f) (F : FnOk X.prog X.w X.K X.mg X.base CX k f fd ps sp) (hr : Room (k + 1) X.A) (hg : Gl X x) (hm : X.mg x = some (.ref C)) (hb : Binds X.K fd ps []) (hx : Passes CX X E)
    (ha : PA X (e :: es) t) (hsz : ps.length ≤ 100) (hdb : (x == ("__debug__" : Str)) = false := by decide) (he : starEach (e :: es) X.env = (false, eval e X.env) :: starEach es X.env := by rfl) (hpl : (backTo pos (starEach es X.env)).any (·.1) = false := by rfl) :
    PE X (.Call (.Name x p) (e :: es) [] pos) (tErrNew C sp E t) := by
  intro pins s σ H Q I h
  refine wpAny_Call_Name_kw (ld_glob I hg hm ?_ hdb)
  refine PySem.W.callWith_K (h₀ := X.base) I.ok.mod.kin M.kp (thn (ha pos pins s σ H _ I h) fun us s1 ⟨vs, H1, I1, r, q⟩ => ⟨I1.kIn, ?_⟩) he hpl
  obtain ⟨tl, Na, nm, q', bs, hdct, sn, sub, ab, col, dc, k0, k1, k2, k3, k5, mN, hC, hN, hni, T⟩ := xclsI_of I1.kIn M.cls
  obtain ⟨oI, hoI, hcI⟩ := Option.map_eq_some_iff.mp (beq_iff_eq.mp M.fn)
  obtain ⟨hh, g, d, tk, os⟩ := s1
  refine call_initU PySem.F.excBase_ValueError (by decide) PySem.F.excBase_ValueError T hC hN hni (I1.kIn f oI hoI) hcI (fun h' e' hs hmd => ?_) ?_
  · have I2 := Inv.errMade (s := ⟨hh, g, d, tk, os⟩) (C := C) I1 hs hmd
    have hq := q e' (I1.hok.fresh hs)
    have r2 : Vals (V.ref e' :: vs) (Value.ref e' :: us) := .cons rfl r
    have hl : (Value.ref e' :: us ++ []).length = ps.length := by
      have z := r2.length
      rw [F.len _ _ _ _ hq] at z
      rw [List.append_nil]; exact z.symm
    have hb' := hb ⟨h', g, d, tk, os⟩ (Value.ref e' :: us) I2.kIn hl
    rw [List.append_nil] at hb'
    refine wpAny_call (codeAny_mono (F.run _ X.stack _ _ ⟨Value.ref e' :: us, []⟩ (Value.ref e' :: us) _ _ E (hr.make C us []) (I2.env0.make C us []) hb' r2 hq) fun r s' hq' => ?_)
    cases r with
    | error e => exact hx pins σ _ _ e s' I2 hq'
    | ok fl =>
      cases fl with
      | ret u =>
        obtain ⟨v, H', I3, rv, ev, q3⟩ := I2.after hq'
        subst ev
        exact ⟨rv, ⟨V.ref e', H', I3, rfl, q3⟩⟩
      | next => exact False.elim hq'
      | brk => exact False.elim hq'
      | cont => exact False.elim hq'
  · have z := q hh.objs.size (I1.hok.fresh (Nat.le_refl _))
    have z2 := F.len _ _ _ _ z
    have z3 : vs.length + 1 = ps.length := z2
    have z4 := r.length
    rw [sizeLine_eq, List.nil_append]; lia
end
theorem lands_againW2 {M : Model} {A : Around} {E : Value → Shared → Prop} {s : Shared} {B : Heap} {l : List Env} {e : Addr} {C a0 : Value} {Q : Unit → Shared → Prop} (fl : Heap.FlyingW B l e C a0 s.heap)
    (h : ∀ h', Heap.FlyingW B l e C a0 h' → s.heap.UpToSlots h' → DK s.heap h' → Q () { s with heap := h' }) : wpAny M A (setFlight (.ref e) none) Q E s := by
  refine wpAny_mono (wpAny_both (lands_againW (Q := fun _ s' => ∃ h', s' = { s with heap := h' } ∧ Heap.FlyingW B l e C a0 h' ∧ s.heap.UpToSlots h') (E := E) fl fun h' a b => ⟨h', rfl, a, b⟩) (dk_fly (E := E) fl.2.2.2.at)) (fun _ s' z => ?_) fun _ _ z => z.1
  obtain ⟨⟨h', rfl, a, b⟩, k⟩ := z
  exact h h' a b k
def ExcO2 (x C : Addr) (dd : Option Addr) : HO := .ext fun h => ∃ o, h.get? x = some o ∧ o.cls = .ref C ∧ o.dict = dd ∧ notCls o = true
section
variable {X : Cx} {pins : List (Addr × Obj)} {σ : St} {H : Hp} {s : Shared} {x : Addr}
theorem Inv.adoptX2 {C : Addr} {dd : Option Addr} (I : Inv X pins σ H s) (hn : H x = none) (h0 : X.s₀.heap.get? x = none) (hL : x ≠ X.env.locals) (hc : ∀ y c, X.env.cells.lookup y = some c → c ≠ x) (hp : ∀ p ∈ X.pn ++ pins, p.1 ≠ x)
    (ho : ∃ o, s.heap.get? x = some o ∧ o.cls = .ref C ∧ o.dict = dd ∧ notCls o = true) : Inv X pins σ (upd H x (ExcO2 x C dd)) s := by
  refine ⟨I.ok, I.os, I.bare, ⟨I.base.keep, I.base.slot, fun b o e n hx => ?_, I.base.there, fun b xs e => ?_, fun b o u e => ?_, fun b ps e => ?_⟩, I.loc, I.cell, ?_, fun y c e => ?_, fun p hq => ?_, fun b u e => ?_, I.len⟩
  · have : b ≠ x := fun z => by rw [z, h0] at e; cases e
    rw [upd_ne this]; exact I.base.free b o e n hx
  · have := I.base.tups b xs e
    rw [upd_ne (ne_of_none this hn)]; exact this
  · have := I.base.frzs b o u e
    rw [upd_ne (ne_of_none this hn)]; exact this
  · obtain ⟨more, this⟩ := I.base.tbls b ps e
    exact ⟨more, by rw [upd_ne (ne_of_none this hn)]; exact this⟩
  · rw [upd_ne (Ne.symm hL)]; exact I.free
  · rw [upd_ne (hc y c e)]; exact I.freeC y c e
  · obtain ⟨e, n, ne, nf, d⟩ := I.pin p hq
    exact ⟨e, by rw [upd_ne (hp p hq)]; exact n, ne, nf, d⟩
  · by_cases hb : b = x
    · subst hb
      rw [upd_same] at e
      cases e
      obtain ⟨o, h1, h2⟩ := ho
      exact ⟨⟨o, h1, h2⟩, ⟨o, h1⟩, fun h1 h2 ⟨o, ho, r⟩ k => ⟨o, k o ho, r⟩⟩
    · rw [upd_ne hb] at e
      exact (I.hok b u e).stay (fun _ _ _ q => q) (fun c q => by rw [upd_ne (ne_of_none q hn)]; exact q) fun c xs q => by rw [upd_ne (ne_of_none q hn)]; exact q
theorem caughtAs {c : Bool} {CF : Addr} {cn n : Str} {np hp : Pos} {i : Nat} {b₀ : Stmt} {suite : List Stmt} {ts : TS} {D : Ends} {H1 : Hp} {s1 s2 : Shared} {ev : Value} (I1 : Inv X pins σ H1 s1)
    (hgc : Gl X cn) (hmc : X.mg cn = some (.ref CF)) (hN : X.N.Nodup) (hi : X.N[i]? = some n) (hx : X.env.scope.names.lookup n = some .local) (hs : ∀ x, PSs (X.inSuite x) (b₀ :: suite) ts) (hst : X.stack = X.env :: X.outer ∧ X.env.frame = some X.env.locals ∧ X.ex = [])
    (hq : CXB c X.prog X.w X.stack H1 s1 (fun cls dd H2 => ∃ C, cls = .ref C ∧ exmOne X.K (.ref C) (.ref CF) = some true ∧ ∀ x, H2 x = none →
      ts { nx := fun σ' H' => ∃ v, σ'[i]? = some (some v) ∧ D.nx (σ'.set i none) H', rt := fun _ _ => False } (σ.set i (some (.ref x))) (upd H2 x (ExcO2 x C dd))) ev s2) (hdc : (cn == ("__debug__" : Str)) = false) :
    wpAny (model X.prog X.w) X.A (noteFrame ev X.env) (fun _ s3 => wpAny (model X.prog X.w) X.A (setFlight ev none) (fun _ s4 => wpAny (model X.prog X.w) X.A (handleBy ev X.env [.ExceptHandler (some (.Name cn np)) (some n) (b₀ :: suite) hp]) (SP X pins D) X.xe s4) X.xe s3) X.xe s2 := by
  obtain ⟨x, C, a0, B, H2, dd, rfl, os, bare, U, hok, fl, c1, c2, nx, hxn, di, C', eC, hex, q2⟩ := hq
  cases eC
  have fl0 : Heap.FlyingW B (X.env :: X.outer) x (.ref C) a0 s2.heap := by rw [← hst.1]; exact fl
  have hfr : X.A.frames = some (X.env :: X.outer) := by rw [← hst.1]; exact I1.ok.frames
  have ff : ∀ b ∈ frs X.stack, ∃ o, s2.heap.get? b = some o ∧ ∀ vs, o.data ≠ .fields vs := fun b hb => (fl.2.2.1.mem (b := b) hb).2
  show wpAny _ _ (noteFrame (.ref x) X.env) _ _ s2
  refine looks_on2 hfr hst.2.1 fl0 fun h3 held up3 dk3 => ?_
  refine lands2 (s := { s2 with heap := h3 }) held fun h4 fl4 up4 dk4 => ?_
  have inv : ∀ {h' : Heap}, B.StaysIn h' → s2.heap.UpToSlots h' → Inv X pins σ H2 { s2 with heap := h' } := fun {h'} st up =>
    I1.call' (s' := { s2 with heap := h' }) (ch := []) os (U.fly fl.1 st c1 up ff) (hok.fly c2 fl.1 st) bare (fun b z => nomatch z)
  have I4 := inv fl4.1 (up3.trans up4)
  obtain ⟨ob4, hob4, hcl4⟩ := fl4.there
  refine wpAny_handleBy_cons (codeAny_handlers_test (ld_glob (X := X.inSuite x) (I4.inSuite x) hgc hmc ?_ hdc)) (by intro q; cases q)
  have LT : Looks (model X.prog X.w) h4 (typeOf (.ref x)) (.ref C) := by rw [← hcl4]; exact (Looks.ld hob4).andThen .now
  refine Looks.here (s := { s2 with heap := h4 }) (exm_one (M := model X.prog X.w) I4.kIn LT hex) ?_
  refine codeAny_handlers_suite_as ?_
  refine lands_againW2 (s := { s2 with heap := h4 }) fl4 fun h5 fl5 up5 dk5 => ?_
  have I5 := inv fl5.1 ((up3.trans up4).trans up5)
  have h0 : X.s₀.heap.get? x = none := by
    cases z : X.s₀.heap.get? x with
    | none => rfl
    | some o =>
      obtain ⟨o', e'⟩ := I1.base.there x o z (by rw [hst.2.2]; exact fun z => nomatch z)
      rw [nx] at e'; cases e'
  have I6 : Inv X pins σ (upd H2 x (ExcO2 x C dd)) { s2 with heap := h5 } := by
    refine I5.adoptX2 hxn h0 ?_ ?_ ?_ ?_
    · obtain ⟨m, ⟨o, _, _, ho, _⟩, _⟩ := I1.loc
      exact fun z => by rw [z, ho] at nx; cases nx
    · intro y c e z
      obtain ⟨v, o, ho, _⟩ := I1.cell y c e
      rw [z, nx] at ho; cases ho
    · intro p' hp' z
      have := (I1.pin p' hp').1
      rw [z, nx] at this; cases this
    · obtain ⟨_, _, _, o, vs5, _, _, _, ho, ⟨hc, _⟩, hd5, _⟩ := fl5
      obtain ⟨o', ho', hd', _⟩ := ((dk3.trans dk4).trans dk5).is di
      have ho : h5.get? x = some o := ho
      rw [ho] at ho'; cases ho'
      exact ⟨o, ho, hc, hd', by unfold notCls; rw [hd5]⟩
  refine store_ok (X := X.inSuite x) (i := i) (v := .ref x) (I6.inSuite x) hN hi (.inl hx) rfl (fun s7 I7 => ?_) (.inr hx)
  refine wpAny_mono (hs x pins s7 (σ.set i (some (.ref x))) _ _ I7 (q2 x hxn)) (fun f' s8 h8 => ?_) fun _ _ z => z.elim
  cases f' with
  | next =>
    obtain ⟨σ8, H8, I8, v8, hv8, q8⟩ := h8
    have I8 := I8.outSuite I1.ok
    show wpAny _ _ (do bindName X.env n .none; unbindBehindTheSuite X.env n hp) _ _ s8
    refine wpAny_bind (wpAny_bindName (store_ok (i := i) (v := .non) I8 hN hi (.inl hx) rfl (fun s9 I9 => ?_) (.inr hx)))
    have hl8 : i < σ8.length := (List.getElem?_eq_some_iff.mp hv8).1
    unfold unbindBehindTheSuite
    refine wpAny_onRaise (unbind_ok (i := i) (v := .non) I9 hN hi hx (List.getElem?_set_self hl8) fun s10 I10 => ?_)
    rw [List.set_set] at I10
    exact ⟨_, H8, I10, q8⟩
  | ret u => obtain ⟨_, _, _, _, _, z⟩ := h8; exact z.elim
  | brk => obtain ⟨_, _, _, z⟩ := h8; exact z.elim
  | cont => obtain ⟨_, _, _, z⟩ := h8; exact z.elim
end
theorem xat2 {x C : Addr} {dd : Option Addr} {h : Heap} (p : ∃ o, h.get? x = some o ∧ o.cls = .ref C ∧ o.dict = dd ∧ notCls o = true) : XAt x C h := let ⟨o, a, b, _⟩ := p; ⟨o, a, b⟩
def rIsX2 (K : PySem.W.Frag) : List V → Hp → VK → Prop := fun xs H Q => ∃ x C dd c b, H x = some (ExcO2 x C dd) ∧ XTell K C ∧ ((∃ D, xs = [.ref x, .ref D] ∧ c = Value.ref D) ∨ (∃ T, xs = [.ref x, .ty T] ∧ c = Value.type T)) ∧ kitOne K (.ref C) c = some b ∧ Q (.bl b) H
section
open PySem.Calls Builtin Builtin.ObjectAttr
variable {X : Cx}
theorem call_isX2 : CallR X (.builtin "isinstance") (rIsX2 X.K) := by
  intro pins s σ H xs us Q I r h
  obtain ⟨x, C, dd, c, b, hx, T, hc, hk, q⟩ := h
  have hp : XAt x C s.heap := xat2 (I.hok x _ hx).1
  obtain ⟨u, v, rfl, hu, hv⟩ : ∃ u v, us = [u, v] ∧ u = .ref x ∧ v = c := by
    rcases hc with ⟨D, rfl, rfl⟩ | ⟨T', rfl, rfl⟩
    · obtain ⟨u, v, rfl, ru, rv⟩ := vals2 r
      exact ⟨u, v, rfl, ru, rv⟩
    · obtain ⟨u, v, rfl, ru, rv⟩ := vals2 r
      exact ⟨u, v, rfl, ru, rv⟩
  subst hu hv
  exact kia_one (kitx_exc T) I.kIn hp hk (by intro z; cases z) fun tk => ⟨.bl b, H, I.tok _, rfl, q⟩
theorem exc_get {prog : Program} {w : World} {A : Around} {E : Value → Shared → Prop} {s : Shared} {K : PySem.W.Frag} {x C dx : Addr} {mA : Str → Option Value} {name : Str} {v : Value} {ex : Bool} {Q : Value → Shared → Prop} (X : K.In s.heap) (T : XTell K C) (ha : findIn K (.ref C) name = some none)
    (p : ∃ o, s.heap.get? x = some o ∧ o.cls = .ref C ∧ o.dict = some dx ∧ notCls o = true) (n : s.heap.Ns1 dx mA) (hv : mA name = some v) (hv' : handedIn v = true) (q : Q v { s with toks := s.toks + 1 }) : wpAny (model prog w) A (getAttr (.ref x) name ex) Q E s := by
  obtain ⟨hh, g, d, t, os⟩ := s
  obtain ⟨od, hod, hl⟩ := lookIn_ns n
  obtain ⟨o, ho, hc, hd, hn⟩ := id p
  have J : InstAt hh x o C (some od) := ⟨ho, hc, hn, by rw [hd]; exact hod⟩
  have L0 := (xat2 p).ty (M := model prog w); have L1 := looks_findIn (M := model prog w) X T.ga; have L2 := looks_findIn (M := model prog w) X T.gt
  have L3 := looks_find (M := model prog w) X J (findObj_own T.dc ha rfl (by rw [hl, hv])); have L4 := looks_mroIn (M := model prog w) X T.mb
  have hbd := F.attr_ValueError.ga.bind (.ref x)
  have hk : builtinKind "BaseException.__getattribute__" = some .slot := by decide +kernel
  have hs : splitId "BaseException.__getattribute__" = some ("BaseException", "__getattribute__") := by decide +kernel
  unfold getAttr getAttrBy; refine wpAny_bind (wpAny_mkText (wpAny_holding (wpAny_bind (L0.at (wpAny_bind (L1.at ?_))))))
  show wpAny _ _ (if (_ && _) then _ else _) _ _ _
  rw [if_neg (by rw [Bool.and_eq_true]; intro z; exact absurd z.2 (by decide +kernel))]
  unfold getAttrByItsOwn
  refine wpAny_bind ((show Looks _ _ (hookBefore (.ref C)) none from L2).at (wpAny_bind (wpAny_attempt (wpAny_holding ?_))))
  unfold callGetattribute boundAndCalled
  rw [if_neg (by intro z; rw [Bool.and_eq_true] at z; exact absurd z.2 (by decide +kernel)), hbd]
  refine wpAny_bind (wpAny_pure (wpAny_call ?_))
  refine codeAny_call_builtin F.attr_ValueError.ga.plain F.entry_bexc_ga ?_
  have hao := F.args_bexc_ga (.ref x) (.str name t)
  simp only [checkBuiltinCall, hk, hs]; unfold isInstance
  repeat lk
  exact handed_on hv' q
def tErrFld (K : PySem.W.Frag) (te : TE) (f : Str) : TE := fun σ H Q => te σ H fun v H1 => ∃ x C dx fs u, v = .ref x ∧ H1 x = some (ExcO2 x C (some dx)) ∧ H1 dx = some (.xd fs) ∧ XTell K C ∧ NoAttr K C f ∧ fs.lookup f = some u ∧ Q u H1
theorem pe_errFld {e : Expr} {te : TE} {f : Str} {pos : Pos} (he : PE X e te) (hb : attributeBase e f X.env (eval e X.env) = eval e X.env) : PE X (.Attribute e f pos) (tErrFld X.K te f) := by
  intro pins s σ H Q I h
  refine attr_of hb (thn (he pins s σ H _ I h) fun u s1 ⟨v, H1, I1, rv, x, C, dx, fs, y, ev, hx, hd, T, n, l, q⟩ => ?_)
  subst ev
  obtain rfl : u = Value.ref x := rv
  obtain ⟨mA, ns, r⟩ := I1.hok dx _ hd
  obtain ⟨z, hz, rz⟩ := RelO.some_of (v := y) (o := mA f) (by rw [← l]; exact r f)
  exact exc_get I1.kIn T n (I1.hok x _ hx).1 ns hz (handed_of rz) ⟨y, H1, I1.tok _, rz, q⟩
end
end L2

namespace L2
open PySem PySem.W PyProof.Rows
def SpErrI (C : Addr) (f : Str) : Sp := fun vs H Q _ => ∃ (e : Addr) (n : Int), vs = [.ref e, .int n] ∧ 0 ≤ n ∧ n < 1000000 ∧ H e = some (ErrO e C none) ∧ ∀ dx, H dx = none → dx ≠ e → Q .non (upd (upd H e (ErrO e C (some dx))) dx (.xd [(f, .int n)]))
def RtX2 (K : PySem.W.Frag) (G H₀ : Hp) (E : XK) (C : Addr) (f : Str) (d : D) : Prop := ∀ dx v F H', Ext G H₀ F H' → F dx = some (.xd [(f, v)]) → Rep K F d v → E (.ref C) (some dx) H'
def xsl2 (K : PySem.W.Frag) (x C dx : Addr) (f : Str) (d : D) : Sl := .g (.ref x) [] fun F _ => F x = some (ExcO2 x C (some dx)) ∧ ∃ v, F dx = some (.xd [(f, v)]) ∧ Rep K F d v
theorem xsl2_stab (K : PySem.W.Frag) (x C dx : Addr) (f : Str) (d : D) : Stab [] fun F _ => F x = some (ExcO2 x C (some dx)) ∧ ∃ v, F dx = some (.xd [(f, v)]) ∧ Rep K F d v :=
  fun F1 H1 F2 H2 sf _ ⟨a, v, b, c⟩ => ⟨sf _ _ a, v, sf _ _ b, c.mono sf⟩
section
variable {K : PySem.W.Frag} {G H₀ L : Hp} {ss : List Sl} {ta tb te : TE} {t : TA} {ds : List D} {D0 : Ends} {E E' : XK} {C fI : Addr} {f : Str} {pre bad : List D → Prop} {res err : List D → D}
theorem go_raiseI {n : Int} (M : XClsI K C fI) (a : EvAF K G H₀ L ss t [.int n]) (hn0 : 0 ≤ n) (hn : n < 1000000) (h : RtX2 K G H₀ E C f (.int n)) : Go K G H₀ L D0 ss (tRaiseV K E H₀ (tErrNew C (SpErrI C f) E' t)) := fun F H σ S =>
  a F H σ _ S fun vs F1 H1 e1 r1 => by
    rw [Reps] at r1
    obtain ⟨v1, r, rfl, rv1, r1⟩ := r1
    rw [Reps] at r1
    subst r1
    rw [rv1.of_int]
    intro e he
    refine ⟨e, n, rfl, hn0, hn, upd_same, fun dx hdx hne => ⟨rfl, e, C, some dx, rfl, ?_, ?_, ⟨fI, M⟩, ?_⟩⟩
    · rw [upd_ne (Ne.symm hne), upd_same]
    · exact (S.ext.trans e1).hh.free he
    · have hd1 : H1 dx = none := by rw [upd_ne hne] at hdx; exact hdx
      have eH : del (upd (upd (upd H1 e (ErrO e C none)) e (ErrO e C (some dx))) dx (.xd [(f, .int n)])) e = upd H1 dx (.xd [(f, .int n)]) := by
        funext b
        by_cases hb : b = e
        · rw [hb, del_same, upd_ne (Ne.symm hne), he]
        · rw [del_ne hb]
          by_cases hc : b = dx
          · rw [hc, upd_same, upd_same]
          · rw [upd_ne hc, upd_ne hc, upd_ne hb, upd_ne hb]
      rw [eH]
      exact h dx (.int n) _ _ ((S.ext.trans e1).newF (o := .xd [(f, .int n)]) hd1) upd_same Rep.int
theorem ev_isX2 {j : Nat} {x dx : Addr} {d : D} {c : Value} {cv : V} {b : Bool} (hs : ss[j]? = some (xsl2 K x C dx f d)) (T : XTell K C) (hc : (∃ D, cv = .ref D ∧ c = Value.ref D) ∨ (∃ T, cv = .ty T ∧ c = Value.type T)) (hk : kitOne K (.ref C) c = some b) :
    Ev K G H₀ L ss (tCB (rIsX2 K) (tCons (tVar j) (tCons (tC cv) tNil))) (.bl b) := fun F H σ Q S q => by
  obtain ⟨v, e, ew, ha, hw, st⟩ := S.get hs (by intro z; cases z)
  cases ew
  refine ⟨_, e, x, C, _, c, b, S.ext.fh _ _ hw.1, T, ?_, hk, q _ _ _ (Ext.refl S.ext.fh) Rep.bl⟩
  rcases hc with ⟨D, rfl, rfl⟩ | ⟨T', rfl, rfl⟩
  · exact .inl ⟨D, rfl, rfl⟩
  · exact .inr ⟨T', rfl, rfl⟩
theorem ev_errFld {j : Nat} {x dx : Addr} {d : D} (hs : ss[j]? = some (xsl2 K x C dx f d)) (T : XTell K C) (n : NoAttr K C f) : Ev K G H₀ L ss (tErrFld K (tVar j) f) d := fun F H σ Q S q => by
  obtain ⟨v, e, ew, ha, ⟨hx, y, hd, ry⟩, st⟩ := S.get hs (by intro z; cases z)
  cases ew
  exact ⟨_, e, x, C, dx, [(f, y)], y, rfl, S.ext.fh _ _ hx, S.ext.fh _ _ hd, T, n, by simp [List.lookup], q _ _ _ (Ext.refl S.ext.fh) ry⟩
end
section
variable {P : Program} {w : World} {K : PySem.W.Frag} {mg : Str → Option Value} {base : Heap}
theorem Fun.okX2 {c : Bool} {x qual : Str} {st : Stmt} {f : Addr} {fd : FuncData} {N ps : List Str} {k : Nat} {sp : Sp} (F : Fun K x qual st f fd) (S : FnScope N ps (defScope st)) (len : ∀ vs H Q E, sp vs H Q E → vs.length = ps.length)
    (hbody : ∀ (cdv : Value) (A : Around) (outer : List Env) (s : Shared) (H : Hp) (vs : List V) (Q : VK) (E : XK), Room k (A.deeper (envOfC qual (defScope st) s.heap.objs.size f cdv)) → sp vs H Q E →
      ∃ t, PSs (cxOf (CXB c P w) P w K mg base N qual (defScope st) f cdv A outer s H E) (defBody st) t ∧ t { nx := fun _ H' => Q .non H', rt := Q } (start N vs) H) : FnOk P w K mg base (CXB c P w) (k + 1) f fd ps sp := by
  obtain ⟨oc, od, kV, doc, pm, an, cdv, ct, osl, rfl, lk, hcd⟩ := F.ex
  exact fn_of lk hcd S len fun A outer s H vs Q E hr hsp => hbody cdv A outer s H vs Q E hr hsp
end
end L2

namespace L2
open PySem PySem.W PyProof.Rows
end L2

namespace L2
open PySem PySem.W PySem.Spec PyProof.Rows
end L2

namespace L2
open PySem PySem.W PySem.Spec PyProof.Rows
section
variable {X : Cx}
def rIsXT (K : PySem.W.Frag) : List V → Hp → VK → Prop := fun xs H Q => ∃ (x C : Addr) (dd : Option Addr) (tp : Addr) (cs : List Addr) (b : Bool), xs = [.ref x, .ref tp] ∧ H x = some (ExcO2 x C dd) ∧ XTell K C ∧ H tp = some (.tup (cs.map V.ref)) ∧ kitAny K (.ref C) (cs.map Value.ref) = some b ∧ Q (.bl b) H
theorem vals_refs : ∀ {cs : List Addr} {us : List Value}, Vals (cs.map V.ref) us → us = cs.map Value.ref
  | [], us, r => by cases r; rfl
  | c :: cs, us, r => by
    cases r with
    | cons a b =>
      rw [vals_refs b]
      obtain rfl := (show _ = Value.ref c from a)
      rfl
theorem call_isXT : CallR X (.builtin "isinstance") (rIsXT X.K) := by
  intro pins s σ H xs us Q I r h
  obtain ⟨x, C, dd, tp, cs, b, rfl, hx, T, ht, hk, q⟩ := h
  have hp : XAt x C s.heap := xat2 (I.hok x _ hx).1
  obtain ⟨u, v, rfl, ru, rv⟩ := vals2 r
  cases ru
  cases rv
  obtain ⟨_, its, rs, ⟨oc, od, oda, osl⟩, ho, hc, n, hd⟩ := I.hok tp _ ht
  dsimp only at hc hd
  subst hc hd
  have e := vals_refs rs
  subst e
  exact kia_tup (kitx_exc T) I.kIn hp ho hk (by intro z; cases z) fun tk => ⟨.bl b, H, I.tok _, rfl, q⟩
end
section
variable {K : PySem.W.Frag} {G H₀ L : Hp} {ss : List Sl} {t : TA} {ds : List D} {D0 : Ends} {C : Addr} {f : Str} {pre bad : List D → Prop} {res : List D → D} {errR : List D → D → Prop}
theorem ev_isXT {j : Nat} {x dx tt : Addr} {d : D} {cs : List Addr} {b : Bool} {tc : TA} (hs : ss[j]? = some (xsl2 K x C dx f d)) (T : XTell K C) (hc : ∀ σ H Q, Q (cs.map V.ref) H → tc σ H Q) (hz : cs.length ≤ 1000) (hk : kitAny K (.ref C) (cs.map Value.ref) = some b) :
    Ev K G H₀ L ss (tCB (rIsXT K) (tCons (tVar j) (tCons (tTup tc) tNil))) (.bl b) := fun F H σ Q S q => by
  obtain ⟨v, e, ew, ha, hw, st⟩ := S.get hs (by intro z; cases z)
  cases ew
  refine ⟨_, e, hc _ _ _ ⟨by rw [List.length_map, sizeLine_eq]; lia, fun p hp => ?_⟩⟩
  have x1 := (Ext.refl S.ext.fh).newF (o := .tup (cs.map V.ref)) hp
  exact ⟨x, C, _, p, cs, b, rfl, by rw [upd_ne (ne_of_none (S.ext.fh _ _ hw.1) hp)]; exact S.ext.fh _ _ hw.1, T, upd_same, hk, q _ _ _ x1 Rep.bl⟩
end
end L2

namespace L2
open PySem PySem.W PySem.Spec PyProof.Rows
def tTrySet2 (K : PySem.W.Frag) (sp : Sp) (ta : TA) (j i : Nat) (CF : Addr) (ts : TS) : TS := fun D σ H => ta σ H fun vs H1 => sp vs H1 (fun v H2 => D.nx (σ.set j (some v)) H2) (fun cls dd H2 => ∃ C, cls = .ref C ∧ exmOne K (.ref C) (.ref CF) = some true ∧ ∀ x, H2 x = none →
  ts { nx := fun σ' H' => ∃ v, σ'[i]? = some (some v) ∧ D.nx (σ'.set i none) H', rt := fun _ _ => False } (σ.set i (some (.ref x))) (upd H2 x (ExcO2 x C dd)))
section
variable {X : Cx}
theorem ps_trySet2 {c : Bool} {k j : Nat} {f CF : Addr} {fd : FuncData} {ps : List Str} {sp : Sp} {fn cn n y : Str} {p pos yp ap np hp tp : Pos} {e : Expr} {es : List Expr} {ta : TA} {i : Nat} {b₀ : Stmt} {suite : List Stmt} {ts : TS}
    (F : FnOk X.prog X.w X.K X.mg X.base (CXB c X.prog X.w) k f fd ps sp) (hr : Room k X.A) (hg : Gl X fn) (hm : X.mg fn = some (.ref f)) (hk : PySem.W.keepIn X.K (.ref f) = true) (hb : Binds X.K fd ps []) (ha : PA X.nox (e :: es) ta)
    (hj : X.N[j]? = some y) (hy : X.env.scope.names.lookup y = some .local)
    (hgc : Gl X cn) (hmc : X.mg cn = some (.ref CF)) (hN : X.N.Nodup) (hi : X.N[i]? = some n) (hx : X.env.scope.names.lookup n = some .local) (hs : ∀ x, PSs (X.inSuite x) (b₀ :: suite) ts) (hst : X.stack = X.env :: X.outer ∧ X.env.frame = some X.env.locals ∧ X.ex = [])
    (hdb : (fn == ("__debug__" : Str)) = false := by decide) (hdc : (cn == ("__debug__" : Str)) = false := by decide) (he : starEach (e :: es) X.env = (false, eval e X.env) :: starEach es X.env := by rfl) (hpl : (backTo pos (starEach es X.env)).any (·.1) = false := by rfl)
    (hsw : swapsWith (.Call (.Name fn p) (e :: es) [] pos) (some (.Name y yp)) ap.line X.env = pure false := by rfl) :
    PS X (.Try [.Assign [.Name y yp] (.Call (.Name fn p) (e :: es) [] pos) ap] [.ExceptHandler (some (.Name cn np)) (some n) (b₀ :: suite) hp] [] [] tp) (tTrySet2 X.K sp ta j i CF ts) := by
  intro pins s σ H D I h
  refine wpAny_Try_except (wpAny_execs_cons (wpAny_Assign_Name (wpAny_Call_Name_kw (ld_glob I hg hm ?_ hdb)) hsw))
  refine PySem.W.callWith_K (h₀ := X.base) I.ok.mod.kin hk (wpAny_mono (ha pos pins s σ H _ (I.wish _) h) (fun us s1 ⟨vs, H1, I1, r, q⟩ => ⟨I1.unwish.kIn, ?_⟩) fun _ _ z => z.elim) he hpl
  have I1 := I1.unwish
  have hl : (us ++ []).length = ps.length := by rw [List.append_nil, ← r.length]; exact F.len _ _ _ _ q
  have hb' := hb s1 us I1.kIn hl
  rw [List.append_nil] at hb'
  refine wpAny_call (codeAny_mono (F.run X.A X.stack s1 H1 ⟨us, []⟩ us vs _ _ hr I1.env0 hb' r q) fun r s2 hq => ?_)
  cases r with
  | ok fl =>
    cases fl with
    | ret u =>
      obtain ⟨v, H2, I2, rv, q2⟩ := I1.after hq
      exact store_ok I2 hN hj (.inl hy) rv (fun s3 I3 => wpAny_execs_nil (wpAny_execs_nil ⟨_, H2, I3, q2⟩)) (.inr hy)
    | next => exact False.elim hq
    | brk => exact False.elim hq
    | cont => exact False.elim hq
  | error ev => exact caughtAs I1 hgc hmc hN hi hx hs hst hq hdc
end
section
variable {K : PySem.W.Frag} {G H₀ L : Hp} {ss : List Sl} {t : TA} {ds : List D} {D0 : Ends} {C : Addr} {f : Str} {pre bad : List D → Prop} {res : List D → D} {errR : List D → D → Prop}
theorem nx_unbind {i : Nat} {x dx : Addr} {d : D} {N : St → Hp → Prop} (hs : ss[i]? = some (xsl2 K x C dx f d)) (h : Nx K G H₀ L N (ss.set i .un)) : Nx K G H₀ L (fun σ' H' => ∃ v, σ'[i]? = some (some v) ∧ N (σ'.set i none) H') ss := fun F H σ S => by
  obtain ⟨v, e, _⟩ := S.get hs (by intro z; cases z)
  refine ⟨v, e, h F H _ (S.put S.ext S.fl (by simp) (fun j hj => getD_set_ne (Ne.symm hj)) (fun _ => trivial) (by simp [Sl.ads]) (fun _ _ _ _ p hp => by simp [Sl.ads] at hp) fun j s' _ h => S.ok j s' h)⟩
end
end L2

namespace L2
open PySem PySem.W PySem.Spec PyProof.Rows
def tFsI0 (b : Str) (te : TE) : TE := fun σ H Q => te σ H fun x H1 => ∃ i : Int, x = .int i ∧ i.natAbs.log2 < 1920 ∧ (Str.empty ++ (toString i : Str)).length ≤ sizeLine ∧ (Str.empty ++ (toString i : Str) ++ b).length ≤ sizeLine ∧ Q (.str (Str.empty ++ (toString i : Str) ++ b)) H1
theorem pe_fstrI0 {X : Cx} {b : Str} {e : Expr} {te : TE} {k2 : Nat} {p2 p3 pos : Pos} (he : PE X e te) : PE X (.JoinedStr [.FormattedValue e (-1) none p2, .Constant (.str b) k2 p3] pos) (tFsI0 b te) := by
  intro pins s σ H Q I h
  refine JoinedStr_many (joinParts_cons (FormattedValue_plain ?_))
  refine wpAny_mono (he pins s σ H _ I h) (fun u s2 ⟨x, H2, I2, r2, i, ex, hd, z1, z2, q⟩ => ?_) fun _ _ z => z
  subst ex
  obtain ⟨t2, rfl⟩ := relv_int r2
  refine formatField_int_small hd ⟨z1, joinParts_consE (joinParts_cons ?_)⟩
  refine wpAny_mono (pe_str (x := b) pins _ σ H2 (fun v H1 => v = .str b ∧ H1 = H2) (I2.tok _) ⟨rfl, rfl⟩) (fun u s3 ⟨v, H3, I3, rv, ev, eh⟩ => ?_) fun _ _ z => z
  subst ev eh
  obtain ⟨t3, rfl⟩ := relv_str rv
  exact ⟨z2, joinParts_nilE (joinParts_nil ⟨.str (Str.empty ++ (toString i : Str) ++ b), H3, I3.tok _, ⟨_, rfl⟩, q⟩ z2)⟩
theorem errI_body0 {K : PySem.W.Frag} {C fI : Addr} {f b x y : Str} {vs : List V} {H : Hp} {Q : VK} {E : XK} (M : XClsI K C fI) (S : XStore K C f) (hb : b.length ≤ 1000) (h : SpErrI C f vs H Q E) :
    tSeq (tDrop (tErrInit K (tCons (tVar 0) (tCons (tFsI0 b (tVar 1)) tNil)))) (sErrSet K (tVar 0) (tVar 1) f) { nx := fun _ H' => Q .non H', rt := Q } (start [x, y] vs) H := by
  obtain ⟨e, n, rfl, hn0, hn, he, q⟩ := h
  have hl : ((toString n : String) : Str).length ≤ 6 := toString_length_le hn0 (by decide) (by omega)
  have app : ∀ u v : Str, (u ++ v).length = u.length + v.length := fun u v => Str.length_append u v
  have he0 : (Str.empty).length = 0 := rfl
  refine ⟨.ref e, rfl, .int n, rfl, n, rfl, ?_, by rw [app, sizeLine_eq]; omega, by rw [app, app, sizeLine_eq]; omega, e, C, none, _, rfl, he, ⟨fI, M⟩, .int n, rfl, .ref e, rfl, e, C, rfl, he, S, fun dx h1 h2 => q dx h1 h2⟩
  have h3 : n.natAbs < 2 ^ 1920 := Nat.lt_of_lt_of_le (show n.natAbs < 2 ^ 20 by omega) (Nat.pow_le_pow_right (by decide) (by decide))
  by_cases hz : n.natAbs = 0
  · rw [hz]; decide
  · exact (Nat.log2_lt hz).mpr h3
def SpXT (K : PySem.W.Frag) (T : Addr) (pos : Pos) (q : Str) (C : Addr) (f : Str) (pre bad : List D → Prop) (res err : List D → D) : Sp := fun vs H Q E => ∃ G ds, Same G H ∧ HasT G T pos q ∧ Reps K G ds vs ∧ pre ds ∧
  (¬ bad ds → ∀ v G' H', Ext G H G' H' → Rep K G' (res ds) v → Q v H') ∧ (bad ds → ∀ dx v G' H', Ext G H G' H' → G' dx = some (.xd [(f, v)]) → Rep K G' (err ds) v → E (.ref C) (some dx) H')
section
variable {K : PySem.W.Frag} {G H₀ L : Hp} {ss : List Sl} {ta tb te tk t1 : TE} {t : TA} {ds : List D} {d : D} {D0 : Ends} {C : Addr} {f : Str} {pre bad : List D → Prop} {res err : List D → D} {T : Addr} {pos : Pos} {q : Str} {i j : Nat}
theorem spXT_len {vs : List V} {H : Hp} {Q : VK} {E : XK} {n : Nat} (hpre : ∀ ds, pre ds → ds.length = n) (h : SpXT K T pos q C f pre bad res err vs H Q E) : vs.length = n := by
  obtain ⟨G, ds, sm, hT, r, hp, q⟩ := h
  rw [← r.length]; exact hpre ds hp
theorem go_spXT {vs : List V} {H : Hp} {Q : VK} {E : XK} {N : List Str} {ts : TS} (h : SpXT K T pos q C f pre bad res err vs H Q E) (hN : vs.length ≤ N.length) (body : ∀ G ds, HasT G T pos q → pre ds → (¬ bad ds → RtD K G H Q (res ds)) → (bad ds → RtX2 K G H E C f (err ds)) → Go K G H G { nx := fun _ H' => Q .non H', rt := Q } (slots N.length ds) ts) :
    ts { nx := fun _ H' => Q .non H', rt := Q } (start N vs) H := by
  obtain ⟨G, ds, sm, hT, r, hp, q1, q2⟩ := h
  exact body G ds hT hp (fun nb v F H' e h4 => q1 nb v F H' e h4) (fun b dx v F H' e h1 h2 => q2 b dx v F H' e h1 h2) G H _ (sat_start sm r hN)
theorem rtPO_of {rt : VK} {l : Int} (h : RtD K G H₀ rt (.tup [.int l, .lst ds])) : RtPO K G H₀ rt l ds := fun a p vs F H e h0 fp ha hp r => by
  have hne : a ≠ p := fun z => by rw [z, fp] at ha; cases ha
  refine h (.ref a) (upd F p (.lst vs)) H (e.freeze fp h0 hp) (Rep.tupN ?_ (Reps.cons Rep.int (Reps.cons (Rep.lst (SqL.of upd_same) (r.mono (Same.upd fp))) Reps.nil)))
  rw [upd_ne hne]; exact ha
theorem go_trySetT {CF : Addr} {ts : TS} (hT : HasT G T pos q) (a : EvAF K G H₀ L ss t ds) (hp : pre ds) (h1 : ¬ bad ds → Nx K G H₀ L D0.nx (ss.set j (.d (res ds)))) (hex : exmOne K (.ref C) (.ref CF) = some true) (hil : i < ss.length)
    (h : bad ds → ∀ x dx, Go K G H₀ L { nx := fun σ' H' => ∃ v, σ'[i]? = some (some v) ∧ D0.nx (σ'.set i none) H', rt := fun _ _ => False } (ss.set i (xsl2 K x C dx f (err ds))) ts) : Go K G H₀ L D0 ss (tTrySet2 K (SpXT K T pos q C f pre bad res err) t j i CF ts) := fun F H σ S =>
  a F H σ _ S fun vs F1 H1 e1 r1 => by
    refine ⟨F1, ds, e1.fh, (S.ext.trans e1).gf _ _ hT, r1, hp, fun nb v F2 H2 e2 rv => ?_, fun hbad dx v F2 H2 e2 hdx rv => ⟨C, rfl, hex, fun x hx => ?_⟩⟩
    · have S2 := S.ext2 (e1.trans e2)
      exact h1 nb _ _ _ (S2.put S2.ext S2.fl (by simp) (fun j hj => getD_set_ne (Ne.symm hj)) (fun hj => by rw [getD_set_self (by rw [S.len]; exact hj)]; exact ⟨v, rfl, rv⟩) (by simp [Sl.ads]) (fun _ _ _ _ p hp => by simp [Sl.ads] at hp) fun j s' _ h => S2.ok j s' h)
    · have S2 := S.ext2 (e1.trans e2)
      have e := (Ext.refl S2.ext.fh).newF (o := ExcO2 x C (some dx)) hx
      have S4 := S2.ext2 e
      have fx : F2 x = none := S2.ext.fh.free hx
      refine h hbad x dx _ _ _ (S4.put S4.ext S4.fl (by simp) (fun k hk => getD_set_ne (Ne.symm hk)) (fun hk => ?_) (by simp [xsl2, Sl.ads]) (fun k s' hk hs q hq => by simp [xsl2, Sl.ads] at hq) fun k s' hk hs => S4.ok k s' hs)
      rw [getD_set_self (by rw [S2.len]; exact hk)]
      exact ⟨rfl, (fun a ha => absurd ha List.not_mem_nil), ⟨upd_same, v, by rw [upd_ne (ne_of_none hdx fx)]; exact hdx, rv.mono e.gf⟩, xsl2_stab K x C dx f _⟩
theorem go_setX {x dx : Addr} (hs : ss[i]? = some (xsl2 K x C dx f d)) (h : Nx K G H₀ L D0.nx (ss.set j (xsl2 K x C dx f d))) : Go K G H₀ L D0 ss (tAsg (tVar i) (gName j)) := fun F H σ S => by
  obtain ⟨v, e, ew, ha, hw, st⟩ := S.get hs (by intro z; cases z)
  cases ew
  refine ⟨_, e, h F H _ (S.put S.ext S.fl (by simp) (fun k hk => getD_set_ne (Ne.symm hk)) (fun hk => ?_) (by simp [xsl2, Sl.ads]) (fun k s' hk hs q hq => by simp [xsl2, Sl.ads] at hq) fun k s' hk hs => S.ok k s' hs)⟩
  rw [getD_set_self (by rw [S.len]; exact hk)]
  exact ⟨rfl, (fun a ha => absurd ha List.not_mem_nil), hw, st⟩
theorem ev_isNX {x dx : Addr} (hs : ss[i]? = some (xsl2 K x C dx f d)) : Ev K G H₀ L ss (tOp rIsN (tVar i) (tC .non)) (.bl false) := fun F H σ Q S k => by
  obtain ⟨v, e, ew, ha, hw, st⟩ := S.get hs (by intro z; cases z)
  cases ew
  refine ⟨_, e, ?_⟩
  show V.non = .non ∧ Q (.bl (decide ((V.ref x) = .non))) H
  exact ⟨rfl, k _ F H (Ext.refl S.ext.fh) Rep.bl⟩
theorem go_pushOO {p : Addr} {qs : List (Addr × List D)} (hs : ss[i]? = some (.oo p qs)) (a : EvO K G H₀ L ss t1 ds) (hz : qs.length < sizeLine) (h : ∀ q, Nx K G H₀ L D0.nx (ss.set i (.oo p (qs ++ [(q, ds)])))) :
    Go K G H₀ L D0 ss (tDrop (tBM K "list" rAppend (tVar i) (tCons t1 tNil))) := fun F H σ S => by
  obtain ⟨e, h0, fp, hp, hq⟩ := S.getOO hs
  refine ⟨.ref p, e, .inl ⟨rfl, _, SqL.of hp⟩, a F H σ _ S fun q vs F' H' e' hqn fq hq' r' => ?_⟩
  have S' := S.ext2 e'
  obtain ⟨e2, h02, fp2, hp2, hq2⟩ := S'.getOO hs
  refine ⟨p, _, .ref q, rfl, rfl, hp2, by rw [List.length_map]; exact hz, h q F' _ σ ?_⟩
  have hnd := S.nd i _ hs
  have hnq : q ∉ p :: qs.map (·.1) := fun hm => (S.ok i _ hs).live hm hqn
  have hqp : q ≠ p := fun z => hnq (z ▸ List.mem_cons_self)
  have hget : σ.getD i none = some (.ref p) := by rw [List.getD_eq_getElem?_getD, e]; rfl
  have hmapf : (qs ++ [(q, ds)]).map (·.1) = qs.map (·.1) ++ [q] := by rw [List.map_append]; rfl
  refine S'.put (S'.ext.write fp2 h02) S'.fl rfl (fun _ _ => rfl) (fun _ => ?_) ?_ (fun k s' hk hs' z hz' => ?_) fun k s' hk hs' => (S'.ok k s' hs').updNe fun hin => S'.ne i k _ s' (Ne.symm hk) hs hs' p List.mem_cons_self hin
  · rw [hget]
    refine ⟨rfl, h02, fp2, by rw [upd_same, List.map_append]; rfl, fun z hz2 => ?_⟩
    rcases List.mem_append.mp hz2 with hz2 | hz2
    · have : z.1 ≠ p := fun x => by
        have := hnd
        have hn : p ∉ qs.map (·.1) := (List.nodup_cons.mp hnd).1
        exact hn (x ▸ List.mem_map_of_mem hz2)
      exact (hq2 z hz2).updNe this
    · rw [List.mem_singleton.mp hz2]
      exact ⟨S.ext.hh.free hqn, fq, vs, by rw [upd_ne hqp]; exact hq', r'⟩
  · show (p :: (qs ++ [(q, ds)]).map (·.1)).Nodup
    rw [hmapf, ← List.cons_append]
    exact List.nodup_append.mpr ⟨hnd, by simp, fun x hx y hy => by rw [List.mem_singleton.mp hy]; exact fun z => hnq (z ▸ hx)⟩
  · have hz' : z ∈ p :: (qs ++ [(q, ds)]).map (·.1) := hz'
    rw [hmapf, ← List.cons_append] at hz'
    rcases List.mem_append.mp hz' with hz' | hz'
    · exact S'.ne i k _ s' (Ne.symm hk) hs hs' z hz'
    · rw [List.mem_singleton.mp hz']
      exact S.notin hqn k s' hs'
theorem go_appendOOk {p b : Addr} {qs : List (Addr × List D)} {k : Int} (hs : ss[i]? = some (.oo p qs)) (c : EvB K G H₀ L ss tk (.int k)) (hk : ixN qs.length k = some j) (hj : qs[j]? = some (b, ds)) (a : Ev K G H₀ L ss t1 d) (hz : ds.length < sizeLine) (h : Nx K G H₀ L D0.nx (ss.set i (.oo p (qs.set j (b, ds ++ [d]))))) :
    Go K G H₀ L D0 ss (tDrop (tBM K "list" rAppend (tOp (rIxL K) (tVar i) tk) (tCons t1 tNil))) := fun F H σ S => by
  obtain ⟨e, h0, fp, hp, hq⟩ := S.getOO hs
  refine ⟨.ref p, e, c F H σ _ S fun v F1 H1 e1 r1 => ?_⟩
  have S1 := S.ext2 e1
  obtain ⟨e2, _, fp2, hp2, hq2⟩ := S1.getOO hs
  have hm := List.mem_of_getElem? hj
  obtain ⟨q0, qf, vs, hqv, rq⟩ := hq2 _ hm
  have hat : atI (qs.map fun q => V.ref q.1) k = some (.ref b) := by
    unfold atI
    rw [List.length_map, hk]
    show (qs.map _)[j]? = _
    rw [List.getElem?_map, hj]; rfl
  refine ⟨p, _, k, _, rfl, r1.of_int, SqL.of hp2, hat, .inl ⟨rfl, _, SqL.of hqv⟩, a F1 H1 σ _ S1 fun v' F' H' e' r' => ?_⟩
  have S' := S1.ext2 e'
  obtain ⟨_, _, _, _, hq3⟩ := S'.getOO hs
  obtain ⟨q01, qf1, vs1, hqv1, rq1⟩ := hq3 _ hm
  exact ⟨b, vs1, v', rfl, rfl, hqv1, by rw [← rq1.length]; exact hz, h F' _ σ (S'.writeOO hs hj (rq1.snoc r'))⟩
end
end L2

namespace L2
open PySem PySem.W PyProof.Rows
theorem InR.run {α : Type} {n : Nat} {P : α → Prop} (lt : Nat → Nat → Bool) : ∀ {t : KasT α}, InR n P t → P (runT lt t)
  | .ret _, h => h
  | .ask i j k, h => InR.run (n := n) (P := P) lt (t := k (lt i j)) (h.2.2 (lt i j))
def Pm (n : Nat) (p : Array Nat) : Prop := p.Perm (List.toArray (List.range n))
section
variable {n : Nat} (hn : 0 < n)
theorem Pm.rev {p : Array Nat} (h : Pm n p) (i j : Nat) : Pm n (kas_rev p i j) := Array.Perm.trans (rev_perm p i j) h
include hn in
theorem Pm.ent {p : Array Nat} (h : Pm n p) : Ent n p := by
  have h0 : Ent n (List.toArray (List.range n)) := fun i => by
    have e : ∀ (q : Array Nat) (m : Nat), q.getD m 0 = (q[m]?).getD 0 := fun q m => by simp [Array.getD_eq_getD_getElem?]
    rw [e]
    by_cases hi : i < n
    · simp [hi]
    · simp [hi]; exact hn
  exact h0.perm h hn
include hn in
theorem desc_pm : ∀ f {p : Array Nat} m q, Pm n p → InR n (fun r : Array Nat × Nat × Nat => Pm n r.1) (kas_desc f p m q)
  | 0, _, _, _, h => h
  | f + 1, p, m, q, h => ⟨h.ent hn _, h.ent hn _, fun b => by
      cases b with
      | true =>
        simp only [if_true]
        split
        · exact desc_pm f _ _ (h.rev _ _)
        · exact desc_pm f _ _ h
      | false =>
        simp only [Bool.false_eq_true, if_false]
        exact ⟨h.ent hn _, h.ent hn _, fun c => by
          cases c with
          | true => simp only [if_true]; exact h
          | false => simp only [Bool.false_eq_true, if_false]; exact desc_pm f _ _ h⟩⟩
include hn in
theorem tail3_pm {p : Array Nat} (h : Pm n p) (m r : Nat) : InR n (fun r : Nat × Array Nat => Pm n r.2) (kas_tail3 m r p) := by
  unfold kas_tail3
  refine InR.bind (P := fun _ : Nat => True) (fun a _ => ?_) (asc_in ((h.rev _ _).ent hn) _ _)
  exact h.rev _ _
include hn in
theorem descPart_pm {p : Array Nat} (h : Pm n p) (m r : Nat) : InR n (fun r : Nat × Array Nat => Pm n r.2) (kas_descPart m r p) := by
  unfold kas_descPart
  refine InR.bind (fun a ha => ?_) (desc_pm hn _ _ _ h)
  split
  · exact tail3_pm hn (ha.rev _ _) _ _
  · exact tail3_pm hn ha _ _
include hn in
theorem count_pm {p : Array Nat} (h : Pm n p) (r : Nat) : InR n (fun r : Nat × Array Nat => Pm n r.2) (kas_count r p) := by
  unfold kas_count
  refine InR.bind (fun m _ => ?_) (asc_in (h.ent hn) _ _)
  split
  · exact h
  · split
    · refine ⟨h.ent hn _, h.ent hn _, fun b => ?_⟩
      cases b with
      | true => simp only [if_true]; exact h
      | false => simp only [Bool.false_eq_true, if_false]; exact descPart_pm hn (h.rev _ _) _ _
    · exact descPart_pm hn h _ _
include hn in
theorem bin_pm : ∀ f {p : Array Nat} k, Pm n p → InR n (fun q : Array Nat => Pm n q) (kas_bin f p k)
  | 0, _, _, h => h
  | f + 1, p, k, h => by
    unfold kas_bin
    exact InR.bind (fun l _ => bin_pm f _ (Array.Perm.trans (bubble_perm _ _ _) h)) (place_in (h.ent hn) k _ _ _)
include hn in
theorem sort_pm : InR n (fun q : Array Nat => Pm n q) (kas_sort n) := by
  unfold kas_sort
  refine InR.bind (fun r hr => ?_) (count_pm hn (Array.Perm.refl _) n)
  split
  · exact bin_pm hn _ _ hr
  · exact hr
end
def ordP (key : Nat → Int) (n : Nat) : List Nat := (runT (ltK key) (kas_sort n)).toList
theorem ordP_perm (key : Nat → Int) {n : Nat} (hn : 0 < n) : (ordP key n).Perm (List.range n) := by
  have h := ((sort_pm hn).run (ltK key)).toList
  unfold ordP
  simpa [Pm] using h
def sortQ (ds : List D) : List D := if ds.length < 2 then ds else (ordP (rk ds) ds.length).map fun i => ds.getD i .non
theorem range_getD (ds : List D) : ((List.range ds.length).map fun i => ds.getD i .non) = ds := by
  refine List.ext_getElem? fun i => ?_
  rw [List.getElem?_map]
  by_cases hi : i < ds.length
  · rw [List.getElem?_range hi, List.getElem?_eq_getElem hi]
    simp [List.getD_eq_getElem?_getD, hi]
  · rw [List.getElem?_eq_none (by simpa using hi), List.getElem?_eq_none (by simpa using hi)]; rfl
theorem sortQ_perm (ds : List D) : (sortQ ds).Perm ds := by
  unfold sortQ
  split
  · exact List.Perm.refl _
  · have h := (ordP_perm (rk ds) (n := ds.length) (by omega)).map fun i => ds.getD i D.non
    rw [range_getD] at h
    exact h
def OutQ (key : Nat → Int) (us : List Value) (out : Array Value) : Prop := ∃ p : List Nat, p.Perm (List.range us.length) ∧ out.toList = p.map (fun i => us.getD i Value.none) ∧ (2 ≤ us.length → p = ordP key us.length) ∧ (us.length < 2 → p = List.range us.length)
section
variable {prog : Program} {w : World} {A : Around} {s : Shared}
theorem sortsQ {κ : SortKind} {vs : List Value} {key : Nat → Int} (h2 : 2 ≤ vs.length) (h64 : vs.length < 64)
    (hk : ∀ (Q : SortKind → Shared → Prop) (E : Value → Shared → Prop), Q κ s → wpAny (model prog w) A (keyKind' vs.toArray) Q E s)
    (hlt : ∀ i j (C : Bool → Shared → Prop), i < vs.length → j < vs.length → C (decide (key i < key j)) s → wpAny (model prog w) A (keyLt' κ (vs.getD i Value.none) (vs.getD j Value.none)) C (fun _ _ => False) s) :
    Sorts prog w A s vs (OutQ key vs) := by
  refine ⟨κ, hk, fun Q E hQ => ?_⟩
  have h0 : 0 < vs.length := by lia
  have pm := ordP_perm key h0
  refine kat_run (Q := fun st' s' => Q st' s') (G := fun p s' => s' = s ∧ p = runT (ltK key) (kas_sort vs.length)) rfl h2 h64 (fun p st' s' hp har hf hG => ?_) (wp_runIn (lt := ltK key) (fun i j C hi hj hc => hlt i j C hi hj hc) (sort_pm h0) ⟨rfl, rfl⟩)
  obtain ⟨rfl, rfl⟩ := hG
  have hout := kat_snds rfl har
  have hsz : (runT (ltK key) (kas_sort vs.length)).size = vs.length := by
    have := pm.length_eq
    unfold ordP at this
    simpa using this
  exact hQ st' hf (by rw [har, Array.size_map, hsz]) ⟨ordP key vs.length, pm, by rw [hout]; rfl, fun _ => rfl, fun h => absurd h (by lia)⟩
end
def rSortQ (K : PySem.W.Frag) : List V → Hp → VK → Prop := fun vs H Q => ∃ a xs ds, vs = [.ref a] ∧ SqL K H a xs ∧ Reps K H ds xs ∧ Alike ds ∧ ds.length < 64 ∧
  ∀ l (p : List Nat), p.Perm (List.range ds.length) → p.map (fun i => ds.getD i .non) = sortQ ds → H l = none → Q (.ref l) (upd H l (.lst (p.map fun i => xs.getD i .non)))
section
variable {X : Cx} {pins : List (Addr × Obj)} {σ : St} {H : Hp} {s : Shared}
theorem sortsQ_alike {h' : Heap} {ds : List D} {xs : List V} {us : List Value} {A' : Around} (I : Inv X pins σ H s) (rs : Reps X.K H ds xs) (rv : Vals xs us) (hal : Alike ds) (h2 : 2 ≤ us.length) (h64 : us.length < 64) (k : Keeps s.heap h') :
    Sorts X.prog X.w A' { s with heap := h' } us (OutQ (rk ds) us) := by
  obtain ⟨κ, hk, hlt⟩ := cmp_alike (A' := A') I rs rv hal h2 k
  exact sortsQ h2 h64 hk hlt
theorem outQ_short {r : Nat → Int} {us : List Value} (h : us.length < 2) : OutQ r us us.toArray := by
  refine ⟨List.range us.length, List.Perm.refl _, ?_, fun z => absurd z (by lia), fun _ => rfl⟩
  match us, h with
  | [], _ => rfl
  | [v], _ => rfl
theorem call_sortedQ : CallR X (.builtin "sorted") (rSortQ X.K) := by
  intro pins s σ H xs us Q I r h
  obtain ⟨a, vs, ds, rfl, hq, rs, hal, h64, q⟩ := h
  obtain ⟨u, rfl, ru⟩ := vals1 r
  cases ru
  obtain ⟨its, rv, pl, hz⟩ := I.list hq
  have l1 := rs.length
  have l2 := rv.length
  refine sorted_call (OutQ (rk ds) its) pl.isList (by lia) (fun h2 h' k => sortsQ_alike I rs rv hal h2 (by lia) k) (fun h1 => ?_) fun out c h' k hc hsz hO => ?_
  · exact outQ_short h1
  · obtain ⟨p, hp, ho, hp2, hp1⟩ := hO
    have hmem : ∀ i ∈ p, i < its.length := fun i hi => List.mem_range.mp (hp.mem_iff.mp hi)
    have eD : (p.map fun i => ds.getD i .non) = sortQ ds := by
      unfold sortQ
      split
      · rw [hp1 (by lia), ← l2, ← l1]; exact range_getD ds
      · rw [hp2 (by lia), ← l2, ← l1]
    have hv := rv.pick p (by rw [l2]; exact hmem)
    rw [← ho] at hv
    have hplen : p.length = its.length := by rw [hp.length_eq, List.length_range]
    exact ⟨.ref (s.heap.objs.size + 1), _, I.laid (t' := s.toks) k (Nat.le_succ _) (show ObjOk X.prog X.w _ _ _ (.lst _) from ⟨by rw [List.length_map]; lia, out.toList, c, hv, by simpa [seqObj] using hc⟩), rfl, q _ p (by rw [l1, l2]; exact hp) eD (I.hok.fresh (Nat.le_succ _))⟩
end
section
variable {K : PySem.W.Frag} {G H₀ L : Hp} {ss : List Sl} {t : TE} {ds : List D}
theorem evo_sortedQ (a : EvL K G H₀ L ss t ds) (hal : Alike ds) (h64 : ds.length < 64) : EvO K G H₀ L ss (tCB (rSortQ K) (tCons t tNil)) (sortQ ds) := fun F H σ Q S q =>
  a F H σ _ S fun p vs F' H' e sq r => ⟨p, vs, ds, rfl, sq, r.mono e.fh, hal, h64, fun l pm hp hs hl => by
    have hmem : ∀ i ∈ pm, i < ds.length := fun i hi => List.mem_range.mp (hp.mem_iff.mp hi)
    have := r.pick pm hmem
    rw [hs] at this
    exact q l _ F' _ (e.newO hl) (e.hh.free hl) (e.fh.free hl) upd_same this⟩
end
end L2

namespace L2
open PySem PySem.W PySem.Spec PyProof.Rows
def D.isT : D → Bool
  | .tup l => l.all D.isK | _ => false
def D.tkey : D → List Key
  | .tup l => l.map D.key | _ => []
theorem keys_inj : ∀ {a b : List D}, a.all D.isK = true → b.all D.isK = true → a.map D.key = b.map D.key → a = b
  | [], [], _, _, _ => rfl
  | [], _ :: _, _, _, h => by cases h
  | _ :: _, [], _, _, h => by cases h
  | x :: a, y :: b, ha, hb, h => by
    rw [List.all_cons, Bool.and_eq_true] at ha hb
    rw [List.map_cons, List.map_cons] at h
    injection h with h1 h2
    rw [key_inj ha.1 hb.1 h1, keys_inj ha.2 hb.2 h2]
theorem tkey_inj {a b : D} (ha : a.isT = true) (hb : b.isT = true) (h : a.tkey = b.tkey) : a = b := by
  cases a <;> simp only [D.isT] at ha <;> try (cases ha; done)
  cases b <;> simp only [D.isT] at hb <;> try (cases hb; done)
  rw [keys_inj ha hb h]
theorem reps_keys {K : PySem.W.Frag} {H : Hp} : ∀ {l : List D} {vs : List V}, l.all D.isK = true → Reps K H l vs → vs = (l.map D.key).map kV
  | [], vs, _, r => by rw [Reps] at r; subst r; rfl
  | d :: l, vs, h, r => by
    rw [List.all_cons, Bool.and_eq_true] at h
    rw [Reps] at r
    obtain ⟨v, r', rfl, rv, r⟩ := r
    rw [List.map_cons, List.map_cons, rep_key h.1 rv, reps_keys h.2 r]
inductive Dkt (K : PySem.W.Frag) (F : Hp) : DD → List (List Key × V) → Prop
  | nil : Dkt K F [] []
  | cons {k d : D} {v : V} {kvs : DD} {xs : List (List Key × V)} (hk : k.isT = true) (r : Rep K F d v) (t : Dkt K F kvs xs) : Dkt K F ((k, d) :: kvs) ((k.tkey, v) :: xs)
section
variable {K : PySem.W.Frag} {F F' : Hp} {kvs : DD} {xs : List (List Key × V)}
theorem Dkt.mono (h : Dkt K F kvs xs) (s : Same F F') : Dkt K F' kvs xs := by
  induction h with
  | nil => exact .nil
  | cons hk r t ih => exact .cons hk (r.mono s) ih
theorem Dkt.length (h : Dkt K F kvs xs) : kvs.length = xs.length := by
  induction h with
  | nil => rfl
  | cons hk r t ih => simp [ih]
theorem Dkt.val (h : Dkt K F kvs xs) {k : D} (hk : k.isT = true) : (valD kvs k = none ∧ valV xs k.tkey = none) ∨ ∃ d v, valD kvs k = some d ∧ valV xs k.tkey = some v ∧ Rep K F d v := by
  induction h with
  | nil => exact .inl ⟨rfl, rfl⟩
  | @cons k' d v kvs xs hk' r t ih =>
    by_cases e : k' = k
    · subst e
      exact .inr ⟨d, v, by simp [valD], by simp [valV], r⟩
    · have e2 : k'.tkey ≠ k.tkey := fun z => e (tkey_inj hk' hk z)
      have h1 : valD ((k', d) :: kvs) k = valD kvs k := by simp [valD, List.find?_cons, e]
      have h2 : valV ((k'.tkey, v) :: xs) k.tkey = valV xs k.tkey := by simp [valV, List.find?_cons, e2]
      rw [h1, h2]; exact ih
theorem Dkt.any (h : Dkt K F kvs xs) {k : D} (hk : k.isT = true) : (kvs.any fun kv => decide (kv.1 = k)) = xs.any fun kv => decide (kv.1 = k.tkey) := by
  induction h with
  | nil => rfl
  | @cons k' d v kvs xs hk' r t ih =>
    rw [List.any_cons, List.any_cons, ih]
    congr 1
    by_cases e : k' = k
    · subst e; simp
    · have e2 : k'.tkey ≠ k.tkey := fun z => e (tkey_inj hk' hk z)
      rw [decide_eq_false e, decide_eq_false e2]
theorem Dkt.snoc (h : Dkt K F kvs xs) {k d : D} {v : V} (hk : k.isT = true) (r : Rep K F d v) : Dkt K F (kvs ++ [(k, d)]) (xs ++ [(k.tkey, v)]) := by
  induction h with
  | nil => exact .cons hk r .nil
  | cons hk' r' t ih => exact .cons hk' r' ih
theorem Dkt.put (h : Dkt K F kvs xs) {k d : D} {v : V} (hk : k.isT = true) (r : Rep K F d v) : Dkt K F (putD kvs k d) (putK xs k.tkey v) := by
  unfold putD putK
  rw [h.any hk]
  by_cases hc : (xs.any fun kv => decide (kv.1 = k.tkey)) = true
  · rw [if_pos hc, if_pos hc]
    clear hc
    induction h with
    | nil => exact .nil
    | @cons k' d' v' kvs xs hk' r' t ih =>
      rw [List.map_cons, List.map_cons]
      by_cases e : k' = k
      · subst e; rw [if_pos rfl, if_pos rfl]; exact .cons hk' r ih
      · have e2 : k'.tkey ≠ k.tkey := fun z => e (tkey_inj hk' hk z)
        rw [if_neg e, if_neg e2]; exact .cons hk' r' ih
  · rw [if_neg hc, if_neg hc]; exact h.snoc hk r
end
def dWT (K : PySem.W.Frag) (p : Addr) (kvs : DD) : Hp → Hp → Prop := fun F H => ∃ xs, H p = some (.dT xs) ∧ Dkt K F kvs xs
def dslT (K : PySem.W.Frag) (p : Addr) (kvs : DD) : Sl := .g (.ref p) [p] (dWT K p kvs)
theorem dWT_stab (K : PySem.W.Frag) (p : Addr) (kvs : DD) : Stab [p] (dWT K p kvs) := fun F1 H1 F2 H2 sf hh ⟨xs, h1, h2⟩ => ⟨xs, by rw [hh p (by simp)]; exact h1, h2.mono sf⟩
section
variable {K : PySem.W.Frag} {G H₀ L : Hp} {ss : List Sl} {i j : Nat} {p b : Addr} {kvs : DD} {E : Ends} {ty td tv tx : TE} {t : TA} {k d z : D} {ds : List D}
theorem Sat.getMT {F H : Hp} {σ : St} (S : Sat K G H₀ L F H σ ss) (hs : ss[i]? = some (dslT K p kvs)) : σ[i]? = some (some (.ref p)) ∧ H₀ p = none ∧ F p = none ∧ ∃ xs, H p = some (.dT xs) ∧ Dkt K F kvs xs := by
  obtain ⟨v, e, ew, ha, hw, st⟩ := S.get hs (by intro z; cases z)
  cases ew
  obtain ⟨h0, fp, _⟩ := ha p (by simp)
  exact ⟨e, h0, fp, hw⟩
theorem Sat.writeMT {F H : Hp} {σ : St} {kvs' : DD} {xs : List (List Key × V)} (S : Sat K G H₀ L F H σ ss) (hs : ss[i]? = some (dslT K p kvs)) (r : Dkt K F kvs' xs) : Sat K G H₀ L F (upd H p (.dT xs)) σ (ss.set i (dslT K p kvs')) := by
  obtain ⟨e, h0, fp, ys, hp, _⟩ := S.getMT hs
  have hget : σ.getD i none = some (.ref p) := by rw [List.getD_eq_getElem?_getD, e]; rfl
  refine S.put (S.ext.write fp h0) S.fl rfl (fun _ _ => rfl) (fun _ => ?_) (by simp [dslT, Sl.ads]) (fun j s' hj h q hq => ?_) fun j s' hj h => (S.ok j s' h).updNe (S.ne i j _ s' (Ne.symm hj) hs h p (by simp [dslT, Sl.ads]))
  · rw [hget]
    exact ⟨rfl, fun a ha => by rw [List.mem_singleton.mp ha]; exact ⟨h0, fp, _, upd_same⟩, ⟨xs, upd_same, r⟩, dWT_stab K p kvs'⟩
  · have : q = p := by simpa [dslT, Sl.ads] using hq
    subst this
    exact S.ne i j _ s' (Ne.symm hj) hs h q (by simp [dslT, Sl.ads])
theorem go_setMT (h : ∀ p, Nx K G H₀ L E.nx (ss.set i (dslT K p []))) : Go K G H₀ L E ss (tAsg tDNewT (gName i)) := fun F H σ S p hp => by
  have e := (Ext.refl S.ext.fh).newO (o := .dT []) hp
  have S' := S.ext2 e
  refine h p F _ _ (S'.put S'.ext S'.fl (by simp) (fun j hj => getD_set_ne (Ne.symm hj)) (fun hi => ?_) (by simp [dslT, Sl.ads]) (fun j s' hj hs q hq => ?_) fun j s' hj hs => S'.ok j s' hs)
  · rw [getD_set_self (by rw [S.len]; exact hi)]
    exact ⟨rfl, fun a ha => by rw [List.mem_singleton.mp ha]; exact ⟨S.ext.hh.free hp, S.ext.fh.free hp, _, upd_same⟩, ⟨[], upd_same, .nil⟩, dWT_stab K p []⟩
  · have : q = p := by simpa [dslT, Sl.ads] using hq
    subst this
    exact fun hin => (S.ok j s' hs).live hin hp
end
end L2

namespace L2
open PySem PySem.Spec PyProof.Rows
theorem d_lenT {X : Cx} {pins : List (Addr × Obj)} {σ : St} {H : Hp} {s : Shared} {a : Addr} {kvs : List (List Key × V)} {A : Around} {E : Value → Shared → Prop} {Q : Value → Shared → Prop} (I : Inv X pins σ H s) (e : Rd H a (.dT kvs)) (h : ∀ t s', Inv X pins σ H s' → Q (.int kvs.length t) s') : wpAny (model X.prog X.w) A (call (.builtin "len") [.ref a]) Q E s := by
  obtain ⟨z, hd, xs, rel, dd⟩ := dt_rd I.hok e
  have hT := dd.typeIs
  have hl : xs.length = kvs.length := rel.length.symm
  refine Calls.call_function_entry kind_len plain_len entry_len (args_len1 _) ?_
  unfold Builtin.«len»
  refine wpAny_bind (m := oneArg "len" _) (wpAny_pure ?_)
  refine wpAny_bind (m := callSpecial? (.ref a) (Str.ofString "__len__")) (wpAny_callSpecial?_slot (name := Str.ofString "__len__") hT PySem.F.slot_dict_len
    (call_meetsIn (S := fun _ R s => ∃ o es ep, s.heap.get? a = some o ∧ o.data = .dict es ep ∧ es.size = kvs.length ∧ R (.ok (.ret (.int kvs.length s.toks))) { s with toks := s.toks + 1 }) PySem.F.slot_dict_len hT PySem.F.entry_dict_len (PySem.F.args_dict_len_1 _) (.of_wp fun A R s ⟨o, es, ep, ho, hdat, hsz, h⟩ => ?_) ?_))
  · show wpAny _ _ (dictSize a >>= _) _ _ s
    unfold dictSize
    refine wpAny_bind (wpAny_bind (wpAny_dictEntries ho hdat (wpAny_pure ?_)))
    show wpAny _ _ (Builtin.Dict.pendingCount a >>= _) _ _ s
    refine wpAny_bind (wpAny_pendingCount_other hd ?_)
    refine wpAny_ret_mkInt ?_
    rw [Nat.add_zero, hsz]; exact h
  · obtain ⟨o, es, ep, ho, hc, hdat, he, hk, hn⟩ := id dd
    refine ⟨o, es, ep, ho, hdat, by rw [← Array.length_toList, he, List.length_map, hl], ?_⟩
    show wpAny _ _ _ _ _ { s with toks := s.toks + 1 }
    refine wpAny_bind (wpAny_holding (wpAny_pure ?_))
    refine wpAny_bind (wpAny_letGo ?_)
    show wpAny _ _ (if ((kvs.length : Nat) : Int) < 0 then _ else _) _ _ _
    rw [if_neg (by omega)]
    show wpAny _ _ (if ((kvs.length : Nat) : Int) ≥ 2 ^ 63 then _ else _) _ _ _
    rw [if_neg (by rw [sizeLine_eq] at z; omega)]
    exact wpAny_bind (wpAny_mkInt (wpAny_pure ⟨_, rfl, h _ _ (I.tok _)⟩))
def rLenM : List V → Hp → VK → Prop := fun xs H Q => ∃ a n, xs = [V.ref a] ∧ ((∃ kvs, H a = some (.dK kvs) ∧ n = kvs.length) ∨ ∃ kvs, H a = some (.dT kvs) ∧ n = kvs.length) ∧ Q (.int (n : Nat)) H
theorem call_lenM {X : Cx} : CallR X (.builtin "len") rLenM := by
  intro pins s σ H xs us Q I r h
  obtain ⟨a, n, rfl, ha, q⟩ := h
  obtain ⟨u, rfl, ru⟩ := vals1 r
  cases ru
  rcases ha with ⟨kvs, ha, rfl⟩ | ⟨kvs, ha, rfl⟩
  · exact d_len I (.inl ha) fun t s' I' => ⟨.int kvs.length, H, I', ⟨t, rfl⟩, q⟩
  · exact d_lenT I (.inl ha) fun t s' I' => ⟨.int kvs.length, H, I', ⟨t, rfl⟩, q⟩
section
variable {K : PySem.W.Frag} {G H₀ L : Hp} {ss : List Sl} {i j : Nat} {p b : Addr} {kvs : DD} {E : Ends} {ty td tv tx : TE} {t : TA} {k d z : D} {ds : List D}
theorem key_at {F H : Hp} {v : V} (r : Rep K F (.tup ds) v) (hk : ds.all D.isK = true) (hi : hasInt ds = true) (fh : Same F H) : ∃ b, v = .ref b ∧ H b = some (.tup ((D.tup ds).tkey.map kV)) := by
  obtain ⟨b, vs, rfl, hb, rs⟩ := r.trk hi
  exact ⟨b, rfl, by rw [fh _ _ hb, reps_keys hk rs]; rfl⟩
theorem ev_dgetK (hs : ss[i]? = some (dslT K p kvs)) (b : Ev K G H₀ L ss ty (.tup ds)) (hk : ds.all D.isK = true) (hi : hasInt ds = true) (hv : valD kvs (.tup ds) = some d) : Ev K G H₀ L ss (tDGet (tVar i) ty) d := fun F H σ Q S q => by
  obtain ⟨e, _⟩ := S.getMT hs
  refine ⟨_, e, b F H σ _ S fun v F1 H1 e1 r1 => ?_⟩
  have S1 := S.ext2 e1
  obtain ⟨_, _, _, xs, hp, dk⟩ := S1.getMT hs
  obtain ⟨b', rfl, hb⟩ := key_at r1 hk hi S1.ext.fh
  rcases dk.val (k := .tup ds) hk with ⟨h1, _⟩ | ⟨d', w, h1, h2, rw'⟩
  · rw [h1] at hv; cases hv
  · rw [h1] at hv; cases hv
    refine ⟨p, w, rfl, ?_, q w F1 H1 e1 rw'⟩
    rw [← h2]
    exact DGet.t hp hb
theorem ev_dnotinK (hs : ss[i]? = some (dslT K p kvs)) (b : Ev K G H₀ L ss ty (.tup ds)) (hk : ds.all D.isK = true) (hi : hasInt ds = true) : Ev K G H₀ L ss (tDNotIn ty (tVar i)) (.bl (!(valD kvs (.tup ds)).isSome)) := fun F H σ Q S q =>
  b F H σ _ S fun v F1 H1 e1 r1 => by
    have S1 := S.ext2 e1
    obtain ⟨e, _, _, xs, hp, dk⟩ := S1.getMT hs
    obtain ⟨b', rfl, hb⟩ := key_at r1 hk hi S1.ext.fh
    refine ⟨_, e, p, valV xs (D.tup ds).tkey, rfl, DGet.t hp hb, q _ F1 H1 e1 ?_⟩
    have : (valV xs (D.tup ds).tkey).isSome = (valD kvs (.tup ds)).isSome := by
      rcases dk.val (k := .tup ds) hk with ⟨h1, h2⟩ | ⟨d', w, h1, h2, _⟩ <;> rw [h1, h2] <;> rfl
    rw [this]; exact Rep.bl
theorem go_dputK (hs : ss[i]? = some (dslT K p kvs)) (a : Ev K G H₀ L ss tv d) (b : Ev K G H₀ L ss ty (.tup ds)) (hk : ds.all D.isK = true) (hi : hasInt ds = true) (hz : kvs.length < sizeLine) (h : Nx K G H₀ L E.nx (ss.set i (dslT K p (putD kvs (.tup ds) d)))) : Go K G H₀ L E ss (sDPut (tVar i) ty tv) := fun F H σ S =>
  a F H σ _ S fun v F1 H1 e1 r1 => by
    have S1 := S.ext2 e1
    obtain ⟨e, _⟩ := S1.getMT hs
    refine ⟨_, e, b F1 H1 σ _ S1 fun y F2 H2 e2 r2 => ?_⟩
    have S2 := S1.ext2 e2
    obtain ⟨_, _, _, xs, hp, dk⟩ := S2.getMT hs
    obtain ⟨b', rfl, hb⟩ := key_at r2 hk hi S2.ext.fh
    exact ⟨p, _, rfl, DPut.t (k := (D.tup ds).tkey) (v := v) hp hb (by rw [← dk.length]; exact hz), h F2 _ σ (S2.writeMT hs (dk.put hk (r1.mono e2.gf)))⟩
theorem ev_lenK (hs : ss[i]? = some (dslT K p kvs)) : Ev K G H₀ L ss (tCB rLenM (tCons (tVar i) tNil)) (.int kvs.length) := fun F H σ Q S q => by
  obtain ⟨e, _, _, xs, hp, dk⟩ := S.getMT hs
  exact ⟨_, e, p, xs.length, rfl, .inr ⟨xs, hp, rfl⟩, q _ F H (Ext.refl S.ext.fh) (by rw [dk.length]; exact Rep.int)⟩
end
end L2

namespace L2
open PySem PySem.Spec PyProof.Rows
theorem valD_put (kvs : DD) (k d k' : D) : valD (putD kvs k d) k' = if k' = k then some d else valD kvs k' := by
  have hm : ∀ {kvs : DD}, ¬ k' = k → (kvs.map fun kv => if kv.1 = k then (kv.1, d) else kv).find? (fun kv => decide (kv.1 = k')) = kvs.find? fun kv => decide (kv.1 = k') := fun {kvs} hk => by
    induction kvs with
    | nil => rfl
    | cons q kvs ih =>
      rw [List.map_cons, List.find?_cons, List.find?_cons, ih]
      by_cases c : q.1 = k
      · rw [if_pos c]
        have : ¬ q.1 = k' := fun z => hk (z.symm.trans c)
        rw [decide_eq_false this]
      · rw [if_neg c]
  unfold valD putD
  by_cases h : (kvs.any fun kv => decide (kv.1 = k)) = true
  · rw [if_pos h]
    by_cases hk : k' = k
    · subst hk
      rw [if_pos rfl]
      clear hm
      induction kvs with
      | nil => cases h
      | cons q kvs ih =>
        rw [List.map_cons, List.find?_cons]
        by_cases c : q.1 = k'
        · rw [if_pos c, decide_eq_true c]; rfl
        · rw [if_neg c, decide_eq_false c]
          rw [List.any_cons, decide_eq_false c, Bool.false_or] at h
          exact ih h
    · rw [if_neg hk, hm hk]
  · rw [if_neg h, List.find?_append]
    by_cases hk : k' = k
    · subst hk
      rw [if_pos rfl]
      have : kvs.find? (fun kv => decide (kv.1 = k')) = none := by
        rw [List.find?_eq_none]
        intro x hx z
        exact h (List.any_eq_true.mpr ⟨x, hx, z⟩)
      rw [this]
      simp
    · rw [if_neg hk]
      cases kvs.find? fun kv => decide (kv.1 = k') with
      | some q => rfl
      | none => simp [Ne.symm hk]
end L2

set_option maxHeartbeats 8000000
namespace My
open PySem L2 PyProof.Rows
def top (i : Nat) : Stmt := PySem.Challenge.pw_folk_k34_too_many_blocks.main.body.getD i (.Pass ⟨0, 0, 0, 0⟩)
abbrev s_joined : Stmt := top 1
theorem sc_joined : FnScope ["things", "links", "first", "thing", "one", "other", "kept", "lost", "lists"] ["things", "links"] (defScope s_joined) := ⟨rfl, rfl, rfl, by decide +kernel, rfl, by decide +kernel, by decide +kernel⟩
abbrev s_keeps : Stmt := top 3
theorem sc_keeps : FnScope ["aparts", "grouping"] ["aparts", "grouping"] (defScope s_keeps) := ⟨rfl, rfl, rfl, by decide +kernel, rfl, by decide +kernel, by decide +kernel⟩
abbrev s_loss_of : Stmt := top 4
theorem sc_loss_of : FnScope ["pairs", "grouping", "loss", "i", "j", "weight", "is_held"] ["pairs", "grouping"] (defScope s_loss_of) := ⟨rfl, rfl, rfl, by decide +kernel, rfl, by decide +kernel, by decide +kernel⟩
abbrev s_parts_of : Stmt := top 5
theorem sc_parts_of : FnScope ["many", "pairs", "aparts", "links"] ["many", "pairs", "aparts"] (defScope s_parts_of) := ⟨rfl, rfl, rfl, by decide +kernel, rfl, by decide +kernel, by decide +kernel⟩
abbrev s_case_of : Stmt := top 6
theorem sc_case_of : FnScope ["part", "pairs", "aparts", "numbers", "number", "block", "inner_pairs", "inner_aparts"] ["part", "pairs", "aparts"] (defScope s_case_of) := ⟨rfl, rfl, rfl, by decide +kernel, rfl, by decide +kernel, by decide +kernel⟩
def clsAt (i j : Nat) : Stmt := match top i with
  | .ClassDef _ _ _ b _ _ _ _ _ _ _ => b.getD j (.Pass ⟨0, 0, 0, 0⟩)
  | s => s
abbrev s_TooMany_init : Stmt := clsAt 11 0
theorem sc_TooMany_init : FnScope ["self", "count"] ["self", "count"] (defScope s_TooMany_init) := ⟨rfl, rfl, rfl, by decide +kernel, rfl, by decide +kernel, by decide +kernel⟩
abbrev s_groupings_of : Stmt := top 17
theorem sc_groupings_of : FnScope ["many", "groupings", "block", "longer", "grouping", "group"] ["many"] (defScope s_groupings_of) := ⟨rfl, rfl, rfl, by decide +kernel, rfl, by decide +kernel, by decide +kernel⟩
abbrev s_best_in_part : Stmt := top 18
theorem sc_best_in_part : FnScope ["case", "kept"] ["case"] (defScope s_best_in_part) := ⟨rfl, rfl, rfl, by decide +kernel, rfl, by decide +kernel, by decide +kernel⟩
abbrev s_numbered_anew : Stmt := top 19
theorem sc_numbered_anew : FnScope ["labels", "numbers", "grouping", "label"] ["labels"] (defScope s_numbered_anew) := ⟨rfl, rfl, rfl, by decide +kernel, rfl, by decide +kernel, by decide +kernel⟩
abbrev s_best_of : Stmt := top 20
theorem sc_best_of : FnScope ["many", "pairs", "aparts", "parts", "part", "labels", "place", "groups", "block", "group", "grouping"] ["many", "pairs", "aparts"] (defScope s_best_of) := ⟨rfl, rfl, rfl, by decide +kernel, rfl, by decide +kernel, by decide +kernel⟩
abbrev s_law_cell_at : Stmt := top 22
theorem sc_law_cell_at : FnScope ["_law_script", "_law_k"] ["_law_script", "_law_k"] (defScope s_law_cell_at) := ⟨rfl, rfl, rfl, by decide +kernel, rfl, by decide +kernel, by decide +kernel⟩
abbrev s_law_row : Stmt := top 23
theorem sc_law_row : FnScope ["_law_script", "_law_many", "_law_pairs", "_law_aparts", "_law_k", "_law_cell", "_law_weight"] ["_law_script", "_law_many"] (defScope s_law_row) := ⟨rfl, rfl, rfl, by decide +kernel, rfl, by decide +kernel, by decide +kernel⟩
abbrev s_law_parts : Stmt := top 24
theorem sc_law_parts : FnScope ["_law_many", "_law_pairs", "_law_aparts", "_law_parts_here", "_law_block", "_law_joined", "_law_i", "_law_j", "_law_weight"] ["_law_many", "_law_pairs", "_law_aparts"] (defScope s_law_parts) := ⟨rfl, rfl, rfl, by decide +kernel, rfl, by decide +kernel, by decide +kernel⟩
abbrev s_law_asked : Stmt := top 25
theorem sc_law_asked : FnScope ["_law_many", "_law_pairs", "_law_aparts", "_law_told", "_law_found", "e"] ["_law_many", "_law_pairs", "_law_aparts"] (defScope s_law_asked) := ⟨rfl, rfl, rfl, by decide +kernel, rfl, by decide +kernel, by decide +kernel⟩
abbrev s_law : Stmt := top 26
theorem sc_law : FnScope ["_law_script", "_law_many", "_law_pairs", "_law_aparts", "_law_parts_here", "_law_numbers", "_law_at", "_law_part", "_law_more", "_law_cell", "_law_i", "_law_j", "_law_found", "_law_count", "_law_great", "_law_lost"] ["_law_script"] (defScope s_law) := ⟨rfl, rfl, rfl, by decide +kernel, rfl, by decide +kernel, by decide +kernel⟩
set_option genInjectivity false in
set_option genSizeOf false in
structure Ad where
  (c_FolkError c_NoName c_NoPair c_NoRow c_NoText c_Odds c_TooMany f_joined f_keeps f_loss_of f_parts_of f_case_of f_TooMany_init f_groupings_of f_best_in_part f_numbered_anew f_best_of f_law_cell_at f_law_row f_law_parts f_law_asked f_law : Addr)
  (u_MOST_BLOCKS : Value)
  (d_joined d_keeps d_loss_of d_parts_of d_case_of d_TooMany_init d_groupings_of d_best_in_part d_numbered_anew d_best_of d_law_cell_at d_law_row d_law_parts d_law_asked d_law : FuncData)
structure Tx (K : PySem.W.Frag) (mg : Str → Option Value) (ad0 : Ad) : Prop where
  M_FolkError : mg "FolkError" = some (.ref ad0.c_FolkError)
  M_NoName : mg "NoName" = some (.ref ad0.c_NoName)
  M_NoPair : mg "NoPair" = some (.ref ad0.c_NoPair)
  M_NoRow : mg "NoRow" = some (.ref ad0.c_NoRow)
  M_NoText : mg "NoText" = some (.ref ad0.c_NoText)
  M_Odds : mg "Odds" = some (.ref ad0.c_Odds)
  M_TooMany : mg "TooMany" = some (.ref ad0.c_TooMany)
  XM_TooMany : XMk K ad0.c_TooMany ad0.f_TooMany_init
  XS_TooMany_count : XStore K ad0.c_TooMany "count"
  CB_FolkError : CInitB K ad0.c_FolkError
  T_TooMany : XTell K ad0.c_TooMany
  H_TooMany_FolkError : PySem.W.exmOne K (.ref ad0.c_TooMany) (.ref ad0.c_FolkError) = some true
  I_TooMany_ValueError : PySem.W.kitOne K (.ref ad0.c_TooMany) (.type "ValueError") = some true
  I_TooMany_TooMany : PySem.W.kitOne K (.ref ad0.c_TooMany) (.ref ad0.c_TooMany) = some true
  IA_TooMany : PySem.W.kitAny K (.ref ad0.c_TooMany) [.ref ad0.c_Odds, .ref ad0.c_NoPair, .ref ad0.c_NoRow, .ref ad0.c_NoText, .ref ad0.c_NoName] = some false
  Na_TooMany_count : NoAttr K ad0.c_TooMany "count"
  M_MOST_BLOCKS : mg "MOST_BLOCKS" = some ad0.u_MOST_BLOCKS
  R_MOST_BLOCKS : RelV (.int 7) ad0.u_MOST_BLOCKS
  F_joined : Fun K "joined" "joined" s_joined ad0.f_joined ad0.d_joined
  B_joined : Binds K ad0.d_joined ["things", "links"] []
  M_joined : mg "joined" = some (.ref ad0.f_joined)
  F_keeps : Fun K "keeps" "keeps" s_keeps ad0.f_keeps ad0.d_keeps
  B_keeps : Binds K ad0.d_keeps ["aparts", "grouping"] []
  M_keeps : mg "keeps" = some (.ref ad0.f_keeps)
  F_loss_of : Fun K "loss_of" "loss_of" s_loss_of ad0.f_loss_of ad0.d_loss_of
  B_loss_of : Binds K ad0.d_loss_of ["pairs", "grouping"] []
  M_loss_of : mg "loss_of" = some (.ref ad0.f_loss_of)
  F_parts_of : Fun K "parts_of" "parts_of" s_parts_of ad0.f_parts_of ad0.d_parts_of
  B_parts_of : Binds K ad0.d_parts_of ["many", "pairs", "aparts"] []
  M_parts_of : mg "parts_of" = some (.ref ad0.f_parts_of)
  F_case_of : Fun K "case_of" "case_of" s_case_of ad0.f_case_of ad0.d_case_of
  B_case_of : Binds K ad0.d_case_of ["part", "pairs", "aparts"] []
  M_case_of : mg "case_of" = some (.ref ad0.f_case_of)
  F_TooMany_init : Fun K "__init__" "TooMany.__init__" s_TooMany_init ad0.f_TooMany_init ad0.d_TooMany_init
  B_TooMany_init : Binds K ad0.d_TooMany_init ["self", "count"] []
  F_groupings_of : Fun K "groupings_of" "groupings_of" s_groupings_of ad0.f_groupings_of ad0.d_groupings_of
  B_groupings_of : Binds K ad0.d_groupings_of ["many"] []
  M_groupings_of : mg "groupings_of" = some (.ref ad0.f_groupings_of)
  F_best_in_part : Fun K "best_in_part" "best_in_part" s_best_in_part ad0.f_best_in_part ad0.d_best_in_part
  B_best_in_part : Binds K ad0.d_best_in_part ["case"] []
  M_best_in_part : mg "best_in_part" = some (.ref ad0.f_best_in_part)
  F_numbered_anew : Fun K "numbered_anew" "numbered_anew" s_numbered_anew ad0.f_numbered_anew ad0.d_numbered_anew
  B_numbered_anew : Binds K ad0.d_numbered_anew ["labels"] []
  M_numbered_anew : mg "numbered_anew" = some (.ref ad0.f_numbered_anew)
  F_best_of : Fun K "best_of" "best_of" s_best_of ad0.f_best_of ad0.d_best_of
  B_best_of : Binds K ad0.d_best_of ["many", "pairs", "aparts"] []
  M_best_of : mg "best_of" = some (.ref ad0.f_best_of)
  F_law_cell_at : Fun K "_law_cell_at" "_law_cell_at" s_law_cell_at ad0.f_law_cell_at ad0.d_law_cell_at
  B_law_cell_at : Binds K ad0.d_law_cell_at ["_law_script", "_law_k"] []
  M_law_cell_at : mg "_law_cell_at" = some (.ref ad0.f_law_cell_at)
  F_law_row : Fun K "_law_row" "_law_row" s_law_row ad0.f_law_row ad0.d_law_row
  B_law_row : Binds K ad0.d_law_row ["_law_script", "_law_many"] []
  M_law_row : mg "_law_row" = some (.ref ad0.f_law_row)
  F_law_parts : Fun K "_law_parts" "_law_parts" s_law_parts ad0.f_law_parts ad0.d_law_parts
  B_law_parts : Binds K ad0.d_law_parts ["_law_many", "_law_pairs", "_law_aparts"] []
  M_law_parts : mg "_law_parts" = some (.ref ad0.f_law_parts)
  F_law_asked : Fun K "_law_asked" "_law_asked" s_law_asked ad0.f_law_asked ad0.d_law_asked
  B_law_asked : Binds K ad0.d_law_asked ["_law_many", "_law_pairs", "_law_aparts"] []
  M_law_asked : mg "_law_asked" = some (.ref ad0.f_law_asked)
  F_law : Fun K "law" "law" s_law ad0.f_law ad0.d_law
  B_law : Binds K ad0.d_law ["_law_script"] []
  M_law : mg "law" = some (.ref ad0.f_law)
  z_ValueError : mg "ValueError" = none
  z_abs : mg "abs" = none
  z_all : mg "all" = none
  z_bool : mg "bool" = none
  z_enumerate : mg "enumerate" = none
  z_isinstance : mg "isinstance" = none
  z_len : mg "len" = none
  z_list : mg "list" = none
  z_max : mg "max" = none
  z_min : mg "min" = none
  z_range : mg "range" = none
  z_sorted : mg "sorted" = none
  z_sum : mg "sum" = none
  z_zip : mg "zip" = none
section
variable {P : Program} {w : World} {K : PySem.W.Frag} {mg : Str → Option Value} {base : Heap} {ad0 : Ad}
def preCell (ds : List D) : Prop := ∃ (ns : List Int) (k : Int), ds = [.lst (ns.map .int), .int k] ∧ 0 ≤ k
def resCell : List D → D
  | [.lst xs, .int k] => xs.getD k.toNat (.int 0)
  | _ => .non
theorem ok_law_cell_at (Z : Tx K mg ad0) : FnOk P w K mg base CX0 1 ad0.f_law_cell_at ad0.d_law_cell_at ["_law_script", "_law_k"] (SpD K preCell resCell) := by
  refine Z.F_law_cell_at.ok sc_law_cell_at (fun vs H Q E h => spD_len (n := 2) (by rintro ds ⟨ns, k, rfl, _⟩; rfl) h) (fun cdv A outer s H vs Q E hr h => ⟨_, (pss_cons (ps_if (pt_cmpR op_lt (pv 1) (pe_callB call_len_seq (by rfl) Z.z_len boot_len (pa_cons (pv 0) pa_nil)) (nomark _)) (pss_one (ps_ret (pe_ix (show IxR _ (rIxL K) from ix_list) (pv 0) (pv 1) (fun _ _ => rfl)))) pss_nil)
      (pss_one (ps_ret pe_int))), ?_⟩)
  refine go_spD h (by rw [spD_len (n := 2) (by rintro ds ⟨ns, k, rfl, _⟩; rfl) h]; decide) fun G ds hp rt => ?_
  obtain ⟨ns, k, rfl, hk⟩ := hp
  have ll : (ns.map D.int).length = ns.length := by simp
  refine go_seq (go_if (evt_test (ev_cmpI (g := fun i j => decide (i < j)) (ev_var rfl).b (ev_lenL (ev_var rfl).l).b)) (fun hb => ?_) (fun hb => ?_))
  · simp only [decide_eq_true_eq] at hb
    have hk2 : k.toNat < ns.length := by omega
    refine go_ret (ev_ixL (d := .int (ns.getD k.toNat 0)) (ev_var rfl).l (ev_var rfl).b ?_) ?_
    · have := atI_nat (xs := ns.map D.int) (j := k.toNat) (v := D.int (ns.getD k.toNat 0)) (by rw [List.getElem?_map, List.getD_eq_getElem?_getD]; simp [hk2])
      rw [show ((k.toNat : Nat) : Int) = k by omega] at this
      exact this
    · have e : resCell [D.lst (ns.map D.int), D.int k] = .int (ns.getD k.toNat 0) := by
        simp [resCell, List.getD_eq_getElem?_getD, List.getElem?_map, hk2]
      rw [e] at rt; exact rt
  · simp only [decide_eq_false_iff_not] at hb
    have e : resCell [D.lst (ns.map D.int), D.int k] = .int 0 := by
      simp [resCell, List.getD_eq_getElem?_getD, List.getElem?_map, show ns[k.toNat]? = none from List.getElem?_eq_none (by omega)]
    rw [e] at rt
    refine go_next ?_
    ((try dsimp only); refine nx_go ?_)
    exact go_ret ev_int rt
theorem small {n : Nat} (h : n ≤ 1000) : n ≤ sizeLine := by rw [sizeLine_eq]; omega
def encA (a : Apt) : D := .tup [.int a.1, .int a.2]
def encP (p : Pr) : D := .tup [.int p.1, .int p.2.1, .int p.2.2]
def unI : D → Int
  | .int i => i
  | _ => 0
def unA : D → Apt
  | .tup [.int i, .int j] => (i.toNat, j.toNat)
  | _ => (0, 0)
def unP : D → Pr
  | .tup [.int i, .int j, .int w] => (i.toNat, j.toNat, w)
  | _ => (0, 0, 0)
theorem unI_map (gs : List Int) : (gs.map D.int).map unI = gs := by rw [List.map_map]; exact List.map_id gs
theorem unA_map (as : List Apt) : (as.map encA).map unA = as := by rw [List.map_map]; exact List.map_id as
theorem unP_map (ps : List Pr) : (ps.map encP).map unP = ps := by rw [List.map_map]; exact List.map_id ps
def keepsF (as : List Apt) (gs : List Int) : Bool := as.all fun a => !decide (gs.getD a.1 0 = gs.getD a.2 0)
def lossOne (gs : List Int) (p : Pr) : Int := if !decide (decide (gs.getD p.1 0 = gs.getD p.2.1 0) = decide (0 < p.2.2)) then absI p.2.2 else 0
def lostOne (gs : List Int) (p : Pr) : Int := if decide (decide (gs.getD p.1 0 = gs.getD p.2.1 0) = decide (p.2.2 < 0)) then absI p.2.2 else 0
def sumL (f : Pr → Int) (ps : List Pr) : Int := ps.foldl (fun a p => a + f p) 0
theorem sumL_snoc (f : Pr → Int) (ps : List Pr) (p : Pr) : sumL f (ps ++ [p]) = sumL f ps + f p := by unfold sumL; rw [List.foldl_append]; rfl
def preKp (ds : List D) : Prop := ∃ (as : List Apt) (gs : List Int), ds = [.lst (as.map encA), .lst (gs.map .int)] ∧ (∀ a ∈ as, a.1 < gs.length ∧ a.2 < gs.length) ∧ as.length ≤ 1000
def resKp : List D → D
  | [.lst as, .lst gs] => .bl (keepsF (as.map unA) (gs.map unI))
  | _ => .non
theorem resKp_enc (as : List Apt) (gs : List Int) : resKp [.lst (as.map encA), .lst (gs.map .int)] = .bl (keepsF as gs) := by
  show D.bl (keepsF ((as.map encA).map unA) ((gs.map D.int).map unI)) = _
  rw [unA_map, unI_map]
def prePr (ds : List D) : Prop := ∃ (ps : List Pr) (gs : List Int), ds = [.lst (ps.map encP), .lst (gs.map .int)] ∧ (∀ p ∈ ps, p.1 < gs.length ∧ p.2.1 < gs.length) ∧ ps.length ≤ 1000
def resLoss : List D → D
  | [.lst ps, .lst gs] => .int (sumL (lossOne (gs.map unI)) (ps.map unP))
  | _ => .non
def resLost : List D → D
  | [.lst ps, .lst gs] => .int (sumL (lostOne (gs.map unI)) (ps.map unP))
  | _ => .non
theorem resLoss_enc (ps : List Pr) (gs : List Int) : resLoss [.lst (ps.map encP), .lst (gs.map .int)] = .int (sumL (lossOne gs) ps) := by
  show D.int (sumL (lossOne ((gs.map D.int).map unI)) ((ps.map encP).map unP)) = _
  rw [unP_map, unI_map]
theorem at_gs {gs : List Int} {i : Nat} (h : i < gs.length) : atI (gs.map D.int) (i : Int) = some (.int (gs.getD i 0)) :=
  atI_nat (by rw [List.getElem?_map, List.getD_eq_getElem?_getD]; simp [h])
theorem ok_keeps (Z : Tx K mg ad0) : FnOk P w K mg base CX0 1 ad0.f_keeps ad0.d_keeps ["aparts", "grouping"] (SpD K preKp resKp) := by
  refine Z.F_keeps.ok sc_keeps (fun vs H Q E h => spD_len (n := 2) (by rintro ds ⟨c, d, rfl, _⟩; rfl) h) (fun cdv A outer s H vs Q E hr h => ⟨_, (pss_one (ps_ret (pe_callB (call_all rfl) (by rfl) Z.z_all boot_all (pa_cons (pe_lc rfl (LcOk.of (Nx := (["aparts", "grouping"] : List Str)) (sc := defScope s_keeps) (N' := (["i", "j", "grouping"] : List Str)) (nt := 2) (cs := [1]) rfl rfl (by decide +kernel)) (pi_list (pv 0)) (fun _ _ _ _ => (show PG _ _ (gTup K 2 _) from pg_tup rfl (pgs_cons (pg_name (i := 0) (show List.Nodup (["i", "j", "grouping"] : List Str) by decide +kernel) rfl (Or.inl rfl)) (pgs_cons (pg_name (i := 1) (show List.Nodup (["i", "j", "grouping"] : List Str) by decide +kernel) rfl (Or.inl rfl)) pgs_nil)))) (fun _ _ _ _ => pifs_nil) (fun _ _ _ _ => (pe_cmpR op_ne (pe_ix (show IxR _ (rIxL K) from ix_list) (pv 2) (pv 0) (fun _ _ => rfl)) (pe_ix (show IxR _ (rIxL K) from ix_list) (pv 2) (pv 1) (fun _ _ => rfl)) (nomark _)))) pa_nil)))), ?_⟩)
  refine go_spD h (by rw [spD_len (n := 2) (by rintro ds ⟨c, d, rfl, _⟩; rfl) h]; decide) fun G ds hp rt => ?_
  obtain ⟨as, gs, rfl, hb, hl⟩ := hp
  rw [resKp_enc] at rt
  exact go_ret (ev_allM (xs := as) (g := fun a => !decide (gs.getD a.1 0 = gs.getD a.2 0)) (EvO.l (evo_lcM as encA _ (ev_var rfl).l (gk_tup (gks_cons (gk_name (by decide)) (gks_cons (gk_name (by decide)) gks_nil))) (by decide) (by rw [sizeLine_eq]; omega) fun a ha => ⟨_, tg_tup rfl (tgs_cons tg_name (tgs_cons tg_name tgs_nil)), ev_neI (ev_ixL (ev_var rfl).l (ev_var rfl).b (at_gs (hb a ha).1)).b (ev_ixL (ev_var rfl).l (ev_var rfl).b (at_gs (hb a ha).2)).b⟩))) rt
theorem ok_loss_of (Z : Tx K mg ad0) : FnOk P w K mg base CX0 1 ad0.f_loss_of ad0.d_loss_of ["pairs", "grouping"] (SpD K prePr resLoss) := by
  refine Z.F_loss_of.ok sc_loss_of (fun vs H Q E h => spD_len (n := 2) (by rintro ds ⟨c, d, rfl, _⟩; rfl) h) (fun cdv A outer s H vs Q E hr h => ⟨_, (pss_cons (ps_set (i := 2) sc_loss_of.nd rfl (Or.inl rfl) pe_int)
      (pss_cons (ps_for PassesOwn.never rfl (pi_list (pv 0)) (pg_tup rfl (pgs_cons (pg_name (i := 3) sc_loss_of.nd rfl (Or.inl rfl)) (pgs_cons (pg_name (i := 4) sc_loss_of.nd rfl (Or.inl rfl)) (pgs_cons (pg_name (i := 5) sc_loss_of.nd rfl (Or.inl rfl)) pgs_nil)))) (pss_cons (ps_set (i := 6) sc_loss_of.nd rfl (Or.inl rfl) (pe_cmpR op_eq (pe_ix (show IxR _ (rIxL K) from ix_list) (pv 1) (pv 3) (fun _ _ => rfl)) (pe_ix (show IxR _ (rIxL K) from ix_list) (pv 1) (pv 4) (fun _ _ => rfl)) (nomark _)))
      (pss_one (ps_if (pt_cmpR op_ne (pv 6) (pe_cmpR op_gt (pv 5) pe_int (nomark _)) (nomark _)) (pss_one (ps_set (i := 2) sc_loss_of.nd rfl (Or.inl rfl) (pe_op op_add (pv 2) (pe_callB call_abs (by rfl) Z.z_abs boot_abs (pa_cons (pv 5) pa_nil))))) pss_nil))))
      (pss_one (ps_ret (pv 2))))), ?_⟩)
  refine go_spD h (by rw [spD_len (n := 2) (by rintro ds ⟨c, d, rfl, _⟩; rfl) h]; decide) fun G ds hp rt => ?_
  obtain ⟨ps, gs, rfl, hb, hl⟩ := hp
  rw [resLoss_enc] at rt
  refine go_seq (go_set ev_int ?_)
  ((try dsimp only); refine nx_go ?_)
  refine go_seq (go_for encP ps (fun k ss => ∃ v3 v4 v5 v6 : Sl, ss = [.d (.lst (ps.map encP)), .d (.lst (gs.map .int)), .d (.int (sumL (lossOne gs) (ps.take k))), v3, v4, v5, v6]) (ev_var rfl) ⟨.un, .un, .un, .un, rfl⟩ ?_ ?_)
  · rintro L' k p ss hL hk ⟨v3, v4, v5, v6, rfl⟩
    refine ⟨_, tg_tup rfl (tgs_cons tg_name (tgs_cons tg_name (tgs_cons tg_name tgs_nil))), fun N hN => ?_⟩
    have hp : p ∈ ps := List.mem_of_getElem? hk
    have hs : sumL (lossOne gs) (ps.take (k + 1)) = sumL (lossOne gs) (ps.take k) + lossOne gs p := by rw [List.take_add_one, hk]; exact sumL_snoc ..
    refine go_seq (go_set (ev_eqI (ev_ixL (ev_var rfl).l (ev_var rfl).b (at_gs (hb p hp).1)).b (ev_ixL (ev_var rfl).l (ev_var rfl).b (at_gs (hb p hp).2)).b) ?_)
    ((try dsimp only); refine nx_go ?_)
    refine go_if (evt_test (ev_neB (ev_var rfl).b (ev_gt (ev_var rfl).b ev_int.b).b)) (fun hq => ?_) (fun hq => ?_)
    · refine go_set (ev_add (ev_var rfl).b (ev_absI (ev_var rfl).b).b) (hN _ ⟨.d (.int p.1), .d (.int p.2.1), .d (.int p.2.2), .d (.bl (decide (gs.getD p.1 0 = gs.getD p.2.1 0))), ?_⟩)
      rw [hs]; unfold lossOne
      rw [if_pos hq]; rfl
    · refine go_next (hN _ ⟨.d (.int p.1), .d (.int p.2.1), .d (.int p.2.2), .d (.bl (decide (gs.getD p.1 0 = gs.getD p.2.1 0))), ?_⟩)
      rw [hs]; unfold lossOne
      rw [if_neg (by rw [hq]; decide), Int.add_zero]
      first | done | rfl
  · rintro ss ⟨v3, v4, v5, v6, rfl⟩
    ((try dsimp only); refine nx_go ?_)
    rw [List.take_length]
    exact go_ret (ev_var rfl) rt
def encN (n : Nat) : D := .int n
theorem encN_inj (a b : Nat) (h : encN a = encN b) : a = b := by unfold encN at h; injection h with h; omega
def unN : D → Nat
  | .int i => i.toNat
  | _ => 0
theorem unN_map (xs : List Nat) : (xs.map encN).map unN = xs := by rw [List.map_map]; exact List.map_id xs
def kp (i j : Nat) : Nat := if j < i then j else i
def lo (i j : Nat) : Nat := if j > i then j else i
theorem kp_int (i j : Nat) : (if (j : Int) < (i : Int) then (j : Int) else (i : Int)) = ((kp i j : Nat) : Int) := by unfold kp; split <;> split <;> omega
theorem lo_int (i j : Nat) : (if (j : Int) > (i : Int) then (j : Int) else (i : Int)) = ((lo i j : Nat) : Int) := by unfold lo; split <;> split <;> omega
def ufS (f : Nat → Nat) (l : Apt) : Nat → Nat := stepF (kp (f l.1) (f l.2)) (lo (f l.1) (f l.2)) f
def ufF (ls : List Apt) : Nat → Nat := ls.foldl ufS id
theorem ufF_snoc (ls : List Apt) (l : Apt) : ufF (ls ++ [l]) = ufS (ufF ls) l := by unfold ufF; rw [List.foldl_append]; rfl
theorem kp_lo (i j : Nat) : (kp i j = i ∧ lo i j = j) ∨ (kp i j = j ∧ lo i j = i) := by unfold kp lo; split <;> split <;> omega
theorem nodup_take {α : Type} {xs : List α} (h : xs.Nodup) {k : Nat} {x : α} (hk : xs[k]? = some x) : x ∉ xs.take k := fun hm => by
  obtain ⟨j, hj⟩ := List.mem_iff_getElem?.mp hm
  have hjk : j < k := by
    have := (List.getElem?_eq_some_iff.mp hj).1
    rw [List.length_take] at this; omega
  rw [List.getElem?_take, if_pos hjk] at hj
  have h1 := (List.getElem?_eq_some_iff.mp hj)
  have h2 := (List.getElem?_eq_some_iff.mp hk)
  unfold List.Nodup at h
  rw [List.pairwise_iff_getElem] at h
  exact h j k h1.1 h2.1 hjk (h1.2.trans h2.2.symm)
def partsD (xs : List Nat) (ls : List Apt) : List D := (partsF (ufF ls) xs).map fun p => .lst (p.map encN)
def preJ (ds : List D) : Prop := ∃ (xs : List Nat) (ls : List Apt), ds = [.lst (xs.map encN), .lst (ls.map encA)] ∧ xs.Nodup ∧ (∀ l ∈ ls, l.1 ∈ xs ∧ l.2 ∈ xs) ∧ xs.length ≤ 1000
def resJ : List D → List D
  | [.lst xs, .lst ls] => partsD (xs.map unN) (ls.map unA)
  | _ => []
theorem resJ_enc (xs : List Nat) (ls : List Apt) : resJ [.lst (xs.map encN), .lst (ls.map encA)] = partsD xs ls := by
  show partsD ((xs.map encN).map unN) ((ls.map encA).map unA) = _
  rw [unN_map, unA_map]
theorem ok_joined (Z : Tx K mg ad0) : FnOk P w K mg base CX0 1 ad0.f_joined ad0.d_joined ["things", "links"] (SpO K preJ resJ) := by
  refine Z.F_joined.ok sc_joined (fun vs H Q E h => spO_len (n := 2) (by rintro ds ⟨c, d, rfl, _⟩; rfl) h) (fun cdv A outer s H vs Q E hr h => ⟨_, (pss_cons (ps_set (i := 2) sc_joined.nd rfl (Or.inl rfl) pe_dnewK)
      (pss_cons (ps_for PassesOwn.never rfl (pi_list (pv 0)) (pg_name (i := 3) sc_joined.nd rfl (Or.inl rfl)) (pss_one (ps_dput (hu_of hr) (pv 2) (pv 3) (pv 3) rfl)))
      (pss_cons (ps_for PassesOwn.never rfl (pi_list (pv 1)) (pg_tup rfl (pgs_cons (pg_name (i := 4) sc_joined.nd rfl (Or.inl rfl)) (pgs_cons (pg_name (i := 5) sc_joined.nd rfl (Or.inl rfl)) pgs_nil))) (pss_cons (ps_set (i := 6) sc_joined.nd rfl (Or.inl rfl) (pe_callB (call_min2 rfl) (by rfl) Z.z_min boot_min (pa_cons (pe_dget (hu_of hr) (pv 2) (pv 4) (fun _ _ => rfl)) (pa_cons (pe_dget (hu_of hr) (pv 2) (pv 5) (fun _ _ => rfl)) pa_nil))))
      (pss_cons (ps_set (i := 7) sc_joined.nd rfl (Or.inl rfl) (pe_callB (call_max2 rfl) (by rfl) Z.z_max boot_max (pa_cons (pe_dget (hu_of hr) (pv 2) (pv 4) (fun _ _ => rfl)) (pa_cons (pe_dget (hu_of hr) (pv 2) (pv 5) (fun _ _ => rfl)) pa_nil))))
      (pss_one (ps_for PassesOwn.never rfl (pi_list (pv 0)) (pg_name (i := 3) sc_joined.nd rfl (Or.inl rfl)) (pss_one (ps_if (pt_cmpR op_eq (pe_dget (hu_of hr) (pv 2) (pv 3) (fun _ _ => rfl)) (pv 7) (nomark _)) (pss_one (ps_dput (hu_of hr) (pv 2) (pv 3) (pv 6) rfl)) pss_nil)))))))
      (pss_cons (ps_set (i := 8) sc_joined.nd rfl (Or.inl rfl) pe_dnewK)
      (pss_cons (ps_for PassesOwn.never rfl (pi_list (pv 0)) (pg_name (i := 3) sc_joined.nd rfl (Or.inl rfl)) (pss_one (ps_expr (pe_bm F.plainAttrs_list F.slot_list_append F.type_list_append mt_append (pe_bm F.plainAttrs_dict F.slot_dict_setdefault F.type_dict_setdefault mt_setdefault (pv 8) (pa_cons (pe_dget (hu_of hr) (pv 2) (pv 3) (fun _ _ => rfl)) (pa_cons (pe_lst pa_nil) pa_nil))) (pa_cons (pv 3) pa_nil)))))
      (pss_one (ps_ret (pe_callTy (show CallR _ _ rListVals from call_list_vals rfl) (by rfl) Z.z_list boot_list (pa_cons (pe_bm0 F.plainAttrs_dict F.slot_dict_values F.type_dict_values mt_values (pv 8)) pa_nil))))))))), ?_⟩)
  refine go_spO h (by rw [spO_len (n := 2) (by rintro ds ⟨c, d, rfl, _⟩; rfl) h]; decide) fun G ds hp rt => ?_
  obtain ⟨xs, ls, rfl, hnd, hls, hxl⟩ := hp
  rw [resJ_enc] at rt
  have hz : ∀ {n : Nat}, n ≤ 1000 → n < sizeLine := fun h => by rw [sizeLine_eq]; omega
  have dl : ∀ (ys : List Nat) (f : Nat → Nat), (dA encN encN ys f).length = ys.length := fun ys f => by unfold dA; rw [List.length_map]
  refine go_seq (go_setM fun p => ?_)
  ((try dsimp only); refine nx_go ?_)
  refine go_seq (go_for encN xs (fun k ss => ∃ v3 : Sl, ss = [.d (.lst (xs.map encN)), .d (.lst (ls.map encA)), dsl K p (dA encN encN (xs.take k) id), v3, .un, .un, .un, .un, .un]) (ev_var rfl) ⟨.un, rfl⟩ ?_ ?_)
  · rintro L' k x ss hL hk ⟨v3, rfl⟩
    refine ⟨_, tg_name, fun N hN => ?_⟩
    refine go_dput (i := 2) (d := encN x) (k := encN x) rfl (ev_var rfl) (ev_var rfl).b rfl (hz (by rw [dl, List.length_take]; omega)) (hN _ ⟨.d (encN x), ?_⟩)
    have e : putD (dA encN encN (xs.take k) id) (encN x) (encN x) = dA encN encN (xs.take (k + 1)) id := by
      rw [List.take_add_one, hk]
      exact putD_new (f := id) encN_inj (nodup_take hnd hk)
    rw [e]; rfl
  rintro ss ⟨v3, rfl⟩
  rw [List.take_length]
  ((try dsimp only); refine nx_go ?_)
  refine go_seq (go_for encA ls (fun k ss => ∃ (f : Nat → Nat) (v3 v4 v5 v6 v7 : Sl), ss = [.d (.lst (xs.map encN)), .d (.lst (ls.map encA)), dsl K p (dA encN encN xs f), v3, v4, v5, v6, v7, .un] ∧ ∀ t ∈ xs, f t = ufF (ls.take k) t) (ev_var rfl) ⟨id, _, _, _, _, _, rfl, fun _ _ => rfl⟩ ?_ ?_)
  · rintro L' k l ss hL hk ⟨f, v3, v4, v5, v6, v7, rfl, hf⟩
    refine ⟨_, tg_tup rfl (tgs_cons tg_name (tgs_cons tg_name tgs_nil)), fun N hN => ?_⟩
    obtain ⟨h1, h2⟩ := hls l (List.mem_of_getElem? hk)
    refine go_seq (go_set (d := encN (kp (f l.1) (f l.2))) (by unfold encN; rw [← kp_int]; exact ev_minI (ev_dget (k := encN l.1) (d := encN (f l.1)) rfl (ev_var rfl).b rfl (valD_in encN_inj h1)).b (ev_dget (k := encN l.2) (d := encN (f l.2)) rfl (ev_var rfl).b rfl (valD_in encN_inj h2)).b) ?_)
    ((try dsimp only); refine nx_go ?_)
    refine go_seq (go_set (d := encN (lo (f l.1) (f l.2))) (by unfold encN; rw [← lo_int]; exact ev_maxI (ev_dget (k := encN l.1) (d := encN (f l.1)) rfl (ev_var rfl).b rfl (valD_in encN_inj h1)).b (ev_dget (k := encN l.2) (d := encN (f l.2)) rfl (ev_var rfl).b rfl (valD_in encN_inj h2)).b) ?_)
    ((try dsimp only); refine nx_go ?_)
    generalize hkk : kp (f l.1) (f l.2) = kk
    generalize hll : lo (f l.1) (f l.2) = ll
    refine go_for encN xs (fun q ss => ∃ (g : Nat → Nat) (v3 : Sl), ss = [.d (.lst (xs.map encN)), .d (.lst (ls.map encA)), dsl K p (dA encN encN xs g), v3, .d (encN l.1), .d (encN l.2), .d (encN kk), .d (encN ll), .un] ∧ (∀ t ∈ xs.take q, g t = stepF kk ll f t) ∧ ∀ t, t ∉ xs.take q → g t = f t) (ev_var rfl) ⟨f, _, rfl, (fun t ht => by simp at ht), fun _ _ => rfl⟩ ?_ ?_
    · rintro L2 q x ss hL2 hq ⟨g, v3, rfl, hg1, hg2⟩
      refine ⟨_, tg_name, fun N2 hN2 => ?_⟩
      have hx : x ∈ xs := List.mem_of_getElem? hq
      have hxn := nodup_take hnd hq
      have ext : xs.take (q + 1) = xs.take q ++ [x] := by rw [List.take_add_one, hq]; rfl
      have egx : g x = f x := hg2 x hxn
      refine go_if (evt_test (ev_eqI (i := (g x : Nat)) (j := (ll : Nat)) (ev_dget (k := encN x) (d := encN (g x)) rfl (ev_var rfl).b rfl (valD_in encN_inj hx)).b (ev_var rfl).b)) (fun hb => ?_) (fun hb => ?_)
      · have hb : g x = ll := by have := of_decide_eq_true hb; omega
        refine go_dput (i := 2) (d := encN kk) (k := encN x) rfl (ev_var rfl) (ev_var rfl).b rfl (hz (by rw [dl]; omega)) (hN2 _ ⟨fun u => if u = x then kk else g u, _, by rw [putD_in encN_inj hx]; rfl, fun t ht => ?_, fun t ht => ?_⟩)
        · rw [ext] at ht
          show (if t = x then kk else g t) = _
          rcases List.mem_append.mp ht with ht | ht
          · rw [if_neg (fun z : t = x => hxn (z ▸ ht))]; exact hg1 t ht
          · rw [List.mem_singleton.mp ht, if_pos rfl]
            unfold stepF
            rw [if_pos (egx.symm.trans hb)]
        · rw [ext] at ht
          have h3 : t ≠ x := fun z => ht (by rw [z]; simp)
          show (if t = x then kk else g t) = _
          rw [if_neg h3]
          exact hg2 t fun z => ht (List.mem_append_left _ z)
      · have hb : g x ≠ ll := by have := of_decide_eq_false hb; omega
        refine go_next (hN2 _ ⟨g, _, rfl, fun t ht => ?_, fun t ht => ?_⟩)
        · rw [ext] at ht
          rcases List.mem_append.mp ht with ht | ht
          · exact hg1 t ht
          · rw [List.mem_singleton.mp ht]
            unfold stepF
            rw [if_neg (by rw [← egx]; exact hb), egx]
        · rw [ext] at ht
          exact hg2 t fun z => ht (List.mem_append_left _ z)
    · rintro ss ⟨g, v3, rfl, hg1, hg2⟩
      rw [List.take_length] at hg1
      refine hN _ ⟨g, _, _, _, _, _, rfl, fun t ht => ?_⟩
      have e : ls.take (k + 1) = ls.take k ++ [l] := by rw [List.take_add_one, hk]; rfl
      rw [hg1 t ht, e, ufF_snoc]
      unfold ufS
      rw [← hf l.1 h1, ← hf l.2 h2, hkk, hll]
      unfold stepF
      rw [hf t ht]
  rintro ss ⟨f, v3, v4, v5, v6, v7, rfl, hf⟩
  rw [List.take_length] at hf
  ((try dsimp only); refine nx_go ?_)
  refine go_seq (go_setML fun p2 => ?_)
  ((try dsimp only); refine nx_go ?_)
  refine go_seq (go_for encN xs (fun k ss => ∃ (kqs : KQ) (v3 : Sl), ss = [.d (.lst (xs.map encN)), .d (.lst (ls.map encA)), dsl K p (dA encN encN xs f), v3, v4, v5, v6, v7, dls K p2 kqs] ∧ kqs.map dat = grpD encN encN f (xs.take k)) (ev_var rfl) ⟨[], _, rfl, rfl⟩ ?_ ?_)
  · rintro L' k x ss hL hk ⟨kqs, v3, rfl, hq⟩
    refine ⟨_, tg_name, fun N hN => ?_⟩
    have hx : x ∈ xs := List.mem_of_getElem? hk
    have hlen : kqs.length ≤ xs.length := by
      have h1 := congrArg List.length hq
      rw [List.length_map] at h1
      have h2 := grpD_len (enc := encN) (encB := encN) (f := f) (xs := xs.take k)
      rw [List.length_take] at h2
      omega
    refine go_dapp (i := 8) (k := encN (f x)) (d := encN x) rfl (ev_dget (k := encN x) (d := encN (f x)) rfl (ev_var rfl).b rfl (valD_in encN_inj hx)).b rfl (fun kqs' => ev_var rfl) (hz (by omega)) (fun z hzm => hz ?_) fun kqs' he => hN _ ⟨kqs', _, rfl, ?_⟩
    · have : dat z ∈ grpD encN encN f (xs.take k) := by rw [← hq]; exact List.mem_map_of_mem hzm
      have := grpD_item this
      rw [List.length_take] at this
      have e : (dat z).2 = z.2.2 := rfl
      rw [e] at this
      omega
    · rw [he, hq, List.take_add_one, hk]
      exact appD_grp encN_inj
  rintro ss ⟨kqs, v3, rfl, hq⟩
  rw [List.take_length] at hq
  refine nx_freezeL (i := 8) rfl ?_
  ((try dsimp only); refine nx_go ?_)
  have e : (kqs.map frzL).map (·.2) = partsD xs ls := by
    have h1 : (kqs.map frzL).map (·.2) = (kqs.map dat).map fun q => D.lst q.2 := by rw [List.map_map, List.map_map]; rfl
    rw [h1, hq, grpD_vals]
    unfold partsD
    rw [partsF_congr (g := ufF ls) fun a ha b hb => by rw [hf a ha, hf b hb]]
  refine go_retO (evo_vals (i := 8) rfl) ?_
  rw [e]; exact rt
def GoodC (m : Nat) (ps : List Pr) (as : List Apt) : Prop := (∀ p ∈ ps, p.1 < p.2.1 ∧ p.2.1 < m ∧ p.2.2 ≠ 0) ∧ ∀ a ∈ as, a.1 < a.2 ∧ a.2 < m
def linkP (as : List Apt) (p : Pr) : Bool := decide (0 < p.2.2) && !decide (encA (p.1, p.2.1) ∈ as.map encA)
def linksF (ps : List Pr) (as : List Apt) : List Apt := (ps.filter (linkP as)).map fun p => (p.1, p.2.1)
theorem encA_nb (a : Apt) : (encA a).nb = true := rfl
def preP (ds : List D) : Prop := ∃ (m : Nat) (ps : List Pr) (as : List Apt), ds = [.int m, .lst (ps.map encP), .lst (as.map encA)] ∧ m ≤ 100 ∧ ps.length ≤ 1000 ∧ as.length ≤ 1000 ∧ GoodC m ps as
def resP : List D → List D
  | [.int m, .lst ps, .lst as] => partsD (List.range m.toNat) (linksF (ps.map unP) (as.map unA))
  | _ => []
theorem resP_enc (m : Nat) (ps : List Pr) (as : List Apt) : resP [.int m, .lst (ps.map encP), .lst (as.map encA)] = partsD (List.range m) (linksF ps as) := by
  show partsD (List.range (m : Int).toNat) (linksF ((ps.map encP).map unP) ((as.map encA).map unA)) = _
  rw [unP_map, unA_map]; rfl
theorem links_in {m : Nat} {ps : List Pr} {as : List Apt} (hg : GoodC m ps as) : ∀ l ∈ linksF ps as, l.1 ∈ List.range m ∧ l.2 ∈ List.range m := fun l hl => by
  obtain ⟨p, hp, rfl⟩ := List.mem_map.mp hl
  have := hg.1 p (List.mem_filter.mp hp).1
  exact ⟨List.mem_range.mpr (Nat.lt_trans this.1 this.2.1), List.mem_range.mpr this.2.1⟩
theorem ok_parts_of (Z : Tx K mg ad0) : FnOk P w K mg base CX0 2 ad0.f_parts_of ad0.d_parts_of ["many", "pairs", "aparts"] (SpO K preP resP) := by
  have G_joined := ok_joined (P := P) (w := w) (base := base) Z
  refine Z.F_parts_of.ok sc_parts_of (fun vs H Q E h => spO_len (n := 3) (by rintro ds ⟨c, d, e, rfl, _⟩; rfl) h) (fun cdv A outer s H vs Q E hr h => ⟨_, (pss_cons (ps_setLC (i := 3) sc_parts_of.nd rfl (Or.inl rfl) rfl (LcOk.of (Nx := (["many", "pairs", "aparts", "links"] : List Str)) (sc := defScope s_parts_of) (N' := (["i", "j", "weight", "aparts"] : List Str)) (nt := 3) (cs := [2]) rfl rfl (by decide +kernel)) (pi_list (pv 1)) (fun _ _ _ _ => (show PG _ _ (gTup K 3 _) from pg_tup rfl (pgs_cons (pg_name (i := 0) (show List.Nodup (["i", "j", "weight", "aparts"] : List Str) by decide +kernel) rfl (Or.inl rfl)) (pgs_cons (pg_name (i := 1) (show List.Nodup (["i", "j", "weight", "aparts"] : List Str) by decide +kernel) rfl (Or.inl rfl)) (pgs_cons (pg_name (i := 2) (show List.Nodup (["i", "j", "weight", "aparts"] : List Str) by decide +kernel) rfl (Or.inl rfl)) pgs_nil))))) (fun _ _ _ _ => (pifs_one (PW.pt (pw_and (pt_cmpR op_gt (pv 2) pe_int (nomark _)) (pw_and1 (pt_cmpR (show OpR _ _ (rInD K true) from op_notInD hr.units) (pe_tup (pa_cons (pv 0) (pa_cons (pv 1) pa_nil))) (pv 3) (by with_unfolding_all rfl))))))) (fun _ _ _ _ => (pe_tup (pa_cons (pv 0) (pa_cons (pv 1) pa_nil)))))
      (pss_one (ps_ret (pe_call G_joined (hr.mono (by decide)) (by rfl) Z.M_joined Z.F_joined.kp Z.B_joined .nil pass0 (pa_cons (pe_callTy (show CallR _ _ rListRng from call_list_rng rfl) (by rfl) Z.z_list boot_list (pa_cons (pe_range1 (by rfl) Z.z_range (pa_cons (pv 0) pa_nil)) pa_nil)) (pa_cons (pv 3) pa_nil)))))), ?_⟩)
  refine go_spO h (by rw [spO_len (n := 3) (by rintro ds ⟨c, d, e, rfl, _⟩; rfl) h]; decide) fun G ds hp rt => ?_
  obtain ⟨m, ps, as, rfl, hm, hpl, hal, hg⟩ := hp
  rw [resP_enc] at rt
  have e1 : (ps.filter (linkP as)).map (fun p => encA (p.1, p.2.1)) = (linksF ps as).map encA := by unfold linksF; rw [List.map_map]; rfl
  refine go_seq (go_setO (ds := (linksF ps as).map encA) (by
    rw [← e1]
    exact evo_lcX ps encP (linkP as) (fun p => encA (p.1, p.2.1)) (ev_var rfl).l (gk_tup (gks_cons (gk_name (by decide)) (gks_cons (gk_name (by decide)) (gks_cons (gk_name (by decide)) gks_nil)))) (by decide) (by rw [sizeLine_eq]; omega) fun p hp => ⟨_, tg_tup rfl (tgs_cons tg_name (tgs_cons tg_name (tgs_cons tg_name tgs_nil))),
      evt_and (evt_test (ev_gt (ev_var rfl).b ev_int.b)) fun _ => evt_test (ev_notInD (d := encA (p.1, p.2.1)) (Ev.b (ev_tup (evaf_cons (ev_var rfl) (evaf_cons (ev_var rfl) evaf_nil)) (small (by simp)))) (ev_var rfl).b rfl (D.nbs_map encA_nb as) (by show 1 ≤ 60; decide)),
      fun _ => ev_tup (evaf_cons (ev_var rfl) (evaf_cons (ev_var rfl) evaf_nil)) (small (by simp))⟩) fun p => nx_freeze (i := 3) rfl ?_)
  ((try dsimp only); refine nx_go ?_)
  have := resJ_enc (List.range m) (linksF ps as)
  refine go_retO (ds := partsD (List.range m) (linksF ps as)) (by
    rw [← this]
    exact evo_call (pre := preJ) (res := resJ) (evaf_cons (EvO.ev (evo_listrange (n := m) (ev_var rfl).b (by omega))) (evaf_cons (ev_var rfl) evaf_nil)) ⟨List.range m, linksF ps as, rfl, List.nodup_range, links_in hg, by simp; omega⟩) rt
def idxP (part : List Nat) (p : Pr) : D := .tup [.int (part.idxOf p.1 : Nat), .int (part.idxOf p.2.1 : Nat), .int p.2.2]
def idxA (part : List Nat) (a : Apt) : D := .tup [.int (part.idxOf a.1 : Nat), .int (part.idxOf a.2 : Nat)]
def caseF (part : List Nat) (ps : List Pr) (as : List Apt) : D := .tup [.int part.length, .lst ((ps.filter fun p => decide (p.1 ∈ part) && decide (p.2.1 ∈ part)).map (idxP part)), .lst ((as.filter fun a => decide (a.1 ∈ part) && decide (a.2 ∈ part)).map (idxA part))]
def preC (ds : List D) : Prop := ∃ (part : List Nat) (ps : List Pr) (as : List Apt), ds = [.lst (part.map encN), .lst (ps.map encP), .lst (as.map encA)] ∧ part.Nodup ∧ part.length ≤ 100 ∧ ps.length ≤ 1000 ∧ as.length ≤ 1000
def resC : List D → D
  | [.lst part, .lst ps, .lst as] => caseF (part.map unN) (ps.map unP) (as.map unA)
  | _ => .non
theorem resC_enc (part : List Nat) (ps : List Pr) (as : List Apt) : resC [.lst (part.map encN), .lst (ps.map encP), .lst (as.map encA)] = caseF part ps as := by
  show caseF ((part.map encN).map unN) ((ps.map encP).map unP) ((as.map encA).map unA) = _
  rw [unN_map, unP_map, unA_map]
theorem idx_at {part : List Nat} (h : part.Nodup) {k x : Nat} (hk : part[k]? = some x) : part.idxOf x = k := by
  have hm : x ∈ part := List.mem_of_getElem? hk
  have hl := List.idxOf_lt_length_iff.mpr hm
  have h1 := List.getElem_idxOf hl
  obtain ⟨h2, h3⟩ := List.getElem?_eq_some_iff.mp hk
  unfold List.Nodup at h
  rw [List.pairwise_iff_getElem] at h
  rcases Nat.lt_trichotomy (part.idxOf x) k with c | c | c
  · exact absurd (h1.trans h3.symm) (h _ _ hl h2 c)
  · exact c
  · exact absurd (h3.trans h1.symm) (h _ _ h2 hl c)
theorem some_in (part : List Nat) (f : Nat → Nat) (i : Nat) : (valD (dA encN encN part f) (encN i)).isSome = decide (i ∈ part) := by
  by_cases h : i ∈ part
  · rw [valD_in encN_inj h, decide_eq_true h]; rfl
  · rw [valD_out encN_inj h, decide_eq_false h]; rfl
theorem ok_case_of (Z : Tx K mg ad0) : FnOk P w K mg base CX0 1 ad0.f_case_of ad0.d_case_of ["part", "pairs", "aparts"] (SpD K preC resC) := by
  refine Z.F_case_of.ok sc_case_of (fun vs H Q E h => spD_len (n := 3) (by rintro ds ⟨c, d, e, rfl, _⟩; rfl) h) (fun cdv A outer s H vs Q E hr h => ⟨_, (pss_cons (ps_set (i := 3) sc_case_of.nd rfl (Or.inr rfl) pe_dnewK)
      (pss_cons (ps_for PassesOwn.never rfl (pi_enum_list (by rfl) Z.z_enumerate (pa_cons (pv 0) pa_nil)) (pg_tup rfl (pgs_cons (pg_name (i := 4) sc_case_of.nd rfl (Or.inl rfl)) (pgs_cons (pg_name (i := 5) sc_case_of.nd rfl (Or.inl rfl)) pgs_nil))) (pss_one (ps_dput (hu_of hr) (pv 3) (pv 5) (pv 4) rfl)))
      (pss_cons (ps_setLC (i := 6) sc_case_of.nd rfl (Or.inl rfl) rfl (LcOk.of (Nx := (["part", "pairs", "aparts", "numbers", "number", "block", "inner_pairs", "inner_aparts"] : List Str)) (sc := defScope s_case_of) (N' := (["i", "j", "weight", "numbers"] : List Str)) (nt := 3) (cs := [3]) rfl rfl (by decide +kernel)) (pi_list (pv 1)) (fun _ _ _ _ => (show PG _ _ (gTup K 3 _) from pg_tup rfl (pgs_cons (pg_name (i := 0) (show List.Nodup (["i", "j", "weight", "numbers"] : List Str) by decide +kernel) rfl (Or.inl rfl)) (pgs_cons (pg_name (i := 1) (show List.Nodup (["i", "j", "weight", "numbers"] : List Str) by decide +kernel) rfl (Or.inl rfl)) (pgs_cons (pg_name (i := 2) (show List.Nodup (["i", "j", "weight", "numbers"] : List Str) by decide +kernel) rfl (Or.inl rfl)) pgs_nil))))) (fun _ _ _ _ => (pifs_one (PW.pt (pw_and (pt_cmp (pc_din (hu_of hr) (pv 0) (pv 3)) (by with_unfolding_all rfl)) (pw_and1 (pt_cmp (pc_din (hu_of hr) (pv 1) (pv 3)) (by with_unfolding_all rfl))))))) (fun _ _ _ _ => (pe_tup (pa_cons (pe_dget (hu_of hr) (pv 3) (pv 0) (fun _ _ => rfl)) (pa_cons (pe_dget (hu_of hr) (pv 3) (pv 1) (fun _ _ => rfl)) (pa_cons (pv 2) pa_nil))))))
      (pss_cons (ps_setLC (i := 7) sc_case_of.nd rfl (Or.inl rfl) rfl (LcOk.of (Nx := (["part", "pairs", "aparts", "numbers", "number", "block", "inner_pairs", "inner_aparts"] : List Str)) (sc := defScope s_case_of) (N' := (["i", "j", "numbers"] : List Str)) (nt := 2) (cs := [3]) rfl rfl (by decide +kernel)) (pi_list (pv 2)) (fun _ _ _ _ => (show PG _ _ (gTup K 2 _) from pg_tup rfl (pgs_cons (pg_name (i := 0) (show List.Nodup (["i", "j", "numbers"] : List Str) by decide +kernel) rfl (Or.inl rfl)) (pgs_cons (pg_name (i := 1) (show List.Nodup (["i", "j", "numbers"] : List Str) by decide +kernel) rfl (Or.inl rfl)) pgs_nil)))) (fun _ _ _ _ => (pifs_one (PW.pt (pw_and (pt_cmp (pc_din (hu_of hr) (pv 0) (pv 2)) (by with_unfolding_all rfl)) (pw_and1 (pt_cmp (pc_din (hu_of hr) (pv 1) (pv 2)) (by with_unfolding_all rfl))))))) (fun _ _ _ _ => (pe_tup (pa_cons (pe_dget (hu_of hr) (pv 2) (pv 0) (fun _ _ => rfl)) (pa_cons (pe_dget (hu_of hr) (pv 2) (pv 1) (fun _ _ => rfl)) pa_nil)))))
      (pss_one (ps_ret (pe_tup (pa_cons (pe_callB call_len_seq (by rfl) Z.z_len boot_len (pa_cons (pv 0) pa_nil)) (pa_cons (pv 6) (pa_cons (pv 7) pa_nil)))))))))), ?_⟩)
  refine go_spD h (by rw [spD_len (n := 3) (by rintro ds ⟨c, d, e, rfl, _⟩; rfl) h]; decide) fun G ds hp rt => ?_
  obtain ⟨part, ps, as, rfl, hnd, hl, hpl, hal⟩ := hp
  rw [resC_enc] at rt
  refine go_seq (go_setM fun p => ?_)
  ((try dsimp only); refine nx_go ?_)
  refine go_seq (go_enum encN part (fun k ss => ∃ v4 v5 : Sl, ss = [.d (.lst (part.map encN)), .d (.lst (ps.map encP)), .d (.lst (as.map encA)), dsl K p (dA encN encN (part.take k) part.idxOf), v4, v5, .un, .un]) (ev_var rfl) ⟨.un, .un, rfl⟩ ?_ ?_)
  · rintro L' k x ss hL hk ⟨v4, v5, rfl⟩
    refine ⟨_, tg_tup rfl (tgs_cons tg_name (tgs_cons tg_name tgs_nil)), fun N hN => ?_⟩
    refine go_dput (i := 3) (d := encN k) (k := encN x) rfl (ev_var rfl) (ev_var rfl).b rfl (by rw [sizeLine_eq]; unfold dA; rw [List.length_map, List.length_take]; omega) (hN _ ⟨.d (encN k), .d (encN x), ?_⟩)
    have e : putD (dA encN encN (part.take k) part.idxOf) (encN x) (encN k) = dA encN encN (part.take (k + 1)) part.idxOf := by
      rw [List.take_add_one, hk, ← idx_at hnd hk]
      exact putD_new (f := part.idxOf) encN_inj (by rw [idx_at hnd hk]; exact nodup_take hnd hk)
    rw [e]; rfl
  rintro ss ⟨v4, v5, rfl⟩
  rw [List.take_length]
  ((try dsimp only); refine nx_go ?_)
  have g1 : ∀ i : Nat, i ∈ part → valD (dA encN encN part part.idxOf) (encN i) = some (encN (part.idxOf i)) := fun i h => valD_in encN_inj h
  refine go_seq (go_setO (ds := (ps.filter fun p => decide (p.1 ∈ part) && decide (p.2.1 ∈ part)).map (idxP part)) (evo_lcX ps encP (fun p => decide (p.1 ∈ part) && decide (p.2.1 ∈ part)) (idxP part) (ev_var rfl).l (gk_tup (gks_cons (gk_name (by decide)) (gks_cons (gk_name (by decide)) (gks_cons (gk_name (by decide)) gks_nil)))) (by decide) (by rw [sizeLine_eq]; omega) fun q hq => ⟨_, tg_tup rfl (tgs_cons tg_name (tgs_cons tg_name (tgs_cons tg_name tgs_nil))),
      evt_and (by rw [← some_in part part.idxOf]; exact evt_b (ev_din (k := encN q.1) rfl (ev_var rfl).b rfl)) fun _ => (by rw [← some_in part part.idxOf]; exact evt_b (ev_din (k := encN q.2.1) rfl (ev_var rfl).b rfl)), fun hb => by
        rw [Bool.and_eq_true, decide_eq_true_eq, decide_eq_true_eq] at hb
        exact ev_tup (evaf_cons (ev_dget (k := encN q.1) rfl (ev_var rfl).b rfl (g1 _ hb.1)) (evaf_cons (ev_dget (k := encN q.2.1) rfl (ev_var rfl).b rfl (g1 _ hb.2)) (evaf_cons (ev_var rfl) evaf_nil))) (small (by simp))⟩)
    fun p6 => nx_freeze (i := 6) rfl ?_)
  ((try dsimp only); refine nx_go ?_)
  refine go_seq (go_setO (ds := (as.filter fun a => decide (a.1 ∈ part) && decide (a.2 ∈ part)).map (idxA part)) (evo_lcX as encA (fun a => decide (a.1 ∈ part) && decide (a.2 ∈ part)) (idxA part) (ev_var rfl).l (gk_tup (gks_cons (gk_name (by decide)) (gks_cons (gk_name (by decide)) gks_nil))) (by decide) (by rw [sizeLine_eq]; omega) fun q hq => ⟨_, tg_tup rfl (tgs_cons tg_name (tgs_cons tg_name tgs_nil)),
      evt_and (by rw [← some_in part part.idxOf]; exact evt_b (ev_din (k := encN q.1) rfl (ev_var rfl).b rfl)) fun _ => (by rw [← some_in part part.idxOf]; exact evt_b (ev_din (k := encN q.2) rfl (ev_var rfl).b rfl)), fun hb => by
        rw [Bool.and_eq_true, decide_eq_true_eq, decide_eq_true_eq] at hb
        exact ev_tup (evaf_cons (ev_dget (k := encN q.1) rfl (ev_var rfl).b rfl (g1 _ hb.1)) (evaf_cons (ev_dget (k := encN q.2) rfl (ev_var rfl).b rfl (g1 _ hb.2)) evaf_nil)) (small (by simp))⟩)
    fun p7 => nx_freeze (i := 7) rfl ?_)
  ((try dsimp only); refine nx_go ?_)
  refine go_ret (d := caseF part ps as) ?_ rt
  have ll : ((part.map encN).length : Int) = part.length := by rw [List.length_map]
  unfold caseF
  rw [← ll]
  exact ev_tup (evaf_cons (ev_lenL (ev_var rfl).l) (evaf_cons (ev_var rfl) (evaf_cons (ev_var rfl) evaf_nil))) (small (by simp))
def encG (g : List Nat) : D := .lst (g.map encN)
theorem encG_int (g : List Nat) : g.map encN = (toI g).map D.int := by unfold toI; rw [List.map_map]; rfl
theorem mx_ng (g : List Nat) : (toI g = [] ∧ (ngF g : Int) - 1 = -1) ∨ ((ngF g : Int) - 1 ∈ toI g ∧ ∀ n ∈ toI g, n ≤ (ngF g : Int) - 1) := by
  have mm : ∀ {g : List Nat} {x : Nat}, (x : Int) ∈ toI g ↔ x ∈ g := fun {g x} => by
    unfold toI
    rw [List.mem_map]
    exact ⟨fun ⟨y, hy, e⟩ => by have : y = x := by omega
                                exact this ▸ hy, fun h => ⟨x, h, rfl⟩⟩
  have all : ∀ {g : List Nat}, (∀ x ∈ g, x + 1 ≤ ngF g) ∧ (g ≠ [] → ∃ x ∈ g, ngF g = x + 1) := fun {g} => by
    induction g using sn_ind with
    | h0 => exact ⟨fun x hx => by simp at hx, fun z => absurd rfl z⟩
    | hs g y ih =>
      rw [ng_snoc]
      refine ⟨fun x hx => ?_, fun _ => ?_⟩
      · rcases List.mem_append.mp hx with h | h
        · have := ih.1 x h; omega
        · rw [List.mem_singleton.mp h]; omega
      · by_cases c : ngF g ≤ y + 1
        · exact ⟨y, by simp, by omega⟩
        · have hne : g ≠ [] := fun z => c (by rw [z]; show 0 ≤ y + 1; omega)
          obtain ⟨x, hx, e⟩ := ih.2 hne
          exact ⟨x, List.mem_append_left _ hx, by omega⟩
  by_cases h : g = []
  · subst h; exact .inl ⟨rfl, rfl⟩
  · obtain ⟨x, hx, e⟩ := all.2 h
    refine .inr ⟨?_, fun n hn => ?_⟩
    · rw [show (ngF g : Int) - 1 = (x : Int) by omega]; exact mm.mpr hx
    · obtain ⟨y, hy, rfl⟩ := List.mem_map.mp hn
      have := all.1 y hy
      omega
def extG (gs : List (List Nat)) : List (List Nat) := gs.flatMap fun g => (List.range (ngF g + 1)).map fun x => g ++ [x]
theorem ext_snoc (gs : List (List Nat)) (g : List Nat) : extG (gs ++ [g]) = extG gs ++ (List.range (ngF g + 1)).map fun x => g ++ [x] := by
  unfold extG; rw [List.flatMap_append]; simp
theorem ext_len : ∀ {gs : List (List Nat)}, (∀ g ∈ gs, ngF g ≤ 7) → (extG gs).length ≤ 8 * gs.length
  | [], _ => Nat.le_refl _
  | g :: gs, h => by
    have ih := ext_len fun x hx => h x (List.mem_cons_of_mem _ hx)
    have h1 := h g List.mem_cons_self
    show ((List.range (ngF g + 1)).map _ ++ extG gs).length ≤ _
    rw [List.length_append, List.length_map, List.length_range, List.length_cons]
    omega
theorem rgs_ng {n : Nat} : ∀ {g : List Nat}, g ∈ rgs n → ngF g ≤ n := by
  induction n with
  | zero => intro g h; rw [rgs] at h; rw [List.mem_singleton.mp h]; exact Nat.le_refl _
  | succ n ih =>
    intro g h
    obtain ⟨g', h1, x, hx, rfl⟩ := mem_rgs.mp h
    have := ih h1
    rw [ng_snoc]; omega
theorem rgs_few : ∀ n ≤ 7, (rgs n).length ≤ 1000 := by decide +kernel
def preGo (ds : List D) : Prop := ∃ n : Nat, ds = [.int n] ∧ n ≤ 7
def resGo : List D → D
  | [.int n] => .lst ((rgs n.toNat).map encG)
  | _ => .non
theorem ok_groupings_of (Z : Tx K mg ad0) : FnOk P w K mg base CX0 1 ad0.f_groupings_of ad0.d_groupings_of ["many"] (SpD K preGo resGo) := by
  refine Z.F_groupings_of.ok sc_groupings_of (fun vs H Q E h => spD_len (n := 1) (by rintro ds ⟨c, rfl, _⟩; rfl) h) (fun cdv A outer s H vs Q E hr h => ⟨_, (pss_cons (ps_set (i := 1) sc_groupings_of.nd rfl (Or.inl rfl) (pe_lst (pa_cons (pe_lst pa_nil) pa_nil)))
      (pss_cons (ps_for PassesOwn.never rfl (pi_range1 (by rfl) Z.z_range (pa_cons (pv 0) pa_nil)) (pg_name (i := 2) sc_groupings_of.nd rfl (Or.inl rfl)) (pss_cons (ps_set (i := 3) sc_groupings_of.nd rfl (Or.inl rfl) (pe_lst pa_nil))
      (pss_cons (ps_for PassesOwn.never rfl (pi_list (pv 1)) (pg_name (i := 4) sc_groupings_of.nd rfl (Or.inl rfl)) (pss_one (ps_for PassesOwn.never rfl (pi_range1 (by rfl) Z.z_range (pa_cons (pe_op op_add (pe_maxD rfl (by rfl) Z.z_max (pv 4) (pe_un un_neg pe_int)) pe_int) pa_nil)) (pg_name (i := 5) sc_groupings_of.nd rfl (Or.inl rfl)) (pss_one (ps_expr (pe_bm F.plainAttrs_list F.slot_list_append F.type_list_append mt_append (pv 3) (pa_cons (pe_op (show OpR _ _ (rCatD K) from op_catD) (pv 4) (pe_lst (pa_cons (pv 5) pa_nil))) pa_nil)))))))
      (pss_one (ps_set (i := 1) sc_groupings_of.nd rfl (Or.inl rfl) (pv 3))))))
      (pss_one (ps_ret (pv 1))))), ?_⟩)
  refine go_spD h (by rw [spD_len (n := 1) (by rintro ds ⟨c, rfl, _⟩; rfl) h]; decide) fun G ds hp rt => ?_
  obtain ⟨n, rfl, hn⟩ := hp
  refine go_seq (go_set (d := .lst ((rgs 0).map encG)) (EvO.ev (evo_lst (evaf_cons (EvO.ev (evo_lst evaf_nil (small (by decide)))) evaf_nil) (small (by decide)))) ?_)
  ((try dsimp only); refine nx_go ?_)
  refine go_seq (go_range (n := (n : Int)) (fun k ss => ∃ v2 v3 v4 v5 : Sl, ss = [.d (.int n), .d (.lst ((rgs k).map encG)), v2, v3, v4, v5]) (eva_cons (ev_var rfl).b eva_nil) ⟨by omega, by omega⟩ ⟨.un, .un, .un, .un, rfl⟩ ?_ ?_ (fun _ _ _ h => h))
  · rintro k ss hk ⟨v2, v3, v4, v5, rfl⟩ N hN
    refine go_seq (go_setO (evo_lst evaf_nil (small (by decide))) fun p => ?_)
    ((try dsimp only); refine nx_go ?_)
    refine go_seq (go_for encG (rgs k) (fun j ss => ∃ v4 v5 : Sl, ss = [.d (.int n), .d (.lst ((rgs k).map encG)), .d (.int k), .o p ((extG ((rgs k).take j)).map encG), v4, v5]) (ev_var rfl) ⟨v4, v5, rfl⟩ ?_ ?_)
    · rintro L' j g ss hL hj ⟨v4, v5, rfl⟩
      refine ⟨_, tg_name, fun N2 hN2 => ?_⟩
      have hg : g ∈ rgs k := List.mem_of_getElem? hj
      have hgl := rgs_len hg
      have et : extG ((rgs k).take (j + 1)) = extG ((rgs k).take j) ++ (List.range (ngF g + 1)).map fun x => g ++ [x] := by rw [List.take_add_one, hj]; exact ext_snoc _ _
      have hb1 : (extG ((rgs k).take j)).length ≤ 8 * 1000 := by
        have h1 := ext_len (gs := (rgs k).take j) fun x hx => by have := rgs_ng (List.mem_of_mem_take hx); omega
        have h2 := rgs_few k (by omega)
        have h3 : ((rgs k).take j).length ≤ (rgs k).length := by rw [List.length_take]; omega
        omega
      have hb2 := rgs_ng hg
      refine go_range (n := (ngF g : Int) - 1 + 2) (fun t ss => ∃ v5 : Sl, ss = [.d (.int n), .d (.lst ((rgs k).map encG)), .d (.int k), .o p ((extG ((rgs k).take j) ++ (List.range t).map fun x => g ++ [x]).map encG), .d (encG g), v5]) (eva_cons (ev_add (ev_maxD (ns := toI g) (d0 := -1) (by rw [← encG_int]; exact Ev.l (ev_var rfl)) (ev_neg ev_int.b) (mx_ng g)).b ev_int.b).b eva_nil) ⟨by omega, by omega⟩ ⟨v5, by simp⟩ ?_ ?_ (fun _ _ _ h => h)
      · rintro t ss ht ⟨v5, rfl⟩ N3 hN3
        have ea : encG (g ++ [t]) = .lst (g.map encN ++ [encN t]) := by unfold encG; rw [List.map_append]; rfl
        refine go_append (d := encG (g ++ [t])) rfl (by rw [ea]; exact EvO.ev (evo_cat (da := g.map encN) (db := [encN t]) (Ev.l (ev_var rfl)) (EvO.l (evo_lst (evaf_cons (ev_var rfl) evaf_nil) (small (by simp)))) (small (by rw [List.length_map, hgl]; show k + 1 ≤ 1000; omega)))) (by rw [List.length_map, List.length_append, List.length_map, List.length_range, sizeLine_eq]; omega) (hN3 _ ⟨.d (.int t), ?_⟩)
        have e5 : (extG ((rgs k).take j) ++ (List.range (t + 1)).map fun x => g ++ [x]).map encG = (extG ((rgs k).take j) ++ (List.range t).map fun x => g ++ [x]).map encG ++ [encG (g ++ [t])] := by rw [List.range_succ, List.map_append (f := fun x => g ++ [x]), ← List.append_assoc, List.map_append (f := encG) (l₂ := List.map (fun x => g ++ [x]) [t])]; rfl
        rw [e5]; rfl
      · rintro ss ⟨v5, rfl⟩
        rw [show ((ngF g : Int) - 1 + 2).toNat = ngF g + 1 by omega, ← et]
        exact hN2 _ ⟨_, _, rfl⟩
    · rintro ss ⟨v4, v5, rfl⟩
      rw [List.take_length]
      refine nx_freeze (i := 3) rfl ?_
      ((try dsimp only); refine nx_go ?_)
      exact go_set (ev_var rfl) (hN _ ⟨_, _, _, _, rfl⟩)
  · rintro ss ⟨v2, v3, v4, v5, rfl⟩
    ((try dsimp only); refine nx_go ?_)
    exact go_ret (ev_var rfl) rt
theorem toI_at (g : List Nat) (i : Nat) : (toI g).getD i 0 = ((atG g i : Nat) : Int) := by
  unfold toI atG
  rw [List.getD_eq_getElem?_getD, List.getElem?_map, List.getD_eq_getElem?_getD]
  cases g[i]? <;> rfl
theorem keeps_toI {as : List Apt} {g : List Nat} : keepsF as (toI g) = true ↔ keepG as g := by
  unfold keepsF keepG
  rw [List.all_eq_true]
  refine ⟨fun h a ha z => ?_, fun h a ha => ?_⟩
  · have := h a ha
    rw [toI_at, toI_at, z] at this
    simp at this
  · rw [toI_at, toI_at, decide_eq_false (fun z => h a ha (by omega))]; rfl
theorem loss_one (g : List Nat) (p : Pr) : lossOne (toI g) p = lossK (atG g) p := by
  unfold lossOne lossK
  rw [toI_at, toI_at]
  have e : decide (((atG g p.1 : Nat) : Int) = ((atG g p.2.1 : Nat) : Int)) = decide (atG g p.1 = atG g p.2.1) := by rw [Bool.eq_iff_iff, decide_eq_true_eq, decide_eq_true_eq]; omega
  rw [e]
  by_cases c : decide (atG g p.1 = atG g p.2.1) = decide (0 < p.2.2)
  · rw [if_pos c, decide_eq_true c]; rfl
  · rw [if_neg c, decide_eq_false c]; rfl
theorem sumL_sum (f : Pr → Int) (ps : List Pr) : sumL f ps = sumI (ps.map f) := by
  have : ∀ (ps : List Pr) (z : Int), ps.foldl (fun a p => a + f p) z = z + sumI (ps.map f) := by
    intro ps
    induction ps with
    | nil => intro z; show z = z + 0; omega
    | cons p ps ih => intro z; show ps.foldl _ (z + f p) = z + (f p + sumI (ps.map f)); rw [ih]; omega
  have h := this ps 0
  unfold sumL
  omega
theorem loss_toI (ps : List Pr) (g : List Nat) : sumL (lossOne (toI g)) ps = lossG ps g := by
  rw [sumL_sum]
  exact sum_congr fun p _ => loss_one g p
def caseD (n : Nat) (ps : List Pr) (as : List Apt) : D := .tup [.int n, .lst (ps.map encP), .lst (as.map encA)]
def preB (ds : List D) : Prop := ∃ (n : Nat) (ps : List Pr) (as : List Apt), ds = [caseD n ps as] ∧ 1 ≤ n ∧ n ≤ 7 ∧ ps.length ≤ 1000 ∧ as.length ≤ 1000 ∧ GoodB n ps as
noncomputable def resB : List D → D
  | [.tup [.int n, .lst ps, .lst as]] => encG (bestP n.toNat (ps.map unP) (as.map unA))
  | _ => .non
theorem resB_enc (n : Nat) (ps : List Pr) (as : List Apt) : resB [caseD n ps as] = encG (bestP n ps as) := by
  show encG (bestP (n : Int).toNat ((ps.map encP).map unP) ((as.map encA).map unA)) = _
  rw [unP_map, unA_map]; rfl
def lamP : Pos := ⟨76, 25, 76, 96⟩
abbrev lamQ : Str := "best_in_part.<locals>.<lambda>"
theorem ok_best_in_part {T0 : Addr} (Z : Tx K mg ad0) (Y : LamAt base mg ad0.d_best_in_part T0) : FnOk P w K mg base CX0 4 ad0.f_best_in_part ad0.d_best_in_part ["case"] (SpDT K T0 lamP lamQ preB resB) := by
  have G_keeps := ok_keeps (P := P) (w := w) (base := base) Z
  have G_loss_of := ok_loss_of (P := P) (w := w) (base := base) Z
  have G_groupings_of := ok_groupings_of (P := P) (w := w) (base := base) Z
  obtain ⟨c0, hc0, hC1⟩ := Y.ex
  refine Z.F_best_in_part.okC sc_best_in_part (fun vs H Q E h => spDT_len (n := 1) (by rintro ds ⟨a, b, c, rfl, _⟩; rfl) h) (fun cdv A outer s H vs Q E hcd hr h => ?_)
  have hC0 : cdv = .ref c0 := hcd.symm.trans hc0
  refine ⟨_, (pss_cons (ps_setLC (i := 1) sc_best_in_part.nd rfl (Or.inl rfl) rfl (LcOk.of (Nx := (["case", "kept"] : List Str)) (sc := defScope s_best_in_part) (N' := (["grouping", "case"] : List Str)) (nt := 1) (cs := [0]) rfl rfl (by decide +kernel)) (pi_list (pe_call G_groupings_of (hr.mono (by decide)) (by rfl) Z.M_groupings_of Z.F_groupings_of.kp Z.B_groupings_of .nil pass0 (pa_cons (pe_ix (show IxR _ (rIxT K) from ix_tup) (pv 0) pe_int (fun _ _ => rfl)) pa_nil))) (fun _ _ _ _ => (pg_name (i := 0) (show List.Nodup (["grouping", "case"] : List Str) by decide +kernel) rfl (Or.inl rfl))) (fun _ _ _ _ => (pifs_one (pt_val (pe_call G_keeps (hr.mono (by decide)) (by rfl) Z.M_keeps Z.F_keeps.kp Z.B_keeps .nil pass0 (pa_cons (pe_ix (show IxR _ (rIxT K) from ix_tup) (pv 1) pe_int (fun _ _ => rfl)) (pa_cons (pv 0) pa_nil)))))) (fun _ _ _ _ => (pv 0)))
      (pss_one (ps_ret (pe_minLam (x := "grouping") (y := "case") (i := 0) (q := "best_in_part.<locals>.<lambda>") rfl hr (by rfl) Z.z_min (pv 1) hC1 Y.bt hC0 rfl rfl (by rfl) (fun _ _ _ _ _ => rfl) (by rfl) (by rfl) (by decide +kernel) (lam_free (by rfl)) rfl rfl rfl rfl (fun cc hcc => lam_clos (by rfl) hcc) (fun _ _ _ _ _ hr => (pe_tup (pa_cons (pe_call G_loss_of (hr.mono (by decide)) (by rfl) Z.M_loss_of Z.F_loss_of.kp Z.B_loss_of .nil pass0 (pa_cons (pe_ix (show IxR _ (rIxT K) from ix_tup) (pv 1) pe_int (fun _ _ => rfl)) (pa_cons (pv 0) pa_nil))) (pa_cons (pe_un un_neg (pe_callB (show CallR _ _ (rMaxL K) from call_maxL rfl) (by rfl) Z.z_max boot_max (pa_cons (pv 0) pa_nil))) (pa_cons (pv 0) pa_nil))))))))), ?_⟩
  refine go_spDT h (by rw [spDT_len (n := 1) (by rintro ds ⟨a, b, c, rfl, _⟩; rfl) h]; decide) fun G ds hT hp rt => ?_
  obtain ⟨n, ps, as, rfl, hn1, hn7, hpl, hal, hg⟩ := hp
  rw [resB_enc] at rt
  have fl := rgs_few n hn7
  have lenI : ∀ {g : List Nat}, g ∈ rgs n → (toI g).length = n := fun h => by unfold toI; rw [List.length_map, rgs_len h]
  refine go_seq (go_setO (ds := ((rgs n).filter fun g => keepsF as (toI g)).map encG) (evo_lcX (rgs n) encG (fun g => keepsF as (toI g)) encG (Ev.l (ev_call (pre := preGo) (res := resGo) (evaf_cons (ev_ixT (d := .int n) (ev_var rfl) ev_int.b rfl) evaf_nil) ⟨n, rfl, hn7⟩)) (gk_name (by decide)) (by decide) (by rw [sizeLine_eq]; omega) fun g hgm => ⟨_, tg_name, ?_, fun _ => ev_var rfl⟩) fun p => ?_)
  · have e := resKp_enc as (toI g)
    rw [← encG_int] at e
    refine evt_b (by rw [← e]; exact ev_call (pre := preKp) (res := resKp) (evaf_cons (ev_ixT (ev_var rfl) ev_int.b rfl) (evaf_cons (ev_var rfl) evaf_nil)) ⟨as, toI g, by rw [← encG_int], fun a ha => by rw [lenI hgm]; exact ⟨(hg.2 a ha).1, (hg.2 a ha).2.1⟩, hal⟩)
  ((try dsimp only); refine nx_go ?_)
  have mem : ∀ {g : List Nat}, g ∈ (rgs n).filter (fun g => keepsF as (toI g)) → g ∈ rgs n ∧ keepG as g := fun h => ⟨(List.mem_filter.mp h).1, keeps_toI.mp (List.mem_filter.mp h).2⟩
  have kk : ∀ g : List Nat, lossG ps g :: (-((ngF g : Int) - 1)) :: toI g = keyG ps g := fun g => by unfold keyG; rw [show -((ngF g : Int) - 1) = 1 - (ngF g : Int) by omega]
  refine go_ret (ev_minLam encG ((rgs n).filter fun g => keepsF as (toI g)) (fun g => (lossG ps g, -((ngF g : Int) - 1), toI g)) n (evl_own rfl) rfl hT ?_ (fun g hgm => lenI (mem hgm).1) (fun F H g hgm => ?_) (fun g hgm hmin => ?_)) rt
  · exact List.ne_nil_of_mem (List.mem_filter.mpr ⟨range_rg n, keeps_toI.mpr (range_kp hg.2)⟩)
  · obtain ⟨h1, h2⟩ := mem hgm
    have e := resLoss_enc ps (toI g)
    rw [← encG_int, loss_toI] at e
    have hmx : (ngF g : Int) - 1 ∈ toI g ∧ ∀ n ∈ toI g, n ≤ (ngF g : Int) - 1 := by
      rcases mx_ng g with ⟨z, _⟩ | z
      · have := lenI h1
        rw [z] at this
        simp at this; omega
      · exact z
    refine ev_tup (evaf_cons (by rw [← e]; exact ev_call (pre := prePr) (res := resLoss) (evaf_cons (ev_ixT (ev_var rfl) ev_int.b rfl) (evaf_cons (ev_var rfl) evaf_nil)) ⟨ps, toI g, by rw [← encG_int], fun p hp => by rw [lenI h1]; exact hg.1 p hp, hpl⟩) (evaf_cons (ev_neg (ev_maxL (ns := toI g) (by rw [← encG_int]; exact Ev.l (ev_var rfl)) hmx.1 hmx.2).b) (evaf_cons (by rw [← encG_int]; exact ev_var rfl) evaf_nil))) (small (by simp))
  · obtain ⟨h1, h2⟩ := mem hgm
    congr 1
    refine (bestP_eq ⟨h1, h2, fun h hh hk => ?_⟩).symm
    have := hmin h (List.mem_filter.mpr ⟨hh, keeps_toI.mpr hk⟩)
    rw [kk, kk] at this
    exact this
theorem encA_inj (a b : Apt) (h : encA a = encA b) : a = b := by
  unfold encA at h
  injection h with h
  injection h with h1 h
  injection h with h2 _
  injection h1 with h1
  injection h2 with h2
  exact Prod.ext (by omega) (by omega)
def preNu (ds : List D) : Prop := ∃ ls : List Apt, ds = [.lst (ls.map encA)] ∧ ls.length ≤ 1000
def resNu : List D → List D
  | [.lst ls] => (numF (ls.map unA)).map encN
  | _ => []
theorem dd_len {β : Type} [DecidableEq β] (ls : List β) : (dd ls).length ≤ ls.length := by
  induction ls using sn_ind with
  | h0 => exact Nat.le_refl _
  | hs ls x ih =>
    rw [List.length_append]
    by_cases h : x ∈ ls
    · rw [dd_in h]; omega
    · rw [dd_out h, List.length_append]; exact Nat.add_le_add_right ih _
theorem ok_numbered_anew (Z : Tx K mg ad0) : FnOk P w K mg base CX0 1 ad0.f_numbered_anew ad0.d_numbered_anew ["labels"] (SpO K preNu resNu) := by
  refine Z.F_numbered_anew.ok sc_numbered_anew (fun vs H Q E h => spO_len (n := 1) (by rintro ds ⟨c, rfl, _⟩; rfl) h) (fun cdv A outer s H vs Q E hr h => ⟨_, (pss_cons (ps_set (i := 1) sc_numbered_anew.nd rfl (Or.inl rfl) pe_dnewT)
      (pss_cons (ps_set (i := 2) sc_numbered_anew.nd rfl (Or.inl rfl) (pe_lst pa_nil))
      (pss_cons (ps_for PassesOwn.never rfl (pi_list (pv 0)) (pg_name (i := 3) sc_numbered_anew.nd rfl (Or.inl rfl)) (pss_cons (ps_if (pt_cmp (pc_dnotin (hu_of hr) (pv 3) (pv 1)) (by with_unfolding_all rfl)) (pss_one (ps_dput (hu_of hr) (pv 1) (pv 3) (pe_callB (show CallR _ _ rLenM from call_lenM) (by rfl) Z.z_len boot_len (pa_cons (pv 1) pa_nil)) rfl)) pss_nil)
      (pss_one (ps_expr (pe_bm F.plainAttrs_list F.slot_list_append F.type_list_append mt_append (pv 2) (pa_cons (pe_dget (hu_of hr) (pv 1) (pv 3) (fun _ _ => rfl)) pa_nil))))))
      (pss_one (ps_ret (pv 2)))))), ?_⟩)
  refine go_spO h (by rw [spO_len (n := 1) (by rintro ds ⟨c, rfl, _⟩; rfl) h]; decide) fun G ds hp rt => ?_
  obtain ⟨ls, rfl, hl⟩ := hp
  have e0 : resNu [.lst (ls.map encA)] = (numF ls).map encN := by show (numF ((ls.map encA).map unA)).map encN = _; rw [unA_map]
  rw [e0] at rt
  let kv (l : List Apt) : DD := dA encA encN (dd l) (ixo (dd l))
  have kvl : ∀ l : List Apt, (kv l).length = (dd l).length := fun l => by show (dA _ _ _ _).length = _; unfold dA; rw [List.length_map]
  refine go_seq (go_setMT fun p => ?_)
  ((try dsimp only); refine nx_go ?_)
  refine go_seq (go_setO (evo_lst evaf_nil (small (by decide))) fun q => ?_)
  ((try dsimp only); refine nx_go ?_)
  refine go_seq (go_for encA ls (fun k ss => ∃ v3 : Sl, ss = [.d (.lst (ls.map encA)), dslT K p (kv (ls.take k)), .o q ((numF (ls.take k)).map encN), v3]) (ev_var rfl) ⟨.un, rfl⟩ ?_ ?_)
  · rintro L' k x ss hL hk ⟨v3, rfl⟩
    refine ⟨_, tg_name, fun N hN => ?_⟩
    have et : ls.take (k + 1) = ls.take k ++ [x] := by rw [List.take_add_one, hk]; rfl
    have ltk : (ls.take k).length ≤ 1000 := by rw [List.length_take]; omega
    generalize ls.take k = lk at et ltk
    have hz : (kv lk).length < sizeLine := by rw [kvl, sizeLine_eq]; have := dd_len lk; omega
    have vx : (valD (kv lk) (encA x)).isSome = decide (x ∈ lk) := by
      by_cases h : x ∈ lk
      · rw [show valD (kv lk) (encA x) = _ from valD_in encA_inj ((mem_dd lk).mpr h), decide_eq_true h]; rfl
      · rw [show valD (kv lk) (encA x) = _ from valD_out encA_inj (fun z => h ((mem_dd lk).mp z)), decide_eq_false h]; rfl
    refine go_join (fun ss => ss = [.d (.lst (ls.map encA)), dslT K p (kv (lk ++ [x])), .o q ((numF lk).map encN), .d (encA x)]) (fun N' hN' => go_if (b := !decide (x ∈ lk)) (by rw [← vx]; exact evt_b (ev_dnotinK (ds := [.int x.1, .int x.2]) rfl (ev_var rfl) rfl rfl)) (fun hb => ?_) (fun hb => ?_)) ?_
    · have h : x ∉ lk := by simpa using hb
      have hd : x ∉ dd lk := fun z => h ((mem_dd lk).mp z)
      refine go_dputK (ds := [.int x.1, .int x.2]) rfl (ev_lenK rfl) (ev_var rfl) rfl rfl hz (hN' _ ?_)
      have e : putD (kv lk) (encA x) (.int (kv lk).length) = kv (lk ++ [x]) := by
        show putD (dA encA encN (dd lk) (ixo (dd lk))) (encA x) (encN (kv lk).length) = dA encA encN (dd (lk ++ [x])) (ixo (dd (lk ++ [x])))
        rw [dd_out h, kvl]
        have e1 : dA encA encN (dd lk) (ixo (dd lk)) = dA encA encN (dd lk) (ixo (dd lk ++ [x])) := dA_congr fun y hy => (ixo_in hy).symm
        rw [e1]
        have e2 : (dd lk).length = ixo (dd lk ++ [x]) x := by rw [ixo_self, ixo_out hd]
        rw [e2]
        exact putD_new (f := (ixo (dd lk ++ [x]))) encA_inj hd
      rw [← e]; rfl
    · have h : x ∈ lk := by simpa using hb
      refine go_next (hN' _ ?_)
      have e : kv lk = kv (lk ++ [x]) := by show dA _ _ (dd lk) (ixo (dd lk)) = dA _ _ (dd (lk ++ [x])) (ixo (dd (lk ++ [x]))); rw [dd_in h]
      rw [e]; rfl
    · rintro ss rfl
      have hm : x ∈ dd (lk ++ [x]) := (mem_dd _).mpr (by simp)
      refine go_append (d := encN (ixo (dd (lk ++ [x])) x)) rfl (ev_dgetK (ds := [.int x.1, .int x.2]) rfl (ev_var rfl) rfl rfl (valD_in encA_inj hm)) (by rw [List.length_map, numF_len, sizeLine_eq]; omega) (hN _ ⟨.d (encA x), ?_⟩)
      rw [et, numF_snoc', List.map_append]
      have : ixo (dd (lk ++ [x])) x = ixo (dd lk) x := by
        by_cases h : x ∈ lk
        · rw [dd_in h]
        · rw [dd_out h, ixo_self]
      rw [this]; rfl
  · rintro ss ⟨v3, rfl⟩
    rw [List.take_length]
    ((try dsimp only); refine nx_go ?_)
    exact go_retV rfl rt
theorem uf_link (ls : List Apt) : ∀ l ∈ ls, ufF ls l.1 = ufF ls l.2 := by
  induction ls using sn_ind with
  | h0 => intro l h; simp at h
  | hs ls z ih =>
    intro l hl
    rw [ufF_snoc]
    unfold ufS
    rw [step_ker (x := z.1) (y := z.2) (kp_lo _ _)]
    rcases List.mem_append.mp hl with h | h
    · exact .inl (ih l h)
    · rw [List.mem_singleton.mp h]
      exact .inr ⟨.inl rfl, .inr rfl⟩
theorem caseF_eq (part : List Nat) (ps : List Pr) (as : List Apt) : caseF part ps as = caseD part.length (inP part ps) (inA part as) := by
  unfold caseF caseD inP inA inB
  rw [List.map_map, List.map_map]; rfl
theorem good_of {m : Nat} {ps : List Pr} {as : List Apt} (h : GoodC m ps as) : GoodB m ps as := ⟨fun p hp => by have := h.1 p hp; exact ⟨Nat.lt_trans this.1 this.2.1, this.2.1⟩, fun a ha => by have := h.2 a ha; exact ⟨Nat.lt_trans this.1 this.2, this.2, Nat.ne_of_lt this.1⟩⟩
noncomputable def bestF (m : Nat) (ps : List Pr) (as : List Apt) : List Nat := bestM (ufF (linksF ps as)) m ps as
theorem bestF_ok {m : Nat} {ps : List Pr} {as : List Apt} (h : GoodC m ps as) : BestOf m ps as (bestF m ps as) := by
  refine bestM_ok (good_of h) fun p hp hw => ?_
  by_cases c : (p.1, p.2.1) ∈ as
  · exact .inr c
  · refine .inl (uf_link _ (p.1, p.2.1) (List.mem_map.mpr ⟨p, List.mem_filter.mpr ⟨hp, ?_⟩, rfl⟩))
    unfold linkP
    rw [decide_eq_true hw, decide_eq_false fun z => ?_]; rfl
    obtain ⟨a, ha, e⟩ := List.mem_map.mp z
    exact c (encA_inj _ _ e ▸ ha)
def fewP (m : Nat) (ps : List Pr) (as : List Apt) : Prop := ∀ p ∈ partsF (ufF (linksF ps as)) (List.range m), p.length ≤ 7
def preBx (ds : List D) : Prop := ∃ (m : Nat) (ps : List Pr) (as : List Apt), ds = [.int m, .lst (ps.map encP), .lst (as.map encA)] ∧ m ≤ 100 ∧ ps.length ≤ 1000 ∧ as.length ≤ 1000 ∧ GoodC m ps as
def badBx : List D → Prop
  | [.int m, .lst ps, .lst as] => ¬ fewP m.toNat (ps.map unP) (as.map unA)
  | _ => False
theorem badBx_enc (m : Nat) (ps : List Pr) (as : List Apt) : badBx [.int m, .lst (ps.map encP), .lst (as.map encA)] = ¬ fewP m ps as := by
  show (¬ fewP (m : Int).toNat ((ps.map encP).map unP) ((as.map encA).map unA)) = _
  rw [unP_map, unA_map]; rfl
noncomputable def resBx : List D → D
  | [.int m, .lst ps, .lst as] => .tup [.int (lossG (ps.map unP) (bestF m.toNat (ps.map unP) (as.map unA))), .lst ((bestF m.toNat (ps.map unP) (as.map unA)).map encN)]
  | _ => .non
theorem resBx_enc (m : Nat) (ps : List Pr) (as : List Apt) : resBx [.int m, .lst (ps.map encP), .lst (as.map encA)] = .tup [.int (lossG ps (bestF m ps as)), .lst ((bestF m ps as).map encN)] := by
  show D.tup [.int (lossG ((ps.map encP).map unP) (bestF (m : Int).toNat ((ps.map encP).map unP) ((as.map encA).map unA))), .lst ((bestF (m : Int).toNat ((ps.map encP).map unP) ((as.map encA).map unA)).map encN)] = _
  rw [unP_map, unA_map]; rfl
def errL (m : Nat) (ps : List Pr) (as : List Apt) : D := .int (((partsF (ufF (linksF ps as)) (List.range m)).find? fun p => decide (7 < p.length)).getD []).length
def errBx : List D → D
  | [.int m, .lst ps, .lst as] => errL m.toNat (ps.map unP) (as.map unA)
  | _ => .non
theorem errBx_enc (m : Nat) (ps : List Pr) (as : List Apt) : errBx [.int m, .lst (ps.map encP), .lst (as.map encA)] = errL m ps as := by
  show errL (m : Int).toNat ((ps.map encP).map unP) ((as.map encA).map unA) = _
  rw [unP_map, unA_map]; rfl
theorem ok_TooMany_init (Z : Tx K mg ad0) : FnOk P w K mg base CX0 1 ad0.f_TooMany_init ad0.d_TooMany_init ["self", "count"] (SpErrI ad0.c_TooMany "count") := by
  refine Z.F_TooMany_init.ok sc_TooMany_init (fun vs H Q E h => by obtain ⟨e, n, rfl, _⟩ := h; rfl) (fun cdv A outer s H vs Q E hr h => ⟨_, (pss_cons (ps_expr (pe_errInit (by rfl) Z.M_FolkError Z.CB_FolkError (pa_cons (pv 0) (pa_cons (pe_fstrI0 (pv 1)) pa_nil))))
      (pss_one (ps_errSet (pv 0) (pv 1) (by rfl)))), ?_⟩)
  exact errI_body0 Z.XM_TooMany.cls Z.XS_TooMany_count (by decide +kernel) h
theorem ok_best_of {T0 : Addr} (Z : Tx K mg ad0) (Y : LamAt base mg ad0.d_best_in_part T0) : FnOk P w K mg base (CX2 P w) 5 ad0.f_best_of ad0.d_best_of ["many", "pairs", "aparts"] (SpXT K T0 lamP lamQ ad0.c_TooMany "count" preBx badBx resBx errBx) := by
  have G_TooMany_init := ok_TooMany_init (P := P) (w := w) (base := base) Z
  have G_parts_of := ok_parts_of (P := P) (w := w) (base := base) Z
  have G_case_of := ok_case_of (P := P) (w := w) (base := base) Z
  have G_best_in_part := ok_best_in_part (P := P) (w := w) (base := base) Z Y
  have G_numbered_anew := ok_numbered_anew (P := P) (w := w) (base := base) Z
  have G_loss_of := ok_loss_of (P := P) (w := w) (base := base) Z
  refine Z.F_best_of.okX2 sc_best_of (fun vs H Q E h => spXT_len (n := 3) (by rintro ds ⟨c, d, e, rfl, _⟩; rfl) h) (fun cdv A outer s H vs Q E hr h => ⟨_, (pss_cons (ps_nox (ps_set (i := 3) sc_best_of.nd rfl (Or.inl rfl) (pe_call G_parts_of (hr.mono (by decide)) (by rfl) Z.M_parts_of Z.F_parts_of.kp Z.B_parts_of .nil pass0 (pa_cons (pv 0) (pa_cons (pv 1) (pa_cons (pv 2) pa_nil))))))
      (pss_cons (ps_for PassesOwn.leaving rfl (pi_list (PE.nox (pv 3))) (pg_name (i := 4) sc_best_of.nd rfl (Or.inl rfl)) (pss_one (ps_if (PT.nox (pt_cmpR op_gt (pe_callB call_len_seq (by rfl) Z.z_len boot_len (pa_cons (pv 4) pa_nil)) (pe_glob (by rfl) Z.M_MOST_BLOCKS Z.R_MOST_BLOCKS) (nomark _))) (pss_one (ps_raiseV (pe_errNew Z.XM_TooMany G_TooMany_init (hr.mono (by decide)) (by rfl) Z.M_TooMany Z.B_TooMany_init pass0 (pa_cons (PE.nox (pe_callB call_len_seq (by rfl) Z.z_len boot_len (pa_cons (pv 4) pa_nil))) pa_nil) (by decide)))) pss_nil)))
      (pss_cons (ps_nox (ps_set (i := 5) sc_best_of.nd rfl (Or.inr rfl) pe_dnewK))
      (pss_cons (ps_nox (ps_for PassesOwn.never rfl (pi_enum_list (by rfl) Z.z_enumerate (pa_cons (pv 3) pa_nil)) (pg_tup rfl (pgs_cons (pg_name (i := 6) sc_best_of.nd rfl (Or.inl rfl)) (pgs_cons (pg_name (i := 4) sc_best_of.nd rfl (Or.inl rfl)) pgs_nil))) (pss_cons (ps_set (i := 7) sc_best_of.nd rfl (Or.inl rfl) (pe_call G_best_in_part (hr.mono (by decide)) (by rfl) Z.M_best_in_part Z.F_best_in_part.kp Z.B_best_in_part .nil pass0 (pa_cons (pe_call G_case_of (hr.mono (by decide)) (by rfl) Z.M_case_of Z.F_case_of.kp Z.B_case_of .nil pass0 (pa_cons (pv 4) (pa_cons (pv 1) (pa_cons (pv 2) pa_nil)))) pa_nil)))
      (pss_one (ps_for PassesOwn.never rfl (pi_zip_list (by rfl) Z.z_zip (pa_cons (pv 4) (pa_cons (pv 7) pa_nil))) (pg_tup rfl (pgs_cons (pg_name (i := 8) sc_best_of.nd rfl (Or.inl rfl)) (pgs_cons (pg_name (i := 9) sc_best_of.nd rfl (Or.inl rfl)) pgs_nil))) (pss_one (ps_dput (hu_of hr) (pv 5) (pv 8) (pe_tup (pa_cons (pv 6) (pa_cons (pv 9) pa_nil))) rfl)))))))
      (pss_cons (ps_nox (ps_set (i := 10) sc_best_of.nd rfl (Or.inl rfl) (pe_call G_numbered_anew (hr.mono (by decide)) (by rfl) Z.M_numbered_anew Z.F_numbered_anew.kp Z.B_numbered_anew .nil pass0 (pa_cons (pe_lc rfl (LcOk.of (Nx := (["many", "pairs", "aparts", "parts", "part", "labels", "place", "groups", "block", "group", "grouping"] : List Str)) (sc := defScope s_best_of) (N' := (["block", "labels"] : List Str)) (nt := 1) (cs := [5]) rfl rfl (by decide +kernel)) (pi_range1 (by rfl) Z.z_range (pa_cons (pv 0) pa_nil)) (fun _ _ _ _ => (pg_name (i := 0) (show List.Nodup (["block", "labels"] : List Str) by decide +kernel) rfl (Or.inl rfl))) (fun _ _ _ _ => pifs_nil) (fun _ _ _ _ => (pe_dget (hu_of hr) (pv 1) (pv 0) (fun _ _ => rfl)))) pa_nil))))
      (pss_one (ps_nox (ps_ret (pe_tup (pa_cons (pe_call G_loss_of (hr.mono (by decide)) (by rfl) Z.M_loss_of Z.F_loss_of.kp Z.B_loss_of .nil pass0 (pa_cons (pv 1) (pa_cons (pv 10) pa_nil))) (pa_cons (pv 10) pa_nil))))))))))), ?_⟩)
  refine go_spXT h (by rw [spXT_len (n := 3) (by rintro ds ⟨c, d, e, rfl, _⟩; rfl) h]; decide) fun G ds hT hp rt rx => ?_
  obtain ⟨m, ps, as, rfl, hm, hpl, hal, hg⟩ := hp
  rw [badBx_enc, resBx_enc] at rt
  rw [badBx_enc, errBx_enc] at rx
  have hgB := good_of hg
  obtain ⟨f, hf⟩ : ∃ f, f = ufF (linksF ps as) := ⟨_, rfl⟩
  have eP : resP [.int m, .lst (ps.map encP), .lst (as.map encA)] = (partsF f (List.range m)).map encG := by rw [resP_enc]; unfold partsD; rw [← hf]; rfl
  have rx : ¬ (∀ p ∈ partsF f (List.range m), p.length ≤ 7) → RtX2 K G H E ad0.c_TooMany "count" (.int (((partsF f (List.range m)).find? fun p => decide (7 < p.length)).getD []).length) := fun z => by rw [hf] at z ⊢; exact rx z
  have rt : (∀ p ∈ partsF f (List.range m), p.length ≤ 7) → RtD K G H Q (.tup [.int (lossG ps (bestF m ps as)), .lst ((bestF m ps as).map encN)]) := fun z => rt fun y => y (by rw [hf] at z; exact z)
  have eb : bestF m ps as = bestM f m ps as := by rw [hf]; rfl
  have hpl2 : (partsF f (List.range m)).length ≤ 100 := by have := partsF_len (f := f) (xs := List.range m); rw [List.length_range] at this; omega
  have pk : ∀ (k : Nat) part, (partsF f (List.range m))[k]? = some part → k < (partsF f (List.range m)).length ∧ part = prt f m k := fun k part h => by
    refine ⟨(List.getElem?_eq_some_iff.mp h).1, ?_⟩
    unfold prt
    rw [List.getD_eq_getElem?_getD, h]; rfl
  have pP : preP [.int m, .lst (ps.map encP), .lst (as.map encA)] := ⟨m, ps, as, rfl, hm, hpl, hal, hg⟩
  refine go_seq (go_set (d := .lst ((partsF f (List.range m)).map encG)) (EvO.ev (by rw [← eP]; exact evo_call (pre := preP) (res := resP) (evaf_cons (ev_var rfl) (evaf_cons (ev_var rfl) (evaf_cons (ev_var rfl) evaf_nil))) pP)) ?_)
  ((try dsimp only); refine nx_go ?_)
  generalize hpts : partsF f (List.range m) = pts at *
  refine go_seq (go_for encG pts (fun k ss => ∃ v4 : Sl, ss = [.d (.int m), .d (.lst (ps.map encP)), .d (.lst (as.map encA)), .d (.lst (pts.map encG)), v4, .un, .un, .un, .un, .un, .un] ∧ ∀ p ∈ pts.take k, p.length ≤ 7) (ev_var rfl) ⟨.un, rfl, fun p hp => by simp at hp⟩ ?_ ?_)
  · rintro L' k part ss hL hk ⟨v4, rfl, hs⟩
    refine ⟨_, tg_name, fun N hN => ?_⟩
    have ll : ((part.map encN).length : Int) = part.length := by rw [List.length_map]
    refine go_if (b := decide ((part.length : Int) > 7)) (evt_test (ev_gt (i := (part.length : Int)) (Ev.b (by rw [← ll]; exact ev_lenL (Ev.l (ev_var rfl)))) ev_int.b)) (fun hb => ?_) (fun hb => ?_)
    · have hb : (part.length : Int) > 7 := of_decide_eq_true hb
      have hfind : pts.find? (fun p => decide (7 < p.length)) = some part := by
        have e : pts = pts.take k ++ part :: pts.drop (k + 1) := by
          conv => lhs; rw [← List.take_append_drop k pts]
          rw [List.drop_eq_getElem_cons (List.getElem?_eq_some_iff.mp hk).1, (List.getElem?_eq_some_iff.mp hk).2]
        rw [e, List.find?_append]
        have n0 : (pts.take k).find? (fun p => decide (7 < p.length)) = none := List.find?_eq_none.mpr fun p hp z => by
          have := hs p hp
          have := of_decide_eq_true z
          omega
        rw [n0, List.find?_cons, decide_eq_true (by omega)]; rfl
      have hno : ¬ ∀ p ∈ pts, p.length ≤ 7 := fun z => by have := z part (List.mem_of_getElem? hk); omega
      have rx' := rx hno
      rw [hfind] at rx'
      have hlen : part.length ≤ 100 := by
        have : part ∈ partsF f (List.range m) := by rw [hpts]; exact List.mem_of_getElem? hk
        unfold partsF at this
        obtain ⟨y, _, e⟩ := List.mem_map.mp this
        have h2 := List.length_filter_le (fun t => decide (f t = f y)) (List.range m)
        rw [e, List.length_range] at h2
        omega
      exact go_raiseI (n := (part.length : Int)) Z.XM_TooMany.cls (evaf_cons (by rw [← ll]; exact ev_lenL (Ev.l (ev_var rfl))) evaf_nil) (by omega) (by omega) rx'
    · have hb : ¬ (part.length : Int) > 7 := of_decide_eq_false hb
      refine go_next (hN _ ⟨.d (encG part), rfl, fun p hp => ?_⟩)
      rw [List.take_add_one, hk] at hp
      rcases List.mem_append.mp hp with h | h
      · exact hs p h
      · rw [show p = part by simpa using h]; omega
  rintro ss ⟨v4, rfl, hs⟩
  rw [List.take_length] at hs
  have h7 := hs
  have rt := rt h7
  rw [eb] at rt
  ((try dsimp only); refine nx_go ?_)
  refine go_seq (go_setM fun p => ?_)
  ((try dsimp only); refine nx_go ?_)
  let lab := labM f m ps as
  refine go_seq (go_enum encG pts (fun k ss => ∃ (kvs : DD) (v4 v6 v7 v8 v9 : Sl), ss = [.d (.int m), .d (.lst (ps.map encP)), .d (.lst (as.map encA)), .d (.lst (pts.map encG)), v4, dsl K p kvs, v6, v7, v8, v9, .un] ∧ (∀ b < m, plc f m b < k → valD kvs (encN b) = some (encA (lab b))) ∧ kvs.length ≤ 7 * k) (ev_var rfl) ⟨[], v4, .un, .un, .un, .un, rfl, fun b _ h => absurd h (Nat.not_lt_zero _), Nat.le_refl _⟩ ?_ ?_)
  · rintro L' k part ss hL hk ⟨kvs, v4, v6, v7, v8, v9, rfl, hv, hl⟩
    refine ⟨_, tg_tup rfl (tgs_cons tg_name (tgs_cons tg_name tgs_nil)), fun N hN => ?_⟩
    obtain ⟨hkl, ep⟩ := pk k part hk
    have hp7 := h7 part (List.mem_of_getElem? hk)
    have hnd : part.Nodup := by rw [ep]; exact prt_nd (by rw [hpts]; exact hkl)
    have hmem : ∀ {b : Nat}, b ∈ part ↔ b < m ∧ plc f m b = k := fun {b} => by rw [ep]; exact prt_mem (by rw [hpts]; exact hkl)
    have hp1 : 1 ≤ part.length := by
      have hm1 : part ∈ partsF f (List.range m) := by rw [hpts]; exact List.mem_of_getElem? hk
      unfold partsF at hm1
      obtain ⟨y, hy, e⟩ := List.mem_map.mp hm1
      have : y ∈ part := by rw [← e]; exact List.mem_filter.mpr ⟨heads_sub hy, decide_eq_true rfl⟩
      exact List.length_pos_of_mem this
    have eC := resC_enc part ps as
    rw [caseF_eq] at eC
    have eB := resB_enc part.length (inP part ps) (inA part as)
    have pC : preC [.lst (part.map encN), .lst (ps.map encP), .lst (as.map encA)] := ⟨part, ps, as, rfl, hnd, by omega, hpl, hal⟩
    have pB : preB [caseD part.length (inP part ps) (inA part as)] := ⟨_, _, _, rfl, hp1, hp7, by unfold inP; rw [List.length_map]; exact Nat.le_trans (List.length_filter_le _ _) hpl, by unfold inA; rw [List.length_map]; exact Nat.le_trans (List.length_filter_le _ _) hal, good_in hgB part⟩
    have hgl : (bestP part.length (inP part ps) (inA part as)).length = part.length := rgs_len (bestP_ok (good_in hgB _).2).rg
    have hgr : grsM f m ps as k = bestP part.length (inP part ps) (inA part as) := by unfold grsM; rw [← ep]
    refine go_seq (go_set (d := encG (bestP part.length (inP part ps) (inA part as))) (by rw [← eB]; exact ev_callT hT (evaf_cons (by rw [← eC]; exact ev_call (pre := preC) (res := resC) (evaf_cons (ev_var rfl) (evaf_cons (ev_var rfl) (evaf_cons (ev_var rfl) evaf_nil))) pC) evaf_nil) pB) ?_)
    ((try dsimp only); refine nx_go ?_)
    generalize bestP part.length (inP part ps) (inA part as) = gs at *
    refine go_zip encN encN part gs (fun t ss => ∃ (kvs : DD) (v8 v9 : Sl), ss = [.d (.int m), .d (.lst (ps.map encP)), .d (.lst (as.map encA)), .d (.lst (pts.map encG)), .d (encG part), dsl K p kvs, .d (.int k), .d (encG gs), v8, v9, .un] ∧ (∀ b < m, plc f m b < k → valD kvs (encN b) = some (encA (lab b))) ∧ (∀ b ∈ part.take t, valD kvs (encN b) = some (encA (lab b))) ∧ kvs.length ≤ 7 * k + t) (ev_var rfl) (ev_var rfl) hgl.symm ⟨kvs, v8, v9, rfl, hv, fun b hb => by simp at hb, hl⟩ ?_ ?_
    · rintro L2 t x y ss hL2 hx hy ⟨kvs, v8, v9, rfl, hv, hv2, hl⟩
      refine ⟨_, tg_tup rfl (tgs_cons tg_name (tgs_cons tg_name tgs_nil)), fun N2 hN2 => ?_⟩
      have hxm := hmem.mp (List.mem_of_getElem? hx)
      have ht := (List.getElem?_eq_some_iff.mp hx).1
      have hlab : encA (lab x) = .tup [.int k, .int y] := by
        show encA (labG (plc f m) (prt f m) (grsM f m ps as) x) = _
        unfold labG
        rw [hxm.2, hgr, ← ep, idx_at hnd hx]
        unfold atG encA
        rw [List.getD_eq_getElem?_getD, hy]; rfl
      refine go_dput (i := 5) (d := .tup [.int k, .int y]) (k := encN x) rfl (ev_tup (evaf_cons (ev_var rfl) (evaf_cons (ev_var rfl) evaf_nil)) (small (by simp))) (ev_var rfl).b rfl (by rw [sizeLine_eq]; omega) (hN2 _ ⟨putD kvs (encN x) (.tup [.int k, .int y]), .d (encN x), .d (encN y), rfl, fun b hb hpb => ?_, fun b hb => ?_, ?_⟩)
      · rw [valD_put, if_neg fun z => by have := encN_inj _ _ z; subst this; omega]
        exact hv b hb hpb
      · rw [valD_put]
        by_cases c : encN b = encN x
        · rw [if_pos c, encN_inj _ _ c, hlab]
        · rw [if_neg c]
          rw [List.take_add_one, hx] at hb
          rcases List.mem_append.mp hb with h | h
          · exact hv2 b h
          · exact absurd (by rw [show b = x by simpa using h]) c
      · have := putD_len kvs (encN x) (.tup [.int k, .int y]); omega
    · rintro ss ⟨kvs, v8, v9, rfl, hv, hv2, hl⟩
      rw [List.take_length] at hv2
      refine hN _ ⟨kvs, _, _, _, v8, v9, rfl, fun b hb hpb => ?_, by omega⟩
      by_cases c : plc f m b < k
      · exact hv b hb c
      · exact hv2 b (hmem.mpr ⟨hb, by omega⟩)
  rintro ss ⟨kvs, v4, v6, v7, v8, v9, rfl, hv, hl⟩
  ((try dsimp only); refine nx_go ?_)
  have hv : ∀ b < m, valD kvs (encN b) = some (encA (lab b)) := fun b hb => hv b hb (by have := plc_lt (f := f) hb; rw [hpts] at this; exact this)
  have eN : resNu [.lst (((List.range m).map lab).map encA)] = (bestM f m ps as).map encN := by
    show (numF ((((List.range m).map lab).map encA).map unA)).map encN = _
    rw [unA_map]; rfl
  refine go_seq (go_setO (ds := (bestM f m ps as).map encN) (by
    rw [← eN]
    refine evo_call (pre := preNu) (res := resNu) (evaf_cons (EvO.ev ?_) evaf_nil) ⟨(List.range m).map lab, rfl, by rw [List.length_map, List.length_range]; omega⟩
    have := evo_lcI (K := K) (G := G) (H₀ := H) (L := G) (ss := [.d (.int m), .d (.lst (ps.map encP)), .d (.lst (as.map encA)), .d (.lst (pts.map encG)), v4, dsl K p kvs, v6, v7, v8, v9, .un]) (n := ((m : Nat) : Int).toNat) (tt := tTrue) (te := tDGet (tVar 1) (tVar 0)) (g := gName 0) (nt := 1) (cs := [5]) (fun _ => true) (fun b => encA (lab b)) (evi_range (n := m) (eva_cons (ev_var (i := 0) rfl).b eva_nil) ⟨by omega, by omega⟩) (gk_name (by decide)) (by decide) (by rw [sizeLine_eq]; omega) fun b hb => ⟨_, tg_name, evt_true, fun _ => ev_dget (i := 1) (k := encN b) rfl (ev_var rfl).b rfl (hv b (by omega))⟩
    rw [List.filter_eq_self.mpr fun _ _ => rfl, show ((m : Nat) : Int).toNat = m from rfl] at this
    rw [List.map_map]
    exact this) fun q => ?_)
  ((try dsimp only); refine nx_go ?_)
  have hbl : (bestM f m ps as).length = m := by rw [← eb]; exact rgs_len (bestF_ok hg).rg
  have eL := resLoss_enc ps (toI (bestM f m ps as))
  rw [← encG_int, loss_toI] at eL
  exact go_retPO rfl (by
    rw [← eL]
    exact ev_callS (pre := prePr) (res := resLoss) (eva_cons (ev_var rfl).b (eva_cons (evl_own rfl).b eva_nil)) ⟨ps, toI (bestM f m ps as), by rw [← encG_int], fun p hp => by unfold toI; rw [List.length_map, hbl]; exact hgB.1 p hp, hpl⟩ (by rw [eL]; rfl)) (rtPO_of rt)
def rowW (c : Int) : Int := if c % 8 = 1 then -(1 + c / 8 % (10 : Int) ^ (30 : Int).toNat) else 1 + c / 8 % (10 : Int) ^ (30 : Int).toNat
theorem rowW_ne (c : Int) : rowW c ≠ 0 := by
  have := Int.emod_nonneg (c / 8) (show (10 : Int) ^ (30 : Int).toNat ≠ 0 by decide)
  unfold rowW; split <;> omega
theorem cell_int (ns : List Int) (k : Int) : ∃ i, resCell [.lst (ns.map .int), .int k] = .int i := by
  show ∃ i, (ns.map D.int).getD k.toNat (.int 0) = .int i
  rw [List.getD_eq_getElem?_getD, List.getElem?_map]
  cases ns[k.toNat]? <;> exact ⟨_, rfl⟩
def RowOk (m : Nat) (ps : List Pr) (as : List Apt) : Prop := (∀ p ∈ ps, p.2.1 = p.1 + 1 ∧ p.2.1 < m ∧ p.2.2 ≠ 0) ∧ (∀ a ∈ as, a.2 = a.1 + 1 ∧ a.2 < m) ∧ ps.Pairwise (fun p q => p.1 < q.1) ∧ ps.length ≤ 16 ∧ as.length ≤ 16
def preRow (ds : List D) : Prop := ∃ (ns : List Int) (m : Nat), ds = [.lst (ns.map .int), .int m] ∧ 1 ≤ m ∧ m ≤ 16
def relRow (ds : List D) (r : D) : Prop := ∀ (ns : List Int) (m : Nat), ds = [.lst (ns.map .int), .int m] → ∃ ps as, r = .tup [.lst (ps.map encP), .lst (as.map encA)] ∧ RowOk m ps as
theorem ok_law_row (Z : Tx K mg ad0) : FnOk P w K mg base CX0 2 ad0.f_law_row ad0.d_law_row ["_law_script", "_law_many"] (SpRD K preRow relRow) := by
  have G_law_cell_at := ok_law_cell_at (P := P) (w := w) (base := base) Z
  refine Z.F_law_row.ok sc_law_row (fun vs H Q E h => spRD_len (n := 2) (by rintro ds ⟨c, d, rfl, _⟩; rfl) h) (fun cdv A outer s H vs Q E hr h => ⟨_, (pss_cons (ps_set (i := 2) sc_law_row.nd rfl (Or.inl rfl) (pe_lst pa_nil))
      (pss_cons (ps_set (i := 3) sc_law_row.nd rfl (Or.inl rfl) (pe_lst pa_nil))
      (pss_cons (ps_for PassesOwn.never rfl (pi_range1 (by rfl) Z.z_range (pa_cons (pe_op op_sub (pv 1) pe_int) pa_nil)) (pg_name (i := 4) sc_law_row.nd rfl (Or.inl rfl)) (pss_cons (ps_set (i := 5) sc_law_row.nd rfl (Or.inl rfl) (pe_call G_law_cell_at (hr.mono (by decide)) (by rfl) Z.M_law_cell_at Z.F_law_cell_at.kp Z.B_law_cell_at .nil pass0 (pa_cons (pv 0) (pa_cons (pe_op op_add pe_int (pv 4)) pa_nil))))
      (pss_cons (ps_set (i := 6) sc_law_row.nd rfl (Or.inl rfl) (pe_op op_add pe_int (pe_op op_mod (pe_op op_fdiv (pv 5) pe_int) (pe_op op_pow pe_int pe_int))))
      (pss_cons (ps_if (pt_cmpR op_eq (pe_op op_mod (pv 5) pe_int) pe_int (nomark _)) (pss_one (ps_set (i := 6) sc_law_row.nd rfl (Or.inl rfl) (pe_un un_neg (pv 6)))) pss_nil)
      (pss_cons (ps_if (pt_cmpR op_ne (pe_op op_mod (pv 5) pe_int) pe_int (nomark _)) (pss_one (ps_expr (pe_bm F.plainAttrs_list F.slot_list_append F.type_list_append mt_append (pv 2) (pa_cons (pe_tup (pa_cons (pv 4) (pa_cons (pe_op op_add (pv 4) pe_int) (pa_cons (pv 6) pa_nil)))) pa_nil)))) pss_nil)
      (pss_one (ps_if (pt_cmpR op_eq (pe_op op_mod (pe_op op_fdiv (pv 5) pe_int) pe_int) pe_int (nomark _)) (pss_one (ps_expr (pe_bm F.plainAttrs_list F.slot_list_append F.type_list_append mt_append (pv 3) (pa_cons (pe_tup (pa_cons (pv 4) (pa_cons (pe_op op_add (pv 4) pe_int) pa_nil))) pa_nil)))) pss_nil)))))))
      (pss_one (ps_ret (pe_tup (pa_cons (pv 2) (pa_cons (pv 3) pa_nil)))))))), ?_⟩)
  refine go_spRD h (by rw [spRD_len (n := 2) (by rintro ds ⟨c, d, rfl, _⟩; rfl) h]; decide) fun G ds hp rt => ?_
  obtain ⟨ns, m, rfl, hm1, hm16⟩ := hp
  refine go_seq (go_setO (evo_lst evaf_nil (small (by decide))) fun pp => ?_)
  ((try dsimp only); refine nx_go ?_)
  refine go_seq (go_setO (evo_lst evaf_nil (small (by decide))) fun pa => ?_)
  ((try dsimp only); refine nx_go ?_)
  refine go_seq (go_range (n := (m : Int) - 1) (fun k ss => ∃ (ps : List Pr) (as : List Apt) (v4 v5 v6 : Sl), ss = [.d (.lst (ns.map .int)), .d (.int m), .o pp (ps.map encP), .o pa (as.map encA), v4, v5, v6] ∧ RowOk m ps as ∧ ps.length ≤ k ∧ as.length ≤ k ∧ ∀ p ∈ ps, p.1 < k) (eva_cons (ev_sub (ev_var rfl).b ev_int.b).b eva_nil) ⟨by omega, by omega⟩ ⟨[], [], .un, .un, .un, rfl, ⟨by simp, by simp, List.Pairwise.nil, by simp, by simp⟩, by simp, by simp, by simp⟩ ?_ ?_ (fun _ _ _ h => h))
  · rintro k ss hk ⟨ps, as, v4, v5, v6, rfl, ⟨g1, g2, g3, g4, g5⟩, hpl, hal, hlt⟩ N hN
    obtain ⟨c, ec⟩ := cell_int ns (2 + (k : Int))
    refine go_seq (go_set (d := .int c) (by rw [← ec]; exact ev_call (pre := preCell) (res := resCell) (evaf_cons (ev_var rfl) (evaf_cons (ev_add ev_int.b (ev_var rfl).b) evaf_nil)) ⟨ns, _, rfl, by omega⟩) ?_)
    ((try dsimp only); refine nx_go ?_)
    refine go_seq (go_set (ev_add ev_int.b (ev_mod (ev_fdiv (ev_var rfl).b ev_int.b ⟨by decide, by decide⟩).b (ev_pow ev_int.b ev_int.b ⟨by decide, by decide, by decide⟩).b (by decide)).b) ?_)
    ((try dsimp only); refine nx_go ?_)
    refine go_join (fun ss => ss = [.d (.lst (ns.map .int)), .d (.int m), .o pp (ps.map encP), .o pa (as.map encA), .d (.int k), .d (.int c), .d (.int (rowW c))]) (fun N' hN' => go_if (evt_test (ev_eqI (ev_mod (ev_var rfl).b ev_int.b (by decide)).b ev_int.b)) (fun hb => go_set (ev_neg (ev_var rfl).b) (hN' _ ?_)) (fun hb => go_next (hN' _ ?_))) ?_
    · unfold rowW; rw [if_pos (of_decide_eq_true hb)]; rfl
    · unfold rowW; rw [if_neg (of_decide_eq_false hb)]; rfl
    rintro ss rfl
    refine go_join (fun ss => ∃ ps1 : List Pr, ss = [.d (.lst (ns.map .int)), .d (.int m), .o pp (ps1.map encP), .o pa (as.map encA), .d (.int k), .d (.int c), .d (.int (rowW c))] ∧ RowOk m ps1 as ∧ ps1.length ≤ k + 1 ∧ ∀ p ∈ ps1, p.1 < k + 1) (fun N' hN' => go_if (evt_test (ev_neI (ev_mod (ev_var rfl).b ev_int.b (by decide)).b ev_int.b)) (fun hb => ?_) (fun hb => go_next (hN' _ ⟨ps, rfl, ⟨g1, g2, g3, g4, g5⟩, by omega, fun p hp => by have := hlt p hp; omega⟩))) ?_
    · have ek : (k : Int) + 1 = ((k + 1 : Nat) : Int) := by omega
      refine go_append (d := encP (k, k + 1, rowW c)) rfl (ev_tup (evaf_cons (ev_var rfl) (evaf_cons (by show Ev _ _ _ _ _ _ (.int ((k + 1 : Nat) : Int)); rw [← ek]; exact ev_add (ev_var rfl).b ev_int.b) (evaf_cons (ev_var rfl) evaf_nil))) (small (by simp))) (by rw [List.length_map, sizeLine_eq]; omega) (hN' _ ⟨ps ++ [(k, k + 1, rowW c)], by rw [List.map_append]; rfl, ⟨fun p hp => ?_, g2, ?_, by simp; omega, g5⟩, by simp; omega, fun p hp => ?_⟩)
      · rcases List.mem_append.mp hp with z | z
        · exact g1 p z
        · rw [List.mem_singleton.mp z]; exact ⟨rfl, by show k + 1 < m; omega, rowW_ne c⟩
      · refine List.pairwise_append.mpr ⟨g3, List.pairwise_singleton _ _, fun p hp q hq => ?_⟩
        rw [List.mem_singleton.mp hq]; exact hlt p hp
      · rcases List.mem_append.mp hp with z | z
        · have := hlt p z; omega
        · rw [List.mem_singleton.mp z]; exact Nat.lt_succ_self _
    · rintro ss ⟨ps1, rfl, hr1, hpl1, hlt1⟩
      refine go_if (evt_test (ev_eqI (ev_mod (ev_fdiv (ev_var rfl).b ev_int.b ⟨by decide, by decide⟩).b ev_int.b (by decide)).b ev_int.b)) (fun hb => ?_) (fun hb => go_next (hN _ ⟨ps1, as, _, _, _, rfl, hr1, hpl1, by omega, hlt1⟩))
      have ek : (k : Int) + 1 = ((k + 1 : Nat) : Int) := by omega
      refine go_append (d := encA (k, k + 1)) rfl (ev_tup (evaf_cons (ev_var rfl) (evaf_cons (by show Ev _ _ _ _ _ _ (.int ((k + 1 : Nat) : Int)); rw [← ek]; exact ev_add (ev_var rfl).b ev_int.b) evaf_nil)) (small (by simp))) (by rw [List.length_map, sizeLine_eq]; omega) (hN _ ⟨ps1, as ++ [(k, k + 1)], _, _, _, by rw [List.map_append]; rfl, ⟨hr1.1, fun a ha => ?_, hr1.2.2.1, hr1.2.2.2.1, by simp; omega⟩, hpl1, by simp; omega, hlt1⟩)
      rcases List.mem_append.mp ha with z | z
      · exact g2 a z
      · rw [List.mem_singleton.mp z]; exact ⟨rfl, by show k + 1 < m; omega⟩
  · rintro ss ⟨ps, as, v4, v5, v6, rfl, hr1, _⟩
    refine nx_freeze (i := 2) rfl (nx_freeze (i := 3) rfl ?_)
    ((try dsimp only); refine nx_go ?_)
    refine go_ret (ev_tup (evaf_cons (ev_var rfl) (evaf_cons (ev_var rfl) evaf_nil)) (small (by simp))) (rt _ fun ns' m' he => ?_)
    simp only [List.cons.injEq, D.int.injEq, and_true] at he
    obtain ⟨_, e⟩ := he
    have : m' = m := by omega
    subst this
    exact ⟨ps, as, rfl, hr1⟩
def jnOne (as : List Apt) (b : Nat) (p : Pr) : Bool := decide (((p.2.1 : Nat) : Int) = (b : Int)) && (decide (0 < p.2.2) && !decide (encA (p.1, p.2.1) ∈ as.map encA))
def jnF (ps : List Pr) (as : List Apt) (b : Nat) : Bool := ps.any (jnOne as b)
def prePs (ds : List D) : Prop := ∃ (m : Nat) (ps : List Pr) (as : List Apt), ds = [.int m, .lst (ps.map encP), .lst (as.map encA)] ∧ m ≤ 16 ∧ RowOk m ps as
def resPs : List D → D
  | [.int m, .lst ps, .lst as] => .lst ((runsR (jnF (ps.map unP) (as.map unA)) m.toNat).map encG)
  | _ => .non
theorem resPs_enc (m : Nat) (ps : List Pr) (as : List Apt) : resPs [.int m, .lst (ps.map encP), .lst (as.map encA)] = .lst ((runsR (jnF ps as) m).map encG) := by
  show D.lst ((runsR (jnF ((ps.map encP).map unP) ((as.map encA).map unA)) (m : Int).toNat).map encG) = _
  rw [unP_map, unA_map]; rfl
theorem ok_law_parts (Z : Tx K mg ad0) : FnOk P w K mg base CX0 1 ad0.f_law_parts ad0.d_law_parts ["_law_many", "_law_pairs", "_law_aparts"] (SpD K prePs resPs) := by
  refine Z.F_law_parts.ok sc_law_parts (fun vs H Q E h => spD_len (n := 3) (by rintro ds ⟨c, d, e, rfl, _⟩; rfl) h) (fun cdv A outer s H vs Q E hr h => ⟨_, (pss_cons (ps_set (i := 3) sc_law_parts.nd rfl (Or.inl rfl) (pe_lst pa_nil))
      (pss_cons (ps_for PassesOwn.never rfl (pi_range1 (by rfl) Z.z_range (pa_cons (pv 0) pa_nil)) (pg_name (i := 4) sc_law_parts.nd rfl (Or.inl rfl)) (pss_cons (ps_set (i := 5) sc_law_parts.nd rfl (Or.inl rfl) pe_bl)
      (pss_cons (ps_for PassesOwn.never rfl (pi_list (pv 1)) (pg_tup rfl (pgs_cons (pg_name (i := 6) sc_law_parts.nd rfl (Or.inl rfl)) (pgs_cons (pg_name (i := 7) sc_law_parts.nd rfl (Or.inl rfl)) (pgs_cons (pg_name (i := 8) sc_law_parts.nd rfl (Or.inl rfl)) pgs_nil)))) (pss_one (ps_if (PW.pt (pw_and (pt_cmpR op_eq (pv 7) (pv 4) (nomark _)) (pw_and (pt_cmpR op_gt (pv 8) pe_int (nomark _)) (pw_and1 (pt_cmpR (show OpR _ _ (rInD K true) from op_notInD hr.units) (pe_tup (pa_cons (pv 6) (pa_cons (pv 7) pa_nil))) (pv 2) (by with_unfolding_all rfl)))))) (pss_one (ps_set (i := 5) sc_law_parts.nd rfl (Or.inl rfl) pe_bl)) pss_nil)))
      (pss_one (ps_if (pt_val (pv 5)) (pss_one (ps_expr (pe_bm F.plainAttrs_list F.slot_list_append F.type_list_append mt_append (pe_ix (show IxR _ (rIxL K) from ix_list) (pv 3) (pe_un un_neg pe_int) (fun _ _ => rfl)) (pa_cons (pv 4) pa_nil)))) (pss_one (ps_expr (pe_bm F.plainAttrs_list F.slot_list_append F.type_list_append mt_append (pv 3) (pa_cons (pe_lst (pa_cons (pv 4) pa_nil)) pa_nil)))))))))
      (pss_one (ps_ret (pv 3))))), ?_⟩)
  refine go_spD h (by rw [spD_len (n := 3) (by rintro ds ⟨c, d, e, rfl, _⟩; rfl) h]; decide) fun G ds hp rt => ?_
  obtain ⟨m, ps, as, rfl, hm, hro⟩ := hp
  rw [resPs_enc] at rt
  have h0 : jnF ps as 0 = false := by
    unfold jnF
    rw [List.any_eq_false]
    intro p hp
    have := (hro.1 p hp).1
    unfold jnOne
    rw [decide_eq_false (by omega), Bool.false_and]; decide
  have q2 : ∀ {qs : List (Addr × List D)} {n : Nat}, qs.map (·.2) = (runsR (jnF ps as) n).map (fun p => p.map encN) → qs.length = cntR (jnF ps as) n := fun {qs n} h => by
    have := congrArg List.length h
    unfold runsR at this
    simpa using this
  have hcm : ∀ n, cntR (jnF ps as) n ≤ n := fun n => by
    have := (num_rg (jn := jnF ps as) n)
    have h2 := rgs_ng this.1
    rw [this.2] at h2; exact h2
  refine go_seq (go_setOO (dss := []) (evoo_lst evao_nil (small (by decide))) fun p qs hq => ?_)
  ((try dsimp only); refine nx_go ?_)
  refine go_seq (go_range (n := (m : Int)) (fun b ss => ∃ (qs : List (Addr × List D)) (v4 v5 v6 v7 v8 : Sl), ss = [.d (.int m), .d (.lst (ps.map encP)), .d (.lst (as.map encA)), .oo p qs, v4, v5, v6, v7, v8] ∧ qs.map (·.2) = (runsR (jnF ps as) b).map (fun p => p.map encN)) (eva_cons (ev_var rfl).b eva_nil) ⟨by omega, by omega⟩ ⟨qs, .un, .un, .un, .un, .un, rfl, hq⟩ ?_ ?_ (fun _ _ _ h => h))
  · rintro b ss hb ⟨qs, v4, v5, v6, v7, v8, rfl, hq⟩ N hN
    refine go_seq (go_set ev_bl ?_)
    ((try dsimp only); refine nx_go ?_)
    refine go_seq (go_for encP ps (fun k ss => ∃ v6 v7 v8 : Sl, ss = [.d (.int m), .d (.lst (ps.map encP)), .d (.lst (as.map encA)), .oo p qs, .d (.int b), .d (.bl (jnF (ps.take k) as b)), v6, v7, v8]) (ev_var rfl) ⟨v6, v7, v8, rfl⟩ ?_ ?_)
    · rintro L' k pr ss hL hk ⟨v6, v7, v8, rfl⟩
      refine ⟨_, tg_tup rfl (tgs_cons tg_name (tgs_cons tg_name (tgs_cons tg_name tgs_nil))), fun N2 hN2 => ?_⟩
      have et : jnF (ps.take (k + 1)) as b = (jnF (ps.take k) as b || jnOne as b pr) := by
        unfold jnF
        rw [List.take_add_one, hk, List.any_append]; simp
      refine go_if (b := jnOne as b pr) (evt_and (evt_test (ev_eqI (ev_var rfl).b (ev_var rfl).b)) fun _ => evt_and (evt_test (ev_gt (ev_var rfl).b ev_int.b)) fun _ => evt_test (ev_notInD (d := encA (pr.1, pr.2.1)) (Ev.b (ev_tup (evaf_cons (ev_var rfl) (evaf_cons (ev_var rfl) evaf_nil)) (small (by simp)))) (ev_var rfl).b rfl (D.nbs_map encA_nb as) (by show 1 ≤ 60; decide))) (fun hj => ?_) (fun hj => ?_)
      · refine go_set ev_bl (hN2 _ ⟨.d (.int pr.1), .d (.int pr.2.1), .d (.int pr.2.2), ?_⟩)
        rw [et, hj, Bool.or_true]; rfl
      · refine go_next (hN2 _ ⟨.d (.int pr.1), .d (.int pr.2.1), .d (.int pr.2.2), ?_⟩)
        rw [et, hj, Bool.or_false]; rfl
    · rintro ss ⟨v6, v7, v8, rfl⟩
      rw [List.take_length]
      ((try dsimp only); refine nx_go ?_)
      have hql := q2 hq
      have hcb := hcm b
      refine go_if (evt_b (ev_var rfl)) (fun hj => ?_) (fun hj => ?_)
      · -- joined
        cases b with
        | zero => rw [h0] at hj; cases hj
        | succ b =>
          have hpos : 0 < cntR (jnF ps as) (b + 1) := by rw [cntR]; omega
          obtain ⟨q, hqj⟩ : ∃ q, qs[cntR (jnF ps as) (b + 1) - 1]? = some q := ⟨_, List.getElem?_eq_getElem (by omega)⟩
          have hq2 : q.2 = (runR (jnF ps as) (b + 1) (cntR (jnF ps as) (b + 1) - 1)).map encN := by
            have := congrArg (fun l => l[cntR (jnF ps as) (b + 1) - 1]?) hq
            simp only [List.getElem?_map, hqj] at this
            unfold runsR at this
            rw [List.getElem?_map, List.getElem?_range (by omega)] at this
            simpa using this
          have hrl : (runR (jnF ps as) (b + 1) (cntR (jnF ps as) (b + 1) - 1)).length ≤ 16 := by
            unfold runR
            have := List.length_filter_le (fun x => decide (numR (jnF ps as) x = cntR (jnF ps as) (b + 1) - 1)) (List.range (b + 1))
            rw [List.length_range] at this
            omega
          refine go_appendOOk (j := cntR (jnF ps as) (b + 1) - 1) (b := q.1) (ds := q.2) (k := -1) (d := encN (b + 1)) rfl (ev_neg ev_int.b).b (by unfold ixN; rw [if_neg (by decide), if_pos (by omega), hql]; congr 1; omega) hqj (ev_var rfl) (by rw [hq2, List.length_map, sizeLine_eq]; omega) (hN _ ⟨qs.set (cntR (jnF ps as) (b + 1) - 1) (q.1, q.2 ++ [encN (b + 1)]), _, _, v6, v7, v8, rfl, ?_⟩)
          rw [runs_join hj, List.map_set, List.map_set, hq, List.map_append, hq2]; rfl
      · have hnew : b = 0 ∨ jnF ps as b = false := .inr hj
        refine go_pushOO (ds := [encN b]) rfl (evo_lst (evaf_cons (ev_var rfl) evaf_nil) (small (by simp))) (by rw [sizeLine_eq]; omega) fun q => hN _ ⟨qs ++ [(q, [encN b])], _, _, v6, v7, v8, rfl, ?_⟩
        rw [runs_new hnew, List.map_append, List.map_append, hq]; rfl
  · rintro ss ⟨qs, v4, v5, v6, v7, v8, rfl, hq⟩
    refine nx_freezeOO (i := 3) rfl ?_
    ((try dsimp only); refine nx_go ?_)
    have e : (qs.map fun q => D.lst q.2) = (runsR (jnF ps as) m).map encG := by
      have : (qs.map fun q => D.lst q.2) = (qs.map (·.2)).map D.lst := by rw [List.map_map]; rfl
      rw [this, show ((m : Int)).toNat = m from rfl] at *
      rw [hq, List.map_map]; rfl
    rw [← e] at rt
    exact go_ret (ev_var rfl) rt
noncomputable def resAk : List D → D
  | [.int m, .lst ps, .lst as] => open Classical in if fewP m.toNat (ps.map unP) (as.map unA) then .tup [.tup [.int (lossG (ps.map unP) (bestF m.toNat (ps.map unP) (as.map unA))), .lst ((bestF m.toNat (ps.map unP) (as.map unA)).map encN)], .int 0] else .tup [.non, errL m.toNat (ps.map unP) (as.map unA)]
  | _ => .non
theorem resAk_enc (m : Nat) (ps : List Pr) (as : List Apt) : resAk [.int m, .lst (ps.map encP), .lst (as.map encA)] = open Classical in if fewP m ps as then .tup [.tup [.int (lossG ps (bestF m ps as)), .lst ((bestF m ps as).map encN)], .int 0] else .tup [.non, errL m ps as] := by
  show (open Classical in if fewP (m : Int).toNat ((ps.map encP).map unP) ((as.map encA).map unA) then D.tup [.tup [.int (lossG ((ps.map encP).map unP) (bestF (m : Int).toNat ((ps.map encP).map unP) ((as.map encA).map unA))), .lst ((bestF (m : Int).toNat ((ps.map encP).map unP) ((as.map encA).map unA)).map encN)], .int 0] else .tup [.non, errL (m : Int).toNat ((ps.map encP).map unP) ((as.map encA).map unA)]) = _
  rw [unP_map, unA_map]; rfl
theorem ok_law_asked {T0 : Addr} (Z : Tx K mg ad0) (Y : LamAt base mg ad0.d_best_in_part T0) : FnOk P w K mg base CX0 6 ad0.f_law_asked ad0.d_law_asked ["_law_many", "_law_pairs", "_law_aparts"] (SpDT K T0 lamP lamQ preBx resAk) := by
  have G_best_of := ok_best_of (P := P) (w := w) (base := base) Z Y
  refine Z.F_law_asked.ok sc_law_asked (fun vs H Q E h => spDT_len (n := 3) (by rintro ds ⟨c, d, e, rfl, _⟩; rfl) h) (fun cdv A outer s H vs Q E hr h => ⟨_, (pss_cons (ps_set (i := 3) sc_law_asked.nd rfl (Or.inl rfl) pe_non)
      (pss_cons (ps_set (i := 4) sc_law_asked.nd rfl (Or.inl rfl) pe_non)
      (pss_cons (ps_trySet2 (j := 4) G_best_of (hr.mono (by decide)) (by rfl) Z.M_best_of Z.F_best_of.kp Z.B_best_of (pa_cons (pv 0) (pa_cons (pv 1) (pa_cons (pv 2) pa_nil))) rfl rfl (by rfl) Z.M_FolkError sc_law_asked.nd (i := 5) rfl rfl (fun x9 => (pss_one (ps_set (i := 3) sc_law_asked.nd rfl (Or.inl rfl) (pv (X := Cx.inSuite (cxOf CX0 P w K mg base (["_law_many", "_law_pairs", "_law_aparts", "_law_told", "_law_found", "e"] : List Str) "_law_asked" (defScope s_law_asked) ad0.f_law_asked cdv A outer s H E).nox x9) 5)))) ⟨rfl, rfl, rfl⟩)
      (pss_cons (ps_if (pt_cmpR (show OpR _ _ rIsN from op_isN) (pv 3) pe_non (nomark _)) (pss_one (ps_ret (pe_tup (pa_cons (pv 4) (pa_cons pe_int pa_nil))))) pss_nil)
      (pss_cons (ps_if (PW.pt (pw_or (pt_not (pt_val (pe_callB (show CallR _ _ (rIsX2 K) from call_isX2) (by rfl) Z.z_isinstance boot_isinstance (pa_cons (pv 3) (pa_cons (pe_glob (v := .ref ad0.c_TooMany) (by rfl) Z.M_TooMany rfl) pa_nil))))) (pw_or1 (pt_not (pt_val (pe_callB (show CallR _ _ (rIsX2 K) from call_isX2) (by rfl) Z.z_isinstance boot_isinstance (pa_cons (pv 3) (pa_cons (pe_bltn (v := .ty "ValueError") (by rfl) Z.z_ValueError PyProof.Rows.Boot.«ValueError» rfl) pa_nil)))))))) (pss_one (ps_ret (pe_tup (pa_cons pe_non (pa_cons (pe_un un_neg pe_int) pa_nil))))) pss_nil)
      (pss_cons (ps_if (pt_val (pe_callB (show CallR _ _ (rIsXT K) from call_isXT) (by rfl) Z.z_isinstance boot_isinstance (pa_cons (pv 3) (pa_cons (pe_tup (pa_cons (pe_glob (v := .ref ad0.c_Odds) (by rfl) Z.M_Odds rfl) (pa_cons (pe_glob (v := .ref ad0.c_NoPair) (by rfl) Z.M_NoPair rfl) (pa_cons (pe_glob (v := .ref ad0.c_NoRow) (by rfl) Z.M_NoRow rfl) (pa_cons (pe_glob (v := .ref ad0.c_NoText) (by rfl) Z.M_NoText rfl) (pa_cons (pe_glob (v := .ref ad0.c_NoName) (by rfl) Z.M_NoName rfl) pa_nil)))))) pa_nil)))) (pss_one (ps_ret (pe_tup (pa_cons pe_non (pa_cons (pe_un un_neg pe_int) pa_nil))))) pss_nil)
      (pss_one (ps_ret (pe_tup (pa_cons pe_non (pa_cons (pe_errFld (pv 3) (by rfl)) pa_nil))))))))))), ?_⟩)
  refine go_spDT h (by rw [spDT_len (n := 3) (by rintro ds ⟨c, d, e, rfl, _⟩; rfl) h]; decide) fun G ds hT hp rt => ?_
  obtain ⟨m, ps, as, rfl, hm, hpl, hal, hg⟩ := hp
  rw [resAk_enc] at rt
  refine go_seq (go_set ev_non ?_)
  ((try dsimp only); refine nx_go ?_)
  refine go_seq (go_set ev_non ?_)
  ((try dsimp only); refine nx_go ?_)
  refine go_seq (go_trySetT (i := 5) (j := 4) (f := "count") (pre := preBx) (bad := badBx) (res := resBx) (err := errBx) hT (evaf_cons (ev_var rfl) (evaf_cons (ev_var rfl) (evaf_cons (ev_var rfl) evaf_nil))) ⟨m, ps, as, rfl, hm, hpl, hal, hg⟩ (fun nb => ?_) Z.H_TooMany_FolkError (by show 5 < 6; decide) fun hbad x dx => ?_)
  · rw [badBx_enc, Classical.not_not] at nb
    rw [resBx_enc]
    rw [if_pos nb] at rt
    ((try dsimp only); refine nx_go ?_)
    exact go_seq (go_if (b := decide (D.non = .non)) (evt_test (ev_isN (ev_var rfl).b)) (fun _ => go_ret (ev_tup (evaf_cons (ev_var rfl) (evaf_cons ev_int evaf_nil)) (small (by simp))) rt) (fun hb => by cases hb))
  · rw [badBx_enc] at hbad
    rw [errBx_enc]
    rw [if_neg hbad] at rt
    refine go_setX (i := 5) (j := 3) rfl (nx_unbind (i := 5) rfl ?_)
    ((try dsimp only); refine nx_go ?_)
    refine go_seq (go_if (b := false) (evt_test (ev_isNX (i := 3) rfl)) (fun hb => by cases hb) (fun _ => ?_))
    refine go_next ?_
    ((try dsimp only); refine nx_go ?_)
    refine go_seq (go_if (b := (!true || !true)) (evt_or (evt_not (evt_b (ev_isX2 (j := 3) rfl Z.T_TooMany (.inl ⟨_, rfl, rfl⟩) Z.I_TooMany_TooMany))) fun _ => evt_not (evt_b (ev_isX2 (j := 3) rfl Z.T_TooMany (.inr ⟨_, rfl, rfl⟩) Z.I_TooMany_ValueError))) (fun hb => by cases hb) (fun _ => ?_))
    refine go_next ?_
    ((try dsimp only); refine nx_go ?_)
    refine go_seq (go_if (b := false) (evt_b (ev_isXT (j := 3) (cs := [ad0.c_Odds, ad0.c_NoPair, ad0.c_NoRow, ad0.c_NoText, ad0.c_NoName]) (tt := ad0.c_NoRow) rfl Z.T_TooMany (fun σ H Q q => q) (by show 5 ≤ 1000; decide) Z.IA_TooMany)) (fun hb => by cases hb) (fun _ => ?_))
    refine go_next ?_
    ((try dsimp only); refine nx_go ?_)
    exact go_ret (ev_tup (evaf_cons ev_non (evaf_cons (ev_errFld (j := 3) rfl Z.T_TooMany Z.Na_TooMany_count) evaf_nil)) (small (by simp))) rt
def spLaw (K : PySem.W.Frag) (T0 : Addr) : Sp := fun vs H Q _ => ∃ (a : Addr) (ns : List Int), vs = [.ref a] ∧ SqL K H a (ns.map V.int) ∧ ns.length ≤ 63 ∧ HasT H T0 lamP lamQ ∧ ∀ H', Same H H' → Q (.bl true) H'
theorem reps_ints {K : PySem.W.Frag} {H : Hp} : ∀ ns : List Int, Reps K H (ns.map D.int) (ns.map V.int)
  | [] => Reps.nil
  | n :: ns => Reps.cons Rep.int (reps_ints ns)
theorem uf_in {s : Nat → Nat} (ls : List Apt) : (∀ l ∈ ls, s l.1 = s l.2) → ∀ a b, ufF ls a = ufF ls b → s a = s b := by
  induction ls using sn_ind with
  | h0 => intro _ a b h; have : a = b := h; rw [this]
  | hs ls z ih =>
    intro h a b
    have h0 := ih fun l hl => h l (List.mem_append_left _ hl)
    have hz := h z (by simp)
    rw [ufF_snoc]
    unfold ufS
    rw [step_ker (x := z.1) (y := z.2) (kp_lo _ _)]
    rintro (e | ⟨e1, e2⟩)
    · exact h0 a b e
    · have k1 : s a = s z.1 := e1.elim (h0 _ _) fun e => (h0 _ _ e).trans hz.symm
      have k2 : s b = s z.1 := e2.elim (h0 _ _) fun e => (h0 _ _ e).trans hz.symm
      rw [k1, k2]
theorem jn_iff {m : Nat} {ps : List Pr} {as : List Apt} (hro : RowOk m ps as) {b : Nat} : jnF ps as (b + 1) = true ↔ ∃ p ∈ ps, p.1 = b ∧ p.2.1 = b + 1 ∧ 0 < p.2.2 ∧ (b, b + 1) ∉ as := by
  unfold jnF
  rw [List.any_eq_true]
  have hmem : ∀ x : Apt, encA x ∈ as.map encA ↔ x ∈ as := fun x => by
    rw [List.mem_map]
    exact ⟨fun ⟨y, hy, e⟩ => encA_inj _ _ e ▸ hy, fun h => ⟨x, h, rfl⟩⟩
  constructor
  · rintro ⟨p, hp, h⟩
    unfold jnOne at h
    simp only [Bool.and_eq_true, Bool.not_eq_true', decide_eq_true_eq, decide_eq_false_iff_not, hmem] at h
    obtain ⟨h1, h2, h3⟩ := h
    have h4 := (hro.1 p hp).1
    have e2 : p.2.1 = b + 1 := by omega
    have e1 : p.1 = b := by omega
    exact ⟨p, hp, e1, e2, h2, by rw [e1, e2] at h3; exact h3⟩
  · rintro ⟨p, hp, e1, e2, h2, h3⟩
    refine ⟨p, hp, ?_⟩
    unfold jnOne
    simp only [Bool.and_eq_true, Bool.not_eq_true', decide_eq_true_eq, decide_eq_false_iff_not, hmem]
    exact ⟨by omega, h2, by rw [e1, e2]; exact h3⟩
theorem row_uniq {ps : List Pr} (h : ps.Pairwise fun p q => p.1 < q.1) {p q : Pr} (hp : p ∈ ps) (hq : q ∈ ps) (e : p.1 = q.1) : p = q := by
  obtain ⟨i, hi, rfl⟩ := List.getElem_of_mem hp
  obtain ⟨j, hj, rfl⟩ := List.getElem_of_mem hq
  rw [List.pairwise_iff_getElem] at h
  rcases Nat.lt_trichotomy i j with c | c | c
  · have := h i j hi hj c; omega
  · subst c; rfl
  · have := h j i hj hi c; omega
theorem num_jn {jn : Nat → Bool} {b : Nat} : numR jn (b + 1) = numR jn b ↔ jn (b + 1) = true := by
  rw [numR]
  cases h : jn (b + 1) with
  | true => simp
  | false => simp
def MoreOk (m : Nat) (ps : List Pr) (as : List Apt) (mo : List Pr) : Prop := ∀ q ∈ mo, q.1 + 1 < q.2.1 ∧ q.2.1 < m ∧ numR (jnF ps as) q.1 ≠ numR (jnF ps as) q.2.1 ∧ q.2.2 < 0
theorem sum_perm {l l' : List Int} (h : l.Perm l') : sumI l = sumI l' := by
  induction h with
  | nil => rfl
  | cons x _ ih => show x + _ = x + _; rw [ih]
  | swap x y l => show y + (x + sumI l) = x + (y + sumI l); omega
  | trans _ _ h1 h2 => exact h1.trans h2
theorem sum_sum : ∀ l : List Int, sumI l = l.sum
  | [] => rfl
  | x :: l => by rw [List.sum_cons, ← sum_sum l]; rfl
theorem row_good {m : Nat} {ps mo ps' : List Pr} {as : List Apt} (hro : RowOk m ps as) (hmo : MoreOk m ps as mo) (hpm : ps'.Perm (ps ++ mo)) : GoodC m ps' as ∧ partsF (ufF (linksF ps' as)) (List.range m) = runsR (jnF ps as) m ∧ bestF m ps' as = (List.range m).map (numR (jnF ps as)) ∧
    lossG ps' ((List.range m).map (numR (jnF ps as))) = ((ps.filter fun p => decide (encA (p.1, p.2.1) ∈ as.map encA)).map fun p => if p.2.2 > 0 then p.2.2 else 0).sum := by
  have hmem : ∀ p, p ∈ ps' ↔ p ∈ ps ∨ p ∈ mo := fun p => by rw [hpm.mem_iff, List.mem_append]
  have hinA : ∀ x : Apt, encA x ∈ as.map encA ↔ x ∈ as := fun x => by
    rw [List.mem_map]
    exact ⟨fun ⟨y, hy, e⟩ => encA_inj _ _ e ▸ hy, fun h => ⟨x, h, rfl⟩⟩
  have hg : GoodC m ps' as := by
    refine ⟨fun p hp => ?_, fun a ha => ?_⟩
    · rcases (hmem p).mp hp with h | h
      · have := hro.1 p h; exact ⟨by omega, this.2.1, this.2.2⟩
      · have := hmo p h; exact ⟨by omega, this.2.1, by omega⟩
    · have := hro.2.1 a ha; exact ⟨by omega, this.2⟩
  have hpos : ∀ p ∈ ps', 0 < p.2.2 → p ∈ ps := fun p hp h => ((hmem p).mp hp).resolve_right fun z => by have := hmo p z; omega
  have hja : ∀ a ∈ as, jnF ps as (a.1 + 1) = false := fun a ha => by
    cases hq : jnF ps as (a.1 + 1) with
    | false => rfl
    | true =>
      obtain ⟨p, hp, e1, e2, h2, h3⟩ := (jn_iff hro).mp hq
      have e := (hro.2.1 a ha).1
      exact absurd (show (a.1, a.1 + 1) ∈ as by rw [← e]; exact ha) h3
  have hlink : ∀ l ∈ linksF ps' as, numR (jnF ps as) l.1 = numR (jnF ps as) l.2 := fun l hl => by
    obtain ⟨p, hp, rfl⟩ := List.mem_map.mp hl
    obtain ⟨p1, p2⟩ := List.mem_filter.mp hp
    unfold linkP at p2
    simp only [Bool.and_eq_true, Bool.not_eq_true', decide_eq_true_eq, decide_eq_false_iff_not, hinA] at p2
    have p3 := hpos p p1 p2.1
    have e := (hro.1 p p3).1
    show numR _ p.1 = numR _ p.2.1
    rw [e]
    exact (num_jn.mpr ((jn_iff hro).mpr ⟨p, p3, rfl, e, p2.1, by rw [← e]; exact p2.2⟩)).symm
  have hback : ∀ b a, a ≤ b → numR (jnF ps as) a = numR (jnF ps as) b → ufF (linksF ps' as) a = ufF (linksF ps' as) b := by
    intro b
    induction b with
    | zero => intro a h1 _; rw [Nat.le_zero.mp h1]
    | succ b ih =>
      intro a h1 h2
      rcases Nat.lt_or_ge b a with c | c
      · rw [show a = b + 1 by omega]
      · have m1 := numR_mono (jn := jnF ps as) c
        have m2 := numR_mono (jn := jnF ps as) (show b ≤ b + 1 by omega)
        have hjb : jnF ps as (b + 1) = true := num_jn.mp (by omega)
        rw [ih a c (by omega)]
        obtain ⟨p, hp, e1, e2, h3, h4⟩ := (jn_iff hro).mp hjb
        refine uf_link _ (b, b + 1) (List.mem_map.mpr ⟨p, List.mem_filter.mpr ⟨(hmem p).mpr (.inl hp), ?_⟩, by rw [e1, e2]⟩)
        unfold linkP
        simp only [Bool.and_eq_true, Bool.not_eq_true', decide_eq_true_eq, decide_eq_false_iff_not, hinA]
        exact ⟨h3, by rw [e1, e2]; exact h4⟩
  have hparts : partsF (ufF (linksF ps' as)) (List.range m) = runsR (jnF ps as) m := by
    rw [← parts_runs]
    refine partsF_congr fun a _ b _ => ⟨fun h => uf_in _ hlink a b h, fun h => ?_⟩
    rcases Nat.le_total a b with c | c
    · exact hback b a c h
    · exact (hback a b c h.symm).symm
  have hbest := runs_best (jn := jnF ps as) (m := m) (ps := ps') (as := as) (good_of hg).1 (fun a ha => by
      have e := (hro.2.1 a ha)
      refine ⟨e.2, by omega, fun z => ?_⟩
      rw [e.1] at z
      have := num_jn.mp z.symm
      rw [hja a ha] at this; cases this) (fun p hp hw => by
      by_cases c : (p.1, p.2.1) ∈ as
      · exact .inr c
      · have p3 := hpos p hp hw
        have e := (hro.1 p p3).1
        refine .inl ⟨?_, c⟩
        rw [e]
        exact (num_jn.mpr ((jn_iff hro).mpr ⟨p, p3, rfl, e, hw, by rw [← e]; exact c⟩)).symm) (fun p hp hw => by
      rcases (hmem p).mp hp with h | h
      · have e := (hro.1 p h).1
        intro z
        rw [e] at z
        obtain ⟨q, hq, e1, e2, h3, h4⟩ := (jn_iff hro).mp (num_jn.mp z.symm)
        have := row_uniq hro.2.2.1 h hq (by omega)
        rw [this] at hw; omega
      · exact (hmo p h).2.2.1) (fun b _ hjb => by
      obtain ⟨p, hp, r⟩ := (jn_iff hro).mp hjb
      exact ⟨p, (hmem p).mpr (.inl hp), r⟩)
  refine ⟨hg, hparts, (bestF_ok hg).uniq hbest.1, ?_⟩
  rw [hbest.2, sum_perm (hpm.map _), List.map_append]
  have z0 : (mo.map fun p => if (p.1, p.2.1) ∈ as then (if 0 < p.2.2 then p.2.2 else 0) else 0) = mo.map fun _ => (0 : Int) := List.map_congr_left fun p hp => if_neg fun z => by
    have := hmo p hp
    have := (hro.2.1 _ z).1
    have e : p.2.1 = p.1 + 1 := this
    omega
  rw [z0]
  have s0 : ∀ (l : List Int) (mo : List Pr), sumI (l ++ mo.map fun _ => (0 : Int)) = sumI l := fun l mo => by
    induction l with
    | nil =>
      induction mo with
      | nil => rfl
      | cons q mo ih =>
        have ih : sumI (mo.map fun _ => (0 : Int)) = 0 := ih
        show 0 + sumI (mo.map fun _ => (0 : Int)) = 0
        rw [ih]; rfl
    | cons x l ih => show x + sumI (l ++ _) = x + sumI l; rw [ih]
  rw [s0, ← sum_sum]
  clear z0 s0 hbest hparts hback hlink hja hpos hg hmem hpm hmo
  have : ∀ l : List Pr, sumI (l.map fun p => if (p.1, p.2.1) ∈ as then (if 0 < p.2.2 then p.2.2 else 0) else 0) = sumI ((l.filter fun p => decide (encA (p.1, p.2.1) ∈ as.map encA)).map fun p => if p.2.2 > 0 then p.2.2 else 0) := fun l => by
    induction l with
    | nil => rfl
    | cons p l ih =>
      by_cases c : (p.1, p.2.1) ∈ as
      · rw [List.filter_cons_of_pos (by simpa using (hinA _).mpr c), List.map_cons, List.map_cons, if_pos c]
        show _ + sumI _ = _ + sumI _
        rw [ih]
      · rw [List.filter_cons_of_neg (by simpa using fun z => c ((hinA _).mp z)), List.map_cons, if_neg c]
        show 0 + sumI _ = _
        rw [ih]; omega
  exact this ps
theorem cut_ints (ns : List Int) : L2.cutD (ns.map D.int) (some 18) (some 30) = ((ns.drop 18).take 12).map D.int := by
  rw [cutD_mid _ (by decide) (by decide), List.map_take, List.map_drop]; rfl
theorem few_runs {m : Nat} {ps' : List Pr} {as : List Apt} {rs : List (List Nat)} (h : partsF (ufF (linksF ps' as)) (List.range m) = rs) : fewP m ps' as ↔ (rs.filter fun p => decide ((p.length : Int) > 7)) = [] := by
  unfold fewP
  rw [h, List.filter_eq_nil_iff]
  refine ⟨fun z p hp y => ?_, fun z p hp => ?_⟩
  · have := z p hp
    have := of_decide_eq_true y
    omega
  · have := z p hp
    rw [decide_eq_true_eq] at this
    omega
theorem ok_law {T0 : Addr} (Z : Tx K mg ad0) (Y : LamAt base mg ad0.d_best_in_part T0) : FnOk P w K mg base CX0 21 ad0.f_law ad0.d_law ["_law_script"] (spLaw K T0) := by
  have G_law_cell_at := ok_law_cell_at (P := P) (w := w) (base := base) Z
  have G_law_row := ok_law_row (P := P) (w := w) (base := base) Z
  have G_law_parts := ok_law_parts (P := P) (w := w) (base := base) Z
  have G_law_asked := ok_law_asked (P := P) (w := w) (base := base) Z Y
  refine Z.F_law.ok sc_law (fun vs H Q E h => by obtain ⟨a, ns, rfl, _⟩ := h; rfl) (fun cdv A outer s H vs Q E hr h => ⟨_, (pss_cons (ps_set (i := 1) sc_law.nd rfl (Or.inl rfl) (pe_op op_add pe_int (pe_op op_mod (pe_call G_law_cell_at (hr.mono (by decide)) (by rfl) Z.M_law_cell_at Z.F_law_cell_at.kp Z.B_law_cell_at .nil pass0 (pa_cons (pv 0) (pa_cons pe_int pa_nil))) pe_int)))
      (pss_cons (ps_asg (pe_call G_law_row (hr.mono (by decide)) (by rfl) Z.M_law_row Z.F_law_row.kp Z.B_law_row .nil pass0 (pa_cons (pv 0) (pa_cons (pv 1) pa_nil))) (pg_tup rfl (pgs_cons (pg_name (i := 2) sc_law.nd rfl (Or.inl rfl)) (pgs_cons (pg_name (i := 3) sc_law.nd rfl (Or.inr rfl)) pgs_nil))))
      (pss_cons (ps_set (i := 4) sc_law.nd rfl (Or.inl rfl) (pe_call G_law_parts (hr.mono (by decide)) (by rfl) Z.M_law_parts Z.F_law_parts.kp Z.B_law_parts .nil pass0 (pa_cons (pv 1) (pa_cons (pv 2) (pa_cons (pv 3) pa_nil)))))
      (pss_cons (ps_set (i := 5) sc_law.nd rfl (Or.inl rfl) (pe_lst pa_nil))
      (pss_cons (ps_for PassesOwn.never rfl (pi_enum_list (by rfl) Z.z_enumerate (pa_cons (pv 4) pa_nil)) (pg_tup rfl (pgs_cons (pg_name (i := 6) sc_law.nd rfl (Or.inl rfl)) (pgs_cons (pg_name (i := 7) sc_law.nd rfl (Or.inl rfl)) pgs_nil))) (pss_one (ps_set (i := 5) sc_law.nd rfl (Or.inl rfl) (pe_op (show OpR _ _ (rCatD K) from op_catD) (pv 5) (pe_op (show OpR _ _ rRep from op_rep) (pe_lst (pa_cons (pv 6) pa_nil)) (pe_callB call_len_seq (by rfl) Z.z_len boot_len (pa_cons (pv 7) pa_nil)))))))
      (pss_cons (ps_set (i := 8) sc_law.nd rfl (Or.inl rfl) (pe_lst pa_nil))
      (pss_cons (ps_for PassesOwn.never rfl (pi_list (pe_slice sl_list (pv 0) (po_some pe_int) (po_some pe_int))) (pg_name (i := 9) sc_law.nd rfl (Or.inl rfl)) (pss_cons (ps_set (i := 10) sc_law.nd rfl (Or.inl rfl) (pe_op op_mod (pv 9) (pv 1)))
      (pss_cons (ps_set (i := 11) sc_law.nd rfl (Or.inl rfl) (pe_op op_mod (pe_op op_fdiv (pv 9) pe_int) (pv 1)))
      (pss_one (ps_if (PW.pt (pw_and (pt_cmpR op_lt (pe_op op_add (pv 10) pe_int) (pv 11) (nomark _)) (pw_and (pt_cmpR op_ne (pe_ix (show IxR _ (rIxL K) from ix_list) (pv 5) (pv 10) (fun _ _ => rfl)) (pe_ix (show IxR _ (rIxL K) from ix_list) (pv 5) (pv 11) (fun _ _ => rfl)) (nomark _)) (pw_and1 (pt_cmpR (show OpR _ _ (rInD K true) from op_notInD hr.units) (pe_tup (pa_cons (pv 10) (pa_cons (pv 11) pa_nil))) (pe_lc rfl (LcOk.of (Nx := (["_law_script", "_law_many", "_law_pairs", "_law_aparts", "_law_parts_here", "_law_numbers", "_law_at", "_law_part", "_law_more", "_law_cell", "_law_i", "_law_j", "_law_found", "_law_count", "_law_great", "_law_lost"] : List Str)) (sc := defScope s_law) (N' := (["_law_one"] : List Str)) (nt := 1) (cs := []) rfl rfl (by decide +kernel)) (pi_list (pv 8)) (fun _ _ _ _ => (pg_name (i := 0) (show List.Nodup (["_law_one"] : List Str) by decide +kernel) rfl (Or.inl rfl))) (fun _ _ _ _ => pifs_nil) (fun _ _ _ _ => (pe_tup (pa_cons (pe_ix (show IxR _ (rIxT K) from ix_tup) (pv 0) pe_int (fun _ _ => rfl)) (pa_cons (pe_ix (show IxR _ (rIxT K) from ix_tup) (pv 0) pe_int (fun _ _ => rfl)) pa_nil))))) (by with_unfolding_all rfl)))))) (pss_one (ps_expr (pe_bm F.plainAttrs_list F.slot_list_append F.type_list_append mt_append (pv 8) (pa_cons (pe_tup (pa_cons (pv 10) (pa_cons (pv 11) (pa_cons (pe_op op_sub (pe_un un_neg pe_int) (pe_op op_mod (pe_op op_fdiv (pv 9) pe_int) (pe_op op_pow pe_int pe_int))) pa_nil)))) pa_nil)))) pss_nil)))))
      (pss_cons (ps_asg (pe_call G_law_asked (hr.mono (by decide)) (by rfl) Z.M_law_asked Z.F_law_asked.kp Z.B_law_asked .nil pass0 (pa_cons (pv 1) (pa_cons (pe_callB (show CallR _ _ (rSortQ K) from call_sortedQ) (by rfl) Z.z_sorted boot_sorted (pa_cons (pe_op (show OpR _ _ (rCatD K) from op_catD) (pv 2) (pv 8)) pa_nil)) (pa_cons (pe_callTy call_list_of (by rfl) Z.z_list boot_list (pa_cons (pv 3) pa_nil)) pa_nil)))) (pg_tup rfl (pgs_cons (pg_name (i := 12) sc_law.nd rfl (Or.inl rfl)) (pgs_cons (pg_name (i := 13) sc_law.nd rfl (Or.inl rfl)) pgs_nil))))
      (pss_cons (ps_setLC (i := 14) sc_law.nd rfl (Or.inl rfl) rfl (LcOk.of (Nx := (["_law_script", "_law_many", "_law_pairs", "_law_aparts", "_law_parts_here", "_law_numbers", "_law_at", "_law_part", "_law_more", "_law_cell", "_law_i", "_law_j", "_law_found", "_law_count", "_law_great", "_law_lost"] : List Str)) (sc := defScope s_law) (N' := (["_law_part"] : List Str)) (nt := 1) (cs := []) rfl rfl (by decide +kernel)) (pi_list (pv 4)) (fun _ _ _ _ => (pg_name (i := 0) (show List.Nodup (["_law_part"] : List Str) by decide +kernel) rfl (Or.inl rfl))) (fun _ _ _ _ => (pifs_one (pt_cmpR op_gt (pe_callB (show CallR _ _ (fun xs H Q => ∃ p ys, xs = [.ref p] ∧ (SqL K H p ys ∨ SqT K H p ys) ∧ Q (.int ys.length) H) from call_len_seq) (by rfl) Z.z_len boot_len (pa_cons (pv 0) pa_nil)) pe_int (nomark _)))) (fun _ _ _ _ => (pv 0)))
      (pss_cons (ps_if (pt_cmpR (show OpR _ _ (rNeD K) from op_neD hr.units) (pv 14) (pe_lst pa_nil) (nomark _)) (pss_one (ps_ret (pe_and (pe_cmpR (show OpR _ _ rIsN from op_isN) (pv 12) pe_non (nomark _)) (pe_and (pe_not (pe_callB call_isi_int_bool (by rfl) Z.z_isinstance boot_isinstance (pa_cons (pv 13) (pa_cons (pe_bltn (v := .ty "bool") (by rfl) Z.z_bool boot_bool rfl) pa_nil)))) (pe_one (pe_cmpR op_eq (pv 13) (pe_callB call_len_seq (by rfl) Z.z_len boot_len (pa_cons (pe_ix (show IxR _ (rIxL K) from ix_list) (pv 14) pe_int (fun _ _ => rfl)) pa_nil)) (nomark _))))))) pss_nil)
      (pss_cons (ps_set (i := 15) sc_law.nd rfl (Or.inl rfl) (pe_callB (show CallR _ _ (rSumL K) from call_sumL rfl) (by rfl) Z.z_sum boot_sum (pa_cons (pe_lc rfl (LcOk.of (Nx := (["_law_script", "_law_many", "_law_pairs", "_law_aparts", "_law_parts_here", "_law_numbers", "_law_at", "_law_part", "_law_more", "_law_cell", "_law_i", "_law_j", "_law_found", "_law_count", "_law_great", "_law_lost"] : List Str)) (sc := defScope s_law) (N' := (["_law_i", "_law_j", "_law_weight", "_law_aparts"] : List Str)) (nt := 3) (cs := [3]) rfl rfl (by decide +kernel)) (pi_list (pv 2)) (fun _ _ _ _ => (show PG _ _ (gTup K 3 _) from pg_tup rfl (pgs_cons (pg_name (i := 0) (show List.Nodup (["_law_i", "_law_j", "_law_weight", "_law_aparts"] : List Str) by decide +kernel) rfl (Or.inl rfl)) (pgs_cons (pg_name (i := 1) (show List.Nodup (["_law_i", "_law_j", "_law_weight", "_law_aparts"] : List Str) by decide +kernel) rfl (Or.inl rfl)) (pgs_cons (pg_name (i := 2) (show List.Nodup (["_law_i", "_law_j", "_law_weight", "_law_aparts"] : List Str) by decide +kernel) rfl (Or.inl rfl)) pgs_nil))))) (fun _ _ _ _ => (pifs_one (pt_cmpR (show OpR _ _ (rInD K false) from op_inD hr.units) (pe_tup (pa_cons (pv 0) (pa_cons (pv 1) pa_nil))) (pv 3) (by with_unfolding_all rfl)))) (fun _ _ _ _ => (pe_callB (call_max2 rfl) (by rfl) Z.z_max boot_max (pa_cons pe_int (pa_cons (pv 2) pa_nil))))) pa_nil)))
      (pss_one (ps_ret (pe_and (pe_cmpR op_eq (pv 13) pe_int (nomark _)) (pe_one (pe_cmpR (show OpR _ _ (rEqD K) from op_eqD hr.units) (pv 12) (pe_tup (pa_cons (pv 15) (pa_cons (pv 5) pa_nil))) (nomark _))))))))))))))))), ?_⟩)
  obtain ⟨a, ns, rfl, sq, hl, hT, hQ⟩ := h
  have r : Reps K H [.lst (ns.map .int)] [.ref a] := Reps.cons (Rep.lst sq (reps_ints ns)) Reps.nil
  have rt : RtD K H H Q (.bl true) := fun v F H' e r => by rw [r.of_bl]; exact hQ H' e.hh
  refine (?_ : Go K H H H _ (slots 16 [.lst (ns.map .int)]) _) H H _ (sat_start (Same.refl H) r (by simp))
  obtain ⟨i0, ei0⟩ := cell_int ns 0
  have hm0 := Int.emod_nonneg i0 (show (16 : Int) ≠ 0 by decide)
  have hm1 := Int.emod_lt_of_pos i0 (show (0 : Int) < 16 by decide)
  refine go_seq (go_set (ev_add ev_int.b (Ev.b (ev_mod (i := i0) (Ev.b (by rw [← ei0]; exact ev_call (pre := preCell) (res := resCell) (evaf_cons (ev_var rfl) (evaf_cons ev_int evaf_nil)) ⟨ns, 0, rfl, by omega⟩)) ev_int.b (by decide)))) ?_)
  obtain ⟨m, em⟩ : ∃ m : Nat, 1 + i0 % 16 = (m : Int) := ⟨(1 + i0 % 16).toNat, by omega⟩
  have hm1' : 1 ≤ m ∧ m ≤ 16 := by omega
  rw [em]
  ((try dsimp only); refine nx_go ?_)
  refine go_seq (go_asgRD (pre := preRow) (R := relRow) (ds := [.lst (ns.map .int), .int m]) (evaf_cons (ev_var rfl) (evaf_cons (ev_var rfl) evaf_nil)) ⟨ns, m, rfl, hm1'.1, hm1'.2⟩ fun r hR => ?_)
  obtain ⟨ps, as, rfl, hro⟩ := hR ns m rfl
  refine ⟨_, tg_tup rfl (tgs_cons tg_name (tgs_cons tg_name tgs_nil)), ?_⟩
  ((try dsimp only); refine nx_go ?_)
  have eP := resPs_enc m ps as
  refine go_seq (go_set (d := .lst ((runsR (jnF ps as) m).map encG)) (by rw [← eP]; exact ev_call (pre := prePs) (res := resPs) (evaf_cons (ev_var rfl) (evaf_cons (ev_var rfl) (evaf_cons (ev_var rfl) evaf_nil))) ⟨m, ps, as, rfl, hm1'.2, hro⟩) ?_)
  ((try dsimp only); refine nx_go ?_)
  have main := fun mo ps' => row_good (mo := mo) (ps' := ps') hro
  have hnm : ∀ b, b < m → numR (jnF ps as) b < 1000 := fun b hb => by
    have h1 := numR_lt (jn := jnF ps as) hb
    have h2 := num_rg (jn := jnF ps as) m
    have h3 := rgs_ng h2.1
    rw [h2.2] at h3; omega
  have hfl := runs_flat (jn := jnF ps as) m
  have hrun : ∀ (k : Nat) part, (runsR (jnF ps as) m)[k]? = some part → part = runR (jnF ps as) m k := fun k part h => by
    unfold runsR at h
    rw [List.getElem?_map] at h
    obtain ⟨t, ht, rfl⟩ := Option.map_eq_some_iff.mp h
    have : t = k := by have := (List.getElem?_eq_some_iff.mp ht).2; simpa using this.symm
    rw [this]
  have hrl : ∀ k, (runR (jnF ps as) m k).length ≤ 16 := fun k => by
    unfold runR
    have := List.length_filter_le (fun x => decide (numR (jnF ps as) x = k)) (List.range m)
    rw [List.length_range] at this
    omega
  have hcnt : (runsR (jnF ps as) m).length ≤ 16 := by
    have h2 := num_rg (jn := jnF ps as) m
    have h3 := rgs_ng h2.1
    rw [h2.2] at h3
    unfold runsR
    simp; omega
  have hjn : jnF ps as = jnF ps as := rfl
  unfold MoreOk at main
  generalize jnF ps as = jn at *
  refine go_seq (go_set (d := .lst []) (EvO.ev (evo_lst evaf_nil (small (by decide)))) ?_)
  ((try dsimp only); refine nx_go ?_)
  refine go_seq (go_enum encG (runsR jn m) (fun k ss => ∃ v6 v7 : Sl, ss = [.d (.lst (ns.map .int)), .d (.int m), .d (.lst (ps.map encP)), .d (.lst (as.map encA)), .d (.lst ((runsR jn m).map encG)), .d (.lst ((((runsR jn m).take k).flatten.map (numR jn)).map encN)), v6, v7, .un, .un, .un, .un, .un, .un, .un, .un]) (ev_var rfl) ⟨.un, .un, rfl⟩ ?_ ?_)
  · rintro L' k part ss hL hk ⟨v6, v7, rfl⟩
    refine ⟨_, tg_tup rfl (tgs_cons tg_name (tgs_cons tg_name tgs_nil)), fun N hN => ?_⟩
    have ep := hrun k part hk
    have hpl := hrl k
    rw [← ep] at hpl
    have et : ((runsR jn m).take (k + 1)).flatten = ((runsR jn m).take k).flatten ++ part := by rw [List.take_add_one, hk, List.flatten_append]; simp
    have hsum : (((runsR jn m).take k).flatten).length ≤ 16 := by
      have h1 := congrArg List.length hfl
      rw [← List.take_append_drop k (runsR jn m), List.flatten_append, List.length_append, List.length_range] at h1
      omega
    have er : (List.replicate part.length [encN k]).flatten = (part.map (numR jn)).map encN := by
      have hall : ∀ b ∈ part, numR jn b = k := fun b hb => by
        rw [ep] at hb
        exact of_decide_eq_true (List.mem_filter.mp hb).2
      clear hpl et hk ep
      induction part with
      | nil => rfl
      | cons b part ih =>
        rw [List.length_cons, List.replicate_succ, List.flatten_cons, ih fun x hx => hall x (List.mem_cons_of_mem _ hx), List.map_cons, List.map_cons, hall b List.mem_cons_self]; rfl
    have ll : ((part.map encN).length : Int) = ((part.length : Nat) : Int) := by rw [List.length_map]
    refine go_set (d := .lst ((((runsR jn m).take k).flatten.map (numR jn)).map encN ++ (part.map (numR jn)).map encN)) (EvO.ev (evo_cat (ev_var rfl).l (EvO.l (by rw [← er]; exact evo_rep (n := part.length) (evo_lst (evaf_cons (ev_var rfl) evaf_nil) (small (by simp))) (Ev.b (by rw [← ll]; exact ev_lenL (Ev.l (ev_var rfl)))) (by show 1 * part.length ≤ 1000; omega) (by omega))) (small (by simp only [List.length_map]; omega)))) (hN _ ⟨.d (.int k), .d (encG part), ?_⟩)
    rw [et, List.map_append, List.map_append]; rfl
  rintro ss ⟨v6, v7, rfl⟩
  rw [List.take_length, hfl]
  ((try dsimp only); refine nx_go ?_)
  refine go_seq (go_setO (evo_lst evaf_nil (small (by decide))) fun p => ?_)
  ((try dsimp only); refine nx_go ?_)
  have hmp : (0 : Int) < (m : Int) := by omega
  have nat_ : ∀ {b : Nat}, b < m → atI (((List.range m).map (numR jn)).map encN) (b : Int) = some (.int (numR jn b : Nat)) := fun {b} hb => atI_nat (by rw [List.getElem?_map, List.getElem?_map, List.getElem?_range hb]; rfl)
  refine go_seq (go_for D.int ((ns.drop 18).take 12) (fun k ss => ∃ (mo : List Pr) (v9 v10 v11 : Sl), ss = [.d (.lst (ns.map .int)), .d (.int m), .d (.lst (ps.map encP)), .d (.lst (as.map encA)), .d (.lst ((runsR jn m).map encG)), .d (.lst (((List.range m).map (numR jn)).map encN)), v6, v7, .o p (mo.map encP), v9, v10, v11, .un, .un, .un, .un] ∧ mo.length ≤ k ∧ ∀ q ∈ mo, q.1 + 1 < q.2.1 ∧ q.2.1 < m ∧ numR jn q.1 ≠ numR jn q.2.1 ∧ q.2.2 < 0) (by rw [← cut_ints]; exact EvO.ev (evo_slL (ev_var rfl).l (evp_part ev_int.b) (evp_part ev_int.b))) ⟨[], .un, .un, .un, rfl, by simp, by simp⟩ ?_ ?_)
  · rintro L' k c ss hL hk ⟨mo, v9, v10, v11, rfl, hml, hmo⟩
    refine ⟨_, tg_name, fun N hN => ?_⟩
    have hk12 : k < 12 := by have := (List.getElem?_eq_some_iff.mp hk).1; rw [List.length_take] at this; omega
    have b0 := Int.emod_nonneg c (show (m : Int) ≠ 0 by omega)
    have b1 := Int.emod_lt_of_pos c hmp
    have b2 := Int.emod_nonneg (c / 16) (show (m : Int) ≠ 0 by omega)
    have b3 := Int.emod_lt_of_pos (c / 16) hmp
    obtain ⟨i, ei⟩ : ∃ i : Nat, c % (m : Int) = (i : Int) := ⟨(c % (m : Int)).toNat, by omega⟩
    obtain ⟨j, ej⟩ : ∃ j : Nat, c / 16 % (m : Int) = (j : Int) := ⟨(c / 16 % (m : Int)).toNat, by omega⟩
    refine go_seq (go_set (d := encN i) (by unfold encN; rw [← ei]; exact ev_mod (ev_var rfl).b (ev_var rfl).b hmp) ?_)
    ((try dsimp only); refine nx_go ?_)
    refine go_seq (go_set (d := encN j) (by unfold encN; rw [← ej]; exact ev_mod (ev_fdiv (ev_var rfl).b ev_int.b ⟨by decide, by decide⟩).b (ev_var rfl).b hmp) ?_)
    ((try dsimp only); refine nx_go ?_)
    have hi : i < m := by omega
    have hj : j < m := by omega
    have nbM : D.nbs (mo.map fun q => encA (q.1, q.2.1)) = true := D.nbs_map (fun q => encA_nb (q.1, q.2.1)) mo
    refine go_if (b := (decide ((i : Int) + 1 < (j : Int)) && (!decide (((numR jn i : Nat) : Int) = ((numR jn j : Nat) : Int)) && !decide (encA (i, j) ∈ mo.map fun q => encA (q.1, q.2.1))))) (evt_and (evt_test (ev_lt (ev_add (ev_var rfl).b ev_int.b).b (ev_var rfl).b)) fun _ => evt_and (evt_test (ev_neI (Ev.b (ev_ixL (ev_var rfl).l (ev_var rfl).b (nat_ hi))) (Ev.b (ev_ixL (ev_var rfl).l (ev_var rfl).b (nat_ hj))))) fun _ => evt_test (ev_notInD (d := encA (i, j)) (Ev.b (ev_tup (evaf_cons (ev_var rfl) (evaf_cons (ev_var rfl) evaf_nil)) (small (by simp)))) (EvL.b (EvO.l (evo_lcM mo encP (fun q => encA (q.1, q.2.1)) (evl_own rfl) (gk_name (by decide)) (by decide) (by rw [sizeLine_eq]; omega) fun q hq => ⟨_, tg_name, ev_tup (evaf_cons (ev_ixT (ds := [.int q.1, .int q.2.1, .int q.2.2]) (ev_var rfl) ev_int.b rfl) (evaf_cons (ev_ixT (ds := [.int q.1, .int q.2.1, .int q.2.2]) (ev_var rfl) ev_int.b rfl) evaf_nil)) (small (by simp))⟩))) rfl nbM (by show 1 ≤ 60; decide))) (fun hb => ?_) (fun hb => go_next (hN _ ⟨mo, _, _, _, rfl, by omega, hmo⟩))
    simp only [Bool.and_eq_true, Bool.not_eq_true', decide_eq_true_eq, decide_eq_false_iff_not] at hb
    obtain ⟨h1, h2, _⟩ := hb
    have w0 := Int.emod_nonneg (c / 256) (show (10 : Int) ^ (30 : Int).toNat ≠ 0 by decide)
    refine go_append (d := encP (i, j, -1 - c / 256 % (10 : Int) ^ (30 : Int).toNat)) rfl (ev_tup (evaf_cons (ev_var rfl) (evaf_cons (ev_var rfl) (evaf_cons (ev_sub (ev_neg ev_int.b).b (Ev.b (ev_mod (ev_fdiv (ev_var rfl).b ev_int.b ⟨by decide, by decide⟩).b (ev_pow ev_int.b ev_int.b ⟨by decide, by decide, by decide⟩).b (by decide)))) evaf_nil))) (small (by simp))) (by rw [List.length_map, sizeLine_eq]; omega) (hN _ ⟨mo ++ [(i, j, -1 - c / 256 % (10 : Int) ^ (30 : Int).toNat)], _, _, _, by rw [List.map_append]; rfl, by simp; omega, fun q hq => ?_⟩)
    rcases List.mem_append.mp hq with z | z
    · exact hmo q z
    · rw [List.mem_singleton.mp z]
      exact ⟨by show i + 1 < j; omega, hj, by show numR jn i ≠ numR jn j; omega, by show -1 - c / 256 % (10 : Int) ^ (30 : Int).toNat < 0; omega⟩
  rintro ss ⟨mo, v9, v10, v11, rfl, hml, hmo⟩
  have hml : mo.length ≤ 12 := by rw [List.length_take] at hml; omega
  ((try dsimp only); refine nx_go ?_)
  -- the pairs, sorted
  obtain ⟨ps', hps', hpm⟩ : ∃ ps' : List Pr, ps'.map encP = sortQ ((ps ++ mo).map encP) ∧ ps'.Perm (ps ++ mo) := by
    have hp := sortQ_perm ((ps ++ mo).map encP)
    refine ⟨(sortQ ((ps ++ mo).map encP)).map unP, ?_, ?_⟩
    · rw [List.map_map]
      conv => rhs; rw [← List.map_id (sortQ ((ps ++ mo).map encP))]
      refine List.map_congr_left fun d hd => ?_
      obtain ⟨q, _, rfl⟩ := List.mem_map.mp (hp.mem_iff.mp hd)
      rfl
    · have := hp.map unP
      rw [unP_map] at this
      exact this
  obtain ⟨hg, hparts, hbest, hloss⟩ := main mo ps' hmo hpm
  have hll : ps'.length ≤ 28 := by rw [hpm.length_eq, List.length_append]; have := hro.2.2.2.1; omega
  have hal := hro.2.2.2.2
  have hfew := few_runs hparts
  have eA := resAk_enc m ps' as
  have alk : Alike ((ps ++ mo).map encP) := .inr (.inr ⟨.i, [.i, .i], fun d hd => by
    obtain ⟨q, _, rfl⟩ := List.mem_map.mp hd
    exact ⟨_, rfl, rfl⟩⟩)
  have l64 : ((ps ++ mo).map encP).length < 64 := by rw [List.length_map, List.length_append]; have := hro.2.2.2.1; omega
  have call : ∀ {dr : D}, resAk [.int m, .lst (ps'.map encP), .lst (as.map encA)] = dr → Ev K H H H [.d (.lst (ns.map .int)), .d (.int m), .d (.lst (ps.map encP)), .d (.lst (as.map encA)), .d (.lst ((runsR jn m).map encG)), .d (.lst (((List.range m).map (numR jn)).map encN)), v6, v7, .o p (mo.map encP), v9, v10, v11, .un, .un, .un, .un] (tCall (SpDT K T0 lamP lamQ preBx resAk) [] E0 (tCons (tVar 1) (tCons (tCB (rSortQ K) (tCons (tOp (rCatD K) (tVar 2) (tVar 8)) tNil)) (tCons (tCB (fun xs H Q => ∃ p ys, xs = [.ref p] ∧ (SqL K H p ys ∨ SqT K H p ys) ∧ ∀ l, H l = none → Q (.ref l) (upd H l (.lst ys))) (tCons (tVar 3) tNil)) tNil)))) dr := fun {dr} e => by
    rw [← e]
    exact ev_callT hT (evaf_cons (ev_var rfl) (evaf_cons (by rw [hps']; exact EvO.ev (evo_sortedQ (by rw [List.map_append]; exact EvO.l (evo_cat (ev_var rfl).l (evl_own rfl) (small (by simp only [List.length_map]; have := hro.2.2.2.1; omega)))) alk l64)) (evaf_cons (EvO.ev (evo_list (ev_var rfl).l)) evaf_nil))) ⟨m, ps', as, rfl, by omega, by omega, by omega, hg⟩
  have lcG : ∀ {L0 : Hp} {ss : List Sl}, ss[4]? = some (.d (.lst ((runsR jn m).map encG))) → EvO K H H L0 ss (tLC 1 [] (iList K (tVar 4)) (gName 0) (tTest (tOp (rI0 fun i j => .bl (decide (i > j))) (tCB (fun xs H Q => ∃ p ys, xs = [.ref p] ∧ (SqL K H p ys ∨ SqT K H p ys) ∧ Q (.int ys.length) H) (tCons (tVar 0) tNil)) (tC (.int 7)))) (tVar 0)) (((runsR jn m).filter fun p => decide ((p.length : Int) > 7)).map encG) := fun {L0 ss} hs =>
    evo_lcX (runsR jn m) encG (fun p => decide ((p.length : Int) > 7)) encG (ev_var hs).l (gk_name (by decide)) (by decide) (by rw [sizeLine_eq]; omega) fun pt _ => ⟨_, tg_name, by
      have ll : ((pt.map encN).length : Int) = ((pt.length : Nat) : Int) := by rw [List.length_map]
      rw [← ll]
      exact evt_test (ev_gt (ev_lenL (Ev.l (ev_var rfl))).b ev_int.b), fun _ => ev_var rfl⟩
  have nbR : ∀ l : List (List Nat), (D.lst (l.map encG)).nb = true := fun l => by
    rw [D.nb_lst]
    exact D.nbs_map (fun g => by unfold encG; rw [D.nb_lst]; exact D.nbs_map (fun n => (rfl : (encN n).nb = true)) g) l
  have dpR : ∀ l : List (List Nat), (D.lst (l.map encG)).dep ≤ 60 := fun l => by
    rw [D.dep_lst]
    have := D.deps_map (enc := encG) (n := 1) (fun g => by unfold encG; rw [D.dep_lst]; have := D.deps_map (enc := encN) (n := 0) (fun _ => Nat.le_refl _) g; omega) l
    omega
  by_cases hf : fewP m ps' as
  · rw [if_pos hf, hbest] at eA
    refine go_seq (go_asg (call eA) (tg_tup rfl (tgs_cons tg_name (tgs_cons tg_name tgs_nil))) ?_)
    ((try dsimp only); refine nx_go ?_)
    have hfi := hfew.mp hf
    refine go_seq (go_setO (lcG rfl) fun q => nx_freeze (i := 14) rfl ?_)
    rw [hfi]
    ((try dsimp only); refine nx_go ?_)
    refine go_seq (go_if (b := !decide (D.lst [] = .lst [])) (evt_test (ev_neD (ev_var rfl).b (Ev.b (EvO.ev (evo_lst evaf_nil (small (by decide))))) rfl rfl (by show 1 ≤ 60; decide))) (fun hb => by simp at hb) (fun _ => ?_))
    refine go_next ?_
    ((try dsimp only); refine nx_go ?_)
    refine go_seq (go_set (d := .int ((ps.filter fun p => decide (encA (p.1, p.2.1) ∈ as.map encA)).map fun p => if p.2.2 > 0 then p.2.2 else 0).sum) (ev_sumL (by
      have em2 : ((ps.filter fun p => decide (encA (p.1, p.2.1) ∈ as.map encA)).map fun p => if p.2.2 > 0 then p.2.2 else 0).map D.int = (ps.filter fun p => decide (encA (p.1, p.2.1) ∈ as.map encA)).map fun p => D.int (if p.2.2 > 0 then p.2.2 else 0) := by rw [List.map_map]; rfl
      rw [em2]
      refine EvO.l ?_
      exact evo_lcX ps encP (fun p => decide (encA (p.1, p.2.1) ∈ as.map encA)) (fun p => D.int (if p.2.2 > 0 then p.2.2 else 0)) (ev_var rfl).l (gk_tup (gks_cons (gk_name (by decide)) (gks_cons (gk_name (by decide)) (gks_cons (gk_name (by decide)) gks_nil)))) (by decide) (by rw [sizeLine_eq]; have := hro.2.2.2.1; omega) fun q hq => ⟨_, tg_tup rfl (tgs_cons tg_name (tgs_cons tg_name (tgs_cons tg_name tgs_nil))), evt_test (ev_inD (d := encA (q.1, q.2.1)) (Ev.b (ev_tup (evaf_cons (ev_var rfl) (evaf_cons (ev_var rfl) evaf_nil)) (small (by simp)))) (ev_var rfl).b rfl (D.nbs_map encA_nb as) (by show 1 ≤ 60; decide)), fun _ => ev_maxI ev_int.b (ev_var rfl).b⟩)) ?_)
    ((try dsimp only); refine nx_go ?_)
    rw [hloss]
    generalize ((ps.filter fun p => decide (encA (p.1, p.2.1) ∈ as.map encA)).map fun p => if p.2.2 > 0 then p.2.2 else 0).sum = lo
    generalize (List.range m).map (numR jn) = g
    have nbG : (D.tup [.int lo, .lst (g.map encN)]).nb = true := by simp [D.nb, D.nbs, D.nbs_map (fun n => (rfl : (encN n).nb = true))]
    have dpG : (D.tup [.int lo, .lst (g.map encN)]).dep ≤ 60 := by
      have h1 := D.deps_map (enc := encN) (n := 0) (fun _ => Nat.le_refl _) g
      simp only [D.dep, D.deps]
      omega
    refine go_ret (d := .bl (decide ((0 : Int) = 0) && decide (D.tup [.int lo, .lst (g.map encN)] = .tup [.int lo, .lst (g.map encN)]))) (ev_and (ev_eqI (ev_var rfl).b ev_int.b) fun _ => ev_eqD (ev_var rfl).b (Ev.b (ev_tup (evaf_cons (ev_var rfl) (evaf_cons (ev_var rfl) evaf_nil)) (small (by simp)))) nbG nbG dpG) ?_
    simp only [decide_true, Bool.and_self]
    exact rt
  · rw [if_neg hf] at eA
    have hfi : ¬ ((runsR jn m).filter fun p => decide ((p.length : Int) > 7)) = [] := fun z => hf (hfew.mpr z)
    have hfind : (partsF (ufF (linksF ps' as)) (List.range m)).find? (fun p => decide (7 < p.length)) = ((runsR jn m).filter fun p => decide ((p.length : Int) > 7)).head? := by
      rw [hparts, List.head?_filter]
      congr 1
      funext p
      exact decide_eq_decide.mpr (by omega)
    unfold errL at eA
    rw [hfind] at eA
    refine go_seq (go_asg (call eA) (tg_tup rfl (tgs_cons tg_name (tgs_cons tg_name tgs_nil))) ?_)
    ((try dsimp only); refine nx_go ?_)
    refine go_seq (go_setO (lcG rfl) fun q => nx_freeze (i := 14) rfl ?_)
    ((try dsimp only); refine nx_go ?_)
    generalize ((runsR jn m).filter fun p => decide ((p.length : Int) > 7)) = gr at hfi
    obtain ⟨g0, gr, rfl⟩ : ∃ g0 gr', gr = g0 :: gr' := by
      cases gr with
      | nil => exact absurd rfl hfi
      | cons x y => exact ⟨x, y, rfl⟩
    have hne : ¬ D.lst ((g0 :: gr).map encG) = .lst [] := fun z => by injection z with z; cases z
    refine go_seq (go_if (b := !decide (D.lst ((g0 :: gr).map encG) = .lst [])) (evt_test (ev_neD (ev_var rfl).b (Ev.b (EvO.ev (evo_lst evaf_nil (small (by decide))))) (nbR _) rfl (dpR _))) (fun _ => ?_) (fun hb => by rw [decide_eq_false hne] at hb; cases hb))
    have ll : ((g0.map encN).length : Int) = ((g0.length : Nat) : Int) := by rw [List.length_map]
    refine go_ret (d := .bl (decide (D.non = .non) && (!false && decide (((g0.length : Nat) : Int) = ((g0.length : Nat) : Int))))) (ev_and (ev_isN (ev_var rfl).b) fun _ => ev_and (ev_not (ev_isIB (ev_var rfl).b)) fun _ => ev_eqI (ev_var rfl).b (Ev.b (by rw [← ll]; exact ev_lenL (Ev.l (ev_ixL (d := encG g0) (ev_var rfl).l ev_int.b (atI_nat (j := 0) rfl)))))) ?_
    simp only [decide_true, Bool.and_self, Bool.not_false]
    exact rt
end
theorem lcase1 {α : Type} {P : List α → Prop} {us : List α} (hl : us.length = 1) (h : ∀ a0, P [a0]) : P us := match us, hl with
  | [a0], _ => h a0
theorem lcase2 {α : Type} {P : List α → Prop} {us : List α} (hl : us.length = 2) (h : ∀ a0 a1, P [a0, a1]) : P us := match us, hl with
  | [a0, a1], _ => h a0 a1
theorem lcase3 {α : Type} {P : List α → Prop} {us : List α} (hl : us.length = 3) (h : ∀ a0 a1 a2, P [a0, a1, a2]) : P us := match us, hl with
  | [a0, a1, a2], _ => h a0 a1 a2
theorem bd_joined (kV doc pm : Value) (an : Option Addr) (cdv ct : Value) (us : List Value) (hl : us.length = (["things", "links"] : List Str).length) : bindArgs (PySem.W.fnOf "joined" "joined" (defArgs s_joined) (defBody s_joined) (defScope s_joined) .none kV doc pm an cdv ct) ⟨us, []⟩ = pure ((["things", "links"] : List Str).zip us) :=
  lcase2 (P := fun us => bindArgs _ ⟨us, []⟩ = pure (List.zip _ us)) hl fun _ _ => rfl
theorem bd_keeps (kV doc pm : Value) (an : Option Addr) (cdv ct : Value) (us : List Value) (hl : us.length = (["aparts", "grouping"] : List Str).length) : bindArgs (PySem.W.fnOf "keeps" "keeps" (defArgs s_keeps) (defBody s_keeps) (defScope s_keeps) .none kV doc pm an cdv ct) ⟨us, []⟩ = pure ((["aparts", "grouping"] : List Str).zip us) :=
  lcase2 (P := fun us => bindArgs _ ⟨us, []⟩ = pure (List.zip _ us)) hl fun _ _ => rfl
theorem bd_loss_of (kV doc pm : Value) (an : Option Addr) (cdv ct : Value) (us : List Value) (hl : us.length = (["pairs", "grouping"] : List Str).length) : bindArgs (PySem.W.fnOf "loss_of" "loss_of" (defArgs s_loss_of) (defBody s_loss_of) (defScope s_loss_of) .none kV doc pm an cdv ct) ⟨us, []⟩ = pure ((["pairs", "grouping"] : List Str).zip us) :=
  lcase2 (P := fun us => bindArgs _ ⟨us, []⟩ = pure (List.zip _ us)) hl fun _ _ => rfl
theorem bd_parts_of (kV doc pm : Value) (an : Option Addr) (cdv ct : Value) (us : List Value) (hl : us.length = (["many", "pairs", "aparts"] : List Str).length) : bindArgs (PySem.W.fnOf "parts_of" "parts_of" (defArgs s_parts_of) (defBody s_parts_of) (defScope s_parts_of) .none kV doc pm an cdv ct) ⟨us, []⟩ = pure ((["many", "pairs", "aparts"] : List Str).zip us) :=
  lcase3 (P := fun us => bindArgs _ ⟨us, []⟩ = pure (List.zip _ us)) hl fun _ _ _ => rfl
theorem bd_case_of (kV doc pm : Value) (an : Option Addr) (cdv ct : Value) (us : List Value) (hl : us.length = (["part", "pairs", "aparts"] : List Str).length) : bindArgs (PySem.W.fnOf "case_of" "case_of" (defArgs s_case_of) (defBody s_case_of) (defScope s_case_of) .none kV doc pm an cdv ct) ⟨us, []⟩ = pure ((["part", "pairs", "aparts"] : List Str).zip us) :=
  lcase3 (P := fun us => bindArgs _ ⟨us, []⟩ = pure (List.zip _ us)) hl fun _ _ _ => rfl
theorem bd_TooMany_init (kV doc pm : Value) (an : Option Addr) (cdv ct : Value) (us : List Value) (hl : us.length = (["self", "count"] : List Str).length) : bindArgs (PySem.W.fnOf "__init__" "TooMany.__init__" (defArgs s_TooMany_init) (defBody s_TooMany_init) (defScope s_TooMany_init) .none kV doc pm an cdv ct) ⟨us, []⟩ = pure ((["self", "count"] : List Str).zip us) :=
  lcase2 (P := fun us => bindArgs _ ⟨us, []⟩ = pure (List.zip _ us)) hl fun _ _ => rfl
theorem bd_groupings_of (kV doc pm : Value) (an : Option Addr) (cdv ct : Value) (us : List Value) (hl : us.length = (["many"] : List Str).length) : bindArgs (PySem.W.fnOf "groupings_of" "groupings_of" (defArgs s_groupings_of) (defBody s_groupings_of) (defScope s_groupings_of) .none kV doc pm an cdv ct) ⟨us, []⟩ = pure ((["many"] : List Str).zip us) :=
  lcase1 (P := fun us => bindArgs _ ⟨us, []⟩ = pure (List.zip _ us)) hl fun _ => rfl
theorem bd_best_in_part (kV doc pm : Value) (an : Option Addr) (cdv ct : Value) (us : List Value) (hl : us.length = (["case"] : List Str).length) : bindArgs (PySem.W.fnOf "best_in_part" "best_in_part" (defArgs s_best_in_part) (defBody s_best_in_part) (defScope s_best_in_part) .none kV doc pm an cdv ct) ⟨us, []⟩ = pure ((["case"] : List Str).zip us) :=
  lcase1 (P := fun us => bindArgs _ ⟨us, []⟩ = pure (List.zip _ us)) hl fun _ => rfl
theorem bd_numbered_anew (kV doc pm : Value) (an : Option Addr) (cdv ct : Value) (us : List Value) (hl : us.length = (["labels"] : List Str).length) : bindArgs (PySem.W.fnOf "numbered_anew" "numbered_anew" (defArgs s_numbered_anew) (defBody s_numbered_anew) (defScope s_numbered_anew) .none kV doc pm an cdv ct) ⟨us, []⟩ = pure ((["labels"] : List Str).zip us) :=
  lcase1 (P := fun us => bindArgs _ ⟨us, []⟩ = pure (List.zip _ us)) hl fun _ => rfl
theorem bd_best_of (kV doc pm : Value) (an : Option Addr) (cdv ct : Value) (us : List Value) (hl : us.length = (["many", "pairs", "aparts"] : List Str).length) : bindArgs (PySem.W.fnOf "best_of" "best_of" (defArgs s_best_of) (defBody s_best_of) (defScope s_best_of) .none kV doc pm an cdv ct) ⟨us, []⟩ = pure ((["many", "pairs", "aparts"] : List Str).zip us) :=
  lcase3 (P := fun us => bindArgs _ ⟨us, []⟩ = pure (List.zip _ us)) hl fun _ _ _ => rfl
theorem bd_law_cell_at (kV doc pm : Value) (an : Option Addr) (cdv ct : Value) (us : List Value) (hl : us.length = (["_law_script", "_law_k"] : List Str).length) : bindArgs (PySem.W.fnOf "_law_cell_at" "_law_cell_at" (defArgs s_law_cell_at) (defBody s_law_cell_at) (defScope s_law_cell_at) .none kV doc pm an cdv ct) ⟨us, []⟩ = pure ((["_law_script", "_law_k"] : List Str).zip us) :=
  lcase2 (P := fun us => bindArgs _ ⟨us, []⟩ = pure (List.zip _ us)) hl fun _ _ => rfl
theorem bd_law_row (kV doc pm : Value) (an : Option Addr) (cdv ct : Value) (us : List Value) (hl : us.length = (["_law_script", "_law_many"] : List Str).length) : bindArgs (PySem.W.fnOf "_law_row" "_law_row" (defArgs s_law_row) (defBody s_law_row) (defScope s_law_row) .none kV doc pm an cdv ct) ⟨us, []⟩ = pure ((["_law_script", "_law_many"] : List Str).zip us) :=
  lcase2 (P := fun us => bindArgs _ ⟨us, []⟩ = pure (List.zip _ us)) hl fun _ _ => rfl
theorem bd_law_parts (kV doc pm : Value) (an : Option Addr) (cdv ct : Value) (us : List Value) (hl : us.length = (["_law_many", "_law_pairs", "_law_aparts"] : List Str).length) : bindArgs (PySem.W.fnOf "_law_parts" "_law_parts" (defArgs s_law_parts) (defBody s_law_parts) (defScope s_law_parts) .none kV doc pm an cdv ct) ⟨us, []⟩ = pure ((["_law_many", "_law_pairs", "_law_aparts"] : List Str).zip us) :=
  lcase3 (P := fun us => bindArgs _ ⟨us, []⟩ = pure (List.zip _ us)) hl fun _ _ _ => rfl
theorem bd_law_asked (kV doc pm : Value) (an : Option Addr) (cdv ct : Value) (us : List Value) (hl : us.length = (["_law_many", "_law_pairs", "_law_aparts"] : List Str).length) : bindArgs (PySem.W.fnOf "_law_asked" "_law_asked" (defArgs s_law_asked) (defBody s_law_asked) (defScope s_law_asked) .none kV doc pm an cdv ct) ⟨us, []⟩ = pure ((["_law_many", "_law_pairs", "_law_aparts"] : List Str).zip us) :=
  lcase3 (P := fun us => bindArgs _ ⟨us, []⟩ = pure (List.zip _ us)) hl fun _ _ _ => rfl
theorem bd_law (kV doc pm : Value) (an : Option Addr) (cdv ct : Value) (us : List Value) (hl : us.length = (["_law_script"] : List Str).length) : bindArgs (PySem.W.fnOf "law" "law" (defArgs s_law) (defBody s_law) (defScope s_law) .none kV doc pm an cdv ct) ⟨us, []⟩ = pure ((["_law_script"] : List Str).zip us) :=
  lcase1 (P := fun us => bindArgs _ ⟨us, []⟩ = pure (List.zip _ us)) hl fun _ => rfl
theorem all_mk {l : PySem.W.OpenLaw} {w : World} {K : PySem.W.Frag} {h : Heap} {mg : Str → Option Value} {fa g0 g1 g2 g3 g4 g5 g6 g7 g8 g9 g10 g11 g12 g13 g14 : Addr} (X : K.In h) (G : h.Ns mainGlobals mg) (hfa : mg "law" = some (.ref fa))
    {od0 an0 od1 an1 od2 an2 od3 an3 od4 an4 od5 an5 od6 an6 od7 an7 od8 an8 od9 an9 od10 an10 od11 an11 od12 an12 od13 an13 od14 an14 : Option Addr} {sl0 sl1 sl2 sl3 sl4 sl5 sl6 sl7 sl8 sl9 sl10 sl11 sl12 sl13 sl14 : Array (Option Value)} {oc0 kV0 dc0 pm0 cd0 ct0 oc1 kV1 dc1 pm1 cd1 ct1 oc2 kV2 dc2 pm2 cd2 ct2 oc3 kV3 dc3 pm3 cd3 ct3 oc4 kV4 dc4 pm4 cd4 ct4 oc5 kV5 dc5 pm5 cd5 ct5 oc6 kV6 dc6 pm6 cd6 ct6 oc7 kV7 dc7 pm7 cd7 ct7 oc8 kV8 dc8 pm8 cd8 ct8 oc9 kV9 dc9 pm9 cd9 ct9 oc10 kV10 dc10 pm10 cd10 ct10 oc11 kV11 dc11 pm11 cd11 ct11 oc12 kV12 dc12 pm12 cd12 ct12 oc13 kV13 dc13 pm13 cd13 ct13 oc14 kV14 dc14 pm14 cd14 ct14 : Value}
    {q_FolkError : Addr} {q_NoName : Addr} {q_NoPair : Addr} {q_NoRow : Addr} {q_NoText : Addr} {q_Odds : Addr} {q_TooMany : Addr} {t_MOST_BLOCKS : Tok}
    (a0 : PySem.W.nsIn K mainGlobals "joined" = some (some (.ref g0))) (l0 : K.lookup g0 = some ⟨oc0, od0, .func (PySem.W.fnOf "joined" "joined" (defArgs s_joined) (defBody s_joined) (defScope s_joined) .none kV0 dc0 pm0 an0 cd0 ct0), sl0⟩) (c0 : PySem.W.codeIn K cd0 "joined" = true) (k0 : PySem.W.keepIn K (.ref g0) = true)
    (a1 : PySem.W.nsIn K mainGlobals "keeps" = some (some (.ref g1))) (l1 : K.lookup g1 = some ⟨oc1, od1, .func (PySem.W.fnOf "keeps" "keeps" (defArgs s_keeps) (defBody s_keeps) (defScope s_keeps) .none kV1 dc1 pm1 an1 cd1 ct1), sl1⟩) (c1 : PySem.W.codeIn K cd1 "keeps" = true) (k1 : PySem.W.keepIn K (.ref g1) = true)
    (a2 : PySem.W.nsIn K mainGlobals "loss_of" = some (some (.ref g2))) (l2 : K.lookup g2 = some ⟨oc2, od2, .func (PySem.W.fnOf "loss_of" "loss_of" (defArgs s_loss_of) (defBody s_loss_of) (defScope s_loss_of) .none kV2 dc2 pm2 an2 cd2 ct2), sl2⟩) (c2 : PySem.W.codeIn K cd2 "loss_of" = true) (k2 : PySem.W.keepIn K (.ref g2) = true)
    (a3 : PySem.W.nsIn K mainGlobals "parts_of" = some (some (.ref g3))) (l3 : K.lookup g3 = some ⟨oc3, od3, .func (PySem.W.fnOf "parts_of" "parts_of" (defArgs s_parts_of) (defBody s_parts_of) (defScope s_parts_of) .none kV3 dc3 pm3 an3 cd3 ct3), sl3⟩) (c3 : PySem.W.codeIn K cd3 "parts_of" = true) (k3 : PySem.W.keepIn K (.ref g3) = true)
    (a4 : PySem.W.nsIn K mainGlobals "case_of" = some (some (.ref g4))) (l4 : K.lookup g4 = some ⟨oc4, od4, .func (PySem.W.fnOf "case_of" "case_of" (defArgs s_case_of) (defBody s_case_of) (defScope s_case_of) .none kV4 dc4 pm4 an4 cd4 ct4), sl4⟩) (c4 : PySem.W.codeIn K cd4 "case_of" = true) (k4 : PySem.W.keepIn K (.ref g4) = true)
    (l5 : K.lookup g5 = some ⟨oc5, od5, .func (PySem.W.fnOf "__init__" "TooMany.__init__" (defArgs s_TooMany_init) (defBody s_TooMany_init) (defScope s_TooMany_init) .none kV5 dc5 pm5 an5 cd5 ct5), sl5⟩) (c5 : PySem.W.codeIn K cd5 "TooMany.__init__" = true) (k5 : PySem.W.keepIn K (.ref g5) = true) (mf5 : PySem.W.isFn K (.ref g5) = true)
    (a6 : PySem.W.nsIn K mainGlobals "groupings_of" = some (some (.ref g6))) (l6 : K.lookup g6 = some ⟨oc6, od6, .func (PySem.W.fnOf "groupings_of" "groupings_of" (defArgs s_groupings_of) (defBody s_groupings_of) (defScope s_groupings_of) .none kV6 dc6 pm6 an6 cd6 ct6), sl6⟩) (c6 : PySem.W.codeIn K cd6 "groupings_of" = true) (k6 : PySem.W.keepIn K (.ref g6) = true)
    (a7 : PySem.W.nsIn K mainGlobals "best_in_part" = some (some (.ref g7))) (l7 : K.lookup g7 = some ⟨oc7, od7, .func (PySem.W.fnOf "best_in_part" "best_in_part" (defArgs s_best_in_part) (defBody s_best_in_part) (defScope s_best_in_part) .none kV7 dc7 pm7 an7 cd7 ct7), sl7⟩) (c7 : PySem.W.codeIn K cd7 "best_in_part" = true) (k7 : PySem.W.keepIn K (.ref g7) = true)
    (a8 : PySem.W.nsIn K mainGlobals "numbered_anew" = some (some (.ref g8))) (l8 : K.lookup g8 = some ⟨oc8, od8, .func (PySem.W.fnOf "numbered_anew" "numbered_anew" (defArgs s_numbered_anew) (defBody s_numbered_anew) (defScope s_numbered_anew) .none kV8 dc8 pm8 an8 cd8 ct8), sl8⟩) (c8 : PySem.W.codeIn K cd8 "numbered_anew" = true) (k8 : PySem.W.keepIn K (.ref g8) = true)
    (a9 : PySem.W.nsIn K mainGlobals "best_of" = some (some (.ref g9))) (l9 : K.lookup g9 = some ⟨oc9, od9, .func (PySem.W.fnOf "best_of" "best_of" (defArgs s_best_of) (defBody s_best_of) (defScope s_best_of) .none kV9 dc9 pm9 an9 cd9 ct9), sl9⟩) (c9 : PySem.W.codeIn K cd9 "best_of" = true) (k9 : PySem.W.keepIn K (.ref g9) = true)
    (a10 : PySem.W.nsIn K mainGlobals "_law_cell_at" = some (some (.ref g10))) (l10 : K.lookup g10 = some ⟨oc10, od10, .func (PySem.W.fnOf "_law_cell_at" "_law_cell_at" (defArgs s_law_cell_at) (defBody s_law_cell_at) (defScope s_law_cell_at) .none kV10 dc10 pm10 an10 cd10 ct10), sl10⟩) (c10 : PySem.W.codeIn K cd10 "_law_cell_at" = true) (k10 : PySem.W.keepIn K (.ref g10) = true)
    (a11 : PySem.W.nsIn K mainGlobals "_law_row" = some (some (.ref g11))) (l11 : K.lookup g11 = some ⟨oc11, od11, .func (PySem.W.fnOf "_law_row" "_law_row" (defArgs s_law_row) (defBody s_law_row) (defScope s_law_row) .none kV11 dc11 pm11 an11 cd11 ct11), sl11⟩) (c11 : PySem.W.codeIn K cd11 "_law_row" = true) (k11 : PySem.W.keepIn K (.ref g11) = true)
    (a12 : PySem.W.nsIn K mainGlobals "_law_parts" = some (some (.ref g12))) (l12 : K.lookup g12 = some ⟨oc12, od12, .func (PySem.W.fnOf "_law_parts" "_law_parts" (defArgs s_law_parts) (defBody s_law_parts) (defScope s_law_parts) .none kV12 dc12 pm12 an12 cd12 ct12), sl12⟩) (c12 : PySem.W.codeIn K cd12 "_law_parts" = true) (k12 : PySem.W.keepIn K (.ref g12) = true)
    (a13 : PySem.W.nsIn K mainGlobals "_law_asked" = some (some (.ref g13))) (l13 : K.lookup g13 = some ⟨oc13, od13, .func (PySem.W.fnOf "_law_asked" "_law_asked" (defArgs s_law_asked) (defBody s_law_asked) (defScope s_law_asked) .none kV13 dc13 pm13 an13 cd13 ct13), sl13⟩) (c13 : PySem.W.codeIn K cd13 "_law_asked" = true) (k13 : PySem.W.keepIn K (.ref g13) = true)
    (a14 : PySem.W.nsIn K mainGlobals "law" = some (some (.ref g14))) (l14 : K.lookup g14 = some ⟨oc14, od14, .func (PySem.W.fnOf "law" "law" (defArgs s_law) (defBody s_law) (defScope s_law) .none kV14 dc14 pm14 an14 cd14 ct14), sl14⟩) (c14 : PySem.W.codeIn K cd14 "law" = true) (k14 : PySem.W.keepIn K (.ref g14) = true)
    (a_FolkError : PySem.W.nsIn K mainGlobals "FolkError" = some (some (.ref q_FolkError)))
    (a_NoName : PySem.W.nsIn K mainGlobals "NoName" = some (some (.ref q_NoName)))
    (a_NoPair : PySem.W.nsIn K mainGlobals "NoPair" = some (some (.ref q_NoPair)))
    (a_NoRow : PySem.W.nsIn K mainGlobals "NoRow" = some (some (.ref q_NoRow)))
    (a_NoText : PySem.W.nsIn K mainGlobals "NoText" = some (some (.ref q_NoText)))
    (a_Odds : PySem.W.nsIn K mainGlobals "Odds" = some (some (.ref q_Odds)))
    (a_TooMany : PySem.W.nsIn K mainGlobals "TooMany" = some (some (.ref q_TooMany)))
    (me_TooMany_init : PySem.W.findIn K (.ref q_TooMany) "__init__" = some (some (.ref g5))) (xi_TooMany : L2.excInI K q_TooMany L2.vmro "ValueError.__new__" g5 = true) (mc_TooMany : PySem.W.keepIn K (.ref q_TooMany) = true)
    (xs0_TooMany : PySem.W.findIn K (.ref q_TooMany) "__setattr__" = some (some (.builtin "object.__setattr__")))
    (xs1_TooMany : PySem.W.findIn K (.ref q_TooMany) "count" = some none)
    (xs2_TooMany : PySem.W.mroIn K q_TooMany (.type "object") = some true)
    (xs3_TooMany : PySem.W.hasDictIn K q_TooMany = true)
    (xi4_TooMany : ((PySem.W.clsIn K q_TooMany).any fun cd => L2.vtail cd.mro) = true)
    (cb0_FolkError : PySem.W.specialIn K (.ref q_FolkError) "__getattribute__" = some (some (.builtin "type.__getattribute__"))) (cb1_FolkError : PySem.W.readsIn K q_FolkError (.type "type") = true) (cb2_FolkError : PySem.W.findCls K (.ref q_FolkError) (.type "type") "__init__" = some (.val (.builtin "ValueError.__init__")))
    (t0_TooMany : PySem.W.findIn K (.ref q_TooMany) "__getattribute__" = some (some (.builtin "BaseException.__getattribute__")))
    (t1_TooMany : PySem.W.findIn K (.ref q_TooMany) "__getattr__" = some none)
    (t2_TooMany : PySem.W.mroIn K q_TooMany (.type "BaseException") = some true)
    (t3_TooMany : PySem.W.findIn K (.ref q_TooMany) "__class__" = some (some (.builtin "object.__class__")))
    (t4_TooMany : PySem.W.specialIn K (.builtin "object.__class__") "__get__" = some (some (.builtin "getset_descriptor.__get__")))
    (t5_TooMany : PySem.W.takesIn K (.builtin "object.__class__") = some true)
    (t6_TooMany : PySem.W.mroIn K q_TooMany (.type "object") = some true)
    (t7_TooMany : PySem.W.hasDictIn K q_TooMany = true)
    (h_TooMany_FolkError : PySem.W.exmOne K (.ref q_TooMany) (.ref q_FolkError) = some true)
    (i_TooMany_ValueError : PySem.W.kitOne K (.ref q_TooMany) (.type "ValueError") = some true)
    (i_TooMany_TooMany : PySem.W.kitOne K (.ref q_TooMany) (.ref q_TooMany) = some true)
    (ia_TooMany : PySem.W.kitAny K (.ref q_TooMany) [.ref q_Odds, .ref q_NoPair, .ref q_NoRow, .ref q_NoText, .ref q_NoName] = some false)
    (na_TooMany_count : PySem.W.findIn K (.ref q_TooMany) "count" = some none)
    (a_MOST_BLOCKS : PySem.W.nsIn K mainGlobals "MOST_BLOCKS" = some (some (.int 7 t_MOST_BLOCKS)))
    (y_ValueError : PySem.W.nsIn K mainGlobals "ValueError" = some none)
    (y_abs : PySem.W.nsIn K mainGlobals "abs" = some none)
    (y_all : PySem.W.nsIn K mainGlobals "all" = some none)
    (y_bool : PySem.W.nsIn K mainGlobals "bool" = some none)
    (y_enumerate : PySem.W.nsIn K mainGlobals "enumerate" = some none)
    (y_isinstance : PySem.W.nsIn K mainGlobals "isinstance" = some none)
    (y_len : PySem.W.nsIn K mainGlobals "len" = some none)
    (y_list : PySem.W.nsIn K mainGlobals "list" = some none)
    (y_max : PySem.W.nsIn K mainGlobals "max" = some none)
    (y_min : PySem.W.nsIn K mainGlobals "min" = some none)
    (y_range : PySem.W.nsIn K mainGlobals "range" = some none)
    (y_sorted : PySem.W.nsIn K mainGlobals "sorted" = some none)
    (y_sum : PySem.W.nsIn K mainGlobals "sum" = some none)
    (y_zip : PySem.W.nsIn K mainGlobals "zip" = some none) :
    ∃ fd fl : FuncData, (∀ (s : Shared) (v : Value), BindsTo s fd ⟨[v], []⟩ [("_law_script", v)]) ∧ (∃ g oc od osl, mg "best_in_part" = some (.ref g) ∧ K.lookup g = some ⟨oc, od, .func fl, osl⟩) ∧ ∀ (base : Heap) (T0 : Addr), K.In base → base.Ns mainGlobals mg → LamAt base mg fl T0 → FnOk l.prog w K mg base CX0 21 fa fd ["_law_script"] (spLaw K T0) := by
  have e := hfa.symm.trans (PySem.W.mg_of X G a14)
  cases e
  have F0 := fun_mk (st := s_joined) l0 c0 k0
  have b0 := F0.binds (ps := ["things", "links"]) bd_joined
  have F1 := fun_mk (st := s_keeps) l1 c1 k1
  have b1 := F1.binds (ps := ["aparts", "grouping"]) bd_keeps
  have F2 := fun_mk (st := s_loss_of) l2 c2 k2
  have b2 := F2.binds (ps := ["pairs", "grouping"]) bd_loss_of
  have F3 := fun_mk (st := s_parts_of) l3 c3 k3
  have b3 := F3.binds (ps := ["many", "pairs", "aparts"]) bd_parts_of
  have F4 := fun_mk (st := s_case_of) l4 c4 k4
  have b4 := F4.binds (ps := ["part", "pairs", "aparts"]) bd_case_of
  have F5 := fun_mk (st := s_TooMany_init) l5 c5 k5
  have b5 := F5.binds (ps := ["self", "count"]) bd_TooMany_init
  have F6 := fun_mk (st := s_groupings_of) l6 c6 k6
  have b6 := F6.binds (ps := ["many"]) bd_groupings_of
  have F7 := fun_mk (st := s_best_in_part) l7 c7 k7
  have b7 := F7.binds (ps := ["case"]) bd_best_in_part
  have F8 := fun_mk (st := s_numbered_anew) l8 c8 k8
  have b8 := F8.binds (ps := ["labels"]) bd_numbered_anew
  have F9 := fun_mk (st := s_best_of) l9 c9 k9
  have b9 := F9.binds (ps := ["many", "pairs", "aparts"]) bd_best_of
  have F10 := fun_mk (st := s_law_cell_at) l10 c10 k10
  have b10 := F10.binds (ps := ["_law_script", "_law_k"]) bd_law_cell_at
  have F11 := fun_mk (st := s_law_row) l11 c11 k11
  have b11 := F11.binds (ps := ["_law_script", "_law_many"]) bd_law_row
  have F12 := fun_mk (st := s_law_parts) l12 c12 k12
  have b12 := F12.binds (ps := ["_law_many", "_law_pairs", "_law_aparts"]) bd_law_parts
  have F13 := fun_mk (st := s_law_asked) l13 c13 k13
  have b13 := F13.binds (ps := ["_law_many", "_law_pairs", "_law_aparts"]) bd_law_asked
  have F14 := fun_mk (st := s_law) l14 c14 k14
  have b14 := F14.binds (ps := ["_law_script"]) bd_law
  exact ⟨_, _, fun s v => .of_eq rfl, ⟨_, _, _, _, PySem.W.mg_of X G a7, l7⟩, fun base T0 _ _ Y => ok_law (ad0 := ⟨q_FolkError, q_NoName, q_NoPair, q_NoRow, q_NoText, q_Odds, q_TooMany, g0, g1, g2, g3, g4, g5, g6, g7, g8, g9, g10, g11, g12, g13, _, _, _, _, _, _, _, _, _, _, _, _, _, _, _, _, _⟩) ⟨PySem.W.mg_of X G a_FolkError, PySem.W.mg_of X G a_NoName, PySem.W.mg_of X G a_NoPair, PySem.W.mg_of X G a_NoRow, PySem.W.mg_of X G a_NoText, PySem.W.mg_of X G a_Odds, PySem.W.mg_of X G a_TooMany, ⟨xi_TooMany, mf5, mc_TooMany⟩, ⟨xs0_TooMany, xs1_TooMany, xs2_TooMany, xs3_TooMany, xi4_TooMany⟩, ⟨cb0_FolkError, cb1_FolkError, cb2_FolkError⟩, ⟨t0_TooMany, t1_TooMany, t2_TooMany, t3_TooMany, t4_TooMany, t5_TooMany, t6_TooMany, t7_TooMany⟩, h_TooMany_FolkError, i_TooMany_ValueError, i_TooMany_TooMany, ia_TooMany, na_TooMany_count, PySem.W.mg_of X G a_MOST_BLOCKS, ⟨_, rfl⟩, F0, b0, PySem.W.mg_of X G a0, F1, b1, PySem.W.mg_of X G a1, F2, b2, PySem.W.mg_of X G a2, F3, b3, PySem.W.mg_of X G a3, F4, b4, PySem.W.mg_of X G a4, F5, b5, F6, b6, PySem.W.mg_of X G a6, F7, b7, PySem.W.mg_of X G a7, F8, b8, PySem.W.mg_of X G a8, F9, b9, PySem.W.mg_of X G a9, F10, b10, PySem.W.mg_of X G a10, F11, b11, PySem.W.mg_of X G a11, F12, b12, PySem.W.mg_of X G a12, F13, b13, PySem.W.mg_of X G a13, F14, b14, PySem.W.mg_of X G a14, PySem.W.mg_none_of X G y_ValueError, PySem.W.mg_none_of X G y_abs, PySem.W.mg_none_of X G y_all, PySem.W.mg_none_of X G y_bool, PySem.W.mg_none_of X G y_enumerate, PySem.W.mg_none_of X G y_isinstance, PySem.W.mg_none_of X G y_len, PySem.W.mg_none_of X G y_list, PySem.W.mg_none_of X G y_max, PySem.W.mg_none_of X G y_min, PySem.W.mg_none_of X G y_range, PySem.W.mg_none_of X G y_sorted, PySem.W.mg_none_of X G y_sum, PySem.W.mg_none_of X G y_zip⟩ Y⟩
theorem walk {l : PySem.W.OpenLaw} {q : Program} {loose : List Str} {XP : (Str → Option Value) → Heap → Prop} {YP : World → Heap → Prop} {d : DefRec} {K : Params → PySem.W.Frag} (hn : l.most = some 63) (hdf : d.params.defaults = [])
    (hY : ∀ (w : World) (h : Heap), YP w h → (K w.params).In h) (hrec : ((recsOf q).find? fun e => e.name == ("best_in_part" : Str)).isSome = true) (hno : ∀ p, PySem.W.noTabs (K p) = true)
    (F : ∀ (w : World) (mg : Str → Option Value) (fa : Addr) (h : Heap), (K w.params).In h → h.Ns mainGlobals mg → mg d.name = some (.ref fa) →
      ∃ fd fl : FuncData, (∀ (s : Shared) (u : Value), BindsTo s fd ⟨[u], []⟩ [("_law_script", u)]) ∧ (∃ g oc od osl, mg "best_in_part" = some (.ref g) ∧ (K w.params).lookup g = some ⟨oc, od, .func fl, osl⟩) ∧ ∀ (base : Heap) (T0 : Addr), (K w.params).In base → base.Ns mainGlobals mg → LamAt base mg fl T0 → FnOk l.prog w (K w.params) mg base CX0 21 fa fd ["_law_script"] (spLaw (K w.params) T0)) :
    PySem.W.WalkO q loose XP YP l.row.toRowW d [] (fun f vs => PySem.call f vs) :=
  L2.walk_ofT (n := 63) (k := 21) (x := "_law_script") (nm := "best_in_part") (pos := lamP) (lq := lamQ) (CX := CX0) (sp := spLaw) hn (by decide) hdf ⟨rfl, by decide, by decide, rfl⟩ hY hrec hno F (fun _ _ a T ns hl hS hT => ⟨a, ns, rfl, hS, hl, hT, fun _ sm => ⟨rfl, sm _ _ hT⟩⟩) fun _ _ _ _ z => z
end My
def PySem.W.Fast.tw4951461005987478558 : Unit := ()
open PySem PySem.W PyProof.Rows
set_option maxRecDepth 100000 in
set_option maxHeartbeats 0 in
theorem PySem.Challenge.cw_folk_k34_too_many_blocks_holds : PySem.Challenge.rw_folk_k34_too_many_blocks.Holds := by
  w_on; o_law; k_head; (case hw => w_witness2)
  k_fill
  refine My.walk (l := PySem.Challenge.rw_folk_k34_too_many_blocks) rfl rfl (fun w h Y => PySem.W.km_in_of Y) rfl (fun p => by kernel_rfl) ?F
  case F =>
    intro w mg fa h KX G hmg
    refine' My.all_mk KX G hmg ?a0 ?l0 ?c0 ?k0 ?a1 ?l1 ?c1 ?k1 ?a2 ?l2 ?c2 ?k2 ?a3 ?l3 ?c3 ?k3 ?a4 ?l4 ?c4 ?k4 ?l5 ?c5 ?k5 ?mf5 ?a6 ?l6 ?c6 ?k6 ?a7 ?l7 ?c7 ?k7 ?a8 ?l8 ?c8 ?k8 ?a9 ?l9 ?c9 ?k9 ?a10 ?l10 ?c10 ?k10 ?a11 ?l11 ?c11 ?k11 ?a12 ?l12 ?c12 ?k12 ?a13 ?l13 ?c13 ?k13 ?a14 ?l14 ?c14 ?k14 ?a_FolkError ?a_NoName ?a_NoPair ?a_NoRow ?a_NoText ?a_Odds ?a_TooMany ?me_TooMany_init ?xi_TooMany ?mc_TooMany ?xs0_TooMany ?xs1_TooMany ?xs2_TooMany ?xs3_TooMany ?xi4_TooMany ?cb0_FolkError ?cb1_FolkError ?cb2_FolkError ?t0_TooMany ?t1_TooMany ?t2_TooMany ?t3_TooMany ?t4_TooMany ?t5_TooMany ?t6_TooMany ?t7_TooMany ?h_TooMany_FolkError ?i_TooMany_ValueError ?i_TooMany_TooMany ?ia_TooMany ?na_TooMany_count ?a_MOST_BLOCKS ?y_ValueError ?y_abs ?y_all ?y_bool ?y_enumerate ?y_isinstance ?y_len ?y_list ?y_max ?y_min ?y_range ?y_sorted ?y_sum ?y_zip
    (case a_FolkError => k_is)
    (case a_NoName => k_is)
    (case a_NoPair => k_is)
    (case a_NoRow => k_is)
    (case a_NoText => k_is)
    (case a_Odds => k_is)
    (case a_TooMany => k_is)
    (case me_TooMany_init => k_is)
    (case a_MOST_BLOCKS => k_is)
    (case a0 => k_is)
    (case l0 => k_is)
    (case c0 => k_is)
    (case k0 => k_is)
    (case a1 => k_is)
    (case l1 => k_is)
    (case c1 => k_is)
    (case k1 => k_is)
    (case a2 => k_is)
    (case l2 => k_is)
    (case c2 => k_is)
    (case k2 => k_is)
    (case a3 => k_is)
    (case l3 => k_is)
    (case c3 => k_is)
    (case k3 => k_is)
    (case a4 => k_is)
    (case l4 => k_is)
    (case c4 => k_is)
    (case k4 => k_is)
    (case l5 => k_is)
    (case c5 => k_is)
    (case k5 => k_is)
    (case mf5 => k_is)
    (case a6 => k_is)
    (case l6 => k_is)
    (case c6 => k_is)
    (case k6 => k_is)
    (case a7 => k_is)
    (case l7 => k_is)
    (case c7 => k_is)
    (case k7 => k_is)
    (case a8 => k_is)
    (case l8 => k_is)
    (case c8 => k_is)
    (case k8 => k_is)
    (case a9 => k_is)
    (case l9 => k_is)
    (case c9 => k_is)
    (case k9 => k_is)
    (case a10 => k_is)
    (case l10 => k_is)
    (case c10 => k_is)
    (case k10 => k_is)
    (case a11 => k_is)
    (case l11 => k_is)
    (case c11 => k_is)
    (case k11 => k_is)
    (case a12 => k_is)
    (case l12 => k_is)
    (case c12 => k_is)
    (case k12 => k_is)
    (case a13 => k_is)
    (case l13 => k_is)
    (case c13 => k_is)
    (case k13 => k_is)
    (case a14 => k_is)
    (case l14 => k_is)
    (case c14 => k_is)
    (case k14 => k_is)
    (case xi_TooMany => kernel_rfl)
    (case mc_TooMany => k_is)
    (case xs0_TooMany => k_is)
    (case xs1_TooMany => k_is)
    (case xs2_TooMany => k_is)
    (case xs3_TooMany => k_is)
    (case xi4_TooMany => kernel_rfl)
    (case cb0_FolkError => k_is)
    (case cb1_FolkError => k_is)
    (case cb2_FolkError => k_is)
    (case t0_TooMany => k_is)
    (case t1_TooMany => k_is)
    (case t2_TooMany => k_is)
    (case t3_TooMany => k_is)
    (case t4_TooMany => k_is)
    (case t5_TooMany => k_is)
    (case t6_TooMany => k_is)
    (case t7_TooMany => k_is)
    (case h_TooMany_FolkError => kts_exm)
    (case i_TooMany_ValueError => kit_is)
    (case i_TooMany_TooMany => kit_is)
    (case ia_TooMany => kit_is)
    (case na_TooMany_count => k_is)
    (case y_ValueError => k_is)
    (case y_abs => k_is)
    (case y_all => k_is)
    (case y_bool => k_is)
    (case y_enumerate => k_is)
    (case y_isinstance => k_is)
    (case y_len => k_is)
    (case y_list => k_is)
    (case y_max => k_is)
    (case y_min => k_is)
    (case y_range => k_is)
    (case y_sorted => k_is)
    (case y_sum => k_is)
    (case y_zip => k_is)
