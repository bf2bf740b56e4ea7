import PyProof.Rows.All
import Wide.All
import OpenK.AllK
import Wide.FinOn
import Lean
import PyProof.EqAt
import PyProof.EqKinds
import PyProof.TupleCall
import KE.KSortTup
import PySem.SetTable
import KE.KDictList
import PyProof.Rows.SeqMore
import PyProof.StrLawsIn
import PyProof.MeetsStr3
import PyProof.Rows.StrSplitMax
import KE.KDictLaws
import PyProof.Rows.CallKwBuiltin
import PyProof.ZipIter
import PyProof.Rows.ZipGen
import PyProof.Rows.StrWeight2
import KE.KDictSum
import KE.KTryMore
import PyProof.Rows.TopTwo
import PyProof.ExcBaseAll.ValueError
import KE.RegKIsAll
import KE.RegKTryMore
import PyProof.ExcAttrAll.ValueError
import PyProof.Rows.StrDouble
import OpenK.KCls
import PySem.Challenge.RW_folk_k23_weights_of_two

set_option genSizeOf false
set_option bootstrap.genMatcherCode false
noncomputable section
set_option Elab.async false
set_option linter.all false
set_option maxRecDepth 100000
namespace L2
open PySem PySem.Spec PyProof.Rows

noncomputable abbrev Key := Sum Int Str
noncomputable def keyIs : Key → Value → Bool
  | .inl k, v => Value.isInt k v
  | .inr x, v => Value.isStrOf x v
noncomputable def keyH (w : World) : Key → Int
  | .inl k => hashInt k
  | .inr x => hashStr w x
theorem keyIs_shape : ∀ {k : Key} {v : Value}, keyIs k v = true → (∃ i t, k = Sum.inl i ∧ v = Value.int i t) ∨ (∃ x t, k = Sum.inr x ∧ v = Value.str x t)
  | .inl i, v, h => by
    obtain ⟨t, e⟩ := Value.isInt_shape (k := i) (v := v) h
    exact .inl ⟨i, t, rfl, e⟩
  | .inr x, v, h => by
    obtain ⟨t, e⟩ := Value.isStrOf_shape (x := x) (v := v) h
    exact .inr ⟨x, t, rfl, e⟩
theorem keyIs_int (i : Int) (t : Tok) : keyIs (.inl i) (.int i t) = true := by simp [keyIs, Value.isInt]
theorem keyIs_str (x : Str) (t : Tok) : keyIs (.inr x) (.str x t) = true := by simp [keyIs, Value.isStrOf]
theorem key_ll (a b : Int) : decide ((Sum.inl a : Key) = Sum.inl b) = (a == b) := by
  by_cases e : a = b
  · subst e; simp
  · have h : ¬ (Sum.inl a : Key) = Sum.inl b := fun q => e (Sum.inl.inj q)
    rw [decide_eq_false h]
    exact (beq_eq_false_iff_ne.mpr e).symm
theorem key_rr (a b : Str) : decide ((Sum.inr a : Key) = Sum.inr b) = decide (a = b) := by
  by_cases e : a = b
  · subst e; simp
  · have h : ¬ (Sum.inr a : Key) = Sum.inr b := fun q => e (Sum.inr.inj q)
    rw [decide_eq_false h, decide_eq_false e]
theorem key_lr (a : Int) (b : Str) : decide ((Sum.inl a : Key) = Sum.inr b) = false := decide_eq_false (fun q => nomatch q)
theorem key_rl (a : Str) (b : Int) : decide ((Sum.inr a : Key) = Sum.inl b) = false := decide_eq_false (fun q => nomatch q)

noncomputable def mixKind (prog : Program) (w : World) : PySem.KeyKind prog w Key where
  is := keyIs
  hash := keyH w
  inj := fun v a b ha hb => by
    rcases keyIs_shape ha with ⟨i, t, rfl, rfl⟩ | ⟨x, t, rfl, rfl⟩
    · rcases keyIs_shape hb with ⟨j, u, rfl, e⟩ | ⟨y, u, rfl, e⟩
      · injection e with e1 _; rw [e1]
      · exact nomatch e
    · rcases keyIs_shape hb with ⟨j, u, rfl, e⟩ | ⟨y, u, rfl, e⟩
      · exact nomatch e
      · injection e with e1 _; rw [e1]
  byValue := fun k v h => by
    rcases keyIs_shape h with ⟨i, t, rfl, rfl⟩ | ⟨x, t, rfl, rfl⟩ <;> rfl
  pyHash := fun hv h => by
    rcases keyIs_shape hv with ⟨i, t, rfl, rfl⟩ | ⟨x, t, rfl, rfl⟩
    · exact wpAny_pyHash_int h
    · exact wpAny_pyHash_str h
  eqBool := fun hu hv h => by
    rcases keyIs_shape hu with ⟨i, t, rfl, rfl⟩ | ⟨x, t, rfl, rfl⟩
    · rcases keyIs_shape hv with ⟨j, u, rfl, rfl⟩ | ⟨y, u, rfl, rfl⟩
      · rw [key_ll] at h; exact wpAny_eqBool_int h
      · rw [key_lr] at h; exact SeqAt.EqAt.int_str i t y u _ _ _ _ h
    · rcases keyIs_shape hv with ⟨j, u, rfl, rfl⟩ | ⟨y, u, rfl, rfl⟩
      · rw [key_rl] at h; exact SeqAt.EqAt.str_int x t j u _ _ _ _ h
      · rw [key_rr] at h; exact wpAny_eqBool_str h
  «strs» := fun k x t v h => by
    rcases keyIs_shape h with ⟨i, u, rfl, e⟩ | ⟨y, u, rfl, e⟩
    · exact nomatch e
    · injection e with e1 _
      subst e1
      cases v <;> rfl

theorem mixKind_int (prog : Program) (w : World) (i : Int) (t : Tok) : (mixKind prog w).is (.inl i) (.int i t) = true := keyIs_int i t
theorem mixKind_str (prog : Program) (w : World) (x : Str) (t : Tok) : (mixKind prog w).is (.inr x) (.str x t) = true := keyIs_str x t
end L2

namespace L2
open PySem PySem.Spec PyProof.Rows

inductive V where
  | non | bl (b : Bool) | int (i : Int) | str (x : Str) | byt (b : Array UInt8) | flt (b : UInt64) | ref (a : Addr) | ty (n : String)
  deriving DecidableEq

noncomputable def RelV : V → Value → Prop
  | .non, u => u = Value.none
  | .bl b, u => u = Value.bool b
  | .int i, u => ∃ t, u = Value.int i t
  | .str x, u => ∃ t, u = Value.str x t
  | .byt b, u => ∃ t, u = Value.bytes b t
  | .flt b, u => ∃ t, u = Value.float b t
  | .ref a, u => u = Value.ref a
  | .ty n, u => u = Value.type n

noncomputable abbrev Vals : List V → List Value → Prop := Paired RelV
theorem Vals.length {xs : List V} {us : List Value} (r : Vals xs us) : xs.length = us.length := Paired.length r
theorem Vals.get : ∀ {xs : List V} {us : List Value} {i : Nat} {x : V}, Vals xs us → xs[i]? = some x → ∃ u, us[i]? = some u ∧ RelV x u
  | _, _, _, _, .nil, e => by simp at e
  | _, _, 0, _, .cons r _, e => by simp at e; subst e; exact ⟨_, rfl, r⟩
  | _, _, i + 1, x, .cons _ t, e => by
    obtain ⟨u, h1, h2⟩ := Vals.get (i := i) (x := x) t (by simpa using e)
    exact ⟨u, by simpa using h1, h2⟩
theorem Vals.append : ∀ {xs ys : List V} {us ws : List Value}, Vals xs us → Vals ys ws → Vals (xs ++ ys) (us ++ ws)
  | _, _, _, _, .nil, s => s
  | _, _, _, _, .cons r t, s => .cons r (Vals.append t s)
theorem Vals.take : ∀ {xs : List V} {us : List Value} (n : Nat), Vals xs us → Vals (xs.take n) (us.take n)
  | _, _, 0, _ => .nil
  | _, _, _ + 1, .nil => .nil
  | _, _, n + 1, .cons r t => .cons r (Vals.take n t)
theorem Vals.drop : ∀ {xs : List V} {us : List Value} (n : Nat), Vals xs us → Vals (xs.drop n) (us.drop n)
  | _, _, 0, r => r
  | _, _, _ + 1, .nil => .nil
  | _, _, n + 1, .cons _ t => Vals.drop n t
noncomputable def RelO : Option V → Option Value → Prop
  | some v, some u => RelV v u
  | none, none => True
  | _, _ => False
noncomputable def KV {κ : Type} : List (κ × V) → List (κ × Value) → Prop := Paired fun (p : κ × V) (q : κ × Value) => p.1 = q.1 ∧ RelV p.2 q.2

noncomputable def kV : Key → V
  | .inl i => .int i
  | .inr x => .str x

inductive HO where
  /-- a list -/
  | lst (xs : List V)
  /-- a tuple (never changes) -/
  | tup (xs : List V)
  /-- a dict whose keys are ints and texts; one whose keys are tuples of ints and texts (the empty one is both) -/
  | dK (kvs : List (Key × V)) | dT (kvs : List (List Key × V))
  /-- a set of ints: its members, its size -/
  | set (S : Int → Bool) (n : Nat)
  /-- an instance of the class at C, its dict at dx, its attributes -/
  | ins (C dx : Addr) (fs : List (Str × V))
  /-- the dict of the instance at x -/
  | own (x : Addr)
  /-- the dict of an exception -/
  | xd (fs : List (Str × V))
  /-- a bound method, f of x -/
  | met (f x : Addr)
  /-- a range object lo, lo + 1, .. below hi -/
  | rng (lo hi : Int)
  /-- a thing that is known to the object (the script; a dict while a loop walks it): read, never written while it is so -/
  | frz (o : Obj) (u : HO)
  /-- a code object's table -/
  | tbl (ps : Array Value)
  /-- any other thing, by what is true of its one object (a def of one's own: SetO a S n := HO.ext fun h => ..) -/
  | ext (φ : Heap → Prop)

noncomputable abbrev Hp := Addr → Option HO
noncomputable def upd (H : Hp) (a : Addr) (o : HO) : Hp := fun b => if b = a then some o else H b
theorem upd_same {H : Hp} {a : Addr} {o : HO} : upd H a o a = some o := by unfold upd; rw [if_pos rfl]
theorem upd_ne {H : Hp} {a b : Addr} {o : HO} (h : b ≠ a) : upd H a o b = H b := by unfold upd; rw [if_neg h]
theorem ne_of {H : Hp} {a b : Addr} {o u : HO} (h : H a = some o) (h' : H b = some u) (d : o ≠ u) : a ≠ b := by
  intro e; subst e; rw [h] at h'; exact d (Option.some.inj h')
theorem ne_of_none {H : Hp} {a b : Addr} {o : HO} (h : H a = some o) (h' : H b = none) : a ≠ b := by
  intro e; subst e; rw [h] at h'; cases h'

section
variable (P : Program) (w : World)
noncomputable def ObjOk (H : Hp) (h : Heap) (a : Addr) : HO → Prop
  | .lst xs => xs.length ≤ sizeLine ∧ ∃ (its : List Value) (n : Nat), Vals xs its ∧ h.get? a = some { cls := .type "list", data := .seq its.toArray n }
  | .tup xs => xs.length ≤ sizeLine ∧ ∃ its : List Value, Vals xs its ∧ IsTup h a its.toArray
  | .dK kvs => kvs.length ≤ sizeLine ∧ (a == sysModules) = false ∧ ∃ vs, KV kvs vs ∧ h.DictOf (mixKind P w) a vs
  | .dT kvs => kvs.length ≤ sizeLine ∧ (a == sysModules) = false ∧ ∃ xs : List (List Key × Addr × Value),
      Paired (fun (p : List Key × V) (q : List Key × Addr × Value) => p.1 = q.1 ∧ H q.2.1 = some (.tup (p.1.map kV)) ∧ RelV p.2 q.2.2) kvs xs ∧
      ∃ o es ep, h.get? a = some o ∧ o.ExactDict ∧ o.data = .dict es ep ∧ es.toList = xs.map (entryOfKey (tupleKind (mixKind P w))) ∧ (xs.map (·.1)).Nodup
  | .set S n => h.SetOf (intKind P w) a S n
  | .ins C dx fs => H dx = some (.own a) ∧ fs.length ≤ 1000 ∧ dx ≠ a ∧ h.get? a = some (PySem.W.instObj C dx) ∧
      ∃ mA, h.Ns1 dx mA ∧ (∀ f, RelO (fs.lookup f) (mA f)) ∧ PySem.Within mA (fs.map (·.1))
  | .own _ => ∃ o, h.get? a = some o
  | .xd fs => ∃ mA, h.Ns1 a mA ∧ ∀ f, RelO (fs.lookup f) (mA f)
  | .rng lo hi => ∃ t u v, h.get? a = some { cls := .type "range", data := .fields #[.int lo t, .int hi u, .int 1 v] }
  | .frz o u => h.get? a = some o ∧ ObjOk H h a u
  | .tbl ps => h.get? a = some { cls := .none, data := .fields ps }
  | .met f x => h.get? a = some (PySem.W.methodObj (.ref f) (.ref x))
  | .ext φ => φ h ∧ (∃ o, h.get? a = some o) ∧ ∀ h1 h2 : Heap, φ h1 → (∀ o, h1.get? a = some o → h2.get? a = some o) → φ h2
noncomputable def HOk (H : Hp) (h : Heap) : Prop := ∀ a o, H a = some o → ObjOk P w H h a o
end

section
variable {P : Program} {w : World} {H H' : Hp} {h h' : Heap} {a : Addr} {o : HO}
theorem ObjOk.lt (x : ObjOk P w H h a o) : a < h.objs.size := by
  cases o with
  | lst xs => obtain ⟨_, _, _, _, e⟩ := x; exact Heap.lt_size e
  | tup xs => obtain ⟨_, _, _, p⟩ := x; exact p.lt
  | dK kvs => obtain ⟨_, _, _, _, o, _, _, e, _⟩ := x; exact Heap.lt_size e
  | dT kvs => obtain ⟨_, _, _, _, o, _, _, e, _⟩ := x; exact Heap.lt_size e
  | set S n => obtain ⟨o, _, _, _, e, _⟩ := x; exact Heap.lt_size e
  | ins C dx fs => obtain ⟨_, _, _, e, _⟩ := x; exact Heap.lt_size e
  | own y => obtain ⟨_, e⟩ := x; exact Heap.lt_size e
  | xd fs => obtain ⟨_, ⟨_, _, _, e, _⟩, _⟩ := x; exact Heap.lt_size e
  | rng lo hi => obtain ⟨_, _, _, e⟩ := x; exact Heap.lt_size e
  | frz ob u => obtain ⟨e, _⟩ := x; exact Heap.lt_size e
  | tbl ps => exact Heap.lt_size (show h.get? a = some _ from x)
  | met f y => exact Heap.lt_size (show h.get? a = some _ from x)
  | ext φ => obtain ⟨_, ⟨_, e⟩, _⟩ := x; exact Heap.lt_size e
theorem Paired.mapP {α β : Type} {F G : α → β → Prop} : ∀ {l₁ : List α} {l₂ : List β}, Paired F l₁ l₂ → (∀ a b, F a b → G a b) → Paired G l₁ l₂
  | _, _, .nil, _ => .nil
  | _, _, .cons r t, f => .cons (f _ _ r) (Paired.mapP t f)
theorem ObjOk.stay (x : ObjOk P w H h a o) (k : ∀ b u, (b = a ∨ H b = some (.own a)) → h.get? b = some u → h'.get? b = some u)
    (ho : ∀ b, H b = some (.own a) → H' b = some (.own a)) (ht : ∀ b xs, H b = some (.tup xs) → H' b = some (.tup xs)) : ObjOk P w H' h' a o := by
  induction o with
  | lst xs => obtain ⟨z, its, n, r, e⟩ := x; exact ⟨z, its, n, r, k _ _ (.inl rfl) e⟩
  | tup xs => obtain ⟨z, its, r, ob, e, c⟩ := x; exact ⟨z, its, r, ob, k _ _ (.inl rfl) e, c⟩
  | dK kvs => obtain ⟨z, y, vs, r, ob, es, ep, e, c⟩ := x; exact ⟨z, y, vs, r, ob, es, ep, k _ _ (.inl rfl) e, c⟩
  | dT kvs =>
    obtain ⟨z, y, xs, r, ob, es, ep, e, c⟩ := x
    exact ⟨z, y, xs, Paired.mapP r fun p q z => ⟨z.1, ht _ _ z.2.1, z.2.2⟩, ob, es, ep, k _ _ (.inl rfl) e, c⟩
  | set S n => obtain ⟨ob, es, ep, t, e, c⟩ := x; exact ⟨ob, es, ep, t, k _ _ (.inl rfl) e, c⟩
  | ins C dx fs =>
    obtain ⟨d, z, ne, e, mA, ⟨od, es, ep, e2, c⟩, r⟩ := x
    exact ⟨ho _ d, z, ne, k _ _ (.inl rfl) e, mA, ⟨od, es, ep, k _ _ (.inr d) e2, c⟩, r⟩
  | own y => obtain ⟨ob, e⟩ := x; exact ⟨ob, k _ _ (.inl rfl) e⟩
  | xd fs => obtain ⟨mA, ⟨od, es, ep, e, c⟩, r⟩ := x; exact ⟨mA, ⟨od, es, ep, k _ _ (.inl rfl) e, c⟩, r⟩
  | rng lo hi => obtain ⟨t, u, v, e⟩ := x; exact ⟨t, u, v, k _ _ (.inl rfl) e⟩
  | frz ob u ih => obtain ⟨e, q⟩ := x; exact ⟨k _ _ (.inl rfl) e, ih q⟩
  | tbl ps =>
    have e : h.get? a = some { cls := .none, data := .fields ps } := x
    show h'.get? a = some { cls := .none, data := .fields ps }
    exact k a _ (.inl rfl) e
  | met f y =>
    have e : h.get? a = some (PySem.W.methodObj (.ref f) (.ref y)) := x
    show h'.get? a = some (PySem.W.methodObj (.ref f) (.ref y))
    exact k a _ (.inl rfl) e
  | ext φ => obtain ⟨p, ⟨o, e⟩, st⟩ := x; exact ⟨st _ _ p fun o q => k _ _ (.inl rfl) q, ⟨o, k _ _ (.inl rfl) e⟩, st⟩
theorem HOk.lt (x : HOk P w H h) (e : H a = some o) : a < h.objs.size := (x a o e).lt
theorem HOk.fresh (x : HOk P w H h) (e : h.objs.size ≤ a) : H a = none := by
  cases q : H a with
  | none => rfl
  | some u => exact absurd (Nat.lt_of_lt_of_le (x.lt q) e) (Nat.lt_irrefl _)
theorem HOk.kept (x : HOk P w H h) (k : ∀ b u, h.get? b = some u → h'.get? b = some u) : HOk P w H h' := fun a o e =>
  (x a o e).stay (fun b u _ q => k b u q) (fun _ q => q) fun _ _ q => q
theorem HOk.laid (x : HOk P w H h) (k : ∀ b u, h.get? b = some u → h'.get? b = some u) (hp : h.objs.size ≤ a) (new : ObjOk P w (upd H a o) h' a o) : HOk P w (upd H a o) h' := fun b u e => by
  have hn := x.fresh hp
  by_cases hb : b = a
  · subst hb; rw [upd_same] at e; cases e; exact new
  · rw [upd_ne hb] at e
    exact (x b u e).stay (fun c v _ q => k c v q) (fun c q => by rw [upd_ne (ne_of_none q hn)]; exact q) fun c xs q => by rw [upd_ne (ne_of_none q hn)]; exact q
end

noncomputable def Rd (H : Hp) (a : Addr) (u : HO) : Prop := H a = some u ∨ ∃ o, H a = some (.frz o u)
theorem Rd.ok {P : Program} {w : World} {H : Hp} {h : Heap} {a : Addr} {u : HO} (r : Rd H a u) (x : HOk P w H h) : ObjOk P w H h a u := by
  rcases r with r | ⟨o, r⟩
  · exact x a u r
  · obtain ⟨_, q⟩ := x a _ r
    exact q
noncomputable def Mut : Option HO → Prop
  | some (.lst _) => True
  | some (.dK _) => True
  | some (.dT _) => True
  | some (.set _ _) => True
  | some (.ins _ _ _) => True
  | some (.ext _) => True
  | _ => False
section
variable {P : Program} {w : World} {H : Hp} {h h' : Heap} {x e : Addr} {o' : HO}
theorem HOk.write (ok : HOk P w H h) (mu : Mut (H x)) (he : e = x ∨ H e = some (.own x)) (k : ∀ b u, b ≠ e → h.get? b = some u → h'.get? b = some u) (heo : ∃ u, h'.get? e = some u)
    (new : ObjOk P w (upd H x o') h' x o') : HOk P w (upd H x o') h' := fun b u q => by
  have nown : ∀ c y, H c = some (.own y) → c ≠ x := fun c y r z => by subst z; rw [r] at mu; exact mu
  have ntup : ∀ c xs, H c = some (.tup xs) → c ≠ x := fun c xs r z => by subst z; rw [r] at mu; exact mu
  by_cases hb : b = x
  · subst hb; rw [upd_same] at q; cases q; exact new
  · rw [upd_ne hb] at q
    by_cases hbe : b = e
    · have q' : H b = some (.own x) := by
        rcases he with z | z
        · exact absurd (hbe.trans z) hb
        · rw [hbe]; exact z
      rw [q] at q'; cases q'
      obtain ⟨v, hv⟩ := heo
      exact ⟨v, by rw [hbe]; exact hv⟩
    · refine (ok b u q).stay (fun c v hc r => k c v ?_ r) (fun c r => by rw [upd_ne (nown c b r)]; exact r) fun c xs r => by rw [upd_ne (ntup c xs r)]; exact r
      rcases hc with rfl | hc
      · exact hbe
      · rintro rfl
        rcases he with z | z
        · exact nown c b hc z
        · rw [hc] at z; cases z; exact hb rfl
end

structure Un (fs ex : List Addr) (H H' : Hp) (h h' : Heap) : Prop where
  keep : ∀ b o, h.get? b = some o → H b = none → b ∉ fs → b ∉ ex → h'.get? b = some o
  slot : ∀ b o, h.get? b = some o → H b = none → b ∈ fs → b ∉ ex → ∃ sl, h'.get? b = some { o with slots := sl }
  free : ∀ b o, h.get? b = some o → H b = none → b ∉ ex → H' b = none
  there : ∀ b o, h.get? b = some o → b ∉ ex → ∃ o', h'.get? b = some o'
  tups : ∀ b xs, H b = some (.tup xs) → H' b = some (.tup xs)
  frzs : ∀ b o u, H b = some (.frz o u) → H' b = some (.frz o u)
  tbls : ∀ b ps, H b = some (.tbl ps) → ∃ more, H' b = some (.tbl (ps ++ more))
section
variable {fs fs' ex ex' : List Addr} {H H1 H2 : Hp} {h h1 h2 h' : Heap} {a x e : Addr} {o : HO}
theorem Un.any (u : Un fs ex H H1 h h1) {b : Addr} {ob : Obj} (q : h.get? b = some ob) (n : H b = none) (hx : b ∉ ex) : ∃ sl, h1.get? b = some { ob with slots := sl } := by
  by_cases hb : b ∈ fs
  · exact u.slot b ob q n hb hx
  · exact ⟨ob.slots, u.keep b ob q n hb hx⟩
theorem Un.kept (k : ∀ b u, h.get? b = some u → h'.get? b = some u) : Un fs ex H H h h' :=
  ⟨fun b ob q _ _ _ => k b ob q, fun b ob q _ _ _ => ⟨ob.slots, k b ob q⟩, fun _ _ _ n _ => n, fun b ob q _ => ⟨ob, k b ob q⟩, fun _ _ q => q, fun _ _ _ q => q, fun _ ps q => ⟨#[], by rw [q]; simp⟩⟩
theorem Un.refl : Un fs ex H H h h := Un.kept fun _ _ q => q
theorem Un.laid (k : ∀ b u, h.get? b = some u → h'.get? b = some u) (hp : h.objs.size ≤ a) (hn : H a = none) : Un fs ex H (upd H a o) h h' where
  keep := fun b u q _ _ _ => k b u q
  slot := fun b u q _ _ _ => ⟨u.slots, k b u q⟩
  free := fun b u q n _ => by rw [upd_ne (Nat.ne_of_lt (Nat.lt_of_lt_of_le (Heap.lt_size q) hp))]; exact n
  there := fun b u q _ => ⟨u, k b u q⟩
  tups := fun b xs q => by rw [upd_ne (ne_of_none q hn)]; exact q
  frzs := fun b u xs q => by rw [upd_ne (ne_of_none q hn)]; exact q
  tbls := fun b ps q => ⟨#[], by rw [upd_ne (ne_of_none q hn), q]; simp⟩
theorem Un.write (mu : Mut (H x)) (he : e = x ∨ H e = some (.own x)) (k : ∀ b u, b ≠ e → h.get? b = some u → h'.get? b = some u) (heo : ∃ u, h'.get? e = some u) : Un fs ex H (upd H x o) h h' := by
  have hx : ∀ b, H b = none → b ≠ x := fun b n z => by subst z; rw [n] at mu; exact mu
  have hb : ∀ b, H b = none → b ≠ e := fun b n z => by
    subst z
    rcases he with r | r
    · exact hx b n r
    · rw [n] at r; cases r
  have hm : ∀ b u, H b = some u → ¬ Mut (some u) → b ≠ x := fun b u q nm z => by subst z; rw [q] at mu; exact nm mu
  refine ⟨fun b u q n _ _ => k b u (hb b n) q, fun b u q n _ _ => ⟨u.slots, k b u (hb b n) q⟩, fun b u q n _ => by rw [upd_ne (hx b n)]; exact n, fun b u q _ => ?_,
    fun b xs q => by rw [upd_ne (hm b _ q fun z => z)]; exact q, fun b u xs q => by rw [upd_ne (hm b _ q fun z => z)]; exact q, fun b ps q => ⟨#[], by rw [upd_ne (hm b _ q fun z => z), q]; simp⟩⟩
  by_cases hbe : b = e
  · subst hbe; exact heo
  · exact ⟨u, k b u hbe q⟩
end

noncomputable def trk (h : Heap) (H : Hp) : List Addr := (List.range h.objs.size).filter fun a => (H a).isSome
noncomputable def hidT (h : Heap) (H : Hp) : Heap := PySem.W.hideAll h (trk h H)
theorem hidT_size (h : Heap) (H : Hp) : (hidT h H).objs.size = h.objs.size := PySem.W.hideAll_size _ _
theorem hidT_get {h : Heap} {H : Hp} {b : Addr} {o : Obj} (e : h.get? b = some o) (n : H b = none) : (hidT h H).get? b = some o :=
  PySem.W.hideAll_get _ e fun hm => by
    have q : (H b).isSome = true := (List.mem_filter.mp hm).2
    rw [n] at q; simp at q
theorem of_hidT {h : Heap} {H : Hp} {b : Addr} {o : Obj} (e : (hidT h H).get? b = some o) : h.get? b = some o ∧ H b = none := by
  have e' : h.get? b = some o := PySem.W.of_hideAll (trk h H) e
  refine ⟨e', ?_⟩
  cases q : H b with
  | none => rfl
  | some x =>
    have hm : b ∈ trk h H := List.mem_filter.mpr ⟨List.mem_range.mpr (Heap.lt_size e'), by simp [q]⟩
    have z : (hidT h H).get? b = none := PySem.W.hideAll_none (trk h H) hm
    rw [z] at e; cases e

noncomputable def allNews (g h : Heap) (L : Addr) : List (Addr × Obj) := (List.range h.objs.size).filterMap fun a => if a = L ∨ (g.get? a).isSome = true then none else (h.get? a).map fun o => (a, o)
noncomputable def rest (g h : Heap) (L d : Addr) : List (Addr × Obj) := (allNews g h L).filter fun p => decide (p.1 ≠ d)
end L2

namespace L2
open PySem PySem.Spec PyProof.Rows

structure Mod (K : PySem.W.Frag) (mg : Str → Option Value) (base : Heap) : Prop where
  kin : K.In base
  glob : base.Ns mainGlobals mg
  blt : ∃ mb, base.Ns builtinsNs mb ∧ ∀ x : Str, x ≠ "__name__" → mb x = bootBuiltins x
  nolimit : base.NoLimit

structure Cx where
  prog : Program
  w : World
  K : PySem.W.Frag
  mg : Str → Option Value
  base : Heap
  A : Around
  N : List Str
  s₀ : Shared
  H₀ : Hp
  env : Env
  outer : List Env
  stack : List Env
  ex : List Addr
  fn : Str → Bool
  calm : Bool
  pn : List (Addr × Obj)
  xe : Value → Shared → Prop
noncomputable def frs (l : List Env) : List Addr := l.filterMap (·.frame)
noncomputable abbrev Cx.fs (X : Cx) : List Addr := frs X.outer

noncomputable def Vis (sc : Scope) (x : Str) : Prop := sc.names.lookup x = some .local ∨ sc.names.lookup x = some .cell ∨ sc.names.lookup x = some .free
noncomputable def Loc (sc : Scope) (x : Str) : Prop := sc.names.lookup x = some .local ∨ sc.names.lookup x = some .cell
noncomputable def Look (env : Env) (h : Heap) (m : Str → Option Value) (x : Str) (u : Value) : Prop :=
  (env.kindOf x = some .local ∧ m x = some u) ∨ ((env.kindOf x = some .cell ∨ env.kindOf x = some .free) ∧ ∃ c, env.cells.lookup x = some c ∧ h.IsCell c (some u))

structure Cx.Ok (X : Cx) : Prop where
  mod : Mod X.K X.mg X.base
  kind : X.env.scope.kind = .function
  glob : X.env.globals = mainGlobals
  blt : X.env.builtins = builtinsNs
  above : X.s₀.heap.objs.size ≤ X.env.locals
  inj : ∀ x y c, X.env.cells.lookup x = some c → X.env.cells.lookup y = some c → x = y
  has : ∀ x, (X.env.kindOf x = some .cell ∨ X.env.kindOf x = some .free) → ∃ c, X.env.cells.lookup x = some c
  cab : ∀ x c, X.fn x = true → X.env.cells.lookup x = some c → X.s₀.heap.objs.size ≤ c
  hd : X.calm = true → X.A.handled = none
  frames : X.A.frames = some X.stack
  stk : X.stack = X.outer ∨ (X.stack = X.env :: X.outer ∧ X.env.frame = some X.env.locals)
  exf : ∀ b ∈ X.ex, b ≠ X.env.locals ∧ ∀ x c, X.env.cells.lookup x = some c → c ≠ b
  bs : ∀ b o, X.base.get? b = some o → X.s₀.heap.get? b = some o ∧ X.H₀ b = none
  bsz : X.base.objs.size ≤ X.s₀.heap.objs.size
  noex : ∀ b o, X.base.get? b = some o → b ∉ X.ex
  exfs : ∀ b ∈ X.ex, b ∉ X.fs
  funs : X.s₀.heap.FunFrames X.base X.outer
  frf : ∀ b ∈ X.fs, X.H₀ b = none

structure Inv (X : Cx) (pins : List (Addr × Obj)) (σ : List (Option V)) (H : Hp) (s : Shared) : Prop where
  ok : X.Ok
  os : s.os = X.s₀.os
  bare : AllBare s.gens
  base : Un X.fs X.ex X.H₀ H X.s₀.heap s.heap
  loc : ∃ m, s.heap.Ns X.env.locals m ∧ ∀ (i : Nat) (x : Str) (v : V), X.N[i]? = some x → σ[i]? = some (some v) → Vis X.env.scope x → ∃ u, RelV v u ∧ Look X.env s.heap m x u
  cell : ∀ x c, X.env.cells.lookup x = some c → ∃ v, s.heap.IsCell c v
  free : H X.env.locals = none
  freeC : ∀ x c, X.env.cells.lookup x = some c → H c = none
  pin : ∀ p ∈ X.pn ++ pins, s.heap.get? p.1 = some p.2 ∧ H p.1 = none ∧ p.1 ≠ X.env.locals ∧ p.1 ∉ X.fs ∧ ∀ v, p.2.data ≠ .cell v
  hok : HOk X.prog X.w H s.heap
  len : σ.length = X.N.length

section
variable {X : Cx} {pins : List (Addr × Obj)} {σ : List (Option V)} {H H' : Hp} {s : Shared} {h' : Heap}

theorem Cx.Ok.nofr (ok : X.Ok) {b : Addr} {o : Obj} (e : X.base.get? b = some o) : b ∉ X.fs := fun hb => by
  have := (ok.funs.mem hb).1
  rw [e] at this; cases this
theorem Inv.bs (I : Inv X pins σ H s) : ∀ b o, X.base.get? b = some o → s.heap.get? b = some o ∧ H b = none := fun b o e =>
  ⟨I.base.keep b o (I.ok.bs b o e).1 (I.ok.bs b o e).2 (I.ok.nofr e) (I.ok.noex b o e), I.base.free b o (I.ok.bs b o e).1 (I.ok.bs b o e).2 (I.ok.noex b o e)⟩
theorem Inv.bk (I : Inv X pins σ H s) : ∀ b o, X.base.get? b = some o → s.heap.get? b = some o := fun b o e => (I.bs b o e).1
theorem Inv.mod (I : Inv X pins σ H s) : Mod X.K X.mg X.base := I.ok.mod
theorem Inv.kIn (I : Inv X pins σ H s) : X.K.In s.heap := I.ok.mod.kin.keeps I.bk
theorem Inv.fr (I : Inv X pins σ H s) : ∃ m, Fr X.base X.env.locals s.heap m :=
  let ⟨m, hn, _⟩ := I.loc
  ⟨m, hn, I.bk, Nat.le_trans I.ok.bsz I.ok.above⟩
theorem Inv.lt (I : Inv X pins σ H s) : X.env.locals < s.heap.objs.size := let ⟨_, hn, _⟩ := I.loc; hn.lt
theorem Inv.sz (I : Inv X pins σ H s) : X.s₀.heap.objs.size ≤ s.heap.objs.size := Nat.le_trans I.ok.above (Nat.le_of_lt I.lt)
theorem Inv.nofs (I : Inv X pins σ H s) {a : Addr} (h : s.heap.objs.size ≤ a) : a ∉ X.fs := fun hb => by
  obtain ⟨_, o, ho, _⟩ := I.ok.funs.mem hb
  exact absurd (Nat.lt_of_lt_of_le (Heap.lt_size ho) (Nat.le_trans I.sz h)) (Nat.lt_irrefl _)
theorem Inv.cne (I : Inv X pins σ H s) : ∀ x c, X.env.cells.lookup x = some c → c ≠ X.env.locals := fun x c e z => by
  obtain ⟨v, o, ho, hd⟩ := I.cell x c e
  obtain ⟨m, ⟨o', es, ep, ho', hd', _⟩, _⟩ := I.loc
  rw [z, ho'] at ho; cases ho; rw [hd'] at hd; cases hd
theorem Inv.funs (I : Inv X pins σ H s) : s.heap.FunFrames X.base X.outer := by
  have all : ∀ (l : List Env), (∀ b ∈ frs l, b ∈ X.fs) → X.s₀.heap.FunFrames X.base l → s.heap.FunFrames X.base l := by
    intro l
    induction l with
    | nil => intro _ _; trivial
    | cons env r ih =>
      intro hs hl
      obtain ⟨hk, ⟨L, o, hf, hn, ho, hd⟩, hr⟩ := hl
      have hL : L ∈ X.fs := hs L (by unfold frs; rw [List.filterMap_cons, hf]; exact List.mem_cons_self)
      obtain ⟨sl, e⟩ := I.base.slot L o ho (I.ok.frf L hL) hL fun z => I.ok.exfs L z hL
      exact ⟨hk, ⟨L, _, hf, hn, e, hd⟩, ih (fun b hb => hs b (by unfold frs; rw [List.filterMap_cons, hf]; exact List.mem_cons_of_mem _ hb)) hr⟩
  exact all X.outer (fun _ hb => hb) I.ok.funs

theorem Inv.stack (I : Inv X pins σ H s) : s.heap.FunFrames X.base X.stack := by
  rcases I.ok.stk with e | ⟨e, hf⟩
  · rw [e]; exact I.funs
  · rw [e]
    obtain ⟨m, hn, _⟩ := I.loc
    refine .cons (by rw [I.ok.kind]; decide) hf hn ?_ I.funs
    exact Heap.get?_none_of_le (Nat.le_trans I.ok.bsz I.ok.above)
theorem Inv.stkSub (I : Inv X pins σ H s) : ∀ b ∈ frs X.stack, b ∈ X.env.locals :: X.fs := fun b hb => by
  rcases I.ok.stk with e | ⟨e, hf⟩
  · rw [e] at hb; exact List.mem_cons_of_mem _ hb
  · rw [e] at hb
    unfold frs at hb
    rw [List.filterMap_cons, hf] at hb
    exact hb
theorem Inv.stkFree (I : Inv X pins σ H s) : ∀ b ∈ frs X.stack, H b = none := fun b hb => by
  rcases List.mem_cons.mp (I.stkSub b hb) with e | hb
  · rw [e]; exact I.free
  · obtain ⟨_, o, ho, _⟩ := I.ok.funs.mem hb
    exact I.base.free b o ho (I.ok.frf b hb) fun z => I.ok.exfs b z hb

theorem Inv.step {g' : Array GenState} {t' : Nat} {d' : Drawn} {ch : List Addr} (I : Inv X pins σ H s)
    (hch : ∀ b ∈ ch, (b ∈ X.ex ∨ X.s₀.heap.objs.size ≤ b) ∧ b ≠ X.env.locals ∧ (∀ x c, X.env.cells.lookup x = some c → c ≠ b) ∧ ∀ p ∈ X.pn ++ pins, p.1 ≠ b)
    (keep : ∀ b o, b ≠ X.env.locals → b ∉ X.fs → b ∉ ch → s.heap.get? b = some o → H b = none → h'.get? b = some o)
    (slot : ∀ b o, b ≠ X.env.locals → b ∈ X.fs → b ∉ ch → s.heap.get? b = some o → H b = none → ∃ sl, h'.get? b = some { o with slots := sl }) (free : ∀ b o, b ∉ ch → s.heap.get? b = some o → H b = none → H' b = none)
    (there : ∀ b o, b ∉ ch → s.heap.get? b = some o → ∃ o', h'.get? b = some o')
    (tups : ∀ b xs, H b = some (.tup xs) → H' b = some (.tup xs)) (frzs : ∀ b o u, H b = some (.frz o u) → H' b = some (.frz o u)) (tbls : ∀ b ps, H b = some (.tbl ps) → ∃ more, H' b = some (.tbl (ps ++ more)))
    (ns : ∀ m, s.heap.Ns X.env.locals m → h'.Ns X.env.locals m) (hok : HOk X.prog X.w H' h') (hg : AllBare g') :
    Inv X pins σ H' { s with heap := h', gens := g', drawn := d', toks := t' } := by
  have neL : ∀ b o, X.s₀.heap.get? b = some o → b ≠ X.env.locals := fun b o e => Nat.ne_of_lt (Nat.lt_of_lt_of_le (Heap.lt_size e) I.ok.above)
  have neC : ∀ b o, X.s₀.heap.get? b = some o → b ∉ X.ex → b ∉ ch := fun b o e hx hb => by
    rcases (hch b hb).1 with z | z
    · exact hx z
    · exact absurd (Nat.lt_of_lt_of_le (Heap.lt_size e) z) (Nat.lt_irrefl _)
  have cellK : ∀ x c, X.env.cells.lookup x = some c → ∀ v, s.heap.IsCell c v → h'.IsCell c v := fun x c e v ⟨o, ho, hd⟩ => by
    have nch : c ∉ ch := fun z => (hch c z).2.2.1 x c e rfl
    by_cases hc : c ∈ X.fs
    · obtain ⟨sl, q⟩ := slot c o (I.cne x c e) hc nch ho (I.freeC x c e)
      exact ⟨_, q, hd⟩
    · exact ⟨o, keep c o (I.cne x c e) hc nch ho (I.freeC x c e), hd⟩
  refine ⟨I.ok, I.os, hg, ⟨fun b o e n hb hx => ?_, fun b o e n hb hx => ?_, fun b o e n hx => ?_, fun b o e hx => ?_, fun b xs e => tups b xs (I.base.tups b xs e), fun b o xs e => frzs b o xs (I.base.frzs b o xs e), fun b ps e => ?_⟩, ?_, fun x c e => ?_, ?_, fun x c e => ?_, fun p hp => ?_, hok, I.len⟩
  · exact keep b o (neL b o e) hb (neC b o e hx) (I.base.keep b o e n hb hx) (I.base.free b o e n hx)
  · obtain ⟨sl, e1⟩ := I.base.slot b o e n hb hx
    obtain ⟨sl', e2⟩ := slot b _ (neL b o e) hb (neC b o e hx) e1 (I.base.free b o e n hx)
    exact ⟨sl', e2⟩
  · obtain ⟨o', e1⟩ := I.base.there b o e hx
    exact free b o' (neC b o e hx) e1 (I.base.free b o e n hx)
  · obtain ⟨o', e1⟩ := I.base.there b o e hx
    exact there b o' (neC b o e hx) e1
  · obtain ⟨m1, e1⟩ := I.base.tbls b ps e
    obtain ⟨m2, e2⟩ := tbls b _ e1
    exact ⟨m1 ++ m2, by rw [e2, Array.append_assoc]⟩
  · obtain ⟨m, hn, hl⟩ := I.loc
    refine ⟨m, ns m hn, fun i x v e1 e2 e3 => ?_⟩
    obtain ⟨u, r, l⟩ := hl i x v e1 e2 e3
    refine ⟨u, r, ?_⟩
    rcases l with l | ⟨k, c, e, z⟩
    · exact .inl l
    · exact .inr ⟨k, c, e, cellK x c e _ z⟩
  · obtain ⟨v, z⟩ := I.cell x c e
    exact ⟨v, cellK x c e v z⟩
  · obtain ⟨m, ⟨o, _, _, ho, _⟩, _⟩ := I.loc
    exact free _ o (fun z => (hch _ z).2.1 rfl) ho I.free
  · obtain ⟨v, o, ho, hd⟩ := I.cell x c e
    exact free c o (fun z => (hch c z).2.2.1 x c e rfl) ho (I.freeC x c e)
  · obtain ⟨e, n, ne, nf, d⟩ := I.pin p hp
    have nch : p.1 ∉ ch := fun z => (hch p.1 z).2.2.2 p hp rfl
    exact ⟨keep p.1 p.2 ne nf nch e n, free p.1 p.2 nch e n, ne, nf, d⟩
theorem Inv.un {t' : Nat} (I : Inv X pins σ H s) (u : Un X.fs [] H H' s.heap h') (hok : HOk X.prog X.w H' h') : Inv X pins σ H' { s with heap := h', toks := t' } := by
  obtain ⟨m, ⟨o, es, ep, ho, r⟩, _⟩ := id I.loc
  obtain ⟨sl, hL⟩ := u.any ho I.free (by simp)
  exact I.step (g' := s.gens) (d' := s.drawn) (ch := []) (fun _ z => nomatch z) (fun b o _ hb _ e n => u.keep b o e n hb (by simp)) (fun b o _ hb _ e n => u.slot b o e n hb (by simp)) (fun b o _ e n => u.free b o e n (by simp)) (fun b o _ e => u.there b o e (by simp)) u.tups u.frzs u.tbls (fun m' hm => by
    obtain ⟨o', es', ep', ho', r'⟩ := hm
    rw [ho] at ho'; cases ho'
    exact ⟨_, es', ep', hL, r'⟩) hok I.bare
theorem Inv.call {g' : Array GenState} {t' : Nat} {d' : Drawn} {ch : List Addr} (I : Inv X pins σ H s) (u : Un (frs X.stack) ch H H' s.heap h') (hok : HOk X.prog X.w H' h') (hg : AllBare g')
    (hch : ∀ b ∈ ch, (b ∈ X.ex ∨ X.s₀.heap.objs.size ≤ b) ∧ b ≠ X.env.locals ∧ (∀ x c, X.env.cells.lookup x = some c → c ≠ b) ∧ ∀ p ∈ X.pn ++ pins, p.1 ≠ b) :
    Inv X pins σ H' { s with heap := h', gens := g', drawn := d', toks := t' } := by
  obtain ⟨m, ⟨o, es, ep, ho, r⟩, _⟩ := id I.loc
  obtain ⟨sl, hL⟩ := u.any ho I.free fun z => (hch _ z).2.1 rfl
  exact I.step (ch := ch) hch (fun b o hL hb hc e n => u.keep b o e n (fun z => (List.mem_cons.mp (I.stkSub b z)).elim hL hb) hc) (fun b o _ _ hc e n => u.any e n hc) (fun b o hc e n => u.free b o e n hc) (fun b o hc e => u.there b o e hc) u.tups u.frzs u.tbls (fun m' hm => by
    obtain ⟨o', es', ep', ho', r'⟩ := hm
    rw [ho] at ho'; cases ho'
    exact ⟨_, es', ep', hL, r'⟩) hok hg
theorem Inv.turned {t' : Nat} {it : Addr} (I : Inv X pins σ H s) (k : ∀ b o, b ≠ it → s.heap.get? b = some o → h'.get? b = some o) (hn : H it = none) (hL : it ≠ X.env.locals)
    (h1 : it ∈ X.ex ∨ X.s₀.heap.objs.size ≤ it) (h2 : ∀ x c, X.env.cells.lookup x = some c → c ≠ it) (h3 : ∀ p ∈ X.pn ++ pins, p.1 ≠ it) : Inv X pins σ H { s with heap := h', toks := t' } := by
  have nit : ∀ b u, H b = some u → b ≠ it := fun b u e z => by rw [z, hn] at e; cases e
  refine I.step (g' := s.gens) (d' := s.drawn) (ch := [it]) (fun b hb => ?_) (fun b o _ _ hc e _ => k b o (fun z => hc (by simp [z])) e) (fun b o _ _ hc e _ => ⟨o.slots, k b o (fun z => hc (by simp [z])) e⟩) (fun _ _ _ _ n => n)
    (fun b o hc e => ⟨o, k b o (fun z => hc (by simp [z])) e⟩) (fun _ _ e => e) (fun _ _ _ e => e) (fun b ps e => ⟨#[], by rw [e]; simp⟩) (fun m hm => ?_) (fun b u e => ?_) I.bare
  · have e : b = it := by simpa using hb
    subst e
    exact ⟨h1, hL, h2, h3⟩
  · obtain ⟨o, es, ep, ho, r⟩ := hm
    exact ⟨o, es, ep, k _ o (Ne.symm hL) ho, r⟩
  · refine (I.hok b u e).stay (fun c v hc q => k c v ?_ q) (fun _ q => q) fun _ _ q => q
    rcases hc with z | z
    · rw [z]; exact nit b u e
    · exact nit c _ z
theorem Inv.tok (I : Inv X pins σ H s) (t : Nat) : Inv X pins σ H { s with toks := t } := I.un (h' := s.heap) (t' := t) Un.refl I.hok
theorem Inv.kept {t' : Nat} (I : Inv X pins σ H s) (k : ∀ b u, s.heap.get? b = some u → h'.get? b = some u) : Inv X pins σ H { s with heap := h', toks := t' } := I.un (Un.kept k) (I.hok.kept k)
theorem Inv.laid {a : Addr} {o : HO} {t' : Nat} (I : Inv X pins σ H s) (k : ∀ b u, s.heap.get? b = some u → h'.get? b = some u) (hp : s.heap.objs.size ≤ a) (new : ObjOk X.prog X.w (upd H a o) h' a o) :
    Inv X pins σ (upd H a o) { s with heap := h', toks := t' } := I.un (Un.laid k hp (I.hok.fresh hp)) (I.hok.laid k hp new)
theorem Inv.write {x e : Addr} {o : HO} {t' : Nat} (I : Inv X pins σ H s) (mu : Mut (H x)) (he : e = x ∨ H e = some (.own x)) (k : ∀ b u, b ≠ e → s.heap.get? b = some u → h'.get? b = some u) (heo : ∃ u, h'.get? e = some u)
    (new : ObjOk X.prog X.w (upd H x o) h' x o) : Inv X pins σ (upd H x o) { s with heap := h', toks := t' } := I.un (Un.write mu he k heo) (I.hok.write mu he k heo new)
theorem Inv.weak {σ' : List (Option V)} (I : Inv X pins σ H s) (hl : σ'.length = σ.length) (w : ∀ (i : Nat) v, σ'[i]? = some (some v) → σ[i]? = some (some v)) : Inv X pins σ' H s :=
  ⟨I.ok, I.os, I.bare, I.base, let ⟨m, hn, hl'⟩ := I.loc; ⟨m, hn, fun i x v e1 e2 e3 => hl' i x v e1 (w i v e2) e3⟩, I.cell, I.free, I.freeC, I.pin, I.hok, hl.trans I.len⟩
theorem Inv.pins_of {pins' : List (Addr × Obj)} (I : Inv X pins σ H s) (h : ∀ p ∈ pins', s.heap.get? p.1 = some p.2 ∧ H p.1 = none ∧ p.1 ≠ X.env.locals ∧ p.1 ∉ X.fs ∧ ∀ v, p.2.data ≠ .cell v) : Inv X pins' σ H s :=
  ⟨I.ok, I.os, I.bare, I.base, I.loc, I.cell, I.free, I.freeC, fun p hp => (List.mem_append.mp hp).elim (fun z => I.pin p (List.mem_append_left _ z)) (h p), I.hok, I.len⟩

theorem nodup_ix {N : List Str} (hN : N.Nodup) {i j : Nat} {x : Str} (a : N[i]? = some x) (b : N[j]? = some x) : i = j := by
  obtain ⟨h1, e1⟩ := List.getElem?_eq_some_iff.mp a
  obtain ⟨h2, e2⟩ := List.getElem?_eq_some_iff.mp b
  exact (List.getElem_inj hN).mp (e1.trans e2.symm)

theorem store_ok2 {M : Model} {A : Around} {E : Value → Shared → Prop} {i : Nat} {x : Str} {v : V} {u : Value} {Q : Unit → Shared → Prop} (I : Inv X pins σ H s) (hN : X.N.Nodup) (hi : X.N[i]? = some x) (hx : Loc X.env.scope x) (r : RelV v u)
    (h : ∀ s', Inv X pins (σ.set i (some v)) H s' → (∃ a, Heap.SameBut a s.heap s'.heap ∧ (a = X.env.locals ∨ X.env.cells.lookup x = some a)) → Q () s') (hf : X.fn x = true ∨ X.env.scope.names.lookup x = some .local := by first | exact .inl rfl | exact .inr rfl | assumption) : wpAny M A (storeName X.env x u) Q E s := by
  obtain ⟨m, hn, hl⟩ := id I.loc
  have hcls : (X.env.scope.kind == .class || (X.env.scope.kind == .module && X.env.locals != X.env.globals)) = false := by rw [I.ok.kind]; rfl
  have hiσ : i < σ.length := by rw [I.len]; exact (List.getElem?_eq_some_iff.mp hi).1
  have cne := I.cne
  have tracked : ∀ {a : Addr} {h' : Heap}, (∃ o, s.heap.get? a = some o ∧ H a = none) → Heap.SameBut a s.heap h' → HOk X.prog X.w H h' := fun {a h'} ha hs b ob e => by
    obtain ⟨_, _, hfree⟩ := ha
    refine (I.hok b ob e).stay (fun c w' hc q => (hs.2 c ?_).trans q) (fun _ q => q) fun _ _ q => q
    rintro rfl
    rcases hc with rfl | hc
    · rw [hfree] at e; cases e
    · rw [hfree] at hc; cases hc
  rcases hx with hk | hk
  · refine wpAny_storeName_local hk hn (fun h' hn' hs => ?_) hcls
    obtain ⟨oL, _, _, hoL, _⟩ := id hn
    refine h _ ⟨I.ok, I.os, I.bare, ⟨fun b o e n hb hx => ?_, fun b o e n hb hx => ?_, I.base.free, fun b o e hx => ?_, I.base.tups, I.base.frzs, I.base.tbls⟩, ⟨_, hn', fun j y v' e1 e2 e3 => ?_⟩, fun y c e => ?_, I.free, I.freeC, fun p hp => ?_, tracked ⟨oL, hoL, I.free⟩ hs, by simpa using I.len⟩ ⟨_, hs, .inl rfl⟩
    · exact (hs.2 b (Nat.ne_of_lt (Nat.lt_of_lt_of_le (Heap.lt_size e) I.ok.above))).trans (I.base.keep b o e n hb hx)
    · obtain ⟨sl, e1⟩ := I.base.slot b o e n hb hx
      exact ⟨sl, (hs.2 b (Nat.ne_of_lt (Nat.lt_of_lt_of_le (Heap.lt_size e) I.ok.above))).trans e1⟩
    · obtain ⟨o', e1⟩ := I.base.there b o e hx
      exact ⟨o', (hs.2 b (Nat.ne_of_lt (Nat.lt_of_lt_of_le (Heap.lt_size e) I.ok.above))).trans e1⟩
    · by_cases hj : j = i
      · subst hj
        rw [hi] at e1; cases e1
        rw [List.getElem?_set_self hiσ] at e2
        cases e2
        exact ⟨u, r, .inl ⟨hk, by simp⟩⟩
      · rw [List.getElem?_set_ne (Ne.symm hj)] at e2
        obtain ⟨u', r', q⟩ := hl j y v' e1 e2 e3
        refine ⟨u', r', ?_⟩
        rcases q with ⟨k, e⟩ | ⟨k, c, e, z⟩
        · refine .inl ⟨k, ?_⟩
          have : y ≠ x := fun e => hj (nodup_ix hN e1 (e ▸ hi))
          simp [this, e]
        · exact .inr ⟨k, c, e, z.sameBut hs (cne y c e)⟩
    · obtain ⟨w', z⟩ := I.cell y c e
      exact ⟨w', z.sameBut hs (cne y c e)⟩
    · obtain ⟨e, n, ne, nf, d⟩ := I.pin p hp
      exact ⟨(hs.2 p.1 ne).trans e, n, ne, nf, d⟩
  · have hfn : X.fn x = true := by
      rcases hf with z | z
      · exact z
      · rw [z] at hk; cases hk
    obtain ⟨c, hc⟩ := I.ok.has x (.inl hk)
    obtain ⟨w', z⟩ := I.cell x c hc
    refine wpAny_storeName_cell I.ok.kind hk hc z (fun h' hc' hs => ?_)
    obtain ⟨oc, hoc, hocd⟩ := id z
    refine h { s with heap := h' } ⟨I.ok, I.os, I.bare, ⟨fun b o e n hb hx => ?_, fun b o e n hb hx => ?_, I.base.free, fun b o e hx => ?_, I.base.tups, I.base.frzs, I.base.tbls⟩, ⟨m, hn.sameBut hs (Ne.symm (cne x c hc)), fun j y v' e1 e2 e3 => ?_⟩, fun y c' e => ?_, I.free, I.freeC, fun p hp => ?_, tracked ⟨oc, hoc, I.freeC x c hc⟩ hs, by simpa using I.len⟩ ⟨c, hs, .inr hc⟩
    · exact (hs.2 b (Nat.ne_of_lt (Nat.lt_of_lt_of_le (Heap.lt_size e) (I.ok.cab x c hfn hc)))).trans (I.base.keep b o e n hb hx)
    · obtain ⟨sl, e1⟩ := I.base.slot b o e n hb hx
      exact ⟨sl, (hs.2 b (Nat.ne_of_lt (Nat.lt_of_lt_of_le (Heap.lt_size e) (I.ok.cab x c hfn hc)))).trans e1⟩
    · obtain ⟨o', e1⟩ := I.base.there b o e hx
      exact ⟨o', (hs.2 b (Nat.ne_of_lt (Nat.lt_of_lt_of_le (Heap.lt_size e) (I.ok.cab x c hfn hc)))).trans e1⟩
    · by_cases hj : j = i
      · subst hj
        rw [hi] at e1; cases e1
        rw [List.getElem?_set_self hiσ] at e2
        cases e2
        exact ⟨u, r, .inr ⟨.inl hk, c, hc, hc'⟩⟩
      · rw [List.getElem?_set_ne (Ne.symm hj)] at e2
        obtain ⟨u', r', q⟩ := hl j y v' e1 e2 e3
        refine ⟨u', r', ?_⟩
        rcases q with q | ⟨k, c', e, z'⟩
        · exact .inl q
        · refine .inr ⟨k, c', e, z'.sameBut hs ?_⟩
          rintro rfl
          exact hj (nodup_ix hN e1 (I.ok.inj _ _ _ e hc ▸ hi))
    · by_cases hcc : c' = c
      · subst hcc; exact ⟨_, hc'⟩
      · obtain ⟨w2, z2⟩ := I.cell y c' e
        exact ⟨w2, z2.sameBut hs hcc⟩
    · obtain ⟨e, n, ne, nf, d⟩ := I.pin p hp
      refine ⟨(hs.2 p.1 ?_).trans e, n, ne, nf, d⟩
      intro q
      rw [q, hoc] at e
      have q' : oc = p.2 := Option.some.inj e
      exact d w' (by rw [← q']; exact hocd)
theorem store_ok {M : Model} {A : Around} {E : Value → Shared → Prop} {i : Nat} {x : Str} {v : V} {u : Value} {Q : Unit → Shared → Prop} (I : Inv X pins σ H s) (hN : X.N.Nodup) (hi : X.N[i]? = some x) (hx : Loc X.env.scope x) (r : RelV v u)
    (h : ∀ s', Inv X pins (σ.set i (some v)) H s' → Q () s') (hf : X.fn x = true ∨ X.env.scope.names.lookup x = some .local := by first | exact .inl rfl | exact .inr rfl | assumption) : wpAny M A (storeName X.env x u) Q E s :=
  store_ok2 I hN hi hx r (fun s' I' _ => h s' I') hf
theorem Inv.call' {s' : Shared} {ch : List Addr} (I : Inv X pins σ H s) (ho : s'.os = s.os) (u : Un (frs X.stack) ch H H' s.heap s'.heap) (hok : HOk X.prog X.w H' s'.heap) (hg : AllBare s'.gens)
    (hch : ∀ b ∈ ch, (b ∈ X.ex ∨ X.s₀.heap.objs.size ≤ b) ∧ b ≠ X.env.locals ∧ (∀ x c, X.env.cells.lookup x = some c → c ≠ b) ∧ ∀ p ∈ X.pn ++ pins, p.1 ≠ b) : Inv X pins σ H' s' := by
  obtain ⟨h', g', d', t', o'⟩ := s'
  have e : o' = s.os := ho
  subst e
  exact I.call (g' := g') (t' := t') (d' := d') u hok hg hch
end

noncomputable abbrev XK := Value → Option Addr → Hp → Prop
noncomputable abbrev St := List (Option V)
noncomputable abbrev VK := V → Hp → Prop
noncomputable abbrev TE := St → Hp → VK → Prop
noncomputable abbrev TT := St → Hp → (Bool → Hp → Prop) → Prop
noncomputable abbrev TA := St → Hp → (List V → Hp → Prop) → Prop
structure Ends where
  nx : St → Hp → Prop
  rt : VK
  bk : St → Hp → Prop := fun _ _ => False
  ct : St → Hp → Prop := fun _ _ => False
noncomputable abbrev TS := Ends → St → Hp → Prop

noncomputable def EP (X : Cx) (pins : List (Addr × Obj)) (σ : St) (Q : VK) (u : Value) (s' : Shared) : Prop := ∃ v H', Inv X pins σ H' s' ∧ RelV v u ∧ Q v H'
noncomputable def TP (X : Cx) (pins : List (Addr × Obj)) (σ : St) (Q : Bool → Hp → Prop) (b : Bool) (s' : Shared) : Prop := ∃ H', Inv X pins σ H' s' ∧ Q b H'
noncomputable def AP (X : Cx) (pins : List (Addr × Obj)) (σ : St) (Q : List V → Hp → Prop) (us : List Value) (s' : Shared) : Prop := ∃ vs H', Inv X pins σ H' s' ∧ Vals vs us ∧ Q vs H'
noncomputable def SP (X : Cx) (pins : List (Addr × Obj)) (D : Ends) (f : Flow) (s' : Shared) : Prop :=
  match f with
  | .next => ∃ σ' H', Inv X pins σ' H' s' ∧ D.nx σ' H'
  | .brk => ∃ σ' H', Inv X pins σ' H' s' ∧ D.bk σ' H'
  | .cont => ∃ σ' H', Inv X pins σ' H' s' ∧ D.ct σ' H'
  | .ret u => ∃ v σ' H', Inv X pins σ' H' s' ∧ RelV v u ∧ D.rt v H'

noncomputable def PE (X : Cx) (e : Expr) (t : TE) : Prop :=
  ∀ (pins : List (Addr × Obj)) (s : Shared) (σ : St) (H : Hp) (Q : VK), Inv X pins σ H s → t σ H Q → wpAny (model X.prog X.w) X.A (eval e X.env) (EP X pins σ Q) X.xe s
noncomputable def PT (X : Cx) (e : Expr) (t : TT) : Prop :=
  ∀ (pins : List (Addr × Obj)) (s : Shared) (σ : St) (H : Hp) (Q : Bool → Hp → Prop), Inv X pins σ H s → t σ H Q → wpAny (model X.prog X.w) X.A (isTrue e X.env (eval e X.env)) (TP X pins σ Q) X.xe s
noncomputable def PW (X : Cx) (e : Expr) (t : TT) : Prop :=
  ∀ (whole : Sem Value) (pins : List (Addr × Obj)) (s : Shared) (σ : St) (H : Hp) (Q : Bool → Hp → Prop), Inv X pins σ H s → t σ H Q → wpAny (model X.prog X.w) X.A (isTrue e X.env whole) (TP X pins σ Q) X.xe s
theorem PW.pt {X : Cx} {e : Expr} {t : TT} (h : PW X e t) : PT X e t := h _
noncomputable def PA (X : Cx) (es : List Expr) (t : TA) : Prop :=
  ∀ (pos : Pos) (pins : List (Addr × Obj)) (s : Shared) (σ : St) (H : Hp) (Q : List V → Hp → Prop), Inv X pins σ H s → t σ H Q → wpAny (model X.prog X.w) X.A (spliced (backTo pos (starEach es X.env))) (AP X pins σ Q) X.xe s
noncomputable def PS (X : Cx) (st : Stmt) (t : TS) : Prop :=
  ∀ (pins : List (Addr × Obj)) (s : Shared) (σ : St) (H : Hp) (D : Ends), Inv X pins σ H s → t D σ H → wpAny (model X.prog X.w) X.A (exec st X.env) (SP X pins D) X.xe s
noncomputable def PSs (X : Cx) (st : List Stmt) (t : TS) : Prop :=
  ∀ (pins : List (Addr × Obj)) (s : Shared) (σ : St) (H : Hp) (D : Ends), Inv X pins σ H s → t D σ H → wpAny (model X.prog X.w) X.A (execs st X.env) (SP X pins D) X.xe s
theorem thn {α : Type} {t : Sem α} {Q Q' : α → Shared → Prop} {M : Model} {A : Around} {E : Value → Shared → Prop} {s : Shared} (h : wpAny M A t Q E s) (hQ : ∀ a s, Q a s → Q' a s) : wpAny M A t Q' E s := wpAny_mono h hQ fun _ _ x => x
end L2

namespace L2
open PySem PySem.Spec PyProof.Rows
section
variable {X : Cx}

noncomputable def tVar (i : Nat) : TE := fun σ H Q => ∃ v, σ[i]? = some (some v) ∧ Q v H
noncomputable def tC (v : V) : TE := fun _ H Q => Q v H
theorem pe_var {i : Nat} {x : Str} {pos : Pos} (hN : X.N[i]? = some x) (hv : Vis X.env.scope x) (hd : (x == ("__debug__" : Str)) = false := by decide) (hcd : (x == ("__classdict__" : Str)) = false := by decide) : PE X (.Name x pos) (tVar i) := by
  intro pins s σ H Q I h
  obtain ⟨v, e, h⟩ := h
  obtain ⟨m, hn, hl⟩ := I.loc
  obtain ⟨u, r, l⟩ := hl i x v hN e hv
  have fin : EP X pins σ Q u s := ⟨v, H, I, r, h⟩
  rcases l with ⟨hk, hm⟩ | ⟨hk, c, hc, hcell⟩
  · exact wpAny_Name (wpAny_loadName_local I.ok.kind hk hn hm fin) hd
  · rcases hk with hk | hk
    · exact wpAny_Name (wpAny_loadName_cell I.ok.kind hk hc hcell fin) hd
    · exact wpAny_Name (wpAny_loadName_free I.ok.kind hk hc hcell fin hcd) hd
theorem pe_int {i j pos} : PE X (.Constant (.int i) j pos) (tC (.int i)) := fun _ _ _ H _ I h => wpAny_Constant_int ⟨.int i, H, I.tok _, ⟨_, rfl⟩, h⟩
theorem pe_bl {b j pos} : PE X (.Constant (.bool b) j pos) (tC (.bl b)) := fun _ _ _ H _ I h => Constant_bool ⟨.bl b, H, I, rfl, h⟩
theorem pe_str {x j pos} : PE X (.Constant (.str x) j pos) (tC (.str x)) := fun _ _ _ H _ I h => Calls.Constant_str ⟨.str x, H, I.tok _, ⟨_, rfl⟩, h⟩

noncomputable def Gl (X : Cx) (x : Str) : Prop := X.env.kindOf x = some .globalImplicit
theorem ld_glob {E : Value → Shared → Prop} {pins : List (Addr × Obj)} {s : Shared} {σ : St} {H : Hp} {x : Str} {u : Value} {pos : Pos} {Q : Value → Shared → Prop} (I : Inv X pins σ H s) (hg : Gl X x) (hm : X.mg x = some u) (h : Q u s)
    (hd : (x == ("__debug__" : Str)) = false := by decide) : wpAny (model X.prog X.w) X.A (eval (.Name x pos) X.env) Q E s :=
  Calls.Name_function_global I.ok.kind hg (Calls.loadGlobal_global (by rw [I.ok.glob]; exact I.mod.glob.keeps I.bk) hm h) hd
theorem ld_blt {E : Value → Shared → Prop} {pins : List (Addr × Obj)} {s : Shared} {σ : St} {H : Hp} {x : Str} {u : Value} {pos : Pos} {Q : Value → Shared → Prop} (I : Inv X pins σ H s) (hg : Gl X x) (hm : X.mg x = none) (hv : bootBuiltins x = some u) (h : Q u s)
    (hn : x ≠ "__name__" := by decide) (hd : (x == ("__debug__" : Str)) = false := by decide) : wpAny (model X.prog X.w) X.A (eval (.Name x pos) X.env) Q E s := by
  obtain ⟨mb, h1, h2⟩ := I.mod.blt
  exact Calls.Name_function_global I.ok.kind hg (Calls.loadGlobal_builtin (by rw [I.ok.glob]; exact I.mod.glob.keeps I.bk) hm (by rw [I.ok.blt]; exact h1.keeps I.bk) ((h2 x hn).trans hv) h) hd
theorem pe_glob {x : Str} {v : V} {u : Value} {pos : Pos} (hg : Gl X x) (hm : X.mg x = some u) (r : RelV v u) (hd : (x == ("__debug__" : Str)) = false := by decide) : PE X (.Name x pos) (tC v) :=
  fun _ _ _ H _ I h => ld_glob I hg hm ⟨v, H, I, r, h⟩ hd
theorem pe_bltn {x : Str} {v : V} {u : Value} {pos : Pos} (hg : Gl X x) (hm : X.mg x = none) (hv : bootBuiltins x = some u) (r : RelV v u) (hn : x ≠ "__name__" := by decide) (hd : (x == ("__debug__" : Str)) = false := by decide) : PE X (.Name x pos) (tC v) :=
  fun _ _ _ H _ I h => ld_blt I hg hm hv ⟨v, H, I, r, h⟩ hn hd

variable {a b : Expr} {ta tb : TE} {pos : Pos}
noncomputable def PC (X : Cx) (op : CmpOp) (a b : Expr) (t : TE) : Prop :=
  ∀ (pins : List (Addr × Obj)) (s : Shared) (σ : St) (H : Hp) (Q : VK), Inv X pins σ H s → t σ H Q →
    wpAny (model X.prog X.w) X.A (eval a X.env) (fun v s₁ => wpAny (model X.prog X.w) X.A (eval b X.env) (fun u s₂ => wpAny (model X.prog X.w) X.A (compareOp op v u) (EP X pins σ Q) X.xe s₂) X.xe s₁) X.xe s
noncomputable def tB (t : TE) : TT := fun σ H Q => t σ H fun x H1 => ∃ c, x = .bl c ∧ Q c H1
theorem pt_cmp {op : CmpOp} {t : TE} (h : PC X op a b t) (h1 : behindInMarks op b = false := by first | exact nobehind _ (by decide) (by decide) | rfl) : PT X (.Compare a [op] [b] pos) (tB t) := by
  intro pins s σ H Q I hw
  refine wpAny_isTrue_Compare1 (thn (h pins s σ H _ I hw) fun v s1 h1 => thn h1 fun u s2 h2 => thn h2 fun c s3 hz9 => ?_) h1
  obtain ⟨x, H1, I1, r1, q1⟩ := hz9
  obtain ⟨d, rfl, q⟩ := q1
  cases r1
  exact wpAny_truthy_bool ⟨H1, I1, q⟩
theorem pt_val {e : Expr} {t : TE} (h : PE X e t) (he : ∀ whole, isTrue e X.env whole = (do let v ← whole; standAt e.pos; holding [v] (truthy v)) := by intro _; rfl) : PT X e (tB t) := by
  intro pins s σ H Q I hw
  refine isTrue_plain (thn (h pins s σ H _ I hw) fun v s1 hz9 => ?_) (he _)
  obtain ⟨x, H1, I1, r1, q1⟩ := hz9
  obtain ⟨d, rfl, q⟩ := q1
  cases r1
  exact wpAny_truthy_bool ⟨H1, I1, q⟩

variable {tA tB' : TT} {rest : List Expr}
noncomputable def tAnd (t u : TT) : TT := fun σ H Q => t σ H fun c H1 => if c = true then u σ H1 Q else Q false H1
noncomputable def tOr (t u : TT) : TT := fun σ H Q => t σ H fun c H1 => if c = true then Q true H1 else u σ H1 Q
noncomputable def tNot (t : TT) : TT := fun σ H Q => t σ H fun c H1 => Q (!c) H1
theorem pw_and1 (ha : PT X a tA) : PW X (.BoolOp .And [a] pos) tA := by
  intro wh pins s σ H Q I h
  refine isTrue_and (thn (ha pins s σ H Q I h) fun c s1 e => ?_)
  cases c with
  | true => exact isTrue_and_nil e
  | false => exact e
theorem pw_or1 (ha : PT X a tA) : PW X (.BoolOp .Or [a] pos) tA := by
  intro wh pins s σ H Q I h
  refine isTrue_or (thn (ha pins s σ H Q I h) fun c s1 e => ?_)
  cases c with
  | false => exact isTrue_or_nil e
  | true => exact e
theorem pw_and (ha : PT X a tA) (hb : PW X (.BoolOp .And (b :: rest) pos) tB') : PW X (.BoolOp .And (a :: b :: rest) pos) (tAnd tA tB') := by
  intro wh pins s σ H Q I h
  refine isTrue_and (thn (ha pins s σ H _ I h) fun c s1 hz9 => ?_)
  obtain ⟨H1, I1, q1⟩ := hz9
  cases c with
  | true => exact hb wh pins s1 σ H1 Q I1 q1
  | false => exact ⟨H1, I1, q1⟩
theorem pw_or (ha : PT X a tA) (hb : PW X (.BoolOp .Or (b :: rest) pos) tB') : PW X (.BoolOp .Or (a :: b :: rest) pos) (tOr tA tB') := by
  intro wh pins s σ H Q I h
  refine isTrue_or (thn (ha pins s σ H _ I h) fun c s1 hz9 => ?_)
  obtain ⟨H1, I1, q1⟩ := hz9
  cases c with
  | true => exact ⟨H1, I1, q1⟩
  | false => exact hb wh pins s1 σ H1 Q I1 q1
theorem pt_not (ha : PT X a tA) : PT X (.UnaryOp .Not a pos) (tNot tA) := by
  intro pins s σ H Q I h
  exact isTrue_not (ha pins s σ H (fun c H1 => Q (!c) H1) I h)
noncomputable def tAndV (ta tb : TE) : TE := fun σ H Q => ta σ H fun x H1 => ∃ c, x = .bl c ∧ if c = true then tb σ H1 Q else Q (.bl false) H1
noncomputable def tOrV (ta tb : TE) : TE := fun σ H Q => ta σ H fun x H1 => ∃ c, x = .bl c ∧ if c = true then Q (.bl true) H1 else tb σ H1 Q
noncomputable def tNotV (ta : TE) : TE := fun σ H Q => ta σ H fun x H1 => ∃ c, x = .bl c ∧ Q (.bl (!c)) H1
theorem pe_one {op} {t : TE} (h : PE X a t) : PE X (.BoolOp op [a] pos) t := fun pins s σ H Q I hw => BoolOp_one (h pins s σ H Q I hw)
theorem pe_and (ha : PE X a ta) (hb : PE X (.BoolOp .And (b :: rest) pos) tb) : PE X (.BoolOp .And (a :: b :: rest) pos) (tAndV ta tb) := by
  intro pins s σ H Q I h
  refine BoolOp_and (thn (ha pins s σ H _ I h) fun v s1 hz9 => ?_)
  obtain ⟨x, H1, I1, r1, q1⟩ := hz9
  obtain ⟨c, rfl, q1⟩ := q1
  cases r1
  refine wpAny_truthy_bool ?_
  cases c with
  | true => exact hb pins s1 σ H1 Q I1 q1
  | false => exact ⟨.bl false, H1, I1, rfl, q1⟩
theorem pe_or (ha : PE X a ta) (hb : PE X (.BoolOp .Or (b :: rest) pos) tb) : PE X (.BoolOp .Or (a :: b :: rest) pos) (tOrV ta tb) := by
  intro pins s σ H Q I h
  refine BoolOp_or (thn (ha pins s σ H _ I h) fun v s1 hz9 => ?_)
  obtain ⟨x, H1, I1, r1, q1⟩ := hz9
  obtain ⟨c, rfl, q1⟩ := q1
  cases r1
  refine wpAny_truthy_bool ?_
  cases c with
  | false => exact hb pins s1 σ H1 Q I1 q1
  | true => exact ⟨.bl true, H1, I1, rfl, q1⟩
theorem pe_not (ha : PE X a ta) : PE X (.UnaryOp .Not a pos) (tNotV ta) := by
  intro pins s σ H Q I h
  refine UnaryOp_ (thn (ha pins s σ H _ I h) fun v s1 hz9 => ?_)
  obtain ⟨x, H1, I1, r1, q1⟩ := hz9
  obtain ⟨c, rfl, q1⟩ := q1
  cases r1
  exact not_of (wpAny_truthy_bool ⟨.bl (!c), H1, I1, rfl, q1⟩)
end
end L2

namespace L2
open PySem PySem.Spec PyProof.Rows

noncomputable def SqL (K : PySem.W.Frag) (H : Hp) (a : Addr) (xs : List V) : Prop :=
  Rd H a (.lst xs) ∨
    ∃ (o : Obj) (its : Array Value) (n : Nat), K.lookup a = some o ∧ o.cls = .type "list" ∧ o.dict = none ∧ o.data = .seq its n ∧ its.size ≤ sizeLine ∧ Vals xs its.toList
noncomputable def SqT (K : PySem.W.Frag) (H : Hp) (a : Addr) (xs : List V) : Prop :=
  Rd H a (.tup xs) ∨
    ∃ (o : Obj) (its : Array Value) (n : Nat), K.lookup a = some o ∧ o.cls = .type "tuple" ∧ o.data = .seq its n ∧ its.size ≤ sizeLine ∧ Vals xs its.toList
noncomputable def absV : Value → Option V
  | .none => some .non
  | .bool b => some (.bl b)
  | .int i _ => some (.int i)
  | .str x _ => some (.str x)
  | .bytes b _ => some (.byt b)
  | .float b _ => some (.flt b)
  | .ref a => some (.ref a)
  | .type n => some (.ty n)
  | _ => none
theorem RelV.abs {x : V} {u : Value} (r : RelV x u) : absV u = some x := by
  cases x with
  | non => cases r; rfl
  | bl _ => cases r; rfl
  | int _ => obtain ⟨t, rfl⟩ := r; rfl
  | str _ => obtain ⟨t, rfl⟩ := r; rfl
  | byt _ => obtain ⟨t, rfl⟩ := r; rfl
  | flt _ => obtain ⟨t, rfl⟩ := r; rfl
  | ref _ => cases r; rfl
  | ty _ => cases r; rfl
theorem RelV.inj {x y : V} {u : Value} (r : RelV x u) (q : RelV y u) : x = y := Option.some.inj (r.abs.symm.trans q.abs)
theorem Vals.inj : ∀ {xs ys : List V} {us : List Value}, Vals xs us → Vals ys us → xs = ys
  | _, _, _, .nil, .nil => rfl
  | _, _, _, .cons r t, .cons r' t' => by rw [r.inj r', Vals.inj t t']
section
variable {X : Cx} {pins : List (Addr × Obj)} {σ : St} {H : Hp} {s : Shared} {a : Addr} {xs ys : List V}
theorem SqL.of {K : PySem.W.Frag} (h : H a = some (.lst xs)) : SqL K H a xs := .inl (.inl h)
theorem SqT.of {K : PySem.W.Frag} (h : H a = some (.tup xs)) : SqT K H a xs := .inl (.inl h)
theorem Inv.list (I : Inv X pins σ H s) (h : SqL X.K H a xs) : ∃ its : List Value, Vals xs its ∧ PlainL s.heap a its.toArray ∧ xs.length ≤ sizeLine := by
  rcases h with h | ⟨o, its, n, hk, hc, hd, hs, hz, r⟩
  · obtain ⟨z, its, n, r, e⟩ := h.ok I.hok
    exact ⟨its, r, ⟨_, n, e, rfl, rfl, rfl⟩, z⟩
  · refine ⟨its.toList, r, ⟨o, n, I.kIn a o hk, hc, hd, by simpa using hs⟩, ?_⟩
    have e := r.length
    simp only [Array.length_toList] at e
    lia
theorem Inv.tuple (I : Inv X pins σ H s) (h : SqT X.K H a xs) : ∃ its : List Value, Vals xs its ∧ IsTup s.heap a its.toArray ∧ xs.length ≤ sizeLine := by
  rcases h with h | ⟨o, its, n, hk, hc, hs, hz, r⟩
  · obtain ⟨z, its, r, p⟩ := h.ok I.hok
    exact ⟨its, r, p, z⟩
  · refine ⟨its.toList, r, ⟨o, I.kIn a o hk, hc, n, by simpa using hs⟩, ?_⟩
    have e := r.length
    simp only [Array.length_toList] at e
    lia
theorem Inv.list_inj (I : Inv X pins σ H s) (h : SqL X.K H a xs) (h' : SqL X.K H a ys) : xs = ys := by
  obtain ⟨its, r, ⟨o, n, e, _, _, d⟩, _⟩ := I.list h
  obtain ⟨its', r', ⟨o', n', e', _, _, d'⟩, _⟩ := I.list h'
  rw [e] at e'; cases e'
  rw [d] at d'
  injection d' with d1 _
  have : its = its' := by simpa using congrArg Array.toList d1
  subst this
  exact r.inj r'
end

noncomputable abbrev Cx.wish (X : Cx) (E : Value → Shared → Prop) : Cx := { X with xe := E }
noncomputable abbrev Cx.nox (X : Cx) : Cx := X.wish fun _ _ => False
theorem Cx.Ok.wish {X : Cx} (ok : X.Ok) (E : Value → Shared → Prop) : (X.wish E).Ok :=
  ⟨ok.mod, ok.kind, ok.glob, ok.blt, ok.above, ok.inj, ok.has, ok.cab, ok.hd, ok.frames, ok.stk, ok.exf, ok.bs, ok.bsz, ok.noex, ok.exfs, ok.funs, ok.frf⟩
theorem Cx.Ok.unwish {X : Cx} {E : Value → Shared → Prop} (ok : (X.wish E).Ok) : X.Ok :=
  ⟨ok.mod, ok.kind, ok.glob, ok.blt, ok.above, ok.inj, ok.has, ok.cab, ok.hd, ok.frames, ok.stk, ok.exf, ok.bs, ok.bsz, ok.noex, ok.exfs, ok.funs, ok.frf⟩
section
variable {X : Cx} {pins : List (Addr × Obj)} {σ : St} {H : Hp} {s : Shared} {E : Value → Shared → Prop}
theorem Inv.wish (I : Inv X pins σ H s) (E : Value → Shared → Prop) : Inv (X.wish E) pins σ H s := ⟨I.ok.wish E, I.os, I.bare, I.base, I.loc, I.cell, I.free, I.freeC, I.pin, I.hok, I.len⟩
theorem Inv.unwish (I : Inv (X.wish E) pins σ H s) : Inv X pins σ H s := ⟨I.ok.unwish, I.os, I.bare, I.base, I.loc, I.cell, I.free, I.freeC, I.pin, I.hok, I.len⟩
theorem SP.unwish {D : Ends} {f : Flow} {s' : Shared} (h : SP (X.wish E) pins D f s') : SP X pins D f s' := by
  cases f with
  | next => obtain ⟨σ', H', I, q⟩ := h; exact ⟨σ', H', I.unwish, q⟩
  | brk => obtain ⟨σ', H', I, q⟩ := h; exact ⟨σ', H', I.unwish, q⟩
  | cont => obtain ⟨σ', H', I, q⟩ := h; exact ⟨σ', H', I.unwish, q⟩
  | ret u => obtain ⟨v, σ', H', I, r, q⟩ := h; exact ⟨v, σ', H', I.unwish, r, q⟩
theorem PSs.nox {st : List Stmt} {t : TS} (h : PSs X.nox st t) : PSs X st t := fun pins s σ H D I hw =>
  wpAny_mono (h pins s σ H D (I.wish _) hw) (fun _ _ q => q.unwish) fun _ _ z => False.elim z
end

section
variable {X : Cx} {st : Stmt} {rest : List Stmt} {t u : TS} {e : Expr} {te : TE} {pos : Pos}
noncomputable def tNext : TS := fun D σ H => D.nx σ H
noncomputable def tSeq (t u : TS) : TS := fun D σ H => t { D with nx := u D } σ H
theorem pss_nil : PSs X [] tNext := fun _ _ σ H _ I h => wpAny_execs_nil ⟨σ, H, I, h⟩
theorem pss_cons (h1 : PS X st t) (h2 : PSs X rest u) : PSs X (st :: rest) (tSeq t u) := by
  intro pins s σ H D I h
  refine wpAny_execs_cons (thn (h1 pins s σ H { D with nx := u D } I h) fun f s1 q => ?_)
  cases f with
  | next =>
    obtain ⟨σ', H', I', q⟩ := q
    exact h2 pins s1 σ' H' D I' q
  | ret v => exact q
  | brk => exact q
  | cont => exact q
theorem pss_one (h1 : PS X st t) : PSs X [st] t := by
  intro pins s σ H D I h
  refine wpAny_execs_cons (thn (h1 pins s σ H D I h) fun f s1 q => ?_)
  cases f with
  | next => exact wpAny_execs_nil q
  | ret v => exact q
  | brk => exact q
  | cont => exact q
theorem Inv.quiet {pins : List (Addr × Obj)} {σ : St} {H : Hp} {s : Shared} (I : Inv X pins σ H s) : interactive X.env = false := by simp [interactive, I.ok.kind]
noncomputable def tDrop (te : TE) : TS := fun D σ H => te σ H fun _ H1 => D.nx σ H1
theorem ps_expr (he : PE X e te) (hs : swapsWith e none pos.line X.env = pure false := by rfl) : PS X (.Expr e pos) (tDrop te) := by
  intro pins s σ H D I h
  exact wpAny_Expr_any (thn (he pins s σ H _ I h) fun v s1 ⟨x, H1, I1, r1, q1⟩ => ⟨σ, H1, I1, q1⟩) I.quiet hs
noncomputable def tRet (te : TE) : TS := fun D σ H => te σ H D.rt
theorem ps_ret (he : PE X e te) : PS X (.Return (some e) pos) (tRet te) := by
  intro pins s σ H D I h
  exact wpAny_Return_some (thn (he pins s σ H _ I h) fun v s1 ⟨x, H1, I1, r1, q1⟩ => ⟨x, σ, H1, I1, r1, q1⟩)
noncomputable def tIfS (c : TT) (t u : TS) : TS := fun D σ H => c σ H fun b H1 => if b = true then t D σ H1 else u D σ H1
theorem ps_if {c : Expr} {a b : List Stmt} {tc : TT} (hc : PT X c tc) (ha : PSs X a t) (hb : PSs X b u) : PS X (.If c a b pos) (tIfS tc t u) := by
  intro pins s σ H D I h
  refine wpAny_If (thn (hc pins s σ H _ I h) fun d s1 hz9 => ?_)
  obtain ⟨H1, I1, q1⟩ := hz9
  cases d with
  | true => exact ha pins s1 σ H1 D I1 q1
  | false => exact hb pins s1 σ H1 D I1 q1
end

noncomputable abbrev TG := V → St → Hp → (St → Hp → Prop) → Prop
noncomputable abbrev TGs := List V → St → Hp → (St → Hp → Prop) → Prop
noncomputable def PG (X : Cx) (target : Expr) (t : TG) : Prop :=
  ∀ (pins : List (Addr × Obj)) (s : Shared) (σ : St) (H : Hp) (v : V) (u : Value) (Q : St → Hp → Prop), Inv X pins σ H s → RelV v u → t v σ H Q →
    wpAny (model X.prog X.w) X.A (assign target X.env u) (fun _ s' => ∃ σ' H', Inv X pins σ' H' s' ∧ Q σ' H') X.xe s
noncomputable def PGs (X : Cx) (ts : List Expr) (t : TGs) : Prop :=
  ∀ (pins : List (Addr × Obj)) (s : Shared) (σ : St) (H : Hp) (vs : List V) (us : List Value) (Q : St → Hp → Prop), Inv X pins σ H s → Vals vs us → t vs σ H Q →
    wpAny (model X.prog X.w) X.A (assignInOrder ((assignEach ts X.env).map (·.2)) us) (fun _ s' => ∃ σ' H', Inv X pins σ' H' s' ∧ Q σ' H') X.xe s
section
variable {X : Cx} {pos : Pos}
noncomputable def gName (i : Nat) : TG := fun v σ H Q => Q (σ.set i (some v)) H
theorem pg_name {i : Nat} {x : Str} (hN : X.N.Nodup) (hi : X.N[i]? = some x) (hx : Loc X.env.scope x) (hf : X.fn x = true ∨ X.env.scope.names.lookup x = some .local := by first | exact .inl rfl | exact .inr rfl | assumption) : PG X (.Name x pos) (gName i) := by
  intro pins s σ H v u Q I r h
  exact wpAny_assign_Name (store_ok I hN hi hx r (fun s' I' => ⟨_, H, I', h⟩) hf)
noncomputable def gNil : TGs := fun vs σ H Q => vs = [] ∧ Q σ H
noncomputable def gCons (t : TG) (u : TGs) : TGs := fun vs σ H Q => ∃ v r, vs = v :: r ∧ t v σ H fun σ' H' => u r σ' H' Q
theorem pgs_nil : PGs X [] gNil := by
  intro pins s σ H vs us Q I r h
  obtain ⟨e, h⟩ := h
  subst e
  cases r
  exact assignInOrder_nil ⟨σ, H, I, h⟩
theorem pgs_cons {e : Expr} {es : List Expr} {t : TG} {u : TGs} (h1 : PG X e t) (h2 : PGs X es u)
    (hs : (assignEach (e :: es) X.env).map (·.2) = assign e X.env :: (assignEach es X.env).map (·.2) := by rfl) : PGs X (e :: es) (gCons t u) := by
  intro pins s σ H vs us Q I r h
  obtain ⟨v, vr, e1, h⟩ := h
  subst e1
  cases r with
  | cons r rr =>
    rw [hs]
    refine assignInOrder_cons (thn (h1 pins s σ H _ _ _ I r h) fun _ s1 hz9 => ?_)
    obtain ⟨σ1, H1, I1, q1⟩ := hz9
    exact h2 pins s1 σ1 H1 _ _ Q I1 rr q1
noncomputable def gTup (K : PySem.W.Frag) (n : Nat) (t : TGs) : TG := fun v σ H Q => ∃ a xs, v = .ref a ∧ SqT K H a xs ∧ xs.length = n ∧ t xs σ H Q
theorem pg_tup {es : List Expr} {k : Nat} {t : TGs} {n : Nat} (hc : X.calm = true) (h : PGs X es t)
    (hn : (assignEach es X.env).length = n := by rfl) (hst : (assignEach es X.env).findIdx? (·.1) = none := by rfl) : PG X (.Tuple es k pos) (gTup X.K n t) := by
  intro pins s σ H v u Q I r hw
  obtain ⟨a, xs, e1, hq, hl, hw⟩ := hw
  subst e1
  cases r
  obtain ⟨its, rv, ht, hz⟩ := I.tuple hq
  refine assign_Tuple_tuple (I.ok.hd hc) ht (by simp [hn, ← hl, rv.length]) hst fun h' hx => ?_
  have I1 : Inv X pins σ H { s with heap := h' } := I.kept (t' := s.toks) fun b o e => hx b o (Nat.ne_of_lt (Heap.lt_size e)) e
  exact h pins _ σ H xs _ Q I1 (by simpa using rv) hw
noncomputable def tAsg (te : TE) (g : TG) : TS := fun D σ H => te σ H fun x H1 => g x σ H1 D.nx
theorem ps_asg {tg e : Expr} {te : TE} {g : TG} (he : PE X e te) (hg : PG X tg g) (hs : swapsWithSole [tg] e pos.line X.env = pure false := by rfl) (hw : swappedStores [tg] e X.env = pure none := by rfl)
    (h1 : (assignEach [tg] X.env).map (·.2) = [assign tg X.env] := by rfl) : PS X (.Assign [tg] e pos) (tAsg te g) := by
  intro pins s σ H D I h
  refine wpAny_Assign_stores (thn (he pins s σ H _ I h) fun v s1 hz9 => ?_) hs hw
  obtain ⟨x, H1, I1, r1, q1⟩ := hz9
  rw [h1]
  exact thn (hg pins s1 σ H1 x v _ I1 r1 q1) fun _ s2 q => q
theorem ps_set {i : Nat} {x : Str} {e : Expr} {te : TE} {pos' : Pos} (hN : X.N.Nodup) (hi : X.N[i]? = some x) (hx : Loc X.env.scope x) (he : PE X e te) (hs : swapsWith e (some (.Name x pos')) pos.line X.env = pure false := by rfl) (hf : X.fn x = true ∨ X.env.scope.names.lookup x = some .local := by first | exact .inl rfl | exact .inr rfl | assumption) :
    PS X (.Assign [.Name x pos'] e pos) (tAsg te (gName i)) := by
  intro pins s σ H D I h
  refine wpAny_Assign_Name (thn (he pins s σ H _ I h) fun v s1 hz9 => ?_) hs
  obtain ⟨y, H1, I1, r1, q1⟩ := hz9
  exact store_ok I1 hN hi hx r1 (fun s2 I2 => ⟨_, H1, I2, q1⟩) hf
noncomputable def tPar (i j : Nat) (ta : TA) : TS := fun D σ H => ta σ H fun vs H1 => ∃ v w, vs = [v, w] ∧ D.nx ((σ.set i (some v)).set j (some w)) H1
theorem ps_par {i j : Nat} {x y : Str} {a b : Expr} {ta : TA} {px py pt : Pos} {kt k2 pt2} (hc : X.calm = true) (hN : X.N.Nodup) (hi : X.N[i]? = some x) (hj : X.N[j]? = some y) (hij : i ≠ j)
    (hx : X.env.scope.names.lookup x = some .local) (hy : X.env.scope.names.lookup y = some .local) (ha : PA X [a, b] ta)
    (hw : swappedStores [.Tuple [.Name x px, .Name y py] kt pt] (.Tuple [a, b] k2 pt2) X.env = pure (some [x, y]))
    (hs : swapsWithSole [.Tuple [.Name x px, .Name y py] kt pt] (.Tuple [a, b] k2 pt2) pos.line X.env = pure false := by rfl) :
    PS X (.Assign [.Tuple [.Name x px, .Name y py] kt pt] (.Tuple [a, b] k2 pt2) pos) (tPar i j ta) := by
  intro pins s σ H D I h
  rw [exec_Assign_arm]
  refine wpAny_bind (wpAny_standAt ?_)
  rw [hs]
  refine wpAny_bind (wpAny_pure ?_)
  rw [if_neg (by decide)]
  refine wpAny_bind (Tuple_ (thn (ha _ pins s σ H _ I h) fun us s1 hz9 => ?_))
  obtain ⟨vs, H1, I1, r1, q1⟩ := hz9
  obtain ⟨v, w, e1, q1⟩ := q1
  subst e1
  obtain ⟨u1, u2, rfl, rv, rw'⟩ : ∃ u1 u2, us = [u1, u2] ∧ RelV v u1 ∧ RelV w u2 := by
    cases r1 with
    | cons p q =>
      cases q with
      | cons p' q' =>
        cases q'
        exact ⟨_, _, rfl, p, p'⟩
  refine wpAny_newObj_type ?_ (by show 2 ≤ sizeLine; decide)
  have I2 : Inv X pins σ H1 { s1 with heap := s1.heap.push { cls := .type "tuple", data := .seq [u1, u2].toArray } } := I1.kept (t' := s1.toks) fun b o e => Heap.get?_push_of_some _ e
  rw [hw]
  refine wpAny_bind (wpAny_pure ?_)
  show wpAny (model X.prog X.w) X.A (do rule "assign.swapped-stores"; let items ← unpackItems (.ref s1.heap.objs.size) 2 none; assignInOrder [fun v => bindName X.env y v, fun v => bindName X.env x v] items.reverse; pure Flow.next) _ _ _
  refine wpAny_bind (wpAny_rule (wpAny_bind (unpackItems_tuple (items := #[u1, u2]) (I.ok.hd hc) (IsTup.new s1.heap _) fun h' hx' => ?_)))
  have I3 := I2.kept (h' := h') (t' := s1.toks) fun b o e => hx' b o (Nat.ne_of_lt (Heap.lt_size e)) e
  show wpAny _ _ (assignInOrder [fun v => bindName X.env y v, fun v => bindName X.env x v] [u2, u1] >>= fun _ => pure Flow.next) _ _ _
  refine wpAny_bind (assignInOrder_cons (wpAny_bindName (store_ok I3 hN hj (.inl hy) rw' (fun s2 I4 => ?_) (.inr hy))))
  refine assignInOrder_cons (wpAny_bindName (store_ok I4 hN hi (.inl hx) rv (fun s3 I5 => assignInOrder_nil (wpAny_pure ?_)) (.inr hx)))
  rw [List.set_comm _ _ (Ne.symm hij)] at I5
  exact ⟨_, H1, I5, q1⟩
end

section
variable {X : Cx} {pos : Pos}
noncomputable def tWhile (c : TT) (tb : TS) : TS := fun D σ H => ∃ W : Nat → St → Hp → Prop, (∃ m, W m σ H) ∧ ∀ m σ H, W m σ H →
  c σ H fun b H1 => if b = true then ∃ N : St → Hp → Prop, (∀ σ' H', N σ' H' → ∃ m', m' < m ∧ W m' σ' H') ∧ tb { D with nx := N, ct := N, bk := D.nx } σ H1 else D.nx σ H1
theorem ps_while {c : Expr} {body : List Stmt} {tc : TT} {tb : TS} (hp : PassesOwn (model X.prog X.w) X.A X.env X.xe) (hc : PT X c tc) (hb : PSs X body tb) : PS X (.While c body [] pos) (tWhile tc tb) := by
  intro pins s σ H D I h
  obtain ⟨W, ⟨m0, w0⟩, turn⟩ := h
  refine wpAny_While (codeAny_whileLoop (fun n s' => ∃ σ' H', Inv X pins σ' H' s' ∧ W n σ' H') ?_ m0 ⟨σ, H, I, w0⟩)
  rintro n s1 ⟨σ1, H1, I1, w1⟩
  refine wpAny_passesOwn hp (thn (hc pins s1 σ1 H1 _ I1 (turn n σ1 H1 w1)) fun b s2 hz9 => ?_)
  obtain ⟨H2, I2, q2⟩ := hz9
  cases b with
  | true =>
    obtain ⟨N, hN, q2⟩ := q2
    rw [if_pos rfl]
    refine wpAny_passesOwn hp (thn (hb pins s2 σ1 H2 _ I2 q2) fun f s3 q3 => ?_)
    cases f with
    | next =>
      obtain ⟨σ3, H3, I3, n3⟩ := q3
      obtain ⟨m', hm, w3⟩ := hN σ3 H3 n3
      exact ⟨m', hm, σ3, H3, I3, w3⟩
    | cont =>
      obtain ⟨σ3, H3, I3, n3⟩ := q3
      obtain ⟨m', hm, w3⟩ := hN σ3 H3 n3
      exact ⟨m', hm, σ3, H3, I3, w3⟩
    | brk => exact q3
    | ret v => exact q3
  | false =>
    rw [if_neg Bool.false_ne_true]
    exact wpAny_execs_nil ⟨σ1, H2, I2, q2⟩
end

structure It where
  go : Nat → Hp → Prop
  yld : Nat → Hp → V → Hp → Prop
  stop : Nat → Hp → Prop
noncomputable def FpOk (X : Cx) (pins : List (Addr × Obj)) (H : Hp) (b : Addr) : Prop :=
  H b = none ∧ b ≠ X.env.locals ∧ b ∉ X.fs ∧ (b ∈ X.ex ∨ X.s₀.heap.objs.size ≤ b) ∧ (∀ x c, X.env.cells.lookup x = some c → c ≠ b) ∧ ∀ p ∈ X.pn ++ pins, p.1 ≠ b
theorem Inv.fpOk {X : Cx} {pins : List (Addr × Obj)} {σ : St} {H H' : Hp} {s : Shared} {b : Addr} (I : Inv X pins σ H s) (hb : s.heap.objs.size ≤ b) (hn : H' b = none) : FpOk X pins H' b := by
  refine ⟨hn, Nat.ne_of_gt (Nat.lt_of_lt_of_le I.lt hb), I.nofs hb, .inr (Nat.le_trans I.sz hb), fun x c e z => ?_, fun p hp z => ?_⟩
  · obtain ⟨v, q⟩ := I.cell x c e
    exact absurd (Nat.lt_of_lt_of_le q.lt (by rw [z]; exact hb)) (Nat.lt_irrefl _)
  · exact absurd (Nat.lt_of_lt_of_le (Heap.lt_size (I.pin p hp).1) (by rw [z]; exact hb)) (Nat.lt_irrefl _)
structure Turn (P : Program) (w : World) (K : PySem.W.Frag) (tg : Expr) (J : It) (fp : List Addr) (it : Addr) (tn : Nat → Heap → Prop) : Prop where
  mem : it ∈ fp
  obj : ∀ i h, tn i h → ∀ b ∈ fp, ∃ o, h.get? b = some o ∧ ∀ v, o.data ≠ .cell v
  keep : ∀ i h h', tn i h → (∀ b ∈ fp, ∀ o, h.get? b = some o → h'.get? b = some o) → tn i h'
  item : ∀ (X : Cx), X.prog = P → X.w = w → X.K = K → X.calm = true → ∀ (i : Nat) (pins : List (Addr × Obj)) (s : Shared) (σ : St) (H : Hp) (E : Value → Shared → Prop), Inv X pins σ H s → (∀ b ∈ fp, FpOk X pins H b) → tn i s.heap → J.go i H →
    wpAny (model P w) X.A (pyNext (.ref it)) (fun r s1 => ∃ u, r = some u ∧
      wpAny (model P w) X.A (letOwnedTupleGo tg (.ref it) u) (fun _ s2 => ∃ x H', Inv X pins σ H' s2 ∧ RelV x u ∧ J.yld i H x H' ∧ tn (i + 1) s2.heap ∧ ∀ b ∈ fp, H' b = none) E s1) E s
  done : ∀ (X : Cx), X.prog = P → X.w = w → X.K = K → X.calm = true → ∀ (i : Nat) (pins : List (Addr × Obj)) (s : Shared) (σ : St) (H : Hp) (E : Value → Shared → Prop), Inv X pins σ H s → (∀ b ∈ fp, FpOk X pins H b) → tn i s.heap → J.stop i H →
    wpAny (model P w) X.A (pyNext (.ref it)) (fun r s1 => r = none ∧ Inv X pins σ H s1) E s
  self : ∀ (A : Around) (i : Nat) (s : Shared) (Q : Value → Shared → Prop) (E : Value → Shared → Prop), tn i s.heap → Q (.ref it) s → wpAny (model P w) A (pyIter (.ref it)) Q E s
noncomputable abbrev TI := St → Hp → (It → Hp → Prop) → Prop
noncomputable def PIE (X : Cx) (pins : List (Addr × Obj)) (σ : St) (tg : Expr) (R : It → Hp → Prop) (itv : Value) (s2 : Shared) : Prop :=
  ∃ (it : Addr) (fp : List Addr) (tn : Nat → Heap → Prop) (J : It) (H' : Hp), itv = .ref it ∧ Inv X pins σ H' s2 ∧ Turn X.prog X.w X.K tg J fp it tn ∧ tn 0 s2.heap ∧ (∀ b ∈ fp, FpOk X pins H' b) ∧ R J H'
noncomputable def PI (X : Cx) (tg iter : Expr) (wi : TI) : Prop :=
  ∀ (pins : List (Addr × Obj)) (s : Shared) (σ : St) (H : Hp) (R : It → Hp → Prop), Inv X pins σ H s → wi σ H R →
    wpAny (model X.prog X.w) X.A (eval iter X.env) (fun v s1 => wpAny (model X.prog X.w) X.A (pyIter v) (PIE X pins σ tg R) X.xe s1) X.xe s

theorem go_of {M : Model} {A : Around} {E : Value → Shared → Prop} {s : Shared} {tg : Expr} {it : Addr} {u : Value} {o : Obj} {n : String} {vs : Array Value} {Q : Unit → Shared → Prop} (ho : s.heap.get? it = some o) (hc : o.cls = .type n) (hd : o.data = .fields vs)
    (hn : ["enumerate", "zip", "dict_itemiterator", "dict_reverseitemiterator", "odict_iterator", "itertools.zip_longest", "itertools.pairwise"].contains n = false) (hQ : Q () s) : wpAny M A (letOwnedTupleGo tg (.ref it) u) Q E s := by
  unfold letOwnedTupleGo
  cases tg <;> first
    | exact wpAny_pure hQ
    | (cases u <;> first
        | exact wpAny_pure hQ
        | (refine wpAny_bind (wpAny_load ho ?_)
           rw [hc, hd]
           show wpAny M A (if (["enumerate", "zip", "dict_itemiterator", "dict_reverseitemiterator", "odict_iterator", "itertools.zip_longest", "itertools.pairwise"].contains n && vs[0]? == some (rawInt _)) = true then _ else _) Q E s
           rw [if_neg (by intro h; rw [hn, Bool.false_and] at h; cases h)]
           exact wpAny_pure hQ))

noncomputable def Itl (K : PySem.W.Frag) (a : Addr) : It :=
  ⟨fun i H => ∃ xs x, SqL K H a xs ∧ xs[i]? = some x, fun i H x H' => H' = H ∧ ∀ xs, SqL K H a xs → xs[i]? = some x, fun i H => ∃ xs, SqL K H a xs ∧ xs.length ≤ i⟩
noncomputable def Itr (lo : Int) (n : Nat) : It := ⟨fun i _ => i < n, fun i H x H' => H' = H ∧ x = .int (lo + i), fun i _ => n ≤ i⟩
theorem turn_list {P : Program} {w : World} {K : PySem.W.Frag} {tg : Expr} (a it : Addr) : Turn P w K tg (Itl K a) [it] it (fun i h => h.IsListIter it a i) where
  mem := by simp
  obj := fun i h st b hb => by
    have e : b = it := by simpa using hb
    subst e
    obtain ⟨o, e, c, d⟩ := st
    exact ⟨o, e, fun v z => by rw [d] at z; cases z⟩
  keep := fun i h h' st k => st.at fun o e => k it (by simp) o e
  item := by
    intro X hP hw hK hc i pins s σ H E I hf st hg
    subst hP hw hK
    obtain ⟨xs, x, hq, hx⟩ := hg
    obtain ⟨its, rv, p, hz⟩ := I.list hq
    obtain ⟨u, hu, ru⟩ := rv.get hx
    obtain ⟨f0, f1, f2, f3, f4, f5⟩ := hf it (by simp)
    refine wpAny_pyNext_list_item st p.isList (x := u) (by simpa using hu) fun h' st' sb => ?_
    have I1 : Inv X pins σ H { s with heap := h' } := I.turned (t' := s.toks) (fun b o hb e => (sb.2 b hb).trans e) f0 f1 f3 f4 f5
    obtain ⟨o, e, c, d⟩ := id st'
    exact ⟨u, rfl, go_of (s := { s with heap := h' }) e c d (by decide) ⟨x, H, I1, ru, ⟨rfl, fun ys hy => by rw [I.list_inj hy hq]; exact hx⟩, st', fun b hb => (hf b hb).1⟩⟩
  done := by
    intro X hP hw hK hc i pins s σ H E I hf st hg
    subst hP hw hK
    obtain ⟨xs, hq, hx⟩ := hg
    obtain ⟨its, rv, p, hz⟩ := I.list hq
    obtain ⟨f0, f1, f2, f3, f4, f5⟩ := hf it (by simp)
    have hl := rv.length
    exact wpAny_pyNext_list_end (I.ok.hd hc) st p.isList (by simp; lia) fun h' eb => ⟨rfl, I.turned (t' := s.toks) (fun b o hb e => eb b o hb e) f0 f1 f3 f4 f5⟩
  self := fun _ _ _ _ _ st h => wpAny_pyIter_listiter st h
theorem turn_range {P : Program} {w : World} {K : PySem.W.Frag} {tg : Expr} (it : Addr) (lo : Int) (n : Nat) : Turn P w K tg (Itr lo n) [it] it (fun i h => IsRangeIter h it (lo + (i : Nat) * 1) ((n : Int) - (i : Nat)) 1) where
  mem := by simp
  obj := fun i h st b hb => by
    have e : b = it := by simpa using hb
    subst e
    exact ⟨_, st, fun v z => by
      have z' : Data.fields _ = Data.cell v := z
      cases z'⟩
  keep := fun i h h' st k => k it (by simp) _ st
  item := by
    intro X hP hw hK hc i pins s σ H E I hf st hg
    subst hP hw hK
    obtain ⟨f0, f1, f2, f3, f4, f5⟩ := hf it (by simp)
    have W := Walks.range (prog := X.prog) (w := X.w) (I.ok.hd hc) it lo 1 n
    refine W.item i s _ _ hg st fun v h' tk hv st' kk => ?_
    obtain ⟨t, rfl⟩ := hv
    have I1 : Inv X pins σ H { s with heap := h', toks := tk } := I.turned (fun b o hb e => kk b o (by simpa using hb) e) f0 f1 f3 f4 f5
    refine ⟨_, rfl, go_of (s := { s with heap := h', toks := tk }) (n := "range_iterator") st' rfl rfl (by decide) ⟨.int (lo + i), H, I1, ⟨t, ?_⟩, ⟨rfl, rfl⟩, st', fun b hb => (hf b hb).1⟩⟩
    rw [Int.mul_one]
  done := by
    intro X hP hw hK hc i pins s σ H E I hf st hg
    subst hP hw hK
    obtain ⟨f0, f1, f2, f3, f4, f5⟩ := hf it (by simp)
    exact wpAny_pyNext_range_end (I.ok.hd hc) st (by have : n ≤ i := hg; lia) fun h' eb => ⟨rfl, I.turned (t' := s.toks) (fun b o hb e => eb b o hb e) f0 f1 f3 f4 f5⟩
  self := fun _ _ _ _ _ st h => wpAny_pyIter_rangeiter st h
end L2

namespace L2
open PySem PySem.Spec PyProof.Rows
section
variable {X : Cx} {tg : Expr}
noncomputable def iList (K : PySem.W.Frag) (tl : TE) : TI := fun σ H R => tl σ H fun x H1 => ∃ a, x = .ref a ∧ (∃ xs, SqL K H1 a xs) ∧ R (Itl K a) H1
theorem pi_list {l : Expr} {tl : TE} (hl : PE X l tl) : PI X tg l (iList X.K tl) := by
  intro pins s σ H R I h
  refine thn (hl pins s σ H _ I h) fun v s1 hz9 => ?_
  obtain ⟨x, H1, I1, r1, q1⟩ := hz9
  obtain ⟨a, e, ⟨xs, hq⟩, q⟩ := q1
  subst e
  cases r1
  obtain ⟨its, rv, p, hz⟩ := I1.list hq
  refine wpAny_pyIter_list p.isList ?_
  refine ⟨s1.heap.objs.size, [s1.heap.objs.size], _, _, H1, rfl, I1.kept (t' := s1.toks) fun b o e => Heap.get?_push_of_some _ e, turn_list a _, ⟨_, Heap.get?_push_size _ rfl, rfl, rfl⟩, fun b hb => ?_, q⟩
  have e : b = s1.heap.objs.size := by simpa using hb
  subst e
  exact I1.fpOk (Nat.le_refl _) (I1.hok.fresh (Nat.le_refl _))
theorem range_it {pins : List (Addr × Obj)} {σ : St} {H : Hp} {s : Shared} {R : It → Hp → Prop} {E : Value → Shared → Prop} {lo hi : Int} {t u v : Tok} {tk : Nat} (I : Inv X pins σ H s) (h1 : -(2 ^ 62) ≤ lo) (h2 : lo < 2 ^ 62) (h3 : -(2 ^ 62) ≤ hi) (h4 : hi < 2 ^ 62)
    (q : R (Itr lo (hi - lo).toNat) H) : wpAny (model X.prog X.w) X.A (pyIter (.ref s.heap.objs.size)) (PIE X pins σ tg R) E { s with heap := s.heap.push { cls := .type "range", data := .fields #[.int lo t, .int hi u, .int 1 v] }, toks := tk } := by
  refine wpAny_pyIter_range (IsRange.new ..) (small_one h1 h2 h3 h4) ?_
  have I1 : Inv X pins σ H { s with heap := s.heap.push { cls := .type "range", data := .fields #[.int lo t, .int hi u, .int 1 v] }, toks := tk } := I.kept fun b o e => Heap.get?_push_of_some _ e
  refine ⟨(s.heap.push { cls := .type "range", data := .fields #[.int lo t, .int hi u, .int 1 v] }).objs.size, [(s.heap.push { cls := .type "range", data := .fields #[.int lo t, .int hi u, .int 1 v] }).objs.size], _, _, H, rfl,
    I1.kept (t' := tk) fun b o e => Heap.get?_push_of_some _ e, turn_range _ lo (hi - lo).toNat, ?_, fun b hb => ?_, q⟩
  · have e1 : lo + ((0 : Nat) : Int) * 1 = lo := by simp
    have e2 : (((hi - lo).toNat : Nat) : Int) - ((0 : Nat) : Int) = Builtin.Range.rangeSize lo hi 1 := by rw [rangeSize_one]; split <;> lia
    show IsRangeIter _ _ (lo + ((0 : Nat) : Int) * 1) ((((hi - lo).toNat : Nat) : Int) - ((0 : Nat) : Int)) 1
    rw [e1, e2]
    exact Heap.get?_push_size _ rfl
  · have e : b = (s.heap.push { cls := .type "range", data := .fields #[.int lo t, .int hi u, .int 1 v] }).objs.size := by simpa using hb
    subst e
    exact I1.fpOk (Nat.le_refl _) (I1.hok.fresh (Nat.le_refl _))
noncomputable def iRng1 (ta : TA) : TI := fun σ H R => ta σ H fun vs H1 => ∃ j : Int, vs = [.int j] ∧ -(2 ^ 62) ≤ j ∧ j < 2 ^ 62 ∧ R (Itr 0 j.toNat) H1
noncomputable def iRng2 (ta : TA) : TI := fun σ H R => ta σ H fun vs H1 => ∃ i j : Int, vs = [.int i, .int j] ∧ (-(2 ^ 62) ≤ i ∧ i < 2 ^ 62 ∧ -(2 ^ 62) ≤ j ∧ j < 2 ^ 62) ∧ R (Itr i (j - i).toNat) H1
theorem pi_range1 {a : Expr} {ta : TA} {p pos : Pos} (hg : Gl X "range") (hm : X.mg "range" = none) (ha : PA X [a] ta) (hs : starEach [a] X.env = [(false, eval a X.env)] := by rfl) : PI X tg (.Call (.Name "range" p) [a] [] pos) (iRng1 ta) := by
  intro pins s σ H R I h
  refine Call_ (ld_blt I hg hm boot_range (PyProof.Rows.callWith_type1 (thn (ha pos pins s σ H _ I h) fun us s1 hz9 => ?_) hs rfl))
  obtain ⟨vs, H1, I1, r1, q1⟩ := hz9
  obtain ⟨j, e, q1, q2, q⟩ := q1
  subst e
  cases r1 with
  | cons r rr =>
    cases rr
    obtain ⟨t, rfl⟩ := r
    exact call_range_1 (range_it I1 (by lia) (by lia) q1 q2 (by simpa using q))
theorem pi_range2 {a b : Expr} {ta : TA} {p pos : Pos} (hg : Gl X "range") (hm : X.mg "range" = none) (ha : PA X [a, b] ta) (hs : starEach [a, b] X.env = [(false, eval a X.env), (false, eval b X.env)] := by rfl) (hs2 : starEach [b] X.env = [(false, eval b X.env)] := by rfl) :
    PI X tg (.Call (.Name "range" p) [a, b] [] pos) (iRng2 ta) := by
  intro pins s σ H R I h
  refine Call_ (ld_blt I hg hm boot_range (PyProof.Rows.callWith_type1 (thn (ha pos pins s σ H _ I h) fun us s1 hz9 => ?_) (by rw [hs, hs2]) (by rw [hs2]; rfl)))
  obtain ⟨vs, H1, I1, r1, q1⟩ := hz9
  obtain ⟨i, j, e, ⟨q1, q2, q3, q4⟩, q⟩ := q1
  subst e
  cases r1 with
  | cons r rr =>
    cases rr with
    | cons r' rr =>
      cases rr
      obtain ⟨t, rfl⟩ := r
      obtain ⟨t', rfl⟩ := r'
      exact call_range_2 (range_it I1 q1 q2 q3 q4 q)

noncomputable def tFor (wi : TI) (g : TG) (tb : TS) : TS := fun D σ H => wi σ H fun J H1 => ∃ W : Nat → Nat → St → Hp → Prop, (∃ m, W 0 m σ H1) ∧ ∀ i m σ H, W i m σ H →
  (J.stop i H ∧ D.nx σ H) ∨ (J.go i H ∧ ∃ N : St → Hp → Prop, (∀ σ' H', N σ' H' → ∃ m', m' < m ∧ W (i + 1) m' σ' H') ∧ ∀ x H', J.yld i H x H' → g x σ H' fun σ2 H2 => tb { D with nx := N, ct := N, bk := D.nx } σ2 H2)
noncomputable def pinsAt (fp : List Addr) (h : Heap) : List (Addr × Obj) := fp.filterMap fun b => (h.get? b).map fun o => (b, o)
theorem mem_pinsAt {fp : List Addr} {h : Heap} {b : Addr} {o : Obj} (hb : b ∈ fp) (e : h.get? b = some o) : (b, o) ∈ pinsAt fp h := List.mem_filterMap.mpr ⟨b, hb, by rw [e]; rfl⟩
theorem of_pinsAt {fp : List Addr} {h : Heap} {p : Addr × Obj} (hp : p ∈ pinsAt fp h) : p.1 ∈ fp ∧ h.get? p.1 = some p.2 := by
  obtain ⟨b, hb, e⟩ := List.mem_filterMap.mp hp
  cases q : h.get? b with
  | none => rw [q] at e; cases e
  | some o =>
    rw [q] at e
    have e' : (b, o) = p := Option.some.inj e
    subst e'
    exact ⟨hb, q⟩
theorem Inv.pinned {pins : List (Addr × Obj)} {σ : St} {H : Hp} {s : Shared} {fp : List Addr} (I : Inv X pins σ H s) (hf : ∀ b ∈ fp, FpOk X pins H b) (ho : ∀ b ∈ fp, ∃ o, s.heap.get? b = some o ∧ ∀ v, o.data ≠ .cell v) : Inv X (pins ++ pinsAt fp s.heap) σ H s :=
  I.pins_of fun p hp => (List.mem_append.mp hp).elim (fun z => I.pin p (List.mem_append_right _ z)) fun z => by
    obtain ⟨hb, e⟩ := of_pinsAt z
    obtain ⟨f0, f1, f2, _⟩ := hf p.1 hb
    obtain ⟨o, e', d⟩ := ho p.1 hb
    rw [e] at e'; cases e'
    exact ⟨e, f0, f1, f2, d⟩
theorem Inv.unpinned {pins pl : List (Addr × Obj)} {σ : St} {H : Hp} {s : Shared} (I : Inv X (pins ++ pl) σ H s) : Inv X pins σ H s := I.pins_of fun p hp => I.pin p (List.mem_append_right _ (List.mem_append_left _ hp))
theorem ps_for {iter : Expr} {body : List Stmt} {wi : TI} {g : TG} {tb : TS} {pos : Pos} (hp : PassesOwn (model X.prog X.w) X.A X.env X.xe) (hc : X.calm = true) (hi : PI X tg iter wi) (hg : PG X tg g) (hb : PSs X body tb)
    (hs : ∀ x, foldedSetIterable iter X.env x = pure x := by intro _; rfl) : PS X (.For tg iter body [] pos) (tFor wi g tb) := by
  intro pins s σ H D I h
  refine wpAny_For (thn (hi pins s σ H _ I h) fun v s1 h1 => thn h1 fun itv s2 h2 => ?_) hs
  obtain ⟨it, fp, tn, J, H2, e, I2, T, st2, f2, W, ⟨m0, w0⟩, turn⟩ := h2
  subst e
  -- what stays true of the iterator's objects through the loop
  have stat : ∀ {H' : Hp}, (∀ b ∈ fp, H' b = none) → ∀ b ∈ fp, FpOk X pins H' b := fun hn b hb => ⟨hn b hb, (f2 b hb).2⟩
  refine codeAny_forLoop_any (fun n s' => ∃ i σ' H', Inv X pins σ' H' s' ∧ tn i s'.heap ∧ (∀ b ∈ fp, H' b = none) ∧ W i n σ' H') ?_ m0 ⟨0, σ, H2, I2, st2, fun b hb => (f2 b hb).1, w0⟩
  rintro n s3 ⟨i, σ3, H3, I3, st3, fr3, w3⟩
  rcases turn i n σ3 H3 w3 with ⟨stop, qn⟩ | ⟨go, N, hN, step⟩
  · refine wpAny_passesOwn hp (thn (T.done X rfl rfl rfl hc i pins s3 σ3 H3 X.xe I3 (stat fr3) st3 stop) fun r s4 hz9 => ?_)
    obtain ⟨hr, I4⟩ := hz9
    subst hr
    exact wpAny_execs_nil ⟨σ3, H3, I4, qn⟩
  · refine wpAny_passesOwn hp (thn (T.item X rfl rfl rfl hc i pins s3 σ3 H3 X.xe I3 (stat fr3) st3 go) fun r s4 hz9 => ?_)
    obtain ⟨u, hr, h4⟩ := hz9
    subst hr
    refine wpAny_passesOwn hp (thn h4 fun _ s5 hz9 => ?_)
    obtain ⟨x, H5, I5, r5, y5, st5, fr5⟩ := hz9
    have I5' := I5.pinned (stat fr5) (T.obj _ _ st5)
    refine wpAny_passesOwn hp (thn (hg _ s5 σ3 H5 x u _ I5' r5 (step x H5 y5)) fun _ s6 hz9 => ?_)
    obtain ⟨σ6, H6, I6, q6⟩ := hz9
    refine wpAny_passesOwn hp (thn (hb _ s6 σ6 H6 _ I6 q6) fun f s7 q7 => ?_)
    have again : ∀ {σ7 : St} {H7 : Hp}, Inv X (pins ++ pinsAt fp s5.heap) σ7 H7 s7 → N σ7 H7 → ∃ m, m < n ∧ ∃ i σ' H', Inv X pins σ' H' s7 ∧ tn i s7.heap ∧ (∀ b ∈ fp, H' b = none) ∧ W i m σ' H' := fun {σ7 H7} I7 n7 => by
      obtain ⟨m', hm, w7⟩ := hN σ7 H7 n7
      refine ⟨m', hm, i + 1, σ7, H7, I7.unpinned, T.keep _ _ _ st5 fun b hb o e => (I7.pin (b, o) (List.mem_append_right _ (List.mem_append_right _ (mem_pinsAt hb e)))).1, fun b hb => ?_, w7⟩
      obtain ⟨o, e, d⟩ := T.obj _ _ st5 b hb
      exact (I7.pin (b, o) (List.mem_append_right _ (List.mem_append_right _ (mem_pinsAt hb e)))).2.1
    cases f with
    | next => obtain ⟨σ7, H7, I7, n7⟩ := q7; exact again I7 n7
    | cont => obtain ⟨σ7, H7, I7, n7⟩ := q7; exact again I7 n7
    | brk => obtain ⟨σ7, H7, I7, q7⟩ := q7; exact ⟨σ7, H7, I7.unpinned, q7⟩
    | ret v => obtain ⟨x7, σ7, H7, I7, r7, q7⟩ := q7; exact ⟨x7, σ7, H7, I7.unpinned, r7, q7⟩
end

end L2

namespace L2
open PySem PySem.Spec PyProof.Rows

noncomputable abbrev R2 := V → V → Hp → VK → Prop
noncomputable def OpR (X : Cx) (f : Value → Value → Sem Value) (r : R2) : Prop :=
  ∀ (pins : List (Addr × Obj)) (s : Shared) (σ : St) (H : Hp) (x y : V) (v u : Value) (Q : VK), Inv X pins σ H s → RelV x v → RelV y u → r x y H Q →
    wpAny (model X.prog X.w) X.A (f v u) (EP X pins σ Q) X.xe s
noncomputable def CallR (X : Cx) (f : Value) (r : List V → Hp → VK → Prop) : Prop :=
  ∀ (pins : List (Addr × Obj)) (s : Shared) (σ : St) (H : Hp) (xs : List V) (us : List Value) (Q : VK), Inv X pins σ H s → Vals xs us → r xs H Q →
    wpAny (model X.prog X.w) X.A (call f us) (EP X pins σ Q) X.xe s
noncomputable def tOp (r : R2) (ta tb : TE) : TE := fun σ H Q => ta σ H fun x H1 => tb σ H1 fun y H2 => r x y H2 Q
noncomputable def rI (C : Int → Int → Prop) (g : Int → Int → V) : R2 := fun x y H Q => ∃ i j, x = .int i ∧ y = .int j ∧ C i j ∧ Q (g i j) H
noncomputable def rI0 (g : Int → Int → V) : R2 := fun x y H Q => ∃ i j, x = .int i ∧ y = .int j ∧ Q (g i j) H
section
variable {X : Cx} {a b c : Expr} {ta tb tc : TE} {pos : Pos}

theorem binT (ha : PE X a ta) (hb : PE X b tb) {pins : List (Addr × Obj)} {s : Shared} {σ : St} {H : Hp} {R : V → V → Hp → Prop} (I : Inv X pins σ H s)
    (h : ta σ H fun x H1 => tb σ H1 fun y H2 => R x y H2) {Q : Value → Shared → Prop} {f : Value → Value → Sem Value}
    (hf : ∀ v u s2 x y H2, Inv X pins σ H2 s2 → RelV x v → RelV y u → R x y H2 → wpAny (model X.prog X.w) X.A (f v u) Q X.xe s2) :
    wpAny (model X.prog X.w) X.A (eval a X.env) (fun v s₁ => wpAny (model X.prog X.w) X.A (eval b X.env) (fun u s₂ => wpAny (model X.prog X.w) X.A (f v u) Q X.xe s₂) X.xe s₁) X.xe s := by
  refine thn (ha pins s σ H _ I h) fun v s1 hz9 => ?_
  obtain ⟨x, H1, I1, r1, q1⟩ := hz9
  refine thn (hb pins s1 σ H1 _ I1 q1) fun u s2 hz9 => ?_
  obtain ⟨y, H2, I2, r2, q2⟩ := hz9
  exact hf v u s2 x y H2 I2 r1 r2 q2

theorem pe_op {op : Operator} {r : R2} (ho : OpR X (binaryOp op) r) (ha : PE X a ta) (hb : PE X b tb) : PE X (.BinOp a op b pos) (tOp r ta tb) := by
  intro pins s σ H Q I h
  exact wpAny_BinOp (binT ha hb I h fun v u s2 x y H2 I2 rx ry q => ho pins s2 σ H2 x y v u Q I2 rx ry q)
theorem opI {f : Value → Value → Sem Value} {C : Int → Int → Prop} {g : Int → Int → Int}
    (rule : ∀ (i j : Int) (t u : Tok) (s : Shared) (Q : Value → Shared → Prop) (E : Value → Shared → Prop), C i j → Q (.int (g i j) s.toks) { s with toks := s.toks + 1 } → wpAny (model X.prog X.w) X.A (f (.int i t) (.int j u)) Q E s) :
    OpR X f (rI C fun i j => .int (g i j)) := by
  intro pins s σ H x y v u Q I rx ry h
  obtain ⟨i, j, rfl, rfl, hc, q⟩ := h
  obtain ⟨t, rfl⟩ := rx
  obtain ⟨t', rfl⟩ := ry
  exact rule i j t t' s _ _ hc ⟨.int (g i j), H, I.tok _, ⟨_, rfl⟩, q⟩
theorem opI0 {f : Value → Value → Sem Value} {g : Int → Int → Int}
    (rule : ∀ (i j : Int) (t u : Tok) (s : Shared) (Q : Value → Shared → Prop) (E : Value → Shared → Prop), Q (.int (g i j) s.toks) { s with toks := s.toks + 1 } → wpAny (model X.prog X.w) X.A (f (.int i t) (.int j u)) Q E s) :
    OpR X f (rI0 fun i j => .int (g i j)) := by
  intro pins s σ H x y v u Q I rx ry h
  obtain ⟨i, j, rfl, rfl, q⟩ := h
  obtain ⟨t, rfl⟩ := rx
  obtain ⟨t', rfl⟩ := ry
  exact rule i j t t' s _ _ ⟨.int (g i j), H, I.tok _, ⟨_, rfl⟩, q⟩
theorem opB0 {f : Value → Value → Sem Value} {g : Int → Int → Bool}
    (rule : ∀ (i j : Int) (t u : Tok) (s : Shared) (Q : Value → Shared → Prop) (E : Value → Shared → Prop), Q (.bool (g i j)) s → wpAny (model X.prog X.w) X.A (f (.int i t) (.int j u)) Q E s) :
    OpR X f (rI0 fun i j => .bl (g i j)) := by
  intro pins s σ H x y v u Q I rx ry h
  obtain ⟨i, j, rfl, rfl, q⟩ := h
  obtain ⟨t, rfl⟩ := rx
  obtain ⟨t', rfl⟩ := ry
  exact rule i j t t' s _ _ ⟨.bl (g i j), H, I, rfl, q⟩

noncomputable def CDiv (i j : Int) : Prop := 0 < j ∧ j < 1073741824
noncomputable def CPow (i j : Int) : Prop := 0 ≤ j ∧ j ≤ 1000000 ∧ i.natAbs < 2 ^ 64
noncomputable def CMul (i j : Int) : Prop := (-(2 ^ 64) < i ∧ i < 2 ^ 64) ∨ (-(2 ^ 64) < j ∧ j < 2 ^ 64)
theorem CMul.ok {i j : Int} (h : CMul i j) : IntMulOk i j := by
  rcases h with ⟨h1, h2⟩ | ⟨h1, h2⟩
  · exact .of_left (intBits_le_64 h1 h2)
  · exact .of_right (intBits_le_64 h1 h2)
theorem op_add : OpR X (binaryOp .Add) (rI0 fun i j => .int (i + j)) := opI0 fun _ _ _ _ _ _ _ q => add_int q
theorem op_sub : OpR X (binaryOp .Sub) (rI0 fun i j => .int (i - j)) := opI0 fun _ _ _ _ _ _ _ q => sub_int q
theorem op_mul : OpR X (binaryOp .Mult) (rI CMul fun i j => .int (i * j)) := opI fun _ _ _ _ _ _ _ hc q => mul_int q hc.ok
theorem op_fdiv : OpR X (binaryOp .FloorDiv) (rI CDiv fun i j => .int (i / j)) := opI fun i j _ _ _ _ _ hc q => by
  have h1 : (0 : Int) < j := hc.1
  have h2 : j < 1073741824 := hc.2
  exact floordiv_int (by lia) (by rw [Int.fdiv_eq_ediv_of_nonneg i (by lia)]; exact q) (.inl (PyProof.noPylong_small (by omega)))
theorem op_mod : OpR X (binaryOp .Mod) (rI (fun _ j => 0 < j) fun i j => .int (i % j)) := opI fun i j _ _ _ _ _ hc q => by
  have h1 : (0 : Int) < j := hc
  exact mod_int' (by lia) (by rw [Int.fmod_eq_emod_of_nonneg i (by lia)]; exact q)
theorem op_pow : OpR X (binaryOp .Pow) (rI CPow fun i j => .int (i ^ j.toNat)) := opI fun _ _ _ _ _ _ _ hc q => pow_int_small hc.1 hc.2.1 hc.2.2 q
end

noncomputable def scal : V → V → Bool
  | .non, .non => true | .non, .int _ => true | .int _, .non => true | .non, .bl _ => true | .bl _, .non => true | .non, .str _ => true | .str _, .non => true
  | .int _, .int _ => true | .bl _, .bl _ => true | .str _, .str _ => true | .byt _, .byt _ => true
  | .int _, .str _ => true | .str _, .int _ => true | .bl _, .str _ => true | .str _, .bl _ => true
  | _, _ => false
noncomputable def rEq : R2 := fun x y H Q => scal x y = true ∧ Q (.bl (decide (x = y))) H
noncomputable def rNe : R2 := fun x y H Q => scal x y = true ∧ Q (.bl (!decide (x = y))) H

theorem dec_int {i j : Int} : decide (V.int i = V.int j) = (i == j) := by
  rw [Bool.eq_iff_iff]
  simp
theorem dec_bl {i j : Bool} : decide (V.bl i = V.bl j) = (i == j) := by
  rw [Bool.eq_iff_iff]
  simp
theorem dec_str {i j : Str} : decide (V.str i = V.str j) = (i == j) := by
  rw [Bool.eq_iff_iff]
  simp
theorem dec_byt {i j : Array UInt8} : decide (V.byt i = V.byt j) = (i.toList == j.toList) := by
  rw [Bool.eq_iff_iff]
  cases i
  cases j
  simp

section
variable {X : Cx} {a b c : Expr} {ta tb tc : TE} {pos : Pos}
theorem fin_bl {pins : List (Addr × Obj)} {σ : St} {H : Hp} {s : Shared} {Q : VK} {k k' : Bool} (I : Inv X pins σ H s) (q : Q (.bl k) H) (e : k = k') : EP X pins σ Q (.bool k') s := by
  subst e
  exact ⟨.bl k, H, I, rfl, q⟩
theorem op_eq : OpR X (compareOp .Eq) rEq := by
  intro pins s σ H x y v u Q I rx ry h
  obtain ⟨hs, q⟩ := h
  cases x with
  | non =>
    cases rx
    cases y with
    | non => cases ry; exact PySem.EqNone.eq_none_none (fin_bl I q (by simp))
    | bl j => cases ry; exact PySem.EqNone.eq_none_bool (fin_bl I q (by simp))
    | int j => obtain ⟨t', rfl⟩ := ry; exact PySem.EqNone.eq_none_int (fin_bl I q (by simp))
    | str j => obtain ⟨t', rfl⟩ := ry; exact PySem.EqNone.eq_none_str (fin_bl I q (by simp))
    | _ => exact absurd (show false = true from hs) Bool.false_ne_true
  | bl i =>
    cases rx
    cases y with
    | non => cases ry; exact PySem.EqNone.eq_bool_none (fin_bl I q (by simp))
    | bl j => cases ry; exact eq_bool (fin_bl I q dec_bl)
    | str j => obtain ⟨t', rfl⟩ := ry; exact PySem.EqMixed.eq_bool_str (fin_bl I q (by simp))
    | _ => exact absurd (show false = true from hs) Bool.false_ne_true
  | int i =>
    obtain ⟨t, rfl⟩ := rx
    cases y with
    | non => cases ry; exact PySem.EqNone.eq_int_none (fin_bl I q (by simp))
    | int j => obtain ⟨t', rfl⟩ := ry; exact eq_int (fin_bl I q dec_int)
    | str j => obtain ⟨t', rfl⟩ := ry; exact PySem.EqMixed.eq_int_str (fin_bl I q (by simp))
    | _ => exact absurd (show false = true from hs) Bool.false_ne_true
  | str i =>
    obtain ⟨t, rfl⟩ := rx
    cases y with
    | non => cases ry; exact PySem.EqNone.eq_str_none (fin_bl I q (by simp))
    | bl j => cases ry; exact PySem.EqMixed.eq_str_bool (fin_bl I q (by simp))
    | int j => obtain ⟨t', rfl⟩ := ry; exact PySem.EqMixed.eq_str_int (fin_bl I q (by simp))
    | str j => obtain ⟨t', rfl⟩ := ry; exact eq_str (fin_bl I q dec_str)
    | _ => exact absurd (show false = true from hs) Bool.false_ne_true
  | byt i =>
    obtain ⟨t, rfl⟩ := rx
    cases y with
    | byt j => obtain ⟨t', rfl⟩ := ry; exact PySem.W.eq_bytes (fin_bl I q dec_byt)
    | _ => exact absurd (show false = true from hs) Bool.false_ne_true
  | _ => cases y <;> exact absurd (show false = true from hs) Bool.false_ne_true
theorem op_ne : OpR X (compareOp .NotEq) rNe := by
  intro pins s σ H x y v u Q I rx ry h
  obtain ⟨hs, q⟩ := h
  cases x with
  | non =>
    cases rx
    cases y with
    | non => cases ry; exact PySem.EqNone.ne_none_none (fin_bl I q (by simp))
    | bl j => cases ry; exact PySem.EqNone.ne_none_bool (fin_bl I q (by simp))
    | int j => obtain ⟨t', rfl⟩ := ry; exact PySem.EqNone.ne_none_int (fin_bl I q (by simp))
    | str j => obtain ⟨t', rfl⟩ := ry; exact PySem.EqNone.ne_none_str (fin_bl I q (by simp))
    | _ => exact absurd (show false = true from hs) Bool.false_ne_true
  | bl i =>
    cases rx
    cases y with
    | non => cases ry; exact PySem.EqNone.ne_bool_none (fin_bl I q (by simp))
    | bl j => cases ry; exact ne_bool (fin_bl I q (congrArg not dec_bl))
    | str j => obtain ⟨t', rfl⟩ := ry; exact PySem.EqMixed.ne_bool_str (fin_bl I q (by simp))
    | _ => exact absurd (show false = true from hs) Bool.false_ne_true
  | int i =>
    obtain ⟨t, rfl⟩ := rx
    cases y with
    | non => cases ry; exact PySem.EqNone.ne_int_none (fin_bl I q (by simp))
    | int j => obtain ⟨t', rfl⟩ := ry; exact ne_int (fin_bl I q (congrArg not dec_int))
    | str j => obtain ⟨t', rfl⟩ := ry; exact PySem.EqMixed.ne_int_str (fin_bl I q (by simp))
    | _ => exact absurd (show false = true from hs) Bool.false_ne_true
  | str i =>
    obtain ⟨t, rfl⟩ := rx
    cases y with
    | non => cases ry; exact PySem.EqNone.ne_str_none (fin_bl I q (by simp))
    | bl j => cases ry; exact PySem.EqMixed.ne_str_bool (fin_bl I q (by simp))
    | int j => obtain ⟨t', rfl⟩ := ry; exact PySem.EqMixed.ne_str_int (fin_bl I q (by simp))
    | str j => obtain ⟨t', rfl⟩ := ry; exact ne_str (fin_bl I q (congrArg not dec_str))
    | _ => exact absurd (show false = true from hs) Bool.false_ne_true
  | byt i =>
    obtain ⟨t, rfl⟩ := rx
    cases y with
    | byt j => obtain ⟨t', rfl⟩ := ry; exact PySem.W.ne_bytes (fin_bl I q (congrArg not dec_byt))
    | _ => exact absurd (show false = true from hs) Bool.false_ne_true
  | _ => cases y <;> exact absurd (show false = true from hs) Bool.false_ne_true

theorem op_lt : OpR X (compareOp .Lt) (rI0 fun i j => .bl (decide (i < j))) := opB0 fun _ _ _ _ _ _ _ q => lt_int q
theorem op_gt : OpR X (compareOp .Gt) (rI0 fun i j => .bl (decide (j < i))) := opB0 fun _ _ _ _ _ _ _ q => gt_int q
theorem nomark (b : Expr) {op : CmpOp} (h : op ≠ .In := by decide) (h2 : op ≠ .NotIn := by decide) : behindInMarks op b = false := by
  have e1 : (op == CmpOp.In) = false := by cases op <;> first | rfl | exact absurd rfl h
  have e2 : (op == CmpOp.NotIn) = false := by cases op <;> first | rfl | exact absurd rfl h2
  cases b <;> simp [behindInMarks, e1, e2]
theorem pe_cmpR {op : CmpOp} {r : R2} (ho : OpR X (compareOp op) r) (ha : PE X a ta) (hb : PE X b tb) (hm : behindInMarks op b = false) : PE X (.Compare a [op] [b] pos) (tOp r ta tb) := by
  intro pins s σ H Q I h
  exact wpAny_Compare1 (binT ha hb I h fun v u s2 x y H2 I2 rx ry q => ho pins s2 σ H2 x y v u Q I2 rx ry q) hm
noncomputable def tTest (t : TE) : TT := fun σ H Q => t σ H fun x H' => ∃ k, x = .bl k ∧ Q k H'
theorem pt_cmpR {op : CmpOp} {r : R2} (ho : OpR X (compareOp op) r) (ha : PE X a ta) (hb : PE X b tb) (hm : behindInMarks op b = false) : PT X (.Compare a [op] [b] pos) (tTest (tOp r ta tb)) := by
  intro pins s σ H Q I h
  refine wpAny_isTrue_Compare1 (thn (ha pins s σ H _ I h) fun v s1 ⟨x, H1, I1, r1, q1⟩ => thn (hb pins s1 σ H1 _ I1 q1) fun u s2 ⟨y, H2, I2, r2, q2⟩ =>
    thn (ho pins s2 σ H2 x y v u _ I2 r1 r2 q2) fun c s3 ⟨z, H3, I3, r3, k, e, q3⟩ => ?_) hm
  subst e
  cases r3
  exact wpAny_truthy_bool ⟨H3, I3, q3⟩
theorem line63 : (sizeLine : Nat) < 2 ^ 63 := by rw [sizeLine_eq]; decide
theorem op_add_str : OpR X (binaryOp .Add) (fun x y H Q => ∃ i j, x = .str i ∧ y = .str j ∧ i.length + j.length ≤ sizeLine ∧ Q (.str (i ++ j)) H) := by
  intro pins s σ H x y v u Q I rx ry h
  obtain ⟨i, j, rfl, rfl, hz, q⟩ := h
  obtain ⟨t, rfl⟩ := rx
  obtain ⟨t', rfl⟩ := ry
  exact add_str (fun t' tk => ⟨.str (i ++ j), H, I.tok _, ⟨_, rfl⟩, q⟩) hz
theorem vals1 {x : V} {us : List Value} (r : Vals [x] us) : ∃ u, us = [u] ∧ RelV x u := by
  cases r with
  | cons r1 r2 => cases r2; exact ⟨_, rfl, r1⟩
theorem vals2 {x y : V} {us : List Value} (r : Vals [x, y] us) : ∃ u w', us = [u, w'] ∧ RelV x u ∧ RelV y w' := by
  cases r with
  | cons r1 r2 =>
    cases r2 with
    | cons r3 r4 => cases r4; exact ⟨_, _, rfl, r1, r3⟩
end
end L2

namespace L2
open PySem PySem.Spec PyProof.Rows

structure ObjM (h : Heap) (x dx C : Addr) (mA : Str → Option Value) : Prop where
  obj : h.get? x = some (PySem.W.instObj C dx)
  ns : h.Ns1 dx mA
  ne : dx ≠ x

theorem lookIn_ns {h : Heap} {dx : Addr} {mA : Str → Option Value} (n : h.Ns1 dx mA) : ∃ od, h.get? dx = some od ∧ ∀ name, PySem.W.lookIn name od = some (mA name) := by
  obtain ⟨o, es, ep, ho, hd, hk, _, hm⟩ := n
  refine ⟨o, ho, fun name => ?_⟩
  have e := hm name
  unfold nsFind findBy at e
  rw [← Array.find?_toList] at e
  unfold PySem.W.lookIn
  rw [hd]
  dsimp only
  split
  · rename_i y q
    rw [q] at e
    exact congrArg some e
  · rename_i q
    rw [q] at e
    have a : es.toList.any (·.refKey) = false := by
      rw [List.any_eq_false]
      intro y hy
      obtain ⟨z, t, hkey⟩ := hk y (Array.mem_toList_iff.mp hy)
      simp [DictEntry.refKey, hkey]
    have a' : ¬ es.toList.any (·.refKey) = true := by rw [a]; exact Bool.false_ne_true
    rw [if_neg a']
    exact congrArg some e

theorem ObjM.look {h : Heap} {x dx C : Addr} {mA : Str → Option Value} (I : ObjM h x dx C mA) : ∃ od, PySem.W.InstAt h x (PySem.W.instObj C dx) C (some od) ∧ ∀ name, PySem.W.lookIn name od = some (mA name) :=
  let ⟨od, ho, hl⟩ := lookIn_ns I.ns
  ⟨od, ⟨I.obj, rfl, rfl, ho⟩, hl⟩

section
variable {prog : Program} {w : World} {A : Around} {E : Value → Shared → Prop} {s : Shared} {K : PySem.W.Frag} {x dx C f : Addr} {mA : Str → Option Value} {name : Str} {v : Value}

theorem get_map {expr : Bool} {Q : Value → Shared → Prop} (X : K.In s.heap) (I : ObjM s.heap x dx C mA) (hg : PySem.W.plainGet K C name = true) (hh : PySem.W.hasDictIn K C = true)
    (ha : PySem.W.findIn K (.ref C) name = some none) (hv : mA name = some v) (hv' : PySem.W.handedIn v = true) (h : Q v { s with toks := s.toks + 1 }) :
    wpAny (model prog w) A (getAttr (.ref x) name expr) Q E s := by
  obtain ⟨od, J, hl⟩ := I.look
  exact PySem.W.get_value X J (PySem.W.plainGet_of hg).1 (PySem.W.findObj_own hh ha rfl (by rw [hl, hv])) hv' h

theorem get_meth {pl : Sem Bool} {Q : Value × List Value → Shared → Prop} (X : K.In s.heap) (I : ObjM s.heap x dx C mA) (hg : PySem.W.plainGet K C name = true)
    (hf : PySem.W.findIn K (.ref C) name = some (some (.ref f))) (ht : PySem.W.isFn K (.ref f) = true) (hv : mA name = none) (h : Q (.ref f, [.ref x]) s) :
    wpAny (model prog w) A (getMethod (.ref x) name pl) Q E s := by
  obtain ⟨od, J, hl⟩ := I.look
  exact PySem.W.method_fn X J (PySem.W.plainGet_of hg).1 (PySem.W.plainGet_of hg).2 hf (beq_iff_eq.mp ht) (by show (PySem.W.lookIn name od).map (·.isSome) = some false; rw [hl, hv]; rfl) h

theorem set_map {ns : List Str} {Q : Unit → Shared → Prop} (X : K.In s.heap) (I : ObjM s.heap x dx C mA)
    (hs : PySem.W.findIn K (.ref C) "__setattr__" = some (some (.builtin "object.__setattr__"))) (hp : PySem.W.plainOver K C = true) (ht : PySem.W.takerIn K C name = some none) (hh : PySem.W.hasDictIn K C = true)
    (hw : PySem.Within mA ns) (hsz : ns.length ≤ sizeLine)
    (h : ∀ h', ObjM h' x dx C (fun y => if y = name then some v else mA y) → Heap.SameBut dx s.heap h' → Q () { s with heap := h', toks := s.toks + 2 }) :
    wpAny (model prog w) A (setAttr (.ref x) name v) Q E s := by
  obtain ⟨od, J, hl⟩ := I.look
  refine PySem.W.set_plain X J hs (PySem.W.osa_open (s := { s with toks := s.toks + 1 }) (r := none) X J hp ht fun b => ?_)
  obtain ⟨cd, hc, hd'⟩ := PySem.W.any_some hh
  have hx : s.heap.get? x = some ⟨.ref C, some dx, .plain, #[]⟩ := I.obj
  refine wpAny_bind (wpAny_pure (wpAny_bind (wpAny_bind (wpAny_loadPart hx (wpAny_bind (PySem.W.Looks.here (s := { s with toks := s.toks + 1 }) (PySem.W.looks_clsIn X hc) ?_))))))
  rw [hd']
  refine wpAny_pure (a := some dx) (wpAny_bind (wpAny_pure (wpAny_bind ?_)))
  refine wpAny_nsSet1 (s := { s with toks := s.toks + 1 }) I.ns fun h' hn2 hs2 => ?_
  obtain ⟨oD, esD, epD, hoD, hdD, hcD⟩ := hn2.count (PySem.Within.cons name v hw)
  refine wpAny_bind (wpAny_lookBehind hoD (by rw [hdD]; exact pastItsLine_dict (Nat.le_trans hcD (by rw [List.length_cons]; lia))) ?_)
  exact wpAny_pure (h _ ⟨(hs2.2 _ (Ne.symm I.ne)).trans I.obj, hn2, I.ne⟩ hs2)

theorem make_map {R : Result → Shared → Prop} {vs : List Value} {kw : List (Str × Value)} (X : K.In s.heap) (hm : PySem.W.makesIn K C = true)
    (hi : PySem.W.findIn K (.ref C) "__init__" = some (some (.ref f))) (hf : PySem.W.typeIn K (.ref f) = some (.type "function"))
    (h : codeAny (model prog w) (A.under (.builtin "type.__call__" ⟨.ref C :: vs, kw⟩)) (.call (.ref f) ⟨.ref (s.heap.objs.size + 1) :: vs, kw⟩) (PySem.W.InitBack (s.heap.objs.size + 1) R)
      { s with heap := (s.heap.push PySem.W.emptyDict).push (PySem.W.instObj C s.heap.objs.size) }) :
    codeAny (model prog w) A (.call (.ref C) ⟨vs, kw⟩) R s := by
  obtain ⟨hh, g, d, t, os⟩ := s
  exact PySem.W.make_core (PySem.W.makes_of X hm) (PySem.W.looks_findIn X hi) (fun self => PySem.W.bind_fn X self hf) (.inl rfl) h
end

noncomputable def putF (f : Str) (v : V) : List (Str × V) → List (Str × V)
  | [] => [(f, v)]
  | (g, x) :: r => if g = f then (g, v) :: r else (g, x) :: putF f v r
theorem lookup_putF (f g : Str) (v : V) : ∀ fs : List (Str × V), (putF f v fs).lookup g = if g = f then some v else fs.lookup g
  | [] => by
    show List.lookup g [(f, v)] = _
    by_cases h : g = f
    · have hb : (g == f) = true := beq_iff_eq.mpr h
      simp only [List.lookup, hb, if_pos h]
    · have hb : (g == f) = false := beq_eq_false_iff_ne.mpr h
      simp only [List.lookup, hb, if_neg h]
  | (k, x) :: r => by
    have ih := lookup_putF f g v r
    rw [show putF f v ((k, x) :: r) = (if k = f then (k, v) :: r else (k, x) :: putF f v r) from rfl]
    by_cases hk : k = f
    · rw [if_pos hk]
      by_cases h : g = k
      · have hb : (g == k) = true := beq_iff_eq.mpr h
        simp only [List.lookup, hb, if_pos (h.trans hk)]
      · have hb : (g == k) = false := beq_eq_false_iff_ne.mpr h
        simp only [List.lookup, hb, if_neg (fun e : g = f => h (e.trans hk.symm))]
    · rw [if_neg hk]
      by_cases h : g = k
      · have hb : (g == k) = true := beq_iff_eq.mpr h
        simp only [List.lookup, hb, if_neg (fun e : g = f => hk (h.symm.trans e))]
      · have hb : (g == k) = false := beq_eq_false_iff_ne.mpr h
        simp only [List.lookup, hb]
        exact ih
theorem keys_putF (f : Str) (v : V) : ∀ fs : List (Str × V), f ∈ (putF f v fs).map (·.1) ∧ ∀ g, g ∈ fs.map (·.1) → g ∈ (putF f v fs).map (·.1)
  | [] => ⟨by simp [putF], fun g h => by simp at h⟩
  | (k, x) :: r => by
    obtain ⟨i1, i2⟩ := keys_putF f v r
    rw [show putF f v ((k, x) :: r) = (if k = f then (k, v) :: r else (k, x) :: putF f v r) from rfl]
    by_cases hk : k = f
    · rw [if_pos hk]
      subst hk
      exact ⟨by simp, fun g h => by simpa using h⟩
    · rw [if_neg hk]
      refine ⟨?_, fun g h => ?_⟩
      · rw [List.map_cons]
        exact List.mem_cons_of_mem _ i1
      · rw [List.map_cons] at h ⊢
        rcases List.mem_cons.mp h with e | e
        · exact List.mem_cons.mpr (.inl e)
        · exact List.mem_cons_of_mem _ (i2 g e)
theorem length_putF (f : Str) (v : V) : ∀ fs : List (Str × V), (putF f v fs).length ≤ fs.length + 1
  | [] => by simp [putF]
  | (k, x) :: r => by
    have ih := length_putF f v r
    rw [show putF f v ((k, x) :: r) = (if k = f then (k, v) :: r else (k, x) :: putF f v r) from rfl]
    by_cases hk : k = f
    · rw [if_pos hk, List.length_cons, List.length_cons]; lia
    · rw [if_neg hk, List.length_cons, List.length_cons]; lia

theorem RelO.some_of {v : V} {o : Option Value} (r : RelO (some v) o) : ∃ u, o = some u ∧ RelV v u := by
  cases o with
  | none => exact (show False from r).elim
  | some u => exact ⟨u, rfl, r⟩
theorem RelO.none_of {o : Option Value} (r : RelO none o) : o = none := by
  cases o with
  | none => rfl
  | some u => exact (show False from r).elim
theorem handed_of {v : V} {u : Value} (r : RelV v u) : PySem.W.handedIn u = true := by
  cases v with
  | non => cases (show u = Value.none from r); rfl
  | bl b => cases (show u = Value.bool b from r); rfl
  | int i => obtain ⟨t, e⟩ := (show ∃ t, u = Value.int i t from r); cases e; rfl
  | str x => obtain ⟨t, e⟩ := (show ∃ t, u = Value.str x t from r); cases e; rfl
  | byt b => obtain ⟨t, e⟩ := (show ∃ t, u = Value.bytes b t from r); cases e; rfl
  | flt b => obtain ⟨t, e⟩ := (show ∃ t, u = Value.float b t from r); cases e; rfl
  | ref a => cases (show u = Value.ref a from r); rfl
  | ty n => cases (show u = Value.type n from r); rfl

section
variable {P : Program} {w : World} {H H' : Hp} {h h' : Heap} {a C dx : Addr} {fs fs' : List (Str × V)}
theorem ins_get (hok : HOk P w H h) (e : H a = some (.ins C dx fs)) : ∃ mA, ObjM h a dx C mA ∧ (∀ f, RelO (fs.lookup f) (mA f)) ∧ PySem.Within mA (fs.map (·.1)) ∧ fs.length ≤ 1000 ∧ H dx = some (.own a) := by
  obtain ⟨d, z, ne, ob, mA, n, r, q⟩ := (show ObjOk P w H h a (.ins C dx fs) from hok a _ e)
  exact ⟨mA, ⟨ob, n, ne⟩, r, q, z, d⟩
end

structure Cls (K : PySem.W.Frag) (C : Addr) : Prop where
  pg : PySem.W.plainGet K C Str.empty = true
  hd : PySem.W.hasDictIn K C = true
  po : PySem.W.plainOver K C = true
  sa : PySem.W.findIn K (.ref C) "__setattr__" = some (some (.builtin "object.__setattr__"))
theorem Cls.get {K : PySem.W.Frag} {C : Addr} (c : Cls K C) (f : Str) : PySem.W.plainGet K C f = true := c.pg
noncomputable def NoAttr (K : PySem.W.Frag) (C : Addr) (f : Str) : Prop := PySem.W.findIn K (.ref C) f = some none
theorem NoAttr.taker {K : PySem.W.Frag} {C : Addr} {f : Str} (n : NoAttr K C f) : PySem.W.takerIn K C f = some none := by
  unfold PySem.W.takerIn
  rw [show PySem.W.findIn K (.ref C) f = some none from n]
  rfl
structure Con (K : PySem.W.Frag) (C : Addr) (f : Str) (v : V) (u : Value) : Prop where
  at_ : PySem.W.findIn K (.ref C) f = some (some u)
  rel : RelV v u
  get : PySem.W.specialIn K u "__get__" = some none
  cp : PySem.W.copiedNames.contains f = false
structure Meth (K : PySem.W.Frag) (C : Addr) (m : Str) (f : Addr) : Prop where
  at_ : PySem.W.findIn K (.ref C) m = some (some (.ref f))
  fn : PySem.W.isFn K (.ref f) = true
  kp : PySem.W.keepIn K (.ref f) = true

section
variable {X : Cx} {pins : List (Addr × Obj)} {σ : St} {H : Hp} {s : Shared} {a C dx : Addr} {fs : List (Str × V)} {f : Str} {v : V} {A : Around} {E : Value → Shared → Prop}

theorem getattr_ok {b : Bool} {Q : Value → Shared → Prop} (I : Inv X pins σ H s) (e : H a = some (.ins C dx fs)) (c : Cls X.K C) (n : NoAttr X.K C f) (l : fs.lookup f = some v)
    (h : ∀ u s', Inv X pins σ H s' → RelV v u → Q u s') : wpAny (model X.prog X.w) A (getAttr (.ref a) f b) Q E s := by
  obtain ⟨mA, O, r, _, _, _⟩ := ins_get I.hok e
  obtain ⟨u, hu, ru⟩ := RelO.some_of (v := v) (o := mA f) (by rw [← l]; exact r f)
  exact get_map I.kIn O (c.get f) c.hd n hu (handed_of ru) (h u _ (I.tok _) ru)

theorem getmeth_ok {m : Str} {g : Addr} {pl : Sem Bool} {Q : Value × List Value → Shared → Prop} (I : Inv X pins σ H s) (e : H a = some (.ins C dx fs)) (c : Cls X.K C) (k : Meth X.K C m g) (l : fs.lookup m = none)
    (h : Q (.ref g, [.ref a]) s) : wpAny (model X.prog X.w) A (getMethod (.ref a) m pl) Q E s := by
  obtain ⟨mA, O, r, _, _, _⟩ := ins_get I.hok e
  have hn : mA m = none := RelO.none_of (by rw [← l]; exact r m)
  exact get_meth I.kIn O (c.get m) k.at_ k.fn hn h

theorem setattr_ok {y : V} {u : Value} {Q : Unit → Shared → Prop} (I : Inv X pins σ H s) (e : H a = some (.ins C dx fs)) (c : Cls X.K C) (n : NoAttr X.K C f) (hl : fs.length < 1000) (ry : RelV y u)
    (h : ∀ s', Inv X pins σ (upd H a (.ins C dx (putF f y fs))) s' → Q () s') : wpAny (model X.prog X.w) A (setAttr (.ref a) f u) Q E s := by
  obtain ⟨mA, O, r, wi, _, ho⟩ := ins_get I.hok e
  have hz : (fs.map (·.1)).length ≤ sizeLine := by rw [List.length_map, sizeLine_eq]; lia
  refine set_map I.kIn O c.sa c.po n.taker c.hd wi hz fun h' O' sb => h _ ?_
  have hd : ∃ o, h'.get? dx = some o := let ⟨o, _, _, e', _⟩ := O'.ns; ⟨o, e'⟩
  refine I.write (x := a) (e := dx) (by rw [e]; exact True.intro) (.inr ho) (fun b q hb z => (sb.2 b hb).trans z) hd ?_
  refine ⟨by rw [upd_ne O.ne]; exact ho, ?_, O.ne, O'.obj, _, O'.ns, fun g => ?_, fun g hg => ?_⟩
  · have := length_putF f y fs; lia
  · show RelO ((putF f y fs).lookup g) (if g = f then some u else mA g)
    rw [lookup_putF]
    by_cases q : g = f
    · rw [if_pos q, if_pos q]; exact ry
    · rw [if_neg q, if_neg q]; exact r g
  · by_cases q : g = f
    · rw [q]; exact (keys_putF f y fs).1
    · refine (keys_putF f y fs).2 g (wi g fun z => hg ?_)
      show (if g = f then some u else mA g) = none
      rw [if_neg q]; exact z

theorem Inv.made (I : Inv X pins σ H s) : Inv X pins σ (upd (upd H s.heap.objs.size (.own (s.heap.objs.size + 1))) (s.heap.objs.size + 1) (.ins C s.heap.objs.size []))
    { s with heap := (s.heap.push PySem.W.emptyDict).push (PySem.W.instObj C s.heap.objs.size) } := by
  have e1 : (s.heap.push PySem.W.emptyDict).get? s.heap.objs.size = some PySem.W.emptyDict := Heap.get?_push_size s.heap rfl
  have e2 : ((s.heap.push PySem.W.emptyDict).push (PySem.W.instObj C s.heap.objs.size)).get? (s.heap.objs.size + 1) = some (PySem.W.instObj C s.heap.objs.size) := by
    have := Heap.get?_push_size (s.heap.push PySem.W.emptyDict) (o := PySem.W.instObj C s.heap.objs.size) rfl
    rwa [Heap.size_push] at this
  have e3 : (s.heap.push PySem.W.emptyDict).Ns s.heap.objs.size (fun _ => none) := ⟨PySem.W.emptyDict, #[], _, e1, rfl, (fun e he => absurd he (by simp)), fun _ => rfl⟩
  have I1 := I.laid (a := s.heap.objs.size) (o := .own (s.heap.objs.size + 1)) (h' := s.heap.push PySem.W.emptyDict) (t' := s.toks) (fun b u q => Heap.get?_push_of_some _ q) (Nat.le_refl _) ⟨_, e1⟩
  refine I1.laid (a := s.heap.objs.size + 1) (o := .ins C s.heap.objs.size []) (t' := s.toks) (fun b u q => Heap.get?_push_of_some _ q) (Nat.le_of_eq (Heap.size_push _ _)) ?_
  have ne : s.heap.objs.size ≠ s.heap.objs.size + 1 := Nat.ne_of_lt (Nat.lt_succ_self _)
  refine ⟨by rw [upd_ne ne, upd_same], Nat.zero_le _, ne, e2, fun _ => none, (Heap.Ns1.of_empty e3).at fun o q => Heap.get?_push_of_some _ q, fun _ => True.intro, fun y hy => absurd rfl hy⟩

theorem attr_of {prog : Program} {w : World} {env : Env} {e : Expr} {f : Str} {pos : Pos} {s : Shared} {Q : Value → Shared → Prop} (hb : attributeBase e f env (eval e env) = eval e env)
    (h : wpAny (model prog w) A (eval e env) (fun o s₁ => wpAny (model prog w) A (getAttr o f true) Q E s₁) E s) : wpAny (model prog w) A (eval (.Attribute e f pos) env) Q E s :=
  Attribute_any_ h (by rw [arm_eval_Attribute, hb])
end

noncomputable def tFld (K : PySem.W.Frag) (ta : TE) (f : Str) : TE := fun σ H Q => ta σ H fun x H1 => ∃ a C dx fs v, x = .ref a ∧ H1 a = some (.ins C dx fs) ∧ Cls K C ∧ NoAttr K C f ∧ fs.lookup f = some v ∧ Q v H1
noncomputable def sFld (K : PySem.W.Frag) (ta tv : TE) (f : Str) : TS := fun D σ H => tv σ H fun y H1 => ta σ H1 fun x H2 => ∃ a C dx fs, x = .ref a ∧ H2 a = some (.ins C dx fs) ∧ Cls K C ∧ NoAttr K C f ∧ fs.length < 1000 ∧
  D.nx σ (upd H2 a (.ins C dx (putF f y fs)))
section
variable {X : Cx} {o e value : Expr} {f : Str} {pos pos' tpos : Pos} {ta tv : TE}
theorem pe_fld (he : PE X e ta) (hb : attributeBase e f X.env (eval e X.env) = eval e X.env) : PE X (.Attribute e f pos) (tFld X.K ta f) := by
  intro pins s σ H Q I h
  refine attr_of hb (thn (he pins s σ H _ I h) fun u s1 hz9 => ?_)
  obtain ⟨x, H1, I1, rx, a, C, dx, fs, v, ex, ea, c, n, l, q⟩ := hz9
  subst ex
  obtain rfl : u = Value.ref a := rx
  exact getattr_ok I1 ea c n l fun u' s2 I2 ru => ⟨v, H1, I2, ru, q⟩
theorem ps_fld (ha : PE X o ta) (hv : PE X value tv) (hs : swapsWith value (some (.Attribute o f pos')) pos.line X.env = pure false) : PS X (.Assign [.Attribute o f pos'] value pos) (sFld X.K ta tv f) := by
  intro pins s σ H D I h
  refine plainObj_wpAny_Assign_Attribute (thn (hv pins s σ H _ I h) fun u s1 ⟨y, H1, I1, ry, q⟩ => thn (ha pins s1 σ H1 _ I1 q) fun ov s2 hz9 => ?_) hs
  obtain ⟨x, H2, I2, rx, a, C, dx, fs, ex, ea, c, n, l, q2⟩ := hz9
  subst ex
  obtain rfl : ov = Value.ref a := rx
  exact setattr_ok I2 ea c n l ry fun s3 I3 => ⟨σ, _, I3, q2⟩
end

section
variable {X : Cx} {pins : List (Addr × Obj)} {σ : St} {H : Hp} {s : Shared} {A : Around} {E : Value → Shared → Prop} {Q : Value → Shared → Prop} {c : Value} {b : Bool}
inductive TyOf (K : PySem.W.Frag) (H : Hp) : V → Value → Prop where
  | non : TyOf K H .non (.type "NoneType")
  | bl (x : Bool) : TyOf K H (.bl x) (.type "bool")
  | int (i : Int) : TyOf K H (.int i) (.type "int")
  | str (x : Str) : TyOf K H (.str x) (.type "str")
  | flt (x : UInt64) : TyOf K H (.flt x) (.type "float")
  | lst {a : Addr} {xs : List V} (e : H a = some (.lst xs)) : TyOf K H (.ref a) (.type "list")
  | frz {a : Addr} {o : Obj} {xs : List V} (e : H a = some (.frz o (.lst xs))) : TyOf K H (.ref a) (.type "list")
  | tup {a : Addr} {xs : List V} (e : H a = some (.tup xs)) : TyOf K H (.ref a) (.type "tuple")
  | dK {a : Addr} {kvs : List (Key × V)} (e : H a = some (.dK kvs)) : TyOf K H (.ref a) (.type "dict")
  | dT {a : Addr} {kvs : List (List Key × V)} (e : H a = some (.dT kvs)) : TyOf K H (.ref a) (.type "dict")
  | ins {a C dx : Addr} {fs : List (Str × V)} (e : H a = some (.ins C dx fs)) (cl : Cls K C) (ha : PySem.W.findIn K (.ref C) "__class__" = some (some (.builtin "object.__class__")))
      (hn : PySem.W.specialIn K (.builtin "object.__class__") "__get__" = some (some (.builtin "getset_descriptor.__get__"))) (htk : PySem.W.takesIn K (.builtin "object.__class__") = some true)
      (hm : PySem.W.mroIn K C (.type "object") = some true) : TyOf K H (.ref a) (.ref C)
end
end L2

namespace L2
open PySem PySem.Spec PyProof.Rows

structure Room (k : Nat) (A : Around) : Prop where
  hd : A.handled = none
  dp : A.depth + 3 * k + 5 < recursionLimit
  un : A.units + 16 * k + 200 < cLine
theorem Room.mono {j k : Nat} {A : Around} (r : Room k A) (h : j ≤ k) : Room j A := ⟨r.hd, by have := r.dp; lia, by have := r.un; lia⟩
theorem Room.deeper {k : Nat} {A : Around} (r : Room (k + 1) A) (env : Env) : Room k (A.deeper env) :=
  ⟨r.hd, by have := r.dp; show A.depth + 1 + 3 * k + 5 < _; lia, by have := r.un; show A.units + 3 + 16 * k + 200 < _; lia⟩
theorem make_depth {A : Around} {C : Addr} {us : List Value} {kw : List (Str × Value)} : (A.under (.builtin "type.__call__" ⟨.ref C :: us, kw⟩)).depth = A.depth + 1 := by
  first | rfl | simp [Around.under, Code.weight, Code.isCreation, Code.isGuard, Code.isCaller, Code.frames, Code.isFrame, guardIds]
theorem make_units {A : Around} {C : Addr} {us : List Value} {kw : List (Str × Value)} : (A.under (.builtin "type.__call__" ⟨.ref C :: us, kw⟩)).units = A.units + 1 := by
  first | rfl | simp [Around.under, Code.cUnits, Code.frames, Code.isFrame]
theorem Room.make {k : Nat} {A : Around} (r : Room (k + 1) A) (C : Addr) (us : List Value) (kw : List (Str × Value)) : Room k (A.under (.builtin "type.__call__" ⟨.ref C :: us, kw⟩)) :=
  ⟨r.hd, by have := r.dp; rw [make_depth]; lia, by have := r.un; rw [make_units]; lia⟩
theorem Room.depth {k : Nat} {A : Around} (r : Room k A) : A.depth < recursionLimit := by have := r.dp; lia
theorem Room.units {k : Nat} {A : Around} (r : Room k A) : A.units + 64 < cLine := by have := r.un; lia
noncomputable def tNil : TA := fun _ H Q => Q [] H
noncomputable def tCons (ta : TE) (tr : TA) : TA := fun σ H Q => ta σ H fun x H1 => tr σ H1 fun xs H2 => Q (x :: xs) H2
section
variable {X : Cx} {e : Expr} {es : List Expr} {te : TE} {t : TA} {pos : Pos}
theorem pa_nil : PA X [] tNil := fun _ _ _ _ H Q I h => Calls.spliced_nil ⟨[], H, I, .nil, h⟩
theorem pa_cons (ha : PE X e te) (hr : PA X es t) (hs : starEach (e :: es) X.env = (false, eval e X.env) :: starEach es X.env := by rfl) : PA X (e :: es) (tCons te t) := by
  intro pos pins s σ H Q I h
  rw [hs]
  show wpAny _ _ (spliced ((false, eval e X.env) :: backTo pos (starEach es X.env))) _ _ s
  refine Calls.spliced_cons (thn (ha pins s σ H _ I h) fun u s1 hz9 => ?_)
  obtain ⟨x, H1, I1, r1, q1⟩ := hz9
  refine thn (hr pos pins s1 σ H1 _ I1 q1) fun us s2 hz9 => ?_
  obtain ⟨xs, H2, I2, r2, q2⟩ := hz9
  exact ⟨x :: xs, H2, I2, .cons r1 r2, q2⟩

noncomputable def tTup (t : TA) : TE := fun σ H Q => t σ H fun xs H1 => xs.length ≤ sizeLine ∧ ∀ p, H1 p = none → Q (.ref p) (upd H1 p (.tup xs))
noncomputable def tLst (t : TA) : TE := fun σ H Q => t σ H fun xs H1 => xs.length ≤ sizeLine ∧ ∀ p, H1 p = none → Q (.ref p) (upd H1 p (.lst xs))
theorem pe_tup {x1} (h : PA X es t) : PE X (.Tuple es x1 pos) (tTup t) := by
  intro pins s σ H Q I hq
  refine wpAny_Tuple_spliced (thn (h pos pins s σ H _ I hq) fun us s1 ⟨xs, H1, I1, r, z, q⟩ => ⟨by rw [← r.length]; exact z, ?_⟩)
  have hf : H1 s1.heap.objs.size = none := I1.hok.fresh (Nat.le_refl _)
  refine ⟨.ref s1.heap.objs.size, upd H1 s1.heap.objs.size (.tup xs), I1.laid (t' := s1.toks) (fun b u e => Heap.get?_push_of_some _ e) (Nat.le_refl _) ?_, rfl, q _ hf⟩
  exact ⟨z, us, r, ⟨_, Heap.get?_push_size _ rfl, rfl, _, rfl⟩⟩
theorem pe_lst (h : PA X es t) : PE X (.List es pos) (tLst t) := by
  intro pins s σ H Q I hq
  refine wpAny_List_spliced (thn (h pos pins s σ H _ I hq) fun us s1 ⟨xs, H1, I1, r, z, q⟩ => ⟨by rw [← r.length]; exact z, ?_⟩)
  have hf : H1 s1.heap.objs.size = none := I1.hok.fresh (Nat.le_refl _)
  refine ⟨.ref s1.heap.objs.size, upd H1 s1.heap.objs.size (.lst xs), I1.laid (t' := s1.toks) (fun b u e => Heap.get?_push_of_some _ e) (Nat.le_refl _) ?_, rfl, q _ hf⟩
  exact ⟨z, us, 0, r, Heap.get?_push_size _ rfl⟩
end

noncomputable abbrev Sp := List V → Hp → VK → XK → Prop
noncomputable abbrev CXT := List Env → Hp → Shared → XK → Value → Shared → Prop

structure Env0 (P : Program) (w : World) (K : PySem.W.Frag) (mg : Str → Option Value) (base : Heap) (A : Around) (outer : List Env) (s : Shared) (H : Hp) : Prop where
  frames : A.frames = some outer
  mod : Mod K mg base
  bs : ∀ b o, base.get? b = some o → s.heap.get? b = some o ∧ H b = none
  bsz : base.objs.size ≤ s.heap.objs.size
  funs : s.heap.FunFrames base outer
  frf : ∀ b ∈ frs outer, H b = none
  hok : HOk P w H s.heap
  bare : AllBare s.gens
noncomputable def CE (outer : List Env) (P : Program) (w : World) (H : Hp) (s : Shared) (Q : VK) (u : Value) (s' : Shared) : Prop :=
  ∃ v H', s'.os = s.os ∧ AllBare s'.gens ∧ Un (frs outer) [] H H' s.heap s'.heap ∧ HOk P w H' s'.heap ∧ RelV v u ∧ Q v H'
noncomputable def CR (CX : CXT) (outer : List Env) (P : Program) (w : World) (H : Hp) (s : Shared) (Q : VK) (E : XK) (r : Result) (s' : Shared) : Prop :=
  match r with
  | .ok (.ret u) => CE outer P w H s Q u s'
  | .ok _ => False
  | .error e => CX outer H s E e s'
structure FnOk (P : Program) (w : World) (K : PySem.W.Frag) (mg : Str → Option Value) (base : Heap) (CX : CXT) (k : Nat) (f : Addr) (fd : FuncData) (ps : List Str) (sp : Sp) : Prop where
  len : ∀ vs H Q E, sp vs H Q E → vs.length = ps.length
  run : ∀ (A : Around) (outer : List Env) (s : Shared) (H : Hp) (args : Args) (us : List Value) (vs : List V) (Q : VK) (E : XK), Room k A → Env0 P w K mg base A outer s H → BindsTo s fd args (ps.zip us) → Vals vs us → sp vs H Q E →
    codeAny (model P w) A (.call (.ref f) args) (CR CX outer P w H s Q E) s
theorem Env0.make {P : Program} {w : World} {K : PySem.W.Frag} {mg : Str → Option Value} {base : Heap} {A : Around} {outer : List Env} {s : Shared} {H : Hp} (e : Env0 P w K mg base A outer s H) (C : Addr) (us : List Value) (kw : List (Str × Value)) :
    Env0 P w K mg base (A.under (.builtin "type.__call__" ⟨.ref C :: us, kw⟩)) outer s H := ⟨by first | exact e.frames | (simpa [Around.under, Code.envs, Code.isFrame, pushEnvs] using e.frames), e.mod, e.bs, e.bsz, e.funs, e.frf, e.hok, e.bare⟩
section
variable {X : Cx} {pins : List (Addr × Obj)} {σ : St} {H : Hp} {s s' : Shared}
theorem Inv.env0 (I : Inv X pins σ H s) : Env0 X.prog X.w X.K X.mg X.base X.A X.stack s H :=
  ⟨I.ok.frames, I.ok.mod, I.bs, Nat.le_trans I.ok.bsz I.sz, I.stack, I.stkFree, I.hok, I.bare⟩
theorem Inv.after {Q : VK} {u : Value} (I : Inv X pins σ H s) (h : CE X.stack X.prog X.w H s Q u s') : EP X pins σ Q u s' := by
  obtain ⟨v, H', os, bare, un, hok, r, q⟩ := h
  obtain ⟨hh, g, d, t, os'⟩ := s'
  obtain rfl : os' = s.os := os
  exact ⟨v, H', I.call (h' := hh) (g' := g) (d' := d) (t' := t) (ch := []) un hok bare (fun b z => absurd z (by simp)), r, q⟩
end

noncomputable def tCall (sp : Sp) (dvs : List V) (E : XK) (t : TA) : TE := fun σ H Q => t σ H fun vs H1 => sp (vs ++ dvs) H1 Q E
noncomputable def tMeth (C : Addr) (m : Str) (sp : Sp) (dvs : List V) (E : XK) (ta : TE) (t : TA) : TE := fun σ H Q => ta σ H fun x H1 => ∃ a dx fs, x = .ref a ∧ H1 a = some (.ins C dx fs) ∧ fs.lookup m = none ∧
  t σ H1 fun vs H2 => sp (x :: (vs ++ dvs)) H2 Q E
noncomputable def tMake (C : Addr) (sp : Sp) (dvs : List V) (E : XK) (t : TA) : TE := fun σ H Q => t σ H fun vs H1 => ∀ x dx, H1 x = none → H1 dx = none → dx ≠ x →
  sp (.ref x :: (vs ++ dvs)) (upd (upd H1 dx (.own x)) x (.ins C dx [])) (fun v H2 => v = .non ∧ Q (.ref x) H2) E

noncomputable def Binds (K : PySem.W.Frag) (fd : FuncData) (ps : List Str) (ds : List Value) : Prop :=
  ∀ (s : Shared) (us : List Value), K.In s.heap → (us ++ ds).length = ps.length → BindsTo s fd ⟨us, []⟩ (ps.zip (us ++ ds))
theorem Binds.all {K : PySem.W.Frag} {fd : FuncData} {ps : List Str} (h : ∀ us : List Value, us.length = ps.length → bindArgs fd ⟨us, []⟩ = pure (ps.zip us)) : Binds K fd ps [] := fun s us _ hl => by
  rw [List.append_nil] at hl ⊢
  exact .of_eq (h us hl)

noncomputable def Passes (CX : CXT) (X : Cx) (E : XK) : Prop := ∀ (pins : List (Addr × Obj)) (σ : St) (H : Hp) (s : Shared) (e : Value) (s' : Shared), Inv X pins σ H s → CX X.stack H s E e s' → X.xe e s'

section
variable {X : Cx} {CX : CXT} {k : Nat} {f C : Addr} {fd : FuncData} {ps : List Str} {sp : Sp} {dvs : List V} {ds : List Value} {E : XK} {x m : Str} {p pos apos : Pos} {e o : Expr} {es : List Expr} {ta : TE} {t : TA}

theorem run_fn {pins : List (Addr × Obj)} {σ : St} {H : Hp} {s : Shared} {Q : VK} {us : List Value} {vs : List V} (F : FnOk X.prog X.w X.K X.mg X.base CX k f fd ps sp) (hr : Room k X.A) (hb : Binds X.K fd ps ds) (hd : Vals dvs ds) (hx : Passes CX X E)
    (I : Inv X pins σ H s) (r : Vals vs us) (h : sp (vs ++ dvs) H Q E) : wpAny (model X.prog X.w) X.A (call (.ref f) us) (EP X pins σ Q) X.xe s := by
  have r2 : Vals (vs ++ dvs) (us ++ ds) := r.append hd
  have hl : (us ++ ds).length = ps.length := by rw [← r2.length]; exact F.len _ _ _ _ h
  refine wpAny_call (codeAny_mono (F.run X.A X.stack s H ⟨us, []⟩ (us ++ ds) (vs ++ dvs) Q E hr I.env0 (hb s us I.kIn hl) r2 h) fun r s' hq => ?_)
  cases r with
  | error e => exact hx pins σ H s e s' I hq
  | ok fl =>
    cases fl with
    | ret u => exact I.after hq
    | next => exact False.elim hq
    | brk => exact False.elim hq
    | cont => exact False.elim hq

theorem pe_call (F : FnOk X.prog X.w X.K X.mg X.base CX k f fd ps sp) (hr : Room k X.A) (hg : Gl X x) (hm : X.mg x = some (.ref f)) (hk : PySem.W.keepIn X.K (.ref f) = true) (hb : Binds X.K fd ps ds) (hd : Vals dvs ds) (hx : Passes CX X E)
    (ha : PA X (e :: es) t) (hdb : (x == ("__debug__" : Str)) = false := by decide) (he : starEach (e :: es) X.env = (false, eval e X.env) :: starEach es X.env := by rfl) (hpl : (backTo pos (starEach es X.env)).any (·.1) = false := by rfl) :
    PE X (.Call (.Name x p) (e :: es) [] pos) (tCall sp dvs E t) := by
  intro pins s σ H Q I h
  refine wpAny_Call_Name_kw (ld_glob I hg hm ?_ hdb)
  refine PySem.W.callWith_K (h₀ := X.base) I.ok.mod.kin hk (thn (ha pos pins s σ H _ I h) fun us s1 ⟨vs, H1, I1, r, q⟩ => ⟨I1.kIn, ?_⟩) he hpl
  exact run_fn F hr hb hd hx I1 r q
theorem pe_meth {pl : Sem Bool} (he : PE X o ta) (c : Cls X.K C) (hm : Meth X.K C m f) (F : FnOk X.prog X.w X.K X.mg X.base CX k f fd ps sp) (hr : Room k X.A) (hb : Binds X.K fd ps ds) (hd : Vals dvs ds) (hx : Passes CX X E) (ha : PA X (e :: es) t)
    (hst : starEach (e :: es) X.env = (false, eval e X.env) :: starEach es X.env := by rfl) (hpl : (backTo pos (starEach es X.env)).any (·.1) = false := by rfl)
    (ht : eval (.Call (.Attribute o m apos) (e :: es) [] pos) X.env = (do
      let ov ← eval o X.env
      standAt apos.atName
      let (f, first) ← holding [ov] (getMethod ov m pl)
      callWith pos f first (backTo pos (starEach (e :: es) X.env)) (backToKw pos (keywordEach [] X.env))) := by rfl) :
    PE X (.Call (.Attribute o m apos) (e :: es) [] pos) (tMeth C m sp dvs E ta t) := by
  intro pins s σ H Q I h
  refine PySem.W.methodCall_KW (pl := pl) (thn (he pins s σ H _ I h) fun u s1 hz9 => ?_) ht
  obtain ⟨x, H1, I1, rx, a, dx, fs, ex, ea, l, q⟩ := hz9
  subst ex
  obtain rfl : u = Value.ref a := rx
  refine getmeth_ok I1 ea c hm l ?_
  refine PySem.W.callWith_K (first := [.ref a]) (h₀ := X.base) I.ok.mod.kin hm.kp (thn (ha pos pins s1 σ H1 _ I1 q) fun us s2 ⟨vs, H2, I2, r, q2⟩ => ⟨I2.kIn, ?_⟩) hst hpl
  exact run_fn (us := .ref a :: us) (vs := .ref a :: vs) F hr hb hd hx I2 (.cons rfl r) q2
structure Mk (K : PySem.W.Frag) (C f : Addr) : Prop where
  makes : PySem.W.makesIn K C = true
  init : PySem.W.findIn K (.ref C) "__init__" = some (some (.ref f))
  fn : PySem.W.isFn K (.ref f) = true
  kp : PySem.W.keepIn K (.ref C) = true

theorem run_make {pins : List (Addr × Obj)} {σ : St} {H : Hp} {s : Shared} {Q : VK} {us : List Value} {vs : List V} (M : Mk X.K C f) (F : FnOk X.prog X.w X.K X.mg X.base CX k f fd ps sp) (hr : Room (k + 1) X.A) (hb : Binds X.K fd ps ds) (hd : Vals dvs ds)
    (hx : Passes CX X E) (I : Inv X pins σ H s) (r : Vals vs us)
    (h : ∀ x dx, H x = none → H dx = none → dx ≠ x → sp (.ref x :: (vs ++ dvs)) (upd (upd H dx (.own x)) x (.ins C dx [])) (fun v H2 => v = .non ∧ Q (.ref x) H2) E) :
    wpAny (model X.prog X.w) X.A (call (.ref C) us) (EP X pins σ Q) X.xe s := by
  have hq := h (s.heap.objs.size + 1) s.heap.objs.size (I.hok.fresh (Nat.le_succ _)) (I.hok.fresh (Nat.le_refl _)) (Nat.ne_of_lt (Nat.lt_succ_self _))
  have I2 := Inv.made (C := C) I
  have r2 : Vals (V.ref (s.heap.objs.size + 1) :: (vs ++ dvs)) (Value.ref (s.heap.objs.size + 1) :: (us ++ ds)) := .cons rfl (r.append hd)
  have hl : (Value.ref (s.heap.objs.size + 1) :: us ++ ds).length = ps.length := by
    have e := r2.length
    rw [F.len _ _ _ _ hq] at e
    exact e.symm
  refine wpAny_call (make_map (f := f) I.kIn M.makes M.init (beq_iff_eq.mp M.fn) (codeAny_mono (F.run _ X.stack _ _ ⟨Value.ref (s.heap.objs.size + 1) :: us, []⟩ (Value.ref (s.heap.objs.size + 1) :: (us ++ ds)) _ _ E (hr.make C us [])
    (I2.env0.make C us []) (hb _ (Value.ref (s.heap.objs.size + 1) :: us) I2.kIn hl) r2 hq) fun r s' hq' => ?_))
  cases r with
  | error e => exact hx pins σ _ _ e s' I2 hq'
  | ok fl =>
    cases fl with
    | ret u =>
      obtain ⟨v, H', I3, rv, ev, q3⟩ := I2.after hq'
      subst ev
      exact ⟨rv, ⟨V.ref (s.heap.objs.size + 1), H', I3, rfl, q3⟩⟩
    | next => exact False.elim hq'
    | brk => exact False.elim hq'
    | cont => exact False.elim hq'
theorem pe_make (M : Mk X.K C f) (F : FnOk X.prog X.w X.K X.mg X.base CX k f fd ps sp) (hr : Room (k + 1) X.A) (hg : Gl X x) (hm : X.mg x = some (.ref C)) (hb : Binds X.K fd ps ds) (hd : Vals dvs ds) (hx : Passes CX X E)
    (ha : PA X (e :: es) t) (hdb : (x == ("__debug__" : Str)) = false := by decide) (he : starEach (e :: es) X.env = (false, eval e X.env) :: starEach es X.env := by rfl) (hpl : (backTo pos (starEach es X.env)).any (·.1) = false := by rfl) :
    PE X (.Call (.Name x p) (e :: es) [] pos) (tMake C sp dvs E t) := by
  intro pins s σ H Q I h
  refine wpAny_Call_Name_kw (ld_glob I hg hm ?_ hdb)
  refine PySem.W.callWith_K (h₀ := X.base) I.ok.mod.kin M.kp (thn (ha pos pins s σ H _ I h) fun us s1 ⟨vs, H1, I1, r, q⟩ => ⟨I1.kIn, ?_⟩) he hpl
  exact run_make M F hr hb hd hx I1 r q
end

section
variable {X : Cx} {CX : CXT} {k : Nat} {f C : Addr} {fd : FuncData} {ps ks : List Str} {sp : Sp} {E : XK} {x m : Str} {p pos apos kpos : Pos} {e o : Expr} {es : List Expr} {kws : List Keyword} {te ta : TE} {t tk : TA} {nm : Option Str}
structure KBinds (K : PySem.W.Frag) (fd : FuncData) (ps ks : List Str) (g : List Value → List Value → List Value) (gV : List V → List V → List V) : Prop where
  to : ∀ (s : Shared) (us ws : List Value), K.In s.heap → (g us ws).length = ps.length → BindsTo s fd ⟨us, ks.zip ws⟩ (ps.zip (g us ws))
  rel : ∀ {vs : List V} {us : List Value} {zs : List V} {ws : List Value}, Vals vs us → Vals zs ws → Vals (gV vs zs) (g us ws)
variable {g : List Value → List Value → List Value} {gV : List V → List V → List V}
end

structure FnScope (N P : List Str) (sc : Scope) : Prop where
  kind : sc.kind = .function
  co : sc.isCoroutine = false
  gen : sc.isGenerator = false
  nd : N.Nodup
  pre : N.take P.length = P
  par : ∀ x ∈ P, sc.names.lookup x = some .local ∨ sc.names.lookup x = some .cell
  nofree : ∀ y ∈ sc.names, y.2 ≠ .free

theorem bindL_out {kindOf : Str → Option NameKind} {x : Str} : ∀ {binds : List (Str × Value)} {m : Str → Option Value}, (∀ v, (x, v) ∉ binds) → bindL kindOf binds m x = m x
  | [], _, _ => rfl
  | (n, v) :: r, m, h => by
    unfold bindL
    rw [bindL_out fun w hw => h w (List.mem_cons_of_mem _ hw)]
    split
    · have : x ≠ n := by rintro rfl; exact h v List.mem_cons_self
      simp [this]
    · rfl
theorem bindC_out {kindOf : Str → Option NameKind} {x : Str} : ∀ {binds : List (Str × Value)} {m : Str → Option Value}, (∀ v, (x, v) ∉ binds) → bindC kindOf binds m x = m x
  | [], _, _ => rfl
  | (n, v) :: r, m, h => by
    unfold bindC
    rw [bindC_out fun w hw => h w (List.mem_cons_of_mem _ hw)]
    split
    · rfl
    · have : x ≠ n := by rintro rfl; exact h v List.mem_cons_self
      simp [this]
theorem bindL_get {kindOf : Str → Option NameKind} {x : Str} {v : Value} : ∀ {P : List Str} {vs : List Value} {i : Nat} {m : Str → Option Value}, P.Nodup → P[i]? = some x → vs[i]? = some v → kindOf x = some .local →
    bindL kindOf (P.zip vs) m x = some v
  | [], _, _, _, _, h, _, _ => by simp at h
  | _ :: _, [], _, _, _, _, h, _ => by simp at h
  | p :: P, w :: vs, 0, m, nd, h1, h2, hk => by
    simp at h1 h2; subst h1; subst h2
    show bindL kindOf ((p, w) :: P.zip vs) m p = _
    unfold bindL
    rw [bindL_out fun v hv => (List.nodup_cons.mp nd).1 (List.of_mem_zip hv).1, if_pos hk]
    simp
  | p :: P, w :: vs, i + 1, m, nd, h1, h2, hk => by
    show bindL kindOf ((p, w) :: P.zip vs) m x = _
    unfold bindL
    exact bindL_get (i := i) (List.nodup_cons.mp nd).2 (by simpa using h1) (by simpa using h2) hk
theorem bindC_get {kindOf : Str → Option NameKind} {x : Str} {v : Value} : ∀ {P : List Str} {vs : List Value} {i : Nat} {m : Str → Option Value}, P.Nodup → P[i]? = some x → vs[i]? = some v → kindOf x ≠ some .local →
    bindC kindOf (P.zip vs) m x = some v
  | [], _, _, _, _, h, _, _ => by simp at h
  | _ :: _, [], _, _, _, _, h, _ => by simp at h
  | p :: P, w :: vs, 0, m, nd, h1, h2, hk => by
    simp at h1 h2; subst h1; subst h2
    show bindC kindOf ((p, w) :: P.zip vs) m p = _
    unfold bindC
    rw [bindC_out fun v hv => (List.nodup_cons.mp nd).1 (List.of_mem_zip hv).1, if_neg hk]
    simp
  | p :: P, w :: vs, i + 1, m, nd, h1, h2, hk => by
    show bindC kindOf ((p, w) :: P.zip vs) m x = _
    unfold bindC
    exact bindC_get (i := i) (List.nodup_cons.mp nd).2 (by simpa using h1) (by simpa using h2) hk

noncomputable def start (N : List Str) (vs : List V) : St := vs.map some ++ List.replicate (N.length - vs.length) none

noncomputable def cxOf (CX : CXT) (P : Program) (w : World) (K : PySem.W.Frag) (mg : Str → Option Value) (base : Heap) (N : List Str) (qual : Str) (scope : Scope) (f : Addr) (cd : Value) (A : Around) (outer : List Env) (s : Shared) (H : Hp) (E : XK) : Cx where
  prog := P
  w := w
  K := K
  mg := mg
  base := base
  A := A.deeper (envOfC qual scope s.heap.objs.size f cd)
  N := N
  s₀ := s
  H₀ := H
  env := envOfC qual scope s.heap.objs.size f cd
  outer := outer
  stack := envOfC qual scope s.heap.objs.size f cd :: outer
  ex := []
  calm := true
  fn := fun _ => true
  pn := []
  xe := fun e s' => wpAny (model P w) (A.deeper (envOfC qual scope s.heap.objs.size f cd)) (leaving (envOfC qual scope s.heap.objs.size f cd) e) (fun _ s'' => CX outer H s E e s'') (fun e' s'' => CX outer H s E e' s'') s'

theorem cell_has {sc : Scope} {n : Nat} {x : Str} (h : sc.names.lookup x = some .cell) : ∃ c, (cellsFrom n sc.names []).lookup x = some c := by
  have q := PySem.W.cellsFrom_some sc.names n [] (.inl h)
  exact Option.isSome_iff_exists.mp q

theorem inv_start {CX : CXT} {P : Program} {w : World} {K : PySem.W.Frag} {mg : Str → Option Value} {base : Heap} {N ps : List Str} {qual : Str} {scope : Scope} {f : Addr} {cd : Value} {A : Around} {outer : List Env} {s s1 : Shared} {H : Hp} {E : XK} {us : List Value} {vs : List V}
    (S : FnScope N ps scope) (hd : A.handled = none) (e0 : Env0 P w K mg base A outer s H) (hl : vs.length = ps.length) (r : Vals vs us)
    (x : InCallC s s.heap.objs.size (bindL (envOfC qual scope s.heap.objs.size f cd).kindOf (ps.zip us) fun _ => none) (cellsFrom (s.heap.objs.size + 1) scope.names []) (bindC (envOfC qual scope s.heap.objs.size f cd).kindOf (ps.zip us) fun _ => none) s1) :
    Inv (cxOf CX P w K mg base N qual scope f cd A outer s H E) [] (start N vs) H s1 := by
  have hpl : ps.length ≤ N.length := by have := congrArg List.length S.pre; rw [List.length_take] at this; lia
  obtain ⟨h1, tk, rfl, hk⟩ := x.done
  have noA : ∀ b : Addr, b ∉ (cxOf CX P w K mg base N qual scope f cd A outer s H E).ex := fun b z => absurd (show b ∈ ([] : List Addr) from z) (by simp)
  refine ⟨⟨e0.mod, S.kind, rfl, rfl, Nat.le_refl _, fun y z c h1 h2 => ?_, fun y hy => ?_, fun y c _ h => ?_, fun _ => hd, Around.frames_deeper e0.frames, .inr ⟨rfl, rfl⟩, fun b z => absurd z (noA b), e0.bs, e0.bsz, fun b _ _ => noA b, fun b z => absurd z (noA b), e0.funs, e0.frf⟩,
    rfl, e0.bare, Un.kept hk, ⟨_, x.toInCall.ns, fun i y v h1 h2 h3 => ?_⟩, fun y c h => ⟨_, x.cell y c h⟩, e0.hok.fresh (Nat.le_refl _), fun y c h => ?_, fun p hp => absurd (show p ∈ ([] : List (Addr × Obj)) from hp) (by simp), e0.hok.kept hk, ?_⟩
  · exact name_of_addr x.apart (PySem.mem_of_lookup h1) (PySem.mem_of_lookup h2)
  · have hy : scope.names.lookup y = some .cell ∨ scope.names.lookup y = some .free := hy
    rcases hy with hy | hy
    · exact cell_has hy
    · exact absurd rfl (S.nofree _ (PySem.mem_of_lookup hy))
  · exact Nat.le_of_lt (x.above y c (PySem.mem_of_lookup h))
  · have hi : i < vs.length := by
      unfold start at h2
      by_cases hi : i < vs.length
      · exact hi
      · rw [List.getElem?_append_right (by simpa using hi)] at h2
        rw [List.getElem?_replicate] at h2
        split at h2 <;> cases h2
    have ha : vs[i]? = some v := by
      unfold start at h2
      rw [List.getElem?_append_left (by simpa using hi), List.getElem?_map] at h2
      cases e : vs[i]? with
      | none => rw [e] at h2; cases h2
      | some a => rw [e] at h2; cases h2; rfl
    obtain ⟨u, hu, rv⟩ := r.get ha
    have hp : ps[i]? = some y := by
      rw [← S.pre, List.getElem?_take_of_lt (by lia)]; exact h1
    have ndP : ps.Nodup := by rw [← S.pre]; exact S.nd.sublist (List.take_sublist _ _)
    refine ⟨u, rv, ?_⟩
    rcases S.par y (List.mem_of_getElem? hp) with k | k
    · exact .inl ⟨k, bindL_get ndP hp hu k⟩
    · obtain ⟨c, e⟩ := cell_has (n := s.heap.objs.size + 1) k
      refine .inr ⟨.inl k, c, e, ?_⟩
      have q := x.cell y c e
      rw [bindC_get ndP hp hu (by show scope.names.lookup y ≠ _; rw [k]; decide)] at q
      exact q
  · exact e0.hok.fresh (Nat.le_of_lt (x.above y c (PySem.mem_of_lookup h)))
  · unfold start
    show _ = N.length
    rw [List.length_append, List.length_map, List.length_replicate]
    lia

theorem fn_of {CX : CXT} {P : Program} {w : World} {K : PySem.W.Frag} {mg : Str → Option Value} {base : Heap} {k : Nat} {f : Addr} {name qual : Str} {params : Arguments} {body : List Stmt} {scope : Scope} {dV kV doc pm cdv ct oc : Value} {an od : Option Addr}
    {osl : Array (Option Value)} {N ps : List Str} {sp : Sp} (lk : K.lookup f = some ⟨oc, od, .func (PySem.W.fnOf name qual params body scope dV kV doc pm an cdv ct), osl⟩) (hcd : PySem.W.codeIn K cdv qual = true) (S : FnScope N ps scope)
    (len : ∀ vs H Q E, sp vs H Q E → vs.length = ps.length)
    (hbody : ∀ (A : Around) (outer : List Env) (s : Shared) (H : Hp) (vs : List V) (Q : VK) (E : XK), Room k (A.deeper (envOfC qual scope s.heap.objs.size f cdv)) → sp vs H Q E →
      ∃ t, PSs (cxOf CX P w K mg base N qual scope f cdv A outer s H E) body t ∧ t { nx := fun _ H' => Q .non H', rt := Q } (start N vs) H) :
    FnOk P w K mg base CX (k + 1) f (PySem.W.fnOf name qual params body scope dV kV doc pm an cdv ct) ps sp := by
  refine ⟨len, fun A outer s H args us vs Q E hr e0 hb r hsp => ?_⟩
  have hl := len _ _ _ _ hsp
  have KX : K.In s.heap := e0.mod.kin.keeps fun b o e => (e0.bs b o e).1
  have lim : s.heap.NoLimit := e0.mod.nolimit.keeps fun b o e => (e0.bs b o e).1
  have hkind : ∀ y ∈ ps.zip us, scope.names.lookup y.1 = some .local ∨ (scope.names.lookup y.1 = some .cell ∧ ((cellsFrom (s.heap.objs.size + 1) scope.names []).lookup y.1).isSome = true) := fun ⟨n, v⟩ hy => by
    rcases S.par n (List.of_mem_zip hy).1 with q | q
    · exact .inl q
    · exact .inr ⟨q, PySem.W.cellsFrom_some _ _ _ (.inl q)⟩
  refine codeAny_call_function hr.depth (KX _ _ lk) rfl S.co S.gen rfl (PySem.W.codeRec_of KX hcd) (hb _ _ _ _ ?_)
  refine wpAny_newFunctionEnv_cells S.kind hkind fun env he s1 x => ?_
  subst he
  refine ⟨lim.keeps x.toInCall.keep, codeAny_func ?_⟩
  obtain ⟨t, ht, hq⟩ := hbody A outer s H vs Q E (hr.deeper _) hsp
  have I : Inv (cxOf CX P w K mg base N qual scope f cdv A outer s H E) [] (start N vs) H s1 := inv_start S hr.hd e0 hl r x
  refine wpAny_mono (ht [] s1 (start N vs) H _ I hq) (fun fl s' hs => ?_) fun e s' hs => hs
  have fin : ∀ {σ' : St} {H' : Hp} {v : V} {u : Value}, Inv (cxOf CX P w K mg base N qual scope f cdv A outer s H E) [] σ' H' s' → RelV v u → Q v H' → CE outer P w H s Q u s' :=
    fun {σ' H' v u} J rv q => ⟨v, H', J.os, J.bare, J.base, J.hok, rv, q⟩
  cases fl with
  | ret u =>
    obtain ⟨v, σ', H', J, rv, q⟩ := hs
    exact fin J rv q
  | next =>
    obtain ⟨σ', H', J, q⟩ := hs
    exact fin (v := V.non) (u := Value.none) J rfl q
  | brk =>
    obtain ⟨_, _, _, q⟩ := hs
    exact False.elim q
  | cont =>
    obtain ⟨_, _, _, q⟩ := hs
    exact False.elim q
end L2

namespace L2
open PySem PySem.Spec PyProof.Rows
section
variable {X : Cx} {x : Str} {p pos : Pos} {e : Expr} {es : List Expr} {t : TA} {id T : String} {r : List V → Hp → VK → Prop}

noncomputable def tCB (r : List V → Hp → VK → Prop) (t : TA) : TE := fun σ H Q => t σ H fun vs H1 => r vs H1 Q
theorem pe_callB (hc : CallR X (.builtin id) r) (hg : Gl X x) (hm : X.mg x = none) (hv : bootBuiltins x = some (.builtin id)) (ha : PA X (e :: es) t) (hn : x ≠ "__name__" := by decide) (hdb : (x == ("__debug__" : Str)) = false := by decide)
    (he : starEach (e :: es) X.env = (false, eval e X.env) :: starEach es X.env := by rfl) (hpl : (backTo pos (starEach es X.env)).any (·.1) = false := by rfl) : PE X (.Call (.Name x p) (e :: es) [] pos) (tCB r t) := by
  intro pins s σ H Q I h
  refine wpAny_Call_Name_kw (ld_blt I hg hm hv ?_ hn hdb)
  exact PyProof.Rows.callWith_builtin1 (thn (ha pos pins s σ H _ I h) fun us s1 ⟨vs, H1, I1, r1, q1⟩ => hc pins s1 σ H1 vs us Q I1 r1 q1) he hpl
theorem pe_callTy (hc : CallR X (.type T) r) (hg : Gl X x) (hm : X.mg x = none) (hv : bootBuiltins x = some (.type T)) (ha : PA X (e :: es) t) (hn : x ≠ "__name__" := by decide) (hdb : (x == ("__debug__" : Str)) = false := by decide)
    (he : starEach (e :: es) X.env = (false, eval e X.env) :: starEach es X.env := by rfl) (hpl : (backTo pos (starEach es X.env)).any (·.1) = false := by rfl) : PE X (.Call (.Name x p) (e :: es) [] pos) (tCB r t) := by
  intro pins s σ H Q I h
  refine wpAny_Call_Name_kw (ld_blt I hg hm hv ?_ hn hdb)
  exact PyProof.Rows.callWith_type1 (thn (ha pos pins s σ H _ I h) fun us s1 ⟨vs, H1, I1, r1, q1⟩ => hc pins s1 σ H1 vs us Q I1 r1 q1) he hpl
end
end L2

namespace HT
open PySem PyProof.Rows

section
open PySem.SeqAt
open PySem.AutoSeq1 (wpAny_loadPart')
open PySem.MeetsSeq PySem.MeetsSeq2 PySem.MeetsSeq3

end

section
variable {prog : Program} {w : World} {A : Around} {E : Value → Shared → Prop} {s : Shared}

noncomputable def sIx (n d : Nat) : Option Int → Nat
  | none => d
  | some v => if v < 0 then (v + (n : Int)).toNat else min v.toNat n
theorem sIx_le (n d : Nat) (hd : d ≤ n) (o : Option Int) : sIx n d o ≤ n := by
  cases o with
  | none => exact hd
  | some v =>
    show (if v < 0 then (v + (n : Int)).toNat else min v.toNat n) ≤ n
    by_cases hv : v < 0
    · rw [if_pos hv]; lia
    · rw [if_neg hv]; exact Nat.min_le_right _ _
end
end HT

namespace L2
open PySem PySem.Spec PyProof.Rows

noncomputable abbrev TO := St → Hp → (Option Int → Hp → Prop) → Prop
noncomputable def PO (X : Cx) (e : Option Expr) (t : TO) : Prop :=
  ∀ (pins : List (Addr × Obj)) (s : Shared) (σ : St) (H : Hp) (Q : Option Int → Hp → Prop), Inv X pins σ H s → t σ H Q →
    wpAny (model X.prog X.w) X.A (evalPart e X.env) (fun u s' => ∃ o H', Inv X pins σ H' s' ∧ IsPart u o ∧ Q o H') X.xe s
noncomputable def tNoPart : TO := fun _ H Q => Q none H
noncomputable def tPart (t : TE) : TO := fun σ H Q => t σ H fun x H1 => ∃ i, x = .int i ∧ Q (some i) H1

section
variable {X : Cx} {e : Expr} {te : TE} {lo hi : Option Expr} {tl th : TO} {pos p2 : Pos}

theorem po_none : PO X none tNoPart := by
  intro pins s σ H Q I h
  rw [evalPart_none]
  exact wpAny_pure ⟨none, H, I, .none, h⟩
theorem po_some (h : PE X e te) : PO X (some e) (tPart te) := by
  intro pins s σ H Q I hw
  rw [evalPart_some]
  refine thn (h pins s σ H _ I hw) fun u s1 hz9 => ?_
  obtain ⟨x, H1, I1, r1, q1⟩ := hz9
  obtain ⟨i, rfl, q⟩ := q1
  obtain ⟨t, rfl⟩ := r1
  exact ⟨some i, H1, I1, .int i t, q⟩

noncomputable def SlR (X : Cx) (r : V → Option Int → Option Int → Hp → VK → Prop) : Prop :=
  ∀ (pins : List (Addr × Obj)) (s : Shared) (σ : St) (H : Hp) (x : V) (v vl vu : Value) (lo hi : Option Int) (sl : Addr) (Q : VK), Inv X pins σ H s → RelV x v → s.heap.IsSliceOf sl vl vu .none → IsPart vl lo → IsPart vu hi → r x lo hi H Q →
    ∃ T id, typeLookup (.type T) "__getitem__" = pure (some (.builtin id)) ∧ s.TypeIs v T ∧ wpAny (model X.prog X.w) X.A (getItem v (.ref sl)) (EP X pins σ Q) X.xe s
noncomputable def tSl (r : V → Option Int → Option Int → Hp → VK → Prop) (te : TE) (tl th : TO) : TE := fun σ H Q => te σ H fun x H1 => tl σ H1 fun l H2 => th σ H2 fun u H3 => r x l u H3 Q
theorem pe_slice {r : V → Option Int → Option Int → Hp → VK → Prop} (hr : SlR X r) (he : PE X e te) (hl : PO X lo tl) (hu : PO X hi th) : PE X (.Subscript e (.Slice lo hi none p2) pos) (tSl r te tl th) := by
  intro pins s σ H Q I h
  refine Subscript_ (thn (he pins s σ H _ I h) fun v s1 hz9 => ?_)
  obtain ⟨x, H1, I1, r1, q1⟩ := hz9
  refine wpAny_Slice (thn (hl pins s1 σ H1 _ I1 q1) fun vl s2 ⟨l, H2, I2, pl, q2⟩ => thn (hu pins s2 σ H2 _ I2 q2) fun vu s3 hz9 => ?_)
  obtain ⟨u, H3, I3, pu, q3⟩ := hz9
  rw [evalPart_none]
  refine wpAny_pure ?_
  have I4 : Inv X pins σ H3 { s3 with heap := s3.heap.push { cls := .type "slice", data := .fields #[vl, vu, .none] } } := I3.kept (t' := s3.toks) fun b ob q => Heap.get?_push_of_some _ q
  obtain ⟨T, id, hT, ht, hg⟩ := hr pins { s3 with heap := s3.heap.push { cls := .type "slice", data := .fields #[vl, vu, .none] } } σ H3 x v vl vu l u s3.heap.objs.size Q I4 r1 (Heap.IsSliceOf.new ..) pl pu q3
  show wpAny (model X.prog X.w) X.A (subscriptTail e (.Slice lo hi none p2) v (.ref s3.heap.objs.size)) (EP X pins σ Q) X.xe { s3 with heap := s3.heap.push { cls := .type "slice", data := .fields #[vl, vu, .none] } }
  exact tail_any (ops := [.ref s3.heap.objs.size, v]) ht hT hg (by with_unfolding_all rfl)

noncomputable def cutV (xs : List V) (lo hi : Option Int) : List V := (xs.drop (HT.sIx xs.length 0 lo)).take (HT.sIx xs.length xs.length hi - HT.sIx xs.length 0 lo)
theorem cutV_length (xs : List V) (lo hi : Option Int) : (cutV xs lo hi).length ≤ xs.length := by
  unfold cutV
  rw [List.length_take, List.length_drop]
  lia
end
end L2

namespace L2
open PySem PySem.Spec PyProof.Rows

noncomputable def ixN (n : Nat) (i : Int) : Option Nat := if 0 ≤ i then (if i < n then some i.toNat else none) else if -(n : Int) ≤ i then some (i + n).toNat else none
noncomputable def atI {α : Type} (xs : List α) (i : Int) : Option α := (ixN xs.length i).bind fun j => xs[j]?
theorem ixN_seq {n : Nat} {i : Int} {j : Nat} (h : ixN n i = some j) : seqIndex? i n = some j ∧ j < n ∧ -(n : Int) ≤ i ∧ i < n := by
  unfold ixN at h
  by_cases h0 : 0 ≤ i
  · rw [if_pos h0] at h
    by_cases h1 : i < n
    · rw [if_pos h1] at h
      have e : i.toNat = j := Option.some.inj h
      exact ⟨by rw [seqIndex_of h0 h1, e], by lia, by lia, h1⟩
    · rw [if_neg h1] at h; cases h
  · rw [if_neg h0] at h
    by_cases h1 : -(n : Int) ≤ i
    · rw [if_pos h1] at h
      have e : (i + n).toNat = j := Option.some.inj h
      exact ⟨by rw [seqIndex_neg (by lia) h1, e], by lia, h1, by lia⟩
    · rw [if_neg h1] at h; cases h
theorem atI_get {α : Type} {xs : List α} {i : Int} {v : α} (h : atI xs i = some v) : ∃ j, seqIndex? i xs.length = some j ∧ xs[j]? = some v ∧ j < xs.length ∧ -(xs.length : Int) ≤ i ∧ i < xs.length := by
  unfold atI at h
  cases e : ixN xs.length i with
  | none => rw [e] at h; cases h
  | some j =>
    rw [e] at h
    obtain ⟨h1, h2, h3, h4⟩ := ixN_seq e
    exact ⟨j, h1, h, h2, h3, h4⟩
theorem atI_nat {α : Type} {xs : List α} {j : Nat} {v : α} (h : xs[j]? = some v) : atI xs (j : Int) = some v := by
  have hj : j < xs.length := (List.getElem?_eq_some_iff.mp h).1
  have e : ixN xs.length (j : Int) = some j := by
    unfold ixN
    rw [if_pos (by lia), if_pos (by lia)]; simp
  unfold atI; rw [e]; exact h
noncomputable def PlainIx (b : Expr) : Prop := ∀ o i, subscripted b false o i = operate [o, i] (getItem o i)
noncomputable def IxR (X : Cx) (r : R2) : Prop :=
  ∀ (value slice : Expr) (pins : List (Addr × Obj)) (s : Shared) (σ : St) (H : Hp) (x y : V) (v u : Value) (Q : VK), Inv X pins σ H s → RelV x v → RelV y u → r x y H Q →
    subscripted slice false v u = operate [v, u] (getItem v u) → wpAny (model X.prog X.w) X.A (subscriptTail value slice v u) (EP X pins σ Q) X.xe s
noncomputable def MtR (X : Cx) (id : String) (r : V → List V → Hp → VK → Prop) : Prop :=
  ∀ (pins : List (Addr × Obj)) (s : Shared) (σ : St) (H : Hp) (x : V) (xs : List V) (v : Value) (us : List Value) (Q : VK), Inv X pins σ H s → RelV x v → Vals xs us → r x xs H Q →
    wpAny (model X.prog X.w) X.A (call (.builtin id) (v :: us)) (EP X pins σ Q) X.xe s
section
variable {X : Cx} {a b : Expr} {ta tb : TE} {pos : Pos}
theorem pe_ix {r : R2} (hr : IxR X r) (ha : PE X a ta) (hb : PE X b tb) (hs : PlainIx b) : PE X (.Subscript a b pos) (tOp r ta tb) := by
  intro pins s σ H Q I h
  exact Subscript_ (binT ha hb I h fun v u s2 x y H2 I2 rx ry q => hr a b pins s2 σ H2 x y v u Q I2 rx ry q (hs _ _))

noncomputable def rIxL (K : PySem.W.Frag) : R2 := fun x y H Q => ∃ p xs i v, x = .ref p ∧ y = .int i ∧ SqL K H p xs ∧ atI xs i = some v ∧ Q v H
noncomputable def rIxT (K : PySem.W.Frag) : R2 := fun x y H Q => ∃ p xs i v, x = .ref p ∧ y = .int i ∧ SqT K H p xs ∧ atI xs i = some v ∧ Q v H
noncomputable def rIxS : R2 := fun x y H Q => ∃ z i c, x = .str z ∧ y = .int i ∧ z.length ≤ sizeLine ∧ atI z.cps.toList i = some c ∧ Q (.str ⟨#[c]⟩) H
theorem ix_list : IxR X (rIxL X.K) := by
  intro value slice pins s σ H x y v u Q I rx ry h hs
  obtain ⟨p, xs, i, z, rfl, rfl, hq, he, q⟩ := h
  cases rx
  obtain ⟨t, rfl⟩ := ry
  obtain ⟨its, r, pl, hz⟩ := I.list hq
  obtain ⟨j, h1, h2, h3, h4, h5⟩ := atI_get he
  obtain ⟨w, ew, rw'⟩ := r.get h2
  have hl := r.length
  have hn := line63
  have fin : EP X pins σ Q w s := ⟨z, H, I, rw', q⟩
  by_cases h0 : 0 ≤ i
  · have hj : i.toNat = j := by
      rw [seqIndex_of h0 h5] at h1
      exact Option.some.inj h1
    exact item_listR pl.isList h0 (by lia) (by rw [hj]; simpa using ew) fin hs
  · have hj : (i + (its.toArray.size : Int)).toNat = j := by
      rw [seqIndex_neg (by lia) h4] at h1
      rw [List.size_toArray, ← hl]
      exact Option.some.inj h1
    exact subscriptTail_builtinR (x := w) pl.isList.typeIs slot_list_getitem.lookup
      (wpAny_getItem_list_neg (Q := fun r s' => r = w ∧ EP X pins σ Q r s') pl.isList (by lia) (by rw [List.size_toArray] <;> lia) (by lia) (by rw [hj]; simpa using ew) ⟨rfl, fin⟩) hs
theorem ix_tup : IxR X (rIxT X.K) := by
  intro value slice pins s σ H x y v u Q I rx ry h hs
  obtain ⟨p, xs, i, z, rfl, rfl, hq, he, q⟩ := h
  cases rx
  obtain ⟨t, rfl⟩ := ry
  obtain ⟨its, r, pl, hz⟩ := I.tuple hq
  obtain ⟨j, h1, h2, h3, h4, h5⟩ := atI_get he
  obtain ⟨w, ew, rw'⟩ := r.get h2
  have hl := r.length
  have hn := line63
  have fin : EP X pins σ Q w s := ⟨z, H, I, rw', q⟩
  exact subscriptTail_builtinR (x := w) pl.typeIs slot_tuple_getitem.lookup
    (getItem_tuple (j := j) (Q := fun r s' => r = w ∧ EP X pins σ Q r s') pl (by lia) (by lia) (by rw [List.size_toArray, ← hl]; exact h1) (by simpa using ew) ⟨rfl, fin⟩) hs
theorem ix_str : IxR X rIxS := by
  intro value slice pins s σ H x y v u Q I rx ry h hs
  obtain ⟨z, i, c, rfl, rfl, hz, he, q⟩ := h
  obtain ⟨t, rfl⟩ := rx
  obtain ⟨t', rfl⟩ := ry
  obtain ⟨j, h1, h2, h3, h4, h5⟩ := atI_get he
  have hl : z.cps.toList.length = z.length := by simp [Str.length]
  rw [hl] at h1 h4 h5
  have hn := line63
  exact tail_any (typeIs_str s z t) slot_str_getitem.lookup (getItem_str (c := c) (by
    have e1 : decide (i < -(2 ^ 63 : Int)) = false := decide_eq_false (by lia)
    have e2 : decide (i ≥ 2 ^ 63) = false := decide_eq_false (by lia)
    rw [e1, e2, Bool.or_false]) (by rw [h1]; simpa using h2) ⟨.str ⟨#[c]⟩, H, I.tok _, ⟨_, rfl⟩, q⟩) hs
theorem slice_bounds (lo hi : Option Int) (n : Nat) : (sliceBounds lo hi none n).1 = ((HT.sIx n 0 lo : Nat) : Int) ∧ (sliceBounds lo hi none n).2.1 = ((HT.sIx n n hi : Nat) : Int) ∧ (sliceBounds lo hi none n).2.2 = 1 := by
  refine ⟨?_, ?_, rfl⟩
  · cases lo with
    | none => simp [sliceBounds, HT.sIx]
    | some i =>
      simp only [sliceBounds, HT.sIx, Option.getD_none, show (1 : Int) > 0 by decide, if_true]
      by_cases h : i < 0
      · simp only [h, if_true] <;> lia
      · simp only [h, if_false] <;> lia
  · cases hi with
    | none => simp [sliceBounds, HT.sIx]
    | some i =>
      simp only [sliceBounds, HT.sIx, Option.getD_none, show (1 : Int) > 0 by decide, if_true]
      by_cases h : i < 0
      · simp only [h, if_true] <;> lia
      · simp only [h, if_false] <;> lia
theorem slicePick_cut (its : List Value) (lo hi : Option Int) : slicePick its.toArray lo hi none = ((its.drop (HT.sIx its.length 0 lo)).take (HT.sIx its.length its.length hi - HT.sIx its.length 0 lo)).toArray := by
  obtain ⟨h1, h2, h3⟩ := slice_bounds lo hi its.toArray.size
  unfold slicePick
  rw [h1, h2, h3]
  simp only [sliceRange_one, pick_run, List.size_toArray] <;> rfl
noncomputable def rSlL (K : PySem.W.Frag) : V → Option Int → Option Int → Hp → VK → Prop := fun x lo hi H Q => ∃ a xs, x = .ref a ∧ SqL K H a xs ∧ ∀ p, H p = none → Q (.ref p) (upd H p (.lst (cutV xs lo hi)))
theorem sl_list : SlR X (rSlL X.K) := by
  intro pins s σ H x v vl vu lo hi sl Q I rx hs pl pu h
  obtain ⟨a, xs, rfl, hx, q⟩ := h
  cases rx
  obtain ⟨its, r, ht, hz⟩ := I.list hx
  have hlen := r.length
  refine ⟨"list", _, slot_list_getitem.lookup, ht.isList.typeIs, ?_⟩
  refine wpAny_getItem_list_slice ht.isList hs pl pu .none (by simp) ?_ (by rw [List.size_toArray] <;> lia)
  rw [slicePick_cut, ← hlen]
  refine ⟨.ref s.heap.objs.size, _, I.laid (t' := s.toks) (o := .lst (cutV xs lo hi)) (fun b ob q => Heap.get?_push_of_some _ q) (Nat.le_refl _) ?_, rfl, q _ (I.hok.fresh (Nat.le_refl _))⟩
  exact ⟨Nat.le_trans (cutV_length xs lo hi) hz, _, 0, (r.drop (HT.sIx xs.length 0 lo)).take (HT.sIx xs.length xs.length hi - HT.sIx xs.length 0 lo), Heap.get?_push_size _ rfl⟩

theorem call_len_seq : CallR X (.builtin "len") (fun xs H Q => ∃ p ys, xs = [.ref p] ∧ (SqL X.K H p ys ∨ SqT X.K H p ys) ∧ Q (.int ys.length) H) := by
  intro pins s σ H xs us Q I r h
  obtain ⟨p, ys, rfl, hq, q⟩ := h
  obtain ⟨u, rfl, rx⟩ := vals1 r
  cases rx
  have hn := line63
  rcases hq with hq | hq
  · obtain ⟨its, r', pl, hz⟩ := I.list hq
    have hlen := r'.length
    exact Calls.call_len_list pl.isList (by simp only [List.size_toArray] <;> lia) ⟨.int ys.length, H, I.tok _, ⟨s.toks + 1, by rw [List.size_toArray, hlen]⟩, q⟩
  · obtain ⟨its, r', pl, hz⟩ := I.tuple hq
    have hlen := r'.length
    exact len_tuple pl (by simp only [List.size_toArray] <;> lia) ⟨.int ys.length, H, I.tok _, ⟨s.toks + 1, by rw [List.size_toArray, hlen]⟩, q⟩
theorem call_len_str : CallR X (.builtin "len") (fun xs H Q => ∃ z, xs = [.str z] ∧ z.length ≤ sizeLine ∧ Q (.int z.length) H) := by
  intro pins s σ H xs us Q I r h
  obtain ⟨z, rfl, hz, q⟩ := h
  obtain ⟨u, rfl, t, rfl⟩ := vals1 r
  have hn := line63
  exact len_str (by lia) ⟨.int z.length, H, I.tok _, ⟨_, rfl⟩, q⟩
theorem call_list_of : CallR X (.type "list") (fun xs H Q => ∃ p ys, xs = [.ref p] ∧ (SqL X.K H p ys ∨ SqT X.K H p ys) ∧ ∀ l, H l = none → Q (.ref l) (upd H l (.lst ys))) := by
  intro pins s σ H xs us Q I r h
  obtain ⟨p, ys, rfl, hq, q⟩ := h
  obtain ⟨u, rfl, rx⟩ := vals1 r
  cases rx
  have fin : ∀ (its : List Value), Vals ys its → ys.length ≤ sizeLine → ∀ (h' : Heap) (c' : Nat), (∀ b o', s.heap.get? b = some o' → h'.get? b = some o') →
      h'.get? s.heap.objs.size = some { cls := .type "list", dict := none, data := .seq its.toArray c', slots := #[] } → EP X pins σ Q (.ref s.heap.objs.size) { s with heap := h' } := fun its r' hz h' c' kp e =>
    ⟨.ref s.heap.objs.size, _, I.laid (t' := s.toks) kp (Nat.le_refl _) (show ObjOk X.prog X.w _ h' _ (.lst ys) from ⟨hz, its, c', r', e⟩), rfl, q _ (I.hok.fresh (Nat.le_refl _))⟩
  rcases hq with hq | hq
  · obtain ⟨its, r', pl, hz⟩ := I.list hq
    have hlen := r'.length
    obtain ⟨o, ho, hc, n, hd⟩ := pl.isList
    exact call_list_seq p (.inl rfl) ho hc hd (fun h' c' kp e => fin its r' hz h' c' kp e) (by simp only [List.size_toArray] <;> lia)
  · obtain ⟨its, r', pl, hz⟩ := I.tuple hq
    have hlen := r'.length
    obtain ⟨o, ho, hc, n, hd⟩ := pl
    exact call_list_seq p (.inr rfl) ho hc hd (fun h' c' kp e => fin its r' hz h' c' kp e) (by simp only [List.size_toArray] <;> lia)
noncomputable def tyV (K : PySem.W.Frag) (T : String) (x : V) (H : Hp) : Prop := match x with
  | .str _ => T = "str"
  | .int _ => T = "int"
  | .ref p => (T = "list" ∧ ∃ xs, SqL K H p xs) ∨ (T = "tuple" ∧ ∃ o, K.lookup p = some o ∧ o.cls = .type "tuple" ∧ o.dict = none) ∨
      (T = "dict" ∧ ((∃ kvs, H p = some (.dK kvs)) ∨ ∃ kvs, H p = some (.dT kvs))) ∨ (T = "set" ∧ ∃ S n, H p = some (.set S n))
  | _ => False
theorem tyV_is {pins : List (Addr × Obj)} {σ : St} {H : Hp} {s : Shared} {T : String} {x : V} {v : Value} (I : Inv X pins σ H s) (r : RelV x v) (ty : tyV X.K T x H) :
    s.TypeIs v T ∧ ∀ a, v = .ref a → ∃ ob, s.heap.get? a = some ob ∧ ob.dict = none := by
  cases x with
  | str z =>
    obtain ⟨t, rfl⟩ := r
    cases (show T = "str" from ty)
    exact ⟨typeIs_str s z t, fun _ e => nomatch e⟩
  | int i =>
    obtain ⟨t, rfl⟩ := r
    cases (show T = "int" from ty)
    exact ⟨typeIs_int s i t, fun _ e => nomatch e⟩
  | ref p =>
    cases r
    rcases ty with ⟨rfl, xs, hq⟩ | ⟨rfl, o, hk, hc, hd⟩ | ⟨rfl, hk⟩ | ⟨rfl, S, n, hk⟩
    · obtain ⟨its, _, pl, _⟩ := I.list hq
      refine ⟨pl.isList.typeIs, fun a e => ?_⟩
      cases e
      obtain ⟨o, n, e, c, hd, _⟩ := pl
      exact ⟨o, e, hd⟩
    · refine ⟨⟨o, I.kIn p o hk, hc⟩, fun a e => ?_⟩
      cases e
      exact ⟨o, I.kIn _ o hk, hd⟩
    · have z : ∃ o, s.heap.get? p = some o ∧ o.ExactDict := by
        rcases hk with ⟨kvs, hk⟩ | ⟨kvs, hk⟩
        · obtain ⟨_, _, _, _, o, _, _, e, ex, _⟩ := I.hok p _ hk
          exact ⟨o, e, ex⟩
        · obtain ⟨_, _, _, _, o, _, _, e, ex, _⟩ := I.hok p _ hk
          exact ⟨o, e, ex⟩
      obtain ⟨o, e, ex⟩ := z
      refine ⟨⟨o, e, ex.1⟩, fun a e2 => ?_⟩
      cases e2
      exact ⟨o, e, ex.2.1⟩
    · obtain ⟨o, _, _, _, e, ex, _⟩ := I.hok p _ hk
      refine ⟨⟨o, e, ex.1⟩, fun a e2 => ?_⟩
      cases e2
      exact ⟨o, e, ex.2.1⟩
  | _ => exact False.elim ty
noncomputable def tBM0 (K : PySem.W.Frag) (T : String) (r : V → List V → Hp → VK → Prop) (to : TE) : TE := fun σ H Q => to σ H fun x H1 => tyV K T x H1 ∧ r x [] H1 Q
noncomputable def tBM (K : PySem.W.Frag) (T : String) (r : V → List V → Hp → VK → Prop) (to : TE) (t : TA) : TE := fun σ H Q => to σ H fun x H1 => tyV K T x H1 ∧ t σ H1 fun xs H2 => r x xs H2 Q
variable {o e : Expr} {es : List Expr} {to : TE} {t : TA} {name : Str} {apos cpos : Pos} {T id : String} {r : V → List V → Hp → VK → Prop}
theorem pe_bm0 (pa : PlainAttrs T) (slot : Slot T name id) (hty : typeOf (.builtin id) = pure (.type "method_descriptor")) (hm : MtR X id r) (ho : PE X o to)
    (hbase : attributeBase o name X.env (eval o X.env) = eval o X.env := by rfl) (hline : (apos.endLine == cpos.line) = true := by rfl) : PE X (.Call (.Attribute o name apos) [] [] cpos) (tBM0 X.K T r to) := by
  intro pins s σ H Q I h
  refine wpAny_Call_method0_late hbase hline (thn (ho pins s σ H _ I h) fun v s1 hz9 => ?_)
  obtain ⟨x, H1, I1, r1, ty, q1⟩ := hz9
  obtain ⟨h1, h2⟩ := tyV_is I1 r1 ty
  exact ⟨T, id, pa, slot, hty, h1, h2, Calls.callWith_builtin rfl (PySem.evalArgs_none (hm pins s1 σ H1 x [] v [] Q I1 r1 .nil q1))⟩
theorem pe_bm (pa : PlainAttrs T) (slot : Slot T name id) (hty : typeOf (.builtin id) = pure (.type "method_descriptor")) (hm : MtR X id r) (ho : PE X o to) (ha : PA X (e :: es) t)
    (hbase : attributeBase o name X.env (eval o X.env) = eval o X.env := by rfl)
    (hfew : ((backTo cpos (starEach (e :: es) X.env)).all (fun x => !x.1) && (backToKw cpos (keywordEach [] X.env)).all (fun x => x.1.isSome)
      && decide ((e :: es).length + ([] : List Keyword).length + (if ([] : List Keyword).isEmpty then 0 else 1) < 30)) = true := by rfl)
    (hline : (apos.endLine == cpos.line) = true := by rfl) (hs : starEach (e :: es) X.env = (false, eval e X.env) :: starEach es X.env := by rfl) (hplain : (backTo cpos (starEach es X.env)).any (·.1) = false := by rfl) :
    PE X (.Call (.Attribute o name apos) (e :: es) [] cpos) (tBM X.K T r to t) := by
  intro pins s σ H Q I h
  refine wpAny_Call_method_late hbase hfew hline rfl (thn (ho pins s σ H _ I h) fun v s1 hz9 => ?_)
  obtain ⟨x, H1, I1, r1, ty, q1⟩ := hz9
  obtain ⟨h1, h2⟩ := tyV_is I1 r1 ty
  refine ⟨T, id, pa, slot, hty, h1, h2, ?_⟩
  have hA := ha cpos pins s1 σ H1 _ I1 q1
  rw [hs] at hA ⊢
  refine Calls.callWith_builtin (by show (false || (backTo cpos (starEach es X.env)).any (·.1)) = false; rw [hplain] <;> rfl) (Calls.evalArgs_plain ?_)
  refine thn hA fun us s2 hz9 => ?_
  obtain ⟨vs, H2, I2, r2, q2⟩ := hz9
  exact hm pins s2 σ H2 x vs v us Q I2 r1 r2 q2
end
end L2

namespace L2
open PySem PySem.Spec PyProof.Rows

noncomputable def MtM (X : Cx) (id : String) (r : V → List V → Hp → VK → Prop) : Prop :=
  ∀ (pins : List (Addr × Obj)) (s : Shared) (σ : St) (H : Hp) (x : V) (xs : List V) (v : Value) (us : List Value) (Q : VK), Inv X pins σ H s → RelV x v → Vals xs us → r x xs H Q →
    wpAny (model X.prog X.w) X.A (call (.builtin id) (v :: us)) (EP X pins σ Q) X.xe s

theorem Vals.one {x : V} {us : List Value} (h : Vals [x] us) : ∃ u, us = [u] ∧ RelV x u := by
  cases h with
  | cons r t => cases t; exact ⟨_, rfl, r⟩
section
variable {X : Cx} {pins : List (Addr × Obj)} {σ : St} {H : Hp} {s : Shared} {l b : Addr} {xs ys zs : List V}

theorem Inv.lset {its its' : List Value} {n : Nat} {f : Array Value → Array Value} {t' : Nat} (I : Inv X pins σ H s) (hH : H l = some (.lst xs))
    (e : s.heap.get? l = some { cls := .type "list", data := .seq its.toArray n }) (hf : f its.toArray = its'.toArray) (hv : Vals ys its') (hz : ys.length ≤ sizeLine) :
    Inv X pins σ (upd H l (.lst ys)) { s with heap := s.heap.update l (Obj.mapSeq f), toks := t' } := by
  have q := PySem.IsL.update e f
  rw [hf] at q
  refine I.write (x := l) (e := l) (by rw [hH]; exact trivial) (.inl rfl) (fun b' u hb hu => (Heap.get?_update_other s.heap (Obj.mapSeq f) (Ne.symm hb)).trans hu) ⟨_, q⟩ ?_
  exact ⟨hz, its', _, hv, q⟩
theorem Inv.lnew {its : List Value} {t' : Nat} (I : Inv X pins σ H s) (hv : Vals ys its) (hz : ys.length ≤ sizeLine) :
    Inv X pins σ (upd H s.heap.objs.size (.lst ys)) { s with heap := s.heap.push { cls := .type "list", data := .seq its.toArray }, toks := t' } :=
  I.laid (fun _ _ q => Heap.get?_push_of_some _ q) (Nat.le_refl _) ⟨hz, its, 0, hv, Heap.get?_push_size _ rfl⟩
theorem Inv.fresh (I : Inv X pins σ H s) : H s.heap.objs.size = none := I.hok.fresh (Nat.le_refl _)
theorem Inv.lstM (I : Inv X pins σ H s) (hH : H l = some (.lst xs)) : xs.length ≤ sizeLine ∧ ∃ (its : List Value) (n : Nat), Vals xs its ∧ xs.length = its.length ∧ s.heap.get? l = some { cls := .type "list", data := .seq its.toArray n } := by
  obtain ⟨z, its, n, r, e⟩ := I.hok l _ hH
  exact ⟨z, its, n, r, r.length, e⟩

theorem notLongL {n : Nat} (h : n ≤ sizeLine) : Builtin.List.listTooLong n = false := by
  unfold Builtin.List.listTooLong
  exact decide_eq_false (by lia)
end

section
variable {X : Cx}

noncomputable def rAppend : V → List V → Hp → VK → Prop := fun x vs H Q => ∃ l xs y, x = .ref l ∧ vs = [y] ∧ H l = some (.lst xs) ∧ xs.length < sizeLine ∧ Q .non (upd H l (.lst (xs ++ [y])))
theorem mt_append : MtM X "list.append" rAppend := by
  intro pins s σ H x vs v us Q I rx rv h
  obtain ⟨l, xs, y, rfl, rfl, hH, hz, q⟩ := h
  cases rx
  obtain ⟨u, rfl, ru⟩ := rv.one
  obtain ⟨z, its, n, r, hl, e⟩ := I.lstM hH
  refine call_meets F.slot_list_append ⟨_, e, rfl⟩ F.entry_list_append (F.args_list_append_2 _ _) (PySem.list_append l its.toArray n u (by rw [List.size_toArray]; lia)) ⟨e, ?_⟩
  refine ⟨.non, _, I.lset (its' := its ++ [u]) hH e (by simp) (r.append (.cons ru .nil)) ?_, rfl, q⟩
  rw [List.length_append, List.length_singleton]
  lia

noncomputable def rExtend : V → List V → Hp → VK → Prop := fun x vs H Q => ∃ l b xs zs, x = .ref l ∧ vs = [.ref b] ∧ H l = some (.lst xs) ∧ H b = some (.lst zs) ∧ xs.length + zs.length ≤ sizeLine ∧ Q .non (upd H l (.lst (xs ++ zs)))
theorem mt_extend : MtM X "list.extend" rExtend := by
  intro pins s σ H x vs v us Q I rx rv h
  obtain ⟨l, b, xs, zs, rfl, rfl, hH, hB, hz, q⟩ := h
  cases rx
  obtain ⟨u, rfl, ru⟩ := rv.one
  cases ru
  obtain ⟨z, its, n, r, hl, e⟩ := I.lstM hH
  obtain ⟨z2, its2, n2, r2, hl2, e2⟩ := I.lstM hB
  have hsz : its.toArray.size + its2.toArray.size ≤ sizeLine := by rw [List.size_toArray, List.size_toArray]; lia
  have hlong : ¬ (!its.toArray.isEmpty && Builtin.List.listTooLong (its.toArray.size + its2.toArray.size)) = true := by
    rw [notLongL hsz, Bool.and_false]
    exact Bool.false_ne_true
  refine call_meets F.slot_list_extend ⟨_, e, rfl⟩ F.entry_list_extend (F.args_list_extend_2 _ _)
    (AutoSeq1.list_extend_list_list_0 l its.toArray n b its2.toArray n2 hlong (by rw [List.size_toArray]; lia) (by lia)) ⟨e, e2, ?_⟩
  refine ⟨.non, _, I.lset (its' := its ++ its2) hH e (by simp) (r.append r2) ?_, rfl, q⟩
  rw [List.length_append]
  omega

end


end L2

namespace Att
open PySem PySem.W PySem.Calls PyProof.Rows

theorem ints_of_wellAll {P : Params} {h : Heap} : ∀ (ns : List Int) (vs : List Value), WellAll P h vs (ns.map WData.int) → IntsAre vs ns := by
  intro ns
  induction ns with
  | nil =>
    intro vs w
    rw [List.map_nil] at w
    cases w
    exact .nil
  | cons n ns ih =>
    intro vs w
    rw [List.map_cons] at w
    cases w with
    | cons a b =>
      cases a
      exact .cons _ _ (ih _ b)

theorem script_of {l : OpenLaw} {n : Nat} (hn : l.most = some n) {P : Params} {h : Heap} {args : List WData} {vals : List Value}
    (hpre : l.row.toRowW.claim.pre args = true) (hwl : WellAll P h vals args) :
    ∃ a vs ns, vals = [Value.ref a] ∧ args = [WData.list (ns.map WData.int)] ∧ h.get? a = some { cls := .type "list", data := .seq vs.toArray } ∧ IntsAre vs ns ∧ ns.length ≤ n := by
  have hsh : WShape.hasAll [] args [.list .int] = true := (pre_splitW hpre).1
  have hc : l.pre.holds [] { args := args } = true := (pre_splitW hpre).2
  obtain ⟨d, r, rfl, h1, h2⟩ := hasAllW_cons hsh
  obtain rfl := hasAllW_nil h2
  obtain ⟨xs, rfl, h3⟩ := hasW_list h1
  obtain ⟨ns, rfl⟩ := items_int h3
  have hlen : ns.length ≤ n := by
    unfold OpenLaw.pre at hc
    have h4 : (WTm.not (.lt (.lit (.int (n : Int))) (.len (.arg 0)))).holds [] { args := [.list (ns.map .int)] } = true := by
      have h4 := (holds_andW hc).1
      rw [hn] at h4
      exact h4
    have h5 := condW_of h4 (w_not (w_lt w_lit (w_len_list (w_arg rfl))))
    rw [List.length_map] at h5
    refine Nat.le_of_not_lt fun q => ?_
    have q' : (n : Int) < ((ns.length : Nat) : Int) := by omega
    first
      | (rw [decide_eq_true q'] at h5; exact absurd h5 (by decide))
      | (simp at h5; omega)
  cases hwl with
  | cons w1 w2 =>
    cases w2
    cases w1 with
    | list ho hall => exact ⟨_, _, ns, rfl, rfl, ho, ints_of_wellAll ns _ hall, hlen⟩

theorem post_true (l : OpenLaw) (args : List WData) : l.row.toRowW.claim.post args (.bool true) args = true :=
  postW_of (r := l.row.toRowW) (X := (true == true))
    (show WShape.has [] (.bool true) .bool = true by first | rfl | decide | simp [WShape.has, WShape.arms, WShape.armsAll])
    (show (WTm.eq .res (.lit (.bool true))).value [] { args := args, res := some (.bool true), after := args } = some (.bool (true == true)) from w_eq_bool (w_res rfl) w_lit) rfl

theorem attach_call {l : OpenLaw} {n : Nat} {q : Program} {loose : List Str} {XP : (Str → Option Value) → Heap → Prop} {YP : World → Heap → Prop} {d : DefRec}
    (hn : l.most = some n) (hdf : d.params.defaults = [])
    (call : ∀ (w : World) (s₀ s₁ : Shared) (mg mb : Str → Option Value) (fa : Addr) (o : Obj) (pm cd doc : Value) (a : Addr) (vs : List Value) (ns : List Int),
      Ground q loose [] XP w s₀ mg mb s₁.heap → YP w s₁.heap →
      s₁.heap.get? fa = some o → o.data = .func (docDef d.name d.params d.body d.scope pm cd doc) → s₁.heap.CodeRec cd d.name → mg d.name = some (.ref fa) →
      s₁.heap.get? a = some { cls := .type "list", data := .seq vs.toArray } → IntsAre vs ns → ns.length ≤ n → s₁.gens = #[] →
      codeAny (model l.prog w) callerA (.call (.ref fa) ⟨[.ref a], []⟩) (fun r s' => r = .ok (.ret (.bool true)) ∧ OldK s₁.heap s'.heap ∧ s'.os = s₁.os ∧ AllBare s'.gens) s₁) :
    WalkO q loose XP YP l.row.toRowW d [] (fun f vs => PySem.call f vs) := by
  intro w s₀ s₁ mg mb G Y fa o pm cd doc dV kV ho hd hcd hD hmg hg args vals as hpre hlay hrd hwl hlo
  obtain rfl : dV = .none := Dflts.none hD hdf
  obtain rfl : kV = .none := Dflts.noKw hD
  obtain ⟨a, vs, ns, rfl, rfl, hobj, hints, hlen⟩ := script_of hn hpre hwl
  refine enter_call (codeAny_mono (call w s₀ s₁ mg mb fa o pm cd doc a vs ns G Y ho (fd_plain hd) hcd hmg hobj hints hlen hg) fun r s' hq => ?_)
  obtain ⟨rfl, h2, h3, h4⟩ := hq
  exact ⟨.inl ⟨.bool true, .bool true, [], rfl, fun _ => rfl, .bool true, post_true l _, fun _ => ⟨List.Pairwise.nil, fun _ hm => (nomatch hm)⟩⟩, h2, h3, h4⟩

section
variable {prog : Program} {w : World} {A : Around} {E : Value → Shared → Prop} {s : Shared} {K : Frag}

end
end Att

namespace L2
open PySem PySem.Spec PyProof.Rows

theorem vals_ints : ∀ {vs : List Value} {ns : List Int}, IntsAre vs ns → Vals (ns.map V.int) vs
  | _, _, .nil => .nil
  | _, _, .cons n t h => .cons ⟨t, rfl⟩ (vals_ints h)

noncomputable def Only (H : Hp) : Prop := ∀ b, H b = none ∨ ∃ o xs, H b = some (.frz o (.lst xs))

theorem law_call {P : Program} {w : World} {K : PySem.W.Frag} {mg mb : Str → Option Value} {CX : CXT} {k : Nat} {fa a : Addr} {fd : FuncData} {x : Str} {sp : Sp} {s₁ : Shared} {vs : List Value} {ns : List Int}
    (KX : K.In s₁.heap) (hns : s₁.heap.Ns mainGlobals mg) (hb : s₁.heap.Ns builtinsNs mb) (hbb : ∀ x : Str, x ≠ "__name__" → mb x = bootBuiltins x) (hlim : s₁.heap.NoLimit) (hg : s₁.gens = #[])
    (ha : s₁.heap.get? a = some { cls := .type "list", data := .seq vs.toArray }) (hi : IntsAre vs ns) (hl : ns.length ≤ sizeLine) (hr : Room k callerA)
    (F : ∀ base : Heap, K.In base → base.Ns mainGlobals mg → FnOk P w K mg base CX k fa fd [x] sp) (hbind : ∀ (s : Shared) (u : Value), BindsTo s fd ⟨[u], []⟩ [(x, u)])
    (hsp : ∀ H : Hp, Only H → SqL K H a (ns.map V.int) → sp [.ref a] H (fun v _ => v = .bl true) fun _ _ _ => False)
    (hCX : ∀ H e s', CX [] H s₁ (fun _ _ _ => False) e s' → False) :
    codeAny (model P w) callerA (.call (.ref fa) ⟨[.ref a], []⟩) (fun r s' => r = .ok (.ret (.bool true)) ∧ OldK s₁.heap s'.heap ∧ s'.os = s₁.os ∧ AllBare s'.gens) s₁ := by
  have rv := vals_ints hi
  have lenV := hi.length
  -- from an abstract heap in which nothing but the script may be tracked
  have core : ∀ H : Hp, Only H → SqL K H a (ns.map V.int) → HOk P w H s₁.heap → (∀ b, H b ≠ none → b = a) → (H a ≠ none → K.lookup a = none) →
      codeAny (model P w) callerA (.call (.ref fa) ⟨[.ref a], []⟩) (fun r s' => r = .ok (.ret (.bool true)) ∧ OldK s₁.heap s'.heap ∧ s'.os = s₁.os ∧ AllBare s'.gens) s₁ := by
    intro H hO hS hok hA hK
    have base_of : ∀ {b : Addr} {o : Obj}, s₁.heap.get? b = some o → H b = none → (hidT s₁.heap H).get? b = some o := fun e n => hidT_get e n
    have noA : ∀ {b : Addr} {o : Obj} {es : Array DictEntry} {ep : Nat}, s₁.heap.get? b = some o → o.data = .dict es ep → H b = none := fun {b o es ep} e d => by
      cases q : H b with
      | none => rfl
      | some u =>
        have e' : b = a := hA b (by rw [q]; simp)
        subst e'
        rw [ha] at e; cases e
        have d' : Data.seq vs.toArray _ = Data.dict es ep := d
        cases d'
    have nsK : ∀ {b : Addr} {m : Str → Option Value}, s₁.heap.Ns b m → (hidT s₁.heap H).Ns b m := fun {b m} ⟨o, es, ep, e, d, r⟩ => ⟨o, es, ep, base_of e (noA e d), d, r⟩
    have hKb : K.In (hidT s₁.heap H) := fun b o e => base_of (KX b o e) (by
      cases q : H b with
      | none => rfl
      | some u =>
        have e' : b = a := hA b (by rw [q]; simp)
        subst e'
        rw [hK (by rw [q]; simp)] at e; cases e)
    have hM : Mod K mg (hidT s₁.heap H) := ⟨hKb, nsK hns, ⟨mb, nsK hb, hbb⟩, let ⟨mc, h1, h2⟩ := hlim; ⟨mc, nsK h1, h2⟩⟩
    have e0 : Env0 P w K mg (hidT s₁.heap H) callerA [] s₁ H := ⟨rfl, hM, fun b o e => of_hidT e, Nat.le_of_eq (hidT_size _ _), trivial, fun b hb => absurd (show b ∈ ([] : List Addr) from hb) (by simp), hok, .of_eq hg⟩
    refine codeAny_mono ((F _ hKb (nsK hns)).run callerA [] s₁ H ⟨[.ref a], []⟩ [.ref a] [.ref a] _ _ hr e0 (hbind s₁ (.ref a)) (.cons rfl .nil) (hsp H hO hS)) fun r s' h => ?_
    cases r with
    | error e => exact (hCX H e s' h).elim
    | ok fl =>
      cases fl with
      | next => exact False.elim h
      | brk => exact False.elim h
      | cont => exact False.elim h
      | ret u =>
        obtain ⟨v, H', os, bare, un, hok', r', q⟩ := h
        have q' : v = .bl true := q
        subst q'
        obtain rfl : u = Value.bool true := r'
        refine ⟨rfl, OldK.of_keep fun b o e => ?_, os, bare⟩
        cases q : H b with
        | none => exact un.keep b o e q (by intro z; exact absurd (show b ∈ ([] : List Addr) from z) (by simp)) (by simp)
        | some u =>
          rcases hO b with z | ⟨ob, xs, z⟩
          · rw [q] at z; cases z
          · have z2 := un.frzs b ob _ z
            obtain ⟨e1, _⟩ := hok b _ z
            obtain ⟨e2, _⟩ := hok' b _ z2
            rw [e] at e1; cases e1
            exact e2
  cases hk : K.lookup a with
  | some o =>
    -- the script is one of the module's own objects
    have e := KX a o hk
    rw [ha] at e
    cases e
    refine core (fun _ => none) (fun _ => .inl rfl) (.inr ⟨_, vs.toArray, _, hk, rfl, rfl, rfl, by rw [List.size_toArray, lenV]; exact hl, by simpa using rv⟩) (fun b u z => by have z' : (none : Option HO) = some u := z; cases z') (fun b z => absurd rfl z) fun z => absurd rfl z
  | none =>
    refine core (fun b => if b = a then some (.frz { cls := .type "list", data := .seq vs.toArray } (.lst (ns.map V.int))) else none) (fun b => ?_) (.inl (.inr ⟨{ cls := .type "list", data := .seq vs.toArray }, if_pos rfl⟩)) (fun b u z => ?_) (fun b z => ?_) fun _ => hk
    · by_cases hb : b = a
      · exact .inr ⟨_, _, if_pos hb⟩
      · exact .inl (if_neg hb)
    · by_cases hb : b = a
      · have z' := (if_pos hb).symm.trans z
        cases z'
        subst hb
        exact ⟨ha, by rw [List.length_map]; exact hl, vs, _, rv, ha⟩
      · have z' := (if_neg hb).symm.trans z
        cases z'
    · by_cases hb : b = a
      · exact hb
      · exact absurd (if_neg hb) z
end L2

namespace L2
open PySem PySem.Spec PyProof.Rows

theorem walk_of {l : PySem.W.OpenLaw} {n k : Nat} {q : Program} {loose : List Str} {XP : (Str → Option Value) → Heap → Prop} {YP : World → Heap → Prop} {d : DefRec} {K : Params → PySem.W.Frag} {CX : World → CXT} {sp : World → Sp} {x : Str}
    (hn : l.most = some n) (hn2 : n ≤ sizeLine) (hdf : d.params.defaults = []) (hr : Room k callerA)
    (hY : ∀ (w : World) (h : Heap), YP w h → (K w.params).In h)
    (F : ∀ (w : World) (mg : Str → Option Value) (fa : Addr) (h : Heap), (K w.params).In h → h.Ns mainGlobals mg → mg d.name = some (.ref fa) →
      ∃ fd : FuncData, (∀ (s : Shared) (u : Value), BindsTo s fd ⟨[u], []⟩ [(x, u)]) ∧
        ∀ base : Heap, (K w.params).In base → base.Ns mainGlobals mg → FnOk l.prog w (K w.params) mg base (CX w) k fa fd [x] (sp w))
    (hsp : ∀ (w : World) (H : Hp) (a : Addr) (ns : List Int), ns.length ≤ n → Only H → SqL (K w.params) H a (ns.map V.int) → sp w [.ref a] H (fun v _ => v = .bl true) fun _ _ _ => False)
    (hCX : ∀ (w : World) (H : Hp) (s : Shared) (e : Value) (s' : Shared), CX w [] H s (fun _ _ _ => False) e s' → False) :
    PySem.W.WalkO q loose XP YP l.row.toRowW d [] (fun f vs => PySem.call f vs) := by
  refine Att.attach_call hn hdf fun w s₀ s₁ mg mb fa o pm cd doc a vs ns G Y ho hd hcd hmg hobj hints hlen hg => ?_
  have KX := hY w _ Y
  obtain ⟨fd, hb, hF⟩ := F w mg fa _ KX G.T.g hmg
  exact law_call KX G.T.g G.T.b G.T.builtins G.T.nolimit hg hobj hints (Nat.le_trans hlen hn2) hr hF hb (fun H hO hS => hsp w H a ns hlen hO hS) fun H e s' => hCX w H s₁ e s'
end L2

namespace L2
open PySem PySem.Spec PyProof.Rows

noncomputable def defArgs (s : Stmt) : Arguments := match s with
  | .FunctionDef _ a _ _ _ _ _ _ _ _ => a
  | _ => { posonlyargs := [], args := [], vararg := none, kwonlyargs := [], kw_defaults := [], kwarg := none, defaults := [] }
noncomputable def defBody (s : Stmt) : List Stmt := match s with
  | .FunctionDef _ _ b _ _ _ _ _ _ _ => b
  | _ => []
noncomputable def defScope (s : Stmt) : Scope := match s with
  | .FunctionDef _ _ _ _ _ _ sc _ _ _ => sc
  | _ => { kind := .function, names := [], isGenerator := false, isCoroutine := false }

noncomputable abbrev CX0 : CXT := fun _ _ _ _ _ _ => False
noncomputable abbrev E0 : XK := fun _ _ _ => False
theorem pass0 {X : Cx} : Passes CX0 X E0 := fun _ _ _ _ _ _ _ h => h.elim

structure Fun (K : PySem.W.Frag) (x qual : Str) (st : Stmt) (f : Addr) (fd : FuncData) : Prop where
  ex : ∃ (oc : Value) (od : Option Addr) (kV doc pm : Value) (an : Option Addr) (cdv ct : Value) (osl : Array (Option Value)),
    fd = PySem.W.fnOf x qual (defArgs st) (defBody st) (defScope st) .none kV doc pm an cdv ct ∧ K.lookup f = some ⟨oc, od, .func fd, osl⟩ ∧ PySem.W.codeIn K cdv qual = true
  kp : PySem.W.keepIn K (.ref f) = true
section
variable {P : Program} {w : World} {K : PySem.W.Frag} {mg : Str → Option Value} {base : Heap}
theorem Fun.ok {x qual : Str} {st : Stmt} {f : Addr} {fd : FuncData} {N ps : List Str} {k : Nat} {sp : Sp} (F : Fun K x qual st f fd) (S : FnScope N ps (defScope st)) (len : ∀ vs H Q E, sp vs H Q E → vs.length = ps.length)
    (hbody : ∀ (cdv : Value) (A : Around) (outer : List Env) (s : Shared) (H : Hp) (vs : List V) (Q : VK) (E : XK), Room k (A.deeper (envOfC qual (defScope st) s.heap.objs.size f cdv)) → sp vs H Q E →
      ∃ t, PSs (cxOf CX0 P w K mg base N qual (defScope st) f cdv A outer s H E).nox (defBody st) t ∧ t { nx := fun _ H' => Q .non H', rt := Q } (start N vs) H) : FnOk P w K mg base CX0 (k + 1) f fd ps sp := by
  obtain ⟨oc, od, kV, doc, pm, an, cdv, ct, osl, rfl, lk, hcd⟩ := F.ex
  refine fn_of lk hcd S len fun A outer s H vs Q E hr hsp => ?_
  obtain ⟨t, h, q⟩ := hbody cdv A outer s H vs Q E hr hsp
  exact ⟨t, h.nox, q⟩
theorem Fun.binds {x qual : Str} {st : Stmt} {f : Addr} {fd : FuncData} {ps : List Str} (F : Fun K x qual st f fd)
    (h : ∀ (kV doc pm : Value) (an : Option Addr) (cdv ct : Value) (us : List Value), us.length = ps.length → bindArgs (PySem.W.fnOf x qual (defArgs st) (defBody st) (defScope st) .none kV doc pm an cdv ct) ⟨us, []⟩ = pure (ps.zip us)) : Binds K fd ps [] := by
  obtain ⟨oc, od, kV, doc, pm, an, cdv, ct, osl, rfl, lk, hcd⟩ := F.ex
  exact .all (h kV doc pm an cdv ct)
theorem fun_mk {x qual : Str} {st : Stmt} {f : Addr} {oc : Value} {od an : Option Addr} {osl : Array (Option Value)} {kV doc pm cdv ct : Value} (l : K.lookup f = some ⟨oc, od, .func (PySem.W.fnOf x qual (defArgs st) (defBody st) (defScope st) .none kV doc pm an cdv ct), osl⟩)
    (c : PySem.W.codeIn K cdv qual = true) (k : PySem.W.keepIn K (.ref f) = true) : Fun K x qual st f (PySem.W.fnOf x qual (defArgs st) (defBody st) (defScope st) .none kV doc pm an cdv ct) := ⟨⟨oc, od, kV, doc, pm, an, cdv, ct, osl, rfl, l, c⟩, k⟩
end
theorem hu_of {A : Around} {k : Nat} (hr : Room k A) : A.units + 1 < cLine := Nat.lt_of_le_of_lt (Nat.add_le_add_left (by decide : 1 ≤ 64) _) hr.units
section
variable {X : Cx}
theorem pv (i : Nat) {x : Str} {pos : Pos} (hN : X.N[i]? = some x := by rfl) (hv : Vis X.env.scope x := by first | exact Or.inl rfl | exact Or.inr (Or.inl rfl) | exact Or.inr (Or.inr rfl)) (hd : (x == ("__debug__" : Str)) = false := by decide)
    (hcd : (x == ("__classdict__" : Str)) = false := by decide) : PE X (.Name x pos) (tVar i) := pe_var hN hv hd hcd
end

theorem iteF {A B : Prop} (h : B) : if false = true then A else B := by
  rw [if_neg Bool.false_ne_true]
  exact h
theorem iteT {A B : Prop} (h : A) : if true = true then A else B := by
  rw [if_pos rfl]
  exact h
noncomputable def Same (H H' : Hp) : Prop := ∀ b o, H b = some o → H' b = some o
theorem Same.refl (H : Hp) : Same H H := fun _ _ h => h
theorem Same.trans {H H1 H2 : Hp} (a : Same H H1) (b : Same H1 H2) : Same H H2 := fun c o h => b c o (a c o h)
theorem Same.free {H H' : Hp} (e : Same H H') {l : Addr} (h : H' l = Option.none) : H l = Option.none := by
  cases q : H l with
  | none => rfl
  | some o =>
    rw [e l o q] at h
    cases h
theorem Same.seq {K : PySem.W.Frag} {H H' : Hp} {a : Addr} {xs : List V} (e : Same H H') (h : SqL K H a xs) : SqL K H' a xs := by
  rcases h with (h | ⟨o, h⟩) | h
  · exact .inl (.inl (e _ _ h))
  · exact .inl (.inr ⟨o, e _ _ h⟩)
  · exact .inr h

end L2

set_option maxHeartbeats 4000000
namespace L2
open PySem PySem.Spec PyProof.Rows

section
variable {κ : Type} [DecidableEq κ]
noncomputable def valV (kvs : List (κ × V)) (k : κ) : Option V := (kvs.find? fun kv => decide (kv.1 = k)).map (·.2)
noncomputable def putK (kvs : List (κ × V)) (k : κ) (v : V) : List (κ × V) :=
  if (kvs.any fun kv => decide (kv.1 = k)) = true then kvs.map (fun kv => if kv.1 = k then (kv.1, v) else kv) else kvs ++ [(k, v)]
theorem valV_pos {p : κ × V} {r : List (κ × V)} {k : κ} (e : p.1 = k) : valV (p :: r) k = some p.2 := by simp [valV, List.find?_cons, e]
theorem valV_neg {p : κ × V} {r : List (κ × V)} {k : κ} (e : ¬ p.1 = k) : valV (p :: r) k = valV r k := by simp [valV, List.find?_cons, e]
theorem valV_any (k : κ) : ∀ kvs : List (κ × V), (kvs.any fun kv => decide (kv.1 = k)) = (valV kvs k).isSome
  | [] => rfl
  | p :: r => by
    rw [List.any_cons]
    by_cases e : p.1 = k
    · simp only [valV_pos e, decide_eq_true e, Bool.true_or, Option.isSome_some]
    · rw [valV_neg e, decide_eq_false e, Bool.false_or]; exact valV_any k r
theorem length_putK (kvs : List (κ × V)) (k : κ) (v : V) : (putK kvs k v).length ≤ kvs.length + 1 := by
  unfold putK
  split
  · rw [List.length_map]; lia
  · rw [List.length_append, List.length_cons, List.length_nil]; lia
theorem RelO.isSome_eq {o : Option V} {u : Option Value} (r : RelO o u) : o.isSome = u.isSome := by
  cases o with
  | none => cases u with
    | none => rfl
    | some _ => exact (show False from r).elim
  | some _ => cases u with
    | none => exact (show False from r).elim
    | some _ => rfl
theorem KV.val {kvs : List (κ × V)} {vs : List (κ × Value)} (r : KV kvs vs) (k : κ) : RelO (valV kvs k) (valueAt vs k) := by
  unfold KV at r
  induction r with
  | nil => exact True.intro
  | @cons p q ps qs h t ih =>
    obtain ⟨h1, h2⟩ := h
    by_cases e : p.1 = k
    · have e' : q.1 = k := h1.symm.trans e
      have b : valueAt (q :: qs) k = some q.2 := by simp [valueAt, List.find?_cons, e']
      rw [valV_pos e, b]; exact h2
    · have e' : ¬ q.1 = k := fun z => e (h1.trans z)
      have b : valueAt (q :: qs) k = valueAt qs k := by simp [valueAt, List.find?_cons, e']
      rw [valV_neg e, b]; exact ih
theorem KV.any {kvs : List (κ × V)} {vs : List (κ × Value)} (r : KV kvs vs) (k : κ) : (kvs.any fun kv => decide (kv.1 = k)) = vs.any fun kv => decide (kv.1 = k) := by
  unfold KV at r
  induction r with
  | nil => rfl
  | cons h t ih => rw [List.any_cons, List.any_cons, ih, h.1]
theorem KV.repl {kvs : List (κ × V)} {vs : List (κ × Value)} (r : KV kvs vs) (k : κ) {y : V} {u : Value} (ry : RelV y u) :
    KV (kvs.map fun kv => if kv.1 = k then (kv.1, y) else kv) (vs.map fun kv => if kv.1 = k then (kv.1, u) else kv) := by
  unfold KV at r ⊢
  induction r with
  | nil => exact .nil
  | @cons p q ps qs h t ih =>
    rw [List.map_cons, List.map_cons]
    refine .cons ?_ ih
    obtain ⟨h1, h2⟩ := h
    by_cases e : p.1 = k
    · rw [if_pos e, if_pos (h1.symm.trans e)]; exact ⟨h1, ry⟩
    · rw [if_neg e, if_neg (fun z => e (h1.trans z))]; exact ⟨h1, h2⟩
theorem KV.put {kvs : List (κ × V)} {vs : List (κ × Value)} (r : KV kvs vs) (k : κ) {y : V} {u : Value} (ry : RelV y u) : KV (putK kvs k y) (stored vs k u) := by
  unfold putK stored
  rw [r.any k]
  by_cases e : (vs.any fun kv => decide (kv.1 = k)) = true
  · rw [if_pos e, if_pos e]; exact r.repl k ry
  · rw [if_neg e, if_neg e]; exact Paired.snoc r ⟨rfl, ry⟩
theorem KV.length {kvs : List (κ × V)} {vs : List (κ × Value)} (r : KV kvs vs) : kvs.length = vs.length := Paired.length r
end

theorem kV_is {P : Program} {w : World} {k : Key} {u : Value} (r : RelV (kV k) u) : (mixKind P w).is k u = true := by
  cases k with
  | inl i => obtain ⟨t, e⟩ := (show ∃ t, u = Value.int i t from r); subst e; exact mixKind_int P w i t
  | inr x => obtain ⟨t, e⟩ := (show ∃ t, u = Value.str x t from r); subst e; exact mixKind_str P w x t
theorem items_are {P : Program} {w : World} : ∀ {ks : List Key} {us : List Value}, Vals (ks.map kV) us → ItemsAre (mixKind P w) ks us
  | [], _, r => by rw [List.map_nil] at r; cases r; exact .nil
  | k :: ks, _, r => by
    rw [List.map_cons] at r
    cases r with
    | cons h t => exact .cons (kV_is h) (items_are t)

noncomputable abbrev KT (H : Hp) : List (List Key × V) → List (List Key × Addr × Value) → Prop := Paired fun p q => p.1 = q.1 ∧ H q.2.1 = some (.tup (p.1.map kV)) ∧ RelV p.2 q.2.2
theorem KT.val {H : Hp} {kvs : List (List Key × V)} {xs : List (List Key × Addr × Value)} (r : KT H kvs xs) (k : List Key) : RelO (valV kvs k) ((atKey xs k).map (·.2)) := by
  induction r with
  | nil => exact True.intro
  | @cons p q ps qs h t ih =>
    obtain ⟨h1, _, h2⟩ := h
    by_cases e : p.1 = k
    · have e' : q.1 = k := h1.symm.trans e
      have b : atKey (q :: qs) k = some q.2 := by simp [atKey, List.find?_cons, e']
      rw [valV_pos e, b]; exact h2
    · have e' : ¬ q.1 = k := fun z => e (h1.trans z)
      have b : atKey (q :: qs) k = atKey qs k := by simp [atKey, List.find?_cons, e']
      rw [valV_neg e, b]; exact ih
theorem KT.repl {H : Hp} {kvs : List (List Key × V)} {xs : List (List Key × Addr × Value)} (r : KT H kvs xs) (k : List Key) {y : V} {u : Value} (ry : RelV y u) :
    KT H (kvs.map fun kv => if kv.1 = k then (kv.1, y) else kv) (xs.map (putAt k u)) := by
  induction r with
  | nil => exact .nil
  | @cons p q ps qs h t ih =>
    rw [List.map_cons, List.map_cons]
    refine .cons ?_ ih
    obtain ⟨h1, h2, h3⟩ := h
    unfold putAt
    by_cases e : p.1 = k
    · rw [if_pos e, if_pos (h1.symm.trans e)]; exact ⟨h1, h2, ry⟩
    · rw [if_neg e, if_neg (fun z => e (h1.trans z))]; exact ⟨h1, h2, h3⟩
theorem KT.put {H : Hp} {kvs : List (List Key × V)} {xs : List (List Key × Addr × Value)} (r : KT H kvs xs) (k : List Key) {b : Addr} {y : V} {u : Value} (hb : H b = some (.tup (k.map kV))) (ry : RelV y u) :
    KT H (putK kvs k y) (storedH xs k b u) := by
  have e : (kvs.any fun kv => decide (kv.1 = k)) = (atKey xs k).isSome := by
    rw [valV_any, (r.val k).isSome_eq, Option.isSome_map]
  unfold putK storedH
  rw [e]
  by_cases q : (atKey xs k).isSome = true
  · rw [if_pos q, if_pos q]; exact r.repl k ry
  · rw [if_neg q, if_neg q]; exact Paired.snoc r ⟨rfl, hb, ry⟩
theorem KT.keeps {H H' : Hp} {kvs : List (List Key × V)} {xs : List (List Key × Addr × Value)} (r : KT H kvs xs) (ht : ∀ b ys, H b = some (.tup ys) → H' b = some (.tup ys)) : KT H' kvs xs :=
  Paired.mapP r fun _ _ z => ⟨z.1, ht _ _ z.2.1, z.2.2⟩

section
variable {P : Program} {w : World} {H : Hp} {h : Heap} {a : Addr}
theorem rd_of {u : HO} (ok : HOk P w H h) (e : Rd H a u) : ObjOk P w H h a u := e.ok ok
theorem dk_rd {kvs : List (Key × V)} (ok : HOk P w H h) (e : Rd H a (.dK kvs)) : kvs.length ≤ sizeLine ∧ (a == sysModules) = false ∧ ∃ vs, KV kvs vs ∧ h.DictOf (mixKind P w) a vs :=
  show ObjOk P w H h a (.dK kvs) from rd_of ok e
theorem dk_of {kvs : List (Key × V)} (ok : HOk P w H h) (e : H a = some (.dK kvs)) : kvs.length ≤ sizeLine ∧ (a == sysModules) = false ∧ ∃ vs, KV kvs vs ∧ h.DictOf (mixKind P w) a vs := dk_rd ok (.inl e)
theorem key_of {ks : List Key} (ok : HOk P w H h) (e : H a = some (.tup (ks.map kV))) : (tupleKind (mixKind P w)).is h ks a := by
  obtain ⟨_, its, r, o, h1, h2, n, h3⟩ := (show ObjOk P w H h a (.tup (ks.map kV)) from ok a _ e)
  exact ⟨o, its.toArray, n, h1, h2, h3, by simpa using items_are r⟩
theorem dt_rd {kvs : List (List Key × V)} (ok : HOk P w H h) (e : Rd H a (.dT kvs)) : kvs.length ≤ sizeLine ∧ (a == sysModules) = false ∧
    ∃ xs, KT H kvs xs ∧ h.DictOfH (tupleKind (mixKind P w)) a xs := by
  obtain ⟨z, y, xs, r, o, es, ep, h1, h2, h3, h4, h5⟩ := (show ObjOk P w H h a (.dT kvs) from rd_of ok e)
  refine ⟨z, y, xs, r, o, es, ep, h1, h2, h3, h4, fun x hx => ?_, h5⟩
  have all : ∀ {l : List (List Key × V)} {m : List (List Key × Addr × Value)}, KT H l m → ∀ x ∈ m, (tupleKind (mixKind P w)).is h x.1 x.2.1 := by
    intro l m q
    induction q with
    | nil => intro x hx; exact nomatch hx
    | @cons p q ps qs hq t ih =>
      intro x hx
      rcases List.mem_cons.mp hx with e | hx
      · subst e
        exact key_of ok (by rw [← hq.1]; exact hq.2.1)
      · exact ih x hx
  exact all r x hx
theorem dt_of {kvs : List (List Key × V)} (ok : HOk P w H h) (e : H a = some (.dT kvs)) : kvs.length ≤ sizeLine ∧ (a == sysModules) = false ∧
    ∃ xs, KT H kvs xs ∧ h.DictOfH (tupleKind (mixKind P w)) a xs := dt_rd ok (.inl e)
end

noncomputable def DGet (H : Hp) (a : Addr) (y : V) (r : Option V) : Prop :=
  (∃ kvs k, Rd H a (.dK kvs) ∧ y = kV k ∧ r = valV kvs k) ∨ ∃ kvs k b, Rd H a (.dT kvs) ∧ y = .ref b ∧ H b = some (.tup (k.map kV)) ∧ r = valV kvs k
noncomputable def DPut (H : Hp) (a : Addr) (y v : V) (H' : Hp) : Prop :=
  (∃ kvs k, H a = some (.dK kvs) ∧ y = kV k ∧ kvs.length < sizeLine ∧ H' = upd H a (.dK (putK kvs k v))) ∨
  ∃ kvs k b, H a = some (.dT kvs) ∧ y = .ref b ∧ H b = some (.tup (k.map kV)) ∧ kvs.length < sizeLine ∧ H' = upd H a (.dT (putK kvs k v))
theorem DGet.t {H : Hp} {a b : Addr} {kvs : List (List Key × V)} {k : List Key} (e : H a = some (.dT kvs)) (eb : H b = some (.tup (k.map kV))) : DGet H a (.ref b) (valV kvs k) := .inr ⟨kvs, k, b, .inl e, rfl, eb, rfl⟩
theorem DPut.t {H : Hp} {a b : Addr} {kvs : List (List Key × V)} {k : List Key} {v : V} (e : H a = some (.dT kvs)) (eb : H b = some (.tup (k.map kV))) (hl : kvs.length < sizeLine) :
    DPut H a (.ref b) v (upd H a (.dT (putK kvs k v))) := .inr ⟨kvs, k, b, e, rfl, eb, hl, rfl⟩

section
variable {X : Cx} {pins : List (Addr × Obj)} {σ : St} {H : Hp} {s : Shared} {a : Addr} {y v : V} {u r : Value} {o : Option V} {A : Around} {E : Value → Shared → Prop}

theorem Inv.big (I : Inv X pins σ H s) : sysModules < s.heap.objs.size := by
  have h : mainGlobals < s.heap.objs.size := (I.mod.glob.keeps I.bk).lt
  exact Nat.lt_trans (by decide) h

theorem d_getItem {Q : Value → Shared → Prop} (hu : A.units + 1 < cLine) (I : Inv X pins σ H s) (g : DGet H a y (some v)) (ry : RelV y u) (h : ∀ w' s', Inv X pins σ H s' → RelV v w' → Q w' s') :
    wpAny (model X.prog X.w) A (getItem (.ref a) u) Q E s := by
  rcases g with ⟨kvs, k, e, ey, l⟩ | ⟨kvs, k, b, e, ey, eb, l⟩
  · subst ey
    obtain ⟨z, hd, vs, rel, dd⟩ := dk_rd I.hok e
    obtain ⟨w', hw, rw'⟩ := RelO.some_of (v := v) (o := valueAt vs k) (by rw [l]; exact rel.val k)
    exact wpAny_getItem_of (kV_is ry) dd.mapOf hw (h w' _ (I.tok _) rw')
  · subst ey
    cases (show u = Value.ref b from ry)
    obtain ⟨z, hd, xs, rel, dd⟩ := dt_rd I.hok e
    obtain ⟨w', hw, rw'⟩ := RelO.some_of (v := v) (o := (atKey xs k).map (·.2)) (by rw [l]; exact rel.val k)
    obtain ⟨p, hp, hp2⟩ := Option.map_eq_some_iff.mp hw
    refine wpAny_getItem_heap (tupleKind_room_in1 hu) (key_of I.hok eb) dd hp ?_
    rw [hp2]
    exact h w' _ (I.tok _) rw'
theorem d_notIn {Q : Value → Shared → Prop} (hu : A.units + 1 < cLine) (I : Inv X pins σ H s) (g : DGet H a y o) (ry : RelV y u) (h : ∀ s', Inv X pins σ H s' → Q (.bool (!o.isSome)) s') :
    wpAny (model X.prog X.w) A (compareOp .NotIn u (.ref a)) Q E s := by
  rcases g with ⟨kvs, k, e, ey, l⟩ | ⟨kvs, k, b, e, ey, eb, l⟩
  · subst ey
    obtain ⟨z, hd, vs, rel, dd⟩ := dk_rd I.hok e
    refine wpAny_notIn_of (kV_is ry) hd dd.mapOf ?_
    rw [← (rel.val k).isSome_eq, ← l]
    exact h _ (I.tok _)
  · subst ey
    cases (show u = Value.ref b from ry)
    obtain ⟨z, hd, xs, rel, dd⟩ := dt_rd I.hok e
    refine wpAny_notIn_heap (tupleKind_room_in1 hu) (key_of I.hok eb) hd dd ?_
    have q := (rel.val k).isSome_eq
    rw [Option.isSome_map] at q
    rw [← q, ← l]
    exact h _ (I.tok _)
theorem d_write {h' : Heap} {t' : Nat} {ob : HO} (I : Inv X pins σ H s) (mu : Mut (H a)) (hs : Heap.SameBut a s.heap h') (he : ∃ q, h'.get? a = some q) (new : ObjOk X.prog X.w (upd H a ob) h' a ob) :
    Inv X pins σ (upd H a ob) { s with heap := h', toks := t' } :=
  I.write (x := a) (e := a) mu (.inl rfl) (fun b q hb z => (hs.2 b hb).trans z) he new
theorem dk_new {P : Program} {w : World} {H' : Hp} {h' : Heap} {kvs : List (Key × V)} {vs : List (Key × Value)} (z : kvs.length ≤ sizeLine) (hd : (a == sysModules) = false) (rel : KV kvs vs) (dd : h'.DictOf (mixKind P w) a vs) :
    ObjOk P w H' h' a (.dK kvs) := ⟨z, hd, vs, rel, dd⟩
theorem d_setItem {H' : Hp} {Q : Unit → Shared → Prop} (hu : A.units + 1 < cLine) (I : Inv X pins σ H s) (g : DPut H a y v H') (ry : RelV y u) (rv : RelV v r) (h : ∀ s', Inv X pins σ H' s' → Q () s') :
    wpAny (model X.prog X.w) A (setItem (.ref a) u r) Q E s := by
  rcases g with ⟨kvs, k, e, ey, l, eH⟩ | ⟨kvs, k, b, e, ey, eb, l, eH⟩
  · subst ey eH
    obtain ⟨z, hd, vs, rel, dd⟩ := dk_of I.hok e
    have hz : vs.length ≤ sizeLine := by rw [← rel.length]; exact z
    have hl : (putK kvs k v).length ≤ sizeLine := by have := length_putK kvs k v; lia
    refine wpAny_setItem_pairs (hsz := hz) (kV_is ry) dd fun h' dd' hs => h _ ?_
    have he : ∃ q, h'.get? a = some q := let ⟨q, _, _, hq, _⟩ := dd'; ⟨q, hq⟩
    exact d_write I (by rw [e]; exact True.intro) hs he (dk_new hl hd (rel.put k rv) dd')
  · subst ey eH
    cases (show u = Value.ref b from ry)
    obtain ⟨z, hd, xs, rel, dd⟩ := dt_of I.hok e
    have hz : xs.length ≤ sizeLine := by rw [← Paired.length rel]; exact z
    have hl : (putK kvs k v).length ≤ sizeLine := by have := length_putK kvs k v; lia
    refine wpAny_setItem_heap (hsz := hz) (tupleKind_room_in1 hu) (key_of I.hok eb) dd fun h' dd' hs => h _ ?_
    obtain ⟨q, es, ep, hq, h2, h3, h4, _, h5⟩ := dd'
    refine d_write I (by rw [e]; exact True.intro) hs ⟨q, hq⟩ ⟨hl, hd, _, (rel.put k eb rv).keeps fun c ys ec => ?_, q, es, ep, hq, h2, h3, h4, h5⟩
    rw [upd_ne (ne_of ec e (fun z => nomatch z))]
    exact ec
end


noncomputable def NoSl (i : Expr) : Prop := ∀ ov iv, subscripted i false ov iv = operate [ov, iv] (getItem ov iv)
theorem subD_of {prog : Program} {w : World} {A : Around} {E : Value → Shared → Prop} {s : Shared} {env : Env} {value slice : Expr} {pos : Pos} {T id : String} {Q : Value → Shared → Prop}
    (hl : typeLookup (.type T) "__getitem__" = pure (some (.builtin id))) (hs : NoSl slice)
    (h : wpAny (model prog w) A (eval value env) (fun o s₁ => wpAny (model prog w) A (eval slice env) (fun i s₂ => s₂.TypeIs o T ∧ wpAny (model prog w) A (getItem o i) Q E s₂) E s₁) E s) :
    wpAny (model prog w) A (eval (.Subscript value slice pos) env) Q E s := by
  refine Subscript_ (wpAny_mono h (fun o s₁ h₁ => wpAny_mono h₁ (fun i s₂ h₂ => ?_) fun _ _ x => x) fun _ _ x => x)
  obtain ⟨hT, h₂⟩ := h₂
  unfold subscriptTail
  refine wpAny_bind ?_
  rw [getitemInPython_of_ne hT.not_modules]
  refine wpAny_bind (wpAny_specialOf hT hl ?_)
  have fin : wpAny (model prog w) A (subscripted slice false o i) (fun r s₃ => wpAny (model prog w) A (letTemporaryGo value o r >>= fun _ => pure r) Q E s₃) E s₂ := by
    rw [hs o i]
    exact wpAny_operating (wpAny_mono h₂ (fun r s₃ h₃ => wpAny_bind (wpAny_letTemporaryGo (wpAny_pure h₃))) fun _ _ x => x)
  first
    | exact wpAny_pure (wpAny_bind fin)
    | exact wpAny_bind (wpAny_pure (wpAny_bind fin))
    | exact wpAny_bind fin

theorem dict_typeIs {X : Cx} {pins : List (Addr × Obj)} {σ : St} {H : Hp} {s : Shared} {a : Addr} {y : V} {o : Option V} (I : Inv X pins σ H s) (g : DGet H a y o) : s.TypeIs (.ref a) "dict" := by
  rcases g with ⟨kvs, k, e, _, _⟩ | ⟨kvs, k, b, e, _, _, _⟩
  · obtain ⟨_, _, vs, _, dd⟩ := dk_rd I.hok e
    exact dd.typeIs
  · obtain ⟨_, _, xs, _, dd⟩ := dt_rd I.hok e
    exact dd.typeIs
noncomputable def tDGet (td ty : TE) : TE := fun σ H Q => td σ H fun x H1 => ty σ H1 fun y H2 => ∃ a v, x = .ref a ∧ DGet H2 a y (some v) ∧ Q v H2
noncomputable def tDNotIn (ty td : TE) : TE := fun σ H Q => ty σ H fun y H1 => td σ H1 fun x H2 => ∃ a o, x = .ref a ∧ DGet H2 a y o ∧ Q (.bl (!o.isSome)) H2
noncomputable def sDPut (td ty tv : TE) : TS := fun D σ H => tv σ H fun v H1 => td σ H1 fun x H2 => ty σ H2 fun y H3 => ∃ a H4, x = .ref a ∧ DPut H3 a y v H4 ∧ D.nx σ H4
section
variable {X : Cx} {o i e value : Expr} {pos pos' tpos : Pos} {td ty tv : TE}
theorem pe_dget (hu : X.A.units + 1 < cLine) (ho : PE X o td) (hi : PE X i ty) (hs : NoSl i) : PE X (.Subscript o i pos) (tDGet td ty) := by
  intro pins s σ H Q I h
  refine subD_of PySem.F.slot_dict_getitem.lookup hs (thn (ho pins s σ H _ I h) fun u s1 ⟨x, H1, I1, rx, q1⟩ => thn (hi pins s1 σ H1 _ I1 q1) fun iv s2 hz9 => ?_)
  obtain ⟨y, H2, I2, ry, a, v, ex, g, q2⟩ := hz9
  subst ex
  obtain rfl : u = Value.ref a := rx
  exact ⟨dict_typeIs I2 g, d_getItem hu I2 g ry fun w' s3 I3 rw' => ⟨v, H2, I3, rw', q2⟩⟩
theorem pc_dnotin (hu : X.A.units + 1 < cLine) (hi : PE X i ty) (ho : PE X o td) : PC X .NotIn i o (tDNotIn ty td) := by
  intro pins s σ H Q I h
  refine thn (hi pins s σ H _ I h) fun iv s1 ⟨y, H1, I1, ry, q1⟩ => thn (ho pins s1 σ H1 _ I1 q1) fun u s2 hz9 => ?_
  obtain ⟨x, H2, I2, rx, a, ov, ex, g, q2⟩ := hz9
  subst ex
  obtain rfl : u = Value.ref a := rx
  exact d_notIn hu I2 g ry fun s3 I3 => ⟨.bl (!ov.isSome), H2, I3, rfl, q2⟩
theorem ps_dput (hu : X.A.units + 1 < cLine) (ho : PE X o td) (hi : PE X i ty) (hv : PE X value tv) (hs : swapsWith value (some (.Subscript o i pos')) pos.line X.env = pure false) :
    PS X (.Assign [.Subscript o i pos'] value pos) (sDPut td ty tv) := by
  intro pins s σ H D I h
  refine wpAny_Assign_Subscript (thn (hv pins s σ H _ I h) fun r s1 ⟨v, H1, I1, rv, q1⟩ => thn (ho pins s1 σ H1 _ I1 q1) fun u s2 ⟨x, H2, I2, rx, q2⟩ => thn (hi pins s2 σ H2 _ I2 q2) fun iv s3 hz9 => ?_) hs
  obtain ⟨y, H3, I3, ry, a, H4, ex, g, q3⟩ := hz9
  subst ex
  obtain rfl : u = Value.ref a := rx
  exact d_setItem hu I3 g ry rv fun s4 I4 => ⟨σ, H4, I4, q3⟩
end

theorem dt_empty {P : Program} {w : World} {H : Hp} (h : Heap) (hb : sysModules < h.objs.size) : ObjOk P w H (h.push { cls := .type "dict", data := .dict #[] }) h.objs.size (.dT []) :=
  ⟨Nat.zero_le _, beq_eq_false_iff_ne.mpr (Ne.symm (Nat.ne_of_lt hb)), [], .nil, _, #[], 0, Heap.get?_push_size _ rfl, ⟨rfl, rfl, rfl⟩, rfl, rfl, List.nodup_nil⟩
noncomputable def tDNewT : TE := fun _ H Q => ∀ p, H p = none → Q (.ref p) (upd H p (.dT []))
section
variable {X : Cx} {pos : Pos}
theorem pe_dnewT : PE X (.Dict [] [] pos) tDNewT := fun pins s σ H Q I h =>
  wpAny_Dict_empty ⟨.ref s.heap.objs.size, _, I.laid (a := s.heap.objs.size) (o := .dT []) (t' := s.toks) (fun _ _ q => Heap.get?_push_of_some _ q) (Nat.le_refl _) (dt_empty s.heap I.big), rfl, h _ (I.hok.fresh (Nat.le_refl _))⟩
end

structure M1 (X : Cx) (o : Expr) (m : Str) (apos : Pos) (e : Expr) (cpos : Pos) : Prop where
  base : attributeBase o m X.env (eval o X.env) = eval o X.env
  few : ((backTo cpos (starEach [e] X.env)).all (fun x => !x.1) && (backToKw cpos (keywordEach [] X.env)).all (fun x => x.1.isSome)
    && decide (([e] : List Expr).length + ([] : List Keyword).length + (if ([] : List Keyword).isEmpty then 0 else 1) < 30)) = true
  line : (apos.endLine == cpos.line) = true
  trees : backTo cpos (starEach [e] X.env) = [(false, eval e X.env)]
structure M2 (X : Cx) (o : Expr) (m : Str) (apos : Pos) (e f : Expr) (cpos : Pos) : Prop where
  base : attributeBase o m X.env (eval o X.env) = eval o X.env
  few : ((backTo cpos (starEach [e, f] X.env)).all (fun x => !x.1) && (backToKw cpos (keywordEach [] X.env)).all (fun x => x.1.isSome)
    && decide (([e, f] : List Expr).length + ([] : List Keyword).length + (if ([] : List Keyword).isEmpty then 0 else 1) < 30)) = true
  line : (apos.endLine == cpos.line) = true
  trees : backTo cpos (starEach [e, f] X.env) = [(false, eval e X.env), (false, eval f X.env)]




end L2

namespace L2
open PySem PySem.Spec PyProof.Rows
end L2

namespace L2
open PySem PySem.Spec PyProof.Rows PySem.Builtin PySem.Builtin.Str

noncomputable def T (l : List Nat) : Str := ⟨l.toArray⟩
theorem T_cps (l : List Nat) : (T l).cps.toList = l := by simp [T]
theorem T_inj {a b : List Nat} : T a = T b ↔ a = b := by
  constructor
  · intro h
    have := congrArg (fun x : Str => x.cps.toList) h
    simpa [T] using this
  · rintro rfl; rfl
theorem T_len (l : List Nat) : (T l).length = l.length := by simp [T, Str.length]
theorem T_app (a b : List Nat) : T a ++ T b = T (a ++ b) := by
  show Str.append (T a) (T b) = _
  simp [Str.append, T]
theorem T_decide (a b : List Nat) : decide ((V.str (T a)) = V.str (T b)) = decide (a = b) := by
  by_cases h : a = b
  · subst h; simp
  · rw [decide_eq_false h, decide_eq_false]
    intro q; injection q with q; exact h (T_inj.mp q)

noncomputable def cutL (xs : List Nat) (lo hi : Option Int) : List Nat := (xs.drop (HT.sIx xs.length 0 lo)).take (HT.sIx xs.length xs.length hi - HT.sIx xs.length 0 lo)
theorem sliceIdx_cut (lo hi : Option Int) (n : Nat) : strSliceIndices lo hi 1 n = (List.range (HT.sIx n n hi - HT.sIx n 0 lo)).map (HT.sIx n 0 lo + ·) := by
  have h1 : (1 : Int) > 0 := by decide
  have a : ∀ (v : Int) (d : Nat), max 0 (min (if v < 0 then v + (n : Int) else v) (n : Int)) = ((HT.sIx n d (some v) : Nat) : Int) := by
    intro v d
    show _ = (((if v < 0 then (v + (n : Int)).toNat else min v.toNat n) : Nat) : Int)
    by_cases hv : v < 0
    · simp only [if_pos hv]; lia
    · simp only [if_neg hv]; lia
  have key : ∀ (p q : Nat), sliceRange (p : Int) (q : Int) 1 = (List.range (q - p)).map (p + ·) := by
    intro p q
    unfold sliceRange
    simp only [h1, if_true]
    have e : (if (p : Int) < (q : Int) then ((q : Int) - p + 1 - 1) / 1 else 0).toNat = q - p := by
      split <;> lia
    rw [e]
    refine List.map_congr_left fun k _ => ?_
    lia
  unfold strSliceIndices
  simp only [h1, if_true]
  cases lo with
  | none =>
    cases hi with
    | none => exact key 0 n
    | some v => dsimp only; rw [a v n]; exact key 0 _
  | some u =>
    cases hi with
    | none => dsimp only; rw [a u 0]; exact key _ n
    | some v => dsimp only; rw [a u 0, a v n]; exact key _ _
theorem sIx_hi_le (n : Nat) (o : Option Int) : HT.sIx n n o ≤ n := HT.sIx_le n n (Nat.le_refl _) o
theorem slice_cut (x : List Nat) (lo hi : Option Int) : Txt.slice (T x) lo hi = T (cutL x lo hi) := by
  have hlen : (T x).length = x.length := T_len x
  have hle := sIx_hi_le x.length hi
  have e : (strSliceIndices lo hi 1 (T x).length).filterMap ((T x).cps[·]?) = cutL x lo hi := by
    rw [sliceIdx_cut, hlen]
    unfold cutL
    generalize hp : HT.sIx x.length 0 lo = p
    generalize HT.sIx x.length x.length hi = q at hle ⊢
    by_cases hpq : p ≤ q
    · have := StrLaws.picks x (q - p) p (by lia)
      rw [← this]
      simp [T]
    · have : q - p = 0 := by lia
      rw [this]; simp
  unfold Txt.slice
  split
  · rename_i h
    have h2 : (strSliceIndices lo hi 1 (T x).length).length = (T x).length := by
      simp only [Bool.and_eq_true, beq_iff_eq] at h; exact h.2
    rw [sliceIdx_cut, hlen, List.length_map, List.length_range] at h2
    have h3 : HT.sIx x.length 0 lo ≤ x.length := HT.sIx_le _ 0 (Nat.zero_le _) lo
    unfold cutL
    by_cases hx : x.length = 0
    · have : x = [] := List.eq_nil_of_length_eq_zero hx
      subst this; simp
    · have e1 : HT.sIx x.length 0 lo = 0 := by lia
      have e2 : HT.sIx x.length x.length hi = x.length := by lia
      rw [e1, e2]; simp
  · rw [e]; rfl

section
variable {X : Cx}
noncomputable def rLower : V → List V → Hp → VK → Prop := fun x vs H Q => ∃ z, x = .str z ∧ vs = [] ∧ z.length ≤ 5592405 ∧ Q (.str (Txt.lower z)) H
theorem mt_lower : MtR X "str.lower" rLower := by
  intro pins s σ H x xs v us Q I rx rs h
  obtain ⟨z, rfl, rfl, hz, q⟩ := h
  obtain ⟨t, rfl⟩ := rx
  cases rs
  exact SCL.lower hz fun _ => ⟨.str _, H, I.tok _, ⟨_, rfl⟩, q⟩
theorem vals_strs : ∀ (l : List (Str × Tok)), Vals ((l.map (·.1)).map V.str) (strValues l)
  | [] => .nil
  | p :: r => .cons ⟨p.2, rfl⟩ (vals_strs r)
theorem strs_vals : ∀ {ys : List Str} {us : List Value}, Vals (ys.map V.str) us → StrsAre us ys
  | [], _, h => by cases h; exact .nil
  | y :: r, _, h => by
    cases h with
    | cons a b =>
      obtain ⟨t, rfl⟩ := a
      exact .cons y t (strs_vals b)
noncomputable def rSplit : V → List V → Hp → VK → Prop := fun x vs H Q => ∃ z y, x = .str z ∧ vs = [.str y] ∧ (y.length == 0) = false ∧ z.length + 2 ≤ sizeLine ∧ ∀ p, H p = none → Q (.ref p) (upd H p (.lst ((Txt.split z y).map V.str)))
theorem split_len (x y : Str) : (Txt.split x y).length ≤ x.length + 2 := by
  unfold Txt.split
  split
  · simp
  · split
    · simp
    · rw [length_partsBetween]
      have := StrLaws.occ_length_le x y 0 x.length (x.length + 1)
      lia
theorem mt_split : MtR X "str.split" rSplit := by
  intro pins s σ H x xs v us Q I rx rs h
  obtain ⟨z, y, rfl, rfl, hy, hz, q⟩ := h
  obtain ⟨t, rfl⟩ := rx
  obtain ⟨u, rfl, ru⟩ := Vals.one rs
  obtain ⟨u, rfl⟩ := ru
  have hlen := split_len z y
  have fin : ∀ (l : List (Str × Tok)) (k : Nat), l.map (·.1) = Txt.split z y →
      EP X pins σ Q (.ref s.heap.objs.size) { s with heap := s.heap.push { cls := .type "list", data := .seq (strValues l).toArray }, toks := k } := fun l k e => by
    have v1 := vals_strs l
    rw [e] at v1
    exact ⟨.ref s.heap.objs.size, _, I.lnew v1 (by rw [List.length_map]; lia), rfl, q _ I.fresh⟩
  have hn : (partsBetween z (occurrences z y 0 z.length (z.length + 1)) y.length).length ≤ sizeLine := by
    have e1 := StrLaws.occ_length_le z y 0 z.length (z.length + 1)
    rw [length_partsBetween]; lia
  cases h1 : (decide (z.length < y.length) || decide (strKind z < strKind y))
  · cases hf : (occurrences z y 0 z.length (z.length + 1)).isEmpty
    · refine call_meets F.slot_str_split (typeIs_str _ _ _) F.entry_str_split (F.args_str_split_2 _ _) (meets_str_split_sep z y t u h1 hy hf (by lia) hn) ?_
      show wants (EP X pins σ Q) X.xe _ { s with toks := _, heap := s.heap.push { cls := .type "list", data := .seq (strsFrom s.toks (partsBetween z (occurrences z y 0 z.length (z.length + 1)) y.length)).toArray } }
      rw [strsFrom_eq]
      exact fin (numbered s.toks _) _ ((numbered_texts _ _).trans ((if_neg (ne_true_of_eq_false h1)).trans (if_neg (ne_true_of_eq_false hf))).symm)
    · exact call_meets F.slot_str_split (typeIs_str _ _ _) F.entry_str_split (F.args_str_split_2 _ _) (meets_str_split_not_found z y t u h1 hy hf)
        (fin [(z, t)] s.toks ((if_neg (ne_true_of_eq_false h1)).trans (if_pos hf)).symm)
  · exact call_meets F.slot_str_split (typeIs_str _ _ _) F.entry_str_split (F.args_str_split_2 _ _) (meets_str_split_cannot_occur z y t u h1)
      (fin [(z, t)] s.toks (if_pos h1).symm)
noncomputable def rJoin (K : PySem.W.Frag) : V → List V → Hp → VK → Prop := fun x vs H Q => ∃ z p ys, x = .str z ∧ vs = [.ref p] ∧ SqL K H p (ys.map V.str) ∧ (ys.map (·.length)).sum + ys.length * z.length ≤ 16777216 ∧ Q (.str (Str.join z ys)) H
theorem mt_join : MtR X "str.join" (rJoin X.K) := by
  intro pins s σ H x xs v us Q I rx rs h
  obtain ⟨z, p, ys, rfl, rfl, hl, hz, q⟩ := h
  obtain ⟨t, rfl⟩ := rx
  obtain ⟨u, rfl, ru⟩ := Vals.one rs
  cases ru
  obtain ⟨its, r, pl, _⟩ := I.list hl
  refine join_list pl.isList (ys := ys) (by simpa using strs_vals r) hz fun t' k => ⟨.str _, H, I.tok _, ⟨_, by show _ = Value.str (Str.join z ys) t'; rw [← StrLaws.glued_eq_join]; rfl⟩, q⟩
noncomputable def rSlS : V → Option Int → Option Int → Hp → VK → Prop := fun x lo hi H Q => ∃ l, x = .str (T l) ∧ l.length ≤ sizeLine ∧ Q (.str (T (cutL l lo hi))) H
theorem sl_str : SlR X rSlS := by
  intro pins s σ H x v vl vu lo hi sl Q I rx hs pl pu h
  obtain ⟨l, rfl, hz, q⟩ := h
  obtain ⟨t, rfl⟩ := rx
  refine ⟨"str", _, F.slot_str_getitem.lookup, typeIs_str _ _ _, ?_⟩
  have hz' : (T l).length ≤ sizeLine := by rw [T_len]; exact hz
  have fin : (Txt.slice (T l) lo hi).length ≤ sizeLine ∧ ∀ t' k, EP X pins σ Q (.str (Txt.slice (T l) lo hi) t') { s with toks := k } :=
    ⟨Nat.le_trans (Txt.slice_le _ _ _) hz', fun t' k => ⟨.str _, H, I.tok _, ⟨_, by rw [slice_cut]⟩, q⟩⟩
  obtain ⟨o, ho, hc, hd⟩ := hs
  cases pl with
  | none =>
    cases pu with
    | none => exact wpAny_getItem_str_slice (l := none) (u := none) (st := none) ⟨o, ho, hc, hd⟩ rfl (post_val_or_str fin)
    | int j uj => exact wpAny_getItem_str_slice (l := none) (u := some (j, uj)) (st := none) ⟨o, ho, hc, hd⟩ rfl (post_val_or_str fin)
  | int i ui =>
    cases pu with
    | none => exact wpAny_getItem_str_slice (l := some (i, ui)) (u := none) (st := none) ⟨o, ho, hc, hd⟩ rfl (post_val_or_str fin)
    | int j uj => exact wpAny_getItem_str_slice (l := some (i, ui)) (u := some (j, uj)) (st := none) ⟨o, ho, hc, hd⟩ rfl (post_val_or_str fin)
end

end L2

namespace L2
open PySem PySem.Spec PyProof.Rows

noncomputable def clos (cells : List (Str × Addr)) : List (Str × NameKind) → List (Str × Addr) → List (Str × Addr)
  | [], acc => acc
  | (n, k) :: r, acc => if k == .free then (match cells.lookup n with | some c => clos cells r ((n, c) :: acc) | none => clos cells r acc) else clos cells r acc
theorem clos_sub {cells : List (Str × Addr)} : ∀ (names : List (Str × NameKind)) (acc : List (Str × Addr)), (∀ x c, acc.lookup x = some c → cells.lookup x = some c) → ∀ x c, (clos cells names acc).lookup x = some c → cells.lookup x = some c
  | [], _, h => h
  | (n, k) :: r, acc, h => by
    intro x c
    unfold clos
    split
    · cases e : cells.lookup n with
      | none => exact clos_sub r acc h x c
      | some d =>
        refine clos_sub r _ (fun y z hy => ?_) x c
        rw [List.lookup_cons] at hy
        cases q : y == n with
        | true =>
          rw [q] at hy
          have : y = n := by simpa using q
          subst this
          simpa [e] using hy
        | false => rw [q] at hy; exact h y z hy
    · exact clos_sub r acc h x c
theorem clos_acc {cells : List (Str × Addr)} : ∀ (names : List (Str × NameKind)) (acc : List (Str × Addr)) (x : Str), (acc.lookup x).isSome = true → ((clos cells names acc).lookup x).isSome = true
  | [], _, _, h => h
  | (n, k) :: r, acc, x, h => by
    unfold clos
    split
    · cases e : cells.lookup n with
      | none => exact clos_acc r acc x h
      | some d =>
        refine clos_acc r _ x ?_
        rw [List.lookup_cons]
        cases q : x == n with
        | true => rfl
        | false => exact h
    · exact clos_acc r acc x h
theorem clos_has {cells : List (Str × Addr)} : ∀ (names : List (Str × NameKind)) (acc : List (Str × Addr)) (x : Str), (x, NameKind.free) ∈ names → (cells.lookup x).isSome = true → ((clos cells names acc).lookup x).isSome = true
  | (n, k) :: r, acc, x, hm, hs => by
    unfold clos
    rcases List.mem_cons.mp hm with e | hm
    · cases e
      simp only [beq_self_eq_true, if_true]
      obtain ⟨c, hc⟩ := Option.isSome_iff_exists.mp hs
      rw [hc]
      refine clos_acc r _ _ ?_
      simp [List.lookup_cons]
    · split
      · cases e : cells.lookup n with
        | none => exact clos_has r acc x hm hs
        | some d => exact clos_has r _ x hm hs
      · exact clos_has r acc x hm hs
theorem closure_eq {scope : Scope} {env : Env} (h : ∀ x, (x, NameKind.free) ∈ scope.names → (env.cells.lookup x).isSome = true) : closureFor scope env = pure (clos env.cells scope.names []) := by
  have gen : ∀ (names : List (Str × NameKind)) (acc : List (Str × Addr)), (∀ x, (x, NameKind.free) ∈ names → (env.cells.lookup x).isSome = true) →
      (forIn names acc (fun (p : Str × NameKind) (r : List (Str × Addr)) => (if p.2 == NameKind.free then (do let c ← cellOf env p.1; pure (ForInStep.yield ((p.1, c) :: r))) else pure (ForInStep.yield r) : Sem (ForInStep (List (Str × Addr)))))) = pure (clos env.cells names acc) := by
    intro names
    induction names with
    | nil => intro acc _; rfl
    | cons p r ih =>
      obtain ⟨n, k⟩ := p
      intro acc hh
      rw [List.forIn_cons]
      unfold clos
      cases hk : k == NameKind.free with
      | false =>
        simp only [hk, Bool.false_eq_true, if_false]
        exact ih acc fun x hx => hh x (List.mem_cons_of_mem _ hx)
      | true =>
        have hk' : k = .free := by simpa using hk
        subst hk'
        obtain ⟨c, hc⟩ := Option.isSome_iff_exists.mp (hh n List.mem_cons_self)
        have e : cellOf env n = pure c := by unfold cellOf; rw [hc]
        simp only [beq_self_eq_true, if_true, e, hc]
        exact ih _ fun x hx => hh x (List.mem_cons_of_mem _ hx)
  exact (congrArg (fun (m : Sem (List (Str × Addr))) => m >>= fun cs => pure cs) (gen scope.names [] h)).trans rfl

noncomputable def lcS (nt : Nat) (cs : List Nat) (σ : St) : St := List.replicate nt none ++ cs.map fun i => (σ[i]?).getD none
noncomputable def lcCx (X : Cx) (N' : List Str) (scope : Scope) (s : Shared) (H : Hp) (C : Addr) (fp : List Addr) : Cx :=
  { X with N := N', s₀ := s, H₀ := H, env := compEnvC scope (clos X.env.cells scope.names []) C X.env, outer := X.stack, stack := X.stack, ex := fp, fn := fun _ => false, pn := [], xe := fun _ _ => False }
noncomputable def lcOk (Nx : List Str) (sc scope : Scope) (N' : List Str) (nt : Nat) (cs : List Nat) : Bool :=
  decide (scope.kind = .function) && (scope.names.all fun p => match p.2 with
    | .cell => false
    | .local => decide (scope.names.lookup p.1 = some .local)
    | .free => decide (sc.names.lookup p.1 = some .cell) || decide (sc.names.lookup p.1 = some .free)
    | _ => true) && decide (N'.length = nt + cs.length) && (((N'.drop nt).zip cs).all fun p => decide (Nx[p.2]? = some p.1) && decide (scope.names.lookup p.1 = some .free) && (decide (sc.names.lookup p.1 = some .cell) || decide (sc.names.lookup p.1 = some .free)))
structure LcOk (X : Cx) (scope : Scope) (N' : List Str) (nt : Nat) (cs : List Nat) : Prop where
  kind : scope.kind = .function
  nocell : ∀ y ∈ scope.names, y.2 ≠ .cell
  loc : ∀ y ∈ scope.names, y.2 = .local → scope.names.lookup y.1 = some .local
  fr : ∀ x, (x, NameKind.free) ∈ scope.names → X.env.kindOf x = some .cell ∨ X.env.kindOf x = some .free
  len : N'.length = nt + cs.length
  cap : ∀ j i, cs[j]? = some i → ∃ x, N'[nt + j]? = some x ∧ X.N[i]? = some x ∧ scope.names.lookup x = some .free ∧ Vis X.env.scope x ∧ X.env.kindOf x ≠ some .local
theorem LcOk.of {X : Cx} {scope : Scope} {N' : List Str} {nt : Nat} {cs : List Nat} {Nx : List Str} {sc : Scope} (hN : X.N = Nx) (hs : X.env.scope = sc) (h : lcOk Nx sc scope N' nt cs = true) : LcOk X scope N' nt cs := by
  subst hN hs
  unfold lcOk at h
  simp only [Bool.and_eq_true, decide_eq_true_eq, List.all_eq_true] at h
  obtain ⟨⟨⟨h1, h2⟩, h3⟩, h4⟩ := h
  refine ⟨h1, fun y hy e => ?_, fun y hy e => ?_, fun x hx => ?_, h3, fun j i e => ?_⟩
  · have := h2 y hy; rw [e] at this; exact Bool.false_ne_true this
  · have := h2 y hy; rw [e] at this; exact of_decide_eq_true this
  · have := h2 _ hx
    simp only [Bool.or_eq_true, decide_eq_true_eq] at this
    exact this
  · have hj : j < cs.length := (List.getElem?_eq_some_iff.mp e).1
    have hd : (N'.drop nt).length = cs.length := by rw [List.length_drop, h3]; lia
    have hx : (N'.drop nt)[j]? = some ((N'.drop nt)[j]'(by lia)) := by simp [hd, hj]
    generalize (N'.drop nt)[j]'(by lia) = x at hx
    have hz : (x, i) ∈ (N'.drop nt).zip cs := by
      refine List.mem_of_getElem? (i := j) ?_
      rw [List.getElem?_zip_eq_some]
      exact ⟨hx, e⟩
    have q := h4 _ hz
    simp only [Bool.and_eq_true, Bool.or_eq_true, decide_eq_true_eq] at q
    refine ⟨x, by rw [List.getElem?_drop] at hx; exact hx, q.1.1, q.1.2, ?_, fun z => ?_⟩
    · exact q.2.elim (fun z => .inr (.inl z)) fun z => .inr (.inr z)
    · have z' : X.env.scope.names.lookup x = some .local := z
      rcases q.2 with y | y <;> · rw [z'] at y; cases y
theorem relabel_free {env : Env} : ∀ {names : List (Str × NameKind)} {x : Str}, names.lookup x = some .free →
    (names.map fun (n, k) => if (k == NameKind.free && env.scope.kind == .function && env.kindOf n == some .cell) then (n, NameKind.cell) else (n, k)).lookup x = some .cell ∨
    (names.map fun (n, k) => if (k == NameKind.free && env.scope.kind == .function && env.kindOf n == some .cell) then (n, NameKind.cell) else (n, k)).lookup x = some .free
  | [], _, h => by simp at h
  | (n, k) :: r, x, h => by
    have ih := @relabel_free env r x
    show List.lookup x ((if (k == NameKind.free && env.scope.kind == .function && env.kindOf n == some .cell) = true then (n, NameKind.cell) else (n, k)) :: _) = _ ∨ List.lookup x ((if (k == NameKind.free && env.scope.kind == .function && env.kindOf n == some .cell) = true then (n, NameKind.cell) else (n, k)) :: _) = _
    cases hx : x == n with
    | true =>
      simp only [List.lookup_cons, hx] at h
      cases h
      by_cases hc : (NameKind.free == NameKind.free && env.scope.kind == .function && env.kindOf n == some .cell) = true
      · rw [if_pos hc]; left; simp only [List.lookup_cons, hx]
      · rw [if_neg hc]; right; simp only [List.lookup_cons, hx]
    | false =>
      simp only [List.lookup_cons, hx] at h
      by_cases hc : (k == NameKind.free && env.scope.kind == .function && env.kindOf n == some .cell) = true
      · rw [if_pos hc]; simp only [List.lookup_cons, hx]; exact ih h
      · rw [if_neg hc]; simp only [List.lookup_cons, hx]; exact ih h
theorem relabel_back {env : Env} : ∀ {names : List (Str × NameKind)} {x : Str} {q : NameKind}, (∀ y ∈ names, y.2 ≠ .cell) → (q = .cell ∨ q = .free) →
    (names.map fun (n, k) => if (k == NameKind.free && env.scope.kind == .function && env.kindOf n == some .cell) then (n, NameKind.cell) else (n, k)).lookup x = some q → (x, NameKind.free) ∈ names
  | [], _, _, _, _, h => by simp at h
  | (n, k) :: r, x, q, hn, hq, h => by
    have ih := @relabel_back env r x q (fun y hy => hn y (List.mem_cons_of_mem _ hy)) hq
    have h' : List.lookup x ((if (k == NameKind.free && env.scope.kind == .function && env.kindOf n == some .cell) = true then (n, NameKind.cell) else (n, k)) :: (r.map fun (n, k) => if (k == NameKind.free && env.scope.kind == .function && env.kindOf n == some .cell) then (n, NameKind.cell) else (n, k))) = some q := h
    cases hx : x == n with
    | true =>
      have e : x = n := by simpa using hx
      subst e
      by_cases hc : (k == NameKind.free && env.scope.kind == .function && env.kindOf x == some .cell) = true
      · simp only [Bool.and_eq_true, beq_iff_eq] at hc
        rw [hc.1.1]; exact List.mem_cons_self
      · rw [if_neg hc] at h'
        simp only [List.lookup_cons, beq_self_eq_true] at h'
        cases h'
        rcases hq with rfl | rfl
        · exact absurd rfl (hn (x, .cell) List.mem_cons_self)
        · exact List.mem_cons_self
    | false =>
      refine List.mem_cons_of_mem _ (ih ?_)
      by_cases hc : (k == NameKind.free && env.scope.kind == .function && env.kindOf n == some .cell) = true
      · rw [if_pos hc] at h'; simp only [List.lookup_cons, hx] at h'; exact h'
      · rw [if_neg hc] at h'; simp only [List.lookup_cons, hx] at h'; exact h'

section
variable {X : Cx} {pins : List (Addr × Obj)} {σ : St} {H : Hp} {s s' : Shared} {scope : Scope} {N' : List Str} {nt : Nat} {cs : List Nat} {C : Addr} {fp : List Addr} {h' : Heap} {t' : Nat}
theorem lc_enter (I : Inv X pins σ H s) (L : LcOk X scope N' nt cs) (hf : ∀ b ∈ fp, FpOk X pins H b) (hC : s.heap.objs.size ≤ C) (k : ∀ b u, s.heap.get? b = some u → h'.get? b = some u) (hns : h'.Ns C fun _ => none) (fpo : ∀ b ∈ fp, b < s.heap.objs.size) :
    Inv (lcCx X N' scope s H C fp) [] (lcS nt cs σ) H { s with heap := h', toks := t' } := by
  have hfree : H C = none := I.hok.fresh hC
  have csub : ∀ x c, (clos X.env.cells scope.names []).lookup x = some c → X.env.cells.lookup x = some c := clos_sub _ _ fun x c h => by simp at h
  have chas : ∀ x, (x, NameKind.free) ∈ scope.names → ((clos X.env.cells scope.names []).lookup x).isSome = true := fun x hx => by
    refine clos_has _ _ x hx ?_
    obtain ⟨c, e⟩ := I.ok.has x (L.fr x hx)
    rw [e]; rfl
  have I4 : Inv X pins σ H { s with heap := h', toks := t' } := I.kept k
  refine ⟨⟨I.ok.mod, L.kind, I.ok.glob, I.ok.blt, hC, fun x y c h1 h2 => I.ok.inj x y c (csub x c h1) (csub y c h2), fun x hx => ?_, fun x c hx => (nomatch hx), I.ok.hd, I.ok.frames, .inl rfl, fun b hb => ⟨?_, fun x c e => ?_⟩, I.bs, Nat.le_trans I.ok.bsz I.sz, fun b o e hb => ?_, fun b hb => ?_, I.stack, I.stkFree⟩,
    rfl, I.bare, Un.kept k, ⟨_, hns, fun i x v e1 e2 e3 => ?_⟩, fun x c e => ?_, hfree, fun x c e => I.freeC x c (csub x c e), fun p hp => absurd (show p ∈ ([] : List (Addr × Obj)) from hp) (by simp), I4.hok, ?_⟩
  · have hx' : (x, NameKind.free) ∈ scope.names := by
      rcases hx with hx | hx
      · exact relabel_back (env := X.env) L.nocell (.inl rfl) hx
      · exact relabel_back (env := X.env) L.nocell (.inr rfl) hx
    exact Option.isSome_iff_exists.mp (chas x hx')
  · exact Nat.ne_of_lt (Nat.lt_of_lt_of_le (fpo b hb) hC)
  · exact (hf b hb).2.2.2.2.1 x c (csub x c e)
  · obtain ⟨f0, f1, f2, f3, _⟩ := hf b hb
    rcases f3 with z | z
    · exact I.ok.noex b o e z
    · exact absurd (Nat.lt_of_lt_of_le (Heap.lt_size e) (Nat.le_trans I.ok.bsz z)) (Nat.lt_irrefl _)
  · obtain ⟨f0, f1, f2, f3, _⟩ := hf b hb
    intro z
    rcases List.mem_cons.mp (I.stkSub b z) with q | q
    · exact f1 q
    · exact f2 q
  · -- a captured name
    have e2' : (lcS nt cs σ)[i]? = some (some v) := e2
    unfold lcS at e2'
    by_cases hi : i < nt
    · rw [List.getElem?_append_left (by simpa using hi), List.getElem?_replicate] at e2'
      split at e2' <;> cases e2'
    · rw [List.getElem?_append_right (by simpa using hi), List.length_replicate, List.getElem?_map] at e2'
      cases ej : cs[i - nt]? with
      | none => rw [ej] at e2'; cases e2'
      | some j =>
        rw [ej] at e2'
        have e2'' : (σ[j]?).getD none = some v := Option.some.inj e2'
        have hσ : σ[j]? = some (some v) := by
          cases q : σ[j]? with
          | none => rw [q] at e2''; cases e2''
          | some z => rw [q] at e2''; exact congrArg some e2''
        obtain ⟨y, y1, y2, y3, y4, y5⟩ := L.cap _ _ ej
        have hxy : x = y := by
          have e1' : N'[i]? = some x := e1
          rw [show nt + (i - nt) = i by lia, e1'] at y1
          exact Option.some.inj y1
        subst hxy
        obtain ⟨m, hn, hl⟩ := I4.loc
        obtain ⟨u, r, l⟩ := hl j x v y2 hσ y4
        refine ⟨u, r, .inr ⟨relabel_free (env := X.env) y3, ?_⟩⟩
        rcases l with ⟨l, _⟩ | ⟨_, c, hc, hcell⟩
        · exact absurd l y5
        · refine ⟨c, ?_, hcell⟩
          obtain ⟨d, hd⟩ := Option.isSome_iff_exists.mp (chas x (PySem.mem_of_lookup y3))
          have := csub x d hd
          rw [hc] at this
          cases this
          exact hd
  · exact I4.cell x c (csub x c e)
  · show (lcS nt cs σ).length = N'.length
    unfold lcS
    rw [L.len]; simp
theorem lc_leave {σ2 : St} {H2 : Hp} (I : Inv X pins σ H s) (hf : ∀ b ∈ fp, FpOk X pins H b) (J : Inv (lcCx X N' scope s H C fp) [] σ2 H2 s') : Inv X pins σ H2 s' :=
  I.call' (ch := fp) J.os J.base J.hok J.bare fun b hb => by
    obtain ⟨f0, f1, f2, f3, f4, f5⟩ := hf b hb
    exact ⟨f3, f1, f4, f5⟩
end

noncomputable def PIfs (X : Cx) (ifs : List Expr) (t : TT) : Prop :=
  ∀ (pins : List (Addr × Obj)) (s : Shared) (σ : St) (H : Hp) (Q : Bool → Hp → Prop), Inv X pins σ H s → t σ H Q →
    wpAny (model X.prog X.w) X.A (forIn ifs true fun c r => if r = true then do let ok ← isTrue c X.env (eval c X.env); pure (ForInStep.yield ok) else pure (ForInStep.yield r)) (TP X pins σ Q) X.xe s
noncomputable def tTrue : TT := fun _ H Q => Q true H
theorem pifs_nil {X : Cx} : PIfs X [] tTrue := fun _ _ _ H _ I h => wpAny_tests_nil ⟨H, I, h⟩
theorem pifs_one {X : Cx} {c : Expr} {t : TT} (h : PT X c t) : PIfs X [c] t := fun pins s σ H Q I hq => wpAny_tests_one (h pins s σ H Q I hq)

noncomputable def LCG (nt : Nat) (cs : List Nat) (g : TG) (tt : TT) (te : TE) (σ : St) (Q : VK) (J : It) (H1 : Hp) : Prop := ∀ l, H1 l = none → ∃ W : Nat → Nat → Hp → Prop, (∃ m, W 0 m (upd H1 l (.lst []))) ∧ ∀ i m H2, W i m H2 →
  (J.stop i H2 ∧ Q (.ref l) H2) ∨ (J.go i H2 ∧ ∃ N : Hp → Prop, (∀ H', N H' → ∃ m', m' < m ∧ W (i + 1) m' H') ∧ ∀ x H3, J.yld i H2 x H3 → g x (lcS nt cs σ) H3 fun σ2 H4 =>
    (σ2.length = nt + cs.length ∧ σ2.drop nt = (lcS nt cs σ).drop nt) ∧ tt σ2 H4 fun b H5 => if b = true then te σ2 H5 fun y H6 => ∃ xs, H6 l = some (.lst xs) ∧ xs.length < sizeLine ∧ N (upd H6 l (.lst (xs ++ [y]))) else N H5)
noncomputable def tLC (nt : Nat) (cs : List Nat) (wi : TI) (g : TG) (tt : TT) (te : TE) : TE := fun σ H Q => wi σ H fun J H1 => LCG nt cs g tt te σ Q J H1

theorem lc_turn {prog : Program} {w : World} {A : Around} {R : Result → Shared → Prop} {s : Shared} {elt target iter : Expr} {ifs : List Expr} {scope : Scope} {pos : Pos} {it acc : Value} {env : Env} (I : Nat → Shared → Prop)
    (turn : ∀ n s, I n s → wpAny (model prog w) A (pyNext it) (fun r s₁ => match r with
      | none => R (.ok .next) s₁
      | some v => wpAny (model prog w) A (letOwnedTupleGo target it v) (fun _ s₁' => wpAny (model prog w) A (assign target env v) (fun _ s₂ =>
          wpAny (model prog w) A (forIn ifs true fun c r => if r = true then do let ok ← isTrue c env (eval c env); pure (ForInStep.yield ok) else pure (ForInStep.yield r)) (fun ok s₃ =>
            if ok = true then wpAny (model prog w) A (eval elt env) (fun x s₄ =>
              wpAny (model prog w) A (call (.builtin "list.append") [acc, x]) (fun _ s₅ => ∃ m, m < n ∧ I m s₅) (fun _ _ => False) s₄) (fun _ _ => False) s₃
            else ∃ m, m < n ∧ I m s₃) (fun _ _ => False) s₂) (fun _ _ => False) s₁') (fun _ _ => False) s₁) (fun _ _ => False) s)
    (n : Nat) (h : I n s) : codeAny (model prog w) A (.compLoop (.ListComp elt [⟨target, iter, ifs, 0⟩] scope pos) 0 it acc env) R s := by
  refine codeAny_loop rfl I (fun n s hI => ?_) n h
  show wpAny _ A ((compTurn (.ListComp elt [⟨target, iter, ifs, 0⟩] scope pos) 0 it acc env).onRaise (fun x => do noteFrame x env; theTreesLotGoes x)) _ _ s
  refine wpAny_noted ?_
  rw [compTurn_list]
  refine wpAny_bind (wpAny_standAt (wpAny_bind (wpAny_mono (turn n s hI) (fun r s₁ h₁ => ?_) fun _ _ h' => h'.elim)))
  cases r with
  | none => exact wpAny_pure h₁
  | some v =>
    refine wpAny_bind (wpAny_mono h₁ (fun _ s₁' h₁' => ?_) fun _ _ h' => h'.elim)
    refine wpAny_bind (wpAny_mono h₁' (fun _ s₂ h₂ => wpAny_bind (wpAny_mono h₂ (fun ok s₃ h₃ => ?_) fun _ _ h' => h'.elim)) fun _ _ h' => h'.elim)
    cases ok with
    | false => exact wpAny_pure ⟨rfl, h₃⟩
    | true =>
      exact wpAny_bind (wpAny_bind (wpAny_mono h₃ (fun x s₄ h₄ => wpAny_bind (wpAny_mono h₄ (fun _ s₅ h₅ => wpAny_pure (wpAny_pure ⟨rfl, h₅⟩)) fun _ _ h' => h'.elim)) fun _ _ h' => h'.elim))

section
variable {X : Cx} {elt target iter : Expr} {ifs : List Expr} {scope : Scope} {pos : Pos} {N' : List Str} {nt : Nat} {cs : List Nat} {wi : TI} {g : TG} {tt : TT} {te : TE}
theorem lc_core {use : Option (Value → Sem Unit)} {QQ : Value → Shared → Prop} {p2 : Pos} (hc : X.calm = true) (L : LcOk X scope N' nt cs) (hi : PI X target iter wi)
    (hg : ∀ s H C fp, PG (lcCx X N' scope s H C fp) target g) (ht : ∀ s H C fp, PIfs (lcCx X N' scope s H C fp) ifs tt) (he : ∀ s H C fp, PE (lcCx X N' scope s H C fp) elt te)
    {pins : List (Addr × Obj)} {s : Shared} {σ : St} {H : Hp} {Q : VK} (I : Inv X pins σ H s) (h : tLC nt cs wi g tt te σ H Q)
    (fin : ∀ (l : Addr) (H' : Hp) (s' : Shared) (C : Addr), Inv X pins σ H' s' → FpOk X pins H' C → (∃ m, s'.heap.Ns C m) → Q (.ref l) H' → compPost (model X.prog X.w) X.A X.xe use QQ (.ref l) C (.ok .next) s')
    (hs : ∀ x, foldedSetIterable iter X.env x = pure x := by intro _; rfl) :
    wpAny (model X.prog X.w) X.A (comprehension (.ListComp elt [⟨target, iter, ifs, 0⟩] scope pos) scope X.env p2 (newList []) false (eval iter X.env) use) QQ X.xe s := by
  have hcl : closureFor scope X.env = pure (clos X.env.cells scope.names []) := closure_eq fun x hx => by
    obtain ⟨c, e⟩ := I.ok.has x (L.fr x hx)
    rw [e]; rfl
  refine wpAny_comprehension_free (env := X.env) rfl hs hcl L.kind L.loc (thn (hi pins s σ H _ I h) fun v s1 h1 => thn h1 fun itv s2 h2 => ?_)
  obtain ⟨it, fp, tn, J, H1, e, I2, T, st2, f2, R⟩ := h2
  subst e
  refine wpAny_newObj_type ?_
  have hv : Vals [] ([] : List Value) := .nil
  have I3 := I2.lnew (t' := s2.toks) hv (Nat.zero_le _)
  have hfr : H1 s2.heap.objs.size = none := I2.fresh
  have ne3 : ∀ b ∈ fp, b ≠ s2.heap.objs.size := fun b hb z => by
    obtain ⟨o, e, _⟩ := T.obj _ _ st2 b hb
    have := Heap.lt_size e
    rw [z] at this
    exact Nat.lt_irrefl _ this
  have f3 : ∀ b ∈ fp, FpOk X pins (upd H1 s2.heap.objs.size (.lst [])) b := fun b hb => ⟨by rw [upd_ne (ne3 b hb)]; exact (f2 b hb).1, (f2 b hb).2⟩
  obtain ⟨W, ⟨m0, w0⟩, turn⟩ := R _ hfr
  refine wpAny_newFunctionEnv L.nocell (by intro y hy; simp at hy) (fun h4 hns hsb => ?_) L.kind
  dsimp only at hns hsb ⊢
  generalize hH3 : s2.heap.push { cls := .type "list", dict := none, data := .seq ([] : List Value).toArray } = h3 at hns hsb I3 ⊢
  have hsz3 : h3.objs.size = s2.heap.objs.size + 1 := by rw [← hH3, Heap.size_push]
  have up4 : ∀ b u, h3.get? b = some u → h4.get? b = some u := fun b u e => hsb.extBut b u (Nat.ne_of_lt (Heap.lt_size e)) (Heap.get?_push_of_some _ e)
  have fpo : ∀ b ∈ fp, b < h3.objs.size := fun b hb => by
    obtain ⟨o, e, _⟩ := T.obj _ _ st2 b hb
    exact Nat.lt_of_lt_of_le (Heap.lt_size e) (by rw [hsz3]; exact Nat.le_succ _)
  have up3 : ∀ b u, s2.heap.get? b = some u → h3.get? b = some u := fun b u e => hH3 ▸ Heap.get?_push_of_some _ e
  have J4 : Inv (lcCx X N' scope { s2 with heap := h3 } (upd H1 s2.heap.objs.size (.lst [])) h3.objs.size fp) [] (lcS nt cs σ) (upd H1 s2.heap.objs.size (.lst [])) { s2 with heap := h4, toks := s2.toks + ([] : List (Str × Value)).length } :=
    lc_enter (t' := s2.toks + ([] : List (Str × Value)).length) I3 L f3 (Nat.le_refl _) up4 (by simpa using hns) fpo
  have st4 : tn 0 h4 := T.keep _ _ _ st2 fun b hb o e => up4 b o (up3 b o e)
  generalize hs3 : ({ s2 with heap := h3 } : Shared) = s3 at I3 J4
  generalize hX' : lcCx X N' scope s3 (upd H1 s2.heap.objs.size (.lst [])) h3.objs.size fp = X' at J4
  have hg' : PG X' target g := hX' ▸ hg _ _ _ _
  have ht' : PIfs X' ifs tt := hX' ▸ ht _ _ _ _
  have he' : PE X' elt te := hX' ▸ he _ _ _ _
  have stat : ∀ {H' : Hp}, (∀ b ∈ fp, H' b = none) → ∀ b ∈ fp, FpOk X' [] H' b := fun hn b hb => by
    subst hX'
    refine ⟨hn b hb, Nat.ne_of_lt (fpo b hb), J4.ok.exfs b hb, .inl hb, (J4.ok.exf b hb).2, fun p hp => absurd (show p ∈ ([] : List (Addr × Obj)) from hp) (by simp)⟩
  have loop : codeAny (model X.prog X.w) X.A (.compLoop (.ListComp elt [⟨target, iter, ifs, 0⟩] scope pos) 0 (.ref it) (.ref s2.heap.objs.size) (compEnvC scope (clos X.env.cells scope.names []) h3.objs.size X.env))
      (compPost (model X.prog X.w) X.A X.xe use QQ (.ref s2.heap.objs.size) h3.objs.size) { s2 with heap := h4, toks := s2.toks + ([] : List (Str × Value)).length } := by
    have eA : X'.A = X.A := by subst hX'; rfl
    have eP : X'.prog = X.prog := by subst hX'; rfl
    have eW : X'.w = X.w := by subst hX'; rfl
    have eK : X'.K = X.K := by subst hX'; rfl
    have eC : X'.calm = true := by subst hX'; exact hc
    have eE : X'.env = compEnvC scope (clos X.env.cells scope.names []) h3.objs.size X.env := by subst hX'; rfl
    have eX : X'.xe = fun _ _ => False := by subst hX'; rfl
    refine lc_turn (fun n s' => ∃ i H', Inv X' [] (lcS nt cs σ) H' s' ∧ tn i s'.heap ∧ (∀ b ∈ fp, H' b = none) ∧ W i n H') ?_ m0 ⟨0, _, J4, st4, fun b hb => (f3 b hb).1, w0⟩
    rintro n s5 ⟨i, H5, J5, st5, fr5, w5⟩
    rcases turn i n H5 w5 with ⟨stop, qn⟩ | ⟨go, N, hN, step⟩
    · have d := T.done X' eP eW eK eC i [] s5 (lcS nt cs σ) H5 (fun _ _ => False) J5 (stat fr5) st5 stop
      rw [eA] at d
      refine thn d fun r s6 hz9 => ?_
      obtain ⟨hr, J6⟩ := hz9
      subst hr
      have I6 : Inv X pins σ H5 s6 := by subst hX'; subst hs3; exact lc_leave I3 f3 J6
      refine fin _ H5 s6 h3.objs.size I6 ?_ ?_ qn
      · have hn : H5 h3.objs.size = none := by subst hX'; exact J6.free
        subst hs3
        exact I3.fpOk (Nat.le_refl _) hn
      · obtain ⟨m, hm, _⟩ := J6.loc
        subst hX'
        exact ⟨m, hm⟩
    · have d := T.item X' eP eW eK eC i [] s5 (lcS nt cs σ) H5 (fun _ _ => False) J5 (stat fr5) st5 go
      rw [eA] at d
      refine thn d fun r s6 hz9 => ?_
      obtain ⟨u, hr, h6⟩ := hz9
      subst hr
      refine thn h6 fun _ s7 hz9 => ?_
      obtain ⟨x, H7, J7, r7, y7, st7, fr7⟩ := hz9
      have J7' := J7.pinned (stat fr7) (T.obj _ _ st7)
      have a := hg' _ s7 (lcS nt cs σ) H7 x u _ J7' r7 (step x H7 y7)
      rw [eA, eP, eW, eE, eX] at a
      refine thn a fun _ s8 ⟨σ8, H8, J8, ⟨e8, d8⟩, q8⟩ => ?_
      have b := ht' _ s8 σ8 H8 _ J8 q8
      rw [eA, eP, eW, eE, eX] at b
      have again : ∀ {s9 : Shared} {H9 : Hp}, Inv X' ([] ++ pinsAt fp s7.heap) σ8 H9 s9 → N H9 → ∃ m, m < n ∧ ∃ i H', Inv X' [] (lcS nt cs σ) H' s9 ∧ tn i s9.heap ∧ (∀ b ∈ fp, H' b = none) ∧ W i m H' := fun {s9 H9} J9 n9 => by
        obtain ⟨m', hm, w9⟩ := hN H9 n9
        refine ⟨m', hm, i + 1, H9, ?_, T.keep _ _ _ st7 fun b hb o e => (J9.pin (b, o) (List.mem_append_right _ (List.mem_append_right _ (mem_pinsAt hb e)))).1, fun b hb => ?_, w9⟩
        · refine J9.unpinned.weak ?_ fun j v ej => ?_
          · rw [e8]; unfold lcS; simp
          · by_cases hj : j < nt
            · unfold lcS at ej
              rw [List.getElem?_append_left (by simpa using hj), List.getElem?_replicate] at ej
              split at ej <;> cases ej
            · have z := congrArg (fun l : St => l[j - nt]?) d8
              simp only [List.getElem?_drop] at z
              rw [show nt + (j - nt) = j by omega] at z
              rw [z]; exact ej
        · obtain ⟨o, e, _⟩ := T.obj _ _ st7 b hb
          exact (J9.pin (b, o) (List.mem_append_right _ (List.mem_append_right _ (mem_pinsAt hb e)))).2.1
      refine thn b fun ok s9 hz9 => ?_
      obtain ⟨H9, J9, q9⟩ := hz9
      cases ok with
      | false =>
        rw [if_neg Bool.false_ne_true] at q9 ⊢
        exact again J9 q9
      | true =>
        rw [if_pos rfl] at q9 ⊢
        have c := he' _ s9 σ8 H9 _ J9 q9
        rw [eA, eP, eW, eE, eX] at c
        refine thn c fun y sA hz9 => ?_
        obtain ⟨vy, HA, JA, ry, xs, hl, hz, nA⟩ := hz9
        have ap := mt_append (X := X') _ sA σ8 HA (.ref s2.heap.objs.size) [vy] (.ref s2.heap.objs.size) [y] (fun _ H' => N H') JA rfl (.cons ry .nil) ⟨_, xs, vy, rfl, rfl, hl, hz, nA⟩
        rw [eA, eP, eW, eX] at ap
        refine thn ap fun _ sB hz9 => ?_
        obtain ⟨_, HB, JB, _, nB⟩ := hz9
        exact again JB nB
  exact codeAny_compStart_list loop (T.self X.A 0 _ _ _ st4 loop)

theorem pe_lc (hc : X.calm = true) (L : LcOk X scope N' nt cs) (hi : PI X target iter wi)
    (hg : ∀ s H C fp, PG (lcCx X N' scope s H C fp) target g) (ht : ∀ s H C fp, PIfs (lcCx X N' scope s H C fp) ifs tt) (he : ∀ s H C fp, PE (lcCx X N' scope s H C fp) elt te)
    (hs : ∀ x, foldedSetIterable iter X.env x = pure x := by intro _; rfl) : PE X (.ListComp elt [⟨target, iter, ifs, 0⟩] scope pos) (tLC nt cs wi g tt te) := by
  intro pins s σ H Q I h
  rw [eval_ListComp]
  refine lc_core (use := none) hc L hi hg ht he I h (fun l H' s' C I' f ⟨m, hm⟩ q => ⟨m, hm, fun h' hs' => ?_⟩) hs
  obtain ⟨f0, f1, f2, f3, f4, f5⟩ := f
  exact ⟨.ref l, H', I'.turned (t' := s'.toks) (fun b o hb e => hs'.extBut b o hb e) f0 f1 f3 f4 f5, rfl, q⟩
theorem ps_setLC {i : Nat} {y : Str} {py spos : Pos} (hN : X.N.Nodup) (hy : X.N[i]? = some y) (hx : Loc X.env.scope y) (hc : X.calm = true) (L : LcOk X scope N' nt cs) (hi : PI X target iter wi)
    (hg : ∀ s H C fp, PG (lcCx X N' scope s H C fp) target g) (ht : ∀ s H C fp, PIfs (lcCx X N' scope s H C fp) ifs tt) (he : ∀ s H C fp, PE (lcCx X N' scope s H C fp) elt te)
    (hsw : swapsWith (.ListComp elt [⟨target, iter, ifs, 0⟩] scope pos) (some (.Name y py)) spos.line X.env = pure true := by rfl)
    (hs : ∀ x, foldedSetIterable iter X.env x = pure x := by intro _; rfl) (hf : X.fn y = true ∨ X.env.scope.names.lookup y = some .local := by first | exact .inl rfl | exact .inr rfl | assumption) :
    PS X (.Assign [.Name y py] (.ListComp elt [⟨target, iter, ifs, 0⟩] scope pos) spos) (tAsg (tLC nt cs wi g tt te) (gName i)) := by
  intro pins s σ H D I h
  rw [exec_Assign_Name_used _ _ _ _ hsw]
  refine wpAny_bind (wpAny_standAt (wpAny_bind ?_))
  show wpAny _ X.A (do let _ ← comprehension (.ListComp elt [⟨target, iter, ifs, 0⟩] scope pos) scope X.env _ (newList []) false (eval iter X.env) (some (assign (.Name y py) X.env))) _ _ s
  refine wpAny_bind (thn (lc_core (QQ := fun _ s' => SP X pins D .next s') (use := some (assign (.Name y py) X.env)) hc L hi hg ht he I h (fun l H' s' C I' f hm q => ?_) hs) (fun _ s' hq => wpAny_pure (wpAny_pure hq)))
  show wpAny _ X.A (assign (.Name y py) X.env (.ref l)) _ _ _
  refine wpAny_assign_Name (store_ok2 I' hN hy hx (v := .ref l) rfl (fun s2 I2 hz9 => ?_) hf)
  obtain ⟨a, hsb, ha⟩ := hz9
  obtain ⟨m, hm⟩ := hm
  obtain ⟨f0, f1, f2, f3, f4, f5⟩ := f
  have hCa : C ≠ a := by
    rcases ha with rfl | ha
    · exact f1
    · exact fun z => f4 y a ha z.symm
  refine ⟨m, hm.sameBut hsb hCa, fun h' hs' => ?_⟩
  exact ⟨_, H', I2.turned (t' := s2.toks) (fun b o hb e => hs'.extBut b o hb e) f0 f1 f3 f4 f5, q⟩
end
end L2

namespace L2
open PySem PySem.Spec PyProof.Rows
section
variable {X : Cx} {a b : Expr} {ta tb : TE} {pos : Pos}
theorem call_isi_int_int : CallR X (.builtin "isinstance") (fun xs H Q => ∃ x, xs = [.int x, .ty "int"] ∧ Q (.bl true) H) := by
  intro pins s σ H xs us Q I r h
  obtain ⟨x, rfl, q⟩ := h
  obtain ⟨u, v, rfl, ⟨t, rfl⟩, rfl⟩ := vals2 r
  exact IsiPair.int_int ⟨.bl true, H, I, rfl, q⟩
theorem call_isi_int_bool : CallR X (.builtin "isinstance") (fun xs H Q => ∃ x, xs = [.int x, .ty "bool"] ∧ Q (.bl false) H) := by
  intro pins s σ H xs us Q I r h
  obtain ⟨x, rfl, q⟩ := h
  obtain ⟨u, v, rfl, ⟨t, rfl⟩, rfl⟩ := vals2 r
  exact IsiPair.int_bool ⟨.bl false, H, I.tok _, rfl, q⟩
end
end L2
namespace L2
open PySem PySem.Spec PyProof.Rows
theorem SqL.same {K : PySem.W.Frag} {H H' : Hp} {a : Addr} {xs : List V} (e : Same H H') (h : SqL K H a xs) : SqL K H' a xs := e.seq h
theorem SqT.same {K : PySem.W.Frag} {H H' : Hp} {a : Addr} {xs : List V} (e : Same H H') (h : SqT K H a xs) : SqT K H' a xs := by
  rcases h with (h | ⟨o, h⟩) | h
  · exact .inl (.inl (e _ _ h))
  · exact .inl (.inr ⟨o, e _ _ h⟩)
  · exact .inr h
theorem Same.upd {H : Hp} {l : Addr} {o : HO} (h : H l = none) : Same H (upd H l o) := fun b u e => by rw [upd_ne (ne_of_none e h)]; exact e
end L2
namespace L2
open PySem
end L2
namespace L2
open PySem
end L2
namespace L2
open PySem
end L2

namespace L2
open PySem PySem.Spec PyProof.Rows
end L2

namespace L2
open PySem PySem.Spec PyProof.Rows
end L2
namespace L2
open PySem PySem.Spec PyProof.Rows
end L2
namespace L2
open PySem
end L2

namespace L2
open PySem PySem.Spec PyProof.Rows
structure ZipAp (z TI TO i1 i2 : Addr) (fp1 fp2 : List Addr) : Prop where
  TIz : TI ≠ z
  TOz : TO ≠ z
  i1z : i1 ≠ z
  i2z : i2 ≠ z
  TITO : TI ≠ TO
  TIi1 : TI ≠ i1
  TIi2 : TI ≠ i2
  TOi1 : TO ≠ i1
  TOi2 : TO ≠ i2
  i12 : i1 ≠ i2
  m1 : i1 ∈ fp1
  m2 : i2 ∈ fp2
  f1 : ∀ b ∈ fp1, b ≠ z ∧ b ≠ TO ∧ b ≠ i2
  f2 : ∀ b ∈ fp2, b ≠ z ∧ b ≠ TO ∧ b ≠ i1
end L2

namespace L2
open PySem PySem.Spec PyProof.Rows
end L2

namespace L2
open PySem
end L2

namespace L2
open PySem PySem.Spec PyProof.Rows
inductive D where
  | non | bl (b : Bool) | int (i : Int) | str (l : List Nat) | lst (xs : List D) | tup (xs : List D) | dct (ks vs : List D) | dctT (ks vs : List D) | ins (C : Addr) (ns : List Str) (vs : List D)
noncomputable instance : Inhabited D := ⟨.non⟩
noncomputable instance : DecidableEq D := Classical.typeDecidableEq D
mutual
noncomputable def D.dep : D → Nat
  | .lst a => D.deps a + 1
  | .tup a => D.deps a + 1
  | _ => 0
noncomputable def D.deps : List D → Nat
  | [] => 0
  | a :: x => max a.dep (D.deps x)
end
mutual
noncomputable def D.nb : D → Bool
  | .bl _ => false
  | .dct _ _ => false
  | .dctT _ _ => false
  | .ins _ _ _ => false
  | .lst a => D.nbs a
  | .tup a => D.nbs a
  | _ => true
noncomputable def D.nbs : List D → Bool
  | [] => true
  | a :: x => a.nb && D.nbs x
end

section
variable (K : PySem.W.Frag) (H : Hp)
mutual
noncomputable def Rep : D → V → Prop
  | .non, v => v = .non
  | .bl b, v => v = .bl b
  | .int i, v => v = .int i
  | .str l, v => v = .str (T l) ∧ ∀ c ∈ l, c < 128
  | .lst ds, v => ∃ p xs, v = .ref p ∧ SqL K H p xs ∧ Reps ds xs
  | .tup ds, v => ∃ p xs, v = .ref p ∧ SqT K H p xs ∧ Reps ds xs
  | .dct ks vs, v => ∃ p kv, v = .ref p ∧ H p = some (.dK kv) ∧ Reps ks (kv.map fun q => kV q.1) ∧ Reps vs (kv.map fun q => q.2)
  | .dctT ks vs, v => ∃ p kv, v = .ref p ∧ H p = some (.dT kv) ∧ TKs ks (kv.map fun q => q.1) ∧ Reps vs (kv.map fun q => q.2)
  | .ins C ns vs, v => ∃ x dx fs, v = .ref x ∧ H x = some (.ins C dx fs) ∧ H dx = some (.own x) ∧ fs.map (fun q => q.1) = ns ∧ Reps vs (fs.map fun q => q.2)
noncomputable def TK : D → List Key → Prop
  | .tup es, k => Reps es (k.map kV)
  | _, _ => False
noncomputable def TKs : List D → List (List Key) → Prop
  | [], ks => ks = []
  | d :: ds, ks => ∃ k r, ks = k :: r ∧ TK d k ∧ TKs ds r
noncomputable def Reps : List D → List V → Prop
  | [], xs => xs = []
  | d :: ds, xs => ∃ x r, xs = x :: r ∧ Rep d x ∧ Reps ds r
end
end
section
variable {K : PySem.W.Frag} {H H' : Hp}
mutual
theorem Rep.mono (s : Same H H') : ∀ {d : D} {v : V}, Rep K H d v → Rep K H' d v
  | .non, _, h => by simpa [Rep] using h
  | .bl _, _, h => by simpa [Rep] using h
  | .int _, _, h => by simpa [Rep] using h
  | .str _, _, h => by simpa [Rep] using h
  | .lst ds, _, h => by
    rw [Rep] at h ⊢
    obtain ⟨p, xs, e, q, r⟩ := h
    exact ⟨p, xs, e, SqL.same s q, Reps.mono s r⟩
  | .tup ds, _, h => by
    rw [Rep] at h ⊢
    obtain ⟨p, xs, e, q, r⟩ := h
    exact ⟨p, xs, e, SqT.same s q, Reps.mono s r⟩
  | .dct ks vs, _, h => by
    rw [Rep] at h ⊢
    obtain ⟨p, kv, e, q, r1, r2⟩ := h
    exact ⟨p, kv, e, s _ _ q, Reps.mono s r1, Reps.mono s r2⟩
  | .dctT ks vs, _, h => by
    rw [Rep] at h ⊢
    obtain ⟨p, kv, e, q, r1, r2⟩ := h
    exact ⟨p, kv, e, s _ _ q, TKs.mono s r1, Reps.mono s r2⟩
  | .ins C ns vs, _, h => by
    rw [Rep] at h ⊢
    obtain ⟨x, dx, fs, e, q1, q2, hn, r⟩ := h
    exact ⟨x, dx, fs, e, s _ _ q1, s _ _ q2, hn, Reps.mono s r⟩
theorem TK.mono (s : Same H H') : ∀ {d : D} {k : List Key}, TK K H d k → TK K H' d k
  | .tup es, _, h => by rw [TK] at h ⊢; exact Reps.mono s h
  | .non, _, h => by simp [TK] at h
  | .bl _, _, h => by simp [TK] at h
  | .int _, _, h => by simp [TK] at h
  | .str _, _, h => by simp [TK] at h
  | .lst _, _, h => by simp [TK] at h
  | .dct _ _, _, h => by simp [TK] at h
  | .dctT _ _, _, h => by simp [TK] at h
  | .ins _ _ _, _, h => by simp [TK] at h
theorem TKs.mono (s : Same H H') : ∀ {ds : List D} {ks : List (List Key)}, TKs K H ds ks → TKs K H' ds ks
  | [], _, h => by rw [TKs] at h ⊢; exact h
  | d :: ds, _, h => by
    rw [TKs] at h ⊢
    obtain ⟨k, r, e, a, b⟩ := h
    exact ⟨k, r, e, TK.mono s a, TKs.mono s b⟩
theorem Reps.mono (s : Same H H') : ∀ {ds : List D} {xs : List V}, Reps K H ds xs → Reps K H' ds xs
  | [], _, h => by simpa [Reps] using h
  | d :: ds, _, h => by
    rw [Reps] at h ⊢
    obtain ⟨x, r, e, a, b⟩ := h
    exact ⟨x, r, e, Rep.mono s a, Reps.mono s b⟩
end
theorem Reps.nil : Reps K H [] [] := by rw [Reps]
theorem Reps.cons {d : D} {ds : List D} {x : V} {xs : List V} (a : Rep K H d x) (b : Reps K H ds xs) : Reps K H (d :: ds) (x :: xs) := by rw [Reps]; exact ⟨x, xs, rfl, a, b⟩
theorem Reps.length : ∀ {ds : List D} {xs : List V}, Reps K H ds xs → ds.length = xs.length
  | [], _, h => by rw [Reps] at h; subst h; rfl
  | d :: ds, _, h => by
    rw [Reps] at h
    obtain ⟨x, r, rfl, _, b⟩ := h
    simp [b.length]
theorem Reps.get : ∀ {ds : List D} {xs : List V} {i : Nat} {x : V}, Reps K H ds xs → xs[i]? = some x → ∃ d, ds[i]? = some d ∧ Rep K H d x
  | [], _, _, _, h, e => by rw [Reps] at h; subst h; simp at e
  | d :: ds, _, 0, _, h, e => by
    rw [Reps] at h
    obtain ⟨y, r, rfl, a, _⟩ := h
    cases e
    exact ⟨d, rfl, a⟩
  | d :: ds, _, i + 1, _, h, e => by
    rw [Reps] at h
    obtain ⟨y, r, rfl, _, b⟩ := h
    exact Reps.get (i := i) b e
theorem Reps.get' : ∀ {ds : List D} {xs : List V} {i : Nat} {d : D}, Reps K H ds xs → ds[i]? = some d → ∃ x, xs[i]? = some x ∧ Rep K H d x := fun {ds xs i d} h e => by
  have hl := h.length
  have hi := (List.getElem?_eq_some_iff.mp e).1
  obtain ⟨d', e', r⟩ := h.get (i := i) (x := xs[i]'(by lia)) (List.getElem?_eq_getElem _)
  rw [e] at e'; cases e'
  exact ⟨_, List.getElem?_eq_getElem _, r⟩
theorem Reps.append : ∀ {ds es : List D} {xs ys : List V}, Reps K H ds xs → Reps K H es ys → Reps K H (ds ++ es) (xs ++ ys)
  | [], _, _, _, h, h2 => by rw [Reps] at h; subst h; exact h2
  | d :: ds, _, _, _, h, h2 => by
    rw [Reps] at h
    obtain ⟨y, r, rfl, a, b⟩ := h
    exact Reps.cons a (Reps.append b h2)
theorem Reps.snoc {ds : List D} {xs : List V} {d : D} {x : V} (h : Reps K H ds xs) (a : Rep K H d x) : Reps K H (ds ++ [d]) (xs ++ [x]) := h.append (.cons a .nil)
theorem Reps.drop : ∀ (n : Nat) {ds : List D} {xs : List V}, Reps K H ds xs → Reps K H (ds.drop n) (xs.drop n)
  | 0, _, _, h => h
  | n + 1, [], _, h => by rw [Reps] at h; subst h; exact Reps.nil
  | n + 1, d :: ds, _, h => by
    rw [Reps] at h
    obtain ⟨y, r, rfl, _, b⟩ := h
    exact Reps.drop n b
theorem Reps.take : ∀ (n : Nat) {ds : List D} {xs : List V}, Reps K H ds xs → Reps K H (ds.take n) (xs.take n)
  | 0, _, _, h => Reps.nil
  | n + 1, [], _, h => by rw [Reps] at h; subst h; exact Reps.nil
  | n + 1, d :: ds, _, h => by
    rw [Reps] at h
    obtain ⟨y, r, rfl, a, b⟩ := h
    exact Reps.cons a (Reps.take n b)
theorem Rep.lst {ds : List D} {p : Addr} {xs : List V} (q : SqL K H p xs) (r : Reps K H ds xs) : Rep K H (.lst ds) (.ref p) := by rw [Rep]; exact ⟨p, xs, rfl, q, r⟩
theorem Rep.tup {ds : List D} {p : Addr} {xs : List V} (q : SqT K H p xs) (r : Reps K H ds xs) : Rep K H (.tup ds) (.ref p) := by rw [Rep]; exact ⟨p, xs, rfl, q, r⟩
theorem Rep.int {i : Int} : Rep K H (.int i) (.int i) := by rw [Rep]
theorem Rep.bl {b : Bool} : Rep K H (.bl b) (.bl b) := by rw [Rep]
theorem Rep.str {l : List Nat} (h : ∀ c ∈ l, c < 128) : Rep K H (.str l) (.str (T l)) := by rw [Rep]; exact ⟨rfl, h⟩
theorem Rep.of_int {i : Int} {v : V} (h : Rep K H (.int i) v) : v = .int i := by rw [Rep] at h; exact h
theorem Rep.of_bl {b : Bool} {v : V} (h : Rep K H (.bl b) v) : v = .bl b := by rw [Rep] at h; exact h
theorem Rep.of_str {l : List Nat} {v : V} (h : Rep K H (.str l) v) : v = .str (T l) := by rw [Rep] at h; exact h.1
theorem Rep.asc {l : List Nat} {v : V} (h : Rep K H (.str l) v) : ∀ c ∈ l, c < 128 := by rw [Rep] at h; exact h.2
theorem Rep.of_non {v : V} (h : Rep K H .non v) : v = .non := by rw [Rep] at h; exact h
theorem Rep.of_lst {ds : List D} {v : V} (h : Rep K H (.lst ds) v) : ∃ p xs, v = .ref p ∧ SqL K H p xs ∧ Reps K H ds xs := by rw [Rep] at h; exact h
theorem Rep.of_tup {ds : List D} {v : V} (h : Rep K H (.tup ds) v) : ∃ p xs, v = .ref p ∧ SqT K H p xs ∧ Reps K H ds xs := by rw [Rep] at h; exact h
theorem Rep.of_ins {C : Addr} {ns : List Str} {vs : List D} {v : V} (h : Rep K H (.ins C ns vs) v) : ∃ x dx fs, v = .ref x ∧ H x = some (.ins C dx fs) ∧ H dx = some (.own x) ∧ fs.map (fun q => q.1) = ns ∧ Reps K H vs (fs.map fun q => q.2) := by rw [Rep] at h; exact h
theorem Rep.ins {C x dx : Addr} {fs : List (Str × V)} {vs : List D} (q1 : H x = some (.ins C dx fs)) (q2 : H dx = some (.own x)) (r : Reps K H vs (fs.map fun q => q.2)) : Rep K H (.ins C (fs.map fun q => q.1) vs) (.ref x) := by rw [Rep]; exact ⟨x, dx, fs, rfl, q1, q2, rfl, r⟩
end

structure Ext (G H₀ F H : Hp) : Prop where
  gf : Same G F
  fh : Same F H
  hh : Same H₀ H
  no : ∀ b o, H₀ b = some o → F b = G b
theorem Ext.refl {G H : Hp} (s : Same G H) : Ext G H G H := ⟨Same.refl _, s, Same.refl _, fun _ _ _ => rfl⟩
theorem Ext.trans {G H F1 H1 F2 H2 : Hp} (a : Ext G H F1 H1) (b : Ext F1 H1 F2 H2) : Ext G H F2 H2 :=
  ⟨a.gf.trans b.gf, b.fh, a.hh.trans b.hh, fun c o e => (b.no c o (a.hh c o e)).trans (a.no c o e)⟩
theorem Ext.newF {G H₀ F H : Hp} (x : Ext G H₀ F H) {p : Addr} {o : HO} (hp : H p = none) : Ext G H₀ (upd F p o) (upd H p o) := by
  have fp : F p = none := x.fh.free hp
  refine ⟨x.gf.trans (Same.upd fp), fun b u e => ?_, x.hh.trans (Same.upd hp), fun b u e => ?_⟩
  · by_cases hb : b = p
    · subst hb; rw [upd_same] at e ⊢; exact e
    · rw [upd_ne hb] at e ⊢; exact x.fh b u e
  · have hb : b ≠ p := fun z => by subst z; have := x.hh b u e; rw [hp] at this; cases this
    rw [upd_ne hb]; exact x.no b u e
theorem Ext.newO {G H₀ F H : Hp} (x : Ext G H₀ F H) {p : Addr} {o : HO} (hp : H p = none) : Ext G H₀ F (upd H p o) :=
  ⟨x.gf, x.fh.trans (Same.upd hp), x.hh.trans (Same.upd hp), x.no⟩
theorem Ext.write {G H₀ F H : Hp} (x : Ext G H₀ F H) {p : Addr} {o : HO} (fp : F p = none) (hp : H₀ p = none) : Ext G H₀ F (upd H p o) :=
  ⟨x.gf, fun b u e => by rw [upd_ne (ne_of_none e fp)]; exact x.fh b u e, fun b u e => by rw [upd_ne (ne_of_none e hp)]; exact x.hh b u e, x.no⟩
theorem Ext.freeze {G H₀ F H : Hp} (x : Ext G H₀ F H) {p : Addr} {o : HO} (fp : F p = none) (hp : H₀ p = none) (e : H p = some o) : Ext G H₀ (upd F p o) H := by
  refine ⟨x.gf.trans (Same.upd fp), fun b u q => ?_, x.hh, fun b u q => ?_⟩
  · by_cases hb : b = p
    · subst hb; rw [upd_same] at q; cases q; exact e
    · rw [upd_ne hb] at q; exact x.fh b u q
  · rw [upd_ne (ne_of_none q hp)]; exact x.no b u q

inductive Sl where
  | un | d (x : D) | o (p : Addr) (xs : List D) | oo (p : Addr) (qs : List (Addr × List D)) | g (v : V) (as : List Addr) (W : Hp → Hp → Prop)
noncomputable def Sl.ads : Sl → List Addr
  | .un => [] | .d _ => [] | .o p _ => [p] | .oo p qs => p :: qs.map (·.1) | .g _ as _ => as
noncomputable def OwnL (K : PySem.W.Frag) (H₀ F H : Hp) (p : Addr) (xs : List D) : Prop := H₀ p = none ∧ F p = none ∧ ∃ vs, H p = some (.lst vs) ∧ Reps K F xs vs
noncomputable def Stab (as : List Addr) (W : Hp → Hp → Prop) : Prop := ∀ F1 H1 F2 H2 : Hp, Same F1 F2 → (∀ a ∈ as, H2 a = H1 a) → W F1 H1 → W F2 H2
noncomputable def SlOk (K : PySem.W.Frag) (H₀ F H : Hp) (ov : Option V) : Sl → Prop
  | .un => True
  | .d x => ∃ v, ov = some v ∧ Rep K F x v
  | .o p xs => ov = some (.ref p) ∧ OwnL K H₀ F H p xs
  | .oo p qs => ov = some (.ref p) ∧ H₀ p = none ∧ F p = none ∧ H p = some (.lst (qs.map fun q => V.ref q.1)) ∧ ∀ q ∈ qs, OwnL K H₀ F H q.1 q.2
  | .g v as W => ov = some v ∧ (∀ a ∈ as, H₀ a = none ∧ F a = none ∧ ∃ o, H a = some o) ∧ W F H ∧ Stab as W
structure Sat (K : PySem.W.Frag) (G H₀ L F H : Hp) (σ : St) (ss : List Sl) : Prop where
  ext : Ext G H₀ F H
  fl : Same L F
  len : σ.length = ss.length
  ok : ∀ (i : Nat) s, ss[i]? = some s → SlOk K H₀ F H (σ.getD i none) s
  nd : ∀ (i : Nat) s, ss[i]? = some s → s.ads.Nodup
  ne : ∀ (i j : Nat) s s', i ≠ j → ss[i]? = some s → ss[j]? = some s' → ∀ p ∈ s.ads, p ∉ s'.ads
section
variable {K : PySem.W.Frag} {H₀ F H F' H' : Hp}
theorem OwnL.ext2 {p : Addr} {xs : List D} (h : OwnL K H₀ F H p xs) (e : Ext F H F' H') : OwnL K H₀ F' H' p xs := by
  obtain ⟨h0, fp, vs, hp, r⟩ := h
  exact ⟨h0, (e.no p _ hp).trans fp, vs, e.hh p _ hp, r.mono e.gf⟩
theorem SlOk.ext2 {ov : Option V} {s : Sl} (h : SlOk K H₀ F H ov s) (e : Ext F H F' H') : SlOk K H₀ F' H' ov s := by
  cases s with
  | un => trivial
  | d x => obtain ⟨v, ev, r⟩ := h; exact ⟨v, ev, r.mono e.gf⟩
  | o p xs => exact ⟨h.1, h.2.ext2 e⟩
  | oo p qs =>
    obtain ⟨ev, h0, fp, hp, hq⟩ := h
    exact ⟨ev, h0, (e.no p _ hp).trans fp, e.hh p _ hp, fun q hm => (hq q hm).ext2 e⟩
  | g v as W =>
    obtain ⟨ev, ha, hw, st⟩ := h
    refine ⟨ev, fun a hm => ?_, st _ _ _ _ e.gf (fun a hm => ?_) hw, st⟩
    · obtain ⟨h0, fa, o, ho⟩ := ha a hm
      exact ⟨h0, (e.no a _ ho).trans fa, o, e.hh a _ ho⟩
    · obtain ⟨h0, fa, o, ho⟩ := ha a hm
      rw [e.hh a _ ho, ho]
theorem OwnL.updNe {p a : Addr} {o : HO} {xs : List D} (h : OwnL K H₀ F H p xs) (hn : p ≠ a) : OwnL K H₀ F (upd H a o) p xs := by
  obtain ⟨h0, fp, vs, hp, r⟩ := h
  exact ⟨h0, fp, vs, by rw [upd_ne hn]; exact hp, r⟩
theorem SlOk.updNe {ov : Option V} {s : Sl} {a : Addr} {o : HO} (h : SlOk K H₀ F H ov s) (hn : a ∉ s.ads) : SlOk K H₀ F (upd H a o) ov s := by
  cases s with
  | un => trivial
  | d x => exact h
  | o p xs => exact ⟨h.1, h.2.updNe fun z => hn (by simp [Sl.ads, z])⟩
  | oo p qs =>
    obtain ⟨ev, h0, fp, hp, hq⟩ := h
    refine ⟨ev, h0, fp, by rw [upd_ne fun z => hn (by simp [Sl.ads, z])]; exact hp, fun q hm => (hq q hm).updNe fun z => hn ?_⟩
    rw [← z]
    exact List.mem_cons_of_mem _ (List.mem_map_of_mem hm)
  | g v as W =>
    obtain ⟨ev, ha, hw, st⟩ := h
    have hne : ∀ b ∈ as, b ≠ a := fun b hm z => hn (by rw [← z]; exact hm)
    refine ⟨ev, fun b hm => ?_, st _ _ _ _ (Same.refl _) (fun b hm => upd_ne (hne b hm)) hw, st⟩
    obtain ⟨h0, fa, x, ho⟩ := ha b hm
    exact ⟨h0, fa, x, by rw [upd_ne (hne b hm)]; exact ho⟩
theorem OwnL.frz {p a : Addr} {o : HO} {xs : List D} (h : OwnL K H₀ F H p xs) (fa : F a = none) (hn : p ≠ a) : OwnL K H₀ (upd F a o) H p xs := by
  obtain ⟨h0, fp, vs, hp, r⟩ := h
  exact ⟨h0, by rw [upd_ne hn]; exact fp, vs, hp, r.mono (Same.upd fa)⟩
theorem SlOk.frz {ov : Option V} {s : Sl} {a : Addr} {o : HO} (h : SlOk K H₀ F H ov s) (fa : F a = none) (hn : a ∉ s.ads) : SlOk K H₀ (upd F a o) H ov s := by
  cases s with
  | un => trivial
  | d x => obtain ⟨v, ev, r⟩ := h; exact ⟨v, ev, r.mono (Same.upd fa)⟩
  | o p xs => exact ⟨h.1, h.2.frz fa fun z => hn (by simp [Sl.ads, z])⟩
  | oo p qs =>
    obtain ⟨ev, h0, fp, hp, hq⟩ := h
    refine ⟨ev, h0, by rw [upd_ne fun z => hn (by simp [Sl.ads, z])]; exact fp, hp, fun q hm => (hq q hm).frz fa fun z => hn ?_⟩
    rw [← z]
    exact List.mem_cons_of_mem _ (List.mem_map_of_mem hm)
  | g v as W =>
    obtain ⟨ev, ha, hw, st⟩ := h
    have hne : ∀ b ∈ as, b ≠ a := fun b hm z => hn (by rw [← z]; exact hm)
    refine ⟨ev, fun b hm => ?_, st _ _ _ _ (Same.upd fa) (fun _ _ => rfl) hw, st⟩
    obtain ⟨h0, fb, x, ho⟩ := ha b hm
    exact ⟨h0, by rw [upd_ne (hne b hm)]; exact fb, x, ho⟩
theorem SlOk.live {ov : Option V} {s : Sl} (h : SlOk K H₀ F H ov s) {p : Addr} (hp : p ∈ s.ads) : H p ≠ none := by
  cases s with
  | un => simp [Sl.ads] at hp
  | d x => simp [Sl.ads] at hp
  | o q xs =>
    obtain ⟨_, _, _, vs, hq, _⟩ := h
    simp [Sl.ads] at hp; subst hp; rw [hq]; simp
  | oo q qs =>
    obtain ⟨ev, h0, fp, hq, hqs⟩ := h
    rcases List.mem_cons.mp hp with rfl | hp
    · rw [hq]; simp
    · obtain ⟨r, hr, rfl⟩ := List.mem_map.mp hp
      obtain ⟨_, _, vs, hv, _⟩ := hqs r hr
      rw [hv]; simp
  | g v as W =>
    obtain ⟨ev, ha, hw, st⟩ := h
    obtain ⟨_, _, x, ho⟩ := ha p hp
    rw [ho]; simp
end
end L2

namespace L2
open PySem PySem.Spec PyProof.Rows
section
variable {K : PySem.W.Frag} {G H₀ L F H F' H' : Hp} {σ : St} {ss : List Sl}
theorem Sat.ext2 (S : Sat K G H₀ L F H σ ss) (e : Ext F H F' H') : Sat K G H₀ L F' H' σ ss :=
  ⟨S.ext.trans e, S.fl.trans e.gf, S.len, fun i s hs => (S.ok i s hs).ext2 e, S.nd, S.ne⟩
theorem Sat.get (S : Sat K G H₀ L F H σ ss) {i : Nat} {s : Sl} (hs : ss[i]? = some s) (hn : s ≠ .un) : ∃ v, σ[i]? = some (some v) ∧ SlOk K H₀ F H (some v) s := by
  have hi : i < σ.length := by rw [S.len]; exact (List.getElem?_eq_some_iff.mp hs).1
  have := S.ok i s hs
  rw [List.getD_eq_getElem?_getD, List.getElem?_eq_getElem hi] at this
  simp only [Option.getD_some] at this
  cases hv : σ[i] with
  | none =>
    rw [hv] at this
    cases s with
    | un => exact absurd rfl hn
    | d x => obtain ⟨v, ev, _⟩ := this; cases ev
    | o p xs => obtain ⟨ev, _⟩ := this; cases ev
    | oo p qs => obtain ⟨ev, _⟩ := this; cases ev
    | g v as W => obtain ⟨ev, _⟩ := this; cases ev
  | some v =>
    rw [hv] at this
    exact ⟨v, by rw [List.getElem?_eq_getElem hi, hv], this⟩
theorem Sat.getD (S : Sat K G H₀ L F H σ ss) {i : Nat} {x : D} (hs : ss[i]? = some (.d x)) : ∃ v, σ[i]? = some (some v) ∧ Rep K F x v := by
  obtain ⟨v, e, w, ew, r⟩ := S.get hs (by intro z; cases z)
  cases ew
  exact ⟨v, e, r⟩
theorem Sat.getO (S : Sat K G H₀ L F H σ ss) {i : Nat} {p : Addr} {xs : List D} (hs : ss[i]? = some (.o p xs)) : σ[i]? = some (some (.ref p)) ∧ OwnL K H₀ F H p xs := by
  obtain ⟨v, e, ew, r⟩ := S.get hs (by intro z; cases z)
  cases ew
  exact ⟨e, r⟩
theorem getD_set_self {σ : St} {i : Nat} {v : Option V} (h : i < σ.length) : (σ.set i v).getD i none = v := by
  rw [List.getD_eq_getElem?_getD, List.getElem?_set_self h]; rfl
theorem getD_set_ne {σ : St} {i j : Nat} {v : Option V} (h : i ≠ j) : (σ.set i v).getD j none = σ.getD j none := by
  rw [List.getD_eq_getElem?_getD, List.getElem?_set_ne h, List.getD_eq_getElem?_getD]
theorem set_cases {i j : Nat} {s t : Sl} (h : (ss.set i s)[j]? = some t) : (i = j ∧ t = s ∧ i < ss.length) ∨ (i ≠ j ∧ ss[j]? = some t) := by
  by_cases hj : i = j
  · subst hj
    have hi := (List.getElem?_eq_some_iff.mp h).1
    rw [List.length_set] at hi
    rw [List.getElem?_set_self hi] at h
    exact .inl ⟨rfl, (Option.some.inj h).symm, hi⟩
  · rw [List.getElem?_set_ne hj] at h; exact .inr ⟨hj, h⟩
theorem Sat.put {σ' : St} (S : Sat K G H₀ L F H σ ss) {i : Nat} {s : Sl} (ex : Ext G H₀ F' H') (fl : Same L F') (hl : σ'.length = σ.length) (hσ : ∀ j, j ≠ i → σ'.getD j none = σ.getD j none) (hi : i < ss.length → SlOk K H₀ F' H' (σ'.getD i none) s)
    (nd : s.ads.Nodup) (dj : ∀ (j : Nat) s', j ≠ i → ss[j]? = some s' → ∀ p ∈ s.ads, p ∉ s'.ads) (st : ∀ (j : Nat) s', j ≠ i → ss[j]? = some s' → SlOk K H₀ F' H' (σ.getD j none) s') : Sat K G H₀ L F' H' σ' (ss.set i s) := by
  refine ⟨ex, fl, by rw [List.length_set, hl, S.len], fun j t ht => ?_, fun j t ht => ?_, fun j k t u hjk ht hu => ?_⟩
  · rcases set_cases ht with ⟨rfl, rfl, hlt⟩ | ⟨hj, ht⟩
    · exact hi hlt
    · rw [hσ j (Ne.symm hj)]; exact st j t (Ne.symm hj) ht
  · rcases set_cases ht with ⟨rfl, rfl, _⟩ | ⟨hj, ht⟩
    · exact nd
    · exact S.nd j t ht
  · rcases set_cases ht with ⟨rfl, rfl, _⟩ | ⟨hj, ht'⟩
    · rcases set_cases hu with ⟨rfl, rfl, _⟩ | ⟨hk, hu'⟩
      · exact absurd rfl hjk
      · exact dj k u (Ne.symm hk) hu'
    · rcases set_cases hu with ⟨rfl, rfl, _⟩ | ⟨hk, hu'⟩
      · exact fun p hp hp' => dj j t (Ne.symm hj) ht' p hp' hp
      · exact S.ne j k t u hjk ht' hu'
theorem Sat.setD (S : Sat K G H₀ L F H σ ss) {i : Nat} {x : D} {v : V} (r : Rep K F x v) : Sat K G H₀ L F H (σ.set i (some v)) (ss.set i (.d x)) :=
  S.put S.ext S.fl (by simp) (fun j hj => getD_set_ne (Ne.symm hj)) (fun hi => by rw [getD_set_self (by rw [S.len]; exact hi)]; exact ⟨v, rfl, r⟩) (by simp [Sl.ads]) (fun _ _ _ _ p hp => by simp [Sl.ads] at hp) fun j s' _ h => S.ok j s' h
theorem Sat.setO (S : Sat K G H₀ L F H σ ss) {i : Nat} {xs : List D} {p : Addr} (r : OwnL K H₀ F H p xs) (hne : ∀ (j : Nat) s', j ≠ i → ss[j]? = some s' → p ∉ s'.ads) : Sat K G H₀ L F H (σ.set i (some (.ref p))) (ss.set i (.o p xs)) :=
  S.put S.ext S.fl (by simp) (fun j hj => getD_set_ne (Ne.symm hj)) (fun hi => by rw [getD_set_self (by rw [S.len]; exact hi)]; exact ⟨rfl, r⟩) (by simp [Sl.ads]) (fun j s' hj h q hq => by simp [Sl.ads] at hq; subst hq; exact hne j s' hj h) fun j s' _ h => S.ok j s' h
theorem Sat.write (S : Sat K G H₀ L F H σ ss) {i : Nat} {xs ys : List D} {p : Addr} {vs : List V} (hs : ss[i]? = some (.o p xs)) (r : Reps K F ys vs) : Sat K G H₀ L F (upd H p (.lst vs)) σ (ss.set i (.o p ys)) := by
  obtain ⟨e, h0, fp, ws, hp, _⟩ := S.getO hs
  have hget : σ.getD i none = some (.ref p) := by rw [List.getD_eq_getElem?_getD, e]; rfl
  refine S.put (S.ext.write fp h0) S.fl rfl (fun _ _ => rfl) (fun _ => by rw [hget]; exact ⟨rfl, h0, fp, vs, upd_same, r⟩) (by simp [Sl.ads]) (fun j s' hj h q hq => ?_) fun j s' hj h => (S.ok j s' h).updNe (S.ne i j _ s' (Ne.symm hj) hs h p (by simp [Sl.ads]))
  simp [Sl.ads] at hq; subst hq
  exact S.ne i j _ s' (Ne.symm hj) hs h q (by simp [Sl.ads])
theorem Sat.freeze (S : Sat K G H₀ L F H σ ss) {i : Nat} {p : Addr} {xs : List D} (hs : ss[i]? = some (.o p xs)) : ∃ F', Sat K G H₀ L F' H σ (ss.set i (.d (.lst xs))) := by
  obtain ⟨e, h0, fp, vs, hp, r⟩ := S.getO hs
  have hget : σ.getD i none = some (.ref p) := by rw [List.getD_eq_getElem?_getD, e]; rfl
  exact ⟨upd F p (.lst vs), S.put (S.ext.freeze fp h0 hp) (S.fl.trans (Same.upd fp)) rfl (fun _ _ => rfl) (fun _ => by rw [hget]; exact ⟨_, rfl, Rep.lst (SqL.of upd_same) (r.mono (Same.upd fp))⟩) (by simp [Sl.ads]) (fun _ _ _ _ q hq => by simp [Sl.ads] at hq)
    fun j s' hj h => (S.ok j s' h).frz fp (S.ne i j _ s' (Ne.symm hj) hs h p (by simp [Sl.ads]))⟩
theorem Sat.raise (S : Sat K G H₀ L F H σ ss) : Sat K G H₀ F F H σ ss := ⟨S.ext, Same.refl _, S.len, S.ok, S.nd, S.ne⟩
theorem Sat.lower {L' : Hp} (S : Sat K G H₀ L' F H σ ss) (h : Same L L') : Sat K G H₀ L F H σ ss := ⟨S.ext, h.trans S.fl, S.len, S.ok, S.nd, S.ne⟩
end

section
variable (K : PySem.W.Frag) (G H₀ L : Hp) (ss : List Sl)
noncomputable def Ev (t : TE) (d : D) : Prop := ∀ F H σ Q, Sat K G H₀ L F H σ ss → (∀ v F' H', Ext F H F' H' → Rep K F' d v → Q v H') → t σ H Q
noncomputable def EvO (t : TE) (ds : List D) : Prop := ∀ F H σ Q, Sat K G H₀ L F H σ ss → (∀ p vs F' H', Ext F H F' H' → H p = none → F' p = none → H' p = some (.lst vs) → Reps K F' ds vs → Q (.ref p) H') → t σ H Q
noncomputable def EvL (t : TE) (ds : List D) : Prop := ∀ F H σ Q, Sat K G H₀ L F H σ ss → (∀ p vs F' H', Ext F H F' H' → SqL K H' p vs → Reps K F' ds vs → Q (.ref p) H') → t σ H Q
noncomputable def EvB (t : TE) (d : D) : Prop := ∀ F H σ Q, Sat K G H₀ L F H σ ss → (∀ v F' H', Ext F H F' H' → Rep K H' d v → Q v H') → t σ H Q
noncomputable def EvT (t : TT) (b : Bool) : Prop := ∀ F H σ (Q : Bool → Hp → Prop), Sat K G H₀ L F H σ ss → (∀ F' H', Ext F H F' H' → Q b H') → t σ H Q
noncomputable def EvA (t : TA) (ds : List D) : Prop := ∀ F H σ (Q : List V → Hp → Prop), Sat K G H₀ L F H σ ss → (∀ vs F' H', Ext F H F' H' → Reps K H' ds vs → Q vs H') → t σ H Q
noncomputable def EvAF (t : TA) (ds : List D) : Prop := ∀ F H σ (Q : List V → Hp → Prop), Sat K G H₀ L F H σ ss → (∀ vs F' H', Ext F H F' H' → Reps K F' ds vs → Q vs H') → t σ H Q
end
section
variable {K : PySem.W.Frag} {G H₀ L : Hp} {ss : List Sl} {t ta tb : TE} {d d1 d2 : D} {ds es : List D}
theorem EvO.ev (h : EvO K G H₀ L ss t ds) : Ev K G H₀ L ss t (.lst ds) := fun F H σ Q S q => h F H σ Q S fun p vs F' H' e hp fp hp' r => q _ _ _ (e.freeze fp hp hp') (Rep.lst (SqL.of upd_same) (r.mono (Same.upd fp)))
theorem EvO.l (h : EvO K G H₀ L ss t ds) : EvL K G H₀ L ss t ds := fun F H σ Q S q => h F H σ Q S fun p vs F' H' e hp fp hp' r => q _ _ _ _ e (SqL.of hp') r
theorem Ev.l (h : Ev K G H₀ L ss t (.lst ds)) : EvL K G H₀ L ss t ds := fun F H σ Q S q => h F H σ Q S fun v F' H' e r => by
  obtain ⟨p, xs, rfl, sq, rs⟩ := r.of_lst
  exact q _ _ _ _ e (SqL.same e.fh sq) rs
theorem Ev.b (h : Ev K G H₀ L ss t d) : EvB K G H₀ L ss t d := fun F H σ Q S q => h F H σ Q S fun v F' H' e r => q _ _ _ e (r.mono e.fh)
theorem EvL.b (h : EvL K G H₀ L ss t ds) : EvB K G H₀ L ss t (.lst ds) := fun F H σ Q S q => h F H σ Q S fun p vs F' H' e sq r => q _ _ _ e (Rep.lst sq (r.mono e.fh))
theorem ev_var {i : Nat} (hs : ss[i]? = some (.d d)) : Ev K G H₀ L ss (tVar i) d := fun F H σ Q S q => by
  obtain ⟨v, e, r⟩ := S.getD hs
  exact ⟨v, e, q _ _ _ (Ext.refl S.ext.fh) r⟩
theorem evl_own {i : Nat} {p : Addr} (hs : ss[i]? = some (.o p ds)) : EvL K G H₀ L ss (tVar i) ds := fun F H σ Q S q => by
  obtain ⟨e, h0, fp, vs, hp, r⟩ := S.getO hs
  exact ⟨.ref p, e, q _ _ _ _ (Ext.refl S.ext.fh) (SqL.of hp) r⟩
theorem ev_int {i : Int} : Ev K G H₀ L ss (tC (.int i)) (.int i) := fun F H σ Q S q => q _ _ _ (Ext.refl S.ext.fh) Rep.int
theorem ev_bl {b : Bool} : Ev K G H₀ L ss (tC (.bl b)) (.bl b) := fun F H σ Q S q => q _ _ _ (Ext.refl S.ext.fh) Rep.bl
theorem ev_str {x : Str} {l : List Nat} (h : x = T l) (ha : ∀ c ∈ l, c < 128) : Ev K G H₀ L ss (tC (.str x)) (.str l) := fun F H σ Q S q => by subst h; exact q _ _ _ (Ext.refl S.ext.fh) (Rep.str ha)
theorem ev_op2 {r : R2} {w : V} (a : EvB K G H₀ L ss ta d1) (b : EvB K G H₀ L ss tb d2) (hr : ∀ H x y (Q : VK), Rep K H d1 x → Rep K H d2 y → Q w H → r x y H Q) (hw : ∀ F H x y, Rep K H d1 x → Rep K H d2 y → Rep K F d w) : Ev K G H₀ L ss (tOp r ta tb) d := fun F H σ Q S q =>
  a F H σ _ S fun x F1 H1 e1 r1 => b F1 H1 σ _ (S.ext2 e1) fun y F2 H2 e2 r2 => hr H2 x y Q (r1.mono e2.hh) r2 (q _ _ _ (e1.trans e2) (hw _ _ _ _ (r1.mono e2.hh) r2))
theorem ev_add {i j : Int} (a : EvB K G H₀ L ss ta (.int i)) (b : EvB K G H₀ L ss tb (.int j)) : Ev K G H₀ L ss (tOp (rI0 fun i j => .int (i + j)) ta tb) (.int (i + j)) :=
  ev_op2 a b (fun H x y Q r1 r2 q => ⟨i, j, r1.of_int, r2.of_int, q⟩) fun _ _ _ _ _ _ => Rep.int
theorem ev_sub {i j : Int} (a : EvB K G H₀ L ss ta (.int i)) (b : EvB K G H₀ L ss tb (.int j)) : Ev K G H₀ L ss (tOp (rI0 fun i j => .int (i - j)) ta tb) (.int (i - j)) :=
  ev_op2 a b (fun H x y Q r1 r2 q => ⟨i, j, r1.of_int, r2.of_int, q⟩) fun _ _ _ _ _ _ => Rep.int
theorem ev_opI {C : Int → Int → Prop} {g : Int → Int → Int} {i j : Int} (a : EvB K G H₀ L ss ta (.int i)) (b : EvB K G H₀ L ss tb (.int j)) (hC : C i j) : Ev K G H₀ L ss (tOp (rI C fun i j => .int (g i j)) ta tb) (.int (g i j)) :=
  ev_op2 a b (fun H x y Q r1 r2 q => ⟨i, j, r1.of_int, r2.of_int, hC, q⟩) fun _ _ _ _ _ _ => Rep.int
theorem ev_cmpI {g : Int → Int → Bool} {i j : Int} (a : EvB K G H₀ L ss ta (.int i)) (b : EvB K G H₀ L ss tb (.int j)) : Ev K G H₀ L ss (tOp (rI0 fun i j => .bl (g i j)) ta tb) (.bl (g i j)) :=
  ev_op2 a b (fun H x y Q r1 r2 q => ⟨i, j, r1.of_int, r2.of_int, q⟩) fun _ _ _ _ _ _ => Rep.bl
theorem ev_eqI {i j : Int} (a : EvB K G H₀ L ss ta (.int i)) (b : EvB K G H₀ L ss tb (.int j)) : Ev K G H₀ L ss (tOp rEq ta tb) (.bl (decide (i = j))) :=
  ev_op2 (w := .bl (decide (i = j))) a b (fun H x y Q r1 r2 q => by rw [r1.of_int, r2.of_int]; exact ⟨rfl, by simpa using q⟩) fun _ _ _ _ _ _ => Rep.bl
theorem ev_neI {i j : Int} (a : EvB K G H₀ L ss ta (.int i)) (b : EvB K G H₀ L ss tb (.int j)) : Ev K G H₀ L ss (tOp rNe ta tb) (.bl (!decide (i = j))) :=
  ev_op2 (w := .bl (!decide (i = j))) a b (fun H x y Q r1 r2 q => by rw [r1.of_int, r2.of_int]; exact ⟨rfl, by simpa using q⟩) fun _ _ _ _ _ _ => Rep.bl
theorem ev_eqS {l m : List Nat} (a : EvB K G H₀ L ss ta (.str l)) (b : EvB K G H₀ L ss tb (.str m)) : Ev K G H₀ L ss (tOp rEq ta tb) (.bl (decide (l = m))) :=
  ev_op2 (w := .bl (decide (l = m))) a b (fun H x y Q r1 r2 q => by rw [r1.of_str, r2.of_str]; exact ⟨rfl, by rw [T_decide]; exact q⟩) fun _ _ _ _ _ _ => Rep.bl
theorem ev_neS {l m : List Nat} (a : EvB K G H₀ L ss ta (.str l)) (b : EvB K G H₀ L ss tb (.str m)) : Ev K G H₀ L ss (tOp rNe ta tb) (.bl (!decide (l = m))) :=
  ev_op2 (w := .bl (!decide (l = m))) a b (fun H x y Q r1 r2 q => by rw [r1.of_str, r2.of_str]; exact ⟨rfl, by rw [T_decide]; exact q⟩) fun _ _ _ _ _ _ => Rep.bl
theorem ev_catS {l m : List Nat} (a : EvB K G H₀ L ss ta (.str l)) (b : EvB K G H₀ L ss tb (.str m)) (hz : l.length + m.length ≤ sizeLine) :
    Ev K G H₀ L ss (tOp (fun x y H Q => ∃ i j, x = .str i ∧ y = .str j ∧ i.length + j.length ≤ sizeLine ∧ Q (.str (i ++ j)) H) ta tb) (.str (l ++ m)) :=
  ev_op2 (w := .str (T (l ++ m))) a b (fun H x y Q r1 r2 q => ⟨_, _, r1.of_str, r2.of_str, by rw [T_len, T_len]; exact hz, by rw [T_app]; exact q⟩) fun _ _ _ _ r1 r2 => Rep.str fun c hc => (List.mem_append.mp hc).elim (r1.asc c) (r2.asc c)
theorem atI_mem {α : Type} {xs : List α} {i : Int} {x : α} (h : atI xs i = some x) : x ∈ xs := by
  unfold atI at h
  cases hx : ixN xs.length i with
  | none => rw [hx] at h; cases h
  | some j => rw [hx] at h; exact List.mem_of_getElem? h
theorem ev_ixS {l : List Nat} {i : Int} {c : Nat} (a : EvB K G H₀ L ss ta (.str l)) (b : EvB K G H₀ L ss tb (.int i)) (hz : l.length ≤ sizeLine) (hc : atI l i = some c) : Ev K G H₀ L ss (tOp rIxS ta tb) (.str [c]) :=
  ev_op2 (w := .str (T [c])) a b (fun H x y Q r1 r2 q => ⟨_, _, c, r1.of_str, r2.of_int, by rw [T_len]; exact hz, by rw [T_cps]; exact hc, q⟩) fun _ _ _ _ r1 r2 => Rep.str fun c' hc' => by
    rw [List.mem_singleton.mp hc']
    exact r1.asc c (atI_mem hc)
theorem Reps.atI {H : Hp} {ds : List D} {vs : List V} {i : Int} {d : D} (r : Reps K H ds vs) (h : L2.atI ds i = some d) : ∃ v, L2.atI vs i = some v ∧ Rep K H d v := by
  unfold L2.atI at h ⊢
  rw [r.length] at h
  cases hx : ixN vs.length i with
  | none => rw [hx] at h; cases h
  | some j => rw [hx] at h; exact r.get' h
theorem ev_ixL {i : Int} (a : EvL K G H₀ L ss ta ds) (b : EvB K G H₀ L ss tb (.int i)) (hc : atI ds i = some d) : Ev K G H₀ L ss (tOp (rIxL K) ta tb) d := fun F H σ Q S q =>
  a F H σ _ S fun p vs F1 H1 e1 sq r1 => b F1 H1 σ _ (S.ext2 e1) fun y F2 H2 e2 r2 => by
    obtain ⟨v, hv, rv⟩ := r1.atI hc
    exact ⟨p, vs, i, v, rfl, r2.of_int, SqL.same e2.hh sq, hv, q _ _ _ (e1.trans e2) (rv.mono e2.gf)⟩
theorem ev_ixT {i : Int} (a : Ev K G H₀ L ss ta (.tup ds)) (b : EvB K G H₀ L ss tb (.int i)) (hc : atI ds i = some d) : Ev K G H₀ L ss (tOp (rIxT K) ta tb) d := fun F H σ Q S q =>
  a F H σ _ S fun x F1 H1 e1 r1 => b F1 H1 σ _ (S.ext2 e1) fun y F2 H2 e2 r2 => by
    obtain ⟨p, vs, rfl, sq, rs⟩ := r1.of_tup
    obtain ⟨v, hv, rv⟩ := rs.atI hc
    exact ⟨p, vs, i, v, rfl, r2.of_int, SqT.same (e1.fh.trans e2.hh) sq, hv, q _ _ _ (e1.trans e2) (rv.mono e2.gf)⟩
theorem eva_nil : EvA K G H₀ L ss tNil [] := fun F H σ Q S q => q _ _ _ (Ext.refl S.ext.fh) Reps.nil
theorem eva_cons {t : TA} (a : EvB K G H₀ L ss ta d) (b : EvA K G H₀ L ss t ds) : EvA K G H₀ L ss (tCons ta t) (d :: ds) := fun F H σ Q S q =>
  a F H σ _ S fun x F1 H1 e1 r1 => b F1 H1 σ _ (S.ext2 e1) fun vs F2 H2 e2 r2 => q _ _ _ (e1.trans e2) (Reps.cons (r1.mono e2.hh) r2)
theorem evaf_nil : EvAF K G H₀ L ss tNil [] := fun F H σ Q S q => q _ _ _ (Ext.refl S.ext.fh) Reps.nil
theorem evaf_cons {t : TA} (a : Ev K G H₀ L ss ta d) (b : EvAF K G H₀ L ss t ds) : EvAF K G H₀ L ss (tCons ta t) (d :: ds) := fun F H σ Q S q =>
  a F H σ _ S fun x F1 H1 e1 r1 => b F1 H1 σ _ (S.ext2 e1) fun vs F2 H2 e2 r2 => q _ _ _ (e1.trans e2) (Reps.cons (r1.mono e2.gf) r2)
theorem ev_tup {t : TA} (a : EvAF K G H₀ L ss t ds) (hz : ds.length ≤ sizeLine) : Ev K G H₀ L ss (tTup t) (.tup ds) := fun F H σ Q S q =>
  a F H σ _ S fun vs F1 H1 e1 r1 => ⟨by rw [← r1.length]; exact hz, fun p hp => q _ _ _ (e1.newF hp) (Rep.tup (SqT.of upd_same) (r1.mono (Same.upd (e1.fh.free hp))))⟩
theorem evo_lst {t : TA} (a : EvAF K G H₀ L ss t ds) (hz : ds.length ≤ sizeLine) : EvO K G H₀ L ss (tLst t) ds := fun F H σ Q S q =>
  a F H σ _ S fun vs F1 H1 e1 r1 => ⟨by rw [← r1.length]; exact hz, fun p hp => q p vs F1 _ (e1.newO hp) (e1.hh.free hp) (e1.fh.free hp) upd_same r1⟩
theorem evt_test {b : Bool} (a : Ev K G H₀ L ss t (.bl b)) : EvT K G H₀ L ss (tTest t) b := fun F H σ Q S q => a F H σ _ S fun v F' H' e r => ⟨b, r.of_bl, q _ _ e⟩
theorem evt_b {b : Bool} (a : Ev K G H₀ L ss t (.bl b)) : EvT K G H₀ L ss (tB t) b := fun F H σ Q S q => a F H σ _ S fun v F' H' e r => ⟨b, r.of_bl, q _ _ e⟩
theorem evt_not {u : TT} {b : Bool} (a : EvT K G H₀ L ss u b) : EvT K G H₀ L ss (tNot u) (!b) := fun F H σ Q S q => a F H σ _ S fun F' H' e => q _ _ e
theorem evt_and {u v : TT} {b c : Bool} (a : EvT K G H₀ L ss u b) (h : b = true → EvT K G H₀ L ss v c) : EvT K G H₀ L ss (tAnd u v) (b && c) := fun F H σ Q S q => a F H σ _ S fun F' H' e => by
  cases b with
  | false => exact iteF (q _ _ e)
  | true => exact iteT (h rfl _ _ _ _ (S.ext2 e) fun F'' H'' e' => q _ _ (e.trans e'))
theorem evt_or {u v : TT} {b c : Bool} (a : EvT K G H₀ L ss u b) (h : b = false → EvT K G H₀ L ss v c) : EvT K G H₀ L ss (tOr u v) (b || c) := fun F H σ Q S q => a F H σ _ S fun F' H' e => by
  cases b with
  | true => exact iteT (q _ _ e)
  | false => exact iteF (h rfl _ _ _ _ (S.ext2 e) fun F'' H'' e' => q _ _ (e.trans e'))
theorem ev_and {b c : Bool} (a : Ev K G H₀ L ss ta (.bl b)) (h : b = true → Ev K G H₀ L ss tb (.bl c)) : Ev K G H₀ L ss (tAndV ta tb) (.bl (b && c)) := fun F H σ Q S q => a F H σ _ S fun v F' H' e r => by
  refine ⟨b, r.of_bl, ?_⟩
  cases b with
  | false => exact iteF (q _ _ _ e Rep.bl)
  | true => exact iteT (h rfl _ _ _ _ (S.ext2 e) fun v F'' H'' e' r' => q _ _ _ (e.trans e') r')
theorem ev_or {b c : Bool} (a : Ev K G H₀ L ss ta (.bl b)) (h : b = false → Ev K G H₀ L ss tb (.bl c)) : Ev K G H₀ L ss (tOrV ta tb) (.bl (b || c)) := fun F H σ Q S q => a F H σ _ S fun v F' H' e r => by
  refine ⟨b, r.of_bl, ?_⟩
  cases b with
  | true => exact iteT (q _ _ _ e Rep.bl)
  | false => exact iteF (h rfl _ _ _ _ (S.ext2 e) fun v F'' H'' e' r' => q _ _ _ (e.trans e') r')
theorem ev_not {b : Bool} (a : Ev K G H₀ L ss ta (.bl b)) : Ev K G H₀ L ss (tNotV ta) (.bl (!b)) := fun F H σ Q S q => a F H σ _ S fun v F' H' e r => ⟨b, r.of_bl, q _ _ _ e Rep.bl⟩
end
end L2

namespace L2
open PySem PySem.Spec PyProof.Rows
noncomputable def SpD (K : PySem.W.Frag) (pre : List D → Prop) (res : List D → D) : Sp := fun vs H Q _ => ∃ G ds, Same G H ∧ Reps K G ds vs ∧ pre ds ∧ ∀ v G' H', Ext G H G' H' → Rep K G' (res ds) v → Q v H'
noncomputable def SpO (K : PySem.W.Frag) (pre : List D → Prop) (res : List D → List D) : Sp := fun vs H Q _ => ∃ G ds, Same G H ∧ Reps K G ds vs ∧ pre ds ∧ ∀ p ws G' H', Ext G H G' H' → H p = none → G' p = none → H' p = some (.lst ws) → Reps K G' (res ds) ws → Q (.ref p) H'
noncomputable def D.flat : D → Bool
  | .lst _ => false | .tup _ => false | .dct _ _ => false | .dctT _ _ => false | .ins _ _ _ => false | _ => true
section
variable {K : PySem.W.Frag} {G H₀ L : Hp} {ss : List Sl} {t : TA} {ds : List D} {pre : List D → Prop} {E : XK}
theorem ev_call {res : List D → D} (a : EvAF K G H₀ L ss t ds) (hp : pre ds) : Ev K G H₀ L ss (tCall (SpD K pre res) [] E t) (res ds) := fun F H σ Q S q =>
  a F H σ _ S fun vs F1 H1 e1 r1 => ⟨F1, ds, e1.fh, by rw [List.append_nil]; exact r1, hp, fun v G' H' e2 r => q _ _ _ (e1.trans e2) r⟩
theorem evo_call {res : List D → List D} (a : EvAF K G H₀ L ss t ds) (hp : pre ds) : EvO K G H₀ L ss (tCall (SpO K pre res) [] E t) (res ds) := fun F H σ Q S q =>
  a F H σ _ S fun vs F1 H1 e1 r1 => ⟨F1, ds, e1.fh, by rw [List.append_nil]; exact r1, hp, fun p ws G' H' e2 h1 h2 h3 r => q _ _ _ _ (e1.trans e2) (e1.hh.free h1) h2 h3 r⟩
end

section
variable (K : PySem.W.Frag) (G H₀ L : Hp)
noncomputable def Nx (P : St → Hp → Prop) (ss : List Sl) : Prop := ∀ F H σ, Sat K G H₀ L F H σ ss → P σ H
noncomputable def Go (E : Ends) (ss : List Sl) (t : TS) : Prop := ∀ F H σ, Sat K G H₀ L F H σ ss → t E σ H
noncomputable def Tg (g : TG) (d : D) (ss ss' : List Sl) : Prop := ∀ F H σ v (Q : St → Hp → Prop), Sat K G H₀ L F H σ ss → Rep K F d v → (∀ σ' , Sat K G H₀ L F H σ' ss' → Q σ' H) → g v σ H Q
noncomputable def Tgs (g : TGs) (ds : List D) (ss ss' : List Sl) : Prop := ∀ F H σ vs (Q : St → Hp → Prop), Sat K G H₀ L F H σ ss → Reps K F ds vs → (∀ σ' , Sat K G H₀ L F H σ' ss' → Q σ' H) → g vs σ H Q
noncomputable def At (I : List Sl → Prop) : St → Hp → Prop := fun σ H => ∃ ss F, Sat K G H₀ L F H σ ss ∧ I ss
end
noncomputable def RtD (K : PySem.W.Frag) (G H₀ : Hp) (rt : VK) (d : D) : Prop := ∀ v F H, Ext G H₀ F H → Rep K F d v → rt v H
noncomputable def RtO (K : PySem.W.Frag) (G H₀ : Hp) (rt : VK) (ds : List D) : Prop := ∀ p vs F H, Ext G H₀ F H → H₀ p = none → F p = none → H p = some (.lst vs) → Reps K F ds vs → rt (.ref p) H
section
variable {K : PySem.W.Frag} {G H₀ L : Hp} {ss ss' : List Sl} {E : Ends} {t u : TS} {te : TE} {d : D} {ds : List D} {P : St → Hp → Prop}
theorem go_seq (h : Go K G H₀ L { E with nx := u E } ss t) : Go K G H₀ L E ss (tSeq t u) := h
theorem go_set {i : Nat} (a : Ev K G H₀ L ss te d) (h : Nx K G H₀ L E.nx (ss.set i (.d d))) : Go K G H₀ L E ss (tAsg te (gName i)) := fun F H σ S => a F H σ _ S fun v F' H' e r => h F' H' _ ((S.ext2 e).setD r)
theorem Sat.notin {F H : Hp} {σ : St} {p : Addr} (S : Sat K G H₀ L F H σ ss) (hp : H p = none) (j : Nat) (s : Sl) (h : ss[j]? = some s) : p ∉ s.ads := fun z => (S.ok j s h).live z hp
theorem Sat.newO {F H F' H' : Hp} {σ : St} {p : Addr} {vs : List V} {i : Nat} (S : Sat K G H₀ L F H σ ss) (e : Ext F H F' H') (hp : H p = none) (fp : F' p = none) (hp' : H' p = some (.lst vs)) (r : Reps K F' ds vs) : Sat K G H₀ L F' H' (σ.set i (some (.ref p))) (ss.set i (.o p ds)) :=
  (S.ext2 e).setO ⟨S.ext.hh.free hp, fp, vs, hp', r⟩ fun j s _ h => S.notin hp j s h
theorem go_setO {i : Nat} (a : EvO K G H₀ L ss te ds) (h : ∀ p, Nx K G H₀ L E.nx (ss.set i (.o p ds))) : Go K G H₀ L E ss (tAsg te (gName i)) := fun F H σ S => a F H σ _ S fun p vs F' H' e hp fp hp' r => h p F' H' _ (S.newO e hp fp hp' r)
theorem go_asg {g : TG} (a : Ev K G H₀ L ss te d) (hg : Tg K G H₀ L g d ss ss') (h : Nx K G H₀ L E.nx ss') : Go K G H₀ L E ss (tAsg te g) := fun F H σ S => a F H σ _ S fun v F' H' e r => hg F' H' σ v _ (S.ext2 e) r fun σ' S' => h F' H' σ' S'
theorem go_if {c : TT} {b : Bool} (a : EvT K G H₀ L ss c b) (h1 : b = true → Go K G H₀ L E ss t) (h2 : b = false → Go K G H₀ L E ss u) : Go K G H₀ L E ss (tIfS c t u) := fun F H σ S => a F H σ _ S fun F' H' e => by
  cases b with
  | true => exact iteT (h1 rfl F' H' σ (S.ext2 e))
  | false => exact iteF (h2 rfl F' H' σ (S.ext2 e))
theorem go_next (h : Nx K G H₀ L E.nx ss) : Go K G H₀ L E ss tNext := h
theorem go_ret (a : Ev K G H₀ L ss te d) (h : RtD K G H₀ E.rt d) : Go K G H₀ L E ss (tRet te) := fun F H σ S => a F H σ _ S fun v F' H' e r => h v F' H' (S.ext.trans e) r
theorem go_retO (a : EvO K G H₀ L ss te ds) (h : RtO K G H₀ E.rt ds) : Go K G H₀ L E ss (tRet te) := fun F H σ S => a F H σ _ S fun p vs F' H' e hp fp hp' r => h p vs F' H' (S.ext.trans e) (S.ext.hh.free hp) fp hp' r
theorem go_retV {i : Nat} {p : Addr} (hs : ss[i]? = some (.o p ds)) (h : RtO K G H₀ E.rt ds) : Go K G H₀ L E ss (tRet (tVar i)) := fun F H σ S => by
  obtain ⟨e, h0, fp, vs, hp, r⟩ := S.getO hs
  exact ⟨.ref p, e, h p vs F H S.ext h0 fp hp r⟩
theorem nx_freeze {i : Nat} {p : Addr} (hs : ss[i]? = some (.o p ds)) (h : Nx K G H₀ L P (ss.set i (.d (.lst ds)))) : Nx K G H₀ L P ss := fun F H σ S => by
  obtain ⟨F', S'⟩ := S.freeze hs
  exact h F' H σ S'
theorem nx_go (h : Go K G H₀ L E ss t) : Nx K G H₀ L (t E) ss := h
theorem nx_at {I : List Sl → Prop} (h : I ss) : Nx K G H₀ L (At K G H₀ L I) ss := fun F H σ S => ⟨ss, F, S, h⟩
theorem go_join (I : List Sl → Prop) (h1 : ∀ N : St → Hp → Prop, (∀ ss, I ss → Nx K G H₀ L N ss) → Go K G H₀ L { E with nx := N } ss t) (h2 : ∀ ss, I ss → Go K G H₀ L E ss u) : Go K G H₀ L E ss (tSeq t u) := h1 _ h2
theorem tg_name {i : Nat} : Tg K G H₀ L (gName i) d ss (ss.set i (.d d)) := fun F H σ v Q S r q => q _ (S.setD r)
theorem tgs_nil : Tgs K G H₀ L gNil [] ss ss := fun F H σ vs Q S r q => by
  rw [Reps] at r
  exact ⟨r, q _ S⟩
theorem tgs_cons {g : TG} {gs : TGs} {ss1 ss2 : List Sl} (a : Tg K G H₀ L g d ss ss1) (b : Tgs K G H₀ L gs ds ss1 ss2) : Tgs K G H₀ L (gCons g gs) (d :: ds) ss ss2 := fun F H σ vs Q S r q => by
  rw [Reps] at r
  obtain ⟨x, xs, rfl, r1, r2⟩ := r
  exact ⟨x, xs, rfl, a F H σ x _ S r1 fun σ' S' => b F H σ' xs _ S' r2 q⟩
theorem tg_tup {g : TGs} {n : Nat} (hn : ds.length = n) (a : Tgs K G H₀ L g ds ss ss') : Tg K G H₀ L (gTup K n g) (.tup ds) ss ss' := fun F H σ v Q S r q => by
  obtain ⟨p, xs, rfl, sq, rs⟩ := r.of_tup
  exact ⟨p, xs, rfl, SqT.same S.ext.fh sq, by rw [← rs.length]; exact hn, a F H σ xs _ S rs q⟩
theorem go_append {i : Nat} {p : Addr} {t1 : TE} (hs : ss[i]? = some (.o p ds)) (a : Ev K G H₀ L ss t1 d) (hz : ds.length < sizeLine) (h : Nx K G H₀ L E.nx (ss.set i (.o p (ds ++ [d])))) :
    Go K G H₀ L E ss (tDrop (tBM K "list" rAppend (tVar i) (tCons t1 tNil))) := fun F H σ S => by
  obtain ⟨e, h0, fp, vs, hp, r⟩ := S.getO hs
  refine ⟨.ref p, e, .inl ⟨rfl, _, SqL.of hp⟩, a F H σ _ S fun v F' H' e' r' => ?_⟩
  have S' := S.ext2 e'
  obtain ⟨e2, h02, fp2, vs', hp2, r2⟩ := S'.getO hs
  exact ⟨p, vs', v, rfl, rfl, hp2, by rw [← r2.length]; exact hz, h F' _ σ (S'.write hs (r2.snoc r'))⟩
theorem Rep.itl {F H : Hp} {p : Addr} (h : Same F H) (r : Rep K F (.lst ds) (.ref p)) : ∃ vs, SqL K H p vs ∧ Reps K F ds vs := by
  obtain ⟨q, xs, e, sq, rs⟩ := r.of_lst
  cases e
  exact ⟨xs, SqL.same h sq, rs⟩
theorem go_for {tl : TE} {g : TG} {tb : TS} {α : Type} (enc : α → D) (xs : List α) (I : Nat → List Sl → Prop) (a : Ev K G H₀ L ss tl (.lst (xs.map enc))) (h0 : I 0 ss)
    (hs : ∀ L' k x ss, Same L L' → xs[k]? = some x → I k ss → ∃ ss', Tg K G H₀ L' g (enc x) ss ss' ∧ ∀ N, (∀ ss, I (k + 1) ss → Nx K G H₀ L' N ss) → Go K G H₀ L' { E with nx := N, ct := N, bk := E.nx } ss' tb)
    (hd : ∀ ss, I xs.length ss → Nx K G H₀ L E.nx ss) : Go K G H₀ L E ss (tFor (iList K tl) g tb) := fun F H σ S =>
  a F H σ _ S fun v F1 H1 e1 r1 => by
    obtain ⟨p, vs, rfl, sq, rs⟩ := r1.of_lst
    refine ⟨p, rfl, ⟨vs, SqL.same e1.fh sq⟩, ?_⟩
    refine ⟨fun i m σ' H' => m = xs.length - i ∧ i ≤ xs.length ∧ At K G H₀ F1 (I i) σ' H', ⟨_, rfl, Nat.zero_le _, ss, F1, (S.ext2 e1).raise, h0⟩, ?_⟩
    rintro i m σ' H' ⟨rfl, hi, ss1, F2, S2, h2⟩
    have rp : Rep K F2 (.lst (xs.map enc)) (.ref p) := r1.mono S2.fl
    obtain ⟨ws, sq2, rs2⟩ := rp.itl S2.ext.fh
    have hlen : ws.length = xs.length := by rw [← rs2.length, List.length_map]
    by_cases hlt : i < xs.length
    · refine .inr ⟨⟨ws, ws[i]'(by lia), sq2, List.getElem?_eq_getElem _⟩, fun σ'' H'' => At K G H₀ F1 (I (i + 1)) σ'' H'', fun σ'' H'' h => ⟨xs.length - (i + 1), by lia, rfl, hlt, h⟩, fun x H'' y => ?_⟩
      obtain ⟨rfl, y⟩ := y
      have hx := y ws sq2
      obtain ⟨dx, hdx, rx⟩ := rs2.get hx
      rw [List.getElem?_map, List.getElem?_eq_getElem hlt] at hdx
      cases hdx
      obtain ⟨ss', tg, go⟩ := hs F1 i _ ss1 (S.fl.trans e1.gf) (List.getElem?_eq_getElem hlt) h2
      exact tg F2 _ σ' x _ S2 rx fun σ3 S3 => go _ (fun ss h => nx_at h) F2 _ σ3 S3
    · have e : i = xs.length := by lia
      subst e
      exact .inl ⟨⟨ws, sq2, by lia⟩, hd ss1 h2 F2 H' σ' (S2.lower (S.fl.trans e1.gf))⟩
theorem go_range {ta : TA} {j : Nat} {tb : TS} {n : Int} (I : Nat → List Sl → Prop) (a : EvA K G H₀ L ss ta [.int n]) (hb : -(2 ^ 62) ≤ n ∧ n < 2 ^ 62) (h0 : I 0 ss)
    (hs : ∀ (k : Nat) ss, (k : Int) < n → I k ss → ∀ N, (∀ ss, I (k + 1) ss → Nx K G H₀ L N ss) → Go K G H₀ L { E with nx := N, ct := N, bk := E.nx } (ss.set j (.d (.int (k : Int)))) tb)
    (hd : ∀ ss, I n.toNat ss → Nx K G H₀ L E.nx ss) {ti : TI} (hti : ∀ σ H R, (ta σ H fun vs H1 => ∃ m : Int, vs = [.int m] ∧ -(2 ^ 62) ≤ m ∧ m < 2 ^ 62 ∧ R (Itr 0 m.toNat) H1) → ti σ H R) : Go K G H₀ L E ss (tFor ti (gName j) tb) := fun F H σ S => by
  refine hti σ H _ (a F H σ _ S fun vs F1 H1 e1 r1 => ?_)
  rw [Reps] at r1
  obtain ⟨x, r, rfl, rx, r1⟩ := r1
  rw [Reps] at r1
  subst r1
  rw [rx.of_int]
  refine ⟨n, rfl, hb.1, hb.2, fun i m σ' H' => m = n.toNat - i ∧ i ≤ n.toNat ∧ At K G H₀ L (I i) σ' H', ⟨_, rfl, Nat.zero_le _, ss, F1, S.ext2 e1, h0⟩, ?_⟩
  rintro i m σ' H' ⟨rfl, hi, ss1, F2, S2, h2⟩
  by_cases hlt : i < n.toNat
  · refine .inr ⟨hlt, fun σ'' H'' => At K G H₀ L (I (i + 1)) σ'' H'', fun σ'' H'' h => ⟨n.toNat - (i + 1), by lia, rfl, hlt, h⟩, fun x H'' y => ?_⟩
    obtain ⟨rfl, rfl⟩ := y
    refine hs i ss1 (by omega) h2 _ (fun ss h => nx_at h) F2 _ _ ?_
    have e : (0 : Int) + (i : Int) = (i : Int) := by lia
    rw [e]
    exact S2.setD Rep.int
  · have e : i = n.toNat := by lia
    subst e
    exact .inl ⟨Nat.le_refl _, hd ss1 h2 F2 H' σ' S2⟩
end
end L2

namespace L2
open PySem PySem.Spec PyProof.Rows
mutual
noncomputable def D.toP : D → PyData
  | .non => .none
  | .bl b => .bool b
  | .int i => .int i
  | .str l => .str (T l)
  | .lst a => .list (D.toPs a)
  | .tup a => .tuple (D.toPs a)
  | .dct _ _ => .none
  | .dctT _ _ => .none
  | .ins _ _ _ => .none
noncomputable def D.toPs : List D → List PyData
  | [] => []
  | a :: x => a.toP :: D.toPs x
end
mutual
theorem D.toP_depth : ∀ d : D, d.toP.depth = d.dep
  | .non => rfl
  | .bl _ => rfl
  | .int _ => rfl
  | .str _ => rfl
  | .lst a => by simp [D.toP, PyData.depth, D.dep, D.toPs_depth a]
  | .tup a => by simp [D.toP, PyData.depth, D.dep, D.toPs_depth a]
  | .dct _ _ => rfl
  | .dctT _ _ => rfl
  | .ins _ _ _ => rfl
theorem D.toPs_depth : ∀ a : List D, PyData.depthAll (D.toPs a) = D.deps a
  | [] => rfl
  | d :: a => by simp [D.toPs, PyData.depthAll, D.deps, D.toP_depth d, D.toPs_depth a]
end
mutual
theorem D.eqv : ∀ d e : D, d.nb = true → e.nb = true → PyData.eqv d.toP e.toP = decide (d = e)
  | .non, e, _, h2 => by cases e <;> simp [D.toP, PyData.eqv, D.nb] at h2 ⊢
  | .bl _, _, h1, _ => by simp [D.nb] at h1
  | .dct _ _, _, h1, _ => by simp [D.nb] at h1
  | .dctT _ _, _, h1, _ => by simp [D.nb] at h1
  | .ins _ _ _, _, h1, _ => by simp [D.nb] at h1
  | .int i, e, _, h2 => by
    cases e <;> simp [D.toP, PyData.eqv, D.nb] at h2 ⊢
    exact Bool.beq_eq_decide_eq _ _
  | .str l, e, _, h2 => by
    cases e <;> simp [D.toP, PyData.eqv, D.nb] at h2 ⊢
    rename_i m
    rw [Bool.eq_iff_iff]; simp [T_inj]
  | .lst a, e, h1, h2 => by
    cases e with
    | lst b =>
      simp only [D.nb] at h1 h2
      simp only [D.toP, PyData.eqv, D.lst.injEq]
      exact D.eqvs a b h1 h2
    | _ => simp [D.toP, PyData.eqv, D.nb] at h2 ⊢
  | .tup a, e, h1, h2 => by
    cases e with
    | tup b =>
      simp only [D.nb] at h1 h2
      simp only [D.toP, PyData.eqv, D.tup.injEq]
      exact D.eqvs a b h1 h2
    | _ => simp [D.toP, PyData.eqv, D.nb] at h2 ⊢
theorem D.eqvs : ∀ a b : List D, D.nbs a = true → D.nbs b = true → PyData.eqvAll (D.toPs a) (D.toPs b) = decide (a = b)
  | [], b, _, _ => by cases b <;> simp [D.toPs, PyData.eqvAll]
  | d :: a, b, h1, h2 => by
    cases b with
    | nil => simp [D.toPs, PyData.eqvAll]
    | cons e b =>
      simp only [D.nbs, Bool.and_eq_true] at h1 h2
      simp only [D.toPs, PyData.eqvAll, D.eqv d e h1.1 h2.1, D.eqvs a b h1.2 h2.2, List.cons.injEq]
      by_cases x : d = e <;> by_cases y : a = b <;> simp [x, y]
end
section
variable {X : Cx} {pins : List (Addr × Obj)} {σ : St} {H : Hp} {s : Shared}
theorem strOk_T {l : List Nat} (h : ∀ c ∈ l, c < 128) : PyData.strOk (T l) = true := by
  unfold PyData.strOk T
  simp
  intro c hc
  have := h c hc
  lia
mutual
theorem Inv.reads (I : Inv X pins σ H s) : ∀ {d : D} {v : V} {u : Value}, d.nb = true → Rep X.K H d v → RelV v u → (∃ as, Reads s.heap u d.toP as) ∧ d.toP.canLay0 = true
  | .non, _, _, _, r, q => by rw [r.of_non] at q; cases q; exact ⟨⟨_, Reads.none⟩, rfl⟩
  | .bl b, _, _, n, _, _ => by simp [D.nb] at n
  | .dct _ _, _, _, n, _, _ => by simp [D.nb] at n
  | .dctT _ _, _, _, n, _, _ => by simp [D.nb] at n
  | .ins _ _ _, _, _, n, _, _ => by simp [D.nb] at n
  | .int i, _, _, _, r, q => by rw [r.of_int] at q; obtain ⟨t, rfl⟩ := q; exact ⟨⟨_, Reads.int i t⟩, rfl⟩
  | .str l, _, _, _, r, q => by
    have ha := r.asc
    rw [r.of_str] at q; obtain ⟨t, rfl⟩ := q
    exact ⟨⟨_, Reads.str _ t⟩, strOk_T ha⟩
  | .lst ds, _, _, nn, r, q => by
    obtain ⟨p, xs, rfl, sq, rs⟩ := r.of_lst
    cases q
    obtain ⟨its, rv, ⟨o, n, e, c, _, hd⟩, _⟩ := I.list sq
    obtain ⟨⟨as, ra⟩, hc⟩ := I.readsAll (by simpa [D.nb] using nn) rs rv
    exact ⟨⟨_, Reads.list e c hd (by simpa using ra)⟩, by simpa [D.toP, PyData.canLay0] using hc⟩
  | .tup ds, _, _, nn, r, q => by
    obtain ⟨p, xs, rfl, sq, rs⟩ := r.of_tup
    cases q
    obtain ⟨its, rv, ⟨o, e, c, n, hd⟩, _⟩ := I.tuple sq
    obtain ⟨⟨as, ra⟩, hc⟩ := I.readsAll (by simpa [D.nb] using nn) rs rv
    exact ⟨⟨_, Reads.tuple e c hd (by simpa using ra)⟩, by simpa [D.toP, PyData.canLay0] using hc⟩
theorem Inv.readsAll (I : Inv X pins σ H s) : ∀ {ds : List D} {vs : List V} {us : List Value}, D.nbs ds = true → Reps X.K H ds vs → Vals vs us → (∃ as, ReadsAll s.heap us (D.toPs ds) as) ∧ PyData.canLayAll0 (D.toPs ds) = true
  | [], _, _, _, r, q => by
    rw [Reps] at r; subst r
    cases q
    exact ⟨⟨_, ReadsAll.nil⟩, rfl⟩
  | d :: ds, _, _, n, r, q => by
    simp only [D.nbs, Bool.and_eq_true] at n
    rw [Reps] at r
    obtain ⟨x, xs, rfl, r1, r2⟩ := r
    cases q with
    | cons q1 q2 =>
      obtain ⟨⟨as, a⟩, hc⟩ := I.reads n.1 r1 q1
      obtain ⟨⟨bs, b⟩, hc2⟩ := I.readsAll n.2 r2 q2
      exact ⟨⟨_, ReadsAll.cons a b⟩, by simp [D.toPs, PyData.canLayAll0, hc, hc2]⟩
end
end
noncomputable def rEqD (K : PySem.W.Frag) : R2 := fun x y H Q => ∃ d e, Rep K H d x ∧ Rep K H e y ∧ d.nb = true ∧ e.nb = true ∧ d.dep ≤ 60 ∧ Q (.bl (decide (d = e))) H
noncomputable def rNeD (K : PySem.W.Frag) : R2 := fun x y H Q => ∃ d e, Rep K H d x ∧ Rep K H e y ∧ d.nb = true ∧ e.nb = true ∧ d.dep ≤ 60 ∧ Q (.bl (!decide (d = e))) H
section
variable {X : Cx}
theorem op_eqD (hu : X.A.units + 64 < cLine) : OpR X (compareOp .Eq) (rEqD X.K) := by
  intro pins s σ H x y v u Q I rx ry h
  obtain ⟨d, e, r1, r2, n1, n2, hd, q⟩ := h
  obtain ⟨⟨as, a⟩, c1⟩ := I.reads n1 r1 rx
  obtain ⟨⟨bs, b⟩, c2⟩ := I.reads n2 r2 ry
  have h1 := D.toP_depth d
  refine SeqAt.compareEq_reads a b c1 c2 (by lia) ?_
  rw [D.eqv d e n1 n2]
  exact ⟨.bl _, H, I, rfl, q⟩
theorem op_neD (hu : X.A.units + 64 < cLine) : OpR X (compareOp .NotEq) (rNeD X.K) := by
  intro pins s σ H x y v u Q I rx ry h
  obtain ⟨d, e, r1, r2, n1, n2, hd, q⟩ := h
  obtain ⟨⟨as, a⟩, c1⟩ := I.reads n1 r1 rx
  obtain ⟨⟨bs, b⟩, c2⟩ := I.reads n2 r2 ry
  have h1 := D.toP_depth d
  refine SeqAt.compareNe_reads a b c1 c2 (by lia) ?_
  rw [D.eqv d e n1 n2]
  exact ⟨.bl _, H, I, rfl, q⟩
theorem any_toPs (d : D) (hd : d.nb = true) : ∀ ds : List D, D.nbs ds = true → ((D.toPs ds).any fun y => PyData.eqv y d.toP) = decide (d ∈ ds)
  | [], _ => by simp [D.toPs]
  | e :: ds, h => by
    simp only [D.nbs, Bool.and_eq_true] at h
    rw [D.toPs, List.any_cons, any_toPs d hd ds h.2, D.eqv e d h.1 hd]
    by_cases x : e = d
    · subst x; simp
    · have : ¬ d = e := fun z => x z.symm
      simp [x, this]
noncomputable def rInD (K : PySem.W.Frag) (neg : Bool) : R2 := fun x y H Q => ∃ d ds, Rep K H d x ∧ (Rep K H (.lst ds) y ∨ Rep K H (.tup ds) y) ∧ d.nb = true ∧ D.nbs ds = true ∧ d.dep ≤ 60 ∧ Q (.bl (if neg then !decide (d ∈ ds) else decide (d ∈ ds))) H
theorem op_inD (hu : X.A.units + 64 < cLine) : OpR X (compareOp .In) (rInD X.K false) := by
  intro pins s σ H x y v u Q I rx ry h
  obtain ⟨d, ds, r1, r2, n1, n2, hd, q⟩ := h
  obtain ⟨⟨as, a⟩, c1⟩ := I.reads n1 r1 rx
  have h1 := D.toP_depth d
  have fin : EP X pins σ Q (.bool ((D.toPs ds).any fun y => PyData.eqv y d.toP)) s := by rw [any_toPs d n1 ds n2]; exact ⟨.bl _, H, I, rfl, q⟩
  rcases r2 with r2 | r2
  · obtain ⟨⟨bs, b⟩, c2⟩ := I.reads (by simpa [D.nb] using n2) r2 ry
    rw [D.toP] at b c2
    exact SeqAt.in_list_reads b a (by simpa [PyData.canLay0] using c2) c1 (by lia) fin
  · obtain ⟨⟨bs, b⟩, c2⟩ := I.reads (by simpa [D.nb] using n2) r2 ry
    rw [D.toP] at b c2
    exact SeqAt.in_tuple_reads b a (by simpa [PyData.canLay0] using c2) c1 (by lia) fin
theorem op_notInD (hu : X.A.units + 64 < cLine) : OpR X (compareOp .NotIn) (rInD X.K true) := by
  intro pins s σ H x y v u Q I rx ry h
  obtain ⟨d, ds, r1, r2, n1, n2, hd, q⟩ := h
  obtain ⟨⟨as, a⟩, c1⟩ := I.reads n1 r1 rx
  have h1 := D.toP_depth d
  have fin : EP X pins σ Q (.bool (!(D.toPs ds).any fun y => PyData.eqv y d.toP)) s := by rw [any_toPs d n1 ds n2]; exact ⟨.bl _, H, I, rfl, q⟩
  rcases r2 with r2 | r2
  · obtain ⟨⟨bs, b⟩, c2⟩ := I.reads (by simpa [D.nb] using n2) r2 ry
    rw [D.toP] at b c2
    exact SeqAt.notIn_list_reads b a (by simpa [PyData.canLay0] using c2) c1 (by lia) fin
  · obtain ⟨⟨bs, b⟩, c2⟩ := I.reads (by simpa [D.nb] using n2) r2 ry
    rw [D.toP] at b c2
    exact SeqAt.notIn_tuple_reads b a (by simpa [PyData.canLay0] using c2) c1 (by lia) fin
end
section
variable {K : PySem.W.Frag} {G H₀ L : Hp} {ss : List Sl} {t ta tb : TE} {d d1 d2 : D} {ds es : List D}
theorem ev_eqD (a : EvB K G H₀ L ss ta d1) (b : EvB K G H₀ L ss tb d2) (n1 : d1.nb = true) (n2 : d2.nb = true) (hd : d1.dep ≤ 60) : Ev K G H₀ L ss (tOp (rEqD K) ta tb) (.bl (decide (d1 = d2))) :=
  ev_op2 (w := .bl (decide (d1 = d2))) a b (fun H x y Q r1 r2 q => ⟨d1, d2, r1, r2, n1, n2, hd, q⟩) fun _ _ _ _ _ _ => Rep.bl
theorem ev_neD (a : EvB K G H₀ L ss ta d1) (b : EvB K G H₀ L ss tb d2) (n1 : d1.nb = true) (n2 : d2.nb = true) (hd : d1.dep ≤ 60) : Ev K G H₀ L ss (tOp (rNeD K) ta tb) (.bl (!decide (d1 = d2))) :=
  ev_op2 (w := .bl (!decide (d1 = d2))) a b (fun H x y Q r1 r2 q => ⟨d1, d2, r1, r2, n1, n2, hd, q⟩) fun _ _ _ _ _ _ => Rep.bl
theorem ev_inD (a : EvB K G H₀ L ss ta d) (b : EvB K G H₀ L ss tb (.lst ds)) (n1 : d.nb = true) (n2 : D.nbs ds = true) (hd : d.dep ≤ 60) : Ev K G H₀ L ss (tOp (rInD K false) ta tb) (.bl (decide (d ∈ ds))) :=
  ev_op2 (w := .bl (decide (d ∈ ds))) a b (fun H x y Q r1 r2 q => ⟨d, ds, r1, .inl r2, n1, n2, hd, q⟩) fun _ _ _ _ _ _ => Rep.bl
theorem ev_notInD (a : EvB K G H₀ L ss ta d) (b : EvB K G H₀ L ss tb (.lst ds)) (n1 : d.nb = true) (n2 : D.nbs ds = true) (hd : d.dep ≤ 60) : Ev K G H₀ L ss (tOp (rInD K true) ta tb) (.bl (!decide (d ∈ ds))) :=
  ev_op2 (w := .bl (!decide (d ∈ ds))) a b (fun H x y Q r1 r2 q => ⟨d, ds, r1, .inl r2, n1, n2, hd, q⟩) fun _ _ _ _ _ _ => Rep.bl
end
theorem D.nbs_map {α : Type} {enc : α → D} (h : ∀ x, (enc x).nb = true) : ∀ xs : List α, D.nbs (xs.map enc) = true
  | [] => rfl
  | x :: xs => by simp [D.nbs, h x, D.nbs_map h xs]
theorem D.deps_map {α : Type} {enc : α → D} {n : Nat} (h : ∀ x, (enc x).dep ≤ n) : ∀ xs : List α, D.deps (xs.map enc) ≤ n
  | [] => Nat.zero_le _
  | x :: xs => by
    have h1 := h x
    have h2 := D.deps_map h xs
    simp only [List.map_cons, D.deps]; lia
theorem D.nb_lst {ds : List D} : (D.lst ds).nb = D.nbs ds := by rw [D.nb]
theorem D.dep_lst {ds : List D} : (D.lst ds).dep = D.deps ds + 1 := by rw [D.dep]
end L2

namespace L2
open PySem PySem.Spec PyProof.Rows
noncomputable def ItOk (K : PySem.W.Frag) (J : It) (F' H' : Hp) (n : Nat) (y : Nat → D) : Prop := ∀ F2 H2, Same F' F2 → Same H' H2 → Same F2 H2 →
  (∀ i, i < n → J.go i H2 ∧ ∀ x H3, J.yld i H2 x H3 → ∃ F3, Ext F2 H2 F3 H3 ∧ Rep K F3 (y i) x) ∧ J.stop n H2
noncomputable def EvI (K : PySem.W.Frag) (G H₀ L : Hp) (ss : List Sl) (wi : TI) (n : Nat) (y : Nat → D) : Prop := ∀ F H σ R, Sat K G H₀ L F H σ ss → (∀ F' H' J, Ext F H F' H' → ItOk K J F' H' n y → R J H') → wi σ H R
section
variable {K : PySem.W.Frag} {G H₀ L : Hp} {ss : List Sl}
theorem evi_list {tl : TE} {ds : List D} (a : EvL K G H₀ L ss tl ds) : EvI K G H₀ L ss (iList K tl) ds.length fun i => ds.getD i .non := fun F H σ R S q =>
  a F H σ _ S fun p vs F' H' e sq r => ⟨p, rfl, ⟨vs, sq⟩, q F' H' _ e fun F2 H2 f1 h1 fh => by
    have sq2 := SqL.same h1 sq
    have hl := r.length
    refine ⟨fun i hi => ⟨⟨vs, vs[i]'(by lia), sq2, List.getElem?_eq_getElem _⟩, fun x H3 y => ?_⟩, ⟨vs, sq2, by lia⟩⟩
    obtain ⟨rfl, y⟩ := y
    obtain ⟨d, hd, rd⟩ := r.get (y vs sq2)
    refine ⟨F2, Ext.refl fh, ?_⟩
    show Rep K F2 (ds.getD i D.non) x
    rw [List.getD_eq_getElem?_getD, hd]
    exact rd.mono f1⟩
noncomputable def lcSl (nt : Nat) (cs : List Nat) (ss : List Sl) : List Sl := List.replicate nt .un ++ cs.map fun i => ss.getD i .un
theorem Sat.lc {F H : Hp} {σ : St} {nt : Nat} {cs : List Nat} (S : Sat K G H₀ L F H σ ss) (hc : cs.Nodup) : Sat K G H₀ L F H (lcS nt cs σ) (lcSl nt cs ss) := by
  have cut : ∀ (i : Nat) s, (lcSl nt cs ss)[i]? = some s → s = .un ∨ ∃ j, nt ≤ i ∧ cs[i - nt]? = some j ∧ ss[j]? = some s := by
    intro i s h
    unfold lcSl at h
    by_cases hi : i < nt
    · rw [List.getElem?_append_left (by simpa using hi), List.getElem?_replicate, if_pos hi] at h
      exact .inl (Option.some.inj h).symm
    · rw [List.getElem?_append_right (by simpa using hi), List.length_replicate, List.getElem?_map] at h
      cases hj : cs[i - nt]? with
      | none => rw [hj] at h; cases h
      | some j =>
        rw [hj] at h
        have h : ss.getD j .un = s := Option.some.inj h
        rw [List.getD_eq_getElem?_getD] at h
        cases hs : ss[j]? with
        | none => rw [hs] at h; exact .inl h.symm
        | some s' => rw [hs] at h; exact .inr ⟨j, by lia, rfl, by rw [hs]; exact congrArg some h⟩
  have val : ∀ (i j : Nat), nt ≤ i → cs[i - nt]? = some j → (lcS nt cs σ).getD i none = σ.getD j none := by
    intro i j hi hj
    unfold lcS
    rw [List.getD_eq_getElem?_getD, List.getElem?_append_right (by simpa using hi), List.length_replicate, List.getElem?_map, hj]
    simp [List.getD_eq_getElem?_getD]
  refine ⟨S.ext, S.fl, by unfold lcS lcSl; simp, fun i s h => ?_, fun i s h => ?_, fun i j s s' hij h h' p hp => ?_⟩
  · rcases cut i s h with rfl | ⟨j, hi, hj, hs⟩
    · trivial
    · rw [val i j hi hj]; exact S.ok j s hs
  · rcases cut i s h with rfl | ⟨j, hi, hj, hs⟩
    · simp [Sl.ads]
    · exact S.nd j s hs
  · rcases cut i s h with rfl | ⟨k, hi, hk, hs⟩
    · simp [Sl.ads] at hp
    · rcases cut j s' h' with rfl | ⟨m, hj, hm, hs'⟩
      · simp [Sl.ads]
      · have : k ≠ m := fun z => by
          subst z
          obtain ⟨l1, e1⟩ := List.getElem?_eq_some_iff.mp hk
          obtain ⟨l2, e2⟩ := List.getElem?_eq_some_iff.mp hm
          have := (List.getElem_inj hc).mp (e1.trans e2.symm)
          lia
        exact S.ne k m s s' this hs hs' p hp
noncomputable def GK (nt : Nat) (g : TG) : Prop := ∀ v σ H (Q Q' : St → Hp → Prop), (∀ σ' H', Q σ' H' → σ'.length = σ.length → σ'.drop nt = σ.drop nt → Q' σ' H') → g v σ H Q → g v σ H Q'
theorem gk_name {nt i : Nat} (h : i < nt) : GK nt (gName i) := fun v σ H Q Q' f q => f _ _ q (by simp) (by rw [List.drop_set_of_lt h])
theorem evo_lcI {wi : TI} {g : TG} {tt : TT} {te : TE} {nt : Nat} {cs : List Nat} {n : Nat} {y : Nat → D} (p : Nat → Bool) (f : Nat → D) (a : EvI K G H₀ L ss wi n y) (hk : GK nt g) (hc : cs.Nodup) (hz : n < sizeLine)
    (hs : ∀ i, i < n → ∃ ss', Tg K G H₀ L g (y i) (lcSl nt cs ss) ss' ∧ EvT K G H₀ L ss' tt (p i) ∧ (p i = true → Ev K G H₀ L ss' te (f i))) :
    EvO K G H₀ L ss (tLC nt cs wi g tt te) (((List.range n).filter p).map f) := fun F H σ Q S q =>
  a F H σ _ S fun F1 H1 J e1 it => by
    intro l hl
    have S1 := S.ext2 e1
    refine ⟨fun i m H2 => m = n - i ∧ i ≤ n ∧ ∃ F2 vs, Ext F1 H1 F2 H2 ∧ F2 l = none ∧ H2 l = some (.lst vs) ∧ Reps K F2 (((List.range i).filter p).map f) vs ∧ vs.length ≤ i,
      ⟨n, by lia, Nat.zero_le _, F1, [], (Ext.refl e1.fh).newO hl, e1.fh.free hl, upd_same, Reps.nil, Nat.le_refl _⟩, ?_⟩
    rintro i m H2 ⟨rfl, hi, F2, vs, e2, fl, hl2, rs, hvs⟩
    obtain ⟨it1, it2⟩ := it F2 H2 e2.gf e2.hh e2.fh
    by_cases hlt : i < n
    · obtain ⟨go, yl⟩ := it1 i hlt
      refine .inr ⟨go, fun H' => ∃ F2 vs, Ext F1 H1 F2 H' ∧ F2 l = none ∧ H' l = some (.lst vs) ∧ Reps K F2 (((List.range (i + 1)).filter p).map f) vs ∧ vs.length ≤ i + 1, fun H' h => ⟨n - (i + 1), by omega, rfl, hlt, h⟩, fun x H3 yx => ?_⟩
      obtain ⟨F3, e3, rx⟩ := yl x H3 yx
      obtain ⟨ss', tg, evt, ev⟩ := hs i hlt
      have S3 := ((S1.ext2 e2).ext2 e3).lc (nt := nt) hc
      have hl3 : H3 l = some (.lst vs) := e3.hh l _ hl2
      have fl3 : F3 l = none := (e3.no l _ hl2).trans fl
      have base := tg F3 H3 (lcS nt cs σ) x (fun σ2 H4 => H4 = H3 ∧ Sat K G H₀ L F3 H3 σ2 ss') S3 rx fun σ' S' => ⟨rfl, S'⟩
      have fin : ∀ σ2, Sat K G H₀ L F3 H3 σ2 ss' → tt σ2 H3 fun b H5 => if b = true then te σ2 H5 fun y H6 => ∃ xs, H6 l = some (.lst xs) ∧ xs.length < sizeLine ∧ (∃ F2 vs, Ext F1 H1 F2 (upd H6 l (.lst (xs ++ [y]))) ∧ F2 l = none ∧ (upd H6 l (.lst (xs ++ [y]))) l = some (.lst vs) ∧ Reps K F2 (((List.range (i + 1)).filter p).map f) vs ∧ vs.length ≤ i + 1) else ∃ F2 vs, Ext F1 H1 F2 H5 ∧ F2 l = none ∧ H5 l = some (.lst vs) ∧ Reps K F2 (((List.range (i + 1)).filter p).map f) vs ∧ vs.length ≤ i + 1 := fun σ2 S2 => by
        refine evt F3 H3 σ2 _ S2 fun F5 H5 e5 => ?_
        have S5 := S2.ext2 e5
        have hl5 : H5 l = some (.lst vs) := e5.hh l _ hl3
        have fl5 : F5 l = none := (e5.no l _ hl3).trans fl3
        have gf : Same F2 F5 := e3.gf.trans e5.gf
        cases hp : p i with
        | false =>
          refine iteF ⟨F5, vs, (e2.trans e3).trans e5, fl5, hl5, ?_, by lia⟩
          rw [List.range_succ, List.filter_append, List.filter_cons, hp]
          simpa using rs.mono gf
        | true =>
          refine iteT (ev hp F5 H5 σ2 _ S5 fun v F6 H6 e6 rv => ?_)
          have hl6 : H6 l = some (.lst vs) := e6.hh l _ hl5
          have fl6 : F6 l = none := (e6.no l _ hl5).trans fl5
          refine ⟨vs, hl6, by lia, F6, vs ++ [v], (((e2.trans e3).trans e5).trans e6).write fl6 hl, fl6, upd_same, ?_, by simp; omega⟩
          rw [List.range_succ, List.filter_append, List.filter_cons, hp, if_pos rfl, List.map_append]
          exact (rs.mono (gf.trans e6.gf)).snoc rv
      refine hk x (lcS nt cs σ) H3 _ _ (fun σ2 H4 h l1 d1 => ?_) base
      obtain ⟨rfl, S2⟩ := h
      exact ⟨⟨by rw [l1]; unfold lcS; simp, d1⟩, fin σ2 S2⟩
    · have e : i = n := by lia
      subst e
      exact .inl ⟨it2, q l vs F2 H2 (e1.trans e2) (e1.hh.free hl) fl hl2 rs⟩
end
end L2

namespace L2
open PySem PySem.W PyProof.Rows
noncomputable def runT {α : Type} (lt : Nat → Nat → Bool) : KasT α → α
  | .ret a => a
  | .ask i j k => runT lt (k (lt i j))
section
variable (key : Nat → Int)
noncomputable def ltK (i j : Nat) : Bool := decide (key i < key j)
noncomputable def kk (p : Array Nat) (i : Nat) : Int := key (p.getD i 0)
variable {key}
theorem rev_perm (p : Array Nat) (i j : Nat) : (kas_rev p i j).Perm p := mirror_perm _ _ _ _
end
end L2

namespace L2
open PySem PySem.W PyProof.Rows
section
variable {prog : Program} {w : World} {A : Around} {E : Value → Shared → Prop} {s : Shared}
noncomputable def Keeps (h h' : Heap) : Prop := ∀ b o, h.get? b = some o → h'.get? b = some o
noncomputable def Sorts (prog : Program) (w : World) (A : Around) (s : Shared) (vs : List Value) (Out : Array Value → Prop) : Prop :=
  ∃ κ, (∀ (Q : SortKind → Shared → Prop) (E : Value → Shared → Prop), Q κ s → wpAny (model prog w) A (keyKind' vs.toArray) Q E s) ∧
    ∀ (Q : SortSt → Shared → Prop) (E : Value → Shared → Prop), (∀ st', failedOf st' = none → (arrOf st').size = vs.length → Out ((arrOf st').map (·.2)) → Q st' s) → wpAny (model prog w) A (sortRuns'.run (SortSt.mk' κ (vs.toArray.zip vs.toArray) #[] 7 none)) (fun r s' => Q r.2 s') E s
theorem sort_shell {a : Addr} {vs : List Value} {n0 : Nat} {P : PySem.Fin → Shared → Prop} (Out : Array Value → Prop) (ho : s.heap.get? a = some (seqObj "list" vs.toArray n0)) (hz : vs.length ≤ sizeLine)
    (hs : 2 ≤ vs.length → ∀ h', (∀ b o, b ≠ a → s.heap.get? b = some o → h'.get? b = some o) → Sorts prog w A { s with heap := h' } vs Out) (h1 : vs.length < 2 → Out vs.toArray)
    (h : ∀ out c h', (∀ b o, b ≠ a → s.heap.get? b = some o → h'.get? b = some o) → h'.get? a = some (seqObj "list" out c) → out.size = vs.length → Out out → P (.done (.ret .none)) { s with heap := h' }) :
    wpAny (model prog w) A (Builtin.«list.sort» ⟨[.ref a], []⟩) P E s := by
  have alt : a < s.heap.objs.size := Heap.lt_size ho
  rw [list_sort_plain]
  refine wpAny_bind (listItems_at ho rfl ?_)
  refine wpAny_bind (listUpdate_at ho rfl ?_ (by simpa using hz) (Nat.zero_le _))
  generalize hg1 : s.heap.update a (Obj.mapSeq fun _ => (#[] : Array Value)) = g1
  have k1 : ∀ b o, b ≠ a → s.heap.get? b = some o → g1.get? b = some o := fun b o hb e => by rw [← hg1]; exact (Heap.get?_update_other _ _ (Ne.symm hb)).trans e
  obtain ⟨e1, ho1⟩ : ∃ e1, g1.get? a = some (seqObj "list" #[] e1) := by rw [← hg1]; exact ⟨_, get?_update_seq ho fun _ => #[]⟩
  have sz1 : g1.objs.size = s.heap.objs.size := by rw [← hg1, Heap.size_update]
  refine wpAny_bind (seqEpoch_at ho1 rfl ?_)
  refine wpAny_bind (wpAny_newTuple ?_ (by show vs.length ≤ _; exact hz))
  refine wpAny_bind (wpAny_newList ?_ (Nat.zero_le _))
  refine wpAny_holding ?_
  dsimp only
  generalize hg3 : (g1.push { cls := .type "tuple", data := .seq vs.toArray }).push { cls := .type "list", data := .seq #[] } = g3
  have k3 : ∀ b o, g1.get? b = some o → g3.get? b = some o := fun b o e => by rw [← hg3]; exact Heap.get?_push_of_some _ (Heap.get?_push_of_some _ e)
  have ho3 := k3 a _ ho1
  have keep : ∀ b o, b ≠ a → s.heap.get? b = some o → g3.get? b = some o := fun b o hb e => k3 b o (k1 b o hb e)
  have fin : ∀ (st' : SortSt), failedOf st' = none → (arrOf st').size = vs.length → Out ((arrOf st').map (·.2)) → P (.done (.ret .none)) { s with heap := g3.update a (Obj.mapSeq fun _ => (arrOf st').map (·.2)) } := fun st' hf hsz hO => by
    obtain ⟨c2, hc2⟩ : ∃ c2, (g3.update a (Obj.mapSeq fun _ => (arrOf st').map (·.2))).get? a = some (seqObj "list" ((arrOf st').map (·.2)) c2) := ⟨_, get?_update_seq ho3 fun _ => (arrOf st').map (·.2)⟩
    exact h _ c2 _ (fun b o hb e => (Heap.get?_update_other _ _ (Ne.symm hb)).trans (keep b o hb e)) hc2 (by simpa using hsz) hO
  have hsz : vs.toArray.size = vs.length := by simp
  by_cases h2 : vs.length < 2
  · rw [if_pos (by omega), if_pos (by omega)]
    refine wpAny_bind (wpAny_pure ?_)
    rw [StateT.run_pure]
    refine wpAny_bind (wpAny_pure ?_)
    have eo : (arrOf (SortSt.mk' general' (vs.toArray.zip vs.toArray) #[] 7 none)).map (·.2) = vs.toArray := by
      show (vs.toArray.zip vs.toArray).map (·.2) = vs.toArray
      apply Array.toList_inj.mp
      rw [Array.toList_map]
      have : (vs.toArray.zip vs.toArray).toList = vs.zip vs := by simp
      rw [this]
      simp [List.map_snd_zip]
    dsimp only
    refine wpAny_bind (seqEpoch_at ho3 rfl ?_)
    refine wpAny_bind (listUpdate_at ho3 rfl ?_ (Nat.zero_le _) (by rw [eo]; simp only [List.size_toArray]; lia))
    simp only [bne_self_eq_false, Bool.false_eq_true, if_false]
    exact wpAny_pure (fin (SortSt.mk' general' (vs.toArray.zip vs.toArray) #[] 7 none) rfl (by show (vs.toArray.zip vs.toArray).size = _; simp) (by rw [eo]; exact h1 h2))
  · rw [if_neg (by omega), if_neg (by omega)]
    obtain ⟨κ, hk, hr⟩ := hs (by lia) g3 keep
    refine wpAny_bind (hk _ _ ?_)
    refine wpAny_bind (wpAny_mono (hr (fun st' s' => s' = { s with heap := g3 } ∧ failedOf st' = none ∧ (arrOf st').size = vs.length ∧ Out ((arrOf st').map (·.2))) (fun _ _ => False) fun st' hf hsz hO => ⟨rfl, hf, hsz, hO⟩) ?_ fun _ _ x => x.elim)
    rintro ⟨⟨⟩, st'⟩ s' ⟨rfl, hf, hsz, hO⟩
    dsimp only at hf hsz hO ⊢
    refine wpAny_bind (seqEpoch_at ho3 rfl ?_)
    refine wpAny_bind (listUpdate_at ho3 rfl ?_ (Nat.zero_le _) (by simp only [Array.size_map]; lia))
    rw [hf]
    simp only [bne_self_eq_false, Bool.false_eq_true, if_false]
    exact wpAny_pure (fin st' hf hsz hO)
theorem sorted_call {l : Addr} {vs : List Value} {Q : Value → Shared → Prop} (Out : Array Value → Prop) (hl : s.heap.IsList l vs.toArray) (hz : vs.length ≤ sizeLine)
    (hs : 2 ≤ vs.length → ∀ h', Keeps s.heap h' → Sorts prog w A.in1.in1 { s with heap := h' } vs Out) (h1 : vs.length < 2 → Out vs.toArray)
    (h : ∀ out c h', Keeps s.heap h' → h'.get? (s.heap.objs.size + 1) = some (seqObj "list" out c) → out.size = vs.length → Out out → Q (.ref (s.heap.objs.size + 1)) { s with heap := h' }) :
    wpAny (model prog w) A (call (.builtin "sorted") [.ref l]) Q E s := by
  refine Calls.call_function_entry kind_sorted plain_sorted entry_sorted (args_sorted1 _) ?_
  unfold Builtin.«sorted»
  refine wpAny_bind (m := checkCount "sorted" 1 1 _) (wpAny_pure ?_)
  refine wpAny_bind (collect_list hl ?_ hz)
  refine wpAny_bind (wpAny_newList ?_ hz)
  generalize hg1 : (s.heap.push (seqObj "list" #[] 0)).update s.heap.objs.size (Obj.mapSeq (· ++ vs.toArray)) = g1
  have sz1 : g1.objs.size = s.heap.objs.size + 1 := by rw [← hg1, Heap.size_update, size_push']
  have k1 : Keeps s.heap g1 := fun b o e => by
    have hlt := Heap.lt_size e
    rw [← hg1]
    exact (Heap.get?_update_other _ _ (Nat.ne_of_gt hlt)).trans (Heap.get?_push_of_some _ e)
  dsimp only
  have ho : (g1.push { cls := .type "list", data := .seq vs.toArray }).get? (s.heap.objs.size + 1) = some (seqObj "list" vs.toArray 0) := by rw [← sz1]; exact Heap.get?_push_size _ rfl
  have k2 : Keeps s.heap (g1.push { cls := .type "list", data := .seq vs.toArray }) := fun b o e => Heap.get?_push_of_some _ (k1 b o e)
  rw [sz1]
  have ne : ∀ b o, s.heap.get? b = some o → b ≠ s.heap.objs.size + 1 := fun b o e => Nat.ne_of_lt (Nat.lt_succ_of_lt (Heap.lt_size e))
  refine wpAny_bind (wpAny_holding (wpAny_call_entry slot_list_sort ⟨_, ho, rfl⟩ entry_list_sort (sort_shell (s := { s with heap := g1.push { cls := .type "list", data := .seq vs.toArray } }) Out ho hz
    (fun h2 h' k => hs h2 h' fun b o e => k b o (ne b o e) (k2 b o e)) h1 fun out c h' k hc hsz hO => ⟨_, rfl, ?_⟩) (args_list_sort _)))
  exact wpAny_pure ⟨_, rfl, h out c h' (fun b o e => k b o (ne b o e) (k2 b o e)) hc hsz hO⟩
end
end L2

namespace L2
open PySem PySem.W PyProof.Rows
noncomputable def InR {α : Type} (n : Nat) (P : α → Prop) : KasT α → Prop
  | .ret a => P a
  | .ask i j k => i < n ∧ j < n ∧ ∀ b, InR n P (k b)
theorem InR.bind {α β : Type} {n : Nat} {f : α → KasT β} {P : α → Prop} {Q : β → Prop} (hf : ∀ a, P a → InR n Q (f a)) : ∀ {t : KasT α}, InR n P t → InR n Q (t.bind f)
  | .ret a, h => hf a h
  | .ask i j k, h => ⟨h.1, h.2.1, fun b => InR.bind hf (h.2.2 b)⟩
theorem wp_runIn {α : Type} {cmp : Nat → Nat → (Bool → Shared → Prop) → Shared → Prop} {lt : Nat → Nat → Bool} {Q : α → Shared → Prop} {s : Shared} {n : Nat} {P : α → Prop} (h : ∀ i j C, i < n → j < n → C (lt i j) s → cmp i j C s) : ∀ {t : KasT α}, InR n P t → Q (runT lt t) s → t.kasWp cmp Q s
  | .ret _, _, q => q
  | .ask i j k, r, q => h i j _ r.1 r.2.1 (wp_runIn h (r.2.2 _) q)
noncomputable def Ent (n : Nat) (p : Array Nat) : Prop := ∀ i, p.getD i 0 < n
theorem Ent.perm {n : Nat} {p q : Array Nat} (h : Ent n p) (hp : q.Perm p) (hn : 0 < n) : Ent n q := fun i => by
  have e : ∀ (q : Array Nat) (m : Nat), q.getD m 0 = (q[m]?).getD 0 := fun q m => by simp [Array.getD_eq_getD_getElem?]
  rw [e]
  cases hq : q[i]? with
  | none => exact hn
  | some x =>
    have hx : x ∈ q := Array.mem_of_getElem? hq
    have hx2 : x ∈ p := hp.mem_iff.mp hx
    obtain ⟨j, hj, ej⟩ := Array.mem_iff_getElem.mp hx2
    have := h j
    rw [e, Array.getElem?_eq_getElem hj, ej] at this
    exact this
section
variable {n : Nat} (hn : 0 < n)
theorem asc_in {p : Array Nat} (h : Ent n p) : ∀ f m, InR n (fun _ : Nat => True) (kas_asc p f m)
  | 0, _ => trivial
  | f + 1, m => ⟨h _, h _, fun b => by cases b <;> simp only [if_true, Bool.false_eq_true, if_false]; exact asc_in h f (m + 1); trivial⟩
theorem place_in {p : Array Nat} (h : Ent n p) (k : Nat) : ∀ f l r, InR n (fun _ : Nat => True) (kas_place p k f l r)
  | 0, _, _ => trivial
  | f + 1, l, r => by
    unfold kas_place
    split
    · trivial
    · exact ⟨h _, h _, fun b => by cases b <;> simp only [if_true, Bool.false_eq_true, if_false] <;> exact place_in h k f _ _⟩
end
end L2

namespace L2
open PySem PySem.W PyProof.Rows
noncomputable def D.fo : D → List Int
  | .str l => l.map Int.ofNat
  | .int i => [i]
  | _ => []
noncomputable def D.ord : D → List (List Int)
  | .tup ds => ds.map D.fo
  | .lst ds => ds.map D.fo
  | d => [d.fo]
noncomputable def D.leB (a b : D) : Bool := decide (a.ord ≤ b.ord)
noncomputable def sortD (ds : List D) : List D := ds.mergeSort D.leB
inductive Ty where | s | i
noncomputable def Ty.ok : Ty → D → Bool
  | .s, .str _ => true
  | .i, .int _ => true
  | _, _ => false
noncomputable def shOk : List Ty → List D → Bool
  | [], [] => true
  | t :: ts, d :: ds => t.ok d && shOk ts ds
  | _, _ => false
noncomputable def Alike (ds : List D) : Prop := (∀ d ∈ ds, Ty.ok .s d = true) ∨ (∀ d ∈ ds, Ty.ok .i d = true) ∨ ∃ t ts, ∀ d ∈ ds, ∃ es, d = .tup es ∧ shOk (t :: ts) es = true
theorem ofNat_inj {l m : List Nat} (h : l.map Int.ofNat = m.map Int.ofNat) : l = m := by
  induction l generalizing m with
  | nil => cases m with
    | nil => rfl
    | cons _ _ => simp at h
  | cons a l ih => cases m with
    | nil => simp at h
    | cons b m =>
      simp only [List.map_cons, List.cons.injEq, Int.ofNat_eq_natCast] at h
      rw [show a = b by lia, ih h.2]
theorem ofNat_lt (l m : List Nat) : l < m ↔ l.map Int.ofNat < m.map Int.ofNat := by
  induction l generalizing m with
  | nil => cases m <;> simp
  | cons a l ih => cases m with
    | nil => simp
    | cons b m =>
      simp only [List.map_cons, List.cons_lt_cons_iff, ih m, Int.ofNat_eq_natCast]
      constructor
      · rintro (h | ⟨h, x⟩)
        · exact .inl (by lia)
        · exact .inr ⟨by lia, x⟩
      · rintro (h | ⟨h, x⟩)
        · exact .inl (by lia)
        · exact .inr ⟨by lia, x⟩
theorem fo_inj {t : Ty} {d e : D} (h1 : t.ok d = true) (h2 : t.ok e = true) (h : d.fo = e.fo) : d = e := by
  cases t <;> cases d <;> simp [Ty.ok] at h1 <;> cases e <;> simp [Ty.ok] at h2
  · rw [ofNat_inj h]
  · simp [D.fo] at h; rw [h]
theorem one_lt (x y : List Int) : [x] < [y] ↔ x < y := by simp [List.cons_lt_cons_iff]
noncomputable def rk (ds : List D) (i : Nat) : Int := ((ds.filter fun d => decide (d.ord < (ds.getD i .non).ord)).length : Nat)
theorem filter_len_le {α : Type} {p q : α → Bool} (h : ∀ x, p x = true → q x = true) : ∀ l : List α, (l.filter p).length ≤ (l.filter q).length
  | [] => Nat.le_refl _
  | x :: l => by
    have ih := filter_len_le h l
    simp only [List.filter_cons]
    cases hp : p x with
    | false =>
      cases hq : q x with
      | false => simpa using ih
      | true => simp; lia
    | true => rw [h x hp]; simp; omega
theorem filter_len_lt {α : Type} {p q : α → Bool} (h : ∀ x, p x = true → q x = true) {y : α} (hy : q y = true) (hn : p y = false) : ∀ l : List α, y ∈ l → (l.filter p).length < (l.filter q).length
  | [], hm => by simp at hm
  | x :: l, hm => by
    have le := filter_len_le h l
    simp only [List.filter_cons]
    rcases List.mem_cons.mp hm with rfl | hm
    · rw [hy, hn]; simp; lia
    · have ih := filter_len_lt h hy hn l hm
      cases hp : p x with
      | false =>
        cases hq : q x with
        | false => simpa using ih
        | true => simp; lia
      | true => rw [h x hp]; simp; omega
theorem rk_lt {ds : List D} {i j : Nat} (hi : i < ds.length) : decide (rk ds i < rk ds j) = decide ((ds.getD i .non).ord < (ds.getD j .non).ord) := by
  have hm : ds.getD i .non ∈ ds := by rw [List.getD_eq_getElem?_getD, List.getElem?_eq_getElem hi]; exact List.getElem_mem _
  unfold rk
  generalize ds.getD i .non = a at hm
  generalize ds.getD j .non = b
  by_cases h : a.ord < b.ord
  · rw [decide_eq_true h]
    refine decide_eq_true ?_
    have := filter_len_lt (p := fun d : D => decide (d.ord < a.ord)) (q := fun d : D => decide (d.ord < b.ord)) (fun x hx => decide_eq_true (List.lt_trans (of_decide_eq_true hx) h)) (y := a) (decide_eq_true h) (decide_eq_false (List.lt_irrefl _)) ds hm
    lia
  · rw [decide_eq_false h]
    refine decide_eq_false ?_
    have := filter_len_le (p := fun d : D => decide (d.ord < b.ord)) (q := fun d : D => decide (d.ord < a.ord)) (fun x hx => by
      have hx := of_decide_eq_true hx
      refine decide_eq_true ?_
      by_cases hxa : x.ord < a.ord
      · exact hxa
      · exact absurd hx (List.not_lt.mpr (List.le_trans (List.not_lt.mp h) (List.not_lt.mp hxa)))) ds
    lia
section
variable {prog : Program} {w : World} {A : Around} {E : Value → Shared → Prop} {s : Shared}
noncomputable def FV : D → Value → Prop
  | .str l, u => ∃ t, u = .str (T l) t
  | .int i, u => ∃ t, u = .int i t
  | _, _ => False
theorem flat_eq {t : Ty} {d e : D} {u v : Value} (h1 : t.ok d = true) (h2 : t.ok e = true) (ru : FV d u) (rv : FV e v) {Q : Bool → Shared → Prop} (q : Q (decide (d = e)) s) : wpAny (model prog w) A (eqBool u v) Q E s := by
  cases t <;> cases d <;> simp [Ty.ok] at h1 <;> cases e <;> simp [Ty.ok] at h2
  · obtain ⟨t, rfl⟩ := ru
    obtain ⟨t', rfl⟩ := rv
    refine SeqAt.EqAt.str_str _ _ _ _ prog w E Q ?_
    rename_i l m
    have : (T l == T m) = decide (D.str l = D.str m) := by
      rw [Bool.eq_iff_iff]; simp [T_inj]
    rw [this]; exact q
  · obtain ⟨t, rfl⟩ := ru
    obtain ⟨t', rfl⟩ := rv
    refine SeqAt.EqAt.int_int _ _ _ _ prog w E Q ?_
    rename_i i j
    have : (i == j) = decide (D.int i = D.int j) := by
      rw [Bool.eq_iff_iff]; simp
    rw [this]; exact q
theorem flat_lt {t : Ty} {d e : D} {u v : Value} (h1 : t.ok d = true) (h2 : t.ok e = true) (ru : FV d u) (rv : FV e v) (f : Bool) {Q : Bool → Shared → Prop} (q : Q (decide (d.fo < e.fo)) s) : wpAny (model prog w) A (oneLt' f u v) Q E s := by
  cases t <;> cases d <;> simp [Ty.ok] at h1 <;> cases e <;> simp [Ty.ok] at h2
  · obtain ⟨t, rfl⟩ := ru
    obtain ⟨t', rfl⟩ := rv
    rename_i l m
    have ee : decide ((T l).cps.toList < (T m).cps.toList) = decide ((D.str l).fo < (D.str m).fo) := by
      rw [T_cps, T_cps, Bool.eq_iff_iff, decide_eq_true_eq, decide_eq_true_eq]
      exact ofNat_lt l m
    cases f with
    | true => exact oneLt_str (by rw [ee]; exact q)
    | false => exact kat_one _ _ (lt_str (by show Q _ _; rw [ee]; exact q))
  · obtain ⟨t, rfl⟩ := ru
    obtain ⟨t', rfl⟩ := rv
    rename_i i j
    have ee : decide (i < j) = decide ((D.int i).fo < (D.int j).fo) := by
      rw [Bool.eq_iff_iff]
      simp [D.fo, List.cons_lt_cons_iff]
    cases f with
    | true => exact oneLt_int (by rw [ee]; exact q)
    | false => exact kat_one _ _ (lt_int (by show Q _ _; rw [ee]; exact q))
inductive FVs : List D → List Value → Prop
  | nil : FVs [] []
  | cons {d ds u us} : FV d u → FVs ds us → FVs (d :: ds) (u :: us)
theorem lex_flat {b : Bool} {Q : Bool → Shared → Prop} : ∀ {ts : List Ty} {ds es : List D} {us vs : List Value} (i : Nat), shOk ts ds = true → shOk ts es = true → FVs ds us → FVs es vs → Q (decide (ds.map D.fo < es.map D.fo)) s → KatLex prog w A b false Q (us.zip vs) i s
  | [], ds, es, _, _, i, h1, h2, r1, r2, q => by
    cases ds <;> cases es <;> simp [shOk] at h1 h2
    cases r1; cases r2
    exact kat_nil (by simpa using q)
  | t :: ts, ds, es, _, _, i, h1, h2, r1, r2, q => by
    cases r1 with
    | nil => simp [shOk] at h1
    | cons a1 a2 =>
      cases r2 with
      | nil => simp [shOk] at h2
      | cons b1 b2 =>
        rename_i d ds u us e es v vs
        simp only [shOk, Bool.and_eq_true] at h1 h2
        rw [List.zip_cons_cons]
        refine kat_cons (flat_eq h1.1 h2.1 a1 b1 ?_)
        by_cases hde : d = e
        · subst hde
          rw [decide_eq_true rfl]
          refine kat_yes (lex_flat (i + 1) h1.2 h2.2 a2 b2 ?_)
          have : decide (ds.map D.fo < es.map D.fo) = decide ((d :: ds).map D.fo < (d :: es).map D.fo) := by
            rw [Bool.eq_iff_iff]
            simp only [decide_eq_true_eq, List.map_cons, List.cons_lt_cons_iff]
            exact ⟨fun h => .inr ⟨trivial, h⟩, fun h => h.elim (fun z => absurd z (List.lt_irrefl _)) fun z => z.2⟩
          rw [this]; exact q
        · rw [decide_eq_false hde]
          refine kat_no (flat_lt h1.1 h2.1 a1 b1 _ ?_)
          have hf : ¬ d.fo = e.fo := fun z => hde (fo_inj h1.1 h2.1 z)
          have : decide (d.fo < e.fo) = decide ((d :: ds).map D.fo < (e :: es).map D.fo) := by
            rw [Bool.eq_iff_iff]
            simp only [decide_eq_true_eq, List.map_cons, List.cons_lt_cons_iff]
            exact ⟨fun h => .inl h, fun h => h.elim id fun z => absurd z.1 hf⟩
          rw [this]; exact q
end
end L2

set_option maxHeartbeats 1000000
namespace L2
open PySem PySem.W PyProof.Rows
end L2

namespace L2
open PySem PySem.W PyProof.Rows
structure MI (R : Nat → Nat → Prop) (ua ub o : List Nat) (i j : Nat) : Prop where
  hi : i ≤ ua.length
  hj : j ≤ ub.length
  pw : o.Pairwise R
  pa : ∀ x ∈ o, ∀ y ∈ ua.drop i, R x y
  pb : ∀ x ∈ o, ∀ y ∈ ub.drop j, R x y
  pm : o.Perm (ua.take i ++ ub.take j)
end L2

set_option maxHeartbeats 2000000
namespace L2
open PySem PySem.W PyProof.Rows
end L2

namespace L2
open PySem PySem.W PyProof.Rows
end L2

namespace L2
open PySem PySem.W PyProof.Rows
noncomputable def Seg (key : Nat → Int) (p : Array Nat) (i j : Nat) : Prop := ∀ s t, i ≤ s → s ≤ t → t < j → kk key p s ≤ kk key p t
end L2

namespace L2
open PySem PySem.W PyProof.Rows
end L2

namespace L2
open PySem PySem.W PyProof.Rows
noncomputable def Runs (key : Nat → Int) (p : Array Nat) : List (Nat × Nat × Nat) → Nat → Nat → Prop
  | [], lo, hi => lo = hi
  | r :: l, lo, hi => r.1 = lo ∧ 0 < r.2.1 ∧ Seg key p lo (lo + r.2.1) ∧ Runs key p l (lo + r.2.1) hi
end L2

set_option maxHeartbeats 4000000
namespace L2
open PySem PySem.W PyProof.Rows
theorem Vals.pick {xs : List V} {us : List Value} (r : Vals xs us) : ∀ p : List Nat, (∀ i ∈ p, i < xs.length) → Vals (p.map fun i => xs.getD i .non) (p.map fun i => us.getD i Value.none)
  | [], _ => .nil
  | i :: p, h => by
    have hi := h i List.mem_cons_self
    obtain ⟨u, hu, ru⟩ := r.get (List.getElem?_eq_getElem hi)
    refine .cons ?_ (Vals.pick r p fun j hj => h j (List.mem_cons_of_mem _ hj))
    show RelV (xs.getD i .non) (us.getD i Value.none)
    rw [List.getD_eq_getElem?_getD, List.getElem?_eq_getElem hi, List.getD_eq_getElem?_getD, hu]
    exact ru
theorem Reps.pick {K : PySem.W.Frag} {H : Hp} {ds : List D} {xs : List V} (r : Reps K H ds xs) : ∀ p : List Nat, (∀ i ∈ p, i < ds.length) → Reps K H (p.map fun i => ds.getD i .non) (p.map fun i => xs.getD i .non)
  | [], _ => Reps.nil
  | i :: p, h => by
    have hi := h i List.mem_cons_self
    obtain ⟨u, hu, ru⟩ := r.get' (List.getElem?_eq_getElem hi)
    refine Reps.cons ?_ (Reps.pick r p fun j hj => h j (List.mem_cons_of_mem _ hj))
    show Rep K H (ds.getD i .non) (xs.getD i .non)
    rw [List.getD_eq_getElem?_getD, List.getElem?_eq_getElem hi, List.getD_eq_getElem?_getD, hu]
    exact ru
section
variable {X : Cx} {pins : List (Addr × Obj)} {σ : St} {H : Hp} {s : Shared}
theorem FV.of {t : Ty} {d : D} {x : V} {u : Value} (ht : t.ok d = true) (r : Rep X.K H d x) (q : RelV x u) : FV d u := by
  cases t <;> cases d <;> simp [Ty.ok] at ht
  · rw [r.of_str] at q; exact q
  · rw [r.of_int] at q; exact q
theorem FVs.of : ∀ {ts : List Ty} {ds : List D} {xs : List V} {us : List Value}, shOk ts ds = true → Reps X.K H ds xs → Vals xs us → FVs ds us
  | [], ds, _, _, ht, r, q => by
    cases ds <;> simp [shOk] at ht
    rw [Reps] at r; subst r; cases q; exact .nil
  | t :: ts, ds, _, _, ht, r, q => by
    cases ds with
    | nil => simp [shOk] at ht
    | cons d ds =>
      simp only [shOk, Bool.and_eq_true] at ht
      rw [Reps] at r
      obtain ⟨x, xs, rfl, r1, r2⟩ := r
      cases q with
      | cons q1 q2 => exact .cons (FV.of ht.1 r1 q1) (FVs.of ht.2 r2 q2)
noncomputable def TV (h : Heap) (es : List D) (u : Value) : Prop := ∃ a o its n, u = .ref a ∧ h.get? a = some o ∧ o.cls = .type "tuple" ∧ o.data = .seq its n ∧ FVs es its.toList
theorem Inv.tv (I : Inv X pins σ H s) {ts : List Ty} {es : List D} {x : V} {u : Value} (ht : shOk ts es = true) (r : Rep X.K H (.tup es) x) (q : RelV x u) : TV s.heap es u := by
  obtain ⟨p, xs, rfl, sq, rs⟩ := r.of_tup
  cases q
  obtain ⟨its, rv, ⟨o, e, c, n, hd⟩, _⟩ := I.tuple sq
  exact ⟨p, o, its.toArray, n, rfl, e, c, hd, by simpa using FVs.of ht rs rv⟩
theorem getD_rel {ds : List D} {xs : List V} {us : List Value} (rs : Reps X.K H ds xs) (rv : Vals xs us) {i : Nat} (hi : i < us.length) : ∃ x, Rep X.K H (ds.getD i .non) x ∧ RelV x (us.getD i Value.none) ∧ ds.getD i .non ∈ ds := by
  have l1 := rs.length
  have l2 := rv.length
  obtain ⟨x, hx, r⟩ := rs.get' (List.getElem?_eq_getElem (show i < ds.length by lia))
  obtain ⟨u, hu, ru⟩ := rv.get hx
  refine ⟨x, ?_, ?_, ?_⟩
  · rw [List.getD_eq_getElem?_getD, List.getElem?_eq_getElem (show i < ds.length by lia)]; exact r
  · rw [List.getD_eq_getElem?_getD, hu]; exact ru
  · rw [List.getD_eq_getElem?_getD, List.getElem?_eq_getElem (show i < ds.length by lia)]; exact List.getElem_mem _
theorem mem_getD {us : List Value} {v : Value} (h : v ∈ us) : ∃ i, i < us.length ∧ v = us.getD i Value.none := by
  obtain ⟨i, hi, e⟩ := List.getElem_of_mem h
  exact ⟨i, hi, by rw [List.getD_eq_getElem?_getD, List.getElem?_eq_getElem hi]; exact e.symm⟩
noncomputable def Ty.tv : Ty → Value
  | .s => .type "str"
  | .i => .type "int"
noncomputable def CmpOk (prog : Program) (w : World) (A : Around) (s : Shared) (vs : List Value) (key : Nat → Int) : Prop :=
  ∃ κ, (∀ (Q : SortKind → Shared → Prop) (E : Value → Shared → Prop), Q κ s → wpAny (model prog w) A (keyKind' vs.toArray) Q E s) ∧
    ∀ i j (C : Bool → Shared → Prop), i < vs.length → j < vs.length → C (decide (key i < key j)) s → wpAny (model prog w) A (keyLt' κ (vs.getD i Value.none) (vs.getD j Value.none)) C (fun _ _ => False) s
theorem cmp_alike {h' : Heap} {ds : List D} {xs : List V} {us : List Value} {A' : Around} (I : Inv X pins σ H s) (rs : Reps X.K H ds xs) (rv : Vals xs us) (hal : Alike ds) (h2 : 2 ≤ us.length) (k : Keeps s.heap h') :
    CmpOk X.prog X.w A' { s with heap := h' } us (rk ds) := by
  have l1 := rs.length
  have l2 := rv.length
  have flat : ∀ (t : Ty) (T0 : Value), (∀ d u, t.ok d = true → FV d u → typeOf u = pure T0) → (T0 != Value.type "tuple") = true → (T0 == T0) = true → (∀ d ∈ ds, t.ok d = true) → CmpOk X.prog X.w A' { s with heap := h' } us (rk ds) := fun t T0 hty hT1 hT2 ht => by
    have fv : ∀ i, i < us.length → FV (ds.getD i .non) (us.getD i Value.none) ∧ t.ok (ds.getD i .non) = true := fun i hi => by
      obtain ⟨x, r, q, hm⟩ := getD_rel rs rv hi
      exact ⟨FV.of (ht _ hm) r q, ht _ hm⟩
    refine ⟨oneType', fun Q E q => kas_kind h2 (T := T0) (fun v hv => ?_) hT1 hT2 q, fun i j C hi hj hC => ?_⟩
    · obtain ⟨i, hi, rfl⟩ := mem_getD hv
      obtain ⟨f, o⟩ := fv i hi
      rw [hty _ _ o f]
      exact .now
    · obtain ⟨f1, o1⟩ := fv i hi
      obtain ⟨f2, o2⟩ := fv j hj
      rw [keyLt'_oneType]
      refine flat_lt o1 o2 f1 f2 true ?_
      rw [rk_lt (by lia)] at hC
      have e : ∀ d : D, t.ok d = true → d.ord = [d.fo] := fun d hd => by cases t <;> cases d <;> simp [Ty.ok] at hd <;> rfl
      rw [e _ o1, e _ o2] at hC
      have : decide ((ds.getD i .non).fo < (ds.getD j .non).fo) = decide ([(ds.getD i .non).fo] < [(ds.getD j .non).fo]) := by
        rw [Bool.eq_iff_iff, decide_eq_true_eq, decide_eq_true_eq]; exact (one_lt _ _).symm
      rw [this]; exact hC
  rcases hal with ht | ht | ⟨t, ts, ht⟩
  · exact flat .s (.type "str") (fun d u hd f => by cases d <;> simp [Ty.ok] at hd; obtain ⟨t, rfl⟩ := f; rfl) (by decide) (by decide) ht
  · exact flat .i (.type "int") (fun d u hd f => by cases d <;> simp [Ty.ok] at hd; obtain ⟨t, rfl⟩ := f; rfl) (by decide) (by decide) ht
  · have tv : ∀ i, i < us.length → ∃ es, ds.getD i .non = .tup es ∧ shOk (t :: ts) es = true ∧ TV h' es (us.getD i Value.none) := fun i hi => by
      obtain ⟨x, r, q, hm⟩ := getD_rel rs rv hi
      obtain ⟨es, e, ho⟩ := ht _ hm
      rw [e] at r
      obtain ⟨a, o, its, n, eu, ho', hc, hd, fv⟩ := I.tv ho r q
      exact ⟨es, e, ho, a, o, its, n, eu, k a o ho', hc, hd, fv⟩
    obtain ⟨T0, hT0, hb, hbb⟩ : ∃ T0 : Value, (T0 = t.tv) ∧ (T0 != Value.type "tuple") = true ∧ (T0 == T0) = true := ⟨t.tv, rfl, by cases t <;> decide, by cases t <;> decide⟩
    have hfs : ∀ (l : List Value), (∀ v ∈ l, ∃ es, shOk (t :: ts) es = true ∧ TV h' es v) → ∃ fs, KatTups h' l fs ∧ fs.length = l.length ∧ ∀ f ∈ fs, typeOf f = pure T0 := by
      intro l
      induction l with
      | nil => intro _; exact ⟨[], KatTups.nil, rfl, by simp⟩
      | cons v l ih =>
        intro h
        obtain ⟨fs, h1, h2, h3⟩ := ih fun u hu => h u (List.mem_cons_of_mem _ hu)
        obtain ⟨es, ho, a, o, its, n, rfl, hg, hc, hd, fv⟩ := h v List.mem_cons_self
        cases es with
        | nil => simp [shOk] at ho
        | cons d es =>
          simp only [shOk, Bool.and_eq_true] at ho
          cases hits : its.toList with
          | nil => rw [hits] at fv; cases fv
          | cons f fr =>
            rw [hits] at fv
            cases fv with
            | cons fd _ =>
              have h0 : its[0]? = some f := by
                have : its.toList[0]? = some f := by rw [hits]; rfl
                simpa using this
              refine ⟨f :: fs, KatTups.cons hg hc hd h0 h1, by simp [h2], fun g hgm => ?_⟩
              rcases List.mem_cons.mp hgm with rfl | hgm
              · cases t <;> cases d <;> simp [Ty.ok] at ho
                · obtain ⟨t', rfl⟩ := fd; rw [hT0]; rfl
                · obtain ⟨t', rfl⟩ := fd; rw [hT0]; rfl
              · exact h3 g hgm
    obtain ⟨fs, hk1, hk2, hk3⟩ := hfs us fun v hv => by
      obtain ⟨i, hi, rfl⟩ := mem_getD hv
      obtain ⟨es, _, ho, tvv⟩ := tv i hi
      exact ⟨es, ho, tvv⟩
    refine ⟨tuples' (T0 != Value.type "tuple"), fun Q E q => kat_kind (s := { s with heap := h' }) (T := T0) hk1 (by lia) (fun v hv => ?_) hbb q, fun i j C hi hj hC => ?_⟩
    · rw [hk3 v hv]; exact .now
    · obtain ⟨es, e1, o1, a, o, its, n, eu, hg, hc, hd, fv⟩ := tv i hi
      obtain ⟨es', e1', o1', a', o', its', n', eu', hg', hc', hd', fv'⟩ := tv j hj
      rw [eu, eu']
      rw [rk_lt (by lia), e1, e1'] at hC
      have sz : ∀ {ts : List Ty} {es : List D} {us : List Value}, shOk ts es = true → FVs es us → us.length = ts.length := by
        intro ts
        induction ts with
        | nil => intro es us h f; cases f with
          | nil => rfl
          | cons _ _ => simp [shOk] at h
        | cons t ts ih => intro es us h f; cases f with
          | nil => simp [shOk] at h
          | cons _ f => simp only [shOk, Bool.and_eq_true] at h; simp [ih h.2 f]
      have z1 := sz o1 fv
      have z2 := sz o1' fv'
      refine kat_lt (s := { s with heap := h' }) hg hd hg' hd' ?_
      rw [decide_eq_false (by simp at z1 z2; lia)]
      exact lex_flat 0 o1 o1' fv fv' hC
end
end L2

set_option maxHeartbeats 2000000
namespace L2
open PySem PySem.W PySem.Spec PyProof.Rows
noncomputable def cutD (xs : List D) (lo hi : Option Int) : List D := (xs.drop (HT.sIx xs.length 0 lo)).take (HT.sIx xs.length xs.length hi - HT.sIx xs.length 0 lo)
theorem Reps.cut {K : PySem.W.Frag} {H : Hp} {ds : List D} {xs : List V} (lo hi : Option Int) (h : Reps K H ds xs) : Reps K H (cutD ds lo hi) (cutV xs lo hi) := by
  unfold cutD cutV
  rw [← h.length]
  exact (h.drop _).take _
section
variable {K : PySem.W.Frag} {G H₀ L : Hp} {ss : List Sl} {t ta tb : TE} {d : D} {ds : List D}
theorem ev_lenL (a : EvL K G H₀ L ss t ds) : Ev K G H₀ L ss (tCB (fun xs H Q => ∃ p ys, xs = [.ref p] ∧ (SqL K H p ys ∨ SqT K H p ys) ∧ Q (.int ys.length) H) (tCons t tNil)) (.int ds.length) := fun F H σ Q S q =>
  a F H σ _ S fun p vs F' H' e sq r => ⟨p, vs, rfl, .inl sq, q _ _ _ e (by rw [← r.length]; exact Rep.int)⟩
theorem ev_lenS {l : List Nat} (a : EvB K G H₀ L ss t (.str l)) (hz : l.length ≤ sizeLine) : Ev K G H₀ L ss (tCB (fun xs H Q => ∃ z : Str, xs = [.str z] ∧ z.length ≤ sizeLine ∧ Q (.int z.length) H) (tCons t tNil)) (.int l.length) := fun F H σ Q S q =>
  a F H σ _ S fun v F' H' e r => by
    rw [r.of_str]
    exact ⟨T l, rfl, by rw [T_len]; exact hz, q _ _ _ e (by rw [T_len]; exact Rep.int)⟩
theorem evo_list (a : EvL K G H₀ L ss t ds) : EvO K G H₀ L ss (tCB (fun xs H Q => ∃ p ys, xs = [.ref p] ∧ (SqL K H p ys ∨ SqT K H p ys) ∧ ∀ l, H l = none → Q (.ref l) (upd H l (.lst ys))) (tCons t tNil)) ds := fun F H σ Q S q =>
  a F H σ _ S fun p vs F' H' e sq r => ⟨p, vs, rfl, .inl sq, fun l hl => q l vs F' _ (e.newO hl) (e.hh.free hl) (e.fh.free hl) upd_same r⟩
noncomputable def EvP (K : PySem.W.Frag) (G H₀ L : Hp) (ss : List Sl) (t : TO) (o : Option Int) : Prop := ∀ F H σ (Q : Option Int → Hp → Prop), Sat K G H₀ L F H σ ss → (∀ F' H', Ext F H F' H' → Q o H') → t σ H Q
theorem evp_no : EvP K G H₀ L ss tNoPart none := fun F H σ Q S q => q _ _ (Ext.refl S.ext.fh)
theorem evp_part {i : Int} (a : EvB K G H₀ L ss t (.int i)) : EvP K G H₀ L ss (tPart t) (some i) := fun F H σ Q S q => a F H σ _ S fun v F' H' e r => ⟨i, r.of_int, q _ _ e⟩
theorem evo_slL {tl th : TO} {lo hi : Option Int} (a : EvL K G H₀ L ss t ds) (b : EvP K G H₀ L ss tl lo) (c : EvP K G H₀ L ss th hi) : EvO K G H₀ L ss (tSl (rSlL K) t tl th) (cutD ds lo hi) := fun F H σ Q S q =>
  a F H σ _ S fun p vs F1 H1 e1 sq r => b F1 H1 σ _ (S.ext2 e1) fun F2 H2 e2 => c F2 H2 σ _ ((S.ext2 e1).ext2 e2) fun F3 H3 e3 =>
    ⟨p, vs, rfl, SqL.same e3.hh (SqL.same e2.hh sq), fun l hl => q l _ F3 _ (((e1.trans e2).trans e3).newO hl) (((e1.trans e2).trans e3).hh.free hl) (((e1.trans e2).trans e3).fh.free hl) upd_same (((r.mono e2.gf).mono e3.gf).cut lo hi)⟩
theorem ev_slS {tl th : TO} {lo hi : Option Int} {l : List Nat} (a : EvB K G H₀ L ss t (.str l)) (b : EvP K G H₀ L ss tl lo) (c : EvP K G H₀ L ss th hi) (hz : l.length ≤ sizeLine) : Ev K G H₀ L ss (tSl rSlS t tl th) (.str (cutL l lo hi)) := fun F H σ Q S q =>
  a F H σ _ S fun v F1 H1 e1 r => b F1 H1 σ _ (S.ext2 e1) fun F2 H2 e2 => c F2 H2 σ _ ((S.ext2 e1).ext2 e2) fun F3 H3 e3 =>
    ⟨l, r.of_str, hz, q _ _ _ ((e1.trans e2).trans e3) (Rep.str fun c hc => r.asc c (List.mem_of_mem_drop (List.mem_of_mem_take hc)))⟩
noncomputable def glue (z : List Nat) : List (List Nat) → List Nat
  | [] => []
  | [x] => x
  | x :: y :: r => x ++ z ++ glue z (y :: r)
end
theorem glue_T (z : List Nat) : ∀ ls : List (List Nat), Str.join (T z) (ls.map T) = T (glue z ls)
  | [] => rfl
  | [x] => rfl
  | x :: y :: r => by
    have ih := glue_T z (y :: r)
    rw [List.map_cons] at ih
    rw [List.map_cons, List.map_cons]
    show T x ++ T z ++ Str.join (T z) (T y :: r.map T) = _
    rw [ih, T_app, T_app]; rfl
theorem glue_asc {z : List Nat} (hz : ∀ c ∈ z, c < 128) : ∀ {ls : List (List Nat)}, (∀ l ∈ ls, ∀ c ∈ l, c < 128) → ∀ c ∈ glue z ls, c < 128
  | [], _, c, h => by cases h
  | [x], hl, c, h => hl x List.mem_cons_self c h
  | x :: y :: r, hl, c, h => by
    rw [glue] at h
    rcases List.mem_append.mp h with h | h
    · rcases List.mem_append.mp h with h | h
      · exact hl x List.mem_cons_self c h
      · exact hz c h
    · exact glue_asc hz (ls := y :: r) (fun l hm => hl l (List.mem_cons_of_mem _ hm)) c h
theorem Reps.strs {K : PySem.W.Frag} {H : Hp} : ∀ {ls : List (List Nat)} {vs : List V}, Reps K H (ls.map D.str) vs → vs = (ls.map T).map V.str ∧ ∀ l ∈ ls, ∀ c ∈ l, c < 128
  | [], vs, h => by rw [List.map_nil, Reps] at h; subst h; exact ⟨rfl, by simp⟩
  | l :: ls, vs, h => by
    rw [List.map_cons, Reps] at h
    obtain ⟨x, xs, rfl, h1, h2⟩ := h
    obtain ⟨e, ha⟩ := h2.strs
    refine ⟨by rw [h1.of_str, e]; rfl, fun m hm => ?_⟩
    rcases List.mem_cons.mp hm with rfl | hm
    · exact h1.asc
    · exact ha m hm
section
variable {K : PySem.W.Frag} {G H₀ L : Hp} {ss : List Sl} {t ta tb : TE} {d : D} {ds : List D}
theorem ev_join {z : List Nat} {ls : List (List Nat)} (a : EvB K G H₀ L ss ta (.str z)) (b : EvL K G H₀ L ss t (ls.map D.str)) (hz : (ls.map List.length).sum + ls.length * z.length ≤ 16777216) : Ev K G H₀ L ss (tBM K "str" (rJoin K) ta (tCons t tNil)) (.str (glue z ls)) := fun F H σ Q S q =>
  a F H σ _ S fun v F1 H1 e1 r1 => by
    rw [r1.of_str]
    refine ⟨rfl, b F1 H1 σ _ (S.ext2 e1) fun p vs F2 H2 e2 sq r2 => ?_⟩
    obtain ⟨rfl, ha⟩ := r2.strs
    refine ⟨T z, p, ls.map T, rfl, rfl, sq, ?_, ?_⟩
    · rw [List.map_map, List.length_map, T_len, show ((fun x : Str => x.length) ∘ T) = List.length from funext fun l => T_len l]; exact hz
    · rw [glue_T]
      exact q _ _ _ (e1.trans e2) (Rep.str (glue_asc r1.asc ha))
end
noncomputable def stripL (goes : Nat → Bool) (l : List Nat) : List Nat := ((l.dropWhile goes).reverse.dropWhile goes).reverse
theorem drop_takeWhile (g : Nat → Bool) : ∀ l : List Nat, l.drop (l.takeWhile g).length = l.dropWhile g
  | [] => rfl
  | x :: l => by
    rw [List.takeWhile_cons, List.dropWhile_cons]
    cases g x with
    | true => simp only [if_true, List.length_cons, List.drop_succ_cons]; exact drop_takeWhile g l
    | false => rfl
theorem strip_T (l y : List Nat) : Txt.stripChars (T l) (T y) = T (stripL y.contains l) := by
  have ct : (T y).cps.contains = y.contains := by funext c; simp [T]
  have key : PySem.stripped y.contains true true (T l) = T (stripL y.contains l) := by
    unfold PySem.stripped PySem.stripLo PySem.stripHi
    simp only [if_true, T_cps, T_len]
    rw [drop_takeWhile]
    have h1 : (l.takeWhile y.contains).length + (l.dropWhile y.contains).length = l.length := by
      rw [← List.length_append, List.takeWhile_append_dropWhile]
    have e : Builtin.Str.strSub (T l) (l.takeWhile y.contains).length (l.length - ((l.dropWhile y.contains).reverse.takeWhile y.contains).length) = T ((l.drop (l.takeWhile y.contains).length).take (l.length - ((l.dropWhile y.contains).reverse.takeWhile y.contains).length - (l.takeWhile y.contains).length)) := by
      unfold Builtin.Str.strSub
      congr 1
      apply Array.toList_inj.mp
      rw [Array.toList_extract]
      show List.extract (T l).cps.toList _ _ = _
      rw [T_cps]
    rw [e, drop_takeWhile]
    congr 1
    unfold stripL
    have h2 := drop_takeWhile y.contains (l.dropWhile y.contains).reverse
    rw [← h2]
    have h3 : ((l.dropWhile y.contains).reverse.takeWhile y.contains).length ≤ (l.dropWhile y.contains).length := by
      have := (List.takeWhile_sublist (p := y.contains) (l := (l.dropWhile y.contains).reverse)).length_le
      simpa using this
    rw [List.drop_reverse, List.reverse_reverse]
    congr 1; omega
  unfold Txt.stripChars Txt.stripBy
  rw [ct]
  split
  · rename_i h
    rw [← key]
    unfold stripSame at h
    simp only [Bool.and_eq_true, beq_iff_eq] at h
    unfold PySem.stripped
    rw [h.2, h.1]
    unfold Builtin.Str.strSub
    have : (T l).cps.extract 0 (T l).length = (T l).cps := by
      show (T l).cps.extract 0 (T l).cps.size = _
      simp
    rw [this]
  · exact key
noncomputable def rStripC : V → List V → Hp → VK → Prop := fun x vs H Q => ∃ z y, x = .str z ∧ vs = [.str y] ∧ z.length ≤ sizeLine ∧ Q (.str (Txt.stripChars z y)) H
section
variable {X : Cx}
theorem mt_stripC : MtR X "str.strip" rStripC := by
  intro pins s σ H x xs v us Q I rx rs h
  obtain ⟨z, y, rfl, rfl, hz, q⟩ := h
  obtain ⟨t, rfl⟩ := rx
  obtain ⟨u, rfl, ru⟩ := Vals.one rs
  obtain ⟨u, rfl⟩ := ru
  exact SC.stripChars (fun t' k => ⟨.str _, H, I.tok _, ⟨_, rfl⟩, q⟩) hz
end
section
variable {K : PySem.W.Frag} {G H₀ L : Hp} {ss : List Sl} {t ta tb : TE} {d : D} {ds : List D}
theorem ev_strip {l y : List Nat} (a : EvB K G H₀ L ss ta (.str l)) (b : EvB K G H₀ L ss t (.str y)) (hz : l.length ≤ sizeLine) : Ev K G H₀ L ss (tBM K "str" rStripC ta (tCons t tNil)) (.str (stripL y.contains l)) := fun F H σ Q S q =>
  a F H σ _ S fun v F1 H1 e1 r1 => by
    rw [r1.of_str]
    refine ⟨rfl, b F1 H1 σ _ (S.ext2 e1) fun v2 F2 H2 e2 r2 => ?_⟩
    refine ⟨T l, T y, rfl, by rw [r2.of_str], by rw [T_len]; exact hz, ?_⟩
    rw [strip_T]
    refine q _ _ _ (e1.trans e2) (Rep.str fun c hc => r1.asc c ?_)
    unfold stripL at hc
    exact (List.dropWhile_sublist _).subset (List.mem_reverse.mp ((List.dropWhile_sublist _).subset (List.mem_reverse.mp hc)))
end
end L2

namespace L2
open PySem PySem.W PySem.Spec PyProof.Rows
noncomputable def rAny (K : PySem.W.Frag) : List V → Hp → VK → Prop := fun xs H Q => ∃ p, ∃ bs : List Bool, xs = [.ref p] ∧ SqL K H p (bs.map V.bl) ∧ Q (.bl (bs.any id)) H
section
variable {X : Cx} {prog : Program} {w : World} {A : Around} {E : Value → Shared → Prop} {s : Shared}
theorem old_kept {h' : Heap} {o : Obj} {k : Nat} (hk : ∀ b x, b ∉ [s.heap.objs.size] → (s.heap.push o).get? b = some x → h'.get? b = some x) : Keeps s.heap h' := fun b x e => by
  refine hk b x (fun hm => ?_) (Heap.get?_push_of_some _ e)
  have h1 := Heap.lt_size e
  rw [List.mem_singleton.mp hm] at h1
  exact Nat.lt_irrefl _ h1
theorem vals_bl : ∀ {bs : List Bool} {us : List Value}, Vals (bs.map V.bl) us → us = bs.map Value.bool
  | [], _, .nil => rfl
  | b :: bs, _, .cons r1 r2 => by rw [vals_bl r2]; cases r1; rfl
theorem range_anyB : ∀ bs : List Bool, ((List.range bs.length).any fun i => (bs[i]?).getD false) = bs.any id := fun bs => by
  rw [Bool.eq_iff_iff, List.any_eq_true, List.any_eq_true]
  constructor
  · rintro ⟨i, hi, h⟩
    have hi' := List.mem_range.mp hi
    rw [List.getElem?_eq_getElem hi', Option.getD_some] at h
    exact ⟨_, List.getElem_mem hi', h⟩
  · rintro ⟨b, hb, h⟩
    obtain ⟨i, hi, e⟩ := List.getElem_of_mem hb
    refine ⟨i, List.mem_range.mpr hi, ?_⟩
    rw [List.getElem?_eq_getElem hi, Option.getD_some, e]; exact h
theorem call_any (hc : X.calm = true) : CallR X (.builtin "any") (rAny X.K) := by
  intro pins s σ H xs us Q I r h
  obtain ⟨p, bs, rfl, hq, q⟩ := h
  obtain ⟨u, rfl, ru⟩ := vals1 r
  cases ru
  obtain ⟨its, rv, pl, _⟩ := I.list hq
  obtain rfl := vals_bl rv
  have hl := pl.isList
  have hlt : p < s.heap.objs.size := by obtain ⟨_, e, _⟩ := hl; exact Heap.lt_size e
  refine call_any_walk (wpAny_pyIter_list hl ⟨s.heap.objs.size, [s.heap.objs.size, p], [s.heap.objs.size], (bs.map Value.bool).toArray.size, _, _, fun i => (bs[i]?).getD false, rfl,
    Walks.list (A := X.A.in1) (I.ok.hd hc) _ p (Nat.ne_of_lt hlt) _, ⟨⟨_, Heap.get?_push_size _ rfl, rfl, rfl⟩, hl.push _⟩, fun i v s' Q' E' hP hQ => ?_, fun h' tk hk => ?_⟩)
  · have hP' : (bs.map Value.bool)[i]? = some v := by simpa using hP
    rw [List.getElem?_map] at hP'
    cases hb : bs[i]? with
    | none => rw [hb] at hP'; cases hP'
    | some b =>
      rw [hb] at hP'
      cases hP'
      simp only [hb, Option.getD_some] at hQ
      exact wpAny_truthy_bool hQ
  · have e : ((List.range (bs.map Value.bool).toArray.size).any fun i => (bs[i]?).getD false) = bs.any id := by
      rw [List.size_toArray, List.length_map]; exact range_anyB bs
    rw [e]
    exact ⟨.bl _, H, I.kept (old_kept (k := 0) hk), rfl, q⟩
noncomputable def two (x y : Str) (t u : Tok) : Array Value := #[.str x t, .str y u]
end
end L2

namespace L2
open PySem PySem.W PySem.Spec PyProof.Rows PySem.Calls
open PySem.MeetsSeq PySem.MeetsSeq2 PySem.MeetsSeq3
section
variable {K : PySem.W.Frag} {G H₀ L : Hp} {ss : List Sl} {t ta tb : TE} {d : D} {ds es : List D}
theorem Reps.bools {H : Hp} : ∀ {bs : List Bool} {vs : List V}, Reps K H (bs.map D.bl) vs → vs = bs.map V.bl
  | [], vs, h => by rw [List.map_nil, Reps] at h; exact h
  | b :: bs, vs, h => by
    rw [List.map_cons, Reps] at h
    obtain ⟨x, xs, rfl, h1, h2⟩ := h
    rw [h1.of_bl, h2.bools]; rfl
theorem ev_any {bs : List Bool} (a : EvL K G H₀ L ss t (bs.map D.bl)) : Ev K G H₀ L ss (tCB (rAny K) (tCons t tNil)) (.bl (bs.any id)) := fun F H σ Q S q =>
  a F H σ _ S fun p vs F1 H1 e1 sq r1 => ⟨p, bs, rfl, by rw [r1.bools] at sq; exact sq, q _ _ _ e1 Rep.bl⟩
end
end L2

namespace L2
open PySem PySem.W PySem.Spec PyProof.Rows
noncomputable def slots (n : Nat) (ds : List D) : List Sl := ds.map Sl.d ++ List.replicate (n - ds.length) .un
section
variable {K : PySem.W.Frag} {H : Hp} {vs : List V} {Q : VK} {X : XK} {N : List Str} {t : TS} {pre : List D → Prop}
theorem sat_start {G : Hp} {ds : List D} (sm : Same G H) (r : Reps K G ds vs) (hN : vs.length ≤ N.length) : Sat K G H G G H (start N vs) (slots N.length ds) := by
  have hl := r.length
  have ads : ∀ (i : Nat) s, (slots N.length ds)[i]? = some s → s.ads = [] := fun i s hs => by
    have hm := List.mem_of_getElem? hs
    unfold slots at hm
    rcases List.mem_append.mp hm with h | h
    · obtain ⟨d, _, rfl⟩ := List.mem_map.mp h; rfl
    · rw [List.eq_of_mem_replicate h]; rfl
  refine ⟨Ext.refl sm, Same.refl _, ?_, fun i s hs => ?_, fun i s hs => by rw [ads i s hs]; exact List.nodup_nil, fun i j s s' _ hs _ p hp => by rw [ads i s hs] at hp; cases hp⟩
  · unfold start slots; simp; lia
  · by_cases hi : i < ds.length
    · have e : (slots N.length ds)[i]? = some (.d ds[i]) := by
        unfold slots
        rw [List.getElem?_append_left (by simpa using hi), List.getElem?_map, List.getElem?_eq_getElem hi]; rfl
      rw [e] at hs
      cases hs
      obtain ⟨v, hv, rv⟩ := r.get' (List.getElem?_eq_getElem hi)
      refine ⟨v, ?_, rv⟩
      unfold start
      rw [List.getD_eq_getElem?_getD, List.getElem?_append_left (by simp; lia), List.getElem?_map, hv]; rfl
    · have hm : s = .un := by
        unfold slots at hs
        rw [List.getElem?_append_right (by simp; lia)] at hs
        exact List.eq_of_mem_replicate (List.mem_of_getElem? hs)
      rw [hm]; trivial
theorem go_spD {res : List D → D} (h : SpD K pre res vs H Q X) (hN : vs.length ≤ N.length) (body : ∀ G ds, pre ds → RtD K G H Q (res ds) → Go K G H G { nx := fun _ H' => Q .non H', rt := Q } (slots N.length ds) t) : t { nx := fun _ H' => Q .non H', rt := Q } (start N vs) H := by
  obtain ⟨G, ds, sm, r, hp, q⟩ := h
  exact body G ds hp (fun v F H' e r => q v F H' e r) G H _ (sat_start sm r hN)
theorem go_spO {res : List D → List D} (h : SpO K pre res vs H Q X) (hN : vs.length ≤ N.length) (body : ∀ G ds, pre ds → RtO K G H Q (res ds) → Go K G H G { nx := fun _ H' => Q .non H', rt := Q } (slots N.length ds) t) : t { nx := fun _ H' => Q .non H', rt := Q } (start N vs) H := by
  obtain ⟨G, ds, sm, r, hp, q⟩ := h
  exact body G ds hp (fun p ws F H' e h1 h2 h3 r => q p ws F H' e h1 h2 h3 r) G H _ (sat_start sm r hN)
theorem spD_len {res : List D → D} {n : Nat} (hpre : ∀ ds, pre ds → ds.length = n) (h : SpD K pre res vs H Q X) : vs.length = n := by
  obtain ⟨G, ds, sm, r, hp, q⟩ := h
  rw [← r.length]; exact hpre ds hp
theorem spO_len {res : List D → List D} {n : Nat} (hpre : ∀ ds, pre ds → ds.length = n) (h : SpO K pre res vs H Q X) : vs.length = n := by
  obtain ⟨G, ds, sm, r, hp, q⟩ := h
  rw [← r.length]; exact hpre ds hp
end
section
variable {K : PySem.W.Frag} {G H₀ L : Hp} {ss : List Sl} {t ta tb : TE} {d : D} {ds es : List D} {i j : Int}
theorem ev_mod (a : EvB K G H₀ L ss ta (.int i)) (b : EvB K G H₀ L ss tb (.int j)) (h : 0 < j) : Ev K G H₀ L ss (tOp (rI (fun _ j => 0 < j) fun i j => .int (i % j)) ta tb) (.int (i % j)) := ev_opI (C := fun _ j => 0 < j) (g := fun i j => i % j) a b h
theorem ev_mul (a : EvB K G H₀ L ss ta (.int i)) (b : EvB K G H₀ L ss tb (.int j)) (h : CMul i j) : Ev K G H₀ L ss (tOp (rI CMul fun i j => .int (i * j)) ta tb) (.int (i * j)) := ev_opI (C := CMul) (g := fun i j => i * j) a b h
theorem ev_fdiv (a : EvB K G H₀ L ss ta (.int i)) (b : EvB K G H₀ L ss tb (.int j)) (h : CDiv i j) : Ev K G H₀ L ss (tOp (rI CDiv fun i j => .int (i / j)) ta tb) (.int (i / j)) := ev_opI (C := CDiv) (g := fun i j => i / j) a b h
theorem ev_lt (a : EvB K G H₀ L ss ta (.int i)) (b : EvB K G H₀ L ss tb (.int j)) : Ev K G H₀ L ss (tOp (rI0 fun i j => .bl (decide (i < j))) ta tb) (.bl (decide (i < j))) := ev_cmpI (g := fun i j => decide (i < j)) a b
end
theorem sIx_at (n d : Nat) {a : Int} (h : 0 ≤ a) : HT.sIx n d (some a) = min a.toNat n := by
  show (if a < 0 then (a + (n : Int)).toNat else min a.toNat n) = _
  rw [if_neg (by lia)]
theorem cutD_from (m : List D) {b : Int} (h : 0 ≤ b) : cutD m (some b) none = m.drop b.toNat := by
  unfold cutD
  rw [sIx_at _ _ h, show HT.sIx m.length m.length none = m.length from rfl, List.take_of_length_le (by rw [List.length_drop]; lia)]
  by_cases hh : b.toNat ≤ m.length
  · rw [Nat.min_eq_left hh]
  · rw [Nat.min_eq_right (by lia), List.drop_length, List.drop_eq_nil_of_le (by lia)]
theorem cutD_mid (m : List D) {a b : Int} (h : 0 ≤ a) (h2 : a ≤ b) : cutD m (some a) (some b) = (m.drop a.toNat).take (b.toNat - a.toNat) := by
  unfold cutD
  rw [sIx_at _ _ h, sIx_at _ _ (by lia)]
  by_cases h3 : a.toNat ≤ m.length
  · rw [Nat.min_eq_left h3]
    by_cases h4 : b.toNat ≤ m.length
    · rw [Nat.min_eq_left h4]
    · rw [Nat.min_eq_right (by lia), List.take_of_length_le (by simp), List.take_of_length_le (by simp; lia)]
  · rw [List.drop_eq_nil_of_le (as := m) (i := a.toNat) (by lia), List.drop_eq_nil_of_le (by omega)]; simp
end L2

namespace L2
open PySem PySem.W PySem.Spec PyProof.Rows
theorem range_fm {α β : Type} (xs : List α) (z : α) (p : α → Bool) (f : α → β) : ((List.range xs.length).filter fun i => p (xs.getD i z)).map (fun i => f (xs.getD i z)) = (xs.filter p).map f := by
  have e : xs = (List.range xs.length).map fun i => xs.getD i z := by
    refine List.ext_getElem? fun i => ?_
    rw [List.getElem?_map]
    by_cases hi : i < xs.length
    · rw [List.getElem?_range hi, List.getElem?_eq_getElem hi]; simp [List.getD_eq_getElem?_getD, hi]
    · rw [List.getElem?_eq_none (by lia), List.getElem?_eq_none (by simp; lia)]; rfl
  conv => rhs; rw [e]
  rw [List.filter_map, List.map_map]
  rfl
section
variable {K : PySem.W.Frag} {G H₀ L : Hp} {ss : List Sl}
theorem evo_lcX {α : Type} (xs : List α) (enc : α → D) (p : α → Bool) (f : α → D) {tl : TE} {g : TG} {tt : TT} {te : TE} {nt : Nat} {cs : List Nat} (a : EvL K G H₀ L ss tl (xs.map enc)) (hk : GK nt g) (hc : cs.Nodup) (hz : xs.length < sizeLine)
    (hs : ∀ x ∈ xs, ∃ ss', Tg K G H₀ L g (enc x) (lcSl nt cs ss) ss' ∧ EvT K G H₀ L ss' tt (p x) ∧ (p x = true → Ev K G H₀ L ss' te (f x))) :
    EvO K G H₀ L ss (tLC nt cs (iList K tl) g tt te) ((xs.filter p).map f) := by
  cases xs with
  | nil =>
    have := evo_lcI (p := fun _ => true) (f := fun _ => .non) (tt := tt) (te := te) (evi_list a) hk hc (by simpa using hz) (fun i hi => by simp at hi)
    simpa using this
  | cons z zs =>
    have hl : ((z :: zs).map enc).length = (z :: zs).length := by simp
    have := evo_lcI (p := fun i => p ((z :: zs).getD i z)) (f := fun i => f ((z :: zs).getD i z)) (tt := tt) (te := te) (evi_list a) hk hc (by rw [hl]; exact hz) (fun i hi => by
      rw [hl] at hi
      have hm : (z :: zs).getD i z ∈ (z :: zs) := by
        rw [List.getD_eq_getElem?_getD, List.getElem?_eq_getElem hi]; exact List.getElem_mem hi
      have e : ((z :: zs).map enc).getD i .non = enc ((z :: zs).getD i z) := by
        rw [List.getD_eq_getElem?_getD, List.getElem?_map, List.getD_eq_getElem?_getD, List.getElem?_eq_getElem hi]; rfl
      rw [e]
      exact hs _ hm)
    rw [hl, range_fm] at this
    exact this
theorem evt_true : EvT K G H₀ L ss tTrue true := fun F H σ Q S q => q _ _ (Ext.refl S.ext.fh)
theorem evo_lcM {α : Type} (xs : List α) (enc : α → D) (f : α → D) {tl : TE} {g : TG} {te : TE} {nt : Nat} {cs : List Nat} (a : EvL K G H₀ L ss tl (xs.map enc)) (hk : GK nt g) (hc : cs.Nodup) (hz : xs.length < sizeLine)
    (hs : ∀ x ∈ xs, ∃ ss', Tg K G H₀ L g (enc x) (lcSl nt cs ss) ss' ∧ Ev K G H₀ L ss' te (f x)) :
    EvO K G H₀ L ss (tLC nt cs (iList K tl) g tTrue te) (xs.map f) := by
  have := evo_lcX xs enc (fun _ => true) f a hk hc hz (tt := tTrue) (te := te) fun x hx => by
    obtain ⟨ss', h1, h2⟩ := hs x hx
    exact ⟨ss', h1, evt_true, fun _ => h2⟩
  rw [show xs.filter (fun _ => true) = xs from List.filter_eq_self.mpr (by simp)] at this
  exact this
theorem ev_joinM {α : Type} {z : List Nat} {xs : List α} {g : α → List Nat} {ta t : TE} (a : EvB K G H₀ L ss ta (.str z)) (b : EvL K G H₀ L ss t (xs.map fun x => D.str (g x))) (hz : ((xs.map g).map List.length).sum + xs.length * z.length ≤ 16777216) : Ev K G H₀ L ss (tBM K "str" (rJoin K) ta (tCons t tNil)) (.str (glue z (xs.map g))) := by
  refine ev_join a ?_ (by rw [List.length_map (f := g)]; exact hz)
  rw [List.map_map]; exact b
theorem ev_anyM {α : Type} {xs : List α} {g : α → Bool} {t : TE} (b : EvL K G H₀ L ss t (xs.map fun x => D.bl (g x))) : Ev K G H₀ L ss (tCB (rAny K) (tCons t tNil)) (.bl (xs.any g)) := by
  have := ev_any (K := K) (G := G) (H₀ := H₀) (L := L) (ss := ss) (t := t) (bs := xs.map g) (by rw [List.map_map]; exact b)
  rw [List.any_map] at this
  exact this
theorem ev_lit {x : Str} (ha : ∀ c ∈ x.cps.toList, c < 128) : Ev K G H₀ L ss (tC (.str x)) (.str x.cps.toList) := ev_str (by cases x; rfl) ha
end
theorem glue_nil : ∀ ls : List (List Nat), glue [] ls = ls.flatten
  | [] => rfl
  | [x] => by simp [glue]
  | x :: y :: r => by rw [glue, glue_nil (y :: r)]; simp
theorem glue_one {α : Type} (xs : List α) (g : α → Nat) : glue [] (xs.map fun x => [g x]) = xs.map g := by
  rw [glue_nil]
  induction xs with
  | nil => rfl
  | cons x xs ih => simp [ih]
theorem Reps.cat {K : PySem.W.Frag} {H : Hp} : ∀ {ds es : List D} {xs ys : List V}, Reps K H ds xs → Reps K H es ys → Reps K H (ds ++ es) (xs ++ ys)
  | [], es, xs, ys, h, k => by rw [Reps] at h; subst h; exact k
  | d :: ds, es, xs, ys, h, k => by
    rw [Reps] at h
    obtain ⟨x, xs', rfl, h1, h2⟩ := h
    exact Reps.cons h1 (h2.cat k)
section
variable {K : PySem.W.Frag} {G H₀ L : Hp} {ss : List Sl} {E : Ends} {ds es : List D}
theorem go_extend {i : Nat} {p : Addr} {t1 : TE} (hs : ss[i]? = some (.o p ds)) (a : EvO K G H₀ L ss t1 es) (hz : ds.length + es.length ≤ sizeLine) (h : Nx K G H₀ L E.nx (ss.set i (.o p (ds ++ es)))) :
    Go K G H₀ L E ss (tDrop (tBM K "list" rExtend (tVar i) (tCons t1 tNil))) := fun F H σ S => by
  obtain ⟨e, h0, fp, vs, hp, r⟩ := S.getO hs
  refine ⟨.ref p, e, .inl ⟨rfl, _, SqL.of hp⟩, a F H σ _ S fun b zs F' H' e' hb fb hb' r' => ?_⟩
  have S' := S.ext2 e'
  obtain ⟨e2, h02, fp2, vs', hp2, r2⟩ := S'.getO hs
  exact ⟨p, b, vs', zs, rfl, rfl, hp2, hb', by rw [← r2.length, ← r'.length]; exact hz, h F' _ σ (S'.write hs (r2.cat r'))⟩
end
end L2

set_option maxHeartbeats 4000000
namespace L2T
open PySem

theorem mono_at (xs : Array Nat) (hp : xs.toList.Pairwise (· < ·)) (i k x y : Nat) (hik : i < k) (hx : xs[i]? = some x) (hy : xs[k]? = some y) : x < y := by
  rw [← Array.getElem?_toList] at hx hy
  obtain ⟨hi', hx'⟩ := List.getElem?_eq_some_iff.mp hx
  obtain ⟨hk', hy'⟩ := List.getElem?_eq_some_iff.mp hy
  have h := List.pairwise_iff_getElem.mp hp i k hi' hk' hik
  rw [hx', hy'] at h; exact h

theorem below_go (xs : Array Nat) (j : Nat) (hp : xs.toList.Pairwise (· < ·)) : ∀ (fuel lo hi : Nat), hi - lo ≤ fuel → lo ≤ hi → hi ≤ xs.size →
    (∀ i x, i < lo → xs[i]? = some x → x < j) → (∀ i x, hi ≤ i → xs[i]? = some x → j ≤ x) →
    (SetTable.below.go xs j fuel lo hi ≤ xs.size) ∧ (∀ i x, i < SetTable.below.go xs j fuel lo hi → xs[i]? = some x → x < j) ∧ (∀ i x, SetTable.below.go xs j fuel lo hi ≤ i → xs[i]? = some x → j ≤ x) := by
  intro fuel
  induction fuel with
  | zero =>
    intro lo hi hf hl hs h1 h2
    have : lo = hi := by lia
    subst this
    exact ⟨hs, h1, h2⟩
  | succ fuel ih =>
    intro lo hi hf hl hs h1 h2
    unfold SetTable.below.go
    by_cases hlt : lo < hi
    · rw [if_pos hlt]
      have hm : (lo + hi) / 2 < xs.size := by lia
      have hgm : xs[(lo + hi) / 2]? = some xs[(lo + hi) / 2] := Array.getElem?_eq_getElem hm
      have hgd : xs.getD ((lo + hi) / 2) j = xs[(lo + hi) / 2] := by simp [Array.getD, hm]
      have hmono := mono_at xs hp
      dsimp only
      rw [hgd]
      by_cases hc : xs[(lo + hi) / 2] < j
      · rw [if_pos hc]
        refine ih _ _ (by omega) (by lia) hs ?_ h2
        intro i x hi' hx
        by_cases he : i = (lo + hi) / 2
        · subst he; rw [hgm] at hx; cases hx; exact hc
        · have := hmono i ((lo + hi) / 2) x _ (by lia) hx hgm; lia
      · rw [if_neg hc]
        refine ih _ _ (by omega) (by lia) (by lia) h1 ?_
        intro i x hi' hx
        by_cases he : i = (lo + hi) / 2
        · subst he; rw [hgm] at hx; cases hx; lia
        · have := hmono ((lo + hi) / 2) i _ x (by lia) hgm hx; lia
    · rw [if_neg hlt]
      have : lo = hi := by lia
      subst this
      exact ⟨hs, h1, h2⟩

theorem below_spec (xs : Array Nat) (j : Nat) (hp : xs.toList.Pairwise (· < ·)) :
    SetTable.below xs j ≤ xs.size ∧ (∀ i x, i < SetTable.below xs j → xs[i]? = some x → x < j) ∧ (∀ i x, SetTable.below xs j ≤ i → xs[i]? = some x → j ≤ x) := by
  unfold SetTable.below
  exact below_go xs j hp xs.size 0 xs.size (by lia) (by lia) (by lia) (fun i x h => by lia) (fun i x h hx => by
    have := (Array.getElem?_eq_some_iff.mp hx).1; lia)

theorem below_mem (xs : Array Nat) (j : Nat) (hp : xs.toList.Pairwise (· < ·)) : xs[SetTable.below xs j]? = some j ↔ j ∈ xs.toList := by
  obtain ⟨h0, h1, h2⟩ := below_spec xs j hp
  constructor
  · intro h; rw [← Array.getElem?_toList] at h; exact List.mem_of_getElem? h
  · intro h
    obtain ⟨i, hi⟩ := List.mem_iff_getElem?.mp h
    rw [Array.getElem?_toList] at hi
    rcases Nat.lt_or_ge i (SetTable.below xs j) with hc | hc
    · have := h1 i j hc hi; lia
    · have hib := (Array.getElem?_eq_some_iff.mp hi).1
      have hb : SetTable.below xs j < xs.size := by lia
      have hg : xs[SetTable.below xs j]? = some xs[SetTable.below xs j] := Array.getElem?_eq_getElem hb
      have h3 := h2 _ _ (Nat.le_refl _) hg
      rcases Nat.lt_or_ge (SetTable.below xs j) i with hd | hd
      · have := mono_at xs hp _ _ _ _ hd hg hi
        lia
      · have : i = SetTable.below xs j := by lia
        rw [← this]; exact hi

theorem has_iff (xs : Array Nat) (j : Nat) (hp : xs.toList.Pairwise (· < ·)) : SetTable.has xs j = true ↔ j ∈ xs.toList := by
  unfold SetTable.has
  rw [beq_iff_eq]
  exact below_mem xs j hp

theorem below_at (xs : Array Nat) (i j : Nat) (hp : xs.toList.Pairwise (· < ·)) (h : xs[i]? = some j) : SetTable.below xs j = i := by
  have hm := (below_mem xs j hp).mpr (by rw [← Array.getElem?_toList] at h; exact List.mem_of_getElem? h)
  rw [← Array.getElem?_toList] at h hm
  obtain ⟨hi, hx⟩ := List.getElem?_eq_some_iff.mp h
  obtain ⟨hk, hy⟩ := List.getElem?_eq_some_iff.mp hm
  rcases Nat.lt_trichotomy (SetTable.below xs j) i with hc | hc | hc
  · have := List.pairwise_iff_getElem.mp hp _ _ hk hi hc; lia
  · exact hc
  · have := List.pairwise_iff_getElem.mp hp _ _ hi hk hc; lia

theorem insertAt_list {α : Type} (xs : Array α) (p : Nat) (x : α) (hp : p ≤ xs.size) : (SetTable.insertAt xs p x).toList = xs.toList.take p ++ x :: xs.toList.drop p := by
  simp [SetTable.insertAt, Array.toList_extract, List.extract, List.take_of_length_le]

theorem eraseAt_list {α : Type} (xs : Array α) (p : Nat) : (SetTable.eraseAt xs p).toList = xs.toList.take p ++ xs.toList.drop (p + 1) := by
  simp [SetTable.eraseAt, Array.toList_extract, List.extract, List.take_of_length_le]

theorem insertAt_below (xs : Array Nat) (j : Nat) (hp : xs.toList.Pairwise (· < ·)) (hj : j ∉ xs.toList) :
    (SetTable.insertAt xs (SetTable.below xs j) j).toList.Pairwise (· < ·) := by
  obtain ⟨h0, h1, h2⟩ := below_spec xs j hp
  rw [insertAt_list _ _ _ h0, List.pairwise_append, List.pairwise_cons]
  have ht : ∀ x ∈ xs.toList.take (SetTable.below xs j), x < j := by
    intro x hx
    obtain ⟨i, hi⟩ := List.mem_iff_getElem?.mp hx
    rw [List.getElem?_take] at hi
    split at hi
    · rename_i hlt; exact h1 i x hlt (by rw [← Array.getElem?_toList]; exact hi)
    · cases hi
  have hd : ∀ x ∈ xs.toList.drop (SetTable.below xs j), j < x := by
    intro x hx
    obtain ⟨i, hi⟩ := List.mem_iff_getElem?.mp hx
    rw [List.getElem?_drop] at hi
    have := h2 _ x (Nat.le_add_right _ i) (by rw [← Array.getElem?_toList]; exact hi)
    have hne : x ≠ j := fun e => hj (e ▸ List.mem_of_getElem? hi)
    lia
  refine ⟨hp.sublist (List.take_sublist _ _), ⟨hd, hp.sublist (List.drop_sublist _ _)⟩, ?_⟩
  intro x hx y hy
  rcases List.mem_cons.mp hy with rfl | hy
  · exact ht x hx
  · have := ht x hx; have := hd y hy; lia

structure TOk (t : SetTable) : Prop where
  pl : t.place.toList.Pairwise (· < ·)
  du : t.dummies.toList.Pairwise (· < ·)
  ple : ∀ j ∈ t.place.toList, j ≤ t.mask
  dle : ∀ j ∈ t.dummies.toList, j ≤ t.mask
  dis : ∀ j ∈ t.dummies.toList, j ∉ t.place.toList
  pow : ∃ k, t.mask + 1 = 2 ^ (k + 3)
  big : t.mask ≤ 8191

theorem slot_live {t : SetTable} (h : TOk t) (j i : Nat) : t.slot j = .live i ↔ t.place[i]? = some j := by
  unfold SetTable.slot
  dsimp only
  by_cases hc : t.place[SetTable.below t.place j]? = some j
  · rw [if_pos (by rw [beq_iff_eq]; exact hc)]
    constructor
    · intro he; cases he; exact hc
    · intro hi; rw [below_at _ _ _ h.pl hi]
  · rw [if_neg (by rw [beq_iff_eq]; exact hc)]
    constructor
    · intro he; split at he <;> cases he
    · intro hi; exact absurd ((below_mem _ _ h.pl).mpr (by rw [← Array.getElem?_toList] at hi; exact List.mem_of_getElem? hi)) hc

theorem slot_dummy {t : SetTable} (h : TOk t) (j : Nat) : t.slot j = .dummy ↔ j ∈ t.dummies.toList := by
  unfold SetTable.slot
  dsimp only
  by_cases hc : t.place[SetTable.below t.place j]? = some j
  · rw [if_pos (by rw [beq_iff_eq]; exact hc)]
    constructor
    · intro he; cases he
    · intro hi; exact absurd ((below_mem _ _ h.pl).mp hc) (h.dis j hi)
  · rw [if_neg (by rw [beq_iff_eq]; exact hc)]
    by_cases hd : SetTable.has t.dummies j = true
    · rw [if_pos hd]; exact ⟨fun _ => (has_iff _ _ h.du).mp hd, fun _ => rfl⟩
    · rw [if_neg hd]; exact ⟨fun he => (by cases he), fun he => absurd ((has_iff _ _ h.du).mpr he) hd⟩

theorem slot_empty {t : SetTable} (h : TOk t) (j : Nat) : t.slot j = .empty ↔ (j ∉ t.place.toList ∧ j ∉ t.dummies.toList) := by
  constructor
  · intro he
    refine ⟨fun hm => ?_, fun hm => ?_⟩
    · obtain ⟨i, hi⟩ := List.mem_iff_getElem?.mp hm
      rw [Array.getElem?_toList] at hi
      rw [(slot_live h j i).mpr hi] at he; cases he
    · rw [(slot_dummy h j).mpr hm] at he; cases he
  · rintro ⟨h1, h2⟩
    cases hs : t.slot j with
    | empty => rfl
    | dummy => exact absurd ((slot_dummy h j).mp hs) h2
    | live i =>
      have := (slot_live h j i).mp hs
      rw [← Array.getElem?_toList] at this
      exact absurd (List.mem_of_getElem? this) h1

theorem len_of_all : ∀ (n : Nat) (L : List Nat), (∀ x, x < n → x ∈ L) → n ≤ L.length := by
  intro n
  induction n with
  | zero => intro L _; exact Nat.zero_le _
  | succ n ih =>
    intro L h
    have hn : n ∈ L := h n (by lia)
    have h1 := ih (L.erase n) (fun x hx => (List.mem_erase_of_ne (by lia)).mpr (h x (by lia)))
    have h2 := List.length_erase_of_mem hn
    have h3 : 0 < L.length := List.length_pos_of_mem hn
    lia

theorem some_empty {t : SetTable} (h : TOk t) (hr : t.fill ≤ t.mask) : ∃ e, e ≤ t.mask ∧ t.slot e = .empty := by
  refine Classical.byContradiction fun hc => ?_
  have hall : ∀ x, x < t.mask + 1 → x ∈ t.place.toList ++ t.dummies.toList := by
    intro x hx
    refine Classical.byContradiction fun hn => hc ⟨x, by lia, (slot_empty h x).mpr ?_⟩
    rw [List.mem_append] at hn
    exact ⟨fun a => hn (.inl a), fun a => hn (.inr a)⟩
  have := len_of_all _ _ hall
  simp only [SetTable.fill, List.length_append, Array.length_toList] at this hr
  lia

noncomputable def lcg : Nat → Nat → Nat
  | 0, x => x
  | n + 1, x => lcg n (5 * x + 1)

theorem lcg_add (m n x : Nat) : lcg (m + n) x = lcg n (lcg m x) := by
  induction m generalizing x with
  | zero => simp [lcg]
  | succ m ih => rw [Nat.succ_add]; exact ih _

theorem lcg_pow : ∀ k, ∃ u v, ∀ x, lcg (2 ^ k) x = (1 + 2 ^ (k + 2) * u) * x + 2 ^ k * (2 * v + 1) := by
  intro k
  induction k with
  | zero => exact ⟨1, 0, fun x => by simp [lcg]⟩
  | succ k ih =>
    obtain ⟨u, v, h⟩ := ih
    refine ⟨u + 2 ^ (k + 1) * u * u, v + 2 ^ k * u * (2 * v + 1), fun x => ?_⟩
    have e : 2 ^ (k + 1) = 2 ^ k + 2 ^ k := by lia
    conv => lhs; rw [e]
    rw [lcg_add, h, h]
    have e1 : 2 ^ (k + 2) = 4 * 2 ^ k := by rw [Nat.pow_succ, Nat.pow_succ]; lia
    have e2 : 2 ^ (k + 1 + 2) = 8 * 2 ^ k := by rw [Nat.pow_succ, Nat.pow_succ, Nat.pow_succ]; lia
    rw [e1, e2, e]
    generalize 2 ^ k = a
    grind

theorem lcg_all : ∀ k x e, ∃ s, s < 2 ^ k ∧ lcg s x % 2 ^ k = e % 2 ^ k := by
  intro k
  induction k with
  | zero => intro x e; exact ⟨0, by simp, by simp [Nat.mod_one]⟩
  | succ k ih =>
    intro x e
    obtain ⟨s, hs, he⟩ := ih x e
    have e2 : 2 ^ (k + 1) = 2 * 2 ^ k := by lia
    have hpos : 0 < 2 ^ k := Nat.two_pow_pos k
    by_cases hc : lcg s x % 2 ^ (k + 1) = e % 2 ^ (k + 1)
    · exact ⟨s, by lia, hc⟩
    · refine ⟨s + 2 ^ k, by lia, ?_⟩
      rw [lcg_add]
      obtain ⟨u, v, h⟩ := lcg_pow k
      rw [h]
      generalize lcg s x = y at *
      have h3 : (1 + 2 ^ (k + 2) * u) * y + 2 ^ k * (2 * v + 1) = y + 2 ^ k + 2 ^ (k + 1) * (2 * u * y + v) := by
        have e1 : 2 ^ (k + 2) = 4 * 2 ^ k := by rw [Nat.pow_succ, Nat.pow_succ]; lia
        rw [e1, e2]; generalize 2 ^ k = a; grind
      rw [h3, Nat.add_mul_mod_self_left, e2]
      rw [e2] at hc
      generalize ha : 2 ^ k = a at *
      -- y ≡ e mod a, not mod 2a
      have hy := Nat.mod_add_div y a
      have hE := Nat.mod_add_div e a
      rw [he] at hy
      generalize y / a = p at *
      generalize e / a = q at *
      generalize hr : e % a = r at *
      have hra : r < a := by rw [← hr]; exact Nat.mod_lt _ hpos
      subst hy
      have h5 : ∀ z, (r + a * z) % (2 * a) = if z % 2 = 0 then r else r + a := by
        intro z
        have hz := Nat.mod_add_div z 2
        have h6 : r + a * z = r + a * (z % 2) + (2 * a) * (z / 2) := by
          conv => lhs; rw [← hz]
          generalize z % 2 = z1; generalize z / 2 = z2; grind
        rw [h6, Nat.add_mul_mod_self_left]
        rcases Nat.mod_two_eq_zero_or_one z with h7 | h7
        · rw [h7, if_pos rfl]; simp; exact Nat.mod_eq_of_lt (by lia)
        · rw [h7, if_neg (by lia)]; simp; exact Nat.mod_eq_of_lt (by lia)
      have h7 : r + a * p + a = r + a * (p + 1) := by grind
      rw [← hE] at hc ⊢
      rw [h7, h5, h5]
      rw [h5, h5] at hc
      by_cases hp2 : p % 2 = 0 <;> by_cases hq2 : q % 2 = 0 <;> simp only [hp2, hq2, if_true, if_false] at hc <;>
        (have : (p + 1) % 2 = 0 ∨ (p + 1) % 2 = 1 := Nat.mod_two_eq_zero_or_one _) <;> grind

end L2T

namespace L2T
open PySem SetTable

noncomputable def advM (mask : Nat) (p : Probe) : Probe :=
  if p.more > 0 then { p with j := p.j + 1, more := p.more - 1 } else
  let (i, perturb) := leap mask p.i p.perturb
  { p with j := i, more := runEnd mask i - i, i, perturb }
theorem advance_eq (t : SetTable) (p : Probe) : t.advance p = advM t.mask p := rfl

noncomputable def stM (mask i perturb : Nat) : Probe := { j := i, more := runEnd mask i - i, i, perturb, dummy := none }
noncomputable def prM (mask : Nat) (h : Int) : Nat → Probe
  | 0 => stM mask (bits h % (mask + 1)) (bits h)
  | n + 1 => advM mask (prM mask h n)
noncomputable def posM (mask : Nat) (h : Int) (n : Nat) : Nat := (prM mask h n).j

noncomputable def lpM (mask : Nat) (h : Int) : Nat → Nat × Nat
  | 0 => (bits h % (mask + 1), bits h)
  | m + 1 => leap mask (lpM mask h m).1 (lpM mask h m).2
noncomputable def lpS (mask : Nat) (h : Int) (m : Nat) : Probe := stM mask (lpM mask h m).1 (lpM mask h m).2

theorem adv_run (mask : Nat) : ∀ (r : Nat) (p : Probe) (F : Nat → Probe), (∀ n, F (n + 1) = advM mask (F n)) → F 0 = p → r ≤ p.more → F r = { p with j := p.j + r, more := p.more - r } := by
  intro r
  induction r with
  | zero => intro p F hF h0 hr; rw [h0]; rfl
  | succ r ih =>
    intro p F hF h0 hr
    rw [hF, ih p F hF h0 (by lia)]
    unfold advM
    rw [if_pos (by show p.more - r > 0; lia)]
    show ({ p with j := p.j + r + 1, more := p.more - r - 1 } : Probe) = _
    congr 1

theorem runEnd_le (mask i : Nat) : runEnd mask i - i ≤ 9 := by unfold runEnd; split <;> lia

theorem pr_next (mask : Nat) (h : Int) (n m : Nat) (hs : prM mask h n = lpS mask h m) :
    prM mask h (n + (runEnd mask (lpM mask h m).1 - (lpM mask h m).1) + 1) = lpS mask h (m + 1) ∧
    ∀ r, r ≤ runEnd mask (lpM mask h m).1 - (lpM mask h m).1 → posM mask h (n + r) = (lpM mask h m).1 + r := by
  have hrun := fun r hr => adv_run mask r (lpS mask h m) (fun k => prM mask h (n + k)) (fun k => rfl) hs hr
  refine ⟨?_, fun r hr => ?_⟩
  · show advM mask (prM mask h (n + (runEnd mask (lpM mask h m).1 - (lpM mask h m).1))) = _
    rw [hrun (runEnd mask (lpM mask h m).1 - (lpM mask h m).1) (Nat.le_refl _)]
    unfold advM
    rw [if_neg (by show ¬ (lpS mask h m).more - (runEnd mask (lpM mask h m).1 - (lpM mask h m).1) > 0; show ¬ (runEnd mask (lpM mask h m).1 - (lpM mask h m).1) - (runEnd mask (lpM mask h m).1 - (lpM mask h m).1) > 0; lia)]
    rfl
  · unfold posM
    rw [hrun r hr]; rfl

theorem pr_leap (mask : Nat) (h : Int) : ∀ m, ∃ n, n ≤ 10 * m ∧ prM mask h n = lpS mask h m := by
  intro m
  induction m with
  | zero => exact ⟨0, by lia, rfl⟩
  | succ m ih =>
    obtain ⟨n, hn, he⟩ := ih
    have := runEnd_le mask (lpM mask h m).1
    exact ⟨_, by lia, (pr_next mask h n m he).1⟩

theorem bits_lt (h : Int) : bits h < 2 ^ 64 := by
  unfold bits
  have : h % (2 ^ 64 : Int) < 2 ^ 64 := Int.emod_lt_of_pos _ (by decide)
  lia

theorem lp_per (mask : Nat) (h : Int) : ∀ m, (lpM mask h m).2 = bits h / 32 ^ m := by
  intro m
  induction m with
  | zero => simp [lpM]
  | succ m ih => show (lpM mask h m).2 / 32 = _; rw [ih, Nat.div_div_eq_div_mul, Nat.pow_succ]

theorem lp_per0 (mask : Nat) (h : Int) (m : Nat) (hm : 13 ≤ m) : (lpM mask h m).2 = 0 := by
  rw [lp_per]
  have h1 := bits_lt h
  have h2 : 32 ^ 13 ≤ 32 ^ m := Nat.pow_le_pow_right (by decide) hm
  exact Nat.div_eq_of_lt (by have : (32 : Nat) ^ 13 = 2 ^ 65 := by decide
                             lia)

theorem lp_lt (mask : Nat) (h : Int) (m : Nat) : (lpM mask h m).1 < mask + 1 := by
  cases m with
  | zero => exact Nat.mod_lt _ (by lia)
  | succ m => exact Nat.mod_lt _ (by lia)

theorem lp_lcg (mask : Nat) (h : Int) : ∀ s, (lpM mask h (13 + s)).1 = lcg s (lpM mask h 13).1 % (mask + 1) := by
  intro s
  induction s with
  | zero => exact (Nat.mod_eq_of_lt (lp_lt mask h 13)).symm
  | succ s ih =>
    show ((lpM mask h (13 + s)).1 * 5 + 1 + (lpM mask h (13 + s)).2 / 32) % (mask + 1) = _
    rw [lp_per0 mask h (13 + s) (by lia), ih, lcg_add]
    show _ = (5 * lcg s (lpM mask h 13).1 + 1) % (mask + 1)
    generalize lcg s (lpM mask h 13).1 = y
    simp [Nat.add_mod, Nat.mul_mod, Nat.mul_comm]

theorem lp_all (mask k : Nat) (hk : mask + 1 = 2 ^ k) (h : Int) (e : Nat) (he : e ≤ mask) : ∃ m, m ≤ 13 + mask ∧ (lpM mask h m).1 = e := by
  obtain ⟨s, hs, hl⟩ := lcg_all k (lpM mask h 13).1 e
  refine ⟨13 + s, by lia, ?_⟩
  rw [lp_lcg, hk, hl, ← hk]
  exact Nat.mod_eq_of_lt (by lia)

theorem pos_all (mask k : Nat) (hk : mask + 1 = 2 ^ k) (h : Int) (e : Nat) (he : e ≤ mask) : ∃ n, n < 10 * turns mask ∧ posM mask h n = e := by
  obtain ⟨m, hm, hl⟩ := lp_all mask k hk h e he
  obtain ⟨n, hn, hp⟩ := pr_leap mask h m
  refine ⟨n, by unfold turns; lia, ?_⟩
  unfold posM; rw [hp]; exact hl

noncomputable def SameP (p q : Probe) : Prop := p.j = q.j ∧ p.more = q.more ∧ p.i = q.i ∧ p.perturb = q.perturb

theorem same_adv (mask : Nat) {p q : Probe} (h : SameP p q) : SameP (advM mask p) (advM mask q) := by
  obtain ⟨h1, h2, h3, h4⟩ := h
  unfold advM
  rw [h2, h3, h4, h1]
  split
  · exact ⟨rfl, rfl, rfl, rfl⟩
  · exact ⟨rfl, rfl, rfl, rfl⟩

theorem adv_dummy (mask : Nat) (p : Probe) : (advM mask p).dummy = p.dummy := by
  unfold advM; split <;> rfl

theorem probe_go (t : SetTable) (hashAt : Nat → Int) (h : Int) : ∀ (fuel : Nat) (p : Probe) (n : Nat), SameP p (prM t.mask h n) →
    (∃ N, n ≤ N ∧ N < n + fuel ∧ t.slot (posM t.mask h N) = .empty) →
    ∃ m, n ≤ m ∧ (∀ q, n ≤ q → q < m → t.slot (posM t.mask h q) ≠ .empty ∧ ∀ i, t.slot (posM t.mask h q) = .live i → hashAt i ≠ h) ∧
      ∃ d, (d = p.dummy ∨ ∃ q, n ≤ q ∧ q < m ∧ d = some (posM t.mask h q) ∧ t.slot (posM t.mask h q) = .dummy) ∧
      ((t.slot (posM t.mask h m) = .empty ∧ probe.go t hashAt h fuel p = some (.empty (posM t.mask h m) d)) ∨
       (∃ i nx, t.slot (posM t.mask h m) = .live i ∧ hashAt i = h ∧ probe.go t hashAt h fuel p = some (.candidate (posM t.mask h m) i nx) ∧ SameP nx (prM t.mask h (m + 1)) ∧ nx.dummy = d)) := by
  intro fuel
  induction fuel with
  | zero => rintro p n hs ⟨N, h1, h2, _⟩; omega
  | succ fuel ih =>
    rintro p n hs ⟨N, h1, h2, h3⟩
    have hj : p.j = posM t.mask h n := hs.1
    unfold probe.go
    rw [hj]
    cases hsl : t.slot (posM t.mask h n) with
    | empty =>
      exact ⟨n, Nat.le_refl _, fun q a b => by lia, p.dummy, .inl rfl, .inl ⟨hsl, rfl⟩⟩
    | dummy =>
      have hN : N ≠ n := fun e => by subst e; rw [hsl] at h3; cases h3
      have hs' : SameP (t.advance { p with dummy := some (posM t.mask h n) }) (prM t.mask h (n + 1)) := by
        rw [advance_eq]; exact same_adv _ (p := { p with dummy := some (posM t.mask h n) }) ⟨hs.1, hs.2.1, hs.2.2.1, hs.2.2.2⟩
      obtain ⟨m, hm, hq, d, hd, hr⟩ := ih _ (n + 1) hs' ⟨N, by lia, by lia, h3⟩
      refine ⟨m, by lia, ?_, d, ?_, ?_⟩
      · intro q a b
        rcases Nat.eq_or_lt_of_le a with e | e
        · subst e; exact ⟨(by rw [hsl]; exact fun x => (by cases x)), fun i hi => by rw [hsl] at hi; cases hi⟩
        · exact hq q e b
      · rcases hd with hd | ⟨q, a, b, c, e⟩
        · refine .inr ⟨n, Nat.le_refl _, by lia, ?_, hsl⟩
          rw [hd, advance_eq, adv_dummy]
        · exact .inr ⟨q, by lia, b, c, e⟩
      · rw [hj] at hr; exact hr
    | live i =>
      dsimp only
      by_cases hh : hashAt i = h
      · refine ⟨n, Nat.le_refl _, fun q a b => by lia, p.dummy, .inl rfl, .inr ⟨i, t.advance p, hsl, hh, ?_, ?_, ?_⟩⟩
        · rw [if_pos (by rw [hh]; exact beq_self_eq_true h)]
        · rw [advance_eq]; exact same_adv _ hs
        · rw [advance_eq, adv_dummy]
      · have hN : N ≠ n := fun e => by subst e; rw [hsl] at h3; cases h3
        obtain ⟨m, hm, hq, d, hd, hr⟩ := ih (t.advance p) (n + 1) (by rw [advance_eq]; exact same_adv _ hs) ⟨N, by lia, by lia, h3⟩
        refine ⟨m, by lia, ?_, d, ?_, ?_⟩
        · intro q a b
          rcases Nat.eq_or_lt_of_le a with e | e
          · subst e; exact ⟨(by rw [hsl]; exact fun x => (by cases x)), fun i' hi => by rw [hsl] at hi; cases hi; exact hh⟩
          · exact hq q e b
        · rcases hd with hd | ⟨q, a, b, c, e⟩
          · exact .inl (by rw [hd, advance_eq, adv_dummy])
          · exact .inr ⟨q, by lia, b, c, e⟩
        · rw [if_neg (by rw [beq_iff_eq]; exact hh)]; exact hr

noncomputable def Reach (t : SetTable) (h : Int) (j : Nat) : Prop := ∃ n, posM t.mask h n = j ∧ ∀ m, m < n → t.slot (posM t.mask h m) ≠ .empty

theorem pos_le (mask k : Nat) (hk : mask + 1 = 2 ^ k) (h : Int) : ∀ n, posM mask h n ≤ mask := by
  have key : ∀ n, (prM mask h n).j + (prM mask h n).more ≤ mask := by
    intro n
    have hst : ∀ i p, i < mask + 1 → (stM mask i p).j + (stM mask i p).more ≤ mask := by
      intro i p hi; show i + (runEnd mask i - i) ≤ mask; unfold runEnd; split <;> lia
    induction n with
    | zero => exact hst _ _ (Nat.mod_lt _ (by lia))
    | succ n ih =>
      show (advM mask (prM mask h n)).j + (advM mask (prM mask h n)).more ≤ mask
      unfold advM
      split
      · show (prM mask h n).j + 1 + ((prM mask h n).more - 1) ≤ mask; lia
      · exact hst _ (leap mask (prM mask h n).i (prM mask h n).perturb).2 (Nat.mod_lt _ (by lia))
  intro n
  have := key n
  unfold posM; lia

end L2T

namespace L2T
open PySem SetTable

structure SOk {α : Type} (t : SetTable) (es : List (Int × α)) : Prop where
  ok : TOk t
  room : t.fill * 5 < t.mask * 3
  size : t.place.size = es.length
  reach : ∀ c ∈ t.place.toList.zip es, Reach t c.2.1 c.1

theorem free_spec (mask : Nat) (owner : Array (Option Nat)) (h : Int) : ∀ (fuel m n : Nat), prM mask h n = lpS mask h m →
    (∀ q, q < n → owner.getD (posM mask h q) (some 0) ≠ none) → (∃ M, m ≤ M ∧ M < m + fuel ∧ owner.getD (lpM mask h M).1 (some 0) = none) →
    ∃ j n', layClean.free mask owner fuel (lpM mask h m).1 (lpM mask h m).2 = some j ∧ posM mask h n' = j ∧ owner.getD j (some 0) = none ∧ ∀ q, q < n' → owner.getD (posM mask h q) (some 0) ≠ none := by
  intro fuel
  induction fuel with
  | zero => rintro m n hs hq ⟨M, a, b, c⟩; omega
  | succ fuel ih =>
    rintro m n hs hq ⟨M, a, b, c⟩
    obtain ⟨hnx, hrun⟩ := pr_next mask h n m hs
    unfold layClean.free
    cases hf : (List.range (runEnd mask (lpM mask h m).1 + 1 - (lpM mask h m).1)).find? (fun k => (owner.getD ((lpM mask h m).1 + k) (some 0)).isNone) with
    | some k =>
      obtain ⟨h1, h2, h3⟩ := List.find?_range_eq_some.mp hf
      rw [List.mem_range] at h2
      dsimp only
      refine ⟨_, n + k, rfl, hrun k (by lia), by simpa using h1, ?_⟩
      intro q hqq
      rcases Nat.lt_or_ge q n with hl | hl
      · exact hq q hl
      · have := h3 (q - n) (by lia)
        have e := hrun (q - n) (by omega)
        rw [show n + (q - n) = q by lia] at e
        rw [e]
        intro hc; rw [hc] at this; simp at this
    | none =>
      rw [List.find?_eq_none] at hf
      have hocc : ∀ k, k ≤ runEnd mask (lpM mask h m).1 - (lpM mask h m).1 → owner.getD ((lpM mask h m).1 + k) (some 0) ≠ none := by
        intro k hk hc
        have hle : (lpM mask h m).1 ≤ runEnd mask (lpM mask h m).1 := by unfold runEnd; split <;> lia
        exact hf k (List.mem_range.mpr (by lia)) (by rw [hc]; rfl)
      have hM : M ≠ m := fun e => by subst e; exact hocc 0 (Nat.zero_le _) c
      dsimp only
      refine ih (m + 1) _ hnx ?_ ⟨M, by lia, by lia, c⟩
      intro q hqq
      rcases Nat.lt_or_ge q n with hl | hl
      · exact hq q hl
      · have e := hrun (q - n) (by lia)
        rw [show n + (q - n) = q by lia] at e
        rw [e]
        exact hocc _ (by lia)

theorem fm_congr {α β : Type} {f g : α → Option β} : ∀ l : List α, (∀ x ∈ l, f x = g x) → l.filterMap f = l.filterMap g := by
  intro l
  induction l with
  | nil => intro _; rfl
  | cons x l ih => intro h; simp only [List.filterMap_cons, h x (.head _), ih (fun y hy => h y (.tail _ hy))]

theorem fm_range {α : Type} : ∀ l : List α, (List.range l.length).filterMap (fun i => l[i]?) = l := by
  intro l
  induction l with
  | nil => rfl
  | cons x l ih =>
    rw [List.length_cons, List.range_succ_eq_map, List.filterMap_cons_some (b := x) (by rfl), List.filterMap_map]
    congr 1

noncomputable def lives (mask : Nat) (owner : Array (Option Nat)) : List (Nat × Nat) := (List.range (mask + 1)).filterMap fun j => (owner.getD j none).map (j, ·)

theorem fm_one {α β : Type} [DecidableEq α] (f f' : α → Option β) (x : α) (v : β) (h0 : f x = none) (h1 : f' x = some v) (h2 : ∀ y, y ≠ x → f' y = f y) :
    ∀ l : List α, l.Nodup → x ∈ l → (l.filterMap f').Perm (v :: l.filterMap f) := by
  intro l
  induction l with
  | nil => intro _ h; cases h
  | cons y l ih =>
    intro hn hx
    rw [List.nodup_cons] at hn
    by_cases he : y = x
    · subst he
      rw [List.filterMap_cons_some h1, List.filterMap_cons_none h0]
      have : l.filterMap f' = l.filterMap f := by
        refine fm_congr _ fun z hz => h2 z (fun e => hn.1 (e ▸ hz))
      rw [this]
    · have hx' : x ∈ l := by rcases List.mem_cons.mp hx with e | e; exact absurd e.symm he; exact e
      have hi := ih hn.2 hx'
      cases hf : f y with
      | none => rw [List.filterMap_cons_none (by rw [h2 y he]; exact hf), List.filterMap_cons_none hf]; exact hi
      | some b =>
        rw [List.filterMap_cons_some (by rw [h2 y he]; exact hf), List.filterMap_cons_some hf]
        exact (hi.cons b).trans (List.Perm.swap _ _ _)

theorem fm_len {α β : Type} (f : α → Option β) : ∀ l : List α, (∀ x ∈ l, f x ≠ none) → (l.filterMap f).length = l.length := by
  intro l
  induction l with
  | nil => intro _; rfl
  | cons x l ih =>
    intro h
    cases hf : f x with
    | none => exact absurd hf (h x (.head _))
    | some b => rw [List.filterMap_cons_some hf, List.length_cons, List.length_cons, ih (fun y hy => h y (.tail _ hy))]

structure LInv (mask : Nat) (hs : List Int) (owner : Array (Option Nat)) : Prop where
  size : owner.size = mask + 1
  perm : ((lives mask owner).map (·.2)).Perm (List.range hs.length)
  reach : ∀ j i, owner.getD j none = some i → ∃ h, hs[i]? = some h ∧ ∃ n, posM mask h n = j ∧ ∀ q, q < n → owner.getD (posM mask h q) (some 0) ≠ none

theorem getD_set (owner : Array (Option Nat)) (j k x : Nat) (d : Option Nat) (hj : j < owner.size) : (owner.setIfInBounds j (some k)).getD x d = if x = j then some k else owner.getD x d := by
  simp only [Array.getD_eq_getD_getElem?, Array.getElem?_setIfInBounds]
  by_cases h : x = j
  · subst h; simp [hj]
  · rw [if_neg (fun e => h e.symm), if_neg h]

theorem getD_two (owner : Array (Option Nat)) (j : Nat) (hj : j < owner.size) : owner.getD j (some 0) = owner.getD j none := by
  simp [Array.getD, hj]

theorem lay_step (mask k : Nat) (hk : mask + 1 = 2 ^ k) (hs : List Int) (owner : Array (Option Nat)) (h : Int) (inv : LInv mask hs owner) (hroom : hs.length < mask + 1) :
    ∃ j, layClean.free mask owner (turns mask) (bits h % (mask + 1)) (bits h) = some j ∧ LInv mask (hs ++ [h]) (owner.setIfInBounds j (some hs.length)) := by
  have hex : ∃ e, e ≤ mask ∧ owner.getD e none = none := by
    refine Classical.byContradiction fun hc => ?_
    have hl := fm_len (fun j => (owner.getD j none).map (fun i => (j, i))) (List.range (mask + 1)) (fun x hx hn => hc ⟨x, by have := List.mem_range.mp hx; lia, by simpa using hn⟩)
    have hp := inv.perm.length_eq
    rw [List.length_map] at hp
    unfold lives at hp
    rw [hl] at hp
    simp at hp; lia
  obtain ⟨e, he, hn⟩ := hex
  obtain ⟨M, hM, hMe⟩ := lp_all mask k hk h e he
  obtain ⟨j, n', hf, hp, hj, hq⟩ := free_spec mask owner h (turns mask) 0 0 rfl (fun q hq => by lia)
    ⟨M, by lia, by unfold turns; lia, by rw [hMe, getD_two _ _ (by rw [inv.size]; lia)]; exact hn⟩
  have hjm : j ≤ mask := by rw [← hp]; exact pos_le mask k hk h n'
  have hjs : j < owner.size := by rw [inv.size]; lia
  refine ⟨j, hf, ?_, ?_, ?_⟩
  · simp [inv.size]
  · have hone : (lives mask (owner.setIfInBounds j (some hs.length))).Perm ((j, hs.length) :: lives mask owner) := by
      unfold lives
      refine fm_one _ _ j (j, hs.length) ?_ ?_ ?_ _ List.nodup_range (List.mem_range.mpr (by lia))
      · rw [← getD_two _ _ hjs, hj]; rfl
      · rw [getD_set _ _ _ _ _ hjs, if_pos rfl]; rfl
      · intro y hy; rw [getD_set _ _ _ _ _ hjs, if_neg hy]
    refine (hone.map _).trans ?_
    rw [List.map_cons, List.length_append, List.length_singleton, List.range_succ]
    exact ((List.Perm.cons _ inv.perm)).trans (List.perm_append_comm (l₁ := [hs.length]))
  · intro x i hx
    rw [getD_set _ _ _ _ _ hjs] at hx
    have hne : ∀ y, owner.getD y (some 0) ≠ none → (owner.setIfInBounds j (some hs.length)).getD y (some 0) ≠ none := by
      intro y hy; rw [getD_set _ _ _ _ _ hjs]; split
      · exact fun c => by cases c
      · exact hy
    by_cases hxj : x = j
    · rw [if_pos hxj] at hx
      cases hx
      refine ⟨h, by simp, n', by rw [hp, hxj], fun q hqq => hne _ (hq q hqq)⟩
    · rw [if_neg hxj] at hx
      obtain ⟨h', e1, n, e2, e3⟩ := inv.reach x i hx
      refine ⟨h', ?_, n, e2, fun q hqq => hne _ (e3 q hqq)⟩
      rw [List.getElem?_append_left (List.getElem?_eq_some_iff.mp e1).1]; exact e1

theorem lay_fold (mask k : Nat) (hk : mask + 1 = 2 ^ k) : ∀ (hs done : List Int) (owner : Array (Option Nat)), LInv mask done owner → (done ++ hs).length ≤ mask →
    ∃ owner', hs.foldl (fun acc h => do
        let (owner, k) ← acc
        let j ← layClean.free mask owner (turns mask) (bits h % (mask + 1)) (bits h)
        pure (owner.setIfInBounds j (some k), k + 1)) (some (owner, done.length)) = some (owner', (done ++ hs).length) ∧ LInv mask (done ++ hs) owner' := by
  intro hs
  induction hs with
  | nil => intro done owner inv _; exact ⟨owner, by simp, by simpa using inv⟩
  | cons h hs ih =>
    intro done owner inv hl
    obtain ⟨j, hf, inv'⟩ := lay_step mask k hk done owner h inv (by simp at hl; lia)
    obtain ⟨ow, h1, h2⟩ := ih (done ++ [h]) _ inv' (by simpa using hl)
    refine ⟨ow, ?_, by simpa using h2⟩
    rw [List.foldl_cons]
    simp only [Option.bind_eq_bind, Option.bind_some, hf, Option.pure_def]
    rw [show (done ++ h :: hs).length = (done ++ [h] ++ hs).length by simp, ← h1]
    simp

theorem lay_clean (mask k : Nat) (hk : mask + 1 = 2 ^ k) (hs : Array Int) (hl : hs.size ≤ mask) : ∃ owner, layClean mask hs = some owner ∧ LInv mask hs.toList owner := by
  obtain ⟨ow, h1, h2⟩ := lay_fold mask k hk hs.toList [] (Array.replicate (mask + 1) none) ⟨by simp, by
      have : lives mask (Array.replicate (mask + 1) none) = [] := by
        unfold lives
        rw [List.filterMap_eq_nil_iff]
        intro x hx
        simp [Array.getD_eq_getD_getElem?, Array.getElem?_replicate]
        split <;> simp
      rw [this]; simp, fun j i h => by
      simp [Array.getD_eq_getD_getElem?, Array.getElem?_replicate] at h
      split at h <;> simp at h⟩ (by simpa using hl)
  refine ⟨ow, ?_, by simpa using h2⟩
  unfold layClean
  rw [← Array.foldl_toList]
  rw [show (([] : List Int).length) = 0 from rfl] at h1
  rw [h1]; rfl

theorem lives_fst (g : Nat → Option Nat) : ∀ l : List Nat, ((l.filterMap fun j => (g j).map (j, ·)).map (·.1)).Sublist l := by
  intro l
  induction l with
  | nil => exact List.Sublist.slnil
  | cons x l ih =>
    cases hg : g x with
    | none => rw [List.filterMap_cons_none (by rw [hg]; rfl)]; exact ih.cons x
    | some v => rw [List.filterMap_cons_some (b := (x, v)) (by rw [hg]; rfl)]; exact ih.cons_cons x

theorem zip_fm {α : Type} (g : Nat → Option α) : ∀ L : List (Nat × Nat), (∀ p ∈ L, g p.2 ≠ none) → ∀ c ∈ (L.map (·.1)).zip ((L.map (·.2)).filterMap g), ∃ p ∈ L, c.1 = p.1 ∧ g p.2 = some c.2 := by
  intro L
  induction L with
  | nil => intro _ c hc; simp at hc
  | cons p L ih =>
    intro h c hc
    cases hg : g p.2 with
    | none => exact absurd hg (h p (.head _))
    | some v =>
      rw [List.map_cons, List.map_cons, List.filterMap_cons_some hg, List.zip_cons_cons] at hc
      rcases List.mem_cons.mp hc with e | e
      · exact ⟨p, .head _, by rw [e], by rw [e]; exact hg⟩
      · obtain ⟨p', h1, h2⟩ := ih (fun q hq => h q (.tail _ hq)) c e
        exact ⟨p', .tail _ h1, h2⟩

theorem laid_ok {α : Type} (mask k : Nat) (hk : mask + 1 = 2 ^ (k + 3)) (hb : mask ≤ 8191) (finger moves : Nat) (led plain : Bool) (es : Array (Int × α)) (hroom : es.size * 5 < mask * 3) :
    ∃ t order, laid mask finger moves led plain (es.map (·.1)) = some (t, order) ∧ t.mask = mask ∧ t.dummies = #[] ∧ t.led = led ∧ t.plain = plain ∧ t.finger = finger ∧ t.moves = moves ∧
      order.toList.Perm (List.range es.size) ∧ (order.filterMap (es[·]?)).toList.Perm es.toList ∧ (order.filterMap (es[·]?)).size = es.size ∧ SOk t (order.filterMap (es[·]?)).toList := by
  obtain ⟨ow, h1, inv⟩ := lay_clean mask _ hk (es.map (·.1)) (by simp; lia)
  have hlen : (es.map (·.1)).toList.length = es.size := by simp
  have hperm := inv.perm
  rw [hlen] at hperm
  unfold laid
  rw [h1]
  have hL : (List.range (mask + 1)).filterMap (fun j => (ow.getD j none).map (j, ·)) = lives mask ow := rfl
  simp only [Option.bind_eq_bind, Option.bind_some, Option.pure_def, hL]
  refine ⟨_, _, rfl, rfl, rfl, rfl, rfl, rfl, rfl, hperm, ?_⟩
  have hlist : ((((lives mask ow).map (·.2)).toArray).filterMap (es[·]?)).toList = ((lives mask ow).map (·.2)).filterMap (es[·]?) := by simp
  have hp2 : ((((lives mask ow).map (·.2)).toArray).filterMap (es[·]?)).toList.Perm es.toList := by
    rw [hlist]
    refine (hperm.filterMap _).trans ?_
    have : (List.range es.size).filterMap (fun i => es[i]?) = es.toList := by
      have h := fm_range es.toList
      rw [Array.length_toList] at h
      rw [← h]
      refine fm_congr _ fun x _ => (Array.getElem?_toList ..).symm ▸ ?_
      simp
    rw [this]
  refine ⟨hp2, ?_, ?_⟩
  · rw [← Array.length_toList, hp2.length_eq, Array.length_toList]
  · have hsub := lives_fst (fun j => ow.getD j none) (List.range (mask + 1))
    have htok : TOk { mask := mask, place := ((lives mask ow).map (·.1)).toArray, dummies := #[], finger := finger, led := led, moves := moves, plain := plain } := by
      refine ⟨?_, by simp, ?_, by simp, by simp, ⟨k, hk⟩, hb⟩
      · show (((lives mask ow).map (·.1)).toArray).toList.Pairwise (· < ·)
        exact List.Pairwise.sublist hsub List.pairwise_lt_range
      · intro j hj
        have := hsub.subset hj
        rw [List.mem_range] at this
        show j ≤ mask; lia
    have hmem : ∀ j, ow.getD j none ≠ none → j ∈ (lives mask ow).map (·.1) := by
      intro j hj
      have hjs : j < ow.size := by
        refine Nat.lt_of_not_le fun c => hj ?_
        simp [Array.getD, Nat.not_lt.mpr c]
      cases hg : ow.getD j none with
      | none => exact absurd hg hj
      | some i => exact List.mem_map.mpr ⟨(j, i), List.mem_filterMap.mpr ⟨j, List.mem_range.mpr (by rw [← inv.size]; exact hjs), by rw [hg]; rfl⟩, rfl⟩
    have hlt : ∀ p ∈ lives mask ow, ow.getD p.1 none = some p.2 := by
      intro p hp
      obtain ⟨j, _, hj⟩ := List.mem_filterMap.mp hp
      cases hg : ow.getD j none with
      | none => rw [hg] at hj; cases hj
      | some i => rw [hg] at hj; cases hj; exact hg
    have hin : ∀ p ∈ lives mask ow, p.2 < es.size := by
      intro p hp
      have : p.2 ∈ (lives mask ow).map (·.2) := List.mem_map.mpr ⟨p, hp, rfl⟩
      exact List.mem_range.mp (hperm.mem_iff.mp this)
    refine ⟨htok, ?_, ?_, ?_⟩
    · show (((lives mask ow).map (·.1)).toArray.size + 0) * 5 < mask * 3
      have := hperm.length_eq
      simp at this ⊢
      rw [this]; exact hroom
    · rw [hp2.length_eq]
      have := hperm.length_eq
      simp at this ⊢
      exact this
    · intro c hc
      rw [hlist] at hc
      obtain ⟨p, hp, e1, e2⟩ := zip_fm (fun i => es[i]?) (lives mask ow) (fun p hp => by
        rw [Array.getElem?_eq_getElem (hin p hp)]; exact fun c => by cases c) c hc
      obtain ⟨h', a1, n, a2, a3⟩ := inv.reach p.1 p.2 (hlt p hp)
      have hh : h' = c.2.1 := by
        rw [Array.toList_map, List.getElem?_map, Array.getElem?_toList, e2] at a1
        simpa using a1.symm
      subst hh
      refine ⟨n, by rw [e1]; exact a2, fun m hm hc => ?_⟩
      have := (slot_empty htok _).mp hc
      refine this.1 (hmem _ ?_)
      have h3 := a3 m hm
      rwa [getD_two _ _ (by rw [inv.size]; exact Nat.lt_succ_of_le (pos_le mask _ hk _ _))] at h3
end L2T

namespace L2T
open PySem SetTable

theorem slot_alike (t t' : SetTable) (h1 : t'.place = t.place) (h2 : t'.dummies = t.dummies) (j : Nat) : t'.slot j = t.slot j := by
  unfold slot; rw [h1, h2]

theorem reach_mono {t t' : SetTable} (hm : t'.mask = t.mask) (h : ∀ j, t.slot j ≠ .empty → t'.slot j ≠ .empty) {x : Int} {j : Nat} (hr : Reach t x j) : Reach t' x j := by
  obtain ⟨n, h1, h2⟩ := hr
  exact ⟨n, by rw [hm]; exact h1, fun m hm' => by rw [hm]; exact h _ (h2 m hm')⟩

theorem sok_alike {α : Type} {t t' : SetTable} {es : List (Int × α)} (h : SOk t es) (hm : t'.mask = t.mask) (h1 : t'.place = t.place) (h2 : t'.dummies = t.dummies) : SOk t' es := by
  obtain ⟨⟨a1, a2, a3, a4, a5, a6, a7⟩, b, c, d⟩ := h
  refine ⟨⟨by rw [h1]; exact a1, by rw [h2]; exact a2, by rw [h1, hm]; exact a3, by rw [h2, hm]; exact a4, by rw [h1, h2]; exact a5, by rw [hm]; exact a6, by rw [hm]; exact a7⟩, ?_, by rw [h1]; exact c, ?_⟩
  · unfold fill at *; rw [h1, h2, hm]; exact b
  · rw [h1]; intro x hx
    exact reach_mono hm (fun j hj => by rw [slot_alike t t' h1 h2]; exact hj) (d x hx)

theorem sok_fresh {α : Type} (finger moves : Nat) (led : Bool) : SOk (α := α) (fresh finger moves led) [] := by
  refine ⟨⟨by simp [SetTable.fresh], by simp [SetTable.fresh], by simp [SetTable.fresh], by simp [SetTable.fresh], by simp [SetTable.fresh], ⟨0, by simp [SetTable.fresh]⟩, by simp [SetTable.fresh]⟩, by simp [SetTable.fresh, SetTable.fill], by simp [SetTable.fresh], ?_⟩
  intro c hc; simp at hc

theorem sizeAbove_go (n : Nat) : ∀ (fuel size : Nat), (∃ k, size = 2 ^ (k + 3)) → n < size * 2 ^ fuel →
    (∃ k, sizeAbove.go n fuel size = 2 ^ (k + 3)) ∧ n < sizeAbove.go n fuel size ∧ (sizeAbove.go n fuel size ≤ size ∨ sizeAbove.go n fuel size ≤ 2 * n) := by
  intro fuel
  induction fuel with
  | zero => intro size hk hn; unfold sizeAbove.go; exact ⟨hk, by simpa using hn, .inl (Nat.le_refl _)⟩
  | succ fuel ih =>
    intro size hk hn
    unfold sizeAbove.go
    by_cases hc : size ≤ n
    · rw [if_pos hc]
      obtain ⟨k, hk⟩ := hk
      obtain ⟨h1, h2, h3⟩ := ih (size * 2) ⟨k + 1, by rw [hk, Nat.pow_succ, Nat.pow_succ, Nat.pow_succ, Nat.pow_succ, Nat.pow_succ, Nat.pow_succ, Nat.pow_succ]⟩ (by
        rw [Nat.pow_succ] at hn; rw [Nat.mul_assoc, Nat.mul_comm 2]; exact hn)
      refine ⟨h1, h2, .inr ?_⟩
      rcases h3 with h3 | h3 <;> omega
    · rw [if_neg hc]
      exact ⟨hk, by lia, .inl (Nat.le_refl _)⟩

theorem sizeAbove_ok (n : Nat) (hn : n ≤ 4095) : (∃ k, sizeAbove n - 1 + 1 = 2 ^ (k + 3)) ∧ n ≤ sizeAbove n - 1 ∧ 7 ≤ sizeAbove n - 1 ∧ sizeAbove n - 1 ≤ 8191 ∧ sizeAbove n ≤ 8192 := by
  obtain ⟨⟨k, h1⟩, h2, h3⟩ := sizeAbove_go n 64 8 ⟨0, by decide⟩ (Nat.lt_of_le_of_lt hn (by decide))
  have h1' : sizeAbove n = 2 ^ (k + 3) := h1
  have h2' : n < sizeAbove n := h2
  have h3' : sizeAbove n ≤ 8 ∨ sizeAbove n ≤ 2 * n := h3
  have hk : 8 ≤ 2 ^ (k + 3) := by rw [Nat.pow_add]; have := Nat.two_pow_pos k; lia
  refine ⟨⟨k, by omega⟩, by omega, by omega, by omega, by omega⟩

theorem relaid_ok {α : Type} (t : SetTable) (es : Array (Int × α)) (wanted : Nat) (h1 : 2 * es.size ≤ wanted) (h2 : wanted ≤ 4095) :
    ∃ t' order, t.relaid (es.map (·.1)) wanted = some (t', order) ∧ t'.dummies = #[] ∧ t'.mask = sizeAbove wanted - 1 ∧ t'.led = t.led ∧ t'.plain = t.plain ∧
      order.toList.Perm (List.range es.size) ∧ (order.filterMap (es[·]?)).toList.Perm es.toList ∧ (order.filterMap (es[·]?)).size = es.size ∧ SOk t' (order.filterMap (es[·]?)).toList := by
  obtain ⟨⟨k, hk⟩, a, b, c, _⟩ := sizeAbove_ok wanted h2
  obtain ⟨t', order, e1, e2, e3, e4, e5, e6, e7, e8, e9, e10, e11⟩ := laid_ok (sizeAbove wanted - 1) k hk c t.finger (t.movedTo (sizeAbove wanted - 1)) t.led t.plain es (by lia)
  exact ⟨t', order, e1, e3, e2, e4, e5, e8, e9, e10, e11⟩

theorem take_zip' {α β : Type} : ∀ (p : Nat) (l : List α) (m : List β), (l.zip m).take p = (l.take p).zip (m.take p) := by
  intro p
  induction p with
  | zero => intro l m; simp
  | succ p ih => intro l m; cases l with
    | nil => simp
    | cons a l => cases m with
      | nil => simp
      | cons b m => simp [ih]
theorem drop_zip' {α β : Type} : ∀ (p : Nat) (l : List α) (m : List β), (l.zip m).drop p = (l.drop p).zip (m.drop p) := by
  intro p
  induction p with
  | zero => intro l m; simp
  | succ p ih => intro l m; cases l with
    | nil => simp
    | cons a l => cases m with
      | nil => simp
      | cons b m => simp [ih]

theorem zip_insert {α β : Type} (p : Nat) (a : α) (b : β) : ∀ (l : List α) (m : List β), l.length = m.length →
    (l.take p ++ a :: l.drop p).zip (m.take p ++ b :: m.drop p) = (l.zip m).take p ++ (a, b) :: (l.zip m).drop p := by
  intro l m h
  rw [List.zip_append (by simp [h]), List.zip_cons_cons, ← take_zip', ← drop_zip']

theorem take_drop_perm {α : Type} (p : Nat) (a : α) (l : List α) : (l.take p ++ a :: l.drop p).Perm (a :: l) := by
  have h : (l.take p ++ a :: l.drop p).Perm (a :: (l.take p ++ l.drop p)) := List.perm_middle
  rw [List.take_append_drop] at h; exact h

theorem mem_erase_at (xs : Array Nat) (i : Nat) (j : Nat) (hp : xs.toList.Pairwise (· < ·)) (h : xs[i]? = some j) (x : Nat) : x ∈ (eraseAt xs i).toList ↔ x ∈ xs.toList ∧ x ≠ j := by
  rw [eraseAt_list]
  rw [← Array.getElem?_toList] at h
  obtain ⟨hi, hx⟩ := List.getElem?_eq_some_iff.mp h
  have hsp : xs.toList = xs.toList.take i ++ j :: xs.toList.drop (i + 1) := by
    rw [← hx, List.getElem_cons_drop, List.take_append_drop]
  have hp' := hp
  rw [hsp, List.pairwise_append, List.pairwise_cons] at hp'
  obtain ⟨p1, ⟨p2, p3⟩, p4⟩ := hp'
  rw [List.mem_append]
  constructor
  · rintro (h1 | h1)
    · have := p4 x h1 j (.head _); exact ⟨List.mem_of_mem_take h1, by lia⟩
    · have := p2 x h1; exact ⟨List.mem_of_mem_drop h1, by lia⟩
  · rintro ⟨h1, h2⟩
    rw [hsp, List.mem_append] at h1
    rcases h1 with h1 | h1
    · exact .inl h1
    · rcases List.mem_cons.mp h1 with e | e
      · exact absurd e h2
      · exact .inr e

theorem put_ok {α : Type} (t : SetTable) (es : Array (Int × α)) (h : Int) (x : α) (s : Nat) (ok : SOk t es.toList) (hs : t.slot s = .empty ∨ t.slot s = .dummy) (hm : s ≤ t.mask) (hr : Reach t h s) :
    TOk (t.put s).1 ∧ (t.put s).1.mask = t.mask ∧ (t.put s).1.place.size = (insertAt es (t.put s).2 (h, x)).size ∧
    (∀ c ∈ (t.put s).1.place.toList.zip (insertAt es (t.put s).2 (h, x)).toList, Reach (t.put s).1 c.2.1 c.1) ∧
    (t.put s).1.fill ≤ t.fill + 1 ∧ (t.slot s = .dummy → (t.put s).1.fill = t.fill) ∧ (insertAt es (t.put s).2 (h, x)).toList.Perm ((h, x) :: es.toList) ∧
    (t.put s).1.led = t.led ∧ (t.put s).1.plain = t.plain := by
  obtain ⟨⟨a1, a2, a3, a4, a5, a6, a7⟩, b, c, d⟩ := ok
  have tok : TOk t := ⟨a1, a2, a3, a4, a5, a6, a7⟩
  have hnp : s ∉ t.place.toList := by
    rcases hs with hs | hs
    · exact ((slot_empty tok s).mp hs).1
    · exact a5 s ((slot_dummy tok s).mp hs)
  have hb := (below_spec t.place s a1).1
  have hbe : below t.place s ≤ es.size := by have : t.place.size = es.size := by simpa using c
                                             lia
  have hd' : ∀ y, y ∈ (if has t.dummies s = true then eraseAt t.dummies (below t.dummies s) else t.dummies).toList ↔ y ∈ t.dummies.toList ∧ y ≠ s := by
    intro y
    by_cases hh : has t.dummies s = true
    · rw [if_pos hh]
      exact mem_erase_at t.dummies _ s a2 ((below_mem _ _ a2).mpr ((has_iff _ _ a2).mp hh)) y
    · rw [if_neg hh]
      exact ⟨fun hy => ⟨hy, fun e => hh ((has_iff _ _ a2).mpr (e ▸ hy))⟩, fun hy => hy.1⟩
  have hpl : (t.put s).1.place.toList = t.place.toList.take (below t.place s) ++ s :: t.place.toList.drop (below t.place s) := insertAt_list _ _ _ hb
  have hmp : ∀ y, y ∈ (t.put s).1.place.toList ↔ y = s ∨ y ∈ t.place.toList := by
    intro y; rw [hpl, (take_drop_perm _ _ _).mem_iff, List.mem_cons]
  have hmd : ∀ y, y ∈ (t.put s).1.dummies.toList ↔ y ∈ t.dummies.toList ∧ y ≠ s := hd'
  have htok : TOk (t.put s).1 := by
    refine ⟨insertAt_below _ _ a1 hnp, ?_, ?_, ?_, ?_, a6, a7⟩
    · show (if has t.dummies s = true then eraseAt t.dummies (below t.dummies s) else t.dummies).toList.Pairwise (· < ·)
      split
      · rw [eraseAt_list]
        refine List.Pairwise.sublist ?_ a2
        have : (t.dummies.toList.take (below t.dummies s) ++ t.dummies.toList.drop (below t.dummies s + 1)).Sublist (t.dummies.toList.take (below t.dummies s) ++ t.dummies.toList.drop (below t.dummies s)) :=
          List.Sublist.append (List.Sublist.refl _) (by rw [← List.drop_drop]; exact List.drop_sublist _ _)
        rw [List.take_append_drop] at this; exact this
      · exact a2
    · intro j hj; rcases (hmp j).mp hj with e | e
      · rw [e]; exact hm
      · exact a3 j e
    · intro j hj; exact a4 j ((hmd j).mp hj).1
    · intro j hj hc
      rcases (hmp j).mp hc with e | e
      · exact ((hmd j).mp hj).2 e
      · exact a5 j ((hmd j).mp hj).1 e
  have hmono : ∀ j, t.slot j ≠ .empty → (t.put s).1.slot j ≠ .empty := by
    intro j hj hc
    obtain ⟨c1, c2⟩ := (slot_empty htok j).mp hc
    refine hj ((slot_empty tok j).mpr ⟨fun e => c1 ((hmp j).mpr (.inr e)), fun e => ?_⟩)
    by_cases he : j = s
    · exact c1 ((hmp j).mpr (.inl he))
    · exact c2 ((hmd j).mpr ⟨e, he⟩)
  refine ⟨htok, rfl, ?_, ?_, ?_, ?_, ?_, rfl, rfl⟩
  · show (insertAt t.place (below t.place s) s).size = (insertAt es (below t.place s) (h, x)).size
    rw [← Array.length_toList, ← Array.length_toList, insertAt_list _ _ _ hb, insertAt_list _ _ _ hbe, (take_drop_perm _ _ _).length_eq, (take_drop_perm _ _ _).length_eq]
    simpa using c
  · intro e he
    rw [hpl] at he
    have he' : e ∈ (t.place.toList.take (below t.place s) ++ s :: t.place.toList.drop (below t.place s)).zip (insertAt es (below t.place s) (h, x)).toList := he
    rw [insertAt_list _ _ _ hbe, zip_insert _ _ _ _ _ (by simpa using c), (take_drop_perm _ _ _).mem_iff, List.mem_cons] at he'
    rcases he' with e1 | e1
    · rw [e1]; exact reach_mono (t := t) (t' := (t.put s).1) rfl hmono hr
    · exact reach_mono (t := t) (t' := (t.put s).1) rfl hmono (d e e1)
  · show (insertAt t.place (below t.place s) s).size + (if has t.dummies s = true then eraseAt t.dummies (below t.dummies s) else t.dummies).size ≤ t.fill + 1
    have h1 : (insertAt t.place (below t.place s) s).size = t.place.size + 1 := by
      rw [← Array.length_toList, insertAt_list _ _ _ hb, (take_drop_perm _ _ _).length_eq]; simp
    have h2 : (if has t.dummies s = true then eraseAt t.dummies (below t.dummies s) else t.dummies).size ≤ t.dummies.size := by
      split
      · rw [← Array.length_toList, eraseAt_list]; simp; omega
      · exact Nat.le_refl _
    unfold fill; lia
  · intro hdm
    show (insertAt t.place (below t.place s) s).size + (if has t.dummies s = true then eraseAt t.dummies (below t.dummies s) else t.dummies).size = t.fill
    have h1 : (insertAt t.place (below t.place s) s).size = t.place.size + 1 := by
      rw [← Array.length_toList, insertAt_list _ _ _ hb, (take_drop_perm _ _ _).length_eq]; simp
    have hin := (slot_dummy tok s).mp hdm
    rw [if_pos ((has_iff _ _ a2).mpr hin)]
    have hlt := (Array.getElem?_eq_some_iff.mp ((below_mem _ _ a2).mpr hin)).1
    have h2 : (eraseAt t.dummies (below t.dummies s)).size + 1 = t.dummies.size := by
      rw [← Array.length_toList, eraseAt_list]; simp; lia
    unfold fill; lia
  · show (insertAt es (below t.place s) (h, x)).toList.Perm ((h, x) :: es.toList)
    rw [insertAt_list _ _ _ hbe]; exact take_drop_perm _ _ _

end L2T

namespace L2
open PySem PySem.Spec PyProof.Rows L2T

inductive SK where
  | one (k : Key)
  | many (ks : List Key)
  deriving DecidableEq
noncomputable def SK.flat : SK → Bool
  | .one _ => true
  | .many _ => false
section
variable (prog : Program) (w : World)
noncomputable def SK.is (h : Heap) : SK → Value → Prop
  | .one k, v => (mixKind prog w).is k v = true
  | .many ks, v => ∃ a, v = .ref a ∧ IsTupleKey (mixKind prog w) h ks a
noncomputable def SK.hash : SK → Int
  | .one k => (mixKind prog w).hash k
  | .many ks => tupleKeyHash (mixKind prog w) ks
inductive Es (h : Heap) : List SK → List (Int × Value) → Prop
  | nil : Es h [] []
  | cons {k : SK} {e : Int × Value} {ks : List SK} {es : List (Int × Value)} : e.1 = k.hash prog w → k.is prog w h e.2 → Es h ks es → Es h (k :: ks) (e :: es)
noncomputable def KeepT (h h' : Heap) : Prop := ∀ b o, o.cls = .type "tuple" → h.get? b = some o → h'.get? b = some o
noncomputable def led0 : Bool := !w.params.followText "set-order"
structure SetO (h : Heap) (o : Obj) (ks : List SK) (es : Array (Int × Value)) (ep : Nat) (t : SetTable) : Prop where
  ex : o.ExactSet
  data : o.data = .set es ep t
  tab : SOk t es.toList
  ent : Es prog w h ks es.toList
  nod : ks.Nodup
  small : ks.length ≤ 1000
  led : t.led = led0 w
  kind : ∃ f, ∀ k ∈ ks, k.flat = f
noncomputable def SetE (h : Heap) (a : Addr) (ks : List SK) (es : Array (Int × Value)) : Prop := ∃ o ep t, h.get? a = some o ∧ SetO prog w h o ks es ep t
end
section
variable {prog : Program} {w : World} {h h' : Heap}
theorem SK.is_mono {k : SK} {v : Value} (K : KeepT h h') (x : k.is prog w h v) : k.is prog w h' v := by
  cases k with
  | one k => exact x
  | many ks =>
    obtain ⟨a, rfl, o, its, n, e, c, d, i⟩ := x
    exact ⟨a, rfl, o, its, n, K a o c e, c, d, i⟩
theorem Es.mono {ks : List SK} {es : List (Int × Value)} (K : KeepT h h') (x : Es prog w h ks es) : Es prog w h' ks es := by
  induction x with
  | nil => exact .nil
  | cons a b _ ih => exact .cons a (SK.is_mono K b) ih
theorem Es.length {ks : List SK} {es : List (Int × Value)} (x : Es prog w h ks es) : ks.length = es.length := by
  induction x with
  | nil => rfl
  | cons a b _ ih => simp [ih]
theorem Es.get {ks : List SK} {es : List (Int × Value)} (x : Es prog w h ks es) : ∀ (i : Nat) (e : Int × Value), es[i]? = some e → ∃ k, ks[i]? = some k ∧ e.1 = k.hash prog w ∧ k.is prog w h e.2 := by
  induction x with
  | nil => intro i e he; simp at he
  | cons a b _ ih =>
    intro i e he
    cases i with
    | zero => simp at he; subst he; exact ⟨_, rfl, a, b⟩
    | succ i => exact ih i e he
theorem Es.perm {ks : List SK} {es es' : List (Int × Value)} (x : Es prog w h ks es) (p : es'.Perm es) : ∃ ks', ks'.Perm ks ∧ Es prog w h ks' es' := by
  have p' := p.symm
  clear p
  induction p' generalizing ks with
  | nil => exact ⟨ks, .refl _, x⟩
  | cons e _ ih =>
    cases x with
    | cons a b y =>
      obtain ⟨k2, q, z⟩ := ih y
      exact ⟨_ :: k2, q.cons _, .cons a b z⟩
  | swap e f l =>
    cases x with
    | cons a b y => cases y with
      | cons c d z => exact ⟨_ :: _ :: _, List.Perm.swap _ _ _, .cons c d (.cons a b z)⟩
  | trans _ _ ih1 ih2 =>
    obtain ⟨k1, q1, z1⟩ := ih1 x
    obtain ⟨k2, q2, z2⟩ := ih2 z1
    exact ⟨k2, q2.trans q1, z2⟩
theorem SetO.fits {o : Obj} {ks : List SK} {es : Array (Int × Value)} {ep : Nat} {t : SetTable} (S : SetO prog w h o ks es ep t) : t.fits es.size = true := by
  have h1 := S.tab.size
  have h2 := S.tab.room
  simp only [SetTable.fits, Bool.and_eq_true, beq_iff_eq, decide_eq_true_eq]
  exact ⟨by simpa using h1, by lia⟩
theorem SetO.mono {o : Obj} {ks : List SK} {es : Array (Int × Value)} {ep : Nat} {t : SetTable} (K : KeepT h h') (S : SetO prog w h o ks es ep t) : SetO prog w h' o ks es ep t :=
  ⟨S.ex, S.data, S.tab, S.ent.mono K, S.nod, S.small, S.led, S.kind⟩
theorem keepT_sameBut {a : Addr} {o : Obj} {es : Array (Int × Value)} {ep : Nat} {t : SetTable} (ho : h.get? a = some o) (hd : o.ExactSet) (hs : Heap.SameBut a h h') : KeepT h h' := by
  intro b u c e
  have hne : b ≠ a := by
    rintro rfl
    rw [ho] at e; cases e
    rw [hd.1] at c; exact absurd c (by decide)
  exact (hs.2 b hne).trans e
end
end L2

namespace L2
open PySem PySem.Spec PyProof.Rows L2T
theorem same_ref (b : Addr) : isSame (.ref b) (.ref b) = pure true := by
  show (if (b == b) = true then (pure true : Sem Bool) else _) = _
  rw [if_pos (beq_self_eq_true b)]
section
variable {prog : Program} {w : World} {A : Around} {E : Value → Shared → Prop} {s : Shared}
theorem state_w {M : Model} {a : Addr} {o : Obj} {ks : List SK} {es : Array (Int × Value)} {ep : Nat} {t : SetTable} {Q : Array (Int × Value) × Nat × SetTable → Shared → Prop}
    (ho : s.heap.get? a = some o) (S : SetO prog w s.heap o ks es ep t) (q : Q (es, ep, t) s) : wpAny (model prog w) A (setState a) Q E s :=
  wpAny_setState_of ho S.data S.fits q
theorem quietT {ks : List Key} {v : Value} {a : Addr} {Q : Bool → Shared → Prop} (hk : IsTupleKey (mixKind prog w) s.heap ks a) (h : Q false s) : wpAny (model prog w) A (ofAClassStatement 8 (.ref a)) Q E s := by
  have hT := hk.typeIs
  obtain ⟨o, its, n, ho, _, hd, hi⟩ := hk
  unfold ofAClassStatement
  refine wpAny_bind (wpAny_typeOf hT ?_)
  show wpAny _ _ ((if ("tuple" == "tuple") = true then pure true else isSubtype (.type "tuple") (.type "tuple")) >>= _) Q E s
  refine wpAny_bind (wpAny_pure ?_)
  show wpAny _ _ (seqItems? (.ref a) >>= _) Q E s
  refine wpAny_bind (wpAny_seqItems ho hd ?_)
  show wpAny _ _ (forIn its _ _ >>= _) Q E s
  refine wpAny_bind ?_
  rw [← Array.forIn_toList]
  refine wpAny_forIn_list _ (fun rest r s' => r.1 = none ∧ s' = s ∧ ∀ v ∈ rest, carriedByValue v = true) _ ?_ ?_ _ _ ⟨rfl, rfl, hi.byValue⟩
  · rintro v rest r s' ⟨hr, rfl, hall⟩
    have hv := hall v List.mem_cons_self
    have e : ofAClassStatement 7 v = pure false := by
      cases v <;> first | rfl | (simp [carriedByValue] at hv)
    show wpAny _ _ (ofAClassStatement 7 v >>= _) _ _ _
    rw [e]
    refine wpAny_bind (wpAny_pure ?_)
    simp only [Bool.false_eq_true, if_false]
    exact wpAny_pure ⟨rfl, rfl, fun u hu' => hall u (List.mem_cons_of_mem _ hu')⟩
  · rintro ⟨r1, r2⟩ s' ⟨hr, rfl, _⟩
    simp only at hr
    subst hr
    exact wpAny_pure h
theorem unseen_w {kk : List Key} {a : Addr} {Q : Bool → Shared → Prop} (hk : IsTupleKey (mixKind prog w) s.heap kk a) (h : Q false s) :
    ∀ ys : List Value, (∀ y ∈ ys, ∃ b ks, y = .ref b ∧ IsTupleKey (mixKind prog w) s.heap ks b) → wpAny (model prog w) A (searchCouldBeSeen (.ref a) ys) Q E s := by
  intro ys hys
  unfold searchCouldBeSeen
  refine wpAny_bind ?_
  refine wpAny_forIn_list _ (fun rest r s' => r.1 = none ∧ s' = s ∧ ∀ y ∈ rest, ∃ b ks, y = .ref b ∧ IsTupleKey (mixKind prog w) s.heap ks b) _ ?_ ?_ _ _ ⟨rfl, rfl, hys⟩
  · rintro y rest r s' ⟨hr, rfl, hall⟩
    obtain ⟨b, ks, rfl, hb⟩ := hall y List.mem_cons_self
    have hrest : ∀ y ∈ rest, ∃ b ks, y = .ref b ∧ IsTupleKey (mixKind prog w) s'.heap ks b := fun y hy => hall y (List.mem_cons_of_mem _ hy)
    dsimp only
    by_cases hab : (a == b) = true
    · rw [if_pos (by rw [hab]; rfl)]
      exact wpAny_pure ⟨rfl, rfl, hrest⟩
    · rw [if_neg (by rw [Bool.not_eq_true] at hab; rw [hab]; simp [carriedByValue])]
      refine wpAny_bind (wpAny_eqIsQuiet_tuple hk ?_)
      simp only [Bool.not_true, Bool.false_eq_true, if_false]
      refine wpAny_bind (wpAny_eqIsQuiet_tuple hb ?_)
      simp only [Bool.not_true, Bool.false_eq_true, if_false]
      refine wpAny_bind (quietT (v := .none) hk ?_)
      simp only [Bool.false_eq_true, if_false]
      refine wpAny_bind (quietT (v := .none) hb ?_)
      simp only [Bool.false_eq_true, if_false]
      exact wpAny_pure ⟨rfl, rfl, hrest⟩
  · rintro ⟨r1, r2⟩ s' ⟨hr, rfl, _⟩
    simp only at hr
    subst hr
    exact wpAny_pure h

theorem search_w {a : Addr} {o : Obj} {ks : List SK} {es : Array (Int × Value)} {ep : Nat} {t : SetTable} {x : Value} {kk : List Key} {adding : Bool} {Q : SetFound → Shared → Prop} (hu : A.units < cLine)
    (ho : s.heap.get? a = some o) (S : SetO prog w s.heap o ks es ep t) (hk : ∀ k ∈ ks, k.flat = false) (hx : (SK.many kk).is prog w s.heap x)
    (found : ∀ i, ks[i]? = some (.many kk) → Q (.there (if adding then none else some i)) s)
    (free : SK.many kk ∉ ks → ∀ sl wd, sl ≤ t.mask → Reach t (SK.hash prog w (.many kk)) sl → (wd = true → t.slot sl = .dummy) → (wd = false → t.slot sl = .empty) → Q (.free sl wd) s) :
    ∀ (fuel n : Nat) (stand : Option SetTable.Probe), (stand = none → n = 0) →
      (∀ p, stand = some p → SameP p (prM t.mask (SK.hash prog w (.many kk)) n) ∧ (p.dummy = none ∨ ∃ q, q < n ∧ p.dummy = some (posM t.mask (SK.hash prog w (.many kk)) q) ∧ t.slot (posM t.mask (SK.hash prog w (.many kk)) q) = .dummy)) →
      (∀ q, q < n → t.slot (posM t.mask (SK.hash prog w (.many kk)) q) ≠ .empty ∧ ∀ i, t.slot (posM t.mask (SK.hash prog w (.many kk)) q) = .live i → ks[i]? ≠ some (.many kk)) →
      (∃ N, n ≤ N ∧ N < n + fuel ∧ N < 10 * SetTable.turns t.mask ∧ t.slot (posM t.mask (SK.hash prog w (.many kk)) N) = .empty) →
      wpAny (model prog w) A (setSearchFrom a x (SK.hash prog w (.many kk)) adding fuel stand) Q E s := by
  generalize hH : SK.hash prog w (.many kk) = hh at *
  have tok := S.tab.ok
  obtain ⟨kp, hpow⟩ := tok.pow
  obtain ⟨ax, rfl, hax⟩ := hx
  have hgw : t.gaveWay = false := by
    unfold SetTable.gaveWay
    rw [Nat.pow_succ] at hpow
    rw [beq_eq_false_iff_ne]; lia
  have hent : ∀ (i : Nat) (h : Int) (y : Value), es[i]? = some (h, y) → ∃ (b : Addr) (k2 : List Key), y = Value.ref b ∧ IsTupleKey (mixKind prog w) s.heap k2 b ∧ ks[i]? = some (SK.many k2) ∧ h = SK.hash prog w (SK.many k2) := by
    intro i h y he
    obtain ⟨k, h1, h2, h3⟩ := S.ent.get i (h, y) (by rw [Array.getElem?_toList]; exact he)
    have hf := hk k (List.mem_of_getElem? h1)
    cases k with
    | one k => simp [SK.flat] at hf
    | many k2 => obtain ⟨b, rfl, hb⟩ := h3; exact ⟨b, k2, rfl, hb, h1, h2⟩
  intro fuel
  induction fuel with
  | zero => rintro n stand _ _ _ ⟨N, h1, h2, _⟩; lia
  | succ fuel ih =>
    rintro n stand hst hsp hq ⟨N, n1, n2, n3, n4⟩
    unfold setSearchFrom
    refine wpAny_bind (state_w (M := model prog w) ho S ?_)
    dsimp only
    rw [hgw]
    simp only [Bool.false_eq_true, if_false]
    have hstart : SameP (stand.getD (t.probeStart hh)) (prM t.mask hh n) ∧ ((stand.getD (t.probeStart hh)).dummy = none ∨ ∃ q, q < n ∧ (stand.getD (t.probeStart hh)).dummy = some (posM t.mask hh q) ∧ t.slot (posM t.mask hh q) = .dummy) := by
      cases stand with
      | none => rw [hst rfl]; exact ⟨⟨rfl, rfl, rfl, rfl⟩, .inl rfl⟩
      | some p => exact hsp p rfl
    obtain ⟨m, m1, m2, d, hd, hr⟩ := probe_go t (fun i => (es[i]?.map (·.1)).getD 0) hh (10 * SetTable.turns t.mask) _ n hstart.1 ⟨N, n1, by lia, n4⟩
    have hd' : d = none ∨ ∃ q, q < m ∧ d = some (posM t.mask hh q) ∧ t.slot (posM t.mask hh q) = .dummy := by
      rcases hd with hd | ⟨q, q1, q2, q3, q4⟩
      · rcases hstart.2 with e | ⟨q, q1, q2, q3⟩
        · exact .inl (hd.trans e)
        · exact .inr ⟨q, by lia, hd.trans q2, q3⟩
      · exact .inr ⟨q, q2, q3, q4⟩
    have hne : ∀ q, q < m → t.slot (posM t.mask hh q) ≠ .empty := fun q hqm => by
      rcases Nat.lt_or_ge q n with hl | hl
      · exact (hq q hl).1
      · exact (m2 q hl hqm).1
    rcases hr with ⟨hemp, hr⟩ | ⟨i, nx, hlive, hhash, hr, hsn, hdn⟩
    · -- an empty slot: it is not there
      have habs : SK.many kk ∉ ks := by
        intro hin
        obtain ⟨i, hi⟩ := List.mem_iff_getElem?.mp hin
        have hil : i < ks.length := (List.getElem?_eq_some_iff.mp hi).1
        have hie : i < es.size := by have := S.ent.length; simp at this; lia
        have hip : i < t.place.size := by have := S.tab.size; simp at this; lia
        have hpl : t.place[i]? = some t.place[i] := Array.getElem?_eq_getElem hip
        have hes : es[i]? = some es[i] := Array.getElem?_eq_getElem hie
        obtain ⟨b, k2, hy, hb, hki, hhi⟩ := hent i es[i].1 es[i].2 hes
        have hkk : k2 = kk := by rw [hi] at hki; cases hki; rfl
        subst hkk
        have hreach := S.tab.reach (t.place[i], es[i]) (by
          rw [List.mem_iff_getElem?]
          refine ⟨i, ?_⟩
          rw [List.getElem?_zip_eq_some]
          exact ⟨by rw [Array.getElem?_toList]; exact hpl, by rw [Array.getElem?_toList]; exact hes⟩)
        obtain ⟨n', e1, e2⟩ := hreach
        dsimp only at e1 e2
        rw [hhi, hH] at e1 e2
        have hl : t.slot (posM t.mask hh n') = .live i := by rw [e1]; exact (slot_live tok _ i).mpr hpl
        rcases Nat.lt_trichotomy n' m with c | c | c
        · rcases Nat.lt_or_ge n' n with c2 | c2
          · exact (hq n' c2).2 i hl hi
          · refine (m2 n' c2 c).2 i hl ?_
            rw [hes]; show es[i].1 = hh; rw [hhi, hH]
        · subst c; rw [hl] at hemp; cases hemp
        · exact e2 m c hemp
      generalize hX : t.probe _ hh _ = pX
      have hX2 := hX.symm.trans hr
      subst hX2
      rcases hd' with rfl | ⟨q, q1, rfl, q2⟩
      · exact wpAny_pure (free habs _ false (pos_le _ _ hpow hh m) ⟨m, rfl, hne⟩ (fun e => by cases e) (fun _ => hemp))
      · dsimp only
        rw [q2]
        have : (adding && (SetTable.Slot.dummy != SetTable.Slot.dummy)) = false := by cases adding <;> decide
        rw [this]
        simp only [Bool.false_eq_true, if_false]
        exact wpAny_pure (free habs _ true (pos_le _ _ hpow hh q) ⟨q, rfl, fun m' hm' => hne m' (by lia)⟩ (fun _ => q2) (fun e => by cases e))
    · have hpl := (slot_live tok _ i).mp hlive
      have hip : i < t.place.size := (Array.getElem?_eq_some_iff.mp hpl).1
      have hie : i < es.size := by have := S.tab.size; simp at this; lia
      have hes : es[i]? = some es[i] := Array.getElem?_eq_getElem hie
      obtain ⟨b, k2, hy, hb, hki, hhi⟩ := hent i es[i].1 es[i].2 hes
      generalize hX : t.probe _ hh _ = pX
      have hX2 := hX.symm.trans hr
      subst hX2
      dsimp only
      have hall : ∀ y ∈ (es.filter (·.1 == hh)).toList.map (·.2), ∃ (b : Addr) (k3 : List Key), y = Value.ref b ∧ IsTupleKey (mixKind prog w) s.heap k3 b := by
        intro y hy
        obtain ⟨e, he, rfl⟩ := List.mem_map.mp hy
        have he' := (Array.mem_filter.mp (Array.mem_toList_iff.mp he)).1
        obtain ⟨j, hj⟩ := List.mem_iff_getElem?.mp (Array.mem_toList_iff.mpr he')
        rw [Array.getElem?_toList] at hj
        obtain ⟨b, k3, hy, hb, _⟩ := hent j e.1 e.2 hj
        exact ⟨b, k3, hy, hb⟩
      by_cases hl : t.led = true
      case' pos => simp only [hl, Bool.not_true, Bool.false_eq_true, if_false]
      case' neg =>
        rw [Bool.not_eq_true] at hl
        simp only [hl, Bool.not_false, if_true]
        refine wpAny_bind (unseen_w hax ?_ _ hall)
        simp only [Bool.false_eq_true, if_false]
      all_goals
          rw [hes]
          dsimp only
          rw [hy]
          refine wpAny_bind (wpAny_holding (wpAny_eqBool_tuple hu hb hax ?_))
          refine wpAny_bind (state_w (M := model prog w) ho S ?_)
          dsimp only
          by_cases hkk : k2 = kk
          · subst hkk
            have hQ := found i hki
            rw [decide_eq_true rfl]
            cases adding with
            | true => exact wpAny_pure hQ
            | false =>
              have hsm : t.sameMemory t.moves t.mask = some true := by unfold SetTable.sameMemory; simp
              simp only [Bool.false_and, Bool.false_eq_true, if_false, hsm, if_true, hlive, hes, hy]
              have hself := same_ref b
              rw [hself]
              exact wpAny_bind (wpAny_pure (wpAny_bind (wpAny_pure (wpAny_pure hQ))))
          · rw [decide_eq_false hkk]
            have hsm : t.sameMemory t.moves t.mask = some true := by unfold SetTable.sameMemory; simp
            simp only [Bool.and_false, Bool.false_eq_true, if_false, hsm, if_true, hlive, hes, hy]
            have hself := same_ref b
            rw [hself]
            refine wpAny_bind (wpAny_pure (wpAny_bind (wpAny_pure ?_)))
            have hmN : m < N := by
              refine Nat.lt_of_not_le fun c => ?_
              rcases Nat.eq_or_lt_of_le c with e | e
              · rw [← e, n4] at hlive; cases hlive
              · exact hne N e n4
            refine ih (m + 1) (some nx) (fun e => by cases e) (fun p hp => ?_) (fun q hqm => ?_) ⟨N, by lia, by lia, n3, n4⟩
            · cases hp
              refine ⟨hsn, ?_⟩
              rw [hdn]
              rcases hd' with e | ⟨q, q1, q2, q3⟩
              · exact .inl e
              · exact .inr ⟨q, by lia, q2, q3⟩
            · rcases Nat.lt_or_ge q m with c | c
              · refine ⟨hne q c, fun j hj hkj => ?_⟩
                rcases Nat.lt_or_ge q n with c2 | c2
                · exact (hq q c2).2 j hj hkj
                · have hpj := (slot_live tok _ j).mp hj
                  have hjp : j < t.place.size := (Array.getElem?_eq_some_iff.mp hpj).1
                  have hje : j < es.size := by have := S.tab.size; simp at this; lia
                  have hej : es[j]? = some es[j] := Array.getElem?_eq_getElem hje
                  obtain ⟨_, k3, _, _, hkj', hhj⟩ := hent j es[j].1 es[j].2 hej
                  rw [hkj] at hkj'; cases hkj'
                  refine (m2 q c2 c).2 j hj ?_
                  rw [hej]; show es[j].1 = hh; rw [hhj, hH]
              · have : q = m := by lia
                subst this
                refine ⟨by rw [hlive]; exact fun e => (by cases e), fun j hj hkj => ?_⟩
                rw [hlive] at hj; cases hj
                rw [hki] at hkj; cases hkj; exact hkk rfl
end
end L2

namespace L2
open PySem PySem.Spec PyProof.Rows L2T
section
variable {prog : Program} {w : World} {h : Heap}
theorem put_get {a : Addr} {o : Obj} {es : Array (Int × Value)} {ep : Nat} {t : SetTable} (ho : h.get? a = some o) (hd : o.data = .set es ep t) (e1 : Array (Int × Value)) (t1 : SetTable) :
    (h.update a (Obj.putSet e1 t1)).get? a = some { o with data := .set e1 (ep + 1) t1 } := by
  have z := Heap.get?_update_self (Obj.putSet e1 t1) ho (by rw [putSet_of e1 t1 hd]; rfl)
  rw [putSet_of e1 t1 hd] at z
  exact z
theorem Es.flats {ks : List SK} {es : List (Int × Value)} (x : Es prog w h ks es) (hf : ∀ k ∈ ks, k.flat = true) : ElemsOf (mixKind prog w) es := by
  intro e he
  obtain ⟨i, hi⟩ := List.mem_iff_getElem?.mp he
  obtain ⟨k, a, b, c⟩ := x.get i e hi
  have hk := hf k (List.mem_of_getElem? a)
  cases k with
  | many _ => simp [SK.flat] at hk
  | one k =>
    refine ⟨⟨k, c, b⟩, ?_⟩
    rcases keyIs_shape c with ⟨j, t, _, e2⟩ | ⟨y, t, _, e2⟩ <;> rw [e2] <;> rfl
theorem flat_scan {k : Key} {x : Value} (hx : SK.is prog w h (.one k) x) : x.scannable = true := by
  rcases keyIs_shape hx with ⟨j, t, _, e2⟩ | ⟨y, t, _, e2⟩ <;> rw [e2] <;> rfl
theorem Es.idx {ks : List SK} {es : List (Int × Value)} (x : Es prog w h ks es) (hf : ∀ k ∈ ks, k.flat = true) (k : Key) :
    (∀ j, es.findIdx? (fun e => (mixKind prog w).is k e.2) = some j → ks[j]? = some (.one k)) ∧ (es.findIdx? (fun e => (mixKind prog w).is k e.2) = none → SK.one k ∉ ks) := by
  constructor
  · intro j hj
    obtain ⟨h1, h2, _⟩ := List.findIdx?_eq_some_iff_getElem.mp hj
    obtain ⟨k', a, b, c⟩ := x.get j es[j] (List.getElem?_eq_getElem h1)
    have hk := hf k' (List.mem_of_getElem? a)
    cases k' with
    | many _ => simp [SK.flat] at hk
    | one k' => rw [a, (mixKind prog w).inj _ _ _ c h2]
  · intro hn hin
    obtain ⟨i, hi⟩ := List.mem_iff_getElem?.mp hin
    have hil : i < es.length := by rw [← x.length]; exact (List.getElem?_eq_some_iff.mp hi).1
    obtain ⟨k', a, b, c⟩ := x.get i es[i] (List.getElem?_eq_getElem hil)
    rw [hi] at a; cases a
    have := List.findIdx?_eq_none_iff.mp hn es[i] (List.getElem_mem hil)
    rw [show (mixKind prog w).is k es[i].2 = true from c] at this; cases this
theorem layNew_ok {es : Array (Int × Value)} {t : SetTable} (ok : SOk t es.toList) (hh : Int) (x : Value) :
    ∃ sl wd, layNew t es hh x = (SetTable.insertAt es (t.put sl).2 (hh, x), (t.put sl).1, wd, false) ∧ sl ≤ t.mask ∧ Reach t hh sl ∧ (wd = true → t.slot sl = .dummy) ∧ (wd = false → t.slot sl = .empty) := by
  obtain ⟨kp, hpow⟩ := ok.ok.pow
  obtain ⟨e, he, hemp⟩ := some_empty ok.ok (by have := ok.room; lia)
  obtain ⟨N, hN, hp⟩ := pos_all t.mask _ hpow hh e he
  obtain ⟨m, m1, m2, d, hd, hr⟩ := probe_go t (fun _ => hh + 1) hh (10 * SetTable.turns t.mask) (t.probeStart hh) 0 ⟨rfl, rfl, rfl, rfl⟩ ⟨N, Nat.zero_le _, by lia, by rw [hp]; exact hemp⟩
  rcases hr with ⟨h1, h2⟩ | ⟨i, nx, _, h2, _⟩
  · have hfs : t.freeSlot hh = some (d.getD (posM t.mask hh m), d.isSome) := by
      unfold SetTable.freeSlot SetTable.probe
      rw [h2]
    have key : ∃ sl wd, t.freeSlot hh = some (sl, wd) ∧ sl ≤ t.mask ∧ Reach t hh sl ∧ (wd = true → t.slot sl = .dummy) ∧ (wd = false → t.slot sl = .empty) := by
      rcases hd with hd | ⟨q, q1, q2, q3, q4⟩
      · have : d = none := hd
        subst this
        exact ⟨_, _, hfs, pos_le _ _ hpow hh m, ⟨m, rfl, fun q hq => (m2 q (Nat.zero_le _) hq).1⟩, (fun e => by cases e), fun _ => h1⟩
      · subst q3
        exact ⟨_, _, hfs, pos_le _ _ hpow hh q, ⟨q, rfl, fun q' hq => (m2 q' (Nat.zero_le _) (by lia)).1⟩, (fun _ => q4), (fun e => by cases e)⟩
    obtain ⟨sl, wd, f1, f2, f3, f4, f5⟩ := key
    refine ⟨sl, wd, ?_, f2, f3, f4, f5⟩
    have hs : t.slot sl = .empty ∨ t.slot sl = .dummy := by cases wd with
      | true => exact .inr (f4 rfl)
      | false => exact .inl (f5 rfl)
    obtain ⟨g1, g2, g3, g4, g5, _⟩ := put_ok t es hh x sl ok hs f2 f3
    have hfit : (t.put sl).1.fits (SetTable.insertAt es (t.put sl).2 (hh, x)).size = true := by
      simp only [SetTable.fits, Bool.and_eq_true, beq_iff_eq, decide_eq_true_eq]
      refine ⟨g3, ?_⟩
      have := ok.room
      rw [g2]; lia
    unfold layNew
    rw [f1]
    show (_, (t.put sl).1.orStandIn _, wd, !(t.put sl).1.fits _) = _
    unfold SetTable.orStandIn
    have hfit' : (t.put sl).1.fits (SetTable.insertAt es (SetTable.below t.place sl) (hh, x)).size = true := hfit
    rw [hfit']; rfl
  · lia
theorem relayAll_ok (t : SetTable) (es : Array (Int × Value)) (wanted : Nat) (h1 : 2 * es.size ≤ wanted) (h2 : wanted ≤ 4095) :
    ∃ t' es', relayAll t es wanted = (es', t', false) ∧ t'.led = t.led ∧ t'.plain = t.plain ∧ es'.toList.Perm es.toList ∧ SOk t' es'.toList := by
  obtain ⟨t', order, e1, e2, e3, e4, e5, e6, e7, e8, e9⟩ := relaid_ok t es wanted h1 h2
  refine ⟨t', _, ?_, e4, e5, e7, e9⟩
  unfold relayAll
  rw [e1]
  dsimp only
  have c1 : coversAll order es.size = true := List.isPerm_iff.mpr e6
  have c2 : t'.fits (order.filterMap (es[·]?)).size = true := by
    simp only [SetTable.fits, Bool.and_eq_true, beq_iff_eq, decide_eq_true_eq]
    exact ⟨by rw [e9.size, Array.length_toList], by have := e9.room; lia⟩
  rw [c1, c2]; rfl
end
section
variable {prog : Program} {w : World} {A : Around} {E : Value → Shared → Prop} {s : Shared}
theorem odd_mask {t : SetTable} {es : List (Int × Value)} (ok : SOk t es) (hh : Int) : ∃ N, 0 ≤ N ∧ N < 0 + 100000 ∧ N < 10 * SetTable.turns t.mask ∧ t.slot (posM t.mask hh N) = .empty := by
  obtain ⟨kp, hpow⟩ := ok.ok.pow
  obtain ⟨e, he, hemp⟩ := some_empty ok.ok (by have := ok.room; lia)
  obtain ⟨N, hN, hp⟩ := pos_all t.mask _ hpow hh e he
  have hb := ok.ok.big
  refine ⟨N, Nat.zero_le _, ?_, hN, by rw [hp]; exact hemp⟩
  unfold SetTable.turns at hN; lia
theorem byScan_one {es : Array (Int × Value)} {k : Key} {x : Value} {ks : List SK} (hx : SK.is prog w s.heap (.one k) x) (ent : Es prog w s.heap ks es.toList) (hf : ∀ k ∈ ks, k.flat = true) (hs : ks.length ≤ 1000) : byScan x es = true :=
  byScan_of (knd := mixKind prog w) (flat_scan hx) (by have := ent.length; simp at this; unfold scanBound; lia) (ent.flats hf)
theorem byScan_many {es : Array (Int × Value)} {a : Addr} : byScan (.ref a) es = false := rfl
theorem find_w {a : Addr} {o : Obj} {ks : List SK} {es : Array (Int × Value)} {ep : Nat} {t : SetTable} {x : Value} {k : SK} {Q : Option Nat → Shared → Prop} (hu : A.units < cLine)
    (ho : s.heap.get? a = some o) (S : SetO prog w s.heap o ks es ep t) (hk : ∀ k' ∈ ks, k'.flat = k.flat) (hx : k.is prog w s.heap x)
    (q : ∀ r : Option Nat, (∀ i, r = some i → ks[i]? = some k) → (r = none → k ∉ ks) → Q r s) : wpAny (model prog w) A (setFind a x (k.hash prog w)) Q E s := by
  unfold setFind setFindIn
  refine wpAny_bind (state_w (M := model prog w) ho S ?_)
  dsimp only
  cases k with
  | one k =>
    rw [byScan_one hx S.ent hk S.small, if_pos rfl]
    refine wpAny_bind (wpAny_rule ?_)
    refine wpAny_bind (wpAny_setScan_of (knd := mixKind prog w) hx ho S.data S.fits (S.ent.flats hk) ?_)
    obtain ⟨i1, i2⟩ := S.ent.idx hk k
    cases hr : es.toList.findIdx? (fun e => (mixKind prog w).is k e.2) with
    | none => exact wpAny_pure (q none (fun i e => by cases e) fun _ => i2 hr)
    | some j => exact wpAny_pure (q (some (0 + j)) (fun i e => by cases e; rw [Nat.zero_add]; exact i1 j hr) fun e => by cases e)
  | many kk =>
    obtain ⟨ax, rfl, hax⟩ := hx
    rw [byScan_many]
    simp only [Bool.false_eq_true, if_false]
    unfold setSearch
    refine wpAny_bind (search_w hu ho S hk ⟨ax, rfl, hax⟩ (fun i hi => ?_) (fun hn sl wd _ _ _ _ => ?_) 100000 0 none (fun _ => rfl) (fun p hp => by cases hp) (fun q hq => by lia) (odd_mask S.tab _))
    · exact wpAny_pure (q (some i) (fun j e => by cases e; exact hi) fun e => by cases e)
    · exact wpAny_pure (q none (fun i e => by cases e) fun _ => hn)
theorem hbv_w {k : SK} {x : Value} {Q : Bool → Shared → Prop} (hx : k.is prog w s.heap x) (q : ∀ b, Q b s) : wpAny (model prog w) A (hashByValue 8 x) Q E s := by
  cases k with
  | one k => rw [hashByValue_scannable 8 (flat_scan hx)]; exact wpAny_pure (q _)
  | many kk =>
    obtain ⟨a, rfl, hk⟩ := hx
    have hT := hk.typeIs
    obtain ⟨o, its, n, ho, _, hd, hi⟩ := hk
    unfold hashByValue
    refine wpAny_bind (wpAny_specialOf hT F.slot_tuple_hash.lookup ?_)
    show wpAny _ _ (seqItems? (.ref a) >>= _) Q E s
    refine wpAny_bind (wpAny_seqItems ho hd ?_)
    show wpAny _ _ (forIn its _ _ >>= _) Q E s
    refine wpAny_bind ?_
    rw [← Array.forIn_toList]
    refine wpAny_forIn_list _ (fun rest r s' => r.1 = none ∧ s' = s ∧ ∀ v ∈ rest, carriedByValue v = true ∧ v.scannable = true) _ ?_ ?_ _ _ ⟨rfl, rfl, ?_⟩
    · rintro v rest r s' ⟨hr, rfl, hall⟩
      have hv := hall v List.mem_cons_self
      show wpAny _ _ (hashByValue 7 v >>= _) _ _ _
      rw [hashByValue_scannable 7 hv.2]
      refine wpAny_bind (wpAny_pure ?_)
      cases plainKind v with
      | true =>
        simp only [Bool.not_true, Bool.false_eq_true, if_false]
        exact wpAny_pure ⟨rfl, rfl, fun u hu' => hall u (List.mem_cons_of_mem _ hu')⟩
      | false =>
        simp only [Bool.not_false, if_true]
        exact wpAny_pure (wpAny_pure (q false))
    · rintro ⟨r1, r2⟩ s' ⟨hr, rfl, _⟩
      simp only at hr
      subst hr
      exact wpAny_pure (q true)
    · intro v hv
      refine ⟨hi.byValue v hv, ?_⟩
      clear hd
      generalize its.toList = vs at hi hv
      induction hi with
      | nil => cases hv
      | cons h1 _ ih =>
        rcases List.mem_cons.mp hv with rfl | hv
        · rcases keyIs_shape h1 with ⟨j, t, _, e2⟩ | ⟨y, t, _, e2⟩ <;> rw [e2] <;> rfl
        · exact ih hv
end
end L2

namespace L2
open PySem PySem.Spec PyProof.Rows L2T
section
variable {prog : Program} {w : World} {h : Heap}
noncomputable def plainIf (b : Bool) (t : SetTable) : SetTable := if b then t else { t with plain := false }
theorem plainIf_mask (b : Bool) (t : SetTable) : (plainIf b t).mask = t.mask := by cases b <;> rfl
theorem plainIf_place (b : Bool) (t : SetTable) : (plainIf b t).place = t.place := by cases b <;> rfl
theorem plainIf_dummies (b : Bool) (t : SetTable) : (plainIf b t).dummies = t.dummies := by cases b <;> rfl
theorem plainIf_led (b : Bool) (t : SetTable) : (plainIf b t).led = t.led := by cases b <;> rfl
theorem plainIf_fill (b : Bool) (t : SetTable) : (plainIf b t).fill = t.fill := by cases b <;> rfl
theorem put_facts {o : Obj} {ks : List SK} {es : Array (Int × Value)} {ep : Nat} {t : SetTable} {x : Value} {k : SK} {sl : Nat} {wd : Bool} (S : SetO prog w h o ks es ep t) (hx : k.is prog w h x)
    (h1 : sl ≤ t.mask) (h2 : Reach t (k.hash prog w) sl) (h3 : wd = true → t.slot sl = .dummy) (h4 : wd = false → t.slot sl = .empty) (bv : Bool) :
    (SetTable.insertAt es (t.put sl).2 (k.hash prog w, x)).size = es.size + 1 ∧ (plainIf bv (t.put sl).1).fits (SetTable.insertAt es (t.put sl).2 (k.hash prog w, x)).size = true ∧ (plainIf bv (t.put sl).1).led = led0 w ∧
    (SetTable.insertAt es (t.put sl).2 (k.hash prog w, x)).toList.Perm ((k.hash prog w, x) :: es.toList) ∧ (∃ k1, k1.Perm (k :: ks) ∧ Es prog w h k1 (SetTable.insertAt es (t.put sl).2 (k.hash prog w, x)).toList) ∧
    ((wd = true ∨ (plainIf bv (t.put sl).1).tooFull = false) → SOk (plainIf bv (t.put sl).1) (SetTable.insertAt es (t.put sl).2 (k.hash prog w, x)).toList) := by
  have hs : t.slot sl = .empty ∨ t.slot sl = .dummy := by cases wd with
    | true => exact .inr (h3 rfl)
    | false => exact .inl (h4 rfl)
  obtain ⟨g1, g2, g3, g4, g5, g6, g7, g8, g9⟩ := put_ok t es (k.hash prog w) x sl S.tab hs h1 h2
  have hroom := S.tab.room
  have hsz : (SetTable.insertAt es (t.put sl).2 (k.hash prog w, x)).size = es.size + 1 := by
    have := g7.length_eq; simpa using this
  refine ⟨hsz, ?_, ?_, g7, ?_, ?_⟩
  · simp only [SetTable.fits, Bool.and_eq_true, beq_iff_eq, decide_eq_true_eq]
    rw [plainIf_place, plainIf_fill, plainIf_mask]
    exact ⟨g3, by rw [g2]; lia⟩
  · rw [plainIf_led, g8]; exact S.led
  · exact (Es.cons (e := (k.hash prog w, x)) rfl hx S.ent).perm g7
  · intro hc
    refine sok_alike (t := (t.put sl).1) ⟨g1, ?_, by rw [g3, Array.length_toList], g4⟩ (plainIf_mask ..) (plainIf_place ..) (plainIf_dummies ..)
    rcases hc with hc | hc
    · rw [g6 (h3 hc), g2]; exact hroom
    · unfold SetTable.tooFull at hc
      rw [plainIf_fill, plainIf_mask] at hc
      simpa using hc
theorem SetO.newk {o : Obj} {ks : List SK} {es : Array (Int × Value)} {ep : Nat} {t : SetTable} (S : SetO prog w h o ks es ep t) {k : SK} (hk : ∀ k' ∈ ks, k'.flat = k.flat) (hn : k ∉ ks) (hr : ks.length + 1 ≤ 1000)
    {h' : Heap} {k1 : List SK} {e1 : Array (Int × Value)} {ep1 : Nat} {t1 : SetTable} (p : k1.Perm (k :: ks)) (ok : SOk t1 e1.toList) (en : Es prog w h' k1 e1.toList) (hl : t1.led = led0 w) :
    SetO prog w h' { o with data := .set e1 ep1 t1 } k1 e1 ep1 t1 :=
  ⟨S.ex, rfl, ok, en, p.nodup_iff.mpr (List.nodup_cons.mpr ⟨hn, S.nod⟩), by rw [p.length_eq]; simpa using hr, hl, k.flat, fun k' hk' => by
    rcases List.mem_cons.mp (p.mem_iff.mp hk') with rfl | e
    · rfl
    · exact hk k' e⟩
end
section
variable {prog : Program} {w : World} {A : Around} {E : Value → Shared → Prop} {s : Shared}
theorem small_fits {n : Nat} (h : n ≤ 1001) : n ≤ sizeLine := by rw [sizeLine_eq]; lia
theorem sizeAbove_line {n : Nat} (h : n ≤ 4095) : ¬ SetTable.sizeAbove n > sizeLine := by
  obtain ⟨_, _, _, _, h5⟩ := sizeAbove_ok n h
  rw [sizeLine_eq]; lia
theorem grown_small {n : Nat} (h : n ≤ 1000) : 2 * n ≤ SetTable.grown n ∧ SetTable.grown n ≤ 4095 := by
  unfold SetTable.grown
  rw [if_neg (by lia)]; lia
theorem add_w {a : Addr} {o : Obj} {ks : List SK} {es : Array (Int × Value)} {ep : Nat} {t : SetTable} {x : Value} {k : SK} {Q : Bool → Shared → Prop} (hu : A.units < cLine)
    (ho : s.heap.get? a = some o) (S : SetO prog w s.heap o ks es ep t) (hk : ∀ k' ∈ ks, k'.flat = k.flat) (hx : k.is prog w s.heap x) (hr : ks.length + 1 ≤ 1000)
    (q : ∀ h' k1 e1, Heap.SameBut a s.heap h' → SetE prog w h' a k1 e1 → k1.Perm (if k ∈ ks then ks else k :: ks) → (∀ e ∈ e1.toList, e ∈ es.toList ∨ e = (k.hash prog w, x)) → Q (decide (k ∉ ks)) { s with heap := h' }) :
    wpAny (model prog w) A (setAddHashed a x (k.hash prog w)) Q E s := by
  have hlen : es.size = ks.length := by have := S.ent.length; simp at this; lia
  have old : k ∈ ks → Q false s := fun hin => by
    have := q s.heap ks es (Heap.SameBut.refl _ _) ⟨o, ep, t, ho, S⟩ (by rw [if_pos hin]) (fun e he => .inl he)
    rw [decide_eq_false (by simpa using hin)] at this
    exact this
  have new : k ∉ ks → ∀ h' e1 ep1 t1 k1, Heap.SameBut a s.heap h' → h'.get? a = some { o with data := .set e1 ep1 t1 } → k1.Perm (k :: ks) → SOk t1 e1.toList → Es prog w s.heap k1 e1.toList → t1.led = led0 w → e1.toList.Perm ((k.hash prog w, x) :: es.toList) → Q true { s with heap := h' } := fun hn h' e1 ep1 t1 k1 hs hg p ok en hl hp => by
    have hK : KeepT s.heap h' := keepT_sameBut (es := es) (ep := ep) (t := t) ho S.ex hs
    have := q h' k1 e1 hs ⟨_, ep1, t1, hg, S.newk hk hn hr p ok (en.mono hK) hl⟩ (by rw [if_neg hn]; exact p) (fun e he => by
      rcases List.mem_cons.mp (hp.mem_iff.mp he) with z | z
      · exact .inr z
      · exact .inl z)
    rw [decide_eq_true hn] at this
    exact this
  unfold setAddHashed setAddHashedIn
  refine wpAny_holding (wpAny_bind (state_w (M := model prog w) ho S ?_))
  dsimp only
  cases k with
  | one k =>
    rw [byScan_one hx S.ent hk S.small, if_pos rfl]
    unfold setAddByScan
    refine wpAny_bind (wpAny_bind (wpAny_rule ?_))
    refine wpAny_bind (wpAny_setScan_of (knd := mixKind prog w) hx ho S.data S.fits (S.ent.flats hk) ?_)
    obtain ⟨i1, i2⟩ := S.ent.idx hk k
    cases hi : es.toList.findIdx? (fun e => (mixKind prog w).is k e.2) with
    | some j => exact wpAny_pure (wpAny_pure (old (List.mem_of_getElem? (i1 j hi))))
    | none =>
      have hn := i2 hi
      obtain ⟨sl, wd, f1, f2, f3, f4, f5⟩ := layNew_ok S.tab (SK.hash prog w (.one k)) x
      dsimp only
      rw [f1]
      refine wpAny_bind (wpAny_pure (a := ()) ?_)
      dsimp only
      have fin : ∀ (gw : Bool → Sem Unit) (hgw : ∀ (s : Shared) (Q : Unit → Shared → Prop), Q () s → wpAny (model prog w) A (gw false) Q E s) (bv : Bool), wpAny (model prog w) A (do
          storeSet a (SetTable.insertAt es (t.put sl).2 (SK.hash prog w (.one k), x)) (plainIf bv (t.put sl).1)
          if (!wd && (plainIf bv (t.put sl).1).tooFull) = true then do
            gw (relayAll (plainIf bv (t.put sl).1) (SetTable.insertAt es (t.put sl).2 (SK.hash prog w (.one k), x)) (SetTable.grown (SetTable.insertAt es (t.put sl).2 (SK.hash prog w (.one k), x)).size)).2.2
            storeSet a (relayAll (plainIf bv (t.put sl).1) (SetTable.insertAt es (t.put sl).2 (SK.hash prog w (.one k), x)) (SetTable.grown (SetTable.insertAt es (t.put sl).2 (SK.hash prog w (.one k), x)).size)).1
              (relayAll (plainIf bv (t.put sl).1) (SetTable.insertAt es (t.put sl).2 (SK.hash prog w (.one k), x)) (SetTable.grown (SetTable.insertAt es (t.put sl).2 (SK.hash prog w (.one k), x)).size)).2.1
            pure (some true)
          else pure (some true)) (fun r s' => wpAny (model prog w) A (match r with | some added => pure added | none => setAddHashedIn a x (SK.hash prog w (.one k)) 99999) Q E s') E s := by
        intro gw hgw bv
        obtain ⟨p1, p2, p3, p7, ⟨k1, p4, p5⟩, p6⟩ := put_facts (bv := bv) S (k := .one k) hx f2 f3 f4 f5
        refine wpAny_bind (wpAny_storeSet_of ho S.data ?_ (small_fits (by lia)))
        have g1 := put_get ho S.data (SetTable.insertAt es (t.put sl).2 (SK.hash prog w (.one k), x)) (plainIf bv (t.put sl).1)
        have sb1 := Heap.SameBut.update s.heap a (Obj.putSet (SetTable.insertAt es (t.put sl).2 (SK.hash prog w (.one k), x)) (plainIf bv (t.put sl).1))
        by_cases hc : (!wd && (plainIf bv (t.put sl).1).tooFull) = true
        · rw [if_pos hc]
          obtain ⟨t2, e2, r1, r2, _, r4, r5⟩ := relayAll_ok (plainIf bv (t.put sl).1) (SetTable.insertAt es (t.put sl).2 (SK.hash prog w (.one k), x)) (SetTable.grown (SetTable.insertAt es (t.put sl).2 (SK.hash prog w (.one k), x)).size)
            (grown_small (by lia)).1 (grown_small (by lia)).2
          rw [r1]
          refine wpAny_bind (hgw _ _ ?_)
          have z2 : e2.size = es.size + 1 := by rw [← p1]; have := r4.length_eq; simpa using this
          refine wpAny_bind (wpAny_storeSet_of g1 rfl ?_ (small_fits (by show e2.size ≤ 1001; lia)))
          obtain ⟨k2, q1, q2⟩ := p5.perm r4
          refine wpAny_pure (wpAny_pure (new hn _ e2 _ t2 k2 (sb1.trans (Heap.SameBut.update _ a _)) (put_get g1 rfl e2 t2) (q1.trans p4) r5 q2 (by rw [r2]; exact p3) (r4.trans p7)))
        · rw [if_neg hc]
          refine wpAny_pure (wpAny_pure (new hn _ _ _ _ k1 sb1 g1 p4 (p6 ?_) p5 p3 p7))
          cases wd with
          | true => exact .inl rfl
          | false => exact .inr (by simpa using hc)
      split
      · refine wpAny_bind (hbv_w (k := .one k) hx fun b => ?_)
        exact fin _ (fun _ _ q => wpAny_pure q) b
      · exact wpAny_bind (wpAny_pure (fin _ (fun _ _ q => wpAny_pure q) true))
  | many kk =>
    obtain ⟨ax, rfl, hax⟩ := hx
    rw [byScan_many]
    simp only [Bool.false_eq_true, if_false]
    unfold setSearch
    refine wpAny_bind (search_w hu ho S hk ⟨ax, rfl, hax⟩ (fun i hi => ?_) (fun hn sl wd f2 f3 f4 f5 => ?_) 100000 0 none (fun _ => rfl) (fun p hp => by cases hp) (fun q hq => by lia) (odd_mask S.tab _))
    · exact wpAny_pure (old (List.mem_of_getElem? hi))
    · dsimp only
      refine wpAny_bind (state_w (M := model prog w) ho S ?_)
      dsimp only
      have fin : ∀ bv : Bool, wpAny (model prog w) A (do
          storeSet a (SetTable.insertAt es (t.put sl).2 (SK.hash prog w (.many kk), .ref ax)) (plainIf bv (t.put sl).1)
          if (!wd && (plainIf bv (t.put sl).1).tooFull) = true then do
            setRelay a (SetTable.grown (es.size + 1))
            pure true
          else pure true) Q E s := by
        intro bv
        obtain ⟨p1, p2, p3, p7, ⟨k1, p4, p5⟩, p6⟩ := put_facts (bv := bv) S (k := .many kk) ⟨ax, rfl, hax⟩ f2 f3 f4 f5
        refine wpAny_bind (wpAny_storeSet_of ho S.data ?_ (small_fits (by lia)))
        have g1 := put_get ho S.data (SetTable.insertAt es (t.put sl).2 (SK.hash prog w (.many kk), .ref ax)) (plainIf bv (t.put sl).1)
        have sb1 := Heap.SameBut.update s.heap a (Obj.putSet (SetTable.insertAt es (t.put sl).2 (SK.hash prog w (.many kk), .ref ax)) (plainIf bv (t.put sl).1))
        by_cases hc : (!wd && (plainIf bv (t.put sl).1).tooFull) = true
        · rw [if_pos hc]
          obtain ⟨t2, order, r1, _, _, r2, _, _, r4, r6, r5⟩ := relaid_ok (plainIf bv (t.put sl).1) (SetTable.insertAt es (t.put sl).2 (SK.hash prog w (.many kk), .ref ax)) (SetTable.grown (es.size + 1))
            (by rw [p1]; exact (grown_small (by lia)).1) (grown_small (by lia)).2
          unfold setRelay
          refine wpAny_bind (wpAny_bind (wpAny_setState_of g1 rfl p2 ?_))
          dsimp only
          rw [if_neg (sizeAbove_line (grown_small (by lia)).2)]
          rw [r1]
          refine wpAny_bind (wpAny_ite_split (fun h => absurd h (by rw [r6]; simp)) (fun _ => wpAny_pure ?_))
          dsimp only
          refine wpAny_storeSet_of g1 rfl ?_ (small_fits (by rw [r6, p1]; lia))
          obtain ⟨k2, q1, q2⟩ := p5.perm r4
          exact wpAny_pure (new hn _ _ _ t2 k2 (sb1.trans (Heap.SameBut.update _ a _)) (put_get g1 rfl _ t2) (q1.trans p4) r5 q2 (by rw [r2]; exact p3) (r4.trans p7))
        · rw [if_neg hc]
          refine wpAny_pure (new hn _ _ _ _ k1 sb1 g1 p4 (p6 ?_) p5 p3 p7)
          cases wd with
          | true => exact .inl rfl
          | false => exact .inr (by simpa using hc)
      split
      · refine wpAny_bind (hbv_w (k := .many kk) ⟨ax, rfl, hax⟩ fun b => ?_)
        exact fin b
      · exact wpAny_bind (wpAny_pure (fin true))
end
end L2

namespace L2
open PySem PySem.Spec PyProof.Rows L2T
noncomputable def byText (w : World) : Bool := w.params.followText "set-order"
section
variable {prog : Program} {w : World} {A : Around} {E : Value → Shared → Prop} {s : Shared}
theorem erase_perm {α : Type} {l : List α} {i : Nat} (h : i < l.length) : (l[i] :: l.eraseIdx i).Perm l := by
  rw [List.eraseIdx_eq_take_drop_succ]
  have e : (l.take i ++ l[i] :: l.drop (i + 1)).Perm (l[i] :: (l.take i ++ l.drop (i + 1))) := List.perm_middle
  rw [List.getElem_cons_drop, List.take_append_drop] at e
  exact e.symm
theorem choose_w {src : Source} {n : Nat} {Q : Nat → Shared → Prop} (hn : n ≠ 0) (q : ∀ i d, i < n → Q i { s with drawn := d }) : wpAny (model prog w) A (choose src n) Q E s :=
  fun _ _ _ => ⟨hn, q _ _ (Nat.mod_lt _ (Nat.pos_of_ne_zero hn))⟩
theorem draw_w {α : Type} : ∀ (n : Nat) (xs : List α) (s : Shared) (Q : List α → Shared → Prop), xs.length ≤ n → (∀ l d, l.Perm xs → Q l { s with drawn := d }) → wpAny (model prog w) A (drawOrder n xs) Q E s := by
  intro n
  induction n with
  | zero =>
    intro xs s Q hl q
    have : xs = [] := List.eq_nil_of_length_eq_zero (by lia)
    subst this
    exact wpAny_pure (q [] s.drawn (.refl _))
  | succ n ih =>
    intro xs s Q hl q
    cases xs with
    | nil => exact wpAny_pure (q [] s.drawn (.refl _))
    | cons x xs =>
      unfold drawOrder
      refine wpAny_bind (choose_w (by simp) fun i d hi => ?_)
      rw [List.getElem?_eq_getElem hi]
      dsimp only
      refine wpAny_bind (ih _ _ _ ?_ fun l d' hp => ?_)
      · rw [List.length_eraseIdx_of_lt hi]; simp at hl ⊢; omega
      · refine wpAny_pure (q _ d' ?_)
        exact (hp.cons _).trans (erase_perm hi)
theorem pick_go {α : Type} (next : Nat → Nat) : ∀ (fuel k : Nat) (left : List α) (out : Array α), left.length ≤ fuel → (pickOrder.go next fuel k left out).toList.Perm (out.toList ++ left) := by
  intro fuel
  induction fuel with
  | zero =>
    intro k left out hl
    have : left = [] := List.eq_nil_of_length_eq_zero (by lia)
    subst this
    unfold pickOrder.go
    simp
  | succ fuel ih =>
    intro k left out hl
    unfold pickOrder.go
    cases left with
    | nil => simp
    | cons x l =>
      have hi : next k % (x :: l).length < (x :: l).length := Nat.mod_lt _ (by simp)
      rw [List.getElem?_eq_getElem hi]
      dsimp only
      refine (ih _ _ _ (by rw [List.length_eraseIdx_of_lt hi]; lia)).trans ?_
      rw [Array.toList_push, List.append_assoc]
      exact List.Perm.append_left _ (erase_perm hi)
theorem pick_perm {α : Type} (next : Nat → Nat) (xs : Array α) : (pickOrder next xs).toList.Perm xs.toList := by
  unfold pickOrder
  exact (pick_go next xs.size 0 xs.toList #[] (by simp)).trans (by simp)

structure SetL (w : World) (o : Obj) (es : Array (Int × Value)) (ep : Nat) (t : SetTable) : Prop where
  data : o.data = .set es ep t
  tab : SOk t es.toList
  led : t.led = led0 w
theorem SetO.lite {o : Obj} {ks : List SK} {h : Heap} {es : Array (Int × Value)} {ep : Nat} {t : SetTable} (S : SetO prog w h o ks es ep t) : SetL w o es ep t := ⟨S.data, S.tab, S.led⟩
theorem SetL.fits {o : Obj} {es : Array (Int × Value)} {ep : Nat} {t : SetTable} (S : SetL w o es ep t) : t.fits es.size = true := by
  have h1 := S.tab.size
  have h2 := S.tab.room
  simp only [SetTable.fits, Bool.and_eq_true, beq_iff_eq, decide_eq_true_eq]
  exact ⟨by simpa using h1, by lia⟩
theorem stateL_w {a : Addr} {o : Obj} {es : Array (Int × Value)} {ep : Nat} {t : SetTable} {Q : Array (Int × Value) × Nat × SetTable → Shared → Prop}
    (ho : s.heap.get? a = some o) (S : SetL w o es ep t) (q : Q (es, ep, t) s) : wpAny (model prog w) A (setState a) Q E s := wpAny_setState_of ho S.data S.fits q
theorem led_text {o : Obj} {es : Array (Int × Value)} {ep : Nat} {t : SetTable} (S : SetL w o es ep t) : t.led = !byText w := S.led
end
end L2

namespace L2
open PySem PySem.Spec PyProof.Rows L2T
end L2

namespace L2
open PySem PySem.Spec PyProof.Rows L2T
noncomputable def Keeps' (h h' : Heap) : Prop := ∀ b o, h.get? b = some o → h'.get? b = some o
theorem Keeps'.T {h h' : Heap} (k : Keeps' h h') : KeepT h h' := fun b o _ e => k b o e
section
variable {prog : Program} {w : World} {A : Around} {E : Value → Shared → Prop} {s : Shared}
theorem push_get {h : Heap} {o : Obj} : Keeps' h (h.push o) := fun b u e => Heap.get?_push_of_some _ e
end
end L2

namespace L2
open PySem PySem.Spec PyProof.Rows L2T
section
variable {prog : Program} {w : World} {A : Around} {E : Value → Shared → Prop} {s : Shared}
theorem hash_w {k : SK} {x : Value} {Q : Int → Shared → Prop} (hu : A.units < cLine) (hx : k.is prog w s.heap x) (q : ∀ tk, Q (k.hash prog w) { s with toks := tk }) : wpAny (model prog w) A (pyHash x) Q E s := by
  cases k with
  | one k => exact (mixKind prog w).pyHash hx (q _)
  | many kk => obtain ⟨a, rfl, hk⟩ := hx; exact wpAny_pyHash_tuple hu hk (q _)
structure Part (prog : Program) (w : World) (k0 : List SK) (items : Array Value) (i : Nat) (ks : List SK) (es : Array (Int × Value)) : Prop where
  mem : ∀ k, k ∈ ks ↔ ∃ j : Nat, j < i ∧ k0[j]? = some k
  len : ks.length ≤ i
  ent : ∀ e ∈ es.toList, ∃ j : Nat, items[j]? = some e.2
theorem set_loop {S I l : Addr} {items : Array Value} {k0 : List SK} {f : Bool} {R : Result → Shared → Prop} (hu : A.units + 1 < cLine) (hh : A.handled = none) (hSI : S ≠ I) (hSl : S ≠ l) (hIl : l ≠ I)
    (hlen : k0.length = items.size) (hn : items.size ≤ 1000) (hf : ∀ k ∈ k0, k.flat = f) :
    ∀ (m i : Nat) (s : Shared) (ks : List SK) (es : Array (Int × Value)), items.size - i = m → i ≤ items.size → s.heap.IsListIter I l i → s.heap.IsList l items → SetE prog w s.heap S ks es → Part prog w k0 items i ks es →
      (∀ (j : Nat) (v : Value) (k : SK), items[j]? = some v → k0[j]? = some k → k.is prog w s.heap v) →
      (∀ s' ks' es', (∀ b o, b ≠ I → b ≠ S → s.heap.get? b = some o → s'.heap.get? b = some o) → (∃ tk, s' = { s with heap := s'.heap, toks := tk }) → SetE prog w s'.heap S ks' es' → Part prog w k0 items items.size ks' es' → R (.ok (.ret .none)) s') →
      codeAny (model prog w) A (.builtin "set.update.loop" ⟨[.ref S, .ref I], []⟩) R s := by
  intro m
  induction m with
  | zero =>
    intro i s ks es hk hi hit hl hS hp hkey hR
    have hin : i = items.size := by lia
    subst hin
    refine codeAny_builtin F.entry_set_update_loop ?_
    rw [Around.under_plainId F.plain_set_update_loop _]
    show wpAny _ A.in1 (pyNext (.ref I) >>= _) _ _ s
    refine wpAny_bind (wpAny_pyNext_list_end (by simp [hh]) hit hl (by simp) fun h' he => ?_)
    show wpAny _ A.in1 (ret Value.none) _ _ _
    obtain ⟨o, ep, t, ho, So⟩ := hS
    have kT : KeepT s.heap h' := fun b u c e => he b u (fun z => by
      obtain ⟨oi, h1, h2, _⟩ := hit
      rw [z, h1] at e; cases e; rw [h2] at c; exact absurd c (by decide)) e
    exact wpAny_pure (hR _ ks es (fun b u h1 _ e => he b u h1 e) ⟨s.toks, rfl⟩ ⟨o, ep, t, he S o hSI ho, So.mono kT⟩ hp)
  | succ m ih =>
    intro i s ks es hk hi hit hl hS hp hkey hR
    have hlt : i < items.size := by lia
    have hv : items[i]? = some items[i] := Array.getElem?_eq_getElem hlt
    have hki : k0[i]? = some (k0[i]'(by lia)) := List.getElem?_eq_getElem _
    have hx := hkey i _ _ hv hki
    have hfi := hf _ (List.mem_of_getElem? hki)
    generalize k0[i]'(by lia) = k at hki hx hfi
    refine codeAny_builtin F.entry_set_update_loop ?_
    rw [Around.under_plainId F.plain_set_update_loop _]
    show wpAny _ A.in1 (pyNext (.ref I) >>= _) _ _ s
    refine wpAny_bind (wpAny_pyNext_list_item hit hl hv fun h1 hit1 sb1 => ?_)
    have kT1 : KeepT s.heap h1 := fun b u c e => (sb1.2 b (fun z => by
      obtain ⟨oi, g1, g2, _⟩ := hit
      rw [z, g1] at e; cases e; rw [g2] at c; exact absurd c (by decide))).trans e
    obtain ⟨o, ep, t, ho, So⟩ := hS
    have ho1 : h1.get? S = some o := (sb1.2 S hSI).trans ho
    show wpAny _ A.in1 (holding [items[i]] (setAdd S items[i]) >>= _) _ _ _
    refine wpAny_bind (wpAny_holding ?_)
    unfold setAdd
    refine wpAny_holding (wpAny_bind (hash_w (by simp only [Around.in1_units]; omega) (SK.is_mono kT1 hx) fun tk => ?_))
    have kin : ∀ k' ∈ ks, k'.flat = k.flat := fun k' hk' => by
      obtain ⟨j, _, hj⟩ := (hp.mem k').mp hk'
      rw [hf _ (List.mem_of_getElem? hj), hfi]
    refine add_w (s := { s with heap := h1, toks := tk }) (by simp only [Around.in1_units]; omega) ho1 (So.mono kT1) kin (SK.is_mono kT1 hx) (by have := hp.len; lia) fun h2 k2 e2 sb2 S2 p2 en2 => ?_
    have hp2 : Part prog w k0 items (i + 1) k2 e2 := by
      refine ⟨fun k' => ?_, ?_, fun e he => ?_⟩
      · rw [p2.mem_iff]
        constructor
        · intro hm
          have hm' : k' ∈ k :: ks := by
            split at hm
            · exact List.mem_cons_of_mem _ hm
            · exact hm
          rcases List.mem_cons.mp hm' with e | e
          · exact ⟨i, by lia, by rw [e]; exact hki⟩
          · obtain ⟨j, hj, hkj⟩ := (hp.mem k').mp e; exact ⟨j, by lia, hkj⟩
        · rintro ⟨j, hj, hkj⟩
          have hm' : k' = k ∨ k' ∈ ks := by
            rcases Nat.lt_or_ge j i with c | c
            · exact .inr ((hp.mem k').mpr ⟨j, c, hkj⟩)
            · have : j = i := by lia
              subst this; rw [hki] at hkj; cases hkj; exact .inl rfl
          split
          · rename_i hin
            rcases hm' with e | e
            · rw [e]; exact hin
            · exact e
          · rcases hm' with e | e
            · rw [e]; exact List.mem_cons_self
            · exact List.mem_cons_of_mem _ e
      · rw [p2.length_eq]
        have := hp.len
        split
        · lia
        · simp; omega
      · rcases en2 e he with z | z
        · exact hp.ent e z
        · exact ⟨i, by rw [z]; exact hv⟩
    have k12 : KeepT h1 h2 := keepT_sameBut (es := es) (ep := ep) (t := t) ho1 So.ex sb2
    refine wpAny_pure ⟨plainId_quiet F.plain_set_update_loop _, ih (i + 1) _ k2 e2 (by lia) hlt ?_ ?_ S2 hp2 (fun j v k' h3 h4 => SK.is_mono (fun b u c e => k12 b u c (kT1 b u c e)) (hkey j v k' h3 h4)) fun s' k3 e3 kp ⟨tk', hs'⟩ S3 p3 => ?_⟩
    · exact hit1.at fun u e => (sb2.2 I (Ne.symm hSI)).trans e
    · exact (hl.extBut sb1.extBut hIl).at fun u e => (sb2.2 l (Ne.symm hSl)).trans e
    · refine hR s' k3 e3 (fun b u h3 h4 e => kp b u h3 h4 ((sb2.2 b h4).trans ((sb1.2 b h3).trans e))) ⟨tk', ?_⟩ S3 p3
      rw [hs']
end
end L2

namespace L2
open PySem PySem.Spec PyProof.Rows L2T
section
variable {prog : Program} {w : World} {A : Around} {E : Value → Shared → Prop} {s : Shared}
theorem new_setE {h : Heap} {a : Addr} {led : Bool} (hl : led = led0 w) (hg : h.get? a = some { cls := .type "set", dict := none, data := .set #[] 0 (.fresh 0 0 led) }) : SetE prog w h a [] #[] :=
  ⟨_, 0, _, hg, ⟨rfl, rfl, rfl⟩, rfl, sok_fresh 0 0 led, .nil, List.nodup_nil, by simp, hl, true, fun k hk => by cases hk⟩
theorem set_new_w (a : Value) {Q1 : Value → Shared → Prop} (h : Q1 (.ref s.heap.objs.size) { s with heap := s.heap.push { cls := .type "set", dict := none, data := .set #[] 0 (.fresh 0 0 (led0 w)) } }) :
    codeAny (model prog w) A (.call (.builtin "set.__new__") ⟨[.type "set", a], []⟩) (wants Q1 E) s := by
  refine codeAny_of_tree ?_
  show wpAny _ A.in1 (do checkBuiltinCall "set.__new__" ⟨[.type "set", a], []⟩; again (.builtin "set.__new__" ⟨[.type "set", a], []⟩)) _ _ s
  refine wpAny_bind (wpAny_of_eq (F.newCall_set_1 a) (wpAny_pure ⟨plainId_quiet F.plain_set_new _, codeAny_builtin F.entry_set_new ?_⟩))
  rw [Around.under_plainId F.plain_set_new _]
  unfold Builtin.«set.__new__» Builtin.Frozenset.newClass
  have hsub := sub_set_self
  obtain ⟨hp, g, d, tk, os⟩ := s
  dsimp only
  wp_walk
  refine wpAny_askSetting (wpAny_pure ?_)
  dsimp only
  simp only [newObj]
  refine wpAny_bind (wpAny_alloc (wpAny_pure ?_))
  exact wpAny_pure h
theorem call_set_w {l : Addr} {items : Array Value} {k0 : List SK} {f : Bool} {Q : Value → Shared → Prop} (hu : A.units + 16 < cLine) (hh : A.handled = none) (hl : s.heap.IsList l items) (hlen : k0.length = items.size) (hn : items.size ≤ 1000) (hf : ∀ k ∈ k0, k.flat = f)
    (hkey : ∀ (j : Nat) (v : Value) (k : SK), items[j]? = some v → k0[j]? = some k → k.is prog w s.heap v)
    (q : ∀ h' tk ks es, Keeps' s.heap h' → SetE prog w h' s.heap.objs.size ks es → Part prog w k0 items items.size ks es → Q (.ref s.heap.objs.size) { s with heap := h', toks := tk }) :
    wpAny (model prog w) A (call (.type "set") [.ref l]) Q E s := by
  obtain ⟨c, tl, hmro⟩ := F.called_set.mro
  have hmade := F.called_set.made
  have hsub := F.called_set.sub
  refine wpAny_call (codeAny_of_tree ?_)
  show wpAny _ _ (callAny (.type "set") _) _ _ _
  refine wpAny_pure ⟨Code.quiet_builtin _ (by decide +kernel), codeAny_builtin F.entry_type_call ?_⟩
  rw [Around.under_plain (weight_type_call_type "set" [.ref l] []) rfl]
  have h1 := F.called_set.notType
  have h2 := F.called_set.canCreate
  have hct := F.typeCall_set_1 (.ref l)
  repeat (any_goals (first | assumption | wp_step))
  refine codeAny_mono (set_new_w (.ref l) (E := E) (Q1 := fun obj s1 => obj = .ref s.heap.objs.size ∧ s1 = { s with heap := s.heap.push { cls := .type "set", dict := none, data := .set #[] 0 (.fresh 0 0 (led0 w)) } }) ⟨rfl, rfl⟩) fun r s1 hr => ?_
  cases r with
  | error e => exact hr
  | ok fl =>
    cases fl with
    | ret obj =>
      obtain ⟨rfl, rfl⟩ := hr
      generalize hN : s.heap.push { cls := .type "set", dict := none, data := .set #[] 0 (.fresh 0 0 (led0 w)) } = hp1
      have hS : hp1.get? s.heap.objs.size = some { cls := .type "set", dict := none, data := .set #[] 0 (.fresh 0 0 (led0 w)) } := by rw [← hN]; exact Heap.get?_push_size _ rfl
      have k1 : Keeps' s.heap hp1 := by rw [← hN]; exact push_get
      have z1 : hp1.objs.size = s.heap.objs.size + 1 := by rw [← hN, Heap.size_push]
      have hT : Shared.TypeIs { s with heap := hp1 } (.ref s.heap.objs.size) "set" := ⟨_, hS, rfl⟩
      have hli := F.called_set.init.lookup
      have hbi := F.called_set.init.bind (.ref s.heap.objs.size)
      repeat (any_goals (first | assumption | wp_step))
      refine codeAny_mono (codeAny_call_builtin (R := wants (fun r s2 => r = .none ∧ ∃ h' tk ks es, s2 = { s with heap := h', toks := tk } ∧ Keeps' s.heap h' ∧ SetE prog w h' s.heap.objs.size ks es ∧ Part prog w k0 items items.size ks es) E)
        F.called_set.init.plain F.entry_set_init (check_set_init_1 hT ?_)) fun r2 s2 hr2 => ?_
      · obtain ⟨ol, hol, hcl, nl, hdl⟩ := id hl
        obtain ⟨ocls, odict, odata, oslots⟩ := ol
        simp only at hcl hdl
        subst hcl; subst hdl
        have hol' := k1 _ _ hol
        have hsls := F.sub_list_set
        have hslf := F.sub_list_frozenset
        have hne : (Value.type "list" == Value.type "dict") = false := by decide
        have hl1 : hp1.IsList l items := ⟨_, hol', rfl, nl, rfl⟩
        unfold Builtin.«set.__init__» noKeywords Builtin.Frozenset.updateFrom
        generalize hPI : pyIter = PI
        wp_walk
        subst hPI
        refine wpAny_pyIter_list hl1 ?_
        refine wpAny_bind (wpAny_runValue ?_)
        have hlS : l < s.heap.objs.size := Heap.lt_size hol
        have hIt : (hp1.push { cls := .type "list_iterator", data := .fields #[.ref l, .int 0 0] }).IsListIter hp1.objs.size l 0 := ⟨_, Heap.get?_push_size _ rfl, rfl, rfl⟩
        refine set_loop (S := s.heap.objs.size) (I := hp1.objs.size) (l := l) (items := items) (k0 := k0) (f := f) ?hu ?hh ?n1 ?n2 ?n3 hlen hn hf (items.size - 0) 0 _ [] #[] (by lia) (Nat.zero_le _) hIt (hl1.push _) (new_setE rfl (push_get _ _ hS)) ⟨fun k => ⟨(fun h => by cases h), (fun ⟨j, hj, _⟩ => by lia)⟩, by simp, (fun e he => by cases he)⟩ (fun j v k a b => SK.is_mono (fun b u _ e => push_get _ _ (k1 _ _ e)) (hkey j v k a b)) ?hR
        case hu => simp only [Around.in1_units]; lia
        case hh => simp [hh]
        case n1 => rw [z1]; exact Nat.ne_of_lt (Nat.lt_succ_self _)
        case n2 => exact Nat.ne_of_gt hlS
        case n3 => rw [z1]; exact Nat.ne_of_lt (Nat.lt_succ_of_lt hlS)
        case hR =>
          intro s' ks' es' kp ⟨tk', hs'⟩ S' p'
          show wpAny _ _ _ _ _ _
          refine wpAny_pure ?_
          show wpAny _ _ (ret Value.none) _ _ _
          refine wpAny_pure ⟨rfl, s'.heap, tk', ks', es', hs', fun b o e => ?_, S', p'⟩
          have hb := Heap.lt_size e
          exact kp b o (by rw [z1]; exact Nat.ne_of_lt (Nat.lt_succ_of_lt hb)) (Nat.ne_of_lt hb) (push_get _ _ (k1 _ _ e))
      · cases r2 with
        | error e => exact hr2
        | ok fl2 =>
          cases fl2 with
          | ret r =>
            obtain ⟨rfl, h', tk, ks, es, rfl, a1, a2, a3⟩ := hr2
            repeat (any_goals (first | assumption | wp_step))
            exact q _ _ _ _ a1 a2 a3
          | _ => exact hr2.elim
    | _ => exact hr.elim
end
end L2

namespace L2
open PySem PySem.Spec PyProof.Rows L2T
section
variable {prog : Program} {w : World} {A : Around} {E : Value → Shared → Prop} {s : Shared}
theorem text_w {Q : Bool → Shared → Prop} (q : Q (byText w) s) : wpAny (model prog w) A setsByText Q E s := by
  unfold setsByText
  exact wpAny_bind (wpAny_askSetting (wpAny_pure q))
theorem setWalk_w {a : Addr} {o : Obj} {es : Array (Int × Value)} {ep : Nat} {t : SetTable} {Q : Array (Int × Value) → Shared → Prop} (ho : s.heap.get? a = some o) (S : SetL w o es ep t)
    (q : ∀ (e1 : Array (Int × Value)) (d : Drawn), e1.toList.Perm es.toList → Q e1 { s with drawn := d }) : wpAny (model prog w) A (setWalk a) Q E s := by
  unfold setWalk
  refine wpAny_bind (stateL_w ho S ?_)
  dsimp only
  refine wpAny_bind (text_w ?_)
  cases hb : byText w with
  | true =>
    rw [if_pos rfl]
    refine wpAny_bind (wpAny_askSetting (wpAny_pure ?_))
    exact q _ s.drawn (pick_perm _ _)
  | false =>
    simp only [Bool.false_eq_true, if_false]
    refine wpAny_ite_split (fun _ => ?_) (fun _ => ?_)
    · refine wpAny_bind (draw_w _ _ _ _ (by simp) fun l d hp => wpAny_pure (q l.toArray d (by simpa using hp)))
    · have hld := led_text S
      rw [hb] at hld
      exact wpAny_bind (wpAny_ite_split (fun h => absurd h (by rw [hld]; simp)) (fun _ => wpAny_pure (wpAny_pure (q es s.drawn (.refl _)))))
theorem quiet_w {Q : Bool → Shared → Prop} (q : ∀ b, Q b s) : ∀ sets : List Addr, (∀ a ∈ sets, ∃ ks es, SetE prog w s.heap a ks es) → wpAny (model prog w) A (setsQuiet sets) Q E s := by
  intro sets hs
  unfold setsQuiet
  refine wpAny_bind ?_
  refine wpAny_forIn_list _ (fun rest r s' => r.1 = none ∧ s' = s ∧ ∀ a ∈ rest, ∃ ks es, SetE prog w s.heap a ks es) _ ?_ ?_ _ _ ⟨rfl, rfl, hs⟩
  · rintro a rest r s' ⟨hr, rfl, hall⟩
    obtain ⟨ks, es, o, ep, t, ho, So⟩ := hall a List.mem_cons_self
    have hrest : ∀ a ∈ rest, ∃ ks es, SetE prog w s'.heap a ks es := fun y hy => hall y (List.mem_cons_of_mem _ hy)
    refine wpAny_bind (wpAny_setEntries_of ho So.data So.fits ?_)
    refine wpAny_bind ?_
    rw [← Array.forIn_toList]
    have hel : ∀ e ∈ es.toList, ∃ k, SK.is prog w s'.heap k e.2 := fun e he => by
      obtain ⟨i, hi⟩ := List.mem_iff_getElem?.mp he
      obtain ⟨k, _, _, c⟩ := So.ent.get i e hi
      exact ⟨k, c⟩
    refine wpAny_forIn_list _ (fun rest r s1 => r.1 = none ∧ s1 = s' ∧ ∀ e ∈ rest, ∃ k, SK.is prog w s'.heap k e.2) _ ?_ ?_ _ _ ⟨rfl, rfl, hel⟩
    · rintro ⟨hv, x⟩ rest r s1 ⟨hr1, rfl, hall1⟩
      obtain ⟨k, hk⟩ := hall1 _ List.mem_cons_self
      have hrest1 : ∀ e ∈ rest, ∃ k, SK.is prog w s1.heap k e.2 := fun y hy => hall1 y (List.mem_cons_of_mem _ hy)
      cases k with
      | one k =>
        have : ∀ a, x ≠ .ref a := fun a e => by
          rcases keyIs_shape hk with ⟨j, t, _, e2⟩ | ⟨y, t, _, e2⟩ <;> (rw [show x = _ from e2] at e; cases e)
        cases x with
        | ref a => exact absurd rfl (this a)
        | _ => exact wpAny_pure ⟨rfl, rfl, hrest1⟩
      | many kk =>
        obtain ⟨b, e, hb⟩ := hk
        have e' : x = .ref b := e
        subst e'
        refine wpAny_bind (wpAny_specialOf hb.typeIs F.slot_tuple_eq.lookup ?_)
        rw [if_pos (by decide +kernel)]
        exact wpAny_pure (wpAny_pure (wpAny_pure (q false)))
    · rintro ⟨r1, r2⟩ s1 ⟨hr1, rfl, _⟩
      simp only at hr1
      subst hr1
      exact wpAny_pure ⟨rfl, rfl, hrest⟩
  · rintro ⟨r1, r2⟩ s' ⟨hr, rfl, _⟩
    simp only at hr
    subst hr
    exact wpAny_pure (q true)
theorem walkU_w {a f : Addr} {others : List Addr} {o : Obj} {ks kf : List SK} {es ef : Array (Int × Value)} {ep : Nat} {t : SetTable} {Q : Array (Int × Value) → Shared → Prop} (ho : s.heap.get? a = some o) (S : SetO prog w s.heap o ks es ep t)
    (hoth : ∀ b ∈ others, ∃ k e, SetE prog w s.heap b k e) (hf : SetE prog w s.heap f kf ef)
    (q : ∀ (e1 : Array (Int × Value)) (h' : Heap) (d : Drawn), e1.toList.Perm es.toList → Heap.SameBut f s.heap h' → SetE prog w h' f kf ef → Q e1 { s with heap := h', drawn := d }) :
    wpAny (model prog w) A (setWalkUnseen a others (some f)) Q E s := by
  unfold setWalkUnseen
  refine wpAny_bind (state_w (M := model prog w) ho S ?_)
  dsimp only
  refine wpAny_bind (text_w ?_)
  refine wpAny_ite_split (fun _ => ?_) (fun _ => ?_)
  · exact setWalk_w ho S.lite fun e1 d hp => q e1 s.heap d hp (Heap.SameBut.refl _ _) hf
  · refine wpAny_bind (quiet_w (fun b => ?_) (a :: others) fun b hb => ?_)
    · refine wpAny_ite_split (fun _ => ?_) (fun _ => ?_)
      · exact setWalk_w ho S.lite fun e1 d hp => q e1 s.heap d hp (Heap.SameBut.refl _ _) hf
      · refine wpAny_bind (wpAny_rule ?_)
        obtain ⟨of, epf, tf, hof, Sf⟩ := hf
        refine wpAny_bind (state_w (M := model prog w) hof Sf ?_)
        dsimp only
        refine wpAny_ite_split (fun _ => ?_) (fun _ => ?_)
        · have hz : ef.size ≤ sizeLine := small_fits (by have := Sf.small; have := Sf.ent.length; simp at this; lia)
          refine wpAny_bind (wpAny_storeSet_of hof Sf.data (wpAny_pure ?_) hz)
          have sb := Heap.SameBut.update s.heap f (Obj.putSet ef { tf with led := tf.led && t.led, plain := tf.plain && t.plain })
          refine q es _ s.drawn (.refl _) sb ⟨_, epf + 1, { tf with led := tf.led && t.led, plain := tf.plain && t.plain }, put_get hof Sf.data _ _, ?_⟩
          exact ⟨Sf.ex, rfl, sok_alike Sf.tab rfl rfl rfl, Sf.ent.mono (keepT_sameBut (es := ef) (ep := epf) (t := tf) hof Sf.ex sb), Sf.nod, Sf.small, by
            show (tf.led && t.led) = _
            rw [Sf.led, S.led]; simp, Sf.kind⟩
        · exact wpAny_pure (q es s.heap s.drawn (.refl _) (Heap.SameBut.refl _ _) ⟨of, epf, tf, hof, Sf⟩)
    · rcases List.mem_cons.mp hb with rfl | hb
      · exact ⟨ks, es, o, ep, t, ho, S⟩
      · exact hoth b hb
end
end L2

namespace L2
open PySem PySem.Spec PyProof.Rows L2T
section
variable {prog : Program} {w : World} {A : Around} {E : Value → Shared → Prop} {s : Shared}
theorem SetE.mono {h h' : Heap} {a : Addr} {ks : List SK} {es : Array (Int × Value)} (x : SetE prog w h a ks es) (g : ∀ o, h.get? a = some o → h'.get? a = some o) (K : KeepT h h') : SetE prog w h' a ks es :=
  let ⟨o, ep, t, ho, S⟩ := x; ⟨o, ep, t, g o ho, S.mono K⟩
theorem SetE.typeIs {a : Addr} {ks : List SK} {es : Array (Int × Value)} (x : SetE prog w s.heap a ks es) : s.TypeIs (.ref a) "set" := let ⟨o, _, _, ho, S⟩ := x; ⟨o, ho, S.ex.1⟩
theorem SetE.keepT {h h' : Heap} {a : Addr} {ks : List SK} {es : Array (Int × Value)} (x : SetE prog w h a ks es) (sb : Heap.SameBut a h h') : KeepT h h' :=
  let ⟨_, ep, t, ho, S⟩ := x; keepT_sameBut (es := es) (ep := ep) (t := t) ho S.ex sb
theorem newSet_w {Q : Value → Shared → Prop} (q : SetE prog w (s.heap.push { cls := .type "set", dict := none, data := .set #[] 0 (.fresh 0 0 (led0 w)) }) s.heap.objs.size [] #[] → Q (.ref s.heap.objs.size) { s with heap := s.heap.push { cls := .type "set", dict := none, data := .set #[] 0 (.fresh 0 0 (led0 w)) } }) :
    wpAny (model prog w) A (newSet (.type "set")) Q E s := by
  unfold newSet
  refine wpAny_bind (text_w ?_)
  dsimp only
  simp only [newObj]
  refine wpAny_bind (wpAny_alloc (wpAny_pure (q ?_)))
  exact ⟨_, 0, _, Heap.get?_push_size _ rfl, ⟨rfl, rfl, rfl⟩, rfl, sok_fresh 0 0 _, .nil, List.nodup_nil, by simp, rfl, true, fun k hk => by cases hk⟩
theorem base_w {a : Addr} {ks : List SK} {es : Array (Int × Value)} {Q : Value → Shared → Prop} (x : SetE prog w s.heap a ks es) (q : Q (.type "set") s) : wpAny (model prog w) A (Builtin.Frozenset.baseOf a) Q E s := by
  unfold Builtin.Frozenset.baseOf
  exact wpAny_bind (wpAny_isInstance x.typeIs sub_set_self (wpAny_pure q))
theorem any_w {a : Addr} {ks : List SK} {es : Array (Int × Value)} {Q : Bool → Shared → Prop} (x : SetE prog w s.heap a ks es) (q : Q true s) : wpAny (model prog w) A (Builtin.Frozenset.isAnySet (.ref a)) Q E s := by
  unfold Builtin.Frozenset.isAnySet
  exact wpAny_bind (wpAny_isInstance x.typeIs sub_set_self (wpAny_pure q))
theorem sizeE_w {a : Addr} {ks : List SK} {es : Array (Int × Value)} {Q : Nat → Shared → Prop} (x : SetE prog w s.heap a ks es) (q : Q es.size s) : wpAny (model prog w) A (Builtin.Frozenset.sizeOf a) Q E s := by
  obtain ⟨o, ep, t, ho, S⟩ := x
  unfold Builtin.Frozenset.sizeOf
  exact wpAny_bind (wpAny_setEntries_of ho S.data S.fits (wpAny_pure q))
structure Took (kb : List SK) (p : SK → Bool) (es0 : List (Int × Value)) (kd : List SK) (kr : List SK) (er : Array (Int × Value)) : Prop where
  mem : ∀ k, k ∈ kr ↔ k ∈ kb ∨ (k ∈ kd ∧ p k = true)
  len : kr.length ≤ kb.length + kd.length
  ent : ∀ e ∈ er.toList, e ∈ es0
theorem take_loop {r : Addr} {ks kb : List SK} {es0 : List (Int × Value)} {f : Bool} {p : SK → Bool} {hp : Heap} (body : Int × Value → Sem (ForInStep Unit)) (hf : ∀ k ∈ ks, k.flat = f) (hg : ∀ k ∈ kb, k.flat = f) (hn : kb.length + ks.length ≤ 1000)
    (hb : ∀ (e : Int × Value) (k : SK) (s : Shared) (kr : List SK) (er : Array (Int × Value)) (Q : ForInStep Unit → Shared → Prop), k ∈ ks → e.1 = k.hash prog w → k.is prog w s.heap e.2 → SetE prog w s.heap r kr er → (∀ k' ∈ kr, k'.flat = k.flat) → kr.length + 1 ≤ 1000 →
      (∀ b o, b ≠ r → hp.get? b = some o → s.heap.get? b = some o) → KeepT hp s.heap →
      (∀ h' k1 e1, Heap.SameBut r s.heap h' → SetE prog w h' r k1 e1 → (∀ k', k' ∈ k1 ↔ k' ∈ kr ∨ (k' = k ∧ p k = true)) → k1.length ≤ kr.length + 1 → (∀ e' ∈ e1.toList, e' ∈ er.toList ∨ e' = e) → Q (.yield ()) { s with heap := h' }) →
      wpAny (model prog w) A (body e) Q E s) :
    ∀ (l : List (Int × Value)) (kl kd : List SK) (s : Shared) (kr : List SK) (er : Array (Int × Value)) (Q : Unit → Shared → Prop), Es prog w hp kl l → (∀ e ∈ l, e ∈ es0) → kd ++ kl = ks → KeepT hp s.heap → (∀ b o, b ≠ r → hp.get? b = some o → s.heap.get? b = some o) → SetE prog w s.heap r kr er → Took kb p es0 kd kr er →
      (∀ h' k1 e1, Heap.SameBut r s.heap h' → SetE prog w h' r k1 e1 → Took kb p es0 ks k1 e1 → Q () { s with heap := h' }) →
      wpAny (model prog w) A (forIn l () fun e _ => body e) Q E s := by
  intro l
  induction l with
  | nil =>
    intro kl kd s kr er Q x hin hks K Kb hr tk q
    cases x
    rw [List.append_nil] at hks; subst hks
    exact wpAny_pure (q s.heap kr er (Heap.SameBut.refl _ _) hr tk)
  | cons e l ih =>
    intro kl kd s kr er Q x hin hks K Kb hr tk q
    cases x with
    | @cons k _ kl' _ h1 h2 x' =>
      rw [List.forIn_cons]
      have hkf : k.flat = f := hf k (by rw [← hks]; simp)
      refine wpAny_bind (hb e k s kr er _ (by rw [← hks]; simp) h1 (SK.is_mono K h2) hr (fun k' hk' => ?_) ?_ Kb K fun h' k1 e1 sb S1 m1 l1 en1 => ?_)
      · rw [hkf]
        rcases (tk.mem k').mp hk' with z | z
        · exact hg k' z
        · exact hf k' (by rw [← hks]; exact List.mem_append_left _ z.1)
      · have := tk.len
        have hl : ks.length = kd.length + (k :: kl').length := by rw [← hks, List.length_append]
        simp at hl; lia
      · have kT := hr.keepT sb
        refine ih kl' (kd ++ [k]) { s with heap := h' } k1 e1 Q x' (fun e' he' => hin e' (List.mem_cons_of_mem _ he')) (by rw [← hks]; simp) (fun b o c z => kT b o c (K b o c z)) (fun b o hb' z => (sb.2 b hb').trans (Kb b o hb' z)) S1 ⟨fun k' => ?_, ?_, fun e' he' => ?_⟩ fun h2 k2 e2 sb2 S2 t2 => q h2 k2 e2 (sb.trans sb2) S2 t2
        · rw [m1, tk.mem, List.mem_append, List.mem_singleton]
          constructor
          · rintro ((c | ⟨a, b⟩) | ⟨rfl, b⟩)
            · exact .inl c
            · exact .inr ⟨.inl a, b⟩
            · exact .inr ⟨.inr rfl, b⟩
          · rintro (c | ⟨a | rfl, b⟩)
            · exact .inl (.inl c)
            · exact .inl (.inr ⟨a, b⟩)
            · exact .inr ⟨rfl, b⟩
        · have := tk.len; simp; lia
        · rcases en1 e' he' with z | z
          · exact tk.ent e' z
          · rw [z]; exact hin e List.mem_cons_self
end
end L2

namespace L2
open PySem PySem.Spec PyProof.Rows L2T
section
variable {prog : Program} {w : World} {A : Around} {E : Value → Shared → Prop} {s : Shared}
theorem unch_w {nm : String} {a : Addr} {o : Obj} {es : Array (Int × Value)} {ep : Nat} {t : SetTable} {Q : Unit → Shared → Prop} (ho : s.heap.get? a = some o) (S : SetL w o es ep t) (q : Q () s) : wpAny (model prog w) A (Builtin.Frozenset.unchanged nm a ep) Q E s := by
  unfold Builtin.Frozenset.unchanged
  refine wpAny_bind (wpAny_setEpoch_of ho S.data S.fits ?_)
  simp only [bne_self_eq_false, Bool.false_eq_true, if_false]
  exact wpAny_pure q
theorem pass_w {wk ak r : Addr} {kw ka : List SK} {ew ea : Array (Int × Value)} {nm : String} {ep : Nat} {ow : Obj} {tw : SetTable} {f : Bool} {Q : Unit → Shared → Prop} (body : Int × Value → Sem (ForInStep Unit)) (neg : Bool) (hu : A.units < cLine)
    (hbody : ∀ (h : Int) (x : Value) (s : Shared) (Q : ForInStep Unit → Shared → Prop),
      wpAny (model prog w) A (setFind ak x h) (fun rr s1 =>
        ((rr.isSome != neg) = true → wpAny (model prog w) A (setAddHashed r x h) (fun _ s2 => wpAny (model prog w) A (Builtin.Frozenset.unchanged nm wk ep) (fun _ s3 => Q (.yield ()) s3) E s2) E s1) ∧
        ((rr.isSome != neg) = false → wpAny (model prog w) A (Builtin.Frozenset.unchanged nm wk ep) (fun _ s3 => Q (.yield ()) s3) E s1)) E s → wpAny (model prog w) A (body (h, x)) Q E s)
    (hw : s.heap.get? wk = some ow) (Sw : SetO prog w s.heap ow kw ew ep tw) (xa : SetE prog w s.heap ak ka ea) (xr : SetE prog w s.heap r [] #[]) (hwr : wk ≠ r) (har : ak ≠ r) (hfw : ∀ k ∈ kw, k.flat = f) (hfa : ∀ k ∈ ka, k.flat = f)
    (e1 : Array (Int × Value)) (he1 : e1.toList.Perm ew.toList)
    (q : ∀ h' kr er, Heap.SameBut r s.heap h' → SetE prog w h' r kr er → (∀ k, k ∈ kr ↔ k ∈ kw ∧ (decide (k ∈ ka) != neg) = true) → (∀ e ∈ er.toList, e ∈ ew.toList) → Q () { s with heap := h' }) :
    wpAny (model prog w) A (forIn e1 () fun e _ => body e) Q E s := by
  obtain ⟨k1, p1, x1⟩ := Sw.ent.perm he1
  rw [← Array.forIn_toList]
  refine take_loop (r := r) (ks := k1) (kb := []) (es0 := ew.toList) (f := f) (p := fun k => decide (k ∈ ka) != neg) (hp := s.heap) body (fun k hk => hfw k (p1.mem_iff.mp hk)) (fun k hk => by cases hk) (by have := p1.length_eq; have := Sw.small; simp; lia) ?_ e1.toList k1 [] s [] #[] Q x1 (fun e he => he1.mem_iff.mp he) (by simp) (fun _ _ _ e => e) (fun _ _ _ e => e) xr ⟨fun k => by simp, by simp, fun e he => by simp at he⟩ fun h' kr er sb S' tk => q h' kr er sb S' (fun k => by rw [tk.mem, p1.mem_iff]; simp) tk.ent
  rintro ⟨hh, x⟩ k s1 kr er Q1 hk0 h1 h2 S1 hk1 hr1 Kb K q1
  dsimp only at h1 h2
  subst h1
  have hin : k ∈ kw := p1.mem_iff.mp hk0
  obtain ⟨oa, epa, ta, hoa, Sa⟩ := xa
  have hoa1 := Kb ak oa har hoa
  have Sa1 := Sa.mono K
  have hw1 := Kb wk ow hwr hw
  refine hbody _ _ _ _ (find_w hu hoa1 Sa1 (fun k' hk' => by rw [hfa k' hk', hfw k hin]) h2 fun rr f1 f2 => ?_)
  have hrr : rr.isSome = decide (k ∈ ka) := by
    cases rr with
    | none => exact (decide_eq_false (f2 rfl)).symm
    | some i => exact (decide_eq_true (List.mem_of_getElem? (f1 i rfl))).symm
  rw [hrr]
  obtain ⟨or, epr, tr, hor, Sr⟩ := id S1
  refine ⟨fun hp => ?_, fun hp => ?_⟩
  · refine add_w hu hor Sr hk1 h2 hr1 fun h' k2 e2 sb S2 p2 en2 => ?_
    refine unch_w ((sb.2 wk hwr).trans hw1) Sw.lite (q1 h' k2 e2 sb S2 (fun k' => ?_) ?_ en2)
    · rw [p2.mem_iff]
      split
      · rename_i hkr
        exact ⟨.inl, fun z => z.elim id fun z => z.1 ▸ hkr⟩
      · rw [List.mem_cons]
        exact ⟨fun z => z.elim (fun z => .inr ⟨z, hp⟩) .inl, fun z => z.elim .inr fun z => .inl z.1⟩
    · rw [p2.length_eq]; split <;> simp
  · refine unch_w hw1 Sw.lite (q1 s1.heap kr er (Heap.SameBut.refl _ _) S1 (fun k' => ⟨.inl, fun z => z.elim id fun z => ?_⟩) (by lia) fun e he => .inl he)
    have h3 : (decide (k ∈ ka) != neg) = true := z.2
    rw [hp] at h3; cases h3
theorem inter_w {a b : Addr} {ka kb : List SK} {ea eb : Array (Int × Value)} {f : Bool} {nm : String} {Q : Value → Shared → Prop} (hu : A.units < cLine) (hab : a ≠ b) (xa : SetE prog w s.heap a ka ea) (xb : SetE prog w s.heap b kb eb)
    (hfa : ∀ k ∈ ka, k.flat = f) (hfb : ∀ k ∈ kb, k.flat = f)
    (q : ∀ (h' : Heap) (d : Drawn) (r : Addr) kr er, Keeps' s.heap h' → s.heap.objs.size ≤ r → SetE prog w h' r kr er → (∀ k, k ∈ kr ↔ k ∈ ka ∧ k ∈ kb) → (∀ e ∈ er.toList, e ∈ ea.toList ∨ e ∈ eb.toList) → Q (.ref r) { s with heap := h', drawn := d }) :
    wpAny (model prog w) A (Builtin.Frozenset.intersection nm a (.ref b)) Q E s := by
  have hba : (Value.ref b == Value.ref a) = false := by
    rw [beq_eq_false_iff_ne]; exact fun e => by cases e; exact hab rfl
  unfold Builtin.Frozenset.intersection
  rw [hba]
  simp only [Bool.false_eq_true, if_false]
  refine wpAny_bind (base_w xa ?_)
  refine wpAny_bind (newSet_w fun xr => ?_)
  generalize hN : s.heap.push { cls := .type "set", dict := none, data := .set #[] 0 (.fresh 0 0 (led0 w)) } = h1 at xr ⊢
  have k1 : Keeps' s.heap h1 := by rw [← hN]; exact push_get
  have xa1 : SetE prog w h1 a ka ea := xa.mono (fun o e => k1 a o e) k1.T
  have xb1 : SetE prog w h1 b kb eb := xb.mono (fun o e => k1 b o e) k1.T
  have hra : a ≠ s.heap.objs.size := let ⟨_, _, _, ho, _⟩ := xa; Nat.ne_of_lt (Heap.lt_size ho)
  have hrb : b ≠ s.heap.objs.size := let ⟨_, _, _, ho, _⟩ := xb; Nat.ne_of_lt (Heap.lt_size ho)
  refine wpAny_bind (wpAny_pure ?_)
  refine wpAny_bind (wpAny_holding ?_)
  refine wpAny_bind (any_w (s := { s with heap := h1 }) xb1 ?_)
  simp only [if_true]
  refine wpAny_bind (wpAny_pure ?_)
  refine wpAny_bind (sizeE_w (s := { s with heap := h1 }) xb1 ?_)
  refine wpAny_bind (sizeE_w (s := { s with heap := h1 }) xa1 ?_)
  have fin : ∀ (wk ak : Addr) (kw kk : List SK) (ew ek : Array (Int × Value)), SetE prog w h1 wk kw ew → SetE prog w h1 ak kk ek → wk ≠ s.heap.objs.size → ak ≠ s.heap.objs.size → (∀ k ∈ kw, k.flat = f) → (∀ k ∈ kk, k.flat = f) →
      (∀ k, k ∈ kw ∧ k ∈ kk ↔ k ∈ ka ∧ k ∈ kb) → (∀ e ∈ ew.toList, e ∈ ea.toList ∨ e ∈ eb.toList) →
      wpAny (model prog w) A (do
        let was ← setEpoch wk
        for (h, x) in ← setWalkUnseen wk [ak, s.heap.objs.size] (some s.heap.objs.size) do
          holding [x] do
            if (← setFind ak x h).isSome then
              let _ ← setAddHashed s.heap.objs.size x h
          Builtin.Frozenset.unchanged nm wk was) (fun _ s' => wpAny (model prog w) A (pure (Value.ref s.heap.objs.size)) Q E s') E { s with heap := h1 } := by
    intro wk ak kw kk ew ek xw xk hw hk f1 f2 hm he
    obtain ⟨ow, epw, tw, how, Sw⟩ := id xw
    refine wpAny_bind (wpAny_setEpoch_of how Sw.data Sw.fits ?_)
    refine wpAny_bind (walkU_w how Sw (fun c hc => ?_) xr fun e1 h2 d p2 sb2 xr2 => ?_)
    · simp only [List.mem_cons, List.not_mem_nil, or_false] at hc
      rcases hc with rfl | rfl
      · exact ⟨_, _, xk⟩
      · exact ⟨_, _, xr⟩
    · have kT := xr.keepT sb2
      refine wpAny_bind (pass_w (s := { s with heap := h2, drawn := d }) (wk := wk) (ak := ak) (nm := nm) (ep := epw) (f := f) _ false hu ?_ ((sb2.2 wk hw).trans how) (Sw.mono kT) (xk.mono (fun o e => (sb2.2 ak hk).trans e) kT) xr2 hw hk f1 f2 e1 p2 fun h3 kr er sb3 S3 m3 en3 => ?_)
      · intro h x s1 Q1 hq
        refine wpAny_bind (wpAny_holding (wpAny_bind (wpAny_mono hq (fun rr s2 hr => ?_) fun _ _ z => z)))
        cases hrr : rr.isSome with
        | true =>
          rw [if_pos rfl]
          exact wpAny_bind (wpAny_mono (hr.1 (by rw [hrr]; rfl)) (fun _ s3 z => wpAny_pure (wpAny_bind (wpAny_mono z (fun _ _ y => wpAny_pure y) fun _ _ y => y))) fun _ _ z => z)
        | false =>
          simp only [Bool.false_eq_true, if_false]
          exact wpAny_pure (wpAny_bind (wpAny_mono (hr.2 (by rw [hrr]; rfl)) (fun _ _ y => wpAny_pure y) fun _ _ y => y))
      · refine wpAny_pure (wpAny_pure ?_)
        refine q h3 d _ kr er (fun b o e => ?_) (Nat.le_refl _) S3 (fun k => ?_) (fun e z => he e (en3 e z))
        · have hb : b ≠ s.heap.objs.size := Nat.ne_of_lt (Heap.lt_size e)
          exact (sb3.2 b hb).trans ((sb2.2 b hb).trans (k1 b o e))
        · rw [m3, ← hm]; simp
  split
  · exact fin a b ka kb ea eb xa1 xb1 hra hrb hfa hfb (fun k => Iff.rfl) (fun e h => .inl h)
  · exact fin b a kb ka eb ea xb1 xa1 hrb hra hfb hfa (fun k => And.comm) (fun e h => .inr h)
end
end L2

namespace L2
open PySem PySem.Spec PyProof.Rows L2T
end L2

namespace L2
open PySem PySem.Spec PyProof.Rows L2T
end L2

namespace L2
open PySem PySem.Spec PyProof.Rows L2T
end L2

namespace L2
open PySem PySem.Spec PyProof.Rows L2T
section
variable {prog : Program} {w : World} {A : Around} {E : Value → Shared → Prop} {s : Shared}
theorem so_entry_and : entryFor table "set.__and__" = some Builtin.«frozenset.__and__» := entryFor_alias (id' := "frozenset.__and__") (by kernel_rfl) rfl (by decide +kernel) (by kernel_rfl)
end
end L2

namespace L2
open PySem PySem.Spec PyProof.Rows L2T
section
variable {prog : Program} {w : World} {A : Around} {E : Value → Shared → Prop} {s : Shared}
noncomputable def NewSet (prog : Program) (w : World) (s : Shared) (ea eb : Array (Int × Value)) (m : SK → Prop) (Q : Value → Shared → Prop) : Prop :=
  ∀ (h' : Heap) (d : Drawn) (r : Addr) kr er, Keeps' s.heap h' → s.heap.objs.size ≤ r → SetE prog w h' r kr er → (∀ k, k ∈ kr ↔ m k) → (∀ e ∈ er.toList, e ∈ ea.toList ∨ e ∈ eb.toList) → Q (.ref r) { s with heap := h', drawn := d }
theorem and_w {a b : Addr} {ka kb : List SK} {ea eb : Array (Int × Value)} {f : Bool} {Q : Value → Shared → Prop} (hu : A.units + 8 < cLine) (hab : a ≠ b) (xa : SetE prog w s.heap a ka ea) (xb : SetE prog w s.heap b kb eb)
    (hfa : ∀ k ∈ ka, k.flat = f) (hfb : ∀ k ∈ kb, k.flat = f) (q : NewSet prog w s ea eb (fun k => k ∈ ka ∧ k ∈ kb) Q) : wpAny (model prog w) A (binaryOp .BitAnd (.ref a) (.ref b)) Q E s := by
  refine wpAny_binaryOp_same (op := .BitAnd) xa.typeIs xb.typeIs F.fills_set_and F.slot_set_and (wpAny_call_entry F.slot_set_and xa.typeIs so_entry_and ?_ (F.args_set_and_2 _ _))
  show wpAny _ _ (Builtin.Frozenset.slot1 "__and__" _ >>= _) _ _ _
  unfold Builtin.Frozenset.slot1
  refine wpAny_bind (wpAny_bind (wpAny_pure (wpAny_pure ?_)))
  show wpAny _ _ ((Builtin.Frozenset.isAnySet (.ref a) <&&> Builtin.Frozenset.isAnySet (.ref b)) >>= _) _ _ _
  refine wpAny_bind (wpAny_bind (any_w xa ?_))
  show wpAny _ _ (Builtin.Frozenset.isAnySet (.ref b)) _ _ _
  refine any_w xb ?_
  simp only [Bool.not_true, Bool.false_eq_true, if_false]
  refine wpAny_bind (wpAny_pure ?_)
  refine wpAny_bind (inter_w (f := f) (by simp only [Around.in1_units]; lia) hab xa xb hfa hfb fun h' d r kr er K hr S m en => wpAny_pure ⟨_, rfl, fun e => (by cases e), q h' d r kr er K hr S m en⟩)
end
end L2

namespace L2
open PySem PySem.Spec PyProof.Rows L2T
noncomputable def D.kk : D → Key
  | .int i => .inl i
  | .str l => .inr (T l)
  | _ => .inl 0
noncomputable def D.fl : D → Bool
  | .int _ => true
  | .str _ => true
  | _ => false
noncomputable def D.sk : D → SK
  | .tup ds => .many (ds.map D.kk)
  | d => .one d.kk
noncomputable def D.hk : Bool → D → Bool
  | true, d => d.fl
  | false, .tup ds => ds.all D.fl
  | false, _ => false
theorem kk_inj {d e : D} (h1 : d.fl = true) (h2 : e.fl = true) (h : d.kk = e.kk) : d = e := by
  cases d <;> simp [D.fl] at h1 <;> cases e <;> simp [D.fl] at h2 <;> simp [D.kk] at h
  · rw [h]
  · rw [T_inj] at h; rw [h]
theorem kks_inj : ∀ {ds es : List D}, ds.all D.fl = true → es.all D.fl = true → ds.map D.kk = es.map D.kk → ds = es
  | [], [], _, _, _ => rfl
  | [], _ :: _, _, _, h => by simp at h
  | _ :: _, [], _, _, h => by simp at h
  | d :: ds, e :: es, h1, h2, h => by
    simp only [List.all_cons, Bool.and_eq_true] at h1 h2
    simp only [List.map_cons, List.cons.injEq] at h
    rw [kk_inj h1.1 h2.1 h.1, kks_inj h1.2 h2.2 h.2]
theorem sk_inj {f : Bool} {d e : D} (h1 : d.hk f = true) (h2 : e.hk f = true) (h : d.sk = e.sk) : d = e := by
  cases f with
  | true =>
    simp only [D.hk] at h1 h2
    have e1 : d.sk = .one d.kk := by cases d <;> first | rfl | simp [D.fl] at h1
    have e2 : e.sk = .one e.kk := by cases e <;> first | rfl | simp [D.fl] at h2
    rw [e1, e2] at h
    injection h with h
    exact kk_inj h1 h2 h
  | false =>
    cases d <;> simp [D.hk] at h1
    cases e <;> simp [D.hk] at h2
    simp [D.sk] at h
    rw [kks_inj (by simpa using h1) (by simpa using h2) h]
theorem sk_flat {f : Bool} {d : D} (h : d.hk f = true) : d.sk.flat = f := by
  cases f with
  | true => cases d <;> simp [D.hk, D.fl] at h <;> rfl
  | false => cases d <;> simp [D.hk] at h; rfl
section
variable (P : Program) (w : World)
noncomputable def setHO (p : Addr) (ks : List SK) (xs : List V) : HO := .ext fun h => ∃ o es ep t, h.get? p = some o ∧ o.ExactSet ∧ SetL w o es ep t ∧ es.toList.map (·.1) = ks.map (SK.hash P w) ∧ Vals xs (es.toList.map (·.2)) ∧ ks.Nodup ∧ ks.length ≤ 1000
end
section
variable {X : Cx} {pins : List (Addr × Obj)} {σ : St} {H : Hp} {s : Shared}
theorem Inv.drw (I : Inv X pins σ H s) (d : Drawn) : Inv X pins σ H { s with drawn := d } := ⟨I.ok, I.os, I.bare, I.base, I.loc, I.cell, I.free, I.freeC, I.pin, I.hok, I.len⟩
theorem kk_is {d : D} {x : V} {u : Value} (hf : d.fl = true) (r : Rep X.K H d x) (q : RelV x u) : (mixKind X.prog X.w).is d.kk u = true := by
  cases d <;> simp [D.fl] at hf
  · rw [r.of_int] at q; obtain ⟨t, rfl⟩ := q; exact mixKind_int ..
  · rw [r.of_str] at q; obtain ⟨t, rfl⟩ := q; exact mixKind_str ..
theorem kks_is : ∀ {ds : List D} {xs : List V} {us : List Value}, ds.all D.fl = true → Reps X.K H ds xs → Vals xs us → ItemsAre (mixKind X.prog X.w) (ds.map D.kk) us
  | [], _, _, _, r, q => by rw [Reps] at r; subst r; cases q; exact .nil
  | d :: ds, _, _, hf, r, q => by
    rw [Reps] at r
    obtain ⟨x, xs, rfl, r1, r2⟩ := r
    simp only [List.all_cons, Bool.and_eq_true] at hf
    cases q with
    | cons q1 q2 => exact .cons (kk_is hf.1 r1 q1) (kks_is hf.2 r2 q2)
theorem Inv.sk (I : Inv X pins σ H s) {f : Bool} {d : D} {x : V} {u : Value} (hf : d.hk f = true) (r : Rep X.K H d x) (q : RelV x u) : d.sk.is X.prog X.w s.heap u := by
  cases f with
  | true =>
    have e1 : d.sk = .one d.kk := by cases d <;> first | rfl | simp [D.hk, D.fl] at hf
    rw [e1]; exact kk_is (by simpa [D.hk] using hf) r q
  | false =>
    cases d <;> simp [D.hk] at hf
    rename_i ds
    obtain ⟨p, xs, rfl, sq, rs⟩ := r.of_tup
    cases q
    obtain ⟨its, rv, ⟨o, e, c, n, hd⟩, _⟩ := I.tuple sq
    exact ⟨p, rfl, o, its.toArray, n, e, c, hd, by simpa using kks_is (by simpa using hf) rs rv⟩
theorem es_of (I : Inv X pins σ H s) {f : Bool} : ∀ {ds : List D} {xs : List V} {es : List (Int × Value)}, (∀ d ∈ ds, d.hk f = true) → Reps X.K H ds xs → Vals xs (es.map (·.2)) → es.map (·.1) = (ds.map D.sk).map (SK.hash X.prog X.w) → Es X.prog X.w s.heap (ds.map D.sk) es
  | [], _, es, _, r, q, _ => by
    rw [Reps] at r; subst r
    cases es with
    | nil => exact .nil
    | cons _ _ => cases q
  | d :: ds, _, es, hf, r, q, hh => by
    rw [Reps] at r
    obtain ⟨x, xs, rfl, r1, r2⟩ := r
    cases es with
    | nil => cases q
    | cons e es =>
      simp only [List.map_cons, List.cons.injEq] at hh
      cases q with
      | cons q1 q2 => exact .cons hh.1 (I.sk (hf d List.mem_cons_self) r1 q1) (es_of I (fun d' h => hf d' (List.mem_cons_of_mem _ h)) r2 q2 hh.2)
theorem Inv.setE (I : Inv X pins σ H s) {f : Bool} {a : Addr} {ds : List D} {xs : List V} (e : H a = some (setHO X.prog X.w a (ds.map D.sk) xs)) (hf : ∀ d ∈ ds, d.hk f = true) (r : Reps X.K H ds xs) :
    ∃ es, SetE X.prog X.w s.heap a (ds.map D.sk) es ∧ Vals xs (es.toList.map (·.2)) := by
  obtain ⟨⟨o, es, ep, t, ho, hx, S, hh, rv, hn, hl⟩, _, _⟩ := I.hok a _ e
  exact ⟨es, ⟨o, ep, t, ho, hx, S.data, S.tab, es_of I hf r rv hh, hn, hl, S.led, f, fun k hk => by
    obtain ⟨d, hd, rfl⟩ := List.mem_map.mp hk
    exact sk_flat (hf d hd)⟩, rv⟩
noncomputable def Src (da : List D) (xa : List V) (db : List D) (xb : List V) (dr : List D) (xr : List V) : Prop :=
  dr.length = xr.length ∧ ∀ (i : Nat) d x, dr[i]? = some d → xr[i]? = some x → ∃ j : Nat, (da[j]? = some d ∧ xa[j]? = some x) ∨ (db[j]? = some d ∧ xb[j]? = some x)
theorem Src.reps {K : PySem.W.Frag} {F : Hp} {da db dr : List D} {xa xb xr : List V} (h : Src da xa db xb dr xr) (ra : Reps K F da xa) (rb : Reps K F db xb) : Reps K F dr xr := by
  obtain ⟨hl, h⟩ := h
  induction dr generalizing xr with
  | nil => cases xr with
    | nil => exact Reps.nil
    | cons _ _ => simp at hl
  | cons d dr ih => cases xr with
    | nil => simp at hl
    | cons x xr =>
      refine Reps.cons ?_ (ih (by simpa using hl) fun i d' x' h1 h2 => h (i + 1) d' x' h1 h2)
      obtain ⟨j, ⟨h1, h2⟩ | ⟨h1, h2⟩⟩ := h 0 d x rfl rfl
      · obtain ⟨x', e, r⟩ := ra.get' h1
        rw [h2] at e; cases e; exact r
      · obtain ⟨x', e, r⟩ := rb.get' h1
        rw [h2] at e; cases e; exact r
theorem Src.mem {da db dr : List D} {xa xb xr : List V} (h : Src da xa db xb dr xr) {d : D} (hd : d ∈ dr) : d ∈ da ∨ d ∈ db := by
  obtain ⟨i, hi⟩ := List.mem_iff_getElem?.mp hd
  have hil := (List.getElem?_eq_some_iff.mp hi).1
  obtain ⟨j, ⟨h1, _⟩ | ⟨h1, _⟩⟩ := h.2 i d (xr[i]'(by have := h.1; lia)) hi (List.getElem?_eq_getElem _)
  · exact .inl (List.mem_of_getElem? h1)
  · exact .inr (List.mem_of_getElem? h1)
theorem is_inj {h : Heap} {k k' : SK} {v : Value} (a : k.is X.prog X.w h v) (b : k'.is X.prog X.w h v) (hf : k.flat = k'.flat) : k = k' := by
  cases k <;> cases k' <;> simp [SK.flat] at hf
  · exact congrArg _ ((mixKind X.prog X.w).inj _ _ _ a b)
  · obtain ⟨u, e1, i1⟩ := a
    obtain ⟨v, e2, i2⟩ := b
    rw [e1] at e2; cases e2
    exact congrArg _ (i1.inj i2)
theorem src_of {h' : Heap} {f : Bool} {da db : List D} {xa xb : List V} {ea eb : List (Int × Value)} (K' : KeepT s.heap h') (Ea : Es X.prog X.w s.heap (da.map D.sk) ea) (Eb : Es X.prog X.w s.heap (db.map D.sk) eb) (va : Vals xa (ea.map (·.2))) (vb : Vals xb (eb.map (·.2)))
    (hfa : ∀ d ∈ da, d.hk f = true) (hfb : ∀ d ∈ db, d.hk f = true) : ∀ {kr : List SK} {er : List (Int × Value)}, Es X.prog X.w h' kr er → (∀ k ∈ kr, k.flat = f) → (∀ e ∈ er, e ∈ ea ∨ e ∈ eb) →
    ∃ dr xr, dr.map D.sk = kr ∧ Vals xr (er.map (·.2)) ∧ Src da xa db xb dr xr := by
  intro kr er x
  induction x with
  | nil => intro _ _; exact ⟨[], [], rfl, .nil, rfl, fun i d x h => by simp at h⟩
  | @cons k e kr er h1 h2 _ ih =>
    intro hk hin
    obtain ⟨dr, xr, a, b, c⟩ := ih (fun k h => hk k (List.mem_cons_of_mem _ h)) fun e h => hin e (List.mem_cons_of_mem _ h)
    have pick : ∀ (dz : List D) (xz : List V) (ez : List (Int × Value)), Es X.prog X.w s.heap (dz.map D.sk) ez → Vals xz (ez.map (·.2)) → (∀ d ∈ dz, d.hk f = true) → e ∈ ez → ∃ (j : Nat) (d : D) (x : V), dz[j]? = some d ∧ xz[j]? = some x ∧ d.sk = k ∧ RelV x e.2 := by
      intro dz xz ez E1 v1 hf1 hm
      obtain ⟨j, hj⟩ := List.mem_iff_getElem?.mp hm
      obtain ⟨k', g1, g2, g3⟩ := E1.get j e hj
      rw [List.getElem?_map] at g1
      cases hd : dz[j]? with
      | none => rw [hd] at g1; cases g1
      | some d =>
        rw [hd] at g1
        have g1' : d.sk = k' := by simpa using g1
        have hjl : j < xz.length := by
          have := v1.length
          have := (List.getElem?_eq_some_iff.mp hj).1
          simp at *; lia
        obtain ⟨u, hu, ru⟩ := v1.get (List.getElem?_eq_getElem hjl)
        rw [List.getElem?_map, hj] at hu
        have hu' : e.2 = u := by simpa using hu
        refine ⟨j, d, _, hd, List.getElem?_eq_getElem hjl, ?_, by rw [hu']; exact ru⟩
        rw [g1']
        refine is_inj (SK.is_mono K' g3) h2 ?_
        rw [← g1', sk_flat (hf1 d (List.mem_of_getElem? hd)), hk k List.mem_cons_self]
    rcases hin e List.mem_cons_self with hm | hm
    · obtain ⟨j, d, y, p1, p2, p3, p4⟩ := pick da xa ea Ea va hfa hm
      refine ⟨d :: dr, y :: xr, by rw [List.map_cons, p3, a], .cons p4 b, by simp [c.1], fun i d' x' q1 q2 => ?_⟩
      cases i with
      | zero => simp at q1 q2; subst q1; subst q2; exact ⟨j, .inl ⟨p1, p2⟩⟩
      | succ i => exact c.2 i d' x' q1 q2
    · obtain ⟨j, d, y, p1, p2, p3, p4⟩ := pick db xb eb Eb vb hfb hm
      refine ⟨d :: dr, y :: xr, by rw [List.map_cons, p3, a], .cons p4 b, by simp [c.1], fun i d' x' q1 q2 => ?_⟩
      cases i with
      | zero => simp at q1 q2; subst q1; subst q2; exact ⟨j, .inr ⟨p1, p2⟩⟩
      | succ i => exact c.2 i d' x' q1 q2
theorem setHO_ok {h' : Heap} {r : Addr} {H' : Hp} {dr : List D} {xr : List V} {er : Array (Int × Value)} (S : SetE X.prog X.w h' r (dr.map D.sk) er) (v : Vals xr (er.toList.map (·.2))) : ObjOk X.prog X.w H' h' r (setHO X.prog X.w r (dr.map D.sk) xr) := by
  obtain ⟨o, ep, t, ho, S⟩ := S
  refine ⟨⟨o, er, ep, t, ho, S.ex, S.lite, ?_, v, S.nod, S.small⟩, ⟨o, ho⟩, ?_⟩
  · have := S.ent
    generalize dr.map D.sk = kr at this
    generalize er.toList = el at this
    induction this with
    | nil => rfl
    | cons a _ _ ih => simp [a, ih]
  · rintro h1 h2 ⟨o, es, ep, t, ho, r⟩ k
    exact ⟨o, es, ep, t, k o ho, r⟩
end
end L2

namespace L2
open PySem PySem.Spec PyProof.Rows L2T
section
variable (P : Program) (w : World) (K : PySem.W.Frag)
noncomputable def rSetOf (f : Bool) : List V → Hp → VK → Prop := fun vs H Q => ∃ a xs ds, vs = [.ref a] ∧ SqL K H a xs ∧ Reps K H ds xs ∧ (∀ d ∈ ds, d.hk f = true) ∧ ds.length ≤ 1000 ∧
  ∀ r dr xr, H r = none → dr.Nodup → (∀ d, d ∈ dr ↔ d ∈ ds) → Src ds xs [] [] dr xr → Q (.ref r) (upd H r (setHO P w r (dr.map D.sk) xr))
noncomputable def rSet2 (f : Bool) (m : List D → List D → D → Prop) : R2 := fun x y H Q => ∃ a b da db xa xb, x = .ref a ∧ y = .ref b ∧ a ≠ b ∧ H a = some (setHO P w a (da.map D.sk) xa) ∧ H b = some (setHO P w b (db.map D.sk) xb) ∧
  Reps K H da xa ∧ Reps K H db xb ∧ (∀ d ∈ da, d.hk f = true) ∧ (∀ d ∈ db, d.hk f = true) ∧ da.length + db.length ≤ 1000 ∧
  ∀ r dr xr, H r = none → dr.Nodup → (∀ d, d ∈ dr ↔ m da db d) → Src da xa db xb dr xr → Q (.ref r) (upd H r (setHO P w r (dr.map D.sk) xr))
noncomputable def mAnd (da db : List D) (d : D) : Prop := d ∈ da ∧ d ∈ db
noncomputable def rLenS (f : Bool) : List V → Hp → VK → Prop := fun vs H Q => ∃ a xs ds, vs = [.ref a] ∧ H a = some (setHO P w a (ds.map D.sk) xs) ∧ Reps K H ds xs ∧ (∀ d ∈ ds, d.hk f = true) ∧ Q (.int ds.length) H
end
theorem sk_mem {f : Bool} {ds : List D} (hf : ∀ d ∈ ds, d.hk f = true) {d : D} (hd : d.hk f = true) : d.sk ∈ ds.map D.sk ↔ d ∈ ds := by
  constructor
  · intro h
    obtain ⟨e, he, h2⟩ := List.mem_map.mp h
    rw [← sk_inj (hf e he) hd h2]; exact he
  · exact fun h => List.mem_map_of_mem h
theorem sk_nodup {dr : List D} (h : (dr.map D.sk).Nodup) : dr.Nodup := by
  unfold List.Nodup at *
  rw [List.pairwise_map] at h
  exact h.imp fun a e => a (congrArg _ e)
section
variable {X : Cx}
theorem call_setL {f : Bool} (hc : X.calm = true) (hu : X.A.units + 64 < cLine) : CallR X (.type "set") (rSetOf X.prog X.w X.K f) := by
  intro pins s σ H vs us Q I r h
  obtain ⟨a, xs, ds, rfl, hq, rs, hf, hl, q⟩ := h
  obtain ⟨u, rfl, ru⟩ := vals1 r
  cases ru
  obtain ⟨its, rv, pl, _⟩ := I.list hq
  have l1 := rs.length
  have l2 := rv.length
  have hk0 : ∀ k ∈ ds.map D.sk, k.flat = f := fun k hk => by obtain ⟨d, hd, rfl⟩ := List.mem_map.mp hk; exact sk_flat (hf d hd)
  have hkey : ∀ (j : Nat) (v : Value) (k : SK), its.toArray[j]? = some v → (ds.map D.sk)[j]? = some k → k.is X.prog X.w s.heap v := fun j v k h1 h2 => by
    rw [List.getElem?_map] at h2
    cases hd : ds[j]? with
    | none => rw [hd] at h2; cases h2
    | some d =>
      rw [hd] at h2
      have : d.sk = k := by simpa using h2
      subst this
      obtain ⟨x, hx, rx⟩ := rs.get' hd
      obtain ⟨u, hu', ru⟩ := rv.get hx
      have h1' : its[j]? = some v := by simpa using h1
      rw [h1'] at hu'; cases hu'
      exact I.sk (hf d (List.mem_of_getElem? hd)) rx ru
  refine call_set_w (k0 := ds.map D.sk) (f := f) (by lia) (I.ok.hd hc) pl.isList (by simp; lia) (by simp; lia) hk0 hkey fun h' tk ks es K' S p => ?_
  have hex : ∀ (kr : List SK) (el : List (Int × Value)), Es X.prog X.w h' kr el → (∀ k ∈ kr, k.flat = f) → (∀ e ∈ el, ∃ j : Nat, its.toArray[j]? = some e.2) → ∃ dr xr, dr.map D.sk = kr ∧ Vals xr (el.map (·.2)) ∧ Src ds xs [] [] dr xr := by
    intro kr el en
    induction en with
    | nil => intro _ _; exact ⟨[], [], rfl, .nil, rfl, fun i d x h => by simp at h⟩
    | @cons k e kr er g1 g2 _ ih =>
      intro hkk hent
      obtain ⟨dr, xr, a1, b1, c1⟩ := ih (fun k h => hkk k (List.mem_cons_of_mem _ h)) fun e h => hent e (List.mem_cons_of_mem _ h)
      obtain ⟨j, hj⟩ := hent e List.mem_cons_self
      have hj' : its[j]? = some e.2 := by simpa using hj
      have hjl := (List.getElem?_eq_some_iff.mp hj').1
      have hjd : ds[j]? = some (ds[j]'(by lia)) := List.getElem?_eq_getElem _
      obtain ⟨x, hx, rx⟩ := rs.get' hjd
      obtain ⟨u, hu', ru⟩ := rv.get hx
      rw [hj'] at hu'; cases hu'
      have hdk := hf _ (List.mem_of_getElem? hjd)
      have hsk : (ds[j]'(by lia)).sk = k := is_inj (SK.is_mono K'.T (I.sk hdk rx ru)) g2 (by rw [sk_flat hdk, hkk k List.mem_cons_self])
      refine ⟨_ :: dr, x :: xr, by rw [List.map_cons, hsk, a1], .cons ru b1, by simp [c1.1], fun i d' x' q1 q2 => ?_⟩
      cases i with
      | zero => simp at q1 q2; subst q1; subst q2; exact ⟨j, .inl ⟨hjd, hx⟩⟩
      | succ i => exact c1.2 i d' x' q1 q2
  obtain ⟨dr, xr, e1, v1, src⟩ := hex ks es.toList (let ⟨_, _, _, _, T⟩ := S; T.ent) (fun k hk => by
      obtain ⟨j, _, hj⟩ := (p.mem k).mp hk
      exact hk0 k (List.mem_of_getElem? hj)) p.ent
  subst e1
  have hnod : dr.Nodup := by obtain ⟨_, _, _, _, T⟩ := S; exact sk_nodup T.nod
  have hdr : ∀ d ∈ dr, d.hk f = true := fun d hd => by
    rcases src.mem hd with z | z
    · exact hf d z
    · cases z
  refine ⟨.ref s.heap.objs.size, _, I.laid (t' := tk) K' (Nat.le_refl _) (setHO_ok S v1), rfl, q _ dr xr (I.hok.fresh (Nat.le_refl _)) hnod (fun d => ⟨fun h => (src.mem h).elim id (fun z => by cases z), fun h => ?_⟩) src⟩
  refine (sk_mem hdr (hf d h)).mp ((p.mem d.sk).mpr ?_)
  obtain ⟨j, hj⟩ := List.mem_iff_getElem?.mp h
  exact ⟨j, by have := (List.getElem?_eq_some_iff.mp hj).1; simp; lia, by rw [List.getElem?_map, hj]; rfl⟩
theorem op_set2 {op : Operator} {f : Bool} {m : List D → List D → D → Prop} (mk : List SK → List SK → SK → Prop)
    (hm : ∀ (da db : List D) (d : D), (∀ d ∈ da, d.hk f = true) → (∀ d ∈ db, d.hk f = true) → d.hk f = true → (mk (da.map D.sk) (db.map D.sk) d.sk ↔ m da db d)) (hsub : ∀ da db d, m da db d → d ∈ da ∨ d ∈ db)
    (hw : ∀ (s : Shared) (a b : Addr) (ka kb : List SK) (ea eb : Array (Int × Value)) (Q : Value → Shared → Prop), a ≠ b → SetE X.prog X.w s.heap a ka ea → SetE X.prog X.w s.heap b kb eb → (∀ k ∈ ka, k.flat = f) → (∀ k ∈ kb, k.flat = f) → ka.length + kb.length ≤ 1000 →
      NewSet X.prog X.w s ea eb (mk ka kb) Q → wpAny (model X.prog X.w) X.A (binaryOp op (.ref a) (.ref b)) Q X.xe s) (hmk : ∀ ka kb k, mk ka kb k → k ∈ ka ∨ k ∈ kb) : OpR X (binaryOp op) (rSet2 X.prog X.w X.K f m) := by
  intro pins s σ H x y v u Q I rx ry h
  obtain ⟨a, b, da, db, xa, xb, rfl, rfl, hab, ha, hb, ra, rb, hfa, hfb, hl, q⟩ := h
  cases rx
  cases ry
  obtain ⟨ea, Sa, va⟩ := I.setE ha hfa ra
  obtain ⟨eb, Sb, vb⟩ := I.setE hb hfb rb
  have fk : ∀ (dz : List D), (∀ d ∈ dz, d.hk f = true) → ∀ k ∈ dz.map D.sk, k.flat = f := fun dz hz k hk => by obtain ⟨d, hd, rfl⟩ := List.mem_map.mp hk; exact sk_flat (hz d hd)
  refine hw s a b _ _ ea eb _ hab Sa Sb (fk da hfa) (fk db hfb) (by simpa using hl) fun h' d r kr er K' hr S mm en => ?_
  obtain ⟨_, _, _, _, Ta⟩ := Sa
  obtain ⟨_, _, _, _, Tb⟩ := Sb
  obtain ⟨o, ep, t, ho, T⟩ := id S
  have hkr : ∀ k ∈ kr, k.flat = f := fun k hk => by
    rcases hmk _ _ _ ((mm k).mp hk) with z | z
    · exact fk da hfa k z
    · exact fk db hfb k z
  obtain ⟨dr, xr, e1, v1, src⟩ := src_of (f := f) K'.T Ta.ent Tb.ent va vb hfa hfb T.ent hkr en
  subst e1
  have hdr : ∀ d ∈ dr, d.hk f = true := fun d hd => (src.mem hd).elim (hfa d) (hfb d)
  refine ⟨.ref r, _, (I.laid (t' := s.toks) K' hr (setHO_ok S v1)).drw d, rfl, q r dr xr (I.hok.fresh hr) (sk_nodup T.nod) (fun d => ⟨fun h => ?_, fun h => ?_⟩) src⟩
  · exact (hm da db d hfa hfb (hdr d h)).mp ((mm d.sk).mp (List.mem_map_of_mem h))
  · have hdk : d.hk f = true := (hsub da db d h).elim (hfa d) (hfb d)
    exact (sk_mem hdr hdk).mp ((mm d.sk).mpr ((hm da db d hfa hfb hdk).mpr h))
theorem op_andS {f : Bool} (hu : X.A.units + 64 < cLine) : OpR X (binaryOp .BitAnd) (rSet2 X.prog X.w X.K f mAnd) :=
  op_set2 (fun ka kb k => k ∈ ka ∧ k ∈ kb) (fun da db d h1 h2 h3 => by rw [sk_mem h1 h3, sk_mem h2 h3]; rfl) (fun da db d h => .inl h.1) (fun s a b ka kb ea eb Q hab Sa Sb ha hb _ q => and_w (f := f) (by lia) hab Sa Sb ha hb q) fun ka kb k h => .inl h.1
theorem call_lenS {f : Bool} : CallR X (.builtin "len") (rLenS X.prog X.w X.K f) := by
  intro pins s σ H vs us Q I r h
  obtain ⟨a, xs, ds, rfl, ha, rs, hf, q⟩ := h
  obtain ⟨u, rfl, ru⟩ := vals1 r
  cases ru
  obtain ⟨es, ⟨o, ep, t, ho, S⟩, v⟩ := I.setE ha hf rs
  have hl : es.size = ds.length := by have := S.ent.length; simp at this; lia
  have hs := S.small
  simp at hs
  refine call_len_set ho S.ex S.data S.fits (by lia) ⟨.int ds.length, H, I.tok _, ⟨_, by rw [hl]⟩, q⟩
end
end L2

namespace L2
open PySem PySem.W PyProof.Rows L2T
end L2

namespace L2
open PySem PySem.W PyProof.Rows L2T
end L2

namespace L2
open PySem PySem.W PyProof.Rows L2T
noncomputable def EvS (P : Program) (w : World) (K : PySem.W.Frag) (G H₀ L : Hp) (ss : List Sl) (t : TE) (ds : List D) : Prop := ∀ F H σ Q, Sat K G H₀ L F H σ ss →
  (∀ p xs F' H' ds', Ext F H F' H' → H p = none → F' p = none → H' p = some (setHO P w p (ds'.map D.sk) xs) → Reps K F' ds' xs → ds'.Nodup → (∀ d, d ∈ ds' ↔ d ∈ ds) → Q (.ref p) H') → t σ H Q
theorem nodup_len {α : Type} [DecidableEq α] : ∀ {a b : List α}, a.Nodup → (∀ x ∈ a, x ∈ b) → a.length ≤ b.length
  | [], _, _, _ => Nat.zero_le _
  | x :: a, b, hn, h => by
    rw [List.nodup_cons] at hn
    have h1 := nodup_len (b := b.erase x) hn.2 fun y hy => (List.mem_erase_of_ne (show y ≠ x from fun e => hn.1 (by rw [← e]; exact hy))).mpr (h y (List.mem_cons_of_mem _ hy))
    have hx := h x List.mem_cons_self
    have := List.length_erase_of_mem hx
    have := List.length_pos_of_mem hx
    simp; lia
section
variable {P : Program} {w : World} {K : PySem.W.Frag} {G H₀ L : Hp} {ss : List Sl} {t ta tb : TE} {f : Bool} {ds da db dr : List D}
theorem evs_set (a : EvL K G H₀ L ss t ds) (hf : ∀ d ∈ ds, d.hk f = true) (hl : ds.length ≤ 1000) : EvS P w K G H₀ L ss (tCB (rSetOf P w K f) (tCons t tNil)) ds := fun F H σ Q S q =>
  a F H σ _ S fun p vs F' H' e sq r => ⟨p, vs, ds, rfl, sq, r.mono e.fh, hf, hl, fun l dr xr hl' hn hm src =>
    q l xr F' _ dr (e.newO hl') (e.hh.free hl') (e.fh.free hl') upd_same (src.reps r Reps.nil) hn hm⟩
theorem evs_op {m : List D → List D → D → Prop} (hcong : ∀ a a' b b' d, (∀ d, d ∈ a ↔ d ∈ a') → (∀ d, d ∈ b ↔ d ∈ b') → (m a b d ↔ m a' b' d)) (a : EvS P w K G H₀ L ss ta da) (b : EvS P w K G H₀ L ss tb db) (hfa : ∀ d ∈ da, d.hk f = true) (hfb : ∀ d ∈ db, d.hk f = true)
    (hl : da.length + db.length ≤ 1000) (hm : ∀ d, d ∈ dr ↔ m da db d) : EvS P w K G H₀ L ss (tOp (rSet2 P w K f m) ta tb) dr := fun F H σ Q S q =>
  a F H σ _ S fun p xs F1 H1 d1 e1 hp fp hp1 r1 n1 m1 => b F1 H1 σ _ (S.ext2 e1) fun p2 xs2 F2 H2 d2 e2 hp2 fp2 hpp2 r2 n2 m2 => by
    have hne : p ≠ p2 := fun z => by rw [← z, hp1] at hp2; cases hp2
    have l1 := nodup_len n1 fun x h => (m1 x).mp h
    have l2 := nodup_len n2 fun x h => (m2 x).mp h
    refine ⟨p, p2, d1, d2, xs, xs2, rfl, rfl, hne, e2.hh p _ hp1, hpp2, (r1.mono e2.gf).mono e2.fh, r2.mono e2.fh, fun d h => hfa d ((m1 d).mp h), fun d h => hfb d ((m2 d).mp h), by lia, fun r dr' xr hr hn hmm src => ?_⟩
    have e12 := e1.trans e2
    exact q r xr F2 _ dr' (e12.newO hr) (e12.hh.free hr) (e12.fh.free hr) upd_same (src.reps (r1.mono e2.gf) r2) hn fun d => by rw [hmm, hm]; exact hcong _ _ _ _ _ m1 m2
theorem evs_and (a : EvS P w K G H₀ L ss ta da) (b : EvS P w K G H₀ L ss tb db) (hfa : ∀ d ∈ da, d.hk f = true) (hfb : ∀ d ∈ db, d.hk f = true) (hl : da.length + db.length ≤ 1000) (hm : ∀ d, d ∈ dr ↔ d ∈ da ∧ d ∈ db) : EvS P w K G H₀ L ss (tOp (rSet2 P w K f mAnd) ta tb) dr :=
  evs_op (m := mAnd) (fun a a' b b' d h1 h2 => by unfold mAnd; rw [h1, h2]) a b hfa hfb hl hm
theorem ev_lenSet (dd : List D) (a : EvS P w K G H₀ L ss t ds) (hf : ∀ d ∈ ds, d.hk f = true) (hn : dd.Nodup) (hm : ∀ d, d ∈ dd ↔ d ∈ ds) : Ev K G H₀ L ss (tCB (rLenS P w K f) (tCons t tNil)) (.int dd.length) := fun F H σ Q S q =>
  a F H σ _ S fun p xs F' H' d1 e hp fp hp1 r n1 m1 => ⟨p, xs, d1, rfl, hp1, r.mono e.fh, fun d h => hf d ((m1 d).mp h), by
    have hp : dd.Perm d1 := (List.perm_ext_iff_of_nodup hn n1).mpr fun d => by rw [hm, m1]
    rw [← hp.length_eq]
    exact q _ F' H' e Rep.int⟩
end
noncomputable def ded : List D → List D
  | [] => []
  | d :: ds => if d ∈ ds then ded ds else d :: ded ds
theorem ded_mem {d : D} : ∀ {ds : List D}, d ∈ ded ds ↔ d ∈ ds
  | [] => Iff.rfl
  | e :: ds => by
    unfold ded
    split
    · rw [ded_mem, List.mem_cons]
      exact ⟨.inr, fun h => h.elim (fun z => z ▸ by assumption) id⟩
    · rw [List.mem_cons, List.mem_cons, ded_mem]
theorem ded_nodup : ∀ ds : List D, (ded ds).Nodup
  | [] => List.nodup_nil
  | e :: ds => by
    unfold ded
    split
    · exact ded_nodup ds
    · rw [List.nodup_cons, ded_mem]; exact ⟨by assumption, ded_nodup ds⟩
end L2

namespace L2
open PySem PySem.W PyProof.Rows L2T
noncomputable def rCatD (K : PySem.W.Frag) : R2 := fun x y H Q => ∃ l b xs zs, x = .ref l ∧ y = .ref b ∧ SqL K H l xs ∧ SqL K H b zs ∧ xs.length + zs.length ≤ sizeLine ∧ ∀ p, H p = none → Q (.ref p) (upd H p (.lst (xs ++ zs)))
theorem op_catD {X : Cx} : OpR X (binaryOp .Add) (rCatD X.K) := by
  intro pins s σ H x y v u Q I rx ry h
  obtain ⟨l, b, xs, zs, rfl, rfl, hl, hb, hz, q⟩ := h
  cases rx
  cases ry
  obtain ⟨its, r, pl, _⟩ := I.list hl
  obtain ⟨its2, r2, pl2, _⟩ := I.list hb
  have z1 := r.length
  have z2 := r2.length
  obtain ⟨⟨cls, dd, data, sl⟩, ho, hc, n, hd⟩ := pl.isList
  obtain ⟨⟨cls2, dd2, data2, sl2⟩, ho2, hc2, n2, hd2⟩ := pl2.isList
  dsimp only at hc hd hc2 hd2
  subst hc; subst hd; subst hc2; subst hd2
  refine concat_meets ⟨_, ho, rfl⟩ ⟨_, ho2, rfl⟩ noFill_list_add seq_list_add PySem.F.slot_list_add PySem.F.entry_list_add (PySem.F.args_list_add_2 _ _) (list_addW l b its.toArray its2.toArray n n2 dd dd2 sl sl2 (by simp; lia)) ⟨ho, ho2, ?_⟩
  have ea : its.toArray ++ its2.toArray = (its ++ its2).toArray := by simp
  rw [ea]
  exact ⟨.ref _, _, I.lnew (t' := s.toks) (r.append r2) (by rw [List.length_append]; omega), rfl, q _ I.fresh⟩
section
variable {K : PySem.W.Frag} {G H₀ L : Hp} {ss : List Sl} {ta tb : TE} {da db : List D}
theorem evo_cat (a : EvL K G H₀ L ss ta da) (b : EvL K G H₀ L ss tb db) (hz : da.length + db.length ≤ sizeLine) : EvO K G H₀ L ss (tOp (rCatD K) ta tb) (da ++ db) := fun F H σ Q S q =>
  a F H σ _ S fun p vs F1 H1 e1 sq1 r1 => b F1 H1 σ _ (S.ext2 e1) fun p2 vs2 F2 H2 e2 sq2 r2 => by
    have l1 := r1.length
    have l2 := r2.length
    refine ⟨p, p2, vs, vs2, rfl, rfl, SqL.same e2.hh sq1, sq2, by lia, fun l hl => ?_⟩
    have e12 := e1.trans e2
    exact q l _ F2 _ (e12.newO hl) (e12.hh.free hl) (e12.fh.free hl) upd_same ((r1.mono e2.gf).append r2)
end
end L2

namespace L2
open PySem PySem.W PyProof.Rows L2T
mutual
noncomputable def D.nl : D → Bool
  | .lst _ => false
  | .dct _ _ => false
  | .dctT _ _ => false
  | .ins _ _ _ => false
  | .tup a => D.nls a
  | _ => true
noncomputable def D.nls : List D → Bool
  | [] => true
  | a :: x => a.nl && D.nls x
end
end L2

namespace L2
open PySem PySem.W PyProof.Rows L2T
end L2

namespace L2
open PySem PySem.W PyProof.Rows L2T
noncomputable def rUpper : V → List V → Hp → VK → Prop := fun x vs H Q => ∃ z, x = .str z ∧ vs = [] ∧ Builtin.Str.tooLong (Txt.upper z).length = false ∧ Q (.str (Txt.upper z)) H
theorem mt_upper {X : Cx} : MtR X "str.upper" rUpper := by
  intro pins s σ H x xs v us Q I rx rs h
  obtain ⟨z, rfl, rfl, hz, q⟩ := h
  obtain ⟨t, rfl⟩ := rx
  cases rs
  exact SC.upper hz ⟨.str _, H, I.tok _, ⟨_, rfl⟩, q⟩
end L2

namespace L2
open PySem PySem.W PySem.Spec PyProof.Rows
noncomputable def SpR (K : PySem.W.Frag) (pre : List D → Prop) (R : List D → List D → Prop) : Sp := fun vs H Q _ => ∃ G ds, Same G H ∧ Reps K G ds vs ∧ pre ds ∧ ∀ rs, R ds rs → ∀ p ws G' H', Ext G H G' H' → H p = none → G' p = none → H' p = some (.lst ws) → Reps K G' rs ws → Q (.ref p) H'
section
variable {K : PySem.W.Frag} {H : Hp} {vs : List V} {Q : VK} {X : XK} {N : List Str} {t : TS} {pre : List D → Prop} {R : List D → List D → Prop}
theorem go_spR (h : SpR K pre R vs H Q X) (hN : vs.length ≤ N.length) (body : ∀ G ds, pre ds → (∀ rs, R ds rs → RtO K G H Q rs) → Go K G H G { nx := fun _ H' => Q .non H', rt := Q } (slots N.length ds) t) : t { nx := fun _ H' => Q .non H', rt := Q } (start N vs) H := by
  obtain ⟨G, ds, sm, r, hp, q⟩ := h
  exact body G ds hp (fun rs hR p ws F H' e h1 h2 h3 r => q rs hR p ws F H' e h1 h2 h3 r) G H _ (sat_start sm r hN)
theorem spR_len {n : Nat} (hpre : ∀ ds, pre ds → ds.length = n) (h : SpR K pre R vs H Q X) : vs.length = n := by
  obtain ⟨G, ds, sm, r, hp, q⟩ := h
  rw [← r.length]; exact hpre ds hp
end
section
variable {K : PySem.W.Frag} {G H₀ L : Hp} {ss : List Sl} {t : TA} {ds : List D} {pre : List D → Prop} {R : List D → List D → Prop} {E : XK} {D0 : Ends}
theorem go_setR {i : Nat} (a : EvAF K G H₀ L ss t ds) (hp : pre ds) (h : ∀ rs, R ds rs → ∀ p, Nx K G H₀ L D0.nx (ss.set i (.o p rs))) : Go K G H₀ L D0 ss (tAsg (tCall (SpR K pre R) [] E t) (gName i)) := fun F H σ S =>
  a F H σ _ S fun vs F1 H1 e1 r1 => ⟨F1, ds, e1.fh, by rw [List.append_nil]; exact r1, hp, fun rs hR p ws G' H' e2 h1 h2 h3 r => h rs hR p _ _ _ (S.newO (e1.trans e2) (e1.hh.free h1) h2 h3 r)⟩
end
end L2

namespace L2
open PySem PySem.W PySem.Spec PyProof.Rows
end L2

namespace L2
open PySem PySem.W PyProof.Rows L2T
section
variable {K : PySem.W.Frag} {G H₀ L : Hp} {ss : List Sl} {ta tb t : TE}
theorem ev_gt {i j : Int} (a : EvB K G H₀ L ss ta (.int i)) (b : EvB K G H₀ L ss tb (.int j)) : Ev K G H₀ L ss (tOp (rI0 fun i j => .bl (decide (j < i))) ta tb) (.bl (decide (j < i))) := ev_cmpI (g := fun i j => decide (j < i)) a b
end
end L2

namespace L2
open PySem PySem.W PySem.Spec PyProof.Rows
section
variable {K : PySem.W.Frag} {G H₀ L : Hp} {ss : List Sl} {t : TA} {ds : List D} {pre : List D → Prop} {R : List D → D → Prop} {E : XK} {D0 : Ends} {ta tb te : TE} {i j : Int}
theorem ev_isI (a : EvB K G H₀ L ss te (.int i)) : Ev K G H₀ L ss (tCB (fun xs H Q => ∃ x, xs = [.int x, .ty "int"] ∧ Q (.bl true) H) (tCons te (tCons (tC (.ty "int")) tNil))) (.bl true) := fun F H σ Q S q =>
  a F H σ _ S fun v F1 H1 e1 r1 => ⟨i, by rw [r1.of_int], q _ _ _ e1 Rep.bl⟩
theorem ev_isIB (a : EvB K G H₀ L ss te (.int i)) : Ev K G H₀ L ss (tCB (fun xs H Q => ∃ x, xs = [.int x, .ty "bool"] ∧ Q (.bl false) H) (tCons te (tCons (tC (.ty "bool")) tNil))) (.bl false) := fun F H σ Q S q =>
  a F H σ _ S fun v F1 H1 e1 r1 => ⟨i, by rw [r1.of_int], q _ _ _ e1 Rep.bl⟩
theorem ev_pow (a : EvB K G H₀ L ss ta (.int i)) (b : EvB K G H₀ L ss tb (.int j)) (h : CPow i j) : Ev K G H₀ L ss (tOp (rI CPow fun i j => .int (i ^ j.toNat)) ta tb) (.int (i ^ j.toNat)) := ev_opI (C := CPow) (g := fun i j => i ^ j.toNat) a b h
theorem go_range2 {ta : TA} {x : Nat} {tb : TS} {m n : Int} (I : Nat → List Sl → Prop) (a : EvA K G H₀ L ss ta [.int m, .int n]) (hm : -(2 ^ 62) ≤ m ∧ m < 2 ^ 62) (hb : -(2 ^ 62) ≤ n ∧ n < 2 ^ 62) (h0 : I 0 ss)
    (hs : ∀ (k : Nat) ss, m + (k : Int) < n → I k ss → ∀ N, (∀ ss, I (k + 1) ss → Nx K G H₀ L N ss) → Go K G H₀ L { D0 with nx := N, ct := N, bk := D0.nx } (ss.set x (.d (.int (m + (k : Int))))) tb)
    (hd : ∀ ss, I (n - m).toNat ss → Nx K G H₀ L D0.nx ss) : Go K G H₀ L D0 ss (tFor (iRng2 ta) (gName x) tb) := fun F H σ S => by
  refine (a F H σ _ S fun vs F1 H1 e1 r1 => ?_)
  rw [Reps] at r1
  obtain ⟨v1, r, rfl, rx, r1⟩ := r1
  rw [Reps] at r1
  obtain ⟨v2, r, rfl, rx2, r1⟩ := r1
  rw [Reps] at r1
  subst r1
  rw [rx.of_int, rx2.of_int]
  refine ⟨m, n, rfl, ⟨hm.1, hm.2, hb.1, hb.2⟩, fun i k σ' H' => k = (n - m).toNat - i ∧ i ≤ (n - m).toNat ∧ At K G H₀ L (I i) σ' H', ⟨_, rfl, Nat.zero_le _, ss, F1, S.ext2 e1, h0⟩, ?_⟩
  rintro i k σ' H' ⟨rfl, hi, ss1, F2, S2, h2⟩
  by_cases hlt : i < (n - m).toNat
  · refine .inr ⟨hlt, fun σ'' H'' => At K G H₀ L (I (i + 1)) σ'' H'', fun σ'' H'' h => ⟨(n - m).toNat - (i + 1), by omega, rfl, hlt, h⟩, fun x H'' y => ?_⟩
    obtain ⟨rfl, rfl⟩ := y
    exact hs i ss1 (by omega) h2 _ (fun ss h => nx_at h) F2 _ _ (S2.setD Rep.int)
  · have e : i = (n - m).toNat := by lia
    subst e
    exact .inl ⟨Nat.le_refl _, hd ss1 h2 F2 H' σ' S2⟩
end
end L2

namespace L2
open PySem PySem.W PySem.Spec PyProof.Rows PySem.Builtin PySem.Builtin.Str PySem.StrLaws
noncomputable def posL (z : Nat) : Nat → List Nat → List Nat
  | _, [] => []
  | a, x :: l => if x = z then a :: posL z (a + 1) l else posL z (a + 1) l
theorem sub_one (pre l : List Nat) (z : Nat) : subAt (T (pre ++ l)) (T [z]) pre.length = decide (l.head? = some z) := by
  rw [Bool.eq_iff_iff, decide_eq_true_eq]
  have h := subAt_one (T (pre ++ l)) z pre.length
  have e : (⟨#[z]⟩ : Str) = T [z] := rfl
  rw [e] at h
  have hc : (T (pre ++ l)).cps.toList = pre ++ l := T_cps _
  rw [hc] at h
  have hl : (T (pre ++ l)).length = pre.length + l.length := by rw [T_len, List.length_append]
  have hz : (T [z]).length = 1 := T_len _
  have hg : (pre ++ l)[pre.length]? = l.head? := by
    rw [List.getElem?_append_right (Nat.le_refl _), Nat.sub_self]; cases l <;> rfl
  rw [hg, hl, hz] at h
  constructor
  · intro hs
    by_cases hl0 : l = []
    · subst hl0
      exfalso
      unfold subAt at hs
      simp [T, Str.length] at hs
    · have : 1 ≤ l.length := by cases l with | nil => exact absurd rfl hl0 | cons _ _ => simp
      exact h.mp ⟨by lia, hs⟩
  · intro hs
    exact (h.mpr hs).2
theorem occ_scan (z : Nat) (n : Nat) : ∀ (l pre : List Nat) (free : Nat) (acc : Array Nat), free ≤ pre.length →
    (forIn (List.range' pre.length (l.length + 1)) (acc, free) (occBody (T (pre ++ l)) (T [z]) (pre.length + l.length) n)).run.fst.toList = acc.toList ++ (posL z pre.length l).take (n - acc.size)
  | [], pre, free, acc, hf => by
    rw [List.length_nil, Nat.zero_add, List.range'_succ, List.range'_zero, List.forIn_cons]
    unfold occBody
    rw [if_neg (by rintro ⟨⟨_, h⟩, _⟩; rw [T_len] at h; simp at h; lia)]
    show acc.toList = _
    simp [posL]
  | x :: l, pre, free, acc, hf => by
    rw [List.length_cons, List.range'_succ, List.forIn_cons]
    have hs := sub_one pre (x :: l) z
    have e2 : pre ++ x :: l = (pre ++ [x]) ++ l := by simp
    have e3 : pre.length + (l.length + 1) = (pre ++ [x]).length + l.length := by simp; lia
    have e4 : pre.length + 1 = (pre ++ [x]).length := by simp
    have hz : (T [z]).length = 1 := T_len _
    conv => lhs; unfold occBody
    by_cases hx : x = z
    · have hs' : subAt (T (pre ++ x :: l)) (T [z]) pre.length = true := by rw [hs]; simp [hx]
      by_cases hn : acc.size < n
      · rw [if_pos ⟨⟨⟨hn, hf⟩, by rw [hz]; lia⟩, hs'⟩]
        show (forIn (List.range' (pre.length + 1) (l.length + 1)) (acc.push pre.length, pre.length + (T [z]).length) (occBody (T (pre ++ x :: l)) (T [z]) (pre.length + (l.length + 1)) n)).run.fst.toList = _
        rw [e2, e3, e4, occ_scan z n l (pre ++ [x]) _ _ (by rw [hz]; simp)]
        rw [posL, if_pos hx, Array.toList_push, Array.size_push, ← e4]
        rw [show n - acc.size = (n - (acc.size + 1)) + 1 by lia, List.take_succ_cons, List.append_assoc]
        rfl
      · rw [if_neg (by rintro ⟨⟨⟨h, _⟩, _⟩, _⟩; exact hn h)]
        show (forIn (List.range' (pre.length + 1) (l.length + 1)) (acc, free) (occBody (T (pre ++ x :: l)) (T [z]) (pre.length + (l.length + 1)) n)).run.fst.toList = _
        rw [e2, e3, e4, occ_scan z n l (pre ++ [x]) _ _ (by simp; lia), show n - acc.size = 0 by lia]
        simp
    · have hs' : ¬ subAt (T (pre ++ x :: l)) (T [z]) pre.length = true := by rw [hs]; simp [hx]
      rw [if_neg (by rintro ⟨_, h⟩; exact hs' h)]
      show (forIn (List.range' (pre.length + 1) (l.length + 1)) (acc, free) (occBody (T (pre ++ x :: l)) (T [z]) (pre.length + (l.length + 1)) n)).run.fst.toList = _
      rw [e2, e3, e4, occ_scan z n l (pre ++ [x]) _ _ (by simp; lia), posL, if_neg hx, ← e4]
theorem occ_pos (z n : Nat) (l : List Nat) : occurrences (T l) (T [z]) 0 (T l).length n = (posL z 0 l).take n := by
  rw [occ_eq, T_len]
  have := occ_scan z n l [] 0 #[] (Nat.le_refl _)
  simpa using this
noncomputable def splitN (z : Nat) : Nat → List Nat → List (List Nat)
  | 0, l => [l]
  | n + 1, l => match l.dropWhile (· != z) with
    | [] => [l]
    | _ :: b => l.takeWhile (· != z) :: splitN z n b
noncomputable def cutsAt (s : Str) : Nat → List Nat → List Str
  | a, [] => [strSub s a s.length]
  | a, p :: r => strSub s a p :: cutsAt s (p + 1) r
theorem parts_cuts (s : Str) : ∀ (ps : List Nat) (a : Nat), (((a :: ps.map (· + 1)).zip (ps ++ [s.length])).map fun (i, j) => strSub s i j) = cutsAt s a ps
  | [], a => rfl
  | p :: r, a => by
    show strSub s a p :: _ = strSub s a p :: _
    rw [← parts_cuts s r (p + 1)]
    rfl
theorem sub_mid (a b c : List Nat) : strSub (T (a ++ b ++ c)) a.length (a.length + b.length) = T b := by
  unfold strSub T
  congr 1
  apply Array.toList_inj.mp
  simp [List.take_append]
theorem pos_none {z : Nat} : ∀ {l : List Nat} (a : Nat), z ∉ l → posL z a l = []
  | [], _, _ => rfl
  | x :: l, a, h => by
    rw [posL, if_neg (fun e => h (by simp [e])), pos_none _ fun h' => h (List.mem_cons_of_mem _ h')]
theorem pos_app {z : Nat} : ∀ (l b : List Nat) (a : Nat), z ∉ l → posL z a (l ++ z :: b) = (a + l.length) :: posL z (a + l.length + 1) b
  | [], b, a, _ => by simp [posL]
  | x :: l, b, a, h => by
    rw [List.cons_append, posL, if_neg (fun e => h (by simp [e])), pos_app l b (a + 1) fun h' => h (List.mem_cons_of_mem _ h')]
    rw [List.length_cons, show a + 1 + l.length = a + (l.length + 1) by lia]
theorem drop_split {z : Nat} : ∀ l : List Nat, (l.dropWhile (· != z) = [] ∧ z ∉ l) ∨ ∃ b, l.dropWhile (· != z) = z :: b ∧ l = l.takeWhile (· != z) ++ z :: b ∧ z ∉ l.takeWhile (· != z)
  | [] => .inl ⟨rfl, by simp⟩
  | x :: l => by
    by_cases hx : x = z
    · subst hx; exact .inr ⟨l, by simp, by simp, by simp⟩
    · have e1 : (x :: l).dropWhile (· != z) = l.dropWhile (· != z) := by simp [List.dropWhile_cons, hx]
      have e2 : (x :: l).takeWhile (· != z) = x :: l.takeWhile (· != z) := by simp [List.takeWhile_cons, hx]
      rw [e1, e2]
      rcases drop_split (z := z) l with ⟨h1, h2⟩ | ⟨b, h1, h2, h3⟩
      · exact .inl ⟨h1, by simp [h2]; exact fun e => hx e.symm⟩
      · refine .inr ⟨b, h1, by rw [List.cons_append, ← h2], ?_⟩
        simp only [List.mem_cons, not_or]
        exact ⟨fun e => hx e.symm, h3⟩
theorem cuts_split (z : Nat) : ∀ (n : Nat) (pre l : List Nat), cutsAt (T (pre ++ l)) pre.length ((posL z pre.length l).take n) = (splitN z n l).map T
  | 0, pre, l => by
    have := sub_mid pre l []
    rw [List.append_nil] at this
    show [strSub (T (pre ++ l)) pre.length (T (pre ++ l)).length] = [T l]
    rw [T_len, List.length_append, this]
  | n + 1, pre, l => by
    rcases drop_split (z := z) l with ⟨h1, h2⟩ | ⟨b, h1, h2, h3⟩
    · rw [pos_none _ h2, splitN, h1]
      have := sub_mid pre l []
      rw [List.append_nil] at this
      show [strSub (T (pre ++ l)) pre.length (T (pre ++ l)).length] = [T l]
      rw [T_len, List.length_append, this]
    · have e : splitN z (n + 1) l = l.takeWhile (· != z) :: splitN z n b := by rw [splitN, h1]
      rw [e]
      generalize l.takeWhile (· != z) = a at h2 h3
      subst h2
      rw [pos_app _ _ _ h3, List.take_succ_cons]
      show strSub _ pre.length (pre.length + a.length) :: cutsAt _ (pre.length + a.length + 1) _ = T a :: (splitN z n b).map T
      have e1 := sub_mid pre a (z :: b)
      rw [List.append_assoc] at e1
      rw [e1]
      congr 1
      have := cuts_split z n (pre ++ a ++ [z]) b
      have e2 : pre ++ a ++ [z] ++ b = pre ++ (a ++ z :: b) := by simp
      have e3 : (pre ++ a ++ [z]).length = pre.length + a.length + 1 := by simp; lia
      rw [e2, e3] at this
      exact this
theorem parts_split (z n : Nat) (l : List Nat) : partsBetween (T l) (occurrences (T l) (T [z]) 0 (T l).length n) (T [z]).length = (splitN z n l).map T := by
  have e := parts_cuts (T l) ((posL z 0 l).take n) 0
  have h := cuts_split z n [] l
  rw [occ_pos, T_len]
  unfold partsBetween
  exact e.trans h
end L2

namespace L2
open PySem PySem.W PySem.Spec PyProof.Rows PySem.Builtin PySem.Builtin.Str
theorem kind_T {l : List Nat} (h : ∀ c ∈ l, c < 128) : PySem.Builtin.Str.strKind (T l) = 1 := by
  unfold PySem.Builtin.Str.strKind
  rw [if_pos]
  rw [Array.all_eq_true_iff_forall_mem]
  intro c hc
  have : c ∈ l := by simpa [T] using hc
  have := h c this
  simp; lia
theorem split_mem {z c : Nat} : ∀ {n : Nat} {l p : List Nat}, p ∈ splitN z n l → c ∈ p → c ∈ l
  | 0, l, p, h, hc => by rw [splitN, List.mem_singleton] at h; subst h; exact hc
  | n + 1, l, p, h, hc => by
    rcases drop_split (z := z) l with ⟨h1, h2⟩ | ⟨b, h1, h2, h3⟩
    · rw [splitN, h1] at h
      have h : p ∈ [l] := h
      rw [List.mem_singleton] at h; subst h; exact hc
    · rw [splitN, h1] at h
      have h : p ∈ l.takeWhile (· != z) :: splitN z n b := h
      rw [h2]
      rcases List.mem_cons.mp h with h | h
      · subst h; exact List.mem_append_left _ hc
      · exact List.mem_append_right _ (List.mem_cons_of_mem _ (split_mem h hc))
section
variable {K : PySem.W.Frag} {G H₀ L : Hp} {ss : List Sl} {ta tb tc t1 t2 te : TE} {ds : List D}
theorem repsT {H : Hp} : ∀ {ls : List (List Nat)}, (∀ l ∈ ls, ∀ c ∈ l, c < 128) → Reps K H (ls.map D.str) ((ls.map T).map V.str)
  | [], _ => Reps.nil
  | l :: ls, h => Reps.cons (Rep.str (h l List.mem_cons_self)) (repsT fun m hm => h m (List.mem_cons_of_mem _ hm))
end
end L2

namespace L2
open PySem PySem.W PySem.Spec PyProof.Rows
noncomputable def SpG {α : Type} (K : PySem.W.Frag) (pre : α → List D → Prop) (res : α → D) : Sp := fun vs H Q _ => ∃ (G : Hp) (ds : List D) (x : α), Same G H ∧ Reps K G ds vs ∧ pre x ds ∧ ∀ v G' H', Ext G H G' H' → Rep K G' (res x) v → Q v H'
section
variable {α : Type} {K : PySem.W.Frag} {H : Hp} {vs : List V} {Q : VK} {X : XK} {N : List Str} {t : TS} {pre : α → List D → Prop} {res : α → D}
theorem go_spG (h : SpG K pre res vs H Q X) (hN : vs.length ≤ N.length) (body : ∀ G ds x, pre x ds → RtD K G H Q (res x) → Go K G H G { nx := fun _ H' => Q .non H', rt := Q } (slots N.length ds) t) : t { nx := fun _ H' => Q .non H', rt := Q } (start N vs) H := by
  obtain ⟨G, ds, x, sm, r, hp, q⟩ := h
  exact body G ds x hp (fun v F H' e r => q v F H' e r) G H _ (sat_start sm r hN)
theorem spG_len {n : Nat} (hpre : ∀ x ds, pre x ds → ds.length = n) (h : SpG K pre res vs H Q X) : vs.length = n := by
  obtain ⟨G, ds, x, sm, r, hp, q⟩ := h
  rw [← r.length]; exact hpre x ds hp
end
section
variable {α : Type} {K : PySem.W.Frag} {G H₀ L : Hp} {ss : List Sl} {ta tb tc te : TE} {t : TA} {ds : List D} {E : XK} {pre : α → List D → Prop} {res : α → D}
theorem ev_callG (x : α) (a : EvAF K G H₀ L ss t ds) (hp : pre x ds) : Ev K G H₀ L ss (tCall (SpG K pre res) [] E t) (res x) := fun F H σ Q S q =>
  a F H σ _ S fun vs F1 H1 e1 r1 => ⟨F1, ds, x, e1.fh, by rw [List.append_nil]; exact r1, hp, fun v G' H' e2 r => q _ _ _ (e1.trans e2) r⟩
end
end L2

namespace L2
open PySem PySem.W PySem.Spec PyProof.Rows
noncomputable def D.isK : D → Bool
  | .int _ => true | .str _ => true | _ => false
noncomputable def D.key : D → Key
  | .int i => .inl i | .str l => .inr (T l) | _ => .inl 0
theorem key_inj {a b : D} (ha : a.isK = true) (hb : b.isK = true) (h : a.key = b.key) : a = b := by
  cases a <;> cases b <;> simp [D.isK, D.key] at * <;> first | exact h | exact T_inj.mp h
theorem rep_key {K : PySem.W.Frag} {H : Hp} {d : D} {v : V} (hk : d.isK = true) (r : Rep K H d v) : v = kV d.key := by
  cases d <;> simp [D.isK] at hk
  · exact r.of_int
  · exact r.of_str
noncomputable abbrev DD := List (D × D)
noncomputable def valD (kvs : DD) (k : D) : Option D := (kvs.find? fun kv => decide (kv.1 = k)).map (·.2)
noncomputable def putD (kvs : DD) (k d : D) : DD := if (kvs.any fun kv => decide (kv.1 = k)) = true then kvs.map (fun kv => if kv.1 = k then (kv.1, d) else kv) else kvs ++ [(k, d)]
inductive Dks (K : PySem.W.Frag) (F : Hp) : DD → List (Key × V) → Prop
  | nil : Dks K F [] []
  | cons {k d : D} {v : V} {kvs : DD} {xs : List (Key × V)} (hk : k.isK = true) (hr : Rep K F k (kV k.key)) (r : Rep K F d v) (t : Dks K F kvs xs) : Dks K F ((k, d) :: kvs) ((k.key, v) :: xs)
theorem putD_len (kvs : DD) (k d : D) : (putD kvs k d).length ≤ kvs.length + 1 := by
  unfold putD; split <;> simp
end L2

namespace L2
open PySem PySem.Spec PyProof.Rows
end L2

namespace L2
open PySem PySem.W PySem.Spec PyProof.Rows
noncomputable abbrev KQ := List (D × Addr × List D)
end L2

namespace L2
open PySem PySem.Spec PyProof.Rows
end L2

namespace L2
open PySem PySem.W PySem.Spec PyProof.Rows
end L2

namespace L2
open PySem PySem.Spec PyProof.Rows
end L2

namespace L2
open PySem PySem.Spec PyProof.Rows
open AutoSeq1 (wpAny_loadPart')
end L2

namespace L2
open PySem PySem.Spec PyProof.Rows
end L2

namespace L2
open PySem PySem.Spec PyProof.Rows PySem.Builtin PySem.Builtin.Str
noncomputable def splitL (z : Nat) (l : List Nat) : List (List Nat) := splitN z (l.length + 1) l
theorem splitL_T {z : Nat} {l : List Nat} (hz : z < 128) (hl : ∀ c ∈ l, c < 128) : Txt.split (T l) (T [z]) = (splitL z l).map T := by
  have hp := parts_split z (l.length + 1) l
  have k1 : strKind (T l) = 1 := kind_T hl
  have k2 : strKind (T [z]) = 1 := kind_T (by intro c hc; rw [List.mem_singleton.mp hc]; exact hz)
  unfold Txt.split splitL
  rw [T_len] at hp ⊢
  split
  · rename_i h
    rw [k1, k2, T_len] at h
    simp at h
    subst h
    rfl
  · split
    · rename_i h2 h
      rw [← hp]
      have e : occurrences (T l) (T [z]) 0 l.length (l.length + 1) = [] := List.isEmpty_iff.mp h
      rw [e]
      have := sub_mid [] l []
      simp only [List.nil_append, List.append_nil, List.length_nil, Nat.zero_add] at this
      show [T l] = [strSub (T l) 0 (T l).length]
      rw [T_len, this]
    · exact hp
section
variable {K : PySem.W.Frag} {G H₀ L : Hp} {ss : List Sl} {ta tb tc t t1 t2 te : TE} {ds : List D} {E : Ends}
theorem evo_split1 {l : List Nat} {z : Nat} (a : EvB K G H₀ L ss ta (.str l)) (b : EvB K G H₀ L ss t (.str [z])) (hl : l.length + 2 ≤ sizeLine) : EvO K G H₀ L ss (tBM K "str" rSplit ta (tCons t tNil)) ((splitL z l).map D.str) := fun F H σ Q S q =>
  a F H σ _ S fun v F1 H1 e1 r1 => by
    rw [r1.of_str]
    refine ⟨rfl, b F1 H1 σ _ (S.ext2 e1) fun v2 F2 H2 e2 r2 => ?_⟩
    have ha := r1.asc
    have hz := r2.asc
    rw [r2.of_str]
    refine ⟨T l, T [z], rfl, rfl, by rw [T_len]; rfl, by rw [T_len]; exact hl, fun p hp => ?_⟩
    rw [splitL_T (hz z (by simp)) ha]
    have e := e1.trans e2
    exact q p _ F2 _ (e.newO hp) (e.hh.free hp) (e.fh.free hp) upd_same (repsT fun m hm c hc => ha c (split_mem hm hc))
end
end L2

namespace L2
open PySem PySem.W PySem.Spec PyProof.Rows
structure ITell (K : PySem.W.Frag) (C : Addr) : Prop where
  ha : findIn K (.ref C) "__class__" = some (some (.builtin "object.__class__"))
  hn : specialIn K (.builtin "object.__class__") "__get__" = some (some (.builtin "getset_descriptor.__get__"))
  tk : takesIn K (.builtin "object.__class__") = some true
  hm : mroIn K C (.type "object") = some true
noncomputable def isl (x C dx : Addr) (fs : List (Str × V)) : Sl := .g (.ref x) [] fun F _ => F x = some (.ins C dx fs) ∧ F dx = some (.own x)
theorem isl_stab (x C dx : Addr) (fs : List (Str × V)) : Stab [] fun F _ => F x = some (.ins C dx fs) ∧ F dx = some (.own x) := fun F1 H1 F2 H2 sf _ h => ⟨sf _ _ h.1, sf _ _ h.2⟩
noncomputable def SpI (K : PySem.W.Frag) (C : Addr) (pre : List (Str × V) → List D → Prop) (res : List (Str × V) → List D → D) : Sp := fun vs H Q _ => ∃ G ds x dx fs ws, Same G H ∧ vs = .ref x :: ws ∧ G x = some (.ins C dx fs) ∧ G dx = some (.own x) ∧ Reps K G ds ws ∧ pre fs ds ∧
  ∀ v G' H', Ext G H G' H' → Rep K G' (res fs ds) v → Q v H'
noncomputable def SpInit2 (C : Addr) (n1 n2 : Str) : Sp := fun vs H Q _ => ∃ (x dx : Addr) (u v : V), vs = [.ref x, u, v] ∧ H x = some (.ins C dx []) ∧ H dx = some (.own x) ∧ Q .non (upd H x (.ins C dx [(n1, u), (n2, v)]))
section
variable {K : PySem.W.Frag} {G H₀ L F H : Hp} {ss : List Sl} {σ : St} {x C dx : Addr} {fs : List (Str × V)} {ds : List D} {ws : List V}
theorem Sat.cons0 {s : Sl} {ov : Option V} (S : Sat K G H₀ L F H σ ss) (h : SlOk K H₀ F H ov s) (ha : s.ads = []) : Sat K G H₀ L F H (ov :: σ) (s :: ss) := by
  refine ⟨S.ext, S.fl, by simp [S.len], fun i t ht => ?_, fun i t ht => ?_, fun i j t u hij ht hu p hp hq => ?_⟩
  · cases i with
    | zero => cases ht; exact h
    | succ i => exact S.ok i t ht
  · cases i with
    | zero => cases ht; rw [ha]; exact List.nodup_nil
    | succ i => exact S.nd i t ht
  · cases i with
    | zero => cases ht; rw [ha] at hp; cases hp
    | succ i =>
      cases j with
      | zero => cases hu; rw [ha] at hq; cases hq
      | succ j => exact S.ne i j t u (by lia) ht hu p hp hq
theorem sat_startI {N : List Str} (sm : Same G H) (gx : G x = some (.ins C dx fs)) (gd : G dx = some (.own x)) (r : Reps K G ds ws) (hN : ws.length + 1 ≤ N.length) : Sat K G H G G H (start N (.ref x :: ws)) (isl x C dx fs :: slots (N.length - 1) ds) := by
  cases N with
  | nil => simp at hN
  | cons n N =>
    have S := sat_start (N := N) sm r (by simpa using hN)
    have e : start (n :: N) (.ref x :: ws) = some (.ref x) :: start N ws := by
      unfold start; simp
    rw [e]
    have e2 : (n :: N).length - 1 = N.length := by simp
    rw [e2]
    exact S.cons0 ⟨rfl, (fun a ha => absurd ha List.not_mem_nil), ⟨gx, gd⟩, isl_stab x C dx fs⟩ rfl
variable {vs : List V} {Q : VK} {E : XK} {N : List Str} {t : TS} {pre : List (Str × V) → List D → Prop} {res : List (Str × V) → List D → D}
theorem spI_len {n : Nat} (hpre : ∀ fs ds, pre fs ds → ds.length + 1 = n) (h : SpI K C pre res vs H Q E) : vs.length = n := by
  obtain ⟨G, ds, x, dx, fs, ws, sm, rfl, gx, gd, r, hp, q⟩ := h
  rw [List.length_cons, ← r.length]; exact hpre fs ds hp
theorem go_spI (h : SpI K C pre res vs H Q E) (hN : vs.length ≤ N.length) (body : ∀ G ds x dx fs, pre fs ds → RtD K G H Q (res fs ds) → Go K G H G { nx := fun _ H' => Q .non H', rt := Q } (isl x C dx fs :: slots (N.length - 1) ds) t) :
    t { nx := fun _ H' => Q .non H', rt := Q } (start N vs) H := by
  obtain ⟨G, ds, x, dx, fs, ws, sm, rfl, gx, gd, r, hp, q⟩ := h
  exact body G ds x dx fs hp (fun v F H' e r => q v F H' e r) G H _ (sat_startI sm gx gd r (by simpa using hN))
end
section
variable {K : PySem.W.Frag} {G H₀ L : Hp} {ss : List Sl} {i : Nat} {x C dx : Addr} {fs : List (Str × V)} {d : D} {ds : List D} {t : TA} {E : XK} {D0 : Ends} {pre : List (Str × V) → List D → Prop} {res : List (Str × V) → List D → D}
theorem Sat.getI {F H : Hp} {σ : St} (S : Sat K G H₀ L F H σ ss) (hs : ss[i]? = some (isl x C dx fs)) : σ[i]? = some (some (.ref x)) ∧ F x = some (.ins C dx fs) ∧ F dx = some (.own x) := by
  obtain ⟨v, e, ew, ha, hw, st⟩ := S.get hs (by intro z; cases z)
  cases ew
  exact ⟨e, hw⟩
theorem ev_fld {f : Str} {v : V} (hs : ss[i]? = some (isl x C dx fs)) (c : Cls K C) (n : NoAttr K C f) (l : fs.lookup f = some v) (r : ∀ F, Rep K F d v) : Ev K G H₀ L ss (tFld K (tVar i) f) d := fun F H σ Q S q => by
  obtain ⟨e, fx, fd⟩ := S.getI hs
  exact ⟨_, e, x, C, dx, fs, v, rfl, S.ext.fh _ _ fx, c, n, l, q _ F H (Ext.refl S.ext.fh) (r F)⟩
theorem ev_methI {m : Str} (hs : ss[i]? = some (isl x C dx fs)) (l : fs.lookup m = none) (a : EvAF K G H₀ L ss t ds) (hp : pre fs ds) : Ev K G H₀ L ss (tMeth C m (SpI K C pre res) [] E (tVar i) t) (res fs ds) := fun F H σ Q S q => by
  obtain ⟨e, fx, fd⟩ := S.getI hs
  refine ⟨_, e, x, dx, fs, rfl, S.ext.fh _ _ fx, l, a F H σ _ S fun vs F1 H1 e1 r1 => ⟨F1, ds, x, dx, fs, vs, e1.fh, by rw [List.append_nil], e1.gf _ _ fx, e1.gf _ _ fd, r1, hp, fun v G' H' e2 r => q v G' H' (e1.trans e2) r⟩⟩
theorem upd2 {H : Hp} {a : Addr} {o u : HO} : upd (upd H a o) a u = upd H a u := by
  funext b
  by_cases h : b = a
  · subst h; rw [upd_same, upd_same]
  · rw [upd_ne h, upd_ne h, upd_ne h]
end
end L2

namespace L2
open PySem PySem.W PySem.Spec PyProof.Rows
end L2

namespace L2
open PySem PySem.Spec PyProof.Rows
end L2

namespace L2
open PySem PySem.W PySem.Spec PyProof.Rows
end L2

namespace L2
open PySem PySem.W PySem.Spec PyProof.Rows
end L2

namespace L2
open PySem PySem.W PySem.Spec PyProof.Rows PySem.Calls Builtin Builtin.ObjectAttr Builtin.Getset_descriptor
structure XTell (K : PySem.W.Frag) (C : Addr) : Prop where
  ga : findIn K (.ref C) "__getattribute__" = some (some (.builtin "BaseException.__getattribute__"))
  gt : findIn K (.ref C) "__getattr__" = some none
  mb : mroIn K C (.type "BaseException") = some true
  fc : findIn K (.ref C) "__class__" = some (some (.builtin "object.__class__"))
  sp : specialIn K (.builtin "object.__class__") "__get__" = some (some (.builtin "getset_descriptor.__get__"))
  tk : takesIn K (.builtin "object.__class__") = some true
  mo : mroIn K C (.type "object") = some true
  dc : hasDictIn K C = true
end L2

namespace L2
open PySem PySem.W PyProof.Rows
end L2

namespace L2
open PySem PySem.W PyProof.Rows
end L2

namespace L2
open PySem PySem.W PySem.Spec PyProof.Rows
noncomputable abbrev QS := List (Addr × List D)
section
variable {K : PySem.W.Frag} {G H₀ L : Hp} {ss : List Sl} {i : Nat} {p : Addr} {kqs : KQ} {kvs : DD} {qs : QS} {E : Ends} {D0 : XK} {t : TA} {te ta td : TE} {d : D} {ds : List D} {dss : List (List D)} {pre : List D → Prop} {res : List D → List (List D)}
mutual
noncomputable def D.nm : D → Bool
  | .lst _ => false
  | .dct ks vs => D.nms ks && D.nms vs
  | .dctT _ _ => false
  | .ins _ _ _ => false
  | .tup a => D.nms a
  | _ => true
noncomputable def D.nms : List D → Bool
  | [] => true
  | a :: x => a.nm && D.nms x
end
noncomputable def cut (F : Hp) (as : List Addr) : Hp := fun b => if b ∈ as then none else F b
end
end L2

namespace L2
open PySem PySem.W PySem.Spec PyProof.Rows
section
variable {K : PySem.W.Frag} {G H₀ L : Hp} {ss : List Sl} {i : Nat} {E : Ends} {te tk tv : TE} {k d : D} {c : TT} {tb : TS}
theorem go_while (I : Nat → List Sl → Prop) (m0 : Nat) (h0 : I m0 ss)
    (hs : ∀ m ss, I m ss → ∃ b, EvT K G H₀ L ss c b ∧ (b = true → ∀ N : St → Hp → Prop, (∀ m' ss, m' < m → I m' ss → Nx K G H₀ L N ss) → Go K G H₀ L { E with nx := N, ct := N, bk := E.nx } ss tb) ∧ (b = false → Nx K G H₀ L E.nx ss)) : Go K G H₀ L E ss (tWhile c tb) := fun F H σ S =>
  ⟨fun m σ' H' => At K G H₀ L (I m) σ' H', ⟨m0, ss, F, S, h0⟩, fun m σ' H' ⟨ss1, F1, S1, h1⟩ => by
    obtain ⟨b, ev, ht, hf⟩ := hs m ss1 h1
    refine ev F1 H' σ' _ S1 fun F2 H2 e2 => ?_
    cases b with
    | true =>
      rw [if_pos rfl]
      exact ⟨fun σ'' H'' => ∃ m', m' < m ∧ At K G H₀ L (I m') σ'' H'', fun σ'' H'' h => h, ht rfl _ (fun m' ss hm hI => fun F3 H3 σ3 S3 => ⟨m', hm, ss, F3, S3, hI⟩) F2 H2 σ' (S1.ext2 e2)⟩
    | false =>
      rw [if_neg Bool.false_ne_true]
      exact hf rfl F2 H2 σ' (S1.ext2 e2)⟩
end
end L2

namespace L2
open PySem PySem.Spec PyProof.Rows
theorem runs_toks {M : Model} {Γ : _root_.PySem.Ctx} {p : Pos} {t : Sem PySem.Fin} {fs : List Frame} {s s' : Shared} {e : End} (h : _root_.PySem.Runs M Γ p t fs s e s') : s.toks ≤ s'.toks := by
  induction h <;> first | exact Nat.le_refl _ | assumption | lia | (simp only [Shared.setGen] at *; lia) | (dsimp at *; omega)
theorem wakes_toks {M : Model} {Γ : _root_.PySem.Ctx} {p : Pos} {g : Nat} {r : Resume} {s s' : Shared} {res : GenResult} (h : Wakes M Γ p g r s res s') : s.toks ≤ s'.toks := by
  unfold Wakes at h
  cases hg : s.gens[g]? with
  | none => simp only [hg] at h
  | some gs =>
    simp only [hg] at h
    cases gs with
    | fresh c =>
      cases r with
      | send v =>
        by_cases hv : v = .none
        · subst hv
          obtain ⟨e1, s1, h1, _, _, rfl⟩ := h
          have := runs_toks h1
          simpa [Shared.setGen] using this
        · have h2 : res = .justStarted ∧ s' = s := by cases v <;> first | exact absurd rfl hv | exact h
          rw [h2.2]; exact Nat.le_refl _
      | throw x => obtain ⟨_, rfl⟩ := h; exact Nat.le_refl _
    | suspended k0 _ c0 p0 fs _ =>
      obtain ⟨e1, s1, h1, _, _, rfl⟩ := h
      have := runs_toks h1
      simpa [Shared.setGen] using this
    | running => obtain ⟨_, rfl⟩ := h; exact Nat.le_refl _
    | finished => obtain ⟨_, rfl⟩ := h; exact Nat.le_refl _
theorem wp_toks {α : Type} {M : Model} {Γ : _root_.PySem.Ctx} {Q : α → Pos → Shared → Prop} {E : Value → Pos → Shared → Prop} {n : Nat} (t : Sem α) : ∀ (p : Pos) (s : Shared), n ≤ s.toks → Sem.wp M Γ t Q E p s →
    Sem.wp M Γ t (fun a p' s' => Q a p' s' ∧ n ≤ s'.toks) (fun e p' s' => E e p' s' ∧ n ≤ s'.toks) p s := by
  induction t with
  | pure x => exact fun p s hn h => ⟨h, hn⟩
  | raise v => exact fun p s hn h => ⟨h, hn⟩
  | unsupported | finish | yield | fork | await | register => exact fun p s hn h => h
  | rule _ k ih | «at» _ k ih | alloc _ k ih | loadIfAlive _ k ih | point _ k ih | ask k ih | os _ _ k ih | handled _ k ih | newGen _ k ih | stack k ih | thread k ih => exact fun p s hn h => ih _ _ _ hn h
  | fresh k ih => exact fun p s hn h => ih _ _ _ (Nat.le_succ_of_le hn) h
  | load a _ k ih | genState a k ih => exact fun p s hn ⟨o, ho, h⟩ => ⟨o, ho, ih _ _ _ hn h⟩
  | update a _ f k ih | choose _ _ k ih => exact fun p s hn ⟨ha, h⟩ => ⟨ha, ih _ _ _ hn h⟩
  | call c h g l k ih => exact fun p s hn ⟨r, s1, h1, h2⟩ => ⟨r, s1, h1, ih r p s1 (Nat.le_trans hn (runs_toks h1)) h2⟩
  | resume g r l k ih => exact fun p s hn ⟨res, s1, hw, h⟩ => ⟨res, s1, hw, ih _ _ _ (Nat.le_trans hn (wakes_toks hw)) h⟩
theorem thnT {α : Type} {t : Sem α} {Q Q' : α → Shared → Prop} {M : Model} {A : Around} {E : Value → Shared → Prop} {s : Shared} {n : Nat} (hn : n ≤ s.toks) (h : wpAny M A t Q E s) (hQ : ∀ a s', n ≤ s'.toks → Q a s' → Q' a s') : wpAny M A t Q' E s := fun Γ p hΓ =>
  Sem.wp_mono M Γ t (fun a _ s' ⟨h1, h2⟩ => hQ a s' h2 h1) (fun e _ s' ⟨h1, _⟩ => h1) p s (wp_toks t p s hn (h Γ p hΓ))
section
variable (X : Cx)
noncomputable def PET (e : Expr) (t : TE) : Prop :=
  ∀ (pins : List (Addr × Obj)) (s : Shared) (σ : St) (H : Hp) (Q : VK), Inv X pins σ H s → 1 ≤ s.toks → t σ H Q → wpAny (model X.prog X.w) X.A (eval e X.env) (EP X pins σ Q) X.xe s
noncomputable def PAT (es : List Expr) (t : TA) : Prop :=
  ∀ (pos : Pos) (pins : List (Addr × Obj)) (s : Shared) (σ : St) (H : Hp) (Q : List V → Hp → Prop), Inv X pins σ H s → 1 ≤ s.toks → t σ H Q → wpAny (model X.prog X.w) X.A (spliced (backTo pos (starEach es X.env))) (AP X pins σ Q) X.xe s
noncomputable def PST (st : Stmt) (t : TS) : Prop :=
  ∀ (pins : List (Addr × Obj)) (s : Shared) (σ : St) (H : Hp) (D : Ends), Inv X pins σ H s → 1 ≤ s.toks → t D σ H → wpAny (model X.prog X.w) X.A (exec st X.env) (SP X pins D) X.xe s
noncomputable def PSsT (st : List Stmt) (t : TS) : Prop :=
  ∀ (pins : List (Addr × Obj)) (s : Shared) (σ : St) (H : Hp) (D : Ends), Inv X pins σ H s → 1 ≤ s.toks → t D σ H → wpAny (model X.prog X.w) X.A (execs st X.env) (SP X pins D) X.xe s
noncomputable def PSB (st : Stmt) (t : TS) : Prop :=
  ∀ (pins : List (Addr × Obj)) (s : Shared) (σ : St) (H : Hp) (D : Ends), Inv X pins σ H s → t D σ H → wpAny (model X.prog X.w) X.A (exec st X.env) (fun f s' => SP X pins D f s' ∧ 1 ≤ s'.toks) X.xe s
end
section
variable {X : Cx} {st : Stmt} {rest : List Stmt} {t u : TS} {a b e o : Expr} {es : List Expr} {ta tb te to : TE} {tr : TA} {pos : Pos}
theorem pss_consB (h1 : PSB X st t) (h2 : PSsT X rest u) : PSs X (st :: rest) (tSeq t u) := by
  intro pins s σ H D I h
  refine wpAny_execs_cons (thn (h1 pins s σ H { D with nx := u D } I h) fun f s1 hz9 => ?_)
  obtain ⟨q, ht⟩ := hz9
  cases f with
  | next =>
    obtain ⟨σ', H', I', q⟩ := q
    exact h2 pins s1 σ' H' D I' ht q
  | ret v => exact q
  | brk => exact q
  | cont => exact q
theorem pss_consT (h1 : PS X st t) (h2 : PSsT X rest u) : PSsT X (st :: rest) (tSeq t u) := by
  intro pins s σ H D I hs h
  refine wpAny_execs_cons (thnT hs (h1 pins s σ H { D with nx := u D } I h) fun f s1 ht q => ?_)
  cases f with
  | next =>
    obtain ⟨σ', H', I', q⟩ := q
    exact h2 pins s1 σ' H' D I' ht q
  | ret v => exact q
  | brk => exact q
  | cont => exact q
theorem pss_consU (h1 : PST X st t) (h2 : PSs X rest u) : PSsT X (st :: rest) (tSeq t u) := by
  intro pins s σ H D I hs h
  refine wpAny_execs_cons (thn (h1 pins s σ H { D with nx := u D } I hs h) fun f s1 q => ?_)
  cases f with
  | next =>
    obtain ⟨σ', H', I', q⟩ := q
    exact h2 pins s1 σ' H' D I' q
  | ret v => exact q
  | brk => exact q
  | cont => exact q
theorem ps_setB {i : Nat} {x c : Str} {j : Nat} {p2 pos' : Pos} (hN : X.N.Nodup) (hi : X.N[i]? = some x) (hx : Loc X.env.scope x) (hs : swapsWith (.Constant (.str c) j p2) (some (.Name x pos')) pos.line X.env = pure false := by rfl) (hf : X.fn x = true ∨ X.env.scope.names.lookup x = some .local := by first | exact .inl rfl | exact .inr rfl | assumption) :
    PSB X (.Assign [.Name x pos'] (.Constant (.str c) j p2) pos) (tAsg (tC (.str c)) (gName i)) := by
  intro pins s σ H D I h
  refine wpAny_Assign_Name (Calls.Constant_str ?_) hs
  refine thnT (n := 1) (Nat.succ_le_succ (Nat.zero_le _)) (store_ok (I.tok _) hN hi hx (show RelV (.str c) _ from ⟨_, rfl⟩) (fun s2 I2 => (⟨_, H, I2, h⟩ : SP X pins D .next s2)) hf) fun f s' ht q => ⟨q, ht⟩
theorem ps_setT {i : Nat} {x : Str} {e : Expr} {te : TE} {pos' : Pos} (hN : X.N.Nodup) (hi : X.N[i]? = some x) (hx : Loc X.env.scope x) (he : PET X e te) (hs : swapsWith e (some (.Name x pos')) pos.line X.env = pure false := by rfl) (hf : X.fn x = true ∨ X.env.scope.names.lookup x = some .local := by first | exact .inl rfl | exact .inr rfl | assumption) :
    PST X (.Assign [.Name x pos'] e pos) (tAsg te (gName i)) := by
  intro pins s σ H D I ht h
  refine wpAny_Assign_Name (thn (he pins s σ H _ I ht h) fun v s1 hz9 => ?_) hs
  obtain ⟨y, H1, I1, r1, q1⟩ := hz9
  exact store_ok I1 hN hi hx r1 (fun s2 I2 => ⟨_, H1, I2, q1⟩) hf
theorem pe_opT {op : Operator} {r : R2} (ho : OpR X (binaryOp op) r) (ha : PE X a ta) (hb : PET X b tb) : PET X (.BinOp a op b pos) (tOp r ta tb) := by
  intro pins s σ H Q I hs h
  refine wpAny_BinOp (thnT hs (ha pins s σ H _ I h) fun v s1 ht hz9 => ?_)
  obtain ⟨x, H1, I1, r1, q1⟩ := hz9
  refine thn (hb pins s1 σ H1 _ I1 ht q1) fun u s2 hz9 => ?_
  obtain ⟨y, H2, I2, r2, q2⟩ := hz9
  exact ho pins s2 σ H2 x y v u Q I2 r1 r2 q2
theorem pe_lstT (h : PAT X es tr) : PET X (.List es pos) (tLst tr) := by
  intro pins s σ H Q I hs hq
  refine wpAny_List_spliced (thn (h pos pins s σ H _ I hs hq) fun us s1 ⟨xs, H1, I1, r, z, q⟩ => ⟨by rw [← r.length]; exact z, ?_⟩)
  have hf : H1 s1.heap.objs.size = none := I1.hok.fresh (Nat.le_refl _)
  exact ⟨.ref s1.heap.objs.size, upd H1 s1.heap.objs.size (.lst xs), I1.laid (t' := s1.toks) (fun b u e => Heap.get?_push_of_some _ e) (Nat.le_refl _) ⟨z, us, 0, r, Heap.get?_push_size _ rfl⟩, rfl, q _ hf⟩
theorem pa_consT (ha : PE X e te) (hr : PAT X es tr) (hs : starEach (e :: es) X.env = (false, eval e X.env) :: starEach es X.env := by rfl) : PAT X (e :: es) (tCons te tr) := by
  intro pos pins s σ H Q I ht h
  rw [hs]
  show wpAny _ _ (spliced ((false, eval e X.env) :: backTo pos (starEach es X.env))) _ _ s
  refine Calls.spliced_cons (thnT ht (ha pins s σ H _ I h) fun u s1 ht1 hz9 => ?_)
  obtain ⟨x, H1, I1, r1, q1⟩ := hz9
  refine thn (hr pos pins s1 σ H1 _ I1 ht1 q1) fun us s2 hz9 => ?_
  obtain ⟨xs, H2, I2, r2, q2⟩ := hz9
  exact ⟨x :: xs, H2, I2, .cons r1 r2, q2⟩
theorem pa_consU (ha : PET X e te) (hr : PA X es tr) (hs : starEach (e :: es) X.env = (false, eval e X.env) :: starEach es X.env := by rfl) : PAT X (e :: es) (tCons te tr) := by
  intro pos pins s σ H Q I ht h
  rw [hs]
  show wpAny _ _ (spliced ((false, eval e X.env) :: backTo pos (starEach es X.env))) _ _ s
  refine Calls.spliced_cons (thn (ha pins s σ H _ I ht h) fun u s1 hz9 => ?_)
  obtain ⟨x, H1, I1, r1, q1⟩ := hz9
  refine thn (hr pos pins s1 σ H1 _ I1 q1) fun us s2 hz9 => ?_
  obtain ⟨xs, H2, I2, r2, q2⟩ := hz9
  exact ⟨x :: xs, H2, I2, .cons r1 r2, q2⟩
noncomputable def tRepl (c d : Str) (to : TE) : TE := fun σ H Q => to σ H fun x H1 => ∃ z, x = .str z ∧ z.length ≤ 1048576 ∧ Q (.str (Txt.replace z c d)) H1
theorem pe_replT {c d : Str} {j1 j2 : Nat} {p1 p2 apos cpos : Pos} (ho : PE X o to) (hcd : (c == d) = false) (hd : d.length ≤ 14)
    (hbase : attributeBase o "replace" X.env (eval o X.env) = eval o X.env := by rfl)
    (hfew : ((backTo cpos (starEach [.Constant (.str c) j1 p1, .Constant (.str d) j2 p2] X.env)).all (fun x => !x.1) && (backToKw cpos (keywordEach [] X.env)).all (fun x => x.1.isSome)
      && decide (([.Constant (.str c) j1 p1, .Constant (.str d) j2 p2] : List Expr).length + ([] : List Keyword).length + (if ([] : List Keyword).isEmpty then 0 else 1) < 30)) = true := by rfl)
    (hline : (apos.endLine == cpos.line) = true := by rfl)
    (hs : starEach [.Constant (.str c) j1 p1, .Constant (.str d) j2 p2] X.env = [(false, eval (.Constant (.str c) j1 p1) X.env), (false, eval (.Constant (.str d) j2 p2) X.env)] := by rfl) :
    PET X (.Call (.Attribute o "replace" apos) [.Constant (.str c) j1 p1, .Constant (.str d) j2 p2] [] cpos) (tRepl c d to) := by
  intro pins s σ H Q I hs1 h
  refine wpAny_Call_method_late hbase hfew hline rfl (thnT hs1 (ho pins s σ H _ I h) fun v s1 ht hz9 => ?_)
  obtain ⟨x, H1, I1, r1, z, hx, hz, q1⟩ := hz9
  subst hx
  obtain ⟨tk, rfl⟩ := r1
  refine ⟨"str", "str.replace", PySem.F.plainAttrs_str, PySem.F.slot_str_replace, PySem.F.type_str_replace, typeIs_str _ _ _, (fun _ e => nomatch e), ?_⟩
  rw [hs]
  refine Calls.callWith_builtin rfl (Calls.evalArgs_plain ?_)
  show wpAny _ _ (spliced [(false, eval (.Constant (.str c) j1 p1) X.env), (false, eval (.Constant (.str d) j2 p2) X.env)]) _ _ s1
  refine Calls.spliced_cons (Calls.Constant_str (Calls.spliced_cons (Calls.Constant_str ?_)))
  refine Calls.spliced_nil ?_
  exact SC.replaceW (u := s1.toks) (v := s1.toks + 1) (Nat.ne_of_gt ht) (Nat.succ_ne_zero _) (Nat.ne_of_lt (Nat.lt_succ_self _)) hcd hz hd fun t' k => ⟨.str _, H1, I1.tok _, ⟨_, rfl⟩, q1⟩
end
end L2

namespace L2
open PySem PySem.W PySem.Spec PyProof.Rows
theorem upper_T {l : List Nat} (h : ∀ c ∈ l, c < 128) : Txt.upper (T l) = T (l.map up1) := by
  rw [upper_ascii (by simpa [T] using h)]
  simp [T]
theorem lower_T2 {l : List Nat} (h : ∀ c ∈ l, c < 128) : Txt.lower (T l) = T (l.map lo1) := by
  rw [lower_ascii (by simpa [T] using h)]
  simp [T]
theorem up1_lt : ∀ c, c < 128 → up1 c < 128 := by decide +kernel
theorem lo1_lt : ∀ c, c < 128 → lo1 c < 128 := by decide +kernel
theorem dbl_mem {c : Nat} : ∀ {l : List Nat} {x : Nat}, x ∈ StrLaws.dbl c l → x ∈ l
  | [], _, h => by cases h
  | k :: r, x, h => by
    rw [StrLaws.dbl] at h
    split at h
    · rcases List.mem_cons.mp h with rfl | h
      · exact List.mem_cons_self
      · rcases List.mem_cons.mp h with rfl | h
        · exact List.mem_cons_self
        · exact List.mem_cons_of_mem _ (dbl_mem h)
    · rcases List.mem_cons.mp h with rfl | h
      · exact List.mem_cons_self
      · exact List.mem_cons_of_mem _ (dbl_mem h)
theorem dbl_len (c : Nat) : ∀ l : List Nat, (StrLaws.dbl c l).length ≤ 2 * l.length
  | [] => Nat.le_refl _
  | k :: r => by
    have := dbl_len c r
    rw [StrLaws.dbl]
    split <;> simp only [List.length_cons] <;> lia
section
variable {K : PySem.W.Frag} {G H₀ L : Hp} {ss : List Sl} {ta : TE} {l : List Nat}
theorem ev_lower (a : EvB K G H₀ L ss ta (.str l)) (hl : l.length ≤ 100000) : Ev K G H₀ L ss (tBM0 K "str" rLower ta) (.str (l.map lo1)) := fun F H σ Q S q =>
  a F H σ _ S fun v F1 H1 e1 r1 => by
    rw [r1.of_str]
    refine ⟨rfl, T l, rfl, rfl, by rw [T_len]; lia, ?_⟩
    rw [lower_T2 r1.asc]
    exact q _ _ _ e1 (Rep.str fun z hz => by
      obtain ⟨c, hc, rfl⟩ := List.mem_map.mp hz
      exact lo1_lt c (r1.asc c hc))
theorem ev_upperL (a : EvB K G H₀ L ss ta (.str l)) (hl : l.length ≤ 100000) : Ev K G H₀ L ss (tBM0 K "str" rUpper ta) (.str (l.map up1)) := fun F H σ Q S q =>
  a F H σ _ S fun v F1 H1 e1 r1 => by
    rw [r1.of_str]
    have e := upper_T r1.asc
    refine ⟨rfl, T l, rfl, rfl, ?_, ?_⟩
    · rw [e, T_len, List.length_map]
      unfold Builtin.Str.tooLong
      exact decide_eq_false (by rw [sizeLine_eq]; lia)
    rw [e]
    exact q _ _ _ e1 (Rep.str fun z hz => by
      obtain ⟨c, hc, rfl⟩ := List.mem_map.mp hz
      exact up1_lt c (r1.asc c hc))
theorem ev_repl {c d : Str} (hc : c = ⟨#[32]⟩) (hd : d = ⟨#[32, 32]⟩) (a : EvB K G H₀ L ss ta (.str l)) (hl : l.length ≤ 100000) : Ev K G H₀ L ss (tRepl c d ta) (.str (StrLaws.dbl 32 l)) := fun F H σ Q S q =>
  a F H σ _ S fun v F1 H1 e1 r1 => by
    rw [r1.of_str]
    refine ⟨T l, rfl, by rw [T_len]; lia, ?_⟩
    rw [replace_dbl _ _ _ 32 hc hd, T_cps]
    exact q _ _ _ e1 (Rep.str fun z hz => r1.asc z (dbl_mem hz))
end
end L2

namespace L2
open PySem PySem.W PySem.Spec PyProof.Rows
structure CMeth (K : PySem.W.Frag) (C : Addr) (m : Str) (f : Addr) : Prop where
  ga : specialIn K (.ref C) "__getattribute__" = some (some (.builtin "type.__getattribute__"))
  rd : readsIn K C (.type "type") = true
  fc : findCls K (.ref C) (.type "type") m = some (.val (.ref f))
  kp : keepIn K (.ref f) = true
section
variable {X : Cx} {CX : CXT} {C f : Addr} {m x : Str} {k : Nat} {fd : FuncData} {ps : List Str} {sp : Sp} {ds : List Value} {dvs : List V} {E : XK} {e : Expr} {es : List Expr} {t : TA} {p apos pos : Pos}
theorem pe_clsCall {pl : Sem Bool} (hg : Gl X x) (hm : X.mg x = some (.ref C)) (M : CMeth X.K C m f) (F : FnOk X.prog X.w X.K X.mg X.base CX k f fd ps sp) (hr : Room k X.A) (hb : Binds X.K fd ps ds) (hd : Vals dvs ds) (hx : Passes CX X E) (ha : PA X (e :: es) t)
    (hdb : (x == ("__debug__" : Str)) = false := by decide) (hst : starEach (e :: es) X.env = (false, eval e X.env) :: starEach es X.env := by rfl) (hpl : (backTo pos (starEach es X.env)).any (·.1) = false := by rfl)
    (ht : eval (.Call (.Attribute (.Name x p) m apos) (e :: es) [] pos) X.env = (do
      let ov ← eval (.Name x p) X.env
      standAt apos.atName
      let (f, first) ← holding [ov] (getMethod ov m pl)
      callWith pos f first (backTo pos (starEach (e :: es) X.env)) (backToKw pos (keywordEach [] X.env))) := by rfl) :
    PE X (.Call (.Attribute (.Name x p) m apos) (e :: es) [] pos) (tCall sp dvs E t) := by
  intro pins s σ H Q I h
  refine PySem.W.methodCall_KW (pl := pl) (thn (pe_glob (v := .ref C) hg hm rfl hdb pins s σ H (fun v H1 => v = .ref C ∧ H1 = H) I ⟨rfl, rfl⟩) fun u s1 hz9 => ?_) ht
  obtain ⟨v, H1, I1, rx, ev, eh⟩ := hz9
  subst ev eh
  obtain rfl : u = Value.ref C := rx
  refine method_cls I1.kIn M.ga (cls_value I1.kIn M.rd M.fc rfl ?_)
  refine PySem.W.callWith_K (first := []) (h₀ := X.base) I.ok.mod.kin M.kp (thn (ha pos pins _ σ _ _ (I1.tok _) h) fun us s2 ⟨vs, H2, I2, r, q2⟩ => ⟨I2.kIn, ?_⟩) hst hpl
  exact run_fn F hr hb hd hx I2 r q2
end
end L2

namespace L2
open PySem PySem.W PySem.Spec PyProof.Rows
noncomputable def SpInit1 (C : Addr) (n1 n2 : Str) (c : V) : Sp := fun vs H Q _ => ∃ (x dx : Addr) (u : V), vs = [.ref x, u] ∧ H x = some (.ins C dx []) ∧ H dx = some (.own x) ∧ Q .non (upd H x (.ins C dx [(n1, u), (n2, c)]))
section
variable {K : PySem.W.Frag} {G H₀ L : Hp} {ss : List Sl} {i : Nat} {C : Addr} {t : TA} {E : XK} {D0 : Ends} {c : V}
theorem go_par {i j : Nat} {d1 d2 : D} (a : EvAF K G H₀ L ss t [d1, d2]) (h : Nx K G H₀ L D0.nx ((ss.set i (.d d1)).set j (.d d2))) : Go K G H₀ L D0 ss (tPar i j t) := fun F H σ S =>
  a F H σ _ S fun vs F1 H1 e1 r1 => by
    rw [Reps] at r1
    obtain ⟨v1, r, rfl, rv1, r1⟩ := r1
    rw [Reps] at r1
    obtain ⟨v2, r', rfl, rv2, r1⟩ := r1
    rw [Reps] at r1
    subst r1
    exact ⟨v1, v2, rfl, h F1 H1 _ (((S.ext2 e1).setD rv1).setD rv2)⟩
end
end L2

namespace L2
open PySem PySem.W PySem.Spec PyProof.Rows
noncomputable def D.isT : D → Bool
  | .tup l => l.all D.isK | _ => false
noncomputable def D.tkey : D → List Key
  | .tup l => l.map D.key | _ => []
theorem keys_inj : ∀ {a b : List D}, a.all D.isK = true → b.all D.isK = true → a.map D.key = b.map D.key → a = b
  | [], [], _, _, _ => rfl
  | [], _ :: _, _, _, h => by cases h
  | _ :: _, [], _, _, h => by cases h
  | x :: a, y :: b, ha, hb, h => by
    rw [List.all_cons, Bool.and_eq_true] at ha hb
    rw [List.map_cons, List.map_cons] at h
    injection h with h1 h2
    rw [key_inj ha.1 hb.1 h1, keys_inj ha.2 hb.2 h2]
theorem tkey_inj {a b : D} (ha : a.isT = true) (hb : b.isT = true) (h : a.tkey = b.tkey) : a = b := by
  cases a <;> simp only [D.isT] at ha <;> try (cases ha; done)
  cases b <;> simp only [D.isT] at hb <;> try (cases hb; done)
  rw [keys_inj ha hb h]
theorem reps_keys {K : PySem.W.Frag} {H : Hp} : ∀ {l : List D} {vs : List V}, l.all D.isK = true → Reps K H l vs → vs = (l.map D.key).map kV
  | [], vs, _, r => by rw [Reps] at r; subst r; rfl
  | d :: l, vs, h, r => by
    rw [List.all_cons, Bool.and_eq_true] at h
    rw [Reps] at r
    obtain ⟨v, r', rfl, rv, r⟩ := r
    rw [List.map_cons, List.map_cons, rep_key h.1 rv, reps_keys h.2 r]
inductive Dkt (K : PySem.W.Frag) (F : Hp) : DD → List (List Key × V) → Prop
  | nil : Dkt K F [] []
  | cons {k d : D} {v : V} {kvs : DD} {xs : List (List Key × V)} (hk : k.isT = true) (r : Rep K F d v) (t : Dkt K F kvs xs) : Dkt K F ((k, d) :: kvs) ((k.tkey, v) :: xs)
section
variable {K : PySem.W.Frag} {F F' : Hp} {kvs : DD} {xs : List (List Key × V)}
theorem Dkt.mono (h : Dkt K F kvs xs) (s : Same F F') : Dkt K F' kvs xs := by
  induction h with
  | nil => exact .nil
  | cons hk r t ih => exact .cons hk (r.mono s) ih
theorem Dkt.length (h : Dkt K F kvs xs) : kvs.length = xs.length := by
  induction h with
  | nil => rfl
  | cons hk r t ih => simp [ih]
theorem Dkt.val (h : Dkt K F kvs xs) {k : D} (hk : k.isT = true) : (valD kvs k = none ∧ valV xs k.tkey = none) ∨ ∃ d v, valD kvs k = some d ∧ valV xs k.tkey = some v ∧ Rep K F d v := by
  induction h with
  | nil => exact .inl ⟨rfl, rfl⟩
  | @cons k' d v kvs xs hk' r t ih =>
    by_cases e : k' = k
    · subst e
      exact .inr ⟨d, v, by simp [valD], by simp [valV], r⟩
    · have e2 : k'.tkey ≠ k.tkey := fun z => e (tkey_inj hk' hk z)
      have h1 : valD ((k', d) :: kvs) k = valD kvs k := by simp [valD, List.find?_cons, e]
      have h2 : valV ((k'.tkey, v) :: xs) k.tkey = valV xs k.tkey := by simp [valV, List.find?_cons, e2]
      rw [h1, h2]; exact ih
theorem Dkt.any (h : Dkt K F kvs xs) {k : D} (hk : k.isT = true) : (kvs.any fun kv => decide (kv.1 = k)) = xs.any fun kv => decide (kv.1 = k.tkey) := by
  induction h with
  | nil => rfl
  | @cons k' d v kvs xs hk' r t ih =>
    rw [List.any_cons, List.any_cons, ih]
    congr 1
    by_cases e : k' = k
    · subst e; simp
    · have e2 : k'.tkey ≠ k.tkey := fun z => e (tkey_inj hk' hk z)
      rw [decide_eq_false e, decide_eq_false e2]
theorem Dkt.snoc (h : Dkt K F kvs xs) {k d : D} {v : V} (hk : k.isT = true) (r : Rep K F d v) : Dkt K F (kvs ++ [(k, d)]) (xs ++ [(k.tkey, v)]) := by
  induction h with
  | nil => exact .cons hk r .nil
  | cons hk' r' t ih => exact .cons hk' r' ih
theorem Dkt.put (h : Dkt K F kvs xs) {k d : D} {v : V} (hk : k.isT = true) (r : Rep K F d v) : Dkt K F (putD kvs k d) (putK xs k.tkey v) := by
  unfold putD putK
  rw [h.any hk]
  by_cases hc : (xs.any fun kv => decide (kv.1 = k.tkey)) = true
  · rw [if_pos hc, if_pos hc]
    clear hc
    induction h with
    | nil => exact .nil
    | @cons k' d' v' kvs xs hk' r' t ih =>
      rw [List.map_cons, List.map_cons]
      by_cases e : k' = k
      · subst e; rw [if_pos rfl, if_pos rfl]; exact .cons hk' r ih
      · have e2 : k'.tkey ≠ k.tkey := fun z => e (tkey_inj hk' hk z)
        rw [if_neg e, if_neg e2]; exact .cons hk' r' ih
  · rw [if_neg hc, if_neg hc]; exact h.snoc hk r
end
noncomputable def tsl (K : PySem.W.Frag) (b : Addr) (ds : List D) : Sl := .g (.ref b) [] fun F _ => ∃ vs, F b = some (.tup vs) ∧ Reps K F ds vs
theorem tsl_stab (K : PySem.W.Frag) (b : Addr) (ds : List D) : Stab [] fun F _ => ∃ vs, F b = some (.tup vs) ∧ Reps K F ds vs := fun F1 H1 F2 H2 sf _ ⟨vs, h, r⟩ => ⟨vs, sf _ _ h, r.mono sf⟩
noncomputable def dWT (K : PySem.W.Frag) (p : Addr) (kvs : DD) : Hp → Hp → Prop := fun F H => ∃ xs, H p = some (.dT xs) ∧ Dkt K F kvs xs
noncomputable def dslT (K : PySem.W.Frag) (p : Addr) (kvs : DD) : Sl := .g (.ref p) [p] (dWT K p kvs)
theorem dWT_stab (K : PySem.W.Frag) (p : Addr) (kvs : DD) : Stab [p] (dWT K p kvs) := fun F1 H1 F2 H2 sf hh ⟨xs, h1, h2⟩ => ⟨xs, by rw [hh p (by simp)]; exact h1, h2.mono sf⟩
section
variable {K : PySem.W.Frag} {G H₀ L : Hp} {ss : List Sl} {i j : Nat} {p b : Addr} {kvs : DD} {E : Ends} {ty td tv tx : TE} {t : TA} {k d z : D} {ds : List D}
theorem Sat.getT {F H : Hp} {σ : St} (S : Sat K G H₀ L F H σ ss) (hs : ss[i]? = some (tsl K b ds)) : σ[i]? = some (some (.ref b)) ∧ ∃ vs, F b = some (.tup vs) ∧ Reps K F ds vs := by
  obtain ⟨v, e, ew, ha, hw, st⟩ := S.get hs (by intro z; cases z)
  cases ew
  exact ⟨e, hw⟩
theorem go_setTup (a : EvAF K G H₀ L ss t ds) (hz : ds.length ≤ sizeLine) (h : ∀ b, Nx K G H₀ L E.nx (ss.set i (tsl K b ds))) : Go K G H₀ L E ss (tAsg (tTup t) (gName i)) := fun F H σ S =>
  a F H σ _ S fun vs F1 H1 e1 r1 => ⟨by rw [← r1.length]; exact hz, fun p hp => by
    have e := e1.newF (o := .tup vs) hp
    have S4 := S.ext2 e
    refine h p _ _ _ (S4.put S4.ext S4.fl (by simp) (fun j hj => getD_set_ne (Ne.symm hj)) (fun hi => ?_) (by simp [tsl, Sl.ads]) (fun j s' hj hs q hq => by simp [tsl, Sl.ads] at hq) fun j s' hj hs => S4.ok j s' hs)
    rw [getD_set_self (by rw [S.len]; exact hi)]
    exact ⟨rfl, (fun a ha => absurd ha List.not_mem_nil), ⟨vs, upd_same, r1.mono (Same.upd (e1.fh.free hp))⟩, tsl_stab K p ds⟩⟩
theorem Sat.getMT {F H : Hp} {σ : St} (S : Sat K G H₀ L F H σ ss) (hs : ss[i]? = some (dslT K p kvs)) : σ[i]? = some (some (.ref p)) ∧ H₀ p = none ∧ F p = none ∧ ∃ xs, H p = some (.dT xs) ∧ Dkt K F kvs xs := by
  obtain ⟨v, e, ew, ha, hw, st⟩ := S.get hs (by intro z; cases z)
  cases ew
  obtain ⟨h0, fp, _⟩ := ha p (by simp)
  exact ⟨e, h0, fp, hw⟩
theorem Sat.writeMT {F H : Hp} {σ : St} {kvs' : DD} {xs : List (List Key × V)} (S : Sat K G H₀ L F H σ ss) (hs : ss[i]? = some (dslT K p kvs)) (r : Dkt K F kvs' xs) : Sat K G H₀ L F (upd H p (.dT xs)) σ (ss.set i (dslT K p kvs')) := by
  obtain ⟨e, h0, fp, ys, hp, _⟩ := S.getMT hs
  have hget : σ.getD i none = some (.ref p) := by rw [List.getD_eq_getElem?_getD, e]; rfl
  refine S.put (S.ext.write fp h0) S.fl rfl (fun _ _ => rfl) (fun _ => ?_) (by simp [dslT, Sl.ads]) (fun j s' hj h q hq => ?_) fun j s' hj h => (S.ok j s' h).updNe (S.ne i j _ s' (Ne.symm hj) hs h p (by simp [dslT, Sl.ads]))
  · rw [hget]
    exact ⟨rfl, fun a ha => by rw [List.mem_singleton.mp ha]; exact ⟨h0, fp, _, upd_same⟩, ⟨xs, upd_same, r⟩, dWT_stab K p kvs'⟩
  · have : q = p := by simpa [dslT, Sl.ads] using hq
    subst this
    exact S.ne i j _ s' (Ne.symm hj) hs h q (by simp [dslT, Sl.ads])
theorem go_setMT (h : ∀ p, Nx K G H₀ L E.nx (ss.set i (dslT K p []))) : Go K G H₀ L E ss (tAsg tDNewT (gName i)) := fun F H σ S p hp => by
  have e := (Ext.refl S.ext.fh).newO (o := .dT []) hp
  have S' := S.ext2 e
  refine h p F _ _ (S'.put S'.ext S'.fl (by simp) (fun j hj => getD_set_ne (Ne.symm hj)) (fun hi => ?_) (by simp [dslT, Sl.ads]) (fun j s' hj hs q hq => ?_) fun j s' hj hs => S'.ok j s' hs)
  · rw [getD_set_self (by rw [S.len]; exact hi)]
    exact ⟨rfl, fun a ha => by rw [List.mem_singleton.mp ha]; exact ⟨S.ext.hh.free hp, S.ext.fh.free hp, _, upd_same⟩, ⟨[], upd_same, .nil⟩, dWT_stab K p []⟩
  · have : q = p := by simpa [dslT, Sl.ads] using hq
    subst this
    exact fun hin => (S.ok j s' hs).live hin hp
theorem ev_dgetT (hs : ss[i]? = some (dslT K p kvs)) (hj : ss[j]? = some (tsl K b ds)) (hk : ds.all D.isK = true) (hv : valD kvs (.tup ds) = some d) : Ev K G H₀ L ss (tDGet (tVar i) (tVar j)) d := fun F H σ Q S q => by
  obtain ⟨e, _, _, xs, hp, dk⟩ := S.getMT hs
  obtain ⟨e2, vs, hb, r⟩ := S.getT hj
  refine ⟨_, e, _, e2, ?_⟩
  rcases dk.val (k := .tup ds) hk with ⟨h1, _⟩ | ⟨d', w, h1, h2, rw'⟩
  · rw [h1] at hv; cases hv
  · rw [h1] at hv; cases hv
    refine ⟨p, w, rfl, ?_, q w F H (Ext.refl S.ext.fh) rw'⟩
    rw [← h2]
    exact DGet.t hp (by rw [S.ext.fh _ _ hb, reps_keys hk r]; rfl)
theorem ev_dnotinT (hs : ss[i]? = some (dslT K p kvs)) (hj : ss[j]? = some (tsl K b ds)) (hk : ds.all D.isK = true) : Ev K G H₀ L ss (tDNotIn (tVar j) (tVar i)) (.bl (!(valD kvs (.tup ds)).isSome)) := fun F H σ Q S q => by
  obtain ⟨e, _, _, xs, hp, dk⟩ := S.getMT hs
  obtain ⟨e2, vs, hb, r⟩ := S.getT hj
  refine ⟨_, e2, _, e, p, valV xs (D.tup ds).tkey, rfl, DGet.t hp (by rw [S.ext.fh _ _ hb, reps_keys hk r]; rfl), q _ F H (Ext.refl S.ext.fh) ?_⟩
  have : (valV xs (D.tup ds).tkey).isSome = (valD kvs (.tup ds)).isSome := by
    rcases dk.val (k := .tup ds) hk with ⟨h1, h2⟩ | ⟨d', w, h1, h2, _⟩ <;> rw [h1, h2] <;> rfl
  rw [this]; exact Rep.bl
theorem go_dputT (hs : ss[i]? = some (dslT K p kvs)) (hj : ss[j]? = some (tsl K b ds)) (hk : ds.all D.isK = true) (a : Ev K G H₀ L ss tv d) (hz : kvs.length < sizeLine) (h : Nx K G H₀ L E.nx (ss.set i (dslT K p (putD kvs (.tup ds) d)))) : Go K G H₀ L E ss (sDPut (tVar i) (tVar j) tv) := fun F H σ S =>
  a F H σ _ S fun v F1 H1 e1 r1 => by
    have S1 := S.ext2 e1
    obtain ⟨e, _, _, xs, hp, dk⟩ := S1.getMT hs
    obtain ⟨e2, vs, hb, r⟩ := S1.getT hj
    refine ⟨_, e, _, e2, p, _, rfl, DPut.t (k := (D.tup ds).tkey) (v := v) hp (by rw [S1.ext.fh _ _ hb, reps_keys hk r]; rfl) (by rw [← dk.length]; exact hz), h F1 _ σ (S1.writeMT hs (dk.put hk r1))⟩
end
end L2

namespace L2
open PySem PySem.W PySem.Spec PyProof.Rows
noncomputable def MOk (X : Cx) (E : XK) (m : Str) (C : Addr) (sp : Sp) : Prop := ∃ f fd ps k, Cls X.K C ∧ Meth X.K C m f ∧ FnOk X.prog X.w X.K X.mg X.base CX0 k f fd ps sp ∧ Room k X.A ∧ Binds X.K fd ps []
noncomputable def MOks (X : Cx) (E : XK) (m : Str) (fam : List (Addr × Sp)) : Prop := ∀ q ∈ fam, MOk X E m q.1 q.2
theorem mok_nil {X : Cx} {E : XK} {m : Str} : MOks X E m [] := fun _ h => nomatch h
theorem mok_cons {X : Cx} {E : XK} {m : Str} {C f : Addr} {sp : Sp} {fd : FuncData} {ps : List Str} {k : Nat} {fam : List (Addr × Sp)} (c : Cls X.K C) (hm : Meth X.K C m f) (F : FnOk X.prog X.w X.K X.mg X.base CX0 k f fd ps sp) (hr : Room k X.A) (hb : Binds X.K fd ps []) (r : MOks X E m fam) :
    MOks X E m ((C, sp) :: fam) := fun q h => by
  rcases List.mem_cons.mp h with rfl | h
  · exact ⟨f, fd, ps, k, c, hm, F, hr, hb⟩
  · exact r q h
noncomputable def tMethD (fam : List (Addr × Sp)) (m : Str) (E : XK) (ta : TE) (t : TA) : TE := fun σ H Q => ta σ H fun x H1 => ∃ a C dx fs sp, x = .ref a ∧ H1 a = some (.ins C dx fs) ∧ (C, sp) ∈ fam ∧ fs.lookup m = none ∧ t σ H1 fun vs H2 => sp (.ref a :: vs) H2 Q E
section
variable {X : Cx} {E : XK} {m : Str} {apos pos : Pos} {e o : Expr} {es : List Expr} {ta : TE} {t : TA} {fam : List (Addr × Sp)}
theorem pe_methD {pl : Sem Bool} (he : PE X o ta) (M : MOks X E m fam) (hx : Passes CX0 X E) (ha : PA X (e :: es) t)
    (hst : starEach (e :: es) X.env = (false, eval e X.env) :: starEach es X.env := by rfl) (hpl : (backTo pos (starEach es X.env)).any (·.1) = false := by rfl)
    (ht : eval (.Call (.Attribute o m apos) (e :: es) [] pos) X.env = (do
      let ov ← eval o X.env
      standAt apos.atName
      let (f, first) ← holding [ov] (getMethod ov m pl)
      callWith pos f first (backTo pos (starEach (e :: es) X.env)) (backToKw pos (keywordEach [] X.env))) := by rfl) :
    PE X (.Call (.Attribute o m apos) (e :: es) [] pos) (tMethD fam m E ta t) := by
  intro pins s σ H Q I h
  refine PySem.W.methodCall_KW (pl := pl) (thn (he pins s σ H _ I h) fun u s1 hz9 => ?_) ht
  obtain ⟨x, H1, I1, rx, a, C, dx, fs, sp, ex, ea, hf, l, q⟩ := hz9
  subst ex
  obtain rfl : u = Value.ref a := rx
  obtain ⟨f, fd, ps, k, c, hm, F, hr, hb⟩ := M _ hf
  refine getmeth_ok I1 ea c hm l ?_
  refine PySem.W.callWith_K (first := [.ref a]) (h₀ := X.base) I.ok.mod.kin hm.kp (thn (ha pos pins s1 σ H1 _ I1 q) fun us s2 ⟨vs, H2, I2, r, q2⟩ => ⟨I2.kIn, ?_⟩) hst hpl
  exact run_fn (us := .ref a :: us) (vs := .ref a :: vs) (dvs := []) F hr hb .nil hx I2 (.cons rfl r) (by rw [List.append_nil]; exact q2)
theorem pe_methD0 {pl : Sem Bool} (he : PE X o ta) (M : MOks X E m fam) (hx : Passes CX0 X E)
    (ht : eval (.Call (.Attribute o m apos) [] [] pos) X.env = (do
      let ov ← eval o X.env
      standAt apos.atName
      let (f, first) ← holding [ov] (getMethod ov m pl)
      callWith pos f first (backTo pos (starEach [] X.env)) (backToKw pos (keywordEach [] X.env))) := by rfl) :
    PE X (.Call (.Attribute o m apos) [] [] pos) (tMethD fam m E ta tNil) := by
  intro pins s σ H Q I h
  refine PySem.W.methodCall_KW (pl := pl) (thn (he pins s σ H _ I h) fun u s1 hz9 => ?_) ht
  obtain ⟨x, H1, I1, rx, a, C, dx, fs, sp, ex, ea, hf, l, q⟩ := hz9
  subst ex
  obtain rfl : u = Value.ref a := rx
  obtain ⟨f, fd, ps, k, c, hm, F, hr, hb⟩ := M _ hf
  refine getmeth_ok I1 ea c hm l ?_
  exact PySem.W.callWith_K0 (first := [.ref a]) I1.kIn hm.kp (run_fn (us := [.ref a]) (vs := [.ref a]) (dvs := []) F hr hb .nil hx I1 (.cons rfl .nil) q)
end
end L2

namespace L2
open PySem PySem.W PySem.Spec PyProof.Rows
section
variable {K : PySem.W.Frag} {G H₀ L : Hp} {ss : List Sl} {i : Nat} {C : Addr} {ta : TE} {t : TA} {E : XK} {D0 : Ends} {c : V} {ns : List Str} {vs ds : List D} {d : D} {pre : List (Str × V) → List D → Prop} {res : List (Str × V) → List D → D}
theorem ev_make2 {n1 n2 : Str} {w : Int} {l : List Nat} (a : EvAF K G H₀ L ss t [.int w, .str l]) : Ev K G H₀ L ss (tMake C (SpInit2 C n1 n2) [] E t) (.ins C [n1, n2] [.int w, .str l]) := fun F H σ Q S q =>
  a F H σ _ S fun vs F1 H1 e1 r1 => by
    have r0 := r1
    rw [Reps] at r1
    obtain ⟨v1, r, rfl, rv1, r1⟩ := r1
    rw [Reps] at r1
    obtain ⟨v2, r', rfl, rv2, r1⟩ := r1
    rw [Reps] at r1
    subst r1
    intro x dx hx hdx hne
    refine ⟨x, dx, v1, v2, rfl, upd_same, by rw [upd_ne hne]; exact upd_same, rfl, ?_⟩
    rw [upd2]
    have e2 := (Ext.refl e1.fh).newF (o := .own x) hdx
    have hx2 : upd H1 dx (.own x) x = none := by rw [upd_ne (Ne.symm hne)]; exact hx
    have e3 := e2.newF (o := .ins C dx [(n1, v1), (n2, v2)]) hx2
    exact q _ _ _ (e1.trans e3) (Rep.ins (fs := [(n1, v1), (n2, v2)]) upd_same (by rw [upd_ne hne]; exact upd_same) (r0.mono e3.gf))
theorem ev_make1 {n1 n2 : Str} {w : Int} {l : List Nat} (hl : ∀ c ∈ l, c < 128) (a : EvAF K G H₀ L ss t [.int w]) : Ev K G H₀ L ss (tMake C (SpInit1 C n1 n2 (.str (T l))) [] E t) (.ins C [n1, n2] [.int w, .str l]) := fun F H σ Q S q =>
  a F H σ _ S fun vs F1 H1 e1 r1 => by
    rw [Reps] at r1
    obtain ⟨v1, r, rfl, rv1, r1⟩ := r1
    rw [Reps] at r1
    subst r1
    intro x dx hx hdx hne
    refine ⟨x, dx, v1, rfl, upd_same, by rw [upd_ne hne]; exact upd_same, rfl, ?_⟩
    rw [upd2]
    have e2 := (Ext.refl e1.fh).newF (o := .own x) hdx
    have hx2 : upd H1 dx (.own x) x = none := by rw [upd_ne (Ne.symm hne)]; exact hx
    have e3 := e2.newF (o := .ins C dx [(n1, v1), (n2, .str (T l))]) hx2
    exact q _ _ _ (e1.trans e3) (Rep.ins (fs := [(n1, v1), (n2, .str (T l))]) upd_same (by rw [upd_ne hne]; exact upd_same) (Reps.cons (rv1.mono e3.gf) (Reps.cons (Rep.str hl) Reps.nil)))
theorem ev_fldD {f : Str} {n1 n2 : Str} {w l : D} (a : Ev K G H₀ L ss ta (.ins C [n1, n2] [w, l])) (cl : Cls K C) (n : NoAttr K C f) (hf : (f = n1 ∧ d = w) ∨ ((f == n1) = false ∧ f = n2 ∧ d = l)) : Ev K G H₀ L ss (tFld K ta f) d := fun F H σ Q S q =>
  a F H σ _ S fun v F1 H1 e1 r1 => by
    obtain ⟨x, dx, fs, rfl, hx, hd, hn, rv⟩ := r1.of_ins
    match fs, hn, rv with
    | [(a1, v1), (a2, v2)], hn, rv =>
      simp only [List.map_cons, List.map_nil, List.cons.injEq, and_true] at hn
      obtain ⟨rfl, rfl⟩ := hn
      rw [List.map_cons, List.map_cons, List.map_nil, Reps] at rv
      obtain ⟨_, _, e, ra, rv⟩ := rv
      cases e
      rw [Reps] at rv
      obtain ⟨_, _, e, rb, rv⟩ := rv
      cases e
      rcases hf with ⟨rfl, rfl⟩ | ⟨hne, rfl, rfl⟩
      · exact ⟨x, C, dx, _, v1, rfl, e1.fh _ _ hx, cl, n, by simp [List.lookup], q _ F1 H1 e1 ra⟩
      · exact ⟨x, C, dx, _, v2, rfl, e1.fh _ _ hx, cl, n, by simp only [List.lookup, hne]; simp, q _ F1 H1 e1 rb⟩
    | [], hn, rv => cases hn
    | [_], hn, rv => simp at hn
    | _ :: _ :: _ :: _, hn, rv => simp at hn
theorem ev_methD {fam : List (Addr × Sp)} {m : Str} {n1 n2 : Str} {w : Int} {l : List Nat} (a : Ev K G H₀ L ss ta (.ins C [n1, n2] [.int w, .str l])) (hm : (C, SpI K C pre res) ∈ fam) (h1 : (m == n1) = false) (h2 : (m == n2) = false) (b : EvAF K G H₀ L ss t ds)
    (hp : pre [(n1, .int w), (n2, .str (T l))] ds) : Ev K G H₀ L ss (tMethD fam m E ta t) (res [(n1, .int w), (n2, .str (T l))] ds) := fun F H σ Q S q =>
  a F H σ _ S fun v F1 H1 e1 r1 => by
    obtain ⟨x, dx, fs, rfl, hx, hd, hn, rv⟩ := r1.of_ins
    match fs, hn, rv with
    | [(a1, v1), (a2, v2)], hn, rv =>
      simp only [List.map_cons, List.map_nil, List.cons.injEq, and_true] at hn
      obtain ⟨rfl, rfl⟩ := hn
      rw [List.map_cons, List.map_cons, List.map_nil, Reps] at rv
      obtain ⟨_, _, e, ra, rv⟩ := rv
      cases e
      rw [Reps] at rv
      obtain ⟨_, _, e, rb, rv⟩ := rv
      cases e
      cases ra.of_int
      cases rb.of_str
      refine ⟨x, C, dx, _, _, rfl, e1.fh _ _ hx, hm, by simp only [List.lookup, h1, h2], ?_⟩
      have S1 := S.ext2 e1
      exact b F1 H1 σ _ S1 fun ws F2 H2 e2 r2 => ⟨F2, ds, x, dx, _, ws, e2.fh, rfl, e2.gf _ _ hx, e2.gf _ _ hd, r2, hp, fun v G' H' e3 r => q v G' H' ((e1.trans e2).trans e3) r⟩
    | [], hn, rv => cases hn
    | [_], hn, rv => simp at hn
    | _ :: _ :: _ :: _, hn, rv => simp at hn
end
end L2

namespace L2
open PySem PySem.W PyProof.Rows
theorem InR.run {α : Type} {n : Nat} {P : α → Prop} (lt : Nat → Nat → Bool) : ∀ {t : KasT α}, InR n P t → P (runT lt t)
  | .ret _, h => h
  | .ask i j k, h => InR.run (n := n) (P := P) lt (t := k (lt i j)) (h.2.2 (lt i j))
noncomputable def Pm (n : Nat) (p : Array Nat) : Prop := p.Perm (List.toArray (List.range n))
section
variable {n : Nat} (hn : 0 < n)
theorem Pm.rev {p : Array Nat} (h : Pm n p) (i j : Nat) : Pm n (kas_rev p i j) := Array.Perm.trans (rev_perm p i j) h
include hn in
theorem Pm.ent {p : Array Nat} (h : Pm n p) : Ent n p := by
  have h0 : Ent n (List.toArray (List.range n)) := fun i => by
    have e : ∀ (q : Array Nat) (m : Nat), q.getD m 0 = (q[m]?).getD 0 := fun q m => by simp [Array.getD_eq_getD_getElem?]
    rw [e]
    by_cases hi : i < n
    · simp [hi]
    · simp [hi]; exact hn
  exact h0.perm h hn
include hn in
theorem desc_pm : ∀ f {p : Array Nat} m q, Pm n p → InR n (fun r : Array Nat × Nat × Nat => Pm n r.1) (kas_desc f p m q)
  | 0, _, _, _, h => h
  | f + 1, p, m, q, h => ⟨h.ent hn _, h.ent hn _, fun b => by
      cases b with
      | true =>
        simp only [if_true]
        split
        · exact desc_pm f _ _ (h.rev _ _)
        · exact desc_pm f _ _ h
      | false =>
        simp only [Bool.false_eq_true, if_false]
        exact ⟨h.ent hn _, h.ent hn _, fun c => by
          cases c with
          | true => simp only [if_true]; exact h
          | false => simp only [Bool.false_eq_true, if_false]; exact desc_pm f _ _ h⟩⟩
include hn in
theorem tail3_pm {p : Array Nat} (h : Pm n p) (m r : Nat) : InR n (fun r : Nat × Array Nat => Pm n r.2) (kas_tail3 m r p) := by
  unfold kas_tail3
  refine InR.bind (P := fun _ : Nat => True) (fun a _ => ?_) (asc_in ((h.rev _ _).ent hn) _ _)
  exact h.rev _ _
include hn in
theorem descPart_pm {p : Array Nat} (h : Pm n p) (m r : Nat) : InR n (fun r : Nat × Array Nat => Pm n r.2) (kas_descPart m r p) := by
  unfold kas_descPart
  refine InR.bind (fun a ha => ?_) (desc_pm hn _ _ _ h)
  split
  · exact tail3_pm hn (ha.rev _ _) _ _
  · exact tail3_pm hn ha _ _
include hn in
theorem count_pm {p : Array Nat} (h : Pm n p) (r : Nat) : InR n (fun r : Nat × Array Nat => Pm n r.2) (kas_count r p) := by
  unfold kas_count
  refine InR.bind (fun m _ => ?_) (asc_in (h.ent hn) _ _)
  split
  · exact h
  · split
    · refine ⟨h.ent hn _, h.ent hn _, fun b => ?_⟩
      cases b with
      | true => simp only [if_true]; exact h
      | false => simp only [Bool.false_eq_true, if_false]; exact descPart_pm hn (h.rev _ _) _ _
    · exact descPart_pm hn h _ _
include hn in
theorem bin_pm : ∀ f {p : Array Nat} k, Pm n p → InR n (fun q : Array Nat => Pm n q) (kas_bin f p k)
  | 0, _, _, h => h
  | f + 1, p, k, h => by
    unfold kas_bin
    exact InR.bind (fun l _ => bin_pm f _ (Array.Perm.trans (bubble_perm _ _ _) h)) (place_in (h.ent hn) k _ _ _)
include hn in
theorem sort_pm : InR n (fun q : Array Nat => Pm n q) (kas_sort n) := by
  unfold kas_sort
  refine InR.bind (fun r hr => ?_) (count_pm hn (Array.Perm.refl _) n)
  split
  · exact bin_pm hn _ _ hr
  · exact hr
end
noncomputable def ordP (key : Nat → Int) (n : Nat) : List Nat := (runT (ltK key) (kas_sort n)).toList
theorem ordP_perm (key : Nat → Int) {n : Nat} (hn : 0 < n) : (ordP key n).Perm (List.range n) := by
  have h := ((sort_pm hn).run (ltK key)).toList
  unfold ordP
  simpa [Pm] using h
noncomputable def sortQ (ds : List D) : List D := if ds.length < 2 then ds else (ordP (rk ds) ds.length).map fun i => ds.getD i .non
theorem range_getD (ds : List D) : ((List.range ds.length).map fun i => ds.getD i .non) = ds := by
  refine List.ext_getElem? fun i => ?_
  rw [List.getElem?_map]
  by_cases hi : i < ds.length
  · rw [List.getElem?_range hi, List.getElem?_eq_getElem hi]
    simp [List.getD_eq_getElem?_getD, hi]
  · rw [List.getElem?_eq_none (by simpa using hi), List.getElem?_eq_none (by simpa using hi)]; rfl
theorem sortQ_perm (ds : List D) : (sortQ ds).Perm ds := by
  unfold sortQ
  split
  · exact List.Perm.refl _
  · have h := (ordP_perm (rk ds) (n := ds.length) (by omega)).map fun i => ds.getD i D.non
    rw [range_getD] at h
    exact h
noncomputable def OutQ (key : Nat → Int) (us : List Value) (out : Array Value) : Prop := ∃ p : List Nat, p.Perm (List.range us.length) ∧ out.toList = p.map (fun i => us.getD i Value.none) ∧ (2 ≤ us.length → p = ordP key us.length) ∧ (us.length < 2 → p = List.range us.length)
section
variable {prog : Program} {w : World} {A : Around} {s : Shared}
theorem sortsQ {κ : SortKind} {vs : List Value} {key : Nat → Int} (h2 : 2 ≤ vs.length) (h64 : vs.length < 64)
    (hk : ∀ (Q : SortKind → Shared → Prop) (E : Value → Shared → Prop), Q κ s → wpAny (model prog w) A (keyKind' vs.toArray) Q E s)
    (hlt : ∀ i j (C : Bool → Shared → Prop), i < vs.length → j < vs.length → C (decide (key i < key j)) s → wpAny (model prog w) A (keyLt' κ (vs.getD i Value.none) (vs.getD j Value.none)) C (fun _ _ => False) s) :
    Sorts prog w A s vs (OutQ key vs) := by
  refine ⟨κ, hk, fun Q E hQ => ?_⟩
  have h0 : 0 < vs.length := by lia
  have pm := ordP_perm key h0
  refine kat_run (Q := fun st' s' => Q st' s') (G := fun p s' => s' = s ∧ p = runT (ltK key) (kas_sort vs.length)) rfl h2 h64 (fun p st' s' hp har hf hG => ?_) (wp_runIn (lt := ltK key) (fun i j C hi hj hc => hlt i j C hi hj hc) (sort_pm h0) ⟨rfl, rfl⟩)
  obtain ⟨rfl, rfl⟩ := hG
  have hout := kat_snds rfl har
  have hsz : (runT (ltK key) (kas_sort vs.length)).size = vs.length := by
    have := pm.length_eq
    unfold ordP at this
    simpa using this
  exact hQ st' hf (by rw [har, Array.size_map, hsz]) ⟨ordP key vs.length, pm, by rw [hout]; rfl, fun _ => rfl, fun h => absurd h (by lia)⟩
end
noncomputable def rSortQ (K : PySem.W.Frag) : List V → Hp → VK → Prop := fun vs H Q => ∃ a xs ds, vs = [.ref a] ∧ SqL K H a xs ∧ Reps K H ds xs ∧ Alike ds ∧ ds.length < 64 ∧
  ∀ l (p : List Nat), p.Perm (List.range ds.length) → p.map (fun i => ds.getD i .non) = sortQ ds → H l = none → Q (.ref l) (upd H l (.lst (p.map fun i => xs.getD i .non)))
section
variable {X : Cx} {pins : List (Addr × Obj)} {σ : St} {H : Hp} {s : Shared}
theorem sortsQ_alike {h' : Heap} {ds : List D} {xs : List V} {us : List Value} {A' : Around} (I : Inv X pins σ H s) (rs : Reps X.K H ds xs) (rv : Vals xs us) (hal : Alike ds) (h2 : 2 ≤ us.length) (h64 : us.length < 64) (k : Keeps s.heap h') :
    Sorts X.prog X.w A' { s with heap := h' } us (OutQ (rk ds) us) := by
  obtain ⟨κ, hk, hlt⟩ := cmp_alike (A' := A') I rs rv hal h2 k
  exact sortsQ h2 h64 hk hlt
theorem outQ_short {r : Nat → Int} {us : List Value} (h : us.length < 2) : OutQ r us us.toArray := by
  refine ⟨List.range us.length, List.Perm.refl _, ?_, fun z => absurd z (by lia), fun _ => rfl⟩
  cases us with
  | nil => rfl
  | cons v us => cases us with
    | nil => rfl
    | cons w us => exact absurd h (by simp)
theorem call_sortedQ : CallR X (.builtin "sorted") (rSortQ X.K) := by
  intro pins s σ H xs us Q I r h
  obtain ⟨a, vs, ds, rfl, hq, rs, hal, h64, q⟩ := h
  obtain ⟨u, rfl, ru⟩ := vals1 r
  cases ru
  obtain ⟨its, rv, pl, hz⟩ := I.list hq
  have l1 := rs.length
  have l2 := rv.length
  refine sorted_call (OutQ (rk ds) its) pl.isList (by lia) (fun h2 h' k => sortsQ_alike I rs rv hal h2 (by lia) k) (fun h1 => ?_) fun out c h' k hc hsz hO => ?_
  · exact outQ_short h1
  · obtain ⟨p, hp, ho, hp2, hp1⟩ := hO
    have hmem : ∀ i ∈ p, i < its.length := fun i hi => List.mem_range.mp (hp.mem_iff.mp hi)
    have eD : (p.map fun i => ds.getD i .non) = sortQ ds := by
      unfold sortQ
      split
      · rw [hp1 (by lia), ← l2, ← l1]; exact range_getD ds
      · rw [hp2 (by lia), ← l2, ← l1]
    have hv := rv.pick p (by rw [l2]; exact hmem)
    rw [← ho] at hv
    have hplen : p.length = its.length := by rw [hp.length_eq, List.length_range]
    exact ⟨.ref (s.heap.objs.size + 1), _, I.laid (t' := s.toks) k (Nat.le_succ _) (show ObjOk X.prog X.w _ _ _ (.lst _) from ⟨by rw [List.length_map]; lia, out.toList, c, hv, by simpa [seqObj] using hc⟩), rfl, q _ p (by rw [l1, l2]; exact hp) eD (I.hok.fresh (Nat.le_succ _))⟩
end
section
variable {K : PySem.W.Frag} {G H₀ L : Hp} {ss : List Sl} {t : TE} {ds : List D}
theorem evo_sortedQ (a : EvL K G H₀ L ss t ds) (hal : Alike ds) (h64 : ds.length < 64) : EvO K G H₀ L ss (tCB (rSortQ K) (tCons t tNil)) (sortQ ds) := fun F H σ Q S q =>
  a F H σ _ S fun p vs F' H' e sq r => ⟨p, vs, ds, rfl, sq, r.mono e.fh, hal, h64, fun l pm hp hs hl => by
    have hmem : ∀ i ∈ pm, i < ds.length := fun i hi => List.mem_range.mp (hp.mem_iff.mp hi)
    have := r.pick pm hmem
    rw [hs] at this
    exact q l _ F' _ (e.newO hl) (e.hh.free hl) (e.fh.free hl) upd_same this⟩
end
end L2

namespace My
open PySem L2 PyProof.Rows

noncomputable def stepP (acc : List Nat) (c : Nat) : List Nat := if c ≠ 32 ∨ (acc ≠ [] ∧ acc.getLast? ≠ some 32) then acc ++ [lo1 c] else acc
noncomputable def trim (r : List Nat) : List Nat := if r ≠ [] ∧ r.getLast? = some 32 then r.dropLast else r
noncomputable def plain (l : List Nat) : List Nat := trim (l.foldl stepP [])

noncomputable def joinL : List (List Nat) → List Nat
  | [] => []
  | [p] => p
  | p :: q :: r => p ++ 32 :: joinL (q :: r)
noncomputable def stepQ (acc : List Nat) (c : Nat) : List Nat := if c ≠ 32 ∨ (acc ≠ [] ∧ acc.getLast? ≠ some 32) then acc ++ [c] else acc
noncomputable def clean (acc : List Nat) : Prop := acc = [] ∨ acc.getLast? = some 32
noncomputable def up : List Nat := (List.range 26).map (65 + ·)
noncomputable def dn : List Nat := (List.range 26).map (97 + ·)
end My
namespace My
open PySem L2 PyProof.Rows
structure Asc (n : Nat) (l : List Nat) : Prop where
  lt : ∀ c ∈ l, c < 128
  len : l.length ≤ n
end My
namespace My
open PySem L2 PyProof.Rows
noncomputable def sV (c : Nat) : V := .str (T [c])
end My

namespace My
open PySem L2 PyProof.Rows
noncomputable def cpl : List Nat → List Nat → Nat
  | a :: x, b :: y => if a = b then cpl x y + 1 else 0
  | _, _ => 0
theorem cpl_symm : ∀ p q, cpl p q = cpl q p
  | [], [] => rfl
  | [], _ :: _ => rfl
  | _ :: _, [] => rfl
  | a :: x, b :: y => by
    unfold cpl
    by_cases h : a = b
    · subst h; rw [if_pos rfl, if_pos rfl, cpl_symm x y]
    · rw [if_neg h, if_neg (fun e => h e.symm)]
theorem cpl_le : ∀ p q, cpl p q ≤ p.length ∧ cpl p q ≤ q.length
  | [], [] => by simp [cpl]
  | [], _ :: _ => by simp [cpl]
  | _ :: _, [] => by simp [cpl]
  | a :: x, b :: y => by
    have := cpl_le x y
    unfold cpl
    split <;> simp <;> omega
theorem cpl_of : ∀ (a : Nat) (p q : List Nat), p.take a = q.take a → a ≤ p.length → a ≤ q.length → (¬ (a < p.length ∧ a < q.length) ∨ p[a]? ≠ q[a]?) → cpl p q = a
  | 0, p, q, _, _, _, h => by
    cases p with
    | nil => cases q <;> rfl
    | cons x p =>
      cases q with
      | nil => rfl
      | cons y q =>
        rcases h with h | h
        · simp at h
        · unfold cpl; rw [if_neg]; intro e; apply h; simp [e]
  | a + 1, p, q, e, h1, h2, h => by
    cases p with
    | nil => simp at h1
    | cons x p =>
      cases q with
      | nil => simp at h2
      | cons y q =>
        simp only [List.take_succ_cons, List.cons.injEq] at e
        obtain ⟨rfl, e⟩ := e
        unfold cpl
        rw [if_pos rfl, cpl_of a p q e (by simpa using h1) (by simpa using h2) (by simpa using h)]
noncomputable def nearD (F S : List Nat) : Bool := decide (F.drop 1 = S.drop 1) || decide (F.drop 1 = S) || decide (F = S.drop 1)
noncomputable def near (p q : List Nat) : Bool := nearD (p.drop (cpl p q)) (q.drop (cpl p q))
theorem nearD_symm (F S : List Nat) : nearD F S = nearD S F := by
  rw [Bool.eq_iff_iff]
  simp only [nearD, Bool.or_eq_true, decide_eq_true_eq]
  constructor
  · rintro ((h | h) | h)
    · exact .inl (.inl h.symm)
    · exact .inr h.symm
    · exact .inl (.inr h.symm)
  · rintro ((h | h) | h)
    · exact .inl (.inl h.symm)
    · exact .inr h.symm
    · exact .inl (.inr h.symm)
theorem near_symm (p q : List Nat) : near p q = near q p := by
  unfold near; rw [cpl_symm q p, nearD_symm]
theorem near_law (F S : List Nat) : (decide (F = S) || (decide (F.drop 1 = S) || (decide (F = S.drop 1) || decide (F.drop 1 = S.drop 1)))) = nearD F S := by
  rw [Bool.eq_iff_iff]
  simp only [nearD, Bool.or_eq_true, decide_eq_true_eq]
  constructor
  · rintro (h | h | h | h)
    · subst h; exact .inl (.inl rfl)
    · exact .inl (.inr h)
    · exact .inr h
    · exact .inl (.inl h)
  · rintro ((h | h) | h)
    · exact .inr (.inr (.inr h))
    · exact .inr (.inl h)
    · exact .inr (.inr (.inl h))
theorem sIx_pos (n d : Nat) {a : Int} (h : 0 ≤ a) : HT.sIx n d (some a) = min a.toNat n := by
  show (if a < 0 then (a + (n : Int)).toNat else min a.toNat n) = _
  rw [if_neg (by lia)]
theorem cutL_take (m : List Nat) {a : Int} (h : 0 ≤ a) : cutL m none (some a) = m.take a.toNat := by
  unfold cutL
  have e2 : HT.sIx m.length 0 none = 0 := rfl
  rw [sIx_pos _ _ h, e2, List.drop_zero, Nat.sub_zero, ← List.take_eq_take_min]
theorem cutL_drop (m : List Nat) {b : Int} (h : 0 ≤ b) : cutL m (some b) none = m.drop b.toNat := by
  unfold cutL
  have e2 : HT.sIx m.length m.length none = m.length := rfl
  rw [sIx_pos _ _ h, e2, List.take_of_length_le (by rw [List.length_drop]; lia)]
  by_cases hh : b.toNat ≤ m.length
  · rw [Nat.min_eq_left hh]
  · rw [Nat.min_eq_right (by lia), List.drop_length, List.drop_eq_nil_of_le (by lia)]
end My

namespace My
open PySem L2 PyProof.Rows
theorem cpl_take : ∀ p q : List Nat, p.take (cpl p q) = q.take (cpl p q)
  | [], [] => rfl
  | [], _ :: _ => by simp [cpl]
  | _ :: _, [] => by simp [cpl]
  | a :: x, b :: y => by
    unfold cpl
    by_cases h : a = b
    · subst h; rw [if_pos rfl, List.take_succ_cons, List.take_succ_cons, cpl_take x y]
    · rw [if_neg h]; rfl
noncomputable def nearS (F S : List Nat) : Prop := F = S ∨ F.drop 1 = S ∨ F = S.drop 1 ∨ F.drop 1 = S.drop 1
theorem nearD_iff (F S : List Nat) : nearD F S = true ↔ nearS F S := by
  rw [← near_law]
  simp only [nearS, Bool.or_eq_true, decide_eq_true_eq]
theorem nearS_down : ∀ F S : List Nat, nearS F S → nearS (F.drop (cpl F S)) (S.drop (cpl F S))
  | [], [], h => by simpa [cpl] using h
  | [], _ :: _, h => by simpa [cpl] using h
  | _ :: _, [], h => by simpa [cpl] using h
  | a :: x, b :: y, h => by
    unfold cpl
    by_cases e : a = b
    · subst e
      rw [if_pos rfl, List.drop_succ_cons, List.drop_succ_cons]
      refine nearS_down x y ?_
      rcases h with h | h | h | h
      · exact .inl (List.cons.inj h).2
      · have h : x = a :: y := h
        exact .inr (.inl (by rw [h]; rfl))
      · have h : a :: x = y := h
        exact .inr (.inr (.inl (by rw [← h]; rfl)))
      · have h : x = y := h
        exact .inl h
    · rw [if_neg e]; exact h
theorem cpl_cut : ∀ (k : Nat) (p q : List Nat), k ≤ p.length → k ≤ q.length → p.take k = q.take k → cpl p q = k + cpl (p.drop k) (q.drop k)
  | 0, p, q, _, _, _ => by simp
  | k + 1, [], q, h, _, _ => by simp at h
  | k + 1, a :: x, [], _, h, _ => by simp at h
  | k + 1, a :: x, b :: y, h1, h2, h => by
    rw [List.take_succ_cons, List.take_succ_cons] at h
    obtain ⟨e, h5⟩ := List.cons.inj h
    subst e
    rw [List.drop_succ_cons, List.drop_succ_cons]
    show (if a = a then cpl x y + 1 else 0) = _
    rw [if_pos rfl, cpl_cut k x y (by simpa using h1) (by simpa using h2) h5]
    lia
noncomputable def frm (a b : List Nat) : D := .tup [.str a, .str b]
theorem frm_inj {a b c d : List Nat} (h : frm a b = frm c d) : a = c ∧ b = d := by
  unfold frm at h
  simpa using h
noncomputable def formsK (p : List Nat) (k : Nat) : List D := [frm (p.take k) (p.drop k), frm (p.take k) (p.drop (k + 1))]
noncomputable def formsD (p : List Nat) : List D := (List.range (p.length + 1)).flatMap (formsK p)
theorem formsK_len (p : List Nat) (m : Nat) : ((List.range m).flatMap (formsK p)).length = 2 * m := by
  induction m with
  | zero => rfl
  | succ m ih => rw [List.range_succ, List.flatMap_append, List.length_append, ih]; simp [formsK]; lia
theorem forms_hk (p : List Nat) : ∀ d ∈ formsD p, d.hk false = true := by
  intro d hd
  obtain ⟨k, _, h⟩ := List.mem_flatMap.mp hd
  unfold formsK at h
  simp only [List.mem_cons, List.not_mem_nil, or_false] at h
  rcases h with rfl | rfl <;> rfl
theorem mem_forms {p : List Nat} {a b : List Nat} : frm a b ∈ formsD p ↔ ∃ k, k ≤ p.length ∧ a = p.take k ∧ (b = p.drop k ∨ b = p.drop (k + 1)) := by
  unfold formsD
  rw [List.mem_flatMap]
  constructor
  · rintro ⟨k, hk, h⟩
    rw [List.mem_range] at hk
    unfold formsK at h
    simp only [List.mem_cons, List.not_mem_nil, or_false] at h
    rcases h with h | h
    · obtain ⟨h1, h2⟩ := frm_inj h
      exact ⟨k, by lia, h1, .inl h2⟩
    · obtain ⟨h1, h2⟩ := frm_inj h
      exact ⟨k, by lia, h1, .inr h2⟩
  · rintro ⟨k, hk, rfl, h⟩
    refine ⟨k, List.mem_range.mpr (by lia), ?_⟩
    unfold formsK
    rcases h with rfl | rfl <;> simp
theorem forms_form {p : List Nat} {d : D} (h : d ∈ formsD p) : ∃ a b, d = frm a b := by
  obtain ⟨k, _, h⟩ := List.mem_flatMap.mp h
  unfold formsK at h
  simp only [List.mem_cons, List.not_mem_nil, or_false] at h
  rcases h with rfl | rfl <;> exact ⟨_, _, rfl⟩
theorem near_shared (p q : List Nat) : (∃ d, d ∈ formsD p ∧ d ∈ formsD q) ↔ near p q = true := by
  unfold near
  rw [nearD_iff]
  constructor
  · rintro ⟨d, h1, h2⟩
    obtain ⟨a, b, rfl⟩ := forms_form h1
    obtain ⟨k, hk, e1, b1⟩ := mem_forms.mp h1
    obtain ⟨j, hj, e2, b2⟩ := mem_forms.mp h2
    have hkj : k = j := by
      have := congrArg List.length (e1.symm.trans e2)
      rw [List.length_take, List.length_take] at this
      lia
    subst hkj
    have ht := e1.symm.trans e2
    have hc := cpl_cut k p q hk hj ht
    have hn : nearS (p.drop k) (q.drop k) := by
      unfold nearS
      rw [List.drop_drop, List.drop_drop]
      rcases b1 with b1 | b1 <;> rcases b2 with b2 | b2
      · exact .inl (b1.symm.trans b2)
      · exact .inr (.inr (.inl (b1.symm.trans b2)))
      · exact .inr (.inl (b1.symm.trans b2))
      · exact .inr (.inr (.inr (b1.symm.trans b2)))
    have := nearS_down _ _ hn
    rw [List.drop_drop, List.drop_drop, ← hc] at this
    exact this
  · intro h
    have hl := cpl_le p q
    have ht := cpl_take p q
    generalize cpl p q = c at *
    unfold nearS at h
    rw [List.drop_drop, List.drop_drop] at h
    rcases h with h | h | h | h
    · exact ⟨frm (p.take c) (p.drop c), mem_forms.mpr ⟨c, hl.1, rfl, .inl rfl⟩, mem_forms.mpr ⟨c, hl.2, ht, .inl h⟩⟩
    · exact ⟨frm (p.take c) (p.drop (c + 1)), mem_forms.mpr ⟨c, hl.1, rfl, .inr rfl⟩, mem_forms.mpr ⟨c, hl.2, ht, .inl h⟩⟩
    · exact ⟨frm (p.take c) (p.drop c), mem_forms.mpr ⟨c, hl.1, rfl, .inl rfl⟩, mem_forms.mpr ⟨c, hl.2, ht, .inr h⟩⟩
    · exact ⟨frm (p.take c) (p.drop (c + 1)), mem_forms.mpr ⟨c, hl.1, rfl, .inr rfl⟩, mem_forms.mpr ⟨c, hl.2, ht, .inr h⟩⟩
noncomputable def sharedF (p q : List Nat) : List D := (ded (formsD p)).filter fun d => decide (d ∈ formsD q)
end My

set_option maxHeartbeats 8000000
namespace My
open PySem L2 PyProof.Rows
noncomputable def top (i : Nat) : Stmt := PySem.Challenge.pw_folk_k23_weights_of_two.main.body.getD i (.Pass ⟨0, 0, 0, 0⟩)
noncomputable abbrev s_weight_of : Stmt := top 3
theorem sc_weight_of : FnScope ["rules", "book", "one", "other", "answers", "total", "rule", "asked"] ["rules", "book", "one", "other"] (defScope s_weight_of) := ⟨rfl, rfl, rfl, by decide +kernel, rfl, by decide +kernel, by decide +kernel⟩
noncomputable abbrev s_shares : Stmt := top 9
theorem sc_shares : FnScope ["some", "others"] ["some", "others"] (defScope s_shares) := ⟨rfl, rfl, rfl, by decide +kernel, rfl, by decide +kernel, by decide +kernel⟩
noncomputable abbrev s_near_forms : Stmt := top 7
theorem sc_near_forms : FnScope ["text", "plain", "forms", "place"] ["text"] (defScope s_near_forms) := ⟨rfl, rfl, rfl, by decide +kernel, rfl, by decide +kernel, by decide +kernel⟩
noncomputable abbrev s_all_forms : Stmt := top 11
theorem sc_all_forms : FnScope ["texts", "forms", "text"] ["texts"] (defScope s_all_forms) := ⟨rfl, rfl, rfl, by decide +kernel, rfl, by decide +kernel, by decide +kernel⟩
noncomputable abbrev s_plain_of : Stmt := top 5
theorem sc_plain_of : FnScope ["text", "words"] ["text"] (defScope s_plain_of) := ⟨rfl, rfl, rfl, by decide +kernel, rfl, by decide +kernel, by decide +kernel⟩
noncomputable abbrev s_plains_of : Stmt := top 10
theorem sc_plains_of : FnScope ["texts"] ["texts"] (defScope s_plains_of) := ⟨rfl, rfl, rfl, by decide +kernel, rfl, by decide +kernel, by decide +kernel⟩
noncomputable abbrev s_texts_of : Stmt := top 1
theorem sc_texts_of : FnScope ["book", "card", "field"] ["book", "card", "field"] (defScope s_texts_of) := ⟨rfl, rfl, rfl, by decide +kernel, rfl, by decide +kernel, by decide +kernel⟩
noncomputable abbrev s_was_called : Stmt := top 12
theorem sc_was_called : FnScope ["book", "one", "other", "names", "formers"] ["book", "one", "other"] (defScope s_was_called) := ⟨rfl, rfl, rfl, by decide +kernel, rfl, by decide +kernel, by decide +kernel⟩
noncomputable def clsAt (i j : Nat) : Stmt := match top i with
  | .ClassDef _ _ _ b _ _ _ _ _ _ _ => b.getD j (.Pass ⟨0, 0, 0, 0⟩)
  | s => s
noncomputable abbrev s_Rule_init : Stmt := clsAt 13 0
theorem sc_Rule_init : FnScope ["self", "weight", "field"] ["self", "weight", "field"] (defScope s_Rule_init) := ⟨rfl, rfl, rfl, by decide +kernel, rfl, by decide +kernel, by decide +kernel⟩
noncomputable abbrev s_Rule_speaks : Stmt := clsAt 13 1
theorem sc_Rule_speaks : FnScope ["self", "book", "one", "other"] ["self", "book", "one", "other"] (defScope s_Rule_speaks) := ⟨rfl, rfl, rfl, by decide +kernel, rfl, by decide +kernel, by decide +kernel⟩
noncomputable abbrev s_Same_speaks_by : Stmt := clsAt 14 0
theorem sc_Same_speaks_by : FnScope ["self", "texts", "others"] ["self", "texts", "others"] (defScope s_Same_speaks_by) := ⟨rfl, rfl, rfl, by decide +kernel, rfl, by decide +kernel, by decide +kernel⟩
noncomputable abbrev s_Same_sort_word : Stmt := clsAt 14 1
theorem sc_Same_sort_word : FnScope ["self"] ["self"] (defScope s_Same_sort_word) := ⟨rfl, rfl, rfl, by decide +kernel, rfl, by decide +kernel, by decide +kernel⟩
noncomputable abbrev s_Like_speaks_by : Stmt := clsAt 15 0
theorem sc_Like_speaks_by : FnScope ["self", "texts", "others"] ["self", "texts", "others"] (defScope s_Like_speaks_by) := ⟨rfl, rfl, rfl, by decide +kernel, rfl, by decide +kernel, by decide +kernel⟩
noncomputable abbrev s_Like_sort_word : Stmt := clsAt 15 1
theorem sc_Like_sort_word : FnScope ["self"] ["self"] (defScope s_Like_sort_word) := ⟨rfl, rfl, rfl, by decide +kernel, rfl, by decide +kernel, by decide +kernel⟩
noncomputable abbrev s_Near_speaks_by : Stmt := clsAt 16 0
theorem sc_Near_speaks_by : FnScope ["self", "texts", "others"] ["self", "texts", "others"] (defScope s_Near_speaks_by) := ⟨rfl, rfl, rfl, by decide +kernel, rfl, by decide +kernel, by decide +kernel⟩
noncomputable abbrev s_Near_sort_word : Stmt := clsAt 16 1
theorem sc_Near_sort_word : FnScope ["self"] ["self"] (defScope s_Near_sort_word) := ⟨rfl, rfl, rfl, by decide +kernel, rfl, by decide +kernel, by decide +kernel⟩
noncomputable abbrev s_Other_speaks_by : Stmt := clsAt 17 0
theorem sc_Other_speaks_by : FnScope ["self", "texts", "others"] ["self", "texts", "others"] (defScope s_Other_speaks_by) := ⟨rfl, rfl, rfl, by decide +kernel, rfl, by decide +kernel, by decide +kernel⟩
noncomputable abbrev s_Other_sort_word : Stmt := clsAt 17 1
theorem sc_Other_sort_word : FnScope ["self"] ["self"] (defScope s_Other_sort_word) := ⟨rfl, rfl, rfl, by decide +kernel, rfl, by decide +kernel, by decide +kernel⟩
noncomputable abbrev s_Former_init : Stmt := clsAt 18 0
theorem sc_Former_init : FnScope ["self", "weight"] ["self", "weight"] (defScope s_Former_init) := ⟨rfl, rfl, rfl, by decide +kernel, rfl, by decide +kernel, by decide +kernel⟩
noncomputable abbrev s_Former_speaks : Stmt := clsAt 18 1
theorem sc_Former_speaks : FnScope ["self", "book", "one", "other"] ["self", "book", "one", "other"] (defScope s_Former_speaks) := ⟨rfl, rfl, rfl, by decide +kernel, rfl, by decide +kernel, by decide +kernel⟩
noncomputable abbrev s_Former_sort_word : Stmt := clsAt 18 2
theorem sc_Former_sort_word : FnScope ["self"] ["self"] (defScope s_Former_sort_word) := ⟨rfl, rfl, rfl, by decide +kernel, rfl, by decide +kernel, by decide +kernel⟩
noncomputable abbrev s_law_cell_at : Stmt := top 20
theorem sc_law_cell_at : FnScope ["_law_script", "_law_k"] ["_law_script", "_law_k"] (defScope s_law_cell_at) := ⟨rfl, rfl, rfl, by decide +kernel, rfl, by decide +kernel, by decide +kernel⟩
noncomputable abbrev s_law_whole : Stmt := top 21
theorem sc_law_whole : FnScope ["_law_found"] ["_law_found"] (defScope s_law_whole) := ⟨rfl, rfl, rfl, by decide +kernel, rfl, by decide +kernel, by decide +kernel⟩
noncomputable abbrev s_law_stream : Stmt := top 22
theorem sc_law_stream : FnScope ["_law_cell", "_law_many", "_law_found", "_law_number", "_law_k"] ["_law_cell", "_law_many"] (defScope s_law_stream) := ⟨rfl, rfl, rfl, by decide +kernel, rfl, by decide +kernel, by decide +kernel⟩
noncomputable abbrev s_law_cards : Stmt := top 23
theorem sc_law_cards : FnScope ["_law_cell", "_law_many", "_law_letters", "_law_draws", "_law_size", "_law_at", "_law_base", "_law_cards_here", "_law_k", "_law_sign"] ["_law_cell", "_law_many"] (defScope s_law_cards) := ⟨rfl, rfl, rfl, by decide +kernel, rfl, by decide +kernel, by decide +kernel⟩
noncomputable abbrev s_law_bent : Stmt := top 24
theorem sc_law_bent : FnScope ["_law_draw", "_law_more", "_law_signs", "_law_draws", "_law_text", "_law_at", "_law_sign", "_law_some"] ["_law_draw", "_law_more"] (defScope s_law_bent) := ⟨rfl, rfl, rfl, by decide +kernel, rfl, by decide +kernel, by decide +kernel⟩
noncomputable abbrev s_law_field : Stmt := top 25
theorem sc_law_field : FnScope ["_law_cell", "_law_draw"] ["_law_cell", "_law_draw"] (defScope s_law_field) := ⟨rfl, rfl, rfl, by decide +kernel, rfl, by decide +kernel, by decide +kernel⟩
noncomputable abbrev s_law_book : Stmt := top 26
theorem sc_law_book : FnScope ["_law_cells", "_law_cards_here", "_law_cell", "_law_facts", "_law_one", "_law_draws", "_law_text", "_law_fact"] ["_law_cells", "_law_cards_here", "_law_cell"] (defScope s_law_book) := ⟨rfl, rfl, rfl, by decide +kernel, rfl, by decide +kernel, by decide +kernel⟩
noncomputable abbrev s_law_rules : Stmt := top 27
theorem sc_law_rules : FnScope ["_law_cell", "_law_field_here", "_law_rules_here", "_law_draw", "_law_weight"] ["_law_cell", "_law_field_here"] (defScope s_law_rules) := ⟨rfl, rfl, rfl, by decide +kernel, rfl, by decide +kernel, by decide +kernel⟩
noncomputable abbrev s_law_made : Stmt := top 28
theorem sc_law_made : FnScope ["_law_row", "_law_sort", "_law_field_here", "_law_weight"] ["_law_row"] (defScope s_law_made) := ⟨rfl, rfl, rfl, by decide +kernel, rfl, by decide +kernel, by decide +kernel⟩
noncomputable abbrev s_law_texts : Stmt := top 29
theorem sc_law_texts : FnScope ["_law_book_here", "_law_card", "_law_field_here"] ["_law_book_here", "_law_card", "_law_field_here"] (defScope s_law_texts) := ⟨rfl, rfl, rfl, by decide +kernel, rfl, by decide +kernel, by decide +kernel⟩
noncomputable abbrev s_law_plains : Stmt := top 30
theorem sc_law_plains : FnScope ["_law_texts_here"] ["_law_texts_here"] (defScope s_law_plains) := ⟨rfl, rfl, rfl, by decide +kernel, rfl, by decide +kernel, by decide +kernel⟩
noncomputable abbrev s_law_meet : Stmt := top 31
theorem sc_law_meet : FnScope ["_law_mine", "_law_others"] ["_law_mine", "_law_others"] (defScope s_law_meet) := ⟨rfl, rfl, rfl, by decide +kernel, rfl, by decide +kernel, by decide +kernel⟩
noncomputable abbrev s_law_near : Stmt := top 32
theorem sc_law_near : FnScope ["_law_one", "_law_other", "_law_at"] ["_law_one", "_law_other"] (defScope s_law_near) := ⟨rfl, rfl, rfl, by decide +kernel, rfl, by decide +kernel, by decide +kernel⟩
noncomputable abbrev s_law_speaks : Stmt := top 33
theorem sc_law_speaks : FnScope ["_law_sort", "_law_book_here", "_law_one", "_law_other", "_law_field_here", "_law_its", "_law_mine", "_law_text"] ["_law_sort", "_law_book_here", "_law_one", "_law_other", "_law_field_here"] (defScope s_law_speaks) := ⟨rfl, rfl, rfl, by decide +kernel, rfl, by decide +kernel, by decide +kernel⟩
noncomputable abbrev s_law : Stmt := top 34
theorem sc_law : FnScope ["_law_script", "_law_first", "_law_cell", "_law_cards_here", "_law_book_here", "_law_rows", "_law_rules_here", "_law_handed", "_law_at", "_law_due", "_law_sort", "_law_field_here", "_law_weight", "_law_one", "_law_other", "_law_found"] ["_law_script"] (defScope s_law) := ⟨rfl, rfl, rfl, by decide +kernel, rfl, by decide +kernel, by decide +kernel⟩
set_option genInjectivity false in
set_option genSizeOf false in
structure Ad where
  (c_Former c_Like c_Near c_Other c_Rule c_Same f_weight_of f_shares f_near_forms f_all_forms f_plain_of f_plains_of f_texts_of f_was_called f_Rule_init f_Rule_speaks f_Same_speaks_by f_Same_sort_word f_Like_speaks_by f_Like_sort_word f_Near_speaks_by f_Near_sort_word f_Other_speaks_by f_Other_sort_word f_Former_init f_Former_speaks f_Former_sort_word f_law_cell_at f_law_whole f_law_stream f_law_cards f_law_bent f_law_field f_law_book f_law_rules f_law_made f_law_texts f_law_plains f_law_meet f_law_near f_law_speaks f_law : Addr)
  (d_weight_of d_shares d_near_forms d_all_forms d_plain_of d_plains_of d_texts_of d_was_called d_Rule_init d_Rule_speaks d_Same_speaks_by d_Same_sort_word d_Like_speaks_by d_Like_sort_word d_Near_speaks_by d_Near_sort_word d_Other_speaks_by d_Other_sort_word d_Former_init d_Former_speaks d_Former_sort_word d_law_cell_at d_law_whole d_law_stream d_law_cards d_law_bent d_law_field d_law_book d_law_rules d_law_made d_law_texts d_law_plains d_law_meet d_law_near d_law_speaks d_law : FuncData)
structure Tx (K : PySem.W.Frag) (mg : Str → Option Value) (ad0 : Ad) : Prop where
  M_Former : mg "Former" = some (.ref ad0.c_Former)
  M_Like : mg "Like" = some (.ref ad0.c_Like)
  M_Near : mg "Near" = some (.ref ad0.c_Near)
  M_Other : mg "Other" = some (.ref ad0.c_Other)
  M_Rule : mg "Rule" = some (.ref ad0.c_Rule)
  M_Same : mg "Same" = some (.ref ad0.c_Same)
  Cl_Same : Cls K ad0.c_Same
  Na_Same_field : NoAttr K ad0.c_Same "field"
  Cl_Like : Cls K ad0.c_Like
  Na_Like_field : NoAttr K ad0.c_Like "field"
  Cl_Near : Cls K ad0.c_Near
  Na_Near_field : NoAttr K ad0.c_Near "field"
  Cl_Other : Cls K ad0.c_Other
  Na_Other_field : NoAttr K ad0.c_Other "field"
  Cl_Former : Cls K ad0.c_Former
  Na_Former_field : NoAttr K ad0.c_Former "field"
  Me_Former_sort_word : Meth K ad0.c_Former "sort_word" ad0.f_Former_sort_word
  Me_Other_sort_word : Meth K ad0.c_Other "sort_word" ad0.f_Other_sort_word
  Me_Near_sort_word : Meth K ad0.c_Near "sort_word" ad0.f_Near_sort_word
  Me_Like_sort_word : Meth K ad0.c_Like "sort_word" ad0.f_Like_sort_word
  Me_Same_sort_word : Meth K ad0.c_Same "sort_word" ad0.f_Same_sort_word
  Me_Former_speaks : Meth K ad0.c_Former "speaks" ad0.f_Former_speaks
  Me_Other_speaks : Meth K ad0.c_Other "speaks" ad0.f_Rule_speaks
  Me_Near_speaks : Meth K ad0.c_Near "speaks" ad0.f_Rule_speaks
  Me_Like_speaks : Meth K ad0.c_Like "speaks" ad0.f_Rule_speaks
  Me_Same_speaks : Meth K ad0.c_Same "speaks" ad0.f_Rule_speaks
  Na_Same_weight : NoAttr K ad0.c_Same "weight"
  Na_Like_weight : NoAttr K ad0.c_Like "weight"
  Na_Near_weight : NoAttr K ad0.c_Near "weight"
  Na_Other_weight : NoAttr K ad0.c_Other "weight"
  Na_Former_weight : NoAttr K ad0.c_Former "weight"
  Mk_Same : Mk K ad0.c_Same ad0.f_Rule_init
  Mk_Like : Mk K ad0.c_Like ad0.f_Rule_init
  Mk_Near : Mk K ad0.c_Near ad0.f_Rule_init
  Mk_Other : Mk K ad0.c_Other ad0.f_Rule_init
  Mk_Former : Mk K ad0.c_Former ad0.f_Former_init
  Ca_Rule_init : CMeth K ad0.c_Rule "__init__" ad0.f_Rule_init
  Me_Like_speaks_by : Meth K ad0.c_Like "speaks_by" ad0.f_Like_speaks_by
  Me_Near_speaks_by : Meth K ad0.c_Near "speaks_by" ad0.f_Near_speaks_by
  Me_Other_speaks_by : Meth K ad0.c_Other "speaks_by" ad0.f_Other_speaks_by
  Me_Same_speaks_by : Meth K ad0.c_Same "speaks_by" ad0.f_Same_speaks_by
  F_weight_of : Fun K "weight_of" "weight_of" s_weight_of ad0.f_weight_of ad0.d_weight_of
  B_weight_of : Binds K ad0.d_weight_of ["rules", "book", "one", "other"] []
  M_weight_of : mg "weight_of" = some (.ref ad0.f_weight_of)
  F_shares : Fun K "shares" "shares" s_shares ad0.f_shares ad0.d_shares
  B_shares : Binds K ad0.d_shares ["some", "others"] []
  M_shares : mg "shares" = some (.ref ad0.f_shares)
  F_near_forms : Fun K "near_forms" "near_forms" s_near_forms ad0.f_near_forms ad0.d_near_forms
  B_near_forms : Binds K ad0.d_near_forms ["text"] []
  M_near_forms : mg "near_forms" = some (.ref ad0.f_near_forms)
  F_all_forms : Fun K "all_forms" "all_forms" s_all_forms ad0.f_all_forms ad0.d_all_forms
  B_all_forms : Binds K ad0.d_all_forms ["texts"] []
  M_all_forms : mg "all_forms" = some (.ref ad0.f_all_forms)
  F_plain_of : Fun K "plain_of" "plain_of" s_plain_of ad0.f_plain_of ad0.d_plain_of
  B_plain_of : Binds K ad0.d_plain_of ["text"] []
  M_plain_of : mg "plain_of" = some (.ref ad0.f_plain_of)
  F_plains_of : Fun K "plains_of" "plains_of" s_plains_of ad0.f_plains_of ad0.d_plains_of
  B_plains_of : Binds K ad0.d_plains_of ["texts"] []
  M_plains_of : mg "plains_of" = some (.ref ad0.f_plains_of)
  F_texts_of : Fun K "texts_of" "texts_of" s_texts_of ad0.f_texts_of ad0.d_texts_of
  B_texts_of : Binds K ad0.d_texts_of ["book", "card", "field"] []
  M_texts_of : mg "texts_of" = some (.ref ad0.f_texts_of)
  F_was_called : Fun K "was_called" "was_called" s_was_called ad0.f_was_called ad0.d_was_called
  B_was_called : Binds K ad0.d_was_called ["book", "one", "other"] []
  M_was_called : mg "was_called" = some (.ref ad0.f_was_called)
  F_Rule_init : Fun K "__init__" "Rule.__init__" s_Rule_init ad0.f_Rule_init ad0.d_Rule_init
  B_Rule_init : Binds K ad0.d_Rule_init ["self", "weight", "field"] []
  F_Rule_speaks : Fun K "speaks" "Rule.speaks" s_Rule_speaks ad0.f_Rule_speaks ad0.d_Rule_speaks
  B_Rule_speaks : Binds K ad0.d_Rule_speaks ["self", "book", "one", "other"] []
  F_Same_speaks_by : Fun K "speaks_by" "Same.speaks_by" s_Same_speaks_by ad0.f_Same_speaks_by ad0.d_Same_speaks_by
  B_Same_speaks_by : Binds K ad0.d_Same_speaks_by ["self", "texts", "others"] []
  F_Same_sort_word : Fun K "sort_word" "Same.sort_word" s_Same_sort_word ad0.f_Same_sort_word ad0.d_Same_sort_word
  B_Same_sort_word : Binds K ad0.d_Same_sort_word ["self"] []
  F_Like_speaks_by : Fun K "speaks_by" "Like.speaks_by" s_Like_speaks_by ad0.f_Like_speaks_by ad0.d_Like_speaks_by
  B_Like_speaks_by : Binds K ad0.d_Like_speaks_by ["self", "texts", "others"] []
  F_Like_sort_word : Fun K "sort_word" "Like.sort_word" s_Like_sort_word ad0.f_Like_sort_word ad0.d_Like_sort_word
  B_Like_sort_word : Binds K ad0.d_Like_sort_word ["self"] []
  F_Near_speaks_by : Fun K "speaks_by" "Near.speaks_by" s_Near_speaks_by ad0.f_Near_speaks_by ad0.d_Near_speaks_by
  B_Near_speaks_by : Binds K ad0.d_Near_speaks_by ["self", "texts", "others"] []
  F_Near_sort_word : Fun K "sort_word" "Near.sort_word" s_Near_sort_word ad0.f_Near_sort_word ad0.d_Near_sort_word
  B_Near_sort_word : Binds K ad0.d_Near_sort_word ["self"] []
  F_Other_speaks_by : Fun K "speaks_by" "Other.speaks_by" s_Other_speaks_by ad0.f_Other_speaks_by ad0.d_Other_speaks_by
  B_Other_speaks_by : Binds K ad0.d_Other_speaks_by ["self", "texts", "others"] []
  F_Other_sort_word : Fun K "sort_word" "Other.sort_word" s_Other_sort_word ad0.f_Other_sort_word ad0.d_Other_sort_word
  B_Other_sort_word : Binds K ad0.d_Other_sort_word ["self"] []
  F_Former_init : Fun K "__init__" "Former.__init__" s_Former_init ad0.f_Former_init ad0.d_Former_init
  B_Former_init : Binds K ad0.d_Former_init ["self", "weight"] []
  F_Former_speaks : Fun K "speaks" "Former.speaks" s_Former_speaks ad0.f_Former_speaks ad0.d_Former_speaks
  B_Former_speaks : Binds K ad0.d_Former_speaks ["self", "book", "one", "other"] []
  F_Former_sort_word : Fun K "sort_word" "Former.sort_word" s_Former_sort_word ad0.f_Former_sort_word ad0.d_Former_sort_word
  B_Former_sort_word : Binds K ad0.d_Former_sort_word ["self"] []
  F_law_cell_at : Fun K "_law_cell_at" "_law_cell_at" s_law_cell_at ad0.f_law_cell_at ad0.d_law_cell_at
  B_law_cell_at : Binds K ad0.d_law_cell_at ["_law_script", "_law_k"] []
  M_law_cell_at : mg "_law_cell_at" = some (.ref ad0.f_law_cell_at)
  F_law_whole : Fun K "_law_whole" "_law_whole" s_law_whole ad0.f_law_whole ad0.d_law_whole
  B_law_whole : Binds K ad0.d_law_whole ["_law_found"] []
  M_law_whole : mg "_law_whole" = some (.ref ad0.f_law_whole)
  F_law_stream : Fun K "_law_stream" "_law_stream" s_law_stream ad0.f_law_stream ad0.d_law_stream
  B_law_stream : Binds K ad0.d_law_stream ["_law_cell", "_law_many"] []
  M_law_stream : mg "_law_stream" = some (.ref ad0.f_law_stream)
  F_law_cards : Fun K "_law_cards" "_law_cards" s_law_cards ad0.f_law_cards ad0.d_law_cards
  B_law_cards : Binds K ad0.d_law_cards ["_law_cell", "_law_many"] []
  M_law_cards : mg "_law_cards" = some (.ref ad0.f_law_cards)
  F_law_bent : Fun K "_law_bent" "_law_bent" s_law_bent ad0.f_law_bent ad0.d_law_bent
  B_law_bent : Binds K ad0.d_law_bent ["_law_draw", "_law_more"] []
  M_law_bent : mg "_law_bent" = some (.ref ad0.f_law_bent)
  F_law_field : Fun K "_law_field" "_law_field" s_law_field ad0.f_law_field ad0.d_law_field
  B_law_field : Binds K ad0.d_law_field ["_law_cell", "_law_draw"] []
  M_law_field : mg "_law_field" = some (.ref ad0.f_law_field)
  F_law_book : Fun K "_law_book" "_law_book" s_law_book ad0.f_law_book ad0.d_law_book
  B_law_book : Binds K ad0.d_law_book ["_law_cells", "_law_cards_here", "_law_cell"] []
  M_law_book : mg "_law_book" = some (.ref ad0.f_law_book)
  F_law_rules : Fun K "_law_rules" "_law_rules" s_law_rules ad0.f_law_rules ad0.d_law_rules
  B_law_rules : Binds K ad0.d_law_rules ["_law_cell", "_law_field_here"] []
  M_law_rules : mg "_law_rules" = some (.ref ad0.f_law_rules)
  F_law_made : Fun K "_law_made" "_law_made" s_law_made ad0.f_law_made ad0.d_law_made
  B_law_made : Binds K ad0.d_law_made ["_law_row"] []
  M_law_made : mg "_law_made" = some (.ref ad0.f_law_made)
  F_law_texts : Fun K "_law_texts" "_law_texts" s_law_texts ad0.f_law_texts ad0.d_law_texts
  B_law_texts : Binds K ad0.d_law_texts ["_law_book_here", "_law_card", "_law_field_here"] []
  M_law_texts : mg "_law_texts" = some (.ref ad0.f_law_texts)
  F_law_plains : Fun K "_law_plains" "_law_plains" s_law_plains ad0.f_law_plains ad0.d_law_plains
  B_law_plains : Binds K ad0.d_law_plains ["_law_texts_here"] []
  M_law_plains : mg "_law_plains" = some (.ref ad0.f_law_plains)
  F_law_meet : Fun K "_law_meet" "_law_meet" s_law_meet ad0.f_law_meet ad0.d_law_meet
  B_law_meet : Binds K ad0.d_law_meet ["_law_mine", "_law_others"] []
  M_law_meet : mg "_law_meet" = some (.ref ad0.f_law_meet)
  F_law_near : Fun K "_law_near" "_law_near" s_law_near ad0.f_law_near ad0.d_law_near
  B_law_near : Binds K ad0.d_law_near ["_law_one", "_law_other"] []
  M_law_near : mg "_law_near" = some (.ref ad0.f_law_near)
  F_law_speaks : Fun K "_law_speaks" "_law_speaks" s_law_speaks ad0.f_law_speaks ad0.d_law_speaks
  B_law_speaks : Binds K ad0.d_law_speaks ["_law_sort", "_law_book_here", "_law_one", "_law_other", "_law_field_here"] []
  M_law_speaks : mg "_law_speaks" = some (.ref ad0.f_law_speaks)
  F_law : Fun K "law" "law" s_law ad0.f_law ad0.d_law
  B_law : Binds K ad0.d_law ["_law_script"] []
  M_law : mg "law" = some (.ref ad0.f_law)
  z_any : mg "any" = none
  z_bool : mg "bool" = none
  z_int : mg "int" = none
  z_isinstance : mg "isinstance" = none
  z_len : mg "len" = none
  z_list : mg "list" = none
  z_range : mg "range" = none
  z_set : mg "set" = none
  z_sorted : mg "sorted" = none
section
variable {P : Program} {w : World} {K : PySem.W.Frag} {mg : Str → Option Value} {base : Heap} {ad0 : Ad}
noncomputable def preCell (ds : List D) : Prop := ∃ (ns : List Int) (k : Int), ds = [.lst (ns.map .int), .int k] ∧ 0 ≤ k
noncomputable def resCell : List D → D
  | [.lst xs, .int k] => xs.getD k.toNat (.int 0)
  | _ => .non
theorem ok_law_cell_at (Z : Tx K mg ad0) : FnOk P w K mg base CX0 1 ad0.f_law_cell_at ad0.d_law_cell_at ["_law_script", "_law_k"] (SpD K preCell resCell) := by
  refine Z.F_law_cell_at.ok sc_law_cell_at (fun vs H Q E h => spD_len (n := 2) (by rintro ds ⟨ns, k, rfl, _⟩; rfl) h) (fun cdv A outer s H vs Q E hr h => ⟨_, (pss_cons (ps_if (pt_cmpR op_lt (pv 1) (pe_callB call_len_seq (by rfl) Z.z_len boot_len (pa_cons (pv 0) pa_nil)) (nomark _)) (pss_one (ps_ret (pe_ix (show IxR _ (rIxL K) from ix_list) (pv 0) (pv 1) (fun _ _ => rfl)))) pss_nil)
      (pss_one (ps_ret pe_int))), ?_⟩)
  refine go_spD h (by rw [spD_len (n := 2) (by rintro ds ⟨ns, k, rfl, _⟩; rfl) h]; decide) fun G ds hp rt => ?_
  obtain ⟨ns, k, rfl, hk⟩ := hp
  have ll : (ns.map D.int).length = ns.length := by simp
  refine go_seq (go_if (evt_test (ev_cmpI (g := fun i j => decide (i < j)) (ev_var rfl).b (ev_lenL (ev_var rfl).l).b)) (fun hb => ?_) (fun hb => ?_))
  · simp only [decide_eq_true_eq] at hb
    have hk2 : k.toNat < ns.length := by lia
    refine go_ret (ev_ixL (d := .int (ns.getD k.toNat 0)) (ev_var rfl).l (ev_var rfl).b ?_) ?_
    · have := atI_nat (xs := ns.map D.int) (j := k.toNat) (v := D.int (ns.getD k.toNat 0)) (by rw [List.getElem?_map, List.getD_eq_getElem?_getD]; simp [hk2])
      rw [show ((k.toNat : Nat) : Int) = k by lia] at this
      exact this
    · have e : resCell [D.lst (ns.map D.int), D.int k] = .int (ns.getD k.toNat 0) := by
        simp [resCell, List.getD_eq_getElem?_getD, List.getElem?_map, hk2]
      rw [e] at rt; exact rt
  · simp only [decide_eq_false_iff_not] at hb
    have e : resCell [D.lst (ns.map D.int), D.int k] = .int 0 := by
      simp [resCell, List.getD_eq_getElem?_getD, List.getElem?_map, show ns[k.toNat]? = none from List.getElem?_eq_none (by lia)]
    rw [e] at rt
    refine go_next ?_
    ((try dsimp only); refine nx_go ?_)
    exact go_ret ev_int rt
noncomputable def M : Int := 4294967311
noncomputable def num (c : Int) : Nat → Int
  | 0 => c % M + 48271
  | k + 1 => (num c k * num c k + 69621 * num c k + k) % M
theorem num_rng (c : Int) : ∀ k, 0 ≤ num c k ∧ num c k < M + 48271
  | 0 => ⟨by have := Int.emod_nonneg c (show M ≠ 0 by decide); show 0 ≤ c % M + 48271; lia, by have := Int.emod_lt_of_pos c (show 0 < M by decide); show c % M + 48271 < M + 48271; lia⟩
  | k + 1 => ⟨Int.emod_nonneg _ (by decide), by have := Int.emod_lt_of_pos (num c k * num c k + 69621 * num c k + k) (show 0 < M by decide); show _ % M < M + 48271; lia⟩
noncomputable def streamD (c : Int) (m : Nat) : List D := (List.range m).map fun i => .int (num c (i + 2))
noncomputable def preStream (ds : List D) : Prop := ∃ c m : Int, ds = [.int c, .int m] ∧ 0 ≤ m ∧ m ≤ 1000
noncomputable def resStream : List D → List D
  | [.int c, .int m] => streamD c m.toNat
  | _ => []
theorem ok_law_stream (Z : Tx K mg ad0) : FnOk P w K mg base CX0 1 ad0.f_law_stream ad0.d_law_stream ["_law_cell", "_law_many"] (SpO K preStream resStream) := by
  refine Z.F_law_stream.ok sc_law_stream (fun vs H Q E h => spO_len (n := 2) (by rintro ds ⟨c, m, rfl, _⟩; rfl) h) (fun cdv A outer s H vs Q E hr h => ⟨_, (pss_cons (ps_set (i := 2) sc_law_stream.nd rfl (Or.inl rfl) (pe_lst pa_nil))
      (pss_cons (ps_set (i := 3) sc_law_stream.nd rfl (Or.inl rfl) (pe_op op_add (pe_op op_mod (pv 0) pe_int) pe_int))
      (pss_cons (ps_for PassesOwn.never rfl (pi_range1 (by rfl) Z.z_range (pa_cons (pe_op op_add (pv 1) pe_int) pa_nil)) (pg_name (i := 4) sc_law_stream.nd rfl (Or.inl rfl)) (pss_cons (ps_set (i := 3) sc_law_stream.nd rfl (Or.inl rfl) (pe_op op_mod (pe_op op_add (pe_op op_add (pe_op op_mul (pv 3) (pv 3)) (pe_op op_mul pe_int (pv 3))) (pv 4)) pe_int))
      (pss_one (ps_expr (pe_bm F.plainAttrs_list F.slot_list_append F.type_list_append mt_append (pv 2) (pa_cons (pv 3) pa_nil))))))
      (pss_one (ps_ret (pe_slice sl_list (pv 2) (po_some pe_int) po_none)))))), ?_⟩)
  refine go_spO h (by rw [spO_len (n := 2) (by rintro ds ⟨c, m, rfl, _⟩; rfl) h]; decide) fun G ds hp rt => ?_
  obtain ⟨c, m, rfl, hm0, hm1⟩ := hp
  refine go_seq (go_setO (evo_lst evaf_nil (by decide)) fun p => ?_)
  ((try dsimp only); refine nx_go ?_)
  refine go_seq (go_set (ev_add (ev_mod (ev_var rfl).b ev_int.b (by decide)).b ev_int.b) ?_)
  ((try dsimp only); refine nx_go ?_)
  refine go_seq (go_range (n := m + 1) (fun k ss => ∃ v4, ss = [.d (.int c), .d (.int m), .o p ((List.range k).map fun i => .int (num c (i + 1))), .d (.int (num c k)), v4]) (eva_cons (ev_add (ev_var rfl).b ev_int.b).b eva_nil) ⟨by lia, by lia⟩ ⟨.un, rfl⟩ ?_ ?_ (fun _ _ _ h => h))
  · rintro k ss hk ⟨v4, rfl⟩ N hN
    have hr := num_rng c k
    rw [show M = 4294967311 from rfl] at hr
    refine go_seq (go_set (ev_mod (ev_add (ev_add (ev_mul (ev_var rfl).b (ev_var rfl).b ?_).b (ev_mul ev_int.b (ev_var rfl).b ?_).b).b (ev_var rfl).b).b ev_int.b (by decide)) ?_)
    · exact .inl ⟨by lia, by lia⟩
    · exact .inl ⟨by decide, by decide⟩
    · ((try dsimp only); refine nx_go ?_)
      refine go_append rfl (ev_var rfl) ?_ ?_
      · rw [List.length_map, List.length_range, sizeLine_eq]; lia
      · refine hN _ ⟨.d (.int k), ?_⟩
        rw [List.range_succ, List.map_append]
        rfl
  · rintro ss ⟨v4, rfl⟩
    ((try dsimp only); refine nx_go ?_)
    refine go_retO (evo_slL (evl_own rfl) (evp_part ev_int.b) evp_no) ?_
    have e : cutD ((List.range (m + 1).toNat).map fun i => D.int (num c (i + 1))) (some 1) none = resStream [.int c, .int m] := by
      rw [cutD_from _ (by decide), show (m + 1).toNat = m.toNat + 1 by lia]
      show List.drop 1 _ = streamD c m.toNat
      rw [List.range_succ_eq_map, List.map_cons, List.drop_succ_cons, List.drop_zero, List.map_map]
      rfl
    rw [e]; exact rt
theorem small {n : Nat} (h : n ≤ 1000) : n ≤ sizeLine := by rw [sizeLine_eq]; lia
theorem atI_mod {α : Type} (xs : List α) (z : α) (x : Int) {n : Int} (hn : (xs.length : Int) = n) (h0 : 0 < n) : atI xs (x % n) = some (xs.getD (x % n).toNat z) := by
  have h1 := Int.emod_nonneg x (show n ≠ 0 by omega)
  have h2 := Int.emod_lt_of_pos x h0
  have := atI_nat (xs := xs) (j := (x % n).toNat) (v := xs.getD (x % n).toNat z) (by rw [List.getD_eq_getElem?_getD, List.getElem?_eq_getElem (by lia)]; rfl)
  rw [show (((x % n).toNat : Nat) : Int) = x % n by lia] at this
  exact this
theorem at_stream (c : Int) (m : Nat) (i : Nat) (h : i < m) : atI (streamD c m) (i : Int) = some (.int (num c (i + 2))) :=
  atI_nat (by unfold streamD; rw [List.getElem?_map, List.getElem?_range h]; rfl)
noncomputable def cardAt (cs : List (List Nat)) (x : Int) : List Nat := cs.getD (x % cs.length).toNat []
theorem at_cards (cs : List (List Nat)) (x : Int) (h : cs ≠ []) : atI (cs.map D.str) (x % cs.length) = some (.str (cardAt cs x)) := by
  have hl : 0 < cs.length := List.length_pos_iff.mpr h
  have h1 := Int.emod_nonneg x (show (cs.length : Int) ≠ 0 by lia)
  have h2 := Int.emod_lt_of_pos x (show (0 : Int) < cs.length by lia)
  have := atI_nat (xs := cs.map D.str) (j := (x % cs.length).toNat) (v := .str (cardAt cs x)) (by unfold cardAt; rw [List.getElem?_map, List.getD_eq_getElem?_getD, List.getElem?_eq_getElem (by lia)]; rfl)
  rw [show (((x % cs.length).toNat : Nat) : Int) = x % cs.length by lia] at this
  exact this
noncomputable def lets : List Nat := ("abcdefghijklmnopqrstuvwxyz" : Str).cps.toList
theorem lets_len : lets.length = 26 := by decide +kernel
theorem lets_lt : ∀ c ∈ lets, c < 128 := by decide +kernel
noncomputable def letter (x : Int) : Nat := lets.getD (x % 26).toNat 0
theorem at_lets (x : Int) : atI lets (x % 26) = some (letter x) := atI_mod lets 0 x (by rw [lets_len]; rfl) (by decide)
noncomputable def csize (c : Int) : Int := 1 + num c 2 % 12
theorem csize_rng (c : Int) : 1 ≤ csize c ∧ csize c ≤ 12 := by unfold csize; lia
noncomputable def cat_ (c : Int) : Int := num c 3 % csize c
theorem cat_rng (c : Int) : 0 ≤ cat_ c ∧ cat_ c < csize c := by
  have := csize_rng c
  exact ⟨Int.emod_nonneg _ (by lia), Int.emod_lt_of_pos _ (by lia)⟩
noncomputable def cbase (c : Int) : List Nat := (List.range (csize c).toNat).map fun i => letter (num c (i + 4))
noncomputable def nameL (c : Int) (k : Nat) : List Nat := cutL (cbase c) none (some (cat_ c)) ++ [letter (num c ((2 + cat_ c).toNat + 2) + 7 * k)] ++ cutL (cbase c) (some (cat_ c + 1)) none
noncomputable def cardsL (c many : Int) : List (List Nat) := (List.range many.toNat).map (nameL c)
noncomputable def preCards (ds : List D) : Prop := ∃ c m : Int, ds = [.int c, .int m] ∧ 0 ≤ m ∧ m ≤ 100
noncomputable def resCards : List D → List D
  | [.int c, .int m] => (cardsL c m).map .str
  | _ => []
theorem at_streamI (c : Int) (m : Nat) (i : Int) (h0 : 0 ≤ i) (h : i < m) : atI (streamD c m) i = some (.int (num c (i.toNat + 2))) := by
  have := at_stream c m i.toNat (by lia)
  rw [show ((i.toNat : Nat) : Int) = i by lia] at this
  exact this
theorem cut_stream (c : Int) : cutD (streamD c 14) (some 2) (some (2 + csize c)) = (List.range (csize c).toNat).map fun i => .int (num c (i + 4)) := by
  have h := csize_rng c
  rw [cutD_mid _ (by decide) (by lia)]
  unfold streamD
  refine List.ext_getElem? fun i => ?_
  rw [List.getElem?_take]
  by_cases hi : i < (csize c).toNat
  · rw [if_pos (by lia), List.getElem?_drop, List.getElem?_map, List.getElem?_map, List.getElem?_range (by lia), List.getElem?_range hi]
    show some (D.int (num c (2 + i + 2))) = some (D.int (num c (i + 4)))
    rw [show 2 + i + 2 = i + 4 by lia]
  · rw [if_neg (by lia), List.getElem?_eq_none (by simp; lia)]
theorem cbase_len (c : Int) : (cbase c).length ≤ 12 := by
  have := csize_rng c
  unfold cbase; rw [List.length_map, List.length_range]; lia
theorem cutL_le (l : List Nat) (lo hi : Option Int) : (cutL l lo hi).length ≤ l.length := by unfold cutL; rw [List.length_take, List.length_drop]; lia
theorem ok_law_cards (Z : Tx K mg ad0) : FnOk P w K mg base CX0 2 ad0.f_law_cards ad0.d_law_cards ["_law_cell", "_law_many"] (SpO K preCards resCards) := by
  have G_law_stream := ok_law_stream (P := P) (w := w) (base := base) Z
  refine Z.F_law_cards.ok sc_law_cards (fun vs H Q E h => spO_len (n := 2) (by rintro ds ⟨c, m, rfl, _⟩; rfl) h) (fun cdv A outer s H vs Q E hr h => ⟨_, (pss_cons (ps_set (i := 2) sc_law_cards.nd rfl (Or.inr rfl) pe_str)
      (pss_cons (ps_set (i := 3) sc_law_cards.nd rfl (Or.inl rfl) (pe_call G_law_stream (hr.mono (by decide)) (by rfl) Z.M_law_stream Z.F_law_stream.kp Z.B_law_stream .nil pass0 (pa_cons (pv 0) (pa_cons pe_int pa_nil))))
      (pss_cons (ps_set (i := 4) sc_law_cards.nd rfl (Or.inl rfl) (pe_op op_add pe_int (pe_op op_mod (pe_ix (show IxR _ (rIxL K) from ix_list) (pv 3) pe_int (fun _ _ => rfl)) pe_int)))
      (pss_cons (ps_set (i := 5) sc_law_cards.nd rfl (Or.inl rfl) (pe_op op_mod (pe_ix (show IxR _ (rIxL K) from ix_list) (pv 3) pe_int (fun _ _ => rfl)) (pv 4)))
      (pss_cons (ps_set (i := 6) sc_law_cards.nd rfl (Or.inl rfl) (pe_bm F.plainAttrs_str F.slot_str_join F.type_str_join mt_join pe_str (pa_cons (pe_lc rfl (LcOk.of (Nx := (["_law_cell", "_law_many", "_law_letters", "_law_draws", "_law_size", "_law_at", "_law_base", "_law_cards_here", "_law_k", "_law_sign"] : List Str)) (sc := defScope s_law_cards) (N' := (["_law_draw", "_law_letters"] : List Str)) (nt := 1) (cs := [2]) rfl rfl (by decide +kernel)) (pi_list (pe_slice sl_list (pv 3) (po_some pe_int) (po_some (pe_op op_add pe_int (pv 4))))) (fun _ _ _ _ => (pg_name (i := 0) (show List.Nodup (["_law_draw", "_law_letters"] : List Str) by decide +kernel) rfl (Or.inl rfl))) (fun _ _ _ _ => pifs_nil) (fun _ _ _ _ => (pe_ix ix_str (pv 1) (pe_op op_mod (pv 0) pe_int) (fun _ _ => rfl)))) pa_nil)))
      (pss_cons (ps_set (i := 7) sc_law_cards.nd rfl (Or.inl rfl) (pe_lst pa_nil))
      (pss_cons (ps_for PassesOwn.never rfl (pi_range1 (by rfl) Z.z_range (pa_cons (pv 1) pa_nil)) (pg_name (i := 8) sc_law_cards.nd rfl (Or.inl rfl)) (pss_cons (ps_set (i := 9) sc_law_cards.nd rfl (Or.inl rfl) (pe_ix ix_str (pv 2) (pe_op op_mod (pe_op op_add (pe_ix (show IxR _ (rIxL K) from ix_list) (pv 3) (pe_op op_add pe_int (pv 5)) (fun _ _ => rfl)) (pe_op op_mul pe_int (pv 8))) pe_int) (fun _ _ => rfl)))
      (pss_one (ps_expr (pe_bm F.plainAttrs_list F.slot_list_append F.type_list_append mt_append (pv 7) (pa_cons (pe_op op_add_str (pe_op op_add_str (pe_slice sl_str (pv 6) po_none (po_some (pv 5))) (pv 9)) (pe_slice sl_str (pv 6) (po_some (pe_op op_add (pv 5) pe_int)) po_none)) pa_nil))))))
      (pss_one (ps_ret (pv 7)))))))))), ?_⟩)
  refine go_spO h (by rw [spO_len (n := 2) (by rintro ds ⟨c, m, rfl, _⟩; rfl) h]; decide) fun G ds hp rt => ?_
  obtain ⟨c, m, rfl, hm0, hm1⟩ := hp
  have hz := csize_rng c
  have ha := cat_rng c
  have hbl := cbase_len c
  have h12 : (12 : Nat) ≤ sizeLine := small (by decide)
  refine go_seq (go_set (ev_lit lets_lt) ?_)
  ((try dsimp only); refine nx_go ?_)
  refine go_seq (go_setO (evo_call (pre := preStream) (res := resStream) (evaf_cons (ev_var rfl) (evaf_cons ev_int evaf_nil)) ⟨c, 14, rfl, by decide, by decide⟩) fun p => ?_)
  ((try dsimp only); refine nx_go ?_)
  refine go_seq (go_set (d := .int (csize c)) (ev_add ev_int.b (ev_mod (ev_ixL (evl_own rfl) ev_int.b (at_stream c 14 0 (by decide))).b ev_int.b (by decide)).b) ?_)
  ((try dsimp only); refine nx_go ?_)
  refine go_seq (go_set (d := .int (cat_ c)) (ev_mod (ev_ixL (evl_own rfl) ev_int.b (at_stream c 14 1 (by decide))).b (ev_var rfl).b (by lia)) ?_)
  ((try dsimp only); refine nx_go ?_)
  refine go_seq (go_set (d := .str (cbase c)) ?_ ?_)
  · unfold cbase
    rw [← glue_one]
    refine ev_joinM (xs := List.range (csize c).toNat) (z := []) (g := fun i => [letter (num c (i + 4))]) ?a (EvO.l ?b) ?c
    case a => exact (ev_str (by decide +kernel) (by decide)).b
    case b =>
      refine evo_lcM (List.range (csize c).toNat) (fun i => .int (num c (i + 4))) _ ?b1 (gk_name (by decide)) (by decide) ?b2 ?b3
      case b1 =>
        rw [← cut_stream]
        exact EvO.l (evo_slL (evl_own rfl) (evp_part ev_int.b) (evp_part (ev_add ev_int.b (ev_var rfl).b).b))
      case b2 => rw [List.length_range, sizeLine_eq]; lia
      case b3 =>
        intro i hi
        refine ⟨_, tg_name, ?_⟩
        exact ev_ixS (ev_var rfl).b (ev_mod (ev_var rfl).b ev_int.b (by decide)).b (small (by rw [lets_len]; decide)) (at_lets _)
    case c =>
      simp only [List.map_map, List.length_range, List.length_nil, Nat.mul_zero, Nat.add_zero]
      rw [show (List.length ∘ fun i => [letter (num c (i + 4))]) = fun _ => 1 from rfl, List.map_const', List.sum_replicate_nat, List.length_range]; lia
  ((try dsimp only); refine nx_go ?_)
  refine go_seq (go_setO (evo_lst evaf_nil (small (by decide))) fun q => ?_)
  ((try dsimp only); refine nx_go ?_)
  refine go_seq (go_range (n := m) (fun k ss => ∃ v8 v9, ss = [.d (.int c), .d (.int m), .d (.str lets), .o p (streamD c 14), .d (.int (csize c)), .d (.int (cat_ c)), .d (.str (cbase c)), .o q ((List.range k).map fun k => .str (nameL c k)), v8, v9]) (eva_cons (ev_var rfl).b eva_nil) ⟨by lia, by lia⟩ ⟨.un, .un, rfl⟩ ?_ ?_ (fun _ _ _ h => h))
  · rintro k ss hk ⟨v8, v9, rfl⟩ N hN
    refine go_seq (go_set (d := .str [letter (num c ((2 + cat_ c).toNat + 2) + 7 * k)]) (ev_ixS (ev_var rfl).b (ev_mod (ev_add (ev_ixL (evl_own rfl) (ev_add ev_int.b (ev_var rfl).b).b (at_streamI c 14 _ (by lia) (by lia))).b (ev_mul ev_int.b (ev_var rfl).b (.inl ⟨by decide, by decide⟩)).b).b ev_int.b (by decide)).b (small (by rw [lets_len]; decide)) (at_lets _)) ?_)
    ((try dsimp only); refine nx_go ?_)
    refine go_append (d := .str (nameL c k)) rfl (ev_catS (ev_catS (ev_slS (ev_var rfl).b evp_no (evp_part (ev_var rfl).b) (by lia)).b (ev_var rfl).b ?_).b (ev_slS (ev_var rfl).b (evp_part (ev_add (ev_var rfl).b ev_int.b).b) evp_no (by lia)).b ?_) ?_ ?_
    · have := cutL_le (cbase c) none (some (cat_ c))
      exact small (by simp only [List.length_cons, List.length_nil]; lia)
    · have := cutL_le (cbase c) none (some (cat_ c))
      have := cutL_le (cbase c) (some (cat_ c + 1)) none
      exact small (by simp only [List.length_append, List.length_cons, List.length_nil]; lia)
    · rw [List.length_map, List.length_range, sizeLine_eq]; lia
    · refine hN _ ⟨.d (.int k), .d (.str [letter (num c ((2 + cat_ c).toNat + 2) + 7 * k)]), ?_⟩
      rw [List.range_succ, List.map_append]
      rfl
  · rintro ss ⟨v8, v9, rfl⟩
    ((try dsimp only); refine nx_go ?_)
    refine go_retV rfl ?_
    have e : ((List.range m.toNat).map fun k => D.str (nameL c k)) = resCards [.int c, .int m] := by
      show _ = (cardsL c m).map D.str
      unfold cardsL
      rw [List.map_map]; rfl
    rw [e]; exact rt
noncomputable def S (x : Str) : D := .str x.cps.toList
noncomputable def pairWords : List D := [S "same", S "apart"]
noncomputable def fieldWords : List D := [S "name", S "former", S "way", S "day", S "mark"]
noncomputable abbrev Fct := List Nat × List Nat × List Nat
noncomputable def encF (f : Fct) : D := .tup [.str f.1, .str f.2.1, .str f.2.2]
noncomputable def unF : D → Fct
  | .tup [.str a, .str b, .str c] => (a, b, c)
  | _ => ([], [], [])
theorem unF_map (fs : List Fct) : (fs.map encF).map unF = fs := by
  rw [List.map_map, show (unF ∘ encF) = id from rfl, List.map_id]
theorem encF_inj {f g : Fct} (h : encF f = encF g) : f = g := congrArg unF h
theorem mem_enc {fs : List Fct} {f : Fct} : encF f ∈ fs.map encF ↔ f ∈ fs :=
  ⟨fun h => by obtain ⟨g, hg, e⟩ := List.mem_map.mp h; rw [← encF_inj e]; exact hg, fun h => List.mem_map_of_mem h⟩
theorem alF (fs : List Fct) : Alike (fs.map encF) := .inr (.inr ⟨.s, [.s, .s], fun d hd => by
  obtain ⟨f, _, rfl⟩ := List.mem_map.mp hd; exact ⟨_, rfl, rfl⟩⟩)
theorem nbF (f : Fct) : (encF f).nb = true := rfl
theorem dpF (f : Fct) : (encF f).dep ≤ 1 := by show (D.deps [.str f.1, .str f.2.1, .str f.2.2]) + 1 ≤ 1; simp [D.deps, D.dep]
theorem of_enc {ds : List D} {fs : List Fct} (h : ∀ d ∈ ds, d ∈ fs.map encF) : (ds.map unF).map encF = ds := by
  rw [List.map_map]
  conv => rhs; rw [← List.map_id ds]
  exact List.map_congr_left fun d hd => by obtain ⟨f, _, rfl⟩ := List.mem_map.mp (h d hd); rfl
noncomputable def Bk (b : List Fct) : Prop := b.Nodup ∧ sortD (b.map encF) = b.map encF
noncomputable def mkB (fs : List Fct) : List Fct := (sortD (fs.map encF)).map unF
theorem streamD_ints (c : Int) (m : Nat) : streamD c m = ((List.range m).map fun i => num c (i + 2)).map D.int := by unfold streamD; rw [List.map_map]; rfl
noncomputable def spLaw (K : PySem.W.Frag) : Sp := fun vs H Q _ => ∃ (a : Addr) (ns : List Int), vs = [.ref a] ∧ SqL K H a (ns.map V.int) ∧ ns.length ≤ 63 ∧ ∀ H', Q (.bl true) H'
theorem reps_ints {K : PySem.W.Frag} {H : Hp} : ∀ ns : List Int, Reps K H (ns.map D.int) (ns.map V.int)
  | [] => Reps.nil
  | n :: ns => Reps.cons Rep.int (reps_ints ns)
noncomputable def dedF (fs : List Fct) : List Fct := (ded (fs.map encF)).map unF
noncomputable def bkD (b : List Fct) : D := .lst (b.map encF)
theorem bkD_nb (x : List Fct) : (bkD x).nb = true := by show (D.lst (x.map encF)).nb = true; rw [D.nb_lst]; exact D.nbs_map nbF x
theorem bkD_dep (x : List Fct) : (bkD x).dep ≤ 2 := by show (D.lst (x.map encF)).dep ≤ 2; rw [D.dep_lst]; have := D.deps_map dpF x; lia
theorem alS {ds : List D} (h : ∀ d ∈ ds, ∃ l, d = .str l) : Alike ds := .inl fun d hd => by obtain ⟨l, rfl⟩ := h d hd; rfl
noncomputable def mkQ (fs : List Fct) : List Fct := (sortQ (fs.map encF)).map unF
theorem mkQ_enc (fs : List Fct) : (mkQ fs).map encF = sortQ (fs.map encF) := of_enc fun d hd => (sortQ_perm _).mem_iff.mp hd
theorem mkQ_mem (fs : List Fct) (f : Fct) : f ∈ mkQ fs ↔ f ∈ fs := by rw [← mem_enc, mkQ_enc, (sortQ_perm _).mem_iff, mem_enc]
theorem mkQ_len (fs : List Fct) : (mkQ fs).length = fs.length := by unfold mkQ; rw [List.length_map, (sortQ_perm _).length_eq, List.length_map]
noncomputable def encS (c : List Nat) : D := .str c
theorem encS_inj (a b : List Nat) (h : encS a = encS b) : a = b := by unfold encS at h; injection h
theorem encS_nb (c : List Nat) : (encS c).nb = true := rfl
noncomputable def unS : D → List Nat
  | .str l => l
  | _ => []
theorem unS_map (xs : List (List Nat)) : (xs.map encS).map unS = xs := by rw [List.map_map]; exact List.map_id xs
theorem str_in {c : List Nat} {cs : List (List Nat)} : encS c ∈ cs.map encS ↔ c ∈ cs :=
  ⟨fun h => by obtain ⟨g, hg, e⟩ := List.mem_map.mp h; rw [← encS_inj _ _ e]; exact hg, fun h => List.mem_map_of_mem h⟩
noncomputable def meetB (a b : List (List Nat)) : Bool := a.any fun x => decide (encS x ∈ b.map encS)
theorem meet_iff {a b : List (List Nat)} : meetB a b = true ↔ ∃ x, x ∈ a ∧ x ∈ b := by
  unfold meetB
  rw [List.any_eq_true]
  constructor
  · rintro ⟨x, hx, h⟩; exact ⟨x, hx, str_in.mp (of_decide_eq_true h)⟩
  · rintro ⟨x, hx, h⟩; exact ⟨x, hx, decide_eq_true (str_in.mpr h)⟩
theorem meet_eq {a b a' b' : List (List Nat)} (h1 : ∀ x, x ∈ a ↔ x ∈ a') (h2 : ∀ x, x ∈ b ↔ x ∈ b') : meetB a b = meetB a' b' := by
  rw [Bool.eq_iff_iff, meet_iff, meet_iff]
  simp only [h1, h2]
theorem meet_comm (a b : List (List Nat)) : meetB a b = meetB b a := by
  rw [Bool.eq_iff_iff, meet_iff, meet_iff]
  exact ⟨fun ⟨x, h1, h2⟩ => ⟨x, h2, h1⟩, fun ⟨x, h1, h2⟩ => ⟨x, h2, h1⟩⟩
noncomputable def preSh (ds : List D) : Prop := ∃ a b : List (List Nat), ds = [.lst (a.map encS), .lst (b.map encS)] ∧ a.length + b.length ≤ 1000
noncomputable def resSh : List D → D
  | [.lst a, .lst b] => .bl (meetB (a.map unS) (b.map unS))
  | _ => .non
theorem resSh_enc (a b : List (List Nat)) : resSh [.lst (a.map encS), .lst (b.map encS)] = .bl (meetB a b) := by
  show D.bl (meetB ((a.map encS).map unS) ((b.map encS).map unS)) = _
  rw [unS_map, unS_map]
theorem hkE (a : List (List Nat)) : ∀ d ∈ a.map encS, d.hk true = true := by
  intro d hd; obtain ⟨l, _, rfl⟩ := List.mem_map.mp hd; rfl
theorem ok_shares (Z : Tx K mg ad0) : FnOk P w K mg base CX0 1 ad0.f_shares ad0.d_shares ["some", "others"] (SpD K preSh resSh) := by
  refine Z.F_shares.ok sc_shares (fun vs H Q E h => spD_len (n := 2) (by rintro ds ⟨c, d, rfl, _⟩; rfl) h) (fun cdv A outer s H vs Q E hr h => ⟨_, (pss_one (ps_ret (pe_cmpR op_gt (pe_callB (show CallR _ _ (rLenS P w K true) from call_lenS) (by rfl) Z.z_len boot_len (pa_cons (pe_op (show OpR _ _ (rSet2 P w K true mAnd) from op_andS hr.units) (pe_callTy (show CallR _ _ (rSetOf P w K true) from call_setL rfl hr.units) (by rfl) Z.z_set boot_set (pa_cons (pv 0) pa_nil)) (pe_callTy (show CallR _ _ (rSetOf P w K true) from call_setL rfl hr.units) (by rfl) Z.z_set boot_set (pa_cons (pv 1) pa_nil))) pa_nil)) pe_int (nomark _)))), ?_⟩)
  refine go_spD h (by rw [spD_len (n := 2) (by rintro ds ⟨c, d, rfl, _⟩; rfl) h]; decide) fun G ds hp rt => ?_
  obtain ⟨a, b, rfl, hl⟩ := hp
  rw [resSh_enc] at rt
  have hm : ∀ d, d ∈ (a.map encS).filter (fun d => decide (d ∈ b.map encS)) ↔ d ∈ a.map encS ∧ d ∈ b.map encS := fun d => by rw [List.mem_filter, decide_eq_true_eq]
  have e : decide ((0 : Int) < ((ded ((a.map encS).filter fun d => decide (d ∈ b.map encS))).length : Nat)) = meetB a b := by
    rw [Bool.eq_iff_iff, decide_eq_true_eq, meet_iff]
    constructor
    · intro h
      obtain ⟨d, hd⟩ := List.exists_mem_of_length_pos (l := ded ((a.map encS).filter fun d => decide (d ∈ b.map encS))) (by lia)
      obtain ⟨h1, h2⟩ := (hm d).mp (ded_mem.mp hd)
      obtain ⟨x, hx, rfl⟩ := List.mem_map.mp h1
      exact ⟨x, hx, str_in.mp h2⟩
    · rintro ⟨x, h1, h2⟩
      have : encS x ∈ ded ((a.map encS).filter fun d => decide (d ∈ b.map encS)) := ded_mem.mpr ((hm _).mpr ⟨List.mem_map_of_mem h1, List.mem_map_of_mem h2⟩)
      have := List.length_pos_of_mem this
      lia
  rw [← e] at rt
  refine go_ret (ev_gt (ev_lenSet (f := true) (ded ((a.map encS).filter fun d => decide (d ∈ b.map encS))) (evs_and (dr := (a.map encS).filter fun d => decide (d ∈ b.map encS)) (evs_set (ev_var rfl).l (hkE a) (by rw [List.length_map]; lia)) (evs_set (ev_var rfl).l (hkE b) (by rw [List.length_map]; lia)) (hkE a) (hkE b) (by rw [List.length_map, List.length_map]; omega) hm) (fun d hd => hkE a d ((hm d).mp hd).1) (ded_nodup _) fun d => ded_mem).b ev_int.b) rt
noncomputable def plF (l : List Nat) : List Nat := glue [32] ((splitL 32 (l.map lo1)).filter fun p => !decide (p = []))
theorem split_sum (z : Nat) : ∀ (n : Nat) (l : List Nat), ((splitN z n l).map List.length).sum + (splitN z n l).length ≤ l.length + 1
  | 0, l => by rw [splitN]; simp
  | n + 1, l => by
    rw [splitN]
    cases h : l.dropWhile (· != z) with
    | nil =>
      have e := List.takeWhile_append_dropWhile (p := (· != z)) (l := l)
      rw [h, List.append_nil] at e
      simp
    | cons x b =>
      have ih := split_sum z n b
      have e := congrArg List.length (List.takeWhile_append_dropWhile (p := (· != z)) (l := l))
      rw [h, List.length_append, List.length_cons] at e
      simp only [List.map_cons, List.sum_cons, List.length_cons]
      lia
theorem glue_le (z : Nat) : ∀ ls : List (List Nat), (glue [z] ls).length ≤ (ls.map List.length).sum + ls.length
  | [] => Nat.zero_le _
  | [x] => by simp [glue]
  | x :: y :: r => by
    have ih := glue_le z (y :: r)
    rw [glue]
    simp only [List.length_append, List.map_cons, List.sum_cons, List.length_cons, List.length_nil] at ih ⊢
    lia
theorem sum_filter (p : List Nat → Bool) : ∀ ls : List (List Nat), ((ls.filter p).map List.length).sum + (ls.filter p).length ≤ (ls.map List.length).sum + ls.length
  | [] => Nat.le_refl _
  | x :: r => by
    have ih := sum_filter p r
    by_cases h : p x = true
    · rw [List.filter_cons_of_pos h]
      simp only [List.map_cons, List.sum_cons, List.length_cons] at ih ⊢
      lia
    · rw [List.filter_cons_of_neg h]
      simp only [List.map_cons, List.sum_cons, List.length_cons] at ih ⊢
      lia
theorem plF_len (l : List Nat) : (plF l).length ≤ l.length + 1 := by
  unfold plF splitL
  have h1 := glue_le 32 ((splitN 32 ((l.map lo1).length + 1) (l.map lo1)).filter fun p => !decide (p = []))
  have h2 := sum_filter (fun p => !decide (p = [])) (splitN 32 ((l.map lo1).length + 1) (l.map lo1))
  have h3 := split_sum 32 ((l.map lo1).length + 1) (l.map lo1)
  rw [List.length_map] at h1 h2 h3
  rw [List.length_map]
  lia
noncomputable def prePn (ds : List D) : Prop := ∃ l : List Nat, ds = [encS l] ∧ l.length ≤ 1000
noncomputable def resPn : List D → D
  | [.str l] => encS (plF l)
  | _ => .non
theorem ok_plain_of (Z : Tx K mg ad0) : FnOk P w K mg base CX0 1 ad0.f_plain_of ad0.d_plain_of ["text"] (SpD K prePn resPn) := by
  refine Z.F_plain_of.ok sc_plain_of (fun vs H Q E h => spD_len (n := 1) (by rintro ds ⟨c, rfl, _⟩; rfl) h) (fun cdv A outer s H vs Q E hr h => ⟨_, (pss_cons (ps_setLC (i := 1) sc_plain_of.nd rfl (Or.inl rfl) rfl (LcOk.of (Nx := (["text", "words"] : List Str)) (sc := defScope s_plain_of) (N' := (["word"] : List Str)) (nt := 1) (cs := []) rfl rfl (by decide +kernel)) (pi_list (pe_bm F.plainAttrs_str F.slot_str_split F.type_str_split mt_split (pe_bm0 F.plainAttrs_str F.slot_str_lower F.type_str_lower mt_lower (pv 0)) (pa_cons pe_str pa_nil))) (fun _ _ _ _ => (pg_name (i := 0) (show List.Nodup (["word"] : List Str) by decide +kernel) rfl (Or.inl rfl))) (fun _ _ _ _ => (pifs_one (pt_cmpR op_ne (pv 0) pe_str (nomark _)))) (fun _ _ _ _ => (pv 0)))
      (pss_one (ps_ret (pe_bm F.plainAttrs_str F.slot_str_join F.type_str_join mt_join pe_str (pa_cons (pv 1) pa_nil))))), ?_⟩)
  refine go_spD h (by rw [spD_len (n := 1) (by rintro ds ⟨c, rfl, _⟩; rfl) h]; decide) fun G ds hp rt => ?_
  obtain ⟨l, rfl, hl⟩ := hp
  have rt : RtD K G H Q (encS (plF l)) := rt
  have hs := split_sum 32 ((l.map lo1).length + 1) (l.map lo1)
  rw [List.length_map] at hs
  have hsl : (splitL 32 (l.map lo1)).length ≤ 1001 := by unfold splitL; rw [List.length_map]; lia
  refine go_seq (go_setO (ds := ((splitL 32 (l.map lo1)).filter fun p => !decide (p = [])).map D.str) (evo_lcX (splitL 32 (l.map lo1)) D.str (fun p => !decide (p = [])) D.str (EvO.l (evo_split1 (z := 32) (ev_lower (ev_var rfl).b (by lia)).b (ev_str (l := [32]) (by decide +kernel) (by decide)).b (by rw [List.length_map, sizeLine_eq]; lia))) (gk_name (by decide)) (by decide) (by rw [sizeLine_eq]; lia) fun p hp => ⟨_, tg_name, evt_test (ev_neS (m := []) (ev_var rfl).b (ev_str (l := []) (by decide +kernel) (by decide)).b), fun _ => ev_var rfl⟩) fun p => ?_)
  ((try dsimp only); refine nx_go ?_)
  have h2 := sum_filter (fun p => !decide (p = [])) (splitL 32 (l.map lo1))
  have h3 : ((splitL 32 (l.map lo1)).map List.length).sum + (splitL 32 (l.map lo1)).length ≤ l.length + 1 := by unfold splitL; rw [List.length_map]; exact hs
  exact go_ret (ev_join (z := [32]) (ls := (splitL 32 (l.map lo1)).filter fun p => !decide (p = [])) (ev_str (l := [32]) (by decide +kernel) (by decide)).b (evl_own rfl) (by simp only [List.length_singleton, Nat.mul_one]; lia)) rt
noncomputable def prePs (ds : List D) : Prop := ∃ a : List (List Nat), ds = [.lst (a.map encS)] ∧ a.length ≤ 1000 ∧ ∀ l ∈ a, l.length ≤ 1000
noncomputable def resPs : List D → List D
  | [.lst a] => ((a.map unS).map plF).map encS
  | _ => []
theorem resPs_enc (a : List (List Nat)) : resPs [.lst (a.map encS)] = (a.map plF).map encS := by
  show (((a.map encS).map unS).map plF).map encS = _
  rw [unS_map]
theorem ok_plains_of (Z : Tx K mg ad0) : FnOk P w K mg base CX0 2 ad0.f_plains_of ad0.d_plains_of ["texts"] (SpO K prePs resPs) := by
  have G_plain_of := ok_plain_of (P := P) (w := w) (base := base) Z
  refine Z.F_plains_of.ok sc_plains_of (fun vs H Q E h => spO_len (n := 1) (by rintro ds ⟨c, rfl, _⟩; rfl) h) (fun cdv A outer s H vs Q E hr h => ⟨_, (pss_one (ps_ret (pe_lc rfl (LcOk.of (Nx := (["texts"] : List Str)) (sc := defScope s_plains_of) (N' := (["text"] : List Str)) (nt := 1) (cs := []) rfl rfl (by decide +kernel)) (pi_list (pv 0)) (fun _ _ _ _ => (pg_name (i := 0) (show List.Nodup (["text"] : List Str) by decide +kernel) rfl (Or.inl rfl))) (fun _ _ _ _ => pifs_nil) (fun _ _ _ _ => (pe_call G_plain_of (hr.mono (by decide)) (by rfl) Z.M_plain_of Z.F_plain_of.kp Z.B_plain_of .nil pass0 (pa_cons (pv 0) pa_nil)))))), ?_⟩)
  refine go_spO h (by rw [spO_len (n := 1) (by rintro ds ⟨c, rfl, _⟩; rfl) h]; decide) fun G ds hp rt => ?_
  obtain ⟨a, rfl, ha, hl⟩ := hp
  rw [resPs_enc, List.map_map] at rt
  exact go_retO (evo_lcM a encS (fun l => encS (plF l)) (ev_var rfl).l (gk_name (by decide)) (by decide) (by rw [sizeLine_eq]; lia) fun l hla => ⟨_, tg_name, ev_call (pre := prePn) (res := resPn) (ds := [encS l]) (evaf_cons (ev_var rfl) evaf_nil) ⟨l, rfl, hl l hla⟩⟩) rt
noncomputable def txF (b : List Fct) (c f : List Nat) : List (List Nat) := (b.filter fun x => decide (x.1 = c) && decide (x.2.1 = f)).map fun x => x.2.2
noncomputable def srtS (a : List (List Nat)) : List (List Nat) := (sortQ (a.map encS)).map unS
theorem srtS_enc (a : List (List Nat)) : (srtS a).map encS = sortQ (a.map encS) := by
  unfold srtS
  rw [List.map_map]
  conv => rhs; rw [← List.map_id (sortQ (a.map encS))]
  refine List.map_congr_left fun d hd => ?_
  obtain ⟨x, _, rfl⟩ := List.mem_map.mp ((sortQ_perm _).mem_iff.mp hd)
  rfl
theorem srtS_mem (a : List (List Nat)) (x : List Nat) : x ∈ srtS a ↔ x ∈ a := by rw [← str_in, srtS_enc, (sortQ_perm _).mem_iff, str_in]
theorem srtS_len (a : List (List Nat)) : (srtS a).length = a.length := by unfold srtS; rw [List.length_map, (sortQ_perm _).length_eq, List.length_map]
theorem txF_len (b : List Fct) (c f : List Nat) : (txF b c f).length ≤ b.length := by unfold txF; rw [List.length_map]; exact List.length_filter_le ..
noncomputable def preTO (ds : List D) : Prop := ∃ (b : List Fct) (c f : List Nat), ds = [bkD b, encS c, encS f] ∧ b.length ≤ 60
noncomputable def resTO : List D → List D
  | [.lst b, .str c, .str f] => (srtS (txF (b.map unF) c f)).map encS
  | _ => []
theorem resTO_enc (b : List Fct) (c f : List Nat) : resTO [bkD b, encS c, encS f] = (srtS (txF b c f)).map encS := by
  show (srtS (txF ((b.map encF).map unF) c f)).map encS = _
  rw [unF_map]
theorem tx_ev {K : PySem.W.Frag} {b : List Fct} {c f : List Nat} : (txF b c f).map encS = (b.filter fun x => decide (x.1 = c) && decide (x.2.1 = f)).map fun x => D.str x.2.2 := by unfold txF; rw [List.map_map]; rfl
theorem ok_texts_of (Z : Tx K mg ad0) : FnOk P w K mg base CX0 1 ad0.f_texts_of ad0.d_texts_of ["book", "card", "field"] (SpO K preTO resTO) := by
  refine Z.F_texts_of.ok sc_texts_of (fun vs H Q E h => spO_len (n := 3) (by rintro ds ⟨c, a, b, rfl, _⟩; rfl) h) (fun cdv A outer s H vs Q E hr h => ⟨_, (pss_one (ps_ret (pe_callB (show CallR _ _ (rSortQ K) from call_sortedQ) (by rfl) Z.z_sorted boot_sorted (pa_cons (pe_lc rfl (LcOk.of (Nx := (["book", "card", "field"] : List Str)) (sc := defScope s_texts_of) (N' := (["fact", "card", "field"] : List Str)) (nt := 1) (cs := [1, 2]) rfl rfl (by decide +kernel)) (pi_list (pv 0)) (fun _ _ _ _ => (pg_name (i := 0) (show List.Nodup (["fact", "card", "field"] : List Str) by decide +kernel) rfl (Or.inl rfl))) (fun _ _ _ _ => (pifs_one (PW.pt (pw_and (pt_cmpR op_eq (pe_ix (show IxR _ (rIxT K) from ix_tup) (pv 0) pe_int (fun _ _ => rfl)) (pv 1) (nomark _)) (pw_and1 (pt_cmpR op_eq (pe_ix (show IxR _ (rIxT K) from ix_tup) (pv 0) pe_int (fun _ _ => rfl)) (pv 2) (nomark _))))))) (fun _ _ _ _ => (pe_ix (show IxR _ (rIxT K) from ix_tup) (pv 0) pe_int (fun _ _ => rfl)))) pa_nil)))), ?_⟩)
  refine go_spO h (by rw [spO_len (n := 3) (by rintro ds ⟨c, a, b, rfl, _⟩; rfl) h]; decide) fun G ds hp rt => ?_
  obtain ⟨b, c, f, rfl, hb⟩ := hp
  rw [resTO_enc, srtS_enc] at rt
  refine go_retO (evo_sortedQ (EvO.l ?_) (alS fun d hd => by obtain ⟨x, _, rfl⟩ := List.mem_map.mp hd; exact ⟨_, rfl⟩) (by rw [List.length_map]; have := txF_len b c f; lia)) rt
  rw [tx_ev (K := K)]
  exact evo_lcX b encF (fun x => decide (x.1 = c) && decide (x.2.1 = f)) (fun x => .str x.2.2) (ev_var rfl).l (gk_name (by decide)) (by decide) (by rw [sizeLine_eq]; lia) fun x hx => ⟨_, tg_name, evt_and (evt_test (ev_eqS (ev_ixT (ev_var rfl) ev_int.b rfl).b (ev_var rfl).b)) fun _ => evt_test (ev_eqS (ev_ixT (ev_var rfl) ev_int.b rfl).b (ev_var rfl).b), fun _ => ev_ixT (ev_var rfl) ev_int.b rfl⟩
noncomputable def fld (w : Int) (f : List Nat) : List (Str × V) := [("weight", .int w), ("field", .str (T f))]
noncomputable def fieldOf (fs : List (Str × V)) : List Nat := match fs.lookup ("field" : Str) with | some (.str z) => z.cps.toList | _ => []
theorem lk_hit {k : Str} {v : V} {r : List (Str × V)} : List.lookup k ((k, v) :: r) = some v := by simp [List.lookup]
theorem lk_miss {k a : Str} {v : V} {r : List (Str × V)} (h : (k == a) = false) : List.lookup k ((a, v) :: r) = List.lookup k r := by simp only [List.lookup, h]
theorem look_field (w : Int) (f : List Nat) : (fld w f).lookup ("field" : Str) = some (.str (T f)) := (lk_miss (by decide +kernel)).trans lk_hit
theorem look_no (w : Int) (f : List Nat) {m : Str} (h1 : (m == ("weight" : Str)) = false) (h2 : (m == ("field" : Str)) = false) : (fld w f).lookup m = none := (lk_miss h1).trans ((lk_miss h2).trans rfl)
theorem field_fld (w : Int) (f : List Nat) : fieldOf (fld w f) = f := by
  unfold fieldOf
  rw [look_field]
  exact T_cps f
noncomputable def nmL : List Nat := ("name" : Str).cps.toList
noncomputable def fmL : List Nat := ("former" : Str).cps.toList
theorem nmL_lt : ∀ c ∈ nmL, c < 128 := by decide +kernel
theorem nmL_T : T nmL = "name" := by decide +kernel
theorem fmL_lt : ∀ c ∈ fmL, c < 128 := by decide +kernel
theorem fmL_T : T fmL = "former" := by decide +kernel
theorem ok_init_Same (Z : Tx K mg ad0) : FnOk P w K mg base CX0 1 ad0.f_Rule_init ad0.d_Rule_init ["self", "weight", "field"] (SpInit2 ad0.c_Same "weight" "field") := by
  refine Z.F_Rule_init.ok sc_Rule_init (fun vs H Q E h => by obtain ⟨x, dx, u, v, rfl, _⟩ := h; rfl) (fun cdv A outer s H vs Q E hr h => ⟨_, (pss_cons (ps_fld (pv 0) (pv 1) (by rfl))
      (pss_one (ps_fld (pv 0) (pv 2) (by rfl)))), ?_⟩)
  obtain ⟨x, dx, u, v, rfl, hx, hd, q⟩ := h
  refine ⟨_, rfl, _, rfl, x, ad0.c_Same, dx, [], rfl, hx, Z.Cl_Same, Z.Na_Same_weight, by decide, ?_⟩
  refine ⟨_, rfl, _, rfl, x, ad0.c_Same, dx, [("weight", u)], rfl, upd_same, Z.Cl_Same, Z.Na_Same_field, (show 1 < 1000 by decide), ?_⟩
  rw [upd2]; exact q
theorem ok_init_Like (Z : Tx K mg ad0) : FnOk P w K mg base CX0 1 ad0.f_Rule_init ad0.d_Rule_init ["self", "weight", "field"] (SpInit2 ad0.c_Like "weight" "field") := by
  refine Z.F_Rule_init.ok sc_Rule_init (fun vs H Q E h => by obtain ⟨x, dx, u, v, rfl, _⟩ := h; rfl) (fun cdv A outer s H vs Q E hr h => ⟨_, (pss_cons (ps_fld (pv 0) (pv 1) (by rfl))
      (pss_one (ps_fld (pv 0) (pv 2) (by rfl)))), ?_⟩)
  obtain ⟨x, dx, u, v, rfl, hx, hd, q⟩ := h
  refine ⟨_, rfl, _, rfl, x, ad0.c_Like, dx, [], rfl, hx, Z.Cl_Like, Z.Na_Like_weight, by decide, ?_⟩
  refine ⟨_, rfl, _, rfl, x, ad0.c_Like, dx, [("weight", u)], rfl, upd_same, Z.Cl_Like, Z.Na_Like_field, (show 1 < 1000 by decide), ?_⟩
  rw [upd2]; exact q
theorem ok_init_Near (Z : Tx K mg ad0) : FnOk P w K mg base CX0 1 ad0.f_Rule_init ad0.d_Rule_init ["self", "weight", "field"] (SpInit2 ad0.c_Near "weight" "field") := by
  refine Z.F_Rule_init.ok sc_Rule_init (fun vs H Q E h => by obtain ⟨x, dx, u, v, rfl, _⟩ := h; rfl) (fun cdv A outer s H vs Q E hr h => ⟨_, (pss_cons (ps_fld (pv 0) (pv 1) (by rfl))
      (pss_one (ps_fld (pv 0) (pv 2) (by rfl)))), ?_⟩)
  obtain ⟨x, dx, u, v, rfl, hx, hd, q⟩ := h
  refine ⟨_, rfl, _, rfl, x, ad0.c_Near, dx, [], rfl, hx, Z.Cl_Near, Z.Na_Near_weight, by decide, ?_⟩
  refine ⟨_, rfl, _, rfl, x, ad0.c_Near, dx, [("weight", u)], rfl, upd_same, Z.Cl_Near, Z.Na_Near_field, (show 1 < 1000 by decide), ?_⟩
  rw [upd2]; exact q
theorem ok_init_Other (Z : Tx K mg ad0) : FnOk P w K mg base CX0 1 ad0.f_Rule_init ad0.d_Rule_init ["self", "weight", "field"] (SpInit2 ad0.c_Other "weight" "field") := by
  refine Z.F_Rule_init.ok sc_Rule_init (fun vs H Q E h => by obtain ⟨x, dx, u, v, rfl, _⟩ := h; rfl) (fun cdv A outer s H vs Q E hr h => ⟨_, (pss_cons (ps_fld (pv 0) (pv 1) (by rfl))
      (pss_one (ps_fld (pv 0) (pv 2) (by rfl)))), ?_⟩)
  obtain ⟨x, dx, u, v, rfl, hx, hd, q⟩ := h
  refine ⟨_, rfl, _, rfl, x, ad0.c_Other, dx, [], rfl, hx, Z.Cl_Other, Z.Na_Other_weight, by decide, ?_⟩
  refine ⟨_, rfl, _, rfl, x, ad0.c_Other, dx, [("weight", u)], rfl, upd_same, Z.Cl_Other, Z.Na_Other_field, (show 1 < 1000 by decide), ?_⟩
  rw [upd2]; exact q
theorem ok_init_Rule (Z : Tx K mg ad0) : FnOk P w K mg base CX0 1 ad0.f_Rule_init ad0.d_Rule_init ["self", "weight", "field"] (SpInit2 ad0.c_Former "weight" "field") := by
  refine Z.F_Rule_init.ok sc_Rule_init (fun vs H Q E h => by obtain ⟨x, dx, u, v, rfl, _⟩ := h; rfl) (fun cdv A outer s H vs Q E hr h => ⟨_, (pss_cons (ps_fld (pv 0) (pv 1) (by rfl))
      (pss_one (ps_fld (pv 0) (pv 2) (by rfl)))), ?_⟩)
  obtain ⟨x, dx, u, v, rfl, hx, hd, q⟩ := h
  refine ⟨_, rfl, _, rfl, x, ad0.c_Former, dx, [], rfl, hx, Z.Cl_Former, Z.Na_Former_weight, by decide, ?_⟩
  refine ⟨_, rfl, _, rfl, x, ad0.c_Former, dx, [("weight", u)], rfl, upd_same, Z.Cl_Former, Z.Na_Former_field, (show 1 < 1000 by decide), ?_⟩
  rw [upd2]; exact q
theorem ok_init_Former (Z : Tx K mg ad0) : FnOk P w K mg base CX0 2 ad0.f_Former_init ad0.d_Former_init ["self", "weight"] (SpInit1 ad0.c_Former "weight" "field" (.str (T nmL))) := by
  have G_Rule_init__Former := ok_init_Rule (P := P) (w := w) (base := base) Z
  refine Z.F_Former_init.ok sc_Former_init (fun vs H Q E h => by obtain ⟨x, dx, u, rfl, _⟩ := h; rfl) (fun cdv A outer s H vs Q E hr h => ⟨_, (pss_one (ps_expr (pe_clsCall (by rfl) Z.M_Rule Z.Ca_Rule_init G_Rule_init__Former (hr.mono (by decide)) Z.B_Rule_init .nil pass0 (pa_cons (pv 0) (pa_cons (pv 1) (pa_cons pe_str pa_nil)))))), ?_⟩)
  obtain ⟨x, dx, u, rfl, hx, hd, q⟩ := h
  rw [nmL_T] at q
  exact ⟨_, rfl, _, rfl, x, dx, u, _, rfl, hx, hd, q⟩
noncomputable def preShT (ds : List D) : Prop := ∃ a b : List D, ds = [.lst a, .lst b] ∧ a.length + b.length ≤ 1000 ∧ (∀ d ∈ a, d.hk false = true) ∧ ∀ d ∈ b, d.hk false = true
noncomputable def resShT : List D → D
  | [.lst a, .lst b] => .bl (a.any fun d => decide (d ∈ b))
  | _ => .non
theorem ok_sharesT (Z : Tx K mg ad0) : FnOk P w K mg base CX0 1 ad0.f_shares ad0.d_shares ["some", "others"] (SpD K preShT resShT) := by
  refine Z.F_shares.ok sc_shares (fun vs H Q E h => spD_len (n := 2) (by rintro ds ⟨c, d, rfl, _⟩; rfl) h) (fun cdv A outer s H vs Q E hr h => ⟨_, (pss_one (ps_ret (pe_cmpR op_gt (pe_callB (show CallR _ _ (rLenS P w K false) from call_lenS) (by rfl) Z.z_len boot_len (pa_cons (pe_op (show OpR _ _ (rSet2 P w K false mAnd) from op_andS hr.units) (pe_callTy (show CallR _ _ (rSetOf P w K false) from call_setL rfl hr.units) (by rfl) Z.z_set boot_set (pa_cons (pv 0) pa_nil)) (pe_callTy (show CallR _ _ (rSetOf P w K false) from call_setL rfl hr.units) (by rfl) Z.z_set boot_set (pa_cons (pv 1) pa_nil))) pa_nil)) pe_int (nomark _)))), ?_⟩)
  refine go_spD h (by rw [spD_len (n := 2) (by rintro ds ⟨c, d, rfl, _⟩; rfl) h]; decide) fun G ds hp rt => ?_
  obtain ⟨a, b, rfl, hl, ha, hb⟩ := hp
  have rt : RtD K G H Q (.bl (a.any fun d => decide (d ∈ b))) := rt
  have hm : ∀ d, d ∈ a.filter (fun d => decide (d ∈ b)) ↔ d ∈ a ∧ d ∈ b := fun d => by rw [List.mem_filter, decide_eq_true_eq]
  have e : decide ((0 : Int) < ((ded (a.filter fun d => decide (d ∈ b))).length : Nat)) = a.any fun d => decide (d ∈ b) := by
    rw [Bool.eq_iff_iff, decide_eq_true_eq, List.any_eq_true]
    constructor
    · intro h
      obtain ⟨d, hd⟩ := List.exists_mem_of_length_pos (l := ded (a.filter fun d => decide (d ∈ b))) (by lia)
      obtain ⟨h1, h2⟩ := (hm d).mp (ded_mem.mp hd)
      exact ⟨d, h1, decide_eq_true h2⟩
    · rintro ⟨d, h1, h2⟩
      have : d ∈ ded (a.filter fun d => decide (d ∈ b)) := ded_mem.mpr ((hm _).mpr ⟨h1, of_decide_eq_true h2⟩)
      have := List.length_pos_of_mem this
      lia
  rw [← e] at rt
  refine go_ret (ev_gt (ev_lenSet (f := false) (ded (a.filter fun d => decide (d ∈ b))) (evs_and (dr := a.filter fun d => decide (d ∈ b)) (evs_set (ev_var rfl).l ha (by lia)) (evs_set (ev_var rfl).l hb (by lia)) ha hb hl hm) (fun d hd => ha d ((hm d).mp hd).1) (ded_nodup _) fun d => ded_mem).b ev_int.b) rt
noncomputable def preNF (ds : List D) : Prop := ∃ l, ds = [encS l] ∧ l.length ≤ 100
noncomputable def resNF : List D → List D
  | [.str l] => formsD (plF l)
  | _ => []
theorem ok_near_forms (Z : Tx K mg ad0) : FnOk P w K mg base CX0 2 ad0.f_near_forms ad0.d_near_forms ["text"] (SpO K preNF resNF) := by
  have G_plain_of := ok_plain_of (P := P) (w := w) (base := base) Z
  refine Z.F_near_forms.ok sc_near_forms (fun vs H Q E h => spO_len (n := 1) (by rintro ds ⟨l, rfl, _⟩; rfl) h) (fun cdv A outer s H vs Q E hr h => ⟨_, (pss_cons (ps_set (i := 1) sc_near_forms.nd rfl (Or.inl rfl) (pe_call G_plain_of (hr.mono (by decide)) (by rfl) Z.M_plain_of Z.F_plain_of.kp Z.B_plain_of .nil pass0 (pa_cons (pv 0) pa_nil)))
      (pss_cons (ps_set (i := 2) sc_near_forms.nd rfl (Or.inl rfl) (pe_lst pa_nil))
      (pss_cons (ps_for PassesOwn.never rfl (pi_range1 (by rfl) Z.z_range (pa_cons (pe_op op_add (pe_callB call_len_str (by rfl) Z.z_len boot_len (pa_cons (pv 1) pa_nil)) pe_int) pa_nil)) (pg_name (i := 3) sc_near_forms.nd rfl (Or.inl rfl)) (pss_cons (ps_expr (pe_bm F.plainAttrs_list F.slot_list_append F.type_list_append mt_append (pv 2) (pa_cons (pe_tup (pa_cons (pe_slice sl_str (pv 1) po_none (po_some (pv 3))) (pa_cons (pe_slice sl_str (pv 1) (po_some (pv 3)) po_none) pa_nil))) pa_nil)))
      (pss_one (ps_expr (pe_bm F.plainAttrs_list F.slot_list_append F.type_list_append mt_append (pv 2) (pa_cons (pe_tup (pa_cons (pe_slice sl_str (pv 1) po_none (po_some (pv 3))) (pa_cons (pe_slice sl_str (pv 1) (po_some (pe_op op_add (pv 3) pe_int)) po_none) pa_nil))) pa_nil))))))
      (pss_one (ps_ret (pv 2)))))), ?_⟩)
  refine go_spO h (by rw [spO_len (n := 1) (by rintro ds ⟨l, rfl, _⟩; rfl) h]; decide) fun G ds hp rt => ?_
  obtain ⟨l, rfl, A1⟩ := hp
  have rt : RtO K G H Q (formsD (plF l)) := rt
  refine go_seq (go_set (d := .str (plF l)) (ev_call (pre := prePn) (res := resPn) (ds := [encS l]) (evaf_cons (ev_var rfl) evaf_nil) ⟨l, rfl, by lia⟩) ?_)
  ((try dsimp only); refine nx_go ?_)
  have hpl := plF_len l
  generalize plF l = p at hpl rt
  have hz : p.length ≤ sizeLine := small (by lia)
  refine go_seq (go_setO (evo_lst evaf_nil (small (by decide))) fun q => ?_)
  ((try dsimp only); refine nx_go ?_)
  refine go_seq (go_range (n := (p.length : Int) + 1) (fun k ss => ∃ v, ss = [.d (encS l), .d (.str p), .o q ((List.range k).flatMap (formsK p)), v]) (eva_cons (ev_add (ev_lenS (ev_var rfl).b hz).b ev_int.b).b eva_nil) ⟨by lia, by lia⟩ ⟨.un, rfl⟩ ?_ ?_ (fun _ _ _ h => h))
  · rintro k ss hk ⟨v, rfl⟩ N hN
    have hlen := formsK_len p k
    have c1 : cutL p none (some (k : Int)) = p.take k := by rw [cutL_take _ (Int.natCast_nonneg _), Int.toNat_natCast]
    have c2 : cutL p (some (k : Int)) none = p.drop k := by rw [cutL_drop _ (Int.natCast_nonneg _), Int.toNat_natCast]
    have c3 : cutL p (some ((k : Int) + 1)) none = p.drop (k + 1) := by rw [cutL_drop _ (by lia), show ((k : Int) + 1).toNat = k + 1 by lia]
    refine go_seq (go_append (d := frm (p.take k) (p.drop k)) rfl (by
      unfold frm; rw [← c1, ← c2]
      exact ev_tup (evaf_cons (ev_slS (ev_var rfl).b evp_no (evp_part (ev_var rfl).b) hz) (evaf_cons (ev_slS (ev_var rfl).b (evp_part (ev_var rfl).b) evp_no hz) evaf_nil)) (small (by simp))) (by rw [hlen, sizeLine_eq]; lia) ?_)
    ((try dsimp only); refine nx_go ?_)
    refine go_append (d := frm (p.take k) (p.drop (k + 1))) rfl (by
      unfold frm; rw [← c1, ← c3]
      exact ev_tup (evaf_cons (ev_slS (ev_var rfl).b evp_no (evp_part (ev_var rfl).b) hz) (evaf_cons (ev_slS (ev_var rfl).b (evp_part (ev_add (ev_var rfl).b ev_int.b).b) evp_no hz) evaf_nil)) (small (by simp))) (by rw [List.length_append, hlen, sizeLine_eq]; simp; lia) (hN _ ⟨.d (.int k), ?_⟩)
    rw [List.range_succ, List.flatMap_append, List.flatMap_singleton]
    show _ = [_, _, Sl.o q (_ ++ [frm _ _, frm _ _]), _]
    rw [List.append_assoc]; rfl
  · rintro ss ⟨v, rfl⟩
    ((try dsimp only); refine nx_go ?_)
    refine go_retV (i := 2) rfl ?_
    rw [show ((p.length : Int) + 1).toNat = p.length + 1 by lia]
    exact rt
noncomputable def formsA (a : List (List Nat)) : List D := a.flatMap fun l => formsD (plF l)
theorem formsA_len {a : List (List Nat)} {n : Nat} (h : ∀ l ∈ a, l.length ≤ n) : (formsA a).length ≤ a.length * (2 * (n + 2)) := by
  induction a with
  | nil => simp [formsA]
  | cons x r ih =>
    have i := ih fun l hl => h l (List.mem_cons_of_mem _ hl)
    have e : (formsA (x :: r)).length = (formsD (plF x)).length + (formsA r).length := by unfold formsA; rw [List.flatMap_cons, List.length_append]
    have e2 : (formsD (plF x)).length = 2 * ((plF x).length + 1) := by unfold formsD; rw [formsK_len]
    have hx := h x List.mem_cons_self
    have hp := plF_len x
    rw [e, e2, List.length_cons, Nat.add_mul]
    lia
theorem formsA_hk (a : List (List Nat)) : ∀ d ∈ formsA a, d.hk false = true := by
  intro d hd
  obtain ⟨l, _, hl⟩ := List.mem_flatMap.mp hd
  exact forms_hk _ d hl
noncomputable def preAF (ds : List D) : Prop := ∃ a : List (List Nat), ds = [.lst (a.map encS)] ∧ a.length ≤ 14 ∧ ∀ l ∈ a, l.length ≤ 15
noncomputable def resAF : List D → List D
  | [.lst a] => formsA (a.map unS)
  | _ => []
theorem resAF_enc (a : List (List Nat)) : resAF [.lst (a.map encS)] = formsA a := by
  show formsA ((a.map encS).map unS) = _
  rw [unS_map]
theorem ok_all_forms (Z : Tx K mg ad0) : FnOk P w K mg base CX0 3 ad0.f_all_forms ad0.d_all_forms ["texts"] (SpO K preAF resAF) := by
  have G_near_forms := ok_near_forms (P := P) (w := w) (base := base) Z
  refine Z.F_all_forms.ok sc_all_forms (fun vs H Q E h => spO_len (n := 1) (by rintro ds ⟨l, rfl, _⟩; rfl) h) (fun cdv A outer s H vs Q E hr h => ⟨_, (pss_cons (ps_set (i := 1) sc_all_forms.nd rfl (Or.inl rfl) (pe_lst pa_nil))
      (pss_cons (ps_for PassesOwn.never rfl (pi_list (pv 0)) (pg_name (i := 2) sc_all_forms.nd rfl (Or.inl rfl)) (pss_one (ps_expr (pe_bm F.plainAttrs_list F.slot_list_extend F.type_list_extend mt_extend (pv 1) (pa_cons (pe_call G_near_forms (hr.mono (by decide)) (by rfl) Z.M_near_forms Z.F_near_forms.kp Z.B_near_forms .nil pass0 (pa_cons (pv 2) pa_nil)) pa_nil)))))
      (pss_one (ps_ret (pv 1))))), ?_⟩)
  refine go_spO h (by rw [spO_len (n := 1) (by rintro ds ⟨l, rfl, _⟩; rfl) h]; decide) fun G ds hp rt => ?_
  obtain ⟨a, rfl, ha, ht⟩ := hp
  rw [resAF_enc] at rt
  refine go_seq (go_setO (evo_lst evaf_nil (small (by decide))) fun q => ?_)
  ((try dsimp only); refine nx_go ?_)
  refine go_seq (go_for encS a (fun k ss => ∃ v : Sl, ss = [.d (.lst (a.map encS)), .o q (formsA (a.take k)), v]) (ev_var rfl) ⟨.un, rfl⟩ ?_ ?_)
  · rintro L' k x ss hL hk ⟨v, rfl⟩
    refine ⟨_, tg_name, fun N hN => ?_⟩
    have hx := ht x (List.mem_of_getElem? hk)
    have l1 := formsA_len (a := a.take k) (n := 15) fun l hl => ht l (List.mem_of_mem_take hl)
    have l2 : (a.take k).length ≤ 14 := by rw [List.length_take]; lia
    have l3 : (formsD (plF x)).length = 2 * ((plF x).length + 1) := by unfold formsD; rw [formsK_len]
    have hp := plF_len x
    have e : formsA (a.take (k + 1)) = formsA (a.take k) ++ formsD (plF x) := by
      unfold formsA
      rw [List.take_add_one, hk, List.flatMap_append]
      show _ ++ List.flatMap _ [x] = _
      rw [List.flatMap_singleton]
    refine go_extend (es := formsD (plF x)) rfl (evo_call (pre := preNF) (res := resNF) (ds := [encS x]) (evaf_cons (ev_var rfl) evaf_nil) ⟨x, rfl, by lia⟩) (by rw [sizeLine_eq, l3]; lia) (hN _ ⟨.d (encS x), ?_⟩)
    rw [e]; rfl
  rintro ss ⟨v, rfl⟩
  ((try dsimp only); refine nx_go ?_)
  rw [List.take_length]
  exact go_retV rfl rt
noncomputable def nearAny (a b : List (List Nat)) : Bool := a.any fun x => b.any fun y => near x y
theorem nearAny_iff {a b : List (List Nat)} : nearAny a b = true ↔ ∃ x, x ∈ a ∧ ∃ y, y ∈ b ∧ near x y = true := by
  unfold nearAny
  simp only [List.any_eq_true]
theorem nearAny_eq {a b a' b' : List (List Nat)} (h1 : ∀ x, x ∈ a ↔ x ∈ a') (h2 : ∀ x, x ∈ b ↔ x ∈ b') : nearAny a b = nearAny a' b' := by
  rw [Bool.eq_iff_iff, nearAny_iff, nearAny_iff]
  simp only [h1, h2]
theorem nearAny_comm (a b : List (List Nat)) : nearAny a b = nearAny b a := by
  rw [Bool.eq_iff_iff, nearAny_iff, nearAny_iff]
  exact ⟨fun ⟨x, h1, y, h2, h3⟩ => ⟨y, h2, x, h1, by rw [near_symm]; exact h3⟩, fun ⟨x, h1, y, h2, h3⟩ => ⟨y, h2, x, h1, by rw [near_symm]; exact h3⟩⟩
theorem formsA_near (a b : List (List Nat)) : ((formsA a).any fun d => decide (d ∈ formsA b)) = nearAny (a.map plF) (b.map plF) := by
  rw [Bool.eq_iff_iff, nearAny_iff, List.any_eq_true]
  constructor
  · rintro ⟨d, h1, h2⟩
    obtain ⟨x, hx, h1⟩ := List.mem_flatMap.mp h1
    obtain ⟨y, hy, h2⟩ := List.mem_flatMap.mp (of_decide_eq_true h2)
    exact ⟨_, List.mem_map_of_mem hx, _, List.mem_map_of_mem hy, (near_shared _ _).mp ⟨d, h1, h2⟩⟩
  · rintro ⟨x', hx', y', hy', h⟩
    obtain ⟨x, hx, rfl⟩ := List.mem_map.mp hx'
    obtain ⟨y, hy, rfl⟩ := List.mem_map.mp hy'
    obtain ⟨d, h1, h2⟩ := (near_shared _ _).mpr h
    exact ⟨d, List.mem_flatMap.mpr ⟨x, hx, h1⟩, decide_eq_true (List.mem_flatMap.mpr ⟨y, hy, h2⟩)⟩
noncomputable def preBy (fs : List (Str × V)) (ds : List D) : Prop := ∃ a b : List (List Nat), ds = [.lst (a.map encS), .lst (b.map encS)] ∧ a.length ≤ 14 ∧ b.length ≤ 14 ∧ (∀ l ∈ a, l.length ≤ 15) ∧ ∀ l ∈ b, l.length ≤ 15
noncomputable def byN (a b : List (List Nat)) : Bool := nearAny (a.map plF) (b.map plF)
noncomputable def byO (a b : List (List Nat)) : Bool := !decide (a = []) && (!decide (b = []) && !meetB (a.map plF) (b.map plF))
noncomputable def resByN (fs : List (Str × V)) : List D → D
  | [.lst a, .lst b] => .bl (byN (a.map unS) (b.map unS))
  | _ => .non
noncomputable def resByO (fs : List (Str × V)) : List D → D
  | [.lst a, .lst b] => .bl (byO (a.map unS) (b.map unS))
  | _ => .non
theorem resByN_enc (fs : List (Str × V)) (a b : List (List Nat)) : resByN fs [.lst (a.map encS), .lst (b.map encS)] = .bl (byN a b) := by
  show D.bl (byN ((a.map encS).map unS) ((b.map encS).map unS)) = _
  rw [unS_map, unS_map]
theorem resByO_enc (fs : List (Str × V)) (a b : List (List Nat)) : resByO fs [.lst (a.map encS), .lst (b.map encS)] = .bl (byO a b) := by
  show D.bl (byO ((a.map encS).map unS) ((b.map encS).map unS)) = _
  rw [unS_map, unS_map]
theorem ok_by_Near (Z : Tx K mg ad0) : FnOk P w K mg base CX0 4 ad0.f_Near_speaks_by ad0.d_Near_speaks_by ["self", "texts", "others"] (SpI K ad0.c_Near preBy resByN) := by
  have G_shares__T := ok_sharesT (P := P) (w := w) (base := base) Z
  have G_all_forms := ok_all_forms (P := P) (w := w) (base := base) Z
  refine Z.F_Near_speaks_by.ok sc_Near_speaks_by (fun vs H Q E h => spI_len (n := 3) (by rintro fs ds ⟨c, d, rfl, _⟩; rfl) h) (fun cdv A outer s H vs Q E hr h => ⟨_, (pss_one (ps_ret (pe_call G_shares__T (hr.mono (by decide)) (by rfl) Z.M_shares Z.F_shares.kp Z.B_shares .nil pass0 (pa_cons (pe_call G_all_forms (hr.mono (by decide)) (by rfl) Z.M_all_forms Z.F_all_forms.kp Z.B_all_forms .nil pass0 (pa_cons (pv 1) pa_nil)) (pa_cons (pe_call G_all_forms (hr.mono (by decide)) (by rfl) Z.M_all_forms Z.F_all_forms.kp Z.B_all_forms .nil pass0 (pa_cons (pv 2) pa_nil)) pa_nil))))), ?_⟩)
  refine go_spI h (by rw [spI_len (n := 3) (by rintro fs ds ⟨c, d, rfl, _⟩; rfl) h]; decide) fun G ds x dx fs hp rt => ?_
  obtain ⟨a, b, rfl, l1, l2, h1, h2⟩ := hp
  rw [resByN_enc] at rt
  unfold byN at rt
  rw [← formsA_near] at rt
  have f1 := formsA_len h1
  have f2 := formsA_len h2
  have g1 : a.length * (2 * (15 + 2)) ≤ 14 * (2 * (15 + 2)) := Nat.mul_le_mul_right _ l1
  have g2 : b.length * (2 * (15 + 2)) ≤ 14 * (2 * (15 + 2)) := Nat.mul_le_mul_right _ l2
  refine go_ret (ev_call (pre := preShT) (res := resShT) (ds := [.lst (formsA a), .lst (formsA b)]) (evaf_cons (EvO.ev ?_) (evaf_cons (EvO.ev ?_) evaf_nil)) ⟨_, _, rfl, by lia, formsA_hk a, formsA_hk b⟩) rt
  · rw [← resAF_enc]
    exact evo_call (pre := preAF) (res := resAF) (evaf_cons (ev_var rfl) evaf_nil) ⟨a, rfl, l1, h1⟩
  · rw [← resAF_enc]
    exact evo_call (pre := preAF) (res := resAF) (evaf_cons (ev_var rfl) evaf_nil) ⟨b, rfl, l2, h2⟩
theorem lstS_nb (a : List (List Nat)) : (D.lst (a.map encS)).nb = true := by rw [D.nb_lst]; exact D.nbs_map encS_nb a
theorem lstS_dep (a : List (List Nat)) : (D.lst (a.map encS)).dep ≤ 60 := by
  rw [D.dep_lst]
  have := D.deps_map (enc := encS) (n := 0) (fun c => Nat.le_of_eq rfl) a
  lia
theorem lstS_nil (a : List (List Nat)) : decide (D.lst (a.map encS) = .lst []) = decide (a = []) := by
  cases a <;> simp
theorem ok_by_Other (Z : Tx K mg ad0) : FnOk P w K mg base CX0 3 ad0.f_Other_speaks_by ad0.d_Other_speaks_by ["self", "texts", "others"] (SpI K ad0.c_Other preBy resByO) := by
  have G_shares := ok_shares (P := P) (w := w) (base := base) Z
  have G_plains_of := ok_plains_of (P := P) (w := w) (base := base) Z
  refine Z.F_Other_speaks_by.ok sc_Other_speaks_by (fun vs H Q E h => spI_len (n := 3) (by rintro fs ds ⟨c, d, rfl, _⟩; rfl) h) (fun cdv A outer s H vs Q E hr h => ⟨_, (pss_cons (ps_if (PW.pt (pw_or (pt_cmpR (show OpR _ _ (rEqD K) from op_eqD hr.units) (pv 1) (pe_lst pa_nil) (nomark _)) (pw_or1 (pt_cmpR (show OpR _ _ (rEqD K) from op_eqD hr.units) (pv 2) (pe_lst pa_nil) (nomark _))))) (pss_one (ps_ret pe_bl)) pss_nil)
      (pss_one (ps_ret (pe_not (pe_call G_shares (hr.mono (by decide)) (by rfl) Z.M_shares Z.F_shares.kp Z.B_shares .nil pass0 (pa_cons (pe_call G_plains_of (hr.mono (by decide)) (by rfl) Z.M_plains_of Z.F_plains_of.kp Z.B_plains_of .nil pass0 (pa_cons (pv 1) pa_nil)) (pa_cons (pe_call G_plains_of (hr.mono (by decide)) (by rfl) Z.M_plains_of Z.F_plains_of.kp Z.B_plains_of .nil pass0 (pa_cons (pv 2) pa_nil)) pa_nil))))))), ?_⟩)
  refine go_spI h (by rw [spI_len (n := 3) (by rintro fs ds ⟨c, d, rfl, _⟩; rfl) h]; decide) fun G ds x dx fs hp rt => ?_
  obtain ⟨a, b, rfl, l1, l2, h1, h2⟩ := hp
  rw [resByO_enc] at rt
  unfold byO at rt
  have t := evt_or (K := K) (G := G) (H₀ := H) (L := G) (ss := [isl x ad0.c_Other dx fs, .d (.lst (a.map encS)), .d (.lst (b.map encS))]) (evt_test (ev_eqD (d1 := .lst (a.map encS)) (d2 := .lst []) (ev_var (i := 1) rfl).b (EvO.ev (evo_lst evaf_nil (small (by decide)))).b (lstS_nb a) rfl (lstS_dep a))) fun _ => evt_test (ev_eqD (d1 := .lst (b.map encS)) (d2 := .lst []) (ev_var (i := 2) rfl).b (EvO.ev (evo_lst evaf_nil (small (by decide)))).b (lstS_nb b) rfl (lstS_dep b))
  rw [lstS_nil, lstS_nil] at t
  refine go_seq (go_if t (fun hb => ?_) (fun hb => go_next ?_))
  · refine go_ret ev_bl ?_
    have e : (!decide (a = []) && (!decide (b = []) && !meetB (a.map plF) (b.map plF))) = false := by
      rcases Bool.or_eq_true_iff.mp hb with h | h <;> rw [h] <;> simp
    rw [e] at rt
    exact rt
  ((try dsimp only); refine nx_go ?_)
  obtain ⟨e1, e2⟩ := Bool.or_eq_false_iff.mp hb
  rw [e1, e2] at rt
  refine go_ret (ev_not ?_) rt
  rw [← resSh_enc]
  refine ev_call (pre := preSh) (res := resSh) (evaf_cons (EvO.ev ?_) (evaf_cons (EvO.ev ?_) evaf_nil)) ⟨a.map plF, b.map plF, rfl, by rw [List.length_map, List.length_map]; lia⟩
  · rw [← resPs_enc]
    exact evo_call (pre := prePs) (res := resPs) (evaf_cons (ev_var rfl) evaf_nil) ⟨a, rfl, by lia, fun l hl => by have := h1 l hl; lia⟩
  · rw [← resPs_enc]
    exact evo_call (pre := prePs) (res := resPs) (evaf_cons (ev_var rfl) evaf_nil) ⟨b, rfl, by lia, fun l hl => by have := h2 l hl; lia⟩
noncomputable def resByL (fs : List (Str × V)) : List D → D
  | [.lst a, .lst b] => .bl (meetB ((a.map unS).map plF) ((b.map unS).map plF))
  | _ => .non
noncomputable def resByS (fs : List (Str × V)) (ds : List D) : D := resSh ds
theorem resByL_enc (fs : List (Str × V)) (a b : List (List Nat)) : resByL fs [.lst (a.map encS), .lst (b.map encS)] = .bl (meetB (a.map plF) (b.map plF)) := by
  show D.bl (meetB (((a.map encS).map unS).map plF) (((b.map encS).map unS).map plF)) = _
  rw [unS_map, unS_map]
theorem ok_by_Same (Z : Tx K mg ad0) : FnOk P w K mg base CX0 2 ad0.f_Same_speaks_by ad0.d_Same_speaks_by ["self", "texts", "others"] (SpI K ad0.c_Same preBy resByS) := by
  have G_shares := ok_shares (P := P) (w := w) (base := base) Z
  refine Z.F_Same_speaks_by.ok sc_Same_speaks_by (fun vs H Q E h => spI_len (n := 3) (by rintro fs ds ⟨c, d, rfl, _⟩; rfl) h) (fun cdv A outer s H vs Q E hr h => ⟨_, (pss_one (ps_ret (pe_call G_shares (hr.mono (by decide)) (by rfl) Z.M_shares Z.F_shares.kp Z.B_shares .nil pass0 (pa_cons (pv 1) (pa_cons (pv 2) pa_nil))))), ?_⟩)
  refine go_spI h (by rw [spI_len (n := 3) (by rintro fs ds ⟨c, d, rfl, _⟩; rfl) h]; decide) fun G ds x dx fs hp rt => ?_
  obtain ⟨a, b, rfl, l1, l2, h1, h2⟩ := hp
  exact go_ret (ev_call (pre := preSh) (res := resSh) (evaf_cons (ev_var rfl) (evaf_cons (ev_var rfl) evaf_nil)) ⟨a, b, rfl, by lia⟩) rt
theorem ok_by_Like (Z : Tx K mg ad0) : FnOk P w K mg base CX0 3 ad0.f_Like_speaks_by ad0.d_Like_speaks_by ["self", "texts", "others"] (SpI K ad0.c_Like preBy resByL) := by
  have G_shares := ok_shares (P := P) (w := w) (base := base) Z
  have G_plains_of := ok_plains_of (P := P) (w := w) (base := base) Z
  refine Z.F_Like_speaks_by.ok sc_Like_speaks_by (fun vs H Q E h => spI_len (n := 3) (by rintro fs ds ⟨c, d, rfl, _⟩; rfl) h) (fun cdv A outer s H vs Q E hr h => ⟨_, (pss_one (ps_ret (pe_call G_shares (hr.mono (by decide)) (by rfl) Z.M_shares Z.F_shares.kp Z.B_shares .nil pass0 (pa_cons (pe_call G_plains_of (hr.mono (by decide)) (by rfl) Z.M_plains_of Z.F_plains_of.kp Z.B_plains_of .nil pass0 (pa_cons (pv 1) pa_nil)) (pa_cons (pe_call G_plains_of (hr.mono (by decide)) (by rfl) Z.M_plains_of Z.F_plains_of.kp Z.B_plains_of .nil pass0 (pa_cons (pv 2) pa_nil)) pa_nil))))), ?_⟩)
  refine go_spI h (by rw [spI_len (n := 3) (by rintro fs ds ⟨c, d, rfl, _⟩; rfl) h]; decide) fun G ds x dx fs hp rt => ?_
  obtain ⟨a, b, rfl, l1, l2, h1, h2⟩ := hp
  rw [resByL_enc, ← resSh_enc] at rt
  refine go_ret (ev_call (pre := preSh) (res := resSh) (evaf_cons (EvO.ev ?_) (evaf_cons (EvO.ev ?_) evaf_nil)) ⟨a.map plF, b.map plF, rfl, by rw [List.length_map, List.length_map]; lia⟩) rt
  · rw [← resPs_enc]
    exact evo_call (pre := prePs) (res := resPs) (evaf_cons (ev_var rfl) evaf_nil) ⟨a, rfl, by lia, fun l hl => by have := h1 l hl; lia⟩
  · rw [← resPs_enc]
    exact evo_call (pre := prePs) (res := resPs) (evaf_cons (ev_var rfl) evaf_nil) ⟨b, rfl, by lia, fun l hl => by have := h2 l hl; lia⟩
noncomputable def preSp (fs : List (Str × V)) (ds : List D) : Prop := ∃ (w : Int) (f : List Nat) (b : List Fct) (x y : List Nat), fs = fld w f ∧ ds = [bkD b, encS x, encS y] ∧ b.length ≤ 14 ∧ (∀ c ∈ f, c < 128) ∧ ∀ g ∈ b, g.2.2.length ≤ 15
noncomputable def sayS (b : List Fct) (f x y : List Nat) : Bool := meetB (txF b x f) (txF b y f)
noncomputable def sayL (b : List Fct) (f x y : List Nat) : Bool := meetB ((txF b x f).map plF) ((txF b y f).map plF)
noncomputable def resSpS (fs : List (Str × V)) : List D → D
  | [.lst b, .str x, .str y] => .bl (sayS (b.map unF) (fieldOf fs) x y)
  | _ => .non
noncomputable def resSpL (fs : List (Str × V)) : List D → D
  | [.lst b, .str x, .str y] => .bl (sayL (b.map unF) (fieldOf fs) x y)
  | _ => .non
theorem resSpS_enc (w : Int) (f : List Nat) (b : List Fct) (x y : List Nat) : resSpS (fld w f) [bkD b, encS x, encS y] = .bl (sayS b f x y) := by
  show D.bl (sayS ((b.map encF).map unF) (fieldOf (fld w f)) x y) = _
  rw [unF_map, field_fld]
theorem resSpL_enc (w : Int) (f : List Nat) (b : List Fct) (x y : List Nat) : resSpL (fld w f) [bkD b, encS x, encS y] = .bl (sayL b f x y) := by
  show D.bl (sayL ((b.map encF).map unF) (fieldOf (fld w f)) x y) = _
  rw [unF_map, field_fld]
noncomputable def sayN (b : List Fct) (f x y : List Nat) : Bool := byN (txF b x f) (txF b y f)
noncomputable def sayO (b : List Fct) (f x y : List Nat) : Bool := byO (txF b x f) (txF b y f)
theorem sayN_comm (b : List Fct) (f x y : List Nat) : sayN b f y x = sayN b f x y := nearAny_comm _ _
theorem sayO_comm (b : List Fct) (f x y : List Nat) : sayO b f y x = sayO b f x y := by
  unfold sayO byO
  rw [meet_comm]
  cases decide (txF b x f = []) <;> cases decide (txF b y f = []) <;> rfl
theorem srt_nil (a : List (List Nat)) : decide (srtS a = []) = decide (a = []) := by
  have := srtS_len a
  rw [Bool.eq_iff_iff, decide_eq_true_eq, decide_eq_true_eq, ← List.length_eq_zero_iff, this, List.length_eq_zero_iff]
noncomputable def resSpN (fs : List (Str × V)) : List D → D
  | [.lst b, .str x, .str y] => .bl (sayN (b.map unF) (fieldOf fs) x y)
  | _ => .non
noncomputable def resSpO (fs : List (Str × V)) : List D → D
  | [.lst b, .str x, .str y] => .bl (sayO (b.map unF) (fieldOf fs) x y)
  | _ => .non
theorem resSpN_enc (w : Int) (f : List Nat) (b : List Fct) (x y : List Nat) : resSpN (fld w f) [bkD b, encS x, encS y] = .bl (sayN b f x y) := by
  show D.bl (sayN ((b.map encF).map unF) (fieldOf (fld w f)) x y) = _
  rw [unF_map, field_fld]
theorem resSpO_enc (w : Int) (f : List Nat) (b : List Fct) (x y : List Nat) : resSpO (fld w f) [bkD b, encS x, encS y] = .bl (sayO b f x y) := by
  show D.bl (sayO ((b.map encF).map unF) (fieldOf (fld w f)) x y) = _
  rw [unF_map, field_fld]
theorem tx_short {b : List Fct} {n : Nat} (h : ∀ g ∈ b, g.2.2.length ≤ n) (c f : List Nat) : ∀ l ∈ srtS (txF b c f), l.length ≤ n := fun l hl => by
  have hl := (srtS_mem _ _).mp hl
  unfold txF at hl
  obtain ⟨g, hg, rfl⟩ := List.mem_map.mp hl
  exact h g (List.mem_filter.mp hg).1
theorem ok_speaks_Same (Z : Tx K mg ad0) : FnOk P w K mg base CX0 3 ad0.f_Rule_speaks ad0.d_Rule_speaks ["self", "book", "one", "other"] (SpI K ad0.c_Same preSp resSpS) := by
  have G_texts_of := ok_texts_of (P := P) (w := w) (base := base) Z
  have G_Same_speaks_by__Same := ok_by_Same (P := P) (w := w) (base := base) Z
  refine Z.F_Rule_speaks.ok sc_Rule_speaks (fun vs H Q E h => spI_len (n := 4) (by rintro fs ds ⟨w, f, b, x, y, rfl, rfl, _⟩; rfl) h) (fun cdv A outer s H vs Q E hr h => ⟨_, (pss_one (ps_ret (pe_meth (C := ad0.c_Same) (pv 0) Z.Cl_Same Z.Me_Same_speaks_by G_Same_speaks_by__Same (hr.mono (by decide)) Z.B_Same_speaks_by .nil pass0 (pa_cons (pe_call G_texts_of (hr.mono (by decide)) (by rfl) Z.M_texts_of Z.F_texts_of.kp Z.B_texts_of .nil pass0 (pa_cons (pv 1) (pa_cons (pv 2) (pa_cons (pe_fld (pv 0) (by rfl)) pa_nil)))) (pa_cons (pe_call G_texts_of (hr.mono (by decide)) (by rfl) Z.M_texts_of Z.F_texts_of.kp Z.B_texts_of .nil pass0 (pa_cons (pv 1) (pa_cons (pv 3) (pa_cons (pe_fld (pv 0) (by rfl)) pa_nil)))) pa_nil))))), ?_⟩)
  refine go_spI h (by rw [spI_len (n := 4) (by rintro fs ds ⟨w, f, b, x, y, rfl, rfl, _⟩; rfl) h]; decide) fun G ds xx dx fs hp rt => ?_
  obtain ⟨wt, f, b, x, y, rfl, rfl, hb, hf, ht⟩ := hp
  have e : sayS b f x y = meetB (srtS (txF b x f)) (srtS (txF b y f)) := meet_eq (fun z => (srtS_mem _ _).symm) fun z => (srtS_mem _ _).symm
  rw [resSpS_enc, e, ← resSh_enc] at rt
  have l1 := txF_len b x f
  have l2 := txF_len b y f
  have hfl : ∀ {L0 : Hp}, Ev K G H L0 [isl xx ad0.c_Same dx (fld wt f), .d (bkD b), .d (encS x), .d (encS y)] (tFld K (tVar 0) "field") (encS f) := ev_fld rfl Z.Cl_Same Z.Na_Same_field (look_field wt f) fun F => Rep.str hf
  refine go_ret (ev_methI (pre := preBy) (res := resByS) (ds := [.lst ((srtS (txF b x f)).map encS), .lst ((srtS (txF b y f)).map encS)]) rfl (look_no wt f (by decide +kernel) (by decide +kernel)) (evaf_cons (EvO.ev ?_) (evaf_cons (EvO.ev ?_) evaf_nil)) ⟨_, _, rfl, by rw [srtS_len]; lia, by rw [srtS_len]; lia, fun l hl => by have := tx_short ht x f l hl; omega, fun l hl => by have := tx_short ht y f l hl; omega⟩) rt
  · rw [← resTO_enc]
    exact evo_call (pre := preTO) (res := resTO) (ds := [bkD b, encS x, encS f]) (evaf_cons (ev_var rfl) (evaf_cons (ev_var rfl) (evaf_cons hfl evaf_nil))) ⟨b, x, f, rfl, by lia⟩
  · rw [← resTO_enc]
    exact evo_call (pre := preTO) (res := resTO) (ds := [bkD b, encS y, encS f]) (evaf_cons (ev_var rfl) (evaf_cons (ev_var rfl) (evaf_cons hfl evaf_nil))) ⟨b, y, f, rfl, by lia⟩
theorem ok_speaks_Like (Z : Tx K mg ad0) : FnOk P w K mg base CX0 4 ad0.f_Rule_speaks ad0.d_Rule_speaks ["self", "book", "one", "other"] (SpI K ad0.c_Like preSp resSpL) := by
  have G_texts_of := ok_texts_of (P := P) (w := w) (base := base) Z
  have G_Like_speaks_by__Like := ok_by_Like (P := P) (w := w) (base := base) Z
  refine Z.F_Rule_speaks.ok sc_Rule_speaks (fun vs H Q E h => spI_len (n := 4) (by rintro fs ds ⟨w, f, b, x, y, rfl, rfl, _⟩; rfl) h) (fun cdv A outer s H vs Q E hr h => ⟨_, (pss_one (ps_ret (pe_meth (C := ad0.c_Like) (pv 0) Z.Cl_Like Z.Me_Like_speaks_by G_Like_speaks_by__Like (hr.mono (by decide)) Z.B_Like_speaks_by .nil pass0 (pa_cons (pe_call G_texts_of (hr.mono (by decide)) (by rfl) Z.M_texts_of Z.F_texts_of.kp Z.B_texts_of .nil pass0 (pa_cons (pv 1) (pa_cons (pv 2) (pa_cons (pe_fld (pv 0) (by rfl)) pa_nil)))) (pa_cons (pe_call G_texts_of (hr.mono (by decide)) (by rfl) Z.M_texts_of Z.F_texts_of.kp Z.B_texts_of .nil pass0 (pa_cons (pv 1) (pa_cons (pv 3) (pa_cons (pe_fld (pv 0) (by rfl)) pa_nil)))) pa_nil))))), ?_⟩)
  refine go_spI h (by rw [spI_len (n := 4) (by rintro fs ds ⟨w, f, b, x, y, rfl, rfl, _⟩; rfl) h]; decide) fun G ds xx dx fs hp rt => ?_
  obtain ⟨wt, f, b, x, y, rfl, rfl, hb, hf, ht⟩ := hp
  have em : ∀ (c : List Nat) (z : List Nat), z ∈ (txF b c f).map plF ↔ z ∈ (srtS (txF b c f)).map plF := fun c z => by
    rw [List.mem_map, List.mem_map]
    simp only [srtS_mem]
  have e : sayL b f x y = meetB ((srtS (txF b x f)).map plF) ((srtS (txF b y f)).map plF) := meet_eq (em x) (em y)
  rw [resSpL_enc, e, ← resByL_enc (fld wt f)] at rt
  have l1 := txF_len b x f
  have l2 := txF_len b y f
  have hfl : ∀ {L0 : Hp}, Ev K G H L0 [isl xx ad0.c_Like dx (fld wt f), .d (bkD b), .d (encS x), .d (encS y)] (tFld K (tVar 0) "field") (encS f) := ev_fld rfl Z.Cl_Like Z.Na_Like_field (look_field wt f) fun F => Rep.str hf
  refine go_ret (ev_methI (pre := preBy) (res := resByL) (ds := [.lst ((srtS (txF b x f)).map encS), .lst ((srtS (txF b y f)).map encS)]) rfl (look_no wt f (by decide +kernel) (by decide +kernel)) (evaf_cons (EvO.ev ?_) (evaf_cons (EvO.ev ?_) evaf_nil)) ⟨_, _, rfl, by rw [srtS_len]; lia, by rw [srtS_len]; lia, fun l hl => by have := tx_short ht x f l hl; omega, fun l hl => by have := tx_short ht y f l hl; omega⟩) rt
  · rw [← resTO_enc]
    exact evo_call (pre := preTO) (res := resTO) (ds := [bkD b, encS x, encS f]) (evaf_cons (ev_var rfl) (evaf_cons (ev_var rfl) (evaf_cons hfl evaf_nil))) ⟨b, x, f, rfl, by lia⟩
  · rw [← resTO_enc]
    exact evo_call (pre := preTO) (res := resTO) (ds := [bkD b, encS y, encS f]) (evaf_cons (ev_var rfl) (evaf_cons (ev_var rfl) (evaf_cons hfl evaf_nil))) ⟨b, y, f, rfl, by lia⟩
theorem ok_speaks_Near (Z : Tx K mg ad0) : FnOk P w K mg base CX0 5 ad0.f_Rule_speaks ad0.d_Rule_speaks ["self", "book", "one", "other"] (SpI K ad0.c_Near preSp resSpN) := by
  have G_texts_of := ok_texts_of (P := P) (w := w) (base := base) Z
  have G_Near_speaks_by__Near := ok_by_Near (P := P) (w := w) (base := base) Z
  refine Z.F_Rule_speaks.ok sc_Rule_speaks (fun vs H Q E h => spI_len (n := 4) (by rintro fs ds ⟨w, f, b, x, y, rfl, rfl, _⟩; rfl) h) (fun cdv A outer s H vs Q E hr h => ⟨_, (pss_one (ps_ret (pe_meth (C := ad0.c_Near) (pv 0) Z.Cl_Near Z.Me_Near_speaks_by G_Near_speaks_by__Near (hr.mono (by decide)) Z.B_Near_speaks_by .nil pass0 (pa_cons (pe_call G_texts_of (hr.mono (by decide)) (by rfl) Z.M_texts_of Z.F_texts_of.kp Z.B_texts_of .nil pass0 (pa_cons (pv 1) (pa_cons (pv 2) (pa_cons (pe_fld (pv 0) (by rfl)) pa_nil)))) (pa_cons (pe_call G_texts_of (hr.mono (by decide)) (by rfl) Z.M_texts_of Z.F_texts_of.kp Z.B_texts_of .nil pass0 (pa_cons (pv 1) (pa_cons (pv 3) (pa_cons (pe_fld (pv 0) (by rfl)) pa_nil)))) pa_nil))))), ?_⟩)
  refine go_spI h (by rw [spI_len (n := 4) (by rintro fs ds ⟨w, f, b, x, y, rfl, rfl, _⟩; rfl) h]; decide) fun G ds xx dx fs hp rt => ?_
  obtain ⟨wt, f, b, x, y, rfl, rfl, hb, hf, ht⟩ := hp
  have em : ∀ (c : List Nat) (z : List Nat), z ∈ (txF b c f).map plF ↔ z ∈ (srtS (txF b c f)).map plF := fun c z => by
    rw [List.mem_map, List.mem_map]
    simp only [srtS_mem]
  have e : sayN b f x y = byN (srtS (txF b x f)) (srtS (txF b y f)) := nearAny_eq (em x) (em y)
  rw [resSpN_enc, e, ← resByN_enc (fld wt f)] at rt
  have l1 := txF_len b x f
  have l2 := txF_len b y f
  have hfl : ∀ {L0 : Hp}, Ev K G H L0 [isl xx ad0.c_Near dx (fld wt f), .d (bkD b), .d (encS x), .d (encS y)] (tFld K (tVar 0) "field") (encS f) := ev_fld rfl Z.Cl_Near Z.Na_Near_field (look_field wt f) fun F => Rep.str hf
  refine go_ret (ev_methI (pre := preBy) (res := resByN) (ds := [.lst ((srtS (txF b x f)).map encS), .lst ((srtS (txF b y f)).map encS)]) rfl (look_no wt f (by decide +kernel) (by decide +kernel)) (evaf_cons (EvO.ev ?_) (evaf_cons (EvO.ev ?_) evaf_nil)) ⟨_, _, rfl, by rw [srtS_len]; lia, by rw [srtS_len]; lia, fun l hl => by have := tx_short ht x f l hl; omega, fun l hl => by have := tx_short ht y f l hl; omega⟩) rt
  · rw [← resTO_enc]
    exact evo_call (pre := preTO) (res := resTO) (ds := [bkD b, encS x, encS f]) (evaf_cons (ev_var rfl) (evaf_cons (ev_var rfl) (evaf_cons hfl evaf_nil))) ⟨b, x, f, rfl, by lia⟩
  · rw [← resTO_enc]
    exact evo_call (pre := preTO) (res := resTO) (ds := [bkD b, encS y, encS f]) (evaf_cons (ev_var rfl) (evaf_cons (ev_var rfl) (evaf_cons hfl evaf_nil))) ⟨b, y, f, rfl, by lia⟩
theorem ok_speaks_Other (Z : Tx K mg ad0) : FnOk P w K mg base CX0 4 ad0.f_Rule_speaks ad0.d_Rule_speaks ["self", "book", "one", "other"] (SpI K ad0.c_Other preSp resSpO) := by
  have G_texts_of := ok_texts_of (P := P) (w := w) (base := base) Z
  have G_Other_speaks_by__Other := ok_by_Other (P := P) (w := w) (base := base) Z
  refine Z.F_Rule_speaks.ok sc_Rule_speaks (fun vs H Q E h => spI_len (n := 4) (by rintro fs ds ⟨w, f, b, x, y, rfl, rfl, _⟩; rfl) h) (fun cdv A outer s H vs Q E hr h => ⟨_, (pss_one (ps_ret (pe_meth (C := ad0.c_Other) (pv 0) Z.Cl_Other Z.Me_Other_speaks_by G_Other_speaks_by__Other (hr.mono (by decide)) Z.B_Other_speaks_by .nil pass0 (pa_cons (pe_call G_texts_of (hr.mono (by decide)) (by rfl) Z.M_texts_of Z.F_texts_of.kp Z.B_texts_of .nil pass0 (pa_cons (pv 1) (pa_cons (pv 2) (pa_cons (pe_fld (pv 0) (by rfl)) pa_nil)))) (pa_cons (pe_call G_texts_of (hr.mono (by decide)) (by rfl) Z.M_texts_of Z.F_texts_of.kp Z.B_texts_of .nil pass0 (pa_cons (pv 1) (pa_cons (pv 3) (pa_cons (pe_fld (pv 0) (by rfl)) pa_nil)))) pa_nil))))), ?_⟩)
  refine go_spI h (by rw [spI_len (n := 4) (by rintro fs ds ⟨w, f, b, x, y, rfl, rfl, _⟩; rfl) h]; decide) fun G ds xx dx fs hp rt => ?_
  obtain ⟨wt, f, b, x, y, rfl, rfl, hb, hf, ht⟩ := hp
  have em : ∀ (c : List Nat) (z : List Nat), z ∈ (txF b c f).map plF ↔ z ∈ (srtS (txF b c f)).map plF := fun c z => by
    rw [List.mem_map, List.mem_map]
    simp only [srtS_mem]
  have e : sayO b f x y = byO (srtS (txF b x f)) (srtS (txF b y f)) := by
    unfold sayO byO
    rw [srt_nil, srt_nil, meet_eq (em x) (em y)]
  rw [resSpO_enc, e, ← resByO_enc (fld wt f)] at rt
  have l1 := txF_len b x f
  have l2 := txF_len b y f
  have hfl : ∀ {L0 : Hp}, Ev K G H L0 [isl xx ad0.c_Other dx (fld wt f), .d (bkD b), .d (encS x), .d (encS y)] (tFld K (tVar 0) "field") (encS f) := ev_fld rfl Z.Cl_Other Z.Na_Other_field (look_field wt f) fun F => Rep.str hf
  refine go_ret (ev_methI (pre := preBy) (res := resByO) (ds := [.lst ((srtS (txF b x f)).map encS), .lst ((srtS (txF b y f)).map encS)]) rfl (look_no wt f (by decide +kernel) (by decide +kernel)) (evaf_cons (EvO.ev ?_) (evaf_cons (EvO.ev ?_) evaf_nil)) ⟨_, _, rfl, by rw [srtS_len]; lia, by rw [srtS_len]; lia, fun l hl => by have := tx_short ht x f l hl; omega, fun l hl => by have := tx_short ht y f l hl; omega⟩) rt
  · rw [← resTO_enc]
    exact evo_call (pre := preTO) (res := resTO) (ds := [bkD b, encS x, encS f]) (evaf_cons (ev_var rfl) (evaf_cons (ev_var rfl) (evaf_cons hfl evaf_nil))) ⟨b, x, f, rfl, by lia⟩
  · rw [← resTO_enc]
    exact evo_call (pre := preTO) (res := resTO) (ds := [bkD b, encS y, encS f]) (evaf_cons (ev_var rfl) (evaf_cons (ev_var rfl) (evaf_cons hfl evaf_nil))) ⟨b, y, f, rfl, by lia⟩
noncomputable def callF (b : List Fct) (x y : List Nat) : Bool := meetB ((txF b x nmL).map plF) ((txF b y fmL).map plF)
noncomputable def preWc (ds : List D) : Prop := ∃ (b : List Fct) (x y : List Nat), ds = [bkD b, encS x, encS y] ∧ b.length ≤ 60 ∧ ∀ g ∈ b, g.2.2.length ≤ 900
noncomputable def resWc : List D → D
  | [.lst b, .str x, .str y] => .bl (callF (b.map unF) x y)
  | _ => .non
theorem resWc_enc (b : List Fct) (x y : List Nat) : resWc [bkD b, encS x, encS y] = .bl (callF b x y) := by
  show D.bl (callF ((b.map encF).map unF) x y) = _
  rw [unF_map]
theorem ok_was_called (Z : Tx K mg ad0) : FnOk P w K mg base CX0 3 ad0.f_was_called ad0.d_was_called ["book", "one", "other"] (SpD K preWc resWc) := by
  have G_shares := ok_shares (P := P) (w := w) (base := base) Z
  have G_plains_of := ok_plains_of (P := P) (w := w) (base := base) Z
  have G_texts_of := ok_texts_of (P := P) (w := w) (base := base) Z
  refine Z.F_was_called.ok sc_was_called (fun vs H Q E h => spD_len (n := 3) (by rintro ds ⟨b, x, y, rfl, _⟩; rfl) h) (fun cdv A outer s H vs Q E hr h => ⟨_, (pss_cons (ps_set (i := 3) sc_was_called.nd rfl (Or.inl rfl) (pe_call G_texts_of (hr.mono (by decide)) (by rfl) Z.M_texts_of Z.F_texts_of.kp Z.B_texts_of .nil pass0 (pa_cons (pv 0) (pa_cons (pv 1) (pa_cons pe_str pa_nil)))))
      (pss_cons (ps_set (i := 4) sc_was_called.nd rfl (Or.inl rfl) (pe_call G_texts_of (hr.mono (by decide)) (by rfl) Z.M_texts_of Z.F_texts_of.kp Z.B_texts_of .nil pass0 (pa_cons (pv 0) (pa_cons (pv 2) (pa_cons pe_str pa_nil)))))
      (pss_one (ps_ret (pe_call G_shares (hr.mono (by decide)) (by rfl) Z.M_shares Z.F_shares.kp Z.B_shares .nil pass0 (pa_cons (pe_call G_plains_of (hr.mono (by decide)) (by rfl) Z.M_plains_of Z.F_plains_of.kp Z.B_plains_of .nil pass0 (pa_cons (pv 3) pa_nil)) (pa_cons (pe_call G_plains_of (hr.mono (by decide)) (by rfl) Z.M_plains_of Z.F_plains_of.kp Z.B_plains_of .nil pass0 (pa_cons (pv 4) pa_nil)) pa_nil))))))), ?_⟩)
  refine go_spD h (by rw [spD_len (n := 3) (by rintro ds ⟨b, x, y, rfl, _⟩; rfl) h]; decide) fun G ds hp rt => ?_
  obtain ⟨b, x, y, rfl, hb, ht⟩ := hp
  have em : ∀ (c f : List Nat) (z : List Nat), z ∈ (txF b c f).map plF ↔ z ∈ (srtS (txF b c f)).map plF := fun c f z => by
    rw [List.mem_map, List.mem_map]
    simp only [srtS_mem]
  have e : callF b x y = meetB ((srtS (txF b x nmL)).map plF) ((srtS (txF b y fmL)).map plF) := meet_eq (em x nmL) (em y fmL)
  rw [resWc_enc, e, ← resSh_enc] at rt
  have l1 := txF_len b x nmL
  have l2 := txF_len b y fmL
  have s1 := tx_short ht x nmL
  have s2 := tx_short ht y fmL
  refine go_seq (go_setO (ds := (srtS (txF b x nmL)).map encS) (by rw [← resTO_enc b x nmL]; exact evo_call (pre := preTO) (res := resTO) (ds := [bkD b, encS x, encS nmL]) (evaf_cons (ev_var rfl) (evaf_cons (ev_var rfl) (evaf_cons (ev_str (l := nmL) nmL_T.symm nmL_lt) evaf_nil))) ⟨b, x, nmL, rfl, hb⟩) fun p => nx_freeze (i := 3) rfl ?_)
  ((try dsimp only); refine nx_go ?_)
  refine go_seq (go_setO (ds := (srtS (txF b y fmL)).map encS) (by rw [← resTO_enc b y fmL]; exact evo_call (pre := preTO) (res := resTO) (ds := [bkD b, encS y, encS fmL]) (evaf_cons (ev_var rfl) (evaf_cons (ev_var rfl) (evaf_cons (ev_str (l := fmL) fmL_T.symm fmL_lt) evaf_nil))) ⟨b, y, fmL, rfl, hb⟩) fun p2 => nx_freeze (i := 4) rfl ?_)
  ((try dsimp only); refine nx_go ?_)
  have k1 := srtS_len (txF b x nmL)
  have k2 := srtS_len (txF b y fmL)
  generalize srtS (txF b x nmL) = a1 at *
  generalize srtS (txF b y fmL) = a2 at *
  refine go_ret (ev_call (pre := preSh) (res := resSh) (evaf_cons (EvO.ev ?_) (evaf_cons (EvO.ev ?_) evaf_nil)) ⟨_, _, rfl, by rw [List.length_map, List.length_map]; lia⟩) rt
  · rw [← resPs_enc a1]
    exact evo_call (pre := prePs) (res := resPs) (evaf_cons (ev_var rfl) evaf_nil) ⟨a1, rfl, by lia, fun l hl => by have := s1 l hl; lia⟩
  · rw [← resPs_enc a2]
    exact evo_call (pre := prePs) (res := resPs) (evaf_cons (ev_var rfl) evaf_nil) ⟨a2, rfl, by lia, fun l hl => by have := s2 l hl; lia⟩
noncomputable def sayF (b : List Fct) (x y : List Nat) : Bool := callF b x y || callF b y x
theorem sayF_comm (b : List Fct) (x y : List Nat) : sayF b y x = sayF b x y := by unfold sayF; exact Bool.or_comm _ _
noncomputable def resSpF (fs : List (Str × V)) : List D → D
  | [.lst b, .str x, .str y] => .bl (sayF (b.map unF) x y)
  | _ => .non
theorem resSpF_enc (fs : List (Str × V)) (b : List Fct) (x y : List Nat) : resSpF fs [bkD b, encS x, encS y] = .bl (sayF b x y) := by
  show D.bl (sayF ((b.map encF).map unF) x y) = _
  rw [unF_map]
theorem ok_speaks_Former (Z : Tx K mg ad0) : FnOk P w K mg base CX0 4 ad0.f_Former_speaks ad0.d_Former_speaks ["self", "book", "one", "other"] (SpI K ad0.c_Former preSp resSpF) := by
  have G_was_called := ok_was_called (P := P) (w := w) (base := base) Z
  refine Z.F_Former_speaks.ok sc_Former_speaks (fun vs H Q E h => spI_len (n := 4) (by rintro fs ds ⟨w, f, b, x, y, rfl, rfl, _⟩; rfl) h) (fun cdv A outer s H vs Q E hr h => ⟨_, (pss_one (ps_ret (pe_or (pe_call G_was_called (hr.mono (by decide)) (by rfl) Z.M_was_called Z.F_was_called.kp Z.B_was_called .nil pass0 (pa_cons (pv 1) (pa_cons (pv 2) (pa_cons (pv 3) pa_nil)))) (pe_one (pe_call G_was_called (hr.mono (by decide)) (by rfl) Z.M_was_called Z.F_was_called.kp Z.B_was_called .nil pass0 (pa_cons (pv 1) (pa_cons (pv 3) (pa_cons (pv 2) pa_nil)))))))), ?_⟩)
  refine go_spI h (by rw [spI_len (n := 4) (by rintro fs ds ⟨w, f, b, x, y, rfl, rfl, _⟩; rfl) h]; decide) fun G ds xx dx fs hp rt => ?_
  obtain ⟨wt, f, b, x, y, rfl, rfl, hb, hf, ht⟩ := hp
  have hb : b.length ≤ 60 := by lia
  have ht : ∀ g ∈ b, g.2.2.length ≤ 900 := fun g hg => by have := ht g hg; lia
  rw [resSpF_enc] at rt
  refine go_ret (ev_or ?_ fun _ => ?_) rt
  · rw [← resWc_enc]
    exact ev_call (pre := preWc) (res := resWc) (ds := [bkD b, encS x, encS y]) (evaf_cons (ev_var rfl) (evaf_cons (ev_var rfl) (evaf_cons (ev_var rfl) evaf_nil))) ⟨b, x, y, rfl, hb, ht⟩
  · rw [← resWc_enc]
    exact ev_call (pre := preWc) (res := resWc) (ds := [bkD b, encS y, encS x]) (evaf_cons (ev_var rfl) (evaf_cons (ev_var rfl) (evaf_cons (ev_var rfl) evaf_nil))) ⟨b, y, x, rfl, hb, ht⟩
noncomputable def wordOf : Nat → List Nat
  | 0 => ("same" : Str).cps.toList
  | 1 => ("like" : Str).cps.toList
  | 2 => ("near" : Str).cps.toList
  | 3 => ("other" : Str).cps.toList
  | _ => ("former" : Str).cps.toList
theorem wordOf_inj : ∀ s t : Nat, s < 5 → t < 5 → wordOf s = wordOf t → s = t := by
  have h : ∀ s : Fin 5, ∀ t : Fin 5, wordOf s = wordOf t → s = t := by decide +kernel
  intro s t hs ht e
  exact congrArg Fin.val (h ⟨s, hs⟩ ⟨t, ht⟩ e)
noncomputable def preWd (fs : List (Str × V)) (ds : List D) : Prop := ds = []
theorem ok_word_Same (Z : Tx K mg ad0) : FnOk P w K mg base CX0 1 ad0.f_Same_sort_word ad0.d_Same_sort_word ["self"] (SpI K ad0.c_Same preWd fun _ _ => .str (wordOf 0)) := by
  refine Z.F_Same_sort_word.ok sc_Same_sort_word (fun vs H Q E h => spI_len (n := 1) (by rintro fs ds rfl; rfl) h) (fun cdv A outer s H vs Q E hr h => ⟨_, (pss_one (ps_ret pe_str)), ?_⟩)
  refine go_spI h (by rw [spI_len (n := 1) (by rintro fs ds rfl; rfl) h]; decide) fun G ds xx dx fs hp rt => ?_
  exact go_ret (ev_lit (by decide +kernel)) rt
theorem ok_word_Like (Z : Tx K mg ad0) : FnOk P w K mg base CX0 1 ad0.f_Like_sort_word ad0.d_Like_sort_word ["self"] (SpI K ad0.c_Like preWd fun _ _ => .str (wordOf 1)) := by
  refine Z.F_Like_sort_word.ok sc_Like_sort_word (fun vs H Q E h => spI_len (n := 1) (by rintro fs ds rfl; rfl) h) (fun cdv A outer s H vs Q E hr h => ⟨_, (pss_one (ps_ret pe_str)), ?_⟩)
  refine go_spI h (by rw [spI_len (n := 1) (by rintro fs ds rfl; rfl) h]; decide) fun G ds xx dx fs hp rt => ?_
  exact go_ret (ev_lit (by decide +kernel)) rt
theorem ok_word_Near (Z : Tx K mg ad0) : FnOk P w K mg base CX0 1 ad0.f_Near_sort_word ad0.d_Near_sort_word ["self"] (SpI K ad0.c_Near preWd fun _ _ => .str (wordOf 2)) := by
  refine Z.F_Near_sort_word.ok sc_Near_sort_word (fun vs H Q E h => spI_len (n := 1) (by rintro fs ds rfl; rfl) h) (fun cdv A outer s H vs Q E hr h => ⟨_, (pss_one (ps_ret pe_str)), ?_⟩)
  refine go_spI h (by rw [spI_len (n := 1) (by rintro fs ds rfl; rfl) h]; decide) fun G ds xx dx fs hp rt => ?_
  exact go_ret (ev_lit (by decide +kernel)) rt
theorem ok_word_Other (Z : Tx K mg ad0) : FnOk P w K mg base CX0 1 ad0.f_Other_sort_word ad0.d_Other_sort_word ["self"] (SpI K ad0.c_Other preWd fun _ _ => .str (wordOf 3)) := by
  refine Z.F_Other_sort_word.ok sc_Other_sort_word (fun vs H Q E h => spI_len (n := 1) (by rintro fs ds rfl; rfl) h) (fun cdv A outer s H vs Q E hr h => ⟨_, (pss_one (ps_ret pe_str)), ?_⟩)
  refine go_spI h (by rw [spI_len (n := 1) (by rintro fs ds rfl; rfl) h]; decide) fun G ds xx dx fs hp rt => ?_
  exact go_ret (ev_lit (by decide +kernel)) rt
theorem ok_word_Former (Z : Tx K mg ad0) : FnOk P w K mg base CX0 1 ad0.f_Former_sort_word ad0.d_Former_sort_word ["self"] (SpI K ad0.c_Former preWd fun _ _ => .str (wordOf 4)) := by
  refine Z.F_Former_sort_word.ok sc_Former_sort_word (fun vs H Q E h => spI_len (n := 1) (by rintro fs ds rfl; rfl) h) (fun cdv A outer s H vs Q E hr h => ⟨_, (pss_one (ps_ret pe_str)), ?_⟩)
  refine go_spI h (by rw [spI_len (n := 1) (by rintro fs ds rfl; rfl) h]; decide) fun G ds xx dx fs hp rt => ?_
  exact go_ret (ev_lit (by decide +kernel)) rt
theorem valD_cons (a v : D) (r : DD) (k : D) : valD ((a, v) :: r) k = if a = k then some v else valD r k := by
  unfold valD
  rw [List.find?_cons]
  by_cases h : a = k <;> simp [h]
theorem valD_map (k d k' : D) : ∀ kvs : DD, valD (kvs.map fun kv => if kv.1 = k then (kv.1, d) else kv) k' = if k = k' then (if (kvs.any fun kv => decide (kv.1 = k)) = true then some d else none) else valD kvs k'
  | [] => by simp [valD]
  | (a, v) :: r => by
    have ih := valD_map k d k' r
    rw [List.map_cons, List.any_cons]
    by_cases h : a = k
    · subst h
      rw [if_pos rfl, valD_cons, valD_cons, ih]
      by_cases h2 : a = k'
      · rw [if_pos h2, if_pos h2, decide_eq_true rfl, Bool.true_or, if_pos rfl]
      · rw [if_neg h2, if_neg h2, if_neg h2, if_neg h2]
    · rw [if_neg h, valD_cons, valD_cons, ih, decide_eq_false h, Bool.false_or]
      by_cases h2 : a = k'
      · rw [if_pos h2, if_pos h2, if_neg (fun z => h (h2.trans z.symm))]
      · rw [if_neg h2, if_neg h2]
theorem valD_app (k d k' : D) : ∀ kvs : DD, (kvs.any fun kv => decide (kv.1 = k)) = false → valD (kvs ++ [(k, d)]) k' = if k = k' then some d else valD kvs k'
  | [], _ => by rw [List.nil_append, valD_cons]
  | (a, v) :: r, h => by
    rw [List.any_cons, Bool.or_eq_false_iff] at h
    have ih := valD_app k d k' r h.2
    have hak := of_decide_eq_false h.1
    rw [List.cons_append, valD_cons, valD_cons, ih]
    by_cases h2 : a = k'
    · rw [if_pos h2, if_pos h2, if_neg (fun z => hak (h2.trans z.symm))]
    · rw [if_neg h2, if_neg h2]
theorem valD_put (kvs : DD) (k d k' : D) : valD (putD kvs k d) k' = if k = k' then some d else valD kvs k' := by
  unfold putD
  by_cases h : (kvs.any fun kv => decide (kv.1 = k)) = true
  · rw [if_pos h, valD_map, if_pos h]
  · rw [if_neg h]
    exact valD_app k d k' kvs (Bool.eq_false_iff.mpr h)
noncomputable abbrev Rl := Nat × List Nat × Int
noncomputable def cOf (c1 c2 c3 c4 c5 : Addr) : Nat → Addr
  | 0 => c1 | 1 => c2 | 2 => c3 | 3 => c4 | _ => c5
noncomputable def fEf (r : Rl) : List Nat := if r.1 < 4 then r.2.1 else nmL
noncomputable def sayBy (s : Nat) (b : List Fct) (f x y : List Nat) : Bool := match s with
  | 0 => sayS b f x y | 1 => sayL b f x y | 2 => sayN b f x y | 3 => sayO b f x y | _ => sayF b x y
theorem sayBy_ef (r : Rl) (b : List Fct) (x y : List Nat) : sayBy r.1 b (fEf r) x y = sayBy r.1 b r.2.1 x y := by
  unfold fEf
  split
  · rfl
  · rename_i h
    match hs : r.1, h with
    | 0, h => exact absurd (by decide) h
    | 1, h => exact absurd (by decide) h
    | 2, h => exact absurd (by decide) h
    | 3, h => exact absurd (by decide) h
    | _ + 4, h => rfl
noncomputable def insR (c1 c2 c3 c4 c5 : Addr) (r : Rl) : D := .ins (cOf c1 c2 c3 c4 c5 r.1) ["weight", "field"] [.int r.2.2, .str (fEf r)]
noncomputable def totR (rs : List Rl) (b : List Fct) (x y : List Nat) : Int := rs.foldl (fun t r => if sayBy r.1 b (fEf r) x y = true then t + r.2.2 else t) 0
theorem totR_more (rs : List Rl) (b : List Fct) (x y : List Nat) (k : Nat) (r : Rl) (hk : rs[k]? = some r) : totR (rs.take (k + 1)) b x y = if sayBy r.1 b (fEf r) x y = true then totR (rs.take k) b x y + r.2.2 else totR (rs.take k) b x y := by
  unfold totR
  rw [List.take_add_one, hk, List.foldl_append]
  rfl
noncomputable def preWo (c1 c2 c3 c4 c5 : Addr) (q : List Rl × List Fct × List Nat × List Nat) (ds : List D) : Prop := ds = [.lst (q.1.map (insR c1 c2 c3 c4 c5)), bkD q.2.1, encS q.2.2.1, encS q.2.2.2] ∧ q.1.length ≤ 20 ∧ (∀ r ∈ q.1, r.1 < 5 ∧ ∀ c ∈ fEf r, c < 128) ∧ q.2.1.length ≤ 14 ∧ ∀ g ∈ q.2.1, g.2.2.length ≤ 15
noncomputable def resWo (q : List Rl × List Fct × List Nat × List Nat) : D := .int (totR q.1 q.2.1 q.2.2.1 q.2.2.2)
section
variable {G H₀ L : Hp} {ss : List Sl} {ta : TE} {t : TA} {r : Rl}
theorem ev_word (c1 c2 c3 c4 c5 : Addr) (hr : r.1 < 5) (a : Ev K G H₀ L ss ta (insR c1 c2 c3 c4 c5 r)) :
    Ev K G H₀ L ss (tMethD [(c1, SpI K c1 preWd fun _ _ => .str (wordOf 0)), (c2, SpI K c2 preWd fun _ _ => .str (wordOf 1)), (c3, SpI K c3 preWd fun _ _ => .str (wordOf 2)), (c4, SpI K c4 preWd fun _ _ => .str (wordOf 3)), (c5, SpI K c5 preWd fun _ _ => .str (wordOf 4))] "sort_word" E0 ta tNil) (.str (wordOf r.1)) := by
  obtain ⟨s, f, wt⟩ := r
  have h5 : s = 0 ∨ s = 1 ∨ s = 2 ∨ s = 3 ∨ s = 4 := by have hr : s < 5 := hr; lia
  rcases h5 with rfl | rfl | rfl | rfl | rfl
  · exact ev_methD (pre := preWd) (res := fun _ _ => .str (wordOf 0)) (ds := []) a (by simp [cOf]) (by decide +kernel) (by decide +kernel) evaf_nil rfl
  · exact ev_methD (pre := preWd) (res := fun _ _ => .str (wordOf 1)) (ds := []) a (by simp [cOf]) (by decide +kernel) (by decide +kernel) evaf_nil rfl
  · exact ev_methD (pre := preWd) (res := fun _ _ => .str (wordOf 2)) (ds := []) a (by simp [cOf]) (by decide +kernel) (by decide +kernel) evaf_nil rfl
  · exact ev_methD (pre := preWd) (res := fun _ _ => .str (wordOf 3)) (ds := []) a (by simp [cOf]) (by decide +kernel) (by decide +kernel) evaf_nil rfl
  · exact ev_methD (pre := preWd) (res := fun _ _ => .str (wordOf 4)) (ds := []) a (by simp [cOf]) (by decide +kernel) (by decide +kernel) evaf_nil rfl
theorem ev_speak (c1 c2 c3 c4 c5 : Addr) {b : List Fct} {x y : List Nat} (hr : r.1 < 5) (hf : ∀ c ∈ fEf r, c < 128) (hb : b.length ≤ 14) (ht : ∀ g ∈ b, g.2.2.length ≤ 15) (a : Ev K G H₀ L ss ta (insR c1 c2 c3 c4 c5 r)) (q : EvAF K G H₀ L ss t [bkD b, encS x, encS y]) :
    Ev K G H₀ L ss (tMethD [(c1, SpI K c1 preSp resSpS), (c2, SpI K c2 preSp resSpL), (c3, SpI K c3 preSp resSpN), (c4, SpI K c4 preSp resSpO), (c5, SpI K c5 preSp resSpF)] "speaks" E0 ta t) (.bl (sayBy r.1 b (fEf r) x y)) := by
  obtain ⟨s, f, wt⟩ := r
  have hp : preSp (fld wt (fEf (s, f, wt))) [bkD b, encS x, encS y] := ⟨wt, fEf (s, f, wt), b, x, y, rfl, rfl, hb, hf, ht⟩
  have h5 : s = 0 ∨ s = 1 ∨ s = 2 ∨ s = 3 ∨ s = 4 := by have hr : s < 5 := hr; lia
  rcases h5 with rfl | rfl | rfl | rfl | rfl
  · have e := resSpS_enc wt (fEf (0, f, wt)) b x y
    show Ev _ _ _ _ _ _ (.bl (sayS b (fEf (0, f, wt)) x y))
    rw [← e]; exact ev_methD (pre := preSp) (res := resSpS) a (by simp [cOf]) (by decide +kernel) (by decide +kernel) q hp
  · have e := resSpL_enc wt (fEf (1, f, wt)) b x y
    show Ev _ _ _ _ _ _ (.bl (sayL b (fEf (1, f, wt)) x y))
    rw [← e]; exact ev_methD (pre := preSp) (res := resSpL) a (by simp [cOf]) (by decide +kernel) (by decide +kernel) q hp
  · have e := resSpN_enc wt (fEf (2, f, wt)) b x y
    show Ev _ _ _ _ _ _ (.bl (sayN b (fEf (2, f, wt)) x y))
    rw [← e]; exact ev_methD (pre := preSp) (res := resSpN) a (by simp [cOf]) (by decide +kernel) (by decide +kernel) q hp
  · have e := resSpO_enc wt (fEf (3, f, wt)) b x y
    show Ev _ _ _ _ _ _ (.bl (sayO b (fEf (3, f, wt)) x y))
    rw [← e]; exact ev_methD (pre := preSp) (res := resSpO) a (by simp [cOf]) (by decide +kernel) (by decide +kernel) q hp
  · have e := resSpF_enc (fld wt (fEf (4, f, wt))) b x y
    show Ev _ _ _ _ _ _ (.bl (sayF b x y))
    rw [← e]; exact ev_methD (pre := preSp) (res := resSpF) a (by simp [cOf]) (by decide +kernel) (by decide +kernel) q hp
end
theorem cls_of (Z : Tx K mg ad0) (s : Nat) : Cls K (cOf ad0.c_Same ad0.c_Like ad0.c_Near ad0.c_Other ad0.c_Former s) ∧ NoAttr K (cOf ad0.c_Same ad0.c_Like ad0.c_Near ad0.c_Other ad0.c_Former s) "weight" ∧ NoAttr K (cOf ad0.c_Same ad0.c_Like ad0.c_Near ad0.c_Other ad0.c_Former s) "field" := by
  match s with
  | 0 => exact ⟨Z.Cl_Same, Z.Na_Same_weight, Z.Na_Same_field⟩
  | 1 => exact ⟨Z.Cl_Like, Z.Na_Like_weight, Z.Na_Like_field⟩
  | 2 => exact ⟨Z.Cl_Near, Z.Na_Near_weight, Z.Na_Near_field⟩
  | 3 => exact ⟨Z.Cl_Other, Z.Na_Other_weight, Z.Na_Other_field⟩
  | _ + 4 => exact ⟨Z.Cl_Former, Z.Na_Former_weight, Z.Na_Former_field⟩
theorem ok_weight_of (Z : Tx K mg ad0) : FnOk P w K mg base CX0 6 ad0.f_weight_of ad0.d_weight_of ["rules", "book", "one", "other"] (SpG K (preWo ad0.c_Same ad0.c_Like ad0.c_Near ad0.c_Other ad0.c_Former) resWo) := by
  have G_Same_sort_word__Same := ok_word_Same (P := P) (w := w) (base := base) Z
  have G_Like_sort_word__Like := ok_word_Like (P := P) (w := w) (base := base) Z
  have G_Near_sort_word__Near := ok_word_Near (P := P) (w := w) (base := base) Z
  have G_Other_sort_word__Other := ok_word_Other (P := P) (w := w) (base := base) Z
  have G_Former_sort_word__Former := ok_word_Former (P := P) (w := w) (base := base) Z
  have G_Rule_speaks__Same := ok_speaks_Same (P := P) (w := w) (base := base) Z
  have G_Rule_speaks__Like := ok_speaks_Like (P := P) (w := w) (base := base) Z
  have G_Rule_speaks__Near := ok_speaks_Near (P := P) (w := w) (base := base) Z
  have G_Rule_speaks__Other := ok_speaks_Other (P := P) (w := w) (base := base) Z
  have G_Former_speaks__Former := ok_speaks_Former (P := P) (w := w) (base := base) Z
  refine Z.F_weight_of.ok sc_weight_of (fun vs H Q E h => spG_len (n := 4) (by rintro q ds ⟨rfl, _⟩; rfl) h) (fun cdv A outer s H vs Q E hr h => ⟨_, (pss_cons (ps_set (i := 4) sc_weight_of.nd rfl (Or.inl rfl) pe_dnewT)
      (pss_cons (ps_set (i := 5) sc_weight_of.nd rfl (Or.inl rfl) pe_int)
      (pss_cons (ps_for PassesOwn.never rfl (pi_list (pv 0)) (pg_name (i := 6) sc_weight_of.nd rfl (Or.inl rfl)) (pss_cons (ps_set (i := 7) sc_weight_of.nd rfl (Or.inl rfl) (pe_tup (pa_cons (pe_methD0 (pv 6) (mok_cons Z.Cl_Same Z.Me_Same_sort_word G_Same_sort_word__Same (hr.mono (by decide)) Z.B_Same_sort_word (mok_cons Z.Cl_Like Z.Me_Like_sort_word G_Like_sort_word__Like (hr.mono (by decide)) Z.B_Like_sort_word (mok_cons Z.Cl_Near Z.Me_Near_sort_word G_Near_sort_word__Near (hr.mono (by decide)) Z.B_Near_sort_word (mok_cons Z.Cl_Other Z.Me_Other_sort_word G_Other_sort_word__Other (hr.mono (by decide)) Z.B_Other_sort_word (mok_cons Z.Cl_Former Z.Me_Former_sort_word G_Former_sort_word__Former (hr.mono (by decide)) Z.B_Former_sort_word mok_nil))))) pass0) (pa_cons (pe_fld (pv 6) (by rfl)) pa_nil))))
      (pss_cons (ps_if (pt_cmp (pc_dnotin (hu_of hr) (pv 7) (pv 4)) (by with_unfolding_all rfl)) (pss_one (ps_dput (hu_of hr) (pv 4) (pv 7) (pe_methD (pv 6) (mok_cons Z.Cl_Same Z.Me_Same_speaks G_Rule_speaks__Same (hr.mono (by decide)) Z.B_Rule_speaks (mok_cons Z.Cl_Like Z.Me_Like_speaks G_Rule_speaks__Like (hr.mono (by decide)) Z.B_Rule_speaks (mok_cons Z.Cl_Near Z.Me_Near_speaks G_Rule_speaks__Near (hr.mono (by decide)) Z.B_Rule_speaks (mok_cons Z.Cl_Other Z.Me_Other_speaks G_Rule_speaks__Other (hr.mono (by decide)) Z.B_Rule_speaks (mok_cons Z.Cl_Former Z.Me_Former_speaks G_Former_speaks__Former (hr.mono (by decide)) Z.B_Former_speaks mok_nil))))) pass0 (pa_cons (pv 1) (pa_cons (pv 2) (pa_cons (pv 3) pa_nil)))) rfl)) pss_nil)
      (pss_one (ps_if (pt_val (pe_dget (hu_of hr) (pv 4) (pv 7) (fun _ _ => rfl))) (pss_one (ps_set (i := 5) sc_weight_of.nd rfl (Or.inl rfl) (pe_op op_add (pv 5) (pe_fld (pv 6) (by rfl))))) pss_nil)))))
      (pss_one (ps_ret (pv 5)))))), ?_⟩)
  refine go_spG h (by rw [spG_len (n := 4) (by rintro q ds ⟨rfl, _⟩; rfl) h]; decide) fun G ds q hp rt => ?_
  obtain ⟨rs, b, x, y⟩ := q
  obtain ⟨rfl, hl, hrs, hb, ht⟩ := hp
  have hl : rs.length ≤ 20 := hl
  have hb : b.length ≤ 14 := hb
  have rt : RtD K G H Q (.int (totR rs b x y)) := rt
  refine go_seq (go_setMT fun p => ?_)
  ((try dsimp only); refine nx_go ?_)
  refine go_seq (go_set (d := .int 0) ev_int ?_)
  ((try dsimp only); refine nx_go ?_)
  refine go_seq (go_for (insR ad0.c_Same ad0.c_Like ad0.c_Near ad0.c_Other ad0.c_Former) rs (fun k ss => ∃ (kvs : DD) (v6 v7 : Sl), ss = [.d (.lst (rs.map (insR ad0.c_Same ad0.c_Like ad0.c_Near ad0.c_Other ad0.c_Former))), .d (bkD b), .d (encS x), .d (encS y), dslT K p kvs, .d (.int (totR (rs.take k) b x y)), v6, v7] ∧ kvs.length ≤ k ∧ ∀ s f v, s < 5 → valD kvs (.tup [.str (wordOf s), .str f]) = some v → v = .bl (sayBy s b f x y)) (ev_var rfl) ⟨[], .un, .un, rfl, Nat.le_refl _, fun _ _ _ _ h => by cases h⟩ ?_ ?_)
  · rintro L' k r ss hL hk ⟨kvs, v6, v7, rfl, hkl, hin⟩
    refine ⟨_, tg_name, fun N hN => ?_⟩
    obtain ⟨hr5, hfa⟩ := hrs r (List.mem_of_getElem? hk)
    have hk20 : k < rs.length := (List.getElem?_eq_some_iff.mp hk).1
    have hc := cls_of Z r.1
    have hm := totR_more rs b x y k r hk
    refine go_seq (go_setTup (i := 7) (ds := [.str (wordOf r.1), .str (fEf r)]) (evaf_cons (ev_word ad0.c_Same ad0.c_Like ad0.c_Near ad0.c_Other ad0.c_Former hr5 (ev_var rfl)) (evaf_cons (ev_fldD (ev_var rfl) hc.1 hc.2.2 (.inr ⟨by decide +kernel, rfl, rfl⟩)) evaf_nil)) (small (by simp)) fun b7 => ?_)
    ((try dsimp only); refine nx_go ?_)
    refine go_join (fun ss => ∃ kvs' : DD, ss = [.d (.lst (rs.map (insR ad0.c_Same ad0.c_Like ad0.c_Near ad0.c_Other ad0.c_Former))), .d (bkD b), .d (encS x), .d (encS y), dslT K p kvs', .d (.int (totR (rs.take k) b x y)), .d (insR ad0.c_Same ad0.c_Like ad0.c_Near ad0.c_Other ad0.c_Former r), tsl K b7 [.str (wordOf r.1), .str (fEf r)]] ∧ kvs'.length ≤ k + 1 ∧ (∀ s f v, s < 5 → valD kvs' (.tup [.str (wordOf s), .str f]) = some v → v = .bl (sayBy s b f x y)) ∧ valD kvs' (.tup [.str (wordOf r.1), .str (fEf r)]) = some (.bl (sayBy r.1 b (fEf r) x y))) (fun N2 hN2 => go_if (evt_test (ev_dnotinT rfl rfl rfl)) (fun h => ?_) (fun h => ?_)) ?_
    · refine go_dputT rfl rfl rfl (ev_speak ad0.c_Same ad0.c_Like ad0.c_Near ad0.c_Other ad0.c_Former hr5 hfa hb ht (ev_var rfl) (evaf_cons (ev_var rfl) (evaf_cons (ev_var rfl) (evaf_cons (ev_var rfl) evaf_nil)))) (by rw [sizeLine_eq]; lia) (hN2 _ ⟨_, rfl, ?_, fun s f v hs hv => ?_, ?_⟩)
      · exact Nat.le_trans (putD_len _ _ _) (by lia)
      · rw [valD_put] at hv
        split at hv
        · rename_i e
          injection hv with hv
          injection e with e
          injection e with e1 e2
          injection e1 with e1
          injection e2 with e2 _
          injection e2 with e2
          rw [← hv, wordOf_inj _ _ hr5 hs e1, e2]
        · exact hin s f v hs hv
      · rw [valD_put, if_pos rfl]
    · refine go_next (hN2 _ ⟨kvs, rfl, by lia, hin, ?_⟩)
      cases z : valD kvs (.tup [.str (wordOf r.1), .str (fEf r)]) with
      | none => rw [z] at h; cases h
      | some v => rw [hin _ _ _ hr5 z]
    rintro ss ⟨kvs', rfl, hkl', hin', hv'⟩
    refine go_if (evt_b (ev_dgetT rfl rfl rfl hv')) (fun h => ?_) (fun h => ?_)
    · refine go_set (d := .int (totR (rs.take k) b x y + r.2.2)) (ev_add (ev_var rfl).b (ev_fldD (ev_var rfl) hc.1 hc.2.1 (.inl ⟨rfl, rfl⟩)).b) (hN _ ⟨kvs', .d (insR ad0.c_Same ad0.c_Like ad0.c_Near ad0.c_Other ad0.c_Former r), tsl K b7 [.str (wordOf r.1), .str (fEf r)], ?_, hkl', hin'⟩)
      rw [hm, if_pos h]; rfl
    · refine go_next (hN _ ⟨kvs', .d (insR ad0.c_Same ad0.c_Like ad0.c_Near ad0.c_Other ad0.c_Former r), tsl K b7 [.str (wordOf r.1), .str (fEf r)], ?_, hkl', hin'⟩)
      rw [hm, if_neg (by rw [h]; decide)]
  rintro ss ⟨kvs, v6, v7, rfl, _, _⟩
  ((try dsimp only); refine nx_go ?_)
  rw [List.take_length]
  exact go_ret (ev_var rfl) rt
noncomputable abbrev bmod : Int := 4
theorem ok_law_whole (Z : Tx K mg ad0) : FnOk P w K mg base CX0 1 ad0.f_law_whole ad0.d_law_whole ["_law_found"] (SpD K (fun ds => ∃ c : Int, ds = [.int c]) fun _ => .bl true) := by
  refine Z.F_law_whole.ok sc_law_whole (fun vs H Q E h => spD_len (n := 1) (by rintro ds ⟨c, rfl⟩; rfl) h) (fun cdv A outer s H vs Q E hr h => ⟨_, (pss_one (ps_ret (pe_and (pe_callB call_isi_int_int (by rfl) Z.z_isinstance boot_isinstance (pa_cons (pv 0) (pa_cons (pe_bltn (v := .ty "int") (by rfl) Z.z_int boot_int rfl) pa_nil))) (pe_one (pe_not (pe_callB call_isi_int_bool (by rfl) Z.z_isinstance boot_isinstance (pa_cons (pv 0) (pa_cons (pe_bltn (v := .ty "bool") (by rfl) Z.z_bool boot_bool rfl) pa_nil)))))))), ?_⟩)
  refine go_spD h (by rw [spD_len (n := 1) (by rintro ds ⟨c, rfl⟩; rfl) h]; decide) fun G ds hp rt => ?_
  obtain ⟨c, rfl⟩ := hp
  exact go_ret (ev_and (ev_isI (ev_var rfl).b) fun _ => ev_not (ev_isIB (ev_var rfl).b)) rt
noncomputable def sg71 : List Nat := [97, 98, 99, 100, 101, 102, 103, 104, 105, 106, 107, 108, 109, 110, 111, 112, 113, 114, 115, 116, 117, 118, 119, 120, 121, 122, 65, 66, 67, 68, 69, 70, 71, 72, 73, 74, 75, 76, 77, 78, 79, 80, 81, 82, 83, 84, 85, 86, 87, 88, 89, 90, 48, 49, 50, 51, 52, 53, 54, 55, 56, 57, 46, 45, 39, 35, 126, 64, 91, 96, 123]
theorem sg71_len : sg71.length = 71 := by decide +kernel
theorem sg71_lt : ∀ c ∈ sg71, c < 128 := by decide +kernel
noncomputable def sgn (x : Int) : Nat := sg71.getD (x % 71).toNat 0
theorem at_sg (x : Int) : atI sg71 (x % 71) = some (sgn x) := atI_mod sg71 0 x (by rw [sg71_len]; rfl) (by decide)
noncomputable def bsz (d : Int) : Int := num d 2 % bmod
theorem bsz_rng (d : Int) : 0 ≤ bsz d ∧ bsz d ≤ 3 := by unfold bsz bmod; lia
noncomputable def tx0 (d : Int) : List Nat := (List.range (1 + bsz d).toNat).map fun i => sgn (num d (i + 3))
theorem tx0_len (d : Int) : (tx0 d).length = (1 + bsz d).toNat := by unfold tx0; simp
noncomputable def tx1 (d : Int) : List Nat := if num d 2 / 9 % 3 = 1 then cutL (tx0 d) none (some 3) ++ [32] ++ cutL (tx0 d) (some 3) none ++ [98] else tx0 d
theorem tx1_len (d : Int) : 1 ≤ (tx1 d).length ∧ (tx1 d).length ≤ 6 := by
  have h0 := tx0_len d
  have h1 := bsz_rng d
  unfold tx1
  split
  · rw [cutL_take _ (by decide), cutL_drop _ (by decide)]
    simp only [List.length_append, List.length_singleton, List.length_take, List.length_drop]; omega
  · omega
theorem cut_bent (d : Int) : cutD (streamD d 10) (some 1) (some (2 + bsz d)) = (List.range (1 + bsz d).toNat).map fun i => .int (num d (i + 3)) := by
  have h := bsz_rng d
  rw [cutD_mid _ (by decide) (by lia)]
  unfold streamD
  refine List.ext_getElem? fun i => ?_
  rw [List.getElem?_take]
  by_cases hi : i < (1 + bsz d).toNat
  · rw [if_pos (by lia), List.getElem?_drop, List.getElem?_map, List.getElem?_map, List.getElem?_range (by lia), List.getElem?_range hi]
    show some (D.int (num d (1 + i + 2))) = some (D.int (num d (i + 3)))
    rw [show 1 + i + 2 = i + 3 by lia]
  · rw [if_neg (by lia), List.getElem?_eq_none (by simp; lia)]
noncomputable def tat (d m : Int) : Int := m / 10 % (tx1 d).length
theorem tat_rng (d m : Int) : 0 ≤ tat d m ∧ tat d m < (tx1 d).length := by
  have h := tx1_len d
  exact ⟨Int.emod_nonneg _ (by lia), Int.emod_lt_of_pos _ (by lia)⟩
noncomputable def all10 (t : List Nat) (a : Int) (s : Nat) : List (List Nat) := [t, t, t.map up1, t.map lo1, cutL t none (some a) ++ [s] ++ cutL t (some (a + 1)) none, cutL t none (some a) ++ [s] ++ cutL t (some a) none,
  cutL t none (some a) ++ cutL t (some (a + 1)) none, StrLaws.dbl 32 t, t, (cutL t none (some a)).map up1 ++ cutL t (some a) none]
theorem all10_len {t : List Nat} {a : Int} {s : Nat} (h : t.length ≤ 6) : ∀ l ∈ all10 t a s, l.length ≤ 15 := by
  have h1 := cutL_le t none (some a)
  have h2 := cutL_le t (some a) none
  have h3 := cutL_le t (some (a + 1)) none
  have h4 := dbl_len 32 t
  intro l hl
  unfold all10 at hl
  simp only [List.mem_cons, List.not_mem_nil, or_false] at hl
  rcases hl with rfl | rfl | rfl | rfl | rfl | rfl | rfl | rfl | rfl | rfl <;> (try simp only [List.length_append, List.length_map, List.length_singleton, List.length_cons, List.length_nil]) <;> lia
theorem strip_le (p : Nat → Bool) (l : List Nat) : (stripL p l).length ≤ l.length := by
  unfold stripL
  rw [List.length_reverse]
  have h1 := (List.dropWhile_sublist p (l := (l.dropWhile p).reverse)).length_le
  have h2 := (List.dropWhile_sublist p (l := l)).length_le
  rw [List.length_reverse] at h1
  lia
noncomputable def pick10 (d m : Int) : List Nat := (all10 (tx1 d) (tat d m) (sgn (m / 400))).getD (m % 10).toNat []
noncomputable def bent0 (d m : Int) : List Nat := stripL [32].contains (pick10 d m)
noncomputable def bentL (d m : Int) : List Nat := if bent0 d m = [] then [126] else bent0 d m
theorem at_all (xs : List (List Nat)) (m : Int) (h : xs.length = 10) : atI (xs.map D.str) (m % 10) = some (.str (xs.getD (m % 10).toNat [])) := by
  have h1 := Int.emod_nonneg m (show (10 : Int) ≠ 0 by decide)
  have h2 := Int.emod_lt_of_pos m (show (0 : Int) < 10 by decide)
  have := atI_nat (xs := xs.map D.str) (j := (m % 10).toNat) (v := .str (xs.getD (m % 10).toNat [])) (by rw [List.getElem?_map, List.getD_eq_getElem?_getD, List.getElem?_eq_getElem (by lia)]; rfl)
  rw [show (((m % 10).toNat : Nat) : Int) = m % 10 by lia] at this
  exact this
theorem pick_len (d m : Int) : (pick10 d m).length ≤ 15 := by
  have h := tx1_len d
  unfold pick10
  rw [List.getD_eq_getElem?_getD]
  cases e : (all10 (tx1 d) (tat d m) (sgn (m / 400)))[(m % 10).toNat]? with
  | none => simp
  | some l => exact all10_len h.2 l (List.mem_of_getElem? e)
theorem bent_len (d m : Int) : (bentL d m).length ≤ 15 := by
  unfold bentL
  split
  · simp
  · have := strip_le [32].contains (pick10 d m)
    have := pick_len d m
    unfold bent0; lia
noncomputable def preBe (ds : List D) : Prop := ∃ d m : Int, ds = [.int d, .int m]
noncomputable def resBe : List D → D
  | [.int d, .int m] => .str (bentL d m)
  | _ => .non
theorem ok_law_bent (Z : Tx K mg ad0) : FnOk P w K mg base CX0 2 ad0.f_law_bent ad0.d_law_bent ["_law_draw", "_law_more"] (SpD K preBe resBe) := by
  have G_law_stream := ok_law_stream (P := P) (w := w) (base := base) Z
  refine Z.F_law_bent.ok sc_law_bent (fun vs H Q E h => spD_len (n := 2) (by rintro ds ⟨c, m, rfl⟩; rfl) h) (fun cdv A outer s H vs Q E hr h => ⟨_, (pss_consB (ps_setB (i := 2) sc_law_bent.nd rfl (Or.inr rfl))
      (pss_consT (ps_set (i := 3) sc_law_bent.nd rfl (Or.inl rfl) (pe_call G_law_stream (hr.mono (by decide)) (by rfl) Z.M_law_stream Z.F_law_stream.kp Z.B_law_stream .nil pass0 (pa_cons (pv 0) (pa_cons pe_int pa_nil))))
      (pss_consT (ps_set (i := 4) sc_law_bent.nd rfl (Or.inl rfl) (pe_bm F.plainAttrs_str F.slot_str_join F.type_str_join mt_join pe_str (pa_cons (pe_lc rfl (LcOk.of (Nx := (["_law_draw", "_law_more", "_law_signs", "_law_draws", "_law_text", "_law_at", "_law_sign", "_law_some"] : List Str)) (sc := defScope s_law_bent) (N' := (["_law_one", "_law_signs"] : List Str)) (nt := 1) (cs := [2]) rfl rfl (by decide +kernel)) (pi_list (pe_slice sl_list (pv 3) (po_some pe_int) (po_some (pe_op op_add pe_int (pe_op op_mod (pe_ix (show IxR _ (rIxL K) from ix_list) (pv 3) pe_int (fun _ _ => rfl)) pe_int))))) (fun _ _ _ _ => (pg_name (i := 0) (show List.Nodup (["_law_one", "_law_signs"] : List Str) by decide +kernel) rfl (Or.inl rfl))) (fun _ _ _ _ => pifs_nil) (fun _ _ _ _ => (pe_ix ix_str (pv 1) (pe_op op_mod (pv 0) pe_int) (fun _ _ => rfl)))) pa_nil)))
      (pss_consT (ps_if (pt_cmpR op_eq (pe_op op_mod (pe_op op_fdiv (pe_ix (show IxR _ (rIxL K) from ix_list) (pv 3) pe_int (fun _ _ => rfl)) pe_int) pe_int) pe_int (nomark _)) (pss_one (ps_set (i := 4) sc_law_bent.nd rfl (Or.inl rfl) (pe_op op_add_str (pe_op op_add_str (pe_op op_add_str (pe_slice sl_str (pv 4) po_none (po_some pe_int)) pe_str) (pe_slice sl_str (pv 4) (po_some pe_int) po_none)) pe_str))) pss_nil)
      (pss_consT (ps_set (i := 5) sc_law_bent.nd rfl (Or.inl rfl) (pe_op op_mod (pe_op op_fdiv (pv 1) pe_int) (pe_callB call_len_str (by rfl) Z.z_len boot_len (pa_cons (pv 4) pa_nil))))
      (pss_consT (ps_set (i := 6) sc_law_bent.nd rfl (Or.inl rfl) (pe_ix ix_str (pv 2) (pe_op op_mod (pe_op op_fdiv (pv 1) pe_int) pe_int) (fun _ _ => rfl)))
      (pss_consT (ps_set (i := 7) sc_law_bent.nd rfl (Or.inl rfl) (pe_lst (pa_cons (pv 4) (pa_cons (pv 4) (pa_cons (pe_bm0 F.plainAttrs_str F.slot_str_upper F.type_str_upper mt_upper (pv 4)) (pa_cons (pe_bm0 F.plainAttrs_str F.slot_str_lower F.type_str_lower mt_lower (pv 4)) (pa_cons (pe_op op_add_str (pe_op op_add_str (pe_slice sl_str (pv 4) po_none (po_some (pv 5))) (pv 6)) (pe_slice sl_str (pv 4) (po_some (pe_op op_add (pv 5) pe_int)) po_none)) (pa_cons (pe_op op_add_str (pe_op op_add_str (pe_slice sl_str (pv 4) po_none (po_some (pv 5))) (pv 6)) (pe_slice sl_str (pv 4) (po_some (pv 5)) po_none)) pa_nil))))))))
      (pss_consU (ps_setT (i := 7) sc_law_bent.nd rfl (Or.inl rfl) (pe_opT (show OpR _ _ (rCatD K) from op_catD) (pv 7) (pe_lstT (pa_consT (pe_op op_add_str (pe_slice sl_str (pv 4) po_none (po_some (pv 5))) (pe_slice sl_str (pv 4) (po_some (pe_op op_add (pv 5) pe_int)) po_none)) (pa_consU (pe_replT (pv 4) (by decide +kernel) (by decide +kernel)) (pa_cons (pv 4) (pa_cons (pe_op op_add_str (pe_bm0 F.plainAttrs_str F.slot_str_upper F.type_str_upper mt_upper (pe_slice sl_str (pv 4) po_none (po_some (pv 5)))) (pe_slice sl_str (pv 4) (po_some (pv 5)) po_none)) pa_nil)))))))
      (pss_cons (ps_set (i := 4) sc_law_bent.nd rfl (Or.inl rfl) (pe_bm F.plainAttrs_str F.slot_str_strip F.type_str_strip mt_stripC (pe_ix (show IxR _ (rIxL K) from ix_list) (pv 7) (pe_op op_mod (pv 1) pe_int) (fun _ _ => rfl)) (pa_cons pe_str pa_nil)))
      (pss_cons (ps_if (pt_cmpR op_eq (pv 4) pe_str (nomark _)) (pss_one (ps_ret pe_str)) pss_nil)
      (pss_one (ps_ret (pv 4))))))))))))), ?_⟩)
  refine go_spD h (by rw [spD_len (n := 2) (by rintro ds ⟨c, m, rfl⟩; rfl) h]; decide) fun G ds hp rt => ?_
  obtain ⟨d, m, rfl⟩ := hp
  have rt : RtD K G H Q (.str (bentL d m)) := rt
  have hb := bsz_rng d
  refine go_seq (go_set (d := .str sg71) (ev_str (l := sg71) (by decide +kernel) sg71_lt) ?_)
  ((try dsimp only); refine nx_go ?_)
  refine go_seq (go_setO (ds := streamD d 10) (evo_call (pre := preStream) (res := resStream) (evaf_cons (ev_var rfl) (evaf_cons ev_int evaf_nil)) ⟨d, 10, rfl, by decide, by decide⟩) fun p => nx_freeze (i := 3) rfl ?_)
  ((try dsimp only); refine nx_go ?_)
  refine go_seq (go_set (d := .str (tx0 d)) ?_ ?_)
  · unfold tx0
    rw [← glue_one]
    refine ev_joinM (xs := List.range (1 + bsz d).toNat) (z := []) (g := fun i => [sgn (num d (i + 3))]) ?a (EvO.l ?b) ?c
    case a => exact (ev_str (by decide +kernel) (by decide)).b
    case b =>
      refine evo_lcM (List.range (1 + bsz d).toNat) (fun i => .int (num d (i + 3))) _ ?b1 (gk_name (by decide)) (by decide) ?b2 ?b3
      case b1 =>
        rw [← cut_bent]
        exact EvO.l (evo_slL (ev_var rfl).l (evp_part ev_int.b) (evp_part (ev_add ev_int.b (ev_mod (ev_ixL (ev_var rfl).l ev_int.b (at_stream d 10 0 (by decide))).b ev_int.b (by decide)).b).b))
      case b2 => rw [List.length_range, sizeLine_eq]; omega
      case b3 =>
        intro i hi
        exact ⟨_, tg_name, ev_ixS (ev_var rfl).b (ev_mod (ev_var rfl).b ev_int.b (by decide)).b (small (by rw [sg71_len]; decide)) (at_sg _)⟩
    case c =>
      simp only [List.map_map, List.length_range, List.length_nil, Nat.mul_zero, Nat.add_zero]
      rw [show (List.length ∘ fun i => [sgn (num d (i + 3))]) = fun _ => 1 from rfl, List.map_const', List.sum_replicate_nat, List.length_range]; lia
  ((try dsimp only); refine nx_go ?_)
  have l0 := tx0_len d
  have hc1 := cutL_le (tx0 d) none (some 3)
  have hc2 := cutL_le (tx0 d) (some 3) none
  refine go_join (fun ss => ss = [.d (.int d), .d (.int m), .d (.str sg71), .d (.lst (streamD d 10)), .d (.str (tx1 d)), .un, .un, .un]) (fun N hN => go_if (evt_test (ev_eqI (ev_mod (ev_fdiv (ev_ixL (ev_var rfl).l ev_int.b (at_stream d 10 0 (by decide))).b ev_int.b ⟨by decide, by decide⟩).b ev_int.b (by decide)).b ev_int.b)) (fun hb => go_set (d := .str (cutL (tx0 d) none (some 3) ++ [32] ++ cutL (tx0 d) (some 3) none ++ [98])) (ev_catS (ev_catS (ev_catS (ev_slS (ev_var rfl).b evp_no (evp_part ev_int.b) (small (by lia))).b (ev_str (l := [32]) (by decide +kernel) (by decide)).b (small (by simp; lia))).b (ev_slS (ev_var rfl).b (evp_part ev_int.b) evp_no (small (by lia))).b (small (by simp; lia))).b (ev_str (l := [98]) (by decide +kernel) (by decide)).b (small (by simp; lia))) (hN _ ?_)) (fun hb => go_next (hN _ ?_))) ?_
  · unfold tx1
    rw [if_pos (of_decide_eq_true hb)]; rfl
  · unfold tx1
    rw [if_neg (of_decide_eq_false hb)]; rfl
  rintro ss rfl
  have ht := tx1_len d
  have ha := tat_rng d m
  refine go_seq (go_set (d := .int (tat d m)) (ev_mod (ev_fdiv (ev_var rfl).b ev_int.b ⟨by decide, by decide⟩).b (ev_lenS (ev_var rfl).b (small (by lia))).b (by lia)) ?_)
  ((try dsimp only); refine nx_go ?_)
  refine go_seq (go_set (d := .str [sgn (m / 400)]) (ev_ixS (ev_var rfl).b (ev_mod (ev_fdiv (ev_var rfl).b ev_int.b ⟨by decide, by decide⟩).b ev_int.b (by decide)).b (small (by rw [sg71_len]; decide)) (at_sg _)) ?_)
  ((try dsimp only); refine nx_go ?_)
  have eb : bentL d m = if stripL [32].contains ((all10 (tx1 d) (tat d m) (sgn (m / 400))).getD (m % 10).toNat []) = [] then [126] else stripL [32].contains ((all10 (tx1 d) (tat d m) (sgn (m / 400))).getD (m % 10).toNat []) := rfl
  have hpl := pick_len d m
  unfold pick10 at hpl
  rw [eb] at rt
  generalize tx1 d = t at ht ha rt hpl
  generalize tat d m = a at ha rt hpl
  generalize sgn (m / 400) = sg at rt hpl
  have h1 := cutL_le t none (some a)
  have h2 := cutL_le t (some a) none
  have h3 := cutL_le t (some (a + 1)) none
  have z : ∀ {n : Nat}, n ≤ 1000 → n ≤ sizeLine := fun h => small h
  have sl1 : ∀ {L0 : Hp} {ss : List Sl}, ss[4]? = some (.d (.str t)) → ss[5]? = some (.d (.int a)) → Ev K G H L0 ss (tSl rSlS (tVar 4) tNoPart (tPart (tVar 5))) (.str (cutL t none (some a))) := fun e1 e2 => ev_slS (ev_var e1).b evp_no (evp_part (ev_var e2).b) (z (by lia))
  have sl2 : ∀ {L0 : Hp} {ss : List Sl}, ss[4]? = some (.d (.str t)) → ss[5]? = some (.d (.int a)) → Ev K G H L0 ss (tSl rSlS (tVar 4) (tPart (tVar 5)) tNoPart) (.str (cutL t (some a) none)) := fun e1 e2 => ev_slS (ev_var e1).b (evp_part (ev_var e2).b) evp_no (z (by lia))
  have sl3 : ∀ {L0 : Hp} {ss : List Sl}, ss[4]? = some (.d (.str t)) → ss[5]? = some (.d (.int a)) → Ev K G H L0 ss (tSl rSlS (tVar 4) (tPart (tOp (rI0 fun i j => .int (i + j)) (tVar 5) (tC (.int 1)))) tNoPart) (.str (cutL t (some (a + 1)) none)) := fun e1 e2 => ev_slS (ev_var e1).b (evp_part (ev_add (ev_var e2).b ev_int.b).b) evp_no (z (by lia))
  refine go_seq (go_setO (ds := [t, t, t.map up1, t.map lo1, cutL t none (some a) ++ [sg] ++ cutL t (some (a + 1)) none, cutL t none (some a) ++ [sg] ++ cutL t (some a) none].map D.str) (evo_lst (evaf_cons (ev_var rfl) (evaf_cons (ev_var rfl) (evaf_cons (ev_upperL (ev_var rfl).b (by lia)) (evaf_cons (ev_lower (ev_var rfl).b (by lia)) (evaf_cons (ev_catS (ev_catS (sl1 rfl rfl).b (ev_var rfl).b (z (by first | omega | (simp; lia)))).b (sl3 rfl rfl).b (z (by first | omega | (simp; lia)))) (evaf_cons (ev_catS (ev_catS (sl1 rfl rfl).b (ev_var rfl).b (z (by first | omega | (simp; lia)))).b (sl2 rfl rfl).b (z (by first | omega | (simp; lia)))) evaf_nil)))))) (z (by simp))) fun p1 => ?_)
  ((try dsimp only); refine nx_go ?_)
  have hdl := dbl_len 32 t
  refine go_seq (go_setO (ds := [t, t, t.map up1, t.map lo1, cutL t none (some a) ++ [sg] ++ cutL t (some (a + 1)) none, cutL t none (some a) ++ [sg] ++ cutL t (some a) none].map D.str ++ [cutL t none (some a) ++ cutL t (some (a + 1)) none, StrLaws.dbl 32 t, t, (cutL t none (some a)).map up1 ++ cutL t (some a) none].map D.str) (evo_cat (evl_own rfl) (EvO.l (evo_lst (evaf_cons (ev_catS (sl1 rfl rfl).b (sl3 rfl rfl).b (z (by first | lia | (simp; omega)))) (evaf_cons (ev_repl (by decide +kernel) (by decide +kernel) (ev_var rfl).b (by lia)) (evaf_cons (ev_var rfl) (evaf_cons (ev_catS (ev_upperL (sl1 rfl rfl).b (by lia)).b (sl2 rfl rfl).b (z (by first | omega | (simp; lia)))) evaf_nil)))) (z (by simp)))) (z (by simp))) fun p2 => ?_)
  ((try dsimp only); refine nx_go ?_)
  refine go_seq (go_set (d := .str (stripL [32].contains ((all10 t a sg).getD (m % 10).toNat []))) (ev_strip (ev_ixL (evl_own (ds := (all10 t a sg).map D.str) rfl) (ev_mod (ev_var rfl).b ev_int.b (by decide)).b (at_all (all10 t a sg) m rfl)).b (ev_str (l := [32]) (by decide +kernel) (by decide)).b (z (by lia))) ?_)
  ((try dsimp only); refine nx_go ?_)
  generalize stripL [32].contains ((all10 t a sg).getD (m % 10).toNat []) = r at rt
  refine go_seq (go_if (evt_test (ev_eqS (l := r) (m := []) (ev_var rfl).b (ev_str (l := []) (by decide +kernel) (by decide)).b)) (fun hb => ?_) (fun hb => go_next ?_))
  · rw [if_pos (of_decide_eq_true hb)] at rt
    exact go_ret (ev_str (l := [126]) (by decide +kernel) (by decide)) rt
  ((try dsimp only); refine nx_go ?_)
  rw [if_neg (of_decide_eq_false hb)] at rt
  exact go_ret (ev_var rfl) rt
theorem lo_32 (c : Nat) : (lo1 c != 32) = (c != 32) := by
  unfold lo1
  split
  · rename_i h
    have : 65 ≤ c ∧ c ≤ 90 := by simpa using h
    rw [bne_iff_ne.mpr (by lia), bne_iff_ne.mpr (by lia)]
  · rfl
theorem split_map (f : Nat → Nat) (z : Nat) (hf : ∀ c, (f c != z) = (c != z)) : ∀ (n : Nat) (l : List Nat), splitN z n (l.map f) = (splitN z n l).map (List.map f)
  | 0, l => rfl
  | n + 1, l => by
    have hp : ((· != z) ∘ f) = (· != z) := funext hf
    rw [splitN, splitN, List.takeWhile_map, List.dropWhile_map, hp]
    cases h : l.dropWhile (· != z) with
    | nil => rfl
    | cons x b =>
      show (l.takeWhile (· != z)).map f :: splitN z n (b.map f) = _
      rw [split_map f z hf n b]; rfl
theorem glue_map (f : Nat → Nat) (z : Nat) (hz : f z = z) : ∀ ls : List (List Nat), glue [z] (ls.map (List.map f)) = (glue [z] ls).map f
  | [] => rfl
  | [x] => rfl
  | x :: y :: r => by
    have ih := glue_map f z hz (y :: r)
    rw [List.map_cons, List.map_cons, glue, glue, List.map_append, List.map_append, ← ih]
    show _ ++ [z] ++ _ = _ ++ [f z] ++ _
    rw [hz]; rfl
theorem pl_law (l : List Nat) : (glue [32] ((splitL 32 l).filter fun p => !decide (p = []))).map lo1 = plF l := by
  unfold plF splitL
  rw [split_map lo1 32 lo_32, List.length_map, List.filter_map]
  rw [← glue_map lo1 32 (by decide)]
  congr 2
  refine List.filter_congr fun p _ => ?_
  show (!decide (p = [])) = !decide (p.map lo1 = [])
  cases p <;> simp
noncomputable def words5 : List (List Nat) := [("name" : Str).cps.toList, ("former" : Str).cps.toList, ("way" : Str).cps.toList, ("day" : Str).cps.toList, ("mark" : Str).cps.toList]
theorem words5_lt : ∀ w ∈ words5, ∀ c ∈ w, c < 128 := by decide +kernel
noncomputable def fldL (c d : Int) : List Nat := words5.getD ((c + d % 2 * (d / 2)) % 5).toNat []
theorem fldL_lt (c d : Int) : ∀ x ∈ fldL c d, x < 128 := by
  unfold fldL
  rw [List.getD_eq_getElem?_getD]
  cases h : words5[((c + d % 2 * (d / 2)) % 5).toNat]? with
  | none => intro x hx; cases hx
  | some l => exact words5_lt l (List.mem_of_getElem? h)
noncomputable def preFd (ds : List D) : Prop := ∃ c d : Int, ds = [.int c, .int d]
noncomputable def resFd : List D → D
  | [.int c, .int d] => .str (fldL c d)
  | _ => .non
theorem ok_law_field (Z : Tx K mg ad0) : FnOk P w K mg base CX0 1 ad0.f_law_field ad0.d_law_field ["_law_cell", "_law_draw"] (SpD K preFd resFd) := by
  refine Z.F_law_field.ok sc_law_field (fun vs H Q E h => spD_len (n := 2) (by rintro ds ⟨c, d, rfl⟩; rfl) h) (fun cdv A outer s H vs Q E hr h => ⟨_, (pss_one (ps_ret (pe_ix (show IxR _ (rIxL K) from ix_list) (pe_lst (pa_cons pe_str (pa_cons pe_str (pa_cons pe_str (pa_cons pe_str (pa_cons pe_str pa_nil)))))) (pe_op op_mod (pe_op op_add (pv 0) (pe_op op_mul (pe_op op_mod (pv 1) pe_int) (pe_op op_fdiv (pv 1) pe_int))) pe_int) (fun _ _ => rfl)))), ?_⟩)
  refine go_spD h (by rw [spD_len (n := 2) (by rintro ds ⟨c, d, rfl⟩; rfl) h]; decide) fun G ds hp rt => ?_
  obtain ⟨c, d, rfl⟩ := hp
  have rt : RtD K G H Q (.str (fldL c d)) := rt
  have hat := atI_mod (words5.map D.str) .non (c + d % 2 * (d / 2)) (n := 5) rfl (by decide)
  have e : (words5.map D.str).getD ((c + d % 2 * (d / 2)) % 5).toNat .non = .str (fldL c d) := by
    unfold fldL
    rw [List.getD_eq_getElem?_getD, List.getD_eq_getElem?_getD, List.getElem?_map, List.getElem?_eq_getElem (show ((c + d % 2 * (d / 2)) % 5).toNat < words5.length by show _ < 5; lia)]
    rfl
  rw [e] at hat
  exact go_ret (ev_ixL (ds := words5.map D.str) (EvO.l (evo_lst (evaf_cons (ev_lit (by decide)) (evaf_cons (ev_lit (by decide)) (evaf_cons (ev_lit (by decide)) (evaf_cons (ev_lit (by decide)) (evaf_cons (ev_lit (by decide)) evaf_nil))))) (small (by decide)))) (ev_mod (ev_add (ev_var rfl).b (ev_mul (ev_mod (ev_var rfl).b ev_int.b (by decide)).b (ev_fdiv (ev_var rfl).b ev_int.b ⟨by decide, by decide⟩).b (.inl ⟨by lia, by lia⟩)).b).b ev_int.b (by decide)).b hat) rt
noncomputable def preBook (ds : List D) : Prop := ∃ (ns : List Int) (cs : List (List Nat)) (c : Int), ds = [.lst (ns.map .int), .lst (cs.map .str), .int c] ∧ ns.length ≤ 14 ∧ cs ≠ [] ∧ cs.length ≤ 20
noncomputable def relBook (ds rs : List D) : Prop := ∃ b : List Fct, rs = b.map encF ∧ b.length ≤ 14 ∧ ∀ f ∈ b, f.2.2.length ≤ 15
theorem ok_law_book (Z : Tx K mg ad0) : FnOk P w K mg base CX0 3 ad0.f_law_book ad0.d_law_book ["_law_cells", "_law_cards_here", "_law_cell"] (SpR K preBook relBook) := by
  have G_law_stream := ok_law_stream (P := P) (w := w) (base := base) Z
  have G_law_bent := ok_law_bent (P := P) (w := w) (base := base) Z
  have G_law_field := ok_law_field (P := P) (w := w) (base := base) Z
  refine Z.F_law_book.ok sc_law_book (fun vs H Q E h => spR_len (n := 3) (by rintro ds ⟨ns, cs, c, rfl, _⟩; rfl) h) (fun cdv A outer s H vs Q E hr h => ⟨_, (pss_cons (ps_set (i := 3) sc_law_book.nd rfl (Or.inl rfl) (pe_lst pa_nil))
      (pss_cons (ps_for PassesOwn.never rfl (pi_list (pv 0)) (pg_name (i := 4) sc_law_book.nd rfl (Or.inl rfl)) (pss_cons (ps_set (i := 5) sc_law_book.nd rfl (Or.inl rfl) (pe_call G_law_stream (hr.mono (by decide)) (by rfl) Z.M_law_stream Z.F_law_stream.kp Z.B_law_stream .nil pass0 (pa_cons (pv 4) (pa_cons pe_int pa_nil))))
      (pss_cons (ps_set (i := 6) sc_law_book.nd rfl (Or.inl rfl) (pe_call G_law_bent (hr.mono (by decide)) (by rfl) Z.M_law_bent Z.F_law_bent.kp Z.B_law_bent .nil pass0 (pa_cons (pe_op op_add (pe_op op_fdiv (pv 2) pe_int) (pe_op op_mod (pe_ix (show IxR _ (rIxL K) from ix_list) (pv 5) pe_int (fun _ _ => rfl)) pe_int)) (pa_cons (pe_ix (show IxR _ (rIxL K) from ix_list) (pv 5) pe_int (fun _ _ => rfl)) pa_nil))))
      (pss_cons (ps_set (i := 7) sc_law_book.nd rfl (Or.inl rfl) (pe_tup (pa_cons (pe_ix (show IxR _ (rIxL K) from ix_list) (pv 1) (pe_op op_mod (pe_op op_mod (pe_ix (show IxR _ (rIxL K) from ix_list) (pv 5) pe_int (fun _ _ => rfl)) pe_int) (pe_callB call_len_seq (by rfl) Z.z_len boot_len (pa_cons (pv 1) pa_nil))) (fun _ _ => rfl)) (pa_cons (pe_call G_law_field (hr.mono (by decide)) (by rfl) Z.M_law_field Z.F_law_field.kp Z.B_law_field .nil pass0 (pa_cons (pv 2) (pa_cons (pe_op op_fdiv (pe_ix (show IxR _ (rIxL K) from ix_list) (pv 5) pe_int (fun _ _ => rfl)) pe_int) pa_nil))) (pa_cons (pv 6) pa_nil)))))
      (pss_one (ps_if (pt_cmpR (show OpR _ _ (rInD K true) from op_notInD hr.units) (pv 7) (pv 3) (by with_unfolding_all rfl)) (pss_one (ps_expr (pe_bm F.plainAttrs_list F.slot_list_append F.type_list_append mt_append (pv 3) (pa_cons (pv 7) pa_nil)))) pss_nil))))))
      (pss_one (ps_ret (pe_callB (show CallR _ _ (rSortQ K) from call_sortedQ) (by rfl) Z.z_sorted boot_sorted (pa_cons (pv 3) pa_nil)))))), ?_⟩)
  refine go_spR h (by rw [spR_len (n := 3) (by rintro ds ⟨ns, cs, c, rfl, _⟩; rfl) h]; decide) fun G ds hp rt => ?_
  obtain ⟨ns, cs, c, rfl, hns, hcs, hcl⟩ := hp
  refine go_seq (go_setO (evo_lst evaf_nil (by decide)) fun p => ?_)
  ((try dsimp only); refine nx_go ?_)
  refine go_seq (go_for D.int ns (fun k ss => ∃ (b : List Fct) (v4 v5 v6 v7 : Sl), ss = [.d (.lst (ns.map .int)), .d (.lst (cs.map .str)), .d (.int c), .o p (b.map encF), v4, v5, v6, v7] ∧ b.length ≤ k ∧ ∀ f ∈ b, f.2.2.length ≤ 15) (ev_var rfl) ⟨[], .un, .un, .un, .un, rfl, Nat.zero_le _, fun _ h => by cases h⟩ ?_ ?_)
  · rintro L' k x ss hL hk ⟨b, v4, v5, v6, v7, rfl, hbl, hbt⟩
    refine ⟨_, tg_name, fun N hN => ?_⟩
    have hk60 : k < 14 := by have := (List.getElem?_eq_some_iff.mp hk).1; lia
    refine go_seq (go_setO (ds := streamD x 3) (evo_call (pre := preStream) (res := resStream) (evaf_cons (ev_var rfl) (evaf_cons ev_int evaf_nil)) ⟨x, 3, rfl, by decide, by decide⟩) fun pd => nx_freeze (i := 5) rfl ?_)
    ((try dsimp only); refine nx_go ?_)
    have x0 := at_stream x 3 0 (by decide)
    have x1 := at_stream x 3 1 (by decide)
    have x2 := at_stream x 3 2 (by decide)
    refine go_seq (go_set (d := .str (bentL (c / 5 + num x (1 + 2) % 2) (num x (2 + 2)))) (ev_call (pre := preBe) (res := resBe) (ds := [.int (c / 5 + num x (1 + 2) % 2), .int (num x (2 + 2))]) (evaf_cons (ev_add (ev_fdiv (ev_var rfl).b ev_int.b ⟨by decide, by decide⟩).b (ev_mod (ev_ixL (ev_var rfl).l ev_int.b x1).b ev_int.b (by decide)).b) (evaf_cons (ev_ixL (ev_var rfl).l ev_int.b x2) evaf_nil)) ⟨_, _, rfl⟩) ?_)
    ((try dsimp only); refine nx_go ?_)
    have hblen := bent_len (c / 5 + num x (1 + 2) % 2) (num x (2 + 2))
    generalize bentL (c / 5 + num x (1 + 2) % 2) (num x (2 + 2)) = bt at hblen
    have hcl0 : 0 < cs.length := List.length_pos_iff.mpr hcs
    have hllm : ((cs.map D.str).length : Int) = cs.length := by simp
    have hcard := at_cards cs (num x (0 + 2) % 8) hcs
    generalize cardAt cs (num x (0 + 2) % 8) = cd at hcard
    refine go_seq (go_set (d := encF (cd, fldL c (num x (0 + 2) / 8), bt)) (ev_tup (evaf_cons (ev_ixL (ev_var rfl).l (ev_mod (ev_mod (ev_ixL (ev_var rfl).l ev_int.b x0).b ev_int.b (by decide)).b (Ev.b (by rw [← hllm]; exact ev_lenL (ev_var rfl).l)) (by lia)).b hcard) (evaf_cons (ev_call (pre := preFd) (res := resFd) (ds := [.int c, .int (num x (0 + 2) / 8)]) (evaf_cons (ev_var rfl) (evaf_cons (ev_fdiv (ev_ixL (ev_var rfl).l ev_int.b x0).b ev_int.b ⟨by decide, by decide⟩) evaf_nil)) ⟨_, _, rfl⟩) (evaf_cons (ev_var rfl) evaf_nil))) (small (by simp))) ?_)
    ((try dsimp only); refine nx_go ?_)
    generalize fldL c (num x (0 + 2) / 8) = f
    refine go_if (evt_test (ev_notInD (d := encF (cd, f, bt)) (ev_var rfl).b (evl_own rfl).b rfl (D.nbs_map nbF b) (by have := dpF (cd, f, bt); lia))) (fun hb => ?_) (fun hb => ?_)
    · refine go_append rfl (ev_var rfl) (by rw [List.length_map, sizeLine_eq]; lia) (hN _ ⟨b ++ [(cd, f, bt)], _, _, _, _, by rw [List.map_append]; rfl, by rw [List.length_append, List.length_singleton]; lia, fun g hg => ?_⟩)
      rcases List.mem_append.mp hg with hg | hg
      · exact hbt g hg
      · rw [List.mem_singleton.mp hg]; exact hblen
    · exact go_next (hN _ ⟨b, _, _, _, _, rfl, by lia, hbt⟩)
  rintro ss ⟨b, v4, v5, v6, v7, rfl, hbl, hbt⟩
  ((try dsimp only); refine nx_go ?_)
  refine go_retO (evo_sortedQ (evl_own rfl) (alF b) (by rw [List.length_map]; lia)) (rt _ ⟨mkQ b, (mkQ_enc b).symm, by rw [mkQ_len]; lia, fun f hf => hbt f ((mkQ_mem b f).mp hf)⟩)
noncomputable def encRow (r : Rl) : D := .tup [.int (r.1 : Int), .str r.2.1, .int r.2.2]
noncomputable def preRu (ds : List D) : Prop := ∃ c f : Int, ds = [.int c, .int f]
noncomputable def relRu (ds rs : List D) : Prop := ∃ rows : List Rl, rs = rows.map encRow ∧ rows.length ≤ 9 ∧ ∀ r ∈ rows, r.1 < 5 ∧ ∀ c ∈ r.2.1, c < 128
theorem ok_law_rules (Z : Tx K mg ad0) : FnOk P w K mg base CX0 2 ad0.f_law_rules ad0.d_law_rules ["_law_cell", "_law_field_here"] (SpR K preRu relRu) := by
  have G_law_stream := ok_law_stream (P := P) (w := w) (base := base) Z
  have G_law_field := ok_law_field (P := P) (w := w) (base := base) Z
  refine Z.F_law_rules.ok sc_law_rules (fun vs H Q E h => spR_len (n := 2) (by rintro ds ⟨c, f, rfl⟩; rfl) h) (fun cdv A outer s H vs Q E hr h => ⟨_, (pss_cons (ps_set (i := 2) sc_law_rules.nd rfl (Or.inl rfl) (pe_lst pa_nil))
      (pss_cons (ps_for PassesOwn.never rfl (pi_list (pe_call G_law_stream (hr.mono (by decide)) (by rfl) Z.M_law_stream Z.F_law_stream.kp Z.B_law_stream .nil pass0 (pa_cons (pv 0) (pa_cons (pe_op op_mod (pv 0) pe_int) pa_nil)))) (pg_name (i := 3) sc_law_rules.nd rfl (Or.inl rfl)) (pss_cons (ps_set (i := 4) sc_law_rules.nd rfl (Or.inl rfl) (pe_op op_add (pe_op op_mod (pe_op op_mul (pv 3) pe_int) (pe_op op_pow pe_int pe_int)) pe_int))
      (pss_cons (ps_if (pt_cmpR op_eq (pe_op op_mod (pe_op op_fdiv (pv 3) pe_int) pe_int) pe_int (nomark _)) (pss_one (ps_set (i := 4) sc_law_rules.nd rfl (Or.inl rfl) (pe_op op_sub pe_int (pv 4)))) pss_nil)
      (pss_one (ps_expr (pe_bm F.plainAttrs_list F.slot_list_append F.type_list_append mt_append (pv 2) (pa_cons (pe_tup (pa_cons (pe_op op_mod (pv 3) pe_int) (pa_cons (pe_call G_law_field (hr.mono (by decide)) (by rfl) Z.M_law_field Z.F_law_field.kp Z.B_law_field .nil pass0 (pa_cons (pv 1) (pa_cons (pe_op op_mod (pe_op op_fdiv (pv 3) pe_int) pe_int) pa_nil))) (pa_cons (pv 4) pa_nil)))) pa_nil)))))))
      (pss_one (ps_ret (pv 2))))), ?_⟩)
  refine go_spR h (by rw [spR_len (n := 2) (by rintro ds ⟨c, f, rfl⟩; rfl) h]; decide) fun G ds hp rt => ?_
  obtain ⟨c, f, rfl⟩ := hp
  refine go_seq (go_setO (evo_lst evaf_nil (by decide)) fun p => ?_)
  ((try dsimp only); refine nx_go ?_)
  have hm : 0 ≤ c % 9 ∧ c % 9 < 9 := by lia
  refine go_seq (go_for D.int ((List.range (c % 9).toNat).map fun i => num c (i + 2)) (fun k ss => ∃ (rows : List Rl) (v3 v4 : Sl), ss = [.d (.int c), .d (.int f), .o p (rows.map encRow), v3, v4] ∧ rows.length = k ∧ ∀ r ∈ rows, r.1 < 5 ∧ ∀ c ∈ r.2.1, c < 128) (EvO.ev (by rw [← streamD_ints]; exact evo_call (pre := preStream) (res := resStream) (ds := [.int c, .int (c % 9)]) (evaf_cons (ev_var rfl) (evaf_cons (ev_mod (ev_var rfl).b ev_int.b (by decide)) evaf_nil)) ⟨c, c % 9, rfl, by lia, by lia⟩)) ⟨[], .un, .un, rfl, rfl, fun _ h => by cases h⟩ ?_ ?_)
  · rintro L' k x ss hL hk ⟨rows, v3, v4, rfl, hrl, hro⟩
    refine ⟨_, tg_name, fun N hN => ?_⟩
    have hk9 : k < 9 := by have := (List.getElem?_eq_some_iff.mp hk).1; rw [List.length_map, List.length_range] at this; lia
    have hx : 0 ≤ x ∧ x < 4294967311 + 48271 := by
      obtain ⟨i, _, rfl⟩ := List.mem_map.mp (List.mem_of_getElem? hk)
      exact num_rng c (i + 2)
    refine go_seq (go_set (d := .int (x * 48271 % (10 : Int) ^ (9 : Int).toNat + 1)) (ev_add (ev_mod (ev_mul (ev_var rfl).b ev_int.b (.inl ⟨by lia, by lia⟩)).b (ev_pow ev_int.b ev_int.b ⟨by decide, by decide, by decide⟩).b (by decide)).b ev_int.b) ?_)
    ((try dsimp only); refine nx_go ?_)
    generalize x * 48271 % (10 : Int) ^ (9 : Int).toNat + 1 = w0
    refine go_join (fun ss => ∃ wt : Int, ss = [.d (.int c), .d (.int f), .o p (rows.map encRow), .d (.int x), .d (.int wt)]) (fun N2 hN2 => go_if (evt_test (ev_eqI (ev_mod (ev_fdiv (ev_var rfl).b ev_int.b ⟨by decide, by decide⟩).b ev_int.b (by decide)).b ev_int.b)) (fun hb => go_set (d := .int (0 - w0)) (ev_sub ev_int.b (ev_var rfl).b) (hN2 _ ⟨0 - w0, rfl⟩)) (fun hb => go_next (hN2 _ ⟨w0, rfl⟩))) ?_
    rintro ss ⟨wt, rfl⟩
    have e5 : x % 5 = ((x % 5).toNat : Int) := by lia
    refine go_append rfl (d := encRow ((x % 5).toNat, fldL f (x / 5 % 4), wt)) (by
      unfold encRow
      rw [← e5]
      exact ev_tup (evaf_cons (ev_mod (ev_var rfl).b ev_int.b (by decide)) (evaf_cons (ev_call (pre := preFd) (res := resFd) (ds := [.int f, .int (x / 5 % 4)]) (evaf_cons (ev_var rfl) (evaf_cons (ev_mod (ev_fdiv (ev_var rfl).b ev_int.b ⟨by decide, by decide⟩).b ev_int.b (by decide)) evaf_nil)) ⟨_, _, rfl⟩) (evaf_cons (ev_var rfl) evaf_nil))) (small (by simp))) (by rw [List.length_map, sizeLine_eq]; lia) (hN _ ⟨rows ++ [((x % 5).toNat, fldL f (x / 5 % 4), wt)], _, _, by rw [List.map_append]; rfl, by rw [List.length_append, List.length_singleton]; lia, fun r hr => ?_⟩)
    rcases List.mem_append.mp hr with hr | hr
    · exact hro r hr
    · rw [List.mem_singleton.mp hr]
      exact ⟨by show (x % 5).toNat < 5; lia, fldL_lt _ _⟩
  rintro ss ⟨rows, v3, v4, rfl, hrl, hro⟩
  ((try dsimp only); refine nx_go ?_)
  refine go_retV rfl (rt _ ⟨rows, rfl, ?_, hro⟩)
  rw [hrl, List.length_map, List.length_range]; lia
noncomputable def preMa (c1 c2 c3 c4 c5 : Addr) (r : Rl) (ds : List D) : Prop := ds = [encRow r] ∧ r.1 < 5 ∧ ∀ c ∈ r.2.1, c < 128
theorem ok_law_made (Z : Tx K mg ad0) : FnOk P w K mg base CX0 4 ad0.f_law_made ad0.d_law_made ["_law_row"] (SpG K (preMa ad0.c_Same ad0.c_Like ad0.c_Near ad0.c_Other ad0.c_Former) (insR ad0.c_Same ad0.c_Like ad0.c_Near ad0.c_Other ad0.c_Former)) := by
  have G_Rule_init__Same := ok_init_Same (P := P) (w := w) (base := base) Z
  have G_Rule_init__Like := ok_init_Like (P := P) (w := w) (base := base) Z
  have G_Rule_init__Near := ok_init_Near (P := P) (w := w) (base := base) Z
  have G_Rule_init__Other := ok_init_Other (P := P) (w := w) (base := base) Z
  have G_Former_init__Former := ok_init_Former (P := P) (w := w) (base := base) Z
  refine Z.F_law_made.ok sc_law_made (fun vs H Q E h => spG_len (n := 1) (by rintro q ds ⟨rfl, _⟩; rfl) h) (fun cdv A outer s H vs Q E hr h => ⟨_, (pss_cons (ps_asg (pv 0) (pg_tup rfl (pgs_cons (pg_name (i := 1) sc_law_made.nd rfl (Or.inl rfl)) (pgs_cons (pg_name (i := 2) sc_law_made.nd rfl (Or.inl rfl)) (pgs_cons (pg_name (i := 3) sc_law_made.nd rfl (Or.inl rfl)) pgs_nil)))))
      (pss_cons (ps_if (pt_cmpR op_eq (pv 1) pe_int (nomark _)) (pss_one (ps_ret (pe_make Z.Mk_Same G_Rule_init__Same (hr.mono (by decide)) (by rfl) Z.M_Same Z.B_Rule_init .nil pass0 (pa_cons (pv 3) (pa_cons (pv 2) pa_nil))))) pss_nil)
      (pss_cons (ps_if (pt_cmpR op_eq (pv 1) pe_int (nomark _)) (pss_one (ps_ret (pe_make Z.Mk_Like G_Rule_init__Like (hr.mono (by decide)) (by rfl) Z.M_Like Z.B_Rule_init .nil pass0 (pa_cons (pv 3) (pa_cons (pv 2) pa_nil))))) pss_nil)
      (pss_cons (ps_if (pt_cmpR op_eq (pv 1) pe_int (nomark _)) (pss_one (ps_ret (pe_make Z.Mk_Near G_Rule_init__Near (hr.mono (by decide)) (by rfl) Z.M_Near Z.B_Rule_init .nil pass0 (pa_cons (pv 3) (pa_cons (pv 2) pa_nil))))) pss_nil)
      (pss_cons (ps_if (pt_cmpR op_eq (pv 1) pe_int (nomark _)) (pss_one (ps_ret (pe_make Z.Mk_Other G_Rule_init__Other (hr.mono (by decide)) (by rfl) Z.M_Other Z.B_Rule_init .nil pass0 (pa_cons (pv 3) (pa_cons (pv 2) pa_nil))))) pss_nil)
      (pss_one (ps_ret (pe_make Z.Mk_Former G_Former_init__Former (hr.mono (by decide)) (by rfl) Z.M_Former Z.B_Former_init .nil pass0 (pa_cons (pv 3) pa_nil))))))))), ?_⟩)
  refine go_spG h (by rw [spG_len (n := 1) (by rintro q ds ⟨rfl, _⟩; rfl) h]; decide) fun G ds r hp rt => ?_
  obtain ⟨rfl, h5, hfa⟩ := hp
  obtain ⟨n, f, wt⟩ := r
  refine go_seq (go_asg (d := .tup [.int (n : Int), .str f, .int wt]) (ev_var rfl) (tg_tup rfl (tgs_cons tg_name (tgs_cons tg_name (tgs_cons tg_name tgs_nil)))) ?_)
  ((try dsimp only); refine nx_go ?_)
  have two : ∀ {L0 : Hp} {ss : List Sl}, ss[3]? = some (.d (.int wt)) → ss[2]? = some (.d (.str f)) → EvAF K G H L0 ss (tCons (tVar 3) (tCons (tVar 2) tNil)) [.int wt, .str f] := fun e1 e2 => evaf_cons (ev_var e1) (evaf_cons (ev_var e2) evaf_nil)
  refine go_seq (go_if (evt_test (ev_eqI (ev_var rfl).b ev_int.b)) (fun hb => ?_) (fun hb => go_next ?_))
  · have hn : n = 0 := by have := of_decide_eq_true hb; lia
    subst hn
    exact go_ret (ev_make2 (two rfl rfl)) rt
  ((try dsimp only); refine nx_go ?_)
  refine go_seq (go_if (evt_test (ev_eqI (ev_var rfl).b ev_int.b)) (fun hb => ?_) (fun hb1 => go_next ?_))
  · have hn : n = 1 := by have := of_decide_eq_true hb; lia
    subst hn
    exact go_ret (ev_make2 (two rfl rfl)) rt
  ((try dsimp only); refine nx_go ?_)
  refine go_seq (go_if (evt_test (ev_eqI (ev_var rfl).b ev_int.b)) (fun hb => ?_) (fun hb2 => go_next ?_))
  · have hn : n = 2 := by have := of_decide_eq_true hb; lia
    subst hn
    exact go_ret (ev_make2 (two rfl rfl)) rt
  ((try dsimp only); refine nx_go ?_)
  refine go_seq (go_if (evt_test (ev_eqI (ev_var rfl).b ev_int.b)) (fun hb => ?_) (fun hb3 => go_next ?_))
  · have hn : n = 3 := by have := of_decide_eq_true hb; lia
    subst hn
    exact go_ret (ev_make2 (two rfl rfl)) rt
  ((try dsimp only); refine nx_go ?_)
  have hn : n = 4 := by
    have := of_decide_eq_false hb; have := of_decide_eq_false hb1; have := of_decide_eq_false hb2; have := of_decide_eq_false hb3
    have : n < 5 := h5
    lia
  subst hn
  exact go_ret (ev_make1 nmL_lt (evaf_cons (ev_var rfl) evaf_nil)) rt
noncomputable def resTx : List D → List D
  | [.lst b, .str c, .str f] => (txF (b.map unF) c f).map encS
  | _ => []
theorem resTx_enc (b : List Fct) (c f : List Nat) : resTx [bkD b, encS c, encS f] = (txF b c f).map encS := by
  show (txF ((b.map encF).map unF) c f).map encS = _
  rw [unF_map]
theorem ok_law_texts (Z : Tx K mg ad0) : FnOk P w K mg base CX0 1 ad0.f_law_texts ad0.d_law_texts ["_law_book_here", "_law_card", "_law_field_here"] (SpO K preTO resTx) := by
  refine Z.F_law_texts.ok sc_law_texts (fun vs H Q E h => spO_len (n := 3) (by rintro ds ⟨c, a, b, rfl, _⟩; rfl) h) (fun cdv A outer s H vs Q E hr h => ⟨_, (pss_one (ps_ret (pe_lc rfl (LcOk.of (Nx := (["_law_book_here", "_law_card", "_law_field_here"] : List Str)) (sc := defScope s_law_texts) (N' := (["_law_fact", "_law_card", "_law_field_here"] : List Str)) (nt := 1) (cs := [1, 2]) rfl rfl (by decide +kernel)) (pi_list (pv 0)) (fun _ _ _ _ => (pg_name (i := 0) (show List.Nodup (["_law_fact", "_law_card", "_law_field_here"] : List Str) by decide +kernel) rfl (Or.inl rfl))) (fun _ _ _ _ => (pifs_one (PW.pt (pw_and (pt_cmpR op_eq (pe_ix (show IxR _ (rIxT K) from ix_tup) (pv 0) pe_int (fun _ _ => rfl)) (pv 1) (nomark _)) (pw_and1 (pt_cmpR op_eq (pe_ix (show IxR _ (rIxT K) from ix_tup) (pv 0) pe_int (fun _ _ => rfl)) (pv 2) (nomark _))))))) (fun _ _ _ _ => (pe_ix (show IxR _ (rIxT K) from ix_tup) (pv 0) pe_int (fun _ _ => rfl)))))), ?_⟩)
  refine go_spO h (by rw [spO_len (n := 3) (by rintro ds ⟨c, a, b, rfl, _⟩; rfl) h]; decide) fun G ds hp rt => ?_
  obtain ⟨b, c, f, rfl, hb⟩ := hp
  rw [resTx_enc, tx_ev (K := K)] at rt
  exact go_retO (evo_lcX b encF (fun x => decide (x.1 = c) && decide (x.2.1 = f)) (fun x => .str x.2.2) (ev_var rfl).l (gk_name (by decide)) (by decide) (by rw [sizeLine_eq]; lia) fun x hx => ⟨_, tg_name, evt_and (evt_test (ev_eqS (ev_ixT (ev_var rfl) ev_int.b rfl).b (ev_var rfl).b)) fun _ => evt_test (ev_eqS (ev_ixT (ev_var rfl) ev_int.b rfl).b (ev_var rfl).b), fun _ => ev_ixT (ev_var rfl) ev_int.b rfl⟩) rt
noncomputable def preLp (ds : List D) : Prop := ∃ a : List (List Nat), ds = [.lst (a.map encS)] ∧ a.length ≤ 1000 ∧ ∀ l ∈ a, l.length ≤ 900
theorem ok_law_plains (Z : Tx K mg ad0) : FnOk P w K mg base CX0 1 ad0.f_law_plains ad0.d_law_plains ["_law_texts_here"] (SpO K preLp resPs) := by
  refine Z.F_law_plains.ok sc_law_plains (fun vs H Q E h => spO_len (n := 1) (by rintro ds ⟨c, rfl, _⟩; rfl) h) (fun cdv A outer s H vs Q E hr h => ⟨_, (pss_one (ps_ret (pe_lc rfl (LcOk.of (Nx := (["_law_texts_here"] : List Str)) (sc := defScope s_law_plains) (N' := (["_law_text"] : List Str)) (nt := 1) (cs := []) rfl rfl (by decide +kernel)) (pi_list (pv 0)) (fun s1 H1 C1 fp1 => (pg_name (i := 0) (show List.Nodup (["_law_text"] : List Str) by decide +kernel) rfl (Or.inl rfl))) (fun s1 H1 C1 fp1 => pifs_nil) (fun s1 H1 C1 fp1 => (show PE _ _ (tBM0 K "str" rLower _) from pe_bm0 F.plainAttrs_str F.slot_str_lower F.type_str_lower mt_lower (show PE _ _ (tBM K "str" (rJoin K) _ _) from pe_bm F.plainAttrs_str F.slot_str_join F.type_str_join (show MtR _ _ (rJoin K) from mt_join) pe_str (pa_cons (pe_lc rfl (LcOk.of (Nx := (["_law_text"] : List Str)) (sc := ({ kind := .function, names := [(".0", .local), ("_law_text", .local)], isGenerator := false, isCoroutine := false } : Scope)) (N' := (["_law_word"] : List Str)) (nt := 1) (cs := []) rfl rfl (by decide +kernel)) (show PI _ _ _ (iList K _) from pi_list (show PE _ _ (tBM K "str" rSplit _ _) from pe_bm F.plainAttrs_str F.slot_str_split F.type_str_split mt_split (pv (X := lcCx (cxOf CX0 P w K mg base (["_law_texts_here"] : List Str) "_law_plains" (defScope s_law_plains) ad0.f_law_plains cdv A outer s H E).nox (["_law_text"] : List Str) ({ kind := .function, names := [(".0", .local), ("_law_text", .local)], isGenerator := false, isCoroutine := false } : Scope) s1 H1 C1 fp1) 0) (pa_cons pe_str pa_nil))) (fun _ _ _ _ => (pg_name (i := 0) (show List.Nodup (["_law_word"] : List Str) by decide +kernel) rfl (Or.inl rfl))) (fun _ _ _ _ => (pifs_one (pt_cmpR op_ne (pv 0) pe_str (nomark _)))) (fun _ _ _ _ => (pv 0))) pa_nil))))))), ?_⟩)
  refine go_spO h (by rw [spO_len (n := 1) (by rintro ds ⟨c, rfl, _⟩; rfl) h]; decide) fun G ds hp rt => ?_
  obtain ⟨a, rfl, ha, hl⟩ := hp
  rw [resPs_enc, List.map_map] at rt
  refine go_retO (evo_lcM a encS (fun l => encS (plF l)) (ev_var rfl).l (gk_name (by decide)) (by decide) (by rw [sizeLine_eq]; lia) fun l hla => ⟨_, tg_name, ?_⟩) rt
  have hl := hl l hla
  have h3 : ((splitL 32 l).map List.length).sum + (splitL 32 l).length ≤ l.length + 1 := by unfold splitL; exact split_sum 32 _ l
  have h2 := sum_filter (fun p => !decide (p = [])) (splitL 32 l)
  have h4 := glue_le 32 ((splitL 32 l).filter fun p => !decide (p = []))
  unfold encS
  rw [← pl_law]
  exact ev_lower (ev_join (z := [32]) (ls := (splitL 32 l).filter fun p => !decide (p = [])) (ev_str (l := [32]) (by decide +kernel) (by decide)).b (EvO.l (evo_lcX (splitL 32 l) D.str (fun p => !decide (p = [])) D.str (EvO.l (evo_split1 (z := 32) (ev_var rfl).b (ev_str (l := [32]) (by decide +kernel) (by decide)).b (by rw [sizeLine_eq]; lia))) (gk_name (by decide)) (by decide) (by rw [sizeLine_eq]; lia) fun p hp => ⟨_, tg_name, evt_test (ev_neS (m := []) (ev_var rfl).b (ev_str (l := []) (by decide +kernel) (by decide)).b), fun _ => ev_var rfl⟩)) (by simp only [List.length_singleton, Nat.mul_one]; lia)).b (by lia)
theorem ok_law_meet (Z : Tx K mg ad0) : FnOk P w K mg base CX0 1 ad0.f_law_meet ad0.d_law_meet ["_law_mine", "_law_others"] (SpD K preSh resSh) := by
  refine Z.F_law_meet.ok sc_law_meet (fun vs H Q E h => spD_len (n := 2) (by rintro ds ⟨c, d, rfl, _⟩; rfl) h) (fun cdv A outer s H vs Q E hr h => ⟨_, (pss_one (ps_ret (pe_callB (call_any rfl) (by rfl) Z.z_any boot_any (pa_cons (pe_lc rfl (LcOk.of (Nx := (["_law_mine", "_law_others"] : List Str)) (sc := defScope s_law_meet) (N' := (["_law_text", "_law_others"] : List Str)) (nt := 1) (cs := [1]) rfl rfl (by decide +kernel)) (pi_list (pv 0)) (fun _ _ _ _ => (pg_name (i := 0) (show List.Nodup (["_law_text", "_law_others"] : List Str) by decide +kernel) rfl (Or.inl rfl))) (fun _ _ _ _ => pifs_nil) (fun _ _ _ _ => (pe_cmpR (show OpR _ _ (rInD K false) from op_inD hr.units) (pv 0) (pv 1) (by with_unfolding_all rfl)))) pa_nil)))), ?_⟩)
  refine go_spD h (by rw [spD_len (n := 2) (by rintro ds ⟨c, d, rfl, _⟩; rfl) h]; decide) fun G ds hp rt => ?_
  obtain ⟨a, b, rfl, hl⟩ := hp
  rw [resSh_enc] at rt
  exact go_ret (ev_anyM (xs := a) (g := fun x => decide (encS x ∈ b.map encS)) (EvO.l (evo_lcM a encS (fun x => .bl (decide (encS x ∈ b.map encS))) (ev_var rfl).l (gk_name (by decide)) (by decide) (by rw [sizeLine_eq]; lia) fun x hx => ⟨_, tg_name, ev_inD (d := encS x) (ev_var rfl).b (ev_var rfl).b rfl (D.nbs_map encS_nb b) (by show 0 ≤ 60; decide)⟩))) rt
theorem near_eq {p q : List Nat} (h : p.length = q.length) : near p q = decide (p.drop (cpl p q + 1) = q.drop (cpl p q + 1)) := by
  have c := cpl_le p q
  unfold near
  generalize cpl p q = k at c
  rw [Bool.eq_iff_iff, nearD_iff, decide_eq_true_eq]
  unfold nearS
  rw [List.drop_drop, List.drop_drop]
  have e1 : (p.drop k).length = (q.drop k).length := by rw [List.length_drop, List.length_drop, h]
  constructor
  · rintro (z | z | z | z)
    · have := congrArg (List.drop 1) z
      rwa [List.drop_drop, List.drop_drop] at this
    · have l := congrArg List.length z
      rw [List.length_drop, List.length_drop] at l
      rw [List.drop_eq_nil_of_le (by omega), List.drop_eq_nil_of_le (by omega)]
    · have l := congrArg List.length z
      rw [List.length_drop, List.length_drop] at l
      rw [List.drop_eq_nil_of_le (by lia), List.drop_eq_nil_of_le (by omega)]
    · exact z
  · exact fun z => .inr (.inr (.inr z))
theorem near_lt {p q : List Nat} (h : p.length < q.length) : near p q = decide (p.drop (cpl p q) = q.drop (cpl p q + 1)) := by
  have c := cpl_le p q
  unfold near
  generalize cpl p q = k at c
  rw [Bool.eq_iff_iff, nearD_iff, decide_eq_true_eq]
  unfold nearS
  rw [List.drop_drop, List.drop_drop]
  constructor
  · rintro (z | z | z | z)
    · have l := congrArg List.length z
      rw [List.length_drop, List.length_drop] at l
      omega
    · have l := congrArg List.length z
      rw [List.length_drop, List.length_drop] at l
      omega
    · exact z
    · have l := congrArg List.length z
      rw [List.length_drop, List.length_drop] at l
      rw [List.drop_eq_nil_of_le (by omega), List.drop_eq_nil_of_le (by omega)]
  · exact fun z => .inr (.inr (.inl z))
noncomputable def preOS (ds : List D) : Prop := ∃ a b : List Nat, ds = [encS a, encS b] ∧ a.length ≤ 1000 ∧ b.length ≤ 1000
noncomputable def resOS : List D → D
  | [.str a, .str b] => .bl (near a b)
  | _ => .non
theorem at_getD {l : List Nat} {k : Nat} (h : k < l.length) : atI l (k : Int) = some (l.getD k 0) := atI_nat (by rw [List.getElem?_eq_getElem h, List.getD_eq_getElem?_getD, List.getElem?_eq_getElem h]; rfl)
theorem ok_law_near (Z : Tx K mg ad0) : FnOk P w K mg base CX0 1 ad0.f_law_near ad0.d_law_near ["_law_one", "_law_other"] (SpD K preOS resOS) := by
  refine Z.F_law_near.ok sc_law_near (fun vs H Q E h => spD_len (n := 2) (by rintro ds ⟨c, d, rfl, _⟩; rfl) h) (fun cdv A outer s H vs Q E hr h => ⟨_, (pss_cons (ps_if (pt_cmpR op_gt (pe_callB call_len_str (by rfl) Z.z_len boot_len (pa_cons (pv 0) pa_nil)) (pe_callB call_len_str (by rfl) Z.z_len boot_len (pa_cons (pv 1) pa_nil)) (nomark _)) (pss_one (ps_par (i := 0) (j := 1) rfl sc_law_near.nd rfl rfl (by decide) rfl rfl (pa_cons (pv 1) (pa_cons (pv 0) pa_nil)) rfl)) pss_nil)
      (pss_cons (ps_set (i := 2) sc_law_near.nd rfl (Or.inl rfl) pe_int)
      (pss_cons (ps_while PassesOwn.never (PW.pt (pw_and (pt_cmpR op_lt (pv 2) (pe_callB call_len_str (by rfl) Z.z_len boot_len (pa_cons (pv 0) pa_nil)) (nomark _)) (pw_and1 (pt_cmpR op_eq (pe_ix ix_str (pv 0) (pv 2) (fun _ _ => rfl)) (pe_ix ix_str (pv 1) (pv 2) (fun _ _ => rfl)) (nomark _))))) (pss_one (ps_set (i := 2) sc_law_near.nd rfl (Or.inl rfl) (pe_op op_add (pv 2) pe_int))))
      (pss_cons (ps_if (pt_cmpR op_eq (pe_callB call_len_str (by rfl) Z.z_len boot_len (pa_cons (pv 0) pa_nil)) (pe_callB call_len_str (by rfl) Z.z_len boot_len (pa_cons (pv 1) pa_nil)) (nomark _)) (pss_one (ps_ret (pe_cmpR op_eq (pe_slice sl_str (pv 0) (po_some (pe_op op_add (pv 2) pe_int)) po_none) (pe_slice sl_str (pv 1) (po_some (pe_op op_add (pv 2) pe_int)) po_none) (nomark _)))) pss_nil)
      (pss_one (ps_ret (pe_cmpR op_eq (pe_slice sl_str (pv 0) (po_some (pv 2)) po_none) (pe_slice sl_str (pv 1) (po_some (pe_op op_add (pv 2) pe_int)) po_none) (nomark _)))))))), ?_⟩)
  refine go_spD h (by rw [spD_len (n := 2) (by rintro ds ⟨c, d, rfl, _⟩; rfl) h]; decide) fun G ds hp rt => ?_
  obtain ⟨a, b, rfl, ha, hb⟩ := hp
  have rt : RtD K G H Q (.bl (near a b)) := rt
  refine go_join (fun ss => ∃ p q : List Nat, ss = [.d (encS p), .d (encS q), .un] ∧ p.length ≤ q.length ∧ near p q = near a b ∧ p.length ≤ 1000 ∧ q.length ≤ 1000) (fun N hN => go_if (evt_test (ev_gt (ev_lenS (ev_var rfl).b (small ha)).b (ev_lenS (ev_var rfl).b (small hb)).b)) (fun h => ?_) (fun h => ?_)) ?_
  · have h := of_decide_eq_true h
    exact go_par (evaf_cons (ev_var rfl) (evaf_cons (ev_var rfl) evaf_nil)) (hN _ ⟨b, a, rfl, by omega, near_symm _ _, hb, ha⟩)
  · have h := of_decide_eq_false h
    exact go_next (hN _ ⟨a, b, rfl, by omega, rfl, ha, hb⟩)
  rintro ss ⟨p, q, rfl, hpq, e, hp, hq⟩
  rw [← e] at rt
  refine go_seq (go_set (d := .int 0) ev_int ?_)
  ((try dsimp only); refine nx_go ?_)
  have zp : p.length ≤ sizeLine := small hp
  have zq : q.length ≤ sizeLine := small hq
  refine go_seq (go_while (fun m ss => ∃ k : Nat, ss = [.d (encS p), .d (encS q), .d (.int k)] ∧ k ≤ p.length ∧ p.take k = q.take k ∧ m = p.length - k) (p.length - 0) ⟨0, rfl, Nat.zero_le _, rfl, rfl⟩ ?_)
  rintro m ss ⟨k, rfl, hk, ht, rfl⟩
  refine ⟨decide ((k : Int) < (p.length : Int)) && decide ([p.getD k 0] = [q.getD k 0]), evt_and (evt_test (ev_lt (ev_var rfl).b (ev_lenS (ev_var rfl).b zp).b)) fun hb => ?_, fun hb N hN => ?_, fun hb => ?_⟩
  · have hb := of_decide_eq_true hb
    exact evt_test (ev_eqS (ev_ixS (ev_var rfl).b (ev_var rfl).b zp (at_getD (by omega))).b (ev_ixS (ev_var rfl).b (ev_var rfl).b zq (at_getD (by omega))).b)
  · obtain ⟨h1, h2⟩ := Bool.and_eq_true_iff.mp hb
    have h1 := of_decide_eq_true h1
    have h2 := of_decide_eq_true h2
    refine go_set (d := .int ((k : Int) + 1)) (ev_add (ev_var rfl).b ev_int.b) (hN (p.length - (k + 1)) _ (by omega) ⟨k + 1, rfl, by omega, ?_, rfl⟩)
    have c1 : p[k]? = some (p.getD k 0) := by rw [List.getD_eq_getElem?_getD, List.getElem?_eq_getElem (by omega)]; rfl
    have c2 : q[k]? = some (q.getD k 0) := by rw [List.getD_eq_getElem?_getD, List.getElem?_eq_getElem (by omega)]; rfl
    rw [List.take_add_one, List.take_add_one, ht, c1, c2]
    injection h2 with h2
    rw [h2]
  · have hc : cpl p q = k := by
      refine cpl_of k p q ht hk (by omega) ?_
      rcases Bool.and_eq_false_iff.mp hb with h | h
      · have h := of_decide_eq_false h
        exact .inl (by omega)
      · have h := of_decide_eq_false h
        by_cases hk2 : k < p.length
        · refine .inr fun z => h ?_
          rw [List.getD_eq_getElem?_getD, List.getD_eq_getElem?_getD, z]
        · exact .inl (by omega)
    subst hc
    ((try dsimp only); refine nx_go ?_)
    have c1 : ∀ l : List Nat, cutL l (some ((cpl p q : Int) + 1)) none = l.drop (cpl p q + 1) := fun l => by rw [cutL_drop _ (by omega), show ((cpl p q : Int) + 1).toNat = cpl p q + 1 by omega]
    have c2 : ∀ l : List Nat, cutL l (some (cpl p q : Int)) none = l.drop (cpl p q) := fun l => by rw [cutL_drop _ (Int.natCast_nonneg _), Int.toNat_natCast]
    refine go_seq (go_if (evt_test (ev_eqI (ev_lenS (ev_var rfl).b zp).b (ev_lenS (ev_var rfl).b zq).b)) (fun h => ?_) (fun h => go_next ?_))
    · have h : p.length = q.length := by have := of_decide_eq_true h; omega
      rw [near_eq h, ← c1, ← c1] at rt
      exact go_ret (ev_eqS (ev_slS (ev_var rfl).b (evp_part (ev_add (ev_var rfl).b ev_int.b).b) evp_no zp).b (ev_slS (ev_var rfl).b (evp_part (ev_add (ev_var rfl).b ev_int.b).b) evp_no zq).b) rt
    ((try dsimp only); refine nx_go ?_)
    have h : p.length < q.length := by have := of_decide_eq_false h; omega
    rw [near_lt h, ← c1, ← c2] at rt
    exact go_ret (ev_eqS (ev_slS (ev_var rfl).b (evp_part (ev_var rfl).b) evp_no zp).b (ev_slS (ev_var rfl).b (evp_part (ev_add (ev_var rfl).b ev_int.b).b) evp_no zq).b) rt
theorem take_last {α : Type} {P : α → Prop} {l : List α} {k : Nat} {x : α} (hk : l[k]? = some x) (h : ∀ y ∈ l.take k, P y) (hx : P x) : ∀ y ∈ l.take (k + 1), P y := by
  intro y hy
  rw [List.take_add_one, hk] at hy
  rcases List.mem_append.mp hy with hy | hy
  · exact h y hy
  · have : y = x := by simpa using hy
    rw [this]; exact hx
noncomputable def preLs (q : Nat × List Fct × List Nat × List Nat × List Nat) (ds : List D) : Prop := ds = [.int (q.1 : Int), bkD q.2.1, encS q.2.2.1, encS q.2.2.2.1, encS q.2.2.2.2] ∧ q.1 < 5 ∧ q.2.1.length ≤ 14 ∧ ∀ g ∈ q.2.1, g.2.2.length ≤ 15
noncomputable def resLs (q : Nat × List Fct × List Nat × List Nat × List Nat) : D := .bl (sayBy q.1 q.2.1 q.2.2.2.2 q.2.2.1 q.2.2.2.1)
theorem tx_len15 {b : List Fct} (h : ∀ g ∈ b, g.2.2.length ≤ 15) (c f : List Nat) : ∀ l ∈ txF b c f, l.length ≤ 15 := fun l hl => by
  unfold txF at hl
  obtain ⟨g, hg, rfl⟩ := List.mem_map.mp hl
  exact h g (List.mem_filter.mp hg).1
section
variable {G H₀ L : Hp} {ss : List Sl} {tb t1 t2 : TE}
theorem evo_tx {b : List Fct} {c f : List Nat} (hb : b.length ≤ 14) (a1 : Ev K G H₀ L ss tb (bkD b)) (a2 : Ev K G H₀ L ss t1 (encS c)) (a3 : Ev K G H₀ L ss t2 (encS f)) : EvO K G H₀ L ss (tCall (SpO K preTO resTx) [] E0 (tCons tb (tCons t1 (tCons t2 tNil)))) ((txF b c f).map encS) := by
  rw [← resTx_enc]
  exact evo_call (pre := preTO) (res := resTx) (ds := [bkD b, encS c, encS f]) (evaf_cons a1 (evaf_cons a2 (evaf_cons a3 evaf_nil))) ⟨b, c, f, rfl, by omega⟩
theorem evo_pl {a : List (List Nat)} (ha : a.length ≤ 14) (hl : ∀ l ∈ a, l.length ≤ 15) (e : Ev K G H₀ L ss t1 (.lst (a.map encS))) : EvO K G H₀ L ss (tCall (SpO K preLp resPs) [] E0 (tCons t1 tNil)) ((a.map plF).map encS) := by
  rw [← resPs_enc]
  exact evo_call (pre := preLp) (res := resPs) (ds := [.lst (a.map encS)]) (evaf_cons e evaf_nil) ⟨a, rfl, by omega, fun l h => by have := hl l h; omega⟩
theorem ev_meet {a b : List (List Nat)} (h : a.length + b.length ≤ 1000) (e1 : Ev K G H₀ L ss t1 (.lst (a.map encS))) (e2 : Ev K G H₀ L ss t2 (.lst (b.map encS))) : Ev K G H₀ L ss (tCall (SpD K preSh resSh) [] E0 (tCons t1 (tCons t2 tNil))) (.bl (meetB a b)) := by
  rw [← resSh_enc]
  exact ev_call (pre := preSh) (res := resSh) (evaf_cons e1 (evaf_cons e2 evaf_nil)) ⟨a, b, rfl, h⟩
end
theorem ok_law_speaks (Z : Tx K mg ad0) : FnOk P w K mg base CX0 3 ad0.f_law_speaks ad0.d_law_speaks ["_law_sort", "_law_book_here", "_law_one", "_law_other", "_law_field_here"] (SpG K preLs resLs) := by
  have G_law_texts := ok_law_texts (P := P) (w := w) (base := base) Z
  have G_law_plains := ok_law_plains (P := P) (w := w) (base := base) Z
  have G_law_meet := ok_law_meet (P := P) (w := w) (base := base) Z
  have G_law_near := ok_law_near (P := P) (w := w) (base := base) Z
  refine Z.F_law_speaks.ok sc_law_speaks (fun vs H Q E h => spG_len (n := 5) (by rintro q ds ⟨rfl, _⟩; rfl) h) (fun cdv A outer s H vs Q E hr h => ⟨_, (pss_cons (ps_if (pt_cmpR op_eq (pv 0) pe_int (nomark _)) (pss_cons (ps_set (i := 5) sc_law_speaks.nd rfl (Or.inl rfl) (pe_call G_law_plains (hr.mono (by decide)) (by rfl) Z.M_law_plains Z.F_law_plains.kp Z.B_law_plains .nil pass0 (pa_cons (pe_call G_law_texts (hr.mono (by decide)) (by rfl) Z.M_law_texts Z.F_law_texts.kp Z.B_law_texts .nil pass0 (pa_cons (pv 1) (pa_cons (pv 3) (pa_cons pe_str pa_nil)))) pa_nil)))
      (pss_cons (ps_set (i := 6) sc_law_speaks.nd rfl (Or.inl rfl) (pe_call G_law_plains (hr.mono (by decide)) (by rfl) Z.M_law_plains Z.F_law_plains.kp Z.B_law_plains .nil pass0 (pa_cons (pe_call G_law_texts (hr.mono (by decide)) (by rfl) Z.M_law_texts Z.F_law_texts.kp Z.B_law_texts .nil pass0 (pa_cons (pv 1) (pa_cons (pv 2) (pa_cons pe_str pa_nil)))) pa_nil)))
      (pss_cons (ps_if (pt_val (pe_call G_law_meet (hr.mono (by decide)) (by rfl) Z.M_law_meet Z.F_law_meet.kp Z.B_law_meet .nil pass0 (pa_cons (pe_call G_law_plains (hr.mono (by decide)) (by rfl) Z.M_law_plains Z.F_law_plains.kp Z.B_law_plains .nil pass0 (pa_cons (pe_call G_law_texts (hr.mono (by decide)) (by rfl) Z.M_law_texts Z.F_law_texts.kp Z.B_law_texts .nil pass0 (pa_cons (pv 1) (pa_cons (pv 2) (pa_cons pe_str pa_nil)))) pa_nil)) (pa_cons (pv 5) pa_nil)))) (pss_one (ps_ret pe_bl)) pss_nil)
      (pss_one (ps_ret (pe_call G_law_meet (hr.mono (by decide)) (by rfl) Z.M_law_meet Z.F_law_meet.kp Z.B_law_meet .nil pass0 (pa_cons (pe_call G_law_plains (hr.mono (by decide)) (by rfl) Z.M_law_plains Z.F_law_plains.kp Z.B_law_plains .nil pass0 (pa_cons (pe_call G_law_texts (hr.mono (by decide)) (by rfl) Z.M_law_texts Z.F_law_texts.kp Z.B_law_texts .nil pass0 (pa_cons (pv 1) (pa_cons (pv 3) (pa_cons pe_str pa_nil)))) pa_nil)) (pa_cons (pv 6) pa_nil)))))))) pss_nil)
      (pss_cons (ps_set (i := 6) sc_law_speaks.nd rfl (Or.inl rfl) (pe_call G_law_texts (hr.mono (by decide)) (by rfl) Z.M_law_texts Z.F_law_texts.kp Z.B_law_texts .nil pass0 (pa_cons (pv 1) (pa_cons (pv 2) (pa_cons (pv 4) pa_nil)))))
      (pss_cons (ps_set (i := 5) sc_law_speaks.nd rfl (Or.inl rfl) (pe_call G_law_texts (hr.mono (by decide)) (by rfl) Z.M_law_texts Z.F_law_texts.kp Z.B_law_texts .nil pass0 (pa_cons (pv 1) (pa_cons (pv 3) (pa_cons (pv 4) pa_nil)))))
      (pss_cons (ps_if (pt_cmpR op_eq (pv 0) pe_int (nomark _)) (pss_one (ps_ret (pe_call G_law_meet (hr.mono (by decide)) (by rfl) Z.M_law_meet Z.F_law_meet.kp Z.B_law_meet .nil pass0 (pa_cons (pv 6) (pa_cons (pv 5) pa_nil))))) pss_nil)
      (pss_cons (ps_set (i := 6) sc_law_speaks.nd rfl (Or.inl rfl) (pe_call G_law_plains (hr.mono (by decide)) (by rfl) Z.M_law_plains Z.F_law_plains.kp Z.B_law_plains .nil pass0 (pa_cons (pv 6) pa_nil)))
      (pss_cons (ps_set (i := 5) sc_law_speaks.nd rfl (Or.inl rfl) (pe_call G_law_plains (hr.mono (by decide)) (by rfl) Z.M_law_plains Z.F_law_plains.kp Z.B_law_plains .nil pass0 (pa_cons (pv 5) pa_nil)))
      (pss_cons (ps_if (pt_cmpR op_eq (pv 0) pe_int (nomark _)) (pss_one (ps_ret (pe_call G_law_meet (hr.mono (by decide)) (by rfl) Z.M_law_meet Z.F_law_meet.kp Z.B_law_meet .nil pass0 (pa_cons (pv 6) (pa_cons (pv 5) pa_nil))))) pss_nil)
      (pss_cons (ps_if (pt_cmpR op_eq (pv 0) pe_int (nomark _)) (pss_one (ps_ret (pe_and (pe_cmpR (show OpR _ _ (rNeD K) from op_neD hr.units) (pv 6) (pe_lst pa_nil) (nomark _)) (pe_and (pe_cmpR (show OpR _ _ (rNeD K) from op_neD hr.units) (pv 5) (pe_lst pa_nil) (nomark _)) (pe_one (pe_not (pe_call G_law_meet (hr.mono (by decide)) (by rfl) Z.M_law_meet Z.F_law_meet.kp Z.B_law_meet .nil pass0 (pa_cons (pv 6) (pa_cons (pv 5) pa_nil))))))))) pss_nil)
      (pss_cons (ps_for PassesOwn.never rfl (pi_list (pv 6)) (pg_name (i := 7) sc_law_speaks.nd rfl (Or.inr rfl)) (pss_one (ps_if (pt_val (pe_callB (call_any rfl) (by rfl) Z.z_any boot_any (pa_cons (pe_lc rfl (LcOk.of (Nx := (["_law_sort", "_law_book_here", "_law_one", "_law_other", "_law_field_here", "_law_its", "_law_mine", "_law_text"] : List Str)) (sc := defScope s_law_speaks) (N' := (["_law_another", "_law_text"] : List Str)) (nt := 1) (cs := [7]) rfl rfl (by decide +kernel)) (pi_list (pv 5)) (fun _ _ _ _ => (pg_name (i := 0) (show List.Nodup (["_law_another", "_law_text"] : List Str) by decide +kernel) rfl (Or.inl rfl))) (fun _ _ _ _ => pifs_nil) (fun _ _ _ _ => (pe_call G_law_near (hr.mono (by decide)) (by rfl) Z.M_law_near Z.F_law_near.kp Z.B_law_near .nil pass0 (pa_cons (pv 1) (pa_cons (pv 0) pa_nil))))) pa_nil))) (pss_one (ps_ret pe_bl)) pss_nil)))
      (pss_one (ps_ret pe_bl))))))))))), ?_⟩)
  refine go_spG h (by rw [spG_len (n := 5) (by rintro q ds ⟨rfl, _⟩; rfl) h]; decide) fun G ds q hp rt => ?_
  obtain ⟨n, b, x, y, f⟩ := q
  obtain ⟨rfl, h5, hb, ht⟩ := hp
  have hb : b.length ≤ 14 := hb
  have h5 : n < 5 := h5
  have rt : RtD K G H Q (.bl (sayBy n b f x y)) := rt
  have lx : ∀ c f, (txF b c f).length ≤ 14 := fun c f => by have := txF_len b c f; omega
  have tl : ∀ c f, ∀ l ∈ txF b c f, l.length ≤ 15 := fun c f => tx_len15 ht c f
  have pl1 : ∀ c f, ((txF b c f).map plF).length ≤ 14 := fun c f => by rw [List.length_map]; exact lx c f
  have pl2 : ∀ c f, ∀ l ∈ (txF b c f).map plF, l.length ≤ 1000 := fun c f l hl => by
    obtain ⟨z, hz, rfl⟩ := List.mem_map.mp hl
    have := tl c f z hz; have := plF_len z; omega
  refine go_seq (go_if (evt_test (ev_eqI (ev_var rfl).b ev_int.b)) (fun hb0 => ?_) (fun hb0 => go_next ?_))
  · have hn : n = 4 := by have := of_decide_eq_true hb0; omega
    subst hn
    have rt : RtD K G H Q (.bl (callF b x y || callF b y x)) := rt
    refine go_seq (go_setO (ds := ((txF b y fmL).map plF).map encS) (evo_pl (lx y fmL) (tl y fmL) (EvO.ev (evo_tx hb (ev_var rfl) (ev_var rfl) (ev_str (l := fmL) fmL_T.symm fmL_lt)))) fun p1 => nx_freeze (i := 5) rfl ?_)
    ((try dsimp only); refine nx_go ?_)
    refine go_seq (go_setO (ds := ((txF b x fmL).map plF).map encS) (evo_pl (lx x fmL) (tl x fmL) (EvO.ev (evo_tx hb (ev_var rfl) (ev_var rfl) (ev_str (l := fmL) fmL_T.symm fmL_lt)))) fun p2 => nx_freeze (i := 6) rfl ?_)
    ((try dsimp only); refine nx_go ?_)
    refine go_seq (go_if (b := callF b x y) (evt_b (ev_meet (by have := pl1 x nmL; have := pl1 y fmL; omega) (EvO.ev (evo_pl (lx x nmL) (tl x nmL) (EvO.ev (evo_tx hb (ev_var rfl) (ev_var rfl) (ev_str (l := nmL) nmL_T.symm nmL_lt))))) (ev_var rfl))) (fun h => ?_) (fun h => go_next ?_))
    · rw [h, Bool.true_or] at rt
      exact go_ret ev_bl rt
    ((try dsimp only); refine nx_go ?_)
    rw [h, Bool.false_or] at rt
    exact go_ret (ev_meet (by have := pl1 y nmL; have := pl1 x fmL; omega) (EvO.ev (evo_pl (lx y nmL) (tl y nmL) (EvO.ev (evo_tx hb (ev_var rfl) (ev_var rfl) (ev_str (l := nmL) nmL_T.symm nmL_lt))))) (ev_var rfl)) rt
  ((try dsimp only); refine nx_go ?_)
  refine go_seq (go_setO (ds := (txF b x f).map encS) (evo_tx hb (ev_var rfl) (ev_var rfl) (ev_var rfl)) fun p1 => nx_freeze (i := 6) rfl ?_)
  ((try dsimp only); refine nx_go ?_)
  refine go_seq (go_setO (ds := (txF b y f).map encS) (evo_tx hb (ev_var rfl) (ev_var rfl) (ev_var rfl)) fun p2 => nx_freeze (i := 5) rfl ?_)
  ((try dsimp only); refine nx_go ?_)
  refine go_seq (go_if (evt_test (ev_eqI (ev_var rfl).b ev_int.b)) (fun hb1 => ?_) (fun hb1 => go_next ?_))
  · have hn : n = 0 := by have := of_decide_eq_true hb1; omega
    subst hn
    exact go_ret (ev_meet (by have := lx x f; have := lx y f; omega) (ev_var rfl) (ev_var rfl)) rt
  ((try dsimp only); refine nx_go ?_)
  refine go_seq (go_setO (ds := ((txF b x f).map plF).map encS) (evo_pl (lx x f) (tl x f) (ev_var rfl)) fun p3 => nx_freeze (i := 6) rfl ?_)
  ((try dsimp only); refine nx_go ?_)
  refine go_seq (go_setO (ds := ((txF b y f).map plF).map encS) (evo_pl (lx y f) (tl y f) (ev_var rfl)) fun p4 => nx_freeze (i := 5) rfl ?_)
  ((try dsimp only); refine nx_go ?_)
  refine go_seq (go_if (evt_test (ev_eqI (ev_var rfl).b ev_int.b)) (fun hb2 => ?_) (fun hb2 => go_next ?_))
  · have hn : n = 1 := by have := of_decide_eq_true hb2; omega
    subst hn
    exact go_ret (ev_meet (by have := pl1 x f; have := pl1 y f; omega) (ev_var rfl) (ev_var rfl)) rt
  ((try dsimp only); refine nx_go ?_)
  refine go_seq (go_if (evt_test (ev_eqI (ev_var rfl).b ev_int.b)) (fun hb3 => ?_) (fun hb3 => go_next ?_))
  · have hn : n = 3 := by have := of_decide_eq_true hb3; omega
    subst hn
    have e : sayO b f x y = (!decide (D.lst (((txF b x f).map plF).map encS) = .lst []) && (!decide (D.lst (((txF b y f).map plF).map encS) = .lst []) && !meetB ((txF b x f).map plF) ((txF b y f).map plF))) := by
      rw [lstS_nil, lstS_nil]
      unfold sayO byO
      have n : ∀ l : List (List Nat), decide (l.map plF = []) = decide (l = []) := fun l => by cases l <;> simp
      rw [n, n]
    have rt : RtD K G H Q (.bl (sayO b f x y)) := rt
    rw [e] at rt
    exact go_ret (ev_and (ev_neD (d1 := .lst (((txF b x f).map plF).map encS)) (d2 := .lst []) (ev_var rfl).b (EvO.ev (evo_lst evaf_nil (small (by decide)))).b (lstS_nb _) rfl (lstS_dep _)) fun _ => ev_and (ev_neD (d1 := .lst (((txF b y f).map plF).map encS)) (d2 := .lst []) (ev_var rfl).b (EvO.ev (evo_lst evaf_nil (small (by decide)))).b (lstS_nb _) rfl (lstS_dep _)) fun _ => ev_not (ev_meet (by have := pl1 x f; have := pl1 y f; omega) (ev_var rfl) (ev_var rfl))) rt
  ((try dsimp only); refine nx_go ?_)
  have hn : n = 2 := by
    have := of_decide_eq_false hb0; have := of_decide_eq_false hb1; have := of_decide_eq_false hb2; have := of_decide_eq_false hb3
    have : n < 5 := h5
    omega
  subst hn
  have rt : RtD K G H Q (.bl (nearAny ((txF b x f).map plF) ((txF b y f).map plF))) := rt
  have q1 := pl2 x f
  have q2 := pl2 y f
  have r1 := pl1 x f
  have r2 := pl1 y f
  generalize (txF b x f).map plF = A1 at *
  generalize (txF b y f).map plF = A2 at *
  refine go_seq (go_for encS A1 (fun k ss => ∃ v7 : Sl, ss = [.d (.int (2 : Nat)), .d (bkD b), .d (encS x), .d (encS y), .d (encS f), .d (.lst (A2.map encS)), .d (.lst (A1.map encS)), v7] ∧ ∀ u ∈ A1.take k, ∀ v ∈ A2, near u v = false) (ev_var rfl) ⟨.un, rfl, fun _ h => by cases h⟩ ?_ ?_)
  · rintro L' k u ss hL hk ⟨v7, rfl, hno⟩
    refine ⟨_, tg_name, fun N hN => ?_⟩
    have hu := List.mem_of_getElem? hk
    refine go_if (b := A2.any fun v => near u v) (evt_b (ev_anyM (xs := A2) (g := fun v => near u v) (EvO.l (evo_lcM A2 encS (fun v => .bl (near u v)) (ev_var rfl).l (gk_name (by decide)) (by decide) (by rw [sizeLine_eq]; omega) fun v hv => ⟨_, tg_name, ev_call (pre := preOS) (res := resOS) (ds := [encS u, encS v]) (evaf_cons (ev_var rfl) (evaf_cons (ev_var rfl) evaf_nil)) ⟨u, v, rfl, q1 u hu, q2 v hv⟩⟩)))) (fun h => ?_) (fun h => ?_)
    · obtain ⟨v, hv, hn⟩ := List.any_eq_true.mp h
      rw [nearAny_iff.mpr ⟨u, hu, v, hv, hn⟩] at rt
      exact go_ret ev_bl rt
    · refine go_next (hN _ ⟨_, rfl, take_last hk hno fun v hv => ?_⟩)
      cases z : near u v with
      | false => rfl
      | true =>
        have : (A2.any fun v => near u v) = true := List.any_eq_true.mpr ⟨v, hv, z⟩
        rw [h] at this; cases this
  rintro ss ⟨v7, rfl, hno⟩
  ((try dsimp only); refine nx_go ?_)
  rw [List.take_length] at hno
  have e : nearAny A1 A2 = false := by
    cases z : nearAny A1 A2 with
    | false => rfl
    | true =>
      obtain ⟨x, hx, y, hy, n⟩ := nearAny_iff.mp z
      rw [hno x hx y hy] at n
      cases n
  rw [e] at rt
  exact go_ret ev_bl rt
noncomputable def dueR (rs : List Rl) (b : List Fct) (x y : List Nat) : Int := rs.foldl (fun t r => if sayBy r.1 b r.2.1 x y = true then t + r.2.2 else t) 0
theorem dueR_tot (rs : List Rl) (b : List Fct) (x y : List Nat) : totR rs b x y = dueR rs b x y := by
  unfold totR dueR
  congr 1
  funext t r
  rw [sayBy_ef]
theorem dueR_more (rs : List Rl) (b : List Fct) (x y : List Nat) (k : Nat) (r : Rl) (hk : rs[k]? = some r) : dueR (rs.take (k + 1)) b x y = if sayBy r.1 b r.2.1 x y = true then dueR (rs.take k) b x y + r.2.2 else dueR (rs.take k) b x y := by
  unfold dueR
  rw [List.take_add_one, hk, List.foldl_append]
  rfl
theorem sayBy_comm (s : Nat) (b : List Fct) (f x y : List Nat) : sayBy s b f y x = sayBy s b f x y := by
  match s with
  | 0 => exact meet_comm _ _
  | 1 => exact meet_comm _ _
  | 2 => exact sayN_comm b f x y
  | 3 => exact sayO_comm b f x y
  | _ + 4 => exact sayF_comm b x y
theorem totR_comm (rs : List Rl) (b : List Fct) (x y : List Nat) : totR rs b y x = totR rs b x y := by
  unfold totR
  congr 1
  funext t r
  rw [sayBy_comm]
noncomputable def enc2 (p : List Nat × List Nat) : D := .tup [encS p.1, encS p.2]
theorem ok_law (Z : Tx K mg ad0) : FnOk P w K mg base CX0 21 ad0.f_law ad0.d_law ["_law_script"] (spLaw K) := by
  have G_law_cell_at := ok_law_cell_at (P := P) (w := w) (base := base) Z
  have G_law_whole := ok_law_whole (P := P) (w := w) (base := base) Z
  have G_law_cards := ok_law_cards (P := P) (w := w) (base := base) Z
  have G_law_book := ok_law_book (P := P) (w := w) (base := base) Z
  have G_law_rules := ok_law_rules (P := P) (w := w) (base := base) Z
  have G_law_made := ok_law_made (P := P) (w := w) (base := base) Z
  have G_law_speaks := ok_law_speaks (P := P) (w := w) (base := base) Z
  have G_weight_of := ok_weight_of (P := P) (w := w) (base := base) Z
  refine Z.F_law.ok sc_law (fun vs H Q E h => by obtain ⟨a, ns, rfl, _⟩ := h; rfl) (fun cdv A outer s H vs Q E hr h => ⟨_, (pss_cons (ps_set (i := 1) sc_law.nd rfl (Or.inl rfl) (pe_call G_law_cell_at (hr.mono (by decide)) (by rfl) Z.M_law_cell_at Z.F_law_cell_at.kp Z.B_law_cell_at .nil pass0 (pa_cons (pv 0) (pa_cons pe_int pa_nil))))
      (pss_cons (ps_set (i := 2) sc_law.nd rfl (Or.inl rfl) (pe_call G_law_cell_at (hr.mono (by decide)) (by rfl) Z.M_law_cell_at Z.F_law_cell_at.kp Z.B_law_cell_at .nil pass0 (pa_cons (pv 0) (pa_cons pe_int pa_nil))))
      (pss_cons (ps_set (i := 3) sc_law.nd rfl (Or.inl rfl) (pe_call G_law_cards (hr.mono (by decide)) (by rfl) Z.M_law_cards Z.F_law_cards.kp Z.B_law_cards .nil pass0 (pa_cons (pe_op op_fdiv (pv 1) pe_int) (pa_cons (pe_op op_add pe_int (pe_op op_mod (pv 1) pe_int)) pa_nil))))
      (pss_cons (ps_set (i := 4) sc_law.nd rfl (Or.inr rfl) (pe_call G_law_book (hr.mono (by decide)) (by rfl) Z.M_law_book Z.F_law_book.kp Z.B_law_book .nil pass0 (pa_cons (pe_slice sl_list (pv 0) (po_some pe_int) (po_some pe_int)) (pa_cons (pv 3) (pa_cons (pv 2) pa_nil)))))
      (pss_cons (ps_setLC (i := 3) sc_law.nd rfl (Or.inl rfl) rfl (LcOk.of (Nx := (["_law_script", "_law_first", "_law_cell", "_law_cards_here", "_law_book_here", "_law_rows", "_law_rules_here", "_law_handed", "_law_at", "_law_due", "_law_sort", "_law_field_here", "_law_weight", "_law_one", "_law_other", "_law_found"] : List Str)) (sc := defScope s_law) (N' := (["_law_card", "_law_book_here"] : List Str)) (nt := 1) (cs := [4]) rfl rfl (by decide +kernel)) (pi_list (pv 3)) (fun s1 H1 C1 fp1 => (pg_name (i := 0) (show List.Nodup (["_law_card", "_law_book_here"] : List Str) by decide +kernel) rfl (Or.inl rfl))) (fun s1 H1 C1 fp1 => (pifs_one (pt_cmpR (show OpR _ _ (rInD K false) from op_inD hr.units) (pv 0) (pe_lc rfl (LcOk.of (Nx := (["_law_card", "_law_book_here"] : List Str)) (sc := ({ kind := .function, names := [(".0", .local), ("_law_card", .local), ("_law_book_here", .cell)], isGenerator := false, isCoroutine := false } : Scope)) (N' := (["_law_fact"] : List Str)) (nt := 1) (cs := []) rfl rfl (by decide +kernel)) (show PI _ _ _ (iList K _) from pi_list (pv (X := lcCx (cxOf CX0 P w K mg base (["_law_script", "_law_first", "_law_cell", "_law_cards_here", "_law_book_here", "_law_rows", "_law_rules_here", "_law_handed", "_law_at", "_law_due", "_law_sort", "_law_field_here", "_law_weight", "_law_one", "_law_other", "_law_found"] : List Str) "law" (defScope s_law) ad0.f_law cdv A outer s H E).nox (["_law_card", "_law_book_here"] : List Str) ({ kind := .function, names := [(".0", .local), ("_law_card", .local), ("_law_book_here", .free)], isGenerator := false, isCoroutine := false } : Scope) s1 H1 C1 fp1) 1)) (fun _ _ _ _ => (pg_name (i := 0) (show List.Nodup (["_law_fact"] : List Str) by decide +kernel) rfl (Or.inl rfl))) (fun _ _ _ _ => pifs_nil) (fun _ _ _ _ => (pe_ix (show IxR _ (rIxT K) from ix_tup) (pv 0) pe_int (fun _ _ => rfl)))) (by with_unfolding_all rfl)))) (fun s1 H1 C1 fp1 => (pv 0)))
      (pss_cons (ps_set (i := 5) sc_law.nd rfl (Or.inl rfl) (pe_call G_law_rules (hr.mono (by decide)) (by rfl) Z.M_law_rules Z.F_law_rules.kp Z.B_law_rules .nil pass0 (pa_cons (pe_call G_law_cell_at (hr.mono (by decide)) (by rfl) Z.M_law_cell_at Z.F_law_cell_at.kp Z.B_law_cell_at .nil pass0 (pa_cons (pv 0) (pa_cons pe_int pa_nil))) (pa_cons (pv 2) pa_nil))))
      (pss_cons (ps_setLC (i := 6) sc_law.nd rfl (Or.inl rfl) rfl (LcOk.of (Nx := (["_law_script", "_law_first", "_law_cell", "_law_cards_here", "_law_book_here", "_law_rows", "_law_rules_here", "_law_handed", "_law_at", "_law_due", "_law_sort", "_law_field_here", "_law_weight", "_law_one", "_law_other", "_law_found"] : List Str)) (sc := defScope s_law) (N' := (["_law_row"] : List Str)) (nt := 1) (cs := []) rfl rfl (by decide +kernel)) (pi_list (pv 5)) (fun _ _ _ _ => (pg_name (i := 0) (show List.Nodup (["_law_row"] : List Str) by decide +kernel) rfl (Or.inl rfl))) (fun _ _ _ _ => pifs_nil) (fun _ _ _ _ => (pe_call G_law_made (hr.mono (by decide)) (by rfl) Z.M_law_made Z.F_law_made.kp Z.B_law_made .nil pass0 (pa_cons (pv 0) pa_nil))))
      (pss_cons (ps_set (i := 7) sc_law.nd rfl (Or.inl rfl) (pe_callTy call_list_of (by rfl) Z.z_list boot_list (pa_cons (pv 4) pa_nil)))
      (pss_cons (ps_for PassesOwn.never rfl (pi_range2 (by rfl) Z.z_range (pa_cons pe_int (pa_cons (pe_callB call_len_seq (by rfl) Z.z_len boot_len (pa_cons (pv 3) pa_nil)) pa_nil))) (pg_name (i := 8) sc_law.nd rfl (Or.inl rfl)) (pss_cons (ps_set (i := 9) sc_law.nd rfl (Or.inl rfl) pe_int)
      (pss_cons (ps_for PassesOwn.never rfl (pi_list (pv 5)) (pg_tup rfl (pgs_cons (pg_name (i := 10) sc_law.nd rfl (Or.inl rfl)) (pgs_cons (pg_name (i := 11) sc_law.nd rfl (Or.inl rfl)) (pgs_cons (pg_name (i := 12) sc_law.nd rfl (Or.inl rfl)) pgs_nil)))) (pss_one (ps_if (pt_val (pe_call G_law_speaks (hr.mono (by decide)) (by rfl) Z.M_law_speaks Z.F_law_speaks.kp Z.B_law_speaks .nil pass0 (pa_cons (pv 10) (pa_cons (pv 4) (pa_cons (pe_ix (show IxR _ (rIxL K) from ix_list) (pv 3) (pv 8) (fun _ _ => rfl)) (pa_cons (pe_ix (show IxR _ (rIxL K) from ix_list) (pv 3) (pe_op op_sub (pv 8) pe_int) (fun _ _ => rfl)) (pa_cons (pv 11) pa_nil))))))) (pss_one (ps_set (i := 9) sc_law.nd rfl (Or.inl rfl) (pe_op op_add (pv 9) (pv 12)))) pss_nil)))
      (pss_one (ps_for PassesOwn.never rfl (pi_list (pe_lst (pa_cons (pe_tup (pa_cons (pe_ix (show IxR _ (rIxL K) from ix_list) (pv 3) (pv 8) (fun _ _ => rfl)) (pa_cons (pe_ix (show IxR _ (rIxL K) from ix_list) (pv 3) (pe_op op_sub (pv 8) pe_int) (fun _ _ => rfl)) pa_nil))) (pa_cons (pe_tup (pa_cons (pe_ix (show IxR _ (rIxL K) from ix_list) (pv 3) (pe_op op_sub (pv 8) pe_int) (fun _ _ => rfl)) (pa_cons (pe_ix (show IxR _ (rIxL K) from ix_list) (pv 3) (pv 8) (fun _ _ => rfl)) pa_nil))) pa_nil)))) (pg_tup rfl (pgs_cons (pg_name (i := 13) sc_law.nd rfl (Or.inl rfl)) (pgs_cons (pg_name (i := 14) sc_law.nd rfl (Or.inl rfl)) pgs_nil))) (pss_cons (ps_set (i := 15) sc_law.nd rfl (Or.inl rfl) (pe_call G_weight_of (hr.mono (by decide)) (by rfl) Z.M_weight_of Z.F_weight_of.kp Z.B_weight_of .nil pass0 (pa_cons (pv 6) (pa_cons (pv 7) (pa_cons (pv 13) (pa_cons (pv 14) pa_nil))))))
      (pss_one (ps_if (PW.pt (pw_or (pt_not (pt_val (pe_call G_law_whole (hr.mono (by decide)) (by rfl) Z.M_law_whole Z.F_law_whole.kp Z.B_law_whole .nil pass0 (pa_cons (pv 15) pa_nil)))) (pw_or (pt_cmpR op_ne (pv 15) (pv 9) (nomark _)) (pw_or1 (pt_cmpR op_ne (pe_call G_weight_of (hr.mono (by decide)) (by rfl) Z.M_weight_of Z.F_weight_of.kp Z.B_weight_of .nil pass0 (pa_cons (pe_lst pa_nil) (pa_cons (pv 7) (pa_cons (pv 13) (pa_cons (pv 14) pa_nil))))) pe_int (nomark _)))))) (pss_one (ps_ret pe_bl)) pss_nil))))))))
      (pss_one (ps_ret (pe_and (pe_cmpR (show OpR _ _ (rEqD K) from op_eqD hr.units) (pv 7) (pv 4) (nomark _)) (pe_one (pe_cmpR op_eq (pe_callB call_len_seq (by rfl) Z.z_len boot_len (pa_cons (pv 6) pa_nil)) (pe_callB call_len_seq (by rfl) Z.z_len boot_len (pa_cons (pv 5) pa_nil)) (nomark _))))))))))))))), ?_⟩)
  obtain ⟨a, ns, rfl, sq, hl, hQ⟩ := h
  have r : Reps K H [.lst (ns.map .int)] [.ref a] := Reps.cons (Rep.lst sq (reps_ints ns)) Reps.nil
  have rt : RtD K H H Q (.bl true) := fun v F H' e r => by rw [r.of_bl]; exact hQ H'
  refine (?_ : Go K H H H _ (slots 16 [.lst (ns.map .int)]) _) H H _ (sat_start (Same.refl H) r (by simp))
  have cell : ∀ k : Int, ∃ i, resCell [.lst (ns.map .int), .int k] = .int i := fun k => by
    show ∃ i, (ns.map D.int).getD k.toNat (.int 0) = .int i
    rw [List.getD_eq_getElem?_getD, List.getElem?_map]
    cases ns[k.toNat]? <;> exact ⟨_, rfl⟩
  obtain ⟨i0, ei0⟩ := cell 0
  obtain ⟨i1, ei1⟩ := cell 1
  obtain ⟨i2, ei2⟩ := cell 2
  refine go_seq (go_set (d := .int i0) (by rw [← ei0]; exact ev_call (pre := preCell) (res := resCell) (evaf_cons (ev_var rfl) (evaf_cons ev_int evaf_nil)) ⟨ns, 0, rfl, by omega⟩) ?_)
  ((try dsimp only); refine nx_go ?_)
  refine go_seq (go_set (d := .int i1) (by rw [← ei1]; exact ev_call (pre := preCell) (res := resCell) (evaf_cons (ev_var rfl) (evaf_cons ev_int evaf_nil)) ⟨ns, 1, rfl, by omega⟩) ?_)
  ((try dsimp only); refine nx_go ?_)
  refine go_seq (go_setO (ds := (cardsL (i0 / 3) (2 + i0 % 3)).map .str) (evo_call (pre := preCards) (res := resCards) (evaf_cons (ev_fdiv (ev_var rfl).b ev_int.b ⟨by decide, by decide⟩) (evaf_cons (ev_add ev_int.b (ev_mod (ev_var rfl).b ev_int.b (by decide)).b) evaf_nil)) ⟨i0 / 3, 2 + i0 % 3, rfl, by omega, by omega⟩) fun pc => nx_freeze (i := 3) rfl ?_)
  ((try dsimp only); refine nx_go ?_)
  have hcl : (cardsL (i0 / 3) (2 + i0 % 3)).length = (2 + i0 % 3).toNat := by unfold cardsL; simp
  generalize cardsL (i0 / 3) (2 + i0 % 3) = cs at hcl
  have hc0 : cs ≠ [] := fun z => by rw [z, List.length_nil] at hcl; omega
  generalize hxs : (ns.drop 3).take 14 = xs
  have hxl : xs.length ≤ 14 := by rw [← hxs]; simp; omega
  have exs : cutD (ns.map D.int) (some 3) (some 17) = xs.map D.int := by
    rw [cutD_mid _ (by decide) (by decide), ← hxs, List.map_take, List.map_drop]; rfl
  refine go_seq (go_setR (i := 4) (pre := preBook) (R := relBook) (ds := [.lst (xs.map .int), .lst (cs.map .str), .int i1]) (evaf_cons (by rw [← exs]; exact (evo_slL (ev_var rfl).l (evp_part ev_int.b) (evp_part ev_int.b)).ev) (evaf_cons (ev_var rfl) (evaf_cons (ev_var rfl) evaf_nil))) ⟨xs, cs, i1, rfl, by omega, hc0, by omega⟩ fun rs hR pb => nx_freeze (i := 4) rfl ?_)
  obtain ⟨b, rfl, hbl, hbt⟩ := hR
  ((try dsimp only); refine nx_go ?_)
  refine go_seq (go_setO (ds := (cs.filter fun c => decide (D.str c ∈ b.map fun f => D.str f.1)).map D.str) (evo_lcX cs D.str (fun c => decide (D.str c ∈ b.map fun f => D.str f.1)) D.str (ev_var rfl).l (gk_name (by decide)) (by decide) (by rw [sizeLine_eq]; omega) fun c hc => ⟨_, tg_name, evt_test (ev_inD (d := .str c) (ev_var rfl).b (EvL.b (EvO.l (evo_lcM b encF (fun f => D.str f.1) (ev_var rfl).l (gk_name (by decide)) (by decide) (by rw [sizeLine_eq]; omega) fun f hf => ⟨_, tg_name, ev_ixT (ev_var rfl) ev_int.b rfl⟩))) rfl (D.nbs_map (fun f => rfl) b) (by show 0 ≤ 60; decide)), fun _ => ev_var rfl⟩) fun pc2 => nx_freeze (i := 3) rfl ?_)
  ((try dsimp only); refine nx_go ?_)
  have hdl := List.length_filter_le (fun c => decide (D.str c ∈ b.map fun f => D.str f.1)) cs
  generalize (cs.filter fun c => decide (D.str c ∈ b.map fun f => D.str f.1)) = ds2 at hdl
  refine go_seq (go_setR (i := 5) (pre := preRu) (R := relRu) (ds := [.int i2, .int i1]) (evaf_cons (by rw [← ei2]; exact ev_call (pre := preCell) (res := resCell) (evaf_cons (ev_var rfl) (evaf_cons ev_int evaf_nil)) ⟨ns, 2, rfl, by omega⟩) (evaf_cons (ev_var rfl) evaf_nil)) ⟨i2, i1, rfl⟩ fun rs hR pr => nx_freeze (i := 5) rfl ?_)
  obtain ⟨rows, rfl, hrl, hro⟩ := hR
  ((try dsimp only); refine nx_go ?_)
  have hrf : ∀ r ∈ rows, r.1 < 5 ∧ ∀ c ∈ fEf r, c < 128 := fun r hr => ⟨(hro r hr).1, by unfold fEf; split; exact (hro r hr).2; exact nmL_lt⟩
  refine go_seq (go_setO (ds := rows.map (insR ad0.c_Same ad0.c_Like ad0.c_Near ad0.c_Other ad0.c_Former)) (evo_lcM rows encRow (insR ad0.c_Same ad0.c_Like ad0.c_Near ad0.c_Other ad0.c_Former) (ev_var rfl).l (gk_name (by decide)) (by decide) (by rw [sizeLine_eq]; omega) fun r hr => ⟨_, tg_name, ev_callG (pre := preMa ad0.c_Same ad0.c_Like ad0.c_Near ad0.c_Other ad0.c_Former) (res := insR ad0.c_Same ad0.c_Like ad0.c_Near ad0.c_Other ad0.c_Former) r (evaf_cons (ev_var rfl) evaf_nil) ⟨rfl, hro r hr⟩⟩) fun pi => nx_freeze (i := 6) rfl ?_)
  ((try dsimp only); refine nx_go ?_)
  refine go_seq (go_setO (ds := b.map encF) (evo_list (ev_var rfl).l) fun ph => nx_freeze (i := 7) rfl ?_)
  ((try dsimp only); refine nx_go ?_)
  have hlm : ((ds2.map D.str).length : Int) = ds2.length := by simp
  refine go_seq (go_range2 (m := 1) (n := ds2.length) (fun j ss => ∃ (v8 v9 v10 v11 v12 v13 v14 v15 : Sl), ss = [.d (.lst (ns.map .int)), .d (.int i0), .d (.int i1), .d (.lst (ds2.map .str)), .d (bkD b), .d (.lst (rows.map encRow)), .d (.lst (rows.map (insR ad0.c_Same ad0.c_Like ad0.c_Near ad0.c_Other ad0.c_Former))), .d (bkD b), v8, v9, v10, v11, v12, v13, v14, v15]) (eva_cons ev_int.b (eva_cons (Ev.b (by rw [← hlm]; exact ev_lenL (ev_var rfl).l)) eva_nil)) ⟨by decide, by decide⟩ ⟨by omega, by omega⟩ ⟨_, _, _, _, _, _, _, _, rfl⟩ ?_ ?_)
  · rintro j ss hj ⟨v8, v9, v10, v11, v12, v13, v14, v15, rfl⟩ N2 hN2
    have hj1 : j + 1 < ds2.length := by omega
    have a1 : atI (ds2.map D.str) (1 + (j : Int)) = some (encS ds2[j + 1]) := by
      rw [show (1 + (j : Int)) = ((j + 1 : Nat) : Int) by omega]
      exact atI_nat (by rw [List.getElem?_map, List.getElem?_eq_getElem hj1]; rfl)
    have a2 : atI (ds2.map D.str) (1 + (j : Int) - 1) = some (encS ds2[j]) := by
      rw [show (1 + (j : Int) - 1) = (j : Int) by omega]
      exact atI_nat (by rw [List.getElem?_map, List.getElem?_eq_getElem (by omega)]; rfl)
    generalize ds2[j + 1] = c1 at a1
    generalize ds2[j] = c2 at a2
    have e1 : ∀ {L0 : Hp} {ss : List Sl}, ss[3]? = some (.d (.lst (ds2.map .str))) → ss[8]? = some (.d (.int (1 + (j : Int)))) → Ev K H H L0 ss (tOp (rIxL K) (tVar 3) (tVar 8)) (encS c1) := fun e1 e2 => ev_ixL (ev_var e1).l (ev_var e2).b a1
    have e2 : ∀ {L0 : Hp} {ss : List Sl}, ss[3]? = some (.d (.lst (ds2.map .str))) → ss[8]? = some (.d (.int (1 + (j : Int)))) → Ev K H H L0 ss (tOp (rIxL K) (tVar 3) (tOp (rI0 fun i j => .int (i - j)) (tVar 8) (tC (.int 1)))) (encS c2) := fun e1 e2 => ev_ixL (ev_var e1).l (ev_sub (ev_var e2).b ev_int.b).b a2
    refine go_seq (go_set (d := .int 0) ev_int ?_)
    ((try dsimp only); refine nx_go ?_)
    refine go_seq (go_for encRow rows (fun k ss => ∃ (v10 v11 v12 v13 v14 v15 : Sl), ss = [.d (.lst (ns.map .int)), .d (.int i0), .d (.int i1), .d (.lst (ds2.map .str)), .d (bkD b), .d (.lst (rows.map encRow)), .d (.lst (rows.map (insR ad0.c_Same ad0.c_Like ad0.c_Near ad0.c_Other ad0.c_Former))), .d (bkD b), .d (.int (1 + (j : Int))), .d (.int (dueR (rows.take k) b c1 c2)), v10, v11, v12, v13, v14, v15]) (ev_var rfl) ⟨_, _, _, _, _, _, rfl⟩ ?_ ?_)
    · rintro L3 k r ss hL3 hk ⟨v10, v11, v12, v13, v14, v15, rfl⟩
      refine ⟨_, tg_tup rfl (tgs_cons tg_name (tgs_cons tg_name (tgs_cons tg_name tgs_nil))), fun N3 hN3 => ?_⟩
      have hm := dueR_more rows b c1 c2 k r hk
      refine go_if (b := sayBy r.1 b r.2.1 c1 c2) (evt_b (ev_callG (pre := preLs) (res := resLs) (r.1, b, c1, c2, r.2.1) (evaf_cons (ev_var rfl) (evaf_cons (ev_var rfl) (evaf_cons (e1 rfl rfl) (evaf_cons (e2 rfl rfl) (evaf_cons (ev_var rfl) evaf_nil))))) ⟨rfl, (hro r (List.mem_of_getElem? hk)).1, hbl, hbt⟩)) (fun h => ?_) (fun h => ?_)
      · refine go_set (d := .int (dueR (rows.take k) b c1 c2 + r.2.2)) (ev_add (ev_var rfl).b (ev_var rfl).b) (hN3 _ ⟨.d (.int (r.1 : Int)), .d (.str r.2.1), .d (.int r.2.2), v13, v14, v15, ?_⟩)
        rw [hm, if_pos h]; rfl
      · refine go_next (hN3 _ ⟨.d (.int (r.1 : Int)), .d (.str r.2.1), .d (.int r.2.2), v13, v14, v15, ?_⟩)
        rw [hm, if_neg (by rw [h]; decide)]; rfl
    rintro ss ⟨v10, v11, v12, v13, v14, v15, rfl⟩
    ((try dsimp only); refine nx_go ?_)
    rw [List.take_length]
    refine go_for enc2 [(c1, c2), (c2, c1)] (fun k ss => ∃ (v13 v14 v15 : Sl), ss = [.d (.lst (ns.map .int)), .d (.int i0), .d (.int i1), .d (.lst (ds2.map .str)), .d (bkD b), .d (.lst (rows.map encRow)), .d (.lst (rows.map (insR ad0.c_Same ad0.c_Like ad0.c_Near ad0.c_Other ad0.c_Former))), .d (bkD b), .d (.int (1 + (j : Int))), .d (.int (dueR rows b c1 c2)), v10, v11, v12, v13, v14, v15]) (EvO.ev (evo_lst (evaf_cons (ev_tup (evaf_cons (e1 rfl rfl) (evaf_cons (e2 rfl rfl) evaf_nil)) (small (by simp))) (evaf_cons (ev_tup (evaf_cons (e2 rfl rfl) (evaf_cons (e1 rfl rfl) evaf_nil)) (small (by simp))) evaf_nil)) (small (by simp)))) ⟨_, _, _, rfl⟩ ?_ ?_
    · rintro L3 k q ss hL3 hk ⟨v13, v14, v15, rfl⟩
      refine ⟨_, tg_tup rfl (tgs_cons tg_name (tgs_cons tg_name tgs_nil)), fun N3 hN3 => ?_⟩
      have hq : totR rows b q.1 q.2 = dueR rows b c1 c2 := by
        have := List.mem_of_getElem? hk
        rcases List.mem_cons.mp this with rfl | this
        · exact dueR_tot rows b c1 c2
        · have := List.mem_singleton.mp this
          subst this
          show totR rows b c2 c1 = _
          rw [totR_comm]; exact dueR_tot rows b c1 c2
      refine go_seq (go_set (d := .int (totR rows b q.1 q.2)) (ev_callG (pre := preWo ad0.c_Same ad0.c_Like ad0.c_Near ad0.c_Other ad0.c_Former) (res := resWo) (rows, b, q.1, q.2) (evaf_cons (ev_var rfl) (evaf_cons (ev_var rfl) (evaf_cons (ev_var rfl) (evaf_cons (ev_var rfl) evaf_nil)))) ⟨rfl, by show rows.length ≤ 20; omega, hrf, hbl, hbt⟩) ?_)
      ((try dsimp only); refine nx_go ?_)
      rw [hq]
      generalize dueR rows b c1 c2 = due at hN3 ⊢
      refine go_if (b := false) ?_ (fun hb => by cases hb) (fun _ => go_next (hN3 _ ⟨.d (encS q.1), .d (encS q.2), .d (.int due), rfl⟩))
      have h := evt_or (K := K) (G := H) (H₀ := H) (L := L3) (ss := [.d (.lst (ns.map .int)), .d (.int i0), .d (.int i1), .d (.lst (ds2.map .str)), .d (bkD b), .d (.lst (rows.map encRow)), .d (.lst (rows.map (insR ad0.c_Same ad0.c_Like ad0.c_Near ad0.c_Other ad0.c_Former))), .d (bkD b), .d (.int (1 + (j : Int))), .d (.int due), v10, v11, v12, .d (encS q.1), .d (encS q.2), .d (.int due)]) (evt_not (evt_b (ev_call (E := E0) (pre := fun ds => ∃ c : Int, ds = [.int c]) (res := fun _ => .bl true) (evaf_cons (ev_var (i := 15) rfl) evaf_nil) ⟨due, rfl⟩))) fun _ => evt_or (evt_test (ev_neI (ev_var (i := 15) rfl).b (ev_var (i := 9) rfl).b)) fun _ => evt_test (ev_neI (j := 0) (ev_callG (E := E0) (pre := preWo ad0.c_Same ad0.c_Like ad0.c_Near ad0.c_Other ad0.c_Former) (res := resWo) ([], b, q.1, q.2) (evaf_cons (EvO.ev (evo_lst evaf_nil (small (by decide)))) (evaf_cons (ev_var (i := 7) rfl) (evaf_cons (ev_var (i := 13) rfl) (evaf_cons (ev_var (i := 14) rfl) evaf_nil)))) ⟨rfl, Nat.zero_le _, (fun _ h => by cases h), hbl, hbt⟩).b ev_int.b)
      rw [decide_eq_true (rfl : due = due)] at h
      exact h
    · rintro ss ⟨v13, v14, v15, rfl⟩
      exact hN2 _ ⟨_, _, _, _, _, _, _, _, rfl⟩
  rintro ss ⟨v8, v9, v10, v11, v12, v13, v14, v15, rfl⟩
  ((try dsimp only); refine nx_go ?_)
  have h1 := ev_eqD (K := K) (G := H) (H₀ := H) (L := H) (ss := [.d (.lst (ns.map .int)), .d (.int i0), .d (.int i1), .d (.lst (ds2.map .str)), .d (bkD b), .d (.lst (rows.map encRow)), .d (.lst (rows.map (insR ad0.c_Same ad0.c_Like ad0.c_Near ad0.c_Other ad0.c_Former))), .d (bkD b), v8, v9, v10, v11, v12, v13, v14, v15]) (d1 := bkD b) (d2 := bkD b) (ev_var (i := 7) rfl).b (ev_var (i := 4) rfl).b (bkD_nb b) (bkD_nb b) (by have := bkD_dep b; omega)
  rw [decide_eq_true rfl] at h1
  have h2 := ev_eqI (K := K) (G := H) (H₀ := H) (L := H) (ss := [.d (.lst (ns.map .int)), .d (.int i0), .d (.int i1), .d (.lst (ds2.map .str)), .d (bkD b), .d (.lst (rows.map encRow)), .d (.lst (rows.map (insR ad0.c_Same ad0.c_Like ad0.c_Near ad0.c_Other ad0.c_Former))), .d (bkD b), v8, v9, v10, v11, v12, v13, v14, v15]) (ev_lenL (ev_var (i := 6) rfl).l).b (ev_lenL (ev_var (i := 5) rfl).l).b
  rw [List.length_map, List.length_map, decide_eq_true rfl] at h2
  exact go_ret (ev_and h1 fun _ => h2) rt
end
theorem lcase1 {α : Type} {P : List α → Prop} {us : List α} (hl : us.length = 1) (h : ∀ a0, P [a0]) : P us := match us, hl with
  | [a0], _ => h a0
theorem lcase2 {α : Type} {P : List α → Prop} {us : List α} (hl : us.length = 2) (h : ∀ a0 a1, P [a0, a1]) : P us := match us, hl with
  | [a0, a1], _ => h a0 a1
theorem lcase3 {α : Type} {P : List α → Prop} {us : List α} (hl : us.length = 3) (h : ∀ a0 a1 a2, P [a0, a1, a2]) : P us := match us, hl with
  | [a0, a1, a2], _ => h a0 a1 a2
theorem lcase4 {α : Type} {P : List α → Prop} {us : List α} (hl : us.length = 4) (h : ∀ a0 a1 a2 a3, P [a0, a1, a2, a3]) : P us := match us, hl with
  | [a0, a1, a2, a3], _ => h a0 a1 a2 a3
theorem lcase5 {α : Type} {P : List α → Prop} {us : List α} (hl : us.length = 5) (h : ∀ a0 a1 a2 a3 a4, P [a0, a1, a2, a3, a4]) : P us := match us, hl with
  | [a0, a1, a2, a3, a4], _ => h a0 a1 a2 a3 a4
theorem bd_weight_of (kV doc pm : Value) (an : Option Addr) (cdv ct : Value) (us : List Value) (hl : us.length = (["rules", "book", "one", "other"] : List Str).length) : bindArgs (PySem.W.fnOf "weight_of" "weight_of" (defArgs s_weight_of) (defBody s_weight_of) (defScope s_weight_of) .none kV doc pm an cdv ct) ⟨us, []⟩ = pure ((["rules", "book", "one", "other"] : List Str).zip us) :=
  lcase4 (P := fun us => bindArgs _ ⟨us, []⟩ = pure (List.zip _ us)) hl fun _ _ _ _ => rfl
theorem bd_shares (kV doc pm : Value) (an : Option Addr) (cdv ct : Value) (us : List Value) (hl : us.length = (["some", "others"] : List Str).length) : bindArgs (PySem.W.fnOf "shares" "shares" (defArgs s_shares) (defBody s_shares) (defScope s_shares) .none kV doc pm an cdv ct) ⟨us, []⟩ = pure ((["some", "others"] : List Str).zip us) :=
  lcase2 (P := fun us => bindArgs _ ⟨us, []⟩ = pure (List.zip _ us)) hl fun _ _ => rfl
theorem bd_near_forms (kV doc pm : Value) (an : Option Addr) (cdv ct : Value) (us : List Value) (hl : us.length = (["text"] : List Str).length) : bindArgs (PySem.W.fnOf "near_forms" "near_forms" (defArgs s_near_forms) (defBody s_near_forms) (defScope s_near_forms) .none kV doc pm an cdv ct) ⟨us, []⟩ = pure ((["text"] : List Str).zip us) :=
  lcase1 (P := fun us => bindArgs _ ⟨us, []⟩ = pure (List.zip _ us)) hl fun _ => rfl
theorem bd_all_forms (kV doc pm : Value) (an : Option Addr) (cdv ct : Value) (us : List Value) (hl : us.length = (["texts"] : List Str).length) : bindArgs (PySem.W.fnOf "all_forms" "all_forms" (defArgs s_all_forms) (defBody s_all_forms) (defScope s_all_forms) .none kV doc pm an cdv ct) ⟨us, []⟩ = pure ((["texts"] : List Str).zip us) :=
  lcase1 (P := fun us => bindArgs _ ⟨us, []⟩ = pure (List.zip _ us)) hl fun _ => rfl
theorem bd_plain_of (kV doc pm : Value) (an : Option Addr) (cdv ct : Value) (us : List Value) (hl : us.length = (["text"] : List Str).length) : bindArgs (PySem.W.fnOf "plain_of" "plain_of" (defArgs s_plain_of) (defBody s_plain_of) (defScope s_plain_of) .none kV doc pm an cdv ct) ⟨us, []⟩ = pure ((["text"] : List Str).zip us) :=
  lcase1 (P := fun us => bindArgs _ ⟨us, []⟩ = pure (List.zip _ us)) hl fun _ => rfl
theorem bd_plains_of (kV doc pm : Value) (an : Option Addr) (cdv ct : Value) (us : List Value) (hl : us.length = (["texts"] : List Str).length) : bindArgs (PySem.W.fnOf "plains_of" "plains_of" (defArgs s_plains_of) (defBody s_plains_of) (defScope s_plains_of) .none kV doc pm an cdv ct) ⟨us, []⟩ = pure ((["texts"] : List Str).zip us) :=
  lcase1 (P := fun us => bindArgs _ ⟨us, []⟩ = pure (List.zip _ us)) hl fun _ => rfl
theorem bd_texts_of (kV doc pm : Value) (an : Option Addr) (cdv ct : Value) (us : List Value) (hl : us.length = (["book", "card", "field"] : List Str).length) : bindArgs (PySem.W.fnOf "texts_of" "texts_of" (defArgs s_texts_of) (defBody s_texts_of) (defScope s_texts_of) .none kV doc pm an cdv ct) ⟨us, []⟩ = pure ((["book", "card", "field"] : List Str).zip us) :=
  lcase3 (P := fun us => bindArgs _ ⟨us, []⟩ = pure (List.zip _ us)) hl fun _ _ _ => rfl
theorem bd_was_called (kV doc pm : Value) (an : Option Addr) (cdv ct : Value) (us : List Value) (hl : us.length = (["book", "one", "other"] : List Str).length) : bindArgs (PySem.W.fnOf "was_called" "was_called" (defArgs s_was_called) (defBody s_was_called) (defScope s_was_called) .none kV doc pm an cdv ct) ⟨us, []⟩ = pure ((["book", "one", "other"] : List Str).zip us) :=
  lcase3 (P := fun us => bindArgs _ ⟨us, []⟩ = pure (List.zip _ us)) hl fun _ _ _ => rfl
theorem bd_Rule_init (kV doc pm : Value) (an : Option Addr) (cdv ct : Value) (us : List Value) (hl : us.length = (["self", "weight", "field"] : List Str).length) : bindArgs (PySem.W.fnOf "__init__" "Rule.__init__" (defArgs s_Rule_init) (defBody s_Rule_init) (defScope s_Rule_init) .none kV doc pm an cdv ct) ⟨us, []⟩ = pure ((["self", "weight", "field"] : List Str).zip us) :=
  lcase3 (P := fun us => bindArgs _ ⟨us, []⟩ = pure (List.zip _ us)) hl fun _ _ _ => rfl
theorem bd_Rule_speaks (kV doc pm : Value) (an : Option Addr) (cdv ct : Value) (us : List Value) (hl : us.length = (["self", "book", "one", "other"] : List Str).length) : bindArgs (PySem.W.fnOf "speaks" "Rule.speaks" (defArgs s_Rule_speaks) (defBody s_Rule_speaks) (defScope s_Rule_speaks) .none kV doc pm an cdv ct) ⟨us, []⟩ = pure ((["self", "book", "one", "other"] : List Str).zip us) :=
  lcase4 (P := fun us => bindArgs _ ⟨us, []⟩ = pure (List.zip _ us)) hl fun _ _ _ _ => rfl
theorem bd_Same_speaks_by (kV doc pm : Value) (an : Option Addr) (cdv ct : Value) (us : List Value) (hl : us.length = (["self", "texts", "others"] : List Str).length) : bindArgs (PySem.W.fnOf "speaks_by" "Same.speaks_by" (defArgs s_Same_speaks_by) (defBody s_Same_speaks_by) (defScope s_Same_speaks_by) .none kV doc pm an cdv ct) ⟨us, []⟩ = pure ((["self", "texts", "others"] : List Str).zip us) :=
  lcase3 (P := fun us => bindArgs _ ⟨us, []⟩ = pure (List.zip _ us)) hl fun _ _ _ => rfl
theorem bd_Same_sort_word (kV doc pm : Value) (an : Option Addr) (cdv ct : Value) (us : List Value) (hl : us.length = (["self"] : List Str).length) : bindArgs (PySem.W.fnOf "sort_word" "Same.sort_word" (defArgs s_Same_sort_word) (defBody s_Same_sort_word) (defScope s_Same_sort_word) .none kV doc pm an cdv ct) ⟨us, []⟩ = pure ((["self"] : List Str).zip us) :=
  lcase1 (P := fun us => bindArgs _ ⟨us, []⟩ = pure (List.zip _ us)) hl fun _ => rfl
theorem bd_Like_speaks_by (kV doc pm : Value) (an : Option Addr) (cdv ct : Value) (us : List Value) (hl : us.length = (["self", "texts", "others"] : List Str).length) : bindArgs (PySem.W.fnOf "speaks_by" "Like.speaks_by" (defArgs s_Like_speaks_by) (defBody s_Like_speaks_by) (defScope s_Like_speaks_by) .none kV doc pm an cdv ct) ⟨us, []⟩ = pure ((["self", "texts", "others"] : List Str).zip us) :=
  lcase3 (P := fun us => bindArgs _ ⟨us, []⟩ = pure (List.zip _ us)) hl fun _ _ _ => rfl
theorem bd_Like_sort_word (kV doc pm : Value) (an : Option Addr) (cdv ct : Value) (us : List Value) (hl : us.length = (["self"] : List Str).length) : bindArgs (PySem.W.fnOf "sort_word" "Like.sort_word" (defArgs s_Like_sort_word) (defBody s_Like_sort_word) (defScope s_Like_sort_word) .none kV doc pm an cdv ct) ⟨us, []⟩ = pure ((["self"] : List Str).zip us) :=
  lcase1 (P := fun us => bindArgs _ ⟨us, []⟩ = pure (List.zip _ us)) hl fun _ => rfl
theorem bd_Near_speaks_by (kV doc pm : Value) (an : Option Addr) (cdv ct : Value) (us : List Value) (hl : us.length = (["self", "texts", "others"] : List Str).length) : bindArgs (PySem.W.fnOf "speaks_by" "Near.speaks_by" (defArgs s_Near_speaks_by) (defBody s_Near_speaks_by) (defScope s_Near_speaks_by) .none kV doc pm an cdv ct) ⟨us, []⟩ = pure ((["self", "texts", "others"] : List Str).zip us) :=
  lcase3 (P := fun us => bindArgs _ ⟨us, []⟩ = pure (List.zip _ us)) hl fun _ _ _ => rfl
theorem bd_Near_sort_word (kV doc pm : Value) (an : Option Addr) (cdv ct : Value) (us : List Value) (hl : us.length = (["self"] : List Str).length) : bindArgs (PySem.W.fnOf "sort_word" "Near.sort_word" (defArgs s_Near_sort_word) (defBody s_Near_sort_word) (defScope s_Near_sort_word) .none kV doc pm an cdv ct) ⟨us, []⟩ = pure ((["self"] : List Str).zip us) :=
  lcase1 (P := fun us => bindArgs _ ⟨us, []⟩ = pure (List.zip _ us)) hl fun _ => rfl
theorem bd_Other_speaks_by (kV doc pm : Value) (an : Option Addr) (cdv ct : Value) (us : List Value) (hl : us.length = (["self", "texts", "others"] : List Str).length) : bindArgs (PySem.W.fnOf "speaks_by" "Other.speaks_by" (defArgs s_Other_speaks_by) (defBody s_Other_speaks_by) (defScope s_Other_speaks_by) .none kV doc pm an cdv ct) ⟨us, []⟩ = pure ((["self", "texts", "others"] : List Str).zip us) :=
  lcase3 (P := fun us => bindArgs _ ⟨us, []⟩ = pure (List.zip _ us)) hl fun _ _ _ => rfl
theorem bd_Other_sort_word (kV doc pm : Value) (an : Option Addr) (cdv ct : Value) (us : List Value) (hl : us.length = (["self"] : List Str).length) : bindArgs (PySem.W.fnOf "sort_word" "Other.sort_word" (defArgs s_Other_sort_word) (defBody s_Other_sort_word) (defScope s_Other_sort_word) .none kV doc pm an cdv ct) ⟨us, []⟩ = pure ((["self"] : List Str).zip us) :=
  lcase1 (P := fun us => bindArgs _ ⟨us, []⟩ = pure (List.zip _ us)) hl fun _ => rfl
theorem bd_Former_init (kV doc pm : Value) (an : Option Addr) (cdv ct : Value) (us : List Value) (hl : us.length = (["self", "weight"] : List Str).length) : bindArgs (PySem.W.fnOf "__init__" "Former.__init__" (defArgs s_Former_init) (defBody s_Former_init) (defScope s_Former_init) .none kV doc pm an cdv ct) ⟨us, []⟩ = pure ((["self", "weight"] : List Str).zip us) :=
  lcase2 (P := fun us => bindArgs _ ⟨us, []⟩ = pure (List.zip _ us)) hl fun _ _ => rfl
theorem bd_Former_speaks (kV doc pm : Value) (an : Option Addr) (cdv ct : Value) (us : List Value) (hl : us.length = (["self", "book", "one", "other"] : List Str).length) : bindArgs (PySem.W.fnOf "speaks" "Former.speaks" (defArgs s_Former_speaks) (defBody s_Former_speaks) (defScope s_Former_speaks) .none kV doc pm an cdv ct) ⟨us, []⟩ = pure ((["self", "book", "one", "other"] : List Str).zip us) :=
  lcase4 (P := fun us => bindArgs _ ⟨us, []⟩ = pure (List.zip _ us)) hl fun _ _ _ _ => rfl
theorem bd_Former_sort_word (kV doc pm : Value) (an : Option Addr) (cdv ct : Value) (us : List Value) (hl : us.length = (["self"] : List Str).length) : bindArgs (PySem.W.fnOf "sort_word" "Former.sort_word" (defArgs s_Former_sort_word) (defBody s_Former_sort_word) (defScope s_Former_sort_word) .none kV doc pm an cdv ct) ⟨us, []⟩ = pure ((["self"] : List Str).zip us) :=
  lcase1 (P := fun us => bindArgs _ ⟨us, []⟩ = pure (List.zip _ us)) hl fun _ => rfl
theorem bd_law_cell_at (kV doc pm : Value) (an : Option Addr) (cdv ct : Value) (us : List Value) (hl : us.length = (["_law_script", "_law_k"] : List Str).length) : bindArgs (PySem.W.fnOf "_law_cell_at" "_law_cell_at" (defArgs s_law_cell_at) (defBody s_law_cell_at) (defScope s_law_cell_at) .none kV doc pm an cdv ct) ⟨us, []⟩ = pure ((["_law_script", "_law_k"] : List Str).zip us) :=
  lcase2 (P := fun us => bindArgs _ ⟨us, []⟩ = pure (List.zip _ us)) hl fun _ _ => rfl
theorem bd_law_whole (kV doc pm : Value) (an : Option Addr) (cdv ct : Value) (us : List Value) (hl : us.length = (["_law_found"] : List Str).length) : bindArgs (PySem.W.fnOf "_law_whole" "_law_whole" (defArgs s_law_whole) (defBody s_law_whole) (defScope s_law_whole) .none kV doc pm an cdv ct) ⟨us, []⟩ = pure ((["_law_found"] : List Str).zip us) :=
  lcase1 (P := fun us => bindArgs _ ⟨us, []⟩ = pure (List.zip _ us)) hl fun _ => rfl
theorem bd_law_stream (kV doc pm : Value) (an : Option Addr) (cdv ct : Value) (us : List Value) (hl : us.length = (["_law_cell", "_law_many"] : List Str).length) : bindArgs (PySem.W.fnOf "_law_stream" "_law_stream" (defArgs s_law_stream) (defBody s_law_stream) (defScope s_law_stream) .none kV doc pm an cdv ct) ⟨us, []⟩ = pure ((["_law_cell", "_law_many"] : List Str).zip us) :=
  lcase2 (P := fun us => bindArgs _ ⟨us, []⟩ = pure (List.zip _ us)) hl fun _ _ => rfl
theorem bd_law_cards (kV doc pm : Value) (an : Option Addr) (cdv ct : Value) (us : List Value) (hl : us.length = (["_law_cell", "_law_many"] : List Str).length) : bindArgs (PySem.W.fnOf "_law_cards" "_law_cards" (defArgs s_law_cards) (defBody s_law_cards) (defScope s_law_cards) .none kV doc pm an cdv ct) ⟨us, []⟩ = pure ((["_law_cell", "_law_many"] : List Str).zip us) :=
  lcase2 (P := fun us => bindArgs _ ⟨us, []⟩ = pure (List.zip _ us)) hl fun _ _ => rfl
theorem bd_law_bent (kV doc pm : Value) (an : Option Addr) (cdv ct : Value) (us : List Value) (hl : us.length = (["_law_draw", "_law_more"] : List Str).length) : bindArgs (PySem.W.fnOf "_law_bent" "_law_bent" (defArgs s_law_bent) (defBody s_law_bent) (defScope s_law_bent) .none kV doc pm an cdv ct) ⟨us, []⟩ = pure ((["_law_draw", "_law_more"] : List Str).zip us) :=
  lcase2 (P := fun us => bindArgs _ ⟨us, []⟩ = pure (List.zip _ us)) hl fun _ _ => rfl
theorem bd_law_field (kV doc pm : Value) (an : Option Addr) (cdv ct : Value) (us : List Value) (hl : us.length = (["_law_cell", "_law_draw"] : List Str).length) : bindArgs (PySem.W.fnOf "_law_field" "_law_field" (defArgs s_law_field) (defBody s_law_field) (defScope s_law_field) .none kV doc pm an cdv ct) ⟨us, []⟩ = pure ((["_law_cell", "_law_draw"] : List Str).zip us) :=
  lcase2 (P := fun us => bindArgs _ ⟨us, []⟩ = pure (List.zip _ us)) hl fun _ _ => rfl
theorem bd_law_book (kV doc pm : Value) (an : Option Addr) (cdv ct : Value) (us : List Value) (hl : us.length = (["_law_cells", "_law_cards_here", "_law_cell"] : List Str).length) : bindArgs (PySem.W.fnOf "_law_book" "_law_book" (defArgs s_law_book) (defBody s_law_book) (defScope s_law_book) .none kV doc pm an cdv ct) ⟨us, []⟩ = pure ((["_law_cells", "_law_cards_here", "_law_cell"] : List Str).zip us) :=
  lcase3 (P := fun us => bindArgs _ ⟨us, []⟩ = pure (List.zip _ us)) hl fun _ _ _ => rfl
theorem bd_law_rules (kV doc pm : Value) (an : Option Addr) (cdv ct : Value) (us : List Value) (hl : us.length = (["_law_cell", "_law_field_here"] : List Str).length) : bindArgs (PySem.W.fnOf "_law_rules" "_law_rules" (defArgs s_law_rules) (defBody s_law_rules) (defScope s_law_rules) .none kV doc pm an cdv ct) ⟨us, []⟩ = pure ((["_law_cell", "_law_field_here"] : List Str).zip us) :=
  lcase2 (P := fun us => bindArgs _ ⟨us, []⟩ = pure (List.zip _ us)) hl fun _ _ => rfl
theorem bd_law_made (kV doc pm : Value) (an : Option Addr) (cdv ct : Value) (us : List Value) (hl : us.length = (["_law_row"] : List Str).length) : bindArgs (PySem.W.fnOf "_law_made" "_law_made" (defArgs s_law_made) (defBody s_law_made) (defScope s_law_made) .none kV doc pm an cdv ct) ⟨us, []⟩ = pure ((["_law_row"] : List Str).zip us) :=
  lcase1 (P := fun us => bindArgs _ ⟨us, []⟩ = pure (List.zip _ us)) hl fun _ => rfl
theorem bd_law_texts (kV doc pm : Value) (an : Option Addr) (cdv ct : Value) (us : List Value) (hl : us.length = (["_law_book_here", "_law_card", "_law_field_here"] : List Str).length) : bindArgs (PySem.W.fnOf "_law_texts" "_law_texts" (defArgs s_law_texts) (defBody s_law_texts) (defScope s_law_texts) .none kV doc pm an cdv ct) ⟨us, []⟩ = pure ((["_law_book_here", "_law_card", "_law_field_here"] : List Str).zip us) :=
  lcase3 (P := fun us => bindArgs _ ⟨us, []⟩ = pure (List.zip _ us)) hl fun _ _ _ => rfl
theorem bd_law_plains (kV doc pm : Value) (an : Option Addr) (cdv ct : Value) (us : List Value) (hl : us.length = (["_law_texts_here"] : List Str).length) : bindArgs (PySem.W.fnOf "_law_plains" "_law_plains" (defArgs s_law_plains) (defBody s_law_plains) (defScope s_law_plains) .none kV doc pm an cdv ct) ⟨us, []⟩ = pure ((["_law_texts_here"] : List Str).zip us) :=
  lcase1 (P := fun us => bindArgs _ ⟨us, []⟩ = pure (List.zip _ us)) hl fun _ => rfl
theorem bd_law_meet (kV doc pm : Value) (an : Option Addr) (cdv ct : Value) (us : List Value) (hl : us.length = (["_law_mine", "_law_others"] : List Str).length) : bindArgs (PySem.W.fnOf "_law_meet" "_law_meet" (defArgs s_law_meet) (defBody s_law_meet) (defScope s_law_meet) .none kV doc pm an cdv ct) ⟨us, []⟩ = pure ((["_law_mine", "_law_others"] : List Str).zip us) :=
  lcase2 (P := fun us => bindArgs _ ⟨us, []⟩ = pure (List.zip _ us)) hl fun _ _ => rfl
theorem bd_law_near (kV doc pm : Value) (an : Option Addr) (cdv ct : Value) (us : List Value) (hl : us.length = (["_law_one", "_law_other"] : List Str).length) : bindArgs (PySem.W.fnOf "_law_near" "_law_near" (defArgs s_law_near) (defBody s_law_near) (defScope s_law_near) .none kV doc pm an cdv ct) ⟨us, []⟩ = pure ((["_law_one", "_law_other"] : List Str).zip us) :=
  lcase2 (P := fun us => bindArgs _ ⟨us, []⟩ = pure (List.zip _ us)) hl fun _ _ => rfl
theorem bd_law_speaks (kV doc pm : Value) (an : Option Addr) (cdv ct : Value) (us : List Value) (hl : us.length = (["_law_sort", "_law_book_here", "_law_one", "_law_other", "_law_field_here"] : List Str).length) : bindArgs (PySem.W.fnOf "_law_speaks" "_law_speaks" (defArgs s_law_speaks) (defBody s_law_speaks) (defScope s_law_speaks) .none kV doc pm an cdv ct) ⟨us, []⟩ = pure ((["_law_sort", "_law_book_here", "_law_one", "_law_other", "_law_field_here"] : List Str).zip us) :=
  lcase5 (P := fun us => bindArgs _ ⟨us, []⟩ = pure (List.zip _ us)) hl fun _ _ _ _ _ => rfl
theorem bd_law (kV doc pm : Value) (an : Option Addr) (cdv ct : Value) (us : List Value) (hl : us.length = (["_law_script"] : List Str).length) : bindArgs (PySem.W.fnOf "law" "law" (defArgs s_law) (defBody s_law) (defScope s_law) .none kV doc pm an cdv ct) ⟨us, []⟩ = pure ((["_law_script"] : List Str).zip us) :=
  lcase1 (P := fun us => bindArgs _ ⟨us, []⟩ = pure (List.zip _ us)) hl fun _ => rfl
theorem all_mk {l : PySem.W.OpenLaw} {w : World} {K : PySem.W.Frag} {h : Heap} {mg : Str → Option Value} {fa g0 g1 g2 g3 g4 g5 g6 g7 g8 g9 g10 g11 g12 g13 g14 g15 g16 g17 g18 g19 g20 g21 g22 g23 g24 g25 g26 g27 g28 g29 g30 g31 g32 g33 g34 g35 : Addr} (X : K.In h) (G : h.Ns mainGlobals mg) (hfa : mg "law" = some (.ref fa))
    {od0 an0 od1 an1 od2 an2 od3 an3 od4 an4 od5 an5 od6 an6 od7 an7 od8 an8 od9 an9 od10 an10 od11 an11 od12 an12 od13 an13 od14 an14 od15 an15 od16 an16 od17 an17 od18 an18 od19 an19 od20 an20 od21 an21 od22 an22 od23 an23 od24 an24 od25 an25 od26 an26 od27 an27 od28 an28 od29 an29 od30 an30 od31 an31 od32 an32 od33 an33 od34 an34 od35 an35 : Option Addr} {sl0 sl1 sl2 sl3 sl4 sl5 sl6 sl7 sl8 sl9 sl10 sl11 sl12 sl13 sl14 sl15 sl16 sl17 sl18 sl19 sl20 sl21 sl22 sl23 sl24 sl25 sl26 sl27 sl28 sl29 sl30 sl31 sl32 sl33 sl34 sl35 : Array (Option Value)} {oc0 kV0 dc0 pm0 cd0 ct0 oc1 kV1 dc1 pm1 cd1 ct1 oc2 kV2 dc2 pm2 cd2 ct2 oc3 kV3 dc3 pm3 cd3 ct3 oc4 kV4 dc4 pm4 cd4 ct4 oc5 kV5 dc5 pm5 cd5 ct5 oc6 kV6 dc6 pm6 cd6 ct6 oc7 kV7 dc7 pm7 cd7 ct7 oc8 kV8 dc8 pm8 cd8 ct8 oc9 kV9 dc9 pm9 cd9 ct9 oc10 kV10 dc10 pm10 cd10 ct10 oc11 kV11 dc11 pm11 cd11 ct11 oc12 kV12 dc12 pm12 cd12 ct12 oc13 kV13 dc13 pm13 cd13 ct13 oc14 kV14 dc14 pm14 cd14 ct14 oc15 kV15 dc15 pm15 cd15 ct15 oc16 kV16 dc16 pm16 cd16 ct16 oc17 kV17 dc17 pm17 cd17 ct17 oc18 kV18 dc18 pm18 cd18 ct18 oc19 kV19 dc19 pm19 cd19 ct19 oc20 kV20 dc20 pm20 cd20 ct20 oc21 kV21 dc21 pm21 cd21 ct21 oc22 kV22 dc22 pm22 cd22 ct22 oc23 kV23 dc23 pm23 cd23 ct23 oc24 kV24 dc24 pm24 cd24 ct24 oc25 kV25 dc25 pm25 cd25 ct25 oc26 kV26 dc26 pm26 cd26 ct26 oc27 kV27 dc27 pm27 cd27 ct27 oc28 kV28 dc28 pm28 cd28 ct28 oc29 kV29 dc29 pm29 cd29 ct29 oc30 kV30 dc30 pm30 cd30 ct30 oc31 kV31 dc31 pm31 cd31 ct31 oc32 kV32 dc32 pm32 cd32 ct32 oc33 kV33 dc33 pm33 cd33 ct33 oc34 kV34 dc34 pm34 cd34 ct34 oc35 kV35 dc35 pm35 cd35 ct35 : Value}
    {q_Former : Addr} {q_Like : Addr} {q_Near : Addr} {q_Other : Addr} {q_Rule : Addr} {q_Same : Addr}
    (a0 : PySem.W.nsIn K mainGlobals "weight_of" = some (some (.ref g0))) (l0 : K.lookup g0 = some ⟨oc0, od0, .func (PySem.W.fnOf "weight_of" "weight_of" (defArgs s_weight_of) (defBody s_weight_of) (defScope s_weight_of) .none kV0 dc0 pm0 an0 cd0 ct0), sl0⟩) (c0 : PySem.W.codeIn K cd0 "weight_of" = true) (k0 : PySem.W.keepIn K (.ref g0) = true)
    (a1 : PySem.W.nsIn K mainGlobals "shares" = some (some (.ref g1))) (l1 : K.lookup g1 = some ⟨oc1, od1, .func (PySem.W.fnOf "shares" "shares" (defArgs s_shares) (defBody s_shares) (defScope s_shares) .none kV1 dc1 pm1 an1 cd1 ct1), sl1⟩) (c1 : PySem.W.codeIn K cd1 "shares" = true) (k1 : PySem.W.keepIn K (.ref g1) = true)
    (a2 : PySem.W.nsIn K mainGlobals "near_forms" = some (some (.ref g2))) (l2 : K.lookup g2 = some ⟨oc2, od2, .func (PySem.W.fnOf "near_forms" "near_forms" (defArgs s_near_forms) (defBody s_near_forms) (defScope s_near_forms) .none kV2 dc2 pm2 an2 cd2 ct2), sl2⟩) (c2 : PySem.W.codeIn K cd2 "near_forms" = true) (k2 : PySem.W.keepIn K (.ref g2) = true)
    (a3 : PySem.W.nsIn K mainGlobals "all_forms" = some (some (.ref g3))) (l3 : K.lookup g3 = some ⟨oc3, od3, .func (PySem.W.fnOf "all_forms" "all_forms" (defArgs s_all_forms) (defBody s_all_forms) (defScope s_all_forms) .none kV3 dc3 pm3 an3 cd3 ct3), sl3⟩) (c3 : PySem.W.codeIn K cd3 "all_forms" = true) (k3 : PySem.W.keepIn K (.ref g3) = true)
    (a4 : PySem.W.nsIn K mainGlobals "plain_of" = some (some (.ref g4))) (l4 : K.lookup g4 = some ⟨oc4, od4, .func (PySem.W.fnOf "plain_of" "plain_of" (defArgs s_plain_of) (defBody s_plain_of) (defScope s_plain_of) .none kV4 dc4 pm4 an4 cd4 ct4), sl4⟩) (c4 : PySem.W.codeIn K cd4 "plain_of" = true) (k4 : PySem.W.keepIn K (.ref g4) = true)
    (a5 : PySem.W.nsIn K mainGlobals "plains_of" = some (some (.ref g5))) (l5 : K.lookup g5 = some ⟨oc5, od5, .func (PySem.W.fnOf "plains_of" "plains_of" (defArgs s_plains_of) (defBody s_plains_of) (defScope s_plains_of) .none kV5 dc5 pm5 an5 cd5 ct5), sl5⟩) (c5 : PySem.W.codeIn K cd5 "plains_of" = true) (k5 : PySem.W.keepIn K (.ref g5) = true)
    (a6 : PySem.W.nsIn K mainGlobals "texts_of" = some (some (.ref g6))) (l6 : K.lookup g6 = some ⟨oc6, od6, .func (PySem.W.fnOf "texts_of" "texts_of" (defArgs s_texts_of) (defBody s_texts_of) (defScope s_texts_of) .none kV6 dc6 pm6 an6 cd6 ct6), sl6⟩) (c6 : PySem.W.codeIn K cd6 "texts_of" = true) (k6 : PySem.W.keepIn K (.ref g6) = true)
    (a7 : PySem.W.nsIn K mainGlobals "was_called" = some (some (.ref g7))) (l7 : K.lookup g7 = some ⟨oc7, od7, .func (PySem.W.fnOf "was_called" "was_called" (defArgs s_was_called) (defBody s_was_called) (defScope s_was_called) .none kV7 dc7 pm7 an7 cd7 ct7), sl7⟩) (c7 : PySem.W.codeIn K cd7 "was_called" = true) (k7 : PySem.W.keepIn K (.ref g7) = true)
    (l8 : K.lookup g8 = some ⟨oc8, od8, .func (PySem.W.fnOf "__init__" "Rule.__init__" (defArgs s_Rule_init) (defBody s_Rule_init) (defScope s_Rule_init) .none kV8 dc8 pm8 an8 cd8 ct8), sl8⟩) (c8 : PySem.W.codeIn K cd8 "Rule.__init__" = true) (k8 : PySem.W.keepIn K (.ref g8) = true) (mf8 : PySem.W.isFn K (.ref g8) = true)
    (l9 : K.lookup g9 = some ⟨oc9, od9, .func (PySem.W.fnOf "speaks" "Rule.speaks" (defArgs s_Rule_speaks) (defBody s_Rule_speaks) (defScope s_Rule_speaks) .none kV9 dc9 pm9 an9 cd9 ct9), sl9⟩) (c9 : PySem.W.codeIn K cd9 "Rule.speaks" = true) (k9 : PySem.W.keepIn K (.ref g9) = true) (mf9 : PySem.W.isFn K (.ref g9) = true)
    (l10 : K.lookup g10 = some ⟨oc10, od10, .func (PySem.W.fnOf "speaks_by" "Same.speaks_by" (defArgs s_Same_speaks_by) (defBody s_Same_speaks_by) (defScope s_Same_speaks_by) .none kV10 dc10 pm10 an10 cd10 ct10), sl10⟩) (c10 : PySem.W.codeIn K cd10 "Same.speaks_by" = true) (k10 : PySem.W.keepIn K (.ref g10) = true) (mf10 : PySem.W.isFn K (.ref g10) = true)
    (l11 : K.lookup g11 = some ⟨oc11, od11, .func (PySem.W.fnOf "sort_word" "Same.sort_word" (defArgs s_Same_sort_word) (defBody s_Same_sort_word) (defScope s_Same_sort_word) .none kV11 dc11 pm11 an11 cd11 ct11), sl11⟩) (c11 : PySem.W.codeIn K cd11 "Same.sort_word" = true) (k11 : PySem.W.keepIn K (.ref g11) = true) (mf11 : PySem.W.isFn K (.ref g11) = true)
    (l12 : K.lookup g12 = some ⟨oc12, od12, .func (PySem.W.fnOf "speaks_by" "Like.speaks_by" (defArgs s_Like_speaks_by) (defBody s_Like_speaks_by) (defScope s_Like_speaks_by) .none kV12 dc12 pm12 an12 cd12 ct12), sl12⟩) (c12 : PySem.W.codeIn K cd12 "Like.speaks_by" = true) (k12 : PySem.W.keepIn K (.ref g12) = true) (mf12 : PySem.W.isFn K (.ref g12) = true)
    (l13 : K.lookup g13 = some ⟨oc13, od13, .func (PySem.W.fnOf "sort_word" "Like.sort_word" (defArgs s_Like_sort_word) (defBody s_Like_sort_word) (defScope s_Like_sort_word) .none kV13 dc13 pm13 an13 cd13 ct13), sl13⟩) (c13 : PySem.W.codeIn K cd13 "Like.sort_word" = true) (k13 : PySem.W.keepIn K (.ref g13) = true) (mf13 : PySem.W.isFn K (.ref g13) = true)
    (l14 : K.lookup g14 = some ⟨oc14, od14, .func (PySem.W.fnOf "speaks_by" "Near.speaks_by" (defArgs s_Near_speaks_by) (defBody s_Near_speaks_by) (defScope s_Near_speaks_by) .none kV14 dc14 pm14 an14 cd14 ct14), sl14⟩) (c14 : PySem.W.codeIn K cd14 "Near.speaks_by" = true) (k14 : PySem.W.keepIn K (.ref g14) = true) (mf14 : PySem.W.isFn K (.ref g14) = true)
    (l15 : K.lookup g15 = some ⟨oc15, od15, .func (PySem.W.fnOf "sort_word" "Near.sort_word" (defArgs s_Near_sort_word) (defBody s_Near_sort_word) (defScope s_Near_sort_word) .none kV15 dc15 pm15 an15 cd15 ct15), sl15⟩) (c15 : PySem.W.codeIn K cd15 "Near.sort_word" = true) (k15 : PySem.W.keepIn K (.ref g15) = true) (mf15 : PySem.W.isFn K (.ref g15) = true)
    (l16 : K.lookup g16 = some ⟨oc16, od16, .func (PySem.W.fnOf "speaks_by" "Other.speaks_by" (defArgs s_Other_speaks_by) (defBody s_Other_speaks_by) (defScope s_Other_speaks_by) .none kV16 dc16 pm16 an16 cd16 ct16), sl16⟩) (c16 : PySem.W.codeIn K cd16 "Other.speaks_by" = true) (k16 : PySem.W.keepIn K (.ref g16) = true) (mf16 : PySem.W.isFn K (.ref g16) = true)
    (l17 : K.lookup g17 = some ⟨oc17, od17, .func (PySem.W.fnOf "sort_word" "Other.sort_word" (defArgs s_Other_sort_word) (defBody s_Other_sort_word) (defScope s_Other_sort_word) .none kV17 dc17 pm17 an17 cd17 ct17), sl17⟩) (c17 : PySem.W.codeIn K cd17 "Other.sort_word" = true) (k17 : PySem.W.keepIn K (.ref g17) = true) (mf17 : PySem.W.isFn K (.ref g17) = true)
    (l18 : K.lookup g18 = some ⟨oc18, od18, .func (PySem.W.fnOf "__init__" "Former.__init__" (defArgs s_Former_init) (defBody s_Former_init) (defScope s_Former_init) .none kV18 dc18 pm18 an18 cd18 ct18), sl18⟩) (c18 : PySem.W.codeIn K cd18 "Former.__init__" = true) (k18 : PySem.W.keepIn K (.ref g18) = true) (mf18 : PySem.W.isFn K (.ref g18) = true)
    (l19 : K.lookup g19 = some ⟨oc19, od19, .func (PySem.W.fnOf "speaks" "Former.speaks" (defArgs s_Former_speaks) (defBody s_Former_speaks) (defScope s_Former_speaks) .none kV19 dc19 pm19 an19 cd19 ct19), sl19⟩) (c19 : PySem.W.codeIn K cd19 "Former.speaks" = true) (k19 : PySem.W.keepIn K (.ref g19) = true) (mf19 : PySem.W.isFn K (.ref g19) = true)
    (l20 : K.lookup g20 = some ⟨oc20, od20, .func (PySem.W.fnOf "sort_word" "Former.sort_word" (defArgs s_Former_sort_word) (defBody s_Former_sort_word) (defScope s_Former_sort_word) .none kV20 dc20 pm20 an20 cd20 ct20), sl20⟩) (c20 : PySem.W.codeIn K cd20 "Former.sort_word" = true) (k20 : PySem.W.keepIn K (.ref g20) = true) (mf20 : PySem.W.isFn K (.ref g20) = true)
    (a21 : PySem.W.nsIn K mainGlobals "_law_cell_at" = some (some (.ref g21))) (l21 : K.lookup g21 = some ⟨oc21, od21, .func (PySem.W.fnOf "_law_cell_at" "_law_cell_at" (defArgs s_law_cell_at) (defBody s_law_cell_at) (defScope s_law_cell_at) .none kV21 dc21 pm21 an21 cd21 ct21), sl21⟩) (c21 : PySem.W.codeIn K cd21 "_law_cell_at" = true) (k21 : PySem.W.keepIn K (.ref g21) = true)
    (a22 : PySem.W.nsIn K mainGlobals "_law_whole" = some (some (.ref g22))) (l22 : K.lookup g22 = some ⟨oc22, od22, .func (PySem.W.fnOf "_law_whole" "_law_whole" (defArgs s_law_whole) (defBody s_law_whole) (defScope s_law_whole) .none kV22 dc22 pm22 an22 cd22 ct22), sl22⟩) (c22 : PySem.W.codeIn K cd22 "_law_whole" = true) (k22 : PySem.W.keepIn K (.ref g22) = true)
    (a23 : PySem.W.nsIn K mainGlobals "_law_stream" = some (some (.ref g23))) (l23 : K.lookup g23 = some ⟨oc23, od23, .func (PySem.W.fnOf "_law_stream" "_law_stream" (defArgs s_law_stream) (defBody s_law_stream) (defScope s_law_stream) .none kV23 dc23 pm23 an23 cd23 ct23), sl23⟩) (c23 : PySem.W.codeIn K cd23 "_law_stream" = true) (k23 : PySem.W.keepIn K (.ref g23) = true)
    (a24 : PySem.W.nsIn K mainGlobals "_law_cards" = some (some (.ref g24))) (l24 : K.lookup g24 = some ⟨oc24, od24, .func (PySem.W.fnOf "_law_cards" "_law_cards" (defArgs s_law_cards) (defBody s_law_cards) (defScope s_law_cards) .none kV24 dc24 pm24 an24 cd24 ct24), sl24⟩) (c24 : PySem.W.codeIn K cd24 "_law_cards" = true) (k24 : PySem.W.keepIn K (.ref g24) = true)
    (a25 : PySem.W.nsIn K mainGlobals "_law_bent" = some (some (.ref g25))) (l25 : K.lookup g25 = some ⟨oc25, od25, .func (PySem.W.fnOf "_law_bent" "_law_bent" (defArgs s_law_bent) (defBody s_law_bent) (defScope s_law_bent) .none kV25 dc25 pm25 an25 cd25 ct25), sl25⟩) (c25 : PySem.W.codeIn K cd25 "_law_bent" = true) (k25 : PySem.W.keepIn K (.ref g25) = true)
    (a26 : PySem.W.nsIn K mainGlobals "_law_field" = some (some (.ref g26))) (l26 : K.lookup g26 = some ⟨oc26, od26, .func (PySem.W.fnOf "_law_field" "_law_field" (defArgs s_law_field) (defBody s_law_field) (defScope s_law_field) .none kV26 dc26 pm26 an26 cd26 ct26), sl26⟩) (c26 : PySem.W.codeIn K cd26 "_law_field" = true) (k26 : PySem.W.keepIn K (.ref g26) = true)
    (a27 : PySem.W.nsIn K mainGlobals "_law_book" = some (some (.ref g27))) (l27 : K.lookup g27 = some ⟨oc27, od27, .func (PySem.W.fnOf "_law_book" "_law_book" (defArgs s_law_book) (defBody s_law_book) (defScope s_law_book) .none kV27 dc27 pm27 an27 cd27 ct27), sl27⟩) (c27 : PySem.W.codeIn K cd27 "_law_book" = true) (k27 : PySem.W.keepIn K (.ref g27) = true)
    (a28 : PySem.W.nsIn K mainGlobals "_law_rules" = some (some (.ref g28))) (l28 : K.lookup g28 = some ⟨oc28, od28, .func (PySem.W.fnOf "_law_rules" "_law_rules" (defArgs s_law_rules) (defBody s_law_rules) (defScope s_law_rules) .none kV28 dc28 pm28 an28 cd28 ct28), sl28⟩) (c28 : PySem.W.codeIn K cd28 "_law_rules" = true) (k28 : PySem.W.keepIn K (.ref g28) = true)
    (a29 : PySem.W.nsIn K mainGlobals "_law_made" = some (some (.ref g29))) (l29 : K.lookup g29 = some ⟨oc29, od29, .func (PySem.W.fnOf "_law_made" "_law_made" (defArgs s_law_made) (defBody s_law_made) (defScope s_law_made) .none kV29 dc29 pm29 an29 cd29 ct29), sl29⟩) (c29 : PySem.W.codeIn K cd29 "_law_made" = true) (k29 : PySem.W.keepIn K (.ref g29) = true)
    (a30 : PySem.W.nsIn K mainGlobals "_law_texts" = some (some (.ref g30))) (l30 : K.lookup g30 = some ⟨oc30, od30, .func (PySem.W.fnOf "_law_texts" "_law_texts" (defArgs s_law_texts) (defBody s_law_texts) (defScope s_law_texts) .none kV30 dc30 pm30 an30 cd30 ct30), sl30⟩) (c30 : PySem.W.codeIn K cd30 "_law_texts" = true) (k30 : PySem.W.keepIn K (.ref g30) = true)
    (a31 : PySem.W.nsIn K mainGlobals "_law_plains" = some (some (.ref g31))) (l31 : K.lookup g31 = some ⟨oc31, od31, .func (PySem.W.fnOf "_law_plains" "_law_plains" (defArgs s_law_plains) (defBody s_law_plains) (defScope s_law_plains) .none kV31 dc31 pm31 an31 cd31 ct31), sl31⟩) (c31 : PySem.W.codeIn K cd31 "_law_plains" = true) (k31 : PySem.W.keepIn K (.ref g31) = true)
    (a32 : PySem.W.nsIn K mainGlobals "_law_meet" = some (some (.ref g32))) (l32 : K.lookup g32 = some ⟨oc32, od32, .func (PySem.W.fnOf "_law_meet" "_law_meet" (defArgs s_law_meet) (defBody s_law_meet) (defScope s_law_meet) .none kV32 dc32 pm32 an32 cd32 ct32), sl32⟩) (c32 : PySem.W.codeIn K cd32 "_law_meet" = true) (k32 : PySem.W.keepIn K (.ref g32) = true)
    (a33 : PySem.W.nsIn K mainGlobals "_law_near" = some (some (.ref g33))) (l33 : K.lookup g33 = some ⟨oc33, od33, .func (PySem.W.fnOf "_law_near" "_law_near" (defArgs s_law_near) (defBody s_law_near) (defScope s_law_near) .none kV33 dc33 pm33 an33 cd33 ct33), sl33⟩) (c33 : PySem.W.codeIn K cd33 "_law_near" = true) (k33 : PySem.W.keepIn K (.ref g33) = true)
    (a34 : PySem.W.nsIn K mainGlobals "_law_speaks" = some (some (.ref g34))) (l34 : K.lookup g34 = some ⟨oc34, od34, .func (PySem.W.fnOf "_law_speaks" "_law_speaks" (defArgs s_law_speaks) (defBody s_law_speaks) (defScope s_law_speaks) .none kV34 dc34 pm34 an34 cd34 ct34), sl34⟩) (c34 : PySem.W.codeIn K cd34 "_law_speaks" = true) (k34 : PySem.W.keepIn K (.ref g34) = true)
    (a35 : PySem.W.nsIn K mainGlobals "law" = some (some (.ref g35))) (l35 : K.lookup g35 = some ⟨oc35, od35, .func (PySem.W.fnOf "law" "law" (defArgs s_law) (defBody s_law) (defScope s_law) .none kV35 dc35 pm35 an35 cd35 ct35), sl35⟩) (c35 : PySem.W.codeIn K cd35 "law" = true) (k35 : PySem.W.keepIn K (.ref g35) = true)
    (a_Former : PySem.W.nsIn K mainGlobals "Former" = some (some (.ref q_Former)))
    (a_Like : PySem.W.nsIn K mainGlobals "Like" = some (some (.ref q_Like)))
    (a_Near : PySem.W.nsIn K mainGlobals "Near" = some (some (.ref q_Near)))
    (a_Other : PySem.W.nsIn K mainGlobals "Other" = some (some (.ref q_Other)))
    (a_Rule : PySem.W.nsIn K mainGlobals "Rule" = some (some (.ref q_Rule)))
    (a_Same : PySem.W.nsIn K mainGlobals "Same" = some (some (.ref q_Same)))
    (cl0_Same : PySem.W.plainGet K q_Same Str.empty = true)
    (cl1_Same : PySem.W.hasDictIn K q_Same = true)
    (cl2_Same : PySem.W.plainOver K q_Same = true)
    (cl3_Same : PySem.W.findIn K (.ref q_Same) "__setattr__" = some (some (.builtin "object.__setattr__")))
    (na_Same_field : PySem.W.findIn K (.ref q_Same) "field" = some none)
    (cl0_Like : PySem.W.plainGet K q_Like Str.empty = true)
    (cl1_Like : PySem.W.hasDictIn K q_Like = true)
    (cl2_Like : PySem.W.plainOver K q_Like = true)
    (cl3_Like : PySem.W.findIn K (.ref q_Like) "__setattr__" = some (some (.builtin "object.__setattr__")))
    (na_Like_field : PySem.W.findIn K (.ref q_Like) "field" = some none)
    (cl0_Near : PySem.W.plainGet K q_Near Str.empty = true)
    (cl1_Near : PySem.W.hasDictIn K q_Near = true)
    (cl2_Near : PySem.W.plainOver K q_Near = true)
    (cl3_Near : PySem.W.findIn K (.ref q_Near) "__setattr__" = some (some (.builtin "object.__setattr__")))
    (na_Near_field : PySem.W.findIn K (.ref q_Near) "field" = some none)
    (cl0_Other : PySem.W.plainGet K q_Other Str.empty = true)
    (cl1_Other : PySem.W.hasDictIn K q_Other = true)
    (cl2_Other : PySem.W.plainOver K q_Other = true)
    (cl3_Other : PySem.W.findIn K (.ref q_Other) "__setattr__" = some (some (.builtin "object.__setattr__")))
    (na_Other_field : PySem.W.findIn K (.ref q_Other) "field" = some none)
    (cl0_Former : PySem.W.plainGet K q_Former Str.empty = true)
    (cl1_Former : PySem.W.hasDictIn K q_Former = true)
    (cl2_Former : PySem.W.plainOver K q_Former = true)
    (cl3_Former : PySem.W.findIn K (.ref q_Former) "__setattr__" = some (some (.builtin "object.__setattr__")))
    (na_Former_field : PySem.W.findIn K (.ref q_Former) "field" = some none)
    (me_Former_sort_word : PySem.W.findIn K (.ref q_Former) "sort_word" = some (some (.ref g20)))
    (me_Other_sort_word : PySem.W.findIn K (.ref q_Other) "sort_word" = some (some (.ref g17)))
    (me_Near_sort_word : PySem.W.findIn K (.ref q_Near) "sort_word" = some (some (.ref g15)))
    (me_Like_sort_word : PySem.W.findIn K (.ref q_Like) "sort_word" = some (some (.ref g13)))
    (me_Same_sort_word : PySem.W.findIn K (.ref q_Same) "sort_word" = some (some (.ref g11)))
    (me_Former_speaks : PySem.W.findIn K (.ref q_Former) "speaks" = some (some (.ref g19)))
    (me_Other_speaks : PySem.W.findIn K (.ref q_Other) "speaks" = some (some (.ref g9)))
    (me_Near_speaks : PySem.W.findIn K (.ref q_Near) "speaks" = some (some (.ref g9)))
    (me_Like_speaks : PySem.W.findIn K (.ref q_Like) "speaks" = some (some (.ref g9)))
    (me_Same_speaks : PySem.W.findIn K (.ref q_Same) "speaks" = some (some (.ref g9)))
    (na_Same_weight : PySem.W.findIn K (.ref q_Same) "weight" = some none)
    (na_Like_weight : PySem.W.findIn K (.ref q_Like) "weight" = some none)
    (na_Near_weight : PySem.W.findIn K (.ref q_Near) "weight" = some none)
    (na_Other_weight : PySem.W.findIn K (.ref q_Other) "weight" = some none)
    (na_Former_weight : PySem.W.findIn K (.ref q_Former) "weight" = some none)
    (mk_Same : PySem.W.makesIn K q_Same = true) (me_Same_init : PySem.W.findIn K (.ref q_Same) "__init__" = some (some (.ref g8))) (mc_Same : PySem.W.keepIn K (.ref q_Same) = true)
    (mk_Like : PySem.W.makesIn K q_Like = true) (me_Like_init : PySem.W.findIn K (.ref q_Like) "__init__" = some (some (.ref g8))) (mc_Like : PySem.W.keepIn K (.ref q_Like) = true)
    (mk_Near : PySem.W.makesIn K q_Near = true) (me_Near_init : PySem.W.findIn K (.ref q_Near) "__init__" = some (some (.ref g8))) (mc_Near : PySem.W.keepIn K (.ref q_Near) = true)
    (mk_Other : PySem.W.makesIn K q_Other = true) (me_Other_init : PySem.W.findIn K (.ref q_Other) "__init__" = some (some (.ref g8))) (mc_Other : PySem.W.keepIn K (.ref q_Other) = true)
    (mk_Former : PySem.W.makesIn K q_Former = true) (me_Former_init : PySem.W.findIn K (.ref q_Former) "__init__" = some (some (.ref g18))) (mc_Former : PySem.W.keepIn K (.ref q_Former) = true)
    (me_ca_Rule_init : PySem.W.findIn K (.ref q_Rule) "__init__" = some (some (.ref g8))) (ca0_Rule_init : PySem.W.specialIn K (.ref q_Rule) "__getattribute__" = some (some (.builtin "type.__getattribute__"))) (ca1_Rule_init : PySem.W.readsIn K q_Rule (.type "type") = true) (ca2_Rule_init : PySem.W.findCls K (.ref q_Rule) (.type "type") "__init__" = some (.val (.ref g8)))
    (me_Like_speaks_by : PySem.W.findIn K (.ref q_Like) "speaks_by" = some (some (.ref g12)))
    (me_Near_speaks_by : PySem.W.findIn K (.ref q_Near) "speaks_by" = some (some (.ref g14)))
    (me_Other_speaks_by : PySem.W.findIn K (.ref q_Other) "speaks_by" = some (some (.ref g16)))
    (me_Same_speaks_by : PySem.W.findIn K (.ref q_Same) "speaks_by" = some (some (.ref g10)))
    (y_any : PySem.W.nsIn K mainGlobals "any" = some none)
    (y_bool : PySem.W.nsIn K mainGlobals "bool" = some none)
    (y_int : PySem.W.nsIn K mainGlobals "int" = some none)
    (y_isinstance : PySem.W.nsIn K mainGlobals "isinstance" = some none)
    (y_len : PySem.W.nsIn K mainGlobals "len" = some none)
    (y_list : PySem.W.nsIn K mainGlobals "list" = some none)
    (y_range : PySem.W.nsIn K mainGlobals "range" = some none)
    (y_set : PySem.W.nsIn K mainGlobals "set" = some none)
    (y_sorted : PySem.W.nsIn K mainGlobals "sorted" = some none) :
    ∃ fd : FuncData, (∀ (s : Shared) (v : Value), BindsTo s fd ⟨[v], []⟩ [("_law_script", v)]) ∧ ∀ base : Heap, K.In base → base.Ns mainGlobals mg → FnOk l.prog w K mg base CX0 21 fa fd ["_law_script"] (spLaw K) := by
  have e := hfa.symm.trans (PySem.W.mg_of X G a35)
  cases e
  have F0 := fun_mk (st := s_weight_of) l0 c0 k0
  have b0 := F0.binds (ps := ["rules", "book", "one", "other"]) bd_weight_of
  have F1 := fun_mk (st := s_shares) l1 c1 k1
  have b1 := F1.binds (ps := ["some", "others"]) bd_shares
  have F2 := fun_mk (st := s_near_forms) l2 c2 k2
  have b2 := F2.binds (ps := ["text"]) bd_near_forms
  have F3 := fun_mk (st := s_all_forms) l3 c3 k3
  have b3 := F3.binds (ps := ["texts"]) bd_all_forms
  have F4 := fun_mk (st := s_plain_of) l4 c4 k4
  have b4 := F4.binds (ps := ["text"]) bd_plain_of
  have F5 := fun_mk (st := s_plains_of) l5 c5 k5
  have b5 := F5.binds (ps := ["texts"]) bd_plains_of
  have F6 := fun_mk (st := s_texts_of) l6 c6 k6
  have b6 := F6.binds (ps := ["book", "card", "field"]) bd_texts_of
  have F7 := fun_mk (st := s_was_called) l7 c7 k7
  have b7 := F7.binds (ps := ["book", "one", "other"]) bd_was_called
  have F8 := fun_mk (st := s_Rule_init) l8 c8 k8
  have b8 := F8.binds (ps := ["self", "weight", "field"]) bd_Rule_init
  have F9 := fun_mk (st := s_Rule_speaks) l9 c9 k9
  have b9 := F9.binds (ps := ["self", "book", "one", "other"]) bd_Rule_speaks
  have F10 := fun_mk (st := s_Same_speaks_by) l10 c10 k10
  have b10 := F10.binds (ps := ["self", "texts", "others"]) bd_Same_speaks_by
  have F11 := fun_mk (st := s_Same_sort_word) l11 c11 k11
  have b11 := F11.binds (ps := ["self"]) bd_Same_sort_word
  have F12 := fun_mk (st := s_Like_speaks_by) l12 c12 k12
  have b12 := F12.binds (ps := ["self", "texts", "others"]) bd_Like_speaks_by
  have F13 := fun_mk (st := s_Like_sort_word) l13 c13 k13
  have b13 := F13.binds (ps := ["self"]) bd_Like_sort_word
  have F14 := fun_mk (st := s_Near_speaks_by) l14 c14 k14
  have b14 := F14.binds (ps := ["self", "texts", "others"]) bd_Near_speaks_by
  have F15 := fun_mk (st := s_Near_sort_word) l15 c15 k15
  have b15 := F15.binds (ps := ["self"]) bd_Near_sort_word
  have F16 := fun_mk (st := s_Other_speaks_by) l16 c16 k16
  have b16 := F16.binds (ps := ["self", "texts", "others"]) bd_Other_speaks_by
  have F17 := fun_mk (st := s_Other_sort_word) l17 c17 k17
  have b17 := F17.binds (ps := ["self"]) bd_Other_sort_word
  have F18 := fun_mk (st := s_Former_init) l18 c18 k18
  have b18 := F18.binds (ps := ["self", "weight"]) bd_Former_init
  have F19 := fun_mk (st := s_Former_speaks) l19 c19 k19
  have b19 := F19.binds (ps := ["self", "book", "one", "other"]) bd_Former_speaks
  have F20 := fun_mk (st := s_Former_sort_word) l20 c20 k20
  have b20 := F20.binds (ps := ["self"]) bd_Former_sort_word
  have F21 := fun_mk (st := s_law_cell_at) l21 c21 k21
  have b21 := F21.binds (ps := ["_law_script", "_law_k"]) bd_law_cell_at
  have F22 := fun_mk (st := s_law_whole) l22 c22 k22
  have b22 := F22.binds (ps := ["_law_found"]) bd_law_whole
  have F23 := fun_mk (st := s_law_stream) l23 c23 k23
  have b23 := F23.binds (ps := ["_law_cell", "_law_many"]) bd_law_stream
  have F24 := fun_mk (st := s_law_cards) l24 c24 k24
  have b24 := F24.binds (ps := ["_law_cell", "_law_many"]) bd_law_cards
  have F25 := fun_mk (st := s_law_bent) l25 c25 k25
  have b25 := F25.binds (ps := ["_law_draw", "_law_more"]) bd_law_bent
  have F26 := fun_mk (st := s_law_field) l26 c26 k26
  have b26 := F26.binds (ps := ["_law_cell", "_law_draw"]) bd_law_field
  have F27 := fun_mk (st := s_law_book) l27 c27 k27
  have b27 := F27.binds (ps := ["_law_cells", "_law_cards_here", "_law_cell"]) bd_law_book
  have F28 := fun_mk (st := s_law_rules) l28 c28 k28
  have b28 := F28.binds (ps := ["_law_cell", "_law_field_here"]) bd_law_rules
  have F29 := fun_mk (st := s_law_made) l29 c29 k29
  have b29 := F29.binds (ps := ["_law_row"]) bd_law_made
  have F30 := fun_mk (st := s_law_texts) l30 c30 k30
  have b30 := F30.binds (ps := ["_law_book_here", "_law_card", "_law_field_here"]) bd_law_texts
  have F31 := fun_mk (st := s_law_plains) l31 c31 k31
  have b31 := F31.binds (ps := ["_law_texts_here"]) bd_law_plains
  have F32 := fun_mk (st := s_law_meet) l32 c32 k32
  have b32 := F32.binds (ps := ["_law_mine", "_law_others"]) bd_law_meet
  have F33 := fun_mk (st := s_law_near) l33 c33 k33
  have b33 := F33.binds (ps := ["_law_one", "_law_other"]) bd_law_near
  have F34 := fun_mk (st := s_law_speaks) l34 c34 k34
  have b34 := F34.binds (ps := ["_law_sort", "_law_book_here", "_law_one", "_law_other", "_law_field_here"]) bd_law_speaks
  have F35 := fun_mk (st := s_law) l35 c35 k35
  have b35 := F35.binds (ps := ["_law_script"]) bd_law
  exact ⟨_, fun s v => .of_eq rfl, fun base _ _ => ok_law (ad0 := ⟨q_Former, q_Like, q_Near, q_Other, q_Rule, q_Same, g0, g1, g2, g3, g4, g5, g6, g7, g8, g9, g10, g11, g12, g13, g14, g15, g16, g17, g18, g19, g20, g21, g22, g23, g24, g25, g26, g27, g28, g29, g30, g31, g32, g33, g34, _, _, _, _, _, _, _, _, _, _, _, _, _, _, _, _, _, _, _, _, _, _, _, _, _, _, _, _, _, _, _, _, _, _, _, _, _⟩) ⟨PySem.W.mg_of X G a_Former, PySem.W.mg_of X G a_Like, PySem.W.mg_of X G a_Near, PySem.W.mg_of X G a_Other, PySem.W.mg_of X G a_Rule, PySem.W.mg_of X G a_Same, ⟨cl0_Same, cl1_Same, cl2_Same, cl3_Same⟩, na_Same_field, ⟨cl0_Like, cl1_Like, cl2_Like, cl3_Like⟩, na_Like_field, ⟨cl0_Near, cl1_Near, cl2_Near, cl3_Near⟩, na_Near_field, ⟨cl0_Other, cl1_Other, cl2_Other, cl3_Other⟩, na_Other_field, ⟨cl0_Former, cl1_Former, cl2_Former, cl3_Former⟩, na_Former_field, ⟨me_Former_sort_word, mf20, k20⟩, ⟨me_Other_sort_word, mf17, k17⟩, ⟨me_Near_sort_word, mf15, k15⟩, ⟨me_Like_sort_word, mf13, k13⟩, ⟨me_Same_sort_word, mf11, k11⟩, ⟨me_Former_speaks, mf19, k19⟩, ⟨me_Other_speaks, mf9, k9⟩, ⟨me_Near_speaks, mf9, k9⟩, ⟨me_Like_speaks, mf9, k9⟩, ⟨me_Same_speaks, mf9, k9⟩, na_Same_weight, na_Like_weight, na_Near_weight, na_Other_weight, na_Former_weight, ⟨mk_Same, me_Same_init, mf8, mc_Same⟩, ⟨mk_Like, me_Like_init, mf8, mc_Like⟩, ⟨mk_Near, me_Near_init, mf8, mc_Near⟩, ⟨mk_Other, me_Other_init, mf8, mc_Other⟩, ⟨mk_Former, me_Former_init, mf18, mc_Former⟩, ⟨ca0_Rule_init, ca1_Rule_init, ca2_Rule_init, k8⟩, ⟨me_Like_speaks_by, mf12, k12⟩, ⟨me_Near_speaks_by, mf14, k14⟩, ⟨me_Other_speaks_by, mf16, k16⟩, ⟨me_Same_speaks_by, mf10, k10⟩, F0, b0, PySem.W.mg_of X G a0, F1, b1, PySem.W.mg_of X G a1, F2, b2, PySem.W.mg_of X G a2, F3, b3, PySem.W.mg_of X G a3, F4, b4, PySem.W.mg_of X G a4, F5, b5, PySem.W.mg_of X G a5, F6, b6, PySem.W.mg_of X G a6, F7, b7, PySem.W.mg_of X G a7, F8, b8, F9, b9, F10, b10, F11, b11, F12, b12, F13, b13, F14, b14, F15, b15, F16, b16, F17, b17, F18, b18, F19, b19, F20, b20, F21, b21, PySem.W.mg_of X G a21, F22, b22, PySem.W.mg_of X G a22, F23, b23, PySem.W.mg_of X G a23, F24, b24, PySem.W.mg_of X G a24, F25, b25, PySem.W.mg_of X G a25, F26, b26, PySem.W.mg_of X G a26, F27, b27, PySem.W.mg_of X G a27, F28, b28, PySem.W.mg_of X G a28, F29, b29, PySem.W.mg_of X G a29, F30, b30, PySem.W.mg_of X G a30, F31, b31, PySem.W.mg_of X G a31, F32, b32, PySem.W.mg_of X G a32, F33, b33, PySem.W.mg_of X G a33, F34, b34, PySem.W.mg_of X G a34, F35, b35, PySem.W.mg_of X G a35, PySem.W.mg_none_of X G y_any, PySem.W.mg_none_of X G y_bool, PySem.W.mg_none_of X G y_int, PySem.W.mg_none_of X G y_isinstance, PySem.W.mg_none_of X G y_len, PySem.W.mg_none_of X G y_list, PySem.W.mg_none_of X G y_range, PySem.W.mg_none_of X G y_set, PySem.W.mg_none_of X G y_sorted⟩⟩
theorem walk {l : PySem.W.OpenLaw} {q : Program} {loose : List Str} {XP : (Str → Option Value) → Heap → Prop} {YP : World → Heap → Prop} {d : DefRec} {K : Params → PySem.W.Frag} (hn : l.most = some 63) (hdf : d.params.defaults = [])
    (hY : ∀ (w : World) (h : Heap), YP w h → (K w.params).In h)
    (F : ∀ (w : World) (mg : Str → Option Value) (fa : Addr) (h : Heap), (K w.params).In h → h.Ns mainGlobals mg → mg d.name = some (.ref fa) →
      ∃ fd : FuncData, (∀ (s : Shared) (u : Value), BindsTo s fd ⟨[u], []⟩ [("_law_script", u)]) ∧ ∀ base : Heap, (K w.params).In base → base.Ns mainGlobals mg → FnOk l.prog w (K w.params) mg base CX0 21 fa fd ["_law_script"] (spLaw (K w.params))) :
    PySem.W.WalkO q loose XP YP l.row.toRowW d [] (fun f vs => PySem.call f vs) :=
  L2.walk_of (n := 63) (k := 21) (x := "_law_script") (CX := fun _ => CX0) (sp := fun w => spLaw (K w.params)) hn (by decide) hdf ⟨rfl, by decide, by decide⟩ hY F (fun _ _ a ns hl _ hS => ⟨a, ns, rfl, hS, hl, fun _ => rfl⟩) fun _ _ _ _ _ z => z
end My
noncomputable def PySem.W.Fast.tw18282844478889586117 : Unit := ()
open PySem PySem.W PyProof.Rows
set_option maxRecDepth 100000 in
set_option maxHeartbeats 0 in
theorem PySem.Challenge.cw_folk_k23_weights_of_two_holds : PySem.Challenge.rw_folk_k23_weights_of_two.Holds := by
  w_on; o_law; k_head; (case hw => w_witness2)
  k_fill
  refine My.walk (l := PySem.Challenge.rw_folk_k23_weights_of_two) rfl rfl (fun w h Y => PySem.W.kIn_of Y) ?F
  case F =>
    intro w mg fa h KX G hmg
    refine' My.all_mk KX G hmg ?a0 ?l0 ?c0 ?k0 ?a1 ?l1 ?c1 ?k1 ?a2 ?l2 ?c2 ?k2 ?a3 ?l3 ?c3 ?k3 ?a4 ?l4 ?c4 ?k4 ?a5 ?l5 ?c5 ?k5 ?a6 ?l6 ?c6 ?k6 ?a7 ?l7 ?c7 ?k7 ?l8 ?c8 ?k8 ?mf8 ?l9 ?c9 ?k9 ?mf9 ?l10 ?c10 ?k10 ?mf10 ?l11 ?c11 ?k11 ?mf11 ?l12 ?c12 ?k12 ?mf12 ?l13 ?c13 ?k13 ?mf13 ?l14 ?c14 ?k14 ?mf14 ?l15 ?c15 ?k15 ?mf15 ?l16 ?c16 ?k16 ?mf16 ?l17 ?c17 ?k17 ?mf17 ?l18 ?c18 ?k18 ?mf18 ?l19 ?c19 ?k19 ?mf19 ?l20 ?c20 ?k20 ?mf20 ?a21 ?l21 ?c21 ?k21 ?a22 ?l22 ?c22 ?k22 ?a23 ?l23 ?c23 ?k23 ?a24 ?l24 ?c24 ?k24 ?a25 ?l25 ?c25 ?k25 ?a26 ?l26 ?c26 ?k26 ?a27 ?l27 ?c27 ?k27 ?a28 ?l28 ?c28 ?k28 ?a29 ?l29 ?c29 ?k29 ?a30 ?l30 ?c30 ?k30 ?a31 ?l31 ?c31 ?k31 ?a32 ?l32 ?c32 ?k32 ?a33 ?l33 ?c33 ?k33 ?a34 ?l34 ?c34 ?k34 ?a35 ?l35 ?c35 ?k35 ?a_Former ?a_Like ?a_Near ?a_Other ?a_Rule ?a_Same ?cl0_Same ?cl1_Same ?cl2_Same ?cl3_Same ?na_Same_field ?cl0_Like ?cl1_Like ?cl2_Like ?cl3_Like ?na_Like_field ?cl0_Near ?cl1_Near ?cl2_Near ?cl3_Near ?na_Near_field ?cl0_Other ?cl1_Other ?cl2_Other ?cl3_Other ?na_Other_field ?cl0_Former ?cl1_Former ?cl2_Former ?cl3_Former ?na_Former_field ?me_Former_sort_word ?me_Other_sort_word ?me_Near_sort_word ?me_Like_sort_word ?me_Same_sort_word ?me_Former_speaks ?me_Other_speaks ?me_Near_speaks ?me_Like_speaks ?me_Same_speaks ?na_Same_weight ?na_Like_weight ?na_Near_weight ?na_Other_weight ?na_Former_weight ?mk_Same ?me_Same_init ?mc_Same ?mk_Like ?me_Like_init ?mc_Like ?mk_Near ?me_Near_init ?mc_Near ?mk_Other ?me_Other_init ?mc_Other ?mk_Former ?me_Former_init ?mc_Former ?me_ca_Rule_init ?ca0_Rule_init ?ca1_Rule_init ?ca2_Rule_init ?me_Like_speaks_by ?me_Near_speaks_by ?me_Other_speaks_by ?me_Same_speaks_by ?y_any ?y_bool ?y_int ?y_isinstance ?y_len ?y_list ?y_range ?y_set ?y_sorted
    (case a_Former => k_is)
    (case a_Like => k_is)
    (case a_Near => k_is)
    (case a_Other => k_is)
    (case a_Rule => k_is)
    (case a_Same => k_is)
    (case me_Former_sort_word => k_is)
    (case me_Other_sort_word => k_is)
    (case me_Near_sort_word => k_is)
    (case me_Like_sort_word => k_is)
    (case me_Same_sort_word => k_is)
    (case me_Former_speaks => k_is)
    (case me_Other_speaks => k_is)
    (case me_Near_speaks => k_is)
    (case me_Like_speaks => k_is)
    (case me_Same_speaks => k_is)
    (case me_Same_init => k_is)
    (case me_Like_init => k_is)
    (case me_Near_init => k_is)
    (case me_Other_init => k_is)
    (case me_Former_init => k_is)
    (case me_ca_Rule_init => k_is)
    (case me_Like_speaks_by => k_is)
    (case me_Near_speaks_by => k_is)
    (case me_Other_speaks_by => k_is)
    (case me_Same_speaks_by => k_is)
    (case a0 => k_is)
    (case l0 => k_is)
    (case c0 => k_is)
    (case k0 => k_is)
    (case a1 => k_is)
    (case l1 => k_is)
    (case c1 => k_is)
    (case k1 => k_is)
    (case a2 => k_is)
    (case l2 => k_is)
    (case c2 => k_is)
    (case k2 => k_is)
    (case a3 => k_is)
    (case l3 => k_is)
    (case c3 => k_is)
    (case k3 => k_is)
    (case a4 => k_is)
    (case l4 => k_is)
    (case c4 => k_is)
    (case k4 => k_is)
    (case a5 => k_is)
    (case l5 => k_is)
    (case c5 => k_is)
    (case k5 => k_is)
    (case a6 => k_is)
    (case l6 => k_is)
    (case c6 => k_is)
    (case k6 => k_is)
    (case a7 => k_is)
    (case l7 => k_is)
    (case c7 => k_is)
    (case k7 => k_is)
    (case l8 => k_is)
    (case c8 => k_is)
    (case k8 => k_is)
    (case mf8 => k_is)
    (case l9 => k_is)
    (case c9 => k_is)
    (case k9 => k_is)
    (case mf9 => k_is)
    (case l10 => k_is)
    (case c10 => k_is)
    (case k10 => k_is)
    (case mf10 => k_is)
    (case l11 => k_is)
    (case c11 => k_is)
    (case k11 => k_is)
    (case mf11 => k_is)
    (case l12 => k_is)
    (case c12 => k_is)
    (case k12 => k_is)
    (case mf12 => k_is)
    (case l13 => k_is)
    (case c13 => k_is)
    (case k13 => k_is)
    (case mf13 => k_is)
    (case l14 => k_is)
    (case c14 => k_is)
    (case k14 => k_is)
    (case mf14 => k_is)
    (case l15 => k_is)
    (case c15 => k_is)
    (case k15 => k_is)
    (case mf15 => k_is)
    (case l16 => k_is)
    (case c16 => k_is)
    (case k16 => k_is)
    (case mf16 => k_is)
    (case l17 => k_is)
    (case c17 => k_is)
    (case k17 => k_is)
    (case mf17 => k_is)
    (case l18 => k_is)
    (case c18 => k_is)
    (case k18 => k_is)
    (case mf18 => k_is)
    (case l19 => k_is)
    (case c19 => k_is)
    (case k19 => k_is)
    (case mf19 => k_is)
    (case l20 => k_is)
    (case c20 => k_is)
    (case k20 => k_is)
    (case mf20 => k_is)
    (case a21 => k_is)
    (case l21 => k_is)
    (case c21 => k_is)
    (case k21 => k_is)
    (case a22 => k_is)
    (case l22 => k_is)
    (case c22 => k_is)
    (case k22 => k_is)
    (case a23 => k_is)
    (case l23 => k_is)
    (case c23 => k_is)
    (case k23 => k_is)
    (case a24 => k_is)
    (case l24 => k_is)
    (case c24 => k_is)
    (case k24 => k_is)
    (case a25 => k_is)
    (case l25 => k_is)
    (case c25 => k_is)
    (case k25 => k_is)
    (case a26 => k_is)
    (case l26 => k_is)
    (case c26 => k_is)
    (case k26 => k_is)
    (case a27 => k_is)
    (case l27 => k_is)
    (case c27 => k_is)
    (case k27 => k_is)
    (case a28 => k_is)
    (case l28 => k_is)
    (case c28 => k_is)
    (case k28 => k_is)
    (case a29 => k_is)
    (case l29 => k_is)
    (case c29 => k_is)
    (case k29 => k_is)
    (case a30 => k_is)
    (case l30 => k_is)
    (case c30 => k_is)
    (case k30 => k_is)
    (case a31 => k_is)
    (case l31 => k_is)
    (case c31 => k_is)
    (case k31 => k_is)
    (case a32 => k_is)
    (case l32 => k_is)
    (case c32 => k_is)
    (case k32 => k_is)
    (case a33 => k_is)
    (case l33 => k_is)
    (case c33 => k_is)
    (case k33 => k_is)
    (case a34 => k_is)
    (case l34 => k_is)
    (case c34 => k_is)
    (case k34 => k_is)
    (case a35 => k_is)
    (case l35 => k_is)
    (case c35 => k_is)
    (case k35 => k_is)
    (case cl0_Same => k_is)
    (case cl1_Same => k_is)
    (case cl2_Same => k_is)
    (case cl3_Same => k_is)
    (case na_Same_field => k_is)
    (case cl0_Like => k_is)
    (case cl1_Like => k_is)
    (case cl2_Like => k_is)
    (case cl3_Like => k_is)
    (case na_Like_field => k_is)
    (case cl0_Near => k_is)
    (case cl1_Near => k_is)
    (case cl2_Near => k_is)
    (case cl3_Near => k_is)
    (case na_Near_field => k_is)
    (case cl0_Other => k_is)
    (case cl1_Other => k_is)
    (case cl2_Other => k_is)
    (case cl3_Other => k_is)
    (case na_Other_field => k_is)
    (case cl0_Former => k_is)
    (case cl1_Former => k_is)
    (case cl2_Former => k_is)
    (case cl3_Former => k_is)
    (case na_Former_field => k_is)
    (case na_Same_weight => k_is)
    (case na_Like_weight => k_is)
    (case na_Near_weight => k_is)
    (case na_Other_weight => k_is)
    (case na_Former_weight => k_is)
    (case mk_Same => k_is)
    (case mc_Same => k_is)
    (case mk_Like => k_is)
    (case mc_Like => k_is)
    (case mk_Near => k_is)
    (case mc_Near => k_is)
    (case mk_Other => k_is)
    (case mc_Other => k_is)
    (case mk_Former => k_is)
    (case mc_Former => k_is)
    (case ca0_Rule_init => k_is)
    (case ca1_Rule_init => k_is)
    (case ca2_Rule_init => k_is)
    (case y_any => k_is)
    (case y_bool => k_is)
    (case y_int => k_is)
    (case y_isinstance => k_is)
    (case y_len => k_is)
    (case y_list => k_is)
    (case y_range => k_is)
    (case y_set => k_is)
    (case y_sorted => k_is)
