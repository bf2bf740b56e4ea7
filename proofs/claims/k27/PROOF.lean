import PyProof.Rows.All
import Wide.All
import OpenK.AllK
import Wide.FinOn
import Lean
import PyProof.EqAt
import PyProof.EqKinds
import PyProof.TupleCall
import KE.KSortTup
import PySem.SetTable
import KE.KDictList
import PyProof.Rows.SeqMore
import PyProof.StrLawsIn
import PyProof.MeetsStr3
import PyProof.Rows.StrSplitMax
import KE.KDictLaws
import PyProof.Rows.CallKwBuiltin
import PyProof.ZipIter
import PyProof.Rows.ZipGen
import PyProof.Rows.StrWeight2
import KE.KDictSum
import KE.KTryMore
import PyProof.Rows.TopTwo
import PyProof.ExcBaseAll.ValueError
import KE.RegKIsAll
import KE.RegKTryMore
import PyProof.ExcAttrAll.ValueError
import PyProof.ExcInit
import PyProof.Rows.StrDouble
import OpenK.KCls
import PyProof.Rows.FStr
import PyProof.Rows.FStrParts
import PyProof.InstStoreFacts
import OpenK.KMake
import PyProof.Logic
import PyProof.Rows.StrJoinMade
import PyProof.ReprRoads
import PyProof.ReprLen
import PyProof.StrLawsRepr
import PySem.Challenge.RW_folk_k27_books_at_odds
set_option genSizeOf false
set_option bootstrap.genMatcherCode false
noncomputable section
set_option Elab.async false
set_option linter.all false
set_option maxRecDepth 100000
namespace L2
open PySem PySem.Spec PyProof.Rows
noncomputable abbrev Key:=Sum Int Str
noncomputable def zpi : Key->Value->Bool
 | .inl k,v=>Value.isInt k v
 | .inr x,v=>Value.isStrOf x v
noncomputable def keyH (w : World) : Key->Int
 | .inl k=>hashInt k
 | .inr x=>hashStr w x
theorem zay : ∀ {k : Key} {v : Value},zpi k v = true->(∃ i t,k = Sum.inl i/\v = Value.int i t) \/ (∃ x t,k = Sum.inr x/\v = Value.str x t)
 | .inl i,v,h=>by
  obtain ⟨t,e⟩:=Value.isInt_shape (k:=i) (v:=v) h
  exact .inl ⟨i,t,rfl,e⟩
 | .inr x,v,h=>by
  obtain ⟨t,e⟩:=Value.isStrOf_shape (x:=x) (v:=v) h
  exact .inr ⟨x,t,rfl,e⟩
theorem zri (i : Int) (t : Tok) : zpi (.inl i) (.int i t) = true:=by simp [zpi,Value.isInt]
theorem zsn (x : Str) (t : Tok) : zpi (.inr x) (.str x t) = true:=by simp [zpi,Value.isStrOf]
theorem zy4 (a b : Int) : decide ((Sum.inl a : Key) = Sum.inl b) = (a == b):=by
 by_cases e : a = b
 ·subst e; simp
 ·have h : ¬ (Sum.inl a : Key) = Sum.inl b:=fun q=>e (Sum.inl.inj q)
  rw [decide_eq_false h]
  exact (beq_eq_false_iff_ne.mpr e).symm
theorem yak (a b : Str) : decide ((Sum.inr a : Key) = Sum.inr b) = decide (a = b):=by
 by_cases e : a = b
 ·subst e; simp
 ·have h : ¬ (Sum.inr a : Key) = Sum.inr b:=fun q=>e (Sum.inr.inj q)
  rw [decide_eq_false h,decide_eq_false e]
theorem yav (a : Int) (b : Str) : decide ((Sum.inl a : Key) = Sum.inr b) = false:=decide_eq_false (fun q=>nomatch q)
theorem yad (a : Str) (b : Int) : decide ((Sum.inr a : Key) = Sum.inl b) = false:=decide_eq_false (fun q=>nomatch q)
noncomputable def zal (prog : Program) (w : World) : PySem.KeyKind prog w Key where
 is:=zpi
 hash:=keyH w
 inj:=fun v a b ha hb=>by
  rcases zay ha with ⟨i,t,rfl,rfl⟩ | ⟨x,t,rfl,rfl⟩
  ·rcases zay hb with ⟨j,u,rfl,e⟩ | ⟨y,u,rfl,e⟩
   ·injection e with e1 _; rw [e1]
   ·exact nomatch e
  ·rcases zay hb with ⟨j,u,rfl,e⟩ | ⟨y,u,rfl,e⟩
   ·exact nomatch e
   ·injection e with e1 _; rw [e1]
 byValue:=fun k v h=>by
  rcases zay h with ⟨i,t,rfl,rfl⟩ | ⟨x,t,rfl,rfl⟩ <;> rfl
 pyHash:=fun hv h=>by
  rcases zay hv with ⟨i,t,rfl,rfl⟩ | ⟨x,t,rfl,rfl⟩
  ·exact wpAny_pyHash_int h
  ·exact wpAny_pyHash_str h
 eqBool:=fun hu hv h=>by
  rcases zay hu with ⟨i,t,rfl,rfl⟩ | ⟨x,t,rfl,rfl⟩
  ·rcases zay hv with ⟨j,u,rfl,rfl⟩ | ⟨y,u,rfl,rfl⟩
   ·rw [zy4] at h; exact wpAny_eqBool_int h
   ·rw [yav] at h; exact SeqAt.EqAt.int_str i t y u _ _ _ _ h
  ·rcases zay hv with ⟨j,u,rfl,rfl⟩ | ⟨y,u,rfl,rfl⟩
   ·rw [yad] at h; exact SeqAt.EqAt.str_int x t j u _ _ _ _ h
   ·rw [yak] at h; exact wpAny_eqBool_str h
 «strs»:=fun k x t v h=>by
  rcases zay h with ⟨i,u,rfl,e⟩ | ⟨y,u,rfl,e⟩
  ·exact nomatch e
  ·injection e with e1 _
   subst e1
   cases v <;> rfl
theorem zhy (prog : Program) (w : World) (i : Int) (t : Tok) : (zal prog w).is (.inl i) (.int i t) = true:=zri i t
theorem zhi (prog : Program) (w : World) (x : Str) (t : Tok) : (zal prog w).is (.inr x) (.str x t) = true:=zsn x t
end L2
namespace L2
open PySem PySem.Spec PyProof.Rows
inductive V where
 | non | bl (b : Bool) | int (i : Int) | str (x : Str) | byt (b : Array UInt8) | flt (b : UInt64) | ref (a : Addr) | ty (n : String)
 deriving DecidableEq
noncomputable def RelV : V->Value->Prop
 | .non,u=>u = Value.none
 | .bl b,u=>u = Value.bool b
 | .int i,u=>∃ t,u = Value.int i t
 | .str x,u=>∃ t,u = Value.str x t
 | .byt b,u=>∃ t,u = Value.bytes b t
 | .flt b,u=>∃ t,u = Value.float b t
 | .ref a,u=>u = Value.ref a
 | .ty n,u=>u = Value.type n
noncomputable abbrev Vals : List V->List Value->Prop:=Paired RelV
theorem Vals.length {xs : List V} {us : List Value} (r : Vals xs us) : xs.length = us.length:=Paired.length r
theorem Vals.get : ∀ {xs : List V} {us : List Value} {i : Nat} {x : V},Vals xs us->xs[i]? = some x -> ∃ u,us[i]? = some u/\RelV x u
 | _,_,_,_,.nil,e=>by simp at e
 | _,_,0,_,.cons r _,e=>by simp at e; subst e; exact ⟨_,rfl,r⟩
 | _,_,i + 1,x,.cons _ t,e=>by
  obtain ⟨u,h1,h2⟩:=Vals.get (i:=i) (x:=x) t (by simpa using e)
  exact ⟨u,by simpa using h1,h2⟩
theorem Vals.append : ∀ {xs ys : List V} {us ws : List Value},Vals xs us->Vals ys ws->Vals (xs++ys) (us++ws)
 | _,_,_,_,.nil,s=>s
 | _,_,_,_,.cons r t,s=>.cons r (Vals.append t s)
theorem Vals.take : ∀ {xs : List V} {us : List Value} (n : Nat),Vals xs us->Vals (xs.take n) (us.take n)
 | _,_,0,_=>.nil
 | _,_,_ + 1,.nil=>.nil
 | _,_,n + 1,.cons r t=>.cons r (Vals.take n t)
theorem Vals.drop : ∀ {xs : List V} {us : List Value} (n : Nat),Vals xs us->Vals (xs.drop n) (us.drop n)
 | _,_,0,r=>r
 | _,_,_ + 1,.nil=>.nil
 | _,_,n + 1,.cons _ t=>Vals.drop n t
noncomputable def RelO : Option V->Option Value->Prop
 | some v,some u=>RelV v u
 | none,none=>True
 | _,_=>False
noncomputable def KV {κ : Type} : List (κ × V)->List (κ × Value)->Prop:=Paired fun (p : κ × V) (q : κ × Value)=>p.1 = q.1/\RelV p.2 q.2
noncomputable def kV : Key->V
 | .inl i=>.int i
 | .inr x=>.str x
inductive HO where
 /-- a list -/
 | lst (xs : List V)
 /-- a tuple (never changes) -/
 | tup (xs : List V)
 /-- a dict whose keys are ints and texts; one whose keys are tuples of ints and texts (the empty one is both) -/
 | dK (kvs : List (Key × V)) | dT (kvs : List (List Key × V))
 /-- a set of ints: its members,its size -/
 | set (S : Int->Bool) (n : Nat)
 /-- an instance of the class at C,its dict at dx,its attributes -/
 | ins (C dx : Addr) (fs : List (Str × V))
 /-- the dict of the instance at x -/
 | own (x : Addr)
 /-- the dict of an exception -/
 | xd (fs : List (Str × V))
 /-- a bound method,f of x -/
 | met (f x : Addr)
 /-- a range object lo,lo + 1,.. below hi -/
 | rng (lo hi : Int)
 /-- a thing that is known to the object (the script; a dict while a loop walks it): read,never written while it is so -/
 | frz (o : Obj) (u : HO)
 /-- a code object's table -/
 | tbl (ps : Array Value)
 /-- any other thing,by what is true of its one object (a def of one's own: SetO a S n:=HO.ext fun h=>..) -/
 | ext (φ : Heap->Prop)
noncomputable abbrev Hp:=Addr->Option HO
noncomputable def upd (H : Hp) (a : Addr) (o : HO) : Hp:=fun b=>if b = a then some o else H b
theorem zae {H : Hp} {a : Addr} {o : HO} : upd H a o a = some o:=by unfold upd; rw [if_pos rfl]
theorem zaf {H : Hp} {a b : Addr} {o : HO} (h : b≠a) : upd H a o b = H b:=by unfold upd; rw [if_neg h]
theorem zxo {H : Hp} {a b : Addr} {o u : HO} (h : H a = some o) (h' : H b = some u) (d : o≠u) : a≠b:=by
 intro e; subst e; rw [h] at h'; exact d (Option.some.inj h')
theorem zaj {H : Hp} {a b : Addr} {o : HO} (h : H a = some o) (h' : H b = none) : a≠b:=by
 intro e; subst e; rw [h] at h'; cases h'
section
variable (P : Program) (w : World)
noncomputable def zce (H : Hp) (h : Heap) (a : Addr) : HO->Prop
 | .lst xs=>xs.length <= sizeLine /\ ∃ (its : List Value) (n : Nat),Vals xs its/\h.get? a = some { cls:=.type "list", data:=.seq its.toArray n }
 | .tup xs=>xs.length <= sizeLine /\ ∃ its : List Value,Vals xs its/\IsTup h a its.toArray
 | .dK kvs=>kvs.length <= sizeLine/\(a == sysModules) = false /\ ∃ vs,KV kvs vs/\h.DictOf (zal P w) a vs
 | .dT kvs=>kvs.length <= sizeLine/\(a == sysModules) = false /\ ∃ xs : List (List Key × Addr × Value),
   Paired (fun (p : List Key × V) (q : List Key × Addr × Value)=>p.1 = q.1/\H q.2.1 = some (.tup (p.1.map kV))/\RelV p.2 q.2.2) kvs xs /\
   ∃ o es ep,h.get? a = some o/\o.ExactDict/\o.data = .dict es ep/\es.toList = xs.map (entryOfKey (tupleKind (zal P w)))/\(xs.map (·.1)).Nodup
 | .set S n=>h.SetOf (intKind P w) a S n
 | .ins C dx fs=>H dx = some (.own a)/\fs.length <= 1000/\dx≠a/\h.get? a = some (PySem.W.instObj C dx) /\
   ∃ mA,h.Ns1 dx mA/\(∀ f,RelO (fs.lookup f) (mA f))/\PySem.Within mA (fs.map (·.1))
 | .own _=>∃ o,h.get? a = some o
 | .xd fs=>∃ mA,h.Ns1 a mA /\ ∀ f,RelO (fs.lookup f) (mA f)
 | .rng lo hi=>∃ t u v,h.get? a = some { cls:=.type "range", data:=.fields #[.int lo t,.int hi u,.int 1 v] }
 | .frz o u=>h.get? a = some o/\zce H h a u
 | .tbl ps=>h.get? a = some { cls:=.none,data:=.fields ps }
 | .met f x=>h.get? a = some (PySem.W.methodObj (.ref f) (.ref x))
 | .ext φ=>φ h/\(∃ o,h.get? a = some o) /\ ∀ h1 h2 : Heap,φ h1->(∀ o,h1.get? a = some o->h2.get? a = some o)->φ h2
noncomputable def HOk (H : Hp) (h : Heap) : Prop:=∀ a o,H a = some o->zce P w H h a o
end
section
variable {P : Program} {w : World} {H H' : Hp} {h h' : Heap} {a : Addr} {o : HO}
theorem zce.lt (x : zce P w H h a o) : a < h.objs.size:=by
 cases o with
 | lst xs=>obtain ⟨_,_,_,_,e⟩:=x; exact Heap.lt_size e
 | tup xs=>obtain ⟨_,_,_,p⟩:=x; exact p.lt
 | dK kvs=>obtain ⟨_,_,_,_,o,_,_,e,_⟩:=x; exact Heap.lt_size e
 | dT kvs=>obtain ⟨_,_,_,_,o,_,_,e,_⟩:=x; exact Heap.lt_size e
 | set S n=>obtain ⟨o,_,_,_,e,_⟩:=x; exact Heap.lt_size e
 | ins C dx fs=>obtain ⟨_,_,_,e,_⟩:=x; exact Heap.lt_size e
 | own y=>obtain ⟨_,e⟩:=x; exact Heap.lt_size e
 | xd fs=>obtain ⟨_,⟨_,_,_,e,_⟩,_⟩:=x; exact Heap.lt_size e
 | rng lo hi=>obtain ⟨_,_,_,e⟩:=x; exact Heap.lt_size e
 | frz ob u=>obtain ⟨e,_⟩:=x; exact Heap.lt_size e
 | tbl ps=>exact Heap.lt_size (show h.get? a = some _ from x)
 | met f y=>exact Heap.lt_size (show h.get? a = some _ from x)
 | ext φ=>obtain ⟨_,⟨_,e⟩,_⟩:=x; exact Heap.lt_size e
theorem Paired.mapP {α β : Type} {F G : α->β->Prop} : ∀ {l₁ : List α} {l₂ : List β},Paired F l₁ l₂->(∀ a b,F a b->G a b)->Paired G l₁ l₂
 | _,_,.nil,_=>.nil
 | _,_,.cons r t,f=>.cons (f _ _ r) (Paired.mapP t f)
theorem zce.stay (x : zce P w H h a o) (k : ∀ b u,(b = a \/ H b = some (.own a))->h.get? b = some u->h'.get? b = some u)
  (ho : ∀ b,H b = some (.own a)->H' b = some (.own a)) (ht : ∀ b xs,H b = some (.tup xs)->H' b = some (.tup xs)) : zce P w H' h' a o:=by
 induction o with
 | lst xs=>obtain ⟨z,its,n,r,e⟩:=x; exact ⟨z,its,n,r,k _ _ (.inl rfl) e⟩
 | tup xs=>obtain ⟨z,its,r,ob,e,c⟩:=x; exact ⟨z,its,r,ob,k _ _ (.inl rfl) e,c⟩
 | dK kvs=>obtain ⟨z,y,vs,r,ob,es,ep,e,c⟩:=x; exact ⟨z,y,vs,r,ob,es,ep,k _ _ (.inl rfl) e,c⟩
 | dT kvs =>
  obtain ⟨z,y,xs,r,ob,es,ep,e,c⟩:=x
  exact ⟨z,y,xs,Paired.mapP r fun p q z=>⟨z.1,ht _ _ z.2.1,z.2.2⟩,ob,es,ep,k _ _ (.inl rfl) e,c⟩
 | set S n=>obtain ⟨ob,es,ep,t,e,c⟩:=x; exact ⟨ob,es,ep,t,k _ _ (.inl rfl) e,c⟩
 | ins C dx fs =>
  obtain ⟨d,z,ne,e,mA,⟨od,es,ep,e2,c⟩,r⟩:=x
  exact ⟨ho _ d,z,ne,k _ _ (.inl rfl) e,mA,⟨od,es,ep,k _ _ (.inr d) e2,c⟩,r⟩
 | own y=>obtain ⟨ob,e⟩:=x; exact ⟨ob,k _ _ (.inl rfl) e⟩
 | xd fs=>obtain ⟨mA,⟨od,es,ep,e,c⟩,r⟩:=x; exact ⟨mA,⟨od,es,ep,k _ _ (.inl rfl) e,c⟩,r⟩
 | rng lo hi=>obtain ⟨t,u,v,e⟩:=x; exact ⟨t,u,v,k _ _ (.inl rfl) e⟩
 | frz ob u ih=>obtain ⟨e,q⟩:=x; exact ⟨k _ _ (.inl rfl) e,ih q⟩
 | tbl ps =>
  have e : h.get? a = some { cls:=.none,data:=.fields ps }:=x
  show h'.get? a = some { cls:=.none,data:=.fields ps }
  exact k a _ (.inl rfl) e
 | met f y =>
  have e : h.get? a = some (PySem.W.methodObj (.ref f) (.ref y)):=x
  show h'.get? a = some (PySem.W.methodObj (.ref f) (.ref y))
  exact k a _ (.inl rfl) e
 | ext φ=>obtain ⟨p,⟨o,e⟩,st⟩:=x; exact ⟨st _ _ p fun o q=>k _ _ (.inl rfl) q,⟨o,k _ _ (.inl rfl) e⟩,st⟩
theorem HOk.lt (x : HOk P w H h) (e : H a = some o) : a < h.objs.size:=(x a o e).lt
theorem HOk.fresh (x : HOk P w H h) (e : h.objs.size <= a) : H a = none:=by
 cases q : H a with
 | none=>rfl
 | some u=>exact absurd (Nat.lt_of_lt_of_le (x.lt q) e) (Nat.lt_irrefl _)
theorem HOk.kept (x : HOk P w H h) (k : ∀ b u,h.get? b = some u->h'.get? b = some u) : HOk P w H h':=fun a o e =>
 (x a o e).stay (fun b u _ q=>k b u q) (fun _ q=>q) fun _ _ q=>q
theorem HOk.laid (x : HOk P w H h) (k : ∀ b u,h.get? b = some u->h'.get? b = some u) (hp : h.objs.size <= a) (new : zce P w (upd H a o) h' a o) : HOk P w (upd H a o) h':=fun b u e=>by
 have hn:=x.fresh hp
 by_cases hb : b = a
 ·subst hb; rw [zae] at e; cases e; exact new
 ·rw [zaf hb] at e
  exact (x b u e).stay (fun c v _ q=>k c v q) (fun c q=>by rw [zaf (zaj q hn)]; exact q) fun c xs q=>by rw [zaf (zaj q hn)]; exact q
end
noncomputable def Rd (H : Hp) (a : Addr) (u : HO) : Prop:=H a = some u \/ ∃ o,H a = some (.frz o u)
theorem Rd.ok {P : Program} {w : World} {H : Hp} {h : Heap} {a : Addr} {u : HO} (r : Rd H a u) (x : HOk P w H h) : zce P w H h a u:=by
 rcases r with r | ⟨o,r⟩
 ·exact x a u r
 ·obtain ⟨_,q⟩:=x a _ r
  exact q
noncomputable def Mut : Option HO->Prop
 | some (.lst _)=>True
 | some (.dK _)=>True
 | some (.dT _)=>True
 | some (.set _ _)=>True
 | some (.ins _ _ _)=>True
 | some (.ext _)=>True
 | _=>False
section
variable {P : Program} {w : World} {H : Hp} {h h' : Heap} {x e : Addr} {o' : HO}
theorem HOk.write (ok : HOk P w H h) (mu : Mut (H x)) (he : e = x \/ H e = some (.own x)) (k : ∀ b u,b≠e->h.get? b = some u->h'.get? b = some u) (heo : ∃ u,h'.get? e = some u)
  (new : zce P w (upd H x o') h' x o') : HOk P w (upd H x o') h':=fun b u q=>by
 have nown : ∀ c y,H c = some (.own y)->c≠x:=fun c y r z=>by subst z; rw [r] at mu; exact mu
 have ntup : ∀ c xs,H c = some (.tup xs)->c≠x:=fun c xs r z=>by subst z; rw [r] at mu; exact mu
 by_cases hb : b = x
 ·subst hb; rw [zae] at q; cases q; exact new
 ·rw [zaf hb] at q
  by_cases hbe : b = e
  ·have q' : H b = some (.own x):=by
    rcases he with z | z
    ·exact absurd (hbe.trans z) hb
    ·rw [hbe]; exact z
   rw [q] at q'; cases q'
   obtain ⟨v,hv⟩:=heo
   exact ⟨v,by rw [hbe]; exact hv⟩
  ·refine (ok b u q).stay (fun c v hc r=>k c v ?_ r) (fun c r=>by rw [zaf (nown c b r)]; exact r) fun c xs r=>by rw [zaf (ntup c xs r)]; exact r
   rcases hc with rfl | hc
   ·exact hbe
   ·rintro rfl
    rcases he with z | z
    ·exact nown c b hc z
    ·rw [hc] at z; cases z; exact hb rfl
end
structure Un (fs ex : List Addr) (H H' : Hp) (h h' : Heap) : Prop where
 keep : ∀ b o,h.get? b = some o->H b = none->b ∉ fs->b ∉ ex->h'.get? b = some o
 slot : ∀ b o,h.get? b = some o->H b = none->b∈fs->b ∉ ex -> ∃ sl,h'.get? b = some { o with slots:=sl }
 free : ∀ b o,h.get? b = some o->H b = none->b ∉ ex->H' b = none
 there : ∀ b o,h.get? b = some o->b ∉ ex -> ∃ o',h'.get? b = some o'
 tups : ∀ b xs,H b = some (.tup xs)->H' b = some (.tup xs)
 frzs : ∀ b o u,H b = some (.frz o u)->H' b = some (.frz o u)
 tbls : ∀ b ps,H b = some (.tbl ps) -> ∃ more,H' b = some (.tbl (ps++more))
section
variable {fs fs' ex ex' : List Addr} {H H1 H2 : Hp} {h h1 h2 h' : Heap} {a x e : Addr} {o : HO}
theorem Un.any (u : Un fs ex H H1 h h1) {b : Addr} {ob : Obj} (q : h.get? b = some ob) (n : H b = none) (hx : b ∉ ex) : ∃ sl,h1.get? b = some { ob with slots:=sl }:=by
 by_cases hb : b∈fs
 ·exact u.slot b ob q n hb hx
 ·exact ⟨ob.slots,u.keep b ob q n hb hx⟩
theorem Un.kept (k : ∀ b u,h.get? b = some u->h'.get? b = some u) : Un fs ex H H h h' :=
 ⟨fun b ob q _ _ _=>k b ob q,fun b ob q _ _ _=>⟨ob.slots,k b ob q⟩,fun _ _ _ n _=>n,fun b ob q _=>⟨ob,k b ob q⟩,fun _ _ q=>q,fun _ _ _ q=>q,fun _ ps q=>⟨#[],by rw [q]; simp⟩⟩
theorem Un.refl : Un fs ex H H h h:=Un.kept fun _ _ q=>q
theorem Un.laid (k : ∀ b u,h.get? b = some u->h'.get? b = some u) (hp : h.objs.size <= a) (hn : H a = none) : Un fs ex H (upd H a o) h h' where
 keep:=fun b u q _ _ _=>k b u q
 slot:=fun b u q _ _ _=>⟨u.slots,k b u q⟩
 free:=fun b u q n _=>by rw [zaf (Nat.ne_of_lt (Nat.lt_of_lt_of_le (Heap.lt_size q) hp))]; exact n
 there:=fun b u q _=>⟨u,k b u q⟩
 tups:=fun b xs q=>by rw [zaf (zaj q hn)]; exact q
 frzs:=fun b u xs q=>by rw [zaf (zaj q hn)]; exact q
 tbls:=fun b ps q=>⟨#[],by rw [zaf (zaj q hn),q]; simp⟩
theorem Un.write (mu : Mut (H x)) (he : e = x \/ H e = some (.own x)) (k : ∀ b u,b≠e->h.get? b = some u->h'.get? b = some u) (heo : ∃ u,h'.get? e = some u) : Un fs ex H (upd H x o) h h':=by
 have hx : ∀ b,H b = none->b≠x:=fun b n z=>by subst z; rw [n] at mu; exact mu
 have hb : ∀ b,H b = none->b≠e:=fun b n z=>by
  subst z
  rcases he with r | r
  ·exact hx b n r
  ·rw [n] at r; cases r
 have hm : ∀ b u,H b = some u -> ¬ Mut (some u)->b≠x:=fun b u q nm z=>by subst z; rw [q] at mu; exact nm mu
 refine ⟨fun b u q n _ _=>k b u (hb b n) q,fun b u q n _ _=>⟨u.slots,k b u (hb b n) q⟩,fun b u q n _=>by rw [zaf (hx b n)]; exact n,fun b u q _=>?_,
  fun b xs q=>by rw [zaf (hm b _ q fun z=>z)]; exact q,fun b u xs q=>by rw [zaf (hm b _ q fun z=>z)]; exact q,fun b ps q=>⟨#[],by rw [zaf (hm b _ q fun z=>z),q]; simp⟩⟩
 by_cases hbe : b = e
 ·subst hbe; exact heo
 ·exact ⟨u,k b u hbe q⟩
end
noncomputable def trk (h : Heap) (H : Hp) : List Addr:=(List.range h.objs.size).filter fun a=>(H a).isSome
noncomputable def hidT (h : Heap) (H : Hp) : Heap:=PySem.W.hideAll h (trk h H)
theorem ztd (h : Heap) (H : Hp) : (hidT h H).objs.size = h.objs.size:=PySem.W.hideAll_size _ _
theorem zu8 {h : Heap} {H : Hp} {b : Addr} {o : Obj} (e : h.get? b = some o) (n : H b = none) : (hidT h H).get? b = some o :=
 PySem.W.hideAll_get _ e fun hm=>by
  have q : (H b).isSome = true:=(List.mem_filter.mp hm).2
  rw [n] at q; simp at q
theorem zx8 {h : Heap} {H : Hp} {b : Addr} {o : Obj} (e : (hidT h H).get? b = some o) : h.get? b = some o/\H b = none:=by
 have e' : h.get? b = some o:=PySem.W.of_hideAll (trk h H) e
 refine ⟨e',?_⟩
 cases q : H b with
 | none=>rfl
 | some x =>
  have hm : b∈trk h H:=List.mem_filter.mpr ⟨List.mem_range.mpr (Heap.lt_size e'),by simp [q]⟩
  have z : (hidT h H).get? b = none:=PySem.W.hideAll_none (trk h H) hm
  rw [z] at e; cases e
noncomputable def zxh (g h : Heap) (L : Addr) : List (Addr × Obj):=(List.range h.objs.size).filterMap fun a=>if a = L \/ (g.get? a).isSome = true then none else (h.get? a).map fun o=>(a,o)
noncomputable def rest (g h : Heap) (L d : Addr) : List (Addr × Obj):=(zxh g h L).filter fun p=>decide (p.1≠d)
end L2
namespace L2
open PySem PySem.Spec PyProof.Rows
structure Mod (K : PySem.W.Frag) (mg : Str->Option Value) (base : Heap) : Prop where
 kin : K.In base
 glob : base.Ns mainGlobals mg
 blt : ∃ mb,base.Ns builtinsNs mb /\ ∀ x : Str,x ≠ "__name__" -> mb x = bootBuiltins x
 nolimit : base.NoLimit
structure Cx where
 prog : Program
 w : World
 K : PySem.W.Frag
 mg : Str->Option Value
 base : Heap
 A : Around
 N : List Str
 s₀ : Shared
 H₀ : Hp
 env : Env
 outer : List Env
 stack : List Env
 ex : List Addr
 fn : Str->Bool
 calm : Bool
 pn : List (Addr × Obj)
 xe : Value->Shared->Prop
noncomputable def frs (l : List Env) : List Addr:=l.filterMap (·.frame)
noncomputable abbrev Cx.fs (X : Cx) : List Addr:=frs X.outer
noncomputable def Vis (sc : Scope) (x : Str) : Prop:=sc.names.lookup x = some .local \/ sc.names.lookup x = some .cell \/ sc.names.lookup x = some .free
noncomputable def Loc (sc : Scope) (x : Str) : Prop:=sc.names.lookup x = some .local \/ sc.names.lookup x = some .cell
noncomputable def Look (env : Env) (h : Heap) (m : Str->Option Value) (x : Str) (u : Value) : Prop :=
 (env.kindOf x = some .local/\m x = some u) \/ ((env.kindOf x = some .cell \/ env.kindOf x = some .free) /\ ∃ c,env.cells.lookup x = some c/\h.IsCell c (some u))
structure Cx.Ok (X : Cx) : Prop where
 mod : Mod X.K X.mg X.base
 kind : X.env.scope.kind = .function
 glob : X.env.globals = mainGlobals
 blt : X.env.builtins = builtinsNs
 above : X.s₀.heap.objs.size <= X.env.locals
 inj : ∀ x y c,X.env.cells.lookup x = some c->X.env.cells.lookup y = some c->x = y
 has : ∀ x,(X.env.kindOf x = some .cell \/ X.env.kindOf x = some .free) -> ∃ c,X.env.cells.lookup x = some c
 cab : ∀ x c,X.fn x = true->X.env.cells.lookup x = some c->X.s₀.heap.objs.size <= c
 hd : X.calm = true->X.A.handled = none
 frames : X.A.frames = some X.stack
 stk : X.stack = X.outer \/ (X.stack = X.env::X.outer/\X.env.frame = some X.env.locals)
 exf : ∀ b∈X.ex,b≠X.env.locals /\ ∀ x c,X.env.cells.lookup x = some c->c≠b
 bs : ∀ b o,X.base.get? b = some o->X.s₀.heap.get? b = some o/\X.H₀ b = none
 bsz : X.base.objs.size <= X.s₀.heap.objs.size
 noex : ∀ b o,X.base.get? b = some o->b ∉ X.ex
 exfs : ∀ b∈X.ex,b ∉ X.fs
 funs : X.s₀.heap.FunFrames X.base X.outer
 frf : ∀ b∈X.fs,X.H₀ b = none
structure Inv (X : Cx) (pins : List (Addr × Obj)) (σ : List (Option V)) (H : Hp) (s : Shared) : Prop where
 ok : X.Ok
 os : s.os = X.s₀.os
 bare : AllBare s.gens
 base : Un X.fs X.ex X.H₀ H X.s₀.heap s.heap
 loc : ∃ m,s.heap.Ns X.env.locals m /\ ∀ (i : Nat) (x : Str) (v : V),X.N[i]? = some x->σ[i]? = some (some v)->Vis X.env.scope x -> ∃ u,RelV v u/\Look X.env s.heap m x u
 cell : ∀ x c,X.env.cells.lookup x = some c -> ∃ v,s.heap.IsCell c v
 free : H X.env.locals = none
 freeC : ∀ x c,X.env.cells.lookup x = some c->H c = none
 pin : ∀ p∈X.pn++pins,s.heap.get? p.1 = some p.2/\H p.1 = none/\p.1≠X.env.locals/\p.1 ∉ X.fs /\ ∀ v,p.2.data ≠ .cell v
 hok : HOk X.prog X.w H s.heap
 len : σ.length = X.N.length
section
variable {X : Cx} {pins : List (Addr × Obj)} {σ : List (Option V)} {H H' : Hp} {s : Shared} {h' : Heap}
theorem Cx.Ok.nofr (ok : X.Ok) {b : Addr} {o : Obj} (e : X.base.get? b = some o) : b ∉ X.fs:=fun hb=>by
 have:=(ok.funs.mem hb).1
 rw [e] at this; cases this
theorem Inv.bs (I : Inv X pins σ H s) : ∀ b o,X.base.get? b = some o->s.heap.get? b = some o/\H b = none:=fun b o e =>
 ⟨I.base.keep b o (I.ok.bs b o e).1 (I.ok.bs b o e).2 (I.ok.nofr e) (I.ok.noex b o e),I.base.free b o (I.ok.bs b o e).1 (I.ok.bs b o e).2 (I.ok.noex b o e)⟩
theorem Inv.bk (I : Inv X pins σ H s) : ∀ b o,X.base.get? b = some o->s.heap.get? b = some o:=fun b o e=>(I.bs b o e).1
theorem Inv.mod (I : Inv X pins σ H s) : Mod X.K X.mg X.base:=I.ok.mod
theorem Inv.kIn (I : Inv X pins σ H s) : X.K.In s.heap:=I.ok.mod.kin.keeps I.bk
theorem Inv.fr (I : Inv X pins σ H s) : ∃ m,Fr X.base X.env.locals s.heap m :=
 let ⟨m,hn,_⟩:=I.loc
 ⟨m,hn,I.bk,Nat.le_trans I.ok.bsz I.ok.above⟩
theorem Inv.lt (I : Inv X pins σ H s) : X.env.locals < s.heap.objs.size:=let ⟨_,hn,_⟩:=I.loc; hn.lt
theorem Inv.sz (I : Inv X pins σ H s) : X.s₀.heap.objs.size <= s.heap.objs.size:=Nat.le_trans I.ok.above (Nat.le_of_lt I.lt)
theorem Inv.nofs (I : Inv X pins σ H s) {a : Addr} (h : s.heap.objs.size <= a) : a ∉ X.fs:=fun hb=>by
 obtain ⟨_,o,ho,_⟩:=I.ok.funs.mem hb
 exact absurd (Nat.lt_of_lt_of_le (Heap.lt_size ho) (Nat.le_trans I.sz h)) (Nat.lt_irrefl _)
theorem Inv.cne (I : Inv X pins σ H s) : ∀ x c,X.env.cells.lookup x = some c->c≠X.env.locals:=fun x c e z=>by
 obtain ⟨v,o,ho,hd⟩:=I.cell x c e
 obtain ⟨m,⟨o',es,ep,ho',hd',_⟩,_⟩:=I.loc
 rw [z,ho'] at ho; cases ho; rw [hd'] at hd; cases hd
theorem Inv.funs (I : Inv X pins σ H s) : s.heap.FunFrames X.base X.outer:=by
 have all : ∀ (l : List Env),(∀ b∈frs l,b∈X.fs)->X.s₀.heap.FunFrames X.base l->s.heap.FunFrames X.base l:=by
  intro l
  induction l with
  | nil=>intro _ _; trivial
  | cons env r ih =>
   intro hs hl
   obtain ⟨hk,⟨L,o,hf,hn,ho,hd⟩,hr⟩:=hl
   have hL : L∈X.fs:=hs L (by unfold frs; rw [List.filterMap_cons,hf]; exact List.mem_cons_self)
   obtain ⟨sl,e⟩:=I.base.slot L o ho (I.ok.frf L hL) hL fun z=>I.ok.exfs L z hL
   exact ⟨hk,⟨L,_,hf,hn,e,hd⟩,ih (fun b hb=>hs b (by unfold frs; rw [List.filterMap_cons,hf]; exact List.mem_cons_of_mem _ hb)) hr⟩
 exact all X.outer (fun _ hb=>hb) I.ok.funs
theorem Inv.stack (I : Inv X pins σ H s) : s.heap.FunFrames X.base X.stack:=by
 rcases I.ok.stk with e | ⟨e,hf⟩
 ·rw [e]; exact I.funs
 ·rw [e]
  obtain ⟨m,hn,_⟩:=I.loc
  refine .cons (by rw [I.ok.kind]; decide) hf hn ?_ I.funs
  exact Heap.get?_none_of_le (Nat.le_trans I.ok.bsz I.ok.above)
theorem Inv.stkSub (I : Inv X pins σ H s) : ∀ b∈frs X.stack,b∈X.env.locals::X.fs:=fun b hb=>by
 rcases I.ok.stk with e | ⟨e,hf⟩
 ·rw [e] at hb; exact List.mem_cons_of_mem _ hb
 ·rw [e] at hb
  unfold frs at hb
  rw [List.filterMap_cons,hf] at hb
  exact hb
theorem Inv.stkFree (I : Inv X pins σ H s) : ∀ b∈frs X.stack,H b = none:=fun b hb=>by
 rcases List.mem_cons.mp (I.stkSub b hb) with e | hb
 ·rw [e]; exact I.free
 ·obtain ⟨_,o,ho,_⟩:=I.ok.funs.mem hb
  exact I.base.free b o ho (I.ok.frf b hb) fun z=>I.ok.exfs b z hb
theorem Inv.step {g' : Array GenState} {t' : Nat} {d' : Drawn} {ch : List Addr} (I : Inv X pins σ H s)
  (hch : ∀ b∈ch,(b∈X.ex \/ X.s₀.heap.objs.size <= b)/\b≠X.env.locals/\(∀ x c,X.env.cells.lookup x = some c->c≠b) /\ ∀ p∈X.pn++pins,p.1≠b)
  (keep : ∀ b o,b≠X.env.locals->b ∉ X.fs->b ∉ ch->s.heap.get? b = some o->H b = none->h'.get? b = some o)
  (slot : ∀ b o,b≠X.env.locals->b∈X.fs->b ∉ ch->s.heap.get? b = some o->H b = none -> ∃ sl,h'.get? b = some { o with slots:=sl }) (free : ∀ b o,b ∉ ch->s.heap.get? b = some o->H b = none->H' b = none)
  (there : ∀ b o,b ∉ ch->s.heap.get? b = some o -> ∃ o',h'.get? b = some o')
  (tups : ∀ b xs,H b = some (.tup xs)->H' b = some (.tup xs)) (frzs : ∀ b o u,H b = some (.frz o u)->H' b = some (.frz o u)) (tbls : ∀ b ps,H b = some (.tbl ps) -> ∃ more,H' b = some (.tbl (ps++more)))
  (ns : ∀ m,s.heap.Ns X.env.locals m->h'.Ns X.env.locals m) (hok : HOk X.prog X.w H' h') (hg : AllBare g') :
  Inv X pins σ H' { s with heap:=h',gens:=g',drawn:=d',toks:=t' }:=by
 have neL : ∀ b o,X.s₀.heap.get? b = some o->b≠X.env.locals:=fun b o e=>Nat.ne_of_lt (Nat.lt_of_lt_of_le (Heap.lt_size e) I.ok.above)
 have neC : ∀ b o,X.s₀.heap.get? b = some o->b ∉ X.ex->b ∉ ch:=fun b o e hx hb=>by
  rcases (hch b hb).1 with z | z
  ·exact hx z
  ·exact absurd (Nat.lt_of_lt_of_le (Heap.lt_size e) z) (Nat.lt_irrefl _)
 have cellK : ∀ x c,X.env.cells.lookup x = some c -> ∀ v,s.heap.IsCell c v->h'.IsCell c v:=fun x c e v ⟨o,ho,hd⟩=>by
  have nch : c ∉ ch:=fun z=>(hch c z).2.2.1 x c e rfl
  by_cases hc : c∈X.fs
  ·obtain ⟨sl,q⟩:=slot c o (I.cne x c e) hc nch ho (I.freeC x c e)
   exact ⟨_,q,hd⟩
  ·exact ⟨o,keep c o (I.cne x c e) hc nch ho (I.freeC x c e),hd⟩
 refine ⟨I.ok,I.os,hg,⟨fun b o e n hb hx=>?_,fun b o e n hb hx=>?_,fun b o e n hx=>?_,fun b o e hx=>?_,fun b xs e=>tups b xs (I.base.tups b xs e),fun b o xs e=>frzs b o xs (I.base.frzs b o xs e),fun b ps e=>?_⟩,?_,fun x c e=>?_,?_,fun x c e=>?_,fun p hp=>?_,hok,I.len⟩
 ·exact keep b o (neL b o e) hb (neC b o e hx) (I.base.keep b o e n hb hx) (I.base.free b o e n hx)
 ·obtain ⟨sl,e1⟩:=I.base.slot b o e n hb hx
  obtain ⟨sl',e2⟩:=slot b _ (neL b o e) hb (neC b o e hx) e1 (I.base.free b o e n hx)
  exact ⟨sl',e2⟩
 ·obtain ⟨o',e1⟩:=I.base.there b o e hx
  exact free b o' (neC b o e hx) e1 (I.base.free b o e n hx)
 ·obtain ⟨o',e1⟩:=I.base.there b o e hx
  exact there b o' (neC b o e hx) e1
 ·obtain ⟨m1,e1⟩:=I.base.tbls b ps e
  obtain ⟨m2,e2⟩:=tbls b _ e1
  exact ⟨m1++m2,by rw [e2,Array.append_assoc]⟩
 ·obtain ⟨m,hn,hl⟩:=I.loc
  refine ⟨m,ns m hn,fun i x v e1 e2 e3=>?_⟩
  obtain ⟨u,r,l⟩:=hl i x v e1 e2 e3
  refine ⟨u,r,?_⟩
  rcases l with l | ⟨k,c,e,z⟩
  ·exact .inl l
  ·exact .inr ⟨k,c,e,cellK x c e _ z⟩
 ·obtain ⟨v,z⟩:=I.cell x c e
  exact ⟨v,cellK x c e v z⟩
 ·obtain ⟨m,⟨o,_,_,ho,_⟩,_⟩:=I.loc
  exact free _ o (fun z=>(hch _ z).2.1 rfl) ho I.free
 ·obtain ⟨v,o,ho,hd⟩:=I.cell x c e
  exact free c o (fun z=>(hch c z).2.2.1 x c e rfl) ho (I.freeC x c e)
 ·obtain ⟨e,n,ne,nf,d⟩:=I.pin p hp
  have nch : p.1 ∉ ch:=fun z=>(hch p.1 z).2.2.2 p hp rfl
  exact ⟨keep p.1 p.2 ne nf nch e n,free p.1 p.2 nch e n,ne,nf,d⟩
theorem Inv.un {t' : Nat} (I : Inv X pins σ H s) (u : Un X.fs [] H H' s.heap h') (hok : HOk X.prog X.w H' h') : Inv X pins σ H' { s with heap:=h',toks:=t' }:=by
 obtain ⟨m,⟨o,es,ep,ho,r⟩,_⟩:=id I.loc
 obtain ⟨sl,hL⟩:=u.any ho I.free (by simp)
 exact I.step (g':=s.gens) (d':=s.drawn) (ch:=[]) (fun _ z=>nomatch z) (fun b o _ hb _ e n=>u.keep b o e n hb (by simp)) (fun b o _ hb _ e n=>u.slot b o e n hb (by simp)) (fun b o _ e n=>u.free b o e n (by simp)) (fun b o _ e=>u.there b o e (by simp)) u.tups u.frzs u.tbls (fun m' hm=>by
  obtain ⟨o',es',ep',ho',r'⟩:=hm
  rw [ho] at ho'; cases ho'
  exact ⟨_,es',ep',hL,r'⟩) hok I.bare
theorem Inv.call {g' : Array GenState} {t' : Nat} {d' : Drawn} {ch : List Addr} (I : Inv X pins σ H s) (u : Un (frs X.stack) ch H H' s.heap h') (hok : HOk X.prog X.w H' h') (hg : AllBare g')
  (hch : ∀ b∈ch,(b∈X.ex \/ X.s₀.heap.objs.size <= b)/\b≠X.env.locals/\(∀ x c,X.env.cells.lookup x = some c->c≠b) /\ ∀ p∈X.pn++pins,p.1≠b) :
  Inv X pins σ H' { s with heap:=h',gens:=g',drawn:=d',toks:=t' }:=by
 obtain ⟨m,⟨o,es,ep,ho,r⟩,_⟩:=id I.loc
 obtain ⟨sl,hL⟩:=u.any ho I.free fun z=>(hch _ z).2.1 rfl
 exact I.step (ch:=ch) hch (fun b o hL hb hc e n=>u.keep b o e n (fun z=>(List.mem_cons.mp (I.stkSub b z)).elim hL hb) hc) (fun b o _ _ hc e n=>u.any e n hc) (fun b o hc e n=>u.free b o e n hc) (fun b o hc e=>u.there b o e hc) u.tups u.frzs u.tbls (fun m' hm=>by
  obtain ⟨o',es',ep',ho',r'⟩:=hm
  rw [ho] at ho'; cases ho'
  exact ⟨_,es',ep',hL,r'⟩) hok hg
theorem Inv.turned {t' : Nat} {it : Addr} (I : Inv X pins σ H s) (k : ∀ b o,b≠it->s.heap.get? b = some o->h'.get? b = some o) (hn : H it = none) (hL : it≠X.env.locals)
  (h1 : it∈X.ex \/ X.s₀.heap.objs.size <= it) (h2 : ∀ x c,X.env.cells.lookup x = some c->c≠it) (h3 : ∀ p∈X.pn++pins,p.1≠it) : Inv X pins σ H { s with heap:=h',toks:=t' }:=by
 have nit : ∀ b u,H b = some u->b≠it:=fun b u e z=>by rw [z,hn] at e; cases e
 refine I.step (g':=s.gens) (d':=s.drawn) (ch:=[it]) (fun b hb=>?_) (fun b o _ _ hc e _=>k b o (fun z=>hc (by simp [z])) e) (fun b o _ _ hc e _=>⟨o.slots,k b o (fun z=>hc (by simp [z])) e⟩) (fun _ _ _ _ n=>n)
  (fun b o hc e=>⟨o,k b o (fun z=>hc (by simp [z])) e⟩) (fun _ _ e=>e) (fun _ _ _ e=>e) (fun b ps e=>⟨#[],by rw [e]; simp⟩) (fun m hm=>?_) (fun b u e=>?_) I.bare
 ·have e : b = it:=by simpa using hb
  subst e
  exact ⟨h1,hL,h2,h3⟩
 ·obtain ⟨o,es,ep,ho,r⟩:=hm
  exact ⟨o,es,ep,k _ o (Ne.symm hL) ho,r⟩
 ·refine (I.hok b u e).stay (fun c v hc q=>k c v ?_ q) (fun _ q=>q) fun _ _ q=>q
  rcases hc with z | z
  ·rw [z]; exact nit b u e
  ·exact nit c _ z
theorem Inv.tok (I : Inv X pins σ H s) (t : Nat) : Inv X pins σ H { s with toks:=t }:=I.un (h':=s.heap) (t':=t) Un.refl I.hok
theorem Inv.kept {t' : Nat} (I : Inv X pins σ H s) (k : ∀ b u,s.heap.get? b = some u->h'.get? b = some u) : Inv X pins σ H { s with heap:=h',toks:=t' }:=I.un (Un.kept k) (I.hok.kept k)
theorem Inv.laid {a : Addr} {o : HO} {t' : Nat} (I : Inv X pins σ H s) (k : ∀ b u,s.heap.get? b = some u->h'.get? b = some u) (hp : s.heap.objs.size <= a) (new : zce X.prog X.w (upd H a o) h' a o) :
  Inv X pins σ (upd H a o) { s with heap:=h',toks:=t' }:=I.un (Un.laid k hp (I.hok.fresh hp)) (I.hok.laid k hp new)
theorem Inv.write {x e : Addr} {o : HO} {t' : Nat} (I : Inv X pins σ H s) (mu : Mut (H x)) (he : e = x \/ H e = some (.own x)) (k : ∀ b u,b≠e->s.heap.get? b = some u->h'.get? b = some u) (heo : ∃ u,h'.get? e = some u)
  (new : zce X.prog X.w (upd H x o) h' x o) : Inv X pins σ (upd H x o) { s with heap:=h',toks:=t' }:=I.un (Un.write mu he k heo) (I.hok.write mu he k heo new)
theorem Inv.weak {σ' : List (Option V)} (I : Inv X pins σ H s) (hl : σ'.length = σ.length) (w : ∀ (i : Nat) v,σ'[i]? = some (some v)->σ[i]? = some (some v)) : Inv X pins σ' H s :=
 ⟨I.ok,I.os,I.bare,I.base,let ⟨m,hn,hl'⟩:=I.loc; ⟨m,hn,fun i x v e1 e2 e3=>hl' i x v e1 (w i v e2) e3⟩,I.cell,I.free,I.freeC,I.pin,I.hok,hl.trans I.len⟩
theorem Inv.pins_of {pins' : List (Addr × Obj)} (I : Inv X pins σ H s) (h : ∀ p∈pins',s.heap.get? p.1 = some p.2/\H p.1 = none/\p.1≠X.env.locals/\p.1 ∉ X.fs /\ ∀ v,p.2.data ≠ .cell v) : Inv X pins' σ H s :=
 ⟨I.ok,I.os,I.bare,I.base,I.loc,I.cell,I.free,I.freeC,fun p hp=>(List.mem_append.mp hp).elim (fun z=>I.pin p (List.mem_append_left _ z)) (h p),I.hok,I.len⟩
theorem zjq {N : List Str} (hN : N.Nodup) {i j : Nat} {x : Str} (a : N[i]? = some x) (b : N[j]? = some x) : i = j:=by
 obtain ⟨h1,e1⟩:=List.getElem?_eq_some_iff.mp a
 obtain ⟨h2,e2⟩:=List.getElem?_eq_some_iff.mp b
 exact (List.getElem_inj hN).mp (e1.trans e2.symm)
theorem zle {M : Model} {A : Around} {E : Value->Shared->Prop} {i : Nat} {x : Str} {v : V} {u : Value} {Q : Unit->Shared->Prop} (I : Inv X pins σ H s) (hN : X.N.Nodup) (hi : X.N[i]? = some x) (hx : Loc X.env.scope x) (r : RelV v u)
  (h : ∀ s',Inv X pins (σ.set i (some v)) H s'->(∃ a,Heap.SameBut a s.heap s'.heap/\(a = X.env.locals \/ X.env.cells.lookup x = some a))->Q () s') (hf : X.fn x = true \/ X.env.scope.names.lookup x = some .local:=by first | exact .inl rfl | exact .inr rfl | assumption) : wpAny M A (storeName X.env x u) Q E s:=by
 obtain ⟨m,hn,hl⟩:=id I.loc
 have hcls : (X.env.scope.kind == .class || (X.env.scope.kind == .module && X.env.locals != X.env.globals)) = false:=by rw [I.ok.kind]; rfl
 have hiσ : i < σ.length:=by rw [I.len]; exact (List.getElem?_eq_some_iff.mp hi).1
 have cne:=I.cne
 have tracked : ∀ {a : Addr} {h' : Heap},(∃ o,s.heap.get? a = some o/\H a = none)->Heap.SameBut a s.heap h'->HOk X.prog X.w H h':=fun {a h'} ha hs b ob e=>by
  obtain ⟨_,_,hfree⟩:=ha
  refine (I.hok b ob e).stay (fun c w' hc q=>(hs.2 c ?_).trans q) (fun _ q=>q) fun _ _ q=>q
  rintro rfl
  rcases hc with rfl | hc
  ·rw [hfree] at e; cases e
  ·rw [hfree] at hc; cases hc
 rcases hx with hk | hk
 ·refine wpAny_storeName_local hk hn (fun h' hn' hs=>?_) hcls
  obtain ⟨oL,_,_,hoL,_⟩:=id hn
  refine h _ ⟨I.ok,I.os,I.bare,⟨fun b o e n hb hx=>?_,fun b o e n hb hx=>?_,I.base.free,fun b o e hx=>?_,I.base.tups,I.base.frzs,I.base.tbls⟩,⟨_,hn',fun j y v' e1 e2 e3=>?_⟩,fun y c e=>?_,I.free,I.freeC,fun p hp=>?_,tracked ⟨oL,hoL,I.free⟩ hs,by simpa using I.len⟩ ⟨_,hs,.inl rfl⟩
  ·exact (hs.2 b (Nat.ne_of_lt (Nat.lt_of_lt_of_le (Heap.lt_size e) I.ok.above))).trans (I.base.keep b o e n hb hx)
  ·obtain ⟨sl,e1⟩:=I.base.slot b o e n hb hx
   exact ⟨sl,(hs.2 b (Nat.ne_of_lt (Nat.lt_of_lt_of_le (Heap.lt_size e) I.ok.above))).trans e1⟩
  ·obtain ⟨o',e1⟩:=I.base.there b o e hx
   exact ⟨o',(hs.2 b (Nat.ne_of_lt (Nat.lt_of_lt_of_le (Heap.lt_size e) I.ok.above))).trans e1⟩
  ·by_cases hj : j = i
   ·subst hj
    rw [hi] at e1; cases e1
    rw [List.getElem?_set_self hiσ] at e2
    cases e2
    exact ⟨u,r,.inl ⟨hk,by simp⟩⟩
   ·rw [List.getElem?_set_ne (Ne.symm hj)] at e2
    obtain ⟨u',r',q⟩:=hl j y v' e1 e2 e3
    refine ⟨u',r',?_⟩
    rcases q with ⟨k,e⟩ | ⟨k,c,e,z⟩
    ·refine .inl ⟨k,?_⟩
     have : y≠x:=fun e=>hj (zjq hN e1 (e ▸ hi))
     simp [this,e]
    ·exact .inr ⟨k,c,e,z.sameBut hs (cne y c e)⟩
  ·obtain ⟨w',z⟩:=I.cell y c e
   exact ⟨w',z.sameBut hs (cne y c e)⟩
  ·obtain ⟨e,n,ne,nf,d⟩:=I.pin p hp
   exact ⟨(hs.2 p.1 ne).trans e,n,ne,nf,d⟩
 ·have hfn : X.fn x = true:=by
   rcases hf with z | z
   ·exact z
   ·rw [z] at hk; cases hk
  obtain ⟨c,hc⟩:=I.ok.has x (.inl hk)
  obtain ⟨w',z⟩:=I.cell x c hc
  refine wpAny_storeName_cell I.ok.kind hk hc z (fun h' hc' hs=>?_)
  obtain ⟨oc,hoc,hocd⟩:=id z
  refine h { s with heap:=h' } ⟨I.ok,I.os,I.bare,⟨fun b o e n hb hx=>?_,fun b o e n hb hx=>?_,I.base.free,fun b o e hx=>?_,I.base.tups,I.base.frzs,I.base.tbls⟩,⟨m,hn.sameBut hs (Ne.symm (cne x c hc)),fun j y v' e1 e2 e3=>?_⟩,fun y c' e=>?_,I.free,I.freeC,fun p hp=>?_,tracked ⟨oc,hoc,I.freeC x c hc⟩ hs,by simpa using I.len⟩ ⟨c,hs,.inr hc⟩
  ·exact (hs.2 b (Nat.ne_of_lt (Nat.lt_of_lt_of_le (Heap.lt_size e) (I.ok.cab x c hfn hc)))).trans (I.base.keep b o e n hb hx)
  ·obtain ⟨sl,e1⟩:=I.base.slot b o e n hb hx
   exact ⟨sl,(hs.2 b (Nat.ne_of_lt (Nat.lt_of_lt_of_le (Heap.lt_size e) (I.ok.cab x c hfn hc)))).trans e1⟩
  ·obtain ⟨o',e1⟩:=I.base.there b o e hx
   exact ⟨o',(hs.2 b (Nat.ne_of_lt (Nat.lt_of_lt_of_le (Heap.lt_size e) (I.ok.cab x c hfn hc)))).trans e1⟩
  ·by_cases hj : j = i
   ·subst hj
    rw [hi] at e1; cases e1
    rw [List.getElem?_set_self hiσ] at e2
    cases e2
    exact ⟨u,r,.inr ⟨.inl hk,c,hc,hc'⟩⟩
   ·rw [List.getElem?_set_ne (Ne.symm hj)] at e2
    obtain ⟨u',r',q⟩:=hl j y v' e1 e2 e3
    refine ⟨u',r',?_⟩
    rcases q with q | ⟨k,c',e,z'⟩
    ·exact .inl q
    ·refine .inr ⟨k,c',e,z'.sameBut hs ?_⟩
     rintro rfl
     exact hj (zjq hN e1 (I.ok.inj _ _ _ e hc ▸ hi))
  ·by_cases hcc : c' = c
   ·subst hcc; exact ⟨_,hc'⟩
   ·obtain ⟨w2,z2⟩:=I.cell y c' e
    exact ⟨w2,z2.sameBut hs hcc⟩
  ·obtain ⟨e,n,ne,nf,d⟩:=I.pin p hp
   refine ⟨(hs.2 p.1 ?_).trans e,n,ne,nf,d⟩
   intro q
   rw [q,hoc] at e
   have q' : oc = p.2:=Option.some.inj e
   exact d w' (by rw [<- q']; exact hocd)
theorem zg0 {M : Model} {A : Around} {E : Value->Shared->Prop} {i : Nat} {x : Str} {v : V} {u : Value} {Q : Unit->Shared->Prop} (I : Inv X pins σ H s) (hN : X.N.Nodup) (hi : X.N[i]? = some x) (hx : Loc X.env.scope x) (r : RelV v u)
  (h : ∀ s',Inv X pins (σ.set i (some v)) H s'->Q () s') (hf : X.fn x = true \/ X.env.scope.names.lookup x = some .local:=by first | exact .inl rfl | exact .inr rfl | assumption) : wpAny M A (storeName X.env x u) Q E s :=
 zle I hN hi hx r (fun s' I' _=>h s' I') hf
theorem Inv.call' {s' : Shared} {ch : List Addr} (I : Inv X pins σ H s) (ho : s'.os = s.os) (u : Un (frs X.stack) ch H H' s.heap s'.heap) (hok : HOk X.prog X.w H' s'.heap) (hg : AllBare s'.gens)
  (hch : ∀ b∈ch,(b∈X.ex \/ X.s₀.heap.objs.size <= b)/\b≠X.env.locals/\(∀ x c,X.env.cells.lookup x = some c->c≠b) /\ ∀ p∈X.pn++pins,p.1≠b) : Inv X pins σ H' s':=by
 obtain ⟨h',g',d',t',o'⟩:=s'
 have e : o' = s.os:=ho
 subst e
 exact I.call (g':=g') (t':=t') (d':=d') u hok hg hch
end
noncomputable abbrev XK:=Value->Option Addr->Hp->Prop
noncomputable abbrev St:=List (Option V)
noncomputable abbrev VK:=V->Hp->Prop
noncomputable abbrev TE:=St->Hp->VK->Prop
noncomputable abbrev TT:=St->Hp->(Bool->Hp->Prop)->Prop
noncomputable abbrev TA:=St->Hp->(List V->Hp->Prop)->Prop
structure Ends where
 nx : St->Hp->Prop
 rt : VK
 bk : St->Hp->Prop:=fun _ _=>False
 ct : St->Hp->Prop:=fun _ _=>False
noncomputable abbrev TS:=Ends->St->Hp->Prop
noncomputable def EP (X : Cx) (pins : List (Addr × Obj)) (σ : St) (Q : VK) (u : Value) (s' : Shared) : Prop:=∃ v H',Inv X pins σ H' s'/\RelV v u/\Q v H'
noncomputable def TP (X : Cx) (pins : List (Addr × Obj)) (σ : St) (Q : Bool->Hp->Prop) (b : Bool) (s' : Shared) : Prop:=∃ H',Inv X pins σ H' s'/\Q b H'
noncomputable def AP (X : Cx) (pins : List (Addr × Obj)) (σ : St) (Q : List V->Hp->Prop) (us : List Value) (s' : Shared) : Prop:=∃ vs H',Inv X pins σ H' s'/\Vals vs us/\Q vs H'
noncomputable def SP (X : Cx) (pins : List (Addr × Obj)) (D : Ends) (f : Flow) (s' : Shared) : Prop :=
 match f with
 | .next=>∃ σ' H',Inv X pins σ' H' s'/\D.nx σ' H'
 | .brk=>∃ σ' H',Inv X pins σ' H' s'/\D.bk σ' H'
 | .cont=>∃ σ' H',Inv X pins σ' H' s'/\D.ct σ' H'
 | .ret u=>∃ v σ' H',Inv X pins σ' H' s'/\RelV v u/\D.rt v H'
noncomputable def PE (X : Cx) (e : Expr) (t : TE) : Prop :=
 ∀ (pins : List (Addr × Obj)) (s : Shared) (σ : St) (H : Hp) (Q : VK),Inv X pins σ H s->t σ H Q->wpAny (model X.prog X.w) X.A (eval e X.env) (EP X pins σ Q) X.xe s
noncomputable def PT (X : Cx) (e : Expr) (t : TT) : Prop :=
 ∀ (pins : List (Addr × Obj)) (s : Shared) (σ : St) (H : Hp) (Q : Bool->Hp->Prop),Inv X pins σ H s->t σ H Q->wpAny (model X.prog X.w) X.A (isTrue e X.env (eval e X.env)) (TP X pins σ Q) X.xe s
noncomputable def PW (X : Cx) (e : Expr) (t : TT) : Prop :=
 ∀ (whole : Sem Value) (pins : List (Addr × Obj)) (s : Shared) (σ : St) (H : Hp) (Q : Bool->Hp->Prop),Inv X pins σ H s->t σ H Q->wpAny (model X.prog X.w) X.A (isTrue e X.env whole) (TP X pins σ Q) X.xe s
theorem PW.pt {X : Cx} {e : Expr} {t : TT} (h : PW X e t) : PT X e t:=h _
noncomputable def PA (X : Cx) (es : List Expr) (t : TA) : Prop :=
 ∀ (pos : Pos) (pins : List (Addr × Obj)) (s : Shared) (σ : St) (H : Hp) (Q : List V->Hp->Prop),Inv X pins σ H s->t σ H Q->wpAny (model X.prog X.w) X.A (spliced (backTo pos (starEach es X.env))) (AP X pins σ Q) X.xe s
noncomputable def PS (X : Cx) (st : Stmt) (t : TS) : Prop :=
 ∀ (pins : List (Addr × Obj)) (s : Shared) (σ : St) (H : Hp) (D : Ends),Inv X pins σ H s->t D σ H->wpAny (model X.prog X.w) X.A (exec st X.env) (SP X pins D) X.xe s
noncomputable def PSs (X : Cx) (st : List Stmt) (t : TS) : Prop :=
 ∀ (pins : List (Addr × Obj)) (s : Shared) (σ : St) (H : Hp) (D : Ends),Inv X pins σ H s->t D σ H->wpAny (model X.prog X.w) X.A (execs st X.env) (SP X pins D) X.xe s
theorem thn {α : Type} {t : Sem α} {Q Q' : α->Shared->Prop} {M : Model} {A : Around} {E : Value->Shared->Prop} {s : Shared} (h : wpAny M A t Q E s) (hQ : ∀ a s,Q a s->Q' a s) : wpAny M A t Q' E s:=wpAny_mono h hQ fun _ _ x=>x
end L2
namespace L2
open PySem PySem.Spec PyProof.Rows
section
variable {X : Cx}
noncomputable def tVar (i : Nat) : TE:=fun σ H Q=>∃ v,σ[i]? = some (some v)/\Q v H
noncomputable def tC (v : V) : TE:=fun _ H Q=>Q v H
theorem ya3 {i : Nat} {x : Str} {pos : Pos} (hN : X.N[i]? = some x) (hv : Vis X.env.scope x) (hd : (x == ("__debug__" : Str)) = false:=by decide) (hcd : (x == ("__classdict__" : Str)) = false:=by decide) : PE X (.Name x pos) (tVar i):=by
 intro pins s σ H Q I h
 obtain ⟨v,e,h⟩:=h
 obtain ⟨m,hn,hl⟩:=I.loc
 obtain ⟨u,r,l⟩:=hl i x v hN e hv
 have fin : EP X pins σ Q u s:=⟨v,H,I,r,h⟩
 rcases l with ⟨hk,hm⟩ | ⟨hk,c,hc,hcell⟩
 ·exact wpAny_Name (wpAny_loadName_local I.ok.kind hk hn hm fin) hd
 ·rcases hk with hk | hk
  ·exact wpAny_Name (wpAny_loadName_cell I.ok.kind hk hc hcell fin) hd
  ·exact wpAny_Name (wpAny_loadName_free I.ok.kind hk hc hcell fin hcd) hd
theorem zaq {i j pos} : PE X (.Constant (.int i) j pos) (tC (.int i)):=fun _ _ _ H _ I h=>wpAny_Constant_int ⟨.int i,H,I.tok _,⟨_,rfl⟩,h⟩
theorem zva {b j pos} : PE X (.Constant (.bool b) j pos) (tC (.bl b)):=fun _ _ _ H _ I h=>Constant_bool ⟨.bl b,H,I,rfl,h⟩
theorem pe_non {j pos} : PE X (.Constant .none j pos) (tC .non):=fun _ _ _ H _ I h=>Constant_none ⟨.non,H,I,rfl,h⟩
theorem zcz {x j pos} : PE X (.Constant (.str x) j pos) (tC (.str x)):=fun _ _ _ H _ I h=>Calls.Constant_str ⟨.str x,H,I.tok _,⟨_,rfl⟩,h⟩
noncomputable def Gl (X : Cx) (x : Str) : Prop:=X.env.kindOf x = some .globalImplicit
theorem zhh {E : Value->Shared->Prop} {pins : List (Addr × Obj)} {s : Shared} {σ : St} {H : Hp} {x : Str} {u : Value} {pos : Pos} {Q : Value->Shared->Prop} (I : Inv X pins σ H s) (hg : Gl X x) (hm : X.mg x = some u) (h : Q u s)
  (hd : (x == ("__debug__" : Str)) = false:=by decide) : wpAny (model X.prog X.w) X.A (eval (.Name x pos) X.env) Q E s :=
 Calls.Name_function_global I.ok.kind hg (Calls.loadGlobal_global (by rw [I.ok.glob]; exact I.mod.glob.keeps I.bk) hm h) hd
theorem zhr {E : Value->Shared->Prop} {pins : List (Addr × Obj)} {s : Shared} {σ : St} {H : Hp} {x : Str} {u : Value} {pos : Pos} {Q : Value->Shared->Prop} (I : Inv X pins σ H s) (hg : Gl X x) (hm : X.mg x = none) (hv : bootBuiltins x = some u) (h : Q u s)
  (hn : x ≠ "__name__" := by decide) (hd : (x == ("__debug__" : Str)) = false:=by decide) : wpAny (model X.prog X.w) X.A (eval (.Name x pos) X.env) Q E s:=by
 obtain ⟨mb,h1,h2⟩:=I.mod.blt
 exact Calls.Name_function_global I.ok.kind hg (Calls.loadGlobal_builtin (by rw [I.ok.glob]; exact I.mod.glob.keeps I.bk) hm (by rw [I.ok.blt]; exact h1.keeps I.bk) ((h2 x hn).trans hv) h) hd
theorem zeq {x : Str} {v : V} {u : Value} {pos : Pos} (hg : Gl X x) (hm : X.mg x = some u) (r : RelV v u) (hd : (x == ("__debug__" : Str)) = false:=by decide) : PE X (.Name x pos) (tC v) :=
 fun _ _ _ H _ I h=>zhh I hg hm ⟨v,H,I,r,h⟩ hd
theorem zqa {x : Str} {v : V} {u : Value} {pos : Pos} (hg : Gl X x) (hm : X.mg x = none) (hv : bootBuiltins x = some u) (r : RelV v u) (hn : x ≠ "__name__" := by decide) (hd : (x == ("__debug__" : Str)) = false:=by decide) : PE X (.Name x pos) (tC v) :=
 fun _ _ _ H _ I h=>zhr I hg hm hv ⟨v,H,I,r,h⟩ hn hd
variable {a b : Expr} {ta tb : TE} {pos : Pos}
noncomputable def PC (X : Cx) (op : CmpOp) (a b : Expr) (t : TE) : Prop :=
 ∀ (pins : List (Addr × Obj)) (s : Shared) (σ : St) (H : Hp) (Q : VK),Inv X pins σ H s->t σ H Q ->
  wpAny (model X.prog X.w) X.A (eval a X.env) (fun v s₁=>wpAny (model X.prog X.w) X.A (eval b X.env) (fun u s₂=>wpAny (model X.prog X.w) X.A (compareOp op v u) (EP X pins σ Q) X.xe s₂) X.xe s₁) X.xe s
noncomputable def tB (t : TE) : TT:=fun σ H Q=>t σ H fun x H1=>∃ c,x = .bl c/\Q c H1
theorem zwo {op : CmpOp} {t : TE} (h : PC X op a b t) (h1 : behindInMarks op b = false:=by first | exact nobehind _ (by decide) (by decide) | rfl) : PT X (.Compare a [op] [b] pos) (tB t):=by
 intro pins s σ H Q I hw
 refine wpAny_isTrue_Compare1 (thn (h pins s σ H _ I hw) fun v s1 h1=>thn h1 fun u s2 h2=>thn h2 fun c s3 hz9=>?_) h1
 obtain ⟨x,H1,I1,r1,q1⟩:=hz9
 obtain ⟨d,rfl,q⟩:=q1
 cases r1
 exact wpAny_truthy_bool ⟨H1,I1,q⟩
theorem zgm {e : Expr} {t : TE} (h : PE X e t) (he : ∀ whole,isTrue e X.env whole = (do let v <- whole; standAt e.pos; holding [v] (truthy v)):=by intro _; rfl) : PT X e (tB t):=by
 intro pins s σ H Q I hw
 refine isTrue_plain (thn (h pins s σ H _ I hw) fun v s1 hz9=>?_) (he _)
 obtain ⟨x,H1,I1,r1,q1⟩:=hz9
 obtain ⟨d,rfl,q⟩:=q1
 cases r1
 exact wpAny_truthy_bool ⟨H1,I1,q⟩
variable {tA tB' : TT} {rest : List Expr}
noncomputable def tAnd (t u : TT) : TT:=fun σ H Q=>t σ H fun c H1=>if c = true then u σ H1 Q else Q false H1
noncomputable def tOr (t u : TT) : TT:=fun σ H Q=>t σ H fun c H1=>if c = true then Q true H1 else u σ H1 Q
noncomputable def tNot (t : TT) : TT:=fun σ H Q=>t σ H fun c H1=>Q (!c) H1
theorem zl8 (ha : PT X a tA) : PW X (.BoolOp .And [a] pos) tA:=by
 intro wh pins s σ H Q I h
 refine isTrue_and (thn (ha pins s σ H Q I h) fun c s1 e=>?_)
 cases c with
 | true=>exact isTrue_and_nil e
 | false=>exact e
theorem zom (ha : PT X a tA) : PW X (.BoolOp .Or [a] pos) tA:=by
 intro wh pins s σ H Q I h
 refine isTrue_or (thn (ha pins s σ H Q I h) fun c s1 e=>?_)
 cases c with
 | false=>exact isTrue_or_nil e
 | true=>exact e
theorem zro (ha : PT X a tA) (hb : PW X (.BoolOp .And (b::rest) pos) tB') : PW X (.BoolOp .And (a::b::rest) pos) (tAnd tA tB'):=by
 intro wh pins s σ H Q I h
 refine isTrue_and (thn (ha pins s σ H _ I h) fun c s1 hz9=>?_)
 obtain ⟨H1,I1,q1⟩:=hz9
 cases c with
 | true=>exact hb wh pins s1 σ H1 Q I1 q1
 | false=>exact ⟨H1,I1,q1⟩
theorem zu5 (ha : PT X a tA) (hb : PW X (.BoolOp .Or (b::rest) pos) tB') : PW X (.BoolOp .Or (a::b::rest) pos) (tOr tA tB'):=by
 intro wh pins s σ H Q I h
 refine isTrue_or (thn (ha pins s σ H _ I h) fun c s1 hz9=>?_)
 obtain ⟨H1,I1,q1⟩:=hz9
 cases c with
 | true=>exact ⟨H1,I1,q1⟩
 | false=>exact hb wh pins s1 σ H1 Q I1 q1
theorem zlf (ha : PT X a tA) : PT X (.UnaryOp .Not a pos) (tNot tA):=by
 intro pins s σ H Q I h
 exact isTrue_not (ha pins s σ H (fun c H1=>Q (!c) H1) I h)
noncomputable def zz9 (ta tb : TE) : TE:=fun σ H Q=>ta σ H fun x H1=>∃ c,x = .bl c/\if c = true then tb σ H1 Q else Q (.bl false) H1
noncomputable def tOrV (ta tb : TE) : TE:=fun σ H Q=>ta σ H fun x H1=>∃ c,x = .bl c/\if c = true then Q (.bl true) H1 else tb σ H1 Q
theorem zqo {op} {t : TE} (h : PE X a t) : PE X (.BoolOp op [a] pos) t:=fun pins s σ H Q I hw=>BoolOp_one (h pins s σ H Q I hw)
theorem zwf (ha : PE X a ta) (hb : PE X (.BoolOp .And (b::rest) pos) tb) : PE X (.BoolOp .And (a::b::rest) pos) (zz9 ta tb):=by
 intro pins s σ H Q I h
 refine BoolOp_and (thn (ha pins s σ H _ I h) fun v s1 hz9=>?_)
 obtain ⟨x,H1,I1,r1,q1⟩:=hz9
 obtain ⟨c,rfl,q1⟩:=q1
 cases r1
 refine wpAny_truthy_bool ?_
 cases c with
 | true=>exact hb pins s1 σ H1 Q I1 q1
 | false=>exact ⟨.bl false,H1,I1,rfl,q1⟩
theorem ya9 (ha : PE X a ta) (hb : PE X (.BoolOp .Or (b::rest) pos) tb) : PE X (.BoolOp .Or (a::b::rest) pos) (tOrV ta tb):=by
 intro pins s σ H Q I h
 refine BoolOp_or (thn (ha pins s σ H _ I h) fun v s1 hz9=>?_)
 obtain ⟨x,H1,I1,r1,q1⟩:=hz9
 obtain ⟨c,rfl,q1⟩:=q1
 cases r1
 refine wpAny_truthy_bool ?_
 cases c with
 | false=>exact hb pins s1 σ H1 Q I1 q1
 | true=>exact ⟨.bl true,H1,I1,rfl,q1⟩
end
end L2
namespace L2
open PySem PySem.Spec PyProof.Rows
noncomputable def SqL (K : PySem.W.Frag) (H : Hp) (a : Addr) (xs : List V) : Prop :=
 Rd H a (.lst xs) \/
  ∃ (o : Obj) (its : Array Value) (n : Nat),K.lookup a = some o/\o.cls = .type "list" /\ o.dict = none/\o.data = .seq its n/\its.size <= sizeLine/\Vals xs its.toList
noncomputable def SqT (K : PySem.W.Frag) (H : Hp) (a : Addr) (xs : List V) : Prop :=
 Rd H a (.tup xs) \/
  ∃ (o : Obj) (its : Array Value) (n : Nat),K.lookup a = some o/\o.cls = .type "tuple" /\ o.data = .seq its n/\its.size <= sizeLine/\Vals xs its.toList
noncomputable def absV : Value->Option V
 | .none=>some .non
 | .bool b=>some (.bl b)
 | .int i _=>some (.int i)
 | .str x _=>some (.str x)
 | .bytes b _=>some (.byt b)
 | .float b _=>some (.flt b)
 | .ref a=>some (.ref a)
 | .type n=>some (.ty n)
 | _=>none
theorem RelV.abs {x : V} {u : Value} (r : RelV x u) : absV u = some x:=by
 cases x with
 | non=>cases r; rfl
 | bl _=>cases r; rfl
 | int _=>obtain ⟨t,rfl⟩:=r; rfl
 | str _=>obtain ⟨t,rfl⟩:=r; rfl
 | byt _=>obtain ⟨t,rfl⟩:=r; rfl
 | flt _=>obtain ⟨t,rfl⟩:=r; rfl
 | ref _=>cases r; rfl
 | ty _=>cases r; rfl
theorem RelV.inj {x y : V} {u : Value} (r : RelV x u) (q : RelV y u) : x = y:=Option.some.inj (r.abs.symm.trans q.abs)
theorem Vals.inj : ∀ {xs ys : List V} {us : List Value},Vals xs us->Vals ys us->xs = ys
 | _,_,_,.nil,.nil=>rfl
 | _,_,_,.cons r t,.cons r' t'=>by rw [r.inj r',Vals.inj t t']
section
variable {X : Cx} {pins : List (Addr × Obj)} {σ : St} {H : Hp} {s : Shared} {a : Addr} {xs ys : List V}
theorem SqL.of {K : PySem.W.Frag} (h : H a = some (.lst xs)) : SqL K H a xs:=.inl (.inl h)
theorem SqT.of {K : PySem.W.Frag} (h : H a = some (.tup xs)) : SqT K H a xs:=.inl (.inl h)
theorem Inv.list (I : Inv X pins σ H s) (h : SqL X.K H a xs) : ∃ its : List Value,Vals xs its/\PlainL s.heap a its.toArray/\xs.length <= sizeLine:=by
 rcases h with h | ⟨o,its,n,hk,hc,hd,hs,hz,r⟩
 ·obtain ⟨z,its,n,r,e⟩:=h.ok I.hok
  exact ⟨its,r,⟨_,n,e,rfl,rfl,rfl⟩,z⟩
 ·refine ⟨its.toList,r,⟨o,n,I.kIn a o hk,hc,hd,by simpa using hs⟩,?_⟩
  have e:=r.length
  simp only [Array.length_toList] at e
  lia
theorem Inv.tuple (I : Inv X pins σ H s) (h : SqT X.K H a xs) : ∃ its : List Value,Vals xs its/\IsTup s.heap a its.toArray/\xs.length <= sizeLine:=by
 rcases h with h | ⟨o,its,n,hk,hc,hs,hz,r⟩
 ·obtain ⟨z,its,r,p⟩:=h.ok I.hok
  exact ⟨its,r,p,z⟩
 ·refine ⟨its.toList,r,⟨o,I.kIn a o hk,hc,n,by simpa using hs⟩,?_⟩
  have e:=r.length
  simp only [Array.length_toList] at e
  lia
theorem Inv.list_inj (I : Inv X pins σ H s) (h : SqL X.K H a xs) (h' : SqL X.K H a ys) : xs = ys:=by
 obtain ⟨its,r,⟨o,n,e,_,_,d⟩,_⟩:=I.list h
 obtain ⟨its',r',⟨o',n',e',_,_,d'⟩,_⟩:=I.list h'
 rw [e] at e'; cases e'
 rw [d] at d'
 injection d' with d1 _
 have : its = its':=by simpa using congrArg Array.toList d1
 subst this
 exact r.inj r'
end
noncomputable abbrev Cx.wish (X : Cx) (E : Value->Shared->Prop) : Cx:={ X with xe:=E }
noncomputable abbrev Cx.nox (X : Cx) : Cx:=X.wish fun _ _=>False
theorem Cx.Ok.wish {X : Cx} (ok : X.Ok) (E : Value->Shared->Prop) : (X.wish E).Ok :=
 ⟨ok.mod,ok.kind,ok.glob,ok.blt,ok.above,ok.inj,ok.has,ok.cab,ok.hd,ok.frames,ok.stk,ok.exf,ok.bs,ok.bsz,ok.noex,ok.exfs,ok.funs,ok.frf⟩
theorem Cx.Ok.unwish {X : Cx} {E : Value->Shared->Prop} (ok : (X.wish E).Ok) : X.Ok :=
 ⟨ok.mod,ok.kind,ok.glob,ok.blt,ok.above,ok.inj,ok.has,ok.cab,ok.hd,ok.frames,ok.stk,ok.exf,ok.bs,ok.bsz,ok.noex,ok.exfs,ok.funs,ok.frf⟩
section
variable {X : Cx} {pins : List (Addr × Obj)} {σ : St} {H : Hp} {s : Shared} {E : Value->Shared->Prop}
theorem Inv.wish (I : Inv X pins σ H s) (E : Value->Shared->Prop) : Inv (X.wish E) pins σ H s:=⟨I.ok.wish E,I.os,I.bare,I.base,I.loc,I.cell,I.free,I.freeC,I.pin,I.hok,I.len⟩
theorem Inv.unwish (I : Inv (X.wish E) pins σ H s) : Inv X pins σ H s:=⟨I.ok.unwish,I.os,I.bare,I.base,I.loc,I.cell,I.free,I.freeC,I.pin,I.hok,I.len⟩
theorem SP.unwish {D : Ends} {f : Flow} {s' : Shared} (h : SP (X.wish E) pins D f s') : SP X pins D f s':=by
 cases f with
 | next=>obtain ⟨σ',H',I,q⟩:=h; exact ⟨σ',H',I.unwish,q⟩
 | brk=>obtain ⟨σ',H',I,q⟩:=h; exact ⟨σ',H',I.unwish,q⟩
 | cont=>obtain ⟨σ',H',I,q⟩:=h; exact ⟨σ',H',I.unwish,q⟩
 | ret u=>obtain ⟨v,σ',H',I,r,q⟩:=h; exact ⟨v,σ',H',I.unwish,r,q⟩
theorem PE.nox {e : Expr} {t : TE} (h : PE X.nox e t) : PE X e t:=fun pins s σ H Q I hw =>
 wpAny_mono (h pins s σ H Q (I.wish _) hw) (fun _ _ ⟨v,H',I',r,q⟩=>⟨v,H',I'.unwish,r,q⟩) fun _ _ z=>False.elim z
theorem PT.nox {e : Expr} {t : TT} (h : PT X.nox e t) : PT X e t:=fun pins s σ H Q I hw =>
 wpAny_mono (h pins s σ H Q (I.wish _) hw) (fun _ _ ⟨H',I',q⟩=>⟨H',I'.unwish,q⟩) fun _ _ z=>False.elim z
theorem PSs.nox {st : List Stmt} {t : TS} (h : PSs X.nox st t) : PSs X st t:=fun pins s σ H D I hw =>
 wpAny_mono (h pins s σ H D (I.wish _) hw) (fun _ _ q=>q.unwish) fun _ _ z=>False.elim z
end
section
variable {X : Cx} {st : Stmt} {rest : List Stmt} {t u : TS} {e : Expr} {te : TE} {pos : Pos}
noncomputable def yao : TS:=fun D σ H=>D.nx σ H
noncomputable def tSeq (t u : TS) : TS:=fun D σ H=>t { D with nx:=u D } σ H
theorem zbk : PSs X [] yao:=fun _ _ σ H _ I h=>wpAny_execs_nil ⟨σ,H,I,h⟩
theorem zad (h1 : PS X st t) (h2 : PSs X rest u) : PSs X (st::rest) (tSeq t u):=by
 intro pins s σ H D I h
 refine wpAny_execs_cons (thn (h1 pins s σ H { D with nx:=u D } I h) fun f s1 q=>?_)
 cases f with
 | next =>
  obtain ⟨σ',H',I',q⟩:=q
  exact h2 pins s1 σ' H' D I' q
 | ret v=>exact q
 | brk=>exact q
 | cont=>exact q
theorem zag (h1 : PS X st t) : PSs X [st] t:=by
 intro pins s σ H D I h
 refine wpAny_execs_cons (thn (h1 pins s σ H D I h) fun f s1 q=>?_)
 cases f with
 | next=>exact wpAny_execs_nil q
 | ret v=>exact q
 | brk=>exact q
 | cont=>exact q
theorem Inv.quiet {pins : List (Addr × Obj)} {σ : St} {H : Hp} {s : Shared} (I : Inv X pins σ H s) : interactive X.env = false:=by simp [interactive,I.ok.kind]
noncomputable def zvb (te : TE) : TS:=fun D σ H=>te σ H fun _ H1=>D.nx σ H1
theorem zd2 (he : PE X e te) (hs : swapsWith e none pos.line X.env = pure false:=by rfl) : PS X (.Expr e pos) (zvb te):=by
 intro pins s σ H D I h
 exact wpAny_Expr_any (thn (he pins s σ H _ I h) fun v s1 ⟨x,H1,I1,r1,q1⟩=>⟨σ,H1,I1,q1⟩) I.quiet hs
noncomputable def tRet (te : TE) : TS:=fun D σ H=>te σ H D.rt
theorem zbg (he : PE X e te) : PS X (.Return (some e) pos) (tRet te):=by
 intro pins s σ H D I h
 exact wpAny_Return_some (thn (he pins s σ H _ I h) fun v s1 ⟨x,H1,I1,r1,q1⟩=>⟨x,σ,H1,I1,r1,q1⟩)
noncomputable def tIfS (c : TT) (t u : TS) : TS:=fun D σ H=>c σ H fun b H1=>if b = true then t D σ H1 else u D σ H1
theorem zdn {c : Expr} {a b : List Stmt} {tc : TT} (hc : PT X c tc) (ha : PSs X a t) (hb : PSs X b u) : PS X (.If c a b pos) (tIfS tc t u):=by
 intro pins s σ H D I h
 refine wpAny_If (thn (hc pins s σ H _ I h) fun d s1 hz9=>?_)
 obtain ⟨H1,I1,q1⟩:=hz9
 cases d with
 | true=>exact ha pins s1 σ H1 D I1 q1
 | false=>exact hb pins s1 σ H1 D I1 q1
end
noncomputable abbrev TG:=V->St->Hp->(St->Hp->Prop)->Prop
noncomputable abbrev TGs:=List V->St->Hp->(St->Hp->Prop)->Prop
noncomputable def PG (X : Cx) (target : Expr) (t : TG) : Prop :=
 ∀ (pins : List (Addr × Obj)) (s : Shared) (σ : St) (H : Hp) (v : V) (u : Value) (Q : St->Hp->Prop),Inv X pins σ H s->RelV v u->t v σ H Q ->
  wpAny (model X.prog X.w) X.A (assign target X.env u) (fun _ s'=>∃ σ' H',Inv X pins σ' H' s'/\Q σ' H') X.xe s
noncomputable def PGs (X : Cx) (ts : List Expr) (t : TGs) : Prop :=
 ∀ (pins : List (Addr × Obj)) (s : Shared) (σ : St) (H : Hp) (vs : List V) (us : List Value) (Q : St->Hp->Prop),Inv X pins σ H s->Vals vs us->t vs σ H Q ->
  wpAny (model X.prog X.w) X.A (assignInOrder ((assignEach ts X.env).map (·.2)) us) (fun _ s'=>∃ σ' H',Inv X pins σ' H' s'/\Q σ' H') X.xe s
section
variable {X : Cx} {pos : Pos}
noncomputable def zfj (i : Nat) : TG:=fun v σ H Q=>Q (σ.set i (some v)) H
theorem zau {i : Nat} {x : Str} (hN : X.N.Nodup) (hi : X.N[i]? = some x) (hx : Loc X.env.scope x) (hf : X.fn x = true \/ X.env.scope.names.lookup x = some .local:=by first | exact .inl rfl | exact .inr rfl | assumption) : PG X (.Name x pos) (zfj i):=by
 intro pins s σ H v u Q I r h
 exact wpAny_assign_Name (zg0 I hN hi hx r (fun s' I'=>⟨_,H,I',h⟩) hf)
noncomputable def gNil : TGs:=fun vs σ H Q=>vs = []/\Q σ H
noncomputable def zz0 (t : TG) (u : TGs) : TGs:=fun vs σ H Q=>∃ v r,vs = v::r/\t v σ H fun σ' H'=>u r σ' H' Q
theorem zf4 : PGs X [] gNil:=by
 intro pins s σ H vs us Q I r h
 obtain ⟨e,h⟩:=h
 subst e
 cases r
 exact assignInOrder_nil ⟨σ,H,I,h⟩
theorem zbv {e : Expr} {es : List Expr} {t : TG} {u : TGs} (h1 : PG X e t) (h2 : PGs X es u)
  (hs : (assignEach (e::es) X.env).map (·.2) = assign e X.env::(assignEach es X.env).map (·.2):=by rfl) : PGs X (e::es) (zz0 t u):=by
 intro pins s σ H vs us Q I r h
 obtain ⟨v,vr,e1,h⟩:=h
 subst e1
 cases r with
 | cons r rr =>
  rw [hs]
  refine assignInOrder_cons (thn (h1 pins s σ H _ _ _ I r h) fun _ s1 hz9=>?_)
  obtain ⟨σ1,H1,I1,q1⟩:=hz9
  exact h2 pins s1 σ1 H1 _ _ Q I1 rr q1
noncomputable def gTup (K : PySem.W.Frag) (n : Nat) (t : TGs) : TG:=fun v σ H Q=>∃ a xs,v = .ref a/\SqT K H a xs/\xs.length = n/\t xs σ H Q
theorem zie {es : List Expr} {k : Nat} {t : TGs} {n : Nat} (hc : X.calm = true) (h : PGs X es t)
  (hn : (assignEach es X.env).length = n:=by rfl) (hst : (assignEach es X.env).findIdx? (·.1) = none:=by rfl) : PG X (.Tuple es k pos) (gTup X.K n t):=by
 intro pins s σ H v u Q I r hw
 obtain ⟨a,xs,e1,hq,hl,hw⟩:=hw
 subst e1
 cases r
 obtain ⟨its,rv,ht,hz⟩:=I.tuple hq
 refine assign_Tuple_tuple (I.ok.hd hc) ht (by simp [hn,<- hl,rv.length]) hst fun h' hx=>?_
 have I1 : Inv X pins σ H { s with heap:=h' }:=I.kept (t':=s.toks) fun b o e=>hx b o (Nat.ne_of_lt (Heap.lt_size e)) e
 exact h pins _ σ H xs _ Q I1 (by simpa using rv) hw
noncomputable def tAsg (te : TE) (g : TG) : TS:=fun D σ H=>te σ H fun x H1=>g x σ H1 D.nx
theorem yap {tg e : Expr} {te : TE} {g : TG} (he : PE X e te) (hg : PG X tg g) (hs : swapsWithSole [tg] e pos.line X.env = pure false:=by rfl) (hw : swappedStores [tg] e X.env = pure none:=by rfl)
  (h1 : (assignEach [tg] X.env).map (·.2) = [assign tg X.env]:=by rfl) : PS X (.Assign [tg] e pos) (tAsg te g):=by
 intro pins s σ H D I h
 refine wpAny_Assign_stores (thn (he pins s σ H _ I h) fun v s1 hz9=>?_) hs hw
 obtain ⟨x,H1,I1,r1,q1⟩:=hz9
 rw [h1]
 exact thn (hg pins s1 σ H1 x v _ I1 r1 q1) fun _ s2 q=>q
theorem zaw {i : Nat} {x : Str} {e : Expr} {te : TE} {pos' : Pos} (hN : X.N.Nodup) (hi : X.N[i]? = some x) (hx : Loc X.env.scope x) (he : PE X e te) (hs : swapsWith e (some (.Name x pos')) pos.line X.env = pure false:=by rfl) (hf : X.fn x = true \/ X.env.scope.names.lookup x = some .local:=by first | exact .inl rfl | exact .inr rfl | assumption) :
  PS X (.Assign [.Name x pos'] e pos) (tAsg te (zfj i)):=by
 intro pins s σ H D I h
 refine wpAny_Assign_Name (thn (he pins s σ H _ I h) fun v s1 hz9=>?_) hs
 obtain ⟨y,H1,I1,r1,q1⟩:=hz9
 exact zg0 I1 hN hi hx r1 (fun s2 I2=>⟨_,H1,I2,q1⟩) hf
end
section
variable {X : Cx} {pos : Pos}
noncomputable def zwc (c : TT) (tb : TS) : TS:=fun D σ H=>∃ W : Nat->St->Hp->Prop,(∃ m,W m σ H) /\ ∀ m σ H,W m σ H ->
 c σ H fun b H1=>if b = true then ∃ N : St->Hp->Prop,(∀ σ' H',N σ' H' -> ∃ m',m' < m/\W m' σ' H')/\tb { D with nx:=N,ct:=N,bk:=D.nx } σ H1 else D.nx σ H1
theorem zi2 {c : Expr} {body : List Stmt} {tc : TT} {tb : TS} (hp : PassesOwn (model X.prog X.w) X.A X.env X.xe) (hc : PT X c tc) (hb : PSs X body tb) : PS X (.While c body [] pos) (zwc tc tb):=by
 intro pins s σ H D I h
 obtain ⟨W,⟨m0,w0⟩,turn⟩:=h
 refine wpAny_While (codeAny_whileLoop (fun n s'=>∃ σ' H',Inv X pins σ' H' s'/\W n σ' H') ?_ m0 ⟨σ,H,I,w0⟩)
 rintro n s1 ⟨σ1,H1,I1,w1⟩
 refine wpAny_passesOwn hp (thn (hc pins s1 σ1 H1 _ I1 (turn n σ1 H1 w1)) fun b s2 hz9=>?_)
 obtain ⟨H2,I2,q2⟩:=hz9
 cases b with
 | true =>
  obtain ⟨N,hN,q2⟩:=q2
  rw [if_pos rfl]
  refine wpAny_passesOwn hp (thn (hb pins s2 σ1 H2 _ I2 q2) fun f s3 q3=>?_)
  cases f with
  | next =>
   obtain ⟨σ3,H3,I3,n3⟩:=q3
   obtain ⟨m',hm,w3⟩:=hN σ3 H3 n3
   exact ⟨m',hm,σ3,H3,I3,w3⟩
  | cont =>
   obtain ⟨σ3,H3,I3,n3⟩:=q3
   obtain ⟨m',hm,w3⟩:=hN σ3 H3 n3
   exact ⟨m',hm,σ3,H3,I3,w3⟩
  | brk=>exact q3
  | ret v=>exact q3
 | false =>
  rw [if_neg Bool.false_ne_true]
  exact wpAny_execs_nil ⟨σ1,H2,I2,q2⟩
end
structure It where
 go : Nat->Hp->Prop
 yld : Nat->Hp->V->Hp->Prop
 stop : Nat->Hp->Prop
noncomputable def FpOk (X : Cx) (pins : List (Addr × Obj)) (H : Hp) (b : Addr) : Prop :=
 H b = none/\b≠X.env.locals/\b ∉ X.fs/\(b∈X.ex \/ X.s₀.heap.objs.size <= b)/\(∀ x c,X.env.cells.lookup x = some c->c≠b) /\ ∀ p∈X.pn++pins,p.1≠b
theorem Inv.fpOk {X : Cx} {pins : List (Addr × Obj)} {σ : St} {H H' : Hp} {s : Shared} {b : Addr} (I : Inv X pins σ H s) (hb : s.heap.objs.size <= b) (hn : H' b = none) : FpOk X pins H' b:=by
 refine ⟨hn,Nat.ne_of_gt (Nat.lt_of_lt_of_le I.lt hb),I.nofs hb,.inr (Nat.le_trans I.sz hb),fun x c e z=>?_,fun p hp z=>?_⟩
 ·obtain ⟨v,q⟩:=I.cell x c e
  exact absurd (Nat.lt_of_lt_of_le q.lt (by rw [z]; exact hb)) (Nat.lt_irrefl _)
 ·exact absurd (Nat.lt_of_lt_of_le (Heap.lt_size (I.pin p hp).1) (by rw [z]; exact hb)) (Nat.lt_irrefl _)
structure Turn (P : Program) (w : World) (K : PySem.W.Frag) (tg : Expr) (J : It) (fp : List Addr) (it : Addr) (tn : Nat->Heap->Prop) : Prop where
 mem : it∈fp
 obj : ∀ i h,tn i h -> ∀ b∈fp,∃ o,h.get? b = some o /\ ∀ v,o.data ≠ .cell v
 keep : ∀ i h h',tn i h->(∀ b∈fp,∀ o,h.get? b = some o->h'.get? b = some o)->tn i h'
 item : ∀ (X : Cx),X.prog = P->X.w = w->X.K = K->X.calm = true -> ∀ (i : Nat) (pins : List (Addr × Obj)) (s : Shared) (σ : St) (H : Hp) (E : Value->Shared->Prop),Inv X pins σ H s->(∀ b∈fp,FpOk X pins H b)->tn i s.heap->J.go i H ->
  wpAny (model P w) X.A (pyNext (.ref it)) (fun r s1=>∃ u,r = some u /\
   wpAny (model P w) X.A (letOwnedTupleGo tg (.ref it) u) (fun _ s2=>∃ x H',Inv X pins σ H' s2/\RelV x u/\J.yld i H x H'/\tn (i + 1) s2.heap /\ ∀ b∈fp,H' b = none) E s1) E s
 done : ∀ (X : Cx),X.prog = P->X.w = w->X.K = K->X.calm = true -> ∀ (i : Nat) (pins : List (Addr × Obj)) (s : Shared) (σ : St) (H : Hp) (E : Value->Shared->Prop),Inv X pins σ H s->(∀ b∈fp,FpOk X pins H b)->tn i s.heap->J.stop i H ->
  wpAny (model P w) X.A (pyNext (.ref it)) (fun r s1=>r = none/\Inv X pins σ H s1) E s
 self : ∀ (A : Around) (i : Nat) (s : Shared) (Q : Value->Shared->Prop) (E : Value->Shared->Prop),tn i s.heap->Q (.ref it) s->wpAny (model P w) A (pyIter (.ref it)) Q E s
noncomputable abbrev TI:=St->Hp->(It->Hp->Prop)->Prop
noncomputable def PIE (X : Cx) (pins : List (Addr × Obj)) (σ : St) (tg : Expr) (R : It->Hp->Prop) (itv : Value) (s2 : Shared) : Prop :=
 ∃ (it : Addr) (fp : List Addr) (tn : Nat->Heap->Prop) (J : It) (H' : Hp),itv = .ref it/\Inv X pins σ H' s2/\Turn X.prog X.w X.K tg J fp it tn/\tn 0 s2.heap/\(∀ b∈fp,FpOk X pins H' b)/\R J H'
noncomputable def PI (X : Cx) (tg iter : Expr) (wi : TI) : Prop :=
 ∀ (pins : List (Addr × Obj)) (s : Shared) (σ : St) (H : Hp) (R : It->Hp->Prop),Inv X pins σ H s->wi σ H R ->
  wpAny (model X.prog X.w) X.A (eval iter X.env) (fun v s1=>wpAny (model X.prog X.w) X.A (pyIter v) (PIE X pins σ tg R) X.xe s1) X.xe s
theorem zy5 {M : Model} {A : Around} {E : Value -> Shared -> Prop} {s : Shared} {tg : Expr} {it : Addr} {u : Value} {o : Obj} {n : String} {vs : Array Value} {Q : Unit -> Shared -> Prop} (ho : s.heap.get? it = some o) (hc : o.cls = .type n) (hd : o.data = .fields vs)
    (hn : ["enumerate", "zip", "dict_itemiterator", "dict_reverseitemiterator", "odict_iterator", "itertools.zip_longest", "itertools.pairwise"].contains n = false) (hQ : Q () s) : wpAny M A (letOwnedTupleGo tg (.ref it) u) Q E s:=by
  unfold letOwnedTupleGo
  cases tg <;> first
    | exact wpAny_pure hQ
    | (cases u <;> first
        | exact wpAny_pure hQ
        | (refine wpAny_bind (wpAny_load ho ?_)
           rw [hc,hd]
           show wpAny M A (if (["enumerate", "zip", "dict_itemiterator", "dict_reverseitemiterator", "odict_iterator", "itertools.zip_longest", "itertools.pairwise"].contains n && vs[0]? == some (rawInt _)) = true then _ else _) Q E s
           rw [if_neg (by intro h; rw [hn,Bool.false_and] at h; cases h)]
           exact wpAny_pure hQ))
noncomputable def Itl (K : PySem.W.Frag) (a : Addr) : It :=
 ⟨fun i H=>∃ xs x,SqL K H a xs/\xs[i]? = some x,fun i H x H'=>H' = H /\ ∀ xs,SqL K H a xs->xs[i]? = some x,fun i H=>∃ xs,SqL K H a xs/\xs.length <= i⟩
noncomputable def Itr (lo : Int) (n : Nat) : It:=⟨fun i _=>i < n,fun i H x H'=>H' = H/\x = .int (lo + i),fun i _=>n <= i⟩
theorem zsx {P : Program} {w : World} {K : PySem.W.Frag} {tg : Expr} (a it : Addr) : Turn P w K tg (Itl K a) [it] it (fun i h=>h.IsListIter it a i) where
 mem:=by simp
 obj:=fun i h st b hb=>by
  have e : b = it:=by simpa using hb
  subst e
  obtain ⟨o,e,c,d⟩:=st
  exact ⟨o,e,fun v z=>by rw [d] at z; cases z⟩
 keep:=fun i h h' st k=>st.at fun o e=>k it (by simp) o e
 item:=by
  intro X hP hw hK hc i pins s σ H E I hf st hg
  subst hP hw hK
  obtain ⟨xs,x,hq,hx⟩:=hg
  obtain ⟨its,rv,p,hz⟩:=I.list hq
  obtain ⟨u,hu,ru⟩:=rv.get hx
  obtain ⟨f0,f1,f2,f3,f4,f5⟩:=hf it (by simp)
  refine wpAny_pyNext_list_item st p.isList (x:=u) (by simpa using hu) fun h' st' sb=>?_
  have I1 : Inv X pins σ H { s with heap:=h' }:=I.turned (t':=s.toks) (fun b o hb e=>(sb.2 b hb).trans e) f0 f1 f3 f4 f5
  obtain ⟨o,e,c,d⟩:=id st'
  exact ⟨u,rfl,zy5 (s:={ s with heap:=h' }) e c d (by decide) ⟨x,H,I1,ru,⟨rfl,fun ys hy=>by rw [I.list_inj hy hq]; exact hx⟩,st',fun b hb=>(hf b hb).1⟩⟩
 done:=by
  intro X hP hw hK hc i pins s σ H E I hf st hg
  subst hP hw hK
  obtain ⟨xs,hq,hx⟩:=hg
  obtain ⟨its,rv,p,hz⟩:=I.list hq
  obtain ⟨f0,f1,f2,f3,f4,f5⟩:=hf it (by simp)
  have hl:=rv.length
  exact wpAny_pyNext_list_end (I.ok.hd hc) st p.isList (by simp; lia) fun h' eb=>⟨rfl,I.turned (t':=s.toks) (fun b o hb e=>eb b o hb e) f0 f1 f3 f4 f5⟩
 self:=fun _ _ _ _ _ st h=>wpAny_pyIter_listiter st h
theorem zo0 {P : Program} {w : World} {K : PySem.W.Frag} {tg : Expr} (it : Addr) (lo : Int) (n : Nat) : Turn P w K tg (Itr lo n) [it] it (fun i h=>IsRangeIter h it (lo + (i : Nat) * 1) ((n : Int) - (i : Nat)) 1) where
 mem:=by simp
 obj:=fun i h st b hb=>by
  have e : b = it:=by simpa using hb
  subst e
  exact ⟨_,st,fun v z=>by
   have z' : Data.fields _ = Data.cell v:=z
   cases z'⟩
 keep:=fun i h h' st k=>k it (by simp) _ st
 item:=by
  intro X hP hw hK hc i pins s σ H E I hf st hg
  subst hP hw hK
  obtain ⟨f0,f1,f2,f3,f4,f5⟩:=hf it (by simp)
  have W:=Walks.range (prog:=X.prog) (w:=X.w) (I.ok.hd hc) it lo 1 n
  refine W.item i s _ _ hg st fun v h' tk hv st' kk=>?_
  obtain ⟨t,rfl⟩:=hv
  have I1 : Inv X pins σ H { s with heap:=h',toks:=tk }:=I.turned (fun b o hb e=>kk b o (by simpa using hb) e) f0 f1 f3 f4 f5
  refine ⟨_,rfl,zy5 (s:={ s with heap:=h',toks:=tk }) (n:="range_iterator") st' rfl rfl (by decide) ⟨.int (lo + i),H,I1,⟨t,?_⟩,⟨rfl,rfl⟩,st',fun b hb=>(hf b hb).1⟩⟩
  rw [Int.mul_one]
 done:=by
  intro X hP hw hK hc i pins s σ H E I hf st hg
  subst hP hw hK
  obtain ⟨f0,f1,f2,f3,f4,f5⟩:=hf it (by simp)
  exact wpAny_pyNext_range_end (I.ok.hd hc) st (by have : n <= i:=hg; lia) fun h' eb=>⟨rfl,I.turned (t':=s.toks) (fun b o hb e=>eb b o hb e) f0 f1 f3 f4 f5⟩
 self:=fun _ _ _ _ _ st h=>wpAny_pyIter_rangeiter st h
end L2
namespace L2
open PySem PySem.Spec PyProof.Rows
section
variable {X : Cx} {tg : Expr}
noncomputable def zqd (K : PySem.W.Frag) (tl : TE) : TI:=fun σ H R=>tl σ H fun x H1=>∃ a,x = .ref a/\(∃ xs,SqL K H1 a xs)/\R (Itl K a) H1
theorem zba {l : Expr} {tl : TE} (hl : PE X l tl) : PI X tg l (zqd X.K tl):=by
 intro pins s σ H R I h
 refine thn (hl pins s σ H _ I h) fun v s1 hz9=>?_
 obtain ⟨x,H1,I1,r1,q1⟩:=hz9
 obtain ⟨a,e,⟨xs,hq⟩,q⟩:=q1
 subst e
 cases r1
 obtain ⟨its,rv,p,hz⟩:=I1.list hq
 refine wpAny_pyIter_list p.isList ?_
 refine ⟨s1.heap.objs.size,[s1.heap.objs.size],_,_,H1,rfl,I1.kept (t':=s1.toks) fun b o e=>Heap.get?_push_of_some _ e,zsx a _,⟨_,Heap.get?_push_size _ rfl,rfl,rfl⟩,fun b hb=>?_,q⟩
 have e : b = s1.heap.objs.size:=by simpa using hb
 subst e
 exact I1.fpOk (Nat.le_refl _) (I1.hok.fresh (Nat.le_refl _))
theorem zvs {pins : List (Addr × Obj)} {σ : St} {H : Hp} {s : Shared} {R : It->Hp->Prop} {E : Value->Shared->Prop} {lo hi : Int} {t u v : Tok} {tk : Nat} (I : Inv X pins σ H s) (h1 : -(2 ^ 62) <= lo) (h2 : lo < 2 ^ 62) (h3 : -(2 ^ 62) <= hi) (h4 : hi < 2 ^ 62)
  (q : R (Itr lo (hi - lo).toNat) H) : wpAny (model X.prog X.w) X.A (pyIter (.ref s.heap.objs.size)) (PIE X pins σ tg R) E { s with heap:=s.heap.push { cls:=.type "range", data:=.fields #[.int lo t,.int hi u,.int 1 v] },toks:=tk }:=by
 refine wpAny_pyIter_range (IsRange.new ..) (small_one h1 h2 h3 h4) ?_
 have I1 : Inv X pins σ H { s with heap:=s.heap.push { cls:=.type "range", data:=.fields #[.int lo t,.int hi u,.int 1 v] },toks:=tk }:=I.kept fun b o e=>Heap.get?_push_of_some _ e
 refine ⟨(s.heap.push { cls:=.type "range", data:=.fields #[.int lo t,.int hi u,.int 1 v] }).objs.size,[(s.heap.push { cls:=.type "range", data:=.fields #[.int lo t,.int hi u,.int 1 v] }).objs.size],_,_,H,rfl,
  I1.kept (t':=tk) fun b o e=>Heap.get?_push_of_some _ e,zo0 _ lo (hi - lo).toNat,?_,fun b hb=>?_,q⟩
 ·have e1 : lo + ((0 : Nat) : Int) * 1 = lo:=by simp
  have e2 : (((hi - lo).toNat : Nat) : Int) - ((0 : Nat) : Int) = Builtin.Range.rangeSize lo hi 1:=by rw [rangeSize_one]; split <;> lia
  show IsRangeIter _ _ (lo + ((0 : Nat) : Int) * 1) ((((hi - lo).toNat : Nat) : Int) - ((0 : Nat) : Int)) 1
  rw [e1,e2]
  exact Heap.get?_push_size _ rfl
 ·have e : b = (s.heap.push { cls:=.type "range", data:=.fields #[.int lo t,.int hi u,.int 1 v] }).objs.size:=by simpa using hb
  subst e
  exact I1.fpOk (Nat.le_refl _) (I1.hok.fresh (Nat.le_refl _))
noncomputable def ybf (ta : TA) : TI:=fun σ H R=>ta σ H fun vs H1=>∃ j : Int,vs = [.int j] /\ -(2 ^ 62) <= j/\j < 2 ^ 62/\R (Itr 0 j.toNat) H1
theorem zs7 {a : Expr} {ta : TA} {p pos : Pos} (hg : Gl X "range") (hm : X.mg "range" = none) (ha : PA X [a] ta) (hs : starEach [a] X.env = [(false,eval a X.env)]:=by rfl) : PI X tg (.Call (.Name "range" p) [a] [] pos) (ybf ta):=by
 intro pins s σ H R I h
 refine Call_ (zhr I hg hm boot_range (PyProof.Rows.callWith_type1 (thn (ha pos pins s σ H _ I h) fun us s1 hz9=>?_) hs rfl))
 obtain ⟨vs,H1,I1,r1,q1⟩:=hz9
 obtain ⟨j,e,q1,q2,q⟩:=q1
 subst e
 cases r1 with
 | cons r rr =>
  cases rr
  obtain ⟨t,rfl⟩:=r
  exact call_range_1 (zvs I1 (by lia) (by lia) q1 q2 (by simpa using q))
noncomputable def tFor (wi : TI) (g : TG) (tb : TS) : TS:=fun D σ H=>wi σ H fun J H1=>∃ W : Nat->Nat->St->Hp->Prop,(∃ m,W 0 m σ H1) /\ ∀ i m σ H,W i m σ H ->
 (J.stop i H/\D.nx σ H) \/ (J.go i H /\ ∃ N : St->Hp->Prop,(∀ σ' H',N σ' H' -> ∃ m',m' < m/\W (i + 1) m' σ' H') /\ ∀ x H',J.yld i H x H'->g x σ H' fun σ2 H2=>tb { D with nx:=N,ct:=N,bk:=D.nx } σ2 H2)
noncomputable def zkz (fp : List Addr) (h : Heap) : List (Addr × Obj):=fp.filterMap fun b=>(h.get? b).map fun o=>(b,o)
theorem zex {fp : List Addr} {h : Heap} {b : Addr} {o : Obj} (hb : b∈fp) (e : h.get? b = some o) : (b,o)∈zkz fp h:=List.mem_filterMap.mpr ⟨b,hb,by rw [e]; rfl⟩
theorem zrh {fp : List Addr} {h : Heap} {p : Addr × Obj} (hp : p∈zkz fp h) : p.1∈fp/\h.get? p.1 = some p.2:=by
 obtain ⟨b,hb,e⟩:=List.mem_filterMap.mp hp
 cases q : h.get? b with
 | none=>rw [q] at e; cases e
 | some o =>
  rw [q] at e
  have e' : (b,o) = p:=Option.some.inj e
  subst e'
  exact ⟨hb,q⟩
theorem Inv.pinned {pins : List (Addr × Obj)} {σ : St} {H : Hp} {s : Shared} {fp : List Addr} (I : Inv X pins σ H s) (hf : ∀ b∈fp,FpOk X pins H b) (ho : ∀ b∈fp,∃ o,s.heap.get? b = some o /\ ∀ v,o.data ≠ .cell v) : Inv X (pins++zkz fp s.heap) σ H s :=
 I.pins_of fun p hp=>(List.mem_append.mp hp).elim (fun z=>I.pin p (List.mem_append_right _ z)) fun z=>by
  obtain ⟨hb,e⟩:=zrh z
  obtain ⟨f0,f1,f2,_⟩:=hf p.1 hb
  obtain ⟨o,e',d⟩:=ho p.1 hb
  rw [e] at e'; cases e'
  exact ⟨e,f0,f1,f2,d⟩
theorem Inv.unpinned {pins pl : List (Addr × Obj)} {σ : St} {H : Hp} {s : Shared} (I : Inv X (pins++pl) σ H s) : Inv X pins σ H s:=I.pins_of fun p hp=>I.pin p (List.mem_append_right _ (List.mem_append_left _ hp))
theorem zc2 {iter : Expr} {body : List Stmt} {wi : TI} {g : TG} {tb : TS} {pos : Pos} (hp : PassesOwn (model X.prog X.w) X.A X.env X.xe) (hc : X.calm = true) (hi : PI X tg iter wi) (hg : PG X tg g) (hb : PSs X body tb)
  (hs : ∀ x,foldedSetIterable iter X.env x = pure x:=by intro _; rfl) : PS X (.For tg iter body [] pos) (tFor wi g tb):=by
 intro pins s σ H D I h
 refine wpAny_For (thn (hi pins s σ H _ I h) fun v s1 h1=>thn h1 fun itv s2 h2=>?_) hs
 obtain ⟨it,fp,tn,J,H2,e,I2,T,st2,f2,W,⟨m0,w0⟩,turn⟩:=h2
 subst e
 -- what stays true of the iterator's objects through the loop
 have stat : ∀ {H' : Hp},(∀ b∈fp,H' b = none) -> ∀ b∈fp,FpOk X pins H' b:=fun hn b hb=>⟨hn b hb,(f2 b hb).2⟩
 refine codeAny_forLoop_any (fun n s'=>∃ i σ' H',Inv X pins σ' H' s'/\tn i s'.heap/\(∀ b∈fp,H' b = none)/\W i n σ' H') ?_ m0 ⟨0,σ,H2,I2,st2,fun b hb=>(f2 b hb).1,w0⟩
 rintro n s3 ⟨i,σ3,H3,I3,st3,fr3,w3⟩
 rcases turn i n σ3 H3 w3 with ⟨stop,qn⟩ | ⟨go,N,hN,step⟩
 ·refine wpAny_passesOwn hp (thn (T.done X rfl rfl rfl hc i pins s3 σ3 H3 X.xe I3 (stat fr3) st3 stop) fun r s4 hz9=>?_)
  obtain ⟨hr,I4⟩:=hz9
  subst hr
  exact wpAny_execs_nil ⟨σ3,H3,I4,qn⟩
 ·refine wpAny_passesOwn hp (thn (T.item X rfl rfl rfl hc i pins s3 σ3 H3 X.xe I3 (stat fr3) st3 go) fun r s4 hz9=>?_)
  obtain ⟨u,hr,h4⟩:=hz9
  subst hr
  refine wpAny_passesOwn hp (thn h4 fun _ s5 hz9=>?_)
  obtain ⟨x,H5,I5,r5,y5,st5,fr5⟩:=hz9
  have I5':=I5.pinned (stat fr5) (T.obj _ _ st5)
  refine wpAny_passesOwn hp (thn (hg _ s5 σ3 H5 x u _ I5' r5 (step x H5 y5)) fun _ s6 hz9=>?_)
  obtain ⟨σ6,H6,I6,q6⟩:=hz9
  refine wpAny_passesOwn hp (thn (hb _ s6 σ6 H6 _ I6 q6) fun f s7 q7=>?_)
  have again : ∀ {σ7 : St} {H7 : Hp},Inv X (pins++zkz fp s5.heap) σ7 H7 s7->N σ7 H7 -> ∃ m,m < n /\ ∃ i σ' H',Inv X pins σ' H' s7/\tn i s7.heap/\(∀ b∈fp,H' b = none)/\W i m σ' H':=fun {σ7 H7} I7 n7=>by
   obtain ⟨m',hm,w7⟩:=hN σ7 H7 n7
   refine ⟨m',hm,i + 1,σ7,H7,I7.unpinned,T.keep _ _ _ st5 fun b hb o e=>(I7.pin (b,o) (List.mem_append_right _ (List.mem_append_right _ (zex hb e)))).1,fun b hb=>?_,w7⟩
   obtain ⟨o,e,d⟩:=T.obj _ _ st5 b hb
   exact (I7.pin (b,o) (List.mem_append_right _ (List.mem_append_right _ (zex hb e)))).2.1
  cases f with
  | next=>obtain ⟨σ7,H7,I7,n7⟩:=q7; exact again I7 n7
  | cont=>obtain ⟨σ7,H7,I7,n7⟩:=q7; exact again I7 n7
  | brk=>obtain ⟨σ7,H7,I7,q7⟩:=q7; exact ⟨σ7,H7,I7.unpinned,q7⟩
  | ret v=>obtain ⟨x7,σ7,H7,I7,r7,q7⟩:=q7; exact ⟨x7,σ7,H7,I7.unpinned,r7,q7⟩
end
end L2
namespace L2
open PySem PySem.Spec PyProof.Rows
noncomputable abbrev R2:=V->V->Hp->VK->Prop
noncomputable def OpR (X : Cx) (f : Value->Value->Sem Value) (r : R2) : Prop :=
 ∀ (pins : List (Addr × Obj)) (s : Shared) (σ : St) (H : Hp) (x y : V) (v u : Value) (Q : VK),Inv X pins σ H s->RelV x v->RelV y u->r x y H Q ->
  wpAny (model X.prog X.w) X.A (f v u) (EP X pins σ Q) X.xe s
noncomputable def UnR (X : Cx) (f : Value->Sem Value) (r : V->Hp->VK->Prop) : Prop :=
 ∀ (pins : List (Addr × Obj)) (s : Shared) (σ : St) (H : Hp) (x : V) (v : Value) (Q : VK),Inv X pins σ H s->RelV x v->r x H Q ->
  wpAny (model X.prog X.w) X.A (f v) (EP X pins σ Q) X.xe s
noncomputable def zcg (X : Cx) (f : Value) (r : List V->Hp->VK->Prop) : Prop :=
 ∀ (pins : List (Addr × Obj)) (s : Shared) (σ : St) (H : Hp) (xs : List V) (us : List Value) (Q : VK),Inv X pins σ H s->Vals xs us->r xs H Q ->
  wpAny (model X.prog X.w) X.A (call f us) (EP X pins σ Q) X.xe s
noncomputable def tOp (r : R2) (ta tb : TE) : TE:=fun σ H Q=>ta σ H fun x H1=>tb σ H1 fun y H2=>r x y H2 Q
noncomputable def tUn (r : V->Hp->VK->Prop) (ta : TE) : TE:=fun σ H Q=>ta σ H fun x H1=>r x H1 Q
noncomputable def rI (C : Int->Int->Prop) (g : Int->Int->V) : R2:=fun x y H Q=>∃ i j,x = .int i/\y = .int j/\C i j/\Q (g i j) H
noncomputable def rI0 (g : Int->Int->V) : R2:=fun x y H Q=>∃ i j,x = .int i/\y = .int j/\Q (g i j) H
noncomputable def rU (g : Int->V) : V->Hp->VK->Prop:=fun x H Q=>∃ i,x = .int i/\Q (g i) H
section
variable {X : Cx} {a b c : Expr} {ta tb tc : TE} {pos : Pos}
theorem binT (ha : PE X a ta) (hb : PE X b tb) {pins : List (Addr × Obj)} {s : Shared} {σ : St} {H : Hp} {R : V->V->Hp->Prop} (I : Inv X pins σ H s)
  (h : ta σ H fun x H1=>tb σ H1 fun y H2=>R x y H2) {Q : Value->Shared->Prop} {f : Value->Value->Sem Value}
  (hf : ∀ v u s2 x y H2,Inv X pins σ H2 s2->RelV x v->RelV y u->R x y H2->wpAny (model X.prog X.w) X.A (f v u) Q X.xe s2) :
  wpAny (model X.prog X.w) X.A (eval a X.env) (fun v s₁=>wpAny (model X.prog X.w) X.A (eval b X.env) (fun u s₂=>wpAny (model X.prog X.w) X.A (f v u) Q X.xe s₂) X.xe s₁) X.xe s:=by
 refine thn (ha pins s σ H _ I h) fun v s1 hz9=>?_
 obtain ⟨x,H1,I1,r1,q1⟩:=hz9
 refine thn (hb pins s1 σ H1 _ I1 q1) fun u s2 hz9=>?_
 obtain ⟨y,H2,I2,r2,q2⟩:=hz9
 exact hf v u s2 x y H2 I2 r1 r2 q2
theorem zb0 {op : Operator} {r : R2} (ho : OpR X (binaryOp op) r) (ha : PE X a ta) (hb : PE X b tb) : PE X (.BinOp a op b pos) (tOp r ta tb):=by
 intro pins s σ H Q I h
 exact wpAny_BinOp (binT ha hb I h fun v u s2 x y H2 I2 rx ry q=>ho pins s2 σ H2 x y v u Q I2 rx ry q)
theorem yar {op : UnaryOp} {r : V->Hp->VK->Prop} (ho : UnR X (unaryOp op) r) (ha : PE X a ta) : PE X (.UnaryOp op a pos) (tUn r ta):=by
 intro pins s σ H Q I h
 exact UnaryOp_ (thn (ha pins s σ H _ I h) fun v s1 ⟨x,H1,I1,r1,q1⟩=>ho pins s1 σ H1 x v Q I1 r1 q1)
theorem opI {f : Value->Value->Sem Value} {C : Int->Int->Prop} {g : Int->Int->Int}
  (rule : ∀ (i j : Int) (t u : Tok) (s : Shared) (Q : Value->Shared->Prop) (E : Value->Shared->Prop),C i j->Q (.int (g i j) s.toks) { s with toks:=s.toks + 1 }->wpAny (model X.prog X.w) X.A (f (.int i t) (.int j u)) Q E s) :
  OpR X f (rI C fun i j=>.int (g i j)):=by
 intro pins s σ H x y v u Q I rx ry h
 obtain ⟨i,j,rfl,rfl,hc,q⟩:=h
 obtain ⟨t,rfl⟩:=rx
 obtain ⟨t',rfl⟩:=ry
 exact rule i j t t' s _ _ hc ⟨.int (g i j),H,I.tok _,⟨_,rfl⟩,q⟩
theorem opI0 {f : Value->Value->Sem Value} {g : Int->Int->Int}
  (rule : ∀ (i j : Int) (t u : Tok) (s : Shared) (Q : Value->Shared->Prop) (E : Value->Shared->Prop),Q (.int (g i j) s.toks) { s with toks:=s.toks + 1 }->wpAny (model X.prog X.w) X.A (f (.int i t) (.int j u)) Q E s) :
  OpR X f (rI0 fun i j=>.int (g i j)):=by
 intro pins s σ H x y v u Q I rx ry h
 obtain ⟨i,j,rfl,rfl,q⟩:=h
 obtain ⟨t,rfl⟩:=rx
 obtain ⟨t',rfl⟩:=ry
 exact rule i j t t' s _ _ ⟨.int (g i j),H,I.tok _,⟨_,rfl⟩,q⟩
theorem opB0 {f : Value->Value->Sem Value} {g : Int->Int->Bool}
  (rule : ∀ (i j : Int) (t u : Tok) (s : Shared) (Q : Value->Shared->Prop) (E : Value->Shared->Prop),Q (.bool (g i j)) s->wpAny (model X.prog X.w) X.A (f (.int i t) (.int j u)) Q E s) :
  OpR X f (rI0 fun i j=>.bl (g i j)):=by
 intro pins s σ H x y v u Q I rx ry h
 obtain ⟨i,j,rfl,rfl,q⟩:=h
 obtain ⟨t,rfl⟩:=rx
 obtain ⟨t',rfl⟩:=ry
 exact rule i j t t' s _ _ ⟨.bl (g i j),H,I,rfl,q⟩
noncomputable def CDiv (i j : Int) : Prop:=0 < j/\j < 1073741824
noncomputable def CMul (i j : Int) : Prop:=(-(2 ^ 64) < i/\i < 2 ^ 64) \/ (-(2 ^ 64) < j/\j < 2 ^ 64)
theorem CMul.ok {i j : Int} (h : CMul i j) : IntMulOk i j:=by
 rcases h with ⟨h1,h2⟩ | ⟨h1,h2⟩
 ·exact .of_left (intBits_le_64 h1 h2)
 ·exact .of_right (intBits_le_64 h1 h2)
theorem zfl : OpR X (binaryOp .Add) (rI0 fun i j=>.int (i + j)):=opI0 fun _ _ _ _ _ _ _ q=>add_int q
theorem zog : OpR X (binaryOp .Sub) (rI0 fun i j=>.int (i - j)):=opI0 fun _ _ _ _ _ _ _ q=>sub_int q
theorem zy8 : OpR X (binaryOp .Mult) (rI CMul fun i j=>.int (i * j)):=opI fun _ _ _ _ _ _ _ hc q=>mul_int q hc.ok
theorem zjt : OpR X (binaryOp .FloorDiv) (rI CDiv fun i j=>.int (i / j)):=opI fun i j _ _ _ _ _ hc q=>by
 have h1 : (0 : Int) < j:=hc.1
 have h2 : j < 1073741824:=hc.2
 exact floordiv_int (by lia) (by rw [Int.fdiv_eq_ediv_of_nonneg i (by lia)]; exact q) (.inl (PyProof.noPylong_small (by omega)))
theorem zfo : OpR X (binaryOp .Mod) (rI (fun _ j=>0 < j) fun i j=>.int (i % j)):=opI fun i j _ _ _ _ _ hc q=>by
 have h1 : (0 : Int) < j:=hc
 exact mod_int' (by lia) (by rw [Int.fmod_eq_emod_of_nonneg i (by lia)]; exact q)
theorem unI {f : Value->Sem Value} {g : Int->Int}
  (rule : ∀ (i : Int) (t : Tok) (s : Shared) (Q : Value->Shared->Prop) (E : Value->Shared->Prop),Q (.int (g i) s.toks) { s with toks:=s.toks + 1 }->wpAny (model X.prog X.w) X.A (f (.int i t)) Q E s) :
  UnR X f (rU fun i=>.int (g i)):=by
 intro pins s σ H x v Q I rx h
 obtain ⟨i,rfl,q⟩:=h
 obtain ⟨t,rfl⟩:=rx
 exact rule i t s _ _ ⟨.int (g i),H,I.tok _,⟨_,rfl⟩,q⟩
theorem zww : UnR X (unaryOp .USub) (rU fun i=>.int (-i)):=unI fun _ _ _ _ _ q=>neg_int q
end
noncomputable def scal : V->V->Bool
 | .non,.non=>true | .non,.int _=>true | .int _,.non=>true | .non,.bl _=>true | .bl _,.non=>true | .non,.str _=>true | .str _,.non=>true
 | .int _,.int _=>true | .bl _,.bl _=>true | .str _,.str _=>true | .byt _,.byt _=>true
 | .int _,.str _=>true | .str _,.int _=>true | .bl _,.str _=>true | .str _,.bl _=>true
 | _,_=>false
noncomputable def rEq : R2:=fun x y H Q=>scal x y = true/\Q (.bl (decide (x = y))) H
noncomputable def rNe : R2:=fun x y H Q=>scal x y = true/\Q (.bl (!decide (x = y))) H
theorem zso {i j : Int} : decide (V.int i = V.int j) = (i == j):=by
 rw [Bool.eq_iff_iff]
 simp
theorem zwg {i j : Bool} : decide (V.bl i = V.bl j) = (i == j):=by
 rw [Bool.eq_iff_iff]
 simp
theorem zq9 {i j : Str} : decide (V.str i = V.str j) = (i == j):=by
 rw [Bool.eq_iff_iff]
 simp
theorem ztj {i j : Array UInt8} : decide (V.byt i = V.byt j) = (i.toList == j.toList):=by
 rw [Bool.eq_iff_iff]
 cases i
 cases j
 simp
section
variable {X : Cx} {a b c : Expr} {ta tb tc : TE} {pos : Pos}
theorem za8 {pins : List (Addr × Obj)} {σ : St} {H : Hp} {s : Shared} {Q : VK} {k k' : Bool} (I : Inv X pins σ H s) (q : Q (.bl k) H) (e : k = k') : EP X pins σ Q (.bool k') s:=by
 subst e
 exact ⟨.bl k,H,I,rfl,q⟩
theorem zgr : OpR X (compareOp .Eq) rEq:=by
 intro pins s σ H x y v u Q I rx ry h
 obtain ⟨hs,q⟩:=h
 cases x with
 | non =>
  cases rx
  cases y with
  | non=>cases ry; exact PySem.EqNone.eq_none_none (za8 I q (by simp))
  | bl j=>cases ry; exact PySem.EqNone.eq_none_bool (za8 I q (by simp))
  | int j=>obtain ⟨t',rfl⟩:=ry; exact PySem.EqNone.eq_none_int (za8 I q (by simp))
  | str j=>obtain ⟨t',rfl⟩:=ry; exact PySem.EqNone.eq_none_str (za8 I q (by simp))
  | _=>exact absurd (show false = true from hs) Bool.false_ne_true
 | bl i =>
  cases rx
  cases y with
  | non=>cases ry; exact PySem.EqNone.eq_bool_none (za8 I q (by simp))
  | bl j=>cases ry; exact eq_bool (za8 I q zwg)
  | str j=>obtain ⟨t',rfl⟩:=ry; exact PySem.EqMixed.eq_bool_str (za8 I q (by simp))
  | _=>exact absurd (show false = true from hs) Bool.false_ne_true
 | int i =>
  obtain ⟨t,rfl⟩:=rx
  cases y with
  | non=>cases ry; exact PySem.EqNone.eq_int_none (za8 I q (by simp))
  | int j=>obtain ⟨t',rfl⟩:=ry; exact eq_int (za8 I q zso)
  | str j=>obtain ⟨t',rfl⟩:=ry; exact PySem.EqMixed.eq_int_str (za8 I q (by simp))
  | _=>exact absurd (show false = true from hs) Bool.false_ne_true
 | str i =>
  obtain ⟨t,rfl⟩:=rx
  cases y with
  | non=>cases ry; exact PySem.EqNone.eq_str_none (za8 I q (by simp))
  | bl j=>cases ry; exact PySem.EqMixed.eq_str_bool (za8 I q (by simp))
  | int j=>obtain ⟨t',rfl⟩:=ry; exact PySem.EqMixed.eq_str_int (za8 I q (by simp))
  | str j=>obtain ⟨t',rfl⟩:=ry; exact eq_str (za8 I q zq9)
  | _=>exact absurd (show false = true from hs) Bool.false_ne_true
 | byt i =>
  obtain ⟨t,rfl⟩:=rx
  cases y with
  | byt j=>obtain ⟨t',rfl⟩:=ry; exact PySem.W.eq_bytes (za8 I q ztj)
  | _=>exact absurd (show false = true from hs) Bool.false_ne_true
 | _=>cases y <;> exact absurd (show false = true from hs) Bool.false_ne_true
theorem yba : OpR X (compareOp .NotEq) rNe:=by
 intro pins s σ H x y v u Q I rx ry h
 obtain ⟨hs,q⟩:=h
 cases x with
 | non =>
  cases rx
  cases y with
  | non=>cases ry; exact PySem.EqNone.ne_none_none (za8 I q (by simp))
  | bl j=>cases ry; exact PySem.EqNone.ne_none_bool (za8 I q (by simp))
  | int j=>obtain ⟨t',rfl⟩:=ry; exact PySem.EqNone.ne_none_int (za8 I q (by simp))
  | str j=>obtain ⟨t',rfl⟩:=ry; exact PySem.EqNone.ne_none_str (za8 I q (by simp))
  | _=>exact absurd (show false = true from hs) Bool.false_ne_true
 | bl i =>
  cases rx
  cases y with
  | non=>cases ry; exact PySem.EqNone.ne_bool_none (za8 I q (by simp))
  | bl j=>cases ry; exact ne_bool (za8 I q (congrArg not zwg))
  | str j=>obtain ⟨t',rfl⟩:=ry; exact PySem.EqMixed.ne_bool_str (za8 I q (by simp))
  | _=>exact absurd (show false = true from hs) Bool.false_ne_true
 | int i =>
  obtain ⟨t,rfl⟩:=rx
  cases y with
  | non=>cases ry; exact PySem.EqNone.ne_int_none (za8 I q (by simp))
  | int j=>obtain ⟨t',rfl⟩:=ry; exact ne_int (za8 I q (congrArg not zso))
  | str j=>obtain ⟨t',rfl⟩:=ry; exact PySem.EqMixed.ne_int_str (za8 I q (by simp))
  | _=>exact absurd (show false = true from hs) Bool.false_ne_true
 | str i =>
  obtain ⟨t,rfl⟩:=rx
  cases y with
  | non=>cases ry; exact PySem.EqNone.ne_str_none (za8 I q (by simp))
  | bl j=>cases ry; exact PySem.EqMixed.ne_str_bool (za8 I q (by simp))
  | int j=>obtain ⟨t',rfl⟩:=ry; exact PySem.EqMixed.ne_str_int (za8 I q (by simp))
  | str j=>obtain ⟨t',rfl⟩:=ry; exact ne_str (za8 I q (congrArg not zq9))
  | _=>exact absurd (show false = true from hs) Bool.false_ne_true
 | byt i =>
  obtain ⟨t,rfl⟩:=rx
  cases y with
  | byt j=>obtain ⟨t',rfl⟩:=ry; exact PySem.W.ne_bytes (za8 I q (congrArg not ztj))
  | _=>exact absurd (show false = true from hs) Bool.false_ne_true
 | _=>cases y <;> exact absurd (show false = true from hs) Bool.false_ne_true
theorem zz1 : OpR X (compareOp .Lt) (rI0 fun i j=>.bl (decide (i < j))):=opB0 fun _ _ _ _ _ _ _ q=>lt_int q
theorem zzx : OpR X (compareOp .Gt) (rI0 fun i j=>.bl (decide (j < i))):=opB0 fun _ _ _ _ _ _ _ q=>gt_int q
theorem zzy : OpR X (compareOp .Is) (fun x y H Q=>y = .non/\Q (.bl (decide (x = .non))) H):=by
 intro pins s σ H x y v u Q I rx ry h
 obtain ⟨rfl,q⟩:=h
 cases ry
 refine is_none_gen (za8 I q ?_)
 cases x <;> first
  | (cases rx; rfl)
  | (obtain ⟨t,rfl⟩:=rx; rfl)
theorem zqx : OpR X (compareOp .IsNot) (fun x y H Q=>y = .non/\Q (.bl (!decide (x = .non))) H):=by
 intro pins s σ H x y v u Q I rx ry h
 obtain ⟨rfl,q⟩:=h
 cases ry
 refine isnot_none_gen (za8 I q ?_)
 cases x <;> first
  | (cases rx; rfl)
  | (obtain ⟨t,rfl⟩:=rx; rfl)
theorem zbw (b : Expr) {op : CmpOp} (h : op ≠ .In:=by decide) (h2 : op ≠ .NotIn:=by decide) : behindInMarks op b = false:=by
 have e1 : (op == CmpOp.In) = false:=by cases op <;> first | rfl | exact absurd rfl h
 have e2 : (op == CmpOp.NotIn) = false:=by cases op <;> first | rfl | exact absurd rfl h2
 cases b <;> simp [behindInMarks,e1,e2]
theorem ze4 {op : CmpOp} {r : R2} (ho : OpR X (compareOp op) r) (ha : PE X a ta) (hb : PE X b tb) (hm : behindInMarks op b = false) : PE X (.Compare a [op] [b] pos) (tOp r ta tb):=by
 intro pins s σ H Q I h
 exact wpAny_Compare1 (binT ha hb I h fun v u s2 x y H2 I2 rx ry q=>ho pins s2 σ H2 x y v u Q I2 rx ry q) hm
noncomputable def zv5 (t : TE) : TT:=fun σ H Q=>t σ H fun x H'=>∃ k,x = .bl k/\Q k H'
theorem za1 {op : CmpOp} {r : R2} (ho : OpR X (compareOp op) r) (ha : PE X a ta) (hb : PE X b tb) (hm : behindInMarks op b = false) : PT X (.Compare a [op] [b] pos) (zv5 (tOp r ta tb)):=by
 intro pins s σ H Q I h
 refine wpAny_isTrue_Compare1 (thn (ha pins s σ H _ I h) fun v s1 ⟨x,H1,I1,r1,q1⟩=>thn (hb pins s1 σ H1 _ I1 q1) fun u s2 ⟨y,H2,I2,r2,q2⟩ =>
  thn (ho pins s2 σ H2 x y v u _ I2 r1 r2 q2) fun c s3 ⟨z,H3,I3,r3,k,e,q3⟩=>?_) hm
 subst e
 cases r3
 exact wpAny_truthy_bool ⟨H3,I3,q3⟩
theorem zoo : (sizeLine : Nat) < 2 ^ 63:=by rw [sizeLine_eq]; decide
theorem zil : OpR X (binaryOp .Add) (fun x y H Q=>∃ i j,x = .str i/\y = .str j/\i.length + j.length <= sizeLine/\Q (.str (i++j)) H):=by
 intro pins s σ H x y v u Q I rx ry h
 obtain ⟨i,j,rfl,rfl,hz,q⟩:=h
 obtain ⟨t,rfl⟩:=rx
 obtain ⟨t',rfl⟩:=ry
 exact add_str (fun t' tk=>⟨.str (i++j),H,I.tok _,⟨_,rfl⟩,q⟩) hz
theorem zf8 {x : V} {us : List Value} (r : Vals [x] us) : ∃ u,us = [u]/\RelV x u:=by
 cases r with
 | cons r1 r2=>cases r2; exact ⟨_,rfl,r1⟩
theorem zh1 {x y : V} {us : List Value} (r : Vals [x,y] us) : ∃ u w',us = [u,w']/\RelV x u/\RelV y w':=by
 cases r with
 | cons r1 r2 =>
  cases r2 with
  | cons r3 r4=>cases r4; exact ⟨_,_,rfl,r1,r3⟩
theorem zrc (hc : X.calm = true) : zcg X (.builtin "max") (fun xs H Q=>∃ i j,xs = [.int i,.int j]/\Q (.int (if j > i then j else i)) H):=by
 intro pins s σ H xs us Q I r h
 obtain ⟨i,j,rfl,q⟩:=h
 obtain ⟨u,w',rfl,⟨t,rfl⟩,⟨t',rfl⟩⟩:=zh1 r
 refine max_two_ints (I.ok.hd hc) fun h' tk k=>⟨_,H,I.kept k,?_,q⟩
 by_cases hj : j > i
 ·rw [if_pos hj,if_pos hj]; exact ⟨_,rfl⟩
 ·rw [if_neg hj,if_neg hj]; exact ⟨_,rfl⟩
theorem zss (hc : X.calm = true) : zcg X (.builtin "min") (fun xs H Q=>∃ i j,xs = [.int i,.int j]/\Q (.int (if j < i then j else i)) H):=by
 intro pins s σ H xs us Q I r h
 obtain ⟨i,j,rfl,q⟩:=h
 obtain ⟨u,w',rfl,⟨t,rfl⟩,⟨t',rfl⟩⟩:=zh1 r
 refine min_two_ints (I.ok.hd hc) fun h' tk k=>⟨_,H,I.kept k,?_,q⟩
 by_cases hj : j < i
 ·rw [if_pos hj,if_pos hj]; exact ⟨_,rfl⟩
 ·rw [if_neg hj,if_neg hj]; exact ⟨_,rfl⟩
theorem zti : zcg X (.type "int") (fun xs H Q=>(∃ i,xs = [.int i]/\Q (.int i) H) \/ ∃ k,xs = [.bl k]/\Q (.int (if k then 1 else 0)) H):=by
 intro pins s σ H xs us Q I r h
 rcases h with ⟨i,rfl,q⟩ | ⟨k,rfl,q⟩
 ·obtain ⟨u,rfl,t,rfl⟩:=zf8 r
  exact call_int_int ⟨.int i,H,I,⟨_,rfl⟩,q⟩
 ·obtain ⟨u,rfl,r1⟩:=zf8 r
  cases r1
  exact call_int_bool ⟨.int (if k then 1 else 0),H,I.tok _,⟨_,rfl⟩,q⟩
end
end L2
namespace L2
open PySem PySem.Spec PyProof.Rows
structure ObjM (h : Heap) (x dx C : Addr) (mA : Str->Option Value) : Prop where
 obj : h.get? x = some (PySem.W.instObj C dx)
 ns : h.Ns1 dx mA
 ne : dx≠x
theorem zq4 {h : Heap} {dx : Addr} {mA : Str->Option Value} (n : h.Ns1 dx mA) : ∃ od,h.get? dx = some od /\ ∀ name,PySem.W.lookIn name od = some (mA name):=by
 obtain ⟨o,es,ep,ho,hd,hk,_,hm⟩:=n
 refine ⟨o,ho,fun name=>?_⟩
 have e:=hm name
 unfold nsFind findBy at e
 rw [<- Array.find?_toList] at e
 unfold PySem.W.lookIn
 rw [hd]
 dsimp only
 split
 ·rename_i y q
  rw [q] at e
  exact congrArg some e
 ·rename_i q
  rw [q] at e
  have a : es.toList.any (·.refKey) = false:=by
   rw [List.any_eq_false]
   intro y hy
   obtain ⟨z,t,hkey⟩:=hk y (Array.mem_toList_iff.mp hy)
   simp [DictEntry.refKey,hkey]
  have a' : ¬ es.toList.any (·.refKey) = true:=by rw [a]; exact Bool.false_ne_true
  rw [if_neg a']
  exact congrArg some e
section
variable {prog : Program} {w : World} {A : Around} {E : Value->Shared->Prop} {s : Shared} {K : PySem.W.Frag} {x dx C f : Addr} {mA : Str->Option Value} {name : Str} {v : Value}
end
theorem RelO.some_of {v : V} {o : Option Value} (r : RelO (some v) o) : ∃ u,o = some u/\RelV v u:=by
 cases o with
 | none=>exact (show False from r).elim
 | some u=>exact ⟨u,rfl,r⟩
theorem ztp {v : V} {u : Value} (r : RelV v u) : PySem.W.handedIn u = true:=by
 cases v with
 | non=>cases (show u = Value.none from r); rfl
 | bl b=>cases (show u = Value.bool b from r); rfl
 | int i=>obtain ⟨t,e⟩:=(show ∃ t,u = Value.int i t from r); cases e; rfl
 | str x=>obtain ⟨t,e⟩:=(show ∃ t,u = Value.str x t from r); cases e; rfl
 | byt b=>obtain ⟨t,e⟩:=(show ∃ t,u = Value.bytes b t from r); cases e; rfl
 | flt b=>obtain ⟨t,e⟩:=(show ∃ t,u = Value.float b t from r); cases e; rfl
 | ref a=>cases (show u = Value.ref a from r); rfl
 | ty n=>cases (show u = Value.type n from r); rfl
structure Cls (K : PySem.W.Frag) (C : Addr) : Prop where
 pg : PySem.W.plainGet K C Str.empty = true
 hd : PySem.W.hasDictIn K C = true
 po : PySem.W.plainOver K C = true
 sa : PySem.W.findIn K (.ref C) "__setattr__" = some (some (.builtin "object.__setattr__"))
noncomputable def zsq (K : PySem.W.Frag) (C : Addr) (f : Str) : Prop:=PySem.W.findIn K (.ref C) f = some none
structure Con (K : PySem.W.Frag) (C : Addr) (f : Str) (v : V) (u : Value) : Prop where
 at_ : PySem.W.findIn K (.ref C) f = some (some u)
 rel : RelV v u
 get : PySem.W.specialIn K u "__get__" = some none
 cp : PySem.W.copiedNames.contains f = false
structure Meth (K : PySem.W.Frag) (C : Addr) (m : Str) (f : Addr) : Prop where
 at_ : PySem.W.findIn K (.ref C) m = some (some (.ref f))
 fn : PySem.W.isFn K (.ref f) = true
 kp : PySem.W.keepIn K (.ref f) = true
section
variable {X : Cx} {pins : List (Addr × Obj)} {σ : St} {H : Hp} {s : Shared} {a C dx : Addr} {fs : List (Str × V)} {f : Str} {v : V} {A : Around} {E : Value->Shared->Prop}
theorem zx9 {prog : Program} {w : World} {env : Env} {e : Expr} {f : Str} {pos : Pos} {s : Shared} {Q : Value->Shared->Prop} (hb : attributeBase e f env (eval e env) = eval e env)
  (h : wpAny (model prog w) A (eval e env) (fun o s₁=>wpAny (model prog w) A (getAttr o f true) Q E s₁) E s) : wpAny (model prog w) A (eval (.Attribute e f pos) env) Q E s :=
 Attribute_any_ h (by rw [arm_eval_Attribute,hb])
end
section
variable {X : Cx} {pins : List (Addr × Obj)} {σ : St} {H : Hp} {s : Shared} {A : Around} {E : Value->Shared->Prop} {Q : Value->Shared->Prop} {c : Value} {b : Bool}
inductive TyOf (K : PySem.W.Frag) (H : Hp) : V->Value->Prop where
 | non : TyOf K H .non (.type "NoneType")
 | bl (x : Bool) : TyOf K H (.bl x) (.type "bool")
 | int (i : Int) : TyOf K H (.int i) (.type "int")
 | str (x : Str) : TyOf K H (.str x) (.type "str")
 | flt (x : UInt64) : TyOf K H (.flt x) (.type "float")
 | lst {a : Addr} {xs : List V} (e : H a = some (.lst xs)) : TyOf K H (.ref a) (.type "list")
 | frz {a : Addr} {o : Obj} {xs : List V} (e : H a = some (.frz o (.lst xs))) : TyOf K H (.ref a) (.type "list")
 | tup {a : Addr} {xs : List V} (e : H a = some (.tup xs)) : TyOf K H (.ref a) (.type "tuple")
 | dK {a : Addr} {kvs : List (Key × V)} (e : H a = some (.dK kvs)) : TyOf K H (.ref a) (.type "dict")
 | dT {a : Addr} {kvs : List (List Key × V)} (e : H a = some (.dT kvs)) : TyOf K H (.ref a) (.type "dict")
 | ins {a C dx : Addr} {fs : List (Str × V)} (e : H a = some (.ins C dx fs)) (cl : Cls K C) (ha : PySem.W.findIn K (.ref C) "__class__" = some (some (.builtin "object.__class__")))
   (hn : PySem.W.specialIn K (.builtin "object.__class__") "__get__" = some (some (.builtin "getset_descriptor.__get__"))) (htk : PySem.W.takesIn K (.builtin "object.__class__") = some true)
   (hm : PySem.W.mroIn K C (.type "object") = some true) : TyOf K H (.ref a) (.ref C)
end
end L2
namespace L2
open PySem PySem.Spec PyProof.Rows
structure Room (k : Nat) (A : Around) : Prop where
 hd : A.handled = none
 dp : A.depth + 3 * k + 5 < recursionLimit
 un : A.units + 16 * k + 200 < cLine
 gd : A.guards = some []
theorem Room.mono {j k : Nat} {A : Around} (r : Room k A) (h : j <= k) : Room j A:=⟨r.hd,by have:=r.dp; lia,by have:=r.un; lia,r.gd⟩
theorem Room.deeper {k : Nat} {A : Around} (r : Room (k + 1) A) (env : Env) : Room k (A.deeper env) :=
 ⟨r.hd,by have:=r.dp; show A.depth + 1 + 3 * k + 5 < _; lia,by have:=r.un; show A.units + 3 + 16 * k + 200 < _; lia,r.gd⟩
theorem zo5 {A : Around} {C : Addr} {us : List Value} {kw : List (Str × Value)} : (A.under (.builtin "type.__call__" ⟨.ref C::us,kw⟩)).depth = A.depth + 1:=by
 first | rfl | simp [Around.under,Code.weight,Code.isCreation,Code.isGuard,Code.isCaller,Code.frames,Code.isFrame,guardIds]
theorem zpg {A : Around} {C : Addr} {us : List Value} {kw : List (Str × Value)} : (A.under (.builtin "type.__call__" ⟨.ref C::us,kw⟩)).units = A.units + 1:=by
 first | rfl | simp [Around.under,Code.cUnits,Code.frames,Code.isFrame]
theorem Room.make {k : Nat} {A : Around} (r : Room (k + 1) A) (C : Addr) (us : List Value) (kw : List (Str × Value)) : Room k (A.under (.builtin "type.__call__" ⟨.ref C::us,kw⟩)) :=
 ⟨r.hd,by have:=r.dp; rw [zo5]; lia,by have:=r.un; rw [zpg]; lia,r.gd⟩
theorem Room.depth {k : Nat} {A : Around} (r : Room k A) : A.depth < recursionLimit:=by have:=r.dp; lia
theorem Room.units {k : Nat} {A : Around} (r : Room k A) : A.units + 64 < cLine:=by have:=r.un; lia
noncomputable def tNil : TA:=fun _ H Q=>Q [] H
noncomputable def zbh (ta : TE) (tr : TA) : TA:=fun σ H Q=>ta σ H fun x H1=>tr σ H1 fun xs H2=>Q (x::xs) H2
section
variable {X : Cx} {e : Expr} {es : List Expr} {te : TE} {t : TA} {pos : Pos}
theorem pa_nil : PA X [] tNil:=fun _ _ _ _ H Q I h=>Calls.spliced_nil ⟨[],H,I,.nil,h⟩
theorem pa_cons (ha : PE X e te) (hr : PA X es t) (hs : starEach (e::es) X.env = (false,eval e X.env)::starEach es X.env:=by rfl) : PA X (e::es) (zbh te t):=by
 intro pos pins s σ H Q I h
 rw [hs]
 show wpAny _ _ (spliced ((false,eval e X.env)::backTo pos (starEach es X.env))) _ _ s
 refine Calls.spliced_cons (thn (ha pins s σ H _ I h) fun u s1 hz9=>?_)
 obtain ⟨x,H1,I1,r1,q1⟩:=hz9
 refine thn (hr pos pins s1 σ H1 _ I1 q1) fun us s2 hz9=>?_
 obtain ⟨xs,H2,I2,r2,q2⟩:=hz9
 exact ⟨x::xs,H2,I2,.cons r1 r2,q2⟩
noncomputable def tTup (t : TA) : TE:=fun σ H Q=>t σ H fun xs H1=>xs.length <= sizeLine /\ ∀ p,H1 p = none->Q (.ref p) (upd H1 p (.tup xs))
noncomputable def tLst (t : TA) : TE:=fun σ H Q=>t σ H fun xs H1=>xs.length <= sizeLine /\ ∀ p,H1 p = none->Q (.ref p) (upd H1 p (.lst xs))
theorem ze1 {x1} (h : PA X es t) : PE X (.Tuple es x1 pos) (tTup t):=by
 intro pins s σ H Q I hq
 refine wpAny_Tuple_spliced (thn (h pos pins s σ H _ I hq) fun us s1 ⟨xs,H1,I1,r,z,q⟩=>⟨by rw [<- r.length]; exact z,?_⟩)
 have hf : H1 s1.heap.objs.size = none:=I1.hok.fresh (Nat.le_refl _)
 refine ⟨.ref s1.heap.objs.size,upd H1 s1.heap.objs.size (.tup xs),I1.laid (t':=s1.toks) (fun b u e=>Heap.get?_push_of_some _ e) (Nat.le_refl _) ?_,rfl,q _ hf⟩
 exact ⟨z,us,r,⟨_,Heap.get?_push_size _ rfl,rfl,_,rfl⟩⟩
theorem zdh (h : PA X es t) : PE X (.List es pos) (tLst t):=by
 intro pins s σ H Q I hq
 refine wpAny_List_spliced (thn (h pos pins s σ H _ I hq) fun us s1 ⟨xs,H1,I1,r,z,q⟩=>⟨by rw [<- r.length]; exact z,?_⟩)
 have hf : H1 s1.heap.objs.size = none:=I1.hok.fresh (Nat.le_refl _)
 refine ⟨.ref s1.heap.objs.size,upd H1 s1.heap.objs.size (.lst xs),I1.laid (t':=s1.toks) (fun b u e=>Heap.get?_push_of_some _ e) (Nat.le_refl _) ?_,rfl,q _ hf⟩
 exact ⟨z,us,0,r,Heap.get?_push_size _ rfl⟩
end
noncomputable abbrev Sp:=List V->Hp->VK->XK->Prop
noncomputable abbrev CXT:=List Env->Hp->Shared->XK->Value->Shared->Prop
structure Env0 (P : Program) (w : World) (K : PySem.W.Frag) (mg : Str->Option Value) (base : Heap) (A : Around) (outer : List Env) (s : Shared) (H : Hp) : Prop where
 frames : A.frames = some outer
 mod : Mod K mg base
 bs : ∀ b o,base.get? b = some o->s.heap.get? b = some o/\H b = none
 bsz : base.objs.size <= s.heap.objs.size
 funs : s.heap.FunFrames base outer
 frf : ∀ b∈frs outer,H b = none
 hok : HOk P w H s.heap
 bare : AllBare s.gens
noncomputable def CE (outer : List Env) (P : Program) (w : World) (H : Hp) (s : Shared) (Q : VK) (u : Value) (s' : Shared) : Prop :=
 ∃ v H',s'.os = s.os/\AllBare s'.gens/\Un (frs outer) [] H H' s.heap s'.heap/\HOk P w H' s'.heap/\RelV v u/\Q v H'
noncomputable def CR (CX : CXT) (outer : List Env) (P : Program) (w : World) (H : Hp) (s : Shared) (Q : VK) (E : XK) (r : Result) (s' : Shared) : Prop :=
 match r with
 | .ok (.ret u)=>CE outer P w H s Q u s'
 | .ok _=>False
 | .error e=>CX outer H s E e s'
structure FnOk (P : Program) (w : World) (K : PySem.W.Frag) (mg : Str->Option Value) (base : Heap) (CX : CXT) (k : Nat) (f : Addr) (fd : FuncData) (ps : List Str) (sp : Sp) : Prop where
 len : ∀ vs H Q E,sp vs H Q E->vs.length = ps.length
 run : ∀ (A : Around) (outer : List Env) (s : Shared) (H : Hp) (args : Args) (us : List Value) (vs : List V) (Q : VK) (E : XK),Room k A->Env0 P w K mg base A outer s H->BindsTo s fd args (ps.zip us)->Vals vs us->sp vs H Q E ->
  codeAny (model P w) A (.call (.ref f) args) (CR CX outer P w H s Q E) s
theorem FnOk.mono {P : Program} {w : World} {K : PySem.W.Frag} {mg : Str->Option Value} {base : Heap} {CX : CXT} {j k : Nat} {f : Addr} {fd : FuncData} {ps : List Str} {sp : Sp} (F : FnOk P w K mg base CX j f fd ps sp) (h : j <= k) :
  FnOk P w K mg base CX k f fd ps sp:=⟨F.len,fun A outer s H args us vs Q E hr=>F.run A outer s H args us vs Q E (hr.mono h)⟩
theorem Env0.make {P : Program} {w : World} {K : PySem.W.Frag} {mg : Str->Option Value} {base : Heap} {A : Around} {outer : List Env} {s : Shared} {H : Hp} (e : Env0 P w K mg base A outer s H) (C : Addr) (us : List Value) (kw : List (Str × Value)) :
  Env0 P w K mg base (A.under (.builtin "type.__call__" ⟨.ref C::us,kw⟩)) outer s H:=⟨by first | exact e.frames | (simpa [Around.under,Code.envs,Code.isFrame,pushEnvs] using e.frames),e.mod,e.bs,e.bsz,e.funs,e.frf,e.hok,e.bare⟩
section
variable {X : Cx} {pins : List (Addr × Obj)} {σ : St} {H : Hp} {s s' : Shared}
theorem Inv.env0 (I : Inv X pins σ H s) : Env0 X.prog X.w X.K X.mg X.base X.A X.stack s H :=
 ⟨I.ok.frames,I.ok.mod,I.bs,Nat.le_trans I.ok.bsz I.sz,I.stack,I.stkFree,I.hok,I.bare⟩
theorem Inv.after {Q : VK} {u : Value} (I : Inv X pins σ H s) (h : CE X.stack X.prog X.w H s Q u s') : EP X pins σ Q u s':=by
 obtain ⟨v,H',os,bare,un,hok,r,q⟩:=h
 obtain ⟨hh,g,d,t,os'⟩:=s'
 obtain rfl : os' = s.os:=os
 exact ⟨v,H',I.call (h':=hh) (g':=g) (d':=d) (t':=t) (ch:=[]) un hok bare (fun b z=>absurd z (by simp)),r,q⟩
end
noncomputable def zhg (sp : Sp) (dvs : List V) (E : XK) (t : TA) : TE:=fun σ H Q=>t σ H fun vs H1=>sp (vs++dvs) H1 Q E
noncomputable def zcp (K : PySem.W.Frag) (fd : FuncData) (ps : List Str) (ds : List Value) : Prop :=
 ∀ (s : Shared) (us : List Value),K.In s.heap->(us++ds).length = ps.length->BindsTo s fd ⟨us,[]⟩ (ps.zip (us++ds))
theorem zcp.all {K : PySem.W.Frag} {fd : FuncData} {ps : List Str} (h : ∀ us : List Value,us.length = ps.length->bindArgs fd ⟨us,[]⟩ = pure (ps.zip us)) : zcp K fd ps []:=fun s us _ hl=>by
 rw [List.append_nil] at hl ⊢
 exact .of_eq (h us hl)
noncomputable def zlj (CX : CXT) (X : Cx) (E : XK) : Prop:=∀ (pins : List (Addr × Obj)) (σ : St) (H : Hp) (s : Shared) (e : Value) (s' : Shared),Inv X pins σ H s->CX X.stack H s E e s'->X.xe e s'
section
variable {X : Cx} {CX : CXT} {k : Nat} {f C : Addr} {fd : FuncData} {ps : List Str} {sp : Sp} {dvs : List V} {ds : List Value} {E : XK} {x m : Str} {p pos apos : Pos} {e o : Expr} {es : List Expr} {ta : TE} {t : TA}
theorem zy7 {pins : List (Addr × Obj)} {σ : St} {H : Hp} {s : Shared} {Q : VK} {us : List Value} {vs : List V} (F : FnOk X.prog X.w X.K X.mg X.base CX k f fd ps sp) (hr : Room k X.A) (hb : zcp X.K fd ps ds) (hd : Vals dvs ds) (hx : zlj CX X E)
  (I : Inv X pins σ H s) (r : Vals vs us) (h : sp (vs++dvs) H Q E) : wpAny (model X.prog X.w) X.A (call (.ref f) us) (EP X pins σ Q) X.xe s:=by
 have r2 : Vals (vs++dvs) (us++ds):=r.append hd
 have hl : (us++ds).length = ps.length:=by rw [<- r2.length]; exact F.len _ _ _ _ h
 refine wpAny_call (codeAny_mono (F.run X.A X.stack s H ⟨us,[]⟩ (us++ds) (vs++dvs) Q E hr I.env0 (hb s us I.kIn hl) r2 h) fun r s' hq=>?_)
 cases r with
 | error e=>exact hx pins σ H s e s' I hq
 | ok fl =>
  cases fl with
  | ret u=>exact I.after hq
  | next=>exact False.elim hq
  | brk=>exact False.elim hq
  | cont=>exact False.elim hq
theorem za0 (F : FnOk X.prog X.w X.K X.mg X.base CX k f fd ps sp) (hr : Room k X.A) (hg : Gl X x) (hm : X.mg x = some (.ref f)) (hk : PySem.W.keepIn X.K (.ref f) = true) (hb : zcp X.K fd ps ds) (hd : Vals dvs ds) (hx : zlj CX X E)
  (ha : PA X (e::es) t) (hdb : (x == ("__debug__" : Str)) = false:=by decide) (he : starEach (e::es) X.env = (false,eval e X.env)::starEach es X.env:=by rfl) (hpl : (backTo pos (starEach es X.env)).any (·.1) = false:=by rfl) :
  PE X (.Call (.Name x p) (e::es) [] pos) (zhg sp dvs E t):=by
 intro pins s σ H Q I h
 refine wpAny_Call_Name_kw (zhh I hg hm ?_ hdb)
 refine PySem.W.callWith_K (h₀:=X.base) I.ok.mod.kin hk (thn (ha pos pins s σ H _ I h) fun us s1 ⟨vs,H1,I1,r,q⟩=>⟨I1.kIn,?_⟩) he hpl
 exact zy7 F hr hb hd hx I1 r q
structure Mk (K : PySem.W.Frag) (C f : Addr) : Prop where
 makes : PySem.W.makesIn K C = true
 init : PySem.W.findIn K (.ref C) "__init__" = some (some (.ref f))
 fn : PySem.W.isFn K (.ref f) = true
 kp : PySem.W.keepIn K (.ref C) = true
end
section
variable {X : Cx} {CX : CXT} {k : Nat} {f C : Addr} {fd : FuncData} {ps ks : List Str} {sp : Sp} {E : XK} {x m : Str} {p pos apos kpos : Pos} {e o : Expr} {es : List Expr} {kws : List Keyword} {te ta : TE} {t tk : TA} {nm : Option Str}
structure KBinds (K : PySem.W.Frag) (fd : FuncData) (ps ks : List Str) (g : List Value->List Value->List Value) (gV : List V->List V->List V) : Prop where
 to : ∀ (s : Shared) (us ws : List Value),K.In s.heap->(g us ws).length = ps.length->BindsTo s fd ⟨us,ks.zip ws⟩ (ps.zip (g us ws))
 rel : ∀ {vs : List V} {us : List Value} {zs : List V} {ws : List Value},Vals vs us->Vals zs ws->Vals (gV vs zs) (g us ws)
variable {g : List Value->List Value->List Value} {gV : List V->List V->List V}
end
structure FnScope (N P : List Str) (sc : Scope) : Prop where
 kind : sc.kind = .function
 co : sc.isCoroutine = false
 gen : sc.isGenerator = false
 nd : N.Nodup
 pre : N.take P.length = P
 par : ∀ x∈P,sc.names.lookup x = some .local \/ sc.names.lookup x = some .cell
 nofree : ∀ y∈sc.names,y.2 ≠ .free
theorem zks {kindOf : Str->Option NameKind} {x : Str} : ∀ {binds : List (Str × Value)} {m : Str->Option Value},(∀ v,(x,v) ∉ binds)->bindL kindOf binds m x = m x
 | [],_,_=>rfl
 | (n,v)::r,m,h=>by
  unfold bindL
  rw [zks fun w hw=>h w (List.mem_cons_of_mem _ hw)]
  split
  ·have : x≠n:=by rintro rfl; exact h v List.mem_cons_self
   simp [this]
  ·rfl
theorem zkw {kindOf : Str->Option NameKind} {x : Str} : ∀ {binds : List (Str × Value)} {m : Str->Option Value},(∀ v,(x,v) ∉ binds)->bindC kindOf binds m x = m x
 | [],_,_=>rfl
 | (n,v)::r,m,h=>by
  unfold bindC
  rw [zkw fun w hw=>h w (List.mem_cons_of_mem _ hw)]
  split
  ·rfl
  ·have : x≠n:=by rintro rfl; exact h v List.mem_cons_self
   simp [this]
theorem zk9 {kindOf : Str->Option NameKind} {x : Str} {v : Value} : ∀ {P : List Str} {vs : List Value} {i : Nat} {m : Str->Option Value},P.Nodup->P[i]? = some x->vs[i]? = some v->kindOf x = some .local ->
  bindL kindOf (P.zip vs) m x = some v
 | [],_,_,_,_,h,_,_=>by simp at h
 | _::_,[],_,_,_,_,h,_=>by simp at h
 | p::P,w::vs,0,m,nd,h1,h2,hk=>by
  simp at h1 h2; subst h1; subst h2
  show bindL kindOf ((p,w)::P.zip vs) m p = _
  unfold bindL
  rw [zks fun v hv=>(List.nodup_cons.mp nd).1 (List.of_mem_zip hv).1,if_pos hk]
  simp
 | p::P,w::vs,i + 1,m,nd,h1,h2,hk=>by
  show bindL kindOf ((p,w)::P.zip vs) m x = _
  unfold bindL
  exact zk9 (i:=i) (List.nodup_cons.mp nd).2 (by simpa using h1) (by simpa using h2) hk
theorem zkj {kindOf : Str->Option NameKind} {x : Str} {v : Value} : ∀ {P : List Str} {vs : List Value} {i : Nat} {m : Str->Option Value},P.Nodup->P[i]? = some x->vs[i]? = some v->kindOf x≠some .local ->
  bindC kindOf (P.zip vs) m x = some v
 | [],_,_,_,_,h,_,_=>by simp at h
 | _::_,[],_,_,_,_,h,_=>by simp at h
 | p::P,w::vs,0,m,nd,h1,h2,hk=>by
  simp at h1 h2; subst h1; subst h2
  show bindC kindOf ((p,w)::P.zip vs) m p = _
  unfold bindC
  rw [zkw fun v hv=>(List.nodup_cons.mp nd).1 (List.of_mem_zip hv).1,if_neg hk]
  simp
 | p::P,w::vs,i + 1,m,nd,h1,h2,hk=>by
  show bindC kindOf ((p,w)::P.zip vs) m x = _
  unfold bindC
  exact zkj (i:=i) (List.nodup_cons.mp nd).2 (by simpa using h1) (by simpa using h2) hk
noncomputable def start (N : List Str) (vs : List V) : St:=vs.map some++List.replicate (N.length - vs.length) none
noncomputable def cxOf (CX : CXT) (P : Program) (w : World) (K : PySem.W.Frag) (mg : Str->Option Value) (base : Heap) (N : List Str) (qual : Str) (scope : Scope) (f : Addr) (cd : Value) (A : Around) (outer : List Env) (s : Shared) (H : Hp) (E : XK) : Cx where
 prog:=P
 w:=w
 K:=K
 mg:=mg
 base:=base
 A:=A.deeper (envOfC qual scope s.heap.objs.size f cd)
 N:=N
 s₀:=s
 H₀:=H
 env:=envOfC qual scope s.heap.objs.size f cd
 outer:=outer
 stack:=envOfC qual scope s.heap.objs.size f cd::outer
 ex:=[]
 calm:=true
 fn:=fun _=>true
 pn:=[]
 xe:=fun e s'=>wpAny (model P w) (A.deeper (envOfC qual scope s.heap.objs.size f cd)) (leaving (envOfC qual scope s.heap.objs.size f cd) e) (fun _ s''=>CX outer H s E e s'') (fun e' s''=>CX outer H s E e' s'') s'
theorem zoh {sc : Scope} {n : Nat} {x : Str} (h : sc.names.lookup x = some .cell) : ∃ c,(cellsFrom n sc.names []).lookup x = some c:=by
 have q:=PySem.W.cellsFrom_some sc.names n [] (.inl h)
 exact Option.isSome_iff_exists.mp q
theorem zp9 {CX : CXT} {P : Program} {w : World} {K : PySem.W.Frag} {mg : Str->Option Value} {base : Heap} {N ps : List Str} {qual : Str} {scope : Scope} {f : Addr} {cd : Value} {A : Around} {outer : List Env} {s s1 : Shared} {H : Hp} {E : XK} {us : List Value} {vs : List V}
  (S : FnScope N ps scope) (hd : A.handled = none) (e0 : Env0 P w K mg base A outer s H) (hl : vs.length = ps.length) (r : Vals vs us)
  (x : InCallC s s.heap.objs.size (bindL (envOfC qual scope s.heap.objs.size f cd).kindOf (ps.zip us) fun _=>none) (cellsFrom (s.heap.objs.size + 1) scope.names []) (bindC (envOfC qual scope s.heap.objs.size f cd).kindOf (ps.zip us) fun _=>none) s1) :
  Inv (cxOf CX P w K mg base N qual scope f cd A outer s H E) [] (start N vs) H s1:=by
 have hpl : ps.length <= N.length:=by have:=congrArg List.length S.pre; rw [List.length_take] at this; lia
 obtain ⟨h1,tk,rfl,hk⟩:=x.done
 have noA : ∀ b : Addr,b ∉ (cxOf CX P w K mg base N qual scope f cd A outer s H E).ex:=fun b z=>absurd (show b∈([] : List Addr) from z) (by simp)
 refine ⟨⟨e0.mod,S.kind,rfl,rfl,Nat.le_refl _,fun y z c h1 h2=>?_,fun y hy=>?_,fun y c _ h=>?_,fun _=>hd,Around.frames_deeper e0.frames,.inr ⟨rfl,rfl⟩,fun b z=>absurd z (noA b),e0.bs,e0.bsz,fun b _ _=>noA b,fun b z=>absurd z (noA b),e0.funs,e0.frf⟩,
  rfl,e0.bare,Un.kept hk,⟨_,x.toInCall.ns,fun i y v h1 h2 h3=>?_⟩,fun y c h=>⟨_,x.cell y c h⟩,e0.hok.fresh (Nat.le_refl _),fun y c h=>?_,fun p hp=>absurd (show p∈([] : List (Addr × Obj)) from hp) (by simp),e0.hok.kept hk,?_⟩
 ·exact name_of_addr x.apart (PySem.mem_of_lookup h1) (PySem.mem_of_lookup h2)
 ·have hy : scope.names.lookup y = some .cell \/ scope.names.lookup y = some .free:=hy
  rcases hy with hy | hy
  ·exact zoh hy
  ·exact absurd rfl (S.nofree _ (PySem.mem_of_lookup hy))
 ·exact Nat.le_of_lt (x.above y c (PySem.mem_of_lookup h))
 ·have hi : i < vs.length:=by
   unfold start at h2
   by_cases hi : i < vs.length
   ·exact hi
   ·rw [List.getElem?_append_right (by simpa using hi)] at h2
    rw [List.getElem?_replicate] at h2
    split at h2 <;> cases h2
  have ha : vs[i]? = some v:=by
   unfold start at h2
   rw [List.getElem?_append_left (by simpa using hi),List.getElem?_map] at h2
   cases e : vs[i]? with
   | none=>rw [e] at h2; cases h2
   | some a=>rw [e] at h2; cases h2; rfl
  obtain ⟨u,hu,rv⟩:=r.get ha
  have hp : ps[i]? = some y:=by
   rw [<- S.pre,List.getElem?_take_of_lt (by lia)]; exact h1
  have ndP : ps.Nodup:=by rw [<- S.pre]; exact S.nd.sublist (List.take_sublist _ _)
  refine ⟨u,rv,?_⟩
  rcases S.par y (List.mem_of_getElem? hp) with k | k
  ·exact .inl ⟨k,zk9 ndP hp hu k⟩
  ·obtain ⟨c,e⟩:=zoh (n:=s.heap.objs.size + 1) k
   refine .inr ⟨.inl k,c,e,?_⟩
   have q:=x.cell y c e
   rw [zkj ndP hp hu (by show scope.names.lookup y≠_; rw [k]; decide)] at q
   exact q
 ·exact e0.hok.fresh (Nat.le_of_lt (x.above y c (PySem.mem_of_lookup h)))
 ·unfold start
  show _ = N.length
  rw [List.length_append,List.length_map,List.length_replicate]
  lia
theorem zyx {CX : CXT} {P : Program} {w : World} {K : PySem.W.Frag} {mg : Str->Option Value} {base : Heap} {k : Nat} {f : Addr} {name qual : Str} {params : Arguments} {body : List Stmt} {scope : Scope} {dV kV doc pm cdv ct oc : Value} {an od : Option Addr}
  {osl : Array (Option Value)} {N ps : List Str} {sp : Sp} (lk : K.lookup f = some ⟨oc,od,.func (PySem.W.fnOf name qual params body scope dV kV doc pm an cdv ct),osl⟩) (hcd : PySem.W.codeIn K cdv qual = true) (S : FnScope N ps scope)
  (len : ∀ vs H Q E,sp vs H Q E->vs.length = ps.length)
  (hbody : ∀ (A : Around) (outer : List Env) (s : Shared) (H : Hp) (vs : List V) (Q : VK) (E : XK),Room k (A.deeper (envOfC qual scope s.heap.objs.size f cdv))->sp vs H Q E ->
   ∃ t,PSs (cxOf CX P w K mg base N qual scope f cdv A outer s H E) body t/\t { nx:=fun _ H'=>Q .non H',rt:=Q } (start N vs) H) :
  FnOk P w K mg base CX (k + 1) f (PySem.W.fnOf name qual params body scope dV kV doc pm an cdv ct) ps sp:=by
 refine ⟨len,fun A outer s H args us vs Q E hr e0 hb r hsp=>?_⟩
 have hl:=len _ _ _ _ hsp
 have KX : K.In s.heap:=e0.mod.kin.keeps fun b o e=>(e0.bs b o e).1
 have lim : s.heap.NoLimit:=e0.mod.nolimit.keeps fun b o e=>(e0.bs b o e).1
 have hkind : ∀ y∈ps.zip us,scope.names.lookup y.1 = some .local \/ (scope.names.lookup y.1 = some .cell/\((cellsFrom (s.heap.objs.size + 1) scope.names []).lookup y.1).isSome = true):=fun ⟨n,v⟩ hy=>by
  rcases S.par n (List.of_mem_zip hy).1 with q | q
  ·exact .inl q
  ·exact .inr ⟨q,PySem.W.cellsFrom_some _ _ _ (.inl q)⟩
 refine codeAny_call_function hr.depth (KX _ _ lk) rfl S.co S.gen rfl (PySem.W.codeRec_of KX hcd) (hb _ _ _ _ ?_)
 refine wpAny_newFunctionEnv_cells S.kind hkind fun env he s1 x=>?_
 subst he
 refine ⟨lim.keeps x.toInCall.keep,codeAny_func ?_⟩
 obtain ⟨t,ht,hq⟩:=hbody A outer s H vs Q E (hr.deeper _) hsp
 have I : Inv (cxOf CX P w K mg base N qual scope f cdv A outer s H E) [] (start N vs) H s1:=zp9 S hr.hd e0 hl r x
 refine wpAny_mono (ht [] s1 (start N vs) H _ I hq) (fun fl s' hs=>?_) fun e s' hs=>hs
 have fin : ∀ {σ' : St} {H' : Hp} {v : V} {u : Value},Inv (cxOf CX P w K mg base N qual scope f cdv A outer s H E) [] σ' H' s'->RelV v u->Q v H'->CE outer P w H s Q u s' :=
  fun {σ' H' v u} J rv q=>⟨v,H',J.os,J.bare,J.base,J.hok,rv,q⟩
 cases fl with
 | ret u =>
  obtain ⟨v,σ',H',J,rv,q⟩:=hs
  exact fin J rv q
 | next =>
  obtain ⟨σ',H',J,q⟩:=hs
  exact fin (v:=V.non) (u:=Value.none) J rfl q
 | brk =>
  obtain ⟨_,_,_,q⟩:=hs
  exact False.elim q
 | cont =>
  obtain ⟨_,_,_,q⟩:=hs
  exact False.elim q
end L2
namespace L2
open PySem PySem.Spec PyProof.Rows
section
variable {X : Cx} {x : Str} {p pos : Pos} {e : Expr} {es : List Expr} {t : TA} {id T : String} {r : List V->Hp->VK->Prop}
noncomputable def tCB (r : List V->Hp->VK->Prop) (t : TA) : TE:=fun σ H Q=>t σ H fun vs H1=>r vs H1 Q
theorem za5 (hc : zcg X (.builtin id) r) (hg : Gl X x) (hm : X.mg x = none) (hv : bootBuiltins x = some (.builtin id)) (ha : PA X (e::es) t) (hn : x ≠ "__name__" := by decide) (hdb : (x == ("__debug__" : Str)) = false:=by decide)
  (he : starEach (e::es) X.env = (false,eval e X.env)::starEach es X.env:=by rfl) (hpl : (backTo pos (starEach es X.env)).any (·.1) = false:=by rfl) : PE X (.Call (.Name x p) (e::es) [] pos) (tCB r t):=by
 intro pins s σ H Q I h
 refine wpAny_Call_Name_kw (zhr I hg hm hv ?_ hn hdb)
 exact PyProof.Rows.callWith_builtin1 (thn (ha pos pins s σ H _ I h) fun us s1 ⟨vs,H1,I1,r1,q1⟩=>hc pins s1 σ H1 vs us Q I1 r1 q1) he hpl
theorem zdv (hc : zcg X (.type T) r) (hg : Gl X x) (hm : X.mg x = none) (hv : bootBuiltins x = some (.type T)) (ha : PA X (e::es) t) (hn : x ≠ "__name__" := by decide) (hdb : (x == ("__debug__" : Str)) = false:=by decide)
  (he : starEach (e::es) X.env = (false,eval e X.env)::starEach es X.env:=by rfl) (hpl : (backTo pos (starEach es X.env)).any (·.1) = false:=by rfl) : PE X (.Call (.Name x p) (e::es) [] pos) (tCB r t):=by
 intro pins s σ H Q I h
 refine wpAny_Call_Name_kw (zhr I hg hm hv ?_ hn hdb)
 exact PyProof.Rows.callWith_type1 (thn (ha pos pins s σ H _ I h) fun us s1 ⟨vs,H1,I1,r1,q1⟩=>hc pins s1 σ H1 vs us Q I1 r1 q1) he hpl
end
end L2
namespace HT
open PySem PyProof.Rows
section
open PySem.SeqAt
open PySem.AutoSeq1 (wpAny_loadPart')
open PySem.MeetsSeq PySem.MeetsSeq2 PySem.MeetsSeq3
end
section
variable {prog : Program} {w : World} {A : Around} {E : Value->Shared->Prop} {s : Shared}
noncomputable def sIx (n d : Nat) : Option Int->Nat
 | none=>d
 | some v=>if v < 0 then (v + (n : Int)).toNat else min v.toNat n
end
end HT
namespace L2
open PySem PySem.Spec PyProof.Rows
noncomputable abbrev TO:=St->Hp->(Option Int->Hp->Prop)->Prop
noncomputable def PO (X : Cx) (e : Option Expr) (t : TO) : Prop :=
 ∀ (pins : List (Addr × Obj)) (s : Shared) (σ : St) (H : Hp) (Q : Option Int->Hp->Prop),Inv X pins σ H s->t σ H Q ->
  wpAny (model X.prog X.w) X.A (evalPart e X.env) (fun u s'=>∃ o H',Inv X pins σ H' s'/\IsPart u o/\Q o H') X.xe s
noncomputable def zze (t : TE) : TO:=fun σ H Q=>t σ H fun x H1=>∃ i,x = .int i/\Q (some i) H1
section
variable {X : Cx} {e : Expr} {te : TE} {lo hi : Option Expr} {tl th : TO} {pos p2 : Pos}
theorem ztr (h : PE X e te) : PO X (some e) (zze te):=by
 intro pins s σ H Q I hw
 rw [evalPart_some]
 refine thn (h pins s σ H _ I hw) fun u s1 hz9=>?_
 obtain ⟨x,H1,I1,r1,q1⟩:=hz9
 obtain ⟨i,rfl,q⟩:=q1
 obtain ⟨t,rfl⟩:=r1
 exact ⟨some i,H1,I1,.int i t,q⟩
noncomputable def SlR (X : Cx) (r : V->Option Int->Option Int->Hp->VK->Prop) : Prop :=
 ∀ (pins : List (Addr × Obj)) (s : Shared) (σ : St) (H : Hp) (x : V) (v vl vu : Value) (lo hi : Option Int) (sl : Addr) (Q : VK),Inv X pins σ H s->RelV x v->s.heap.IsSliceOf sl vl vu .none->IsPart vl lo->IsPart vu hi->r x lo hi H Q ->
  ∃ T id,typeLookup (.type T) "__getitem__" = pure (some (.builtin id))/\s.TypeIs v T/\wpAny (model X.prog X.w) X.A (getItem v (.ref sl)) (EP X pins σ Q) X.xe s
noncomputable def tSl (r : V->Option Int->Option Int->Hp->VK->Prop) (te : TE) (tl th : TO) : TE:=fun σ H Q=>te σ H fun x H1=>tl σ H1 fun l H2=>th σ H2 fun u H3=>r x l u H3 Q
theorem zuo {r : V->Option Int->Option Int->Hp->VK->Prop} (hr : SlR X r) (he : PE X e te) (hl : PO X lo tl) (hu : PO X hi th) : PE X (.Subscript e (.Slice lo hi none p2) pos) (tSl r te tl th):=by
 intro pins s σ H Q I h
 refine Subscript_ (thn (he pins s σ H _ I h) fun v s1 hz9=>?_)
 obtain ⟨x,H1,I1,r1,q1⟩:=hz9
 refine wpAny_Slice (thn (hl pins s1 σ H1 _ I1 q1) fun vl s2 ⟨l,H2,I2,pl,q2⟩=>thn (hu pins s2 σ H2 _ I2 q2) fun vu s3 hz9=>?_)
 obtain ⟨u,H3,I3,pu,q3⟩:=hz9
 rw [evalPart_none]
 refine wpAny_pure ?_
 have I4 : Inv X pins σ H3 { s3 with heap:=s3.heap.push { cls:=.type "slice", data:=.fields #[vl,vu,.none] } }:=I3.kept (t':=s3.toks) fun b ob q=>Heap.get?_push_of_some _ q
 obtain ⟨T,id,hT,ht,hg⟩:=hr pins { s3 with heap:=s3.heap.push { cls:=.type "slice", data:=.fields #[vl,vu,.none] } } σ H3 x v vl vu l u s3.heap.objs.size Q I4 r1 (Heap.IsSliceOf.new ..) pl pu q3
 show wpAny (model X.prog X.w) X.A (subscriptTail e (.Slice lo hi none p2) v (.ref s3.heap.objs.size)) (EP X pins σ Q) X.xe { s3 with heap:=s3.heap.push { cls:=.type "slice", data:=.fields #[vl,vu,.none] } }
 exact tail_any (ops:=[.ref s3.heap.objs.size,v]) ht hT hg (by with_unfolding_all rfl)
noncomputable def cutV (xs : List V) (lo hi : Option Int) : List V:=(xs.drop (HT.sIx xs.length 0 lo)).take (HT.sIx xs.length xs.length hi - HT.sIx xs.length 0 lo)
theorem zmj (xs : List V) (lo hi : Option Int) : (cutV xs lo hi).length <= xs.length:=by
 unfold cutV
 rw [List.length_take,List.length_drop]
 lia
end
end L2
namespace L2
open PySem PySem.Spec PyProof.Rows
noncomputable def ixN (n : Nat) (i : Int) : Option Nat:=if 0 <= i then (if i < n then some i.toNat else none) else if -(n : Int) <= i then some (i + n).toNat else none
noncomputable def atI {α : Type} (xs : List α) (i : Int) : Option α:=(ixN xs.length i).bind fun j=>xs[j]?
theorem zyu {n : Nat} {i : Int} {j : Nat} (h : ixN n i = some j) : seqIndex? i n = some j/\j < n /\ -(n : Int) <= i/\i < n:=by
 unfold ixN at h
 by_cases h0 : 0 <= i
 ·rw [if_pos h0] at h
  by_cases h1 : i < n
  ·rw [if_pos h1] at h
   have e : i.toNat = j:=Option.some.inj h
   exact ⟨by rw [seqIndex_of h0 h1,e],by lia,by lia,h1⟩
  ·rw [if_neg h1] at h; cases h
 ·rw [if_neg h0] at h
  by_cases h1 : -(n : Int) <= i
  ·rw [if_pos h1] at h
   have e : (i + n).toNat = j:=Option.some.inj h
   exact ⟨by rw [seqIndex_neg (by lia) h1,e],by lia,h1,by lia⟩
  ·rw [if_neg h1] at h; cases h
theorem zmb {α : Type} {xs : List α} {i : Int} {v : α} (h : atI xs i = some v) : ∃ j,seqIndex? i xs.length = some j/\xs[j]? = some v/\j < xs.length /\ -(xs.length : Int) <= i/\i < xs.length:=by
 unfold atI at h
 cases e : ixN xs.length i with
 | none=>rw [e] at h; cases h
 | some j =>
  rw [e] at h
  obtain ⟨h1,h2,h3,h4⟩:=zyu e
  exact ⟨j,h1,h,h2,h3,h4⟩
theorem ze6 {α : Type} {xs : List α} {j : Nat} {v : α} (h : xs[j]? = some v) : atI xs (j : Int) = some v:=by
 have hj : j < xs.length:=(List.getElem?_eq_some_iff.mp h).1
 have e : ixN xs.length (j : Int) = some j:=by
  unfold ixN
  rw [if_pos (by lia),if_pos (by lia)]; simp
 unfold atI; rw [e]; exact h
theorem zni {α : Type} (xs : List α) (v : α) : atI (xs++[v]) (-1) = some v:=by
 have hl : (xs++[v]).length = xs.length + 1:=by simp
 have e : ixN (xs++[v]).length (-1) = some xs.length:=by
  unfold ixN
  rw [hl,if_neg (by decide),if_pos (by lia)]
  congr 1
  lia
 unfold atI
 rw [e]
 show (xs++[v])[xs.length]? = some v
 simp
noncomputable def zxv (b : Expr) : Prop:=∀ o i,subscripted b false o i = operate [o,i] (getItem o i)
noncomputable def IxR (X : Cx) (r : R2) : Prop :=
 ∀ (value slice : Expr) (pins : List (Addr × Obj)) (s : Shared) (σ : St) (H : Hp) (x y : V) (v u : Value) (Q : VK),Inv X pins σ H s->RelV x v->RelV y u->r x y H Q ->
  subscripted slice false v u = operate [v,u] (getItem v u)->wpAny (model X.prog X.w) X.A (subscriptTail value slice v u) (EP X pins σ Q) X.xe s
noncomputable def MtR (X : Cx) (id : String) (r : V->List V->Hp->VK->Prop) : Prop :=
 ∀ (pins : List (Addr × Obj)) (s : Shared) (σ : St) (H : Hp) (x : V) (xs : List V) (v : Value) (us : List Value) (Q : VK),Inv X pins σ H s->RelV x v->Vals xs us->r x xs H Q ->
  wpAny (model X.prog X.w) X.A (call (.builtin id) (v::us)) (EP X pins σ Q) X.xe s
section
variable {X : Cx} {a b : Expr} {ta tb : TE} {pos : Pos}
theorem zcq {r : R2} (hr : IxR X r) (ha : PE X a ta) (hb : PE X b tb) (hs : zxv b) : PE X (.Subscript a b pos) (tOp r ta tb):=by
 intro pins s σ H Q I h
 exact Subscript_ (binT ha hb I h fun v u s2 x y H2 I2 rx ry q=>hr a b pins s2 σ H2 x y v u Q I2 rx ry q (hs _ _))
noncomputable def rIxL (K : PySem.W.Frag) : R2:=fun x y H Q=>∃ p xs i v,x = .ref p/\y = .int i/\SqL K H p xs/\atI xs i = some v/\Q v H
noncomputable def rIxT (K : PySem.W.Frag) : R2:=fun x y H Q=>∃ p xs i v,x = .ref p/\y = .int i/\SqT K H p xs/\atI xs i = some v/\Q v H
noncomputable def rIxS : R2:=fun x y H Q=>∃ z i c,x = .str z/\y = .int i/\z.length <= sizeLine/\atI z.cps.toList i = some c/\Q (.str ⟨#[c]⟩) H
theorem zec : IxR X (rIxL X.K):=by
 intro value slice pins s σ H x y v u Q I rx ry h hs
 obtain ⟨p,xs,i,z,rfl,rfl,hq,he,q⟩:=h
 cases rx
 obtain ⟨t,rfl⟩:=ry
 obtain ⟨its,r,pl,hz⟩:=I.list hq
 obtain ⟨j,h1,h2,h3,h4,h5⟩:=zmb he
 obtain ⟨w,ew,rw'⟩:=r.get h2
 have hl:=r.length
 have hn:=zoo
 have fin : EP X pins σ Q w s:=⟨z,H,I,rw',q⟩
 by_cases h0 : 0 <= i
 ·have hj : i.toNat = j:=by
   rw [seqIndex_of h0 h5] at h1
   exact Option.some.inj h1
  exact item_listR pl.isList h0 (by lia) (by rw [hj]; simpa using ew) fin hs
 ·have hj : (i + (its.toArray.size : Int)).toNat = j:=by
   rw [seqIndex_neg (by lia) h4] at h1
   rw [List.size_toArray,<- hl]
   exact Option.some.inj h1
  exact subscriptTail_builtinR (x:=w) pl.isList.typeIs slot_list_getitem.lookup
   (wpAny_getItem_list_neg (Q:=fun r s'=>r = w/\EP X pins σ Q r s') pl.isList (by lia) (by rw [List.size_toArray] <;> lia) (by lia) (by rw [hj]; simpa using ew) ⟨rfl,fin⟩) hs
theorem zcn : IxR X (rIxT X.K):=by
 intro value slice pins s σ H x y v u Q I rx ry h hs
 obtain ⟨p,xs,i,z,rfl,rfl,hq,he,q⟩:=h
 cases rx
 obtain ⟨t,rfl⟩:=ry
 obtain ⟨its,r,pl,hz⟩:=I.tuple hq
 obtain ⟨j,h1,h2,h3,h4,h5⟩:=zmb he
 obtain ⟨w,ew,rw'⟩:=r.get h2
 have hl:=r.length
 have hn:=zoo
 have fin : EP X pins σ Q w s:=⟨z,H,I,rw',q⟩
 exact subscriptTail_builtinR (x:=w) pl.typeIs slot_tuple_getitem.lookup
  (getItem_tuple (j:=j) (Q:=fun r s'=>r = w/\EP X pins σ Q r s') pl (by lia) (by lia) (by rw [List.size_toArray,<- hl]; exact h1) (by simpa using ew) ⟨rfl,fin⟩) hs
theorem zzr : IxR X rIxS:=by
 intro value slice pins s σ H x y v u Q I rx ry h hs
 obtain ⟨z,i,c,rfl,rfl,hz,he,q⟩:=h
 obtain ⟨t,rfl⟩:=rx
 obtain ⟨t',rfl⟩:=ry
 obtain ⟨j,h1,h2,h3,h4,h5⟩:=zmb he
 have hl : z.cps.toList.length = z.length:=by simp [Str.length]
 rw [hl] at h1 h4 h5
 have hn:=zoo
 exact tail_any (typeIs_str s z t) slot_str_getitem.lookup (getItem_str (c:=c) (by
  have e1 : decide (i < -(2 ^ 63 : Int)) = false:=decide_eq_false (by lia)
  have e2 : decide (i ≥ 2 ^ 63) = false:=decide_eq_false (by lia)
  rw [e1,e2,Bool.or_false]) (by rw [h1]; simpa using h2) ⟨.str ⟨#[c]⟩,H,I.tok _,⟨_,rfl⟩,q⟩) hs
theorem zk5 (lo hi : Option Int) (n : Nat) : (sliceBounds lo hi none n).1 = ((HT.sIx n 0 lo : Nat) : Int)/\(sliceBounds lo hi none n).2.1 = ((HT.sIx n n hi : Nat) : Int)/\(sliceBounds lo hi none n).2.2 = 1:=by
 refine ⟨?_,?_,rfl⟩
 ·cases lo with
  | none=>simp [sliceBounds,HT.sIx]
  | some i =>
   simp only [sliceBounds,HT.sIx,Option.getD_none,show (1 : Int) > 0 by decide,if_true]
   by_cases h : i < 0
   ·simp only [h,if_true] <;> lia
   ·simp only [h,if_false] <;> lia
 ·cases hi with
  | none=>simp [sliceBounds,HT.sIx]
  | some i =>
   simp only [sliceBounds,HT.sIx,Option.getD_none,show (1 : Int) > 0 by decide,if_true]
   by_cases h : i < 0
   ·simp only [h,if_true] <;> lia
   ·simp only [h,if_false] <;> lia
theorem zje (its : List Value) (lo hi : Option Int) : slicePick its.toArray lo hi none = ((its.drop (HT.sIx its.length 0 lo)).take (HT.sIx its.length its.length hi - HT.sIx its.length 0 lo)).toArray:=by
 obtain ⟨h1,h2,h3⟩:=zk5 lo hi its.toArray.size
 unfold slicePick
 rw [h1,h2,h3]
 simp only [sliceRange_one,pick_run,List.size_toArray] <;> rfl
noncomputable def rSlL (K : PySem.W.Frag) : V->Option Int->Option Int->Hp->VK->Prop:=fun x lo hi H Q=>∃ a xs,x = .ref a/\SqL K H a xs /\ ∀ p,H p = none->Q (.ref p) (upd H p (.lst (cutV xs lo hi)))
theorem zw8 : SlR X (rSlL X.K):=by
 intro pins s σ H x v vl vu lo hi sl Q I rx hs pl pu h
 obtain ⟨a,xs,rfl,hx,q⟩:=h
 cases rx
 obtain ⟨its,r,ht,hz⟩:=I.list hx
 have hlen:=r.length
 refine ⟨"list", _,slot_list_getitem.lookup,ht.isList.typeIs,?_⟩
 refine wpAny_getItem_list_slice ht.isList hs pl pu .none (by simp) ?_ (by rw [List.size_toArray] <;> lia)
 rw [zje,<- hlen]
 refine ⟨.ref s.heap.objs.size,_,I.laid (t':=s.toks) (o:=.lst (cutV xs lo hi)) (fun b ob q=>Heap.get?_push_of_some _ q) (Nat.le_refl _) ?_,rfl,q _ (I.hok.fresh (Nat.le_refl _))⟩
 exact ⟨Nat.le_trans (zmj xs lo hi) hz,_,0,(r.drop (HT.sIx xs.length 0 lo)).take (HT.sIx xs.length xs.length hi - HT.sIx xs.length 0 lo),Heap.get?_push_size _ rfl⟩
theorem zcw : zcg X (.builtin "len") (fun xs H Q=>∃ p ys,xs = [.ref p]/\(SqL X.K H p ys \/ SqT X.K H p ys)/\Q (.int ys.length) H):=by
 intro pins s σ H xs us Q I r h
 obtain ⟨p,ys,rfl,hq,q⟩:=h
 obtain ⟨u,rfl,rx⟩:=zf8 r
 cases rx
 have hn:=zoo
 rcases hq with hq | hq
 ·obtain ⟨its,r',pl,hz⟩:=I.list hq
  have hlen:=r'.length
  exact Calls.call_len_list pl.isList (by simp only [List.size_toArray] <;> lia) ⟨.int ys.length,H,I.tok _,⟨s.toks + 1,by rw [List.size_toArray,hlen]⟩,q⟩
 ·obtain ⟨its,r',pl,hz⟩:=I.tuple hq
  have hlen:=r'.length
  exact len_tuple pl (by simp only [List.size_toArray] <;> lia) ⟨.int ys.length,H,I.tok _,⟨s.toks + 1,by rw [List.size_toArray,hlen]⟩,q⟩
theorem zgd : zcg X (.type "list") (fun xs H Q=>∃ p ys,xs = [.ref p]/\(SqL X.K H p ys \/ SqT X.K H p ys) /\ ∀ l,H l = none->Q (.ref l) (upd H l (.lst ys))):=by
 intro pins s σ H xs us Q I r h
 obtain ⟨p,ys,rfl,hq,q⟩:=h
 obtain ⟨u,rfl,rx⟩:=zf8 r
 cases rx
 have fin : ∀ (its : List Value),Vals ys its->ys.length <= sizeLine -> ∀ (h' : Heap) (c' : Nat),(∀ b o',s.heap.get? b = some o'->h'.get? b = some o') ->
   h'.get? s.heap.objs.size = some { cls:=.type "list", dict:=none,data:=.seq its.toArray c',slots:=#[] }->EP X pins σ Q (.ref s.heap.objs.size) { s with heap:=h' }:=fun its r' hz h' c' kp e =>
  ⟨.ref s.heap.objs.size,_,I.laid (t':=s.toks) kp (Nat.le_refl _) (show zce X.prog X.w _ h' _ (.lst ys) from ⟨hz,its,c',r',e⟩),rfl,q _ (I.hok.fresh (Nat.le_refl _))⟩
 rcases hq with hq | hq
 ·obtain ⟨its,r',pl,hz⟩:=I.list hq
  have hlen:=r'.length
  obtain ⟨o,ho,hc,n,hd⟩:=pl.isList
  exact call_list_seq p (.inl rfl) ho hc hd (fun h' c' kp e=>fin its r' hz h' c' kp e) (by simp only [List.size_toArray] <;> lia)
 ·obtain ⟨its,r',pl,hz⟩:=I.tuple hq
  have hlen:=r'.length
  obtain ⟨o,ho,hc,n,hd⟩:=pl
  exact call_list_seq p (.inr rfl) ho hc hd (fun h' c' kp e=>fin its r' hz h' c' kp e) (by simp only [List.size_toArray] <;> lia)
noncomputable def tyV (K : PySem.W.Frag) (T : String) (x : V) (H : Hp) : Prop:=match x with
 | .str _=>T = "str"
 | .int _=>T = "int"
 | .ref p=>(T = "list" /\ ∃ xs,SqL K H p xs) \/ (T = "tuple" /\ ∃ o,K.lookup p = some o/\o.cls = .type "tuple" /\ o.dict = none) \/
   (T = "dict" /\ ((∃ kvs,H p = some (.dK kvs)) \/ ∃ kvs,H p = some (.dT kvs))) \/ (T = "set" /\ ∃ S n,H p = some (.set S n))
 | _=>False
theorem zwe {pins : List (Addr × Obj)} {σ : St} {H : Hp} {s : Shared} {T : String} {x : V} {v : Value} (I : Inv X pins σ H s) (r : RelV x v) (ty : tyV X.K T x H) :
  s.TypeIs v T /\ ∀ a,v = .ref a -> ∃ ob,s.heap.get? a = some ob/\ob.dict = none:=by
 cases x with
 | str z =>
  obtain ⟨t,rfl⟩:=r
  cases (show T = "str" from ty)
  exact ⟨typeIs_str s z t,fun _ e=>nomatch e⟩
 | int i =>
  obtain ⟨t,rfl⟩:=r
  cases (show T = "int" from ty)
  exact ⟨typeIs_int s i t,fun _ e=>nomatch e⟩
 | ref p =>
  cases r
  rcases ty with ⟨rfl,xs,hq⟩ | ⟨rfl,o,hk,hc,hd⟩ | ⟨rfl,hk⟩ | ⟨rfl,S,n,hk⟩
  ·obtain ⟨its,_,pl,_⟩:=I.list hq
   refine ⟨pl.isList.typeIs,fun a e=>?_⟩
   cases e
   obtain ⟨o,n,e,c,hd,_⟩:=pl
   exact ⟨o,e,hd⟩
  ·refine ⟨⟨o,I.kIn p o hk,hc⟩,fun a e=>?_⟩
   cases e
   exact ⟨o,I.kIn _ o hk,hd⟩
  ·have z : ∃ o,s.heap.get? p = some o/\o.ExactDict:=by
    rcases hk with ⟨kvs,hk⟩ | ⟨kvs,hk⟩
    ·obtain ⟨_,_,_,_,o,_,_,e,ex,_⟩:=I.hok p _ hk
     exact ⟨o,e,ex⟩
    ·obtain ⟨_,_,_,_,o,_,_,e,ex,_⟩:=I.hok p _ hk
     exact ⟨o,e,ex⟩
   obtain ⟨o,e,ex⟩:=z
   refine ⟨⟨o,e,ex.1⟩,fun a e2=>?_⟩
   cases e2
   exact ⟨o,e,ex.2.1⟩
  ·obtain ⟨o,_,_,_,e,ex,_⟩:=I.hok p _ hk
   refine ⟨⟨o,e,ex.1⟩,fun a e2=>?_⟩
   cases e2
   exact ⟨o,e,ex.2.1⟩
 | _=>exact False.elim ty
noncomputable def tBM0 (K : PySem.W.Frag) (T : String) (r : V->List V->Hp->VK->Prop) (to : TE) : TE:=fun σ H Q=>to σ H fun x H1=>tyV K T x H1/\r x [] H1 Q
noncomputable def tBM (K : PySem.W.Frag) (T : String) (r : V->List V->Hp->VK->Prop) (to : TE) (t : TA) : TE:=fun σ H Q=>to σ H fun x H1=>tyV K T x H1/\t σ H1 fun xs H2=>r x xs H2 Q
variable {o e : Expr} {es : List Expr} {to : TE} {t : TA} {name : Str} {apos cpos : Pos} {T id : String} {r : V->List V->Hp->VK->Prop}
theorem zzt (pa : PlainAttrs T) (slot : Slot T name id) (hty : typeOf (.builtin id) = pure (.type "method_descriptor")) (hm : MtR X id r) (ho : PE X o to)
  (hbase : attributeBase o name X.env (eval o X.env) = eval o X.env:=by rfl) (hline : (apos.endLine == cpos.line) = true:=by rfl) : PE X (.Call (.Attribute o name apos) [] [] cpos) (tBM0 X.K T r to):=by
 intro pins s σ H Q I h
 refine wpAny_Call_method0_late hbase hline (thn (ho pins s σ H _ I h) fun v s1 hz9=>?_)
 obtain ⟨x,H1,I1,r1,ty,q1⟩:=hz9
 obtain ⟨h1,h2⟩:=zwe I1 r1 ty
 exact ⟨T,id,pa,slot,hty,h1,h2,Calls.callWith_builtin rfl (PySem.evalArgs_none (hm pins s1 σ H1 x [] v [] Q I1 r1 .nil q1))⟩
theorem zhk (pa : PlainAttrs T) (slot : Slot T name id) (hty : typeOf (.builtin id) = pure (.type "method_descriptor")) (hm : MtR X id r) (ho : PE X o to) (ha : PA X (e::es) t)
  (hbase : attributeBase o name X.env (eval o X.env) = eval o X.env:=by rfl)
  (hfew : ((backTo cpos (starEach (e::es) X.env)).all (fun x=>!x.1) && (backToKw cpos (keywordEach [] X.env)).all (fun x=>x.1.isSome)
   && decide ((e::es).length + ([] : List Keyword).length + (if ([] : List Keyword).isEmpty then 0 else 1) < 30)) = true:=by rfl)
  (hline : (apos.endLine == cpos.line) = true:=by rfl) (hs : starEach (e::es) X.env = (false,eval e X.env)::starEach es X.env:=by rfl) (hplain : (backTo cpos (starEach es X.env)).any (·.1) = false:=by rfl) :
  PE X (.Call (.Attribute o name apos) (e::es) [] cpos) (tBM X.K T r to t):=by
 intro pins s σ H Q I h
 refine wpAny_Call_method_late hbase hfew hline rfl (thn (ho pins s σ H _ I h) fun v s1 hz9=>?_)
 obtain ⟨x,H1,I1,r1,ty,q1⟩:=hz9
 obtain ⟨h1,h2⟩:=zwe I1 r1 ty
 refine ⟨T,id,pa,slot,hty,h1,h2,?_⟩
 have hA:=ha cpos pins s1 σ H1 _ I1 q1
 rw [hs] at hA ⊢
 refine Calls.callWith_builtin (by show (false || (backTo cpos (starEach es X.env)).any (·.1)) = false; rw [hplain] <;> rfl) (Calls.evalArgs_plain ?_)
 refine thn hA fun us s2 hz9=>?_
 obtain ⟨vs,H2,I2,r2,q2⟩:=hz9
 exact hm pins s2 σ H2 x vs v us Q I2 r1 r2 q2
end
end L2
namespace L2
open PySem PySem.Spec PyProof.Rows
noncomputable def MtM (X : Cx) (id : String) (r : V->List V->Hp->VK->Prop) : Prop :=
 ∀ (pins : List (Addr × Obj)) (s : Shared) (σ : St) (H : Hp) (x : V) (xs : List V) (v : Value) (us : List Value) (Q : VK),Inv X pins σ H s->RelV x v->Vals xs us->r x xs H Q ->
  wpAny (model X.prog X.w) X.A (call (.builtin id) (v::us)) (EP X pins σ Q) X.xe s
theorem Vals.one : ∀ {x : V} {us : List Value},Vals [x] us -> ∃ u,us = [u]/\RelV x u
 | _,_,.cons r .nil=>⟨_,rfl,r⟩
theorem Vals.reverse {xs : List V} {us : List Value} (h : Vals xs us) : Vals xs.reverse us.reverse:=by
 induction h with
 | nil=>exact .nil
 | cons r t ih=>rw [List.reverse_cons,List.reverse_cons]; exact Vals.append ih (.cons r .nil)
section
variable {X : Cx} {pins : List (Addr × Obj)} {σ : St} {H : Hp} {s : Shared} {l b : Addr} {xs ys zs : List V}
theorem Inv.lset {its its' : List Value} {n : Nat} {f : Array Value->Array Value} {t' : Nat} (I : Inv X pins σ H s) (hH : H l = some (.lst xs))
  (e : s.heap.get? l = some { cls:=.type "list", data:=.seq its.toArray n }) (hf : f its.toArray = its'.toArray) (hv : Vals ys its') (hz : ys.length <= sizeLine) :
  Inv X pins σ (upd H l (.lst ys)) { s with heap:=s.heap.update l (Obj.mapSeq f),toks:=t' }:=by
 have q:=PySem.IsL.update e f
 rw [hf] at q
 refine I.write (x:=l) (e:=l) (by rw [hH]; exact trivial) (.inl rfl) (fun b' u hb hu=>(Heap.get?_update_other s.heap (Obj.mapSeq f) (Ne.symm hb)).trans hu) ⟨_,q⟩ ?_
 exact ⟨hz,its',_,hv,q⟩
theorem Inv.lnew {its : List Value} {t' : Nat} (I : Inv X pins σ H s) (hv : Vals ys its) (hz : ys.length <= sizeLine) :
  Inv X pins σ (upd H s.heap.objs.size (.lst ys)) { s with heap:=s.heap.push { cls:=.type "list", data:=.seq its.toArray },toks:=t' } :=
 I.laid (fun _ _ q=>Heap.get?_push_of_some _ q) (Nat.le_refl _) ⟨hz,its,0,hv,Heap.get?_push_size _ rfl⟩
theorem Inv.fresh (I : Inv X pins σ H s) : H s.heap.objs.size = none:=I.hok.fresh (Nat.le_refl _)
theorem Inv.lstM (I : Inv X pins σ H s) (hH : H l = some (.lst xs)) : xs.length <= sizeLine /\ ∃ (its : List Value) (n : Nat),Vals xs its/\xs.length = its.length/\s.heap.get? l = some { cls:=.type "list", data:=.seq its.toArray n }:=by
 obtain ⟨z,its,n,r,e⟩:=I.hok l _ hH
 exact ⟨z,its,n,r,r.length,e⟩
end
section
variable {X : Cx}
noncomputable def zl3 : V->List V->Hp->VK->Prop:=fun x vs H Q=>∃ l xs y,x = .ref l/\vs = [y]/\H l = some (.lst xs)/\xs.length < sizeLine/\Q .non (upd H l (.lst (xs++[y])))
theorem zcj : MtM X "list.append" zl3:=by
 intro pins s σ H x vs v us Q I rx rv h
 obtain ⟨l,xs,y,rfl,rfl,hH,hz,q⟩:=h
 cases rx
 obtain ⟨u,rfl,ru⟩:=rv.one
 obtain ⟨z,its,n,r,hl,e⟩:=I.lstM hH
 refine call_meets F.slot_list_append ⟨_,e,rfl⟩ F.entry_list_append (F.args_list_append_2 _ _) (PySem.list_append l its.toArray n u (by rw [List.size_toArray]; lia)) ⟨e,?_⟩
 refine ⟨.non,_,I.lset (its':=its++[u]) hH e (by simp) (r.append (.cons ru .nil)) ?_,rfl,q⟩
 rw [List.length_append,List.length_singleton]
 lia
end
end L2
namespace Att
open PySem PySem.W PySem.Calls PyProof.Rows
theorem zhj {P : Params} {h : Heap} : ∀ (ns : List Int) (vs : List Value),WellAll P h vs (ns.map WData.int)->IntsAre vs ns:=by
 intro ns
 induction ns with
 | nil =>
  intro vs w
  rw [List.map_nil] at w
  cases w
  exact .nil
 | cons n ns ih =>
  intro vs w
  rw [List.map_cons] at w
  cases w with
  | cons a b =>
   cases a
   exact .cons _ _ (ih _ b)
theorem ztt {l : OpenLaw} {n : Nat} (hn : l.most = some n) {P : Params} {h : Heap} {args : List WData} {vals : List Value}
  (hpre : l.row.toRowW.claim.pre args = true) (hwl : WellAll P h vals args) :
  ∃ a vs ns,vals = [Value.ref a]/\args = [WData.list (ns.map WData.int)]/\h.get? a = some { cls:=.type "list", data:=.seq vs.toArray }/\IntsAre vs ns/\ns.length <= n:=by
 have hsh : WShape.hasAll [] args [.list .int] = true:=(pre_splitW hpre).1
 have hc : l.pre.holds [] { args:=args } = true:=(pre_splitW hpre).2
 obtain ⟨d,r,rfl,h1,h2⟩:=hasAllW_cons hsh
 obtain rfl:=hasAllW_nil h2
 obtain ⟨xs,rfl,h3⟩:=hasW_list h1
 obtain ⟨ns,rfl⟩:=items_int h3
 have hlen : ns.length <= n:=by
  unfold OpenLaw.pre at hc
  have h4 : (WTm.not (.lt (.lit (.int (n : Int))) (.len (.arg 0)))).holds [] { args:=[.list (ns.map .int)] } = true:=by
   have h4:=(holds_andW hc).1
   rw [hn] at h4
   exact h4
  have h5:=condW_of h4 (w_not (w_lt w_lit (w_len_list (w_arg rfl))))
  rw [List.length_map] at h5
  refine Nat.le_of_not_lt fun q=>?_
  have q' : (n : Int) < ((ns.length : Nat) : Int):=by omega
  first
   | (rw [decide_eq_true q'] at h5; exact absurd h5 (by decide))
   | (simp at h5; omega)
 cases hwl with
 | cons w1 w2 =>
  cases w2
  cases w1 with
  | list ho hall=>exact ⟨_,_,ns,rfl,rfl,ho,zhj ns _ hall,hlen⟩
theorem zqb (l : OpenLaw) (args : List WData) : l.row.toRowW.claim.post args (.bool true) args = true :=
 postW_of (r:=l.row.toRowW) (X:=(true == true))
  (show WShape.has [] (.bool true) .bool = true by first | rfl | decide | simp [WShape.has,WShape.arms,WShape.armsAll])
  (show (WTm.eq .res (.lit (.bool true))).value [] { args:=args,res:=some (.bool true),after:=args } = some (.bool (true == true)) from w_eq_bool (w_res rfl) w_lit) rfl
theorem attach_call {l : OpenLaw} {n : Nat} {q : Program} {loose : List Str} {XP : (Str->Option Value)->Heap->Prop} {YP : World->Heap->Prop} {d : DefRec}
  (hn : l.most = some n) (hdf : d.params.defaults = [])
  (call : ∀ (w : World) (s₀ s₁ : Shared) (mg mb : Str->Option Value) (fa : Addr) (o : Obj) (pm cd doc : Value) (a : Addr) (vs : List Value) (ns : List Int),
   Ground q loose [] XP w s₀ mg mb s₁.heap->YP w s₁.heap ->
   s₁.heap.get? fa = some o->o.data = .func (docDef d.name d.params d.body d.scope pm cd doc)->s₁.heap.CodeRec cd d.name->mg d.name = some (.ref fa) ->
   s₁.heap.get? a = some { cls:=.type "list", data:=.seq vs.toArray }->IntsAre vs ns->ns.length <= n->s₁.gens = #[] ->
   codeAny (model l.prog w) callerA (.call (.ref fa) ⟨[.ref a],[]⟩) (fun r s'=>r = .ok (.ret (.bool true))/\OldK s₁.heap s'.heap/\s'.os = s₁.os/\AllBare s'.gens) s₁) :
  WalkO q loose XP YP l.row.toRowW d [] (fun f vs=>PySem.call f vs):=by
 intro w s₀ s₁ mg mb G Y fa o pm cd doc dV kV ho hd hcd hD hmg hg args vals as hpre hlay hrd hwl hlo
 obtain rfl : dV = .none:=Dflts.none hD hdf
 obtain rfl : kV = .none:=Dflts.noKw hD
 obtain ⟨a,vs,ns,rfl,rfl,hobj,hints,hlen⟩:=ztt hn hpre hwl
 refine enter_call (codeAny_mono (call w s₀ s₁ mg mb fa o pm cd doc a vs ns G Y ho (fd_plain hd) hcd hmg hobj hints hlen hg) fun r s' hq=>?_)
 obtain ⟨rfl,h2,h3,h4⟩:=hq
 exact ⟨.inl ⟨.bool true,.bool true,[],rfl,fun _=>rfl,.bool true,zqb l _,fun _=>⟨List.Pairwise.nil,fun _ hm=>(nomatch hm)⟩⟩,h2,h3,h4⟩
section
variable {prog : Program} {w : World} {A : Around} {E : Value->Shared->Prop} {s : Shared} {K : Frag}
end
end Att
namespace L2
open PySem PySem.Spec PyProof.Rows
theorem zlc : ∀ {vs : List Value} {ns : List Int},IntsAre vs ns->Vals (ns.map V.int) vs
 | _,_,.nil=>.nil
 | _,_,.cons n t h=>.cons ⟨t,rfl⟩ (zlc h)
noncomputable def Only (H : Hp) : Prop:=∀ b,H b = none \/ ∃ o xs,H b = some (.frz o (.lst xs))
theorem zu0 {P : Program} {w : World} {K : PySem.W.Frag} {mg mb : Str -> Option Value} {CX : CXT} {k : Nat} {fa a : Addr} {fd : FuncData} {x : Str} {sp : Sp} {s₁ : Shared} {vs : List Value} {ns : List Int}
  (KX : K.In s₁.heap) (hns : s₁.heap.Ns mainGlobals mg) (hb : s₁.heap.Ns builtinsNs mb) (hbb : ∀ x : Str,x ≠ "__name__" -> mb x = bootBuiltins x) (hlim : s₁.heap.NoLimit) (hg : s₁.gens = #[])
  (ha : s₁.heap.get? a = some { cls:=.type "list", data:=.seq vs.toArray }) (hi : IntsAre vs ns) (hl : ns.length <= sizeLine) (hr : Room k callerA)
  (F : ∀ base : Heap,K.In base->base.Ns mainGlobals mg->FnOk P w K mg base CX k fa fd [x] sp) (hbind : ∀ (s : Shared) (u : Value),BindsTo s fd ⟨[u],[]⟩ [(x,u)])
  (hsp : ∀ H : Hp,Only H->SqL K H a (ns.map V.int)->sp [.ref a] H (fun v _=>v = .bl true) fun _ _ _=>False)
  (hCX : ∀ H e s',CX [] H s₁ (fun _ _ _=>False) e s'->False) :
  codeAny (model P w) callerA (.call (.ref fa) ⟨[.ref a],[]⟩) (fun r s'=>r = .ok (.ret (.bool true))/\OldK s₁.heap s'.heap/\s'.os = s₁.os/\AllBare s'.gens) s₁:=by
 have rv:=zlc hi
 have lenV:=hi.length
 -- from an abstract heap in which nothing but the script may be tracked
 have core : ∀ H : Hp,Only H->SqL K H a (ns.map V.int)->HOk P w H s₁.heap->(∀ b,H b≠none->b = a)->(H a≠none->K.lookup a = none) ->
   codeAny (model P w) callerA (.call (.ref fa) ⟨[.ref a],[]⟩) (fun r s'=>r = .ok (.ret (.bool true))/\OldK s₁.heap s'.heap/\s'.os = s₁.os/\AllBare s'.gens) s₁:=by
  intro H hO hS hok hA hK
  have base_of : ∀ {b : Addr} {o : Obj},s₁.heap.get? b = some o->H b = none->(hidT s₁.heap H).get? b = some o:=fun e n=>zu8 e n
  have noA : ∀ {b : Addr} {o : Obj} {es : Array DictEntry} {ep : Nat},s₁.heap.get? b = some o->o.data = .dict es ep->H b = none:=fun {b o es ep} e d=>by
   cases q : H b with
   | none=>rfl
   | some u =>
    have e' : b = a:=hA b (by rw [q]; simp)
    subst e'
    rw [ha] at e; cases e
    have d' : Data.seq vs.toArray _ = Data.dict es ep:=d
    cases d'
  have nsK : ∀ {b : Addr} {m : Str->Option Value},s₁.heap.Ns b m->(hidT s₁.heap H).Ns b m:=fun {b m} ⟨o,es,ep,e,d,r⟩=>⟨o,es,ep,base_of e (noA e d),d,r⟩
  have hKb : K.In (hidT s₁.heap H):=fun b o e=>base_of (KX b o e) (by
   cases q : H b with
   | none=>rfl
   | some u =>
    have e' : b = a:=hA b (by rw [q]; simp)
    subst e'
    rw [hK (by rw [q]; simp)] at e; cases e)
  have hM : Mod K mg (hidT s₁.heap H):=⟨hKb,nsK hns,⟨mb,nsK hb,hbb⟩,let ⟨mc,h1,h2⟩:=hlim; ⟨mc,nsK h1,h2⟩⟩
  have e0 : Env0 P w K mg (hidT s₁.heap H) callerA [] s₁ H:=⟨rfl,hM,fun b o e=>zx8 e,Nat.le_of_eq (ztd _ _),trivial,fun b hb=>absurd (show b∈([] : List Addr) from hb) (by simp),hok,.of_eq hg⟩
  refine codeAny_mono ((F _ hKb (nsK hns)).run callerA [] s₁ H ⟨[.ref a],[]⟩ [.ref a] [.ref a] _ _ hr e0 (hbind s₁ (.ref a)) (.cons rfl .nil) (hsp H hO hS)) fun r s' h=>?_
  cases r with
  | error e=>exact (hCX H e s' h).elim
  | ok fl =>
   cases fl with
   | next=>exact False.elim h
   | brk=>exact False.elim h
   | cont=>exact False.elim h
   | ret u =>
    obtain ⟨v,H',os,bare,un,hok',r',q⟩:=h
    have q' : v = .bl true:=q
    subst q'
    obtain rfl : u = Value.bool true:=r'
    refine ⟨rfl,OldK.of_keep fun b o e=>?_,os,bare⟩
    cases q : H b with
    | none=>exact un.keep b o e q (by intro z; exact absurd (show b∈([] : List Addr) from z) (by simp)) (by simp)
    | some u =>
     rcases hO b with z | ⟨ob,xs,z⟩
     ·rw [q] at z; cases z
     ·have z2:=un.frzs b ob _ z
      obtain ⟨e1,_⟩:=hok b _ z
      obtain ⟨e2,_⟩:=hok' b _ z2
      rw [e] at e1; cases e1
      exact e2
 cases hk : K.lookup a with
 | some o =>
  -- the script is one of the module's own objects
  have e:=KX a o hk
  rw [ha] at e
  cases e
  refine core (fun _=>none) (fun _=>.inl rfl) (.inr ⟨_,vs.toArray,_,hk,rfl,rfl,rfl,by rw [List.size_toArray,lenV]; exact hl,by simpa using rv⟩) (fun b u z=>by have z' : (none : Option HO) = some u:=z; cases z') (fun b z=>absurd rfl z) fun z=>absurd rfl z
 | none =>
  refine core (fun b=>if b = a then some (.frz { cls:=.type "list", data:=.seq vs.toArray } (.lst (ns.map V.int))) else none) (fun b=>?_) (.inl (.inr ⟨{ cls:=.type "list", data:=.seq vs.toArray },if_pos rfl⟩)) (fun b u z=>?_) (fun b z=>?_) fun _=>hk
  ·by_cases hb : b = a
   ·exact .inr ⟨_,_,if_pos hb⟩
   ·exact .inl (if_neg hb)
  ·by_cases hb : b = a
   ·have z':=(if_pos hb).symm.trans z
    cases z'
    subst hb
    exact ⟨ha,by rw [List.length_map]; exact hl,vs,_,rv,ha⟩
   ·have z':=(if_neg hb).symm.trans z
    cases z'
  ·by_cases hb : b = a
   ·exact hb
   ·exact absurd (if_neg hb) z
end L2
namespace L2
open PySem PySem.Spec PyProof.Rows
theorem walk_of {l : PySem.W.OpenLaw} {n k : Nat} {q : Program} {loose : List Str} {XP : (Str->Option Value)->Heap->Prop} {YP : World->Heap->Prop} {d : DefRec} {K : Params->PySem.W.Frag} {CX : World->CXT} {sp : World->Sp} {x : Str}
  (hn : l.most = some n) (hn2 : n <= sizeLine) (hdf : d.params.defaults = []) (hr : Room k callerA)
  (hY : ∀ (w : World) (h : Heap),YP w h->(K w.params).In h)
  (F : ∀ (w : World) (mg : Str->Option Value) (fa : Addr) (h : Heap),(K w.params).In h->h.Ns mainGlobals mg->mg d.name = some (.ref fa) ->
   ∃ fd : FuncData,(∀ (s : Shared) (u : Value),BindsTo s fd ⟨[u],[]⟩ [(x,u)]) /\
    ∀ base : Heap,(K w.params).In base->base.Ns mainGlobals mg->FnOk l.prog w (K w.params) mg base (CX w) k fa fd [x] (sp w))
  (hsp : ∀ (w : World) (H : Hp) (a : Addr) (ns : List Int),ns.length <= n->Only H->SqL (K w.params) H a (ns.map V.int)->sp w [.ref a] H (fun v _=>v = .bl true) fun _ _ _=>False)
  (hCX : ∀ (w : World) (H : Hp) (s : Shared) (e : Value) (s' : Shared),CX w [] H s (fun _ _ _=>False) e s'->False) :
  PySem.W.WalkO q loose XP YP l.row.toRowW d [] (fun f vs=>PySem.call f vs):=by
 refine Att.attach_call hn hdf fun w s₀ s₁ mg mb fa o pm cd doc a vs ns G Y ho hd hcd hmg hobj hints hlen hg=>?_
 have KX:=hY w _ Y
 obtain ⟨fd,hb,hF⟩:=F w mg fa _ KX G.T.g hmg
 exact zu0 KX G.T.g G.T.b G.T.builtins G.T.nolimit hg hobj hints (Nat.le_trans hlen hn2) hr hF hb (fun H hO hS=>hsp w H a ns hlen hO hS) fun H e s'=>hCX w H s₁ e s'
end L2
namespace L2
open PySem PySem.Spec PyProof.Rows
noncomputable def zan (s : Stmt) : Arguments:=match s with
 | .FunctionDef _ a _ _ _ _ _ _ _ _=>a
 | _=>{ posonlyargs:=[],args:=[],vararg:=none,kwonlyargs:=[],kw_defaults:=[],kwarg:=none,defaults:=[] }
noncomputable def zak (s : Stmt) : List Stmt:=match s with
 | .FunctionDef _ _ b _ _ _ _ _ _ _=>b
 | _=>[]
noncomputable def zac (s : Stmt) : Scope:=match s with
 | .FunctionDef _ _ _ _ _ _ sc _ _ _=>sc
 | _=>{ kind:=.function,names:=[],isGenerator:=false,isCoroutine:=false }
noncomputable abbrev CX0 : CXT:=fun _ _ _ _ _ _=>False
noncomputable abbrev E0 : XK:=fun _ _ _=>False
theorem zc0 {X : Cx} : zlj CX0 X E0:=fun _ _ _ _ _ _ _ h=>h.elim
structure Fun (K : PySem.W.Frag) (x qual : Str) (st : Stmt) (f : Addr) (fd : FuncData) : Prop where
 ex : ∃ (oc : Value) (od : Option Addr) (kV doc pm : Value) (an : Option Addr) (cdv ct : Value) (osl : Array (Option Value)),
  fd = PySem.W.fnOf x qual (zan st) (zak st) (zac st) .none kV doc pm an cdv ct/\K.lookup f = some ⟨oc,od,.func fd,osl⟩/\PySem.W.codeIn K cdv qual = true
 kp : PySem.W.keepIn K (.ref f) = true
section
variable {P : Program} {w : World} {K : PySem.W.Frag} {mg : Str->Option Value} {base : Heap}
theorem Fun.ok {x qual : Str} {st : Stmt} {f : Addr} {fd : FuncData} {N ps : List Str} {k : Nat} {sp : Sp} (F : Fun K x qual st f fd) (S : FnScope N ps (zac st)) (len : ∀ vs H Q E,sp vs H Q E->vs.length = ps.length)
  (hbody : ∀ (cdv : Value) (A : Around) (outer : List Env) (s : Shared) (H : Hp) (vs : List V) (Q : VK) (E : XK),Room k (A.deeper (envOfC qual (zac st) s.heap.objs.size f cdv))->sp vs H Q E ->
   ∃ t,PSs (cxOf CX0 P w K mg base N qual (zac st) f cdv A outer s H E).nox (zak st) t/\t { nx:=fun _ H'=>Q .non H',rt:=Q } (start N vs) H) : FnOk P w K mg base CX0 (k + 1) f fd ps sp:=by
 obtain ⟨oc,od,kV,doc,pm,an,cdv,ct,osl,rfl,lk,hcd⟩:=F.ex
 refine zyx lk hcd S len fun A outer s H vs Q E hr hsp=>?_
 obtain ⟨t,h,q⟩:=hbody cdv A outer s H vs Q E hr hsp
 exact ⟨t,h.nox,q⟩
theorem Fun.binds {x qual : Str} {st : Stmt} {f : Addr} {fd : FuncData} {ps : List Str} (F : Fun K x qual st f fd)
  (h : ∀ (kV doc pm : Value) (an : Option Addr) (cdv ct : Value) (us : List Value),us.length = ps.length->bindArgs (PySem.W.fnOf x qual (zan st) (zak st) (zac st) .none kV doc pm an cdv ct) ⟨us,[]⟩ = pure (ps.zip us)) : zcp K fd ps []:=by
 obtain ⟨oc,od,kV,doc,pm,an,cdv,ct,osl,rfl,lk,hcd⟩:=F.ex
 exact .all (h kV doc pm an cdv ct)
theorem zch {x qual : Str} {st : Stmt} {f : Addr} {oc : Value} {od an : Option Addr} {osl : Array (Option Value)} {kV doc pm cdv ct : Value} (l : K.lookup f = some ⟨oc,od,.func (PySem.W.fnOf x qual (zan st) (zak st) (zac st) .none kV doc pm an cdv ct),osl⟩)
  (c : PySem.W.codeIn K cdv qual = true) (k : PySem.W.keepIn K (.ref f) = true) : Fun K x qual st f (PySem.W.fnOf x qual (zan st) (zak st) (zac st) .none kV doc pm an cdv ct):=⟨⟨oc,od,kV,doc,pm,an,cdv,ct,osl,rfl,l,c⟩,k⟩
end
theorem zcv {A : Around} {k : Nat} (hr : Room k A) : A.units + 1 < cLine:=Nat.lt_of_le_of_lt (Nat.add_le_add_left (by decide : 1 <= 64) _) hr.units
section
variable {X : Cx}
theorem pv (i : Nat) {x : Str} {pos : Pos} (hN : X.N[i]? = some x:=by rfl) (hv : Vis X.env.scope x:=by first | exact Or.inl rfl | exact Or.inr (Or.inl rfl) | exact Or.inr (Or.inr rfl)) (hd : (x == ("__debug__" : Str)) = false:=by decide)
  (hcd : (x == ("__classdict__" : Str)) = false:=by decide) : PE X (.Name x pos) (tVar i):=ya3 hN hv hd hcd
end
theorem iteF {A B : Prop} (h : B) : if false = true then A else B:=by
 rw [if_neg Bool.false_ne_true]
 exact h
theorem iteT {A B : Prop} (h : A) : if true = true then A else B:=by
 rw [if_pos rfl]
 exact h
noncomputable def Same (H H' : Hp) : Prop:=∀ b o,H b = some o->H' b = some o
theorem Same.refl (H : Hp) : Same H H:=fun _ _ h=>h
theorem Same.trans {H H1 H2 : Hp} (a : Same H H1) (b : Same H1 H2) : Same H H2:=fun c o h=>b c o (a c o h)
theorem Same.free {H H' : Hp} (e : Same H H') {l : Addr} (h : H' l = Option.none) : H l = Option.none:=by
 cases q : H l with
 | none=>rfl
 | some o =>
  rw [e l o q] at h
  cases h
theorem Same.seq {K : PySem.W.Frag} {H H' : Hp} {a : Addr} {xs : List V} (e : Same H H') (h : SqL K H a xs) : SqL K H' a xs:=by
 rcases h with (h | ⟨o,h⟩) | h
 ·exact .inl (.inl (e _ _ h))
 ·exact .inl (.inr ⟨o,e _ _ h⟩)
 ·exact .inr h
end L2
set_option maxHeartbeats 4000000
namespace L2
open PySem PySem.Spec PyProof.Rows
section
variable {κ : Type} [DecidableEq κ]
noncomputable def valV (kvs : List (κ × V)) (k : κ) : Option V:=(kvs.find? fun kv=>decide (kv.1 = k)).map (·.2)
noncomputable def putK (kvs : List (κ × V)) (k : κ) (v : V) : List (κ × V) :=
 if (kvs.any fun kv=>decide (kv.1 = k)) = true then kvs.map (fun kv=>if kv.1 = k then (kv.1,v) else kv) else kvs++[(k,v)]
theorem zjj {p : κ × V} {r : List (κ × V)} {k : κ} (e : p.1 = k) : valV (p::r) k = some p.2:=by simp [valV,List.find?_cons,e]
theorem zix {p : κ × V} {r : List (κ × V)} {k : κ} (e : ¬ p.1 = k) : valV (p::r) k = valV r k:=by simp [valV,List.find?_cons,e]
theorem zj9 (k : κ) : ∀ kvs : List (κ × V),(kvs.any fun kv=>decide (kv.1 = k)) = (valV kvs k).isSome
 | []=>rfl
 | p::r=>by
  rw [List.any_cons]
  by_cases e : p.1 = k
  ·simp only [zjj e,decide_eq_true e,Bool.true_or,Option.isSome_some]
  ·rw [zix e,decide_eq_false e,Bool.false_or]; exact zj9 k r
theorem zd5 (kvs : List (κ × V)) (k : κ) (v : V) : (putK kvs k v).length <= kvs.length + 1:=by
 unfold putK
 split
 ·rw [List.length_map]; lia
 ·rw [List.length_append,List.length_cons,List.length_nil]; lia
theorem ztx {kvs : List (κ × V)} {k : κ} (v : V) (h : valV kvs k = none) : putK kvs k v = kvs++[(k,v)]:=by
 unfold putK
 rw [zj9,h]
 exact if_neg (by decide)
theorem RelO.isSome_eq {o : Option V} {u : Option Value} (r : RelO o u) : o.isSome = u.isSome:=by
 cases o with
 | none=>cases u with
  | none=>rfl
  | some _=>exact (show False from r).elim
 | some _=>cases u with
  | none=>exact (show False from r).elim
  | some _=>rfl
theorem RelO.getD {o : Option V} {u : Option Value} {d : V} {d' : Value} (r : RelO o u) (rd : RelV d d') : RelV (o.getD d) (u.getD d'):=by
 cases o with
 | none=>cases u with
  | none=>exact rd
  | some _=>exact (show False from r).elim
 | some _=>cases u with
  | none=>exact (show False from r).elim
  | some _=>exact r
theorem KV.val {kvs : List (κ × V)} {vs : List (κ × Value)} (r : KV kvs vs) (k : κ) : RelO (valV kvs k) (valueAt vs k):=by
 unfold KV at r
 induction r with
 | nil=>exact True.intro
 | @cons p q ps qs h t ih =>
  obtain ⟨h1,h2⟩:=h
  by_cases e : p.1 = k
  ·have e' : q.1 = k:=h1.symm.trans e
   have b : valueAt (q::qs) k = some q.2:=by simp [valueAt,List.find?_cons,e']
   rw [zjj e,b]; exact h2
  ·have e' : ¬ q.1 = k:=fun z=>e (h1.trans z)
   have b : valueAt (q::qs) k = valueAt qs k:=by simp [valueAt,List.find?_cons,e']
   rw [zix e,b]; exact ih
theorem KV.any {kvs : List (κ × V)} {vs : List (κ × Value)} (r : KV kvs vs) (k : κ) : (kvs.any fun kv=>decide (kv.1 = k)) = vs.any fun kv=>decide (kv.1 = k):=by
 unfold KV at r
 induction r with
 | nil=>rfl
 | cons h t ih=>rw [List.any_cons,List.any_cons,ih,h.1]
theorem KV.repl {kvs : List (κ × V)} {vs : List (κ × Value)} (r : KV kvs vs) (k : κ) {y : V} {u : Value} (ry : RelV y u) :
  KV (kvs.map fun kv=>if kv.1 = k then (kv.1,y) else kv) (vs.map fun kv=>if kv.1 = k then (kv.1,u) else kv):=by
 unfold KV at r ⊢
 induction r with
 | nil=>exact .nil
 | @cons p q ps qs h t ih =>
  rw [List.map_cons,List.map_cons]
  refine .cons ?_ ih
  obtain ⟨h1,h2⟩:=h
  by_cases e : p.1 = k
  ·rw [if_pos e,if_pos (h1.symm.trans e)]; exact ⟨h1,ry⟩
  ·rw [if_neg e,if_neg (fun z=>e (h1.trans z))]; exact ⟨h1,h2⟩
theorem KV.put {kvs : List (κ × V)} {vs : List (κ × Value)} (r : KV kvs vs) (k : κ) {y : V} {u : Value} (ry : RelV y u) : KV (putK kvs k y) (stored vs k u):=by
 unfold putK stored
 rw [r.any k]
 by_cases e : (vs.any fun kv=>decide (kv.1 = k)) = true
 ·rw [if_pos e,if_pos e]; exact r.repl k ry
 ·rw [if_neg e,if_neg e]; exact Paired.snoc r ⟨rfl,ry⟩
theorem KV.length {kvs : List (κ × V)} {vs : List (κ × Value)} (r : KV kvs vs) : kvs.length = vs.length:=Paired.length r
end
theorem zm3 {P : Program} {w : World} {k : Key} {u : Value} (r : RelV (kV k) u) : (zal P w).is k u = true:=by
 cases k with
 | inl i=>obtain ⟨t,e⟩:=(show ∃ t,u = Value.int i t from r); subst e; exact zhy P w i t
 | inr x=>obtain ⟨t,e⟩:=(show ∃ t,u = Value.str x t from r); subst e; exact zhi P w x t
theorem zld {P : Program} {w : World} : ∀ {ks : List Key} {us : List Value},Vals (ks.map kV) us->ItemsAre (zal P w) ks us
 | [],_,r=>by rw [List.map_nil] at r; cases r; exact .nil
 | k::ks,_,r=>by
  rw [List.map_cons] at r
  cases r with
  | cons h t=>exact .cons (zm3 h) (zld t)
noncomputable abbrev KT (H : Hp) : List (List Key × V)->List (List Key × Addr × Value)->Prop:=Paired fun p q=>p.1 = q.1/\H q.2.1 = some (.tup (p.1.map kV))/\RelV p.2 q.2.2
theorem KT.val {H : Hp} {kvs : List (List Key × V)} {xs : List (List Key × Addr × Value)} (r : KT H kvs xs) (k : List Key) : RelO (valV kvs k) ((atKey xs k).map (·.2)):=by
 induction r with
 | nil=>exact True.intro
 | @cons p q ps qs h t ih =>
  obtain ⟨h1,_,h2⟩:=h
  by_cases e : p.1 = k
  ·have e' : q.1 = k:=h1.symm.trans e
   have b : atKey (q::qs) k = some q.2:=by simp [atKey,List.find?_cons,e']
   rw [zjj e,b]; exact h2
  ·have e' : ¬ q.1 = k:=fun z=>e (h1.trans z)
   have b : atKey (q::qs) k = atKey qs k:=by simp [atKey,List.find?_cons,e']
   rw [zix e,b]; exact ih
theorem KT.repl {H : Hp} {kvs : List (List Key × V)} {xs : List (List Key × Addr × Value)} (r : KT H kvs xs) (k : List Key) {y : V} {u : Value} (ry : RelV y u) :
  KT H (kvs.map fun kv=>if kv.1 = k then (kv.1,y) else kv) (xs.map (putAt k u)):=by
 induction r with
 | nil=>exact .nil
 | @cons p q ps qs h t ih =>
  rw [List.map_cons,List.map_cons]
  refine .cons ?_ ih
  obtain ⟨h1,h2,h3⟩:=h
  unfold putAt
  by_cases e : p.1 = k
  ·rw [if_pos e,if_pos (h1.symm.trans e)]; exact ⟨h1,h2,ry⟩
  ·rw [if_neg e,if_neg (fun z=>e (h1.trans z))]; exact ⟨h1,h2,h3⟩
theorem KT.put {H : Hp} {kvs : List (List Key × V)} {xs : List (List Key × Addr × Value)} (r : KT H kvs xs) (k : List Key) {b : Addr} {y : V} {u : Value} (hb : H b = some (.tup (k.map kV))) (ry : RelV y u) :
  KT H (putK kvs k y) (storedH xs k b u):=by
 have e : (kvs.any fun kv=>decide (kv.1 = k)) = (atKey xs k).isSome:=by
  rw [zj9,(r.val k).isSome_eq,Option.isSome_map]
 unfold putK storedH
 rw [e]
 by_cases q : (atKey xs k).isSome = true
 ·rw [if_pos q,if_pos q]; exact r.repl k ry
 ·rw [if_neg q,if_neg q]; exact Paired.snoc r ⟨rfl,hb,ry⟩
theorem KT.keeps {H H' : Hp} {kvs : List (List Key × V)} {xs : List (List Key × Addr × Value)} (r : KT H kvs xs) (ht : ∀ b ys,H b = some (.tup ys)->H' b = some (.tup ys)) : KT H' kvs xs :=
 Paired.mapP r fun _ _ z=>⟨z.1,ht _ _ z.2.1,z.2.2⟩
section
variable {P : Program} {w : World} {H : Hp} {h : Heap} {a : Addr}
theorem yaw {u : HO} (ok : HOk P w H h) (e : Rd H a u) : zce P w H h a u:=e.ok ok
theorem zpp {kvs : List (Key × V)} (ok : HOk P w H h) (e : Rd H a (.dK kvs)) : kvs.length <= sizeLine/\(a == sysModules) = false /\ ∃ vs,KV kvs vs/\h.DictOf (zal P w) a vs :=
 show zce P w H h a (.dK kvs) from yaw ok e
theorem zmo {kvs : List (Key × V)} (ok : HOk P w H h) (e : H a = some (.dK kvs)) : kvs.length <= sizeLine/\(a == sysModules) = false /\ ∃ vs,KV kvs vs/\h.DictOf (zal P w) a vs:=zpp ok (.inl e)
theorem zkq {ks : List Key} (ok : HOk P w H h) (e : H a = some (.tup (ks.map kV))) : (tupleKind (zal P w)).is h ks a:=by
 obtain ⟨_,its,r,o,h1,h2,n,h3⟩:=(show zce P w H h a (.tup (ks.map kV)) from ok a _ e)
 exact ⟨o,its.toArray,n,h1,h2,h3,by simpa using zld r⟩
theorem zpr {kvs : List (List Key × V)} (ok : HOk P w H h) (e : Rd H a (.dT kvs)) : kvs.length <= sizeLine/\(a == sysModules) = false /\
  ∃ xs,KT H kvs xs/\h.DictOfH (tupleKind (zal P w)) a xs:=by
 obtain ⟨z,y,xs,r,o,es,ep,h1,h2,h3,h4,h5⟩:=(show zce P w H h a (.dT kvs) from yaw ok e)
 refine ⟨z,y,xs,r,o,es,ep,h1,h2,h3,h4,fun x hx=>?_,h5⟩
 have all : ∀ {l : List (List Key × V)} {m : List (List Key × Addr × Value)},KT H l m -> ∀ x∈m,(tupleKind (zal P w)).is h x.1 x.2.1:=by
  intro l m q
  induction q with
  | nil=>intro x hx; exact nomatch hx
  | @cons p q ps qs hq t ih =>
   intro x hx
   rcases List.mem_cons.mp hx with e | hx
   ·subst e
    exact zkq ok (by rw [<- hq.1]; exact hq.2.1)
   ·exact ih x hx
 exact all r x hx
theorem ybo {kvs : List (List Key × V)} (ok : HOk P w H h) (e : H a = some (.dT kvs)) : kvs.length <= sizeLine/\(a == sysModules) = false /\
  ∃ xs,KT H kvs xs/\h.DictOfH (tupleKind (zal P w)) a xs:=zpr ok (.inl e)
end
noncomputable def DGet (H : Hp) (a : Addr) (y : V) (r : Option V) : Prop :=
 (∃ kvs k,Rd H a (.dK kvs)/\y = kV k/\r = valV kvs k) \/ ∃ kvs k b,Rd H a (.dT kvs)/\y = .ref b/\H b = some (.tup (k.map kV))/\r = valV kvs k
noncomputable def DPut (H : Hp) (a : Addr) (y v : V) (H' : Hp) : Prop :=
 (∃ kvs k,H a = some (.dK kvs)/\y = kV k/\kvs.length < sizeLine/\H' = upd H a (.dK (putK kvs k v))) \/
 ∃ kvs k b,H a = some (.dT kvs)/\y = .ref b/\H b = some (.tup (k.map kV))/\kvs.length < sizeLine/\H' = upd H a (.dT (putK kvs k v))
theorem DGet.k {H : Hp} {a : Addr} {kvs : List (Key × V)} {k : Key} (e : H a = some (.dK kvs)) : DGet H a (kV k) (valV kvs k):=.inl ⟨kvs,k,.inl e,rfl,rfl⟩
theorem DPut.k {H : Hp} {a : Addr} {kvs : List (Key × V)} {k : Key} {v : V} (e : H a = some (.dK kvs)) (hl : kvs.length < sizeLine) : DPut H a (kV k) v (upd H a (.dK (putK kvs k v))):=.inl ⟨kvs,k,e,rfl,hl,rfl⟩
section
variable {X : Cx} {pins : List (Addr × Obj)} {σ : St} {H : Hp} {s : Shared} {a : Addr} {y v : V} {u r : Value} {o : Option V} {A : Around} {E : Value->Shared->Prop}
theorem Inv.big (I : Inv X pins σ H s) : sysModules < s.heap.objs.size:=by
 have h : mainGlobals < s.heap.objs.size:=(I.mod.glob.keeps I.bk).lt
 exact Nat.lt_trans (by decide) h
theorem zp4 {Q : Value->Shared->Prop} (hu : A.units + 1 < cLine) (I : Inv X pins σ H s) (g : DGet H a y (some v)) (ry : RelV y u) (h : ∀ w' s',Inv X pins σ H s'->RelV v w'->Q w' s') :
  wpAny (model X.prog X.w) A (getItem (.ref a) u) Q E s:=by
 rcases g with ⟨kvs,k,e,ey,l⟩ | ⟨kvs,k,b,e,ey,eb,l⟩
 ·subst ey
  obtain ⟨z,hd,vs,rel,dd⟩:=zpp I.hok e
  obtain ⟨w',hw,rw'⟩:=RelO.some_of (v:=v) (o:=valueAt vs k) (by rw [l]; exact rel.val k)
  exact wpAny_getItem_of (zm3 ry) dd.mapOf hw (h w' _ (I.tok _) rw')
 ·subst ey
  cases (show u = Value.ref b from ry)
  obtain ⟨z,hd,xs,rel,dd⟩:=zpr I.hok e
  obtain ⟨w',hw,rw'⟩:=RelO.some_of (v:=v) (o:=(atKey xs k).map (·.2)) (by rw [l]; exact rel.val k)
  obtain ⟨p,hp,hp2⟩:=Option.map_eq_some_iff.mp hw
  refine wpAny_getItem_heap (tupleKind_room_in1 hu) (zkq I.hok eb) dd hp ?_
  rw [hp2]
  exact h w' _ (I.tok _) rw'
theorem zxf {Q : Value->Shared->Prop} (hu : A.units + 1 < cLine) (I : Inv X pins σ H s) (g : DGet H a y o) (ry : RelV y u) (h : ∀ s',Inv X pins σ H s'->Q (.bool (!o.isSome)) s') :
  wpAny (model X.prog X.w) A (compareOp .NotIn u (.ref a)) Q E s:=by
 rcases g with ⟨kvs,k,e,ey,l⟩ | ⟨kvs,k,b,e,ey,eb,l⟩
 ·subst ey
  obtain ⟨z,hd,vs,rel,dd⟩:=zpp I.hok e
  refine wpAny_notIn_of (zm3 ry) hd dd.mapOf ?_
  rw [<- (rel.val k).isSome_eq,<- l]
  exact h _ (I.tok _)
 ·subst ey
  cases (show u = Value.ref b from ry)
  obtain ⟨z,hd,xs,rel,dd⟩:=zpr I.hok e
  refine wpAny_notIn_heap (tupleKind_room_in1 hu) (zkq I.hok eb) hd dd ?_
  have q:=(rel.val k).isSome_eq
  rw [Option.isSome_map] at q
  rw [<- q,<- l]
  exact h _ (I.tok _)
theorem zj6 {h' : Heap} {t' : Nat} {ob : HO} (I : Inv X pins σ H s) (mu : Mut (H a)) (hs : Heap.SameBut a s.heap h') (he : ∃ q,h'.get? a = some q) (new : zce X.prog X.w (upd H a ob) h' a ob) :
  Inv X pins σ (upd H a ob) { s with heap:=h',toks:=t' } :=
 I.write (x:=a) (e:=a) mu (.inl rfl) (fun b q hb z=>(hs.2 b hb).trans z) he new
theorem zs8 {P : Program} {w : World} {H' : Hp} {h' : Heap} {kvs : List (Key × V)} {vs : List (Key × Value)} (z : kvs.length <= sizeLine) (hd : (a == sysModules) = false) (rel : KV kvs vs) (dd : h'.DictOf (zal P w) a vs) :
  zce P w H' h' a (.dK kvs):=⟨z,hd,vs,rel,dd⟩
theorem zr5 {H' : Hp} {Q : Unit->Shared->Prop} (hu : A.units + 1 < cLine) (I : Inv X pins σ H s) (g : DPut H a y v H') (ry : RelV y u) (rv : RelV v r) (h : ∀ s',Inv X pins σ H' s'->Q () s') :
  wpAny (model X.prog X.w) A (setItem (.ref a) u r) Q E s:=by
 rcases g with ⟨kvs,k,e,ey,l,eH⟩ | ⟨kvs,k,b,e,ey,eb,l,eH⟩
 ·subst ey eH
  obtain ⟨z,hd,vs,rel,dd⟩:=zmo I.hok e
  have hz : vs.length <= sizeLine:=by rw [<- rel.length]; exact z
  have hl : (putK kvs k v).length <= sizeLine:=by have:=zd5 kvs k v; lia
  refine wpAny_setItem_pairs (hsz:=hz) (zm3 ry) dd fun h' dd' hs=>h _ ?_
  have he : ∃ q,h'.get? a = some q:=let ⟨q,_,_,hq,_⟩:=dd'; ⟨q,hq⟩
  exact zj6 I (by rw [e]; exact True.intro) hs he (zs8 hl hd (rel.put k rv) dd')
 ·subst ey eH
  cases (show u = Value.ref b from ry)
  obtain ⟨z,hd,xs,rel,dd⟩:=ybo I.hok e
  have hz : xs.length <= sizeLine:=by rw [<- Paired.length rel]; exact z
  have hl : (putK kvs k v).length <= sizeLine:=by have:=zd5 kvs k v; lia
  refine wpAny_setItem_heap (hsz:=hz) (tupleKind_room_in1 hu) (zkq I.hok eb) dd fun h' dd' hs=>h _ ?_
  obtain ⟨q,es,ep,hq,h2,h3,h4,_,h5⟩:=dd'
  refine zj6 I (by rw [e]; exact True.intro) hs ⟨q,hq⟩ ⟨hl,hd,_,(rel.put k eb rv).keeps fun c ys ec=>?_,q,es,ep,hq,h2,h3,h4,h5⟩
  rw [zaf (zxo ec e (fun z=>nomatch z))]
  exact ec
end
noncomputable def NoSl (i : Expr) : Prop:=∀ ov iv,subscripted i false ov iv = operate [ov,iv] (getItem ov iv)
theorem zxt {prog : Program} {w : World} {A : Around} {E : Value->Shared->Prop} {s : Shared} {env : Env} {value slice : Expr} {pos : Pos} {T id : String} {Q : Value->Shared->Prop}
  (hl : typeLookup (.type T) "__getitem__" = pure (some (.builtin id))) (hs : NoSl slice)
  (h : wpAny (model prog w) A (eval value env) (fun o s₁=>wpAny (model prog w) A (eval slice env) (fun i s₂=>s₂.TypeIs o T/\wpAny (model prog w) A (getItem o i) Q E s₂) E s₁) E s) :
  wpAny (model prog w) A (eval (.Subscript value slice pos) env) Q E s:=by
 refine Subscript_ (wpAny_mono h (fun o s₁ h₁=>wpAny_mono h₁ (fun i s₂ h₂=>?_) fun _ _ x=>x) fun _ _ x=>x)
 obtain ⟨hT,h₂⟩:=h₂
 unfold subscriptTail
 refine wpAny_bind ?_
 rw [getitemInPython_of_ne hT.not_modules]
 refine wpAny_bind (wpAny_specialOf hT hl ?_)
 have fin : wpAny (model prog w) A (subscripted slice false o i) (fun r s₃=>wpAny (model prog w) A (letTemporaryGo value o r >>= fun _=>pure r) Q E s₃) E s₂:=by
  rw [hs o i]
  exact wpAny_operating (wpAny_mono h₂ (fun r s₃ h₃=>wpAny_bind (wpAny_letTemporaryGo (wpAny_pure h₃))) fun _ _ x=>x)
 first
  | exact wpAny_pure (wpAny_bind fin)
  | exact wpAny_bind (wpAny_pure (wpAny_bind fin))
  | exact wpAny_bind fin
theorem zl2 {X : Cx} {pins : List (Addr × Obj)} {σ : St} {H : Hp} {s : Shared} {a : Addr} {y : V} {o : Option V} (I : Inv X pins σ H s) (g : DGet H a y o) : s.TypeIs (.ref a) "dict" := by
 rcases g with ⟨kvs,k,e,_,_⟩ | ⟨kvs,k,b,e,_,_,_⟩
 ·obtain ⟨_,_,vs,_,dd⟩:=zpp I.hok e
  exact dd.typeIs
 ·obtain ⟨_,_,xs,_,dd⟩:=zpr I.hok e
  exact dd.typeIs
noncomputable def zw2 (td ty : TE) : TE:=fun σ H Q=>td σ H fun x H1=>ty σ H1 fun y H2=>∃ a v,x = .ref a/\DGet H2 a y (some v)/\Q v H2
noncomputable def zl9 (ty td : TE) : TE:=fun σ H Q=>ty σ H fun y H1=>td σ H1 fun x H2=>∃ a o,x = .ref a/\DGet H2 a y o/\Q (.bl (!o.isSome)) H2
noncomputable def zzc (td ty tv : TE) : TS:=fun D σ H=>tv σ H fun v H1=>td σ H1 fun x H2=>ty σ H2 fun y H3=>∃ a H4,x = .ref a/\DPut H3 a y v H4/\D.nx σ H4
section
variable {X : Cx} {o i e value : Expr} {pos pos' tpos : Pos} {td ty tv : TE}
theorem zb8 (hu : X.A.units + 1 < cLine) (ho : PE X o td) (hi : PE X i ty) (hs : NoSl i) : PE X (.Subscript o i pos) (zw2 td ty):=by
 intro pins s σ H Q I h
 refine zxt PySem.F.slot_dict_getitem.lookup hs (thn (ho pins s σ H _ I h) fun u s1 ⟨x,H1,I1,rx,q1⟩=>thn (hi pins s1 σ H1 _ I1 q1) fun iv s2 hz9=>?_)
 obtain ⟨y,H2,I2,ry,a,v,ex,g,q2⟩:=hz9
 subst ex
 obtain rfl : u = Value.ref a:=rx
 exact ⟨zl2 I2 g,zp4 hu I2 g ry fun w' s3 I3 rw'=>⟨v,H2,I3,rw',q2⟩⟩
theorem zlg (hu : X.A.units + 1 < cLine) (hi : PE X i ty) (ho : PE X o td) : PC X .NotIn i o (zl9 ty td):=by
 intro pins s σ H Q I h
 refine thn (hi pins s σ H _ I h) fun iv s1 ⟨y,H1,I1,ry,q1⟩=>thn (ho pins s1 σ H1 _ I1 q1) fun u s2 hz9=>?_
 obtain ⟨x,H2,I2,rx,a,ov,ex,g,q2⟩:=hz9
 subst ex
 obtain rfl : u = Value.ref a:=rx
 exact zxf hu I2 g ry fun s3 I3=>⟨.bl (!ov.isSome),H2,I3,rfl,q2⟩
theorem zfd (hu : X.A.units + 1 < cLine) (ho : PE X o td) (hi : PE X i ty) (hv : PE X value tv) (hs : swapsWith value (some (.Subscript o i pos')) pos.line X.env = pure false) :
  PS X (.Assign [.Subscript o i pos'] value pos) (zzc td ty tv):=by
 intro pins s σ H D I h
 refine wpAny_Assign_Subscript (thn (hv pins s σ H _ I h) fun r s1 ⟨v,H1,I1,rv,q1⟩=>thn (ho pins s1 σ H1 _ I1 q1) fun u s2 ⟨x,H2,I2,rx,q2⟩=>thn (hi pins s2 σ H2 _ I2 q2) fun iv s3 hz9=>?_) hs
 obtain ⟨y,H3,I3,ry,a,H4,ex,g,q3⟩:=hz9
 subst ex
 obtain rfl : u = Value.ref a:=rx
 exact zr5 hu I3 g ry rv fun s4 I4=>⟨σ,H4,I4,q3⟩
end
theorem zoj {P : Program} {w : World} {H : Hp} (h : Heap) (hb : sysModules < h.objs.size) : zce P w H (h.push { cls:=.type "dict", data:=.dict #[] }) h.objs.size (.dK []) :=
 ⟨Nat.zero_le _,beq_eq_false_iff_ne.mpr (Ne.symm (Nat.ne_of_lt hb)),[],.nil,Heap.DictOf.new h⟩
noncomputable def zte : TE:=fun _ H Q=>∀ p,H p = none->Q (.ref p) (upd H p (.dK []))
section
variable {X : Cx} {pos : Pos}
theorem zf1 : PE X (.Dict [] [] pos) zte:=fun pins s σ H Q I h =>
 wpAny_Dict_empty ⟨.ref s.heap.objs.size,_,I.laid (a:=s.heap.objs.size) (o:=.dK []) (t':=s.toks) (fun _ _ q=>Heap.get?_push_of_some _ q) (Nat.le_refl _) (zoj s.heap I.big),rfl,h _ (I.hok.fresh (Nat.le_refl _))⟩
end
noncomputable def zp5 : List (TE × TE)->St->Hp->(List (V × V)->Hp->Prop)->Prop
 | [],_,H,Q=>Q [] H
 | (tk,tv)::r,σ,H,Q=>tk σ H fun x H1=>tv σ H1 fun y H2=>zp5 r σ H2 fun ps H3=>Q ((x,y)::ps) H3
noncomputable abbrev VV : List (V × V)->List (Value × Value)->Prop:=Paired fun p q=>RelV p.1 q.1/\RelV p.2 q.2
noncomputable def PPs (X : Cx) (pos : Pos) (keys : List (Option Expr)) (values : List Expr) (trs : List (TE × TE)) : Prop :=
 ∀ (pins : List (Addr × Obj)) (s : Shared) (σ : St) (H : Hp) (Q : List (V × V)->Hp->Prop),Inv X pins σ H s->zp5 trs σ H Q ->
  wpAny (model X.prog X.w) X.A (evalPairs (pairTrees keys values X.env pos)) (fun vs s'=>∃ ps H',Inv X pins σ H' s'/\VV ps vs/\Q ps H') X.xe s
theorem zya {X : Cx} {pos : Pos} : PPs X pos [] [] []:=fun pins s σ H Q I h=>pairTrees_nil_walk ⟨[],H,I,.nil,h⟩
theorem zty {X : Cx} {pos : Pos} {k v : Expr} {ks : List (Option Expr)} {vs : List Expr} {tk tv : TE} {trs : List (TE × TE)} (hk : PE X k tk) (hv : PE X v tv) (hr : PPs X pos ks vs trs) :
  PPs X pos (some k::ks) (v::vs) ((tk,tv)::trs):=fun pins s σ H Q I h =>
 pairTrees_cons_walk (thn (hk pins s σ H _ I h) fun u s1 ⟨x,H1,I1,rx,q1⟩=>thn (hv pins s1 σ H1 _ I1 q1) fun w2 s2 ⟨y,H2,I2,ry,q2⟩ =>
  thn (hr pins s2 σ H2 _ I2 q2) fun ws s3 ⟨ps,H3,I3,rel,q3⟩=>⟨(x,y)::ps,H3,I3,.cons ⟨rx,ry⟩ rel,q3⟩)
noncomputable def zin (kvs more : List (Key × V)) : List (Key × V):=more.foldl (fun acc kv=>putK acc kv.1 kv.2) kvs
theorem KV.merge : ∀ {more : List (Key × V)} {rs : List (Key × Value)} {kvs : List (Key × V)} {vs : List (Key × Value)},KV more rs->KV kvs vs->KV (zin kvs more) (merged vs rs):=by
 intro more rs kvs vs r
 unfold KV at r
 induction r generalizing kvs vs with
 | nil=>intro q; exact q
 | @cons p q ps qs h t ih =>
  intro r0
  have e : KV (putK kvs p.1 p.2) (stored vs q.1 q.2):=by
   have:=r0.put p.1 h.2
   rw [<- h.1]; exact this
  exact ih e
theorem zfp : ∀ (more kvs : List (Key × V)),(zin kvs more).length <= kvs.length + more.length
 | [],kvs=>by show kvs.length <= kvs.length + 0; lia
 | p::r,kvs=>by
  have h1:=zfp r (putK kvs p.1 p.2)
  have h2:=zd5 kvs p.1 p.2
  show (zin (putK kvs p.1 p.2) r).length <= _
  rw [List.length_cons]; lia
theorem zik {P : Program} {w : World} : ∀ {kvs : List (Key × V)} {ws : List (Value × Value)},VV (kvs.map fun kv=>(kV kv.1,kv.2)) ws -> ∃ rs,Carries (zal P w) ws rs/\KV kvs rs
 | [],_,r=>by rw [List.map_nil] at r; cases r; exact ⟨[],True.intro,.nil⟩
 | p::kvs,_,r=>by
  rw [List.map_cons] at r
  cases r with
  | @cons a b as bs h t =>
   obtain ⟨rs,c,q⟩:=zik (P:=P) (w:=w) t
   obtain ⟨b1,b2⟩:=b
   exact ⟨(p.1,b2)::rs,⟨zm3 h.1,rfl,c⟩,.cons ⟨rfl,h.2⟩ q⟩
noncomputable def zy3 (trs : List (TE × TE)) : TE:=fun σ H Q=>∀ p,H p = none->zp5 trs σ (upd H p (.dK [])) fun ps H2=>H2 p = some (.dK []) /\ ∃ kvs : List (Key × V),ps = kvs.map (fun kv=>(kV kv.1,kv.2))/\kvs.length <= 15/\Q (.ref p) (upd H2 p (.dK (zin [] kvs)))
theorem zyq {X : Cx} {pos : Pos} {keys : List (Option Expr)} {values : List Expr} {trs : List (TE × TE)} (h : PPs X pos keys values trs) (hall : keys.all (·.isSome) = true) (hl : keys.length = values.length) (h0 : keys≠[])
  (h15 : keys.length <= 15) : PE X (.Dict keys values pos) (zy3 trs):=by
 intro pins s σ H Q I q
 have hn:=I.hok.fresh (Nat.le_refl s.heap.objs.size)
 have I1:=I.laid (a:=s.heap.objs.size) (o:=.dK []) (h':=s.heap.push { cls:=.type "dict", data:=.dict #[] }) (t':=s.toks) (fun _ _ q=>Heap.get?_push_of_some _ q) (Nat.le_refl _) (zoj s.heap I.big)
 refine wpAny_Dict_walk (knd:=zal X.prog X.w) hall hl h0 h15 (thn (h pins _ σ _ _ I1 (q _ hn)) fun ws s2 hz9=>?_)
 obtain ⟨ps,H2,I2,rel,e,kvs,ep,lk,q2⟩:=hz9
 subst ep
 obtain ⟨rs,c,rk⟩:=zik (P:=X.prog) (w:=X.w) rel
 obtain ⟨z,hd,vs0,r0,dd⟩:=zmo I2.hok e
 cases r0
 refine ⟨rs,c,dd,fun h' dd' hs=>⟨.ref s.heap.objs.size,_,?_,rfl,q2⟩⟩
 have hz : (zin [] kvs).length <= sizeLine:=by
  have h1:=zfp kvs []
  rw [List.length_nil] at h1
  rw [sizeLine_eq]; lia
 have he : ∃ q,h'.get? s.heap.objs.size = some q:=let ⟨q,_,_,hq,_⟩:=dd'; ⟨q,hq⟩
 exact zj6 I2 (by rw [e]; exact True.intro) hs he (zs8 hz hd (rk.merge .nil) dd')
structure M1 (X : Cx) (o : Expr) (m : Str) (apos : Pos) (e : Expr) (cpos : Pos) : Prop where
 base : attributeBase o m X.env (eval o X.env) = eval o X.env
 few : ((backTo cpos (starEach [e] X.env)).all (fun x=>!x.1) && (backToKw cpos (keywordEach [] X.env)).all (fun x=>x.1.isSome)
  && decide (([e] : List Expr).length + ([] : List Keyword).length + (if ([] : List Keyword).isEmpty then 0 else 1) < 30)) = true
 line : (apos.endLine == cpos.line) = true
 trees : backTo cpos (starEach [e] X.env) = [(false,eval e X.env)]
structure M2 (X : Cx) (o : Expr) (m : Str) (apos : Pos) (e f : Expr) (cpos : Pos) : Prop where
 base : attributeBase o m X.env (eval o X.env) = eval o X.env
 few : ((backTo cpos (starEach [e,f] X.env)).all (fun x=>!x.1) && (backToKw cpos (keywordEach [] X.env)).all (fun x=>x.1.isSome)
  && decide (([e,f] : List Expr).length + ([] : List Keyword).length + (if ([] : List Keyword).isEmpty then 0 else 1) < 30)) = true
 line : (apos.endLine == cpos.line) = true
 trees : backTo cpos (starEach [e,f] X.env) = [(false,eval e X.env),(false,eval f X.env)]
noncomputable def IsD (H : Hp) (a : Addr) : Prop:=(∃ kvs,Rd H a (.dK kvs)) \/ ∃ kvs,Rd H a (.dT kvs)
theorem zzv {X : Cx} {pins : List (Addr × Obj)} {σ : St} {H : Hp} {s : Shared} {a : Addr} (I : Inv X pins σ H s) (d : IsD H a) :
  s.TypeIs (.ref a) "dict" /\ (∀ b,Value.ref a = .ref b -> ∃ ob,s.heap.get? b = some ob/\ob.dict = none)/\(a == sysModules) = false:=by
 rcases d with ⟨kvs,e⟩ | ⟨kvs,e⟩
 ·obtain ⟨_,hd,vs,_,dd⟩:=zpp I.hok e
  refine ⟨dd.typeIs,fun b q=>?_,hd⟩
  cases q
  obtain ⟨ob,_,_,h1,h2,_⟩:=dd
  exact ⟨ob,h1,h2.2.1⟩
 ·obtain ⟨_,hd,xs,_,dd⟩:=zpr I.hok e
  refine ⟨dd.typeIs,fun b q=>?_,hd⟩
  cases q
  obtain ⟨ob,_,_,h1,h2,_⟩:=dd
  exact ⟨ob,h1,h2.2.1⟩
section
variable {X : Cx} {pins : List (Addr × Obj)} {σ : St} {H : Hp} {s : Shared} {a : Addr} {y d : V} {u r : Value} {o : Option V} {A : Around} {E : Value->Shared->Prop}
theorem ya4 {Q : Value->Shared->Prop} (hu : A.units + 1 < cLine) (I : Inv X pins σ H s) (g : DGet H a y o) (ry : RelV y u) (rd : RelV d r) (h : ∀ w' s',Inv X pins σ H s'->RelV (o.getD d) w'->Q w' s') :
  wpAny (model X.prog X.w) A (call (.builtin "dict.get") [.ref a,u,r]) Q E s:=by
 rcases g with ⟨kvs,k,e,ey,l⟩ | ⟨kvs,k,b,e,ey,eb,l⟩
 ·subst ey
  obtain ⟨z,hd,vs,rel,dd⟩:=zpp I.hok e
  refine call_meetsIn PySem.F.slot_dict_get dd.typeIs PySem.F.entry_dict_get (PySem.F.args_dict_get_3 _ _ _) (meets_dict_get_default (zal X.prog X.w) a (zm3 ry) hd r) ⟨_,dd.mapOf,h _ _ (I.tok _) ?_⟩
  rw [l]
  exact (rel.val k).getD rd
 ·subst ey
  cases (show u = Value.ref b from ry)
  obtain ⟨z,hd,xs,rel,dd⟩:=zpr I.hok e
  refine call_meetsIn PySem.F.slot_dict_get dd.typeIs PySem.F.entry_dict_get (PySem.F.args_dict_get_3 _ _ _) (meetsH_dict_get_default (tupleKind (zal X.prog X.w)) a b hd r) ⟨tupleKind_room_in1 hu,k,xs,zkq I.hok eb,dd,h _ _ (I.tok _) ?_⟩
  rw [l]
  exact (rel.val k).getD rd
end
noncomputable def zwd (td ty tx : TE) : TE:=fun σ H Q=>td σ H fun x H1=>∃ a,x = .ref a/\IsD H1 a/\ty σ H1 fun y H2=>tx σ H2 fun z H3=>∃ o,DGet H3 a y o/\Q (o.getD z) H3
section
variable {X : Cx} {o e f : Expr} {apos cpos : Pos} {td ty tx : TE}
theorem zvv (hu : X.A.units + 1 < cLine) (ho : PE X o td) (he : PE X e ty) (hf : PE X f tx) (m : M2 X o "get" apos e f cpos) : PE X (.Call (.Attribute o "get" apos) [e,f] [] cpos) (zwd td ty tx):=by
 intro pins s σ H Q I h
 refine wpAny_Call_method m.base m.few m.line PySem.F.plainAttrs_dict PySem.F.slot_dict_get PySem.F.type_dict_get (thn (ho pins s σ H _ I h) fun u s1 hz9=>?_)
 obtain ⟨x,H1,I1,rx,a,ex,d,q1⟩:=hz9
 subst ex
 obtain rfl : u = Value.ref a:=rx
 obtain ⟨t1,t2,_⟩:=zzv I1 d
 refine ⟨t1,t2,?_⟩
 rw [m.trees]
 refine Calls.callWith_builtin rfl (Calls.evalArgs_plain (Calls.spliced_cons (thn (he pins s1 σ H1 _ I1 q1) fun iv s2 ⟨y,H2,I2,ry,q2⟩ =>
  Calls.spliced_cons (thn (hf pins s2 σ H2 _ I2 q2) fun fv s3 ⟨z,H3,I3,rz,ov,g,q3⟩=>Calls.spliced_nil ?_))))
 exact ya4 hu I3 g ry rz fun w' s4 I4 rw'=>⟨_,H3,I4,rw',q3⟩
end
end L2
namespace L2
open PySem PySem.Spec PyProof.Rows
end L2
namespace L2
open PySem PySem.Spec PyProof.Rows PySem.Builtin PySem.Builtin.Str
noncomputable def T (l : List Nat) : Str:=⟨l.toArray⟩
theorem zna (l : List Nat) : (T l).cps.toList = l:=by simp [T]
theorem zrp {a b : List Nat} : T a = T b ↔ a = b:=by
 constructor
 ·intro h
  have:=congrArg (fun x : Str=>x.cps.toList) h
  simpa [T] using this
 ·rintro rfl; rfl
theorem zm5 (l : List Nat) : (T l).length = l.length:=by simp [T,Str.length]
theorem ya7 (a b : List Nat) : T a++T b = T (a++b):=by
 show Str.append (T a) (T b) = _
 simp [Str.append,T]
theorem zt7 (a b : List Nat) : decide ((V.str (T a)) = V.str (T b)) = decide (a = b):=by
 by_cases h : a = b
 ·subst h; simp
 ·rw [decide_eq_false h,decide_eq_false]
  intro q; injection q with q; exact h (zrp.mp q)
end L2
namespace L2
open PySem PySem.Spec PyProof.Rows
noncomputable def clos (cells : List (Str × Addr)) : List (Str × NameKind)->List (Str × Addr)->List (Str × Addr)
 | [],acc=>acc
 | (n,k)::r,acc=>if k == .free then (match cells.lookup n with | some c=>clos cells r ((n,c)::acc) | none=>clos cells r acc) else clos cells r acc
theorem zgx {cells : List (Str × Addr)} : ∀ (names : List (Str × NameKind)) (acc : List (Str × Addr)),(∀ x c,acc.lookup x = some c->cells.lookup x = some c) -> ∀ x c,(clos cells names acc).lookup x = some c->cells.lookup x = some c
 | [],_,h=>h
 | (n,k)::r,acc,h=>by
  intro x c
  unfold clos
  split
  ·cases e : cells.lookup n with
   | none=>exact zgx r acc h x c
   | some d =>
    refine zgx r _ (fun y z hy=>?_) x c
    rw [List.lookup_cons] at hy
    cases q : y == n with
    | true =>
     rw [q] at hy
     have : y = n:=by simpa using q
     subst this
     simpa [e] using hy
    | false=>rw [q] at hy; exact h y z hy
  ·exact zgx r acc h x c
theorem zg2 {cells : List (Str × Addr)} : ∀ (names : List (Str × NameKind)) (acc : List (Str × Addr)) (x : Str),(acc.lookup x).isSome = true->((clos cells names acc).lookup x).isSome = true
 | [],_,_,h=>h
 | (n,k)::r,acc,x,h=>by
  unfold clos
  split
  ·cases e : cells.lookup n with
   | none=>exact zg2 r acc x h
   | some d =>
    refine zg2 r _ x ?_
    rw [List.lookup_cons]
    cases q : x == n with
    | true=>rfl
    | false=>exact h
  ·exact zg2 r acc x h
theorem zgz {cells : List (Str × Addr)} : ∀ (names : List (Str × NameKind)) (acc : List (Str × Addr)) (x : Str),(x,NameKind.free)∈names->(cells.lookup x).isSome = true->((clos cells names acc).lookup x).isSome = true
 | (n,k)::r,acc,x,hm,hs=>by
  unfold clos
  rcases List.mem_cons.mp hm with e | hm
  ·cases e
   simp only [beq_self_eq_true,if_true]
   obtain ⟨c,hc⟩:=Option.isSome_iff_exists.mp hs
   rw [hc]
   refine zg2 r _ _ ?_
   simp [List.lookup_cons]
  ·split
   ·cases e : cells.lookup n with
    | none=>exact zgz r acc x hm hs
    | some d=>exact zgz r _ x hm hs
   ·exact zgz r acc x hm hs
theorem zpa {scope : Scope} {env : Env} (h : ∀ x,(x,NameKind.free)∈scope.names->(env.cells.lookup x).isSome = true) : closureFor scope env = pure (clos env.cells scope.names []):=by
 have gen : ∀ (names : List (Str × NameKind)) (acc : List (Str × Addr)),(∀ x,(x,NameKind.free)∈names->(env.cells.lookup x).isSome = true) ->
   (forIn names acc (fun (p : Str × NameKind) (r : List (Str × Addr))=>(if p.2 == NameKind.free then (do let c <- cellOf env p.1; pure (ForInStep.yield ((p.1,c)::r))) else pure (ForInStep.yield r) : Sem (ForInStep (List (Str × Addr)))))) = pure (clos env.cells names acc):=by
  intro names
  induction names with
  | nil=>intro acc _; rfl
  | cons p r ih =>
   obtain ⟨n,k⟩:=p
   intro acc hh
   rw [List.forIn_cons]
   unfold clos
   cases hk : k == NameKind.free with
   | false =>
    simp only [hk,Bool.false_eq_true,if_false]
    exact ih acc fun x hx=>hh x (List.mem_cons_of_mem _ hx)
   | true =>
    have hk' : k = .free:=by simpa using hk
    subst hk'
    obtain ⟨c,hc⟩:=Option.isSome_iff_exists.mp (hh n List.mem_cons_self)
    have e : cellOf env n = pure c:=by unfold cellOf; rw [hc]
    simp only [beq_self_eq_true,if_true,e,hc]
    exact ih _ fun x hx=>hh x (List.mem_cons_of_mem _ hx)
 exact (congrArg (fun (m : Sem (List (Str × Addr)))=>m >>= fun cs=>pure cs) (gen scope.names [] h)).trans rfl
noncomputable def lcS (nt : Nat) (cs : List Nat) (σ : St) : St:=List.replicate nt none++cs.map fun i=>(σ[i]?).getD none
noncomputable def lcCx (X : Cx) (N' : List Str) (scope : Scope) (s : Shared) (H : Hp) (C : Addr) (fp : List Addr) : Cx :=
 { X with N:=N',s₀:=s,H₀:=H,env:=compEnvC scope (clos X.env.cells scope.names []) C X.env,outer:=X.stack,stack:=X.stack,ex:=fp,fn:=fun _=>false,pn:=[],xe:=fun _ _=>False }
noncomputable def lcOk (Nx : List Str) (sc scope : Scope) (N' : List Str) (nt : Nat) (cs : List Nat) : Bool :=
 decide (scope.kind = .function) && (scope.names.all fun p=>match p.2 with
  | .cell=>false
  | .local=>decide (scope.names.lookup p.1 = some .local)
  | .free=>decide (sc.names.lookup p.1 = some .cell) || decide (sc.names.lookup p.1 = some .free)
  | _=>true) && decide (N'.length = nt + cs.length) && (((N'.drop nt).zip cs).all fun p=>decide (Nx[p.2]? = some p.1) && decide (scope.names.lookup p.1 = some .free) && (decide (sc.names.lookup p.1 = some .cell) || decide (sc.names.lookup p.1 = some .free)))
structure LcOk (X : Cx) (scope : Scope) (N' : List Str) (nt : Nat) (cs : List Nat) : Prop where
 kind : scope.kind = .function
 nocell : ∀ y∈scope.names,y.2 ≠ .cell
 loc : ∀ y∈scope.names,y.2 = .local->scope.names.lookup y.1 = some .local
 fr : ∀ x,(x,NameKind.free)∈scope.names->X.env.kindOf x = some .cell \/ X.env.kindOf x = some .free
 len : N'.length = nt + cs.length
 cap : ∀ j i,cs[j]? = some i -> ∃ x,N'[nt + j]? = some x/\X.N[i]? = some x/\scope.names.lookup x = some .free/\Vis X.env.scope x/\X.env.kindOf x≠some .local
theorem LcOk.of {X : Cx} {scope : Scope} {N' : List Str} {nt : Nat} {cs : List Nat} {Nx : List Str} {sc : Scope} (hN : X.N = Nx) (hs : X.env.scope = sc) (h : lcOk Nx sc scope N' nt cs = true) : LcOk X scope N' nt cs:=by
 subst hN hs
 unfold lcOk at h
 simp only [Bool.and_eq_true,decide_eq_true_eq,List.all_eq_true] at h
 obtain ⟨⟨⟨h1,h2⟩,h3⟩,h4⟩:=h
 refine ⟨h1,fun y hy e=>?_,fun y hy e=>?_,fun x hx=>?_,h3,fun j i e=>?_⟩
 ·have:=h2 y hy; rw [e] at this; exact Bool.false_ne_true this
 ·have:=h2 y hy; rw [e] at this; exact of_decide_eq_true this
 ·have:=h2 _ hx
  simp only [Bool.or_eq_true,decide_eq_true_eq] at this
  exact this
 ·have hj : j < cs.length:=(List.getElem?_eq_some_iff.mp e).1
  have hd : (N'.drop nt).length = cs.length:=by rw [List.length_drop,h3]; lia
  have hx : (N'.drop nt)[j]? = some ((N'.drop nt)[j]'(by lia)):=by simp [hd,hj]
  generalize (N'.drop nt)[j]'(by lia) = x at hx
  have hz : (x,i)∈(N'.drop nt).zip cs:=by
   refine List.mem_of_getElem? (i:=j) ?_
   rw [List.getElem?_zip_eq_some]
   exact ⟨hx,e⟩
  have q:=h4 _ hz
  simp only [Bool.and_eq_true,Bool.or_eq_true,decide_eq_true_eq] at q
  refine ⟨x,by rw [List.getElem?_drop] at hx; exact hx,q.1.1,q.1.2,?_,fun z=>?_⟩
  ·exact q.2.elim (fun z=>.inr (.inl z)) fun z=>.inr (.inr z)
  ·have z' : X.env.scope.names.lookup x = some .local:=z
   rcases q.2 with y | y <;> · rw [z'] at y; cases y
theorem zgk {env : Env} : ∀ {names : List (Str × NameKind)} {x : Str},names.lookup x = some .free ->
  (names.map fun (n,k)=>if (k == NameKind.free && env.scope.kind == .function && env.kindOf n == some .cell) then (n,NameKind.cell) else (n,k)).lookup x = some .cell \/
  (names.map fun (n,k)=>if (k == NameKind.free && env.scope.kind == .function && env.kindOf n == some .cell) then (n,NameKind.cell) else (n,k)).lookup x = some .free
 | [],_,h=>by simp at h
 | (n,k)::r,x,h=>by
  have ih:=@zgk env r x
  show List.lookup x ((if (k == NameKind.free && env.scope.kind == .function && env.kindOf n == some .cell) = true then (n,NameKind.cell) else (n,k))::_) = _ \/ List.lookup x ((if (k == NameKind.free && env.scope.kind == .function && env.kindOf n == some .cell) = true then (n,NameKind.cell) else (n,k))::_) = _
  cases hx : x == n with
  | true =>
   simp only [List.lookup_cons,hx] at h
   cases h
   by_cases hc : (NameKind.free == NameKind.free && env.scope.kind == .function && env.kindOf n == some .cell) = true
   ·rw [if_pos hc]; left; simp only [List.lookup_cons,hx]
   ·rw [if_neg hc]; right; simp only [List.lookup_cons,hx]
  | false =>
   simp only [List.lookup_cons,hx] at h
   by_cases hc : (k == NameKind.free && env.scope.kind == .function && env.kindOf n == some .cell) = true
   ·rw [if_pos hc]; simp only [List.lookup_cons,hx]; exact ih h
   ·rw [if_neg hc]; simp only [List.lookup_cons,hx]; exact ih h
theorem zeh {env : Env} : ∀ {names : List (Str × NameKind)} {x : Str} {q : NameKind},(∀ y∈names,y.2 ≠ .cell)->(q = .cell \/ q = .free) ->
  (names.map fun (n,k)=>if (k == NameKind.free && env.scope.kind == .function && env.kindOf n == some .cell) then (n,NameKind.cell) else (n,k)).lookup x = some q->(x,NameKind.free)∈names
 | [],_,_,_,_,h=>by simp at h
 | (n,k)::r,x,q,hn,hq,h=>by
  have ih:=@zeh env r x q (fun y hy=>hn y (List.mem_cons_of_mem _ hy)) hq
  have h' : List.lookup x ((if (k == NameKind.free && env.scope.kind == .function && env.kindOf n == some .cell) = true then (n,NameKind.cell) else (n,k))::(r.map fun (n,k)=>if (k == NameKind.free && env.scope.kind == .function && env.kindOf n == some .cell) then (n,NameKind.cell) else (n,k))) = some q:=h
  cases hx : x == n with
  | true =>
   have e : x = n:=by simpa using hx
   subst e
   by_cases hc : (k == NameKind.free && env.scope.kind == .function && env.kindOf x == some .cell) = true
   ·simp only [Bool.and_eq_true,beq_iff_eq] at hc
    rw [hc.1.1]; exact List.mem_cons_self
   ·rw [if_neg hc] at h'
    simp only [List.lookup_cons,beq_self_eq_true] at h'
    cases h'
    rcases hq with rfl | rfl
    ·exact absurd rfl (hn (x,.cell) List.mem_cons_self)
    ·exact List.mem_cons_self
  | false =>
   refine List.mem_cons_of_mem _ (ih ?_)
   by_cases hc : (k == NameKind.free && env.scope.kind == .function && env.kindOf n == some .cell) = true
   ·rw [if_pos hc] at h'; simp only [List.lookup_cons,hx] at h'; exact h'
   ·rw [if_neg hc] at h'; simp only [List.lookup_cons,hx] at h'; exact h'
section
variable {X : Cx} {pins : List (Addr × Obj)} {σ : St} {H : Hp} {s s' : Shared} {scope : Scope} {N' : List Str} {nt : Nat} {cs : List Nat} {C : Addr} {fp : List Addr} {h' : Heap} {t' : Nat}
theorem zv2 (I : Inv X pins σ H s) (L : LcOk X scope N' nt cs) (hf : ∀ b∈fp,FpOk X pins H b) (hC : s.heap.objs.size <= C) (k : ∀ b u,s.heap.get? b = some u->h'.get? b = some u) (hns : h'.Ns C fun _=>none) (fpo : ∀ b∈fp,b < s.heap.objs.size) :
  Inv (lcCx X N' scope s H C fp) [] (lcS nt cs σ) H { s with heap:=h',toks:=t' }:=by
 have hfree : H C = none:=I.hok.fresh hC
 have csub : ∀ x c,(clos X.env.cells scope.names []).lookup x = some c->X.env.cells.lookup x = some c:=zgx _ _ fun x c h=>by simp at h
 have chas : ∀ x,(x,NameKind.free)∈scope.names->((clos X.env.cells scope.names []).lookup x).isSome = true:=fun x hx=>by
  refine zgz _ _ x hx ?_
  obtain ⟨c,e⟩:=I.ok.has x (L.fr x hx)
  rw [e]; rfl
 have I4 : Inv X pins σ H { s with heap:=h',toks:=t' }:=I.kept k
 refine ⟨⟨I.ok.mod,L.kind,I.ok.glob,I.ok.blt,hC,fun x y c h1 h2=>I.ok.inj x y c (csub x c h1) (csub y c h2),fun x hx=>?_,fun x c hx=>(nomatch hx),I.ok.hd,I.ok.frames,.inl rfl,fun b hb=>⟨?_,fun x c e=>?_⟩,I.bs,Nat.le_trans I.ok.bsz I.sz,fun b o e hb=>?_,fun b hb=>?_,I.stack,I.stkFree⟩,
  rfl,I.bare,Un.kept k,⟨_,hns,fun i x v e1 e2 e3=>?_⟩,fun x c e=>?_,hfree,fun x c e=>I.freeC x c (csub x c e),fun p hp=>absurd (show p∈([] : List (Addr × Obj)) from hp) (by simp),I4.hok,?_⟩
 ·have hx' : (x,NameKind.free)∈scope.names:=by
   rcases hx with hx | hx
   ·exact zeh (env:=X.env) L.nocell (.inl rfl) hx
   ·exact zeh (env:=X.env) L.nocell (.inr rfl) hx
  exact Option.isSome_iff_exists.mp (chas x hx')
 ·exact Nat.ne_of_lt (Nat.lt_of_lt_of_le (fpo b hb) hC)
 ·exact (hf b hb).2.2.2.2.1 x c (csub x c e)
 ·obtain ⟨f0,f1,f2,f3,_⟩:=hf b hb
  rcases f3 with z | z
  ·exact I.ok.noex b o e z
  ·exact absurd (Nat.lt_of_lt_of_le (Heap.lt_size e) (Nat.le_trans I.ok.bsz z)) (Nat.lt_irrefl _)
 ·obtain ⟨f0,f1,f2,f3,_⟩:=hf b hb
  intro z
  rcases List.mem_cons.mp (I.stkSub b z) with q | q
  ·exact f1 q
  ·exact f2 q
 ·-- a captured name
  have e2' : (lcS nt cs σ)[i]? = some (some v):=e2
  unfold lcS at e2'
  by_cases hi : i < nt
  ·rw [List.getElem?_append_left (by simpa using hi),List.getElem?_replicate] at e2'
   split at e2' <;> cases e2'
  ·rw [List.getElem?_append_right (by simpa using hi),List.length_replicate,List.getElem?_map] at e2'
   cases ej : cs[i - nt]? with
   | none=>rw [ej] at e2'; cases e2'
   | some j =>
    rw [ej] at e2'
    have e2'' : (σ[j]?).getD none = some v:=Option.some.inj e2'
    have hσ : σ[j]? = some (some v):=by
     cases q : σ[j]? with
     | none=>rw [q] at e2''; cases e2''
     | some z=>rw [q] at e2''; exact congrArg some e2''
    obtain ⟨y,y1,y2,y3,y4,y5⟩:=L.cap _ _ ej
    have hxy : x = y:=by
     have e1' : N'[i]? = some x:=e1
     rw [show nt + (i - nt) = i by lia,e1'] at y1
     exact Option.some.inj y1
    subst hxy
    obtain ⟨m,hn,hl⟩:=I4.loc
    obtain ⟨u,r,l⟩:=hl j x v y2 hσ y4
    refine ⟨u,r,.inr ⟨zgk (env:=X.env) y3,?_⟩⟩
    rcases l with ⟨l,_⟩ | ⟨_,c,hc,hcell⟩
    ·exact absurd l y5
    ·refine ⟨c,?_,hcell⟩
     obtain ⟨d,hd⟩:=Option.isSome_iff_exists.mp (chas x (PySem.mem_of_lookup y3))
     have:=csub x d hd
     rw [hc] at this
     cases this
     exact hd
 ·exact I4.cell x c (csub x c e)
 ·show (lcS nt cs σ).length = N'.length
  unfold lcS
  rw [L.len]; simp
theorem zt6 {σ2 : St} {H2 : Hp} (I : Inv X pins σ H s) (hf : ∀ b∈fp,FpOk X pins H b) (J : Inv (lcCx X N' scope s H C fp) [] σ2 H2 s') : Inv X pins σ H2 s' :=
 I.call' (ch:=fp) J.os J.base J.hok J.bare fun b hb=>by
  obtain ⟨f0,f1,f2,f3,f4,f5⟩:=hf b hb
  exact ⟨f3,f1,f4,f5⟩
end
noncomputable def PIfs (X : Cx) (ifs : List Expr) (t : TT) : Prop :=
 ∀ (pins : List (Addr × Obj)) (s : Shared) (σ : St) (H : Hp) (Q : Bool->Hp->Prop),Inv X pins σ H s->t σ H Q ->
  wpAny (model X.prog X.w) X.A (forIn ifs true fun c r=>if r = true then do let ok <- isTrue c X.env (eval c X.env); pure (ForInStep.yield ok) else pure (ForInStep.yield r)) (TP X pins σ Q) X.xe s
noncomputable def zup : TT:=fun _ H Q=>Q true H
theorem zi9 {X : Cx} : PIfs X [] zup:=fun _ _ _ H _ I h=>wpAny_tests_nil ⟨H,I,h⟩
theorem zfy {X : Cx} {c : Expr} {t : TT} (h : PT X c t) : PIfs X [c] t:=fun pins s σ H Q I hq=>wpAny_tests_one (h pins s σ H Q I hq)
noncomputable def LCG (nt : Nat) (cs : List Nat) (g : TG) (tt : TT) (te : TE) (σ : St) (Q : VK) (J : It) (H1 : Hp) : Prop:=∀ l,H1 l = none -> ∃ W : Nat->Nat->Hp->Prop,(∃ m,W 0 m (upd H1 l (.lst []))) /\ ∀ i m H2,W i m H2 ->
 (J.stop i H2/\Q (.ref l) H2) \/ (J.go i H2 /\ ∃ N : Hp->Prop,(∀ H',N H' -> ∃ m',m' < m/\W (i + 1) m' H') /\ ∀ x H3,J.yld i H2 x H3->g x (lcS nt cs σ) H3 fun σ2 H4 =>
  (σ2.length = nt + cs.length/\σ2.drop nt = (lcS nt cs σ).drop nt)/\tt σ2 H4 fun b H5=>if b = true then te σ2 H5 fun y H6=>∃ xs,H6 l = some (.lst xs)/\xs.length < sizeLine/\N (upd H6 l (.lst (xs++[y]))) else N H5)
noncomputable def tLC (nt : Nat) (cs : List Nat) (wi : TI) (g : TG) (tt : TT) (te : TE) : TE:=fun σ H Q=>wi σ H fun J H1=>LCG nt cs g tt te σ Q J H1
theorem zxs {prog : Program} {w : World} {A : Around} {R : Result -> Shared -> Prop} {s : Shared} {elt target iter : Expr} {ifs : List Expr} {scope : Scope} {pos : Pos} {it acc : Value} {env : Env} (I : Nat -> Shared -> Prop)
  (turn : ∀ n s,I n s->wpAny (model prog w) A (pyNext it) (fun r s₁=>match r with
   | none=>R (.ok .next) s₁
   | some v=>wpAny (model prog w) A (letOwnedTupleGo target it v) (fun _ s₁'=>wpAny (model prog w) A (assign target env v) (fun _ s₂ =>
     wpAny (model prog w) A (forIn ifs true fun c r=>if r = true then do let ok <- isTrue c env (eval c env); pure (ForInStep.yield ok) else pure (ForInStep.yield r)) (fun ok s₃ =>
      if ok = true then wpAny (model prog w) A (eval elt env) (fun x s₄ =>
       wpAny (model prog w) A (call (.builtin "list.append") [acc,x]) (fun _ s₅=>∃ m,m < n/\I m s₅) (fun _ _=>False) s₄) (fun _ _=>False) s₃
      else ∃ m,m < n/\I m s₃) (fun _ _=>False) s₂) (fun _ _=>False) s₁') (fun _ _=>False) s₁) (fun _ _=>False) s)
  (n : Nat) (h : I n s) : codeAny (model prog w) A (.compLoop (.ListComp elt [⟨target,iter,ifs,0⟩] scope pos) 0 it acc env) R s:=by
 refine codeAny_loop rfl I (fun n s hI=>?_) n h
 show wpAny _ A ((compTurn (.ListComp elt [⟨target,iter,ifs,0⟩] scope pos) 0 it acc env).onRaise (fun x=>do noteFrame x env; theTreesLotGoes x)) _ _ s
 refine wpAny_noted ?_
 rw [compTurn_list]
 refine wpAny_bind (wpAny_standAt (wpAny_bind (wpAny_mono (turn n s hI) (fun r s₁ h₁=>?_) fun _ _ h'=>h'.elim)))
 cases r with
 | none=>exact wpAny_pure h₁
 | some v =>
  refine wpAny_bind (wpAny_mono h₁ (fun _ s₁' h₁'=>?_) fun _ _ h'=>h'.elim)
  refine wpAny_bind (wpAny_mono h₁' (fun _ s₂ h₂=>wpAny_bind (wpAny_mono h₂ (fun ok s₃ h₃=>?_) fun _ _ h'=>h'.elim)) fun _ _ h'=>h'.elim)
  cases ok with
  | false=>exact wpAny_pure ⟨rfl,h₃⟩
  | true =>
   exact wpAny_bind (wpAny_bind (wpAny_mono h₃ (fun x s₄ h₄=>wpAny_bind (wpAny_mono h₄ (fun _ s₅ h₅=>wpAny_pure (wpAny_pure ⟨rfl,h₅⟩)) fun _ _ h'=>h'.elim)) fun _ _ h'=>h'.elim))
section
variable {X : Cx} {elt target iter : Expr} {ifs : List Expr} {scope : Scope} {pos : Pos} {N' : List Str} {nt : Nat} {cs : List Nat} {wi : TI} {g : TG} {tt : TT} {te : TE}
theorem ztq {use : Option (Value->Sem Unit)} {QQ : Value->Shared->Prop} {p2 : Pos} (hc : X.calm = true) (L : LcOk X scope N' nt cs) (hi : PI X target iter wi)
  (hg : ∀ s H C fp,PG (lcCx X N' scope s H C fp) target g) (ht : ∀ s H C fp,PIfs (lcCx X N' scope s H C fp) ifs tt) (he : ∀ s H C fp,PE (lcCx X N' scope s H C fp) elt te)
  {pins : List (Addr × Obj)} {s : Shared} {σ : St} {H : Hp} {Q : VK} (I : Inv X pins σ H s) (h : tLC nt cs wi g tt te σ H Q)
  (fin : ∀ (l : Addr) (H' : Hp) (s' : Shared) (C : Addr),Inv X pins σ H' s'->FpOk X pins H' C->(∃ m,s'.heap.Ns C m)->Q (.ref l) H'->compPost (model X.prog X.w) X.A X.xe use QQ (.ref l) C (.ok .next) s')
  (hs : ∀ x,foldedSetIterable iter X.env x = pure x:=by intro _; rfl) :
  wpAny (model X.prog X.w) X.A (comprehension (.ListComp elt [⟨target,iter,ifs,0⟩] scope pos) scope X.env p2 (newList []) false (eval iter X.env) use) QQ X.xe s:=by
 have hcl : closureFor scope X.env = pure (clos X.env.cells scope.names []):=zpa fun x hx=>by
  obtain ⟨c,e⟩:=I.ok.has x (L.fr x hx)
  rw [e]; rfl
 refine wpAny_comprehension_free (env:=X.env) rfl hs hcl L.kind L.loc (thn (hi pins s σ H _ I h) fun v s1 h1=>thn h1 fun itv s2 h2=>?_)
 obtain ⟨it,fp,tn,J,H1,e,I2,T,st2,f2,R⟩:=h2
 subst e
 refine wpAny_newObj_type ?_
 have hv : Vals [] ([] : List Value):=.nil
 have I3:=I2.lnew (t':=s2.toks) hv (Nat.zero_le _)
 have hfr : H1 s2.heap.objs.size = none:=I2.fresh
 have ne3 : ∀ b∈fp,b≠s2.heap.objs.size:=fun b hb z=>by
  obtain ⟨o,e,_⟩:=T.obj _ _ st2 b hb
  have:=Heap.lt_size e
  rw [z] at this
  exact Nat.lt_irrefl _ this
 have f3 : ∀ b∈fp,FpOk X pins (upd H1 s2.heap.objs.size (.lst [])) b:=fun b hb=>⟨by rw [zaf (ne3 b hb)]; exact (f2 b hb).1,(f2 b hb).2⟩
 obtain ⟨W,⟨m0,w0⟩,turn⟩:=R _ hfr
 refine wpAny_newFunctionEnv L.nocell (by intro y hy; simp at hy) (fun h4 hns hsb=>?_) L.kind
 dsimp only at hns hsb ⊢
 generalize hH3 : s2.heap.push { cls:=.type "list", dict:=none,data:=.seq ([] : List Value).toArray } = h3 at hns hsb I3 ⊢
 have hsz3 : h3.objs.size = s2.heap.objs.size + 1:=by rw [<- hH3,Heap.size_push]
 have up4 : ∀ b u,h3.get? b = some u->h4.get? b = some u:=fun b u e=>hsb.extBut b u (Nat.ne_of_lt (Heap.lt_size e)) (Heap.get?_push_of_some _ e)
 have fpo : ∀ b∈fp,b < h3.objs.size:=fun b hb=>by
  obtain ⟨o,e,_⟩:=T.obj _ _ st2 b hb
  exact Nat.lt_of_lt_of_le (Heap.lt_size e) (by rw [hsz3]; exact Nat.le_succ _)
 have up3 : ∀ b u,s2.heap.get? b = some u->h3.get? b = some u:=fun b u e=>hH3 ▸ Heap.get?_push_of_some _ e
 have J4 : Inv (lcCx X N' scope { s2 with heap:=h3 } (upd H1 s2.heap.objs.size (.lst [])) h3.objs.size fp) [] (lcS nt cs σ) (upd H1 s2.heap.objs.size (.lst [])) { s2 with heap:=h4,toks:=s2.toks + ([] : List (Str × Value)).length } :=
  zv2 (t':=s2.toks + ([] : List (Str × Value)).length) I3 L f3 (Nat.le_refl _) up4 (by simpa using hns) fpo
 have st4 : tn 0 h4:=T.keep _ _ _ st2 fun b hb o e=>up4 b o (up3 b o e)
 generalize hs3 : ({ s2 with heap:=h3 } : Shared) = s3 at I3 J4
 generalize hX' : lcCx X N' scope s3 (upd H1 s2.heap.objs.size (.lst [])) h3.objs.size fp = X' at J4
 have hg' : PG X' target g:=hX' ▸ hg _ _ _ _
 have ht' : PIfs X' ifs tt:=hX' ▸ ht _ _ _ _
 have he' : PE X' elt te:=hX' ▸ he _ _ _ _
 have stat : ∀ {H' : Hp},(∀ b∈fp,H' b = none) -> ∀ b∈fp,FpOk X' [] H' b:=fun hn b hb=>by
  subst hX'
  refine ⟨hn b hb,Nat.ne_of_lt (fpo b hb),J4.ok.exfs b hb,.inl hb,(J4.ok.exf b hb).2,fun p hp=>absurd (show p∈([] : List (Addr × Obj)) from hp) (by simp)⟩
 have loop : codeAny (model X.prog X.w) X.A (.compLoop (.ListComp elt [⟨target, iter, ifs, 0⟩] scope pos) 0 (.ref it) (.ref s2.heap.objs.size) (compEnvC scope (clos X.env.cells scope.names []) h3.objs.size X.env))
   (compPost (model X.prog X.w) X.A X.xe use QQ (.ref s2.heap.objs.size) h3.objs.size) { s2 with heap:=h4,toks:=s2.toks + ([] : List (Str × Value)).length }:=by
  have eA : X'.A = X.A:=by subst hX'; rfl
  have eP : X'.prog = X.prog:=by subst hX'; rfl
  have eW : X'.w = X.w:=by subst hX'; rfl
  have eK : X'.K = X.K:=by subst hX'; rfl
  have eC : X'.calm = true:=by subst hX'; exact hc
  have eE : X'.env = compEnvC scope (clos X.env.cells scope.names []) h3.objs.size X.env:=by subst hX'; rfl
  have eX : X'.xe = fun _ _=>False:=by subst hX'; rfl
  refine zxs (fun n s'=>∃ i H',Inv X' [] (lcS nt cs σ) H' s'/\tn i s'.heap/\(∀ b∈fp,H' b = none)/\W i n H') ?_ m0 ⟨0,_,J4,st4,fun b hb=>(f3 b hb).1,w0⟩
  rintro n s5 ⟨i,H5,J5,st5,fr5,w5⟩
  rcases turn i n H5 w5 with ⟨stop,qn⟩ | ⟨go,N,hN,step⟩
  ·have d:=T.done X' eP eW eK eC i [] s5 (lcS nt cs σ) H5 (fun _ _=>False) J5 (stat fr5) st5 stop
   rw [eA] at d
   refine thn d fun r s6 hz9=>?_
   obtain ⟨hr,J6⟩:=hz9
   subst hr
   have I6 : Inv X pins σ H5 s6:=by subst hX'; subst hs3; exact zt6 I3 f3 J6
   refine fin _ H5 s6 h3.objs.size I6 ?_ ?_ qn
   ·have hn : H5 h3.objs.size = none:=by subst hX'; exact J6.free
    subst hs3
    exact I3.fpOk (Nat.le_refl _) hn
   ·obtain ⟨m,hm,_⟩:=J6.loc
    subst hX'
    exact ⟨m,hm⟩
  ·have d:=T.item X' eP eW eK eC i [] s5 (lcS nt cs σ) H5 (fun _ _=>False) J5 (stat fr5) st5 go
   rw [eA] at d
   refine thn d fun r s6 hz9=>?_
   obtain ⟨u,hr,h6⟩:=hz9
   subst hr
   refine thn h6 fun _ s7 hz9=>?_
   obtain ⟨x,H7,J7,r7,y7,st7,fr7⟩:=hz9
   have J7':=J7.pinned (stat fr7) (T.obj _ _ st7)
   have a:=hg' _ s7 (lcS nt cs σ) H7 x u _ J7' r7 (step x H7 y7)
   rw [eA,eP,eW,eE,eX] at a
   refine thn a fun _ s8 ⟨σ8,H8,J8,⟨e8,d8⟩,q8⟩=>?_
   have b:=ht' _ s8 σ8 H8 _ J8 q8
   rw [eA,eP,eW,eE,eX] at b
   have again : ∀ {s9 : Shared} {H9 : Hp},Inv X' ([]++zkz fp s7.heap) σ8 H9 s9->N H9 -> ∃ m,m < n /\ ∃ i H',Inv X' [] (lcS nt cs σ) H' s9/\tn i s9.heap/\(∀ b∈fp,H' b = none)/\W i m H':=fun {s9 H9} J9 n9=>by
    obtain ⟨m',hm,w9⟩:=hN H9 n9
    refine ⟨m',hm,i + 1,H9,?_,T.keep _ _ _ st7 fun b hb o e=>(J9.pin (b,o) (List.mem_append_right _ (List.mem_append_right _ (zex hb e)))).1,fun b hb=>?_,w9⟩
    ·refine J9.unpinned.weak ?_ fun j v ej=>?_
     ·rw [e8]; unfold lcS; simp
     ·by_cases hj : j < nt
      ·unfold lcS at ej
       rw [List.getElem?_append_left (by simpa using hj),List.getElem?_replicate] at ej
       split at ej <;> cases ej
      ·have z:=congrArg (fun l : St=>l[j - nt]?) d8
       simp only [List.getElem?_drop] at z
       rw [show nt + (j - nt) = j by omega] at z
       rw [z]; exact ej
    ·obtain ⟨o,e,_⟩:=T.obj _ _ st7 b hb
     exact (J9.pin (b,o) (List.mem_append_right _ (List.mem_append_right _ (zex hb e)))).2.1
   refine thn b fun ok s9 hz9=>?_
   obtain ⟨H9,J9,q9⟩:=hz9
   cases ok with
   | false =>
    rw [if_neg Bool.false_ne_true] at q9 ⊢
    exact again J9 q9
   | true =>
    rw [if_pos rfl] at q9 ⊢
    have c:=he' _ s9 σ8 H9 _ J9 q9
    rw [eA,eP,eW,eE,eX] at c
    refine thn c fun y sA hz9=>?_
    obtain ⟨vy,HA,JA,ry,xs,hl,hz,nA⟩:=hz9
    have ap:=zcj (X:=X') _ sA σ8 HA (.ref s2.heap.objs.size) [vy] (.ref s2.heap.objs.size) [y] (fun _ H'=>N H') JA rfl (.cons ry .nil) ⟨_,xs,vy,rfl,rfl,hl,hz,nA⟩
    rw [eA,eP,eW,eX] at ap
    refine thn ap fun _ sB hz9=>?_
    obtain ⟨_,HB,JB,_,nB⟩:=hz9
    exact again JB nB
 exact codeAny_compStart_list loop (T.self X.A 0 _ _ _ st4 loop)
theorem zw5 (hc : X.calm = true) (L : LcOk X scope N' nt cs) (hi : PI X target iter wi)
  (hg : ∀ s H C fp,PG (lcCx X N' scope s H C fp) target g) (ht : ∀ s H C fp,PIfs (lcCx X N' scope s H C fp) ifs tt) (he : ∀ s H C fp,PE (lcCx X N' scope s H C fp) elt te)
  (hs : ∀ x,foldedSetIterable iter X.env x = pure x:=by intro _; rfl) : PE X (.ListComp elt [⟨target,iter,ifs,0⟩] scope pos) (tLC nt cs wi g tt te):=by
 intro pins s σ H Q I h
 rw [eval_ListComp]
 refine ztq (use:=none) hc L hi hg ht he I h (fun l H' s' C I' f ⟨m,hm⟩ q=>⟨m,hm,fun h' hs'=>?_⟩) hs
 obtain ⟨f0,f1,f2,f3,f4,f5⟩:=f
 exact ⟨.ref l,H',I'.turned (t':=s'.toks) (fun b o hb e=>hs'.extBut b o hb e) f0 f1 f3 f4 f5,rfl,q⟩
theorem zfg {i : Nat} {y : Str} {py spos : Pos} (hN : X.N.Nodup) (hy : X.N[i]? = some y) (hx : Loc X.env.scope y) (hc : X.calm = true) (L : LcOk X scope N' nt cs) (hi : PI X target iter wi)
  (hg : ∀ s H C fp,PG (lcCx X N' scope s H C fp) target g) (ht : ∀ s H C fp,PIfs (lcCx X N' scope s H C fp) ifs tt) (he : ∀ s H C fp,PE (lcCx X N' scope s H C fp) elt te)
  (hsw : swapsWith (.ListComp elt [⟨target,iter,ifs,0⟩] scope pos) (some (.Name y py)) spos.line X.env = pure true:=by rfl)
  (hs : ∀ x,foldedSetIterable iter X.env x = pure x:=by intro _; rfl) (hf : X.fn y = true \/ X.env.scope.names.lookup y = some .local:=by first | exact .inl rfl | exact .inr rfl | assumption) :
  PS X (.Assign [.Name y py] (.ListComp elt [⟨target,iter,ifs,0⟩] scope pos) spos) (tAsg (tLC nt cs wi g tt te) (zfj i)):=by
 intro pins s σ H D I h
 rw [exec_Assign_Name_used _ _ _ _ hsw]
 refine wpAny_bind (wpAny_standAt (wpAny_bind ?_))
 show wpAny _ X.A (do let _ <- comprehension (.ListComp elt [⟨target,iter,ifs,0⟩] scope pos) scope X.env _ (newList []) false (eval iter X.env) (some (assign (.Name y py) X.env))) _ _ s
 refine wpAny_bind (thn (ztq (QQ:=fun _ s'=>SP X pins D .next s') (use:=some (assign (.Name y py) X.env)) hc L hi hg ht he I h (fun l H' s' C I' f hm q=>?_) hs) (fun _ s' hq=>wpAny_pure (wpAny_pure hq)))
 show wpAny _ X.A (assign (.Name y py) X.env (.ref l)) _ _ _
 refine wpAny_assign_Name (zle I' hN hy hx (v:=.ref l) rfl (fun s2 I2 hz9=>?_) hf)
 obtain ⟨a,hsb,ha⟩:=hz9
 obtain ⟨m,hm⟩:=hm
 obtain ⟨f0,f1,f2,f3,f4,f5⟩:=f
 have hCa : C≠a:=by
  rcases ha with rfl | ha
  ·exact f1
  ·exact fun z=>f4 y a ha z.symm
 refine ⟨m,hm.sameBut hsb hCa,fun h' hs'=>?_⟩
 exact ⟨_,H',I2.turned (t':=s2.toks) (fun b o hb e=>hs'.extBut b o hb e) f0 f1 f3 f4 f5,q⟩
end
end L2
namespace L2
open PySem PySem.Spec PyProof.Rows
section
variable {X : Cx} {a b : Expr} {ta tb : TE} {pos : Pos}
theorem zfq : zcg X (.builtin "isinstance") (fun xs H Q=>∃ p ys,xs = [.ref p,.ty "list"]/\SqL X.K H p ys/\Q (.bl true) H):=by
 intro pins s σ H xs us Q I r h
 obtain ⟨p,ys,rfl,hq,q⟩:=h
 obtain ⟨u,v,rfl,rfl,rfl⟩:=zh1 r
 obtain ⟨its,_,pl,_⟩:=I.list hq
 obtain ⟨o,n,e,c,hd,_⟩:=pl
 exact IsiPair.list_list e c ⟨.bl true,H,I,rfl,q⟩
end
end L2
namespace L2
open PySem PySem.Spec PyProof.Rows
theorem SqL.same {K : PySem.W.Frag} {H H' : Hp} {a : Addr} {xs : List V} (e : Same H H') (h : SqL K H a xs) : SqL K H' a xs:=e.seq h
theorem SqT.same {K : PySem.W.Frag} {H H' : Hp} {a : Addr} {xs : List V} (e : Same H H') (h : SqT K H a xs) : SqT K H' a xs:=by
 rcases h with (h | ⟨o,h⟩) | h
 ·exact .inl (.inl (e _ _ h))
 ·exact .inl (.inr ⟨o,e _ _ h⟩)
 ·exact .inr h
theorem Same.upd {H : Hp} {l : Addr} {o : HO} (h : H l = none) : Same H (upd H l o):=fun b u e=>by rw [zaf (zaj e h)]; exact e
end L2
namespace L2
open PySem
end L2
namespace L2
open PySem
end L2
namespace L2
open PySem
end L2
namespace L2
open PySem PySem.Spec PyProof.Rows
section
variable {X : Cx} {pins : List (Addr × Obj)} {σ : St} {H : Hp} {s : Shared} {h' : Heap} {t' : Nat} {wr : List Addr}
theorem Inv.turns (I : Inv X pins σ H s) (hf : ∀ b∈wr,FpOk X pins H b) (k : ∀ b o,b ∉ wr->s.heap.get? b = some o->h'.get? b = some o) : Inv X pins σ H { s with heap:=h',toks:=t' }:=by
 have nw : ∀ b u,H b = some u->b ∉ wr:=fun b u e z=>by have:=(hf b z).1; rw [e] at this; cases this
 have nL : X.env.locals ∉ wr:=fun z=>(hf _ z).2.1 rfl
 refine I.step (g':=s.gens) (d':=s.drawn) (ch:=wr) (fun b hb=>?_) (fun b o _ _ hc e _=>k b o hc e) (fun b o _ _ hc e _=>⟨o.slots,k b o hc e⟩) (fun _ _ _ _ n=>n)
  (fun b o hc e=>⟨o,k b o hc e⟩) (fun _ _ e=>e) (fun _ _ _ e=>e) (fun b ps e=>⟨#[],by rw [e]; simp⟩) (fun m hm=>?_) (fun b u e=>?_) I.bare
 ·obtain ⟨f0,f1,f2,f3,f4,f5⟩:=hf b hb
  exact ⟨f3,f1,f4,f5⟩
 ·obtain ⟨o,es,ep,ho,r⟩:=hm
  exact ⟨o,es,ep,k _ o nL ho,r⟩
 ·refine (I.hok b u e).stay (fun c v hc q=>k c v ?_ q) (fun _ q=>q) fun _ _ q=>q
  rcases hc with z | z
  ·rw [z]; exact nw b u e
  ·exact nw c _ z
theorem Inv.turnsT (I : Inv X pins σ H s) {T0 : Addr} {vs : List V} {vals : Array Value} (hf : ∀ b∈wr,FpOk X pins H b) (k : ∀ b o,b ∉ wr->s.heap.get? b = some o->h'.get? b = some o) (hT : s.heap.objs.size <= T0) (ht : h'.IsTuple T0 vals) (hv : Vals vs vals.toList)
  (hz : vs.length <= sizeLine) : Inv X pins σ (upd H T0 (.tup vs)) { s with heap:=h',toks:=t' }:=by
 have nw : ∀ b u,H b = some u->b ∉ wr:=fun b u e z=>by have:=(hf b z).1; rw [e] at this; cases this
 have nL : X.env.locals ∉ wr:=fun z=>(hf _ z).2.1 rfl
 have fresh : H T0 = none:=I.hok.fresh hT
 have ne : ∀ b o,s.heap.get? b = some o->b≠T0:=fun b o e=>Nat.ne_of_lt (Nat.lt_of_lt_of_le (Heap.lt_size e) hT)
 refine I.step (g':=s.gens) (d':=s.drawn) (ch:=wr) (fun b hb=>?_) (fun b o _ _ hc e _=>k b o hc e) (fun b o _ _ hc e _=>⟨o.slots,k b o hc e⟩) (fun b o _ e n=>by rw [zaf (ne b o e)]; exact n)
  (fun b o hc e=>⟨o,k b o hc e⟩) (fun b xs e=>by rw [zaf (zaj e fresh)]; exact e) (fun b o u e=>by rw [zaf (zaj e fresh)]; exact e) (fun b ps e=>⟨#[],by rw [zaf (zaj e fresh),e]; simp⟩) (fun m hm=>?_) (fun b u e=>?_) I.bare
 ·obtain ⟨f0,f1,f2,f3,f4,f5⟩:=hf b hb
  exact ⟨f3,f1,f4,f5⟩
 ·obtain ⟨o,es,ep,ho,r⟩:=hm
  exact ⟨o,es,ep,k _ o nL ho,r⟩
 ·by_cases hb : b = T0
  ·subst hb
   rw [zae] at e
   cases e
   have ht2 : h'.IsTuple b vals.toList.toArray:=by simpa using ht
   exact ⟨hz,vals.toList,hv,ht2⟩
  ·rw [zaf hb] at e
   refine (I.hok b u e).stay (fun c v hc q=>k c v ?_ q) (fun c q=>by rw [zaf (zaj q fresh)]; exact q) fun c xs q=>by rw [zaf (zaj q fresh)]; exact q
   rcases hc with z | z
   ·rw [z]; exact nw b u e
   ·exact nw c _ z
end
end L2
namespace L2
open PySem PySem.Spec PyProof.Rows
end L2
namespace L2
open PySem PySem.Spec PyProof.Rows
end L2
namespace L2
open PySem
end L2
namespace L2
open PySem PySem.Spec PyProof.Rows
structure ZipAp (z TI TO i1 i2 : Addr) (fp1 fp2 : List Addr) : Prop where
 TIz : TI≠z
 TOz : TO≠z
 i1z : i1≠z
 i2z : i2≠z
 TITO : TI≠TO
 TIi1 : TI≠i1
 TIi2 : TI≠i2
 TOi1 : TO≠i1
 TOi2 : TO≠i2
 i12 : i1≠i2
 m1 : i1∈fp1
 m2 : i2∈fp2
 f1 : ∀ b∈fp1,b≠z/\b≠TO/\b≠i2
 f2 : ∀ b∈fp2,b≠z/\b≠TO/\b≠i1
end L2
namespace L2
open PySem PySem.Spec PyProof.Rows
theorem zpt : typeLookup (.type "list_reverseiterator") "__len__" = pure none:=by rw [typeLookup_type,builtinLookup_eq_fast]; kernel_rfl
theorem zi6 : Slot "list_reverseiterator" "__length_hint__" "list_reverseiterator.__length_hint__" :=
 .of (owner:="list_reverseiterator") (n:="__length_hint__") (by rw [typeLookup_type,builtinLookup_eq_fast]; kernel_rfl) (by decide +kernel) (by decide +kernel) (by decide +kernel)
  (by first | exact .inl (by decide +kernel) | exact .inr (by decide +kernel)) (by rw [isSubtype_type]; kernel_rfl)
section
variable {prog : Program} {w : World} {A : Around} {E : Value->Shared->Prop} {s : Shared}
theorem zuk {it l : Addr} {i : Int} {Q : Bool->Shared->Prop} (hit : s.heap.IsRevIter it l i) (h : Q false s) : wpAny (model prog w) A (Builtin.List.listLengthHint (.ref it)) Q E s:=by
 unfold Builtin.List.listLengthHint
 refine wpAny_bind (wpAny_specialOf hit.typeIs zpt ?_)
 show wpAny _ A (specialOf (Value.ref it) (Str.ofString "__length_hint__") >>= _) _ _ _
 refine wpAny_bind (wpAny_specialOf hit.typeIs zi6.lookup ?_)
 generalize hid : ("list_reverseiterator.__length_hint__" : String) = id0
 wp_delta
 rw [show splitId id0 = some ("list_reverseiterator", "__length_hint__") from by subst hid; decide +kernel]
 subst hid
 refine wpAny_bind (wpAny_isInstance (T:="list_reverseiterator") (b:=true) hit.typeIs (by rw [isSubtype_type]; kernel_rfl) ?_)
 refine wpAny_ite_split (fun hab=>absurd hab (by decide)) (fun _=>?_)
 refine wpAny_ite_split (fun _=>?_) (fun hab=>absurd (by decide +kernel) hab)
 refine wpAny_ite_split (fun hab=>absurd hab (by decide +kernel)) (fun _=>?_)
 exact wpAny_pure h
theorem zoz {R : Result->Shared->Prop} {r l : Addr} {items : Array Value} (hh : A.handled = none) (hr : s.heap.IsRevIter r l ((items.size : Int) - 1)) (hl : s.heap.IsList l items) (hlen : items.size <= sizeLine) (S : Addr) (res : Value) (c₀ : Nat) (hS : s.heap.get? S = some { cls:=.type "list", data:=.seq #[] c₀ }) (hSl : S≠l) (hlr : l≠r)
  (hR : ∀ h' tk acc' c',(∀ b o,b≠S->b≠r->s.heap.get? b = some o->h'.get? b = some o)->h'.get? S = some { cls:=.type "list", dict:=none,data:=.seq acc' c',slots:=#[] } ->
   ItemsOf (fun i v=>items[items.size - 1 - i]? = some v) acc' items.size->R (.ok (.ret res)) { s with heap:=h',toks:=tk }) :
  wpAny (model prog w) A.in1 (Builtin.List.listExtendWith (.ref S) (.ref r) res)
   (fun fin s'=>match fin with | .done f=>R (.ok f) s' | .again c'=>c'.quiet = true/\codeAny (model prog w) A c' R s') (fun e s'=>R (.error e) s') s:=by
 have hSr : S≠r:=fun e=>by obtain ⟨o,ho,hc,_⟩:=hr; rw [e,ho] at hS; cases hS; simp at hc
 have W:=(Walks.listRev (prog:=prog) (w:=w) (A:=A.in1) hh r l hlr items).toS
 unfold Builtin.List.listExtendWith
 refine wpAny_bind (wpAny_typeOf hr.typeIs ?_)
 have h1 : Builtin.List.listSameRef (.ref S) (.ref r) = false:=by simp [Builtin.List.listSameRef,hSr]
 have h2 : (Value.type "list_reverseiterator" == Value.type "list") = false:=by decide
 have h3 : (Value.type "list_reverseiterator" == Value.type "tuple") = false:=by decide
 simp only [h1,h2,h3,Bool.or_false,Bool.false_eq_true,if_false]
 refine wpAny_bind (wpAny_pyIter_revIter hr ?_)
 refine wpAny_bind (wpAny_holding (zuk hr ?_))
 refine wpAny_ite_split (fun hab=>absurd hab (by decide +kernel)) (fun _=>?_)
 have hSf : S ∉ [r,l]:=by simp [hSr,hSl]
 refine wpAny_pure ⟨plainId_quiet F.plain_extend_loop _,codeAny_extend_loopS W hlen _ hSf _ items.size 0 _ _ _ rfl (Nat.zero_le _) ⟨Nat.zero_le _,by simpa using hr,hl⟩ hS (ItemsOf.nil _) fun s' acc' c' hm hS' hacc=>?_⟩
 rw [hm.eq_with]
 exact hR _ _ acc' c' (fun b o hb hbr e=>hm.heap b o (by simp [hb,hbr]) e) hS' hacc
theorem zg9 {Q : Value->Shared->Prop} {r l : Addr} {items : Array Value} (hh : A.handled = none) (hr : s.heap.IsRevIter r l ((items.size : Int) - 1)) (hl : s.heap.IsList l items) (hlr : l≠r) (hlen : items.size <= sizeLine)
  (hQ : ∀ h' tk acc' c',(∀ b o,b≠r->s.heap.get? b = some o->h'.get? b = some o) ->
   h'.get? s.heap.objs.size = some { cls:=.type "list", dict:=none,data:=.seq acc' c',slots:=#[] }->ItemsOf (fun i v=>items[items.size - 1 - i]? = some v) acc' items.size->Q (.ref s.heap.objs.size) { s with heap:=h',toks:=tk }) :
  wpAny (model prog w) A (call (.type "list") [.ref r]) Q E s:=by
 refine callType_codes (Q₁:=fun obj s₁=>obj = .ref s.heap.objs.size/\s₁ = { s with heap:=s.heap.push { cls:=.type "list", data:=.seq #[] } }) F.called_list (F.typeCall_list_1 _) F.entry_list_init
  (code_list_new _ ⟨rfl,rfl⟩) fun obj s₁ h₁=>?_
 obtain ⟨rfl,rfl⟩:=h₁
 have hS : (s.heap.push { cls:=.type "list", data:=.seq #[] }).get? s.heap.objs.size = some { cls:=.type "list", data:=.seq #[] }:=Heap.get?_push_size _ rfl
 have hr2 : (s.heap.push { cls:=.type "list", data:=.seq #[] }).IsRevIter r l ((items.size : Int) - 1):=hr.at fun o e=>Heap.get?_push_of_some _ e
 have hl2 : (s.heap.push { cls:=.type "list", data:=.seq #[] }).IsList l items:=hl.at fun o e=>Heap.get?_push_of_some _ e
 have hrlt : r < s.heap.objs.size:=by obtain ⟨o,ho,_⟩:=hr; exact Heap.lt_size ho
 have hllt : l < s.heap.objs.size:=by obtain ⟨o,ho,_⟩:=hl; exact Heap.lt_size ho
 refine ⟨⟨_,hS,rfl⟩,F.args_list_init_2 _ _,?_⟩
 show wpAny _ A.in1.in1 (do let old <- Builtin.List.listItems (.ref s.heap.objs.size); Builtin.List.listUpdate (.ref s.heap.objs.size) (fun _=>#[]); letGo old.toList.reverse; Builtin.List.listExtendWith (.ref s.heap.objs.size) (.ref r) .none) _ _ _
 refine wpAny_bind ?_
 unfold Builtin.List.listItems
 refine wpAny_bind (wpAny_seqItems hS rfl (wpAny_pure ?_))
 show wpAny _ _ (updateSeq s.heap.objs.size (fun _=>#[]) >>= fun _=>letGo (#[] : Array Value).toList.reverse >>= fun _=>Builtin.List.listExtendWith (.ref s.heap.objs.size) (.ref r) .none) _ _ _
 refine wpAny_bind (wpAny_updateSeq hS rfl ?_)
 have hS₂:=Heap.get?_update_self (Obj.mapSeq (fun _=>(#[] : Array Value))) hS rfl
 have oth : ∀ b o,b≠s.heap.objs.size->(s.heap.push { cls:=.type "list", data:=.seq #[] }).get? b = some o->((s.heap.push { cls:=.type "list", data:=.seq #[] }).update s.heap.objs.size (Obj.mapSeq (fun _=>(#[] : Array Value)))).get? b = some o :=
  fun b o hb e=>(Heap.get?_update_other _ _ (Ne.symm hb)).trans e
 refine wpAny_bind (wpAny_letGo ?_)
 refine zoz (A:=A.in1) hh (hr2.at fun o e=>oth r o (Nat.ne_of_lt hrlt) e) (hl2.at fun o e=>oth l o (Nat.ne_of_lt hllt) e) hlen _ .none _ hS₂ (Nat.ne_of_gt hllt) hlr fun h' tk acc' c' hk hS' hacc=>?_
 exact ⟨rfl,hQ h' tk acc' c' (fun b o hbr e=>hk b o (Nat.ne_of_lt (Heap.lt_size e)) hbr (oth b o (Nat.ne_of_lt (Heap.lt_size e)) (Heap.get?_push_of_some _ e))) hS' hacc⟩
end
section
variable {X : Cx} {pins : List (Addr × Obj)} {σ : St} {H : Hp} {s : Shared} {h' : Heap} {t' : Nat} {wr : List Addr}
theorem Inv.turnsO (I : Inv X pins σ H s) {T0 : Addr} {nw0 : HO} (hf : ∀ b∈wr,FpOk X pins H b) (k : ∀ b o,b ∉ wr->s.heap.get? b = some o->h'.get? b = some o) (hT : s.heap.objs.size <= T0) (new : zce X.prog X.w (upd H T0 nw0) h' T0 nw0) :
  Inv X pins σ (upd H T0 nw0) { s with heap:=h',toks:=t' }:=by
 have nw : ∀ b u,H b = some u->b ∉ wr:=fun b u e z=>by have:=(hf b z).1; rw [e] at this; cases this
 have nL : X.env.locals ∉ wr:=fun z=>(hf _ z).2.1 rfl
 have fresh : H T0 = none:=I.hok.fresh hT
 have ne : ∀ b o,s.heap.get? b = some o->b≠T0:=fun b o e=>Nat.ne_of_lt (Nat.lt_of_lt_of_le (Heap.lt_size e) hT)
 refine I.step (g':=s.gens) (d':=s.drawn) (ch:=wr) (fun b hb=>?_) (fun b o _ _ hc e _=>k b o hc e) (fun b o _ _ hc e _=>⟨o.slots,k b o hc e⟩) (fun b o _ e n=>by rw [zaf (ne b o e)]; exact n)
  (fun b o hc e=>⟨o,k b o hc e⟩) (fun b xs e=>by rw [zaf (zaj e fresh)]; exact e) (fun b o u e=>by rw [zaf (zaj e fresh)]; exact e) (fun b ps e=>⟨#[],by rw [zaf (zaj e fresh),e]; simp⟩) (fun m hm=>?_) (fun b u e=>?_) I.bare
 ·obtain ⟨f0,f1,f2,f3,f4,f5⟩:=hf b hb
  exact ⟨f3,f1,f4,f5⟩
 ·obtain ⟨o,es,ep,ho,r⟩:=hm
  exact ⟨o,es,ep,k _ o nL ho,r⟩
 ·by_cases hb : b = T0
  ·subst hb
   rw [zae] at e
   cases e
   exact new
  ·rw [zaf hb] at e
   refine (I.hok b u e).stay (fun c v hc q=>k c v ?_ q) (fun c q=>by rw [zaf (zaj q fresh)]; exact q) fun c xs q=>by rw [zaf (zaj q fresh)]; exact q
   rcases hc with z | z
   ·rw [z]; exact nw b u e
   ·exact nw c _ z
end
section
variable {X : Cx} {e1 : Expr} {ta : TA} {p pos p2 pos2 : Pos}
noncomputable def zor (K : PySem.W.Frag) (ta : TA) : TE:=fun σ H Q=>ta σ H fun vs H1=>∃ a xs,vs = [.ref a]/\SqL K H1 a xs /\ ∀ l,H1 l = none->Q (.ref l) (upd H1 l (.lst xs.reverse))
theorem zpe (hc : X.calm = true) (hgl : Gl X "list") (hml : X.mg "list" = none) (hg : Gl X "reversed") (hm : X.mg "reversed" = none) (hA : PA X [e1] ta) (hs : starEach [e1] X.env = [(false,eval e1 X.env)]:=by rfl)
  (hs2 : starEach [.Call (.Name "reversed" p) [e1] [] pos] X.env = [(false,eval (.Call (.Name "reversed" p) [e1] [] pos) X.env)]:=by rfl) :
  PE X (.Call (.Name "list" p2) [.Call (.Name "reversed" p) [e1] [] pos] [] pos2) (zor X.K ta):=by
 intro pins s σ H Q I h
 refine Call_ (zhr I hgl hml boot_list (PyProof.Rows.callWith_type1 (?_ : wpAny (model X.prog X.w) X.A (spliced (backTo pos2 (starEach [.Call (.Name "reversed" p) [e1] [] pos] X.env))) _ X.xe s) hs2 rfl))
 rw [hs2]
 show wpAny _ _ (spliced ((false,eval (.Call (.Name "reversed" p) [e1] [] pos) X.env)::[])) _ _ s
 refine Calls.spliced_cons ?_
 refine Call_ (zhr I hg hm boot_reversed (PyProof.Rows.callWith_type1 (thn (hA pos pins s σ H _ I h) fun us s1 hz9=>?_) hs rfl))
 obtain ⟨vs,H1,I1,r1,q1⟩:=hz9
 obtain ⟨a,xs,rfl,hq,q⟩:=q1
 obtain ⟨u,rfl,ru⟩:=zf8 r1
 cases ru
 obtain ⟨its,rv,pl,hz⟩:=I1.list hq
 have hn : its.toArray.size = xs.length:=by rw [rv.length]; simp
 refine call_reversed_list pl.isList (Calls.spliced_nil ?_)
 have up : ∀ b o,s1.heap.get? b = some o->(s1.heap.push (revObj a ((its.toArray.size : Int) - 1))).get? b = some o:=fun b o e=>Heap.get?_push_of_some _ e
 have hR : (s1.heap.push (revObj a ((its.toArray.size : Int) - 1))).IsRevIter s1.heap.objs.size a ((its.toArray.size : Int) - 1):=⟨_,Heap.get?_push_size _ rfl,rfl,rfl⟩
 have I2 : Inv X pins σ H1 { s1 with heap:=s1.heap.push (revObj a ((its.toArray.size : Int) - 1)) }:=I1.kept (t':=s1.toks) up
 have hal : a < s1.heap.objs.size:=by obtain ⟨o,_,ho,_⟩:=id pl; exact Heap.lt_size ho
 have f1:=I1.fpOk (Nat.le_refl _) (I1.hok.fresh (Nat.le_refl _))
 generalize hh2 : s1.heap.push (revObj a ((its.toArray.size : Int) - 1)) = h2 at hR I2 up
 refine zg9 (s:={ s1 with heap:=h2 }) (I1.ok.hd hc) hR (pl.isList.at fun o e=>up _ _ e) (Nat.ne_of_lt hal) (by rw [hn]; exact hz) fun h' tk acc c hk hS hacc=>?_
 have hv : Vals xs.reverse acc.toList:=by
  obtain ⟨hsz,hit⟩:=hacc
  have e : acc.toList = its.reverse:=by
   refine List.ext_getElem? fun i=>?_
   by_cases hi : i < acc.size
   ·have h1:=hit i acc[i] (by simp [hi])
    have h2 : acc.toList[i]? = some acc[i]:=by simp [hi]
    rw [h2]
    rw [List.getElem?_reverse (by rw [hsz] at hi; simpa using hi)]
    have : its.toArray[its.toArray.size - 1 - i]? = its[its.length - 1 - i]?:=by simp
    rw [<- this,h1]
   ·rw [List.getElem?_eq_none (by simpa using hi),List.getElem?_eq_none (by rw [hsz] at hi; simpa using hi)]
  rw [e]; exact rv.reverse
 have hsz2 : h2.objs.size = s1.heap.objs.size + 1:=by rw [<- hh2,Heap.size_push]
 have hf : ∀ b∈[s1.heap.objs.size],FpOk X pins H1 b:=fun b hb=>by rw [List.mem_singleton.mp hb]; exact f1
 exact ⟨.ref h2.objs.size,_,I2.turnsO (t':=tk) hf (fun b o hb e=>hk b o (by simpa using hb) e) (Nat.le_refl _) (show zce X.prog X.w _ _ _ (.lst _) from ⟨by rw [List.length_reverse]; exact hz,acc.toList,c,hv,by simpa using hS⟩),rfl,q _ I2.fresh⟩
end
end L2
namespace L2
open PySem
end L2
namespace L2
open PySem PySem.Spec PyProof.Rows
inductive D where
 | non | bl (b : Bool) | int (i : Int) | str (l : List Nat) | lst (xs : List D) | tup (xs : List D) | dct (ks vs : List D) | dctT (ks vs : List D) | ins (C : Addr) (ns : List Str) (vs : List D)
noncomputable instance : Inhabited D:=⟨.non⟩
noncomputable instance : DecidableEq D:=Classical.typeDecidableEq D
mutual
noncomputable def D.dep : D->Nat
 | .lst a=>D.deps a + 1
 | .tup a=>D.deps a + 1
 | _=>0
noncomputable def D.deps : List D->Nat
 | []=>0
 | a::x=>max a.dep (D.deps x)
end
mutual
noncomputable def D.nb : D->Bool
 | .bl _=>false
 | .dct _ _=>false
 | .dctT _ _=>false
 | .ins _ _ _=>false
 | .lst a=>D.nbs a
 | .tup a=>D.nbs a
 | _=>true
noncomputable def D.nbs : List D->Bool
 | []=>true
 | a::x=>a.nb && D.nbs x
end
section
variable (K : PySem.W.Frag) (H : Hp)
mutual
noncomputable def Rep : D->V->Prop
 | .non,v=>v = .non
 | .bl b,v=>v = .bl b
 | .int i,v=>v = .int i
 | .str l,v=>v = .str (T l) /\ ∀ c∈l,c < 128
 | .lst ds,v=>∃ p xs,v = .ref p/\SqL K H p xs/\Reps ds xs
 | .tup ds,v=>∃ p xs,v = .ref p/\SqT K H p xs/\Reps ds xs
 | .dct ks vs,v=>∃ p kv,v = .ref p/\H p = some (.dK kv)/\Reps ks (kv.map fun q=>kV q.1)/\Reps vs (kv.map fun q=>q.2)
 | .dctT ks vs,v=>∃ p kv,v = .ref p/\H p = some (.dT kv)/\TKs ks (kv.map fun q=>q.1)/\Reps vs (kv.map fun q=>q.2)
 | .ins C ns vs,v=>∃ x dx fs,v = .ref x/\H x = some (.ins C dx fs)/\H dx = some (.own x)/\fs.map (fun q=>q.1) = ns/\Reps vs (fs.map fun q=>q.2)
noncomputable def TK : D->List Key->Prop
 | .tup es,k=>Reps es (k.map kV)
 | _,_=>False
noncomputable def TKs : List D->List (List Key)->Prop
 | [],ks=>ks = []
 | d::ds,ks=>∃ k r,ks = k::r/\TK d k/\TKs ds r
noncomputable def Reps : List D->List V->Prop
 | [],xs=>xs = []
 | d::ds,xs=>∃ x r,xs = x::r/\Rep d x/\Reps ds r
end
end
section
variable {K : PySem.W.Frag} {H H' : Hp}
mutual
theorem Rep.mono (s : Same H H') : ∀ {d : D} {v : V},Rep K H d v->Rep K H' d v
 | .non,_,h=>by simpa [Rep] using h
 | .bl _,_,h=>by simpa [Rep] using h
 | .int _,_,h=>by simpa [Rep] using h
 | .str _,_,h=>by simpa [Rep] using h
 | .lst ds,_,h=>by
  rw [Rep] at h ⊢
  obtain ⟨p,xs,e,q,r⟩:=h
  exact ⟨p,xs,e,SqL.same s q,Reps.mono s r⟩
 | .tup ds,_,h=>by
  rw [Rep] at h ⊢
  obtain ⟨p,xs,e,q,r⟩:=h
  exact ⟨p,xs,e,SqT.same s q,Reps.mono s r⟩
 | .dct ks vs,_,h=>by
  rw [Rep] at h ⊢
  obtain ⟨p,kv,e,q,r1,r2⟩:=h
  exact ⟨p,kv,e,s _ _ q,Reps.mono s r1,Reps.mono s r2⟩
 | .dctT ks vs,_,h=>by
  rw [Rep] at h ⊢
  obtain ⟨p,kv,e,q,r1,r2⟩:=h
  exact ⟨p,kv,e,s _ _ q,TKs.mono s r1,Reps.mono s r2⟩
 | .ins C ns vs,_,h=>by
  rw [Rep] at h ⊢
  obtain ⟨x,dx,fs,e,q1,q2,hn,r⟩:=h
  exact ⟨x,dx,fs,e,s _ _ q1,s _ _ q2,hn,Reps.mono s r⟩
theorem TK.mono (s : Same H H') : ∀ {d : D} {k : List Key},TK K H d k->TK K H' d k
 | .tup es,_,h=>by rw [TK] at h ⊢; exact Reps.mono s h
 | .non,_,h=>by simp [TK] at h
 | .bl _,_,h=>by simp [TK] at h
 | .int _,_,h=>by simp [TK] at h
 | .str _,_,h=>by simp [TK] at h
 | .lst _,_,h=>by simp [TK] at h
 | .dct _ _,_,h=>by simp [TK] at h
 | .dctT _ _,_,h=>by simp [TK] at h
 | .ins _ _ _,_,h=>by simp [TK] at h
theorem TKs.mono (s : Same H H') : ∀ {ds : List D} {ks : List (List Key)},TKs K H ds ks->TKs K H' ds ks
 | [],_,h=>by rw [TKs] at h ⊢; exact h
 | d::ds,_,h=>by
  rw [TKs] at h ⊢
  obtain ⟨k,r,e,a,b⟩:=h
  exact ⟨k,r,e,TK.mono s a,TKs.mono s b⟩
theorem Reps.mono (s : Same H H') : ∀ {ds : List D} {xs : List V},Reps K H ds xs->Reps K H' ds xs
 | [],_,h=>by simpa [Reps] using h
 | d::ds,_,h=>by
  rw [Reps] at h ⊢
  obtain ⟨x,r,e,a,b⟩:=h
  exact ⟨x,r,e,Rep.mono s a,Reps.mono s b⟩
end
theorem Reps.nil : Reps K H [] []:=by rw [Reps]
theorem Reps.cons {d : D} {ds : List D} {x : V} {xs : List V} (a : Rep K H d x) (b : Reps K H ds xs) : Reps K H (d::ds) (x::xs):=by rw [Reps]; exact ⟨x,xs,rfl,a,b⟩
theorem Reps.length : ∀ {ds : List D} {xs : List V},Reps K H ds xs->ds.length = xs.length
 | [],_,h=>by rw [Reps] at h; subst h; rfl
 | d::ds,_,h=>by
  rw [Reps] at h
  obtain ⟨x,r,rfl,_,b⟩:=h
  simp [b.length]
theorem Reps.get : ∀ {ds : List D} {xs : List V} {i : Nat} {x : V},Reps K H ds xs->xs[i]? = some x -> ∃ d,ds[i]? = some d/\Rep K H d x
 | [],_,_,_,h,e=>by rw [Reps] at h; subst h; simp at e
 | d::ds,_,0,_,h,e=>by
  rw [Reps] at h
  obtain ⟨y,r,rfl,a,_⟩:=h
  cases e
  exact ⟨d,rfl,a⟩
 | d::ds,_,i + 1,_,h,e=>by
  rw [Reps] at h
  obtain ⟨y,r,rfl,_,b⟩:=h
  exact Reps.get (i:=i) b e
theorem Reps.get' : ∀ {ds : List D} {xs : List V} {i : Nat} {d : D},Reps K H ds xs->ds[i]? = some d -> ∃ x,xs[i]? = some x/\Rep K H d x:=fun {ds xs i d} h e=>by
 have hl:=h.length
 have hi:=(List.getElem?_eq_some_iff.mp e).1
 obtain ⟨d',e',r⟩:=h.get (i:=i) (x:=xs[i]'(by lia)) (List.getElem?_eq_getElem _)
 rw [e] at e'; cases e'
 exact ⟨_,List.getElem?_eq_getElem _,r⟩
theorem Reps.append : ∀ {ds es : List D} {xs ys : List V},Reps K H ds xs->Reps K H es ys->Reps K H (ds++es) (xs++ys)
 | [],_,_,_,h,h2=>by rw [Reps] at h; subst h; exact h2
 | d::ds,_,_,_,h,h2=>by
  rw [Reps] at h
  obtain ⟨y,r,rfl,a,b⟩:=h
  exact Reps.cons a (Reps.append b h2)
theorem Reps.snoc {ds : List D} {xs : List V} {d : D} {x : V} (h : Reps K H ds xs) (a : Rep K H d x) : Reps K H (ds++[d]) (xs++[x]):=h.append (.cons a .nil)
theorem Reps.drop : ∀ (n : Nat) {ds : List D} {xs : List V},Reps K H ds xs->Reps K H (ds.drop n) (xs.drop n)
 | 0,_,_,h=>h
 | n + 1,[],_,h=>by rw [Reps] at h; subst h; exact Reps.nil
 | n + 1,d::ds,_,h=>by
  rw [Reps] at h
  obtain ⟨y,r,rfl,_,b⟩:=h
  exact Reps.drop n b
theorem Reps.take : ∀ (n : Nat) {ds : List D} {xs : List V},Reps K H ds xs->Reps K H (ds.take n) (xs.take n)
 | 0,_,_,h=>Reps.nil
 | n + 1,[],_,h=>by rw [Reps] at h; subst h; exact Reps.nil
 | n + 1,d::ds,_,h=>by
  rw [Reps] at h
  obtain ⟨y,r,rfl,a,b⟩:=h
  exact Reps.cons a (Reps.take n b)
theorem Rep.lst {ds : List D} {p : Addr} {xs : List V} (q : SqL K H p xs) (r : Reps K H ds xs) : Rep K H (.lst ds) (.ref p):=by rw [Rep]; exact ⟨p,xs,rfl,q,r⟩
theorem Rep.tup {ds : List D} {p : Addr} {xs : List V} (q : SqT K H p xs) (r : Reps K H ds xs) : Rep K H (.tup ds) (.ref p):=by rw [Rep]; exact ⟨p,xs,rfl,q,r⟩
theorem Rep.int {i : Int} : Rep K H (.int i) (.int i):=by rw [Rep]
theorem Rep.bl {b : Bool} : Rep K H (.bl b) (.bl b):=by rw [Rep]
theorem Rep.str {l : List Nat} (h : ∀ c∈l,c < 128) : Rep K H (.str l) (.str (T l)):=by rw [Rep]; exact ⟨rfl,h⟩
theorem Rep.non : Rep K H .non .non:=by rw [Rep]
theorem Rep.of_int {i : Int} {v : V} (h : Rep K H (.int i) v) : v = .int i:=by rw [Rep] at h; exact h
theorem Rep.of_bl {b : Bool} {v : V} (h : Rep K H (.bl b) v) : v = .bl b:=by rw [Rep] at h; exact h
theorem Rep.of_str {l : List Nat} {v : V} (h : Rep K H (.str l) v) : v = .str (T l):=by rw [Rep] at h; exact h.1
theorem Rep.asc {l : List Nat} {v : V} (h : Rep K H (.str l) v) : ∀ c∈l,c < 128:=by rw [Rep] at h; exact h.2
theorem Rep.of_non {v : V} (h : Rep K H .non v) : v = .non:=by rw [Rep] at h; exact h
theorem Rep.of_lst {ds : List D} {v : V} (h : Rep K H (.lst ds) v) : ∃ p xs,v = .ref p/\SqL K H p xs/\Reps K H ds xs:=by rw [Rep] at h; exact h
theorem Rep.of_tup {ds : List D} {v : V} (h : Rep K H (.tup ds) v) : ∃ p xs,v = .ref p/\SqT K H p xs/\Reps K H ds xs:=by rw [Rep] at h; exact h
theorem Rep.of_dct {ks vs : List D} {v : V} (h : Rep K H (.dct ks vs) v) : ∃ p kv,v = .ref p/\H p = some (.dK kv)/\Reps K H ks (kv.map fun q=>kV q.1)/\Reps K H vs (kv.map fun q=>q.2):=by rw [Rep] at h; exact h
theorem Rep.of_ins {C : Addr} {ns : List Str} {vs : List D} {v : V} (h : Rep K H (.ins C ns vs) v) : ∃ x dx fs,v = .ref x/\H x = some (.ins C dx fs)/\H dx = some (.own x)/\fs.map (fun q=>q.1) = ns/\Reps K H vs (fs.map fun q=>q.2):=by rw [Rep] at h; exact h
theorem Rep.dct {ks vs : List D} {p : Addr} {kv : List (Key × V)} (q : H p = some (.dK kv)) (r1 : Reps K H ks (kv.map fun q=>kV q.1)) (r2 : Reps K H vs (kv.map fun q=>q.2)) : Rep K H (.dct ks vs) (.ref p):=by rw [Rep]; exact ⟨p,kv,rfl,q,r1,r2⟩
end
structure Ext (G H₀ F H : Hp) : Prop where
 gf : Same G F
 fh : Same F H
 hh : Same H₀ H
 no : ∀ b o,H₀ b = some o->F b = G b
theorem Ext.refl {G H : Hp} (s : Same G H) : Ext G H G H:=⟨Same.refl _,s,Same.refl _,fun _ _ _=>rfl⟩
theorem Ext.trans {G H F1 H1 F2 H2 : Hp} (a : Ext G H F1 H1) (b : Ext F1 H1 F2 H2) : Ext G H F2 H2 :=
 ⟨a.gf.trans b.gf,b.fh,a.hh.trans b.hh,fun c o e=>(b.no c o (a.hh c o e)).trans (a.no c o e)⟩
theorem Ext.newF {G H₀ F H : Hp} (x : Ext G H₀ F H) {p : Addr} {o : HO} (hp : H p = none) : Ext G H₀ (upd F p o) (upd H p o):=by
 have fp : F p = none:=x.fh.free hp
 refine ⟨x.gf.trans (Same.upd fp),fun b u e=>?_,x.hh.trans (Same.upd hp),fun b u e=>?_⟩
 ·by_cases hb : b = p
  ·subst hb; rw [zae] at e ⊢; exact e
  ·rw [zaf hb] at e ⊢; exact x.fh b u e
 ·have hb : b≠p:=fun z=>by subst z; have:=x.hh b u e; rw [hp] at this; cases this
  rw [zaf hb]; exact x.no b u e
theorem Ext.newO {G H₀ F H : Hp} (x : Ext G H₀ F H) {p : Addr} {o : HO} (hp : H p = none) : Ext G H₀ F (upd H p o) :=
 ⟨x.gf,x.fh.trans (Same.upd hp),x.hh.trans (Same.upd hp),x.no⟩
theorem Ext.write {G H₀ F H : Hp} (x : Ext G H₀ F H) {p : Addr} {o : HO} (fp : F p = none) (hp : H₀ p = none) : Ext G H₀ F (upd H p o) :=
 ⟨x.gf,fun b u e=>by rw [zaf (zaj e fp)]; exact x.fh b u e,fun b u e=>by rw [zaf (zaj e hp)]; exact x.hh b u e,x.no⟩
theorem Ext.freeze {G H₀ F H : Hp} (x : Ext G H₀ F H) {p : Addr} {o : HO} (fp : F p = none) (hp : H₀ p = none) (e : H p = some o) : Ext G H₀ (upd F p o) H:=by
 refine ⟨x.gf.trans (Same.upd fp),fun b u q=>?_,x.hh,fun b u q=>?_⟩
 ·by_cases hb : b = p
  ·subst hb; rw [zae] at q; cases q; exact e
  ·rw [zaf hb] at q; exact x.fh b u q
 ·rw [zaf (zaj q hp)]; exact x.no b u q
inductive Sl where
 | un | d (x : D) | o (p : Addr) (xs : List D) | oo (p : Addr) (qs : List (Addr × List D)) | g (v : V) (as : List Addr) (W : Hp->Hp->Prop)
noncomputable def Sl.ads : Sl->List Addr
 | .un=>[] | .d _=>[] | .o p _=>[p] | .oo p qs=>p::qs.map (·.1) | .g _ as _=>as
noncomputable def OwnL (K : PySem.W.Frag) (H₀ F H : Hp) (p : Addr) (xs : List D) : Prop:=H₀ p = none/\F p = none /\ ∃ vs,H p = some (.lst vs)/\Reps K F xs vs
noncomputable def Stab (as : List Addr) (W : Hp->Hp->Prop) : Prop:=∀ F1 H1 F2 H2 : Hp,Same F1 F2->(∀ a∈as,H2 a = H1 a)->W F1 H1->W F2 H2
noncomputable def SlOk (K : PySem.W.Frag) (H₀ F H : Hp) (ov : Option V) : Sl->Prop
 | .un=>True
 | .d x=>∃ v,ov = some v/\Rep K F x v
 | .o p xs=>ov = some (.ref p)/\OwnL K H₀ F H p xs
 | .oo p qs=>ov = some (.ref p)/\H₀ p = none/\F p = none/\H p = some (.lst (qs.map fun q=>V.ref q.1)) /\ ∀ q∈qs,OwnL K H₀ F H q.1 q.2
 | .g v as W=>ov = some v/\(∀ a∈as,H₀ a = none/\F a = none /\ ∃ o,H a = some o)/\W F H/\Stab as W
structure Sat (K : PySem.W.Frag) (G H₀ L F H : Hp) (σ : St) (ss : List Sl) : Prop where
 ext : Ext G H₀ F H
 fl : Same L F
 len : σ.length = ss.length
 ok : ∀ (i : Nat) s,ss[i]? = some s->SlOk K H₀ F H (σ.getD i none) s
 nd : ∀ (i : Nat) s,ss[i]? = some s->s.ads.Nodup
 ne : ∀ (i j : Nat) s s',i≠j->ss[i]? = some s->ss[j]? = some s' -> ∀ p∈s.ads,p ∉ s'.ads
section
variable {K : PySem.W.Frag} {H₀ F H F' H' : Hp}
theorem OwnL.ext2 {p : Addr} {xs : List D} (h : OwnL K H₀ F H p xs) (e : Ext F H F' H') : OwnL K H₀ F' H' p xs:=by
 obtain ⟨h0,fp,vs,hp,r⟩:=h
 exact ⟨h0,(e.no p _ hp).trans fp,vs,e.hh p _ hp,r.mono e.gf⟩
theorem SlOk.ext2 {ov : Option V} {s : Sl} (h : SlOk K H₀ F H ov s) (e : Ext F H F' H') : SlOk K H₀ F' H' ov s:=by
 cases s with
 | un=>trivial
 | d x=>obtain ⟨v,ev,r⟩:=h; exact ⟨v,ev,r.mono e.gf⟩
 | o p xs=>exact ⟨h.1,h.2.ext2 e⟩
 | oo p qs =>
  obtain ⟨ev,h0,fp,hp,hq⟩:=h
  exact ⟨ev,h0,(e.no p _ hp).trans fp,e.hh p _ hp,fun q hm=>(hq q hm).ext2 e⟩
 | g v as W =>
  obtain ⟨ev,ha,hw,st⟩:=h
  refine ⟨ev,fun a hm=>?_,st _ _ _ _ e.gf (fun a hm=>?_) hw,st⟩
  ·obtain ⟨h0,fa,o,ho⟩:=ha a hm
   exact ⟨h0,(e.no a _ ho).trans fa,o,e.hh a _ ho⟩
  ·obtain ⟨h0,fa,o,ho⟩:=ha a hm
   rw [e.hh a _ ho,ho]
theorem OwnL.updNe {p a : Addr} {o : HO} {xs : List D} (h : OwnL K H₀ F H p xs) (hn : p≠a) : OwnL K H₀ F (upd H a o) p xs:=by
 obtain ⟨h0,fp,vs,hp,r⟩:=h
 exact ⟨h0,fp,vs,by rw [zaf hn]; exact hp,r⟩
theorem SlOk.updNe {ov : Option V} {s : Sl} {a : Addr} {o : HO} (h : SlOk K H₀ F H ov s) (hn : a ∉ s.ads) : SlOk K H₀ F (upd H a o) ov s:=by
 cases s with
 | un=>trivial
 | d x=>exact h
 | o p xs=>exact ⟨h.1,h.2.updNe fun z=>hn (by simp [Sl.ads,z])⟩
 | oo p qs =>
  obtain ⟨ev,h0,fp,hp,hq⟩:=h
  refine ⟨ev,h0,fp,by rw [zaf fun z=>hn (by simp [Sl.ads,z])]; exact hp,fun q hm=>(hq q hm).updNe fun z=>hn ?_⟩
  rw [<- z]
  exact List.mem_cons_of_mem _ (List.mem_map_of_mem hm)
 | g v as W =>
  obtain ⟨ev,ha,hw,st⟩:=h
  have hne : ∀ b∈as,b≠a:=fun b hm z=>hn (by rw [<- z]; exact hm)
  refine ⟨ev,fun b hm=>?_,st _ _ _ _ (Same.refl _) (fun b hm=>zaf (hne b hm)) hw,st⟩
  obtain ⟨h0,fa,x,ho⟩:=ha b hm
  exact ⟨h0,fa,x,by rw [zaf (hne b hm)]; exact ho⟩
theorem OwnL.frz {p a : Addr} {o : HO} {xs : List D} (h : OwnL K H₀ F H p xs) (fa : F a = none) (hn : p≠a) : OwnL K H₀ (upd F a o) H p xs:=by
 obtain ⟨h0,fp,vs,hp,r⟩:=h
 exact ⟨h0,by rw [zaf hn]; exact fp,vs,hp,r.mono (Same.upd fa)⟩
theorem SlOk.frz {ov : Option V} {s : Sl} {a : Addr} {o : HO} (h : SlOk K H₀ F H ov s) (fa : F a = none) (hn : a ∉ s.ads) : SlOk K H₀ (upd F a o) H ov s:=by
 cases s with
 | un=>trivial
 | d x=>obtain ⟨v,ev,r⟩:=h; exact ⟨v,ev,r.mono (Same.upd fa)⟩
 | o p xs=>exact ⟨h.1,h.2.frz fa fun z=>hn (by simp [Sl.ads,z])⟩
 | oo p qs =>
  obtain ⟨ev,h0,fp,hp,hq⟩:=h
  refine ⟨ev,h0,by rw [zaf fun z=>hn (by simp [Sl.ads,z])]; exact fp,hp,fun q hm=>(hq q hm).frz fa fun z=>hn ?_⟩
  rw [<- z]
  exact List.mem_cons_of_mem _ (List.mem_map_of_mem hm)
 | g v as W =>
  obtain ⟨ev,ha,hw,st⟩:=h
  have hne : ∀ b∈as,b≠a:=fun b hm z=>hn (by rw [<- z]; exact hm)
  refine ⟨ev,fun b hm=>?_,st _ _ _ _ (Same.upd fa) (fun _ _=>rfl) hw,st⟩
  obtain ⟨h0,fb,x,ho⟩:=ha b hm
  exact ⟨h0,by rw [zaf (hne b hm)]; exact fb,x,ho⟩
theorem SlOk.live {ov : Option V} {s : Sl} (h : SlOk K H₀ F H ov s) {p : Addr} (hp : p∈s.ads) : H p≠none:=by
 cases s with
 | un=>simp [Sl.ads] at hp
 | d x=>simp [Sl.ads] at hp
 | o q xs =>
  obtain ⟨_,_,_,vs,hq,_⟩:=h
  simp [Sl.ads] at hp; subst hp; rw [hq]; simp
 | oo q qs =>
  obtain ⟨ev,h0,fp,hq,hqs⟩:=h
  rcases List.mem_cons.mp hp with rfl | hp
  ·rw [hq]; simp
  ·obtain ⟨r,hr,rfl⟩:=List.mem_map.mp hp
   obtain ⟨_,_,vs,hv,_⟩:=hqs r hr
   rw [hv]; simp
 | g v as W =>
  obtain ⟨ev,ha,hw,st⟩:=h
  obtain ⟨_,_,x,ho⟩:=ha p hp
  rw [ho]; simp
end
end L2
namespace L2
open PySem PySem.Spec PyProof.Rows
section
variable {K : PySem.W.Frag} {G H₀ L F H F' H' : Hp} {σ : St} {ss : List Sl}
theorem Sat.ext2 (S : Sat K G H₀ L F H σ ss) (e : Ext F H F' H') : Sat K G H₀ L F' H' σ ss :=
 ⟨S.ext.trans e,S.fl.trans e.gf,S.len,fun i s hs=>(S.ok i s hs).ext2 e,S.nd,S.ne⟩
theorem Sat.get (S : Sat K G H₀ L F H σ ss) {i : Nat} {s : Sl} (hs : ss[i]? = some s) (hn : s ≠ .un) : ∃ v,σ[i]? = some (some v)/\SlOk K H₀ F H (some v) s:=by
 have hi : i < σ.length:=by rw [S.len]; exact (List.getElem?_eq_some_iff.mp hs).1
 have:=S.ok i s hs
 rw [List.getD_eq_getElem?_getD,List.getElem?_eq_getElem hi] at this
 simp only [Option.getD_some] at this
 cases hv : σ[i] with
 | none =>
  rw [hv] at this
  cases s with
  | un=>exact absurd rfl hn
  | d x=>obtain ⟨v,ev,_⟩:=this; cases ev
  | o p xs=>obtain ⟨ev,_⟩:=this; cases ev
  | oo p qs=>obtain ⟨ev,_⟩:=this; cases ev
  | g v as W=>obtain ⟨ev,_⟩:=this; cases ev
 | some v =>
  rw [hv] at this
  exact ⟨v,by rw [List.getElem?_eq_getElem hi,hv],this⟩
theorem Sat.getD (S : Sat K G H₀ L F H σ ss) {i : Nat} {x : D} (hs : ss[i]? = some (.d x)) : ∃ v,σ[i]? = some (some v)/\Rep K F x v:=by
 obtain ⟨v,e,w,ew,r⟩:=S.get hs (by intro z; cases z)
 cases ew
 exact ⟨v,e,r⟩
theorem Sat.getO (S : Sat K G H₀ L F H σ ss) {i : Nat} {p : Addr} {xs : List D} (hs : ss[i]? = some (.o p xs)) : σ[i]? = some (some (.ref p))/\OwnL K H₀ F H p xs:=by
 obtain ⟨v,e,ew,r⟩:=S.get hs (by intro z; cases z)
 cases ew
 exact ⟨e,r⟩
theorem zbq {σ : St} {i : Nat} {v : Option V} (h : i < σ.length) : (σ.set i v).getD i none = v:=by
 rw [List.getD_eq_getElem?_getD,List.getElem?_set_self h]; rfl
theorem zbz {σ : St} {i j : Nat} {v : Option V} (h : i≠j) : (σ.set i v).getD j none = σ.getD j none:=by
 rw [List.getD_eq_getElem?_getD,List.getElem?_set_ne h,List.getD_eq_getElem?_getD]
theorem zek {i j : Nat} {s t : Sl} (h : (ss.set i s)[j]? = some t) : (i = j/\t = s/\i < ss.length) \/ (i≠j/\ss[j]? = some t):=by
 by_cases hj : i = j
 ·subst hj
  have hi:=(List.getElem?_eq_some_iff.mp h).1
  rw [List.length_set] at hi
  rw [List.getElem?_set_self hi] at h
  exact .inl ⟨rfl,(Option.some.inj h).symm,hi⟩
 ·rw [List.getElem?_set_ne hj] at h; exact .inr ⟨hj,h⟩
theorem Sat.put {σ' : St} (S : Sat K G H₀ L F H σ ss) {i : Nat} {s : Sl} (ex : Ext G H₀ F' H') (fl : Same L F') (hl : σ'.length = σ.length) (hσ : ∀ j,j≠i->σ'.getD j none = σ.getD j none) (hi : i < ss.length->SlOk K H₀ F' H' (σ'.getD i none) s)
  (nd : s.ads.Nodup) (dj : ∀ (j : Nat) s',j≠i->ss[j]? = some s' -> ∀ p∈s.ads,p ∉ s'.ads) (st : ∀ (j : Nat) s',j≠i->ss[j]? = some s'->SlOk K H₀ F' H' (σ.getD j none) s') : Sat K G H₀ L F' H' σ' (ss.set i s):=by
 refine ⟨ex,fl,by rw [List.length_set,hl,S.len],fun j t ht=>?_,fun j t ht=>?_,fun j k t u hjk ht hu=>?_⟩
 ·rcases zek ht with ⟨rfl,rfl,hlt⟩ | ⟨hj,ht⟩
  ·exact hi hlt
  ·rw [hσ j (Ne.symm hj)]; exact st j t (Ne.symm hj) ht
 ·rcases zek ht with ⟨rfl,rfl,_⟩ | ⟨hj,ht⟩
  ·exact nd
  ·exact S.nd j t ht
 ·rcases zek ht with ⟨rfl,rfl,_⟩ | ⟨hj,ht'⟩
  ·rcases zek hu with ⟨rfl,rfl,_⟩ | ⟨hk,hu'⟩
   ·exact absurd rfl hjk
   ·exact dj k u (Ne.symm hk) hu'
  ·rcases zek hu with ⟨rfl,rfl,_⟩ | ⟨hk,hu'⟩
   ·exact fun p hp hp'=>dj j t (Ne.symm hj) ht' p hp' hp
   ·exact S.ne j k t u hjk ht' hu'
theorem Sat.setD (S : Sat K G H₀ L F H σ ss) {i : Nat} {x : D} {v : V} (r : Rep K F x v) : Sat K G H₀ L F H (σ.set i (some v)) (ss.set i (.d x)) :=
 S.put S.ext S.fl (by simp) (fun j hj=>zbz (Ne.symm hj)) (fun hi=>by rw [zbq (by rw [S.len]; exact hi)]; exact ⟨v,rfl,r⟩) (by simp [Sl.ads]) (fun _ _ _ _ p hp=>by simp [Sl.ads] at hp) fun j s' _ h=>S.ok j s' h
theorem Sat.setO (S : Sat K G H₀ L F H σ ss) {i : Nat} {xs : List D} {p : Addr} (r : OwnL K H₀ F H p xs) (hne : ∀ (j : Nat) s',j≠i->ss[j]? = some s'->p ∉ s'.ads) : Sat K G H₀ L F H (σ.set i (some (.ref p))) (ss.set i (.o p xs)) :=
 S.put S.ext S.fl (by simp) (fun j hj=>zbz (Ne.symm hj)) (fun hi=>by rw [zbq (by rw [S.len]; exact hi)]; exact ⟨rfl,r⟩) (by simp [Sl.ads]) (fun j s' hj h q hq=>by simp [Sl.ads] at hq; subst hq; exact hne j s' hj h) fun j s' _ h=>S.ok j s' h
theorem Sat.write (S : Sat K G H₀ L F H σ ss) {i : Nat} {xs ys : List D} {p : Addr} {vs : List V} (hs : ss[i]? = some (.o p xs)) (r : Reps K F ys vs) : Sat K G H₀ L F (upd H p (.lst vs)) σ (ss.set i (.o p ys)):=by
 obtain ⟨e,h0,fp,ws,hp,_⟩:=S.getO hs
 have hget : σ.getD i none = some (.ref p):=by rw [List.getD_eq_getElem?_getD,e]; rfl
 refine S.put (S.ext.write fp h0) S.fl rfl (fun _ _=>rfl) (fun _=>by rw [hget]; exact ⟨rfl,h0,fp,vs,zae,r⟩) (by simp [Sl.ads]) (fun j s' hj h q hq=>?_) fun j s' hj h=>(S.ok j s' h).updNe (S.ne i j _ s' (Ne.symm hj) hs h p (by simp [Sl.ads]))
 simp [Sl.ads] at hq; subst hq
 exact S.ne i j _ s' (Ne.symm hj) hs h q (by simp [Sl.ads])
theorem Sat.freeze (S : Sat K G H₀ L F H σ ss) {i : Nat} {p : Addr} {xs : List D} (hs : ss[i]? = some (.o p xs)) : ∃ F',Sat K G H₀ L F' H σ (ss.set i (.d (.lst xs))):=by
 obtain ⟨e,h0,fp,vs,hp,r⟩:=S.getO hs
 have hget : σ.getD i none = some (.ref p):=by rw [List.getD_eq_getElem?_getD,e]; rfl
 exact ⟨upd F p (.lst vs),S.put (S.ext.freeze fp h0 hp) (S.fl.trans (Same.upd fp)) rfl (fun _ _=>rfl) (fun _=>by rw [hget]; exact ⟨_,rfl,Rep.lst (SqL.of zae) (r.mono (Same.upd fp))⟩) (by simp [Sl.ads]) (fun _ _ _ _ q hq=>by simp [Sl.ads] at hq)
  fun j s' hj h=>(S.ok j s' h).frz fp (S.ne i j _ s' (Ne.symm hj) hs h p (by simp [Sl.ads]))⟩
theorem Sat.raise (S : Sat K G H₀ L F H σ ss) : Sat K G H₀ F F H σ ss:=⟨S.ext,Same.refl _,S.len,S.ok,S.nd,S.ne⟩
theorem Sat.lower {L' : Hp} (S : Sat K G H₀ L' F H σ ss) (h : Same L L') : Sat K G H₀ L F H σ ss:=⟨S.ext,h.trans S.fl,S.len,S.ok,S.nd,S.ne⟩
end
section
variable (K : PySem.W.Frag) (G H₀ L : Hp) (ss : List Sl)
noncomputable def Ev (t : TE) (d : D) : Prop:=∀ F H σ Q,Sat K G H₀ L F H σ ss->(∀ v F' H',Ext F H F' H'->Rep K F' d v->Q v H')->t σ H Q
noncomputable def EvO (t : TE) (ds : List D) : Prop:=∀ F H σ Q,Sat K G H₀ L F H σ ss->(∀ p vs F' H',Ext F H F' H'->H p = none->F' p = none->H' p = some (.lst vs)->Reps K F' ds vs->Q (.ref p) H')->t σ H Q
noncomputable def EvL (t : TE) (ds : List D) : Prop:=∀ F H σ Q,Sat K G H₀ L F H σ ss->(∀ p vs F' H',Ext F H F' H'->SqL K H' p vs->Reps K F' ds vs->Q (.ref p) H')->t σ H Q
noncomputable def EvB (t : TE) (d : D) : Prop:=∀ F H σ Q,Sat K G H₀ L F H σ ss->(∀ v F' H',Ext F H F' H'->Rep K H' d v->Q v H')->t σ H Q
noncomputable def EvT (t : TT) (b : Bool) : Prop:=∀ F H σ (Q : Bool->Hp->Prop),Sat K G H₀ L F H σ ss->(∀ F' H',Ext F H F' H'->Q b H')->t σ H Q
noncomputable def EvA (t : TA) (ds : List D) : Prop:=∀ F H σ (Q : List V->Hp->Prop),Sat K G H₀ L F H σ ss->(∀ vs F' H',Ext F H F' H'->Reps K H' ds vs->Q vs H')->t σ H Q
noncomputable def EvAF (t : TA) (ds : List D) : Prop:=∀ F H σ (Q : List V->Hp->Prop),Sat K G H₀ L F H σ ss->(∀ vs F' H',Ext F H F' H'->Reps K F' ds vs->Q vs H')->t σ H Q
end
section
variable {K : PySem.W.Frag} {G H₀ L : Hp} {ss : List Sl} {t ta tb : TE} {d d1 d2 : D} {ds es : List D}
theorem EvO.ev (h : EvO K G H₀ L ss t ds) : Ev K G H₀ L ss t (.lst ds):=fun F H σ Q S q=>h F H σ Q S fun p vs F' H' e hp fp hp' r=>q _ _ _ (e.freeze fp hp hp') (Rep.lst (SqL.of zae) (r.mono (Same.upd fp)))
theorem EvO.l (h : EvO K G H₀ L ss t ds) : EvL K G H₀ L ss t ds:=fun F H σ Q S q=>h F H σ Q S fun p vs F' H' e hp fp hp' r=>q _ _ _ _ e (SqL.of hp') r
theorem Ev.l (h : Ev K G H₀ L ss t (.lst ds)) : EvL K G H₀ L ss t ds:=fun F H σ Q S q=>h F H σ Q S fun v F' H' e r=>by
 obtain ⟨p,xs,rfl,sq,rs⟩:=r.of_lst
 exact q _ _ _ _ e (SqL.same e.fh sq) rs
theorem Ev.b (h : Ev K G H₀ L ss t d) : EvB K G H₀ L ss t d:=fun F H σ Q S q=>h F H σ Q S fun v F' H' e r=>q _ _ _ e (r.mono e.fh)
theorem EvL.b (h : EvL K G H₀ L ss t ds) : EvB K G H₀ L ss t (.lst ds):=fun F H σ Q S q=>h F H σ Q S fun p vs F' H' e sq r=>q _ _ _ e (Rep.lst sq (r.mono e.fh))
theorem zaa {i : Nat} (hs : ss[i]? = some (.d d)) : Ev K G H₀ L ss (tVar i) d:=fun F H σ Q S q=>by
 obtain ⟨v,e,r⟩:=S.getD hs
 exact ⟨v,e,q _ _ _ (Ext.refl S.ext.fh) r⟩
theorem zcd {i : Nat} {p : Addr} (hs : ss[i]? = some (.o p ds)) : EvL K G H₀ L ss (tVar i) ds:=fun F H σ Q S q=>by
 obtain ⟨e,h0,fp,vs,hp,r⟩:=S.getO hs
 exact ⟨.ref p,e,q _ _ _ _ (Ext.refl S.ext.fh) (SqL.of hp) r⟩
theorem zap {i : Int} : Ev K G H₀ L ss (tC (.int i)) (.int i):=fun F H σ Q S q=>q _ _ _ (Ext.refl S.ext.fh) Rep.int
theorem ybe {b : Bool} : Ev K G H₀ L ss (tC (.bl b)) (.bl b):=fun F H σ Q S q=>q _ _ _ (Ext.refl S.ext.fh) Rep.bl
theorem zrs : Ev K G H₀ L ss (tC .non) .non:=fun F H σ Q S q=>q _ _ _ (Ext.refl S.ext.fh) Rep.non
theorem ya0 {x : Str} {l : List Nat} (h : x = T l) (ha : ∀ c∈l,c < 128) : Ev K G H₀ L ss (tC (.str x)) (.str l):=fun F H σ Q S q=>by subst h; exact q _ _ _ (Ext.refl S.ext.fh) (Rep.str ha)
theorem zdc {r : R2} {w : V} (a : EvB K G H₀ L ss ta d1) (b : EvB K G H₀ L ss tb d2) (hr : ∀ H x y (Q : VK),Rep K H d1 x->Rep K H d2 y->Q w H->r x y H Q) (hw : ∀ F H x y,Rep K H d1 x->Rep K H d2 y->Rep K F d w) : Ev K G H₀ L ss (tOp r ta tb) d:=fun F H σ Q S q =>
 a F H σ _ S fun x F1 H1 e1 r1=>b F1 H1 σ _ (S.ext2 e1) fun y F2 H2 e2 r2=>hr H2 x y Q (r1.mono e2.hh) r2 (q _ _ _ (e1.trans e2) (hw _ _ _ _ (r1.mono e2.hh) r2))
theorem zfs {i j : Int} (a : EvB K G H₀ L ss ta (.int i)) (b : EvB K G H₀ L ss tb (.int j)) : Ev K G H₀ L ss (tOp (rI0 fun i j=>.int (i + j)) ta tb) (.int (i + j)) :=
 zdc a b (fun H x y Q r1 r2 q=>⟨i,j,r1.of_int,r2.of_int,q⟩) fun _ _ _ _ _ _=>Rep.int
theorem zop {i j : Int} (a : EvB K G H₀ L ss ta (.int i)) (b : EvB K G H₀ L ss tb (.int j)) : Ev K G H₀ L ss (tOp (rI0 fun i j=>.int (i - j)) ta tb) (.int (i - j)) :=
 zdc a b (fun H x y Q r1 r2 q=>⟨i,j,r1.of_int,r2.of_int,q⟩) fun _ _ _ _ _ _=>Rep.int
theorem zr4 {C : Int->Int->Prop} {g : Int->Int->Int} {i j : Int} (a : EvB K G H₀ L ss ta (.int i)) (b : EvB K G H₀ L ss tb (.int j)) (hC : C i j) : Ev K G H₀ L ss (tOp (rI C fun i j=>.int (g i j)) ta tb) (.int (g i j)) :=
 zdc a b (fun H x y Q r1 r2 q=>⟨i,j,r1.of_int,r2.of_int,hC,q⟩) fun _ _ _ _ _ _=>Rep.int
theorem zmq {g : Int->Int->Bool} {i j : Int} (a : EvB K G H₀ L ss ta (.int i)) (b : EvB K G H₀ L ss tb (.int j)) : Ev K G H₀ L ss (tOp (rI0 fun i j=>.bl (g i j)) ta tb) (.bl (g i j)) :=
 zdc a b (fun H x y Q r1 r2 q=>⟨i,j,r1.of_int,r2.of_int,q⟩) fun _ _ _ _ _ _=>Rep.bl
theorem zsi {i j : Int} (a : EvB K G H₀ L ss ta (.int i)) (b : EvB K G H₀ L ss tb (.int j)) : Ev K G H₀ L ss (tOp rEq ta tb) (.bl (decide (i = j))) :=
 zdc (w:=.bl (decide (i = j))) a b (fun H x y Q r1 r2 q=>by rw [r1.of_int,r2.of_int]; exact ⟨rfl,by simpa using q⟩) fun _ _ _ _ _ _=>Rep.bl
theorem zzz {i j : Int} (a : EvB K G H₀ L ss ta (.int i)) (b : EvB K G H₀ L ss tb (.int j)) : Ev K G H₀ L ss (tOp rNe ta tb) (.bl (!decide (i = j))) :=
 zdc (w:=.bl (!decide (i = j))) a b (fun H x y Q r1 r2 q=>by rw [r1.of_int,r2.of_int]; exact ⟨rfl,by simpa using q⟩) fun _ _ _ _ _ _=>Rep.bl
theorem zez {l m : List Nat} (a : EvB K G H₀ L ss ta (.str l)) (b : EvB K G H₀ L ss tb (.str m)) : Ev K G H₀ L ss (tOp rEq ta tb) (.bl (decide (l = m))) :=
 zdc (w:=.bl (decide (l = m))) a b (fun H x y Q r1 r2 q=>by rw [r1.of_str,r2.of_str]; exact ⟨rfl,by rw [zt7]; exact q⟩) fun _ _ _ _ _ _=>Rep.bl
theorem zsg {l m : List Nat} (a : EvB K G H₀ L ss ta (.str l)) (b : EvB K G H₀ L ss tb (.str m)) (hz : l.length + m.length <= sizeLine) :
  Ev K G H₀ L ss (tOp (fun x y H Q=>∃ i j,x = .str i/\y = .str j/\i.length + j.length <= sizeLine/\Q (.str (i++j)) H) ta tb) (.str (l++m)) :=
 zdc (w:=.str (T (l++m))) a b (fun H x y Q r1 r2 q=>⟨_,_,r1.of_str,r2.of_str,by rw [zm5,zm5]; exact hz,by rw [ya7]; exact q⟩) fun _ _ _ _ r1 r2=>Rep.str fun c hc=>(List.mem_append.mp hc).elim (r1.asc c) (r2.asc c)
theorem zyr {α : Type} {xs : List α} {i : Int} {x : α} (h : atI xs i = some x) : x∈xs:=by
 unfold atI at h
 cases hx : ixN xs.length i with
 | none=>rw [hx] at h; cases h
 | some j=>rw [hx] at h; exact List.mem_of_getElem? h
theorem yaf {l : List Nat} {i : Int} {c : Nat} (a : EvB K G H₀ L ss ta (.str l)) (b : EvB K G H₀ L ss tb (.int i)) (hz : l.length <= sizeLine) (hc : atI l i = some c) : Ev K G H₀ L ss (tOp rIxS ta tb) (.str [c]) :=
 zdc (w:=.str (T [c])) a b (fun H x y Q r1 r2 q=>⟨_,_,c,r1.of_str,r2.of_int,by rw [zm5]; exact hz,by rw [zna]; exact hc,q⟩) fun _ _ _ _ r1 r2=>Rep.str fun c' hc'=>by
  rw [List.mem_singleton.mp hc']
  exact r1.asc c (zyr hc)
theorem Reps.atI {H : Hp} {ds : List D} {vs : List V} {i : Int} {d : D} (r : Reps K H ds vs) (h : L2.atI ds i = some d) : ∃ v,L2.atI vs i = some v/\Rep K H d v:=by
 unfold L2.atI at h ⊢
 rw [r.length] at h
 cases hx : ixN vs.length i with
 | none=>rw [hx] at h; cases h
 | some j=>rw [hx] at h; exact r.get' h
theorem zgh {i : Int} (a : EvL K G H₀ L ss ta ds) (b : EvB K G H₀ L ss tb (.int i)) (hc : atI ds i = some d) : Ev K G H₀ L ss (tOp (rIxL K) ta tb) d:=fun F H σ Q S q =>
 a F H σ _ S fun p vs F1 H1 e1 sq r1=>b F1 H1 σ _ (S.ext2 e1) fun y F2 H2 e2 r2=>by
  obtain ⟨v,hv,rv⟩:=r1.atI hc
  exact ⟨p,vs,i,v,rfl,r2.of_int,SqL.same e2.hh sq,hv,q _ _ _ (e1.trans e2) (rv.mono e2.gf)⟩
theorem zco {i : Int} (a : Ev K G H₀ L ss ta (.tup ds)) (b : EvB K G H₀ L ss tb (.int i)) (hc : atI ds i = some d) : Ev K G H₀ L ss (tOp (rIxT K) ta tb) d:=fun F H σ Q S q =>
 a F H σ _ S fun x F1 H1 e1 r1=>b F1 H1 σ _ (S.ext2 e1) fun y F2 H2 e2 r2=>by
  obtain ⟨p,vs,rfl,sq,rs⟩:=r1.of_tup
  obtain ⟨v,hv,rv⟩:=rs.atI hc
  exact ⟨p,vs,i,v,rfl,r2.of_int,SqT.same (e1.fh.trans e2.hh) sq,hv,q _ _ _ (e1.trans e2) (rv.mono e2.gf)⟩
theorem zw6 : EvA K G H₀ L ss tNil []:=fun F H σ Q S q=>q _ _ _ (Ext.refl S.ext.fh) Reps.nil
theorem zvd {t : TA} (a : EvB K G H₀ L ss ta d) (b : EvA K G H₀ L ss t ds) : EvA K G H₀ L ss (zbh ta t) (d::ds):=fun F H σ Q S q =>
 a F H σ _ S fun x F1 H1 e1 r1=>b F1 H1 σ _ (S.ext2 e1) fun vs F2 H2 e2 r2=>q _ _ _ (e1.trans e2) (Reps.cons (r1.mono e2.hh) r2)
theorem zai : EvAF K G H₀ L ss tNil []:=fun F H σ Q S q=>q _ _ _ (Ext.refl S.ext.fh) Reps.nil
theorem zab {t : TA} (a : Ev K G H₀ L ss ta d) (b : EvAF K G H₀ L ss t ds) : EvAF K G H₀ L ss (zbh ta t) (d::ds):=fun F H σ Q S q =>
 a F H σ _ S fun x F1 H1 e1 r1=>b F1 H1 σ _ (S.ext2 e1) fun vs F2 H2 e2 r2=>q _ _ _ (e1.trans e2) (Reps.cons (r1.mono e2.gf) r2)
theorem zg7 {t : TA} (a : EvAF K G H₀ L ss t ds) (hz : ds.length <= sizeLine) : Ev K G H₀ L ss (tTup t) (.tup ds):=fun F H σ Q S q =>
 a F H σ _ S fun vs F1 H1 e1 r1=>⟨by rw [<- r1.length]; exact hz,fun p hp=>q _ _ _ (e1.newF hp) (Rep.tup (SqT.of zae) (r1.mono (Same.upd (e1.fh.free hp))))⟩
theorem zdi {t : TA} (a : EvAF K G H₀ L ss t ds) (hz : ds.length <= sizeLine) : EvO K G H₀ L ss (tLst t) ds:=fun F H σ Q S q =>
 a F H σ _ S fun vs F1 H1 e1 r1=>⟨by rw [<- r1.length]; exact hz,fun p hp=>q p vs F1 _ (e1.newO hp) (e1.hh.free hp) (e1.fh.free hp) zae r1⟩
theorem zat {b : Bool} (a : Ev K G H₀ L ss t (.bl b)) : EvT K G H₀ L ss (zv5 t) b:=fun F H σ Q S q=>a F H σ _ S fun v F' H' e r=>⟨b,r.of_bl,q _ _ e⟩
theorem zh7 {b : Bool} (a : Ev K G H₀ L ss t (.bl b)) : EvT K G H₀ L ss (tB t) b:=fun F H σ Q S q=>a F H σ _ S fun v F' H' e r=>⟨b,r.of_bl,q _ _ e⟩
theorem zhq {u : TT} {b : Bool} (a : EvT K G H₀ L ss u b) : EvT K G H₀ L ss (tNot u) (!b):=fun F H σ Q S q=>a F H σ _ S fun F' H' e=>q _ _ e
theorem zmi {u v : TT} {b c : Bool} (a : EvT K G H₀ L ss u b) (h : b = true->EvT K G H₀ L ss v c) : EvT K G H₀ L ss (tAnd u v) (b && c):=fun F H σ Q S q=>a F H σ _ S fun F' H' e=>by
 cases b with
 | false=>exact iteF (q _ _ e)
 | true=>exact iteT (h rfl _ _ _ _ (S.ext2 e) fun F'' H'' e'=>q _ _ (e.trans e'))
theorem zlq {u v : TT} {b c : Bool} (a : EvT K G H₀ L ss u b) (h : b = false->EvT K G H₀ L ss v c) : EvT K G H₀ L ss (tOr u v) (b || c):=fun F H σ Q S q=>a F H σ _ S fun F' H' e=>by
 cases b with
 | true=>exact iteT (q _ _ e)
 | false=>exact iteF (h rfl _ _ _ _ (S.ext2 e) fun F'' H'' e'=>q _ _ (e.trans e'))
theorem zwm {b c : Bool} (a : Ev K G H₀ L ss ta (.bl b)) (h : b = true->Ev K G H₀ L ss tb (.bl c)) : Ev K G H₀ L ss (zz9 ta tb) (.bl (b && c)):=fun F H σ Q S q=>a F H σ _ S fun v F' H' e r=>by
 refine ⟨b,r.of_bl,?_⟩
 cases b with
 | false=>exact iteF (q _ _ _ e Rep.bl)
 | true=>exact iteT (h rfl _ _ _ _ (S.ext2 e) fun v F'' H'' e' r'=>q _ _ _ (e.trans e') r')
theorem ybh {b c : Bool} (a : Ev K G H₀ L ss ta (.bl b)) (h : b = false->Ev K G H₀ L ss tb (.bl c)) : Ev K G H₀ L ss (tOrV ta tb) (.bl (b || c)):=fun F H σ Q S q=>a F H σ _ S fun v F' H' e r=>by
 refine ⟨b,r.of_bl,?_⟩
 cases b with
 | true=>exact iteT (q _ _ _ e Rep.bl)
 | false=>exact iteF (h rfl _ _ _ _ (S.ext2 e) fun v F'' H'' e' r'=>q _ _ _ (e.trans e') r')
end
end L2
namespace L2
open PySem PySem.Spec PyProof.Rows
noncomputable def SpD (K : PySem.W.Frag) (pre : List D->Prop) (res : List D->D) : Sp:=fun vs H Q _=>∃ G ds,Same G H/\Reps K G ds vs/\pre ds /\ ∀ v G' H',Ext G H G' H'->Rep K G' (res ds) v->Q v H'
noncomputable def SpO (K : PySem.W.Frag) (pre : List D->Prop) (res : List D->List D) : Sp:=fun vs H Q _=>∃ G ds,Same G H/\Reps K G ds vs/\pre ds /\ ∀ p ws G' H',Ext G H G' H'->H p = none->G' p = none->H' p = some (.lst ws)->Reps K G' (res ds) ws->Q (.ref p) H'
noncomputable def D.flat : D->Bool
 | .lst _=>false | .tup _=>false | .dct _ _=>false | .dctT _ _=>false | .ins _ _ _=>false | _=>true
theorem Rep.flat {K : PySem.W.Frag} {H H' : Hp} {d : D} {v : V} (f : d.flat = true) (r : Rep K H d v) : Rep K H' d v:=by
 cases d with
 | lst _=>cases f
 | tup _=>cases f
 | dct _ _=>cases f
 | dctT _ _=>cases f
 | ins _ _ _=>cases f
 | non=>rw [r.of_non]; exact Rep.non
 | bl b=>rw [r.of_bl]; exact Rep.bl
 | int i=>rw [r.of_int]; exact Rep.int
 | str l=>rw [r.of_str]; exact Rep.str r.asc
section
variable {K : PySem.W.Frag} {G H₀ L : Hp} {ss : List Sl} {t : TA} {ds : List D} {pre : List D->Prop} {E : XK}
theorem zcl {res : List D->D} (a : EvAF K G H₀ L ss t ds) (hp : pre ds) : Ev K G H₀ L ss (zhg (SpD K pre res) [] E t) (res ds):=fun F H σ Q S q =>
 a F H σ _ S fun vs F1 H1 e1 r1=>⟨F1,ds,e1.fh,by rw [List.append_nil]; exact r1,hp,fun v G' H' e2 r=>q _ _ _ (e1.trans e2) r⟩
theorem zj2 {res : List D->List D} (a : EvAF K G H₀ L ss t ds) (hp : pre ds) : EvO K G H₀ L ss (zhg (SpO K pre res) [] E t) (res ds):=fun F H σ Q S q =>
 a F H σ _ S fun vs F1 H1 e1 r1=>⟨F1,ds,e1.fh,by rw [List.append_nil]; exact r1,hp,fun p ws G' H' e2 h1 h2 h3 r=>q _ _ _ _ (e1.trans e2) (e1.hh.free h1) h2 h3 r⟩
end
section
variable (K : PySem.W.Frag) (G H₀ L : Hp)
noncomputable def Nx (P : St->Hp->Prop) (ss : List Sl) : Prop:=∀ F H σ,Sat K G H₀ L F H σ ss->P σ H
noncomputable def Go (E : Ends) (ss : List Sl) (t : TS) : Prop:=∀ F H σ,Sat K G H₀ L F H σ ss->t E σ H
noncomputable def Tg (g : TG) (d : D) (ss ss' : List Sl) : Prop:=∀ F H σ v (Q : St->Hp->Prop),Sat K G H₀ L F H σ ss->Rep K F d v->(∀ σ' , Sat K G H₀ L F H σ' ss'->Q σ' H)->g v σ H Q
noncomputable def Tgs (g : TGs) (ds : List D) (ss ss' : List Sl) : Prop:=∀ F H σ vs (Q : St->Hp->Prop),Sat K G H₀ L F H σ ss->Reps K F ds vs->(∀ σ' , Sat K G H₀ L F H σ' ss'->Q σ' H)->g vs σ H Q
noncomputable def At (I : List Sl->Prop) : St->Hp->Prop:=fun σ H=>∃ ss F,Sat K G H₀ L F H σ ss/\I ss
end
noncomputable def RtD (K : PySem.W.Frag) (G H₀ : Hp) (rt : VK) (d : D) : Prop:=∀ v F H,Ext G H₀ F H->Rep K F d v->rt v H
noncomputable def RtO (K : PySem.W.Frag) (G H₀ : Hp) (rt : VK) (ds : List D) : Prop:=∀ p vs F H,Ext G H₀ F H->H₀ p = none->F p = none->H p = some (.lst vs)->Reps K F ds vs->rt (.ref p) H
section
variable {K : PySem.W.Frag} {G H₀ L : Hp} {ss ss' : List Sl} {E : Ends} {t u : TS} {te : TE} {d : D} {ds : List D} {P : St->Hp->Prop}
theorem zah (h : Go K G H₀ L { E with nx:=u E } ss t) : Go K G H₀ L E ss (tSeq t u):=h
theorem zcb {i : Nat} (a : Ev K G H₀ L ss te d) (h : Nx K G H₀ L E.nx (ss.set i (.d d))) : Go K G H₀ L E ss (tAsg te (zfj i)):=fun F H σ S=>a F H σ _ S fun v F' H' e r=>h F' H' _ ((S.ext2 e).setD r)
theorem Sat.notin {F H : Hp} {σ : St} {p : Addr} (S : Sat K G H₀ L F H σ ss) (hp : H p = none) (j : Nat) (s : Sl) (h : ss[j]? = some s) : p ∉ s.ads:=fun z=>(S.ok j s h).live z hp
theorem Sat.newO {F H F' H' : Hp} {σ : St} {p : Addr} {vs : List V} {i : Nat} (S : Sat K G H₀ L F H σ ss) (e : Ext F H F' H') (hp : H p = none) (fp : F' p = none) (hp' : H' p = some (.lst vs)) (r : Reps K F' ds vs) : Sat K G H₀ L F' H' (σ.set i (some (.ref p))) (ss.set i (.o p ds)) :=
 (S.ext2 e).setO ⟨S.ext.hh.free hp,fp,vs,hp',r⟩ fun j s _ h=>S.notin hp j s h
theorem zcf {i : Nat} (a : EvO K G H₀ L ss te ds) (h : ∀ p,Nx K G H₀ L E.nx (ss.set i (.o p ds))) : Go K G H₀ L E ss (tAsg te (zfj i)):=fun F H σ S=>a F H σ _ S fun p vs F' H' e hp fp hp' r=>h p F' H' _ (S.newO e hp fp hp' r)
theorem zdj {c : TT} {b : Bool} (a : EvT K G H₀ L ss c b) (h1 : b = true->Go K G H₀ L E ss t) (h2 : b = false->Go K G H₀ L E ss u) : Go K G H₀ L E ss (tIfS c t u):=fun F H σ S=>a F H σ _ S fun F' H' e=>by
 cases b with
 | true=>exact iteT (h1 rfl F' H' σ (S.ext2 e))
 | false=>exact iteF (h2 rfl F' H' σ (S.ext2 e))
theorem zbl (h : Nx K G H₀ L E.nx ss) : Go K G H₀ L E ss yao:=h
theorem zck (a : Ev K G H₀ L ss te d) (h : RtD K G H₀ E.rt d) : Go K G H₀ L E ss (tRet te):=fun F H σ S=>a F H σ _ S fun v F' H' e r=>h v F' H' (S.ext.trans e) r
theorem ztg (a : EvO K G H₀ L ss te ds) (h : RtO K G H₀ E.rt ds) : Go K G H₀ L E ss (tRet te):=fun F H σ S=>a F H σ _ S fun p vs F' H' e hp fp hp' r=>h p vs F' H' (S.ext.trans e) (S.ext.hh.free hp) fp hp' r
theorem zx0 {i : Nat} {p : Addr} (hs : ss[i]? = some (.o p ds)) (h : RtO K G H₀ E.rt ds) : Go K G H₀ L E ss (tRet (tVar i)):=fun F H σ S=>by
 obtain ⟨e,h0,fp,vs,hp,r⟩:=S.getO hs
 exact ⟨.ref p,e,h p vs F H S.ext h0 fp hp r⟩
theorem zdp {i : Nat} {p : Addr} (hs : ss[i]? = some (.o p ds)) (h : Nx K G H₀ L P (ss.set i (.d (.lst ds)))) : Nx K G H₀ L P ss:=fun F H σ S=>by
 obtain ⟨F',S'⟩:=S.freeze hs
 exact h F' H σ S'
theorem zar (h : Go K G H₀ L E ss t) : Nx K G H₀ L (t E) ss:=h
theorem zyt {I : List Sl->Prop} (h : I ss) : Nx K G H₀ L (At K G H₀ L I) ss:=fun F H σ S=>⟨ss,F,S,h⟩
theorem zxi (I : List Sl->Prop) (h1 : ∀ N : St->Hp->Prop,(∀ ss,I ss->Nx K G H₀ L N ss)->Go K G H₀ L { E with nx:=N } ss t) (h2 : ∀ ss,I ss->Go K G H₀ L E ss u) : Go K G H₀ L E ss (tSeq t u):=h1 _ h2
theorem zas {i : Nat} : Tg K G H₀ L (zfj i) d ss (ss.set i (.d d)):=fun F H σ v Q S r q=>q _ (S.setD r)
theorem zfc : Tgs K G H₀ L gNil [] ss ss:=fun F H σ vs Q S r q=>by
 rw [Reps] at r
 exact ⟨r,q _ S⟩
theorem zbi {g : TG} {gs : TGs} {ss1 ss2 : List Sl} (a : Tg K G H₀ L g d ss ss1) (b : Tgs K G H₀ L gs ds ss1 ss2) : Tgs K G H₀ L (zz0 g gs) (d::ds) ss ss2:=fun F H σ vs Q S r q=>by
 rw [Reps] at r
 obtain ⟨x,xs,rfl,r1,r2⟩:=r
 exact ⟨x,xs,rfl,a F H σ x _ S r1 fun σ' S'=>b F H σ' xs _ S' r2 q⟩
theorem zg6 {g : TGs} {n : Nat} (hn : ds.length = n) (a : Tgs K G H₀ L g ds ss ss') : Tg K G H₀ L (gTup K n g) (.tup ds) ss ss':=fun F H σ v Q S r q=>by
 obtain ⟨p,xs,rfl,sq,rs⟩:=r.of_tup
 exact ⟨p,xs,rfl,SqT.same S.ext.fh sq,by rw [<- rs.length]; exact hn,a F H σ xs _ S rs q⟩
theorem zef {i : Nat} {p : Addr} {t1 : TE} (hs : ss[i]? = some (.o p ds)) (a : Ev K G H₀ L ss t1 d) (hz : ds.length < sizeLine) (h : Nx K G H₀ L E.nx (ss.set i (.o p (ds++[d])))) :
  Go K G H₀ L E ss (zvb (tBM K "list" zl3 (tVar i) (zbh t1 tNil))):=fun F H σ S=>by
 obtain ⟨e,h0,fp,vs,hp,r⟩:=S.getO hs
 refine ⟨.ref p,e,.inl ⟨rfl,_,SqL.of hp⟩,a F H σ _ S fun v F' H' e' r'=>?_⟩
 have S':=S.ext2 e'
 obtain ⟨e2,h02,fp2,vs',hp2,r2⟩:=S'.getO hs
 exact ⟨p,vs',v,rfl,rfl,hp2,by rw [<- r2.length]; exact hz,h F' _ σ (S'.write hs (r2.snoc r'))⟩
theorem Rep.itl {F H : Hp} {p : Addr} (h : Same F H) (r : Rep K F (.lst ds) (.ref p)) : ∃ vs,SqL K H p vs/\Reps K F ds vs:=by
 obtain ⟨q,xs,e,sq,rs⟩:=r.of_lst
 cases e
 exact ⟨xs,SqL.same h sq,rs⟩
theorem zdg {tl : TE} {g : TG} {tb : TS} {α : Type} (enc : α->D) (xs : List α) (I : Nat->List Sl->Prop) (a : Ev K G H₀ L ss tl (.lst (xs.map enc))) (h0 : I 0 ss)
  (hs : ∀ L' k x ss,Same L L'->xs[k]? = some x->I k ss -> ∃ ss',Tg K G H₀ L' g (enc x) ss ss' /\ ∀ N,(∀ ss,I (k + 1) ss->Nx K G H₀ L' N ss)->Go K G H₀ L' { E with nx:=N,ct:=N,bk:=E.nx } ss' tb)
  (hd : ∀ ss,I xs.length ss->Nx K G H₀ L E.nx ss) : Go K G H₀ L E ss (tFor (zqd K tl) g tb):=fun F H σ S =>
 a F H σ _ S fun v F1 H1 e1 r1=>by
  obtain ⟨p,vs,rfl,sq,rs⟩:=r1.of_lst
  refine ⟨p,rfl,⟨vs,SqL.same e1.fh sq⟩,?_⟩
  refine ⟨fun i m σ' H'=>m = xs.length - i/\i <= xs.length/\At K G H₀ F1 (I i) σ' H',⟨_,rfl,Nat.zero_le _,ss,F1,(S.ext2 e1).raise,h0⟩,?_⟩
  rintro i m σ' H' ⟨rfl,hi,ss1,F2,S2,h2⟩
  have rp : Rep K F2 (.lst (xs.map enc)) (.ref p):=r1.mono S2.fl
  obtain ⟨ws,sq2,rs2⟩:=rp.itl S2.ext.fh
  have hlen : ws.length = xs.length:=by rw [<- rs2.length,List.length_map]
  by_cases hlt : i < xs.length
  ·refine .inr ⟨⟨ws,ws[i]'(by lia),sq2,List.getElem?_eq_getElem _⟩,fun σ'' H''=>At K G H₀ F1 (I (i + 1)) σ'' H'',fun σ'' H'' h=>⟨xs.length - (i + 1),by lia,rfl,hlt,h⟩,fun x H'' y=>?_⟩
   obtain ⟨rfl,y⟩:=y
   have hx:=y ws sq2
   obtain ⟨dx,hdx,rx⟩:=rs2.get hx
   rw [List.getElem?_map,List.getElem?_eq_getElem hlt] at hdx
   cases hdx
   obtain ⟨ss',tg,go⟩:=hs F1 i _ ss1 (S.fl.trans e1.gf) (List.getElem?_eq_getElem hlt) h2
   exact tg F2 _ σ' x _ S2 rx fun σ3 S3=>go _ (fun ss h=>zyt h) F2 _ σ3 S3
  ·have e : i = xs.length:=by lia
   subst e
   exact .inl ⟨⟨ws,sq2,by lia⟩,hd ss1 h2 F2 H' σ' (S2.lower (S.fl.trans e1.gf))⟩
theorem zvw {ta : TA} {j : Nat} {tb : TS} {n : Int} (I : Nat->List Sl->Prop) (a : EvA K G H₀ L ss ta [.int n]) (hb : -(2 ^ 62) <= n/\n < 2 ^ 62) (h0 : I 0 ss)
  (hs : ∀ (k : Nat) ss,(k : Int) < n->I k ss -> ∀ N,(∀ ss,I (k + 1) ss->Nx K G H₀ L N ss)->Go K G H₀ L { E with nx:=N,ct:=N,bk:=E.nx } (ss.set j (.d (.int (k : Int)))) tb)
  (hd : ∀ ss,I n.toNat ss->Nx K G H₀ L E.nx ss) {ti : TI} (hti : ∀ σ H R,(ta σ H fun vs H1=>∃ m : Int,vs = [.int m] /\ -(2 ^ 62) <= m/\m < 2 ^ 62/\R (Itr 0 m.toNat) H1)->ti σ H R) : Go K G H₀ L E ss (tFor ti (zfj j) tb):=fun F H σ S=>by
 refine hti σ H _ (a F H σ _ S fun vs F1 H1 e1 r1=>?_)
 rw [Reps] at r1
 obtain ⟨x,r,rfl,rx,r1⟩:=r1
 rw [Reps] at r1
 subst r1
 rw [rx.of_int]
 refine ⟨n,rfl,hb.1,hb.2,fun i m σ' H'=>m = n.toNat - i/\i <= n.toNat/\At K G H₀ L (I i) σ' H',⟨_,rfl,Nat.zero_le _,ss,F1,S.ext2 e1,h0⟩,?_⟩
 rintro i m σ' H' ⟨rfl,hi,ss1,F2,S2,h2⟩
 by_cases hlt : i < n.toNat
 ·refine .inr ⟨hlt,fun σ'' H''=>At K G H₀ L (I (i + 1)) σ'' H'',fun σ'' H'' h=>⟨n.toNat - (i + 1),by lia,rfl,hlt,h⟩,fun x H'' y=>?_⟩
  obtain ⟨rfl,rfl⟩:=y
  refine hs i ss1 (by omega) h2 _ (fun ss h=>zyt h) F2 _ _ ?_
  have e : (0 : Int) + (i : Int) = (i : Int):=by lia
  rw [e]
  exact S2.setD Rep.int
 ·have e : i = n.toNat:=by lia
  subst e
  exact .inl ⟨Nat.le_refl _,hd ss1 h2 F2 H' σ' S2⟩
end
end L2
namespace L2
open PySem PySem.Spec PyProof.Rows
mutual
noncomputable def D.toP : D->PyData
 | .non=>.none
 | .bl b=>.bool b
 | .int i=>.int i
 | .str l=>.str (T l)
 | .lst a=>.list (D.toPs a)
 | .tup a=>.tuple (D.toPs a)
 | .dct _ _=>.none
 | .dctT _ _=>.none
 | .ins _ _ _=>.none
noncomputable def D.toPs : List D->List PyData
 | []=>[]
 | a::x=>a.toP::D.toPs x
end
mutual
theorem D.toP_depth : ∀ d : D,d.toP.depth = d.dep
 | .non=>rfl
 | .bl _=>rfl
 | .int _=>rfl
 | .str _=>rfl
 | .lst a=>by simp [D.toP,PyData.depth,D.dep,D.toPs_depth a]
 | .tup a=>by simp [D.toP,PyData.depth,D.dep,D.toPs_depth a]
 | .dct _ _=>rfl
 | .dctT _ _=>rfl
 | .ins _ _ _=>rfl
theorem D.toPs_depth : ∀ a : List D,PyData.depthAll (D.toPs a) = D.deps a
 | []=>rfl
 | d::a=>by simp [D.toPs,PyData.depthAll,D.deps,D.toP_depth d,D.toPs_depth a]
end
mutual
theorem D.eqv : ∀ d e : D,d.nb = true->e.nb = true->PyData.eqv d.toP e.toP = decide (d = e)
 | .non,e,_,h2=>by cases e <;> simp [D.toP,PyData.eqv,D.nb] at h2 ⊢
 | .bl _,_,h1,_=>by simp [D.nb] at h1
 | .dct _ _,_,h1,_=>by simp [D.nb] at h1
 | .dctT _ _,_,h1,_=>by simp [D.nb] at h1
 | .ins _ _ _,_,h1,_=>by simp [D.nb] at h1
 | .int i,e,_,h2=>by
  cases e <;> simp [D.toP,PyData.eqv,D.nb] at h2 ⊢
  exact Bool.beq_eq_decide_eq _ _
 | .str l,e,_,h2=>by
  cases e <;> simp [D.toP,PyData.eqv,D.nb] at h2 ⊢
  rename_i m
  rw [Bool.eq_iff_iff]; simp [zrp]
 | .lst a,e,h1,h2=>by
  cases e with
  | lst b =>
   simp only [D.nb] at h1 h2
   simp only [D.toP,PyData.eqv,D.lst.injEq]
   exact D.eqvs a b h1 h2
  | _=>simp [D.toP,PyData.eqv,D.nb] at h2 ⊢
 | .tup a,e,h1,h2=>by
  cases e with
  | tup b =>
   simp only [D.nb] at h1 h2
   simp only [D.toP,PyData.eqv,D.tup.injEq]
   exact D.eqvs a b h1 h2
  | _=>simp [D.toP,PyData.eqv,D.nb] at h2 ⊢
theorem D.eqvs : ∀ a b : List D,D.nbs a = true->D.nbs b = true->PyData.eqvAll (D.toPs a) (D.toPs b) = decide (a = b)
 | [],b,_,_=>by cases b <;> simp [D.toPs,PyData.eqvAll]
 | d::a,b,h1,h2=>by
  cases b with
  | nil=>simp [D.toPs,PyData.eqvAll]
  | cons e b =>
   simp only [D.nbs,Bool.and_eq_true] at h1 h2
   simp only [D.toPs,PyData.eqvAll,D.eqv d e h1.1 h2.1,D.eqvs a b h1.2 h2.2,List.cons.injEq]
   by_cases x : d = e <;> by_cases y : a = b <;> simp [x,y]
end
section
variable {X : Cx} {pins : List (Addr × Obj)} {σ : St} {H : Hp} {s : Shared}
theorem zxa {l : List Nat} (h : ∀ c∈l,c < 128) : PyData.strOk (T l) = true:=by
 unfold PyData.strOk T
 simp
 intro c hc
 have:=h c hc
 lia
mutual
theorem Inv.reads (I : Inv X pins σ H s) : ∀ {d : D} {v : V} {u : Value},d.nb = true->Rep X.K H d v->RelV v u->(∃ as,Reads s.heap u d.toP as)/\d.toP.canLay0 = true
 | .non,_,_,_,r,q=>by rw [r.of_non] at q; cases q; exact ⟨⟨_,Reads.none⟩,rfl⟩
 | .bl b,_,_,n,_,_=>by simp [D.nb] at n
 | .dct _ _,_,_,n,_,_=>by simp [D.nb] at n
 | .dctT _ _,_,_,n,_,_=>by simp [D.nb] at n
 | .ins _ _ _,_,_,n,_,_=>by simp [D.nb] at n
 | .int i,_,_,_,r,q=>by rw [r.of_int] at q; obtain ⟨t,rfl⟩:=q; exact ⟨⟨_,Reads.int i t⟩,rfl⟩
 | .str l,_,_,_,r,q=>by
  have ha:=r.asc
  rw [r.of_str] at q; obtain ⟨t,rfl⟩:=q
  exact ⟨⟨_,Reads.str _ t⟩,zxa ha⟩
 | .lst ds,_,_,nn,r,q=>by
  obtain ⟨p,xs,rfl,sq,rs⟩:=r.of_lst
  cases q
  obtain ⟨its,rv,⟨o,n,e,c,_,hd⟩,_⟩:=I.list sq
  obtain ⟨⟨as,ra⟩,hc⟩:=I.readsAll (by simpa [D.nb] using nn) rs rv
  exact ⟨⟨_,Reads.list e c hd (by simpa using ra)⟩,by simpa [D.toP,PyData.canLay0] using hc⟩
 | .tup ds,_,_,nn,r,q=>by
  obtain ⟨p,xs,rfl,sq,rs⟩:=r.of_tup
  cases q
  obtain ⟨its,rv,⟨o,e,c,n,hd⟩,_⟩:=I.tuple sq
  obtain ⟨⟨as,ra⟩,hc⟩:=I.readsAll (by simpa [D.nb] using nn) rs rv
  exact ⟨⟨_,Reads.tuple e c hd (by simpa using ra)⟩,by simpa [D.toP,PyData.canLay0] using hc⟩
theorem Inv.readsAll (I : Inv X pins σ H s) : ∀ {ds : List D} {vs : List V} {us : List Value},D.nbs ds = true->Reps X.K H ds vs->Vals vs us->(∃ as,ReadsAll s.heap us (D.toPs ds) as)/\PyData.canLayAll0 (D.toPs ds) = true
 | [],_,_,_,r,q=>by
  rw [Reps] at r; subst r
  cases q
  exact ⟨⟨_,ReadsAll.nil⟩,rfl⟩
 | d::ds,_,_,n,r,q=>by
  simp only [D.nbs,Bool.and_eq_true] at n
  rw [Reps] at r
  obtain ⟨x,xs,rfl,r1,r2⟩:=r
  cases q with
  | cons q1 q2 =>
   obtain ⟨⟨as,a⟩,hc⟩:=I.reads n.1 r1 q1
   obtain ⟨⟨bs,b⟩,hc2⟩:=I.readsAll n.2 r2 q2
   exact ⟨⟨_,ReadsAll.cons a b⟩,by simp [D.toPs,PyData.canLayAll0,hc,hc2]⟩
end
end
noncomputable def rEqD (K : PySem.W.Frag) : R2:=fun x y H Q=>∃ d e,Rep K H d x/\Rep K H e y/\d.nb = true/\e.nb = true/\d.dep <= 60/\Q (.bl (decide (d = e))) H
noncomputable def rNeD (K : PySem.W.Frag) : R2:=fun x y H Q=>∃ d e,Rep K H d x/\Rep K H e y/\d.nb = true/\e.nb = true/\d.dep <= 60/\Q (.bl (!decide (d = e))) H
section
variable {X : Cx}
theorem zql (hu : X.A.units + 64 < cLine) : OpR X (compareOp .Eq) (rEqD X.K):=by
 intro pins s σ H x y v u Q I rx ry h
 obtain ⟨d,e,r1,r2,n1,n2,hd,q⟩:=h
 obtain ⟨⟨as,a⟩,c1⟩:=I.reads n1 r1 rx
 obtain ⟨⟨bs,b⟩,c2⟩:=I.reads n2 r2 ry
 have h1:=D.toP_depth d
 refine SeqAt.compareEq_reads a b c1 c2 (by lia) ?_
 rw [D.eqv d e n1 n2]
 exact ⟨.bl _,H,I,rfl,q⟩
theorem zzl (hu : X.A.units + 64 < cLine) : OpR X (compareOp .NotEq) (rNeD X.K):=by
 intro pins s σ H x y v u Q I rx ry h
 obtain ⟨d,e,r1,r2,n1,n2,hd,q⟩:=h
 obtain ⟨⟨as,a⟩,c1⟩:=I.reads n1 r1 rx
 obtain ⟨⟨bs,b⟩,c2⟩:=I.reads n2 r2 ry
 have h1:=D.toP_depth d
 refine SeqAt.compareNe_reads a b c1 c2 (by lia) ?_
 rw [D.eqv d e n1 n2]
 exact ⟨.bl _,H,I,rfl,q⟩
theorem zjd (d : D) (hd : d.nb = true) : ∀ ds : List D,D.nbs ds = true->((D.toPs ds).any fun y=>PyData.eqv y d.toP) = decide (d∈ds)
 | [],_=>by simp [D.toPs]
 | e::ds,h=>by
  simp only [D.nbs,Bool.and_eq_true] at h
  rw [D.toPs,List.any_cons,zjd d hd ds h.2,D.eqv e d h.1 hd]
  by_cases x : e = d
  ·subst x; simp
  ·have : ¬ d = e:=fun z=>x z.symm
   simp [x,this]
noncomputable def rInD (K : PySem.W.Frag) (neg : Bool) : R2:=fun x y H Q=>∃ d ds,Rep K H d x/\(Rep K H (.lst ds) y \/ Rep K H (.tup ds) y)/\d.nb = true/\D.nbs ds = true/\d.dep <= 60/\Q (.bl (if neg then !decide (d∈ds) else decide (d∈ds))) H
theorem zob (hu : X.A.units + 64 < cLine) : OpR X (compareOp .In) (rInD X.K false):=by
 intro pins s σ H x y v u Q I rx ry h
 obtain ⟨d,ds,r1,r2,n1,n2,hd,q⟩:=h
 obtain ⟨⟨as,a⟩,c1⟩:=I.reads n1 r1 rx
 have h1:=D.toP_depth d
 have fin : EP X pins σ Q (.bool ((D.toPs ds).any fun y=>PyData.eqv y d.toP)) s:=by rw [zjd d n1 ds n2]; exact ⟨.bl _,H,I,rfl,q⟩
 rcases r2 with r2 | r2
 ·obtain ⟨⟨bs,b⟩,c2⟩:=I.reads (by simpa [D.nb] using n2) r2 ry
  rw [D.toP] at b c2
  exact SeqAt.in_list_reads b a (by simpa [PyData.canLay0] using c2) c1 (by lia) fin
 ·obtain ⟨⟨bs,b⟩,c2⟩:=I.reads (by simpa [D.nb] using n2) r2 ry
  rw [D.toP] at b c2
  exact SeqAt.in_tuple_reads b a (by simpa [PyData.canLay0] using c2) c1 (by lia) fin
theorem zfh (hu : X.A.units + 64 < cLine) : OpR X (compareOp .NotIn) (rInD X.K true):=by
 intro pins s σ H x y v u Q I rx ry h
 obtain ⟨d,ds,r1,r2,n1,n2,hd,q⟩:=h
 obtain ⟨⟨as,a⟩,c1⟩:=I.reads n1 r1 rx
 have h1:=D.toP_depth d
 have fin : EP X pins σ Q (.bool (!(D.toPs ds).any fun y=>PyData.eqv y d.toP)) s:=by rw [zjd d n1 ds n2]; exact ⟨.bl _,H,I,rfl,q⟩
 rcases r2 with r2 | r2
 ·obtain ⟨⟨bs,b⟩,c2⟩:=I.reads (by simpa [D.nb] using n2) r2 ry
  rw [D.toP] at b c2
  exact SeqAt.notIn_list_reads b a (by simpa [PyData.canLay0] using c2) c1 (by lia) fin
 ·obtain ⟨⟨bs,b⟩,c2⟩:=I.reads (by simpa [D.nb] using n2) r2 ry
  rw [D.toP] at b c2
  exact SeqAt.notIn_tuple_reads b a (by simpa [PyData.canLay0] using c2) c1 (by lia) fin
end
section
variable {K : PySem.W.Frag} {G H₀ L : Hp} {ss : List Sl} {t ta tb : TE} {d d1 d2 : D} {ds es : List D}
theorem znj (a : EvB K G H₀ L ss ta d1) (b : EvB K G H₀ L ss tb d2) (n1 : d1.nb = true) (n2 : d2.nb = true) (hd : d1.dep <= 60) : Ev K G H₀ L ss (tOp (rEqD K) ta tb) (.bl (decide (d1 = d2))) :=
 zdc (w:=.bl (decide (d1 = d2))) a b (fun H x y Q r1 r2 q=>⟨d1,d2,r1,r2,n1,n2,hd,q⟩) fun _ _ _ _ _ _=>Rep.bl
theorem zz8 (a : EvB K G H₀ L ss ta d1) (b : EvB K G H₀ L ss tb d2) (n1 : d1.nb = true) (n2 : d2.nb = true) (hd : d1.dep <= 60) : Ev K G H₀ L ss (tOp (rNeD K) ta tb) (.bl (!decide (d1 = d2))) :=
 zdc (w:=.bl (!decide (d1 = d2))) a b (fun H x y Q r1 r2 q=>⟨d1,d2,r1,r2,n1,n2,hd,q⟩) fun _ _ _ _ _ _=>Rep.bl
theorem zwp (a : EvB K G H₀ L ss ta d) (b : EvB K G H₀ L ss tb (.lst ds)) (n1 : d.nb = true) (n2 : D.nbs ds = true) (hd : d.dep <= 60) : Ev K G H₀ L ss (tOp (rInD K false) ta tb) (.bl (decide (d∈ds))) :=
 zdc (w:=.bl (decide (d∈ds))) a b (fun H x y Q r1 r2 q=>⟨d,ds,r1,.inl r2,n1,n2,hd,q⟩) fun _ _ _ _ _ _=>Rep.bl
theorem zv8 (a : EvB K G H₀ L ss ta d) (b : EvB K G H₀ L ss tb (.tup ds)) (n1 : d.nb = true) (n2 : D.nbs ds = true) (hd : d.dep <= 60) : Ev K G H₀ L ss (tOp (rInD K false) ta tb) (.bl (decide (d∈ds))) :=
 zdc (w:=.bl (decide (d∈ds))) a b (fun H x y Q r1 r2 q=>⟨d,ds,r1,.inr r2,n1,n2,hd,q⟩) fun _ _ _ _ _ _=>Rep.bl
theorem zfn (a : EvB K G H₀ L ss ta d) (b : EvB K G H₀ L ss tb (.lst ds)) (n1 : d.nb = true) (n2 : D.nbs ds = true) (hd : d.dep <= 60) : Ev K G H₀ L ss (tOp (rInD K true) ta tb) (.bl (!decide (d∈ds))) :=
 zdc (w:=.bl (!decide (d∈ds))) a b (fun H x y Q r1 r2 q=>⟨d,ds,r1,.inl r2,n1,n2,hd,q⟩) fun _ _ _ _ _ _=>Rep.bl
end
theorem D.nbs_map {α : Type} {enc : α->D} (h : ∀ x,(enc x).nb = true) : ∀ xs : List α,D.nbs (xs.map enc) = true
 | []=>rfl
 | x::xs=>by simp [D.nbs,h x,D.nbs_map h xs]
theorem D.deps_map {α : Type} {enc : α->D} {n : Nat} (h : ∀ x,(enc x).dep <= n) : ∀ xs : List α,D.deps (xs.map enc) <= n
 | []=>Nat.zero_le _
 | x::xs=>by
  have h1:=h x
  have h2:=D.deps_map h xs
  simp only [List.map_cons,D.deps]; lia
theorem D.nb_lst {ds : List D} : (D.lst ds).nb = D.nbs ds:=by rw [D.nb]
theorem D.dep_lst {ds : List D} : (D.lst ds).dep = D.deps ds + 1:=by rw [D.dep]
end L2
namespace L2
open PySem PySem.Spec PyProof.Rows
noncomputable def ItOk (K : PySem.W.Frag) (J : It) (F' H' : Hp) (n : Nat) (y : Nat->D) : Prop:=∀ F2 H2,Same F' F2->Same H' H2->Same F2 H2 ->
 (∀ i,i < n->J.go i H2 /\ ∀ x H3,J.yld i H2 x H3 -> ∃ F3,Ext F2 H2 F3 H3/\Rep K F3 (y i) x)/\J.stop n H2
noncomputable def EvI (K : PySem.W.Frag) (G H₀ L : Hp) (ss : List Sl) (wi : TI) (n : Nat) (y : Nat->D) : Prop:=∀ F H σ R,Sat K G H₀ L F H σ ss->(∀ F' H' J,Ext F H F' H'->ItOk K J F' H' n y->R J H')->wi σ H R
section
variable {K : PySem.W.Frag} {G H₀ L : Hp} {ss : List Sl}
theorem znp {tl : TE} {ds : List D} (a : EvL K G H₀ L ss tl ds) : EvI K G H₀ L ss (zqd K tl) ds.length fun i=>ds.getD i .non:=fun F H σ R S q =>
 a F H σ _ S fun p vs F' H' e sq r=>⟨p,rfl,⟨vs,sq⟩,q F' H' _ e fun F2 H2 f1 h1 fh=>by
  have sq2:=SqL.same h1 sq
  have hl:=r.length
  refine ⟨fun i hi=>⟨⟨vs,vs[i]'(by lia),sq2,List.getElem?_eq_getElem _⟩,fun x H3 y=>?_⟩,⟨vs,sq2,by lia⟩⟩
  obtain ⟨rfl,y⟩:=y
  obtain ⟨d,hd,rd⟩:=r.get (y vs sq2)
  refine ⟨F2,Ext.refl fh,?_⟩
  show Rep K F2 (ds.getD i D.non) x
  rw [List.getD_eq_getElem?_getD,hd]
  exact rd.mono f1⟩
noncomputable def lcSl (nt : Nat) (cs : List Nat) (ss : List Sl) : List Sl:=List.replicate nt .un++cs.map fun i=>ss.getD i .un
theorem Sat.lc {F H : Hp} {σ : St} {nt : Nat} {cs : List Nat} (S : Sat K G H₀ L F H σ ss) (hc : cs.Nodup) : Sat K G H₀ L F H (lcS nt cs σ) (lcSl nt cs ss):=by
 have cut : ∀ (i : Nat) s,(lcSl nt cs ss)[i]? = some s->s = .un \/ ∃ j,nt <= i/\cs[i - nt]? = some j/\ss[j]? = some s:=by
  intro i s h
  unfold lcSl at h
  by_cases hi : i < nt
  ·rw [List.getElem?_append_left (by simpa using hi),List.getElem?_replicate,if_pos hi] at h
   exact .inl (Option.some.inj h).symm
  ·rw [List.getElem?_append_right (by simpa using hi),List.length_replicate,List.getElem?_map] at h
   cases hj : cs[i - nt]? with
   | none=>rw [hj] at h; cases h
   | some j =>
    rw [hj] at h
    have h : ss.getD j .un = s:=Option.some.inj h
    rw [List.getD_eq_getElem?_getD] at h
    cases hs : ss[j]? with
    | none=>rw [hs] at h; exact .inl h.symm
    | some s'=>rw [hs] at h; exact .inr ⟨j,by lia,rfl,by rw [hs]; exact congrArg some h⟩
 have val : ∀ (i j : Nat),nt <= i->cs[i - nt]? = some j->(lcS nt cs σ).getD i none = σ.getD j none:=by
  intro i j hi hj
  unfold lcS
  rw [List.getD_eq_getElem?_getD,List.getElem?_append_right (by simpa using hi),List.length_replicate,List.getElem?_map,hj]
  simp [List.getD_eq_getElem?_getD]
 refine ⟨S.ext,S.fl,by unfold lcS lcSl; simp,fun i s h=>?_,fun i s h=>?_,fun i j s s' hij h h' p hp=>?_⟩
 ·rcases cut i s h with rfl | ⟨j,hi,hj,hs⟩
  ·trivial
  ·rw [val i j hi hj]; exact S.ok j s hs
 ·rcases cut i s h with rfl | ⟨j,hi,hj,hs⟩
  ·simp [Sl.ads]
  ·exact S.nd j s hs
 ·rcases cut i s h with rfl | ⟨k,hi,hk,hs⟩
  ·simp [Sl.ads] at hp
  ·rcases cut j s' h' with rfl | ⟨m,hj,hm,hs'⟩
   ·simp [Sl.ads]
   ·have : k≠m:=fun z=>by
     subst z
     obtain ⟨l1,e1⟩:=List.getElem?_eq_some_iff.mp hk
     obtain ⟨l2,e2⟩:=List.getElem?_eq_some_iff.mp hm
     have:=(List.getElem_inj hc).mp (e1.trans e2.symm)
     lia
    exact S.ne k m s s' this hs hs' p hp
noncomputable def GK (nt : Nat) (g : TG) : Prop:=∀ v σ H (Q Q' : St->Hp->Prop),(∀ σ' H',Q σ' H'->σ'.length = σ.length->σ'.drop nt = σ.drop nt->Q' σ' H')->g v σ H Q->g v σ H Q'
theorem zej {nt i : Nat} (h : i < nt) : GK nt (zfj i):=fun v σ H Q Q' f q=>f _ _ q (by simp) (by rw [List.drop_set_of_lt h])
theorem zsm {wi : TI} {g : TG} {tt : TT} {te : TE} {nt : Nat} {cs : List Nat} {n : Nat} {y : Nat->D} (p : Nat->Bool) (f : Nat->D) (a : EvI K G H₀ L ss wi n y) (hk : GK nt g) (hc : cs.Nodup) (hz : n < sizeLine)
  (hs : ∀ i,i < n -> ∃ ss',Tg K G H₀ L g (y i) (lcSl nt cs ss) ss'/\EvT K G H₀ L ss' tt (p i)/\(p i = true->Ev K G H₀ L ss' te (f i))) :
  EvO K G H₀ L ss (tLC nt cs wi g tt te) (((List.range n).filter p).map f):=fun F H σ Q S q =>
 a F H σ _ S fun F1 H1 J e1 it=>by
  intro l hl
  have S1:=S.ext2 e1
  refine ⟨fun i m H2=>m = n - i/\i <= n /\ ∃ F2 vs,Ext F1 H1 F2 H2/\F2 l = none/\H2 l = some (.lst vs)/\Reps K F2 (((List.range i).filter p).map f) vs/\vs.length <= i,
   ⟨n,by lia,Nat.zero_le _,F1,[],(Ext.refl e1.fh).newO hl,e1.fh.free hl,zae,Reps.nil,Nat.le_refl _⟩,?_⟩
  rintro i m H2 ⟨rfl,hi,F2,vs,e2,fl,hl2,rs,hvs⟩
  obtain ⟨it1,it2⟩:=it F2 H2 e2.gf e2.hh e2.fh
  by_cases hlt : i < n
  ·obtain ⟨go,yl⟩:=it1 i hlt
   refine .inr ⟨go,fun H'=>∃ F2 vs,Ext F1 H1 F2 H'/\F2 l = none/\H' l = some (.lst vs)/\Reps K F2 (((List.range (i + 1)).filter p).map f) vs/\vs.length <= i + 1,fun H' h=>⟨n - (i + 1),by omega,rfl,hlt,h⟩,fun x H3 yx=>?_⟩
   obtain ⟨F3,e3,rx⟩:=yl x H3 yx
   obtain ⟨ss',tg,evt,ev⟩:=hs i hlt
   have S3:=((S1.ext2 e2).ext2 e3).lc (nt:=nt) hc
   have hl3 : H3 l = some (.lst vs):=e3.hh l _ hl2
   have fl3 : F3 l = none:=(e3.no l _ hl2).trans fl
   have base:=tg F3 H3 (lcS nt cs σ) x (fun σ2 H4=>H4 = H3/\Sat K G H₀ L F3 H3 σ2 ss') S3 rx fun σ' S'=>⟨rfl,S'⟩
   have fin : ∀ σ2,Sat K G H₀ L F3 H3 σ2 ss'->tt σ2 H3 fun b H5=>if b = true then te σ2 H5 fun y H6=>∃ xs,H6 l = some (.lst xs)/\xs.length < sizeLine/\(∃ F2 vs,Ext F1 H1 F2 (upd H6 l (.lst (xs++[y])))/\F2 l = none/\(upd H6 l (.lst (xs++[y]))) l = some (.lst vs)/\Reps K F2 (((List.range (i + 1)).filter p).map f) vs/\vs.length <= i + 1) else ∃ F2 vs,Ext F1 H1 F2 H5/\F2 l = none/\H5 l = some (.lst vs)/\Reps K F2 (((List.range (i + 1)).filter p).map f) vs/\vs.length <= i + 1:=fun σ2 S2=>by
    refine evt F3 H3 σ2 _ S2 fun F5 H5 e5=>?_
    have S5:=S2.ext2 e5
    have hl5 : H5 l = some (.lst vs):=e5.hh l _ hl3
    have fl5 : F5 l = none:=(e5.no l _ hl3).trans fl3
    have gf : Same F2 F5:=e3.gf.trans e5.gf
    cases hp : p i with
    | false =>
     refine iteF ⟨F5,vs,(e2.trans e3).trans e5,fl5,hl5,?_,by lia⟩
     rw [List.range_succ,List.filter_append,List.filter_cons,hp]
     simpa using rs.mono gf
    | true =>
     refine iteT (ev hp F5 H5 σ2 _ S5 fun v F6 H6 e6 rv=>?_)
     have hl6 : H6 l = some (.lst vs):=e6.hh l _ hl5
     have fl6 : F6 l = none:=(e6.no l _ hl5).trans fl5
     refine ⟨vs,hl6,by lia,F6,vs++[v],(((e2.trans e3).trans e5).trans e6).write fl6 hl,fl6,zae,?_,by simp; omega⟩
     rw [List.range_succ,List.filter_append,List.filter_cons,hp,if_pos rfl,List.map_append]
     exact (rs.mono (gf.trans e6.gf)).snoc rv
   refine hk x (lcS nt cs σ) H3 _ _ (fun σ2 H4 h l1 d1=>?_) base
   obtain ⟨rfl,S2⟩:=h
   exact ⟨⟨by rw [l1]; unfold lcS; simp,d1⟩,fin σ2 S2⟩
  ·have e : i = n:=by lia
   subst e
   exact .inl ⟨it2,q l vs F2 H2 (e1.trans e2) (e1.hh.free hl) fl hl2 rs⟩
end
end L2
namespace L2
open PySem PySem.W PyProof.Rows
noncomputable def runT {α : Type} (lt : Nat->Nat->Bool) : KasT α->α
 | .ret a=>a
 | .ask i j k=>runT lt (k (lt i j))
theorem zdr {α β : Type} (lt : Nat->Nat->Bool) (f : α->KasT β) : ∀ t : KasT α,runT lt (t.bind f) = runT lt (f (runT lt t))
 | .ret _=>rfl
 | .ask i j k=>zdr lt f (k (lt i j))
section
variable (key : Nat->Int)
noncomputable def ltK (i j : Nat) : Bool:=decide (key i < key j)
noncomputable def kk (p : Array Nat) (i : Nat) : Int:=key (p.getD i 0)
noncomputable def Up (p : Array Nat) (n : Nat) : Prop:=∀ i j,i <= j->j < n->kk key p i <= kk key p j
noncomputable def Dn (p : Array Nat) (n : Nat) : Prop:=∀ i j,i <= j->j < n->kk key p j <= kk key p i
variable {key}
theorem yal (p : Array Nat) : Up key p 1:=fun i j h1 h2=>by
 have : i = j:=by lia
 subst this; exact Int.le_refl _
theorem Up.snoc {p : Array Nat} {n : Nat} (h : Up key p n) (h0 : 0 < n) (hn : kk key p (n - 1) <= kk key p n) : Up key p (n + 1):=fun i j h1 h2=>by
 by_cases hj : j < n
 ·exact h i j h1 hj
 ·have : j = n:=by lia
  subst this
  by_cases hi : i = j
  ·subst hi; exact Int.le_refl _
  ·exact Int.le_trans (h i (j - 1) (by lia) (by omega)) hn
theorem Dn.snoc {p : Array Nat} {n : Nat} (h : Dn key p n) (h0 : 0 < n) (hn : kk key p n <= kk key p (n - 1)) : Dn key p (n + 1):=fun i j h1 h2=>by
 by_cases hj : j < n
 ·exact h i j h1 hj
 ·have : j = n:=by lia
  subst this
  by_cases hi : i = j
  ·subst hi; exact Int.le_refl _
  ·exact Int.le_trans hn (h i (j - 1) (by lia) (by omega))
theorem zm2 (p : Array Nat) : ∀ (f n : Nat),0 < n->Up key p n->n <= runT (ltK key) (kas_asc p f n)/\runT (ltK key) (kas_asc p f n) <= n + f/\Up key p (runT (ltK key) (kas_asc p f n)) /\
  (runT (ltK key) (kas_asc p f n) < n + f->kk key p (runT (ltK key) (kas_asc p f n)) < kk key p (runT (ltK key) (kas_asc p f n) - 1))
 | 0,n,h0,h=>⟨Nat.le_refl _,Nat.le_refl _,h,fun z=>absurd z (Nat.lt_irrefl _)⟩
 | f + 1,n,h0,h=>by
  have e0 : runT (ltK key) (kas_asc p (f + 1) n) = if kk key p n < kk key p (n - 1) then n else runT (ltK key) (kas_asc p f (n + 1)):=by
   show runT (ltK key) (if ltK key (p.getD n 0) (p.getD (n - 1) 0) = true then KasT.ret n else kas_asc p f (n + 1)) = _
   by_cases hc : kk key p n < kk key p (n - 1)
   ·have e : ltK key (p.getD n 0) (p.getD (n - 1) 0) = true:=decide_eq_true hc
    rw [e,if_pos rfl,if_pos hc]; rfl
   ·have e : ltK key (p.getD n 0) (p.getD (n - 1) 0) = false:=decide_eq_false hc
    rw [e,if_neg Bool.false_ne_true,if_neg hc]
  rw [e0]
  by_cases hc : kk key p n < kk key p (n - 1)
  ·rw [if_pos hc]
   exact ⟨Nat.le_refl _,by lia,h,fun _=>hc⟩
  ·rw [if_neg hc]
   have:=zm2 p f (n + 1) (by lia) (h.snoc h0 (by lia))
   exact ⟨by lia,by lia,this.2.2.1,fun z=>this.2.2.2 (by omega)⟩
theorem znr {p : Array Nat} {i j : Nat} (hj : j <= p.size) (k : Nat) : (kas_rev p i j).getD k 0 = if i <= k/\k < j then p.getD (i + j - 1 - k) 0 else p.getD k 0:=by
 have h:=getElem?_mirror_all (xs:=p) (i:=i) hj k
 unfold kas_rev
 have e : ∀ (q : Array Nat) (m : Nat),q.getD m 0 = (q[m]?).getD 0:=fun q m=>by simp [Array.getD_eq_getD_getElem?]
 rw [e,e,e,h]
 split <;> rfl
theorem zd6 (p : Array Nat) (i j : Nat) : (kas_rev p i j).size = p.size:=mirror_size _ _ _ _
theorem zg1 (p : Array Nat) (i j : Nat) : (kas_rev p i j).Perm p:=mirror_perm _ _ _ _
theorem ze9 {p : Array Nat} {i j : Nat} (hj : j <= p.size) {c : Int} (hc : ∀ k,i <= k->k < j->kk key p k = c) (k : Nat) : kk key (kas_rev p i j) k = kk key p k:=by
 unfold kk
 rw [znr hj]
 split
 ·rename_i h
  have h1:=hc (i + j - 1 - k) (by omega) (by omega)
  have h2:=hc k h.1 h.2
  unfold kk at h1 h2
  rw [h1,h2]
 ·rfl
theorem zit {p : Array Nat} {n : Nat} (hn : n <= p.size) (k : Nat) (hk : k < n) : kk key (kas_rev p 0 n) k = kk key p (n - 1 - k):=by
 unfold kk
 rw [znr hn,if_pos ⟨Nat.zero_le _,hk⟩,show 0 + n - 1 - k = n - 1 - k by lia]
theorem Dn.rev {p : Array Nat} {n : Nat} (h : Dn key p n) (hn : n <= p.size) : Up key (kas_rev p 0 n) n:=fun i j h1 h2=>by
 rw [zit hn i (by lia),zit hn j h2]
 exact h _ _ (by omega) (by omega)
theorem zgs : ∀ (f : Nat) (p : Array Nat) (n q : Nat),0 < n->q < n->n + f <= p.size->Dn key p n->(∀ k,n - 1 - q <= k->k < n->kk key p k = kk key p (n - 1)) ->
  ∃ p' n' q',runT (ltK key) (kas_desc f p n q) = (p',n',q')/\p'.size = p.size/\p'.Perm p/\n <= n'/\n' <= n + f/\q' < n'/\Dn key p' n'/\(∀ k,n' - 1 - q' <= k->k < n'->kk key p' k = kk key p' (n' - 1))
 | 0,p,n,q,h0,hq,hs,hd,he=>⟨p,n,q,rfl,rfl,Array.Perm.refl _,Nat.le_refl _,Nat.le_refl _,hq,hd,he⟩
 | f + 1,p,n,q,h0,hq,hs,hd,he=>by
  unfold kas_desc
  simp only [runT]
  by_cases hc : kk key p n < kk key p (n - 1)
  ·have e : ltK key (p.getD n 0) (p.getD (n - 1) 0) = true:=decide_eq_true hc
   rw [e,if_pos rfl]
   by_cases hq0 : q > 0
   ·rw [if_pos hq0]
    have ks:=ze9 (key:=key) (p:=p) (i:=n - (q + 1)) (j:=n) (by lia) (c:=kk key p (n - 1)) (fun k h1 h2=>he k (by lia) h2)
    have hd' : Dn key (kas_rev p (n - (q + 1)) n) (n + 1):=by
     intro i j h1 h2
     rw [ks,ks]
     exact (hd.snoc h0 (Int.le_of_lt hc)) i j h1 h2
    obtain ⟨p',n',q',e1,e2,e3,e4,e5,e6,e7,e8⟩:=zgs f (kas_rev p (n - (q + 1)) n) (n + 1) 0 (by lia) (by lia) (by rw [zd6]; lia) hd' (fun k h1 h2=>by
     have : k = n + 1 - 1:=by lia
     rw [this])
    exact ⟨p',n',q',e1,by rw [e2,zd6],e3.trans (zg1 _ _ _),by lia,by lia,e6,e7,e8⟩
   ·rw [if_neg hq0]
    obtain ⟨p',n',q',e1,e2,e3,e4,e5,e6,e7,e8⟩:=zgs f p (n + 1) 0 (by lia) (by lia) (by lia) (hd.snoc h0 (Int.le_of_lt hc)) (fun k h1 h2=>by
     have : k = n + 1 - 1:=by lia
     rw [this])
    exact ⟨p',n',q',e1,e2,e3,by lia,by lia,e6,e7,e8⟩
  ·have e : ltK key (p.getD n 0) (p.getD (n - 1) 0) = false:=decide_eq_false hc
   rw [e,if_neg Bool.false_ne_true]
   simp only [runT]
   by_cases hd2 : kk key p (n - 1) < kk key p n
   ·have e2 : ltK key (p.getD (n - 1) 0) (p.getD n 0) = true:=decide_eq_true hd2
    rw [e2,if_pos rfl]
    exact ⟨p,n,q,rfl,rfl,Array.Perm.refl _,Nat.le_refl _,by lia,hq,hd,he⟩
   ·have e2 : ltK key (p.getD (n - 1) 0) (p.getD n 0) = false:=decide_eq_false hd2
    rw [e2,if_neg Bool.false_ne_true]
    have heq : kk key p n = kk key p (n - 1):=by lia
    obtain ⟨p',n',q',e1,e2,e3,e4,e5,e6,e7,e8⟩:=zgs f p (n + 1) (q + 1) (by lia) (by lia) (by lia) (hd.snoc h0 (by lia)) (fun k h1 h2=>by
     by_cases hk : k = n
     ·subst hk; rfl
     ·rw [he k (by lia) (by lia)]; exact heq.symm)
    exact ⟨p',n',q',e1,e2,e3,by lia,by lia,e6,e7,e8⟩
noncomputable def Good (key : Nat->Int) (p : Array Nat) (nrem : Nat) (r : Nat × Array Nat) : Prop:=1 <= r.1/\r.1 <= nrem/\r.2.size = p.size/\r.2.Perm p/\Up key r.2 r.1
theorem zn3 {p : Array Nat} {n nrem : Nat} (h0 : 0 < n) (hn : n <= nrem) (hs : nrem <= p.size) (hd : Dn key p n) : Good key p nrem (runT (ltK key) (kas_tail3 n nrem p)):=by
 unfold kas_tail3
 rw [zdr]
 simp only [runT]
 have:=zm2 (key:=key) (kas_rev p 0 n) (nrem - n) n h0 (hd.rev (by lia))
 refine ⟨?_,?_,zd6 _ _ _,zg1 _ _ _,this.2.2.1⟩
 ·show 1 <= runT (ltK key) (kas_asc (kas_rev p 0 n) (nrem - n) n); lia
 ·show runT (ltK key) (kas_asc (kas_rev p 0 n) (nrem - n) n) <= nrem; lia
theorem Good.perm {p q : Array Nat} {nrem : Nat} {r : Nat × Array Nat} (h : Good key p nrem r) (hp : p.Perm q) (hs : p.size = q.size) : Good key q nrem r:=⟨h.1,h.2.1,h.2.2.1.trans hs,h.2.2.2.1.trans hp,h.2.2.2.2⟩
theorem zgf {p : Array Nat} {n nrem : Nat} (h0 : 0 < n) (hn : n < nrem) (hs : nrem <= p.size) (hd : Dn key p (n + 1)) : Good key p nrem (runT (ltK key) (kas_descPart n nrem p)):=by
 unfold kas_descPart
 rw [zdr]
 obtain ⟨p',n',q',e1,e2,e3,e4,e5,e6,e7,e8⟩:=zgs (key:=key) (nrem - (n + 1)) p (n + 1) 0 (by lia) (by lia) (by lia) hd (fun k h1 h2=>by
  have : k = n + 1 - 1:=by lia
  rw [this])
 rw [e1]
 dsimp only
 by_cases hq : q' > 0
 ·rw [if_pos hq]
  have ks:=ze9 (key:=key) (p:=p') (i:=n' - (q' + 1)) (j:=n') (by lia) (c:=kk key p' (n' - 1)) (fun k h1 h2=>e8 k (by lia) h2)
  refine (zn3 (p:=kas_rev p' (n' - (q' + 1)) n') (by lia) (by omega) (by rw [zd6]; lia) ?_).perm ((zg1 _ _ _).trans e3) (by rw [zd6,e2])
  intro i j h1 h2
  rw [ks,ks]; exact e7 i j h1 h2
 ·rw [if_neg hq]
  exact (zn3 (by lia) (by omega) (by lia) e7).perm e3 e2
theorem zq5 {p : Array Nat} {nrem : Nat} (h1 : 1 <= nrem) (hs : nrem <= p.size) : Good key p nrem (runT (ltK key) (kas_count nrem p)):=by
 unfold kas_count
 rw [zdr]
 have a:=zm2 (key:=key) p (nrem - 1) 1 (by lia) (yal p)
 generalize runT (ltK key) (kas_asc p (nrem - 1) 1) = n at a
 obtain ⟨a1,a2,a3,a4⟩:=a
 by_cases hn : n = nrem
 ·subst hn
  rw [if_pos (by simp)]
  exact ⟨a1,Nat.le_refl _,rfl,Array.Perm.refl _,a3⟩
 ·rw [if_neg (by simpa using hn)]
  have hlt : n < nrem:=by lia
  have dd:=a4 (by lia)
  by_cases h2 : n > 1
  ·rw [if_pos h2]
   simp only [runT]
   by_cases hc : kk key p 0 < kk key p (n - 1)
   ·have e : ltK key (p.getD 0 0) (p.getD (n - 1) 0) = true:=decide_eq_true hc
    rw [e,if_pos rfl]
    exact ⟨a1,by show n <= nrem; lia,rfl,Array.Perm.refl _,a3⟩
   ·have e : ltK key (p.getD 0 0) (p.getD (n - 1) 0) = false:=decide_eq_false hc
    rw [e,if_neg Bool.false_ne_true]
    have same : ∀ k,0 <= k->k < n->kk key p k = kk key p 0:=fun k _ hk=>by
     have:=a3 0 k (by omega) hk
     have:=a3 k (n - 1) (by lia) (by lia)
     lia
    have ks:=ze9 (key:=key) (p:=p) (i:=0) (j:=n) (by lia) same
    refine (zgf (p:=kas_rev p 0 n) (by lia) hlt (by rw [zd6]; exact hs) ?_).perm (zg1 _ _ _) (zd6 _ _ _)
    intro i j hi hj
    rw [ks,ks]
    by_cases hjn : j < n
    ·rw [same j (by lia) hjn,same i (by lia) (by lia)]; exact Int.le_refl _
    ·have : j = n:=by lia
     subst this
     by_cases hij : i = j
     ·subst hij; exact Int.le_refl _
     ·rw [same i (by lia) (by lia),<- same (j - 1) (by lia) (by lia)]; lia
  ·rw [if_neg h2]
   have : n = 1:=by lia
   subst this
   refine zgf (by lia) hlt hs ?_
   intro i j hi hj
   by_cases hij : i = j
   ·subst hij; exact Int.le_refl _
   ·have h0 : i = 0:=by lia
    have h1' : j = 1:=by lia
    subst h0 h1'
    have : kk key p 1 < kk key p (1 - 1):=dd
    simpa using Int.le_of_lt this
theorem zhz {p : Array Nat} {k : Nat} (hu : Up key p k) : ∀ (f l r : Nat),l <= r->r <= k->r - l <= f->(∀ i,i < l->kk key p i <= kk key p k)->(∀ i,r <= i->i < k->kk key p k <= kk key p i) ->
  runT (ltK key) (kas_place p k f l r) <= k/\(∀ i,i < runT (ltK key) (kas_place p k f l r)->kk key p i <= kk key p k)/\(∀ i,runT (ltK key) (kas_place p k f l r) <= i->i < k->kk key p k <= kk key p i)
 | 0,l,r,h1,h2,h3,h4,h5=>by
  have : l = r:=by lia
  subst this
  exact ⟨by simp [kas_place,runT]; omega,h4,h5⟩
 | f + 1,l,r,h1,h2,h3,h4,h5=>by
  unfold kas_place
  by_cases hlr : l ≥ r
  ·have : l = r:=by lia
   subst this
   rw [if_pos hlr]
   exact ⟨h2,h4,h5⟩
  ·rw [if_neg hlr]
   simp only [runT]
   by_cases hc : kk key p k < kk key p ((l + r) / 2)
   ·have e : ltK key (p.getD k 0) (p.getD ((l + r) / 2) 0) = true:=decide_eq_true hc
    rw [e,if_pos rfl]
    exact zhz hu f l ((l + r) / 2) (by lia) (by lia) (by omega) h4 (fun i hi hk=>Int.le_trans (Int.le_of_lt hc) (hu _ _ hi hk))
   ·have e : ltK key (p.getD k 0) (p.getD ((l + r) / 2) 0) = false:=decide_eq_false hc
    rw [e,if_neg Bool.false_ne_true]
    exact zhz hu f ((l + r) / 2 + 1) r (by lia) h2 (by omega) (fun i hi=>Int.le_trans (hu i ((l + r) / 2) (by lia) (by lia)) (by lia)) h5
theorem zu9 {p : Array Nat} {k d : Nat} (hk : k < p.size) (hd : d <= k) (i : Nat) : (bubble p k d).getD i 0 = if i = k - d then p.getD k 0 else if k - d < i/\i <= k then p.getD (i - 1) 0 else p.getD i 0:=by
 have h:=getElem?_bubble hk d hd i
 have e : ∀ (q : Array Nat) (m : Nat),q.getD m 0 = (q[m]?).getD 0:=fun q m=>by simp [Array.getD_eq_getD_getElem?]
 rw [e,e,e,e,h]
 split
 ·rfl
 ·split <;> rfl
theorem zs1 : ∀ (f : Nat) (p : Array Nat) (k : Nat), k + f <= p.size -> Up key p k -> (runT (ltK key) (kas_bin f p k)).size = p.size /\ (runT (ltK key) (kas_bin f p k)).Perm p /\ Up key (runT (ltK key) (kas_bin f p k)) (k + f)
 | 0,p,k,h,hu=>⟨rfl,Array.Perm.refl _,hu⟩
 | f + 1,p,k,h,hu=>by
  unfold kas_bin
  rw [zdr]
  obtain ⟨g1,g2,g3⟩:=zhz hu k 0 k (Nat.zero_le _) (Nat.le_refl _) (by lia) (fun i hi=>absurd hi (Nat.not_lt_zero _)) (fun i h1 h2=>by lia)
  generalize runT (ltK key) (kas_place p k k 0 k) = l at g1 g2 g3
  have hb : ∀ i,kk key (bubble p k (k - l)) i = if i = l then kk key p k else if l < i/\i <= k then kk key p (i - 1) else kk key p i:=fun i=>by
   unfold kk
   rw [zu9 (by lia) (by lia),show k - (k - l) = l by lia]
   split
   ·rfl
   ·split <;> rfl
  have hu' : Up key (bubble p k (k - l)) (k + 1):=by
   intro i j hij hj
   rw [hb,hb]
   by_cases hi1 : i = l
   ·rw [if_pos hi1]
    by_cases hj1 : j = l
    ·rw [if_pos hj1]; exact Int.le_refl _
    ·rw [if_neg hj1,if_pos ⟨by lia,by lia⟩]
     exact g3 (j - 1) (by lia) (by lia)
   ·rw [if_neg hi1]
    by_cases hi2 : l < i/\i <= k
    ·rw [if_pos hi2]
     rw [if_neg (by lia),if_pos ⟨by lia,by lia⟩]
     exact hu _ _ (by omega) (by lia)
    ·rw [if_neg hi2]
     have hil : i < l:=by lia
     by_cases hj1 : j = l
     ·rw [if_pos hj1]; exact g2 i hil
     ·rw [if_neg hj1]
      by_cases hj2 : l < j/\j <= k
      ·rw [if_pos hj2]; exact hu _ _ (by lia) (by lia)
      ·rw [if_neg hj2]; exact hu _ _ hij (by lia)
  obtain ⟨b1,b2,b3⟩:=zs1 f (bubble p k (k - l)) (k + 1) (by rw [bubble_size]; lia) hu'
  exact ⟨by rw [b1,bubble_size],b2.trans (bubble_perm _ _ _),by rw [show k + (f + 1) = k + 1 + f by lia]; exact b3⟩
theorem zt2 {n : Nat} (h : 1 <= n) : (runT (ltK key) (kas_sort n)).size = n/\(runT (ltK key) (kas_sort n)).Perm (List.range n).toArray/\Up key (runT (ltK key) (kas_sort n)) n:=by
 unfold kas_sort
 rw [zdr]
 have hsz : (List.toArray (List.range n)).size = n:=by simp
 obtain ⟨c1,c2,c3,c4,c5⟩:=zq5 (key:=key) (p:=List.toArray (List.range n)) h (by rw [hsz]; exact Nat.le_refl _)
 generalize runT (ltK key) (kas_count n (List.toArray (List.range n))) = r at c1 c2 c3 c4 c5
 obtain ⟨m,p⟩:=r
 dsimp only at c1 c2 c3 c4 c5 ⊢
 rw [hsz] at c3
 by_cases hm : m < n
 ·rw [if_pos hm]
  have e : max m 1 = m:=by lia
  rw [e]
  obtain ⟨b1,b2,b3⟩:=zs1 (key:=key) (n - m) p m (by lia) c5
  exact ⟨by rw [b1,c3],b2.trans c4,by rw [show n = m + (n - m) by lia]; rw [show m + (n - m) - m = n - m by lia]; exact b3⟩
 ·rw [if_neg hm]
  have : m = n:=by lia
  subst this
  exact ⟨c3,c4,c5⟩
end
end L2
namespace L2
open PySem PySem.W PyProof.Rows
section
variable {prog : Program} {w : World} {A : Around} {E : Value->Shared->Prop} {s : Shared}
noncomputable def zdy (h h' : Heap) : Prop:=∀ b o,h.get? b = some o->h'.get? b = some o
noncomputable def zo4 (prog : Program) (w : World) (A : Around) (s : Shared) (vs : List Value) (Out : Array Value->Prop) : Prop :=
 ∃ κ,(∀ (Q : SortKind->Shared->Prop) (E : Value->Shared->Prop),Q κ s->wpAny (model prog w) A (keyKind' vs.toArray) Q E s) /\
  ∀ (Q : SortSt->Shared->Prop) (E : Value->Shared->Prop),(∀ st',failedOf st' = none->(arrOf st').size = vs.length->Out ((arrOf st').map (·.2))->Q st' s)->wpAny (model prog w) A (sortRuns'.run (SortSt.mk' κ (vs.toArray.zip vs.toArray) #[] 7 none)) (fun r s'=>Q r.2 s') E s
theorem zf2 {a : Addr} {vs : List Value} {n0 : Nat} {P : PySem.Fin->Shared->Prop} (Out : Array Value->Prop) (ho : s.heap.get? a = some (seqObj "list" vs.toArray n0)) (hz : vs.length <= sizeLine)
  (hs : 2 <= vs.length -> ∀ h',(∀ b o,b≠a->s.heap.get? b = some o->h'.get? b = some o)->zo4 prog w A { s with heap:=h' } vs Out) (h1 : vs.length < 2->Out vs.toArray)
  (h : ∀ out c h',(∀ b o,b≠a->s.heap.get? b = some o->h'.get? b = some o)->h'.get? a = some (seqObj "list" out c)->out.size = vs.length->Out out->P (.done (.ret .none)) { s with heap:=h' }) :
  wpAny (model prog w) A (Builtin.«list.sort» ⟨[.ref a],[]⟩) P E s:=by
 have alt : a < s.heap.objs.size:=Heap.lt_size ho
 rw [list_sort_plain]
 refine wpAny_bind (listItems_at ho rfl ?_)
 refine wpAny_bind (listUpdate_at ho rfl ?_ (by simpa using hz) (Nat.zero_le _))
 generalize hg1 : s.heap.update a (Obj.mapSeq fun _=>(#[] : Array Value)) = g1
 have k1 : ∀ b o,b≠a->s.heap.get? b = some o->g1.get? b = some o:=fun b o hb e=>by rw [<- hg1]; exact (Heap.get?_update_other _ _ (Ne.symm hb)).trans e
 obtain ⟨e1,ho1⟩ : ∃ e1,g1.get? a = some (seqObj "list" #[] e1):=by rw [<- hg1]; exact ⟨_,get?_update_seq ho fun _=>#[]⟩
 have sz1 : g1.objs.size = s.heap.objs.size:=by rw [<- hg1,Heap.size_update]
 refine wpAny_bind (seqEpoch_at ho1 rfl ?_)
 refine wpAny_bind (wpAny_newTuple ?_ (by show vs.length <= _; exact hz))
 refine wpAny_bind (wpAny_newList ?_ (Nat.zero_le _))
 refine wpAny_holding ?_
 dsimp only
 generalize hg3 : (g1.push { cls:=.type "tuple", data:=.seq vs.toArray }).push { cls:=.type "list", data:=.seq #[] } = g3
 have k3 : ∀ b o,g1.get? b = some o->g3.get? b = some o:=fun b o e=>by rw [<- hg3]; exact Heap.get?_push_of_some _ (Heap.get?_push_of_some _ e)
 have ho3:=k3 a _ ho1
 have keep : ∀ b o,b≠a->s.heap.get? b = some o->g3.get? b = some o:=fun b o hb e=>k3 b o (k1 b o hb e)
 have fin : ∀ (st' : SortSt),failedOf st' = none->(arrOf st').size = vs.length->Out ((arrOf st').map (·.2))->P (.done (.ret .none)) { s with heap:=g3.update a (Obj.mapSeq fun _=>(arrOf st').map (·.2)) }:=fun st' hf hsz hO=>by
  obtain ⟨c2,hc2⟩ : ∃ c2,(g3.update a (Obj.mapSeq fun _=>(arrOf st').map (·.2))).get? a = some (seqObj "list" ((arrOf st').map (·.2)) c2):=⟨_,get?_update_seq ho3 fun _=>(arrOf st').map (·.2)⟩
  exact h _ c2 _ (fun b o hb e=>(Heap.get?_update_other _ _ (Ne.symm hb)).trans (keep b o hb e)) hc2 (by simpa using hsz) hO
 have hsz : vs.toArray.size = vs.length:=by simp
 by_cases h2 : vs.length < 2
 ·rw [if_pos (by omega),if_pos (by omega)]
  refine wpAny_bind (wpAny_pure ?_)
  rw [StateT.run_pure]
  refine wpAny_bind (wpAny_pure ?_)
  have eo : (arrOf (SortSt.mk' general' (vs.toArray.zip vs.toArray) #[] 7 none)).map (·.2) = vs.toArray:=by
   show (vs.toArray.zip vs.toArray).map (·.2) = vs.toArray
   apply Array.toList_inj.mp
   rw [Array.toList_map]
   have : (vs.toArray.zip vs.toArray).toList = vs.zip vs:=by simp
   rw [this]
   simp [List.map_snd_zip]
  dsimp only
  refine wpAny_bind (seqEpoch_at ho3 rfl ?_)
  refine wpAny_bind (listUpdate_at ho3 rfl ?_ (Nat.zero_le _) (by rw [eo]; simp only [List.size_toArray]; lia))
  simp only [bne_self_eq_false,Bool.false_eq_true,if_false]
  exact wpAny_pure (fin (SortSt.mk' general' (vs.toArray.zip vs.toArray) #[] 7 none) rfl (by show (vs.toArray.zip vs.toArray).size = _; simp) (by rw [eo]; exact h1 h2))
 ·rw [if_neg (by omega),if_neg (by omega)]
  obtain ⟨κ,hk,hr⟩:=hs (by lia) g3 keep
  refine wpAny_bind (hk _ _ ?_)
  refine wpAny_bind (wpAny_mono (hr (fun st' s'=>s' = { s with heap:=g3 }/\failedOf st' = none/\(arrOf st').size = vs.length/\Out ((arrOf st').map (·.2))) (fun _ _=>False) fun st' hf hsz hO=>⟨rfl,hf,hsz,hO⟩) ?_ fun _ _ x=>x.elim)
  rintro ⟨⟨⟩,st'⟩ s' ⟨rfl,hf,hsz,hO⟩
  dsimp only at hf hsz hO ⊢
  refine wpAny_bind (seqEpoch_at ho3 rfl ?_)
  refine wpAny_bind (listUpdate_at ho3 rfl ?_ (Nat.zero_le _) (by simp only [Array.size_map]; lia))
  rw [hf]
  simp only [bne_self_eq_false,Bool.false_eq_true,if_false]
  exact wpAny_pure (fin st' hf hsz hO)
theorem znd {l : Addr} {vs : List Value} {Q : Value->Shared->Prop} (Out : Array Value->Prop) (hl : s.heap.IsList l vs.toArray) (hz : vs.length <= sizeLine)
  (hs : 2 <= vs.length -> ∀ h',zdy s.heap h'->zo4 prog w A.in1.in1 { s with heap:=h' } vs Out) (h1 : vs.length < 2->Out vs.toArray)
  (h : ∀ out c h',zdy s.heap h'->h'.get? (s.heap.objs.size + 1) = some (seqObj "list" out c)->out.size = vs.length->Out out->Q (.ref (s.heap.objs.size + 1)) { s with heap:=h' }) :
  wpAny (model prog w) A (call (.builtin "sorted") [.ref l]) Q E s:=by
 refine Calls.call_function_entry kind_sorted plain_sorted entry_sorted (args_sorted1 _) ?_
 unfold Builtin.«sorted»
 refine wpAny_bind (m:=checkCount "sorted" 1 1 _) (wpAny_pure ?_)
 refine wpAny_bind (collect_list hl ?_ hz)
 refine wpAny_bind (wpAny_newList ?_ hz)
 generalize hg1 : (s.heap.push (seqObj "list" #[] 0)).update s.heap.objs.size (Obj.mapSeq (· ++ vs.toArray)) = g1
 have sz1 : g1.objs.size = s.heap.objs.size + 1:=by rw [<- hg1,Heap.size_update,size_push']
 have k1 : zdy s.heap g1:=fun b o e=>by
  have hlt:=Heap.lt_size e
  rw [<- hg1]
  exact (Heap.get?_update_other _ _ (Nat.ne_of_gt hlt)).trans (Heap.get?_push_of_some _ e)
 dsimp only
 have ho : (g1.push { cls:=.type "list", data:=.seq vs.toArray }).get? (s.heap.objs.size + 1) = some (seqObj "list" vs.toArray 0):=by rw [<- sz1]; exact Heap.get?_push_size _ rfl
 have k2 : zdy s.heap (g1.push { cls:=.type "list", data:=.seq vs.toArray }):=fun b o e=>Heap.get?_push_of_some _ (k1 b o e)
 rw [sz1]
 have ne : ∀ b o,s.heap.get? b = some o->b≠s.heap.objs.size + 1:=fun b o e=>Nat.ne_of_lt (Nat.lt_succ_of_lt (Heap.lt_size e))
 refine wpAny_bind (wpAny_holding (wpAny_call_entry slot_list_sort ⟨_,ho,rfl⟩ entry_list_sort (zf2 (s:={ s with heap:=g1.push { cls:=.type "list", data:=.seq vs.toArray } }) Out ho hz
  (fun h2 h' k=>hs h2 h' fun b o e=>k b o (ne b o e) (k2 b o e)) h1 fun out c h' k hc hsz hO=>⟨_,rfl,?_⟩) (args_list_sort _)))
 exact wpAny_pure ⟨_,rfl,h out c h' (fun b o e=>k b o (ne b o e) (k2 b o e)) hc hsz hO⟩
end
end L2
namespace L2
open PySem PySem.W PyProof.Rows
noncomputable def InR {α : Type} (n : Nat) (P : α->Prop) : KasT α->Prop
 | .ret a=>P a
 | .ask i j k=>i < n/\j < n /\ ∀ b,InR n P (k b)
theorem InR.bind {α β : Type} {n : Nat} {f : α->KasT β} {P : α->Prop} {Q : β->Prop} (hf : ∀ a,P a->InR n Q (f a)) : ∀ {t : KasT α},InR n P t->InR n Q (t.bind f)
 | .ret a,h=>hf a h
 | .ask i j k,h=>⟨h.1,h.2.1,fun b=>InR.bind hf (h.2.2 b)⟩
theorem zod {α : Type} {cmp : Nat->Nat->(Bool->Shared->Prop)->Shared->Prop} {lt : Nat->Nat->Bool} {Q : α->Shared->Prop} {s : Shared} {n : Nat} {P : α->Prop} (h : ∀ i j C,i < n->j < n->C (lt i j) s->cmp i j C s) : ∀ {t : KasT α},InR n P t->Q (runT lt t) s->t.kasWp cmp Q s
 | .ret _,_,q=>q
 | .ask i j k,r,q=>h i j _ r.1 r.2.1 (zod h (r.2.2 _) q)
noncomputable def Ent (n : Nat) (p : Array Nat) : Prop:=∀ i,p.getD i 0 < n
theorem Ent.perm {n : Nat} {p q : Array Nat} (h : Ent n p) (hp : q.Perm p) (hn : 0 < n) : Ent n q:=fun i=>by
 have e : ∀ (q : Array Nat) (m : Nat),q.getD m 0 = (q[m]?).getD 0:=fun q m=>by simp [Array.getD_eq_getD_getElem?]
 rw [e]
 cases hq : q[i]? with
 | none=>exact hn
 | some x =>
  have hx : x∈q:=Array.mem_of_getElem? hq
  have hx2 : x∈p:=hp.mem_iff.mp hx
  obtain ⟨j,hj,ej⟩:=Array.mem_iff_getElem.mp hx2
  have:=h j
  rw [e,Array.getElem?_eq_getElem hj,ej] at this
  exact this
theorem Ent.rev {n : Nat} {p : Array Nat} (h : Ent n p) (hn : 0 < n) (i j : Nat) : Ent n (kas_rev p i j):=h.perm (mirror_perm _ _ _ _) hn
section
variable {n : Nat} (hn : 0 < n)
theorem zs2 {p : Array Nat} (h : Ent n p) : ∀ f m,InR n (fun _ : Nat=>True) (kas_asc p f m)
 | 0,_=>trivial
 | f + 1,m=>⟨h _,h _,fun b=>by cases b <;> simp only [if_true,Bool.false_eq_true,if_false]; exact zs2 h f (m + 1); trivial⟩
include hn in
theorem zjx : ∀ f {p : Array Nat} m q,Ent n p->InR n (fun r : Array Nat × Nat × Nat=>Ent n r.1) (kas_desc f p m q)
 | 0,_,_,_,h=>h
 | f + 1,p,m,q,h=>⟨h _,h _,fun b=>by
   cases b with
   | true =>
    simp only [if_true]
    split
    ·exact zjx f _ _ (h.rev hn _ _)
    ·exact zjx f _ _ h
   | false =>
    simp only [Bool.false_eq_true,if_false]
    exact ⟨h _,h _,fun c=>by
     cases c with
     | true=>simp only [if_true]; exact h
     | false=>simp only [Bool.false_eq_true,if_false]; exact zjx f _ _ h⟩⟩
include hn in
theorem zoq {p : Array Nat} (h : Ent n p) (m r : Nat) : InR n (fun r : Nat × Array Nat=>Ent n r.2) (kas_tail3 m r p):=by
 unfold kas_tail3
 refine InR.bind (P:=fun _ : Nat=>True) (fun a _=>?_) (zs2 (h.rev hn _ _) _ _)
 exact h.rev hn _ _
include hn in
theorem zhl {p : Array Nat} (h : Ent n p) (m r : Nat) : InR n (fun r : Nat × Array Nat=>Ent n r.2) (kas_descPart m r p):=by
 unfold kas_descPart
 refine InR.bind (fun a ha=>?_) (zjx hn _ _ _ h)
 split
 ·exact zoq hn (ha.rev hn _ _) _ _
 ·exact zoq hn ha _ _
include hn in
theorem zvx {p : Array Nat} (h : Ent n p) (r : Nat) : InR n (fun r : Nat × Array Nat=>Ent n r.2) (kas_count r p):=by
 unfold kas_count
 refine InR.bind (fun m _=>?_) (zs2 h _ _)
 split
 ·exact h
 ·split
  ·refine ⟨h _,h _,fun b=>?_⟩
   cases b with
   | true=>simp only [if_true]; exact h
   | false=>simp only [Bool.false_eq_true,if_false]; exact zhl hn (h.rev hn _ _) _ _
  ·exact zhl hn h _ _
theorem znz {p : Array Nat} (h : Ent n p) (k : Nat) : ∀ f l r,InR n (fun _ : Nat=>True) (kas_place p k f l r)
 | 0,_,_=>trivial
 | f + 1,l,r=>by
  unfold kas_place
  split
  ·trivial
  ·exact ⟨h _,h _,fun b=>by cases b <;> simp only [if_true,Bool.false_eq_true,if_false] <;> exact znz h k f _ _⟩
include hn in
theorem zwn : ∀ f {p : Array Nat} k,Ent n p->InR n (fun q : Array Nat=>Ent n q) (kas_bin f p k)
 | 0,_,_,h=>h
 | f + 1,p,k,h=>by
  unfold kas_bin
  exact InR.bind (fun l _=>zwn f _ (h.perm (bubble_perm _ _ _) hn)) (znz h k _ _ _)
include hn in
theorem zxy : InR n (fun q : Array Nat=>Ent n q) (kas_sort n):=by
 unfold kas_sort
 have h0 : Ent n (List.toArray (List.range n)):=fun i=>by
  have e : ∀ (q : Array Nat) (m : Nat),q.getD m 0 = (q[m]?).getD 0:=fun q m=>by simp [Array.getD_eq_getD_getElem?]
  rw [e]
  by_cases hi : i < n
  ·simp [hi]
  ·simp [hi]; exact hn
 refine InR.bind (fun r hr=>?_) (zvx hn h0 n)
 split
 ·exact zwn hn _ _ hr
 ·exact hr
end
section
variable {prog : Program} {w : World} {A : Around} {s : Shared}
noncomputable def OutK (key : Nat->Int) (vs : List Value) (out : Array Value) : Prop:=∃ p : List Nat,p.Perm (List.range vs.length)/\out.toList = p.map (fun i=>vs.getD i Value.none)/\p.Pairwise fun i j=>key i <= key j
theorem zmm {κ : SortKind} {vs : List Value} {key : Nat->Int} (h2 : 2 <= vs.length) (h64 : vs.length < 64)
  (hk : ∀ (Q : SortKind->Shared->Prop) (E : Value->Shared->Prop),Q κ s->wpAny (model prog w) A (keyKind' vs.toArray) Q E s)
  (hlt : ∀ i j (C : Bool->Shared->Prop),i < vs.length->j < vs.length->C (decide (key i < key j)) s->wpAny (model prog w) A (keyLt' κ (vs.getD i Value.none) (vs.getD j Value.none)) C (fun _ _=>False) s) :
  zo4 prog w A s vs (OutK key vs):=by
 refine ⟨κ,hk,fun Q E hQ=>?_⟩
 obtain ⟨s1,s2,s3⟩:=zt2 (key:=key) (n:=vs.length) (by lia)
 refine kat_run (Q:=fun st' s'=>Q st' s') (G:=fun p s'=>s' = s/\p = runT (ltK key) (kas_sort vs.length)) rfl h2 h64 (fun p st' s' hp har hf hG=>?_) (zod (lt:=ltK key) (fun i j C hi hj hc=>hlt i j C hi hj hc) (zxy (n:=vs.length) (by lia)) ⟨rfl,rfl⟩)
 obtain ⟨rfl,rfl⟩:=hG
 have hout:=kat_snds rfl har
 refine hQ st' hf (by rw [har,Array.size_map,s1]) ⟨(runT (ltK key) (kas_sort vs.length)).toList,?_,?_,?_⟩
 ·have:=s2.toList
  simpa using this
 ·rw [hout]
 ·generalize runT (ltK key) (kas_sort vs.length) = q at s1 s3
  rw [List.pairwise_iff_getElem]
  intro i j hi hj hij
  have h:=s3 i j (by lia) (by simpa [s1] using hj)
  unfold kk at h
  have e : ∀ m (hm : m < q.toList.length),q.getD m 0 = q.toList[m]:=fun m hm=>by
   have hm' : m < q.size:=by simpa using hm
   simp [Array.getD,hm']
  rw [e i hi,e j hj] at h
  exact h
end
end L2
namespace L2
open PySem PySem.W PyProof.Rows
noncomputable def D.fo : D->List Int
 | .str l=>l.map Int.ofNat
 | .int i=>[i]
 | _=>[]
noncomputable def D.ord : D->List (List Int)
 | .tup ds=>ds.map D.fo
 | .lst ds=>ds.map D.fo
 | d=>[d.fo]
noncomputable def D.leB (a b : D) : Bool:=decide (a.ord <= b.ord)
noncomputable def zd0 (ds : List D) : List D:=ds.mergeSort D.leB
inductive Ty where | s | i
noncomputable def Ty.ok : Ty->D->Bool
 | .s,.str _=>true
 | .i,.int _=>true
 | _,_=>false
noncomputable def shOk : List Ty->List D->Bool
 | [],[]=>true
 | t::ts,d::ds=>t.ok d && shOk ts ds
 | _,_=>false
noncomputable def zdo (ds : List D) : Prop:=(∀ d∈ds,Ty.ok .s d = true) \/ (∀ d∈ds,Ty.ok .i d = true) \/ ∃ t ts,∀ d∈ds,∃ es,d = .tup es/\shOk (t::ts) es = true
theorem ofNat_inj {l m : List Nat} (h : l.map Int.ofNat = m.map Int.ofNat) : l = m:=by
 induction l generalizing m with
 | nil=>cases m with
  | nil=>rfl
  | cons _ _=>simp at h
 | cons a l ih=>cases m with
  | nil=>simp at h
  | cons b m =>
   simp only [List.map_cons,List.cons.injEq,Int.ofNat_eq_natCast] at h
   rw [show a = b by lia,ih h.2]
theorem zue (l m : List Nat) : l < m ↔ l.map Int.ofNat < m.map Int.ofNat:=by
 induction l generalizing m with
 | nil=>cases m <;> simp
 | cons a l ih=>cases m with
  | nil=>simp
  | cons b m =>
   simp only [List.map_cons,List.cons_lt_cons_iff,ih m,Int.ofNat_eq_natCast]
   constructor
   ·rintro (h | ⟨h,x⟩)
    ·exact .inl (by lia)
    ·exact .inr ⟨by lia,x⟩
   ·rintro (h | ⟨h,x⟩)
    ·exact .inl (by lia)
    ·exact .inr ⟨by lia,x⟩
theorem zoa {t : Ty} {d e : D} (h1 : t.ok d = true) (h2 : t.ok e = true) (h : d.fo = e.fo) : d = e:=by
 cases t <;> cases d <;> simp [Ty.ok] at h1 <;> cases e <;> simp [Ty.ok] at h2
 ·rw [ofNat_inj h]
 ·simp [D.fo] at h; rw [h]
theorem zsw : ∀ {ts : List Ty} {ds es : List D},shOk ts ds = true->shOk ts es = true->ds.map D.fo = es.map D.fo->ds = es
 | [],ds,es,h1,h2,_=>by cases ds <;> cases es <;> simp [shOk] at h1 h2; rfl
 | t::ts,ds,es,h1,h2,h=>by
  cases ds with
  | nil=>simp [shOk] at h1
  | cons d ds=>cases es with
   | nil=>simp [shOk] at h2
   | cons e es =>
    simp only [shOk,Bool.and_eq_true] at h1 h2
    simp only [List.map_cons,List.cons.injEq] at h
    rw [zoa h1.1 h2.1 h.1,zsw h1.2 h2.2 h.2]
theorem yay (x y : List Int) : [x] < [y] ↔ x < y:=by simp [List.cons_lt_cons_iff]
theorem zw3 {ds : List D} (h : zdo ds) {a b : D} (ha : a∈ds) (hb : b∈ds) (e : a.ord = b.ord) : a = b:=by
 rcases h with h | h | ⟨t,ts,h⟩
 ·have h1:=h a ha
  have h2:=h b hb
  cases a <;> simp [Ty.ok] at h1
  cases b <;> simp [Ty.ok] at h2
  simp only [D.ord,List.cons.injEq,and_true] at e
  exact zoa (t:=.s) rfl rfl e
 ·have h1:=h a ha
  have h2:=h b hb
  cases a <;> simp [Ty.ok] at h1
  cases b <;> simp [Ty.ok] at h2
  simp only [D.ord,List.cons.injEq,and_true] at e
  exact zoa (t:=.i) rfl rfl e
 ·obtain ⟨es,rfl,h1⟩:=h a ha
  obtain ⟨fs,rfl,h2⟩:=h b hb
  simp only [D.ord] at e
  rw [zsw h1 h2 e]
theorem zq6 (a b c : D) (h1 : a.leB b = true) (h2 : b.leB c = true) : a.leB c = true:=decide_eq_true (List.le_trans (of_decide_eq_true h1) (of_decide_eq_true h2))
theorem zrn (a b : D) : (a.leB b || b.leB a) = true:=by
 rcases List.le_total a.ord b.ord with h | h
 ·simp [D.leB,h]
 ·simp [D.leB,h]
theorem zav (ds : List D) : (zd0 ds).Perm ds:=List.mergeSort_perm _ _
theorem zgj (ds : List D) : (zd0 ds).Pairwise fun a b=>a.leB b = true:=List.pairwise_mergeSort zq6 zrn ds
theorem zgy {ds es : List D} (h : zdo ds) (hp : es.Perm ds) (hs : es.Pairwise fun a b=>a.leB b = true) : es = zd0 ds:=by
 refine List.Perm.eq_of_pairwise (le:=fun a b=>a.leB b = true) (fun a b ha hb h1 h2=>?_) hs (zgj ds) (hp.trans (zav ds).symm)
 exact zw3 h (hp.mem_iff.mp ha) ((zav ds).mem_iff.mp hb) (List.le_antisymm (of_decide_eq_true h1) (of_decide_eq_true h2))
noncomputable def rk (ds : List D) (i : Nat) : Int:=((ds.filter fun d=>decide (d.ord < (ds.getD i .non).ord)).length : Nat)
theorem zdz {α : Type} {p q : α->Bool} (h : ∀ x,p x = true->q x = true) : ∀ l : List α,(l.filter p).length <= (l.filter q).length
 | []=>Nat.le_refl _
 | x::l=>by
  have ih:=zdz h l
  simp only [List.filter_cons]
  cases hp : p x with
  | false =>
   cases hq : q x with
   | false=>simpa using ih
   | true=>simp; lia
  | true=>rw [h x hp]; simp; omega
theorem zfm {α : Type} {p q : α->Bool} (h : ∀ x,p x = true->q x = true) {y : α} (hy : q y = true) (hn : p y = false) : ∀ l : List α,y∈l->(l.filter p).length < (l.filter q).length
 | [],hm=>by simp at hm
 | x::l,hm=>by
  have le:=zdz h l
  simp only [List.filter_cons]
  rcases List.mem_cons.mp hm with rfl | hm
  ·rw [hy,hn]; simp; lia
  ·have ih:=zfm h hy hn l hm
   cases hp : p x with
   | false =>
    cases hq : q x with
    | false=>simpa using ih
    | true=>simp; lia
   | true=>rw [h x hp]; simp; omega
theorem zx5 {ds : List D} {i j : Nat} (hi : i < ds.length) : decide (rk ds i < rk ds j) = decide ((ds.getD i .non).ord < (ds.getD j .non).ord):=by
 have hm : ds.getD i .non∈ds:=by rw [List.getD_eq_getElem?_getD,List.getElem?_eq_getElem hi]; exact List.getElem_mem _
 unfold rk
 generalize ds.getD i .non = a at hm
 generalize ds.getD j .non = b
 by_cases h : a.ord < b.ord
 ·rw [decide_eq_true h]
  refine decide_eq_true ?_
  have:=zfm (p:=fun d : D=>decide (d.ord < a.ord)) (q:=fun d : D=>decide (d.ord < b.ord)) (fun x hx=>decide_eq_true (List.lt_trans (of_decide_eq_true hx) h)) (y:=a) (decide_eq_true h) (decide_eq_false (List.lt_irrefl _)) ds hm
  lia
 ·rw [decide_eq_false h]
  refine decide_eq_false ?_
  have:=zdz (p:=fun d : D=>decide (d.ord < b.ord)) (q:=fun d : D=>decide (d.ord < a.ord)) (fun x hx=>by
   have hx:=of_decide_eq_true hx
   refine decide_eq_true ?_
   by_cases hxa : x.ord < a.ord
   ·exact hxa
   ·exact absurd hx (List.not_lt.mpr (List.le_trans (List.not_lt.mp h) (List.not_lt.mp hxa)))) ds
  lia
theorem zxw {ds : List D} {i j : Nat} (hi : i < ds.length) (hj : j < ds.length) (h : rk ds i <= rk ds j) : (ds.getD i .non).leB (ds.getD j .non) = true:=by
 have:=zx5 (ds:=ds) (i:=j) (j:=i) hj
 rw [decide_eq_false (by lia)] at this
 exact decide_eq_true (List.not_lt.mp (of_decide_eq_false this.symm))
section
variable {prog : Program} {w : World} {A : Around} {E : Value->Shared->Prop} {s : Shared}
noncomputable def FV : D->Value->Prop
 | .str l,u=>∃ t,u = .str (T l) t
 | .int i,u=>∃ t,u = .int i t
 | _,_=>False
theorem zyh {t : Ty} {d e : D} {u v : Value} (h1 : t.ok d = true) (h2 : t.ok e = true) (ru : FV d u) (rv : FV e v) {Q : Bool->Shared->Prop} (q : Q (decide (d = e)) s) : wpAny (model prog w) A (eqBool u v) Q E s:=by
 cases t <;> cases d <;> simp [Ty.ok] at h1 <;> cases e <;> simp [Ty.ok] at h2
 ·obtain ⟨t,rfl⟩:=ru
  obtain ⟨t',rfl⟩:=rv
  refine SeqAt.EqAt.str_str _ _ _ _ prog w E Q ?_
  rename_i l m
  have : (T l == T m) = decide (D.str l = D.str m):=by
   rw [Bool.eq_iff_iff]; simp [zrp]
  rw [this]; exact q
 ·obtain ⟨t,rfl⟩:=ru
  obtain ⟨t',rfl⟩:=rv
  refine SeqAt.EqAt.int_int _ _ _ _ prog w E Q ?_
  rename_i i j
  have : (i == j) = decide (D.int i = D.int j):=by
   rw [Bool.eq_iff_iff]; simp
  rw [this]; exact q
theorem zs0 {t : Ty} {d e : D} {u v : Value} (h1 : t.ok d = true) (h2 : t.ok e = true) (ru : FV d u) (rv : FV e v) (f : Bool) {Q : Bool->Shared->Prop} (q : Q (decide (d.fo < e.fo)) s) : wpAny (model prog w) A (oneLt' f u v) Q E s:=by
 cases t <;> cases d <;> simp [Ty.ok] at h1 <;> cases e <;> simp [Ty.ok] at h2
 ·obtain ⟨t,rfl⟩:=ru
  obtain ⟨t',rfl⟩:=rv
  rename_i l m
  have ee : decide ((T l).cps.toList < (T m).cps.toList) = decide ((D.str l).fo < (D.str m).fo):=by
   rw [zna,zna,Bool.eq_iff_iff,decide_eq_true_eq,decide_eq_true_eq]
   exact zue l m
  cases f with
  | true=>exact oneLt_str (by rw [ee]; exact q)
  | false=>exact kat_one _ _ (lt_str (by show Q _ _; rw [ee]; exact q))
 ·obtain ⟨t,rfl⟩:=ru
  obtain ⟨t',rfl⟩:=rv
  rename_i i j
  have ee : decide (i < j) = decide ((D.int i).fo < (D.int j).fo):=by
   rw [Bool.eq_iff_iff]
   simp [D.fo,List.cons_lt_cons_iff]
  cases f with
  | true=>exact oneLt_int (by rw [ee]; exact q)
  | false=>exact kat_one _ _ (lt_int (by show Q _ _; rw [ee]; exact q))
inductive FVs : List D->List Value->Prop
 | nil : FVs [] []
 | cons {d ds u us} : FV d u->FVs ds us->FVs (d::ds) (u::us)
theorem zon {b : Bool} {Q : Bool -> Shared -> Prop} : ∀ {ts : List Ty} {ds es : List D} {us vs : List Value} (i : Nat), shOk ts ds = true -> shOk ts es = true -> FVs ds us -> FVs es vs -> Q (decide (ds.map D.fo < es.map D.fo)) s -> KatLex prog w A b false Q (us.zip vs) i s
 | [],ds,es,_,_,i,h1,h2,r1,r2,q=>by
  cases ds <;> cases es <;> simp [shOk] at h1 h2
  cases r1; cases r2
  exact kat_nil (by simpa using q)
 | t::ts,ds,es,_,_,i,h1,h2,r1,r2,q=>by
  cases r1 with
  | nil=>simp [shOk] at h1
  | cons a1 a2 =>
   cases r2 with
   | nil=>simp [shOk] at h2
   | cons b1 b2 =>
    rename_i d ds u us e es v vs
    simp only [shOk,Bool.and_eq_true] at h1 h2
    rw [List.zip_cons_cons]
    refine kat_cons (zyh h1.1 h2.1 a1 b1 ?_)
    by_cases hde : d = e
    ·subst hde
     rw [decide_eq_true rfl]
     refine kat_yes (zon (i + 1) h1.2 h2.2 a2 b2 ?_)
     have : decide (ds.map D.fo < es.map D.fo) = decide ((d::ds).map D.fo < (d::es).map D.fo):=by
      rw [Bool.eq_iff_iff]
      simp only [decide_eq_true_eq,List.map_cons,List.cons_lt_cons_iff]
      exact ⟨fun h=>.inr ⟨trivial,h⟩,fun h=>h.elim (fun z=>absurd z (List.lt_irrefl _)) fun z=>z.2⟩
     rw [this]; exact q
    ·rw [decide_eq_false hde]
     refine kat_no (zs0 h1.1 h2.1 a1 b1 _ ?_)
     have hf : ¬ d.fo = e.fo:=fun z=>hde (zoa h1.1 h2.1 z)
     have : decide (d.fo < e.fo) = decide ((d::ds).map D.fo < (e::es).map D.fo):=by
      rw [Bool.eq_iff_iff]
      simp only [decide_eq_true_eq,List.map_cons,List.cons_lt_cons_iff]
      exact ⟨fun h=>.inl h,fun h=>h.elim id fun z=>absurd z.1 hf⟩
     rw [this]; exact q
end
end L2
set_option maxHeartbeats 1000000
namespace L2
open PySem PySem.W PyProof.Rows
end L2
namespace L2
open PySem PySem.W PyProof.Rows
structure MI (R : Nat->Nat->Prop) (ua ub o : List Nat) (i j : Nat) : Prop where
 hi : i <= ua.length
 hj : j <= ub.length
 pw : o.Pairwise R
 pa : ∀ x∈o,∀ y∈ua.drop i,R x y
 pb : ∀ x∈o,∀ y∈ub.drop j,R x y
 pm : o.Perm (ua.take i++ub.take j)
end L2
set_option maxHeartbeats 2000000
namespace L2
open PySem PySem.W PyProof.Rows
end L2
namespace L2
open PySem PySem.W PyProof.Rows
end L2
namespace L2
open PySem PySem.W PyProof.Rows
noncomputable def Seg (key : Nat->Int) (p : Array Nat) (i j : Nat) : Prop:=∀ s t,i <= s->s <= t->t < j->kk key p s <= kk key p t
end L2
namespace L2
open PySem PySem.W PyProof.Rows
end L2
namespace L2
open PySem PySem.W PyProof.Rows
noncomputable def Runs (key : Nat->Int) (p : Array Nat) : List (Nat × Nat × Nat)->Nat->Nat->Prop
 | [],lo,hi=>lo = hi
 | r::l,lo,hi=>r.1 = lo/\0 < r.2.1/\Seg key p lo (lo + r.2.1)/\Runs key p l (lo + r.2.1) hi
end L2
set_option maxHeartbeats 4000000
namespace L2
open PySem PySem.W PyProof.Rows
theorem Vals.pick {xs : List V} {us : List Value} (r : Vals xs us) : ∀ p : List Nat,(∀ i∈p,i < xs.length)->Vals (p.map fun i=>xs.getD i .non) (p.map fun i=>us.getD i Value.none)
 | [],_=>.nil
 | i::p,h=>by
  have hi:=h i List.mem_cons_self
  obtain ⟨u,hu,ru⟩:=r.get (List.getElem?_eq_getElem hi)
  refine .cons ?_ (Vals.pick r p fun j hj=>h j (List.mem_cons_of_mem _ hj))
  show RelV (xs.getD i .non) (us.getD i Value.none)
  rw [List.getD_eq_getElem?_getD,List.getElem?_eq_getElem hi,List.getD_eq_getElem?_getD,hu]
  exact ru
theorem Reps.pick {K : PySem.W.Frag} {H : Hp} {ds : List D} {xs : List V} (r : Reps K H ds xs) : ∀ p : List Nat,(∀ i∈p,i < ds.length)->Reps K H (p.map fun i=>ds.getD i .non) (p.map fun i=>xs.getD i .non)
 | [],_=>Reps.nil
 | i::p,h=>by
  have hi:=h i List.mem_cons_self
  obtain ⟨u,hu,ru⟩:=r.get' (List.getElem?_eq_getElem hi)
  refine Reps.cons ?_ (Reps.pick r p fun j hj=>h j (List.mem_cons_of_mem _ hj))
  show Rep K H (ds.getD i .non) (xs.getD i .non)
  rw [List.getD_eq_getElem?_getD,List.getElem?_eq_getElem hi,List.getD_eq_getElem?_getD,hu]
  exact ru
section
variable {X : Cx} {pins : List (Addr × Obj)} {σ : St} {H : Hp} {s : Shared}
theorem FV.of {t : Ty} {d : D} {x : V} {u : Value} (ht : t.ok d = true) (r : Rep X.K H d x) (q : RelV x u) : FV d u:=by
 cases t <;> cases d <;> simp [Ty.ok] at ht
 ·rw [r.of_str] at q; exact q
 ·rw [r.of_int] at q; exact q
theorem FVs.of : ∀ {ts : List Ty} {ds : List D} {xs : List V} {us : List Value},shOk ts ds = true->Reps X.K H ds xs->Vals xs us->FVs ds us
 | [],ds,_,_,ht,r,q=>by
  cases ds <;> simp [shOk] at ht
  rw [Reps] at r; subst r; cases q; exact .nil
 | t::ts,ds,_,_,ht,r,q=>by
  cases ds with
  | nil=>simp [shOk] at ht
  | cons d ds =>
   simp only [shOk,Bool.and_eq_true] at ht
   rw [Reps] at r
   obtain ⟨x,xs,rfl,r1,r2⟩:=r
   cases q with
   | cons q1 q2=>exact .cons (FV.of ht.1 r1 q1) (FVs.of ht.2 r2 q2)
noncomputable def TV (h : Heap) (es : List D) (u : Value) : Prop:=∃ a o its n,u = .ref a/\h.get? a = some o/\o.cls = .type "tuple" /\ o.data = .seq its n/\FVs es its.toList
theorem Inv.tv (I : Inv X pins σ H s) {ts : List Ty} {es : List D} {x : V} {u : Value} (ht : shOk ts es = true) (r : Rep X.K H (.tup es) x) (q : RelV x u) : TV s.heap es u:=by
 obtain ⟨p,xs,rfl,sq,rs⟩:=r.of_tup
 cases q
 obtain ⟨its,rv,⟨o,e,c,n,hd⟩,_⟩:=I.tuple sq
 exact ⟨p,o,its.toArray,n,rfl,e,c,hd,by simpa using FVs.of ht rs rv⟩
theorem zno {ds : List D} {xs : List V} {us : List Value} (rs : Reps X.K H ds xs) (rv : Vals xs us) {i : Nat} (hi : i < us.length) : ∃ x,Rep X.K H (ds.getD i .non) x/\RelV x (us.getD i Value.none)/\ds.getD i .non∈ds:=by
 have l1:=rs.length
 have l2:=rv.length
 obtain ⟨x,hx,r⟩:=rs.get' (List.getElem?_eq_getElem (show i < ds.length by lia))
 obtain ⟨u,hu,ru⟩:=rv.get hx
 refine ⟨x,?_,?_,?_⟩
 ·rw [List.getD_eq_getElem?_getD,List.getElem?_eq_getElem (show i < ds.length by lia)]; exact r
 ·rw [List.getD_eq_getElem?_getD,hu]; exact ru
 ·rw [List.getD_eq_getElem?_getD,List.getElem?_eq_getElem (show i < ds.length by lia)]; exact List.getElem_mem _
theorem zn6 {us : List Value} {v : Value} (h : v∈us) : ∃ i,i < us.length/\v = us.getD i Value.none:=by
 obtain ⟨i,hi,e⟩:=List.getElem_of_mem h
 exact ⟨i,hi,by rw [List.getD_eq_getElem?_getD,List.getElem?_eq_getElem hi]; exact e.symm⟩
noncomputable def Ty.tv : Ty->Value
 | .s=>.type "str"
 | .i=>.type "int"
noncomputable def yau (prog : Program) (w : World) (A : Around) (s : Shared) (vs : List Value) (key : Nat->Int) : Prop :=
 ∃ κ,(∀ (Q : SortKind->Shared->Prop) (E : Value->Shared->Prop),Q κ s->wpAny (model prog w) A (keyKind' vs.toArray) Q E s) /\
  ∀ i j (C : Bool->Shared->Prop),i < vs.length->j < vs.length->C (decide (key i < key j)) s->wpAny (model prog w) A (keyLt' κ (vs.getD i Value.none) (vs.getD j Value.none)) C (fun _ _=>False) s
theorem zp6 {h' : Heap} {ds : List D} {xs : List V} {us : List Value} {A' : Around} (I : Inv X pins σ H s) (rs : Reps X.K H ds xs) (rv : Vals xs us) (hal : zdo ds) (h2 : 2 <= us.length) (k : zdy s.heap h') :
  yau X.prog X.w A' { s with heap:=h' } us (rk ds):=by
 have l1:=rs.length
 have l2:=rv.length
 have flat : ∀ (t : Ty) (T0 : Value),(∀ d u,t.ok d = true->FV d u->typeOf u = pure T0)->(T0 != Value.type "tuple") = true->(T0 == T0) = true->(∀ d∈ds,t.ok d = true)->yau X.prog X.w A' { s with heap:=h' } us (rk ds):=fun t T0 hty hT1 hT2 ht=>by
  have fv : ∀ i,i < us.length->FV (ds.getD i .non) (us.getD i Value.none)/\t.ok (ds.getD i .non) = true:=fun i hi=>by
   obtain ⟨x,r,q,hm⟩:=zno rs rv hi
   exact ⟨FV.of (ht _ hm) r q,ht _ hm⟩
  refine ⟨oneType',fun Q E q=>kas_kind h2 (T:=T0) (fun v hv=>?_) hT1 hT2 q,fun i j C hi hj hC=>?_⟩
  ·obtain ⟨i,hi,rfl⟩:=zn6 hv
   obtain ⟨f,o⟩:=fv i hi
   rw [hty _ _ o f]
   exact .now
  ·obtain ⟨f1,o1⟩:=fv i hi
   obtain ⟨f2,o2⟩:=fv j hj
   rw [keyLt'_oneType]
   refine zs0 o1 o2 f1 f2 true ?_
   rw [zx5 (by lia)] at hC
   have e : ∀ d : D,t.ok d = true->d.ord = [d.fo]:=fun d hd=>by cases t <;> cases d <;> simp [Ty.ok] at hd <;> rfl
   rw [e _ o1,e _ o2] at hC
   have : decide ((ds.getD i .non).fo < (ds.getD j .non).fo) = decide ([(ds.getD i .non).fo] < [(ds.getD j .non).fo]):=by
    rw [Bool.eq_iff_iff,decide_eq_true_eq,decide_eq_true_eq]; exact (yay _ _).symm
   rw [this]; exact hC
 rcases hal with ht | ht | ⟨t,ts,ht⟩
 ·exact flat .s (.type "str") (fun d u hd f=>by cases d <;> simp [Ty.ok] at hd; obtain ⟨t,rfl⟩:=f; rfl) (by decide) (by decide) ht
 ·exact flat .i (.type "int") (fun d u hd f=>by cases d <;> simp [Ty.ok] at hd; obtain ⟨t,rfl⟩:=f; rfl) (by decide) (by decide) ht
 ·have tv : ∀ i, i < us.length -> ∃ es, ds.getD i .non = .tup es /\ shOk (t :: ts) es = true /\ TV h' es (us.getD i Value.none) := fun i hi => by
   obtain ⟨x,r,q,hm⟩:=zno rs rv hi
   obtain ⟨es,e,ho⟩:=ht _ hm
   rw [e] at r
   obtain ⟨a,o,its,n,eu,ho',hc,hd,fv⟩:=I.tv ho r q
   exact ⟨es,e,ho,a,o,its,n,eu,k a o ho',hc,hd,fv⟩
  obtain ⟨T0,hT0,hb,hbb⟩ : ∃ T0 : Value,(T0 = t.tv)/\(T0 != Value.type "tuple") = true/\(T0 == T0) = true:=⟨t.tv,rfl,by cases t <;> decide,by cases t <;> decide⟩
  have hfs : ∀ (l : List Value), (∀ v ∈ l, ∃ es, shOk (t :: ts) es = true /\ TV h' es v) -> ∃ fs, KatTups h' l fs /\ fs.length = l.length /\ ∀ f ∈ fs, typeOf f = pure T0 := by
   intro l
   induction l with
   | nil=>intro _; exact ⟨[],KatTups.nil,rfl,by simp⟩
   | cons v l ih =>
    intro h
    obtain ⟨fs,h1,h2,h3⟩:=ih fun u hu=>h u (List.mem_cons_of_mem _ hu)
    obtain ⟨es,ho,a,o,its,n,rfl,hg,hc,hd,fv⟩:=h v List.mem_cons_self
    cases es with
    | nil=>simp [shOk] at ho
    | cons d es =>
     simp only [shOk,Bool.and_eq_true] at ho
     cases hits : its.toList with
     | nil=>rw [hits] at fv; cases fv
     | cons f fr =>
      rw [hits] at fv
      cases fv with
      | cons fd _ =>
       have h0 : its[0]? = some f:=by
        have : its.toList[0]? = some f:=by rw [hits]; rfl
        simpa using this
       refine ⟨f::fs,KatTups.cons hg hc hd h0 h1,by simp [h2],fun g hgm=>?_⟩
       rcases List.mem_cons.mp hgm with rfl | hgm
       ·cases t <;> cases d <;> simp [Ty.ok] at ho
        ·obtain ⟨t',rfl⟩:=fd; rw [hT0]; rfl
        ·obtain ⟨t',rfl⟩:=fd; rw [hT0]; rfl
       ·exact h3 g hgm
  obtain ⟨fs,hk1,hk2,hk3⟩:=hfs us fun v hv=>by
   obtain ⟨i,hi,rfl⟩:=zn6 hv
   obtain ⟨es,_,ho,tvv⟩:=tv i hi
   exact ⟨es,ho,tvv⟩
  refine ⟨tuples' (T0 != Value.type "tuple"),fun Q E q=>kat_kind (s:={ s with heap:=h' }) (T:=T0) hk1 (by lia) (fun v hv=>?_) hbb q,fun i j C hi hj hC=>?_⟩
  ·rw [hk3 v hv]; exact .now
  ·obtain ⟨es,e1,o1,a,o,its,n,eu,hg,hc,hd,fv⟩:=tv i hi
   obtain ⟨es',e1',o1',a',o',its',n',eu',hg',hc',hd',fv'⟩:=tv j hj
   rw [eu,eu']
   rw [zx5 (by lia),e1,e1'] at hC
   have sz : ∀ {ts : List Ty} {es : List D} {us : List Value},shOk ts es = true->FVs es us->us.length = ts.length:=by
    intro ts
    induction ts with
    | nil=>intro es us h f; cases f with
     | nil=>rfl
     | cons _ _=>simp [shOk] at h
    | cons t ts ih=>intro es us h f; cases f with
     | nil=>simp [shOk] at h
     | cons _ f=>simp only [shOk,Bool.and_eq_true] at h; simp [ih h.2 f]
   have z1:=sz o1 fv
   have z2:=sz o1' fv'
   refine kat_lt (s:={ s with heap:=h' }) hg hd hg' hd' ?_
   rw [decide_eq_false (by simp at z1 z2; lia)]
   exact zon 0 o1 o1' fv fv' hC
theorem zf7 {r : Nat->Int} {us : List Value} (h : us.length < 2) : OutK r us us.toArray:=by
 refine ⟨List.range us.length,List.Perm.refl _,?_,?_⟩
 ·match us,h with
  | [],_=>rfl
  | [v],_=>rfl
 ·match us,h with
  | [],_=>simp
  | [v],_=>simp
end
end L2
set_option maxHeartbeats 2000000
namespace L2
open PySem PySem.W PySem.Spec PyProof.Rows
noncomputable def cutD (xs : List D) (lo hi : Option Int) : List D:=(xs.drop (HT.sIx xs.length 0 lo)).take (HT.sIx xs.length xs.length hi - HT.sIx xs.length 0 lo)
theorem Reps.cut {K : PySem.W.Frag} {H : Hp} {ds : List D} {xs : List V} (lo hi : Option Int) (h : Reps K H ds xs) : Reps K H (cutD ds lo hi) (cutV xs lo hi):=by
 unfold cutD cutV
 rw [<- h.length]
 exact (h.drop _).take _
section
variable {K : PySem.W.Frag} {G H₀ L : Hp} {ss : List Sl} {t ta tb : TE} {d : D} {ds : List D}
theorem zf5 (a : EvL K G H₀ L ss t ds) : Ev K G H₀ L ss (tCB (fun xs H Q=>∃ p ys,xs = [.ref p]/\(SqL K H p ys \/ SqT K H p ys)/\Q (.int ys.length) H) (zbh t tNil)) (.int ds.length):=fun F H σ Q S q =>
 a F H σ _ S fun p vs F' H' e sq r=>⟨p,vs,rfl,.inl sq,q _ _ _ e (by rw [<- r.length]; exact Rep.int)⟩
theorem zu3 (a : EvL K G H₀ L ss t ds) : EvO K G H₀ L ss (tCB (fun xs H Q=>∃ p ys,xs = [.ref p]/\(SqL K H p ys \/ SqT K H p ys) /\ ∀ l,H l = none->Q (.ref l) (upd H l (.lst ys))) (zbh t tNil)) ds:=fun F H σ Q S q =>
 a F H σ _ S fun p vs F' H' e sq r=>⟨p,vs,rfl,.inl sq,fun l hl=>q l vs F' _ (e.newO hl) (e.hh.free hl) (e.fh.free hl) zae r⟩
noncomputable def EvP (K : PySem.W.Frag) (G H₀ L : Hp) (ss : List Sl) (t : TO) (o : Option Int) : Prop:=∀ F H σ (Q : Option Int->Hp->Prop),Sat K G H₀ L F H σ ss->(∀ F' H',Ext F H F' H'->Q o H')->t σ H Q
theorem znl {i : Int} (a : EvB K G H₀ L ss t (.int i)) : EvP K G H₀ L ss (zze t) (some i):=fun F H σ Q S q=>a F H σ _ S fun v F' H' e r=>⟨i,r.of_int,q _ _ e⟩
theorem zyv {tl th : TO} {lo hi : Option Int} (a : EvL K G H₀ L ss t ds) (b : EvP K G H₀ L ss tl lo) (c : EvP K G H₀ L ss th hi) : EvO K G H₀ L ss (tSl (rSlL K) t tl th) (cutD ds lo hi):=fun F H σ Q S q =>
 a F H σ _ S fun p vs F1 H1 e1 sq r=>b F1 H1 σ _ (S.ext2 e1) fun F2 H2 e2=>c F2 H2 σ _ ((S.ext2 e1).ext2 e2) fun F3 H3 e3 =>
  ⟨p,vs,rfl,SqL.same e3.hh (SqL.same e2.hh sq),fun l hl=>q l _ F3 _ (((e1.trans e2).trans e3).newO hl) (((e1.trans e2).trans e3).hh.free hl) (((e1.trans e2).trans e3).fh.free hl) zae (((r.mono e2.gf).mono e3.gf).cut lo hi)⟩
end
section
variable {K : PySem.W.Frag} {G H₀ L : Hp} {ss : List Sl} {t ta tb : TE} {d : D} {ds : List D}
theorem ya1 (a : EvL K G H₀ L ss t ds) : Ev K G H₀ L ss (tCB (fun xs H Q=>∃ p ys,xs = [.ref p,.ty "list"]/\SqL K H p ys/\Q (.bl true) H) (zbh t (zbh (tC (.ty "list")) tNil))) (.bl true):=fun F H σ Q S q =>
 a F H σ _ S fun p vs F1 H1 e1 sq r1=>⟨p,vs,rfl,sq,q _ _ _ e1 Rep.bl⟩
end
end L2
namespace L2
open PySem PySem.W PySem.Spec PyProof.Rows
noncomputable def rAny (K : PySem.W.Frag) : List V->Hp->VK->Prop:=fun xs H Q=>∃ p,∃ bs : List Bool,xs = [.ref p]/\SqL K H p (bs.map V.bl)/\Q (.bl (bs.any id)) H
section
variable {X : Cx} {prog : Program} {w : World} {A : Around} {E : Value->Shared->Prop} {s : Shared}
theorem zvz {h' : Heap} {o : Obj} {k : Nat} (hk : ∀ b x,b ∉ [s.heap.objs.size]->(s.heap.push o).get? b = some x->h'.get? b = some x) : zdy s.heap h':=fun b x e=>by
 refine hk b x (fun hm=>?_) (Heap.get?_push_of_some _ e)
 have h1:=Heap.lt_size e
 rw [List.mem_singleton.mp hm] at h1
 exact Nat.lt_irrefl _ h1
theorem zp1 : ∀ {bs : List Bool} {us : List Value},Vals (bs.map V.bl) us->us = bs.map Value.bool
 | [],_,.nil=>rfl
 | b::bs,_,.cons r1 r2=>by rw [zp1 r2]; cases r1; rfl
theorem zo2 : ∀ bs : List Bool,((List.range bs.length).any fun i=>(bs[i]?).getD false) = bs.any id:=fun bs=>by
 rw [Bool.eq_iff_iff,List.any_eq_true,List.any_eq_true]
 constructor
 ·rintro ⟨i,hi,h⟩
  have hi':=List.mem_range.mp hi
  rw [List.getElem?_eq_getElem hi',Option.getD_some] at h
  exact ⟨_,List.getElem_mem hi',h⟩
 ·rintro ⟨b,hb,h⟩
  obtain ⟨i,hi,e⟩:=List.getElem_of_mem hb
  refine ⟨i,List.mem_range.mpr hi,?_⟩
  rw [List.getElem?_eq_getElem hi,Option.getD_some,e]; exact h
theorem zvm (hc : X.calm = true) : zcg X (.builtin "any") (rAny X.K):=by
 intro pins s σ H xs us Q I r h
 obtain ⟨p,bs,rfl,hq,q⟩:=h
 obtain ⟨u,rfl,ru⟩:=zf8 r
 cases ru
 obtain ⟨its,rv,pl,_⟩:=I.list hq
 obtain rfl:=zp1 rv
 have hl:=pl.isList
 have hlt : p < s.heap.objs.size:=by obtain ⟨_,e,_⟩:=hl; exact Heap.lt_size e
 refine call_any_walk (wpAny_pyIter_list hl ⟨s.heap.objs.size,[s.heap.objs.size,p],[s.heap.objs.size],(bs.map Value.bool).toArray.size,_,_,fun i=>(bs[i]?).getD false,rfl,
  Walks.list (A:=X.A.in1) (I.ok.hd hc) _ p (Nat.ne_of_lt hlt) _,⟨⟨_,Heap.get?_push_size _ rfl,rfl,rfl⟩,hl.push _⟩,fun i v s' Q' E' hP hQ=>?_,fun h' tk hk=>?_⟩)
 ·have hP' : (bs.map Value.bool)[i]? = some v:=by simpa using hP
  rw [List.getElem?_map] at hP'
  cases hb : bs[i]? with
  | none=>rw [hb] at hP'; cases hP'
  | some b =>
   rw [hb] at hP'
   cases hP'
   simp only [hb,Option.getD_some] at hQ
   exact wpAny_truthy_bool hQ
 ·have e : ((List.range (bs.map Value.bool).toArray.size).any fun i=>(bs[i]?).getD false) = bs.any id:=by
   rw [List.size_toArray,List.length_map]; exact zo2 bs
  rw [e]
  exact ⟨.bl _,H,I.kept (zvz (k:=0) hk),rfl,q⟩
noncomputable def two (x y : Str) (t u : Tok) : Array Value:=#[.str x t,.str y u]
theorem znq {x y : Str} {t u : Tok} : ∀ (i : Nat) (v : Value),(two x y t u)[i]? = some v -> ∃ k,v = .str (if i = 0 then x else y) k
 | 0,v,h=>⟨t,by simp [two] at h; simp [h.symm]⟩
 | 1,v,h=>⟨u,by simp [two] at h; simp [h.symm]⟩
 | i + 2,v,h=>by simp [two] at h
theorem zke {x y : Str} {t u : Tok} {Q : Value->Shared->Prop} (hh : A.handled = none)
  (h : ∀ h' tk,zdy s.heap h'->Q (if y.cps.toList < x.cps.toList then .str y u else .str x t) { s with heap:=h',toks:=tk }) : wpAny (model prog w) A (call (.builtin "min") [.str x t,.str y u]) Q E s:=by
 have hT : (s.heap.push { cls:=.type "tuple", data:=.seq (two x y t u) }).IsTuple s.heap.objs.size (two x y t u):=⟨_,Heap.get?_push_size _ rfl,rfl,0,rfl⟩
 have hsz : (s.heap.push { cls:=.type "tuple", data:=.seq (two x y t u) }).objs.size = s.heap.objs.size + 1:=Heap.size_push ..
 refine call_min_two (wpAny_pyIter_tuple hT ?_)
 refine ⟨_,[_,s.heap.objs.size],[_],_,_,_,fun i j=>decide ((if i = 0 then x else y).cps.toList < (if j = 0 then x else y).cps.toList),rfl,Walks.tuple (A:=A.in1) hh _ s.heap.objs.size (Nat.ne_of_lt (by rw [Heap.size_push]; lia)) (two x y t u),⟨⟨_,Heap.get?_push_size _ rfl,rfl,rfl⟩,hT.push _⟩,fun c hc=>?_,by simp [two],?_,fun v h' tk hP hk=>?_⟩
 ·show c < ((s.heap.push _).push _).objs.size
  rw [Heap.size_push,Heap.size_push]
  simp only [List.mem_cons,List.not_mem_nil,or_false] at hc
  rcases hc with rfl | rfl
  ·rw [Heap.size_push]; exact Nat.lt_succ_self _
  ·exact Nat.lt_succ_of_lt (Nat.lt_succ_self _)
 ·intro i j vi vj s' Q' E' hi hj hq
  obtain ⟨k1,rfl⟩:=znq i vi hi
  obtain ⟨k2,rfl⟩:=znq j vj hj
  exact richCompare_gives (op:=.Lt) (typeIs_str _ _ _) (typeIs_str _ _ _) F.slot_str_lt F.entry_str_lt (F.args_str_lt_2 _ _) (gives_str_lt _ _ _ _) (fun e=>nomatch e) hq
 ·have hold : zdy s.heap h':=fun c o e=>by
   have h1:=Heap.lt_size e
   refine hk c o (fun hm=>?_) (Heap.get?_push_of_some _ (Heap.get?_push_of_some _ e))
   rw [List.mem_singleton.mp hm,Heap.size_push] at h1; exact absurd (Nat.lt_of_succ_lt h1) (Nat.lt_irrefl _)
  have:=h h' tk hold
  have hsz2 : (two x y t u).size - 1 = 1:=by simp [two]
  have hP' : (two x y t u)[argBest (fun i j=>decide ((if i = 0 then x else y).cps.toList < (if j = 0 then x else y).cps.toList)) 1]? = some v:=by rw [<- hsz2]; exact hP
  by_cases hyx : y.cps.toList < x.cps.toList
  ·have e : argBest (fun i j=>decide ((if i = 0 then x else y).cps.toList < (if j = 0 then x else y).cps.toList)) 1 = 1:=by simp [argBest,hyx]
   rw [e] at hP'
   rw [if_pos hyx] at this
   simp [two] at hP'
   rw [<- hP']; exact this
  ·have e : argBest (fun i j=>decide ((if i = 0 then x else y).cps.toList < (if j = 0 then x else y).cps.toList)) 1 = 0:=by simp [argBest,hyx]
   rw [e] at hP'
   rw [if_neg hyx] at this
   simp [two] at hP'
   rw [<- hP']; exact this
theorem zka {x y : Str} {t u : Tok} {Q : Value->Shared->Prop} (hh : A.handled = none)
  (h : ∀ h' tk,zdy s.heap h'->Q (if x.cps.toList < y.cps.toList then .str y u else .str x t) { s with heap:=h',toks:=tk }) : wpAny (model prog w) A (call (.builtin "max") [.str x t,.str y u]) Q E s:=by
 have hT : (s.heap.push { cls:=.type "tuple", data:=.seq (two x y t u) }).IsTuple s.heap.objs.size (two x y t u):=⟨_,Heap.get?_push_size _ rfl,rfl,0,rfl⟩
 have hsz : (s.heap.push { cls:=.type "tuple", data:=.seq (two x y t u) }).objs.size = s.heap.objs.size + 1:=Heap.size_push ..
 refine call_max_two (wpAny_pyIter_tuple hT ?_)
 refine ⟨_,[_,s.heap.objs.size],[_],_,_,_,fun i j=>decide ((if j = 0 then x else y).cps.toList < (if i = 0 then x else y).cps.toList),rfl,Walks.tuple (A:=A.in1) hh _ s.heap.objs.size (Nat.ne_of_lt (by rw [Heap.size_push]; lia)) (two x y t u),⟨⟨_,Heap.get?_push_size _ rfl,rfl,rfl⟩,hT.push _⟩,fun c hc=>?_,by simp [two],?_,fun v h' tk hP hk=>?_⟩
 ·show c < ((s.heap.push _).push _).objs.size
  rw [Heap.size_push,Heap.size_push]
  simp only [List.mem_cons,List.not_mem_nil,or_false] at hc
  rcases hc with rfl | rfl
  ·rw [Heap.size_push]; exact Nat.lt_succ_self _
  ·exact Nat.lt_succ_of_lt (Nat.lt_succ_self _)
 ·intro i j vi vj s' Q' E' hi hj hq
  obtain ⟨k1,rfl⟩:=znq i vi hi
  obtain ⟨k2,rfl⟩:=znq j vj hj
  exact richCompare_gives (op:=.Gt) (typeIs_str _ _ _) (typeIs_str _ _ _) F.slot_str_gt F.entry_str_gt (F.args_str_gt_2 _ _) (gives_str_gt _ _ _ _) (fun e=>nomatch e) hq
 ·have hold : zdy s.heap h':=fun c o e=>by
   have h1:=Heap.lt_size e
   refine hk c o (fun hm=>?_) (Heap.get?_push_of_some _ (Heap.get?_push_of_some _ e))
   rw [List.mem_singleton.mp hm,Heap.size_push] at h1; exact absurd (Nat.lt_of_succ_lt h1) (Nat.lt_irrefl _)
  have:=h h' tk hold
  have hsz2 : (two x y t u).size - 1 = 1:=by simp [two]
  have hP' : (two x y t u)[argBest (fun i j=>decide ((if j = 0 then x else y).cps.toList < (if i = 0 then x else y).cps.toList)) 1]? = some v:=by rw [<- hsz2]; exact hP
  by_cases hyx : x.cps.toList < y.cps.toList
  ·have e : argBest (fun i j=>decide ((if j = 0 then x else y).cps.toList < (if i = 0 then x else y).cps.toList)) 1 = 1:=by simp [argBest,hyx]
   rw [e] at hP'
   rw [if_pos hyx] at this
   simp [two] at hP'
   rw [<- hP']; exact this
  ·have e : argBest (fun i j=>decide ((if j = 0 then x else y).cps.toList < (if i = 0 then x else y).cps.toList)) 1 = 0:=by simp [argBest,hyx]
   rw [e] at hP'
   rw [if_neg hyx] at this
   simp [two] at hP'
   rw [<- hP']; exact this
theorem zqw (hc : X.calm = true) : zcg X (.builtin "min") (fun xs H Q=>∃ l m : List Nat,xs = [.str (T l),.str (T m)]/\Q (.str (T (if m < l then m else l))) H):=by
 intro pins s σ H xs us Q I r h
 obtain ⟨l,m,rfl,q⟩:=h
 obtain ⟨u,w',rfl,⟨t,rfl⟩,⟨t',rfl⟩⟩:=zh1 r
 refine zke (I.ok.hd hc) fun h' tk k=>⟨_,H,I.kept k,?_,q⟩
 rw [zna,zna]
 split <;> exact ⟨_,rfl⟩
theorem zqj (hc : X.calm = true) : zcg X (.builtin "max") (fun xs H Q=>∃ l m : List Nat,xs = [.str (T l),.str (T m)]/\Q (.str (T (if l < m then m else l))) H):=by
 intro pins s σ H xs us Q I r h
 obtain ⟨l,m,rfl,q⟩:=h
 obtain ⟨u,w',rfl,⟨t,rfl⟩,⟨t',rfl⟩⟩:=zh1 r
 refine zka (I.ok.hd hc) fun h' tk k=>⟨_,H,I.kept k,?_,q⟩
 rw [zna,zna]
 split <;> exact ⟨_,rfl⟩
end
end L2
namespace L2
open PySem PySem.W PySem.Spec PyProof.Rows PySem.Calls
open PySem.MeetsSeq PySem.MeetsSeq2 PySem.MeetsSeq3
section
variable {K : PySem.W.Frag} {G H₀ L : Hp} {ss : List Sl} {t ta tb : TE} {d : D} {ds es : List D}
theorem Reps.bools {H : Hp} : ∀ {bs : List Bool} {vs : List V},Reps K H (bs.map D.bl) vs->vs = bs.map V.bl
 | [],vs,h=>by rw [List.map_nil,Reps] at h; exact h
 | b::bs,vs,h=>by
  rw [List.map_cons,Reps] at h
  obtain ⟨x,xs,rfl,h1,h2⟩:=h
  rw [h1.of_bl,h2.bools]; rfl
theorem zzf {bs : List Bool} (a : EvL K G H₀ L ss t (bs.map D.bl)) : Ev K G H₀ L ss (tCB (rAny K) (zbh t tNil)) (.bl (bs.any id)):=fun F H σ Q S q =>
 a F H σ _ S fun p vs F1 H1 e1 sq r1=>⟨p,bs,rfl,by rw [r1.bools] at sq; exact sq,q _ _ _ e1 Rep.bl⟩
noncomputable def minL (l m : List Nat) : List Nat:=if m < l then m else l
noncomputable def maxL (l m : List Nat) : List Nat:=if l < m then m else l
theorem zxe {l m : List Nat} (a : EvB K G H₀ L ss ta (.str l)) (b : EvB K G H₀ L ss tb (.str m)) : Ev K G H₀ L ss (tCB (fun xs H Q=>∃ l m : List Nat,xs = [.str (T l),.str (T m)]/\Q (.str (T (if m < l then m else l))) H) (zbh ta (zbh tb tNil))) (.str (minL l m)):=fun F H σ Q S q =>
 a F H σ _ S fun v F1 H1 e1 r1=>b F1 H1 σ _ (S.ext2 e1) fun v2 F2 H2 e2 r2=>⟨l,m,by rw [r1.of_str,r2.of_str],q _ _ _ (e1.trans e2) (Rep.str (by unfold minL; split; exact r2.asc; exact r1.asc))⟩
theorem zyc {l m : List Nat} (a : EvB K G H₀ L ss ta (.str l)) (b : EvB K G H₀ L ss tb (.str m)) : Ev K G H₀ L ss (tCB (fun xs H Q=>∃ l m : List Nat,xs = [.str (T l),.str (T m)]/\Q (.str (T (if l < m then m else l))) H) (zbh ta (zbh tb tNil))) (.str (maxL l m)):=fun F H σ Q S q =>
 a F H σ _ S fun v F1 H1 e1 r1=>b F1 H1 σ _ (S.ext2 e1) fun v2 F2 H2 e2 r2=>⟨l,m,by rw [r1.of_str,r2.of_str],q _ _ _ (e1.trans e2) (Rep.str (by unfold maxL; split; exact r2.asc; exact r1.asc))⟩
end
end L2
namespace L2
open PySem PySem.W PySem.Spec PyProof.Rows
noncomputable def slots (n : Nat) (ds : List D) : List Sl:=ds.map Sl.d++List.replicate (n - ds.length) .un
section
variable {K : PySem.W.Frag} {H : Hp} {vs : List V} {Q : VK} {X : XK} {N : List Str} {t : TS} {pre : List D->Prop}
theorem zcs {G : Hp} {ds : List D} (sm : Same G H) (r : Reps K G ds vs) (hN : vs.length <= N.length) : Sat K G H G G H (start N vs) (slots N.length ds):=by
 have hl:=r.length
 have ads : ∀ (i : Nat) s,(slots N.length ds)[i]? = some s->s.ads = []:=fun i s hs=>by
  have hm:=List.mem_of_getElem? hs
  unfold slots at hm
  rcases List.mem_append.mp hm with h | h
  ·obtain ⟨d,_,rfl⟩:=List.mem_map.mp h; rfl
  ·rw [List.eq_of_mem_replicate h]; rfl
 refine ⟨Ext.refl sm,Same.refl _,?_,fun i s hs=>?_,fun i s hs=>by rw [ads i s hs]; exact List.nodup_nil,fun i j s s' _ hs _ p hp=>by rw [ads i s hs] at hp; cases hp⟩
 ·unfold start slots; simp; lia
 ·by_cases hi : i < ds.length
  ·have e : (slots N.length ds)[i]? = some (.d ds[i]):=by
    unfold slots
    rw [List.getElem?_append_left (by simpa using hi),List.getElem?_map,List.getElem?_eq_getElem hi]; rfl
   rw [e] at hs
   cases hs
   obtain ⟨v,hv,rv⟩:=r.get' (List.getElem?_eq_getElem hi)
   refine ⟨v,?_,rv⟩
   unfold start
   rw [List.getD_eq_getElem?_getD,List.getElem?_append_left (by simp; lia),List.getElem?_map,hv]; rfl
  ·have hm : s = .un:=by
    unfold slots at hs
    rw [List.getElem?_append_right (by simp; lia)] at hs
    exact List.eq_of_mem_replicate (List.mem_of_getElem? hs)
   rw [hm]; trivial
theorem zfx {res : List D->D} (h : SpD K pre res vs H Q X) (hN : vs.length <= N.length) (body : ∀ G ds,pre ds->RtD K G H Q (res ds)->Go K G H G { nx:=fun _ H'=>Q .non H',rt:=Q } (slots N.length ds) t) : t { nx:=fun _ H'=>Q .non H',rt:=Q } (start N vs) H:=by
 obtain ⟨G,ds,sm,r,hp,q⟩:=h
 exact body G ds hp (fun v F H' e r=>q v F H' e r) G H _ (zcs sm r hN)
theorem zws {res : List D->List D} (h : SpO K pre res vs H Q X) (hN : vs.length <= N.length) (body : ∀ G ds,pre ds->RtO K G H Q (res ds)->Go K G H G { nx:=fun _ H'=>Q .non H',rt:=Q } (slots N.length ds) t) : t { nx:=fun _ H'=>Q .non H',rt:=Q } (start N vs) H:=by
 obtain ⟨G,ds,sm,r,hp,q⟩:=h
 exact body G ds hp (fun p ws F H' e h1 h2 h3 r=>q p ws F H' e h1 h2 h3 r) G H _ (zcs sm r hN)
theorem zbt {res : List D->D} {n : Nat} (hpre : ∀ ds,pre ds->ds.length = n) (h : SpD K pre res vs H Q X) : vs.length = n:=by
 obtain ⟨G,ds,sm,r,hp,q⟩:=h
 rw [<- r.length]; exact hpre ds hp
theorem zkb {res : List D->List D} {n : Nat} (hpre : ∀ ds,pre ds->ds.length = n) (h : SpO K pre res vs H Q X) : vs.length = n:=by
 obtain ⟨G,ds,sm,r,hp,q⟩:=h
 rw [<- r.length]; exact hpre ds hp
end
section
variable {K : PySem.W.Frag} {G H₀ L : Hp} {ss : List Sl} {t ta tb : TE} {d : D} {ds es : List D} {i j : Int}
theorem zfr (a : EvB K G H₀ L ss ta (.int i)) (b : EvB K G H₀ L ss tb (.int j)) (h : 0 < j) : Ev K G H₀ L ss (tOp (rI (fun _ j=>0 < j) fun i j=>.int (i % j)) ta tb) (.int (i % j)):=zr4 (C:=fun _ j=>0 < j) (g:=fun i j=>i % j) a b h
theorem zy6 (a : EvB K G H₀ L ss ta (.int i)) (b : EvB K G H₀ L ss tb (.int j)) (h : CMul i j) : Ev K G H₀ L ss (tOp (rI CMul fun i j=>.int (i * j)) ta tb) (.int (i * j)):=zr4 (C:=CMul) (g:=fun i j=>i * j) a b h
theorem zkg (a : EvB K G H₀ L ss ta (.int i)) (b : EvB K G H₀ L ss tb (.int j)) (h : CDiv i j) : Ev K G H₀ L ss (tOp (rI CDiv fun i j=>.int (i / j)) ta tb) (.int (i / j)):=zr4 (C:=CDiv) (g:=fun i j=>i / j) a b h
theorem ybd (a : EvB K G H₀ L ss ta (.int i)) (b : EvB K G H₀ L ss tb (.int j)) : Ev K G H₀ L ss (tOp (rI0 fun i j=>.bl (decide (i < j))) ta tb) (.bl (decide (i < j))):=zmq (g:=fun i j=>decide (i < j)) a b
end
theorem zwq (n d : Nat) {a : Int} (h : 0 <= a) : HT.sIx n d (some a) = min a.toNat n:=by
 show (if a < 0 then (a + (n : Int)).toNat else min a.toNat n) = _
 rw [if_neg (by lia)]
theorem zt9 (m : List D) {a b : Int} (h : 0 <= a) (h2 : a <= b) : cutD m (some a) (some b) = (m.drop a.toNat).take (b.toNat - a.toNat):=by
 unfold cutD
 rw [zwq _ _ h,zwq _ _ (by lia)]
 by_cases h3 : a.toNat <= m.length
 ·rw [Nat.min_eq_left h3]
  by_cases h4 : b.toNat <= m.length
  ·rw [Nat.min_eq_left h4]
  ·rw [Nat.min_eq_right (by lia),List.take_of_length_le (by simp),List.take_of_length_le (by simp; lia)]
 ·rw [List.drop_eq_nil_of_le (as:=m) (i:=a.toNat) (by lia),List.drop_eq_nil_of_le (by omega)]; simp
end L2
namespace L2
open PySem PySem.W PySem.Spec PyProof.Rows
theorem zvj {α β : Type} (xs : List α) (z : α) (p : α->Bool) (f : α->β) : ((List.range xs.length).filter fun i=>p (xs.getD i z)).map (fun i=>f (xs.getD i z)) = (xs.filter p).map f:=by
 have e : xs = (List.range xs.length).map fun i=>xs.getD i z:=by
  refine List.ext_getElem? fun i=>?_
  rw [List.getElem?_map]
  by_cases hi : i < xs.length
  ·rw [List.getElem?_range hi,List.getElem?_eq_getElem hi]; simp [List.getD_eq_getElem?_getD,hi]
  ·rw [List.getElem?_eq_none (by lia),List.getElem?_eq_none (by simp; lia)]; rfl
 conv=>rhs; rw [e]
 rw [List.filter_map,List.map_map]
 rfl
section
variable {K : PySem.W.Frag} {G H₀ L : Hp} {ss : List Sl}
theorem zf3 {α : Type} (xs : List α) (enc : α->D) (p : α->Bool) (f : α->D) {tl : TE} {g : TG} {tt : TT} {te : TE} {nt : Nat} {cs : List Nat} (a : EvL K G H₀ L ss tl (xs.map enc)) (hk : GK nt g) (hc : cs.Nodup) (hz : xs.length < sizeLine)
  (hs : ∀ x∈xs,∃ ss',Tg K G H₀ L g (enc x) (lcSl nt cs ss) ss'/\EvT K G H₀ L ss' tt (p x)/\(p x = true->Ev K G H₀ L ss' te (f x))) :
  EvO K G H₀ L ss (tLC nt cs (zqd K tl) g tt te) ((xs.filter p).map f):=by
 cases xs with
 | nil =>
  have:=zsm (p:=fun _=>true) (f:=fun _=>.non) (tt:=tt) (te:=te) (znp a) hk hc (by simpa using hz) (fun i hi=>by simp at hi)
  simpa using this
 | cons z zs =>
  have hl : ((z::zs).map enc).length = (z::zs).length:=by simp
  have:=zsm (p:=fun i=>p ((z::zs).getD i z)) (f:=fun i=>f ((z::zs).getD i z)) (tt:=tt) (te:=te) (znp a) hk hc (by rw [hl]; exact hz) (fun i hi=>by
   rw [hl] at hi
   have hm : (z::zs).getD i z∈(z::zs):=by
    rw [List.getD_eq_getElem?_getD,List.getElem?_eq_getElem hi]; exact List.getElem_mem hi
   have e : ((z::zs).map enc).getD i .non = enc ((z::zs).getD i z):=by
    rw [List.getD_eq_getElem?_getD,List.getElem?_map,List.getD_eq_getElem?_getD,List.getElem?_eq_getElem hi]; rfl
   rw [e]
   exact hs _ hm)
  rw [hl,zvj] at this
  exact this
theorem zt3 : EvT K G H₀ L ss zup true:=fun F H σ Q S q=>q _ _ (Ext.refl S.ext.fh)
theorem zmc {α : Type} (xs : List α) (enc : α->D) (f : α->D) {tl : TE} {g : TG} {te : TE} {nt : Nat} {cs : List Nat} (a : EvL K G H₀ L ss tl (xs.map enc)) (hk : GK nt g) (hc : cs.Nodup) (hz : xs.length < sizeLine)
  (hs : ∀ x∈xs,∃ ss',Tg K G H₀ L g (enc x) (lcSl nt cs ss) ss'/\Ev K G H₀ L ss' te (f x)) :
  EvO K G H₀ L ss (tLC nt cs (zqd K tl) g zup te) (xs.map f):=by
 have:=zf3 xs enc (fun _=>true) f a hk hc hz (tt:=zup) (te:=te) fun x hx=>by
  obtain ⟨ss',h1,h2⟩:=hs x hx
  exact ⟨ss',h1,zt3,fun _=>h2⟩
 rw [show xs.filter (fun _=>true) = xs from List.filter_eq_self.mpr (by simp)] at this
 exact this
theorem zxd {α : Type} {xs : List α} {g : α->Bool} {t : TE} (b : EvL K G H₀ L ss t (xs.map fun x=>D.bl (g x))) : Ev K G H₀ L ss (tCB (rAny K) (zbh t tNil)) (.bl (xs.any g)):=by
 have:=zzf (K:=K) (G:=G) (H₀:=H₀) (L:=L) (ss:=ss) (t:=t) (bs:=xs.map g) (by rw [List.map_map]; exact b)
 rw [List.any_map] at this
 exact this
theorem zdb {x : Str} (ha : ∀ c∈x.cps.toList,c < 128) : Ev K G H₀ L ss (tC (.str x)) (.str x.cps.toList):=ya0 (by cases x; rfl) ha
end
end L2
set_option maxHeartbeats 4000000
namespace L2T
open PySem
theorem zi0 (xs : Array Nat) (hp : xs.toList.Pairwise (· < ·)) (i k x y : Nat) (hik : i < k) (hx : xs[i]? = some x) (hy : xs[k]? = some y) : x < y:=by
 rw [<- Array.getElem?_toList] at hx hy
 obtain ⟨hi',hx'⟩:=List.getElem?_eq_some_iff.mp hx
 obtain ⟨hk',hy'⟩:=List.getElem?_eq_some_iff.mp hy
 have h:=List.pairwise_iff_getElem.mp hp i k hi' hk' hik
 rw [hx',hy'] at h; exact h
theorem zul (xs : Array Nat) (j : Nat) (hp : xs.toList.Pairwise (· < ·)) : ∀ (fuel lo hi : Nat),hi - lo <= fuel->lo <= hi->hi <= xs.size ->
  (∀ i x,i < lo->xs[i]? = some x->x < j)->(∀ i x,hi <= i->xs[i]? = some x->j <= x) ->
  (SetTable.below.go xs j fuel lo hi <= xs.size)/\(∀ i x,i < SetTable.below.go xs j fuel lo hi->xs[i]? = some x->x < j)/\(∀ i x,SetTable.below.go xs j fuel lo hi <= i->xs[i]? = some x->j <= x):=by
 intro fuel
 induction fuel with
 | zero =>
  intro lo hi hf hl hs h1 h2
  have : lo = hi:=by lia
  subst this
  exact ⟨hs,h1,h2⟩
 | succ fuel ih =>
  intro lo hi hf hl hs h1 h2
  unfold SetTable.below.go
  by_cases hlt : lo < hi
  ·rw [if_pos hlt]
   have hm : (lo + hi) / 2 < xs.size:=by lia
   have hgm : xs[(lo + hi) / 2]? = some xs[(lo + hi) / 2]:=Array.getElem?_eq_getElem hm
   have hgd : xs.getD ((lo + hi) / 2) j = xs[(lo + hi) / 2]:=by simp [Array.getD,hm]
   have hmono:=zi0 xs hp
   dsimp only
   rw [hgd]
   by_cases hc : xs[(lo + hi) / 2] < j
   ·rw [if_pos hc]
    refine ih _ _ (by omega) (by lia) hs ?_ h2
    intro i x hi' hx
    by_cases he : i = (lo + hi) / 2
    ·subst he; rw [hgm] at hx; cases hx; exact hc
    ·have:=hmono i ((lo + hi) / 2) x _ (by lia) hx hgm; lia
   ·rw [if_neg hc]
    refine ih _ _ (by omega) (by lia) (by lia) h1 ?_
    intro i x hi' hx
    by_cases he : i = (lo + hi) / 2
    ·subst he; rw [hgm] at hx; cases hx; lia
    ·have:=hmono ((lo + hi) / 2) i _ x (by lia) hgm hx; lia
  ·rw [if_neg hlt]
   have : lo = hi:=by lia
   subst this
   exact ⟨hs,h1,h2⟩
theorem zer (xs : Array Nat) (j : Nat) (hp : xs.toList.Pairwise (· < ·)) :
  SetTable.below xs j <= xs.size/\(∀ i x,i < SetTable.below xs j->xs[i]? = some x->x < j)/\(∀ i x,SetTable.below xs j <= i->xs[i]? = some x->j <= x):=by
 unfold SetTable.below
 exact zul xs j hp xs.size 0 xs.size (by lia) (by lia) (by lia) (fun i x h=>by lia) (fun i x h hx=>by
  have:=(Array.getElem?_eq_some_iff.mp hx).1; lia)
theorem zds (xs : Array Nat) (j : Nat) (hp : xs.toList.Pairwise (· < ·)) : xs[SetTable.below xs j]? = some j ↔ j∈xs.toList:=by
 obtain ⟨h0,h1,h2⟩:=zer xs j hp
 constructor
 ·intro h; rw [<- Array.getElem?_toList] at h; exact List.mem_of_getElem? h
 ·intro h
  obtain ⟨i,hi⟩:=List.mem_iff_getElem?.mp h
  rw [Array.getElem?_toList] at hi
  rcases Nat.lt_or_ge i (SetTable.below xs j) with hc | hc
  ·have:=h1 i j hc hi; lia
  ·have hib:=(Array.getElem?_eq_some_iff.mp hi).1
   have hb : SetTable.below xs j < xs.size:=by lia
   have hg : xs[SetTable.below xs j]? = some xs[SetTable.below xs j]:=Array.getElem?_eq_getElem hb
   have h3:=h2 _ _ (Nat.le_refl _) hg
   rcases Nat.lt_or_ge (SetTable.below xs j) i with hd | hd
   ·have:=zi0 xs hp _ _ _ _ hd hg hi
    lia
   ·have : i = SetTable.below xs j:=by lia
    rw [<- this]; exact hi
theorem zhv (xs : Array Nat) (j : Nat) (hp : xs.toList.Pairwise (· < ·)) : SetTable.has xs j = true ↔ j∈xs.toList:=by
 unfold SetTable.has
 rw [beq_iff_eq]
 exact zds xs j hp
theorem zv0 (xs : Array Nat) (i j : Nat) (hp : xs.toList.Pairwise (· < ·)) (h : xs[i]? = some j) : SetTable.below xs j = i:=by
 have hm:=(zds xs j hp).mpr (by rw [<- Array.getElem?_toList] at h; exact List.mem_of_getElem? h)
 rw [<- Array.getElem?_toList] at h hm
 obtain ⟨hi,hx⟩:=List.getElem?_eq_some_iff.mp h
 obtain ⟨hk,hy⟩:=List.getElem?_eq_some_iff.mp hm
 rcases Nat.lt_trichotomy (SetTable.below xs j) i with hc | hc | hc
 ·have:=List.pairwise_iff_getElem.mp hp _ _ hk hi hc; lia
 ·exact hc
 ·have:=List.pairwise_iff_getElem.mp hp _ _ hi hk hc; lia
theorem zbb {α : Type} (xs : Array α) (p : Nat) (x : α) (hp : p <= xs.size) : (SetTable.insertAt xs p x).toList = xs.toList.take p++x::xs.toList.drop p:=by
 simp [SetTable.insertAt,Array.toList_extract,List.extract,List.take_of_length_le]
theorem zde {α : Type} (xs : Array α) (p : Nat) : (SetTable.eraseAt xs p).toList = xs.toList.take p++xs.toList.drop (p + 1):=by
 simp [SetTable.eraseAt,Array.toList_extract,List.extract,List.take_of_length_le]
theorem zh3 (xs : Array Nat) (j : Nat) (hp : xs.toList.Pairwise (· < ·)) (hj : j ∉ xs.toList) :
  (SetTable.insertAt xs (SetTable.below xs j) j).toList.Pairwise (· < ·):=by
 obtain ⟨h0,h1,h2⟩:=zer xs j hp
 rw [zbb _ _ _ h0,List.pairwise_append,List.pairwise_cons]
 have ht : ∀ x∈xs.toList.take (SetTable.below xs j),x < j:=by
  intro x hx
  obtain ⟨i,hi⟩:=List.mem_iff_getElem?.mp hx
  rw [List.getElem?_take] at hi
  split at hi
  ·rename_i hlt; exact h1 i x hlt (by rw [<- Array.getElem?_toList]; exact hi)
  ·cases hi
 have hd : ∀ x∈xs.toList.drop (SetTable.below xs j),j < x:=by
  intro x hx
  obtain ⟨i,hi⟩:=List.mem_iff_getElem?.mp hx
  rw [List.getElem?_drop] at hi
  have:=h2 _ x (Nat.le_add_right _ i) (by rw [<- Array.getElem?_toList]; exact hi)
  have hne : x≠j:=fun e=>hj (e ▸ List.mem_of_getElem? hi)
  lia
 refine ⟨hp.sublist (List.take_sublist _ _),⟨hd,hp.sublist (List.drop_sublist _ _)⟩,?_⟩
 intro x hx y hy
 rcases List.mem_cons.mp hy with rfl | hy
 ·exact ht x hx
 ·have:=ht x hx; have:=hd y hy; lia
structure TOk (t : SetTable) : Prop where
 pl : t.place.toList.Pairwise (· < ·)
 du : t.dummies.toList.Pairwise (· < ·)
 ple : ∀ j∈t.place.toList,j <= t.mask
 dle : ∀ j∈t.dummies.toList,j <= t.mask
 dis : ∀ j∈t.dummies.toList,j ∉ t.place.toList
 pow : ∃ k,t.mask + 1 = 2 ^ (k + 3)
 big : t.mask <= 8191
theorem zep {t : SetTable} (h : TOk t) (j i : Nat) : t.slot j = .live i ↔ t.place[i]? = some j:=by
 unfold SetTable.slot
 dsimp only
 by_cases hc : t.place[SetTable.below t.place j]? = some j
 ·rw [if_pos (by rw [beq_iff_eq]; exact hc)]
  constructor
  ·intro he; cases he; exact hc
  ·intro hi; rw [zv0 _ _ _ h.pl hi]
 ·rw [if_neg (by rw [beq_iff_eq]; exact hc)]
  constructor
  ·intro he; split at he <;> cases he
  ·intro hi; exact absurd ((zds _ _ h.pl).mpr (by rw [<- Array.getElem?_toList] at hi; exact List.mem_of_getElem? hi)) hc
theorem zet {t : SetTable} (h : TOk t) (j : Nat) : t.slot j = .dummy ↔ j∈t.dummies.toList:=by
 unfold SetTable.slot
 dsimp only
 by_cases hc : t.place[SetTable.below t.place j]? = some j
 ·rw [if_pos (by rw [beq_iff_eq]; exact hc)]
  constructor
  ·intro he; cases he
  ·intro hi; exact absurd ((zds _ _ h.pl).mp hc) (h.dis j hi)
 ·rw [if_neg (by rw [beq_iff_eq]; exact hc)]
  by_cases hd : SetTable.has t.dummies j = true
  ·rw [if_pos hd]; exact ⟨fun _=>(zhv _ _ h.du).mp hd,fun _=>rfl⟩
  ·rw [if_neg hd]; exact ⟨fun he=>(by cases he),fun he=>absurd ((zhv _ _ h.du).mpr he) hd⟩
theorem zdl {t : SetTable} (h : TOk t) (j : Nat) : t.slot j = .empty ↔ (j ∉ t.place.toList/\j ∉ t.dummies.toList):=by
 constructor
 ·intro he
  refine ⟨fun hm=>?_,fun hm=>?_⟩
  ·obtain ⟨i,hi⟩:=List.mem_iff_getElem?.mp hm
   rw [Array.getElem?_toList] at hi
   rw [(zep h j i).mpr hi] at he; cases he
  ·rw [(zet h j).mpr hm] at he; cases he
 ·rintro ⟨h1,h2⟩
  cases hs : t.slot j with
  | empty=>rfl
  | dummy=>exact absurd ((zet h j).mp hs) h2
  | live i =>
   have:=(zep h j i).mp hs
   rw [<- Array.getElem?_toList] at this
   exact absurd (List.mem_of_getElem? this) h1
theorem zpk : ∀ (n : Nat) (L : List Nat),(∀ x,x < n->x∈L)->n <= L.length:=by
 intro n
 induction n with
 | zero=>intro L _; exact Nat.zero_le _
 | succ n ih =>
  intro L h
  have hn : n∈L:=h n (by lia)
  have h1:=ih (L.erase n) (fun x hx=>(List.mem_erase_of_ne (by lia)).mpr (h x (by lia)))
  have h2:=List.length_erase_of_mem hn
  have h3 : 0 < L.length:=List.length_pos_of_mem hn
  lia
theorem zih {t : SetTable} (h : TOk t) (hr : t.fill <= t.mask) : ∃ e,e <= t.mask/\t.slot e = .empty:=by
 refine Classical.byContradiction fun hc=>?_
 have hall : ∀ x,x < t.mask + 1->x∈t.place.toList++t.dummies.toList:=by
  intro x hx
  refine Classical.byContradiction fun hn=>hc ⟨x,by lia,(zdl h x).mpr ?_⟩
  rw [List.mem_append] at hn
  exact ⟨fun a=>hn (.inl a),fun a=>hn (.inr a)⟩
 have:=zpk _ _ hall
 simp only [SetTable.fill,List.length_append,Array.length_toList] at this hr
 lia
noncomputable def lcg : Nat->Nat->Nat
 | 0,x=>x
 | n + 1,x=>lcg n (5 * x + 1)
theorem zmk (m n x : Nat) : lcg (m + n) x = lcg n (lcg m x):=by
 induction m generalizing x with
 | zero=>simp [lcg]
 | succ m ih=>rw [Nat.succ_add]; exact ih _
theorem zyb : ∀ k,∃ u v,∀ x,lcg (2 ^ k) x = (1 + 2 ^ (k + 2) * u) * x + 2 ^ k * (2 * v + 1):=by
 intro k
 induction k with
 | zero=>exact ⟨1,0,fun x=>by simp [lcg]⟩
 | succ k ih =>
  obtain ⟨u,v,h⟩:=ih
  refine ⟨u + 2 ^ (k + 1) * u * u,v + 2 ^ k * u * (2 * v + 1),fun x=>?_⟩
  have e : 2 ^ (k + 1) = 2 ^ k + 2 ^ k:=by lia
  conv=>lhs; rw [e]
  rw [zmk,h,h]
  have e1 : 2 ^ (k + 2) = 4 * 2 ^ k:=by rw [Nat.pow_succ,Nat.pow_succ]; lia
  have e2 : 2 ^ (k + 1 + 2) = 8 * 2 ^ k:=by rw [Nat.pow_succ,Nat.pow_succ,Nat.pow_succ]; lia
  rw [e1,e2,e]
  generalize 2 ^ k = a
  grind
theorem zxp : ∀ k x e,∃ s,s < 2 ^ k/\lcg s x % 2 ^ k = e % 2 ^ k:=by
 intro k
 induction k with
 | zero=>intro x e; exact ⟨0,by simp,by simp [Nat.mod_one]⟩
 | succ k ih =>
  intro x e
  obtain ⟨s,hs,he⟩:=ih x e
  have e2 : 2 ^ (k + 1) = 2 * 2 ^ k:=by lia
  have hpos : 0 < 2 ^ k:=Nat.two_pow_pos k
  by_cases hc : lcg s x % 2 ^ (k + 1) = e % 2 ^ (k + 1)
  ·exact ⟨s,by lia,hc⟩
  ·refine ⟨s + 2 ^ k,by lia,?_⟩
   rw [zmk]
   obtain ⟨u,v,h⟩:=zyb k
   rw [h]
   generalize lcg s x = y at *
   have h3 : (1 + 2 ^ (k + 2) * u) * y + 2 ^ k * (2 * v + 1) = y + 2 ^ k + 2 ^ (k + 1) * (2 * u * y + v):=by
    have e1 : 2 ^ (k + 2) = 4 * 2 ^ k:=by rw [Nat.pow_succ,Nat.pow_succ]; lia
    rw [e1,e2]; generalize 2 ^ k = a; grind
   rw [h3,Nat.add_mul_mod_self_left,e2]
   rw [e2] at hc
   generalize ha : 2 ^ k = a at *
   -- y ≡ e mod a,not mod 2a
   have hy:=Nat.mod_add_div y a
   have hE:=Nat.mod_add_div e a
   rw [he] at hy
   generalize y / a = p at *
   generalize e / a = q at *
   generalize hr : e % a = r at *
   have hra : r < a:=by rw [<- hr]; exact Nat.mod_lt _ hpos
   subst hy
   have h5 : ∀ z,(r + a * z) % (2 * a) = if z % 2 = 0 then r else r + a:=by
    intro z
    have hz:=Nat.mod_add_div z 2
    have h6 : r + a * z = r + a * (z % 2) + (2 * a) * (z / 2):=by
     conv=>lhs; rw [<- hz]
     generalize z % 2 = z1; generalize z / 2 = z2; grind
    rw [h6,Nat.add_mul_mod_self_left]
    rcases Nat.mod_two_eq_zero_or_one z with h7 | h7
    ·rw [h7,if_pos rfl]; simp; exact Nat.mod_eq_of_lt (by lia)
    ·rw [h7,if_neg (by lia)]; simp; exact Nat.mod_eq_of_lt (by lia)
   have h7 : r + a * p + a = r + a * (p + 1):=by grind
   rw [<- hE] at hc ⊢
   rw [h7,h5,h5]
   rw [h5,h5] at hc
   by_cases hp2 : p % 2 = 0 <;> by_cases hq2 : q % 2 = 0 <;> simp only [hp2,hq2,if_true,if_false] at hc <;>
    (have : (p + 1) % 2 = 0 \/ (p + 1) % 2 = 1:=Nat.mod_two_eq_zero_or_one _) <;> grind
end L2T
namespace L2T
open PySem SetTable
noncomputable def advM (mask : Nat) (p : Probe) : Probe :=
 if p.more > 0 then { p with j:=p.j + 1,more:=p.more - 1 } else
 let (i,perturb):=leap mask p.i p.perturb
 { p with j:=i,more:=runEnd mask i - i,i,perturb }
theorem zc4 (t : SetTable) (p : Probe) : t.advance p = advM t.mask p:=rfl
noncomputable def stM (mask i perturb : Nat) : Probe:={ j:=i,more:=runEnd mask i - i,i,perturb,dummy:=none }
noncomputable def prM (mask : Nat) (h : Int) : Nat->Probe
 | 0=>stM mask (bits h % (mask + 1)) (bits h)
 | n + 1=>advM mask (prM mask h n)
noncomputable def posM (mask : Nat) (h : Int) (n : Nat) : Nat:=(prM mask h n).j
noncomputable def lpM (mask : Nat) (h : Int) : Nat->Nat × Nat
 | 0=>(bits h % (mask + 1),bits h)
 | m + 1=>leap mask (lpM mask h m).1 (lpM mask h m).2
noncomputable def lpS (mask : Nat) (h : Int) (m : Nat) : Probe:=stM mask (lpM mask h m).1 (lpM mask h m).2
theorem zxm (mask : Nat) : ∀ (r : Nat) (p : Probe) (F : Nat->Probe),(∀ n,F (n + 1) = advM mask (F n))->F 0 = p->r <= p.more->F r = { p with j:=p.j + r,more:=p.more - r }:=by
 intro r
 induction r with
 | zero=>intro p F hF h0 hr; rw [h0]; rfl
 | succ r ih =>
  intro p F hF h0 hr
  rw [hF,ih p F hF h0 (by lia)]
  unfold advM
  rw [if_pos (by show p.more - r > 0; lia)]
  show ({ p with j:=p.j + r + 1,more:=p.more - r - 1 } : Probe) = _
  congr 1
theorem ztf (mask i : Nat) : runEnd mask i - i <= 9:=by unfold runEnd; split <;> lia
theorem zqk (mask : Nat) (h : Int) (n m : Nat) (hs : prM mask h n = lpS mask h m) :
  prM mask h (n + (runEnd mask (lpM mask h m).1 - (lpM mask h m).1) + 1) = lpS mask h (m + 1) /\
  ∀ r,r <= runEnd mask (lpM mask h m).1 - (lpM mask h m).1->posM mask h (n + r) = (lpM mask h m).1 + r:=by
 have hrun:=fun r hr=>zxm mask r (lpS mask h m) (fun k=>prM mask h (n + k)) (fun k=>rfl) hs hr
 refine ⟨?_,fun r hr=>?_⟩
 ·show advM mask (prM mask h (n + (runEnd mask (lpM mask h m).1 - (lpM mask h m).1))) = _
  rw [hrun (runEnd mask (lpM mask h m).1 - (lpM mask h m).1) (Nat.le_refl _)]
  unfold advM
  rw [if_neg (by show ¬ (lpS mask h m).more - (runEnd mask (lpM mask h m).1 - (lpM mask h m).1) > 0; show ¬ (runEnd mask (lpM mask h m).1 - (lpM mask h m).1) - (runEnd mask (lpM mask h m).1 - (lpM mask h m).1) > 0; lia)]
  rfl
 ·unfold posM
  rw [hrun r hr]; rfl
theorem zxx (mask : Nat) (h : Int) : ∀ m,∃ n,n <= 10 * m/\prM mask h n = lpS mask h m:=by
 intro m
 induction m with
 | zero=>exact ⟨0,by lia,rfl⟩
 | succ m ih =>
  obtain ⟨n,hn,he⟩:=ih
  have:=ztf mask (lpM mask h m).1
  exact ⟨_,by lia,(zqk mask h n m he).1⟩
theorem zyk (h : Int) : bits h < 2 ^ 64:=by
 unfold bits
 have : h % (2 ^ 64 : Int) < 2 ^ 64:=Int.emod_lt_of_pos _ (by decide)
 lia
theorem zz7 (mask : Nat) (h : Int) : ∀ m,(lpM mask h m).2 = bits h / 32 ^ m:=by
 intro m
 induction m with
 | zero=>simp [lpM]
 | succ m ih=>show (lpM mask h m).2 / 32 = _; rw [ih,Nat.div_div_eq_div_mul,Nat.pow_succ]
theorem zxn (mask : Nat) (h : Int) (m : Nat) (hm : 13 <= m) : (lpM mask h m).2 = 0:=by
 rw [zz7]
 have h1:=zyk h
 have h2 : 32 ^ 13 <= 32 ^ m:=Nat.pow_le_pow_right (by decide) hm
 exact Nat.div_eq_of_lt (by have : (32 : Nat) ^ 13 = 2 ^ 65:=(by decide); lia)
theorem ybl (mask : Nat) (h : Int) (m : Nat) : (lpM mask h m).1 < mask + 1:=by
 cases m with
 | zero=>exact Nat.mod_lt _ (by lia)
 | succ m=>exact Nat.mod_lt _ (by lia)
theorem yah (mask : Nat) (h : Int) : ∀ s,(lpM mask h (13 + s)).1 = lcg s (lpM mask h 13).1 % (mask + 1):=by
 intro s
 induction s with
 | zero=>exact (Nat.mod_eq_of_lt (ybl mask h 13)).symm
 | succ s ih =>
  show ((lpM mask h (13 + s)).1 * 5 + 1 + (lpM mask h (13 + s)).2 / 32) % (mask + 1) = _
  rw [zxn mask h (13 + s) (by lia),ih,zmk]
  show _ = (5 * lcg s (lpM mask h 13).1 + 1) % (mask + 1)
  generalize lcg s (lpM mask h 13).1 = y
  simp [Nat.add_mod,Nat.mul_mod,Nat.mul_comm]
theorem zwr (mask k : Nat) (hk : mask + 1 = 2 ^ k) (h : Int) (e : Nat) (he : e <= mask) : ∃ m,m <= 13 + mask/\(lpM mask h m).1 = e:=by
 obtain ⟨s,hs,hl⟩:=zxp k (lpM mask h 13).1 e
 refine ⟨13 + s,by lia,?_⟩
 rw [yah,hk,hl,<- hk]
 exact Nat.mod_eq_of_lt (by lia)
theorem zr2 (mask k : Nat) (hk : mask + 1 = 2 ^ k) (h : Int) (e : Nat) (he : e <= mask) : ∃ n,n < 10 * turns mask/\posM mask h n = e:=by
 obtain ⟨m,hm,hl⟩:=zwr mask k hk h e he
 obtain ⟨n,hn,hp⟩:=zxx mask h m
 refine ⟨n,by unfold turns; lia,?_⟩
 unfold posM; rw [hp]; exact hl
noncomputable def zm9 (p q : Probe) : Prop:=p.j = q.j/\p.more = q.more/\p.i = q.i/\p.perturb = q.perturb
theorem zjn (mask : Nat) {p q : Probe} (h : zm9 p q) : zm9 (advM mask p) (advM mask q):=by
 obtain ⟨h1,h2,h3,h4⟩:=h
 unfold advM
 rw [h2,h3,h4,h1]
 split
 ·exact ⟨rfl,rfl,rfl,rfl⟩
 ·exact ⟨rfl,rfl,rfl,rfl⟩
theorem zha (mask : Nat) (p : Probe) : (advM mask p).dummy = p.dummy:=by
 unfold advM; split <;> rfl
theorem znt (t : SetTable) (hashAt : Nat -> Int) (h : Int) : ∀ (fuel : Nat) (p : Probe) (n : Nat), zm9 p (prM t.mask h n) ->
    (∃ N,n <= N/\N < n + fuel/\t.slot (posM t.mask h N) = .empty) ->
    ∃ m,n <= m/\(∀ q,n <= q->q < m->t.slot (posM t.mask h q) ≠ .empty /\ ∀ i,t.slot (posM t.mask h q) = .live i->hashAt i≠h) /\
      ∃ d,(d = p.dummy \/ ∃ q,n <= q/\q < m/\d = some (posM t.mask h q)/\t.slot (posM t.mask h q) = .dummy) /\
      ((t.slot (posM t.mask h m) = .empty/\probe.go t hashAt h fuel p = some (.empty (posM t.mask h m) d)) \/
       (∃ i nx,t.slot (posM t.mask h m) = .live i/\hashAt i = h/\probe.go t hashAt h fuel p = some (.candidate (posM t.mask h m) i nx)/\zm9 nx (prM t.mask h (m + 1))/\nx.dummy = d)):=by
  intro fuel
  induction fuel with
  | zero=>rintro p n hs ⟨N,h1,h2,_⟩; omega
  | succ fuel ih =>
    rintro p n hs ⟨N,h1,h2,h3⟩
    have hj : p.j = posM t.mask h n:=hs.1
    unfold probe.go
    rw [hj]
    cases hsl : t.slot (posM t.mask h n) with
    | empty =>
      exact ⟨n,Nat.le_refl _,fun q a b=>by lia,p.dummy,.inl rfl,.inl ⟨hsl,rfl⟩⟩
    | dummy =>
      have hN : N≠n:=fun e=>by subst e; rw [hsl] at h3; cases h3
      have hs' : zm9 (t.advance { p with dummy:=some (posM t.mask h n) }) (prM t.mask h (n + 1)):=by
        rw [zc4]; exact zjn _ (p:={ p with dummy:=some (posM t.mask h n) }) ⟨hs.1,hs.2.1,hs.2.2.1,hs.2.2.2⟩
      obtain ⟨m,hm,hq,d,hd,hr⟩:=ih _ (n + 1) hs' ⟨N,by lia,by lia,h3⟩
      refine ⟨m,by lia,?_,d,?_,?_⟩
      · intro q a b
        rcases Nat.eq_or_lt_of_le a with e | e
        · subst e; exact ⟨(by rw [hsl]; exact fun x=>(by cases x)),fun i hi=>by rw [hsl] at hi; cases hi⟩
        · exact hq q e b
      · rcases hd with hd | ⟨q,a,b,c,e⟩
        · refine .inr ⟨n,Nat.le_refl _,by lia,?_,hsl⟩
          rw [hd,zc4,zha]
        · exact .inr ⟨q,by lia,b,c,e⟩
      · rw [hj] at hr; exact hr
    | live i =>
      dsimp only
      by_cases hh : hashAt i = h
      · refine ⟨n,Nat.le_refl _,fun q a b=>by lia,p.dummy,.inl rfl,.inr ⟨i,t.advance p,hsl,hh,?_,?_,?_⟩⟩
        · rw [if_pos (by rw [hh]; exact beq_self_eq_true h)]
        · rw [zc4]; exact zjn _ hs
        · rw [zc4,zha]
      · have hN : N≠n:=fun e=>by subst e; rw [hsl] at h3; cases h3
        obtain ⟨m,hm,hq,d,hd,hr⟩:=ih (t.advance p) (n + 1) (by rw [zc4]; exact zjn _ hs) ⟨N,by lia,by lia,h3⟩
        refine ⟨m,by lia,?_,d,?_,?_⟩
        · intro q a b
          rcases Nat.eq_or_lt_of_le a with e | e
          · subst e; exact ⟨(by rw [hsl]; exact fun x=>(by cases x)),fun i' hi=>by rw [hsl] at hi; cases hi; exact hh⟩
          · exact hq q e b
        · rcases hd with hd | ⟨q,a,b,c,e⟩
          · exact .inl (by rw [hd,zc4,zha])
          · exact .inr ⟨q,by lia,b,c,e⟩
        · rw [if_neg (by rw [beq_iff_eq]; exact hh)]; exact hr
noncomputable def zkd (t : SetTable) (h : Int) (j : Nat) : Prop:=∃ n,posM t.mask h n = j /\ ∀ m,m < n->t.slot (posM t.mask h m) ≠ .empty
theorem zis (mask k : Nat) (hk : mask + 1 = 2 ^ k) (h : Int) : ∀ n,posM mask h n <= mask:=by
 have key : ∀ n,(prM mask h n).j + (prM mask h n).more <= mask:=by
  intro n
  have hst : ∀ i p,i < mask + 1->(stM mask i p).j + (stM mask i p).more <= mask:=by
   intro i p hi; show i + (runEnd mask i - i) <= mask; unfold runEnd; split <;> lia
  induction n with
  | zero=>exact hst _ _ (Nat.mod_lt _ (by lia))
  | succ n ih =>
   show (advM mask (prM mask h n)).j + (advM mask (prM mask h n)).more <= mask
   unfold advM
   split
   ·show (prM mask h n).j + 1 + ((prM mask h n).more - 1) <= mask; lia
   ·exact hst _ (leap mask (prM mask h n).i (prM mask h n).perturb).2 (Nat.mod_lt _ (by lia))
 intro n
 have:=key n
 unfold posM; lia
end L2T
namespace L2T
open PySem SetTable
structure SOk {α : Type} (t : SetTable) (es : List (Int × α)) : Prop where
 ok : TOk t
 room : t.fill * 5 < t.mask * 3
 size : t.place.size = es.length
 reach : ∀ c∈t.place.toList.zip es,zkd t c.2.1 c.1
theorem zqe (mask : Nat) (owner : Array (Option Nat)) (h : Int) : ∀ (fuel m n : Nat),prM mask h n = lpS mask h m ->
  (∀ q,q < n->owner.getD (posM mask h q) (some 0)≠none)->(∃ M,m <= M/\M < m + fuel/\owner.getD (lpM mask h M).1 (some 0) = none) ->
  ∃ j n',layClean.free mask owner fuel (lpM mask h m).1 (lpM mask h m).2 = some j/\posM mask h n' = j/\owner.getD j (some 0) = none /\ ∀ q,q < n'->owner.getD (posM mask h q) (some 0)≠none:=by
 intro fuel
 induction fuel with
 | zero=>rintro m n hs hq ⟨M,a,b,c⟩; omega
 | succ fuel ih =>
  rintro m n hs hq ⟨M,a,b,c⟩
  obtain ⟨hnx,hrun⟩:=zqk mask h n m hs
  unfold layClean.free
  cases hf : (List.range (runEnd mask (lpM mask h m).1 + 1 - (lpM mask h m).1)).find? (fun k=>(owner.getD ((lpM mask h m).1 + k) (some 0)).isNone) with
  | some k =>
   obtain ⟨h1,h2,h3⟩:=List.find?_range_eq_some.mp hf
   rw [List.mem_range] at h2
   dsimp only
   refine ⟨_,n + k,rfl,hrun k (by lia),by simpa using h1,?_⟩
   intro q hqq
   rcases Nat.lt_or_ge q n with hl | hl
   ·exact hq q hl
   ·have:=h3 (q - n) (by lia)
    have e:=hrun (q - n) (by omega)
    rw [show n + (q - n) = q by lia] at e
    rw [e]
    intro hc; rw [hc] at this; simp at this
  | none =>
   rw [List.find?_eq_none] at hf
   have hocc : ∀ k,k <= runEnd mask (lpM mask h m).1 - (lpM mask h m).1->owner.getD ((lpM mask h m).1 + k) (some 0)≠none:=by
    intro k hk hc
    have hle : (lpM mask h m).1 <= runEnd mask (lpM mask h m).1:=by unfold runEnd; split <;> lia
    exact hf k (List.mem_range.mpr (by lia)) (by rw [hc]; rfl)
   have hM : M≠m:=fun e=>by subst e; exact hocc 0 (Nat.zero_le _) c
   dsimp only
   refine ih (m + 1) _ hnx ?_ ⟨M,by lia,by lia,c⟩
   intro q hqq
   rcases Nat.lt_or_ge q n with hl | hl
   ·exact hq q hl
   ·have e:=hrun (q - n) (by lia)
    rw [show n + (q - n) = q by lia] at e
    rw [e]
    exact hocc _ (by lia)
theorem zng {α β : Type} {f g : α->Option β} : ∀ l : List α,(∀ x∈l,f x = g x)->l.filterMap f = l.filterMap g:=by
 intro l
 induction l with
 | nil=>intro _; rfl
 | cons x l ih=>intro h; simp only [List.filterMap_cons,h x (.head _),ih (fun y hy=>h y (.tail _ hy))]
theorem zua {α : Type} : ∀ l : List α,(List.range l.length).filterMap (fun i=>l[i]?) = l:=by
 intro l
 induction l with
 | nil=>rfl
 | cons x l ih =>
  rw [List.length_cons,List.range_succ_eq_map,List.filterMap_cons_some (b:=x) (by rfl),List.filterMap_map]
  congr 1
noncomputable def zdx (mask : Nat) (owner : Array (Option Nat)) : List (Nat × Nat):=(List.range (mask + 1)).filterMap fun j=>(owner.getD j none).map (j,·)
theorem yac {α β : Type} [DecidableEq α] (f f' : α->Option β) (x : α) (v : β) (h0 : f x = none) (h1 : f' x = some v) (h2 : ∀ y,y≠x->f' y = f y) :
  ∀ l : List α,l.Nodup->x∈l->(l.filterMap f').Perm (v::l.filterMap f):=by
 intro l
 induction l with
 | nil=>intro _ h; cases h
 | cons y l ih =>
  intro hn hx
  rw [List.nodup_cons] at hn
  by_cases he : y = x
  ·subst he
   rw [List.filterMap_cons_some h1,List.filterMap_cons_none h0]
   have : l.filterMap f' = l.filterMap f:=by
    refine zng _ fun z hz=>h2 z (fun e=>hn.1 (e ▸ hz))
   rw [this]
  ·have hx' : x∈l:=by rcases List.mem_cons.mp hx with e | e; exact absurd e.symm he; exact e
   have hi:=ih hn.2 hx'
   cases hf : f y with
   | none=>rw [List.filterMap_cons_none (by rw [h2 y he]; exact hf),List.filterMap_cons_none hf]; exact hi
   | some b =>
    rw [List.filterMap_cons_some (by rw [h2 y he]; exact hf),List.filterMap_cons_some hf]
    exact (hi.cons b).trans (List.Perm.swap _ _ _)
theorem zy1 {α β : Type} (f : α->Option β) : ∀ l : List α,(∀ x∈l,f x≠none)->(l.filterMap f).length = l.length:=by
 intro l
 induction l with
 | nil=>intro _; rfl
 | cons x l ih =>
  intro h
  cases hf : f x with
  | none=>exact absurd hf (h x (.head _))
  | some b=>rw [List.filterMap_cons_some hf,List.length_cons,List.length_cons,ih (fun y hy=>h y (.tail _ hy))]
structure LInv (mask : Nat) (hs : List Int) (owner : Array (Option Nat)) : Prop where
 size : owner.size = mask + 1
 perm : ((zdx mask owner).map (·.2)).Perm (List.range hs.length)
 reach : ∀ j i,owner.getD j none = some i -> ∃ h,hs[i]? = some h /\ ∃ n,posM mask h n = j /\ ∀ q,q < n->owner.getD (posM mask h q) (some 0)≠none
theorem zgu (owner : Array (Option Nat)) (j k x : Nat) (d : Option Nat) (hj : j < owner.size) : (owner.setIfInBounds j (some k)).getD x d = if x = j then some k else owner.getD x d:=by
 simp only [Array.getD_eq_getD_getElem?,Array.getElem?_setIfInBounds]
 by_cases h : x = j
 ·subst h; simp [hj]
 ·rw [if_neg (fun e=>h e.symm),if_neg h]
theorem zi3 (owner : Array (Option Nat)) (j : Nat) (hj : j < owner.size) : owner.getD j (some 0) = owner.getD j none:=by
 simp [Array.getD,hj]
theorem zu7 (mask k : Nat) (hk : mask + 1 = 2 ^ k) (hs : List Int) (owner : Array (Option Nat)) (h : Int) (inv : LInv mask hs owner) (hroom : hs.length < mask + 1) :
  ∃ j,layClean.free mask owner (turns mask) (bits h % (mask + 1)) (bits h) = some j/\LInv mask (hs++[h]) (owner.setIfInBounds j (some hs.length)):=by
 have hex : ∃ e,e <= mask/\owner.getD e none = none:=by
  refine Classical.byContradiction fun hc=>?_
  have hl:=zy1 (fun j=>(owner.getD j none).map (fun i=>(j,i))) (List.range (mask + 1)) (fun x hx hn=>hc ⟨x,by have:=List.mem_range.mp hx; lia,by simpa using hn⟩)
  have hp:=inv.perm.length_eq
  rw [List.length_map] at hp
  unfold zdx at hp
  rw [hl] at hp
  simp at hp; lia
 obtain ⟨e,he,hn⟩:=hex
 obtain ⟨M,hM,hMe⟩:=zwr mask k hk h e he
 obtain ⟨j,n',hf,hp,hj,hq⟩:=zqe mask owner h (turns mask) 0 0 rfl (fun q hq=>by lia)
  ⟨M,by lia,by unfold turns; lia,by rw [hMe,zi3 _ _ (by rw [inv.size]; lia)]; exact hn⟩
 have hjm : j <= mask:=by rw [<- hp]; exact zis mask k hk h n'
 have hjs : j < owner.size:=by rw [inv.size]; lia
 refine ⟨j,hf,?_,?_,?_⟩
 ·simp [inv.size]
 ·have hone : (zdx mask (owner.setIfInBounds j (some hs.length))).Perm ((j,hs.length)::zdx mask owner):=by
   unfold zdx
   refine yac _ _ j (j,hs.length) ?_ ?_ ?_ _ List.nodup_range (List.mem_range.mpr (by lia))
   ·rw [<- zi3 _ _ hjs,hj]; rfl
   ·rw [zgu _ _ _ _ _ hjs,if_pos rfl]; rfl
   ·intro y hy; rw [zgu _ _ _ _ _ hjs,if_neg hy]
  refine (hone.map _).trans ?_
  rw [List.map_cons,List.length_append,List.length_singleton,List.range_succ]
  exact ((List.Perm.cons _ inv.perm)).trans (List.perm_append_comm (l₁:=[hs.length]))
 ·intro x i hx
  rw [zgu _ _ _ _ _ hjs] at hx
  have hne : ∀ y,owner.getD y (some 0)≠none->(owner.setIfInBounds j (some hs.length)).getD y (some 0)≠none:=by
   intro y hy; rw [zgu _ _ _ _ _ hjs]; split
   ·exact fun c=>by cases c
   ·exact hy
  by_cases hxj : x = j
  ·rw [if_pos hxj] at hx
   cases hx
   refine ⟨h,by simp,n',by rw [hp,hxj],fun q hqq=>hne _ (hq q hqq)⟩
  ·rw [if_neg hxj] at hx
   obtain ⟨h',e1,n,e2,e3⟩:=inv.reach x i hx
   refine ⟨h',?_,n,e2,fun q hqq=>hne _ (e3 q hqq)⟩
   rw [List.getElem?_append_left (List.getElem?_eq_some_iff.mp e1).1]; exact e1
theorem zvu (mask k : Nat) (hk : mask + 1 = 2 ^ k) : ∀ (hs done : List Int) (owner : Array (Option Nat)),LInv mask done owner->(done++hs).length <= mask ->
  ∃ owner',hs.foldl (fun acc h=>do
    let (owner,k) <- acc
    let j <- layClean.free mask owner (turns mask) (bits h % (mask + 1)) (bits h)
    pure (owner.setIfInBounds j (some k),k + 1)) (some (owner,done.length)) = some (owner',(done++hs).length)/\LInv mask (done++hs) owner':=by
 intro hs
 induction hs with
 | nil=>intro done owner inv _; exact ⟨owner,by simp,by simpa using inv⟩
 | cons h hs ih =>
  intro done owner inv hl
  obtain ⟨j,hf,inv'⟩:=zu7 mask k hk done owner h inv (by simp at hl; lia)
  obtain ⟨ow,h1,h2⟩:=ih (done++[h]) _ inv' (by simpa using hl)
  refine ⟨ow,?_,by simpa using h2⟩
  rw [List.foldl_cons]
  simp only [Option.bind_eq_bind,Option.bind_some,hf,Option.pure_def]
  rw [show (done++h::hs).length = (done++[h]++hs).length by simp,<- h1]
  simp
theorem zp0 (mask k : Nat) (hk : mask + 1 = 2 ^ k) (hs : Array Int) (hl : hs.size <= mask) : ∃ owner,layClean mask hs = some owner/\LInv mask hs.toList owner:=by
 obtain ⟨ow,h1,h2⟩:=zvu mask k hk hs.toList [] (Array.replicate (mask + 1) none) ⟨by simp,by
   have : zdx mask (Array.replicate (mask + 1) none) = []:=by
    unfold zdx
    rw [List.filterMap_eq_nil_iff]
    intro x hx
    simp [Array.getD_eq_getD_getElem?,Array.getElem?_replicate]
    split <;> simp
   rw [this]; simp,fun j i h=>by
   simp [Array.getD_eq_getD_getElem?,Array.getElem?_replicate] at h
   split at h <;> simp at h⟩ (by simpa using hl)
 refine ⟨ow,?_,by simpa using h2⟩
 unfold layClean
 rw [<- Array.foldl_toList]
 rw [show (([] : List Int).length) = 0 from rfl] at h1
 rw [h1]; rfl
theorem zqm (g : Nat->Option Nat) : ∀ l : List Nat,((l.filterMap fun j=>(g j).map (j,·)).map (·.1)).Sublist l:=by
 intro l
 induction l with
 | nil=>exact List.Sublist.slnil
 | cons x l ih =>
  cases hg : g x with
  | none=>rw [List.filterMap_cons_none (by rw [hg]; rfl)]; exact ih.cons x
  | some v=>rw [List.filterMap_cons_some (b:=(x,v)) (by rw [hg]; rfl)]; exact ih.cons_cons x
theorem zzj {α : Type} (g : Nat->Option α) : ∀ L : List (Nat × Nat),(∀ p∈L,g p.2≠none) -> ∀ c∈(L.map (·.1)).zip ((L.map (·.2)).filterMap g),∃ p∈L,c.1 = p.1/\g p.2 = some c.2:=by
 intro L
 induction L with
 | nil=>intro _ c hc; simp at hc
 | cons p L ih =>
  intro h c hc
  cases hg : g p.2 with
  | none=>exact absurd hg (h p (.head _))
  | some v =>
   rw [List.map_cons,List.map_cons,List.filterMap_cons_some hg,List.zip_cons_cons] at hc
   rcases List.mem_cons.mp hc with e | e
   ·exact ⟨p,.head _,by rw [e],by rw [e]; exact hg⟩
   ·obtain ⟨p',h1,h2⟩:=ih (fun q hq=>h q (.tail _ hq)) c e
    exact ⟨p',.tail _ h1,h2⟩
theorem zw9 {α : Type} (mask k : Nat) (hk : mask + 1 = 2 ^ (k + 3)) (hb : mask <= 8191) (finger moves : Nat) (led plain : Bool) (es : Array (Int × α)) (hroom : es.size * 5 < mask * 3) :
  ∃ t order,laid mask finger moves led plain (es.map (·.1)) = some (t,order)/\t.mask = mask/\t.dummies = #[]/\t.led = led/\t.plain = plain/\t.finger = finger/\t.moves = moves /\
   order.toList.Perm (List.range es.size)/\(order.filterMap (es[·]?)).toList.Perm es.toList/\(order.filterMap (es[·]?)).size = es.size/\SOk t (order.filterMap (es[·]?)).toList:=by
 obtain ⟨ow,h1,inv⟩:=zp0 mask _ hk (es.map (·.1)) (by simp; lia)
 have hlen : (es.map (·.1)).toList.length = es.size:=by simp
 have hperm:=inv.perm
 rw [hlen] at hperm
 unfold laid
 rw [h1]
 have hL : (List.range (mask + 1)).filterMap (fun j=>(ow.getD j none).map (j,·)) = zdx mask ow:=rfl
 simp only [Option.bind_eq_bind,Option.bind_some,Option.pure_def,hL]
 refine ⟨_,_,rfl,rfl,rfl,rfl,rfl,rfl,rfl,hperm,?_⟩
 have hlist : ((((zdx mask ow).map (·.2)).toArray).filterMap (es[·]?)).toList = ((zdx mask ow).map (·.2)).filterMap (es[·]?):=by simp
 have hp2 : ((((zdx mask ow).map (·.2)).toArray).filterMap (es[·]?)).toList.Perm es.toList:=by
  rw [hlist]
  refine (hperm.filterMap _).trans ?_
  have : (List.range es.size).filterMap (fun i=>es[i]?) = es.toList:=by
   have h:=zua es.toList
   rw [Array.length_toList] at h
   rw [<- h]
   refine zng _ fun x _=>(Array.getElem?_toList ..).symm ▸ ?_
   simp
  rw [this]
 refine ⟨hp2,?_,?_⟩
 ·rw [<- Array.length_toList,hp2.length_eq,Array.length_toList]
 ·have hsub:=zqm (fun j=>ow.getD j none) (List.range (mask + 1))
  have htok : TOk { mask:=mask,place:=((zdx mask ow).map (·.1)).toArray,dummies:=#[],finger:=finger,led:=led,moves:=moves,plain:=plain }:=by
   refine ⟨?_,by simp,?_,by simp,by simp,⟨k,hk⟩,hb⟩
   ·show (((zdx mask ow).map (·.1)).toArray).toList.Pairwise (· < ·)
    exact List.Pairwise.sublist hsub List.pairwise_lt_range
   ·intro j hj
    have:=hsub.subset hj
    rw [List.mem_range] at this
    show j <= mask; lia
  have hmem : ∀ j,ow.getD j none≠none->j∈(zdx mask ow).map (·.1):=by
   intro j hj
   have hjs : j < ow.size:=by
    refine Nat.lt_of_not_le fun c=>hj ?_
    simp [Array.getD,Nat.not_lt.mpr c]
   cases hg : ow.getD j none with
   | none=>exact absurd hg hj
   | some i=>exact List.mem_map.mpr ⟨(j,i),List.mem_filterMap.mpr ⟨j,List.mem_range.mpr (by rw [<- inv.size]; exact hjs),by rw [hg]; rfl⟩,rfl⟩
  have hlt : ∀ p∈zdx mask ow,ow.getD p.1 none = some p.2:=by
   intro p hp
   obtain ⟨j,_,hj⟩:=List.mem_filterMap.mp hp
   cases hg : ow.getD j none with
   | none=>rw [hg] at hj; cases hj
   | some i=>rw [hg] at hj; cases hj; exact hg
  have hin : ∀ p∈zdx mask ow,p.2 < es.size:=by
   intro p hp
   have : p.2∈(zdx mask ow).map (·.2):=List.mem_map.mpr ⟨p,hp,rfl⟩
   exact List.mem_range.mp (hperm.mem_iff.mp this)
  refine ⟨htok,?_,?_,?_⟩
  ·show (((zdx mask ow).map (·.1)).toArray.size + 0) * 5 < mask * 3
   have:=hperm.length_eq
   simp at this ⊢
   rw [this]; exact hroom
  ·rw [hp2.length_eq]
   have:=hperm.length_eq
   simp at this ⊢
   exact this
  ·intro c hc
   rw [hlist] at hc
   obtain ⟨p,hp,e1,e2⟩:=zzj (fun i=>es[i]?) (zdx mask ow) (fun p hp=>by
    rw [Array.getElem?_eq_getElem (hin p hp)]; exact fun c=>by cases c) c hc
   obtain ⟨h',a1,n,a2,a3⟩:=inv.reach p.1 p.2 (hlt p hp)
   have hh : h' = c.2.1:=by
    rw [Array.toList_map,List.getElem?_map,Array.getElem?_toList,e2] at a1
    simpa using a1.symm
   subst hh
   refine ⟨n,by rw [e1]; exact a2,fun m hm hc=>?_⟩
   have:=(zdl htok _).mp hc
   refine this.1 (hmem _ ?_)
   have h3:=a3 m hm
   rwa [zi3 _ _ (by rw [inv.size]; exact Nat.lt_succ_of_le (zis mask _ hk _ _))] at h3
end L2T
namespace L2T
open PySem SetTable
theorem zo9 (t t' : SetTable) (h1 : t'.place = t.place) (h2 : t'.dummies = t.dummies) (j : Nat) : t'.slot j = t.slot j:=by
 unfold slot; rw [h1,h2]
theorem zf6 {t t' : SetTable} (hm : t'.mask = t.mask) (h : ∀ j,t.slot j ≠ .empty->t'.slot j ≠ .empty) {x : Int} {j : Nat} (hr : zkd t x j) : zkd t' x j:=by
 obtain ⟨n,h1,h2⟩:=hr
 exact ⟨n,by rw [hm]; exact h1,fun m hm'=>by rw [hm]; exact h _ (h2 m hm')⟩
theorem zth {α : Type} {t t' : SetTable} {es : List (Int × α)} (h : SOk t es) (hm : t'.mask = t.mask) (h1 : t'.place = t.place) (h2 : t'.dummies = t.dummies) : SOk t' es:=by
 obtain ⟨⟨a1,a2,a3,a4,a5,a6,a7⟩,b,c,d⟩:=h
 refine ⟨⟨by rw [h1]; exact a1,by rw [h2]; exact a2,by rw [h1,hm]; exact a3,by rw [h2,hm]; exact a4,by rw [h1,h2]; exact a5,by rw [hm]; exact a6,by rw [hm]; exact a7⟩,?_,by rw [h1]; exact c,?_⟩
 ·unfold fill at *; rw [h1,h2,hm]; exact b
 ·rw [h1]; intro x hx
  exact zf6 hm (fun j hj=>by rw [zo9 t t' h1 h2]; exact hj) (d x hx)
theorem zq2 {α : Type} (finger moves : Nat) (led : Bool) : SOk (α:=α) (fresh finger moves led) []:=by
 refine ⟨⟨by simp [SetTable.fresh],by simp [SetTable.fresh],by simp [SetTable.fresh],by simp [SetTable.fresh],by simp [SetTable.fresh],⟨0,by simp [SetTable.fresh]⟩,by simp [SetTable.fresh]⟩,by simp [SetTable.fresh,SetTable.fill],by simp [SetTable.fresh],?_⟩
 intro c hc; simp at hc
theorem zk1 (n : Nat) : ∀ (fuel size : Nat),(∃ k,size = 2 ^ (k + 3))->n < size * 2 ^ fuel ->
  (∃ k,sizeAbove.go n fuel size = 2 ^ (k + 3))/\n < sizeAbove.go n fuel size/\(sizeAbove.go n fuel size <= size \/ sizeAbove.go n fuel size <= 2 * n):=by
 intro fuel
 induction fuel with
 | zero=>intro size hk hn; unfold sizeAbove.go; exact ⟨hk,by simpa using hn,.inl (Nat.le_refl _)⟩
 | succ fuel ih =>
  intro size hk hn
  unfold sizeAbove.go
  by_cases hc : size <= n
  ·rw [if_pos hc]
   obtain ⟨k,hk⟩:=hk
   obtain ⟨h1,h2,h3⟩:=ih (size * 2) ⟨k + 1,by rw [hk,Nat.pow_succ,Nat.pow_succ,Nat.pow_succ,Nat.pow_succ,Nat.pow_succ,Nat.pow_succ,Nat.pow_succ]⟩ (by
    rw [Nat.pow_succ] at hn; rw [Nat.mul_assoc,Nat.mul_comm 2]; exact hn)
   refine ⟨h1,h2,.inr ?_⟩
   rcases h3 with h3 | h3 <;> omega
  ·rw [if_neg hc]
   exact ⟨hk,by lia,.inl (Nat.le_refl _)⟩
theorem zge (n : Nat) (hn : n <= 4095) : (∃ k,sizeAbove n - 1 + 1 = 2 ^ (k + 3))/\n <= sizeAbove n - 1/\7 <= sizeAbove n - 1/\sizeAbove n - 1 <= 8191/\sizeAbove n <= 8192:=by
 obtain ⟨⟨k,h1⟩,h2,h3⟩:=zk1 n 64 8 ⟨0,by decide⟩ (Nat.lt_of_le_of_lt hn (by decide))
 have h1' : sizeAbove n = 2 ^ (k + 3):=h1
 have h2' : n < sizeAbove n:=h2
 have h3' : sizeAbove n <= 8 \/ sizeAbove n <= 2 * n:=h3
 have hk : 8 <= 2 ^ (k + 3):=by rw [Nat.pow_add]; have:=Nat.two_pow_pos k; lia
 refine ⟨⟨k,by omega⟩,by omega,by omega,by omega,by omega⟩
theorem zkk {α : Type} (t : SetTable) (es : Array (Int × α)) (wanted : Nat) (h1 : 2 * es.size <= wanted) (h2 : wanted <= 4095) :
  ∃ t' order,t.relaid (es.map (·.1)) wanted = some (t',order)/\t'.dummies = #[]/\t'.mask = sizeAbove wanted - 1/\t'.led = t.led/\t'.plain = t.plain /\
   order.toList.Perm (List.range es.size)/\(order.filterMap (es[·]?)).toList.Perm es.toList/\(order.filterMap (es[·]?)).size = es.size/\SOk t' (order.filterMap (es[·]?)).toList:=by
 obtain ⟨⟨k,hk⟩,a,b,c,_⟩:=zge wanted h2
 obtain ⟨t',order,e1,e2,e3,e4,e5,e6,e7,e8,e9,e10,e11⟩:=zw9 (sizeAbove wanted - 1) k hk c t.finger (t.movedTo (sizeAbove wanted - 1)) t.led t.plain es (by lia)
 exact ⟨t',order,e1,e3,e2,e4,e5,e8,e9,e10,e11⟩
theorem zto {α β : Type} : ∀ (p : Nat) (l : List α) (m : List β),(l.zip m).take p = (l.take p).zip (m.take p):=by
 intro p
 induction p with
 | zero=>intro l m; simp
 | succ p ih=>intro l m; cases l with
  | nil=>simp
  | cons a l=>cases m with
   | nil=>simp
   | cons b m=>simp [ih]
theorem zsc {α β : Type} : ∀ (p : Nat) (l : List α) (m : List β),(l.zip m).drop p = (l.drop p).zip (m.drop p):=by
 intro p
 induction p with
 | zero=>intro l m; simp
 | succ p ih=>intro l m; cases l with
  | nil=>simp
  | cons a l=>cases m with
   | nil=>simp
   | cons b m=>simp [ih]
theorem zpd {α β : Type} (p : Nat) (a : α) (b : β) : ∀ (l : List α) (m : List β),l.length = m.length ->
  (l.take p++a::l.drop p).zip (m.take p++b::m.drop p) = (l.zip m).take p++(a,b)::(l.zip m).drop p:=by
 intro l m h
 rw [List.zip_append (by simp [h]),List.zip_cons_cons,<- zto,<- zsc]
theorem zbf {α : Type} (p : Nat) (a : α) (l : List α) : (l.take p++a::l.drop p).Perm (a::l):=by
 have h : (l.take p++a::l.drop p).Perm (a::(l.take p++l.drop p)):=List.perm_middle
 rw [List.take_append_drop] at h; exact h
theorem zlh (xs : Array Nat) (i : Nat) (j : Nat) (hp : xs.toList.Pairwise (· < ·)) (h : xs[i]? = some j) (x : Nat) : x∈(eraseAt xs i).toList ↔ x∈xs.toList/\x≠j:=by
 rw [zde]
 rw [<- Array.getElem?_toList] at h
 obtain ⟨hi,hx⟩:=List.getElem?_eq_some_iff.mp h
 have hsp : xs.toList = xs.toList.take i++j::xs.toList.drop (i + 1):=by
  rw [<- hx,List.getElem_cons_drop,List.take_append_drop]
 have hp':=hp
 rw [hsp,List.pairwise_append,List.pairwise_cons] at hp'
 obtain ⟨p1,⟨p2,p3⟩,p4⟩:=hp'
 rw [List.mem_append]
 constructor
 ·rintro (h1 | h1)
  ·have:=p4 x h1 j (.head _); exact ⟨List.mem_of_mem_take h1,by lia⟩
  ·have:=p2 x h1; exact ⟨List.mem_of_mem_drop h1,by lia⟩
 ·rintro ⟨h1,h2⟩
  rw [hsp,List.mem_append] at h1
  rcases h1 with h1 | h1
  ·exact .inl h1
  ·rcases List.mem_cons.mp h1 with e | e
   ·exact absurd e h2
   ·exact .inr e
theorem zwt {α : Type} (t : SetTable) (es : Array (Int × α)) (h : Int) (x : α) (s : Nat) (ok : SOk t es.toList) (hs : t.slot s = .empty \/ t.slot s = .dummy) (hm : s <= t.mask) (hr : zkd t h s) :
  TOk (t.put s).1/\(t.put s).1.mask = t.mask/\(t.put s).1.place.size = (insertAt es (t.put s).2 (h,x)).size /\
  (∀ c∈(t.put s).1.place.toList.zip (insertAt es (t.put s).2 (h,x)).toList,zkd (t.put s).1 c.2.1 c.1) /\
  (t.put s).1.fill <= t.fill + 1/\(t.slot s = .dummy->(t.put s).1.fill = t.fill)/\(insertAt es (t.put s).2 (h,x)).toList.Perm ((h,x)::es.toList) /\
  (t.put s).1.led = t.led/\(t.put s).1.plain = t.plain:=by
 obtain ⟨⟨a1,a2,a3,a4,a5,a6,a7⟩,b,c,d⟩:=ok
 have tok : TOk t:=⟨a1,a2,a3,a4,a5,a6,a7⟩
 have hnp : s ∉ t.place.toList:=by
  rcases hs with hs | hs
  ·exact ((zdl tok s).mp hs).1
  ·exact a5 s ((zet tok s).mp hs)
 have hb:=(zer t.place s a1).1
 have hbe : below t.place s <= es.size:=by have : t.place.size = es.size:=(by simpa using c); lia
 have hd' : ∀ y,y∈(if has t.dummies s = true then eraseAt t.dummies (below t.dummies s) else t.dummies).toList ↔ y∈t.dummies.toList/\y≠s:=by
  intro y
  by_cases hh : has t.dummies s = true
  ·rw [if_pos hh]
   exact zlh t.dummies _ s a2 ((zds _ _ a2).mpr ((zhv _ _ a2).mp hh)) y
  ·rw [if_neg hh]
   exact ⟨fun hy=>⟨hy,fun e=>hh ((zhv _ _ a2).mpr (e ▸ hy))⟩,fun hy=>hy.1⟩
 have hpl : (t.put s).1.place.toList = t.place.toList.take (below t.place s)++s::t.place.toList.drop (below t.place s):=zbb _ _ _ hb
 have hmp : ∀ y,y∈(t.put s).1.place.toList ↔ y = s \/ y∈t.place.toList:=by
  intro y; rw [hpl,(zbf _ _ _).mem_iff,List.mem_cons]
 have hmd : ∀ y,y∈(t.put s).1.dummies.toList ↔ y∈t.dummies.toList/\y≠s:=hd'
 have htok : TOk (t.put s).1:=by
  refine ⟨zh3 _ _ a1 hnp,?_,?_,?_,?_,a6,a7⟩
  ·show (if has t.dummies s = true then eraseAt t.dummies (below t.dummies s) else t.dummies).toList.Pairwise (· < ·)
   split
   ·rw [zde]
    refine List.Pairwise.sublist ?_ a2
    have : (t.dummies.toList.take (below t.dummies s)++t.dummies.toList.drop (below t.dummies s + 1)).Sublist (t.dummies.toList.take (below t.dummies s)++t.dummies.toList.drop (below t.dummies s)) :=
     List.Sublist.append (List.Sublist.refl _) (by rw [<- List.drop_drop]; exact List.drop_sublist _ _)
    rw [List.take_append_drop] at this; exact this
   ·exact a2
  ·intro j hj; rcases (hmp j).mp hj with e | e
   ·rw [e]; exact hm
   ·exact a3 j e
  ·intro j hj; exact a4 j ((hmd j).mp hj).1
  ·intro j hj hc
   rcases (hmp j).mp hc with e | e
   ·exact ((hmd j).mp hj).2 e
   ·exact a5 j ((hmd j).mp hj).1 e
 have hmono : ∀ j,t.slot j ≠ .empty->(t.put s).1.slot j ≠ .empty:=by
  intro j hj hc
  obtain ⟨c1,c2⟩:=(zdl htok j).mp hc
  refine hj ((zdl tok j).mpr ⟨fun e=>c1 ((hmp j).mpr (.inr e)),fun e=>?_⟩)
  by_cases he : j = s
  ·exact c1 ((hmp j).mpr (.inl he))
  ·exact c2 ((hmd j).mpr ⟨e,he⟩)
 refine ⟨htok,rfl,?_,?_,?_,?_,?_,rfl,rfl⟩
 ·show (insertAt t.place (below t.place s) s).size = (insertAt es (below t.place s) (h,x)).size
  rw [<- Array.length_toList,<- Array.length_toList,zbb _ _ _ hb,zbb _ _ _ hbe,(zbf _ _ _).length_eq,(zbf _ _ _).length_eq]
  simpa using c
 ·intro e he
  rw [hpl] at he
  have he' : e∈(t.place.toList.take (below t.place s)++s::t.place.toList.drop (below t.place s)).zip (insertAt es (below t.place s) (h,x)).toList:=he
  rw [zbb _ _ _ hbe,zpd _ _ _ _ _ (by simpa using c),(zbf _ _ _).mem_iff,List.mem_cons] at he'
  rcases he' with e1 | e1
  ·rw [e1]; exact zf6 (t:=t) (t':=(t.put s).1) rfl hmono hr
  ·exact zf6 (t:=t) (t':=(t.put s).1) rfl hmono (d e e1)
 ·show (insertAt t.place (below t.place s) s).size + (if has t.dummies s = true then eraseAt t.dummies (below t.dummies s) else t.dummies).size <= t.fill + 1
  have h1 : (insertAt t.place (below t.place s) s).size = t.place.size + 1:=by
   rw [<- Array.length_toList,zbb _ _ _ hb,(zbf _ _ _).length_eq]; simp
  have h2 : (if has t.dummies s = true then eraseAt t.dummies (below t.dummies s) else t.dummies).size <= t.dummies.size:=by
   split
   ·rw [<- Array.length_toList,zde]; simp; omega
   ·exact Nat.le_refl _
  unfold fill; lia
 ·intro hdm
  show (insertAt t.place (below t.place s) s).size + (if has t.dummies s = true then eraseAt t.dummies (below t.dummies s) else t.dummies).size = t.fill
  have h1 : (insertAt t.place (below t.place s) s).size = t.place.size + 1:=by
   rw [<- Array.length_toList,zbb _ _ _ hb,(zbf _ _ _).length_eq]; simp
  have hin:=(zet tok s).mp hdm
  rw [if_pos ((zhv _ _ a2).mpr hin)]
  have hlt:=(Array.getElem?_eq_some_iff.mp ((zds _ _ a2).mpr hin)).1
  have h2 : (eraseAt t.dummies (below t.dummies s)).size + 1 = t.dummies.size:=by
   rw [<- Array.length_toList,zde]; simp; lia
  unfold fill; lia
 ·show (insertAt es (below t.place s) (h,x)).toList.Perm ((h,x)::es.toList)
  rw [zbb _ _ _ hbe]; exact zbf _ _ _
end L2T
namespace L2
open PySem PySem.Spec PyProof.Rows L2T
inductive SK where
 | one (k : Key)
 | many (ks : List Key)
 deriving DecidableEq
noncomputable def SK.flat : SK->Bool
 | .one _=>true
 | .many _=>false
section
variable (prog : Program) (w : World)
noncomputable def SK.is (h : Heap) : SK->Value->Prop
 | .one k,v=>(zal prog w).is k v = true
 | .many ks,v=>∃ a,v = .ref a/\IsTupleKey (zal prog w) h ks a
noncomputable def SK.hash : SK->Int
 | .one k=>(zal prog w).hash k
 | .many ks=>tupleKeyHash (zal prog w) ks
inductive Es (h : Heap) : List SK->List (Int × Value)->Prop
 | nil : Es h [] []
 | cons {k : SK} {e : Int × Value} {ks : List SK} {es : List (Int × Value)} : e.1 = k.hash prog w->k.is prog w h e.2->Es h ks es->Es h (k::ks) (e::es)
noncomputable def zjr (h h' : Heap) : Prop:=∀ b o,o.cls = .type "tuple" -> h.get? b = some o->h'.get? b = some o
noncomputable def led0 : Bool:=!w.params.followText "set-order"
structure SetO (h : Heap) (o : Obj) (ks : List SK) (es : Array (Int × Value)) (ep : Nat) (t : SetTable) : Prop where
 ex : o.ExactSet
 data : o.data = .set es ep t
 tab : SOk t es.toList
 ent : Es prog w h ks es.toList
 nod : ks.Nodup
 small : ks.length <= 1000
 led : t.led = led0 w
 kind : ∃ f,∀ k∈ks,k.flat = f
noncomputable def SetE (h : Heap) (a : Addr) (ks : List SK) (es : Array (Int × Value)) : Prop:=∃ o ep t,h.get? a = some o/\SetO prog w h o ks es ep t
end
section
variable {prog : Program} {w : World} {h h' : Heap}
theorem SK.is_mono {k : SK} {v : Value} (K : zjr h h') (x : k.is prog w h v) : k.is prog w h' v:=by
 cases k with
 | one k=>exact x
 | many ks =>
  obtain ⟨a,rfl,o,its,n,e,c,d,i⟩:=x
  exact ⟨a,rfl,o,its,n,K a o c e,c,d,i⟩
theorem Es.mono {ks : List SK} {es : List (Int × Value)} (K : zjr h h') (x : Es prog w h ks es) : Es prog w h' ks es:=by
 induction x with
 | nil=>exact .nil
 | cons a b _ ih=>exact .cons a (SK.is_mono K b) ih
theorem Es.length {ks : List SK} {es : List (Int × Value)} (x : Es prog w h ks es) : ks.length = es.length:=by
 induction x with
 | nil=>rfl
 | cons a b _ ih=>simp [ih]
theorem Es.get {ks : List SK} {es : List (Int × Value)} (x : Es prog w h ks es) : ∀ (i : Nat) (e : Int × Value),es[i]? = some e -> ∃ k,ks[i]? = some k/\e.1 = k.hash prog w/\k.is prog w h e.2:=by
 induction x with
 | nil=>intro i e he; simp at he
 | cons a b _ ih =>
  intro i e he
  cases i with
  | zero=>simp at he; subst he; exact ⟨_,rfl,a,b⟩
  | succ i=>exact ih i e he
theorem Es.perm {ks : List SK} {es es' : List (Int × Value)} (x : Es prog w h ks es) (p : es'.Perm es) : ∃ ks',ks'.Perm ks/\Es prog w h ks' es':=by
 have p':=p.symm
 clear p
 induction p' generalizing ks with
 | nil=>exact ⟨ks,.refl _,x⟩
 | cons e _ ih =>
  cases x with
  | cons a b y =>
   obtain ⟨k2,q,z⟩:=ih y
   exact ⟨_::k2,q.cons _,.cons a b z⟩
 | swap e f l =>
  cases x with
  | cons a b y=>cases y with
   | cons c d z=>exact ⟨_::_::_,List.Perm.swap _ _ _,.cons c d (.cons a b z)⟩
 | trans _ _ ih1 ih2 =>
  obtain ⟨k1,q1,z1⟩:=ih1 x
  obtain ⟨k2,q2,z2⟩:=ih2 z1
  exact ⟨k2,q2.trans q1,z2⟩
theorem SetO.fits {o : Obj} {ks : List SK} {es : Array (Int × Value)} {ep : Nat} {t : SetTable} (S : SetO prog w h o ks es ep t) : t.fits es.size = true:=by
 have h1:=S.tab.size
 have h2:=S.tab.room
 simp only [SetTable.fits,Bool.and_eq_true,beq_iff_eq,decide_eq_true_eq]
 exact ⟨by simpa using h1,by lia⟩
theorem SetO.mono {o : Obj} {ks : List SK} {es : Array (Int × Value)} {ep : Nat} {t : SetTable} (K : zjr h h') (S : SetO prog w h o ks es ep t) : SetO prog w h' o ks es ep t :=
 ⟨S.ex,S.data,S.tab,S.ent.mono K,S.nod,S.small,S.led,S.kind⟩
theorem zfw {a : Addr} {o : Obj} {es : Array (Int × Value)} {ep : Nat} {t : SetTable} (ho : h.get? a = some o) (hd : o.ExactSet) (hs : Heap.SameBut a h h') : zjr h h':=by
 intro b u c e
 have hne : b≠a:=by
  rintro rfl
  rw [ho] at e; cases e
  rw [hd.1] at c; exact absurd c (by decide)
 exact (hs.2 b hne).trans e
end
end L2
namespace L2
open PySem PySem.Spec PyProof.Rows L2T
theorem zn7 (b : Addr) : isSame (.ref b) (.ref b) = pure true:=by
 show (if (b == b) = true then (pure true : Sem Bool) else _) = _
 rw [if_pos (beq_self_eq_true b)]
section
variable {prog : Program} {w : World} {A : Around} {E : Value->Shared->Prop} {s : Shared}
theorem zi7 {M : Model} {a : Addr} {o : Obj} {ks : List SK} {es : Array (Int × Value)} {ep : Nat} {t : SetTable} {Q : Array (Int × Value) × Nat × SetTable->Shared->Prop}
  (ho : s.heap.get? a = some o) (S : SetO prog w s.heap o ks es ep t) (q : Q (es,ep,t) s) : wpAny (model prog w) A (setState a) Q E s :=
 wpAny_setState_of ho S.data S.fits q
theorem zwa {ks : List Key} {v : Value} {a : Addr} {Q : Bool->Shared->Prop} (hk : IsTupleKey (zal prog w) s.heap ks a) (h : Q false s) : wpAny (model prog w) A (ofAClassStatement 8 (.ref a)) Q E s:=by
 have hT:=hk.typeIs
 obtain ⟨o,its,n,ho,_,hd,hi⟩:=hk
 unfold ofAClassStatement
 refine wpAny_bind (wpAny_typeOf hT ?_)
 show wpAny _ _ ((if ("tuple" == "tuple") = true then pure true else isSubtype (.type "tuple") (.type "tuple")) >>= _) Q E s
 refine wpAny_bind (wpAny_pure ?_)
 show wpAny _ _ (seqItems? (.ref a) >>= _) Q E s
 refine wpAny_bind (wpAny_seqItems ho hd ?_)
 show wpAny _ _ (forIn its _ _ >>= _) Q E s
 refine wpAny_bind ?_
 rw [<- Array.forIn_toList]
 refine wpAny_forIn_list _ (fun rest r s'=>r.1 = none/\s' = s /\ ∀ v∈rest,carriedByValue v = true) _ ?_ ?_ _ _ ⟨rfl,rfl,hi.byValue⟩
 ·rintro v rest r s' ⟨hr,rfl,hall⟩
  have hv:=hall v List.mem_cons_self
  have e : ofAClassStatement 7 v = pure false:=by
   cases v <;> first | rfl | (simp [carriedByValue] at hv)
  show wpAny _ _ (ofAClassStatement 7 v >>= _) _ _ _
  rw [e]
  refine wpAny_bind (wpAny_pure ?_)
  simp only [Bool.false_eq_true,if_false]
  exact wpAny_pure ⟨rfl,rfl,fun u hu'=>hall u (List.mem_cons_of_mem _ hu')⟩
 ·rintro ⟨r1,r2⟩ s' ⟨hr,rfl,_⟩
  simp only at hr
  subst hr
  exact wpAny_pure h
theorem zun {kk : List Key} {a : Addr} {Q : Bool->Shared->Prop} (hk : IsTupleKey (zal prog w) s.heap kk a) (h : Q false s) :
  ∀ ys : List Value,(∀ y∈ys,∃ b ks,y = .ref b/\IsTupleKey (zal prog w) s.heap ks b)->wpAny (model prog w) A (searchCouldBeSeen (.ref a) ys) Q E s:=by
 intro ys hys
 unfold searchCouldBeSeen
 refine wpAny_bind ?_
 refine wpAny_forIn_list _ (fun rest r s'=>r.1 = none/\s' = s /\ ∀ y∈rest,∃ b ks,y = .ref b/\IsTupleKey (zal prog w) s.heap ks b) _ ?_ ?_ _ _ ⟨rfl,rfl,hys⟩
 ·rintro y rest r s' ⟨hr,rfl,hall⟩
  obtain ⟨b,ks,rfl,hb⟩:=hall y List.mem_cons_self
  have hrest : ∀ y∈rest,∃ b ks,y = .ref b/\IsTupleKey (zal prog w) s'.heap ks b:=fun y hy=>hall y (List.mem_cons_of_mem _ hy)
  dsimp only
  by_cases hab : (a == b) = true
  ·rw [if_pos (by rw [hab]; rfl)]
   exact wpAny_pure ⟨rfl,rfl,hrest⟩
  ·rw [if_neg (by rw [Bool.not_eq_true] at hab; rw [hab]; simp [carriedByValue])]
   refine wpAny_bind (wpAny_eqIsQuiet_tuple hk ?_)
   simp only [Bool.not_true,Bool.false_eq_true,if_false]
   refine wpAny_bind (wpAny_eqIsQuiet_tuple hb ?_)
   simp only [Bool.not_true,Bool.false_eq_true,if_false]
   refine wpAny_bind (zwa (v:=.none) hk ?_)
   simp only [Bool.false_eq_true,if_false]
   refine wpAny_bind (zwa (v:=.none) hb ?_)
   simp only [Bool.false_eq_true,if_false]
   exact wpAny_pure ⟨rfl,rfl,hrest⟩
 ·rintro ⟨r1,r2⟩ s' ⟨hr,rfl,_⟩
  simp only at hr
  subst hr
  exact wpAny_pure h
theorem zvr {a : Addr} {o : Obj} {ks : List SK} {es : Array (Int × Value)} {ep : Nat} {t : SetTable} {x : Value} {kk : List Key} {adding : Bool} {Q : SetFound->Shared->Prop} (hu : A.units < cLine)
  (ho : s.heap.get? a = some o) (S : SetO prog w s.heap o ks es ep t) (hk : ∀ k∈ks,k.flat = false) (hx : (SK.many kk).is prog w s.heap x)
  (found : ∀ i,ks[i]? = some (.many kk)->Q (.there (if adding then none else some i)) s)
  (free : SK.many kk ∉ ks -> ∀ sl wd,sl <= t.mask->zkd t (SK.hash prog w (.many kk)) sl->(wd = true->t.slot sl = .dummy)->(wd = false->t.slot sl = .empty)->Q (.free sl wd) s) :
  ∀ (fuel n : Nat) (stand : Option SetTable.Probe),(stand = none->n = 0) ->
   (∀ p,stand = some p->zm9 p (prM t.mask (SK.hash prog w (.many kk)) n)/\(p.dummy = none \/ ∃ q,q < n/\p.dummy = some (posM t.mask (SK.hash prog w (.many kk)) q)/\t.slot (posM t.mask (SK.hash prog w (.many kk)) q) = .dummy)) ->
   (∀ q,q < n->t.slot (posM t.mask (SK.hash prog w (.many kk)) q) ≠ .empty /\ ∀ i,t.slot (posM t.mask (SK.hash prog w (.many kk)) q) = .live i->ks[i]? ≠ some (.many kk)) ->
   (∃ N,n <= N/\N < n + fuel/\N < 10 * SetTable.turns t.mask/\t.slot (posM t.mask (SK.hash prog w (.many kk)) N) = .empty) ->
   wpAny (model prog w) A (setSearchFrom a x (SK.hash prog w (.many kk)) adding fuel stand) Q E s:=by
 generalize hH : SK.hash prog w (.many kk) = hh at *
 have tok:=S.tab.ok
 obtain ⟨kp,hpow⟩:=tok.pow
 obtain ⟨ax,rfl,hax⟩:=hx
 have hgw : t.gaveWay = false:=by
  unfold SetTable.gaveWay
  rw [Nat.pow_succ] at hpow
  rw [beq_eq_false_iff_ne]; lia
 have hent : ∀ (i : Nat) (h : Int) (y : Value),es[i]? = some (h,y) -> ∃ (b : Addr) (k2 : List Key),y = Value.ref b/\IsTupleKey (zal prog w) s.heap k2 b/\ks[i]? = some (SK.many k2)/\h = SK.hash prog w (SK.many k2):=by
  intro i h y he
  obtain ⟨k,h1,h2,h3⟩:=S.ent.get i (h,y) (by rw [Array.getElem?_toList]; exact he)
  have hf:=hk k (List.mem_of_getElem? h1)
  cases k with
  | one k=>simp [SK.flat] at hf
  | many k2=>obtain ⟨b,rfl,hb⟩:=h3; exact ⟨b,k2,rfl,hb,h1,h2⟩
 intro fuel
 induction fuel with
 | zero=>rintro n stand _ _ _ ⟨N,h1,h2,_⟩; lia
 | succ fuel ih =>
  rintro n stand hst hsp hq ⟨N,n1,n2,n3,n4⟩
  unfold setSearchFrom
  refine wpAny_bind (zi7 (M:=model prog w) ho S ?_)
  dsimp only
  rw [hgw]
  simp only [Bool.false_eq_true,if_false]
  have hstart : zm9 (stand.getD (t.probeStart hh)) (prM t.mask hh n)/\((stand.getD (t.probeStart hh)).dummy = none \/ ∃ q,q < n/\(stand.getD (t.probeStart hh)).dummy = some (posM t.mask hh q)/\t.slot (posM t.mask hh q) = .dummy):=by
   cases stand with
   | none=>rw [hst rfl]; exact ⟨⟨rfl,rfl,rfl,rfl⟩,.inl rfl⟩
   | some p=>exact hsp p rfl
  obtain ⟨m,m1,m2,d,hd,hr⟩:=znt t (fun i=>(es[i]?.map (·.1)).getD 0) hh (10 * SetTable.turns t.mask) _ n hstart.1 ⟨N,n1,by lia,n4⟩
  have hd' : d = none \/ ∃ q,q < m/\d = some (posM t.mask hh q)/\t.slot (posM t.mask hh q) = .dummy:=by
   rcases hd with hd | ⟨q,q1,q2,q3,q4⟩
   ·rcases hstart.2 with e | ⟨q,q1,q2,q3⟩
    ·exact .inl (hd.trans e)
    ·exact .inr ⟨q,by lia,hd.trans q2,q3⟩
   ·exact .inr ⟨q,q2,q3,q4⟩
  have hne : ∀ q,q < m->t.slot (posM t.mask hh q) ≠ .empty:=fun q hqm=>by
   rcases Nat.lt_or_ge q n with hl | hl
   ·exact (hq q hl).1
   ·exact (m2 q hl hqm).1
  rcases hr with ⟨hemp,hr⟩ | ⟨i,nx,hlive,hhash,hr,hsn,hdn⟩
  ·-- an empty slot: it is not there
   have habs : SK.many kk ∉ ks:=by
    intro hin
    obtain ⟨i,hi⟩:=List.mem_iff_getElem?.mp hin
    have hil : i < ks.length:=(List.getElem?_eq_some_iff.mp hi).1
    have hie : i < es.size:=by have:=S.ent.length; simp at this; lia
    have hip : i < t.place.size:=by have:=S.tab.size; simp at this; lia
    have hpl : t.place[i]? = some t.place[i]:=Array.getElem?_eq_getElem hip
    have hes : es[i]? = some es[i]:=Array.getElem?_eq_getElem hie
    obtain ⟨b,k2,hy,hb,hki,hhi⟩:=hent i es[i].1 es[i].2 hes
    have hkk : k2 = kk:=by rw [hi] at hki; cases hki; rfl
    subst hkk
    have hreach:=S.tab.reach (t.place[i],es[i]) (by
     rw [List.mem_iff_getElem?]
     refine ⟨i,?_⟩
     rw [List.getElem?_zip_eq_some]
     exact ⟨by rw [Array.getElem?_toList]; exact hpl,by rw [Array.getElem?_toList]; exact hes⟩)
    obtain ⟨n',e1,e2⟩:=hreach
    dsimp only at e1 e2
    rw [hhi,hH] at e1 e2
    have hl : t.slot (posM t.mask hh n') = .live i:=by rw [e1]; exact (zep tok _ i).mpr hpl
    rcases Nat.lt_trichotomy n' m with c | c | c
    ·rcases Nat.lt_or_ge n' n with c2 | c2
     ·exact (hq n' c2).2 i hl hi
     ·refine (m2 n' c2 c).2 i hl ?_
      rw [hes]; show es[i].1 = hh; rw [hhi,hH]
    ·subst c; rw [hl] at hemp; cases hemp
    ·exact e2 m c hemp
   generalize hX : t.probe _ hh _ = pX
   have hX2:=hX.symm.trans hr
   subst hX2
   rcases hd' with rfl | ⟨q,q1,rfl,q2⟩
   ·exact wpAny_pure (free habs _ false (zis _ _ hpow hh m) ⟨m,rfl,hne⟩ (fun e=>by cases e) (fun _=>hemp))
   ·dsimp only
    rw [q2]
    have : (adding && (SetTable.Slot.dummy != SetTable.Slot.dummy)) = false:=by cases adding <;> decide
    rw [this]
    simp only [Bool.false_eq_true,if_false]
    exact wpAny_pure (free habs _ true (zis _ _ hpow hh q) ⟨q,rfl,fun m' hm'=>hne m' (by lia)⟩ (fun _=>q2) (fun e=>by cases e))
  ·have hpl:=(zep tok _ i).mp hlive
   have hip : i < t.place.size:=(Array.getElem?_eq_some_iff.mp hpl).1
   have hie : i < es.size:=by have:=S.tab.size; simp at this; lia
   have hes : es[i]? = some es[i]:=Array.getElem?_eq_getElem hie
   obtain ⟨b,k2,hy,hb,hki,hhi⟩:=hent i es[i].1 es[i].2 hes
   generalize hX : t.probe _ hh _ = pX
   have hX2:=hX.symm.trans hr
   subst hX2
   dsimp only
   have hall : ∀ y∈(es.filter (·.1 == hh)).toList.map (·.2),∃ (b : Addr) (k3 : List Key),y = Value.ref b/\IsTupleKey (zal prog w) s.heap k3 b:=by
    intro y hy
    obtain ⟨e,he,rfl⟩:=List.mem_map.mp hy
    have he':=(Array.mem_filter.mp (Array.mem_toList_iff.mp he)).1
    obtain ⟨j,hj⟩:=List.mem_iff_getElem?.mp (Array.mem_toList_iff.mpr he')
    rw [Array.getElem?_toList] at hj
    obtain ⟨b,k3,hy,hb,_⟩:=hent j e.1 e.2 hj
    exact ⟨b,k3,hy,hb⟩
   by_cases hl : t.led = true
   case' pos=>simp only [hl,Bool.not_true,Bool.false_eq_true,if_false]
   case' neg =>
    rw [Bool.not_eq_true] at hl
    simp only [hl,Bool.not_false,if_true]
    refine wpAny_bind (zun hax ?_ _ hall)
    simp only [Bool.false_eq_true,if_false]
   all_goals
     rw [hes]
     dsimp only
     rw [hy]
     refine wpAny_bind (wpAny_holding (wpAny_eqBool_tuple hu hb hax ?_))
     refine wpAny_bind (zi7 (M:=model prog w) ho S ?_)
     dsimp only
     by_cases hkk : k2 = kk
     ·subst hkk
      have hQ:=found i hki
      rw [decide_eq_true rfl]
      cases adding with
      | true=>exact wpAny_pure hQ
      | false =>
       have hsm : t.sameMemory t.moves t.mask = some true:=by unfold SetTable.sameMemory; simp
       simp only [Bool.false_and,Bool.false_eq_true,if_false,hsm,if_true,hlive,hes,hy]
       have hself:=zn7 b
       rw [hself]
       exact wpAny_bind (wpAny_pure (wpAny_bind (wpAny_pure (wpAny_pure hQ))))
     ·rw [decide_eq_false hkk]
      have hsm : t.sameMemory t.moves t.mask = some true:=by unfold SetTable.sameMemory; simp
      simp only [Bool.and_false,Bool.false_eq_true,if_false,hsm,if_true,hlive,hes,hy]
      have hself:=zn7 b
      rw [hself]
      refine wpAny_bind (wpAny_pure (wpAny_bind (wpAny_pure ?_)))
      have hmN : m < N:=by
       refine Nat.lt_of_not_le fun c=>?_
       rcases Nat.eq_or_lt_of_le c with e | e
       ·rw [<- e,n4] at hlive; cases hlive
       ·exact hne N e n4
      refine ih (m + 1) (some nx) (fun e=>by cases e) (fun p hp=>?_) (fun q hqm=>?_) ⟨N,by lia,by lia,n3,n4⟩
      ·cases hp
       refine ⟨hsn,?_⟩
       rw [hdn]
       rcases hd' with e | ⟨q,q1,q2,q3⟩
       ·exact .inl e
       ·exact .inr ⟨q,by lia,q2,q3⟩
      ·rcases Nat.lt_or_ge q m with c | c
       ·refine ⟨hne q c,fun j hj hkj=>?_⟩
        rcases Nat.lt_or_ge q n with c2 | c2
        ·exact (hq q c2).2 j hj hkj
        ·have hpj:=(zep tok _ j).mp hj
         have hjp : j < t.place.size:=(Array.getElem?_eq_some_iff.mp hpj).1
         have hje : j < es.size:=by have:=S.tab.size; simp at this; lia
         have hej : es[j]? = some es[j]:=Array.getElem?_eq_getElem hje
         obtain ⟨_,k3,_,_,hkj',hhj⟩:=hent j es[j].1 es[j].2 hej
         rw [hkj] at hkj'; cases hkj'
         refine (m2 q c2 c).2 j hj ?_
         rw [hej]; show es[j].1 = hh; rw [hhj,hH]
       ·have : q = m:=by lia
        subst this
        refine ⟨by rw [hlive]; exact fun e=>(by cases e),fun j hj hkj=>?_⟩
        rw [hlive] at hj; cases hj
        rw [hki] at hkj; cases hkj; exact hkk rfl
end
end L2
namespace L2
open PySem PySem.Spec PyProof.Rows L2T
section
variable {prog : Program} {w : World} {h : Heap}
theorem zi4 {a : Addr} {o : Obj} {es : Array (Int × Value)} {ep : Nat} {t : SetTable} (ho : h.get? a = some o) (hd : o.data = .set es ep t) (e1 : Array (Int × Value)) (t1 : SetTable) :
  (h.update a (Obj.putSet e1 t1)).get? a = some { o with data:=.set e1 (ep + 1) t1 }:=by
 have z:=Heap.get?_update_self (Obj.putSet e1 t1) ho (by rw [putSet_of e1 t1 hd]; rfl)
 rw [putSet_of e1 t1 hd] at z
 exact z
theorem Es.flats {ks : List SK} {es : List (Int × Value)} (x : Es prog w h ks es) (hf : ∀ k∈ks,k.flat = true) : ElemsOf (zal prog w) es:=by
 intro e he
 obtain ⟨i,hi⟩:=List.mem_iff_getElem?.mp he
 obtain ⟨k,a,b,c⟩:=x.get i e hi
 have hk:=hf k (List.mem_of_getElem? a)
 cases k with
 | many _=>simp [SK.flat] at hk
 | one k =>
  refine ⟨⟨k,c,b⟩,?_⟩
  rcases zay c with ⟨j,t,_,e2⟩ | ⟨y,t,_,e2⟩ <;> rw [e2] <;> rfl
theorem zkn {k : Key} {x : Value} (hx : SK.is prog w h (.one k) x) : x.scannable = true:=by
 rcases zay hx with ⟨j,t,_,e2⟩ | ⟨y,t,_,e2⟩ <;> rw [e2] <;> rfl
theorem Es.idx {ks : List SK} {es : List (Int × Value)} (x : Es prog w h ks es) (hf : ∀ k∈ks,k.flat = true) (k : Key) :
  (∀ j,es.findIdx? (fun e=>(zal prog w).is k e.2) = some j->ks[j]? = some (.one k))/\(es.findIdx? (fun e=>(zal prog w).is k e.2) = none->SK.one k ∉ ks):=by
 constructor
 ·intro j hj
  obtain ⟨h1,h2,_⟩:=List.findIdx?_eq_some_iff_getElem.mp hj
  obtain ⟨k',a,b,c⟩:=x.get j es[j] (List.getElem?_eq_getElem h1)
  have hk:=hf k' (List.mem_of_getElem? a)
  cases k' with
  | many _=>simp [SK.flat] at hk
  | one k'=>rw [a,(zal prog w).inj _ _ _ c h2]
 ·intro hn hin
  obtain ⟨i,hi⟩:=List.mem_iff_getElem?.mp hin
  have hil : i < es.length:=by rw [<- x.length]; exact (List.getElem?_eq_some_iff.mp hi).1
  obtain ⟨k',a,b,c⟩:=x.get i es[i] (List.getElem?_eq_getElem hil)
  rw [hi] at a; cases a
  have:=List.findIdx?_eq_none_iff.mp hn es[i] (List.getElem_mem hil)
  rw [show (zal prog w).is k es[i].2 = true from c] at this; cases this
theorem zry {es : Array (Int × Value)} {t : SetTable} (ok : SOk t es.toList) (hh : Int) (x : Value) :
  ∃ sl wd,layNew t es hh x = (SetTable.insertAt es (t.put sl).2 (hh,x),(t.put sl).1,wd,false)/\sl <= t.mask/\zkd t hh sl/\(wd = true->t.slot sl = .dummy)/\(wd = false->t.slot sl = .empty):=by
 obtain ⟨kp,hpow⟩:=ok.ok.pow
 obtain ⟨e,he,hemp⟩:=zih ok.ok (by have:=ok.room; lia)
 obtain ⟨N,hN,hp⟩:=zr2 t.mask _ hpow hh e he
 obtain ⟨m,m1,m2,d,hd,hr⟩:=znt t (fun _=>hh + 1) hh (10 * SetTable.turns t.mask) (t.probeStart hh) 0 ⟨rfl,rfl,rfl,rfl⟩ ⟨N,Nat.zero_le _,by lia,by rw [hp]; exact hemp⟩
 rcases hr with ⟨h1,h2⟩ | ⟨i,nx,_,h2,_⟩
 ·have hfs : t.freeSlot hh = some (d.getD (posM t.mask hh m),d.isSome):=by
   unfold SetTable.freeSlot SetTable.probe
   rw [h2]
  have key : ∃ sl wd,t.freeSlot hh = some (sl,wd)/\sl <= t.mask/\zkd t hh sl/\(wd = true->t.slot sl = .dummy)/\(wd = false->t.slot sl = .empty):=by
   rcases hd with hd | ⟨q,q1,q2,q3,q4⟩
   ·have : d = none:=hd
    subst this
    exact ⟨_,_,hfs,zis _ _ hpow hh m,⟨m,rfl,fun q hq=>(m2 q (Nat.zero_le _) hq).1⟩,(fun e=>by cases e),fun _=>h1⟩
   ·subst q3
    exact ⟨_,_,hfs,zis _ _ hpow hh q,⟨q,rfl,fun q' hq=>(m2 q' (Nat.zero_le _) (by lia)).1⟩,(fun _=>q4),(fun e=>by cases e)⟩
  obtain ⟨sl,wd,f1,f2,f3,f4,f5⟩:=key
  refine ⟨sl,wd,?_,f2,f3,f4,f5⟩
  have hs : t.slot sl = .empty \/ t.slot sl = .dummy:=by cases wd with
   | true=>exact .inr (f4 rfl)
   | false=>exact .inl (f5 rfl)
  obtain ⟨g1,g2,g3,g4,g5,_⟩:=zwt t es hh x sl ok hs f2 f3
  have hfit : (t.put sl).1.fits (SetTable.insertAt es (t.put sl).2 (hh,x)).size = true:=by
   simp only [SetTable.fits,Bool.and_eq_true,beq_iff_eq,decide_eq_true_eq]
   refine ⟨g3,?_⟩
   have:=ok.room
   rw [g2]; lia
  unfold layNew
  rw [f1]
  show (_,(t.put sl).1.orStandIn _,wd,!(t.put sl).1.fits _) = _
  unfold SetTable.orStandIn
  have hfit' : (t.put sl).1.fits (SetTable.insertAt es (SetTable.below t.place sl) (hh,x)).size = true:=hfit
  rw [hfit']; rfl
 ·lia
theorem zlw (t : SetTable) (es : Array (Int × Value)) (wanted : Nat) (h1 : 2 * es.size <= wanted) (h2 : wanted <= 4095) :
  ∃ t' es',relayAll t es wanted = (es',t',false)/\t'.led = t.led/\t'.plain = t.plain/\es'.toList.Perm es.toList/\SOk t' es'.toList:=by
 obtain ⟨t',order,e1,e2,e3,e4,e5,e6,e7,e8,e9⟩:=zkk t es wanted h1 h2
 refine ⟨t',_,?_,e4,e5,e7,e9⟩
 unfold relayAll
 rw [e1]
 dsimp only
 have c1 : coversAll order es.size = true:=List.isPerm_iff.mpr e6
 have c2 : t'.fits (order.filterMap (es[·]?)).size = true:=by
  simp only [SetTable.fits,Bool.and_eq_true,beq_iff_eq,decide_eq_true_eq]
  exact ⟨by rw [e9.size,Array.length_toList],by have:=e9.room; lia⟩
 rw [c1,c2]; rfl
end
section
variable {prog : Program} {w : World} {A : Around} {E : Value->Shared->Prop} {s : Shared}
theorem zvh {t : SetTable} {es : List (Int × Value)} (ok : SOk t es) (hh : Int) : ∃ N,0 <= N/\N < 0 + 100000/\N < 10 * SetTable.turns t.mask/\t.slot (posM t.mask hh N) = .empty:=by
 obtain ⟨kp,hpow⟩:=ok.ok.pow
 obtain ⟨e,he,hemp⟩:=zih ok.ok (by have:=ok.room; lia)
 obtain ⟨N,hN,hp⟩:=zr2 t.mask _ hpow hh e he
 have hb:=ok.ok.big
 refine ⟨N,Nat.zero_le _,?_,hN,by rw [hp]; exact hemp⟩
 unfold SetTable.turns at hN; lia
theorem zpu {es : Array (Int × Value)} {k : Key} {x : Value} {ks : List SK} (hx : SK.is prog w s.heap (.one k) x) (ent : Es prog w s.heap ks es.toList) (hf : ∀ k∈ks,k.flat = true) (hs : ks.length <= 1000) : byScan x es = true :=
 byScan_of (knd:=zal prog w) (zkn hx) (by have:=ent.length; simp at this; unfold scanBound; lia) (ent.flats hf)
theorem zmr {es : Array (Int × Value)} {a : Addr} : byScan (.ref a) es = false:=rfl
theorem yat {k : SK} {x : Value} {Q : Bool->Shared->Prop} (hx : k.is prog w s.heap x) (q : ∀ b,Q b s) : wpAny (model prog w) A (hashByValue 8 x) Q E s:=by
 cases k with
 | one k=>rw [hashByValue_scannable 8 (zkn hx)]; exact wpAny_pure (q _)
 | many kk =>
  obtain ⟨a,rfl,hk⟩:=hx
  have hT:=hk.typeIs
  obtain ⟨o,its,n,ho,_,hd,hi⟩:=hk
  unfold hashByValue
  refine wpAny_bind (wpAny_specialOf hT F.slot_tuple_hash.lookup ?_)
  show wpAny _ _ (seqItems? (.ref a) >>= _) Q E s
  refine wpAny_bind (wpAny_seqItems ho hd ?_)
  show wpAny _ _ (forIn its _ _ >>= _) Q E s
  refine wpAny_bind ?_
  rw [<- Array.forIn_toList]
  refine wpAny_forIn_list _ (fun rest r s'=>r.1 = none/\s' = s /\ ∀ v∈rest,carriedByValue v = true/\v.scannable = true) _ ?_ ?_ _ _ ⟨rfl,rfl,?_⟩
  ·rintro v rest r s' ⟨hr,rfl,hall⟩
   have hv:=hall v List.mem_cons_self
   show wpAny _ _ (hashByValue 7 v >>= _) _ _ _
   rw [hashByValue_scannable 7 hv.2]
   refine wpAny_bind (wpAny_pure ?_)
   cases plainKind v with
   | true =>
    simp only [Bool.not_true,Bool.false_eq_true,if_false]
    exact wpAny_pure ⟨rfl,rfl,fun u hu'=>hall u (List.mem_cons_of_mem _ hu')⟩
   | false =>
    simp only [Bool.not_false,if_true]
    exact wpAny_pure (wpAny_pure (q false))
  ·rintro ⟨r1,r2⟩ s' ⟨hr,rfl,_⟩
   simp only at hr
   subst hr
   exact wpAny_pure (q true)
  ·intro v hv
   refine ⟨hi.byValue v hv,?_⟩
   clear hd
   generalize its.toList = vs at hi hv
   induction hi with
   | nil=>cases hv
   | cons h1 _ ih =>
    rcases List.mem_cons.mp hv with rfl | hv
    ·rcases zay h1 with ⟨j,t,_,e2⟩ | ⟨y,t,_,e2⟩ <;> rw [e2] <;> rfl
    ·exact ih hv
end
end L2
namespace L2
open PySem PySem.Spec PyProof.Rows L2T
section
variable {prog : Program} {w : World} {h : Heap}
noncomputable def za4 (b : Bool) (t : SetTable) : SetTable:=if b then t else { t with plain:=false }
theorem zee (b : Bool) (t : SetTable) : (za4 b t).mask = t.mask:=by cases b <;> rfl
theorem zfz (b : Bool) (t : SetTable) : (za4 b t).place = t.place:=by cases b <;> rfl
theorem zhx (b : Bool) (t : SetTable) : (za4 b t).dummies = t.dummies:=by cases b <;> rfl
theorem zmh (b : Bool) (t : SetTable) : (za4 b t).led = t.led:=by cases b <;> rfl
theorem zgi (b : Bool) (t : SetTable) : (za4 b t).fill = t.fill:=by cases b <;> rfl
theorem zki {o : Obj} {ks : List SK} {es : Array (Int × Value)} {ep : Nat} {t : SetTable} {x : Value} {k : SK} {sl : Nat} {wd : Bool} (S : SetO prog w h o ks es ep t) (hx : k.is prog w h x)
  (h1 : sl <= t.mask) (h2 : zkd t (k.hash prog w) sl) (h3 : wd = true->t.slot sl = .dummy) (h4 : wd = false->t.slot sl = .empty) (bv : Bool) :
  (SetTable.insertAt es (t.put sl).2 (k.hash prog w,x)).size = es.size + 1/\(za4 bv (t.put sl).1).fits (SetTable.insertAt es (t.put sl).2 (k.hash prog w,x)).size = true/\(za4 bv (t.put sl).1).led = led0 w /\
  (SetTable.insertAt es (t.put sl).2 (k.hash prog w,x)).toList.Perm ((k.hash prog w,x)::es.toList)/\(∃ k1,k1.Perm (k::ks)/\Es prog w h k1 (SetTable.insertAt es (t.put sl).2 (k.hash prog w,x)).toList) /\
  ((wd = true \/ (za4 bv (t.put sl).1).tooFull = false)->SOk (za4 bv (t.put sl).1) (SetTable.insertAt es (t.put sl).2 (k.hash prog w,x)).toList):=by
 have hs : t.slot sl = .empty \/ t.slot sl = .dummy:=by cases wd with
  | true=>exact .inr (h3 rfl)
  | false=>exact .inl (h4 rfl)
 obtain ⟨g1,g2,g3,g4,g5,g6,g7,g8,g9⟩:=zwt t es (k.hash prog w) x sl S.tab hs h1 h2
 have hroom:=S.tab.room
 have hsz : (SetTable.insertAt es (t.put sl).2 (k.hash prog w,x)).size = es.size + 1:=by
  have:=g7.length_eq; simpa using this
 refine ⟨hsz,?_,?_,g7,?_,?_⟩
 ·simp only [SetTable.fits,Bool.and_eq_true,beq_iff_eq,decide_eq_true_eq]
  rw [zfz,zgi,zee]
  exact ⟨g3,by rw [g2]; lia⟩
 ·rw [zmh,g8]; exact S.led
 ·exact (Es.cons (e:=(k.hash prog w,x)) rfl hx S.ent).perm g7
 ·intro hc
  refine zth (t:=(t.put sl).1) ⟨g1,?_,by rw [g3,Array.length_toList],g4⟩ (zee ..) (zfz ..) (zhx ..)
  rcases hc with hc | hc
  ·rw [g6 (h3 hc),g2]; exact hroom
  ·unfold SetTable.tooFull at hc
   rw [zgi,zee] at hc
   simpa using hc
theorem SetO.newk {o : Obj} {ks : List SK} {es : Array (Int × Value)} {ep : Nat} {t : SetTable} (S : SetO prog w h o ks es ep t) {k : SK} (hk : ∀ k'∈ks,k'.flat = k.flat) (hn : k ∉ ks) (hr : ks.length + 1 <= 1000)
  {h' : Heap} {k1 : List SK} {e1 : Array (Int × Value)} {ep1 : Nat} {t1 : SetTable} (p : k1.Perm (k::ks)) (ok : SOk t1 e1.toList) (en : Es prog w h' k1 e1.toList) (hl : t1.led = led0 w) :
  SetO prog w h' { o with data:=.set e1 ep1 t1 } k1 e1 ep1 t1 :=
 ⟨S.ex,rfl,ok,en,p.nodup_iff.mpr (List.nodup_cons.mpr ⟨hn,S.nod⟩),by rw [p.length_eq]; simpa using hr,hl,k.flat,fun k' hk'=>by
  rcases List.mem_cons.mp (p.mem_iff.mp hk') with rfl | e
  ·rfl
  ·exact hk k' e⟩
end
section
variable {prog : Program} {w : World} {A : Around} {E : Value->Shared->Prop} {s : Shared}
theorem zb6 {n : Nat} (h : n <= 1001) : n <= sizeLine:=by rw [sizeLine_eq]; lia
theorem zh9 {n : Nat} (h : n <= 4095) : ¬ SetTable.sizeAbove n > sizeLine:=by
 obtain ⟨_,_,_,_,h5⟩:=zge n h
 rw [sizeLine_eq]; lia
theorem zc7 {n : Nat} (h : n <= 1000) : 2 * n <= SetTable.grown n/\SetTable.grown n <= 4095:=by
 unfold SetTable.grown
 rw [if_neg (by lia)]; lia
theorem ybc {a : Addr} {o : Obj} {ks : List SK} {es : Array (Int × Value)} {ep : Nat} {t : SetTable} {x : Value} {k : SK} {Q : Bool -> Shared -> Prop} (hu : A.units < cLine)
  (ho : s.heap.get? a = some o) (S : SetO prog w s.heap o ks es ep t) (hk : ∀ k'∈ks,k'.flat = k.flat) (hx : k.is prog w s.heap x) (hr : ks.length + 1 <= 1000)
  (q : ∀ h' k1 e1,Heap.SameBut a s.heap h'->SetE prog w h' a k1 e1->k1.Perm (if k∈ks then ks else k::ks)->(∀ e∈e1.toList,e∈es.toList \/ e = (k.hash prog w,x))->Q (decide (k ∉ ks)) { s with heap:=h' }) :
  wpAny (model prog w) A (setAddHashed a x (k.hash prog w)) Q E s:=by
 have hlen : es.size = ks.length:=by have:=S.ent.length; simp at this; lia
 have old : k∈ks->Q false s:=fun hin=>by
  have:=q s.heap ks es (Heap.SameBut.refl _ _) ⟨o,ep,t,ho,S⟩ (by rw [if_pos hin]) (fun e he=>.inl he)
  rw [decide_eq_false (by simpa using hin)] at this
  exact this
 have new : k ∉ ks -> ∀ h' e1 ep1 t1 k1,Heap.SameBut a s.heap h'->h'.get? a = some { o with data:=.set e1 ep1 t1 }->k1.Perm (k::ks)->SOk t1 e1.toList->Es prog w s.heap k1 e1.toList->t1.led = led0 w->e1.toList.Perm ((k.hash prog w,x)::es.toList)->Q true { s with heap:=h' }:=fun hn h' e1 ep1 t1 k1 hs hg p ok en hl hp=>by
  have hK : zjr s.heap h':=zfw (es:=es) (ep:=ep) (t:=t) ho S.ex hs
  have:=q h' k1 e1 hs ⟨_,ep1,t1,hg,S.newk hk hn hr p ok (en.mono hK) hl⟩ (by rw [if_neg hn]; exact p) (fun e he=>by
   rcases List.mem_cons.mp (hp.mem_iff.mp he) with z | z
   ·exact .inr z
   ·exact .inl z)
  rw [decide_eq_true hn] at this
  exact this
 unfold setAddHashed setAddHashedIn
 refine wpAny_holding (wpAny_bind (zi7 (M:=model prog w) ho S ?_))
 dsimp only
 cases k with
 | one k =>
  rw [zpu hx S.ent hk S.small,if_pos rfl]
  unfold setAddByScan
  refine wpAny_bind (wpAny_bind (wpAny_rule ?_))
  refine wpAny_bind (wpAny_setScan_of (knd:=zal prog w) hx ho S.data S.fits (S.ent.flats hk) ?_)
  obtain ⟨i1,i2⟩:=S.ent.idx hk k
  cases hi : es.toList.findIdx? (fun e=>(zal prog w).is k e.2) with
  | some j=>exact wpAny_pure (wpAny_pure (old (List.mem_of_getElem? (i1 j hi))))
  | none =>
   have hn:=i2 hi
   obtain ⟨sl,wd,f1,f2,f3,f4,f5⟩:=zry S.tab (SK.hash prog w (.one k)) x
   dsimp only
   rw [f1]
   refine wpAny_bind (wpAny_pure (a:=()) ?_)
   dsimp only
   have fin : ∀ (gw : Bool->Sem Unit) (hgw : ∀ (s : Shared) (Q : Unit->Shared->Prop),Q () s->wpAny (model prog w) A (gw false) Q E s) (bv : Bool),wpAny (model prog w) A (do
     storeSet a (SetTable.insertAt es (t.put sl).2 (SK.hash prog w (.one k),x)) (za4 bv (t.put sl).1)
     if (!wd && (za4 bv (t.put sl).1).tooFull) = true then do
      gw (relayAll (za4 bv (t.put sl).1) (SetTable.insertAt es (t.put sl).2 (SK.hash prog w (.one k),x)) (SetTable.grown (SetTable.insertAt es (t.put sl).2 (SK.hash prog w (.one k),x)).size)).2.2
      storeSet a (relayAll (za4 bv (t.put sl).1) (SetTable.insertAt es (t.put sl).2 (SK.hash prog w (.one k),x)) (SetTable.grown (SetTable.insertAt es (t.put sl).2 (SK.hash prog w (.one k),x)).size)).1
       (relayAll (za4 bv (t.put sl).1) (SetTable.insertAt es (t.put sl).2 (SK.hash prog w (.one k),x)) (SetTable.grown (SetTable.insertAt es (t.put sl).2 (SK.hash prog w (.one k),x)).size)).2.1
      pure (some true)
     else pure (some true)) (fun r s'=>wpAny (model prog w) A (match r with | some added=>pure added | none=>setAddHashedIn a x (SK.hash prog w (.one k)) 99999) Q E s') E s:=by
    intro gw hgw bv
    obtain ⟨p1,p2,p3,p7,⟨k1,p4,p5⟩,p6⟩:=zki (bv:=bv) S (k:=.one k) hx f2 f3 f4 f5
    refine wpAny_bind (wpAny_storeSet_of ho S.data ?_ (zb6 (by lia)))
    have g1:=zi4 ho S.data (SetTable.insertAt es (t.put sl).2 (SK.hash prog w (.one k),x)) (za4 bv (t.put sl).1)
    have sb1:=Heap.SameBut.update s.heap a (Obj.putSet (SetTable.insertAt es (t.put sl).2 (SK.hash prog w (.one k),x)) (za4 bv (t.put sl).1))
    by_cases hc : (!wd && (za4 bv (t.put sl).1).tooFull) = true
    ·rw [if_pos hc]
     obtain ⟨t2,e2,r1,r2,_,r4,r5⟩:=zlw (za4 bv (t.put sl).1) (SetTable.insertAt es (t.put sl).2 (SK.hash prog w (.one k),x)) (SetTable.grown (SetTable.insertAt es (t.put sl).2 (SK.hash prog w (.one k),x)).size)
      (zc7 (by lia)).1 (zc7 (by lia)).2
     rw [r1]
     refine wpAny_bind (hgw _ _ ?_)
     have z2 : e2.size = es.size + 1:=by rw [<- p1]; have:=r4.length_eq; simpa using this
     refine wpAny_bind (wpAny_storeSet_of g1 rfl ?_ (zb6 (by show e2.size <= 1001; lia)))
     obtain ⟨k2,q1,q2⟩:=p5.perm r4
     refine wpAny_pure (wpAny_pure (new hn _ e2 _ t2 k2 (sb1.trans (Heap.SameBut.update _ a _)) (zi4 g1 rfl e2 t2) (q1.trans p4) r5 q2 (by rw [r2]; exact p3) (r4.trans p7)))
    ·rw [if_neg hc]
     refine wpAny_pure (wpAny_pure (new hn _ _ _ _ k1 sb1 g1 p4 (p6 ?_) p5 p3 p7))
     cases wd with
     | true=>exact .inl rfl
     | false=>exact .inr (by simpa using hc)
   split
   ·refine wpAny_bind (yat (k:=.one k) hx fun b=>?_)
    exact fin _ (fun _ _ q=>wpAny_pure q) b
   ·exact wpAny_bind (wpAny_pure (fin _ (fun _ _ q=>wpAny_pure q) true))
 | many kk =>
  obtain ⟨ax,rfl,hax⟩:=hx
  rw [zmr]
  simp only [Bool.false_eq_true,if_false]
  unfold setSearch
  refine wpAny_bind (zvr hu ho S hk ⟨ax,rfl,hax⟩ (fun i hi=>?_) (fun hn sl wd f2 f3 f4 f5=>?_) 100000 0 none (fun _=>rfl) (fun p hp=>by cases hp) (fun q hq=>by lia) (zvh S.tab _))
  ·exact wpAny_pure (old (List.mem_of_getElem? hi))
  ·dsimp only
   refine wpAny_bind (zi7 (M:=model prog w) ho S ?_)
   dsimp only
   have fin : ∀ bv : Bool,wpAny (model prog w) A (do
     storeSet a (SetTable.insertAt es (t.put sl).2 (SK.hash prog w (.many kk),.ref ax)) (za4 bv (t.put sl).1)
     if (!wd && (za4 bv (t.put sl).1).tooFull) = true then do
      setRelay a (SetTable.grown (es.size + 1))
      pure true
     else pure true) Q E s:=by
    intro bv
    obtain ⟨p1,p2,p3,p7,⟨k1,p4,p5⟩,p6⟩:=zki (bv:=bv) S (k:=.many kk) ⟨ax,rfl,hax⟩ f2 f3 f4 f5
    refine wpAny_bind (wpAny_storeSet_of ho S.data ?_ (zb6 (by lia)))
    have g1:=zi4 ho S.data (SetTable.insertAt es (t.put sl).2 (SK.hash prog w (.many kk),.ref ax)) (za4 bv (t.put sl).1)
    have sb1:=Heap.SameBut.update s.heap a (Obj.putSet (SetTable.insertAt es (t.put sl).2 (SK.hash prog w (.many kk),.ref ax)) (za4 bv (t.put sl).1))
    by_cases hc : (!wd && (za4 bv (t.put sl).1).tooFull) = true
    ·rw [if_pos hc]
     obtain ⟨t2,order,r1,_,_,r2,_,_,r4,r6,r5⟩:=zkk (za4 bv (t.put sl).1) (SetTable.insertAt es (t.put sl).2 (SK.hash prog w (.many kk),.ref ax)) (SetTable.grown (es.size + 1))
      (by rw [p1]; exact (zc7 (by lia)).1) (zc7 (by lia)).2
     unfold setRelay
     refine wpAny_bind (wpAny_bind (wpAny_setState_of g1 rfl p2 ?_))
     dsimp only
     rw [if_neg (zh9 (zc7 (by lia)).2)]
     rw [r1]
     refine wpAny_bind (wpAny_ite_split (fun h=>absurd h (by rw [r6]; simp)) (fun _=>wpAny_pure ?_))
     dsimp only
     refine wpAny_storeSet_of g1 rfl ?_ (zb6 (by rw [r6,p1]; lia))
     obtain ⟨k2,q1,q2⟩:=p5.perm r4
     exact wpAny_pure (new hn _ _ _ t2 k2 (sb1.trans (Heap.SameBut.update _ a _)) (zi4 g1 rfl _ t2) (q1.trans p4) r5 q2 (by rw [r2]; exact p3) (r4.trans p7))
    ·rw [if_neg hc]
     refine wpAny_pure (new hn _ _ _ _ k1 sb1 g1 p4 (p6 ?_) p5 p3 p7)
     cases wd with
     | true=>exact .inl rfl
     | false=>exact .inr (by simpa using hc)
   split
   ·refine wpAny_bind (yat (k:=.many kk) ⟨ax,rfl,hax⟩ fun b=>?_)
    exact fin b
   ·exact wpAny_bind (wpAny_pure (fin true))
end
end L2
namespace L2
open PySem PySem.Spec PyProof.Rows L2T
theorem zct : Slot "set_iterator" "__next__" "set_iterator.__next__" :=
 .of (owner:="set_iterator") (n:="__next__") (by rw [typeLookup_type,builtinLookup_eq_fast]; kernel_rfl) (by decide +kernel) (by decide +kernel)
  (by decide +kernel) (by first | exact .inl (by decide +kernel) | exact .inr (by decide +kernel)) (by rw [isSubtype_type]; kernel_rfl)
theorem zji : entryFor table "set_iterator.__next__" = some Builtin.«set_iterator.__next__»:=entryFor_of_tree (by kernel_rfl)
theorem zn0 : Manifest.owners.lookup (String.ofList ['r','o','t','a','r','e','t','i','_','t','e','s'].reverse) = some Manifest.sig_set_iterator:=by kernel_rfl
theorem zk0 (a : Value) : argsOk "set_iterator.__next__" ⟨[a],[]⟩:=by
 unfold argsOk
 rw [signature?_of (id:="set_iterator.__next__") (n:=['_','_','t','x','e','n','_','_']) (o:=['r','o','t','a','r','e','t','i','_','t','e','s']) (by kernel_rfl) zn0]; kernel_rfl
theorem zgg : Slot "set_iterator" "__iter__" "set_iterator.__iter__" :=
 .of (owner:="set_iterator") (n:="__iter__") (by rw [typeLookup_type,builtinLookup_eq_fast]; kernel_rfl) (by decide +kernel) (by decide +kernel)
  (by decide +kernel) (by first | exact .inl (by decide +kernel) | exact .inr (by decide +kernel)) (by rw [isSubtype_type]; kernel_rfl)
theorem zjp : entryFor table "set_iterator.__iter__" = some Builtin.«dict_keyiterator.__iter__» :=
 entryFor_alias (id':="dict_keyiterator.__iter__") (by kernel_rfl) rfl (by decide +kernel) (by kernel_rfl)
theorem zli (a : Value) : argsOk "set_iterator.__iter__" ⟨[a],[]⟩:=by
 unfold argsOk
 rw [signature?_of (id:="set_iterator.__iter__") (n:=['_','_','r','e','t','i','_','_']) (o:=['r','o','t','a','r','e','t','i','_','t','e','s']) (by kernel_rfl) zn0]; kernel_rfl
theorem zi8 : entryFor table "set.__iter__" = some Builtin.«frozenset.__iter__» :=
 entryFor_alias (id':="frozenset.__iter__") (by kernel_rfl) rfl (by decide +kernel) (by kernel_rfl)
noncomputable def zc9 (w : World) : Bool:=w.params.followText "set-order"
section
variable {prog : Program} {w : World} {A : Around} {E : Value->Shared->Prop} {s : Shared}
theorem ziu {α : Type} {l : List α} {i : Nat} (h : i < l.length) : (l[i]::l.eraseIdx i).Perm l:=by
 rw [List.eraseIdx_eq_take_drop_succ]
 have e : (l.take i++l[i]::l.drop (i + 1)).Perm (l[i]::(l.take i++l.drop (i + 1))):=List.perm_middle
 rw [List.getElem_cons_drop,List.take_append_drop] at e
 exact e.symm
theorem zt0 {src : Source} {n : Nat} {Q : Nat->Shared->Prop} (hn : n≠0) (q : ∀ i d,i < n->Q i { s with drawn:=d }) : wpAny (model prog w) A (choose src n) Q E s :=
 fun _ _ _=>⟨hn,q _ _ (Nat.mod_lt _ (Nat.pos_of_ne_zero hn))⟩
theorem ya6 {α : Type} : ∀ (n : Nat) (xs : List α) (s : Shared) (Q : List α->Shared->Prop),xs.length <= n->(∀ l d,l.Perm xs->Q l { s with drawn:=d })->wpAny (model prog w) A (drawOrder n xs) Q E s:=by
 intro n
 induction n with
 | zero =>
  intro xs s Q hl q
  have : xs = []:=List.eq_nil_of_length_eq_zero (by lia)
  subst this
  exact wpAny_pure (q [] s.drawn (.refl _))
 | succ n ih =>
  intro xs s Q hl q
  cases xs with
  | nil=>exact wpAny_pure (q [] s.drawn (.refl _))
  | cons x xs =>
   unfold drawOrder
   refine wpAny_bind (zt0 (by simp) fun i d hi=>?_)
   rw [List.getElem?_eq_getElem hi]
   dsimp only
   refine wpAny_bind (ih _ _ _ ?_ fun l d' hp=>?_)
   ·rw [List.length_eraseIdx_of_lt hi]; simp at hl ⊢; omega
   ·refine wpAny_pure (q _ d' ?_)
    exact (hp.cons _).trans (ziu hi)
theorem zxz {α : Type} (next : Nat->Nat) : ∀ (fuel k : Nat) (left : List α) (out : Array α),left.length <= fuel->(pickOrder.go next fuel k left out).toList.Perm (out.toList++left):=by
 intro fuel
 induction fuel with
 | zero =>
  intro k left out hl
  have : left = []:=List.eq_nil_of_length_eq_zero (by lia)
  subst this
  unfold pickOrder.go
  simp
 | succ fuel ih =>
  intro k left out hl
  unfold pickOrder.go
  cases left with
  | nil=>simp
  | cons x l =>
   have hi : next k % (x::l).length < (x::l).length:=Nat.mod_lt _ (by simp)
   rw [List.getElem?_eq_getElem hi]
   dsimp only
   refine (ih _ _ _ (by rw [List.length_eraseIdx_of_lt hi]; lia)).trans ?_
   rw [Array.toList_push,List.append_assoc]
   exact List.Perm.append_left _ (ziu hi)
theorem zr3 {α : Type} (next : Nat->Nat) (xs : Array α) : (pickOrder next xs).toList.Perm xs.toList:=by
 unfold pickOrder
 exact (zxz next xs.size 0 xs.toList #[] (by simp)).trans (by simp)
noncomputable def zgl (w : World) (a : Addr) (es : Array (Int × Value)) (ep : Nat) (t : SetTable) (slot given : Nat) : Option (Value × Nat) :=
 if zc9 w then ((pickOrder (w.params.setOrder a ep) es)[given]?).map fun e=>(e.2,slot) else
  match es[SetTable.below t.place slot]?,t.place[SetTable.below t.place slot]? with
  | some (_,x),some j=>some (x,j + 1)
  | _,_=>none
structure SetL (w : World) (o : Obj) (es : Array (Int × Value)) (ep : Nat) (t : SetTable) : Prop where
 data : o.data = .set es ep t
 tab : SOk t es.toList
 led : t.led = led0 w
theorem SetO.lite {o : Obj} {ks : List SK} {h : Heap} {es : Array (Int × Value)} {ep : Nat} {t : SetTable} (S : SetO prog w h o ks es ep t) : SetL w o es ep t:=⟨S.data,S.tab,S.led⟩
theorem SetL.fits {o : Obj} {es : Array (Int × Value)} {ep : Nat} {t : SetTable} (S : SetL w o es ep t) : t.fits es.size = true:=by
 have h1:=S.tab.size
 have h2:=S.tab.room
 simp only [SetTable.fits,Bool.and_eq_true,beq_iff_eq,decide_eq_true_eq]
 exact ⟨by simpa using h1,by lia⟩
theorem zgv {a : Addr} {o : Obj} {es : Array (Int × Value)} {ep : Nat} {t : SetTable} {Q : Array (Int × Value) × Nat × SetTable->Shared->Prop}
  (ho : s.heap.get? a = some o) (S : SetL w o es ep t) (q : Q (es,ep,t) s) : wpAny (model prog w) A (setState a) Q E s:=wpAny_setState_of ho S.data S.fits q
theorem zu4 {o : Obj} {es : Array (Int × Value)} {ep : Nat} {t : SetTable} (S : SetL w o es ep t) : t.led = !zc9 w:=S.led
theorem zlk {a : Addr} {o : Obj} {es : Array (Int × Value)} {ep : Nat} {t : SetTable} {slot given : Nat} {Q : Option (Value × Nat)->Shared->Prop} (ho : s.heap.get? a = some o) (S : SetL w o es ep t)
  (hd : zc9 w = false->(!t.plain && decide (es.size > 1)) = false) (q : Q (zgl w a es ep t slot given) s) : wpAny (model prog w) A (setNext a slot given ep) Q E s:=by
 unfold setNext
 refine wpAny_bind (zgv ho S ?_)
 dsimp only
 unfold setsByText
 refine wpAny_bind (wpAny_bind (wpAny_askSetting (wpAny_pure ?_)))
 show wpAny _ _ (if zc9 w = true then _ else _) Q E s
 unfold zgl at q
 cases hb : zc9 w with
 | true =>
  rw [hb] at q
  simp only [if_true,bne_self_eq_false,Bool.false_eq_true,if_false]
  unfold setWalk
  refine wpAny_bind (wpAny_bind (zgv ho S ?_))
  dsimp only
  unfold setsByText
  refine wpAny_bind (wpAny_bind (wpAny_askSetting (wpAny_pure ?_)))
  show wpAny _ _ (if zc9 w = true then _ else _) _ E s
  rw [hb,if_pos rfl]
  refine wpAny_bind (wpAny_askSetting (wpAny_pure ?_))
  exact wpAny_pure q
 | false =>
  rw [hb] at q
  simp only [Bool.false_eq_true,if_false]
  refine wpAny_ite_split (fun h=>absurd (show (!t.plain && decide (es.size > 1)) = true from h) (by rw [hd hb]; simp)) (fun _=>?_)
  have hld:=zu4 S
  rw [hb] at hld
  exact wpAny_bind (wpAny_ite_split (fun h=>absurd h (by rw [hld]; simp)) (fun _=>wpAny_pure (wpAny_pure q)))
noncomputable def zeo (h : Heap) (I a : Addr) (first : Value) (i n ep : Nat) : Prop:=∃ o,h.get? I = some o/\o.cls = .type "set_iterator" /\ o.data = .fields #[first,.int i 0,.ref a,.int n 0,.int ep 0]
theorem zeo.typeIs {I a : Addr} {first : Value} {i n ep : Nat} (x : zeo s.heap I a first i n ep) : s.TypeIs (.ref I) "set_iterator" := let ⟨o,ho,hc,_⟩:=x; ⟨o,ho,hc⟩
theorem zeo.at {h h' : Heap} {I a : Addr} {first : Value} {i n ep : Nat} (x : zeo h I a first i n ep) (k : ∀ o,h.get? I = some o->h'.get? I = some o) : zeo h' I a first i n ep:=let ⟨o,ho,r⟩:=x; ⟨o,k o ho,r⟩
theorem zwi {h1 : Heap} {Q : Option Value->Shared->Prop} {P : PySem.Fin->Shared->Prop} (hh : A.handled = none) (q : ∀ h',(∀ b o,h1.get? b = some o->h'.get? b = some o)->Q none { s with heap:=h' }) :
  wpAny (model prog w) A.in1 (do raiseNew (<- newExc (.type "StopIteration") [])) P (fun e s'=>wpAny (model prog w) A (do if <- isInstance e (.type "StopIteration") then pure none else throw e) Q E s') { s with heap:=h1 }:=by
 refine wpAny_bind ?_
 simp only [newExc,newTuple]
 refine wpAny_bind (wpAny_newObj_type ?_ (by size_fits))
 refine wpAny_bind (m:=firstArgMember _ _) (wpAny_of_eq (a:=Value.none) (by first | rfl | (simp only [firstArgMember]; rfl)) ?_)
 refine wpAny_newObj_type ?_ (by size_fits)
 simp only [raiseNew]
 refine wpAny_bind (wpAny_handled ?_)
 rw [show A.in1.handled = none from hh]
 refine wpAny_bind (wpAny_pure (wpAny_throw ?_))
 refine wpAny_bind (wpAny_isInstance (T:="StopIteration") (b:=true) ⟨_,Heap.get?_push_size _ rfl,rfl⟩ isSubtype_stop ?_)
 exact wpAny_pure (q _ fun b o e=>Heap.get?_push_of_some _ (Heap.get?_push_of_some _ e))
end
end L2
namespace L2
open PySem PySem.Spec PyProof.Rows L2T
section
variable {prog : Program} {w : World} {A : Around} {E : Value->Shared->Prop} {s : Shared}
theorem zfk {I a : Addr} {first : Value} {i n ep : Nat} {Q : Option Value->Shared->Prop} (hit : zeo s.heap I a first i n ep)
  (h : wpAny (model prog w) A.in1 (Builtin.«set_iterator.__next__» ⟨[.ref I],[]⟩) (fun fin s'=>∃ r,fin = .done (.ret r)/\Q (some r) s')
   (fun e s'=>wpAny (model prog w) A (do if <- isInstance e (.type "StopIteration") then pure none else throw e) Q E s') s) : wpAny (model prog w) A (pyNext (.ref I)) Q E s:=by
 unfold pyNext
 refine wpAny_bind (wpAny_attempt (wpAny_callSpecial?_slot (name:=Str.ofString "__next__") hit.typeIs zct (wpAny_call_entry zct hit.typeIs zji (wpAny_mono h ?_ ?_) (zk0 _))))
 ·rintro fin s' ⟨r,rfl,q⟩
  exact ⟨r,rfl,wpAny_pure q⟩
 ·intro e s' q
  exact q
theorem zk6 {I a : Addr} {o : Obj} {es : Array (Int × Value)} {ep : Nat} {t : SetTable} {slot i nx : Nat} {x : Value} {Q : Option Value->Shared->Prop} (hit : zeo s.heap I a (.int slot 0) i es.size ep)
  (ho : s.heap.get? a = some o) (S : SetL w o es ep t) (hd : zc9 w = false->(!t.plain && decide (es.size > 1)) = false) (hn : zgl w a es ep t slot i = some (x,nx))
  (q : ∀ h',zeo h' I a (.int nx 0) (i + 1) es.size ep->Heap.SameBut I s.heap h'->Q (some x) { s with heap:=h' }) : wpAny (model prog w) A (pyNext (.ref I)) Q E s:=by
 refine zfk hit ?_
 obtain ⟨oi,hoi,hc,hdi⟩:=id hit
 unfold Builtin.«set_iterator.__next__»
 refine wpAny_bind (wpAny_pure ?_)
 refine wpAny_bind (wpAny_fieldsOf hoi hdi ?_)
 dsimp only
 refine wpAny_bind (wpAny_setEntries_of ho S.data S.fits ?_)
 rw [if_neg (by simp)]
 refine wpAny_bind (zlk ho S hd ?_)
 simp only [Int.toNat_natCast]
 rw [hn]
 dsimp only
 refine wpAny_bind (wpAny_setField hoi hdi (by simp) ?_)
 have g1 : (s.heap.update I (Obj.mapFields (·.setIfInBounds 0 (rawInt nx)))).get? I = some _:=Heap.get?_update_self _ hoi (Obj.isFreed_of_fields (Obj.data_mapFields hdi _))
 have d1:=Obj.data_mapFields hdi (·.setIfInBounds 0 (rawInt nx))
 refine wpAny_bind (wpAny_setField g1 d1 (by simp) ?_)
 refine wpAny_pure ⟨x,rfl,q _ ⟨_,Heap.get?_update_self _ g1 (Obj.isFreed_of_fields (Obj.data_mapFields d1 _)),?_,?_⟩ ((Heap.SameBut.update ..).trans (Heap.SameBut.update ..))⟩
 ·exact (Obj.cls_mapFields ..).trans ((Obj.cls_mapFields ..).trans hc)
 ·rw [Obj.data_mapFields d1]; simp [rawInt]
theorem zn8 {I a : Addr} {o : Obj} {es : Array (Int × Value)} {ep : Nat} {t : SetTable} {slot i : Nat} {Q : Option Value->Shared->Prop} (hh : A.handled = none) (hit : zeo s.heap I a (.int slot 0) i es.size ep)
  (ho : s.heap.get? a = some o) (S : SetL w o es ep t) (hd : zc9 w = false->(!t.plain && decide (es.size > 1)) = false) (hn : zgl w a es ep t slot i = none)
  (q : ∀ h',(∀ b o,b≠I->s.heap.get? b = some o->h'.get? b = some o)->Q none { s with heap:=h' }) : wpAny (model prog w) A (pyNext (.ref I)) Q E s:=by
 refine zfk hit ?_
 obtain ⟨oi,hoi,hc,hdi⟩:=id hit
 unfold Builtin.«set_iterator.__next__»
 refine wpAny_bind (wpAny_pure ?_)
 refine wpAny_bind (wpAny_fieldsOf hoi hdi ?_)
 dsimp only
 refine wpAny_bind (wpAny_setEntries_of ho S.data S.fits ?_)
 rw [if_neg (by simp)]
 refine wpAny_bind (zlk ho S hd ?_)
 simp only [Int.toNat_natCast]
 rw [hn]
 dsimp only
 refine wpAny_bind (wpAny_setField hoi hdi (by simp) ?_)
 exact zwi hh fun h' k=>q h' fun b o hb e=>k b o ((Heap.get?_update_other _ _ (Ne.symm hb)).trans e)
noncomputable def zjc (h : Heap) (p : Addr) (pl : List Nat) : Prop:=∃ o n,h.get? p = some o/\o.data = .seq (pl.map fun (i : Nat)=>rawInt i).toArray n
theorem zpc {I a p : Addr} {o : Obj} {es : Array (Int × Value)} {ep : Nat} {t : SetTable} {i : Nat} {pl : List Nat} {e : Int × Value} {j : Nat} {Q : Option Value->Shared->Prop} (hit : zeo s.heap I a (.ref p) i es.size ep)
  (hp : zjc s.heap p pl) (ho : s.heap.get? a = some o) (S : SetL w o es ep t) (hj : pl[i]? = some j) (he : es[j]? = some e)
  (q : ∀ h',zeo h' I a (.ref p) (i + 1) es.size ep->Heap.SameBut I s.heap h'->Q (some e.2) { s with heap:=h' }) : wpAny (model prog w) A (pyNext (.ref I)) Q E s:=by
 refine zfk hit ?_
 obtain ⟨oi,hoi,hc,hdi⟩:=id hit
 obtain ⟨op,np,hop,hdp⟩:=hp
 unfold Builtin.«set_iterator.__next__»
 refine wpAny_bind (wpAny_pure ?_)
 refine wpAny_bind (wpAny_fieldsOf hoi hdi ?_)
 dsimp only
 refine wpAny_bind (wpAny_setEntries_of ho S.data S.fits ?_)
 rw [if_neg (by simp)]
 refine wpAny_bind (wpAny_seqItems hop hdp ?_)
 dsimp only
 have hpl : (pl.map fun (i : Nat)=>rawInt i).toArray[(i : Int).toNat]? = some (.int j 0):=by
  simp [hj,rawInt]
 rw [hpl]
 dsimp only
 unfold setNextDrawn
 refine wpAny_bind (wpAny_bind (zgv ho S ?_))
 simp only [Int.toNat_natCast,bne_self_eq_false,Bool.false_eq_true,if_false,he]
 refine wpAny_pure ?_
 refine wpAny_bind (wpAny_setField hoi hdi (by simp) ?_)
 refine wpAny_pure ⟨e.2,rfl,q _ ⟨_,Heap.get?_update_self _ hoi (Obj.isFreed_of_fields (Obj.data_mapFields hdi _)),?_,?_⟩ (Heap.SameBut.update ..)⟩
 ·exact (Obj.cls_mapFields ..).trans hc
 ·rw [Obj.data_mapFields hdi]; simp [rawInt]
theorem zq0 {I a p : Addr} {o : Obj} {es : Array (Int × Value)} {ep : Nat} {t : SetTable} {i : Nat} {pl : List Nat} {Q : Option Value->Shared->Prop} (hh : A.handled = none) (hit : zeo s.heap I a (.ref p) i es.size ep)
  (hp : zjc s.heap p pl) (ho : s.heap.get? a = some o) (S : SetL w o es ep t) (hj : pl[i]? = none)
  (q : ∀ h',(∀ b o,b≠I->s.heap.get? b = some o->h'.get? b = some o)->Q none { s with heap:=h' }) : wpAny (model prog w) A (pyNext (.ref I)) Q E s:=by
 refine zfk hit ?_
 obtain ⟨oi,hoi,hc,hdi⟩:=id hit
 obtain ⟨op,np,hop,hdp⟩:=hp
 unfold Builtin.«set_iterator.__next__»
 refine wpAny_bind (wpAny_pure ?_)
 refine wpAny_bind (wpAny_fieldsOf hoi hdi ?_)
 dsimp only
 refine wpAny_bind (wpAny_setEntries_of ho S.data S.fits ?_)
 rw [if_neg (by simp)]
 refine wpAny_bind (wpAny_seqItems hop hdp ?_)
 dsimp only
 have hpl : (pl.map fun (i : Nat)=>rawInt i).toArray[(i : Int).toNat]? = none:=by
  simp at hj; simp [hj]
 rw [hpl]
 dsimp only
 refine wpAny_bind (wpAny_setField hoi hdi (by simp) ?_)
 have g1 : (s.heap.update I (Obj.mapFields (·.setIfInBounds 0 (rawInt 0)))).get? I = some _:=Heap.get?_update_self _ hoi (Obj.isFreed_of_fields (Obj.data_mapFields hdi _))
 have d1:=Obj.data_mapFields hdi (·.setIfInBounds 0 (rawInt 0))
 refine wpAny_bind (wpAny_setField g1 d1 (by simp) ?_)
 exact zwi hh fun h' k=>q h' fun b o hb e=>k b o ((Heap.get?_update_other _ _ (Ne.symm hb)).trans ((Heap.get?_update_other _ _ (Ne.symm hb)).trans e))
theorem zuv (xs : Array Nat) (hp : xs.toList.Pairwise (· < ·)) (j i : Nat) (hi : i <= xs.size) (h1 : ∀ k x,k < i->xs[k]? = some x->x < j) (h2 : ∀ k x,i <= k->xs[k]? = some x->j <= x) : SetTable.below xs j = i:=by
 obtain ⟨b0,b1,b2⟩:=zer xs j hp
 rcases Nat.lt_trichotomy (SetTable.below xs j) i with c | c | c
 ·have hg : xs[SetTable.below xs j]? = some (xs[SetTable.below xs j]'(by lia)):=Array.getElem?_eq_getElem _
  have:=h1 _ _ c hg
  have:=b2 _ _ (Nat.le_refl _) hg
  lia
 ·exact c
 ·have hg : xs[i]? = some (xs[i]'(by lia)):=Array.getElem?_eq_getElem _
  have:=h2 _ _ (Nat.le_refl _) hg
  have:=b1 _ _ c hg
  lia
noncomputable def zf0 (t : SetTable) (i : Nat) : Nat:=if i = 0 then 0 else t.place.getD (i - 1) 0 + 1
theorem zzu {a : Addr} {es : Array (Int × Value)} {ep : Nat} {t : SetTable} (ok : SOk t es.toList) (hb : zc9 w = false) (i : Nat) (hi : i <= es.size) :
  zgl w a es ep t (zf0 t i) i = (es[i]?).map fun e=>(e.2,zf0 t (i + 1)):=by
 have hsz : t.place.size = es.size:=by simpa using ok.size
 have hbel : SetTable.below t.place (zf0 t i) = i:=by
  refine zuv _ ok.ok.pl _ _ (by lia) (fun k x hk hx=>?_) (fun k x hk hx=>?_)
  ·unfold zf0
   rw [if_neg (by lia)]
   have hl : i - 1 < t.place.size:=by lia
   have hg : t.place[i - 1]? = some (t.place[i - 1]):=Array.getElem?_eq_getElem hl
   have e : t.place.getD (i - 1) 0 = t.place[i - 1]:=by simp [Array.getD,hl]
   rw [e]
   rcases Nat.lt_or_ge k (i - 1) with c | c
   ·have:=zi0 t.place ok.ok.pl k (i - 1) x _ c hx hg; lia
   ·have : k = i - 1:=by lia
    subst this; rw [hg] at hx; cases hx; lia
  ·unfold zf0
   split
   ·lia
   ·have hl : i - 1 < t.place.size:=by lia
    have hg : t.place[i - 1]? = some (t.place[i - 1]):=Array.getElem?_eq_getElem hl
    have e : t.place.getD (i - 1) 0 = t.place[i - 1]:=by simp [Array.getD,hl]
    rw [e]
    have:=zi0 t.place ok.ok.pl (i - 1) k _ x (by lia) hg hx; lia
 unfold zgl
 rw [hb,hbel]
 simp only [Bool.false_eq_true,if_false]
 by_cases hc : i < es.size
 ·have h1 : es[i]? = some es[i]:=Array.getElem?_eq_getElem hc
  have h2 : t.place[i]? = some (t.place[i]'(by lia)):=Array.getElem?_eq_getElem _
  rw [h1,h2]
  show some (es[i].2,_) = some (es[i].2,zf0 t (i + 1))
  unfold zf0
  rw [if_neg (by lia)]
  have e : t.place.getD (i + 1 - 1) 0 = t.place[i]'(by lia):=by
   have hl : i < t.place.size:=by lia
   simp [Array.getD,hl]
  rw [e]
 ·have h1 : es[i]? = none:=Array.getElem?_eq_none (by lia)
  rw [h1]; rfl
end
end L2
namespace L2
open PySem PySem.Spec PyProof.Rows L2T
noncomputable def ze2 (h h' : Heap) : Prop:=∀ b o,h.get? b = some o->h'.get? b = some o
theorem ze2.T {h h' : Heap} (k : ze2 h h') : zjr h h':=fun b o _ e=>k b o e
section
variable {prog : Program} {w : World} {A : Around} {E : Value->Shared->Prop} {s : Shared}
theorem zel {I a : Addr} {first : Value} {i n ep : Nat} {Q : Value->Shared->Prop} (hit : zeo s.heap I a first i n ep) (q : Q (.ref I) s) : wpAny (model prog w) A (pyIter (.ref I)) Q E s:=by
 refine wpAny_pyIter_slot hit.typeIs zgg (wpAny_call_entry zgg hit.typeIs zjp ?_ (zli _))
 show wpAny _ _ (ret (.ref I)) _ _ s
 exact wpAny_pure ⟨_,rfl, "set_iterator", _,hit.typeIs,zct.lookup,q⟩
noncomputable def zsy (prog : Program) (w : World) (A : Around) (I a : Addr) (fp : List Addr) (vs : List Value) (St : Nat->Heap->Prop) : Prop :=
 Walks prog w A I fp [I] vs.length (fun i v=>vs[i]? = some v) St
theorem ybm {a I : Addr} {o : Obj} {es : Array (Int × Value)} {ep : Nat} {t : SetTable} (S : SetL w o es ep t) (hb : zc9 w = true) (hne : a≠I) (hh : A.handled = none) :
  zsy prog w A I a [I,a] ((pickOrder (w.params.setOrder a ep) es).toList.map (·.2)) (fun i h=>zeo h I a (.int (0 : Nat) 0) i es.size ep/\h.get? a = some o):=by
 have hn : ∀ i,zgl w a es ep t 0 i = ((((pickOrder (w.params.setOrder a ep) es).toList.map (·.2))[i]?).map fun v=>(v,0)):=fun i=>by
  unfold zgl
  rw [hb,if_pos rfl,List.getElem?_map,Array.getElem?_toList,Option.map_map]; rfl
 have hd : zc9 w = false->(!t.plain && decide (es.size > 1)) = false:=fun e=>by rw [hb] at e; cases e
 refine ⟨fun b hb=>by simp at hb; simp [hb],fun i h h' st k=>⟨st.1.at fun o e=>k I (by simp) o e,k a (by simp) o st.2⟩,fun i s Q E hi st q=>?_,fun s Q E st q=>?_,fun i s Q E st q=>zel st.1 q⟩
 ·refine zk6 st.1 st.2 S hd (x:=((pickOrder (w.params.setOrder a ep) es).toList.map (·.2))[i]) (nx:=0) (by rw [hn,List.getElem?_eq_getElem hi]; rfl) fun h' it' sb=>?_
  exact q _ h' s.toks (List.getElem?_eq_getElem hi) ⟨it',(sb.2 a hne).trans st.2⟩ fun b o hb e=>(sb.2 b (by simpa using hb)).trans e
 ·refine zn8 hh st.1 st.2 S hd (by rw [hn,List.getElem?_eq_none (Nat.le_refl _)]; rfl) fun h' k=>q h' s.toks fun b o hb e=>k b o (by simpa using hb) e
theorem ybn {a I : Addr} {o : Obj} {es : Array (Int × Value)} {ep : Nat} {t : SetTable} (S : SetL w o es ep t) (hb : zc9 w = false) (hd : (!t.plain && decide (es.size > 1)) = false) (hne : a≠I) (hh : A.handled = none) :
  zsy prog w A I a [I,a] (es.toList.map (·.2)) (fun i h=>zeo h I a (.int (zf0 t i) 0) i es.size ep/\h.get? a = some o):=by
 have hl : (es.toList.map (·.2)).length = es.size:=by simp
 refine ⟨fun b hb=>by simp at hb; simp [hb],fun i h h' st k=>⟨st.1.at fun o e=>k I (by simp) o e,k a (by simp) o st.2⟩,fun i s Q E hi st q=>?_,fun s Q E st q=>?_,fun i s Q E st q=>zel st.1 q⟩
 ·rw [hl] at hi
  have he : es[i]? = some es[i]:=Array.getElem?_eq_getElem hi
  refine zk6 st.1 st.2 S (fun _=>hd) (x:=es[i].2) (nx:=zf0 t (i + 1)) (by rw [zzu S.tab hb i (by lia),he]; rfl) fun h' it' sb=>?_
  exact q _ h' s.toks (by rw [List.getElem?_map,Array.getElem?_toList,he]; rfl) ⟨it',(sb.2 a hne).trans st.2⟩ fun b o hb e=>(sb.2 b (by simpa using hb)).trans e
 ·rw [hl] at st
  refine zn8 hh st.1 st.2 S (fun _=>hd) (by rw [zzu S.tab hb _ (Nat.le_refl _),Array.getElem?_eq_none (Nat.le_refl _)]; rfl) fun h' k=>q h' s.toks fun b o hb e=>k b o (by simpa using hb) e
theorem ybi {a I p : Addr} {o : Obj} {es : Array (Int × Value)} {ep : Nat} {t : SetTable} (S : SetL w o es ep t) {pl : List Nat} (hp : pl.Perm (List.range es.size)) (hne : a≠I) (hnp : p≠I) (hh : A.handled = none) :
  zsy prog w A I a [I,a,p] (pl.map fun j=>(es.getD j (0,.none)).2) (fun i h=>zeo h I a (.ref p) i es.size ep/\h.get? a = some o/\zjc h p pl):=by
 refine ⟨fun b hb=>by simp at hb; simp [hb],fun i h h' st k=>⟨st.1.at fun o e=>k I (by simp) o e,k a (by simp) o st.2.1,let ⟨op,n,e1,e2⟩:=st.2.2; ⟨op,n,k p (by simp) op e1,e2⟩⟩,fun i s Q E hi st q=>?_,fun s Q E st q=>?_,fun i s Q E st q=>zel st.1 q⟩
 ·rw [List.length_map] at hi
  have hj : pl[i]? = some pl[i]:=List.getElem?_eq_getElem hi
  have hjl : pl[i] < es.size:=List.mem_range.mp (hp.mem_iff.mp (List.getElem_mem hi))
  have he : es[pl[i]]? = some es[pl[i]]:=Array.getElem?_eq_getElem hjl
  refine zpc st.1 st.2.2 st.2.1 S hj he fun h' it' sb=>?_
  refine q _ h' s.toks ?_ ⟨it',(sb.2 a hne).trans st.2.1,?_⟩ fun b o hb e=>(sb.2 b (by simpa using hb)).trans e
  ·rw [List.getElem?_map,hj]
   show some (es.getD pl[i] (0,.none)).2 = _
   simp [Array.getD,hjl]
  ·obtain ⟨op,n,e1,e2⟩:=st.2.2
   exact ⟨op,n,(sb.2 p hnp).trans e1,e2⟩
 ·rw [List.length_map] at st
  refine zq0 hh st.1 st.2.2 st.2.1 S (List.getElem?_eq_none (Nat.le_refl _)) fun h' k=>q h' s.toks fun b o hb e=>k b o (by simpa using hb) e
theorem zm1 {es : Array (Int × Value)} {pl : List Nat} (hp : pl.Perm (List.range es.size)) : (pl.map fun j=>(es.getD j (0,Value.none)).2).Perm (es.toList.map (·.2)):=by
 refine (hp.map _).trans ?_
 have : (List.range es.size).map (fun j=>(es.getD j (0,Value.none)).2) = es.toList.map (·.2):=by
  refine List.ext_getElem? fun i=>?_
  rw [List.getElem?_map,List.getElem?_map]
  by_cases hi : i < es.size
  ·rw [List.getElem?_range hi,List.getElem?_eq_getElem (by simpa using hi)]; simp [Array.getD,hi]
  ·rw [List.getElem?_eq_none (by simpa using hi),List.getElem?_eq_none (by simpa using hi)]; rfl
 rw [this]
theorem zb1 {h : Heap} {o : Obj} : ze2 h (h.push o):=fun b u e=>Heap.get?_push_of_some _ e
theorem zy9 {a : Addr} {o : Obj} {ks : List SK} {es : Array (Int × Value)} {ep : Nat} {t : SetTable} {Q : Value->Shared->Prop} (ho : s.heap.get? a = some o) (S0 : SetO prog w s.heap o ks es ep t)
  (q : ∀ (h1 : Heap) (d : Drawn) (I : Addr) (fp : List Addr) (vs : List Value),(∀ A' : Around,A'.handled = none -> ∃ St,Walks prog w A' I fp [I] vs.length (fun i v=>vs[i]? = some v) St/\St 0 h1)->vs.Perm (es.toList.map (·.2))->ze2 s.heap h1->s.heap.objs.size <= I->I < h1.objs.size->(∀ b∈fp,b = a \/ s.heap.objs.size <= b) ->
   Q (.ref I) { s with heap:=h1,drawn:=d }) : wpAny (model prog w) A (pyIter (.ref a)) Q E s:=by
 have S:=S0.lite
 have hT : s.TypeIs (.ref a) "set" := ⟨o,ho,S0.ex.1⟩
 have halt : a < s.heap.objs.size:=Heap.lt_size ho
 refine wpAny_pyIter_slot hT F.slot_set_iter (wpAny_call_entry F.slot_set_iter hT zi8 ?_ (F.args_set_iter_1 _))
 unfold Builtin.«frozenset.__iter__»
 refine wpAny_bind (wpAny_pure ?_)
 unfold Builtin.Frozenset.sizeOf
 refine wpAny_bind (wpAny_bind (wpAny_setEntries_of ho S.data S.fits (wpAny_pure ?_)))
 unfold setDrawn
 refine wpAny_bind (wpAny_bind (zgv ho S ?_))
 dsimp only
 unfold setsByText
 refine wpAny_bind (wpAny_bind (wpAny_askSetting (wpAny_pure ?_)))
 refine wpAny_pure ?_
 show wpAny _ _ (if (!zc9 w && (!t.plain && decide (es.size > 1))) = true then _ else _) _ _ s
 have hsm : es.size <= 1000:=by have:=S0.small; have:=S0.ent.length; simp at this; lia
 by_cases hc : (!zc9 w && (!t.plain && decide (es.size > 1))) = true
 ·rw [if_pos hc]
  refine wpAny_bind (ya6 _ _ _ _ (by simp) fun pl d hp=>?_)
  unfold newTuple
  refine wpAny_bind (wpAny_newObj_type ?_ (by show (pl.map fun (i : Nat)=>rawInt i).length <= sizeLine; rw [List.length_map,hp.length_eq,List.length_range]; exact zb6 (by lia)))
  refine wpAny_bind (wpAny_setEpoch_of (Heap.get?_push_of_some _ ho) S.data S.fits ?_)
  unfold newFields
  refine wpAny_bind (wpAny_newObj_type (wpAny_pure ⟨_,rfl, "set_iterator", _,⟨_,Heap.get?_push_size _ rfl,rfl⟩,zct.lookup,?_⟩))
  show Q (.ref (s.heap.push { cls:=.type "tuple", data:=.seq (pl.map fun (i : Nat)=>rawInt i).toArray }).objs.size) _
  have g1 : (s.heap.push { cls:=.type "tuple", data:=.seq (pl.map fun (i : Nat)=>rawInt i).toArray }).get? s.heap.objs.size = some { cls:=.type "tuple", data:=.seq (pl.map fun (i : Nat)=>rawInt i).toArray }:=Heap.get?_push_size _ rfl
  have k1 : ze2 s.heap (s.heap.push { cls:=.type "tuple", data:=.seq (pl.map fun (i : Nat)=>rawInt i).toArray }):=zb1
  have z1 : (s.heap.push { cls:=.type "tuple", data:=.seq (pl.map fun (i : Nat)=>rawInt i).toArray }).objs.size = s.heap.objs.size + 1:=Heap.size_push ..
  refine q _ d _ [(s.heap.push { cls:=.type "tuple", data:=.seq (pl.map fun (i : Nat)=>rawInt i).toArray }).objs.size,a,s.heap.objs.size] _ (fun A' hh=>⟨_,ybi (p:=s.heap.objs.size) S hp (by rw [z1]; exact Nat.ne_of_lt (Nat.lt_succ_of_lt halt)) (by rw [z1]; exact Nat.ne_of_lt (Nat.lt_succ_self _)) hh,
   ⟨_,Heap.get?_push_size _ rfl,rfl,by simp [rawInt]⟩,zb1 _ _ (k1 _ _ ho),⟨_,0,zb1 _ _ g1,rfl⟩⟩) (zm1 hp) (fun b u e=>zb1 _ _ (k1 _ _ e)) ?_ ?_ ?_
  ·rw [z1]; lia
  ·exact Nat.lt_of_lt_of_eq (Nat.lt_succ_self _) (Heap.size_push ..).symm
  ·intro b hb
   simp only [List.mem_cons,List.not_mem_nil,or_false] at hb
   rcases hb with rfl | rfl | rfl
   ·exact .inr (by rw [z1]; lia)
   ·exact .inl rfl
   ·exact .inr (Nat.le_refl _)
 ·rw [if_neg hc]
  refine wpAny_bind (wpAny_pure ?_)
  refine wpAny_bind (wpAny_setEpoch_of ho S.data S.fits ?_)
  unfold newFields
  refine wpAny_bind (wpAny_newObj_type (wpAny_pure ⟨_,rfl, "set_iterator", _,⟨_,Heap.get?_push_size _ rfl,rfl⟩,zct.lookup,?_⟩))
  have it0 : zeo (s.heap.push { cls:=.type "set_iterator", data:=.fields [rawInt 0,rawInt 0,Value.ref a,rawInt es.size,rawInt ep].toArray }) s.heap.objs.size a (.int (0 : Nat) 0) 0 es.size ep :=
   ⟨_,Heap.get?_push_size _ rfl,rfl,by simp [rawInt]⟩
  have hfp : ∀ b∈[s.heap.objs.size,a],b = a \/ s.heap.objs.size <= b:=by
   intro b hb
   simp only [List.mem_cons,List.not_mem_nil,or_false] at hb
   rcases hb with rfl | rfl
   ·exact .inr (Nat.le_refl _)
   ·exact .inl rfl
  cases hb : zc9 w with
  | true =>
   exact q _ s.drawn _ [s.heap.objs.size,a] _ (fun A' hh=>⟨_,ybm S hb (Nat.ne_of_lt halt) hh,it0,zb1 _ _ ho⟩) ((zr3 _ _).map _) zb1 (Nat.le_refl _) (by rw [Heap.size_push]; exact Nat.lt_succ_self _) hfp
  | false =>
   rw [hb] at hc
   exact q _ s.drawn _ [s.heap.objs.size,a] _ (fun A' hh=>⟨_,ybn S hb (by simpa using hc) (Nat.ne_of_lt halt) hh,it0,zb1 _ _ ho⟩) (.refl _) zb1 (Nat.le_refl _) (by rw [Heap.size_push]; exact Nat.lt_succ_self _) hfp
theorem zo1 : typeLookup (.type "set") "__len__" = pure (some (.builtin "set.__len__")):=F.slot_set_len.lookup
theorem zz5 {a : Addr} {Q : Bool->Shared->Prop} (hT : s.TypeIs (.ref a) "set") (q : Q false s) : wpAny (model prog w) A (Builtin.List.listLengthHint (.ref a)) Q E s:=by
 unfold Builtin.List.listLengthHint
 refine wpAny_bind (wpAny_specialOf hT zo1 ?_)
 generalize hid : ("set.__len__" : String) = id0
 wp_delta
 rw [show splitId id0 = some ("set", "__len__") from by subst hid; decide +kernel]
 subst hid
 refine wpAny_bind (wpAny_isInstance (T:="set") (b:=true) hT sub_set_self ?_)
 refine wpAny_ite_split (fun e=>absurd e (by decide)) (fun _=>?_)
 refine wpAny_ite_split (fun _=>?_) (fun e=>absurd (by decide +kernel) e)
 exact wpAny_bind (wpAny_typeOf hT (wpAny_pure q))
theorem zsv {a : Addr} {o : Obj} {ks : List SK} {es : Array (Int × Value)} {ep : Nat} {t : SetTable} {Q : List Value->Shared->Prop} (hh : A.handled = none) (ho : s.heap.get? a = some o) (S0 : SetO prog w s.heap o ks es ep t)
  (q : ∀ (vs : List Value) (h' : Heap) (d : Drawn) (tk : Nat),vs.Perm (es.toList.map (·.2))->ze2 s.heap h'->s.heap.objs.size < h'.objs.size->Q vs { s with heap:=h',drawn:=d,toks:=tk }) : wpAny (model prog w) A (collect (.ref a)) Q E s:=by
 have halt : a < s.heap.objs.size:=Heap.lt_size ho
 unfold collect
 refine wpAny_bind (wpAny_runValue (codeAny_builtin F.entry_proto_collect ?_))
 rw [Around.under_plainId F.plain_proto_collect _]
 show wpAny _ A.in1 (newList [] >>= fun l=>again (.builtin "list.__iadd__" ⟨[l,.ref a],[]⟩)) _ _ s
 refine wpAny_bind (wpAny_newObj_type ?_)
 refine wpAny_pure ⟨plainId_quiet F.plain_list_iadd _,codeAny_builtin F.entry_list_iadd ?_⟩
 rw [Around.under_plainId F.plain_list_iadd _]
 generalize hN : s.heap.push { cls:=.type "list", data:=.seq ([] : List Value).toArray } = hL
 have hLg : hL.get? s.heap.objs.size = some { cls:=.type "list", data:=.seq ([] : List Value).toArray }:=by rw [<- hN]; exact Heap.get?_push_size _ rfl
 have hLs : hL.objs.size = s.heap.objs.size + 1:=by rw [<- hN,Heap.size_push]
 have k0 : ze2 s.heap hL:=by rw [<- hN]; exact zb1
 show wpAny _ A.in1 (Builtin.List.listExtendWith (.ref s.heap.objs.size) (.ref a) (.ref s.heap.objs.size)) _ _ _
 unfold Builtin.List.listExtendWith
 refine wpAny_bind (wpAny_typeOf (T:="set") ⟨o,k0 a o ho,S0.ex.1⟩ ?_)
 have h1 : Builtin.List.listSameRef (.ref s.heap.objs.size) (.ref a) = false:=by
  simp only [Builtin.List.listSameRef,beq_eq_false_iff_ne]; exact Nat.ne_of_gt halt
 have h2 : (Value.type "set" == Value.type "list") = false:=by decide
 have h3 : (Value.type "set" == Value.type "tuple") = false:=by decide
 simp only [h1,h2,h3,Bool.or_false,Bool.false_eq_true,if_false]
 refine wpAny_bind (zy9 (s:={ s with heap:=hL }) (k0 a o ho) (S0.mono k0.T) fun h1 d I fp vs hW hvs k1 hI1 hI2 hfp=>?_)
 refine wpAny_bind (wpAny_holding (zz5 ⟨o,k1 a o (k0 a o ho),S0.ex.1⟩ ?_))
 refine wpAny_ite_split (fun _=>?_) (fun e=>absurd (by decide +kernel) e)
 refine wpAny_bind (wpAny_rule ?_)
 refine wpAny_bind ?_
 show wpAny _ A.in1 (updateSeq s.heap.objs.size (·.push .none) >>= fun _=>updateSeq s.heap.objs.size (·.pop)) _ _ _
 have hS1:=k1 _ _ hLg
 refine wpAny_bind (wpAny_updateSeq hS1 rfl ?_)
 have hS2:=Heap.get?_update_self (Obj.mapSeq (·.push Value.none)) hS1 rfl
 refine wpAny_updateSeq hS2 rfl ?_
 have hS3:=Heap.get?_update_self (Obj.mapSeq (·.pop)) hS2 rfl
 generalize hG : (h1.update s.heap.objs.size (Obj.mapSeq (·.push Value.none))).update s.heap.objs.size (Obj.mapSeq (·.pop)) = h2 at hS3 ⊢
 have k2 : ∀ b u,b≠s.heap.objs.size->h1.get? b = some u->h2.get? b = some u:=fun b u hb e=>by
  rw [<- hG]; exact (Heap.get?_update_other _ _ (Ne.symm hb)).trans ((Heap.get?_update_other _ _ (Ne.symm hb)).trans e)
 have hSf : s.heap.objs.size ∉ fp:=fun hm=>by
  rcases hfp _ hm with e | e
  ·rw [<- e] at halt; exact Nat.lt_irrefl _ halt
  ·have e' : hL.objs.size <= s.heap.objs.size:=e
   rw [hLs] at e'; lia
 obtain ⟨St,W,st0⟩:=hW A.in1 (by simp [hh])
 have st2:=W.frame 0 h1 h2 st0 fun b hb u e=>k2 b u (fun x=>hSf (x ▸ hb)) e
 refine wpAny_pure ⟨plainId_quiet F.plain_extend_loop _,codeAny_extend_loopS (A:=A) W.toS (by rw [hvs.length_eq]; simp; exact zb6 (by have:=S0.small; have:=S0.ent.length; simp at this; lia)) _ hSf _ vs.length 0 _ _ _ rfl (Nat.zero_le _) st2 hS3 (ItemsOf.nil _) fun s' acc c hm hS' hacc=>?_⟩
 show wpAny _ A (load s.heap.objs.size >>= _) _ _ s'
 refine wpAny_bind (wpAny_load hS' ?_)
 have ev : acc.toList = vs:=by
  refine List.ext_getElem? fun i=>?_
  by_cases hi : i < acc.size
  ·have e1 : acc[i]? = some acc[i]:=Array.getElem?_eq_getElem hi
   rw [hacc.2 i _ e1,List.getElem?_eq_getElem (by simpa using hi)]; simp
  ·rw [List.getElem?_eq_none (by simpa using hi),List.getElem?_eq_none (by have:=hacc.1; lia)]
 have es':=Moved.eq_with hm
 refine wpAny_pure ?_
 show Q acc.toList s'
 rw [ev,es']
 refine q vs s'.heap d s'.toks hvs (fun b u e=>?_) (Heap.lt_size hS')
 have hb:=Heap.lt_size e
 have hb1 : b≠s.heap.objs.size:=Nat.ne_of_lt hb
 have hb2 : b≠I:=fun x=>by
  have e' : hL.objs.size <= I:=hI1
  rw [hLs,<- x] at e'
  exact Nat.lt_irrefl _ (Nat.lt_trans hb e')
 exact hm.heap b u (by simp [hb1,hb2]) (k2 b u hb1 (k1 b u (k0 b u e)))
end
end L2
namespace L2
open PySem PySem.Spec PyProof.Rows L2T
section
variable {prog : Program} {w : World} {A : Around} {E : Value->Shared->Prop} {s : Shared}
theorem zzo {k : SK} {x : Value} {Q : Int->Shared->Prop} (hu : A.units < cLine) (hx : k.is prog w s.heap x) (q : ∀ tk,Q (k.hash prog w) { s with toks:=tk }) : wpAny (model prog w) A (pyHash x) Q E s:=by
 cases k with
 | one k=>exact (zal prog w).pyHash hx (q _)
 | many kk=>obtain ⟨a,rfl,hk⟩:=hx; exact wpAny_pyHash_tuple hu hk (q _)
structure Part (prog : Program) (w : World) (k0 : List SK) (items : Array Value) (i : Nat) (ks : List SK) (es : Array (Int × Value)) : Prop where
 mem : ∀ k,k∈ks ↔ ∃ j : Nat,j < i/\k0[j]? = some k
 len : ks.length <= i
 ent : ∀ e∈es.toList,∃ j : Nat,items[j]? = some e.2
theorem zui {S I l : Addr} {items : Array Value} {k0 : List SK} {f : Bool} {R : Result -> Shared -> Prop} (hu : A.units + 1 < cLine) (hh : A.handled = none) (hSI : S ≠ I) (hSl : S ≠ l) (hIl : l ≠ I)
  (hlen : k0.length = items.size) (hn : items.size <= 1000) (hf : ∀ k∈k0,k.flat = f) :
  ∀ (m i : Nat) (s : Shared) (ks : List SK) (es : Array (Int × Value)),items.size - i = m->i <= items.size->s.heap.IsListIter I l i->s.heap.IsList l items->SetE prog w s.heap S ks es->Part prog w k0 items i ks es ->
   (∀ (j : Nat) (v : Value) (k : SK),items[j]? = some v->k0[j]? = some k->k.is prog w s.heap v) ->
   (∀ s' ks' es',(∀ b o,b≠I->b≠S->s.heap.get? b = some o->s'.heap.get? b = some o)->(∃ tk,s' = { s with heap:=s'.heap,toks:=tk })->SetE prog w s'.heap S ks' es'->Part prog w k0 items items.size ks' es'->R (.ok (.ret .none)) s') ->
   codeAny (model prog w) A (.builtin "set.update.loop" ⟨[.ref S,.ref I],[]⟩) R s:=by
 intro m
 induction m with
 | zero =>
  intro i s ks es hk hi hit hl hS hp hkey hR
  have hin : i = items.size:=by lia
  subst hin
  refine codeAny_builtin F.entry_set_update_loop ?_
  rw [Around.under_plainId F.plain_set_update_loop _]
  show wpAny _ A.in1 (pyNext (.ref I) >>= _) _ _ s
  refine wpAny_bind (wpAny_pyNext_list_end (by simp [hh]) hit hl (by simp) fun h' he=>?_)
  show wpAny _ A.in1 (ret Value.none) _ _ _
  obtain ⟨o,ep,t,ho,So⟩:=hS
  have kT : zjr s.heap h':=fun b u c e=>he b u (fun z=>by
   obtain ⟨oi,h1,h2,_⟩:=hit
   rw [z,h1] at e; cases e; rw [h2] at c; exact absurd c (by decide)) e
  exact wpAny_pure (hR _ ks es (fun b u h1 _ e=>he b u h1 e) ⟨s.toks,rfl⟩ ⟨o,ep,t,he S o hSI ho,So.mono kT⟩ hp)
 | succ m ih =>
  intro i s ks es hk hi hit hl hS hp hkey hR
  have hlt : i < items.size:=by lia
  have hv : items[i]? = some items[i]:=Array.getElem?_eq_getElem hlt
  have hki : k0[i]? = some (k0[i]'(by lia)):=List.getElem?_eq_getElem _
  have hx:=hkey i _ _ hv hki
  have hfi:=hf _ (List.mem_of_getElem? hki)
  generalize k0[i]'(by lia) = k at hki hx hfi
  refine codeAny_builtin F.entry_set_update_loop ?_
  rw [Around.under_plainId F.plain_set_update_loop _]
  show wpAny _ A.in1 (pyNext (.ref I) >>= _) _ _ s
  refine wpAny_bind (wpAny_pyNext_list_item hit hl hv fun h1 hit1 sb1=>?_)
  have kT1 : zjr s.heap h1:=fun b u c e=>(sb1.2 b (fun z=>by
   obtain ⟨oi,g1,g2,_⟩:=hit
   rw [z,g1] at e; cases e; rw [g2] at c; exact absurd c (by decide))).trans e
  obtain ⟨o,ep,t,ho,So⟩:=hS
  have ho1 : h1.get? S = some o:=(sb1.2 S hSI).trans ho
  show wpAny _ A.in1 (holding [items[i]] (setAdd S items[i]) >>= _) _ _ _
  refine wpAny_bind (wpAny_holding ?_)
  unfold setAdd
  refine wpAny_holding (wpAny_bind (zzo (by simp only [Around.in1_units]; omega) (SK.is_mono kT1 hx) fun tk=>?_))
  have kin : ∀ k'∈ks,k'.flat = k.flat:=fun k' hk'=>by
   obtain ⟨j,_,hj⟩:=(hp.mem k').mp hk'
   rw [hf _ (List.mem_of_getElem? hj),hfi]
  refine ybc (s:={ s with heap:=h1,toks:=tk }) (by simp only [Around.in1_units]; omega) ho1 (So.mono kT1) kin (SK.is_mono kT1 hx) (by have:=hp.len; lia) fun h2 k2 e2 sb2 S2 p2 en2=>?_
  have hp2 : Part prog w k0 items (i + 1) k2 e2:=by
   refine ⟨fun k'=>?_,?_,fun e he=>?_⟩
   ·rw [p2.mem_iff]
    constructor
    ·intro hm
     have hm' : k'∈k::ks:=by
      split at hm
      ·exact List.mem_cons_of_mem _ hm
      ·exact hm
     rcases List.mem_cons.mp hm' with e | e
     ·exact ⟨i,by lia,by rw [e]; exact hki⟩
     ·obtain ⟨j,hj,hkj⟩:=(hp.mem k').mp e; exact ⟨j,by lia,hkj⟩
    ·rintro ⟨j,hj,hkj⟩
     have hm' : k' = k \/ k'∈ks:=by
      rcases Nat.lt_or_ge j i with c | c
      ·exact .inr ((hp.mem k').mpr ⟨j,c,hkj⟩)
      ·have : j = i:=by lia
       subst this; rw [hki] at hkj; cases hkj; exact .inl rfl
     split
     ·rename_i hin
      rcases hm' with e | e
      ·rw [e]; exact hin
      ·exact e
     ·rcases hm' with e | e
      ·rw [e]; exact List.mem_cons_self
      ·exact List.mem_cons_of_mem _ e
   ·rw [p2.length_eq]
    have:=hp.len
    split
    ·lia
    ·simp; omega
   ·rcases en2 e he with z | z
    ·exact hp.ent e z
    ·exact ⟨i,by rw [z]; exact hv⟩
  have k12 : zjr h1 h2:=zfw (es:=es) (ep:=ep) (t:=t) ho1 So.ex sb2
  refine wpAny_pure ⟨plainId_quiet F.plain_set_update_loop _,ih (i + 1) _ k2 e2 (by lia) hlt ?_ ?_ S2 hp2 (fun j v k' h3 h4=>SK.is_mono (fun b u c e=>k12 b u c (kT1 b u c e)) (hkey j v k' h3 h4)) fun s' k3 e3 kp ⟨tk',hs'⟩ S3 p3=>?_⟩
  ·exact hit1.at fun u e=>(sb2.2 I (Ne.symm hSI)).trans e
  ·exact (hl.extBut sb1.extBut hIl).at fun u e=>(sb2.2 l (Ne.symm hSl)).trans e
  ·refine hR s' k3 e3 (fun b u h3 h4 e=>kp b u h3 h4 ((sb2.2 b h4).trans ((sb1.2 b h3).trans e))) ⟨tk',?_⟩ S3 p3
   rw [hs']
end
end L2
namespace L2
open PySem PySem.Spec PyProof.Rows L2T
section
variable {prog : Program} {w : World} {A : Around} {E : Value->Shared->Prop} {s : Shared}
theorem zuu {h : Heap} {a : Addr} {led : Bool} (hl : led = led0 w) (hg : h.get? a = some { cls:=.type "set", dict:=none,data:=.set #[] 0 (.fresh 0 0 led) }) : SetE prog w h a [] #[] :=
 ⟨_,0,_,hg,⟨rfl,rfl,rfl⟩,rfl,zq2 0 0 led,.nil,List.nodup_nil,by simp,hl,true,fun k hk=>by cases hk⟩
theorem zqv (a : Value) {Q1 : Value->Shared->Prop} (h : Q1 (.ref s.heap.objs.size) { s with heap:=s.heap.push { cls:=.type "set", dict:=none,data:=.set #[] 0 (.fresh 0 0 (led0 w)) } }) :
  codeAny (model prog w) A (.call (.builtin "set.__new__") ⟨[.type "set", a],[]⟩) (wants Q1 E) s:=by
 refine codeAny_of_tree ?_
 show wpAny _ A.in1 (do checkBuiltinCall "set.__new__" ⟨[.type "set", a],[]⟩; again (.builtin "set.__new__" ⟨[.type "set", a],[]⟩)) _ _ s
 refine wpAny_bind (wpAny_of_eq (F.newCall_set_1 a) (wpAny_pure ⟨plainId_quiet F.plain_set_new _,codeAny_builtin F.entry_set_new ?_⟩))
 rw [Around.under_plainId F.plain_set_new _]
 unfold Builtin.«set.__new__» Builtin.Frozenset.newClass
 have hsub:=sub_set_self
 obtain ⟨hp,g,d,tk,os⟩:=s
 dsimp only
 wp_walk
 refine wpAny_askSetting (wpAny_pure ?_)
 dsimp only
 simp only [newObj]
 refine wpAny_bind (wpAny_alloc (wpAny_pure ?_))
 exact wpAny_pure h
theorem zpx {l : Addr} {items : Array Value} {k0 : List SK} {f : Bool} {Q : Value->Shared->Prop} (hu : A.units + 16 < cLine) (hh : A.handled = none) (hl : s.heap.IsList l items) (hlen : k0.length = items.size) (hn : items.size <= 1000) (hf : ∀ k∈k0,k.flat = f)
  (hkey : ∀ (j : Nat) (v : Value) (k : SK),items[j]? = some v->k0[j]? = some k->k.is prog w s.heap v)
  (q : ∀ h' tk ks es,ze2 s.heap h'->SetE prog w h' s.heap.objs.size ks es->Part prog w k0 items items.size ks es->Q (.ref s.heap.objs.size) { s with heap:=h',toks:=tk }) :
  wpAny (model prog w) A (call (.type "set") [.ref l]) Q E s:=by
 obtain ⟨c,tl,hmro⟩:=F.called_set.mro
 have hmade:=F.called_set.made
 have hsub:=F.called_set.sub
 refine wpAny_call (codeAny_of_tree ?_)
 show wpAny _ _ (callAny (.type "set") _) _ _ _
 refine wpAny_pure ⟨Code.quiet_builtin _ (by decide +kernel),codeAny_builtin F.entry_type_call ?_⟩
 rw [Around.under_plain (weight_type_call_type "set" [.ref l] []) rfl]
 have h1:=F.called_set.notType
 have h2:=F.called_set.canCreate
 have hct:=F.typeCall_set_1 (.ref l)
 repeat (any_goals (first | assumption | wp_step))
 refine codeAny_mono (zqv (.ref l) (E:=E) (Q1:=fun obj s1=>obj = .ref s.heap.objs.size/\s1 = { s with heap:=s.heap.push { cls:=.type "set", dict:=none,data:=.set #[] 0 (.fresh 0 0 (led0 w)) } }) ⟨rfl,rfl⟩) fun r s1 hr=>?_
 cases r with
 | error e=>exact hr
 | ok fl =>
  cases fl with
  | ret obj =>
   obtain ⟨rfl,rfl⟩:=hr
   generalize hN : s.heap.push { cls:=.type "set", dict:=none,data:=.set #[] 0 (.fresh 0 0 (led0 w)) } = hp1
   have hS : hp1.get? s.heap.objs.size = some { cls:=.type "set", dict:=none,data:=.set #[] 0 (.fresh 0 0 (led0 w)) }:=by rw [<- hN]; exact Heap.get?_push_size _ rfl
   have k1 : ze2 s.heap hp1:=by rw [<- hN]; exact zb1
   have z1 : hp1.objs.size = s.heap.objs.size + 1:=by rw [<- hN,Heap.size_push]
   have hT : Shared.TypeIs { s with heap:=hp1 } (.ref s.heap.objs.size) "set" := ⟨_,hS,rfl⟩
   have hli:=F.called_set.init.lookup
   have hbi:=F.called_set.init.bind (.ref s.heap.objs.size)
   repeat (any_goals (first | assumption | wp_step))
   refine codeAny_mono (codeAny_call_builtin (R:=wants (fun r s2=>r = .none /\ ∃ h' tk ks es,s2 = { s with heap:=h',toks:=tk }/\ze2 s.heap h'/\SetE prog w h' s.heap.objs.size ks es/\Part prog w k0 items items.size ks es) E)
    F.called_set.init.plain F.entry_set_init (check_set_init_1 hT ?_)) fun r2 s2 hr2=>?_
   ·obtain ⟨ol,hol,hcl,nl,hdl⟩:=id hl
    obtain ⟨ocls,odict,odata,oslots⟩:=ol
    simp only at hcl hdl
    subst hcl; subst hdl
    have hol':=k1 _ _ hol
    have hsls:=F.sub_list_set
    have hslf:=F.sub_list_frozenset
    have hne : (Value.type "list" == Value.type "dict") = false:=by decide
    have hl1 : hp1.IsList l items:=⟨_,hol',rfl,nl,rfl⟩
    unfold Builtin.«set.__init__» noKeywords Builtin.Frozenset.updateFrom
    generalize hPI : pyIter = PI
    wp_walk
    subst hPI
    refine wpAny_pyIter_list hl1 ?_
    refine wpAny_bind (wpAny_runValue ?_)
    have hlS : l < s.heap.objs.size:=Heap.lt_size hol
    have hIt : (hp1.push { cls:=.type "list_iterator", data:=.fields #[.ref l,.int 0 0] }).IsListIter hp1.objs.size l 0:=⟨_,Heap.get?_push_size _ rfl,rfl,rfl⟩
    refine zui (S:=s.heap.objs.size) (I:=hp1.objs.size) (l:=l) (items:=items) (k0:=k0) (f:=f) ?hu ?hh ?n1 ?n2 ?n3 hlen hn hf (items.size - 0) 0 _ [] #[] (by lia) (Nat.zero_le _) hIt (hl1.push _) (zuu rfl (zb1 _ _ hS)) ⟨fun k=>⟨(fun h=>by cases h),(fun ⟨j,hj,_⟩=>by lia)⟩,by simp,(fun e he=>by cases he)⟩ (fun j v k a b=>SK.is_mono (fun b u _ e=>zb1 _ _ (k1 _ _ e)) (hkey j v k a b)) ?hR
    case hu=>simp only [Around.in1_units]; lia
    case hh=>simp [hh]
    case n1=>rw [z1]; exact Nat.ne_of_lt (Nat.lt_succ_self _)
    case n2=>exact Nat.ne_of_gt hlS
    case n3=>rw [z1]; exact Nat.ne_of_lt (Nat.lt_succ_of_lt hlS)
    case hR =>
     intro s' ks' es' kp ⟨tk',hs'⟩ S' p'
     show wpAny _ _ _ _ _ _
     refine wpAny_pure ?_
     show wpAny _ _ (ret Value.none) _ _ _
     refine wpAny_pure ⟨rfl,s'.heap,tk',ks',es',hs',fun b o e=>?_,S',p'⟩
     have hb:=Heap.lt_size e
     exact kp b o (by rw [z1]; exact Nat.ne_of_lt (Nat.lt_succ_of_lt hb)) (Nat.ne_of_lt hb) (zb1 _ _ (k1 _ _ e))
   ·cases r2 with
    | error e=>exact hr2
    | ok fl2 =>
     cases fl2 with
     | ret r =>
      obtain ⟨rfl,h',tk,ks,es,rfl,a1,a2,a3⟩:=hr2
      repeat (any_goals (first | assumption | wp_step))
      exact q _ _ _ _ a1 a2 a3
     | _=>exact hr2.elim
  | _=>exact hr.elim
end
end L2
namespace L2
open PySem PySem.Spec PyProof.Rows L2T
end L2
namespace L2
open PySem PySem.Spec PyProof.Rows L2T
section
variable {prog : Program} {w : World} {A : Around} {E : Value->Shared->Prop} {s : Shared}
structure Took (kb : List SK) (p : SK->Bool) (es0 : List (Int × Value)) (kd : List SK) (kr : List SK) (er : Array (Int × Value)) : Prop where
 mem : ∀ k,k∈kr ↔ k∈kb \/ (k∈kd/\p k = true)
 len : kr.length <= kb.length + kd.length
 ent : ∀ e∈er.toList,e∈es0
end
end L2
namespace L2
open PySem PySem.Spec PyProof.Rows L2T
end L2
namespace L2
open PySem PySem.Spec PyProof.Rows L2T
end L2
namespace L2
open PySem PySem.Spec PyProof.Rows L2T
end L2
namespace L2
open PySem PySem.Spec PyProof.Rows L2T
end L2
namespace L2
open PySem PySem.Spec PyProof.Rows L2T
end L2
namespace L2
open PySem PySem.Spec PyProof.Rows L2T
end L2
namespace L2
open PySem PySem.Spec PyProof.Rows L2T
noncomputable def D.kk : D->Key
 | .int i=>.inl i
 | .str l=>.inr (T l)
 | _=>.inl 0
noncomputable def D.fl : D->Bool
 | .int _=>true
 | .str _=>true
 | _=>false
noncomputable def D.sk : D->SK
 | .tup ds=>.many (ds.map D.kk)
 | d=>.one d.kk
noncomputable def D.hk : Bool->D->Bool
 | true,d=>d.fl
 | false,.tup ds=>ds.all D.fl
 | false,_=>false
theorem zv9 {d e : D} (h1 : d.fl = true) (h2 : e.fl = true) (h : d.kk = e.kk) : d = e:=by
 cases d <;> simp [D.fl] at h1 <;> cases e <;> simp [D.fl] at h2 <;> simp [D.kk] at h
 ·rw [h]
 ·rw [zrp] at h; rw [h]
theorem zqq : ∀ {ds es : List D},ds.all D.fl = true->es.all D.fl = true->ds.map D.kk = es.map D.kk->ds = es
 | [],[],_,_,_=>rfl
 | [],_::_,_,_,h=>by simp at h
 | _::_,[],_,_,h=>by simp at h
 | d::ds,e::es,h1,h2,h=>by
  simp only [List.all_cons,Bool.and_eq_true] at h1 h2
  simp only [List.map_cons,List.cons.injEq] at h
  rw [zv9 h1.1 h2.1 h.1,zqq h1.2 h2.2 h.2]
theorem zz2 {f : Bool} {d e : D} (h1 : d.hk f = true) (h2 : e.hk f = true) (h : d.sk = e.sk) : d = e:=by
 cases f with
 | true =>
  simp only [D.hk] at h1 h2
  have e1 : d.sk = .one d.kk:=by cases d <;> first | rfl | simp [D.fl] at h1
  have e2 : e.sk = .one e.kk:=by cases e <;> first | rfl | simp [D.fl] at h2
  rw [e1,e2] at h
  injection h with h
  exact zv9 h1 h2 h
 | false =>
  cases d <;> simp [D.hk] at h1
  cases e <;> simp [D.hk] at h2
  simp [D.sk] at h
  rw [zqq (by simpa using h1) (by simpa using h2) h]
theorem zly {f : Bool} {d : D} (h : d.hk f = true) : d.sk.flat = f:=by
 cases f with
 | true=>cases d <;> simp [D.hk,D.fl] at h <;> rfl
 | false=>cases d <;> simp [D.hk] at h; rfl
section
variable (P : Program) (w : World)
noncomputable def zq3 (p : Addr) (ks : List SK) (xs : List V) : HO:=.ext fun h=>∃ o es ep t,h.get? p = some o/\o.ExactSet/\SetL w o es ep t/\es.toList.map (·.1) = ks.map (SK.hash P w)/\Vals xs (es.toList.map (·.2))/\ks.Nodup/\ks.length <= 1000
end
section
variable {X : Cx} {pins : List (Addr × Obj)} {σ : St} {H : Hp} {s : Shared}
theorem Inv.drw (I : Inv X pins σ H s) (d : Drawn) : Inv X pins σ H { s with drawn:=d }:=⟨I.ok,I.os,I.bare,I.base,I.loc,I.cell,I.free,I.freeC,I.pin,I.hok,I.len⟩
theorem yaz {d : D} {x : V} {u : Value} (hf : d.fl = true) (r : Rep X.K H d x) (q : RelV x u) : (zal X.prog X.w).is d.kk u = true:=by
 cases d <;> simp [D.fl] at hf
 ·rw [r.of_int] at q; obtain ⟨t,rfl⟩:=q; exact zhy ..
 ·rw [r.of_str] at q; obtain ⟨t,rfl⟩:=q; exact zhi ..
theorem zwh : ∀ {ds : List D} {xs : List V} {us : List Value},ds.all D.fl = true->Reps X.K H ds xs->Vals xs us->ItemsAre (zal X.prog X.w) (ds.map D.kk) us
 | [],_,_,_,r,q=>by rw [Reps] at r; subst r; cases q; exact .nil
 | d::ds,_,_,hf,r,q=>by
  rw [Reps] at r
  obtain ⟨x,xs,rfl,r1,r2⟩:=r
  simp only [List.all_cons,Bool.and_eq_true] at hf
  cases q with
  | cons q1 q2=>exact .cons (yaz hf.1 r1 q1) (zwh hf.2 r2 q2)
theorem Inv.sk (I : Inv X pins σ H s) {f : Bool} {d : D} {x : V} {u : Value} (hf : d.hk f = true) (r : Rep X.K H d x) (q : RelV x u) : d.sk.is X.prog X.w s.heap u:=by
 cases f with
 | true =>
  have e1 : d.sk = .one d.kk:=by cases d <;> first | rfl | simp [D.hk,D.fl] at hf
  rw [e1]; exact yaz (by simpa [D.hk] using hf) r q
 | false =>
  cases d <;> simp [D.hk] at hf
  rename_i ds
  obtain ⟨p,xs,rfl,sq,rs⟩:=r.of_tup
  cases q
  obtain ⟨its,rv,⟨o,e,c,n,hd⟩,_⟩:=I.tuple sq
  exact ⟨p,rfl,o,its.toArray,n,e,c,hd,by simpa using zwh (by simpa using hf) rs rv⟩
theorem zzs (I : Inv X pins σ H s) {f : Bool} : ∀ {ds : List D} {xs : List V} {es : List (Int × Value)},(∀ d∈ds,d.hk f = true)->Reps X.K H ds xs->Vals xs (es.map (·.2))->es.map (·.1) = (ds.map D.sk).map (SK.hash X.prog X.w)->Es X.prog X.w s.heap (ds.map D.sk) es
 | [],_,es,_,r,q,_=>by
  rw [Reps] at r; subst r
  cases es with
  | nil=>exact .nil
  | cons _ _=>cases q
 | d::ds,_,es,hf,r,q,hh=>by
  rw [Reps] at r
  obtain ⟨x,xs,rfl,r1,r2⟩:=r
  cases es with
  | nil=>cases q
  | cons e es =>
   simp only [List.map_cons,List.cons.injEq] at hh
   cases q with
   | cons q1 q2=>exact .cons hh.1 (I.sk (hf d List.mem_cons_self) r1 q1) (zzs I (fun d' h=>hf d' (List.mem_cons_of_mem _ h)) r2 q2 hh.2)
theorem Inv.setE (I : Inv X pins σ H s) {f : Bool} {a : Addr} {ds : List D} {xs : List V} (e : H a = some (zq3 X.prog X.w a (ds.map D.sk) xs)) (hf : ∀ d∈ds,d.hk f = true) (r : Reps X.K H ds xs) :
  ∃ es,SetE X.prog X.w s.heap a (ds.map D.sk) es/\Vals xs (es.toList.map (·.2)):=by
 obtain ⟨⟨o,es,ep,t,ho,hx,S,hh,rv,hn,hl⟩,_,_⟩:=I.hok a _ e
 exact ⟨es,⟨o,ep,t,ho,hx,S.data,S.tab,zzs I hf r rv hh,hn,hl,S.led,f,fun k hk=>by
  obtain ⟨d,hd,rfl⟩:=List.mem_map.mp hk
  exact zly (hf d hd)⟩,rv⟩
noncomputable def Src (da : List D) (xa : List V) (db : List D) (xb : List V) (dr : List D) (xr : List V) : Prop :=
 dr.length = xr.length /\ ∀ (i : Nat) d x,dr[i]? = some d->xr[i]? = some x -> ∃ j : Nat,(da[j]? = some d/\xa[j]? = some x) \/ (db[j]? = some d/\xb[j]? = some x)
theorem Src.reps {K : PySem.W.Frag} {F : Hp} {da db dr : List D} {xa xb xr : List V} (h : Src da xa db xb dr xr) (ra : Reps K F da xa) (rb : Reps K F db xb) : Reps K F dr xr:=by
 obtain ⟨hl,h⟩:=h
 induction dr generalizing xr with
 | nil=>cases xr with
  | nil=>exact Reps.nil
  | cons _ _=>simp at hl
 | cons d dr ih=>cases xr with
  | nil=>simp at hl
  | cons x xr =>
   refine Reps.cons ?_ (ih (by simpa using hl) fun i d' x' h1 h2=>h (i + 1) d' x' h1 h2)
   obtain ⟨j,⟨h1,h2⟩ | ⟨h1,h2⟩⟩:=h 0 d x rfl rfl
   ·obtain ⟨x',e,r⟩:=ra.get' h1
    rw [h2] at e; cases e; exact r
   ·obtain ⟨x',e,r⟩:=rb.get' h1
    rw [h2] at e; cases e; exact r
theorem Src.mem {da db dr : List D} {xa xb xr : List V} (h : Src da xa db xb dr xr) {d : D} (hd : d∈dr) : d∈da \/ d∈db:=by
 obtain ⟨i,hi⟩:=List.mem_iff_getElem?.mp hd
 have hil:=(List.getElem?_eq_some_iff.mp hi).1
 obtain ⟨j,⟨h1,_⟩ | ⟨h1,_⟩⟩:=h.2 i d (xr[i]'(by have:=h.1; lia)) hi (List.getElem?_eq_getElem _)
 ·exact .inl (List.mem_of_getElem? h1)
 ·exact .inr (List.mem_of_getElem? h1)
theorem zz4 {h : Heap} {k k' : SK} {v : Value} (a : k.is X.prog X.w h v) (b : k'.is X.prog X.w h v) (hf : k.flat = k'.flat) : k = k':=by
 cases k <;> cases k' <;> simp [SK.flat] at hf
 ·exact congrArg _ ((zal X.prog X.w).inj _ _ _ a b)
 ·obtain ⟨u,e1,i1⟩:=a
  obtain ⟨v,e2,i2⟩:=b
  rw [e1] at e2; cases e2
  exact congrArg _ (i1.inj i2)
theorem zuz {h' : Heap} {r : Addr} {H' : Hp} {dr : List D} {xr : List V} {er : Array (Int × Value)} (S : SetE X.prog X.w h' r (dr.map D.sk) er) (v : Vals xr (er.toList.map (·.2))) : zce X.prog X.w H' h' r (zq3 X.prog X.w r (dr.map D.sk) xr):=by
 obtain ⟨o,ep,t,ho,S⟩:=S
 refine ⟨⟨o,er,ep,t,ho,S.ex,S.lite,?_,v,S.nod,S.small⟩,⟨o,ho⟩,?_⟩
 ·have:=S.ent
  generalize dr.map D.sk = kr at this
  generalize er.toList = el at this
  induction this with
  | nil=>rfl
  | cons a _ _ ih=>simp [a,ih]
 ·rintro h1 h2 ⟨o,es,ep,t,ho,r⟩ k
  exact ⟨o,es,ep,t,k o ho,r⟩
end
end L2
namespace L2
open PySem PySem.Spec PyProof.Rows L2T
section
variable (P : Program) (w : World) (K : PySem.W.Frag)
noncomputable def zsb (f : Bool) : List V->Hp->VK->Prop:=fun vs H Q=>∃ a xs ds,vs = [.ref a]/\SqL K H a xs/\Reps K H ds xs/\(∀ d∈ds,d.hk f = true)/\ds.length <= 1000 /\
 ∀ r dr xr,H r = none->dr.Nodup->(∀ d,d∈dr ↔ d∈ds)->Src ds xs [] [] dr xr->Q (.ref r) (upd H r (zq3 P w r (dr.map D.sk) xr))
end
theorem zzb {f : Bool} {ds : List D} (hf : ∀ d∈ds,d.hk f = true) {d : D} (hd : d.hk f = true) : d.sk∈ds.map D.sk ↔ d∈ds:=by
 constructor
 ·intro h
  obtain ⟨e,he,h2⟩:=List.mem_map.mp h
  rw [<- zz2 (hf e he) hd h2]; exact he
 ·exact fun h=>List.mem_map_of_mem h
theorem zvo {dr : List D} (h : (dr.map D.sk).Nodup) : dr.Nodup:=by
 unfold List.Nodup at *
 rw [List.pairwise_map] at h
 exact h.imp fun a e=>a (congrArg _ e)
section
variable {X : Cx}
theorem zrd {f : Bool} (hc : X.calm = true) (hu : X.A.units + 64 < cLine) : zcg X (.type "set") (zsb X.prog X.w X.K f):=by
 intro pins s σ H vs us Q I r h
 obtain ⟨a,xs,ds,rfl,hq,rs,hf,hl,q⟩:=h
 obtain ⟨u,rfl,ru⟩:=zf8 r
 cases ru
 obtain ⟨its,rv,pl,_⟩:=I.list hq
 have l1:=rs.length
 have l2:=rv.length
 have hk0 : ∀ k∈ds.map D.sk,k.flat = f:=fun k hk=>by obtain ⟨d,hd,rfl⟩:=List.mem_map.mp hk; exact zly (hf d hd)
 have hkey : ∀ (j : Nat) (v : Value) (k : SK),its.toArray[j]? = some v->(ds.map D.sk)[j]? = some k->k.is X.prog X.w s.heap v:=fun j v k h1 h2=>by
  rw [List.getElem?_map] at h2
  cases hd : ds[j]? with
  | none=>rw [hd] at h2; cases h2
  | some d =>
   rw [hd] at h2
   have : d.sk = k:=by simpa using h2
   subst this
   obtain ⟨x,hx,rx⟩:=rs.get' hd
   obtain ⟨u,hu',ru⟩:=rv.get hx
   have h1' : its[j]? = some v:=by simpa using h1
   rw [h1'] at hu'; cases hu'
   exact I.sk (hf d (List.mem_of_getElem? hd)) rx ru
 refine zpx (k0:=ds.map D.sk) (f:=f) (by lia) (I.ok.hd hc) pl.isList (by simp; lia) (by simp; lia) hk0 hkey fun h' tk ks es K' S p=>?_
 have hex : ∀ (kr : List SK) (el : List (Int × Value)),Es X.prog X.w h' kr el->(∀ k∈kr,k.flat = f)->(∀ e∈el,∃ j : Nat,its.toArray[j]? = some e.2) -> ∃ dr xr,dr.map D.sk = kr/\Vals xr (el.map (·.2))/\Src ds xs [] [] dr xr:=by
  intro kr el en
  induction en with
  | nil=>intro _ _; exact ⟨[],[],rfl,.nil,rfl,fun i d x h=>by simp at h⟩
  | @cons k e kr er g1 g2 _ ih =>
   intro hkk hent
   obtain ⟨dr,xr,a1,b1,c1⟩:=ih (fun k h=>hkk k (List.mem_cons_of_mem _ h)) fun e h=>hent e (List.mem_cons_of_mem _ h)
   obtain ⟨j,hj⟩:=hent e List.mem_cons_self
   have hj' : its[j]? = some e.2:=by simpa using hj
   have hjl:=(List.getElem?_eq_some_iff.mp hj').1
   have hjd : ds[j]? = some (ds[j]'(by lia)):=List.getElem?_eq_getElem _
   obtain ⟨x,hx,rx⟩:=rs.get' hjd
   obtain ⟨u,hu',ru⟩:=rv.get hx
   rw [hj'] at hu'; cases hu'
   have hdk:=hf _ (List.mem_of_getElem? hjd)
   have hsk : (ds[j]'(by lia)).sk = k:=zz4 (SK.is_mono K'.T (I.sk hdk rx ru)) g2 (by rw [zly hdk,hkk k List.mem_cons_self])
   refine ⟨_::dr,x::xr,by rw [List.map_cons,hsk,a1],.cons ru b1,by simp [c1.1],fun i d' x' q1 q2=>?_⟩
   cases i with
   | zero=>simp at q1 q2; subst q1; subst q2; exact ⟨j,.inl ⟨hjd,hx⟩⟩
   | succ i=>exact c1.2 i d' x' q1 q2
 obtain ⟨dr,xr,e1,v1,src⟩:=hex ks es.toList (let ⟨_,_,_,_,T⟩:=S; T.ent) (fun k hk=>by
   obtain ⟨j,_,hj⟩:=(p.mem k).mp hk
   exact hk0 k (List.mem_of_getElem? hj)) p.ent
 subst e1
 have hnod : dr.Nodup:=by obtain ⟨_,_,_,_,T⟩:=S; exact zvo T.nod
 have hdr : ∀ d∈dr,d.hk f = true:=fun d hd=>by
  rcases src.mem hd with z | z
  ·exact hf d z
  ·cases z
 refine ⟨.ref s.heap.objs.size,_,I.laid (t':=tk) K' (Nat.le_refl _) (zuz S v1),rfl,q _ dr xr (I.hok.fresh (Nat.le_refl _)) hnod (fun d=>⟨fun h=>(src.mem h).elim id (fun z=>by cases z),fun h=>?_⟩) src⟩
 refine (zzb hdr (hf d h)).mp ((p.mem d.sk).mpr ?_)
 obtain ⟨j,hj⟩:=List.mem_iff_getElem?.mp h
 exact ⟨j,by have:=(List.getElem?_eq_some_iff.mp hj).1; simp; lia,by rw [List.getElem?_map,hj]; rfl⟩
end
end L2
namespace L2
open PySem PySem.W PyProof.Rows L2T
section
variable {prog : Program} {w : World} {A : Around} {E : Value->Shared->Prop} {s : Shared}
theorem zkt {a : Addr} {o : Obj} {ks : List SK} {es : Array (Int × Value)} {ep : Nat} {t : SetTable} {Q : Value->Shared->Prop} (Out : List Value->Array Value->Prop) (hh : A.handled = none) (ho : s.heap.get? a = some o) (S : SetO prog w s.heap o ks es ep t)
  (hs : ∀ (vs : List Value) (h' : Heap) (d : Drawn) (tk : Nat),vs.Perm (es.toList.map (·.2))->2 <= vs.length->zdy s.heap h'->zo4 prog w A.in1.in1 { s with heap:=h',drawn:=d,toks:=tk } vs (Out vs)) (h1 : ∀ vs : List Value,vs.Perm (es.toList.map (·.2))->vs.length < 2->Out vs vs.toArray)
  (h : ∀ (vs : List Value) out c h' (d : Drawn) (tk : Nat) (l : Addr),vs.Perm (es.toList.map (·.2))->zdy s.heap h'->s.heap.objs.size <= l->h'.get? l = some (seqObj "list" out c)->out.size = vs.length->Out vs out->Q (.ref l) { s with heap:=h',drawn:=d,toks:=tk }) :
  wpAny (model prog w) A (call (.builtin "sorted") [.ref a]) Q E s:=by
 refine Calls.call_function_entry kind_sorted plain_sorted entry_sorted (args_sorted1 _) ?_
 unfold Builtin.«sorted»
 refine wpAny_bind (m:=checkCount "sorted" 1 1 _) (wpAny_pure ?_)
 refine wpAny_bind (zsv (by simp [hh]) ho S fun vs g1 d tk hp K1 hlt=>?_)
 have hz : vs.length <= sizeLine:=by
  have:=hp.length_eq
  have:=S.small
  have:=S.ent.length
  simp at *
  exact zb6 (by lia)
 refine wpAny_bind (wpAny_newList ?_ hz)
 dsimp only
 have hl : s.heap.objs.size <= g1.objs.size:=Nat.le_of_lt hlt
 have hg : (g1.push { cls:=.type "list", data:=.seq vs.toArray }).get? g1.objs.size = some (seqObj "list" vs.toArray 0):=Heap.get?_push_size _ rfl
 have k2 : zdy s.heap (g1.push { cls:=.type "list", data:=.seq vs.toArray }):=fun b u e=>Heap.get?_push_of_some _ (K1 b u e)
 have ne : ∀ b u,s.heap.get? b = some u->b≠g1.objs.size:=fun b u e=>Nat.ne_of_lt (Heap.lt_size (K1 b u e))
 refine wpAny_bind (wpAny_holding (wpAny_call_entry slot_list_sort ⟨_,hg,rfl⟩ entry_list_sort (zf2 (s:={ s with heap:=g1.push { cls:=.type "list", data:=.seq vs.toArray },drawn:=d,toks:=tk }) (Out vs) hg hz
  (fun h2 h' k=>hs vs h' d tk hp h2 fun b u e=>k b u (ne b u e) (k2 b u e)) (h1 vs hp) fun out c h' k hc hsz hO=>⟨_,rfl,?_⟩) (args_list_sort _)))
 exact wpAny_pure ⟨_,rfl,h vs out c h' d tk _ hp (fun b u e=>k b u (ne b u e) (k2 b u e)) hl hc hsz hO⟩
end
end L2
namespace L2
open PySem PySem.W PyProof.Rows L2T
theorem zdo.perm {ds es : List D} (h : zdo ds) (p : es.Perm ds) : zdo es:=by
 rcases h with h | h | ⟨t,ts,h⟩
 ·exact .inl fun d hd=>h d (p.mem_iff.mp hd)
 ·exact .inr (.inl fun d hd=>h d (p.mem_iff.mp hd))
 ·exact .inr (.inr ⟨t,ts,fun d hd=>h d (p.mem_iff.mp hd)⟩)
theorem zdo.sub {ds es : List D} (h : zdo ds) (p : ∀ d∈es,d∈ds) : zdo es:=by
 rcases h with h | h | ⟨t,ts,h⟩
 ·exact .inl fun d hd=>h d (p d hd)
 ·exact .inr (.inl fun d hd=>h d (p d hd))
 ·exact .inr (.inr ⟨t,ts,fun d hd=>h d (p d hd)⟩)
theorem ze3 {ds es : List D} (h : zdo ds) (p : es.Perm ds) : zd0 es = zd0 ds:=zgy h ((zav es).trans p) (zgj es)
theorem Src.refl {ds : List D} {xs : List V} (h : ds.length = xs.length) : Src ds xs [] [] ds xs:=⟨h,fun i d x h1 h2=>⟨i,.inl ⟨h1,h2⟩⟩⟩
theorem zlb {us us' : List Value} (p : us'.Perm us) : ∀ {ds : List D} {xs : List V},ds.length = xs.length->Vals xs us -> ∃ ds' xs',Vals xs' us'/\ds'.Perm ds/\Src ds xs [] [] ds' xs':=by
 have p':=p.symm
 clear p
 induction p' with
 | nil=>intro ds xs hl v; exact ⟨ds,xs,v,.refl _,Src.refl hl⟩
 | cons e _ ih =>
  intro ds xs hl v
  cases v with
  | @cons x _ xs _ v1 v2 =>
   cases ds with
   | nil=>simp at hl
   | cons d ds =>
    obtain ⟨d2,x2,a,b,c⟩:=ih (by simpa using hl) v2
    refine ⟨d::d2,x::x2,.cons v1 a,b.cons _,by simp [c.1],fun i d' x' h1 h2=>?_⟩
    cases i with
    | zero=>simp at h1 h2; subst h1; subst h2; exact ⟨0,.inl ⟨rfl,rfl⟩⟩
    | succ i =>
     obtain ⟨j,hj⟩:=c.2 i d' x' h1 h2
     exact ⟨j + 1,hj.elim (fun z=>.inl z) fun z=>by simp at z⟩
 | swap e f l =>
  intro ds xs hl v
  cases v with
  | @cons x _ xs _ v1 v2=>cases v2 with
   | @cons y _ xs _ v2 v3 =>
    match ds,hl with
    | d::d1::ds,hl =>
     refine ⟨d1::d::ds,y::x::xs,.cons v2 (.cons v1 v3),List.Perm.swap _ _ _,by simpa using hl,fun i d' x' h1 h2=>?_⟩
     match i with
     | 0=>simp at h1 h2; subst h1; subst h2; exact ⟨1,.inl ⟨rfl,rfl⟩⟩
     | 1=>simp at h1 h2; subst h1; subst h2; exact ⟨0,.inl ⟨rfl,rfl⟩⟩
     | i + 2=>exact ⟨i + 2,.inl ⟨h1,h2⟩⟩
 | trans _ _ ih1 ih2 =>
  intro ds xs hl v
  obtain ⟨d1,x1,a1,b1,c1⟩:=ih1 hl v
  obtain ⟨d2,x2,a2,b2,c2⟩:=ih2 c1.1 a1
  refine ⟨d2,x2,a2,b2.trans b1,c2.1,fun i d' x' h1 h2=>?_⟩
  obtain ⟨j,hj⟩:=c2.2 i d' x' h1 h2
  rcases hj with ⟨g1,g2⟩ | ⟨g1,_⟩
  ·exact c1.2 j d' x' g1 g2
  ·simp at g1
end L2
namespace L2
open PySem PySem.W PyProof.Rows L2T
noncomputable def EvS (P : Program) (w : World) (K : PySem.W.Frag) (G H₀ L : Hp) (ss : List Sl) (t : TE) (ds : List D) : Prop:=∀ F H σ Q,Sat K G H₀ L F H σ ss ->
 (∀ p xs F' H' ds',Ext F H F' H'->H p = none->F' p = none->H' p = some (zq3 P w p (ds'.map D.sk) xs)->Reps K F' ds' xs->ds'.Nodup->(∀ d,d∈ds' ↔ d∈ds)->Q (.ref p) H')->t σ H Q
section
variable {P : Program} {w : World} {K : PySem.W.Frag} {G H₀ L : Hp} {ss : List Sl} {t ta tb : TE} {f : Bool} {ds da db dr : List D}
theorem zyp (a : EvL K G H₀ L ss t ds) (hf : ∀ d∈ds,d.hk f = true) (hl : ds.length <= 1000) : EvS P w K G H₀ L ss (tCB (zsb P w K f) (zbh t tNil)) ds:=fun F H σ Q S q =>
 a F H σ _ S fun p vs F' H' e sq r=>⟨p,vs,ds,rfl,sq,r.mono e.fh,hf,hl,fun l dr xr hl' hn hm src =>
  q l xr F' _ dr (e.newO hl') (e.hh.free hl') (e.fh.free hl') zae (src.reps r Reps.nil) hn hm⟩
end
noncomputable def ded : List D->List D
 | []=>[]
 | d::ds=>if d∈ds then ded ds else d::ded ds
theorem zd7 {d : D} : ∀ {ds : List D},d∈ded ds ↔ d∈ds
 | []=>Iff.rfl
 | e::ds=>by
  unfold ded
  split
  ·rw [zd7,List.mem_cons]
   exact ⟨.inr,fun h=>h.elim (fun z=>z ▸ by assumption) id⟩
  ·rw [List.mem_cons,List.mem_cons,zd7]
theorem zda : ∀ ds : List D,(ded ds).Nodup
 | []=>List.nodup_nil
 | e::ds=>by
  unfold ded
  split
  ·exact zda ds
  ·rw [List.nodup_cons,zd7]; exact ⟨by assumption,zda ds⟩
theorem ztl : ∀ ds : List D,(ded ds).length <= ds.length
 | []=>Nat.le_refl _
 | e::ds=>by
  have:=ztl ds
  unfold ded
  split <;> simp <;> omega
end L2
namespace L2
open PySem PySem.W PyProof.Rows L2T
noncomputable def zsl (K : PySem.W.Frag) : R2:=fun x y H Q=>∃ l b xs zs,x = .ref l/\y = .ref b/\SqL K H l xs/\SqL K H b zs/\xs.length + zs.length <= sizeLine /\ ∀ p,H p = none->Q (.ref p) (upd H p (.lst (xs++zs)))
theorem zmx {X : Cx} : OpR X (binaryOp .Add) (zsl X.K):=by
 intro pins s σ H x y v u Q I rx ry h
 obtain ⟨l,b,xs,zs,rfl,rfl,hl,hb,hz,q⟩:=h
 cases rx
 cases ry
 obtain ⟨its,r,pl,_⟩:=I.list hl
 obtain ⟨its2,r2,pl2,_⟩:=I.list hb
 have z1:=r.length
 have z2:=r2.length
 obtain ⟨⟨cls,dd,data,sl⟩,ho,hc,n,hd⟩:=pl.isList
 obtain ⟨⟨cls2,dd2,data2,sl2⟩,ho2,hc2,n2,hd2⟩:=pl2.isList
 dsimp only at hc hd hc2 hd2
 subst hc; subst hd; subst hc2; subst hd2
 refine concat_meets ⟨_,ho,rfl⟩ ⟨_,ho2,rfl⟩ noFill_list_add seq_list_add PySem.F.slot_list_add PySem.F.entry_list_add (PySem.F.args_list_add_2 _ _) (list_addW l b its.toArray its2.toArray n n2 dd dd2 sl sl2 (by simp; lia)) ⟨ho,ho2,?_⟩
 have ea : its.toArray++its2.toArray = (its++its2).toArray:=by simp
 rw [ea]
 exact ⟨.ref _,_,I.lnew (t':=s.toks) (r.append r2) (by rw [List.length_append]; omega),rfl,q _ I.fresh⟩
section
variable {K : PySem.W.Frag} {G H₀ L : Hp} {ss : List Sl} {ta tb : TE} {da db : List D}
theorem zmf (a : EvL K G H₀ L ss ta da) (b : EvL K G H₀ L ss tb db) (hz : da.length + db.length <= sizeLine) : EvO K G H₀ L ss (tOp (zsl K) ta tb) (da++db):=fun F H σ Q S q =>
 a F H σ _ S fun p vs F1 H1 e1 sq1 r1=>b F1 H1 σ _ (S.ext2 e1) fun p2 vs2 F2 H2 e2 sq2 r2=>by
  have l1:=r1.length
  have l2:=r2.length
  refine ⟨p,p2,vs,vs2,rfl,rfl,SqL.same e2.hh sq1,sq2,by lia,fun l hl=>?_⟩
  have e12:=e1.trans e2
  exact q l _ F2 _ (e12.newO hl) (e12.hh.free hl) (e12.fh.free hl) zae ((r1.mono e2.gf).append r2)
theorem zvt {d : D} {v : V} (r : ∀ H,Rep K H d v) : Ev K G H₀ L ss (tC v) d:=fun F H σ Q S q=>q _ _ _ (Ext.refl S.ext.fh) (r _)
end
theorem zla {K : PySem.W.Frag} {H : Hp} : ∀ (ls : List (List Nat)),(∀ l∈ls,∀ c∈l,c < 128)->Reps K H (ls.map .str) (ls.map fun l=>.str (T l))
 | [],_=>Reps.nil
 | l::ls,h=>Reps.cons (Rep.str (h l List.mem_cons_self)) (zla ls fun l' hl=>h l' (List.mem_cons_of_mem _ hl))
theorem zig : ∀ {ls : List (List Nat)} {us : List Value},ls.length = us.length->(∀ (i : Nat) (l : List Nat) (u : Value),ls[i]? = some l->us[i]? = some u -> ∃ t,u = .str (T l) t)->Vals (ls.map fun l=>V.str (T l)) us
 | [],us,hl,_=>by cases us with
  | nil=>exact .nil
  | cons _ _=>simp at hl
 | l::ls,us,hl,h=>by cases us with
  | nil=>simp at hl
  | cons u us=>exact .cons (h 0 l u rfl rfl) (zig (by simpa using hl) fun i l' u' h1 h2=>h (i + 1) l' u' h1 h2)
noncomputable def TupK (K : PySem.W.Frag) (a : Addr) (ls : List (List Nat)) : Prop:=∀ H,Rep K H (.tup (ls.map .str)) (.ref a)
theorem zyn {K : PySem.W.Frag} {a : Addr} {o : Obj} {its : Array Value} {n : Nat} {ls : List (List Nat)} (hk : K.lookup a = some o) (hc : o.cls = .type "tuple") (hd : o.data = .seq its n) (hl : ls.length = its.size) (hs : ls.length <= 1000) (ha : ∀ l∈ls,∀ c∈l,c < 128)
  (h : ∀ (i : Nat) (l : List Nat) (u : Value),ls[i]? = some l->its.toList[i]? = some u -> ∃ t,u = .str (T l) t) : TupK K a ls:=fun H =>
 Rep.tup (.inr ⟨o,its,n,hk,hc,hd,by rw [<- hl]; exact zb6 (by lia),zig (by simpa using hl) h⟩) (zla ls ha)
end L2
namespace L2
open PySem PySem.W PyProof.Rows L2T
mutual
noncomputable def D.nl : D->Bool
 | .lst _=>false
 | .dct _ _=>false
 | .dctT _ _=>false
 | .ins _ _ _=>false
 | .tup a=>D.nls a
 | _=>true
noncomputable def D.nls : List D->Bool
 | []=>true
 | a::x=>a.nl && D.nls x
end
end L2
namespace L2
open PySem PySem.W PyProof.Rows L2T
noncomputable def EvOO (K : PySem.W.Frag) (G H₀ L : Hp) (ss : List Sl) (t : TE) (dss : List (List D)) : Prop:=∀ F H σ Q,Sat K G H₀ L F H σ ss ->
 (∀ p (qs : List (Addr × List D)) F' H',Ext F H F' H'->H p = none->F' p = none->H' p = some (.lst (qs.map fun q=>V.ref q.1))->(∀ q∈qs,H q.1 = none/\F' q.1 = none /\ ∃ vs,H' q.1 = some (.lst vs)/\Reps K F' q.2 vs)->(p::qs.map (·.1)).Nodup->qs.map (·.2) = dss->Q (.ref p) H')->t σ H Q
section
variable {K : PySem.W.Frag} {G H₀ L : Hp} {ss : List Sl} {i : Nat} {ta tk t1 : TE} {t : TA} {d : D} {ds : List D} {dss : List (List D)}
theorem Sat.getOO {F H : Hp} {σ : St} (S : Sat K G H₀ L F H σ ss) {p : Addr} {qs : List (Addr × List D)} (hs : ss[i]? = some (.oo p qs)) : σ[i]? = some (some (.ref p))/\H₀ p = none/\F p = none/\H p = some (.lst (qs.map fun q=>V.ref q.1)) /\ ∀ q∈qs,OwnL K H₀ F H q.1 q.2:=by
 obtain ⟨v,e,ew,r⟩:=S.get hs (by intro z; cases z)
 cases ew
 exact ⟨e,r⟩
theorem Sat.setOO {F H : Hp} {σ : St} (S : Sat K G H₀ L F H σ ss) {qs : List (Addr × List D)} {p : Addr} (h0 : H₀ p = none) (fp : F p = none) (hp : H p = some (.lst (qs.map fun q=>V.ref q.1))) (hq : ∀ q∈qs,OwnL K H₀ F H q.1 q.2) (hn : (p::qs.map (·.1)).Nodup)
  (hne : ∀ (j : Nat) s',j≠i->ss[j]? = some s' -> ∀ z∈p::qs.map (·.1),z ∉ s'.ads) : Sat K G H₀ L F H (σ.set i (some (.ref p))) (ss.set i (.oo p qs)) :=
 S.put S.ext S.fl (by simp) (fun j hj=>zbz (Ne.symm hj)) (fun hi=>by rw [zbq (by rw [S.len]; exact hi)]; exact ⟨rfl,h0,fp,hp,hq⟩) hn (fun j s' hj h q hq'=>hne j s' hj h q hq') fun j s' _ h=>S.ok j s' h
theorem zvp {E : Ends} (a : EvOO K G H₀ L ss ta dss) (h : ∀ p (qs : List (Addr × List D)),qs.map (·.2) = dss->Nx K G H₀ L E.nx (ss.set i (.oo p qs))) : Go K G H₀ L E ss (tAsg ta (zfj i)):=fun F H σ S =>
 a F H σ _ S fun p qs F' H' e hp fp hp' hq hn hm=>by
  have S':=S.ext2 e
  have live : ∀ z,H z = none -> ∀ (j : Nat) s',ss[j]? = some s'->z ∉ s'.ads:=fun z hz j s' hs hin=>(S.ok j s' hs).live hin hz
  refine h p qs hm F' H' _ (S'.setOO (S.ext.hh.free hp) fp hp' (fun q hqm=>?_) hn fun j s' _ hs z hz=>?_)
  ·obtain ⟨z1,z2,vs,z3,z4⟩:=hq q hqm
   exact ⟨S.ext.hh.free z1,z2,vs,z3,z4⟩
  ·rcases List.mem_cons.mp hz with rfl | hz
   ·exact live _ hp j s' hs
   ·obtain ⟨q,hqm,rfl⟩:=List.mem_map.mp hz
    exact live _ (hq q hqm).1 j s' hs
theorem Sat.freezeOO {F H : Hp} {σ : St} (S : Sat K G H₀ L F H σ ss) {p : Addr} {qs : List (Addr × List D)} (hs : ss[i]? = some (.oo p qs)) : ∃ F',Sat K G H₀ L F' H σ (ss.set i (.d (.lst (qs.map fun q=>.lst q.2)))):=by
 obtain ⟨e,h0,fp,hp,hq⟩:=S.getOO hs
 have hget : σ.getD i none = some (.ref p):=by rw [List.getD_eq_getElem?_getD,e]; rfl
 have off : ∀ b,b∈p::qs.map (·.1)->H₀ b = none/\F b = none:=fun b hb=>by
  rcases List.mem_cons.mp hb with rfl | hb
  ·exact ⟨h0,fp⟩
  ·obtain ⟨q,hqm,rfl⟩:=List.mem_map.mp hb
   exact ⟨(hq q hqm).1,(hq q hqm).2.1⟩
 let F' : Hp:=fun b=>if b∈p::qs.map (·.1) then H b else F b
 have fin : ∀ b,b∈p::qs.map (·.1)->F' b = H b:=fun b hb=>if_pos hb
 have fout : ∀ b,b ∉ p::qs.map (·.1)->F' b = F b:=fun b hb=>if_neg hb
 have ff : Same F F':=fun b o h=>by
  have : b ∉ p::qs.map (·.1):=fun hb=>by rw [(off b hb).2] at h; cases h
  rw [fout b this]; exact h
 have fh : Same F' H:=fun b o h=>by
  by_cases hb : b∈p::qs.map (·.1)
  ·rw [fin b hb] at h; exact h
  ·rw [fout b hb] at h; exact S.ext.fh b o h
 have ex : Ext G H₀ F' H:=⟨S.ext.gf.trans ff,fh,S.ext.hh,fun b o h=>by
  have : b ∉ p::qs.map (·.1):=fun hb=>by rw [(off b hb).1] at h; cases h
  rw [fout b this]; exact S.ext.no b o h⟩
 refine ⟨F',S.put ex (S.fl.trans ff) rfl (fun _ _=>rfl) (fun _=>?_) (by simp [Sl.ads]) (fun _ _ _ _ q hq=>by simp [Sl.ads] at hq) fun j s' hj h=>?_⟩
 ·rw [hget]
  refine ⟨_,rfl,Rep.lst (SqL.of ((fin p List.mem_cons_self).trans hp)) ?_⟩
  have key : ∀ zs : List (Addr × List D),(∀ z∈zs,z∈qs)->Reps K F' (zs.map fun q=>.lst q.2) (zs.map fun q=>V.ref q.1):=by
   intro zs
   induction zs with
   | nil=>intro _; exact Reps.nil
   | cons z zs ih =>
    intro hz
    obtain ⟨_,_,vs,hv,r⟩:=hq z (hz z List.mem_cons_self)
    exact Reps.cons (Rep.lst (SqL.of ((fin z.1 (List.mem_cons_of_mem _ (List.mem_map.mpr ⟨z,hz z List.mem_cons_self,rfl⟩))).trans hv)) (r.mono ff)) (ih fun y hy=>hz y (List.mem_cons_of_mem _ hy))
  exact key qs fun z h=>h
 ·have dis : ∀ b∈s'.ads,b ∉ p::qs.map (·.1):=fun b hb hb2=>S.ne i j _ s' (Ne.symm hj) hs h b hb2 hb
  have own : ∀ {b : Addr} {xs : List D},b∈s'.ads->OwnL K H₀ F H b xs->OwnL K H₀ F' H b xs:=fun hb ⟨a1,a2,vs,a3,a4⟩=>⟨a1,by rw [fout _ (dis _ hb)]; exact a2,vs,a3,a4.mono ff⟩
  have ok:=S.ok j s' h
  cases s' with
  | un=>trivial
  | d x=>obtain ⟨v,ev,r⟩:=ok; exact ⟨v,ev,r.mono ff⟩
  | o b xs=>exact ⟨ok.1,own (by simp [Sl.ads]) ok.2⟩
  | oo b zs =>
   obtain ⟨a1,a2,a3,a4,a5⟩:=ok
   exact ⟨a1,a2,by rw [fout b (dis b (by simp [Sl.ads]))]; exact a3,a4,fun z hz=>own (by simp [Sl.ads]; exact .inr ⟨_,hz⟩) (a5 z hz)⟩
  | g v as W =>
   obtain ⟨a1,a2,a3,a4⟩:=ok
   refine ⟨a1,fun b hb=>?_,a4 _ _ _ _ ff (fun _ _=>rfl) a3,a4⟩
   obtain ⟨b1,b2,b3⟩:=a2 b hb
   exact ⟨b1,by rw [fout b (dis b hb)]; exact b2,b3⟩
theorem znc {N : St->Hp->Prop} {p : Addr} {qs : List (Addr × List D)} (hs : ss[i]? = some (.oo p qs)) (h : Nx K G H₀ L N (ss.set i (.d (.lst (qs.map fun q=>.lst q.2))))) : Nx K G H₀ L N ss:=fun F H σ S=>by
 obtain ⟨F',S'⟩:=S.freezeOO hs
 exact h F' H σ S'
end
end L2
namespace L2
open PySem PySem.W PyProof.Rows L2T
end L2
namespace L2
open PySem PySem.W PySem.Spec PyProof.Rows
noncomputable def SpR (K : PySem.W.Frag) (pre : List D->Prop) (R : List D->List D->Prop) : Sp:=fun vs H Q _=>∃ G ds,Same G H/\Reps K G ds vs/\pre ds /\ ∀ rs,R ds rs -> ∀ p ws G' H',Ext G H G' H'->H p = none->G' p = none->H' p = some (.lst ws)->Reps K G' rs ws->Q (.ref p) H'
section
variable {K : PySem.W.Frag} {H : Hp} {vs : List V} {Q : VK} {X : XK} {N : List Str} {t : TS} {pre : List D->Prop} {R : List D->List D->Prop}
theorem yai (h : SpR K pre R vs H Q X) (hN : vs.length <= N.length) (body : ∀ G ds,pre ds->(∀ rs,R ds rs->RtO K G H Q rs)->Go K G H G { nx:=fun _ H'=>Q .non H',rt:=Q } (slots N.length ds) t) : t { nx:=fun _ H'=>Q .non H',rt:=Q } (start N vs) H:=by
 obtain ⟨G,ds,sm,r,hp,q⟩:=h
 exact body G ds hp (fun rs hR p ws F H' e h1 h2 h3 r=>q rs hR p ws F H' e h1 h2 h3 r) G H _ (zcs sm r hN)
theorem zqr {n : Nat} (hpre : ∀ ds,pre ds->ds.length = n) (h : SpR K pre R vs H Q X) : vs.length = n:=by
 obtain ⟨G,ds,sm,r,hp,q⟩:=h
 rw [<- r.length]; exact hpre ds hp
end
section
variable {K : PySem.W.Frag} {G H₀ L : Hp} {ss : List Sl} {t : TA} {ds : List D} {pre : List D->Prop} {R : List D->List D->Prop} {E : XK} {D0 : Ends}
theorem zyj {i : Nat} (a : EvAF K G H₀ L ss t ds) (hp : pre ds) (h : ∀ rs,R ds rs -> ∀ p,Nx K G H₀ L D0.nx (ss.set i (.o p rs))) : Go K G H₀ L D0 ss (tAsg (zhg (SpR K pre R) [] E t) (zfj i)):=fun F H σ S =>
 a F H σ _ S fun vs F1 H1 e1 r1=>⟨F1,ds,e1.fh,by rw [List.append_nil]; exact r1,hp,fun rs hR p ws G' H' e2 h1 h2 h3 r=>h rs hR p _ _ _ (S.newO (e1.trans e2) (e1.hh.free h1) h2 h3 r)⟩
end
end L2
namespace L2
open PySem PySem.W PySem.Spec PyProof.Rows
end L2
namespace L2
open PySem PySem.W PyProof.Rows L2T
theorem Reps.rev {K : PySem.W.Frag} {H : Hp} : ∀ {ds : List D} {xs : List V},Reps K H ds xs->Reps K H ds.reverse xs.reverse
 | [],xs,h=>by rw [Reps] at h; subst h; exact Reps.nil
 | d::ds,xs,h=>by
  rw [Reps] at h
  obtain ⟨x,xs',rfl,h1,h2⟩:=h
  rw [List.reverse_cons,List.reverse_cons]
  exact h2.rev.snoc h1
section
variable {K : PySem.W.Frag} {G H₀ L : Hp} {ss : List Sl} {ta tb t : TE}
theorem zx7 {i j : Int} (a : EvB K G H₀ L ss ta (.int i)) (b : EvB K G H₀ L ss tb (.int j)) : Ev K G H₀ L ss (tCB (fun xs H Q=>∃ i j,xs = [.int i,.int j]/\Q (.int (if j > i then j else i)) H) (zbh ta (zbh tb tNil))) (.int (if j > i then j else i)):=fun F H σ Q S q =>
 a F H σ _ S fun v F1 H1 e1 r1=>b F1 H1 σ _ (S.ext2 e1) fun v2 F2 H2 e2 r2=>by
  rw [r1.of_int,r2.of_int]
  exact ⟨i,j,rfl,q _ F2 H2 (e1.trans e2) Rep.int⟩
theorem zwy {i j : Int} (a : EvB K G H₀ L ss ta (.int i)) (b : EvB K G H₀ L ss tb (.int j)) : Ev K G H₀ L ss (tCB (fun xs H Q=>∃ i j,xs = [.int i,.int j]/\Q (.int (if j < i then j else i)) H) (zbh ta (zbh tb tNil))) (.int (if j < i then j else i)):=fun F H σ Q S q =>
 a F H σ _ S fun v F1 H1 e1 r1=>b F1 H1 σ _ (S.ext2 e1) fun v2 F2 H2 e2 r2=>by
  rw [r1.of_int,r2.of_int]
  exact ⟨i,j,rfl,q _ F2 H2 (e1.trans e2) Rep.int⟩
theorem zyz {i j : Int} (a : EvB K G H₀ L ss ta (.int i)) (b : EvB K G H₀ L ss tb (.int j)) : Ev K G H₀ L ss (tOp (rI0 fun i j=>.bl (decide (j < i))) ta tb) (.bl (decide (j < i))):=zmq (g:=fun i j=>decide (j < i)) a b
theorem znf {ds : List D} (a : EvL K G H₀ L ss t ds) : EvO K G H₀ L ss (zor K (zbh t tNil)) ds.reverse:=fun F H σ Q S q =>
 a F H σ _ S fun p vs F' H' e sq r=>⟨p,vs,rfl,sq,fun l hl=>q l vs.reverse F' _ (e.newO hl) (e.hh.free hl) (e.fh.free hl) zae r.rev⟩
end
end L2
namespace L2
open PySem PySem.W PySem.Spec PyProof.Rows
noncomputable def SpRD (K : PySem.W.Frag) (pre : List D->Prop) (R : List D->D->Prop) : Sp:=fun vs H Q _=>∃ G ds,Same G H/\Reps K G ds vs/\pre ds /\ ∀ r,R ds r -> ∀ v G' H',Ext G H G' H'->Rep K G' r v->Q v H'
section
variable {K : PySem.W.Frag} {H : Hp} {vs : List V} {Q : VK} {X : XK} {N : List Str} {t : TS} {pre : List D->Prop} {R : List D->D->Prop}
theorem zmv (h : SpRD K pre R vs H Q X) (hN : vs.length <= N.length) (body : ∀ G ds,pre ds->(∀ r,R ds r->RtD K G H Q r)->Go K G H G { nx:=fun _ H'=>Q .non H',rt:=Q } (slots N.length ds) t) : t { nx:=fun _ H'=>Q .non H',rt:=Q } (start N vs) H:=by
 obtain ⟨G,ds,sm,r,hp,q⟩:=h
 exact body G ds hp (fun rs hR v F H' e r=>q rs hR v F H' e r) G H _ (zcs sm r hN)
theorem zes {n : Nat} (hpre : ∀ ds,pre ds->ds.length = n) (h : SpRD K pre R vs H Q X) : vs.length = n:=by
 obtain ⟨G,ds,sm,r,hp,q⟩:=h
 rw [<- r.length]; exact hpre ds hp
end
section
variable {K : PySem.W.Frag} {G H₀ L : Hp} {ss : List Sl} {t : TA} {ds : List D} {pre : List D->Prop} {R : List D->D->Prop} {E : XK} {D0 : Ends} {ta tb te : TE} {i j : Int}
theorem zn1 {g : TG} (a : EvAF K G H₀ L ss t ds) (hp : pre ds) (h : ∀ r,R ds r -> ∃ ss',Tg K G H₀ L g r ss ss'/\Nx K G H₀ L D0.nx ss') : Go K G H₀ L D0 ss (tAsg (zhg (SpRD K pre R) [] E t) g):=fun F H σ S =>
 a F H σ _ S fun vs F1 H1 e1 r1=>⟨F1,ds,e1.fh,by rw [List.append_nil]; exact r1,hp,fun r hR v G' H' e2 rr=>by
  obtain ⟨ss',tg,nx⟩:=h r hR
  exact tg _ H' σ _ _ (S.ext2 (e1.trans e2)) rr fun σ' S'=>nx _ H' σ' S'⟩
theorem zwk (a : EvB K G H₀ L ss te (.int i)) : Ev K G H₀ L ss (tUn (rU fun i=>.int (-i)) te) (.int (-i)):=fun F H σ Q S q =>
 a F H σ _ S fun v F1 H1 e1 r1=>⟨i,by rw [r1.of_int],q _ _ _ e1 Rep.int⟩
end
end L2
namespace L2
open PySem PySem.W PySem.Spec PyProof.Rows PySem.Builtin PySem.Builtin.Str PySem.StrLaws
end L2
namespace L2
open PySem PySem.W PySem.Spec PyProof.Rows PySem.Builtin PySem.Builtin.Str
end L2
namespace L2
open PySem PySem.W PySem.Spec PyProof.Rows
noncomputable def SpG {α : Type} (K : PySem.W.Frag) (pre : α->List D->Prop) (res : α->D) : Sp:=fun vs H Q _=>∃ (G : Hp) (ds : List D) (x : α),Same G H/\Reps K G ds vs/\pre x ds /\ ∀ v G' H',Ext G H G' H'->Rep K G' (res x) v->Q v H'
section
variable {α : Type} {K : PySem.W.Frag} {H : Hp} {vs : List V} {Q : VK} {X : XK} {N : List Str} {t : TS} {pre : α->List D->Prop} {res : α->D}
theorem yam (h : SpG K pre res vs H Q X) (hN : vs.length <= N.length) (body : ∀ G ds x,pre x ds->RtD K G H Q (res x)->Go K G H G { nx:=fun _ H'=>Q .non H',rt:=Q } (slots N.length ds) t) : t { nx:=fun _ H'=>Q .non H',rt:=Q } (start N vs) H:=by
 obtain ⟨G,ds,x,sm,r,hp,q⟩:=h
 exact body G ds x hp (fun v F H' e r=>q v F H' e r) G H _ (zcs sm r hN)
theorem zrx {n : Nat} (hpre : ∀ x ds,pre x ds->ds.length = n) (h : SpG K pre res vs H Q X) : vs.length = n:=by
 obtain ⟨G,ds,x,sm,r,hp,q⟩:=h
 rw [<- r.length]; exact hpre x ds hp
end
section
variable {α : Type} {K : PySem.W.Frag} {G H₀ L : Hp} {ss : List Sl} {ta tb tc te : TE} {t : TA} {ds : List D} {E : XK} {pre : α->List D->Prop} {res : α->D}
theorem zum (x : α) (a : EvAF K G H₀ L ss t ds) (hp : pre x ds) : Ev K G H₀ L ss (zhg (SpG K pre res) [] E t) (res x):=fun F H σ Q S q =>
 a F H σ _ S fun vs F1 H1 e1 r1=>⟨F1,ds,x,e1.fh,by rw [List.append_nil]; exact r1,hp,fun v G' H' e2 r=>q _ _ _ (e1.trans e2) r⟩
theorem zyg {b : Bool} (a : EvB K G H₀ L ss te (.bl b)) : Ev K G H₀ L ss (tCB (fun xs H Q=>(∃ i,xs = [.int i]/\Q (.int i) H) \/ ∃ k : Bool,xs = [.bl k]/\Q (.int (if k then 1 else 0)) H) (zbh te tNil)) (.int (if b then 1 else 0)):=fun F H σ Q S q =>
 a F H σ _ S fun v F1 H1 e1 r1=>.inr ⟨b,by rw [r1.of_bl],q _ _ _ e1 Rep.int⟩
end
end L2
namespace L2
open PySem PySem.W PySem.Spec PyProof.Rows
noncomputable def D.isK : D->Bool
 | .int _=>true | .str _=>true | _=>false
noncomputable def D.key : D->Key
 | .int i=>.inl i | .str l=>.inr (T l) | _=>.inl 0
theorem ziz {a b : D} (ha : a.isK = true) (hb : b.isK = true) (h : a.key = b.key) : a = b:=by
 cases a <;> cases b <;> simp [D.isK,D.key] at * <;> first | exact h | exact zrp.mp h
theorem zdw {K : PySem.W.Frag} {H : Hp} {d : D} {v : V} (hk : d.isK = true) (r : Rep K H d v) : v = kV d.key:=by
 cases d <;> simp [D.isK] at hk
 ·exact r.of_int
 ·exact r.of_str
noncomputable abbrev DD:=List (D × D)
noncomputable def valD (kvs : DD) (k : D) : Option D:=(kvs.find? fun kv=>decide (kv.1 = k)).map (·.2)
noncomputable def putD (kvs : DD) (k d : D) : DD:=if (kvs.any fun kv=>decide (kv.1 = k)) = true then kvs.map (fun kv=>if kv.1 = k then (kv.1,d) else kv) else kvs++[(k,d)]
inductive Dks (K : PySem.W.Frag) (F : Hp) : DD->List (Key × V)->Prop
 | nil : Dks K F [] []
 | cons {k d : D} {v : V} {kvs : DD} {xs : List (Key × V)} (hk : k.isK = true) (hr : Rep K F k (kV k.key)) (r : Rep K F d v) (t : Dks K F kvs xs) : Dks K F ((k,d)::kvs) ((k.key,v)::xs)
section
variable {K : PySem.W.Frag} {F F' : Hp} {kvs : DD} {xs : List (Key × V)}
theorem Dks.mono (h : Dks K F kvs xs) (s : Same F F') : Dks K F' kvs xs:=by
 induction h with
 | nil=>exact .nil
 | cons hk hr r t ih=>exact .cons hk (hr.mono s) (r.mono s) ih
theorem Dks.length (h : Dks K F kvs xs) : kvs.length = xs.length:=by
 induction h with
 | nil=>rfl
 | cons hk hr r t ih=>simp [ih]
theorem zux {k : D} (hk : k.isK = true) : k.flat = true:=by cases k <;> simp [D.isK] at hk <;> rfl
theorem zl5 {K : PySem.W.Frag} {H F : Hp} {k : D} {v : V} (hk : k.isK = true) (r : Rep K H k v) : Rep K F k (kV k.key):=by
 rw [<- zdw hk r]; exact r.flat (zux hk)
theorem Dks.val (h : Dks K F kvs xs) {k : D} (hk : k.isK = true) : (valD kvs k = none/\valV xs k.key = none) \/ ∃ d v,valD kvs k = some d/\valV xs k.key = some v/\Rep K F d v:=by
 induction h with
 | nil=>exact .inl ⟨rfl,rfl⟩
 | @cons k' d v kvs xs hk' hr' r t ih =>
  by_cases e : k' = k
  ·subst e
   exact .inr ⟨d,v,by simp [valD],by simp [valV],r⟩
  ·have e2 : k'.key≠k.key:=fun z=>e (ziz hk' hk z)
   have h1 : valD ((k',d)::kvs) k = valD kvs k:=by simp [valD,List.find?_cons,e]
   have h2 : valV ((k'.key,v)::xs) k.key = valV xs k.key:=by simp [valV,List.find?_cons,e2]
   rw [h1,h2]; exact ih
theorem Dks.any (h : Dks K F kvs xs) {k : D} (hk : k.isK = true) : (kvs.any fun kv=>decide (kv.1 = k)) = xs.any fun kv=>decide (kv.1 = k.key):=by
 induction h with
 | nil=>rfl
 | @cons k' d v kvs xs hk' hr' r t ih =>
  rw [List.any_cons,List.any_cons,ih]
  congr 1
  by_cases e : k' = k
  ·subst e; simp
  ·have e2 : k'.key≠k.key:=fun z=>e (ziz hk' hk z)
   rw [decide_eq_false e,decide_eq_false e2]
theorem Dks.snoc (h : Dks K F kvs xs) {k d : D} {v : V} (hk : k.isK = true) (hr : Rep K F k (kV k.key)) (r : Rep K F d v) : Dks K F (kvs++[(k,d)]) (xs++[(k.key,v)]):=by
 induction h with
 | nil=>exact .cons hk hr r .nil
 | cons hk' hr' r' t ih=>exact .cons hk' hr' r' ih
theorem Dks.put (h : Dks K F kvs xs) {k d : D} {v : V} (hk : k.isK = true) (hr : Rep K F k (kV k.key)) (r : Rep K F d v) : Dks K F (putD kvs k d) (putK xs k.key v):=by
 unfold putD putK
 rw [h.any hk]
 by_cases hc : (xs.any fun kv=>decide (kv.1 = k.key)) = true
 ·rw [if_pos hc,if_pos hc]
  clear hc
  induction h with
  | nil=>exact .nil
  | @cons k' d' v' kvs xs hk' hr' r' t ih =>
   rw [List.map_cons,List.map_cons]
   by_cases e : k' = k
   ·subst e; rw [if_pos rfl,if_pos rfl]; exact .cons hk' hr' r ih
   ·have e2 : k'.key≠k.key:=fun z=>e (ziz hk' hk z)
    rw [if_neg e,if_neg e2]; exact .cons hk' hr' r' ih
 ·rw [if_neg hc,if_neg hc]; exact h.snoc hk hr r
end
noncomputable def dW (K : PySem.W.Frag) (p : Addr) (kvs : DD) : Hp->Hp->Prop:=fun F H=>∃ xs,H p = some (.dK xs)/\Dks K F kvs xs
noncomputable def dsl (K : PySem.W.Frag) (p : Addr) (kvs : DD) : Sl:=.g (.ref p) [p] (dW K p kvs)
theorem ziy (K : PySem.W.Frag) (p : Addr) (kvs : DD) : Stab [p] (dW K p kvs):=fun F1 H1 F2 H2 sf hh ⟨xs,h1,h2⟩=>⟨xs,by rw [hh p (by simp)]; exact h1,h2.mono sf⟩
section
variable {K : PySem.W.Frag} {G H₀ L : Hp} {ss : List Sl} {i : Nat} {p : Addr} {kvs : DD} {E : Ends} {ty td tv tx : TE} {k d z : D}
theorem Sat.getM {F H : Hp} {σ : St} (S : Sat K G H₀ L F H σ ss) (hs : ss[i]? = some (dsl K p kvs)) : σ[i]? = some (some (.ref p))/\H₀ p = none/\F p = none /\ ∃ xs,H p = some (.dK xs)/\Dks K F kvs xs:=by
 obtain ⟨v,e,ew,ha,hw,st⟩:=S.get hs (by intro z; cases z)
 cases ew
 obtain ⟨h0,fp,_⟩:=ha p (by simp)
 exact ⟨e,h0,fp,hw⟩
theorem Sat.writeM {F H : Hp} {σ : St} {kvs' : DD} {xs : List (Key × V)} (S : Sat K G H₀ L F H σ ss) (hs : ss[i]? = some (dsl K p kvs)) (r : Dks K F kvs' xs) : Sat K G H₀ L F (upd H p (.dK xs)) σ (ss.set i (dsl K p kvs')):=by
 obtain ⟨e,h0,fp,ys,hp,_⟩:=S.getM hs
 have hget : σ.getD i none = some (.ref p):=by rw [List.getD_eq_getElem?_getD,e]; rfl
 refine S.put (S.ext.write fp h0) S.fl rfl (fun _ _=>rfl) (fun _=>?_) (by simp [dsl,Sl.ads]) (fun j s' hj h q hq=>?_) fun j s' hj h=>(S.ok j s' h).updNe (S.ne i j _ s' (Ne.symm hj) hs h p (by simp [dsl,Sl.ads]))
 ·rw [hget]
  exact ⟨rfl,fun a ha=>by rw [List.mem_singleton.mp ha]; exact ⟨h0,fp,_,zae⟩,⟨xs,zae,r⟩,ziy K p kvs'⟩
 ·have : q = p:=by simpa [dsl,Sl.ads] using hq
  subst this
  exact S.ne i j _ s' (Ne.symm hj) hs h q (by simp [dsl,Sl.ads])
theorem zl7 (h : ∀ p,Nx K G H₀ L E.nx (ss.set i (dsl K p []))) : Go K G H₀ L E ss (tAsg zte (zfj i)):=fun F H σ S p hp=>by
 have e:=(Ext.refl S.ext.fh).newO (o:=.dK []) hp
 have S':=S.ext2 e
 refine h p F _ _ (S'.put S'.ext S'.fl (by simp) (fun j hj=>zbz (Ne.symm hj)) (fun hi=>?_) (by simp [dsl,Sl.ads]) (fun j s' hj hs q hq=>?_) fun j s' hj hs=>S'.ok j s' hs)
 ·rw [zbq (by rw [S.len]; exact hi)]
  exact ⟨rfl,fun a ha=>by rw [List.mem_singleton.mp ha]; exact ⟨S.ext.hh.free hp,S.ext.fh.free hp,_,zae⟩,⟨[],zae,.nil⟩,ziy K p []⟩
 ·have : q = p:=by simpa [dsl,Sl.ads] using hq
  subst this
  exact fun hin=>(S.ok j s' hs).live hin hp
theorem zd8 (hs : ss[i]? = some (dsl K p kvs)) (b : EvB K G H₀ L ss ty k) (hk : k.isK = true) (hv : valD kvs k = some d) : Ev K G H₀ L ss (zw2 (tVar i) ty) d:=fun F H σ Q S q=>by
 obtain ⟨e,_⟩:=S.getM hs
 refine ⟨_,e,b F H σ _ S fun v F1 H1 e1 r1=>?_⟩
 obtain ⟨_,_,_,xs,hp,dk⟩:=(S.ext2 e1).getM hs
 rcases dk.val hk with ⟨h1,_⟩ | ⟨d',w,h1,h2,rw'⟩
 ·rw [h1] at hv; cases hv
 ·rw [h1] at hv; cases hv
  refine ⟨p,w,rfl,?_,q w F1 H1 e1 rw'⟩
  rw [zdw hk r1,<- h2]
  exact DGet.k hp
theorem zpy (hs : ss[i]? = some (dsl K p kvs)) (b : EvB K G H₀ L ss ty k) (hk : k.isK = true) : Ev K G H₀ L ss (zl9 ty (tVar i)) (.bl (!(valD kvs k).isSome)):=fun F H σ Q S q =>
 b F H σ _ S fun v F1 H1 e1 r1=>by
  obtain ⟨e,_,_,xs,hp,dk⟩:=(S.ext2 e1).getM hs
  refine ⟨_,e,p,valV xs k.key,rfl,by rw [zdw hk r1]; exact DGet.k hp,q _ F1 H1 e1 ?_⟩
  have : (valV xs k.key).isSome = (valD kvs k).isSome:=by
   rcases dk.val hk with ⟨h1,h2⟩ | ⟨d',w,h1,h2,_⟩ <;> rw [h1,h2] <;> rfl
  rw [this]; exact Rep.bl
theorem zfa (hs : ss[i]? = some (dsl K p kvs)) (a : Ev K G H₀ L ss tv d) (b : EvB K G H₀ L ss ty k) (hk : k.isK = true) (hz : kvs.length < sizeLine) (h : Nx K G H₀ L E.nx (ss.set i (dsl K p (putD kvs k d)))) : Go K G H₀ L E ss (zzc (tVar i) ty tv):=fun F H σ S =>
 a F H σ _ S fun v F1 H1 e1 r1=>by
  have S1:=S.ext2 e1
  obtain ⟨e,_⟩:=S1.getM hs
  refine ⟨_,e,b F1 H1 σ _ S1 fun w F2 H2 e2 r2=>?_⟩
  have S2:=S1.ext2 e2
  obtain ⟨_,_,_,xs,hp,dk⟩:=S2.getM hs
  refine ⟨p,_,rfl,by rw [zdw hk r2]; exact DPut.k (v:=v) hp (by rw [<- dk.length]; exact hz),h F2 _ σ (S2.writeM hs (dk.put hk (zl5 hk r2) (r1.mono e2.gf)))⟩
end
end L2
namespace L2
open PySem PySem.Spec PyProof.Rows
section
variable {X : Cx}
noncomputable def zrr : V->List V->Hp->VK->Prop:=fun x vs H Q=>∃ a kvs k z,x = .ref a/\vs = [kV k,z]/\H a = some (.dK kvs)/\kvs.length < sizeLine/\(∀ v,valV kvs k = some v->Q v H)/\(valV kvs k = none->Q z (upd H a (.dK (putK kvs k z))))
theorem zd4 : MtR X "dict.setdefault" zrr:=by
 intro pins s σ H x xs v us Q I rx rs h
 obtain ⟨a,kvs,k,z,rfl,rfl,e,hl,q1,q2⟩:=h
 obtain rfl : v = Value.ref a:=rx
 obtain ⟨u1,u2,rfl,ry,rz⟩:=zh1 rs
 obtain ⟨hz,hd,vs,rel,dd⟩:=zmo I.hok e
 have hzz : vs.length <= sizeLine:=by rw [<- rel.length]; exact hz
 refine call_meetsIn PySem.F.slot_dict_setdefault dd.typeIs PySem.F.entry_dict_setdefault (PySem.F.args_dict_setdefault_3 _ _ _) (kt_meets_setdefault (zal X.prog X.w) a (zm3 ry) hd u2) ⟨vs,dd,hzz,fun v' hv=>?_,fun hn h' dd' hs=>?_⟩
 ·have r:=rel.val k
  rw [hv] at r
  cases hk : valV kvs k with
  | none=>rw [hk] at r; exact r.elim
  | some w'=>rw [hk] at r; exact ⟨w',H,I.tok _,r,q1 w' hk⟩
 ·have hk : valV kvs k = none:=by
   have r:=rel.val k
   rw [hn] at r
   cases hk : valV kvs k with
   | none=>rfl
   | some w'=>rw [hk] at r; exact r.elim
  have hl2 : (putK kvs k z).length <= sizeLine:=by have:=zd5 kvs k z; lia
  have he : ∃ q,h'.get? a = some q:=let ⟨q,_,_,hq,_⟩:=dd'; ⟨q,hq⟩
  exact ⟨z,_,zj6 I (by rw [e]; exact True.intro) hs he (zs8 hl2 hd (rel.put k rz) dd'),rz,q2 hk⟩
noncomputable def zub (r d : Addr) : HO:=.ext fun h=>h.IsValuesView r d
noncomputable def zqp : V->List V->Hp->VK->Prop:=fun x vs H Q=>∃ d kvs,x = .ref d/\vs = []/\H d = some (.dK kvs) /\ ∀ r,H r = none->Q (.ref r) (upd H r (zub r d))
theorem zp8 : MtR X "dict.values" zqp:=by
 intro pins s σ H x xs v us Q I rx rs h
 obtain ⟨d,kvs,rfl,rfl,e,q⟩:=h
 obtain rfl : v = Value.ref d:=rx
 cases rs
 obtain ⟨hz,hd,vs,rel,dd⟩:=zmo I.hok e
 refine call_meetsIn PySem.F.slot_dict_values dd.typeIs PySem.F.entry_dict_values (PySem.F.args_dict_values_1 _) (meets_dict_values (zal X.prog X.w) d hd) ⟨⟨vs,dd⟩,?_⟩
 have I2 : Inv X pins σ (upd H s.heap.objs.size (zub s.heap.objs.size d)) { s with heap:=s.heap.push { cls:=.type "dict_values", data:=.fields #[.ref d] } } :=
  I.laid (t':=s.toks) (fun _ _ q=>Heap.get?_push_of_some _ q) (Nat.le_refl _) ⟨⟨_,Heap.get?_push_size _ rfl,rfl,rfl⟩,⟨_,Heap.get?_push_size _ rfl⟩,fun h1 h2 ⟨o,ho,r⟩ k=>⟨o,k _ ho,r⟩⟩
 exact ⟨.ref s.heap.objs.size,_,I2,rfl,q _ I.fresh⟩
theorem KV.snds {κ : Type} [DecidableEq κ] {kvs : List (κ × V)} {vs : List (κ × Value)} (r : KV kvs vs) : Vals (kvs.map (·.2)) (vs.map (·.2)):=by
 induction r with
 | nil=>exact .nil
 | cons h t ih=>exact .cons h.2 ih
theorem zh4 (hc : X.calm = true) : zcg X (.type "list") (fun xs H Q=>∃ r d kvs,xs = [.ref r]/\H r = some (zub r d)/\H d = some (.dK kvs) /\ ∀ l,H l = none->Q (.ref l) (upd H l (.lst (kvs.map (·.2))))):=by
 intro pins s σ H xs us Q I rs h
 obtain ⟨r,d,kvs,rfl,hr,e,q⟩:=h
 obtain ⟨u,rfl,ru⟩:=zf8 rs
 cases ru
 obtain ⟨hz,hd,vs,rel,dd⟩:=zmo I.hok e
 obtain ⟨ep,da⟩:=dd.dictAt
 obtain ⟨hv,_,_⟩:=I.hok r _ hr
 have hzz : vs.length <= sizeLine:=by rw [<- rel.length]; exact hz
 refine PySem.W.kdl_call (PySem.W.kdl_values (kvs:=vs) (d:=d) (r:=r) (ep:=ep)) (I.ok.hd hc) ⟨hv,da⟩ hzz fun h' tk acc c' hk hD hacc=>?_
 have hacc2 : acc.toList = vs.map (·.2):=PySem.W.kdl_vals_eq acc.toList (by rw [Array.length_toList]; exact hacc.1) fun j v hj=>hacc.2 j v (by rw [<- Array.getElem?_toList]; exact hj)
 have hval : Vals (kvs.map (·.2)) acc.toList:=by rw [hacc2]; exact rel.snds
 exact ⟨.ref s.heap.objs.size,_,I.laid hk (Nat.le_refl _) (show zce X.prog X.w _ _ _ (.lst _) from ⟨by rw [List.length_map]; exact hz,acc.toList,c',hval,by simpa using hD⟩),rfl,q _ I.fresh⟩
end
end L2
namespace L2
open PySem PySem.W PySem.Spec PyProof.Rows
noncomputable abbrev KQ:=List (D × Addr × List D)
noncomputable def dat (q : D × Addr × List D) : D × List D:=(q.1,q.2.2)
noncomputable def raw (q : D × Addr × List D) : Key × V:=(q.1.key,.ref q.2.1)
noncomputable def appD : List (D × List D)->D->D->List (D × List D)
 | [],k,d=>[(k,[d])]
 | kv::r,k,d=>if kv.1 = k then (kv.1,kv.2++[d])::r else kv::appD r k d
theorem ztm {kqs : KQ} {k : D} (hk : k.isK = true) (hks : ∀ q∈kqs,q.1.isK = true) : (valV (kqs.map raw) k.key = none /\ ∀ d,appD (kqs.map dat) k d = kqs.map dat++[(k,[d])]) \/
  ∃ j a ds,kqs[j]? = some (k,a,ds)/\valV (kqs.map raw) k.key = some (.ref a) /\ ∀ d,(kqs.set j (k,a,ds++[d])).map dat = appD (kqs.map dat) k d:=by
 induction kqs with
 | nil=>exact .inl ⟨rfl,fun _=>rfl⟩
 | cons q r ih =>
  obtain ⟨k',a',ds'⟩:=q
  by_cases e : k' = k
  ·subst e
   refine .inr ⟨0,a',ds',rfl,by simp [valV,raw],fun d=>?_⟩
   show (k',ds'++[d])::r.map dat = appD ((k',ds')::r.map dat) k' d
   rw [appD,if_pos rfl]
  ·have e2 : k'.key≠k.key:=fun z=>e (ziz (hks _ List.mem_cons_self) hk z)
   have hv : valV (((k',a',ds')::r).map raw) k.key = valV (r.map raw) k.key:=by simp [valV,raw,List.find?_cons,e2]
   have ha : ∀ d,appD (((k',a',ds')::r).map dat) k d = (k',ds')::appD (r.map dat) k d:=fun d=>by
    show appD ((k',ds')::r.map dat) k d = _
    rw [appD,if_neg e]
   rw [hv]
   rcases ih fun q hq=>hks q (List.mem_cons_of_mem _ hq) with ⟨h1,h2⟩ | ⟨j,a,ds,h1,h2,h3⟩
   ·exact .inl ⟨h1,fun d=>by rw [ha,h2]; rfl⟩
   ·refine .inr ⟨j + 1,a,ds,h1,h2,fun d=>?_⟩
    rw [ha,<- h3]; rfl
noncomputable def lW (K : PySem.W.Frag) (p : Addr) (kqs : KQ) : Hp->Hp->Prop:=fun F H=>H p = some (.dK (kqs.map raw)) /\ ∀ q∈kqs,q.1.isK = true/\Rep K F q.1 (kV q.1.key) /\ ∃ vs,H q.2.1 = some (.lst vs)/\Reps K F q.2.2 vs
noncomputable def dls (K : PySem.W.Frag) (p : Addr) (kqs : KQ) : Sl:=.g (.ref p) (p::kqs.map (·.2.1)) (lW K p kqs)
theorem zm7 (K : PySem.W.Frag) (p : Addr) (kqs : KQ) : Stab (p::kqs.map (·.2.1)) (lW K p kqs):=fun F1 H1 F2 H2 sf hh ⟨h1,h2⟩ =>
 ⟨by rw [hh p (by simp)]; exact h1,fun q hq=>by
  obtain ⟨a,kr,vs,b,c⟩:=h2 q hq
  exact ⟨a,kr.mono sf,vs,by rw [hh q.2.1 (List.mem_cons_of_mem _ (List.mem_map_of_mem hq))]; exact b,c.mono sf⟩⟩
section
variable {K : PySem.W.Frag} {G H₀ L : Hp} {ss : List Sl} {i : Nat} {p : Addr} {kqs : KQ} {E : Ends} {tk tv : TE} {k d : D}
theorem Sat.getL {F H : Hp} {σ : St} (S : Sat K G H₀ L F H σ ss) (hs : ss[i]? = some (dls K p kqs)) : σ[i]? = some (some (.ref p))/\(∀ a∈p::kqs.map (·.2.1),H₀ a = none/\F a = none)/\lW K p kqs F H:=by
 obtain ⟨v,e,ew,ha,hw,st⟩:=S.get hs (by intro z; cases z)
 cases ew
 exact ⟨e,fun a h=>⟨(ha a h).1,(ha a h).2.1⟩,hw⟩
theorem zoc (h : ∀ p,Nx K G H₀ L E.nx (ss.set i (dls K p []))) : Go K G H₀ L E ss (tAsg zte (zfj i)):=fun F H σ S p hp=>by
 have e:=(Ext.refl S.ext.fh).newO (o:=.dK []) hp
 have S':=S.ext2 e
 refine h p F _ _ (S'.put S'.ext S'.fl (by simp) (fun j hj=>zbz (Ne.symm hj)) (fun hi=>?_) (by simp [dls,Sl.ads]) (fun j s' hj hs q hq=>?_) fun j s' hj hs=>S'.ok j s' hs)
 ·rw [zbq (by rw [S.len]; exact hi)]
  exact ⟨rfl,fun a ha=>by rw [List.mem_singleton.mp ha]; exact ⟨S.ext.hh.free hp,S.ext.fh.free hp,_,zae⟩,⟨zae,fun _ h=>by cases h⟩,zm7 K p []⟩
 ·have : q = p:=by simpa [dls,Sl.ads] using hq
  subst this
  exact fun hin=>(S.ok j s' hs).live hin hp
theorem zuw {α : Type} {xs : List α} {i : Nat} {x : α} (h : xs[i]? = some x) : xs.set i x = xs:=by
 refine List.ext_getElem? fun n=>?_
 by_cases hn : i = n
 ·subst hn; rw [List.getElem?_set_self (List.getElem?_eq_some_iff.mp h).1,h]
 ·rw [List.getElem?_set_ne hn]
theorem Sat.appL {F H : Hp} {σ : St} (S : Sat K G H₀ L F H σ ss) {j : Nat} {a : Addr} {ds es : List D} {vs : List V} (hs : ss[i]? = some (dls K p kqs)) (hj : kqs[j]? = some (k,a,ds)) (r : Reps K F es vs) :
  Sat K G H₀ L F (upd H a (.lst vs)) σ (ss.set i (dls K p (kqs.set j (k,a,es)))):=by
 obtain ⟨e,hoff,hp,hq⟩:=S.getL hs
 have hget : σ.getD i none = some (.ref p):=by rw [List.getD_eq_getElem?_getD,e]; rfl
 have hnd : (p::kqs.map (·.2.1)).Nodup:=S.nd i _ hs
 have hm:=List.mem_of_getElem? hj
 have ham : a∈p::kqs.map (·.2.1):=List.mem_cons_of_mem _ (List.mem_map.mpr ⟨_,hm,rfl⟩)
 obtain ⟨a0,af⟩:=hoff a ham
 have hpa : p≠a:=fun z=>(List.nodup_cons.mp hnd).1 (z ▸ List.mem_map.mpr ⟨_,hm,rfl⟩)
 have mset : ∀ {β : Type} (f : D × Addr × List D->β),f (k,a,es) = f (k,a,ds)->(kqs.set j (k,a,es)).map f = kqs.map f:=fun {β} f hf=>by
  rw [List.map_set]
  refine List.ext_getElem? fun n=>?_
  by_cases hn : j = n
  ·subst hn
   rw [List.getElem?_set_self (by rw [List.length_map]; exact (List.getElem?_eq_some_iff.mp hj).1),List.getElem?_map,hj,hf]; rfl
  ·rw [List.getElem?_set_ne hn]
 have hads : (dls K p (kqs.set j (k,a,es))).ads = p::kqs.map (·.2.1):=by show p::(kqs.set j (k,a,es)).map (·.2.1) = _; rw [mset (·.2.1) rfl]
 have hdup : ∀ n z,kqs[n]? = some z->n≠j->z.2.1≠a:=fun n z hn hnj hz=>by
  have h2 : (kqs.map (·.2.1)).Nodup:=(List.nodup_cons.mp hnd).2
  unfold List.Nodup at h2
  rw [List.pairwise_iff_getElem] at h2
  have hnl:=(List.getElem?_eq_some_iff.mp hn)
  have hjl:=(List.getElem?_eq_some_iff.mp hj)
  have e1 : (kqs.map (·.2.1))[n]'(by simpa using hnl.1) = a:=by rw [List.getElem_map,hnl.2]; exact hz
  have e2 : (kqs.map (·.2.1))[j]'(by simpa using hjl.1) = a:=by rw [List.getElem_map,hjl.2]
  rcases Nat.lt_or_ge n j with c | c
  ·exact h2 n j (by simpa using hnl.1) (by simpa using hjl.1) c (e1.trans e2.symm)
  ·exact h2 j n (by simpa using hjl.1) (by simpa using hnl.1) (by lia) (e2.trans e1.symm)
 refine S.put (S.ext.write af a0) S.fl rfl (fun _ _=>rfl) (fun _=>?_) (by rw [hads]; exact hnd) (fun n s' hn h z hz=>?_) fun n s' hn h=>(S.ok n s' h).updNe (S.ne i n _ s' (Ne.symm hn) hs h a ham)
 ·rw [hget]
  refine ⟨rfl,fun b hb=>?_,⟨by rw [zaf hpa,mset raw rfl]; exact hp,fun z hz=>?_⟩,zm7 _ _ _⟩
  ·have hb : b∈p::(kqs.set j (k,a,es)).map (·.2.1):=hb
   rw [mset (·.2.1) rfl] at hb
   obtain ⟨b0,bf⟩:=hoff b hb
   refine ⟨b0,bf,?_⟩
   by_cases hba : b = a
   ·subst hba; exact ⟨_,zae⟩
   ·rw [zaf hba]
    have:=(S.ok i _ hs).live (p:=b) hb
    cases hx : H b with
    | none=>exact absurd hx this
    | some o=>exact ⟨o,rfl⟩
  ·obtain ⟨n,hn⟩:=List.mem_iff_getElem?.mp hz
   by_cases hnj : j = n
   ·subst hnj
    rw [List.getElem?_set_self (List.getElem?_eq_some_iff.mp hj).1] at hn
    cases hn
    exact ⟨(hq _ hm).1,(hq _ hm).2.1,vs,zae,r⟩
   ·rw [List.getElem?_set_ne hnj] at hn
    obtain ⟨z1,kr,ws,z2,z3⟩:=hq z (List.mem_of_getElem? hn)
    exact ⟨z1,kr,ws,by rw [zaf (hdup n z hn (Ne.symm hnj))]; exact z2,z3⟩
 ·have hz : z∈(dls K p (kqs.set j (k,a,es))).ads:=hz
  rw [hads] at hz
  exact S.ne i n _ s' (Ne.symm hn) hs h z hz
theorem Sat.keyL {F H : Hp} {σ : St} (S : Sat K G H₀ L F H σ ss) {l : Addr} (hs : ss[i]? = some (dls K p kqs)) (hk : k.isK = true) (kr : Rep K F k (kV k.key)) (hl : H l = none) :
  Sat K G H₀ L F (upd (upd H l (.lst [])) p (.dK ((kqs++[(k,l,[])]).map raw))) σ (ss.set i (dls K p (kqs++[(k,l,[])]))):=by
 have S2:=S.ext2 ((Ext.refl S.ext.fh).newO (o:=.lst []) hl)
 obtain ⟨e,hoff,hp,hq⟩:=S2.getL hs
 have hget : σ.getD i none = some (.ref p):=by rw [List.getD_eq_getElem?_getD,e]; rfl
 have hnd : (p::kqs.map (·.2.1)).Nodup:=S.nd i _ hs
 obtain ⟨p0,pf⟩:=hoff p List.mem_cons_self
 have hnl : ∀ b∈p::kqs.map (·.2.1),b≠l:=fun b hb z=>(S.ok i _ hs).live (p:=b) hb (z ▸ hl)
 have hpl : p≠l:=hnl p List.mem_cons_self
 have hads : (dls K p (kqs++[(k,l,[])])).ads = (p::kqs.map (·.2.1))++[l]:=by show p::List.map (fun q : D × Addr × List D=>q.2.1) (kqs++[(k,l,[])]) = _; rw [List.map_append]; rfl
 refine S2.put (S2.ext.write pf p0) S2.fl rfl (fun _ _=>rfl) (fun _=>?_) ?_ (fun n s' hn h z hz=>?_) fun n s' hn h=>(S2.ok n s' h).updNe (S2.ne i n _ s' (Ne.symm hn) hs h p List.mem_cons_self)
 ·rw [hget]
  refine ⟨rfl,fun b hb=>?_,⟨zae,fun z hz=>?_⟩,zm7 _ _ _⟩
  ·have hb : b∈(dls K p (kqs++[(k,l,[])])).ads:=hb
   rw [hads] at hb
   rcases List.mem_append.mp hb with hb | hb
   ·obtain ⟨b0,bf⟩:=hoff b hb
    refine ⟨b0,bf,?_⟩
    by_cases hbp : b = p
    ·subst hbp; exact ⟨_,zae⟩
    ·rw [zaf hbp]
     have:=(S2.ok i _ hs).live (p:=b) hb
     cases hx : (upd H l (.lst [])) b with
     | none=>exact absurd hx this
     | some o=>exact ⟨o,rfl⟩
   ·rw [List.mem_singleton.mp hb]
    exact ⟨S.ext.hh.free hl,S.ext.fh.free hl,_,by rw [zaf (Ne.symm hpl)]; exact zae⟩
  ·rcases List.mem_append.mp hz with hz | hz
   ·obtain ⟨z1,zr,ws,z2,z3⟩:=hq z hz
    have hzp : z.2.1≠p:=fun e=>(List.nodup_cons.mp hnd).1 (e ▸ List.mem_map_of_mem hz)
    exact ⟨z1,zr,ws,by rw [zaf hzp]; exact z2,z3⟩
   ·rw [List.mem_singleton.mp hz]
    exact ⟨hk,kr,[],by rw [zaf (Ne.symm hpl)]; exact zae,Reps.nil⟩
 ·rw [hads]
  exact List.nodup_append.mpr ⟨hnd,by simp,fun x hx y hy e=>by rw [List.mem_singleton.mp hy] at e; exact hnl x hx e⟩
 ·have hz : z∈(dls K p (kqs++[(k,l,[])])).ads:=hz
  rw [hads] at hz
  rcases List.mem_append.mp hz with hz | hz
  ·exact S.ne i n _ s' (Ne.symm hn) hs h z hz
  ·rw [List.mem_singleton.mp hz]
   exact fun hin=>(S.ok n s' h).live hin hl
theorem zl1 (hs : ss[i]? = some (dls K p kqs)) (b : EvB K G H₀ L ss tk k) (hk : k.isK = true) (a : ∀ kqs',Ev K G H₀ L (ss.set i (dls K p kqs')) tv d) (hz : kqs.length < sizeLine) (hz2 : ∀ q∈kqs,q.2.2.length < sizeLine)
  (h : ∀ kqs',kqs'.map dat = appD (kqs.map dat) k d->Nx K G H₀ L E.nx (ss.set i (dls K p kqs'))) :
  Go K G H₀ L E ss (zvb (tBM K "list" zl3 (tBM K "dict" zrr (tVar i) (zbh tk (zbh (tLst tNil) tNil))) (zbh tv tNil))):=fun F H σ S=>by
 obtain ⟨e,hoff,hp,hq⟩:=S.getL hs
 have hks : ∀ q∈kqs,q.1.isK = true:=fun q hm=>(hq q hm).1
 have hil : i < ss.length:=(List.getElem?_eq_some_iff.mp hs).1
 refine ⟨.ref p,e,.inr (.inr (.inl ⟨rfl,.inl ⟨_,hp⟩⟩)),b F H σ _ S fun v F1 H1 e1 r1=>⟨Nat.zero_le _,fun l hl=>?_⟩⟩
 have S1:=S.ext2 e1
 have S2:=S1.ext2 ((Ext.refl S1.ext.fh).newO (o:=.lst []) hl)
 obtain ⟨_,_,hp2,hq2⟩:=S2.getL hs
 refine ⟨p,kqs.map raw,k.key,.ref l,rfl,by rw [zdw hk r1],hp2,by rw [List.length_map]; exact hz,fun v' hv'=>?_,fun hn=>?_⟩
 ·rcases ztm hk hks with ⟨h1,_⟩ | ⟨j,q,ds,h1,h2,h3⟩
  ·rw [h1] at hv'; cases hv'
  ·rw [h2] at hv'; cases hv'
   obtain ⟨_,_,ws,hw,_⟩:=hq2 _ (List.mem_of_getElem? h1)
   have es : ss.set i (dls K p kqs) = ss:=zuw hs
   have S2' : Sat K G H₀ L F1 (upd H1 l (.lst [])) σ (ss.set i (dls K p kqs)):=by rw [es]; exact S2
   refine ⟨.inl ⟨rfl,_,SqL.of hw⟩,a kqs F1 _ σ _ S2' fun w F3 H3 e3 r3=>?_⟩
   have S3:=S2.ext2 e3
   obtain ⟨_,_,_,hq3⟩:=S3.getL hs
   obtain ⟨_,_,ws3,hw3,rs3⟩:=hq3 _ (List.mem_of_getElem? h1)
   refine ⟨q,ws3,w,rfl,rfl,hw3,by rw [<- rs3.length]; exact hz2 _ (List.mem_of_getElem? h1),h _ (h3 d) F3 _ σ (S3.appL hs h1 (rs3.snoc r3))⟩
 ·rcases ztm hk hks with ⟨h1,h2⟩ | ⟨j,q,ds,h1,h2,h3⟩
  ·have S4:=S1.keyL (k:=k) hs hk (zl5 hk r1) hl
   have eput : putK (kqs.map raw) k.key (.ref l) = (kqs++[(k,l,[])]).map raw:=by rw [ztx _ hn,List.map_append]; rfl
   rw [eput]
   have hs4 : (ss.set i (dls K p (kqs++[(k,l,[])])))[i]? = some (dls K p (kqs++[(k,l,[])])):=List.getElem?_set_self hil
   obtain ⟨_,_,_,hq4⟩:=S4.getL hs4
   have hj : (kqs++[(k,l,([] : List D))])[kqs.length]? = some (k,l,[]):=by rw [List.getElem?_append_right (Nat.le_refl _),Nat.sub_self]; rfl
   obtain ⟨_,_,ws,hw,_⟩:=hq4 _ (List.mem_of_getElem? hj)
   refine ⟨.inl ⟨rfl,_,SqL.of hw⟩,a _ F1 _ σ _ S4 fun w F3 H3 e3 r3=>?_⟩
   have S5:=S4.ext2 e3
   obtain ⟨_,_,_,hq5⟩:=S5.getL hs4
   obtain ⟨_,_,ws5,hw5,rs5⟩:=hq5 _ (List.mem_of_getElem? hj)
   have S6:=S5.appL hs4 hj (rs5.snoc r3)
   rw [List.set_set] at S6
   refine ⟨l,ws5,w,rfl,rfl,hw5,by rw [<- rs5.length]; show 0 < _; rw [sizeLine_eq]; decide,h _ ?_ F3 _ σ S6⟩
   rw [h2,List.set_append_right _ _ (Nat.le_refl _),Nat.sub_self,List.map_append]
   rfl
  ·rw [h2] at hn; cases hn
end
end L2
namespace L2
open PySem PySem.Spec PyProof.Rows
noncomputable def Ite (K : PySem.W.Frag) (a : Addr) : It :=
 ⟨fun i H=>∃ xs x,SqL K H a xs/\xs[i]? = some x,fun i H x H'=>∃ T0 vs,x = .ref T0/\H T0 = none/\H' = upd H T0 (.tup vs) /\ ∀ xs,SqL K H a xs -> ∃ y,xs[i]? = some y/\vs = [.int i,y],fun i H=>∃ xs,SqL K H a xs/\xs.length = i⟩
theorem zpm {P : Program} {w : World} {K : PySem.W.Frag} {elts : List Expr} {kk : Nat} {tp : Pos} (a it e : Addr) (hae : a≠e) (hai : a≠it) (hei : e≠it) :
  Turn P w K (.Tuple elts kk tp) (Ite K a) [e,it] e (fun i h=>(∃ old,IsEnum h e it i old)/\h.IsListIter it a i) where
 mem:=by simp
 obj:=fun i h st b hb=>by
  obtain ⟨⟨old,ho⟩,oi,hoi,_,hdi⟩:=st
  rcases List.mem_cons.mp hb with rfl | hb
  ·exact ⟨_,ho,fun v z=>by cases z⟩
  ·rw [List.mem_singleton.mp hb]
   exact ⟨oi,hoi,fun v z=>by rw [hdi] at z; cases z⟩
 keep:=fun i h h' st k=>⟨let ⟨old,ho⟩:=st.1; ⟨old,k e (by simp) _ ho⟩,st.2.at fun o x=>k it (by simp) o x⟩
 item:=by
  intro X hP hw hK hc i pins s σ H E I hf st hg
  subst hP hw hK
  obtain ⟨xs,x,hq,hx⟩:=hg
  obtain ⟨its,rv,p,hz⟩:=I.list hq
  obtain ⟨u,hu,ru⟩:=rv.get hx
  have hil : i < its.length:=(List.getElem?_eq_some_iff.mp hu).1
  have W0:=WalksT.enumerateD (A:=X.A) (Draws.list (prog:=X.prog) (w:=X.w) (A:=X.A.in1) (show X.A.in1.handled = none from I.ok.hd hc) it a hai its.toArray) e hei (by simp [hei,Ne.symm hae]) (by simp)
  refine W0.item i s _ _ (by simpa using hil) ⟨st.1,st.2,p.isList⟩ fun T0 vals h1 tk hp hle ht mid kk=>?_
  obtain ⟨t,v,hv,rfl⟩:=hp
  have hv : its[i]? = some v:=by simpa using hv
  rw [hu] at hv; cases hv
  have fresh : H T0 = none:=I.hok.fresh hle
  have I1 : Inv X pins σ (upd H T0 (.tup [.int i,x])) { s with heap:=h1,toks:=tk }:=I.turnsT (wr:=[e,it]) hf kk hle ht (.cons ⟨t,rfl⟩ (.cons ru .nil)) (by rw [sizeLine_eq]; simp)
  refine ⟨.ref T0,rfl,W0.go elts _ tp i T0 _ _ _ mid fun h2 st2 k2=>?_⟩
  have hlt : ∀ b∈[e,it],b≠T0:=fun b hb z=>by
   obtain ⟨⟨old,ho⟩,oi,hoi,_,hdi⟩:=st
   rcases List.mem_cons.mp hb with rfl | hb
   ·exact absurd (Nat.lt_of_lt_of_le (Heap.lt_size ho) (z ▸ hle)) (Nat.lt_irrefl _)
   ·rw [List.mem_singleton.mp hb] at z
    exact absurd (Nat.lt_of_lt_of_le (Heap.lt_size hoi) (z ▸ hle)) (Nat.lt_irrefl _)
  have hf1 : ∀ b∈[e,it],FpOk X pins (upd H T0 (.tup [.int i,x])) b:=fun b hb=>⟨by rw [zaf (hlt b hb)]; exact (hf b hb).1,(hf b hb).2⟩
  exact ⟨.ref T0,_,I1.turns (t':=tk) hf1 k2,rfl,⟨T0,_,rfl,fresh,rfl,fun ys hy=>⟨x,by rw [I.list_inj hy hq]; exact hx,rfl⟩⟩,⟨st2.1,st2.2.1⟩,fun b hb=>by rw [zaf (hlt b hb)]; exact (hf b hb).1⟩
 done:=by
  intro X hP hw hK hc i pins s σ H E I hf st hg
  subst hP hw hK
  obtain ⟨xs,hq,hx⟩:=hg
  obtain ⟨its,rv,p,hz⟩:=I.list hq
  have hl:=rv.length
  have hs : its.toArray.size = i:=by simp; lia
  have W0:=WalksT.enumerateD (A:=X.A) (Draws.list (prog:=X.prog) (w:=X.w) (A:=X.A.in1) (show X.A.in1.handled = none from I.ok.hd hc) it a hai its.toArray) e hei (by simp [hei,Ne.symm hae]) (by simp)
  rw [hs] at W0
  exact W0.done s _ _ ⟨st.1,st.2,p.isList⟩ fun h1 tk kk=>⟨rfl,I.turns (wr:=[e,it]) hf kk⟩
 self:=fun A i s Q E st h=>wpAny_pyIter_enum st.1.choose_spec h
section
variable {X : Cx} {e : Expr} {ta : TA} {elts : List Expr} {kk : Nat} {tp p pos : Pos}
noncomputable def iEnL (K : PySem.W.Frag) (ta : TA) : TI:=fun σ H R=>ta σ H fun vs H1=>∃ a,vs = [.ref a]/\(∃ xs,SqL K H1 a xs)/\R (Ite K a) H1
theorem zk2 (hg : Gl X "enumerate") (hm : X.mg "enumerate" = none) (hA : PA X [e] ta) (hs : starEach [e] X.env = [(false,eval e X.env)]:=by rfl) :
  PI X (.Tuple elts kk tp) (.Call (.Name "enumerate" p) [e] [] pos) (iEnL X.K ta):=by
 intro pins s σ H R I h
 refine Call_ (zhr I hg hm boot_enumerate (PyProof.Rows.callWith_type1 (thn (hA pos pins s σ H _ I h) fun us s1 hz9=>?_) hs rfl))
 obtain ⟨vs,H1,I1,r1,q1⟩:=hz9
 obtain ⟨a,rfl,⟨xs,hq⟩,q⟩:=q1
 obtain ⟨u,rfl,ru⟩:=zf8 r1
 cases ru
 obtain ⟨its,rv,p,hz⟩:=I1.list hq
 refine call_enumerate_list p.isList fun h1 hen hit hsz hk=>?_
 have I2 : Inv X pins σ H1 { s1 with heap:=h1 }:=I1.kept (t':=s1.toks) hk
 refine wpAny_pyIter_enum hen ?_
 have hlt : a < s1.heap.objs.size:=by obtain ⟨o,ho,_⟩:=p.isList; exact Heap.lt_size ho
 refine ⟨s1.heap.objs.size + 1,[s1.heap.objs.size + 1,s1.heap.objs.size],_,_,H1,rfl,I2,zpm a s1.heap.objs.size (s1.heap.objs.size + 1) (Nat.ne_of_lt (Nat.lt_succ_of_lt hlt)) (Nat.ne_of_lt hlt) (Nat.succ_ne_self _),⟨⟨_,hen⟩,hit⟩,fun b hb=>?_,q⟩
 rcases List.mem_cons.mp hb with rfl | hb
 ·exact I1.fpOk (Nat.le_succ _) (I1.hok.fresh (Nat.le_succ _))
 ·rw [List.mem_singleton.mp hb]
  exact I1.fpOk (Nat.le_refl _) (I1.hok.fresh (Nat.le_refl _))
end
end L2
namespace L2
open PySem PySem.W PySem.Spec PyProof.Rows
section
variable {K : PySem.W.Frag} {G H₀ L : Hp} {ss : List Sl} {i : Nat} {p : Addr} {kqs : KQ} {kvs : DD} {E : Ends} {tk tv : TE} {k d : D}
noncomputable def frzL (q : D × Addr × List D) : D × D:=(q.1,.lst q.2.2)
theorem Sat.freezeL {F H : Hp} {σ : St} (S : Sat K G H₀ L F H σ ss) (hs : ss[i]? = some (dls K p kqs)) : ∃ F',Sat K G H₀ L F' H σ (ss.set i (dsl K p (kqs.map frzL))):=by
 obtain ⟨e,hoff,hp,hq⟩:=S.getL hs
 have hget : σ.getD i none = some (.ref p):=by rw [List.getD_eq_getElem?_getD,e]; rfl
 have hnd : (p::kqs.map (·.2.1)).Nodup:=S.nd i _ hs
 have off : ∀ b,b∈kqs.map (·.2.1)->H₀ b = none/\F b = none:=fun b hb=>hoff b (List.mem_cons_of_mem _ hb)
 let F' : Hp:=fun b=>if b∈kqs.map (·.2.1) then H b else F b
 have fin : ∀ b,b∈kqs.map (·.2.1)->F' b = H b:=fun b hb=>if_pos hb
 have fout : ∀ b,b ∉ kqs.map (·.2.1)->F' b = F b:=fun b hb=>if_neg hb
 have ff : Same F F':=fun b o h=>by
  have : b ∉ kqs.map (·.2.1):=fun hb=>by rw [(off b hb).2] at h; cases h
  rw [fout b this]; exact h
 have fh : Same F' H:=fun b o h=>by
  by_cases hb : b∈kqs.map (·.2.1)
  ·rw [fin b hb] at h; exact h
  ·rw [fout b hb] at h; exact S.ext.fh b o h
 have ex : Ext G H₀ F' H:=⟨S.ext.gf.trans ff,fh,S.ext.hh,fun b o h=>by
  have : b ∉ kqs.map (·.2.1):=fun hb=>by rw [(off b hb).1] at h; cases h
  rw [fout b this]; exact S.ext.no b o h⟩
 obtain ⟨p0,pf⟩:=hoff p List.mem_cons_self
 refine ⟨F',S.put ex (S.fl.trans ff) rfl (fun _ _=>rfl) (fun _=>?_) (by simp [dsl,Sl.ads]) (fun j s' hj h q hq=>?_) fun j s' hj h=>?_⟩
 ·rw [hget]
  refine ⟨rfl,fun a ha=>by rw [List.mem_singleton.mp ha]; exact ⟨p0,by rw [fout p (List.nodup_cons.mp hnd).1]; exact pf,_,hp⟩,⟨_,hp,?_⟩,ziy _ _ _⟩
  have key : ∀ zs : KQ,(∀ z∈zs,z∈kqs)->Dks K F' (zs.map frzL) (zs.map raw):=by
   intro zs
   induction zs with
   | nil=>intro _; exact .nil
   | cons z zs ih =>
    intro hz
    obtain ⟨z1,kr,vs,hv,r⟩:=hq z (hz z List.mem_cons_self)
    exact .cons z1 (kr.mono ff) (Rep.lst (SqL.of ((fin z.2.1 (List.mem_map.mpr ⟨z,hz z List.mem_cons_self,rfl⟩)).trans hv)) (r.mono ff)) (ih fun y hy=>hz y (List.mem_cons_of_mem _ hy))
  exact key kqs fun z h=>h
 ·have : q = p:=by simpa [dsl,Sl.ads] using hq
  subst this
  exact S.ne i j _ s' (Ne.symm hj) hs h q List.mem_cons_self
 ·have dis : ∀ b∈s'.ads,b ∉ kqs.map (·.2.1):=fun b hb hb2=>S.ne i j _ s' (Ne.symm hj) hs h b (List.mem_cons_of_mem _ hb2) hb
  have own : ∀ {b : Addr} {xs : List D},b∈s'.ads->OwnL K H₀ F H b xs->OwnL K H₀ F' H b xs:=fun hb ⟨a1,a2,vs,a3,a4⟩=>⟨a1,by rw [fout _ (dis _ hb)]; exact a2,vs,a3,a4.mono ff⟩
  have ok:=S.ok j s' h
  cases s' with
  | un=>trivial
  | d x=>obtain ⟨v,ev,r⟩:=ok; exact ⟨v,ev,r.mono ff⟩
  | o b xs=>exact ⟨ok.1,own (by simp [Sl.ads]) ok.2⟩
  | oo b zs =>
   obtain ⟨a1,a2,a3,a4,a5⟩:=ok
   exact ⟨a1,a2,by rw [fout b (dis b (by simp [Sl.ads]))]; exact a3,a4,fun z hz=>own (by simp [Sl.ads]; exact .inr ⟨_,hz⟩) (a5 z hz)⟩
  | g v as W =>
   obtain ⟨a1,a2,a3,a4⟩:=ok
   refine ⟨a1,fun b hb=>?_,a4 _ _ _ _ ff (fun _ _=>rfl) a3,a4⟩
   obtain ⟨b1,b2,b3⟩:=a2 b hb
   exact ⟨b1,by rw [fout b (dis b hb)]; exact b2,b3⟩
theorem zo7 {N : St->Hp->Prop} (hs : ss[i]? = some (dls K p kqs)) (h : Nx K G H₀ L N (ss.set i (dsl K p (kqs.map frzL)))) : Nx K G H₀ L N ss:=fun F H σ S=>by
 obtain ⟨F',S'⟩:=S.freezeL hs
 exact h F' H σ S'
noncomputable def zlp : List V->Hp->VK->Prop:=fun xs H Q=>∃ r d kvs,xs = [.ref r]/\H r = some (zub r d)/\H d = some (.dK kvs) /\ ∀ l,H l = none->Q (.ref l) (upd H l (.lst (kvs.map (·.2))))
theorem zxj {tl : TE} {g : TG} {tb : TS} {α : Type} (enc : α->D) (xs : List α) (I : Nat->List Sl->Prop) (a : Ev K G H₀ L ss tl (.lst (xs.map enc))) (h0 : I 0 ss)
  (hs : ∀ L' k x ss,Same L L'->xs[k]? = some x->I k ss -> ∃ ss',Tg K G H₀ L' g (.tup [.int k,enc x]) ss ss' /\ ∀ N,(∀ ss,I (k + 1) ss->Nx K G H₀ L' N ss)->Go K G H₀ L' { E with nx:=N,ct:=N,bk:=E.nx } ss' tb)
  (hd : ∀ ss,I xs.length ss->Nx K G H₀ L E.nx ss) : Go K G H₀ L E ss (tFor (iEnL K (zbh tl tNil)) g tb):=fun F H σ S =>
 a F H σ _ S fun v F1 H1 e1 r1=>by
  obtain ⟨p,vs,rfl,sq,rs⟩:=r1.of_lst
  refine ⟨p,rfl,⟨vs,SqL.same e1.fh sq⟩,?_⟩
  refine ⟨fun i m σ' H'=>m = xs.length - i/\i <= xs.length/\At K G H₀ F1 (I i) σ' H',⟨_,rfl,Nat.zero_le _,ss,F1,(S.ext2 e1).raise,h0⟩,?_⟩
  rintro i m σ' H' ⟨rfl,hi,ss1,F2,S2,h2⟩
  have rp : Rep K F2 (.lst (xs.map enc)) (.ref p):=r1.mono S2.fl
  obtain ⟨ws,sq2,rs2⟩:=rp.itl S2.ext.fh
  have hlen : ws.length = xs.length:=by rw [<- rs2.length,List.length_map]
  by_cases hlt : i < xs.length
  ·refine .inr ⟨⟨ws,ws[i]'(by lia),sq2,List.getElem?_eq_getElem _⟩,fun σ'' H''=>At K G H₀ F1 (I (i + 1)) σ'' H'',fun σ'' H'' h=>⟨xs.length - (i + 1),by lia,rfl,hlt,h⟩,fun x H'' y=>?_⟩
   obtain ⟨T0,us,rfl,hf,rfl,y⟩:=y
   obtain ⟨w,hx,rfl⟩:=y ws sq2
   obtain ⟨dx,hdx,rx⟩:=rs2.get hx
   rw [List.getElem?_map,List.getElem?_eq_getElem hlt] at hdx
   cases hdx
   obtain ⟨ss',tg,go⟩:=hs F1 i _ ss1 (S.fl.trans e1.gf) (List.getElem?_eq_getElem hlt) h2
   have e3 : Ext F2 H' (upd F2 T0 (.tup [.int i,w])) (upd H' T0 (.tup [.int i,w])):=(Ext.refl S2.ext.fh).newF hf
   have rt : Rep K (upd F2 T0 (.tup [.int i,w])) (.tup [.int i,enc xs[i]]) (.ref T0):=Rep.tup (SqT.of zae) (Reps.cons Rep.int (Reps.cons (rx.mono e3.gf) Reps.nil))
   exact tg _ _ σ' _ _ (S2.ext2 e3) rt fun σ3 S3=>go _ (fun ss h=>zyt h) _ _ σ3 S3
  ·have e : i = xs.length:=by lia
   subst e
   exact .inl ⟨⟨ws,sq2,hlen⟩,hd ss1 h2 F2 H' σ' (S2.lower (S.fl.trans e1.gf))⟩
end
end L2
namespace L2
open PySem PySem.Spec PyProof.Rows
end L2
namespace L2
open PySem PySem.Spec PyProof.Rows
open AutoSeq1 (wpAny_loadPart')
end L2
namespace L2
open PySem PySem.Spec PyProof.Rows
end L2
namespace L2
open PySem PySem.Spec PyProof.Rows PySem.Builtin PySem.Builtin.Str
noncomputable def EvE (K : PySem.W.Frag) (G H₀ L : Hp) (ss : List Sl) (te : TE) (R : D->Prop) : Prop:=∀ F H σ Q,Sat K G H₀ L F H σ ss->(∀ d v F' H',R d->Ext F H F' H'->Rep K F' d v->Q v H')->te σ H Q
section
variable {K : PySem.W.Frag} {G H₀ L : Hp} {ss : List Sl} {t : TA} {te : TE} {d : D} {ds : List D} {D0 : Ends} {E : XK} {pre : List D->Prop} {R : List D->D->Prop} {S1 : D->Prop} {S2 : List D->Prop}
theorem zt4 (a : EvAF K G H₀ L ss t ds) (hp : pre ds) : EvE K G H₀ L ss (zhg (SpRD K pre R) [] E t) (R ds):=fun F H σ Q S q =>
 a F H σ _ S fun vs F1 H1 e1 r1=>⟨F1,ds,e1.fh,by rw [List.append_nil]; exact r1,hp,fun r hR v G' H' e2 rv=>q r v G' H' hR (e1.trans e2) rv⟩
end
end L2
namespace L2
open PySem PySem.W PySem.Spec PyProof.Rows
structure ITell (K : PySem.W.Frag) (C : Addr) : Prop where
 ha : findIn K (.ref C) "__class__" = some (some (.builtin "object.__class__"))
 hn : specialIn K (.builtin "object.__class__") "__get__" = some (some (.builtin "getset_descriptor.__get__"))
 tk : takesIn K (.builtin "object.__class__") = some true
 hm : mroIn K C (.type "object") = some true
end L2
namespace L2
open PySem PySem.W PySem.Spec PyProof.Rows
section
variable {K : PySem.W.Frag} {F H : Hp}
theorem zzq {k : D} {q : Key} (r : Rep K F k (kV q)) : k.isK = true/\k.key = q:=by
 cases q with
 | inl i =>
  have r : Rep K F k (V.int i):=r
  cases k <;> simp [Rep] at r
  subst r; exact ⟨rfl,rfl⟩
 | inr x =>
  have r : Rep K F k (V.str x):=r
  cases k <;> simp [Rep] at r
  exact ⟨rfl,by rw [r.1]; rfl⟩
theorem zwl : ∀ {kv : List (Key × V)} {ks vs : List D},Reps K F ks (kv.map fun q=>kV q.1)->Reps K F vs (kv.map fun q=>q.2)->Dks K F (ks.zip vs) kv
 | [],ks,vs,r1,r2=>by
  cases ks with
  | nil=>exact .nil
  | cons k ks=>rw [Reps] at r1; obtain ⟨_,_,e,_⟩:=r1; cases e
 | (q,v)::kv,ks,vs,r1,r2=>by
  cases ks with
  | nil=>rw [Reps] at r1; cases r1
  | cons k ks =>
   cases vs with
   | nil=>rw [Reps] at r2; cases r2
   | cons d vs =>
    rw [Reps] at r1 r2
    obtain ⟨x,r,e,a,b⟩:=r1
    cases e
    obtain ⟨x,r,e,a2,b2⟩:=r2
    cases e
    obtain ⟨h1,rfl⟩:=zzq a
    exact .cons h1 a a2 (zwl b b2)
theorem Dks.reps {kvs : DD} {xs : List (Key × V)} (h : Dks K F kvs xs) : Reps K F (kvs.map (·.1)) (xs.map fun q=>kV q.1)/\Reps K F (kvs.map (·.2)) (xs.map fun q=>q.2):=by
 induction h with
 | nil=>exact ⟨Reps.nil,Reps.nil⟩
 | cons hk hr r t ih=>exact ⟨Reps.cons hr ih.1,Reps.cons r ih.2⟩
end
noncomputable def D.dic (kvs : DD) : D:=.dct (kvs.map (·.1)) (kvs.map (·.2))
theorem ztk (kvs : DD) : (kvs.map (·.1)).zip (kvs.map (·.2)) = kvs:=by
 induction kvs with
 | nil=>rfl
 | cons a l ih=>rw [List.map_cons,List.map_cons,List.zip_cons_cons,ih]
theorem Rep.of_dic {K : PySem.W.Frag} {F : Hp} {kvs : DD} {v : V} (r : Rep K F (D.dic kvs) v) : ∃ p xs,v = .ref p/\F p = some (.dK xs)/\Dks K F kvs xs:=by
 obtain ⟨p,kv,e,h,r1,r2⟩:=r.of_dct
 have:=zwl r1 r2
 rw [ztk] at this
 exact ⟨p,kv,e,h,this⟩
section
variable {K : PySem.W.Frag} {G H₀ L : Hp} {ss : List Sl} {i : Nat} {p : Addr} {kvs : DD} {E : Ends} {ty td tv tx : TE} {k d z : D}
theorem zev {N : St->Hp->Prop} (hs : ss[i]? = some (dsl K p kvs)) (h : Nx K G H₀ L N (ss.set i (.d (D.dic kvs)))) : Nx K G H₀ L N ss:=fun F H σ S=>by
 obtain ⟨e,h0,fp,xs,hp,dk⟩:=S.getM hs
 have hget : σ.getD i none = some (.ref p):=by rw [List.getD_eq_getElem?_getD,e]; rfl
 have dk2:=dk.mono (Same.upd (o:=.dK xs) fp)
 obtain ⟨r1,r2⟩:=dk2.reps
 exact h _ H σ (S.put (S.ext.freeze fp h0 hp) (S.fl.trans (Same.upd fp)) rfl (fun _ _=>rfl) (fun _=>by rw [hget]; exact ⟨_,rfl,Rep.dct zae r1 r2⟩) (by simp [Sl.ads]) (fun _ _ _ _ q hq=>by simp [Sl.ads] at hq)
  fun j s' hj h=>(S.ok j s' h).frz fp (S.ne i j _ s' (Ne.symm hj) hs h p (by simp [dsl,Sl.ads])))
theorem zd1 (a : Ev K G H₀ L ss td (D.dic kvs)) (b : EvB K G H₀ L ss ty k) (hk : k.isK = true) (hv : valD kvs k = some d) : Ev K G H₀ L ss (zw2 td ty) d:=fun F H σ Q S q =>
 a F H σ _ S fun x F1 H1 e1 r1=>b F1 H1 σ _ (S.ext2 e1) fun v F2 H2 e2 r2=>by
  obtain ⟨p,xs,rfl,hp,dk⟩:=r1.of_dic
  have dk2:=dk.mono e2.gf
  rcases dk2.val hk with ⟨h1,_⟩ | ⟨d',w,h1,h2,rw'⟩
  ·rw [h1] at hv; cases hv
  ·rw [h1] at hv; cases hv
   refine ⟨p,w,rfl,?_,q w F2 H2 (e1.trans e2) rw'⟩
   rw [zdw hk r2,<- h2]
   exact DGet.k (e2.fh _ _ (e2.gf _ _ hp))
theorem zoy {F : Hp} {xs : List (Key × V)} (dk : Dks K F kvs xs) (hk : k.isK = true) : (valV xs k.key).isSome = (valD kvs k).isSome:=by
 rcases dk.val hk with ⟨h1,h2⟩ | ⟨d',w,h1,h2,_⟩ <;> rw [h1,h2] <;> rfl
theorem zo3 (a : Ev K G H₀ L ss td (D.dic kvs)) (b : EvB K G H₀ L ss ty k) (hk : k.isK = true) : Ev K G H₀ L ss (zl9 ty td) (.bl (!(valD kvs k).isSome)):=fun F H σ Q S q =>
 b F H σ _ S fun v F1 H1 e1 r1=>a F1 H1 σ _ (S.ext2 e1) fun x F2 H2 e2 r2=>by
  obtain ⟨p,xs,rfl,hp,dk⟩:=r2.of_dic
  refine ⟨p,valV xs k.key,rfl,by rw [zdw hk r1]; exact DGet.k (e2.fh _ _ hp),q _ F2 H2 (e1.trans e2) ?_⟩
  rw [zoy dk hk]; exact Rep.bl
theorem zrl (a : Ev K G H₀ L ss td (D.dic kvs)) (b : EvB K G H₀ L ss ty k) (c : Ev K G H₀ L ss tx z) (hk : k.isK = true) : Ev K G H₀ L ss (zwd td ty tx) ((valD kvs k).getD z):=fun F H σ Q S q =>
 a F H σ _ S fun x F1 H1 e1 r1=>by
  obtain ⟨p,xs,rfl,hp,dk⟩:=r1.of_dic
  refine ⟨p,rfl,.inl ⟨xs,.inl (e1.fh _ _ hp)⟩,b F1 H1 σ _ (S.ext2 e1) fun v F2 H2 e2 r2=>c F2 H2 σ _ ((S.ext2 e1).ext2 e2) fun w F3 H3 e3 r3=>?_⟩
  have e:=(e1.trans e2).trans e3
  have dk2:=dk.mono (e2.gf.trans e3.gf)
  refine ⟨valV xs k.key,by rw [zdw hk r2]; exact DGet.k (e3.fh _ _ (e3.gf _ _ (e2.gf _ _ hp))),q _ F3 H3 e ?_⟩
  rcases dk2.val hk with ⟨h1,h2⟩ | ⟨d',u,h1,h2,ru⟩ <;> rw [h1,h2]
  ·exact r3
  ·exact ru
end
end L2
namespace L2
open PySem PySem.Spec PyProof.Rows
section
variable {X : Cx}
theorem ya8 {P : Program} {w : World} {k : Key} {u : Value} (h : (zal P w).is k u = true) : RelV (kV k) u:=by
 rcases zay h with ⟨i,t,rfl,rfl⟩ | ⟨x,t,rfl,rfl⟩
 ·exact ⟨t,rfl⟩
 ·exact ⟨t,rfl⟩
theorem zox {P : Program} {w : World} {kvs : List (Key × V)} {vs : List (Key × Value)} (r : KV kvs vs) : ∀ {us : List Value},us.length = vs.length->(∀ (j : Nat) v,us[j]? = some v -> ∃ k x,vs[j]? = some (k,x)/\(zal P w).is k v = true)->Vals (kvs.map fun q=>kV q.1) us:=by
 induction r with
 | nil =>
  intro us hl _
  cases us with
  | nil=>exact .nil
  | cons=>simp at hl
 | cons h t ih =>
  intro us hl hv
  cases us with
  | nil=>simp at hl
  | cons u us =>
   refine .cons ?_ (ih (by simpa using hl) fun j v e=>?_)
   ·obtain ⟨k,x,e,hk⟩:=hv 0 u rfl
    simp only [List.getElem?_cons_zero,Option.some.injEq] at e
    rw [e] at h
    have h1:=h.1
    simp only at h1
    show RelV (kV _) u
    rw [h1]
    exact ya8 hk
   ·exact hv (j + 1) v e
noncomputable def zru : List V->Hp->VK->Prop:=fun xs H Q=>∃ d kvs,xs = [.ref d]/\H d = some (.dK kvs) /\ ∀ l,H l = none->Q (.ref l) (upd H l (.lst (kvs.map fun q=>kV q.1)))
theorem zh2 (hc : X.calm = true) : zcg X (.type "list") zru:=by
 intro pins s σ H xs us Q I rs h
 obtain ⟨d,kvs,rfl,e,q⟩:=h
 obtain ⟨u,rfl,ru⟩:=zf8 rs
 cases ru
 obtain ⟨hz,hd,vs,rel,dd⟩:=zmo I.hok e
 obtain ⟨ep,da⟩:=dd.dictAt
 have hzz : vs.length <= sizeLine:=by rw [<- rel.length]; exact hz
 refine PySem.W.kdl_call (PySem.W.kdl_dict (kvs:=vs) (d:=d) (ep:=ep) hd) (I.ok.hd hc) da hzz fun h' tk acc c' hk hD hacc=>?_
 have hval : Vals (kvs.map fun q=>kV q.1) acc.toList:=zox (P:=X.prog) (w:=X.w) rel (by rw [Array.length_toList]; exact hacc.1) fun j v hj=>hacc.2 j v (by rw [<- Array.getElem?_toList]; exact hj)
 exact ⟨.ref s.heap.objs.size,_,I.laid hk (Nat.le_refl _) (show zce X.prog X.w _ _ _ (.lst _) from ⟨by rw [List.length_map]; exact hz,acc.toList,c',hval,by simpa using hD⟩),rfl,q _ I.fresh⟩
theorem zk8 {prog : Program} {w : World} {A : Around} {E : Value->Shared->Prop} {s : Shared} {T : String} {r d : Addr} {n : Nat} {P : Nat->Value->Prop} {OK : Heap->Prop} {Q : Value->Shared->Prop} (K : PySem.W.KdlSrc prog w T r d n P OK) (Out : List Value->Array Value->Prop) (hh : A.handled = none) (hok : OK s.heap) (hn : n <= sizeLine)
  (hs : ∀ (vs : List Value) (g : Heap) (h' : Heap) (tk : Nat),ItemsOf P vs.toArray n->2 <= vs.length->zdy s.heap g->zdy g h'->zo4 prog w A.in1.in1 { s with heap:=h',toks:=tk } vs (Out vs)) (h1 : ∀ vs : List Value,ItemsOf P vs.toArray n->vs.length < 2->Out vs vs.toArray)
  (h : ∀ (vs : List Value) out c (g : Heap) (h' : Heap) (tk : Nat),ItemsOf P vs.toArray n->zdy s.heap g->zdy g h'->h'.get? g.objs.size = some (seqObj "list" out c)->out.size = vs.length->Out vs out->Q (.ref g.objs.size) { s with heap:=h',toks:=tk }) :
  wpAny (model prog w) A (call (.builtin "sorted") [.ref r]) Q E s:=by
 refine Calls.call_function_entry kind_sorted plain_sorted entry_sorted (args_sorted1 _) ?_
 unfold Builtin.«sorted»
 refine wpAny_bind (m:=checkCount "sorted" 1 1 _) (wpAny_pure ?_)
 refine wpAny_bind (PySem.W.kdu_collect K (by simp [hh]) hok hn fun g1 tk acc K1 hacc=>?_)
 generalize hvs : acc.toList = vs
 have hacc : ItemsOf P vs.toArray n:=by rw [<- hvs]; simpa using hacc
 have hz : vs.length <= sizeLine:=by
  have:=hacc.1
  simp at this
  lia
 refine wpAny_bind (wpAny_newList ?_ hz)
 dsimp only
 have hg : (g1.push { cls:=.type "list", data:=.seq vs.toArray }).get? g1.objs.size = some (seqObj "list" vs.toArray 0):=Heap.get?_push_size _ rfl
 have k2 : zdy g1 (g1.push { cls:=.type "list", data:=.seq vs.toArray }):=fun b u e=>Heap.get?_push_of_some _ e
 have ne : ∀ b u,g1.get? b = some u->b≠g1.objs.size:=fun b u e=>Nat.ne_of_lt (Heap.lt_size e)
 refine wpAny_bind (wpAny_holding (wpAny_call_entry slot_list_sort ⟨_,hg,rfl⟩ entry_list_sort (zf2 (s:={ s with heap:=g1.push { cls:=.type "list", data:=.seq vs.toArray },toks:=tk }) (Out vs) hg hz
  (fun h2 h' k=>hs vs g1 h' tk hacc h2 K1 fun b u e=>k b u (ne b u e) (k2 b u e)) (h1 vs hacc) fun out c h' k hc hsz hO=>⟨_,rfl,?_⟩) (args_list_sort _)))
 exact wpAny_pure ⟨_,rfl,h vs out c g1 h' tk hacc K1 (fun b u e=>k b u (ne b u e) (k2 b u e)) hc hsz hO⟩
noncomputable def zs9 : R2:=fun x y H Q=>∃ z n,x = .str z/\y = .int n/\MulOk z n/\Q (.str (Txt.mul z n)) H
theorem zrz : OpR X (binaryOp .Mult) zs9:=by
 intro pins s σ H x y v u Q I rx ry h
 obtain ⟨z,n,rfl,rfl,hz,q⟩:=h
 obtain ⟨t,rfl⟩:=rx
 obtain ⟨t',rfl⟩:=ry
 exact SB.mul hz fun t' tk=>⟨.str (Txt.mul z n),H,I.tok _,⟨_,rfl⟩,q⟩
end
theorem zoe (l : List Nat) : ∀ (k : Nat) (acc : List Nat),(List.replicate k l.toArray).foldl (· ++ ·) acc.toArray = (acc++(List.replicate k l).flatten).toArray
 | 0,acc=>by simp
 | k + 1,acc=>by
  rw [List.replicate_succ,List.foldl_cons,List.replicate_succ,List.flatten_cons,<- List.append_assoc]
  have : acc.toArray++l.toArray = (acc++l).toArray:=by simp
  rw [this]; exact zoe l k (acc++l)
theorem ybp (l : List Nat) (n : Nat) : Txt.mul (T l) (n : Int) = T (List.replicate n l).flatten:=by
 unfold Txt.mul
 by_cases h : (n : Int) < 1
 ·have : n = 0:=by lia
  subst this; rw [if_pos h]; rfl
 ·rw [if_neg h]
  by_cases h2 : ((n : Int) == 1 || (T l).length == 0) = true
  ·rw [if_pos h2]
   rw [Bool.or_eq_true,beq_iff_eq,beq_iff_eq,zm5] at h2
   rcases h2 with h2 | h2
   ·have : n = 1:=by lia
    subst this; simp
   ·have : l = []:=List.length_eq_zero_iff.mp h2
    subst this
    have : (List.replicate n ([] : List Nat)).flatten = []:=by simp
    rw [this]
  ·rw [if_neg h2]
   have e:=zoe l n []
   rw [List.nil_append] at e
   show (⟨(List.replicate (n : Int).toNat l.toArray).foldl (· ++ ·) #[]⟩ : Str) = ⟨_⟩
   rw [Int.toNat_natCast]
   exact congrArg Str.mk e
theorem zzh {l : List Nat} {n : Nat} (hl : l.length <= 1000) (hn : n <= 1000) : MulOk (T l) (n : Int):=by
 have hm : l.length * n <= 1000 * 1000:=Nat.mul_le_mul hl hn
 refine ⟨?_,fun h1 _=>?_,fun _ _=>?_⟩
 ·rw [Bool.or_eq_false_iff]
  exact ⟨decide_eq_false (by lia),decide_eq_false (by lia)⟩
 ·rw [zm5]
  have : (l.length : Int) <= (2 ^ 63 - 1) / (n : Int):=by
   rw [Int.le_ediv_iff_mul_le (by omega)]
   have : ((l.length * n : Nat) : Int) <= 1000 * 1000:=by exact_mod_cast hm
   rw [Int.natCast_mul] at this
   lia
  lia
 ·rw [zm5,Int.toNat_natCast]
  unfold Builtin.Str.tooLong
  exact decide_eq_false (by rw [sizeLine_eq]; lia)
section
variable {K : PySem.W.Frag} {G H₀ L : Hp} {ss : List Sl} {ta tb : TE}
theorem zye {l : List Nat} {n : Nat} (a : EvB K G H₀ L ss ta (.str l)) (b : EvB K G H₀ L ss tb (.int n)) (hl : l.length <= 1000) (hn : n <= 1000) : Ev K G H₀ L ss (tOp zs9 ta tb) (.str (List.replicate n l).flatten) :=
 zdc (w:=.str (T (List.replicate n l).flatten)) a b (fun H x y Q r1 r2 q=>⟨T l,n,r1.of_str,r2.of_int,zzh hl hn,by rw [ybp]; exact q⟩) fun _ _ _ _ r1 _=>Rep.str fun c hc=>by
  obtain ⟨l',hl',hc'⟩:=List.mem_flatten.mp hc
  rw [(List.mem_replicate.mp hl').2] at hc'
  exact r1.asc c hc'
end
end L2
namespace L2
open PySem PySem.W PySem.Spec PyProof.Rows
section
variable {P : Program} {w : World} {fs : List Addr} {H H' : Hp} {h h2 h3 B : Heap}
theorem Un.fly (U : Un fs [] H H' h h2) (st2 : B.StaysIn h2) (st3 : B.StaysIn h3) (c1 : ∀ b o,h.get? b = some o->b ∉ fs -> ∃ o',B.get? b = some o') (up : h2.UpToSlots h3)
  (ff : ∀ b∈fs,∃ o,h2.get? b = some o /\ ∀ vs,o.data ≠ .fields vs) : Un fs [] H H' h h3 where
 keep:=fun b o e n hb hx=>by
  obtain ⟨o',q⟩:=c1 b o e hb
  have q1:=U.keep b o e n hb hx
  have q2:=st2 b o' q
  rw [q1] at q2; cases q2
  exact st3 b _ q
 slot:=fun b o e n hb hx=>by
  obtain ⟨sl,q⟩:=U.slot b o e n hb hx
  obtain ⟨o2,q2,nf⟩:=ff b hb
  rw [q] at q2; cases q2
  obtain ⟨sl',q3⟩:=up b _ q nf
  exact ⟨sl',q3⟩
 free:=U.free
 there:=fun b o e hx=>by
  by_cases hb : b∈fs
  ·obtain ⟨o2,q2,nf⟩:=ff b hb
   obtain ⟨sl,q3⟩:=up b _ q2 nf
   exact ⟨_,q3⟩
  ·obtain ⟨o',q⟩:=c1 b o e hb
   exact ⟨o',st3 b _ q⟩
 tups:=U.tups
 frzs:=U.frzs
 tbls:=U.tbls
theorem HOk.fly (hok : HOk P w H h2) (c2 : ∀ b u,H b = some u -> ∃ o',B.get? b = some o') (st2 : B.StaysIn h2) (st3 : B.StaysIn h3) : HOk P w H h3:=fun b u e=>by
 refine (hok b u e).stay (fun c v hc q=>?_) (fun _ q=>q) fun _ _ q=>q
 obtain ⟨o',q'⟩ : ∃ o',B.get? c = some o':=by
  rcases hc with rfl | hc
  ·exact c2 c _ e
  ·exact c2 c _ hc
 have:=st2 c o' q'
 rw [q] at this; cases this
 exact st3 c _ q'
end
section
variable {P : Program} {w : World} {K : PySem.W.Frag} {mg : Str->Option Value} {base : Heap} {N : List Str} {qual : Str} {scope : Scope} {f : Addr} {cd : Value} {A : Around} {outer : List Env} {s : Shared} {H : Hp} {E : XK}
noncomputable def vmro : List Value:=[.type "ValueError", .type "Exception", .type "BaseException", .type "object"]
theorem zce.there {h : Heap} {a : Addr} {o : HO} (x : zce P w H h a o) : ∃ ob,h.get? a = some ob:=by
 cases o with
 | lst xs=>obtain ⟨_,_,_,_,e⟩:=x; exact ⟨_,e⟩
 | tup xs=>obtain ⟨_,_,_,ob,e,_⟩:=x; exact ⟨_,e⟩
 | dK kvs=>obtain ⟨_,_,_,_,o,_,_,e,_⟩:=x; exact ⟨_,e⟩
 | dT kvs=>obtain ⟨_,_,_,_,o,_,_,e,_⟩:=x; exact ⟨_,e⟩
 | set S n=>obtain ⟨o,_,_,_,e,_⟩:=x; exact ⟨_,e⟩
 | ins C dx fs=>obtain ⟨_,_,_,e,_⟩:=x; exact ⟨_,e⟩
 | own y=>obtain ⟨_,e⟩:=x; exact ⟨_,e⟩
 | xd fs=>obtain ⟨_,⟨_,_,_,e,_⟩,_⟩:=x; exact ⟨_,e⟩
 | rng lo hi=>obtain ⟨_,_,_,e⟩:=x; exact ⟨_,e⟩
 | frz ob u=>obtain ⟨e,_⟩:=x; exact ⟨_,e⟩
 | tbl ps=>exact ⟨_,x⟩
 | met f y=>exact ⟨_,x⟩
 | ext φ=>obtain ⟨_,e,_⟩:=x; exact e
end
end L2
namespace L2
open PySem PySem.W PySem.Spec PyProof.Rows
noncomputable abbrev Cx.inSuite (X : Cx) (x : Addr) : Cx:={ X with A:=X.A.mark (some (.ref x)),calm:=false,xe:=fun _ _=>False }
section
variable {X : Cx} {pins : List (Addr × Obj)} {σ : St} {H : Hp} {s : Shared} {x : Addr}
theorem Inv.inSuite (I : Inv X pins σ H s) (x : Addr) : Inv (X.inSuite x) pins σ H s :=
 ⟨⟨I.ok.mod,I.ok.kind,I.ok.glob,I.ok.blt,I.ok.above,I.ok.inj,I.ok.has,I.ok.cab,(fun z=>by cases z),I.ok.frames,I.ok.stk,I.ok.exf,I.ok.bs,I.ok.bsz,I.ok.noex,I.ok.exfs,I.ok.funs,I.ok.frf⟩,I.os,I.bare,I.base,I.loc,I.cell,I.free,I.freeC,I.pin,I.hok,I.len⟩
theorem Inv.outSuite (ok : X.Ok) (I : Inv (X.inSuite x) pins σ H s) : Inv X pins σ H s:=⟨ok,I.os,I.bare,I.base,I.loc,I.cell,I.free,I.freeC,I.pin,I.hok,I.len⟩
theorem zrq {M : Model} {A : Around} {E : Value->Shared->Prop} {i : Nat} {n : Str} {v : V} {Q : Unit->Shared->Prop} (I : Inv X pins σ H s) (hN : X.N.Nodup) (hi : X.N[i]? = some n) (hx : X.env.scope.names.lookup n = some .local) (hv : σ[i]? = some (some v))
  (h : ∀ s',Inv X pins (σ.set i none) H s'->Q () s') : wpAny M A (unbindName X.env n) Q E s:=by
 obtain ⟨m,hn,hl⟩:=id I.loc
 have hcls : (X.env.scope.kind == .class || (X.env.scope.kind == .module && X.env.locals != X.env.globals)) = false:=by rw [I.ok.kind]; rfl
 obtain ⟨u,r,lk⟩:=hl i n v hi hv (.inl hx)
 have hm : m n = some u:=by
  rcases lk with ⟨_,e⟩ | ⟨k,_⟩
  ·exact e
  ·have k : X.env.scope.names.lookup n = some .cell \/ X.env.scope.names.lookup n = some .free:=k
   rw [hx] at k
   rcases k with k | k <;> cases k
 refine wpAny_unbindName_local hx hn hm hcls fun h' u' hn' hs=>?_
 obtain ⟨oL,_,_,hoL,_⟩:=id hn
 have cne:=I.cne
 have hiσ : i < σ.length:=by rw [I.len]; exact (List.getElem?_eq_some_iff.mp hi).1
 refine h _ ⟨I.ok,I.os,I.bare,⟨fun b o e n hb hx=>?_,fun b o e n hb hx=>?_,I.base.free,fun b o e hx=>?_,I.base.tups,I.base.frzs,I.base.tbls⟩,⟨_,hn',fun j y v' e1 e2 e3=>?_⟩,fun y c e=>?_,I.free,I.freeC,fun p hp=>?_,fun b ob e=>?_,by simpa using I.len⟩
 ·exact (hs.2 b (Nat.ne_of_lt (Nat.lt_of_lt_of_le (Heap.lt_size e) I.ok.above))).trans (I.base.keep b o e n hb hx)
 ·obtain ⟨sl,e1⟩:=I.base.slot b o e n hb hx
  exact ⟨sl,(hs.2 b (Nat.ne_of_lt (Nat.lt_of_lt_of_le (Heap.lt_size e) I.ok.above))).trans e1⟩
 ·obtain ⟨o',e1⟩:=I.base.there b o e hx
  exact ⟨o',(hs.2 b (Nat.ne_of_lt (Nat.lt_of_lt_of_le (Heap.lt_size e) I.ok.above))).trans e1⟩
 ·by_cases hj : j = i
  ·subst hj
   rw [List.getElem?_set_self hiσ] at e2
   cases e2
  ·rw [List.getElem?_set_ne (Ne.symm hj)] at e2
   obtain ⟨u',r',q⟩:=hl j y v' e1 e2 e3
   refine ⟨u',r',?_⟩
   rcases q with ⟨k,e⟩ | ⟨k,c,e,z⟩
   ·refine .inl ⟨k,?_⟩
    have : y≠n:=fun e=>hj (zjq hN e1 (e ▸ hi))
    simp [this,e]
   ·exact .inr ⟨k,c,e,z.sameBut hs (cne y c e)⟩
 ·obtain ⟨w',z⟩:=I.cell y c e
  exact ⟨w',z.sameBut hs (cne y c e)⟩
 ·obtain ⟨e,n,ne,nf,d⟩:=I.pin p hp
  exact ⟨(hs.2 p.1 ne).trans e,n,ne,nf,d⟩
 ·refine (I.hok b ob e).stay (fun c w' hc q=>(hs.2 c ?_).trans q) (fun _ q=>q) fun _ _ q=>q
  rintro rfl
  rcases hc with rfl | hc
  ·rw [I.free] at e; cases e
  ·rw [I.free] at hc; cases hc
end
end L2
namespace L2
open PySem PySem.W PySem.Spec PyProof.Rows PySem.Calls Builtin Builtin.ObjectAttr Builtin.Getset_descriptor
structure XTell (K : PySem.W.Frag) (C : Addr) : Prop where
 ga : findIn K (.ref C) "__getattribute__" = some (some (.builtin "BaseException.__getattribute__"))
 gt : findIn K (.ref C) "__getattr__" = some none
 mb : mroIn K C (.type "BaseException") = some true
 fc : findIn K (.ref C) "__class__" = some (some (.builtin "object.__class__"))
 sp : specialIn K (.builtin "object.__class__") "__get__" = some (some (.builtin "getset_descriptor.__get__"))
 tk : takesIn K (.builtin "object.__class__") = some true
 mo : mroIn K C (.type "object") = some true
 dc : hasDictIn K C = true
section
variable {K : PySem.W.Frag} {x C : Addr}
noncomputable def XAt (x C : Addr) (h : Heap) : Prop:=∃ o,h.get? x = some o/\o.cls = .ref C
theorem XAt.ty {M : Model} {h : Heap} (p : XAt x C h) : Looks M h (typeOf (.ref x)) (.ref C):=by
 obtain ⟨o,ho,hc⟩:=p
 rw [<- hc]; exact (Looks.ld ho).andThen .now
theorem zyi {M : Model} {h : Heap} (X : K.In h) (T : XTell K C) : Looks M h (Builtin.ObjectAttr.find (.ref x) (.ref C) "__class__") (.bind (.builtin "getset_descriptor.__get__") (.builtin "object.__class__")) :=
 (looks_findIn X T.fc).andThen ((show Looks M h (Builtin.ObjectAttr.getOf (some (.builtin "object.__class__"))) (some (.builtin "getset_descriptor.__get__")) from looks_specialIn X T.sp).andThen
  ((show Looks M h (Builtin.ObjectAttr.dataDescriptor? (some (.builtin "object.__class__")) (some (.builtin "getset_descriptor.__get__"))) (some (_,_)) from (looks_takesIn (M:=M) X T.tk).andThen .now).andThen (Looks.tag .now)))
section
variable {prog : Program} {w : World} {A : Around} {s : Shared}
theorem zu6 {R : Result->Shared->Prop} {tp : Value} (X : K.In s.heap) (T : XTell K C) (p : XAt x C s.heap) (h : R (.ok (.ret (.ref C))) s) : codeAny (model prog w) A (.call (.builtin "getset_descriptor.__get__") ⟨[.builtin "object.__class__", .ref x,tp],[]⟩) R s:=by
 obtain ⟨hh,g,dr,t,os⟩:=s
 have L0:=p.ty (M:=model prog w); have L1:=looks_mroIn (M:=model prog w) X T.mo
 refine codeAny_call_builtin KF.slot_gs.plain KF.entry_gs (KF.slot_gs.check _ _ _ _ _ _ _ _ KF.type_class (KF.args_gs _ _ _) (show wpAny _ _ _ _ _ _ from ?_))
 unfold Builtin.«getset_descriptor.__get__» descrGet; rw [dga_obj]; refine wpAny_bind (wpAny_pure ?_); unfold descrGetter descrCheckInstance descrNameAndClass isInstance; simp only [KF.owner_class]
 repeat lk
 refine ⟨Code.quiet_builtin _ (by decide +kernel),codeAny_builtin KF.entry_class (show wpAny _ _ _ _ _ _ from ?_)⟩
 unfold Builtin.«object.__class__» shownTypeOf; repeat lk
 exact h
theorem zqc {E : Value->Shared->Prop} {Q : Option Value->Shared->Prop} (X : K.In s.heap) (T : XTell K C) (p : XAt x C s.heap) (q : Q (some (.ref C)) { s with toks:=s.toks + 1 }) :
  wpAny (model prog w) A (getAttr? (.ref x) "__class__") Q E s:=by
 obtain ⟨hh,g,d,t,os⟩:=s
 have L0:=p.ty (M:=model prog w); have L1:=looks_findIn (M:=model prog w) X T.ga; have L2:=looks_findIn (M:=model prog w) X T.gt
 have L3:=zyi (x:=x) (M:=model prog w) X T; have L4:=looks_mroIn (M:=model prog w) X T.mb
 have hbd:=F.attr_ValueError.ga.bind (.ref x)
 have hk : builtinKind "BaseException.__getattribute__" = some .slot:=by decide +kernel
 have hs : splitId "BaseException.__getattribute__" = some ("BaseException", "__getattribute__"):=by decide +kernel
 unfold getAttr? getAttrBy? getAttrBy; refine wpAny_bind (wpAny_mkText (wpAny_bind (wpAny_attempt (wpAny_holding (wpAny_bind (L0.at (wpAny_bind (L1.at ?_))))))))
 show wpAny _ _ (if (_ && _) then _ else _) _ _ _
 rw [if_neg (by rw [Bool.and_eq_true]; intro z; exact absurd z.2 (by decide +kernel))]
 unfold getAttrByItsOwn
 refine wpAny_bind ((show Looks _ _ (hookBefore (.ref C)) none from L2).at (wpAny_bind (wpAny_attempt (wpAny_holding ?_))))
 unfold callGetattribute boundAndCalled
 rw [if_neg (by intro z; cases z),hbd]
 refine wpAny_bind (wpAny_pure (wpAny_call ?_))
 refine codeAny_call_builtin F.attr_ValueError.ga.plain F.entry_bexc_ga ?_
 have hao:=F.args_bexc_ga (.ref x) (.str "__class__" t)
 simp only [checkBuiltinCall,hk,hs]; unfold isInstance
 repeat lk
 refine wpAny_run (zu6 (x:=x) X T p ?_)
 repeat lk
 exact q
end
theorem zns (T : XTell K C) : KitX K (.ref x) (.ref C) (XAt x C) where
 ty:=fun _ _ _ p=>p.ty
 it:=fun _ _ X _=>by
  obtain ⟨cd,hc,_⟩:=any_some T.dc
  unfold clsIn at hc; split at hc
  ·rename_i ho
   intro A' Q' E' s' k q
   unfold isType loadHead; exact wpAny_bind (wpAny_loadPart (k _ _ (X _ _ ho)) (wpAny_pure q))
  ·cases hc
 ne:=fun h tp dd its n sl X htp=>by
  obtain ⟨cd,hc,_⟩:=any_some T.dc
  refine Bool.eq_false_iff.mpr fun q=>?_
  obtain rfl : C = tp:=Value.ref.inj (beq_iff_eq.mp q)
  unfold clsIn at hc; split at hc
  ·rename_i ho
   have z:=(X _ _ ho).symm.trans htp; cases z
  ·cases hc
 ca:=fun X p k=>zqc X T p k
end
end L2
namespace L2
open PySem PySem.W PyProof.Rows
end L2
namespace L2
open PySem PySem.W PyProof.Rows
theorem zs4 {X : Cx} {st : Stmt} {t : TS} (h : PS X.nox st t) : PS X st t:=fun pins s σ H D I hw =>
 wpAny_mono (h pins s σ H D (I.wish _) hw) (fun _ _ q=>q.unwish) fun _ _ z=>False.elim z
end L2
namespace L2
open PySem PySem.W PySem.Spec PyProof.Rows
noncomputable abbrev QS:=List (Addr × List D)
noncomputable def SpOO (K : PySem.W.Frag) (pre : List D->Prop) (res : List D->List (List D)) : Sp:=fun vs H Q _=>∃ G ds,Same G H/\Reps K G ds vs/\pre ds /\ ∀ p (qs : QS) G' H',Ext G H G' H'->H p = none->G' p = none->H' p = some (.lst (qs.map fun q=>V.ref q.1))->(∀ q∈qs,OwnL K H G' H' q.1 q.2)->(p::qs.map (·.1)).Nodup->qs.map (·.2) = res ds->Q (.ref p) H'
noncomputable def RtOO (K : PySem.W.Frag) (G H₀ : Hp) (rt : VK) (dss : List (List D)) : Prop:=∀ p (qs : QS) F H,Ext G H₀ F H->H₀ p = none->F p = none->H p = some (.lst (qs.map fun q=>V.ref q.1))->(∀ q∈qs,OwnL K H₀ F H q.1 q.2)->(p::qs.map (·.1)).Nodup->qs.map (·.2) = dss->rt (.ref p) H
section
variable {K : PySem.W.Frag} {G H₀ L : Hp} {ss : List Sl} {i : Nat} {p : Addr} {kqs : KQ} {kvs : DD} {qs : QS} {E : Ends} {D0 : XK} {t : TA} {te ta td : TE} {d : D} {ds : List D} {dss : List (List D)} {pre : List D->Prop} {res : List D->List (List D)}
theorem zq7 (a : EvAF K G H₀ L ss t ds) (hp : pre ds) : EvOO K G H₀ L ss (zhg (SpOO K pre res) [] D0 t) (res ds):=fun F H σ Q S q =>
 a F H σ _ S fun vs F1 H1 e1 r1=>⟨F1,ds,e1.fh,by rw [List.append_nil]; exact r1,hp,fun p qs G' H' e2 h1 h2 h3 hq hn hm=>q p qs G' H' (e1.trans e2) (e1.hh.free h1) h2 h3 (fun z hz=>by
  obtain ⟨z1,z2,z3⟩:=hq z hz
  exact ⟨e1.hh.free z1,z2,z3⟩) hn hm⟩
theorem zxu {vs : List V} {H : Hp} {Q : VK} {X : XK} {N : List Str} {ts : TS} (h : SpOO K pre res vs H Q X) (hN : vs.length <= N.length) (body : ∀ G ds,pre ds->RtOO K G H Q (res ds)->Go K G H G { nx:=fun _ H'=>Q .non H',rt:=Q } (slots N.length ds) ts) : ts { nx:=fun _ H'=>Q .non H',rt:=Q } (start N vs) H:=by
 obtain ⟨G,ds,sm,r,hp,q⟩:=h
 exact body G ds hp (fun p ws F H' e h1 h2 h3 h4 h5 h6=>q p ws F H' e h1 h2 h3 h4 h5 h6) G H _ (zcs sm r hN)
theorem znn {vs : List V} {H : Hp} {Q : VK} {X : XK} {n : Nat} (hpre : ∀ ds,pre ds->ds.length = n) (h : SpOO K pre res vs H Q X) : vs.length = n:=by
 obtain ⟨G,ds,sm,r,hp,q⟩:=h
 rw [<- r.length]; exact hpre ds hp
theorem zpf (hs : ss[i]? = some (dls K p kqs)) (h : RtOO K G H₀ E.rt (kqs.map (·.2.2))) : Go K G H₀ L E ss (tRet (tCB zlp (zbh (tBM0 K "dict" zqp (tVar i)) tNil))):=fun F H σ S=>by
 obtain ⟨e,hoff,hp,hq⟩:=S.getL hs
 have hnd : (p::kqs.map (·.2.1)).Nodup:=S.nd i _ hs
 refine ⟨.ref p,e,.inr (.inr (.inl ⟨rfl,.inl ⟨_,hp⟩⟩)),p,_,rfl,rfl,hp,fun r hr=>?_⟩
 have hpr : p≠r:=fun z=>by rw [z,hr] at hp; cases hp
 refine ⟨r,p,_,rfl,zae,by rw [zaf hpr]; exact hp,fun l hl=>?_⟩
 have hlr : l≠r:=fun z=>by rw [z,zae] at hl; cases hl
 have hl0 : H l = none:=by rw [zaf hlr] at hl; exact hl
 refine h l (kqs.map fun z=>(z.2.1,z.2.2)) F _ (S.ext.trans ((Ext.newO ((Ext.refl S.ext.fh).newO hr) hl))) (S.ext.hh.free hl0) (S.ext.fh.free hl0) ?_ (fun z hz=>?_) ?_ (by rw [List.map_map]; rfl)
 ·rw [zae,List.map_map,List.map_map]; rfl
 ·obtain ⟨y,hy,rfl⟩:=List.mem_map.mp hz
  obtain ⟨_,_,vs,hv,rv⟩:=hq y hy
  obtain ⟨o1,o2⟩:=hoff y.2.1 (List.mem_cons_of_mem _ (List.mem_map.mpr ⟨y,hy,rfl⟩))
  have n1 : y.2.1≠l:=fun z=>by rw [z,hl0] at hv; cases hv
  have n2 : y.2.1≠r:=fun z=>by rw [z,hr] at hv; cases hv
  exact ⟨o1,o2,vs,by rw [zaf n1,zaf n2]; exact hv,rv⟩
 ·rw [List.map_map]
  refine List.nodup_cons.mpr ⟨fun hin=>?_,(List.nodup_cons.mp hnd).2⟩
  obtain ⟨y,hy,e2⟩:=List.mem_map.mp hin
  obtain ⟨_,_,vs,hv,_⟩:=hq y hy
  have e2 : y.2.1 = l:=e2
  rw [e2,hl0] at hv; cases hv
mutual
noncomputable def D.nm : D->Bool
 | .lst _=>false
 | .dct ks vs=>D.nms ks && D.nms vs
 | .dctT _ _=>false
 | .ins _ _ _=>false
 | .tup a=>D.nms a
 | _=>true
noncomputable def D.nms : List D->Bool
 | []=>true
 | a::x=>a.nm && D.nms x
end
noncomputable def cut (F : Hp) (as : List Addr) : Hp:=fun b=>if b∈as then none else F b
theorem zse (hs : ss[i]? = some (dsl K p kvs)) : EvO K G H₀ L ss (tCB zru (zbh (tVar i) tNil)) (kvs.map (·.1)):=fun F H σ Q S q=>by
 obtain ⟨e,h0,fp,xs,hp,dk⟩:=S.getM hs
 exact ⟨_,e,p,xs,rfl,hp,fun l hl=>q l _ F _ ((Ext.refl S.ext.fh).newO hl) hl (S.ext.fh.free hl) zae dk.reps.1⟩
end
end L2
namespace L2
open PySem PySem.W PySem.Spec PyProof.Rows
noncomputable def rIsN : R2:=fun x y H Q=>y = .non/\Q (.bl (decide (x = .non))) H
noncomputable def zw1 : R2:=fun x y H Q=>y = .non/\Q (.bl (!decide (x = .non))) H
theorem zhm {K : PySem.W.Frag} {H : Hp} {d : D} {x : V} (r : Rep K H d x) : (x = .non) ↔ d = .non:=by
 cases d with
 | non=>exact ⟨fun _=>rfl,fun _=>r.of_non⟩
 | bl b=>rw [r.of_bl]; exact ⟨fun h=>(by cases h),fun h=>(by cases h)⟩
 | int b=>rw [r.of_int]; exact ⟨fun h=>(by cases h),fun h=>(by cases h)⟩
 | str b=>rw [r.of_str]; exact ⟨fun h=>(by cases h),fun h=>(by cases h)⟩
 | lst b=>obtain ⟨p,xs,rfl,_⟩:=r.of_lst; exact ⟨fun h=>(by cases h),fun h=>(by cases h)⟩
 | tup b=>obtain ⟨p,xs,rfl,_⟩:=r.of_tup; exact ⟨fun h=>(by cases h),fun h=>(by cases h)⟩
 | dct a b=>obtain ⟨p,xs,rfl,_⟩:=r.of_dct; exact ⟨fun h=>(by cases h),fun h=>(by cases h)⟩
 | dctT a b=>rw [Rep] at r; obtain ⟨p,xs,rfl,_⟩:=r; exact ⟨fun h=>(by cases h),fun h=>(by cases h)⟩
 | ins a b c=>obtain ⟨p,dx,fs,rfl,_⟩:=r.of_ins; exact ⟨fun h=>(by cases h),fun h=>(by cases h)⟩
section
variable {K : PySem.W.Frag} {G H₀ L : Hp} {ss : List Sl} {i : Nat} {E : Ends} {te tk tv : TE} {k d : D} {c : TT} {tb : TS}
theorem zzd (a : EvB K G H₀ L ss te d) : Ev K G H₀ L ss (tOp rIsN te (tC .non)) (.bl (decide (d = .non))):=fun F H σ Q S q =>
 a F H σ _ S fun x F1 H1 e1 r1=>⟨rfl,by
  rw [decide_eq_decide.mpr (zhm r1)]
  exact q _ _ _ e1 Rep.bl⟩
theorem zqz (a : EvB K G H₀ L ss te d) : Ev K G H₀ L ss (tOp zw1 te (tC .non)) (.bl (!decide (d = .non))):=fun F H σ Q S q =>
 a F H σ _ S fun x F1 H1 e1 r1=>⟨rfl,by
  rw [decide_eq_decide.mpr (zhm r1)]
  exact q _ _ _ e1 Rep.bl⟩
theorem zj8 (I : Nat->List Sl->Prop) (m0 : Nat) (h0 : I m0 ss)
  (hs : ∀ m ss,I m ss -> ∃ b,EvT K G H₀ L ss c b/\(b = true -> ∀ N : St->Hp->Prop,(∀ m' ss,m' < m->I m' ss->Nx K G H₀ L N ss)->Go K G H₀ L { E with nx:=N,ct:=N,bk:=E.nx } ss tb)/\(b = false->Nx K G H₀ L E.nx ss)) : Go K G H₀ L E ss (zwc c tb):=fun F H σ S =>
 ⟨fun m σ' H'=>At K G H₀ L (I m) σ' H',⟨m0,ss,F,S,h0⟩,fun m σ' H' ⟨ss1,F1,S1,h1⟩=>by
  obtain ⟨b,ev,ht,hf⟩:=hs m ss1 h1
  refine ev F1 H' σ' _ S1 fun F2 H2 e2=>?_
  cases b with
  | true =>
   rw [if_pos rfl]
   exact ⟨fun σ'' H''=>∃ m',m' < m/\At K G H₀ L (I m') σ'' H'',fun σ'' H'' h=>h,ht rfl _ (fun m' ss hm hI=>fun F3 H3 σ3 S3=>⟨m',hm,ss,F3,S3,hI⟩) F2 H2 σ' (S1.ext2 e2)⟩
  | false =>
   rw [if_neg Bool.false_ne_true]
   exact hf rfl F2 H2 σ' (S1.ext2 e2)⟩
theorem zuq (b : EvB K G H₀ L ss tk k) (hk : k.isK = true) (a : Ev K G H₀ L ss tv d) (h : ∀ p,Nx K G H₀ L E.nx (ss.set i (dsl K p [(k,d)]))) : Go K G H₀ L E ss (tAsg (zy3 [(tk,tv)]) (zfj i)):=fun F H σ S p hp=>by
 have e0:=(Ext.refl S.ext.fh).newO (o:=.dK []) hp
 refine b F _ σ _ (S.ext2 e0) fun v F1 H1 e1 r1=>a F1 H1 σ _ ((S.ext2 e0).ext2 e1) fun w F2 H2 e2 r2=>?_
 have hp1 : H1 p = some (.dK []):=e1.hh p _ zae
 have hp2 : H2 p = some (.dK []):=e2.hh p _ hp1
 have fp : F2 p = none:=by rw [e2.no p _ hp1,e1.no p _ zae]; exact S.ext.fh.free hp
 refine ⟨hp2,[(k.key,w)],by rw [zdw hk r1]; rfl,by simp,?_⟩
 have e : Ext F H F2 (upd H2 p (.dK (zin [] [(k.key,w)]))):=((e0.trans e1).trans e2).write fp hp
 have S':=S.ext2 e
 refine h p F2 _ _ (S'.put S'.ext S'.fl (by simp) (fun j hj=>zbz (Ne.symm hj)) (fun hi=>?_) (by simp [dsl,Sl.ads]) (fun j s' hj hs q hq=>?_) fun j s' hj hs=>S'.ok j s' hs)
 ·rw [zbq (by rw [S.len]; exact hi)]
  exact ⟨rfl,fun a ha=>by rw [List.mem_singleton.mp ha]; exact ⟨S.ext.hh.free hp,fp,_,zae⟩,⟨[(k.key,w)],by rw [zae]; rfl,.cons hk (zl5 hk r1) r2 .nil⟩,ziy K p _⟩
 ·have : q = p:=by simpa [dsl,Sl.ads] using hq
  subst this
  exact fun hin=>(S.ok j s' hs).live hin hp
end
end L2
namespace L2
theorem zbu {α : Type} {P : List α->Prop} (h0 : P []) (hs : ∀ xs x,P xs->P (xs++[x])) (xs : List α) : P xs:=by
 have : ∀ ys : List α,P ys.reverse:=by
  intro ys
  induction ys with
  | nil=>exact h0
  | cons y ys ih=>rw [List.reverse_cons]; exact hs _ _ ih
 have:=this xs.reverse
 rwa [List.reverse_reverse] at this
section
variable {α β γ : Type} [DecidableEq α] [DecidableEq β] [DecidableEq γ] {f : α->β} {g : α->γ} {xs : List α} {x : α}
noncomputable def zem (f : α->β) (acc : List α) (x : α) : List α:=if (acc.any fun y=>decide (f y = f x)) = true then acc else acc++[x]
noncomputable def zby (f : α->β) (xs : List α) : List α:=xs.foldl (zem f) []
theorem zci : zby f (xs++[x]) = zem f (zby f xs) x:=by unfold zby; rw [List.foldl_append]; rfl
theorem zfu (v : β) : (∃ y∈zby f xs,f y = v) ↔ ∃ y∈xs,f y = v:=by
 induction xs using zbu with
 | h0=>simp [zby]
 | hs xs x ih =>
  rw [zci]
  unfold zem
  split
  ·rename_i h
   rw [List.any_eq_true] at h
   obtain ⟨y,hy,e⟩:=h
   have e:=of_decide_eq_true e
   rw [ih]
   constructor
   ·rintro ⟨z,hz,ez⟩; exact ⟨z,List.mem_append_left _ hz,ez⟩
   ·rintro ⟨z,hz,ez⟩
    rcases List.mem_append.mp hz with hz | hz
    ·exact ⟨z,hz,ez⟩
    ·rw [List.mem_singleton.mp hz] at ez
     exact ih.mp ⟨y,hy,e.trans ez⟩
  ·constructor
   ·rintro ⟨z,hz,ez⟩
    rcases List.mem_append.mp hz with hz | hz
    ·obtain ⟨w,hw,ew⟩:=ih.mp ⟨z,hz,ez⟩
     exact ⟨w,List.mem_append_left _ hw,ew⟩
    ·exact ⟨z,List.mem_append_right _ hz,ez⟩
   ·rintro ⟨z,hz,ez⟩
    rcases List.mem_append.mp hz with hz | hz
    ·obtain ⟨w,hw,ew⟩:=ih.mpr ⟨z,hz,ez⟩
     exact ⟨w,List.mem_append_left _ hw,ew⟩
    ·exact ⟨z,List.mem_append_right _ hz,ez⟩
theorem zhu {y : α} : y∈zby f xs->y∈xs:=by
 induction xs using zbu with
 | h0=>exact fun h=>h
 | hs xs x ih =>
  rw [zci]
  unfold zem
  split
  ·exact fun h=>List.mem_append_left _ (ih h)
  ·intro h
   rcases List.mem_append.mp h with h | h
   ·exact List.mem_append_left _ (ih h)
   ·exact List.mem_append_right _ h
theorem zos : ((zby f xs).map f).Nodup:=by
 induction xs using zbu with
 | h0=>exact List.nodup_nil
 | hs xs x ih =>
  rw [zci]
  unfold zem
  split
  ·exact ih
  ·rename_i h
   rw [List.map_append]
   refine List.nodup_append.mpr ⟨ih,by simp,fun a ha b hb e=>h ?_⟩
   obtain ⟨y,hy,ey⟩:=List.mem_map.mp ha
   have hb : b = f x:=by simpa using hb
   rw [List.any_eq_true]
   exact ⟨y,hy,decide_eq_true (ey.trans (e.trans hb))⟩
noncomputable def zbx (f : α->β) (xs : List α) : List (List α):=(zby f xs).map fun h=>xs.filter fun t=>decide (f t = f h)
noncomputable def ztb (xs : List α) (f : α->β) (g : α->γ) : Prop:=∀ a∈xs,∀ b∈xs,(f a = f b ↔ g a = g b)
theorem zm8 (h : ztb xs f g) : zby f xs = zby g xs:=by
 induction xs using zbu with
 | h0=>rfl
 | hs xs x ih =>
  rw [zci,zci,ih fun a ha b hb=>h a (List.mem_append_left _ ha) b (List.mem_append_left _ hb)]
  unfold zem
  have : ((zby g xs).any fun y=>decide (f y = f x)) = (zby g xs).any fun y=>decide (g y = g x):=by
   rw [Bool.eq_iff_iff,List.any_eq_true,List.any_eq_true]
   simp only [decide_eq_true_eq]
   constructor
   ·rintro ⟨y,hy,e⟩; exact ⟨y,hy,(h y (List.mem_append_left _ (zhu hy)) x (by simp)).mp e⟩
   ·rintro ⟨y,hy,e⟩; exact ⟨y,hy,(h y (List.mem_append_left _ (zhu hy)) x (by simp)).mpr e⟩
  rw [this]
theorem zf9 (h : ztb xs f g) : zbx f xs = zbx g xs:=by
 unfold zbx
 rw [zm8 h]
 refine List.map_congr_left fun y hy=>List.filter_congr fun t ht=>?_
 rw [Bool.eq_iff_iff,decide_eq_true_eq,decide_eq_true_eq]
 exact h t ht y (zhu hy)
theorem zii : (zbx f xs).length <= xs.length:=by
 unfold zbx
 rw [List.length_map]
 induction xs using zbu with
 | h0=>exact Nat.le_refl _
 | hs xs x ih =>
  rw [zci]
  unfold zem
  split <;> simp <;> omega
noncomputable def zey (k l : β) (f : α->β) : α->β:=fun t=>if f t = l then k else f t
theorem zg4 {k l : β} {x y a b : α} (h : (k = f x/\l = f y) \/ (k = f y/\l = f x)) : zey k l f a = zey k l f b ↔ f a = f b \/ ((f a = f x \/ f a = f y)/\(f b = f x \/ f b = f y)):=by
 unfold zey
 rcases h with ⟨rfl,rfl⟩ | ⟨rfl,rfl⟩
 ·by_cases h1 : f a = f y <;> by_cases h2 : f b = f y <;> simp [h1,h2]
  ·constructor
   ·intro e; exact .inr e.symm
   ·rintro (e | e)
    ·exact absurd e.symm h2
    ·exact e.symm
  ·intro e e2; exact e.trans e2.symm
 ·by_cases h1 : f a = f x <;> by_cases h2 : f b = f x <;> simp [h1,h2]
  ·constructor
   ·intro e; exact .inr e.symm
   ·rintro (e | e)
    ·exact absurd e.symm h2
    ·exact e.symm
  ·intro e e2; exact e.trans e2.symm
theorem zur {k l : β} {k' l' : γ} {x y : α} (hx : x∈xs) (hy : y∈xs) (h : ztb xs f g) (h1 : (k = f x/\l = f y) \/ (k = f y/\l = f x)) (h2 : (k' = g x/\l' = g y) \/ (k' = g y/\l' = g x)) : ztb xs (zey k l f) (zey k' l' g):=fun a ha b hb=>by
 rw [zg4 h1,zg4 h2,h a ha b hb,h a ha x hx,h a ha y hy,h b hb x hx,h b hb y hy]
variable {enc : α->D} {encB : β->D}
noncomputable def dA (enc : α->D) (encB : β->D) (xs : List α) (f : α->β) : DD:=xs.map fun t=>(enc t,encB (f t))
theorem zcc (hi : ∀ a b,enc a = enc b->a = b) (h : x∈xs) : valD (dA enc encB xs f) (enc x) = some (encB (f x)):=by
 induction xs with
 | nil=>cases h
 | cons y ys ih =>
  by_cases e : y = x
  ·subst e; simp [valD,dA]
  ·have e2 : enc y≠enc x:=fun z=>e (hi _ _ z)
   have : valD (dA enc encB (y::ys) f) (enc x) = valD (dA enc encB ys f) (enc x):=by simp [valD,dA,List.find?_cons,e2]
   rw [this]
   rcases List.mem_cons.mp h with z | z
   ·exact absurd z.symm e
   ·exact ih z
theorem zud (hi : ∀ a b,enc a = enc b->a = b) (h : x ∉ xs) : valD (dA enc encB xs f) (enc x) = none:=by
 induction xs with
 | nil=>rfl
 | cons y ys ih =>
  have e2 : enc y≠enc x:=fun z=>h (by rw [hi _ _ z]; exact List.mem_cons_self)
  have : valD (dA enc encB (y::ys) f) (enc x) = valD (dA enc encB ys f) (enc x):=by simp [valD,dA,List.find?_cons,e2]
  rw [this]
  exact ih fun z=>h (List.mem_cons_of_mem _ z)
theorem zwj (hi : ∀ a b,enc a = enc b->a = b) : ((dA enc encB xs f).any fun kv=>decide (kv.1 = enc x)) = true ↔ x∈xs:=by
 rw [List.any_eq_true]
 constructor
 ·rintro ⟨kv,hkv,e⟩
  obtain ⟨y,hy,rfl⟩:=List.mem_map.mp hkv
  rw [<- hi _ _ (of_decide_eq_true e)]; exact hy
 ·intro h; exact ⟨_,List.mem_map.mpr ⟨x,h,rfl⟩,by simp⟩
theorem zmd (hi : ∀ a b,enc a = enc b->a = b) (h : x∈xs) (v : β) : putD (dA enc encB xs f) (enc x) (encB v) = dA enc encB xs (fun u=>if u = x then v else f u):=by
 unfold putD
 rw [if_pos ((zwj hi).mpr h)]
 unfold dA
 rw [List.map_map]
 refine List.map_congr_left fun u _=>?_
 show (if enc u = enc x then (enc u,encB v) else (enc u,encB (f u))) = (enc u,encB (if u = x then v else f u))
 by_cases e : u = x
 ·rw [if_pos (by rw [e]),if_pos e]
 ·rw [if_neg fun z=>e (hi _ _ z),if_neg e]
theorem zgt (hi : ∀ a b,enc a = enc b->a = b) (h : x ∉ xs) : putD (dA enc encB xs f) (enc x) (encB (f x)) = dA enc encB (xs++[x]) f:=by
 unfold putD
 rw [if_neg fun z=>h ((zwj hi).mp z)]
 unfold dA
 rw [List.map_append]
 rfl
theorem zj3 {g : α->β} (h : ∀ a∈xs,f a = g a) : dA enc encB xs f = dA enc encB xs g:=by
 unfold dA
 exact List.map_congr_left fun a ha=>by rw [h a ha]
noncomputable def grpD (enc : α->D) (encB : β->D) (f : α->β) (xs : List α) : List (D × List D):=(zby f xs).map fun h=>(encB (f h),(xs.filter fun t=>decide (f t = f h)).map enc)
theorem zsz (hi : ∀ a b,encB a = encB b->a = b) {F : α->List D} {d : D} : ∀ {hs : List α},(hs.map f).Nodup->(∃ h∈hs,f h = f x)->appD (hs.map fun h=>(encB (f h),F h)) (encB (f x)) d = hs.map fun h=>(encB (f h),if f h = f x then F h++[d] else F h)
 | [],_,h=>by obtain ⟨_,h,_⟩:=h; cases h
 | y::ys,hn,h=>by
  rw [List.map_cons,List.map_cons,appD]
  rw [List.map_cons,List.nodup_cons] at hn
  by_cases e : f y = f x
  ·rw [if_pos (by show encB (f y) = encB (f x); rw [e]),if_pos e]
   congr 1
   refine List.map_congr_left fun z hz=>?_
   have : f z≠f x:=fun w=>hn.1 (by rw [e,<- w]; exact List.mem_map_of_mem hz)
   rw [if_neg this]
  ·rw [if_neg (fun z=>e (hi _ _ z)),if_neg e]
   congr 1
   refine zsz hi hn.2 ?_
   obtain ⟨z,hz,ez⟩:=h
   rcases List.mem_cons.mp hz with rfl | hz
   ·exact absurd ez e
   ·exact ⟨z,hz,ez⟩
theorem zow (hi : ∀ a b,encB a = encB b->a = b) {F : α->List D} {d : D} : ∀ {hs : List α},(∀ h∈hs,f h≠f x)->appD (hs.map fun h=>(encB (f h),F h)) (encB (f x)) d = (hs.map fun h=>(encB (f h),F h))++[(encB (f x),[d])]
 | [],_=>rfl
 | y::ys,h=>by
  rw [List.map_cons,appD,if_neg (fun z=>h y List.mem_cons_self (hi _ _ z)),zow hi fun z hz=>h z (List.mem_cons_of_mem _ hz)]
  rfl
theorem zvl (hi : ∀ a b,encB a = encB b->a = b) : appD (grpD enc encB f xs) (encB (f x)) (enc x) = grpD enc encB f (xs++[x]):=by
 unfold grpD
 rw [zci]
 unfold zem
 have ef : ∀ h,((xs++[x]).filter fun t=>decide (f t = f h)).map enc = if f h = f x then (xs.filter fun t=>decide (f t = f h)).map enc++[enc x] else (xs.filter fun t=>decide (f t = f h)).map enc:=fun h=>by
  rw [List.filter_append]
  by_cases e : f h = f x
  ·rw [if_pos e,List.filter_cons_of_pos (by simp [e]),List.filter_nil,List.map_append]; rfl
  ·rw [if_neg e,List.filter_cons_of_neg (by simp; exact fun z=>e z.symm),List.filter_nil,List.append_nil]
 split
 ·rename_i h
  rw [List.any_eq_true] at h
  obtain ⟨y,hy,e⟩:=h
  rw [zsz hi zos ⟨y,hy,of_decide_eq_true e⟩]
  exact List.map_congr_left fun h _=>by rw [ef]
 ·rename_i h
  have hno : ∀ y∈zby f xs,f y≠f x:=fun y hy e=>h (by rw [List.any_eq_true]; exact ⟨y,hy,decide_eq_true e⟩)
  rw [zow hi hno,List.map_append]
  congr 1
  ·exact List.map_congr_left fun h hh=>by rw [ef,if_neg (hno h hh)]
  ·rw [List.map_singleton,ef,if_pos rfl]
   have : (xs.filter fun t=>decide (f t = f x)) = []:=by
    rw [List.filter_eq_nil_iff]
    intro t ht e
    obtain ⟨z,hz,ez⟩:=(zfu (f:=f) (xs:=xs) (f x)).mpr ⟨t,ht,of_decide_eq_true e⟩
    exact hno z hz ez
   rw [this]; rfl
theorem zug : (grpD enc encB f xs).length <= xs.length:=by
 have:=zii (f:=f) (xs:=xs)
 unfold zbx at this
 unfold grpD
 simpa using this
theorem zrw {q : D × List D} (h : q∈grpD enc encB f xs) : q.2.length <= xs.length:=by
 unfold grpD at h
 obtain ⟨y,_,rfl⟩:=List.mem_map.mp h
 rw [List.length_map]
 exact List.length_filter_le ..
end
end L2
namespace L2
section
variable {α : Type} [DecidableEq α]
structure Bfs (adj : α->α->Prop) (one : α) (R : List α) (par : α->Option α) (lev : α->Nat) : Prop where
 nd : R.Nodup
 one_in : one∈R
 par0 : par one = none
 lev0 : lev one = 0
 par_of : ∀ c∈R,c≠one -> ∃ h∈R,par c = some h/\adj h c/\lev c = lev h + 1
 mono : R.Pairwise fun a b=>lev a <= lev b
 bnd : ∀ c∈R,lev c < R.length
variable {adj : α->α->Prop} {one other : α} {R : List α} {par : α->Option α} {lev : α->Nat} {k : Nat}
noncomputable def zms (adj : α->α->Prop) (R : List α) (lev : α->Nat) (k : Nat) : Prop:=∀ j h,j < k->R[j]? = some h -> ∀ y,adj h y->y∈R/\lev y <= lev h + 1
noncomputable def BTop (R : List α) (lev : α->Nat) (k : Nat) : Prop:=∀ h,R[k]? = some h -> ∀ c∈R,lev c <= lev h + 1
theorem Bfs.start (adj : α->α->Prop) (one : α) : Bfs adj one [one] (fun _=>none) (fun _=>0) :=
 ⟨by simp,by simp,rfl,rfl,fun c hc h=>absurd (List.mem_singleton.mp hc) h,by simp,fun _ _=>by simp⟩
theorem Bfs.add (B : Bfs adj one R par lev) {h c : α} (hk : R[k]? = some h) (top : BTop R lev k) (dn : zms adj R lev k) (hc : c ∉ R) (ha : adj h c) :
  Bfs adj one (R++[c]) (fun u=>if u = c then some h else par u) (fun u=>if u = c then lev h + 1 else lev u)/\BTop (R++[c]) (fun u=>if u = c then lev h + 1 else lev u) k/\zms adj (R++[c]) (fun u=>if u = c then lev h + 1 else lev u) k/\(R++[c])[k]? = some h:=by
 have hR : h∈R:=List.mem_of_getElem? hk
 have ne : ∀ u∈R,u≠c:=fun u hu e=>hc (e ▸ hu)
 have hkl:=(List.getElem?_eq_some_iff.mp hk).1
 have hk2 : (R++[c])[k]? = some h:=by rw [List.getElem?_append_left hkl]; exact hk
 have hh : (if h = c then lev h + 1 else lev h) = lev h:=if_neg (ne h hR)
 refine ⟨⟨?_,List.mem_append_left _ B.one_in,?_,?_,fun u hu huo=>?_,?_,fun u hu=>?_⟩,fun g hg u hu=>?_,fun j g hj hg y hy=>?_,hk2⟩
 ·exact List.nodup_append.mpr ⟨B.nd,by simp,fun a ha b hb e=>ne a ha (e.trans (List.mem_singleton.mp hb))⟩
 ·show (if one = c then some h else par one) = none
  rw [if_neg (ne one B.one_in)]; exact B.par0
 ·show (if one = c then lev h + 1 else lev one) = 0
  rw [if_neg (ne one B.one_in)]; exact B.lev0
 ·rcases List.mem_append.mp hu with hu | hu
  ·obtain ⟨g,hg,h1,h2,h3⟩:=B.par_of u hu huo
   refine ⟨g,List.mem_append_left _ hg,?_,h2,?_⟩
   ·show (if u = c then some h else par u) = some g
    rw [if_neg (ne u hu)]; exact h1
   ·show (if u = c then lev h + 1 else lev u) = (if g = c then lev h + 1 else lev g) + 1
    rw [if_neg (ne u hu),if_neg (ne g hg)]; exact h3
  ·have e:=List.mem_singleton.mp hu
   subst e
   refine ⟨h,List.mem_append_left _ hR,?_,ha,?_⟩
   ·show (if u = u then some h else par u) = some h
    rw [if_pos rfl]
   ·show (if u = u then lev h + 1 else lev u) = (if h = u then lev h + 1 else lev h) + 1
    rw [if_pos rfl,hh]
 ·rw [List.pairwise_append]
  refine ⟨?_,by simp,fun a ha b hb=>?_⟩
  ·refine List.Pairwise.imp_of_mem (fun {a b} ha hb h=>?_) B.mono
   show (if a = c then lev _ + 1 else lev a) <= (if b = c then lev _ + 1 else lev b)
   rw [if_neg (ne a ha),if_neg (ne b hb)]; exact h
  ·show (if a = c then lev h + 1 else lev a) <= (if b = c then lev h + 1 else lev b)
   rw [if_neg (ne a ha),if_pos (List.mem_singleton.mp hb)]
   exact top h hk a ha
 ·show (if u = c then lev h + 1 else lev u) < (R++[c]).length
  rw [List.length_append,List.length_singleton]
  by_cases e : u = c
  ·rw [if_pos e]; have:=B.bnd h hR; lia
  ·rw [if_neg e]
   rcases List.mem_append.mp hu with hu | hu
   ·have:=B.bnd u hu; lia
   ·exact absurd (List.mem_singleton.mp hu) e
 ·rw [hk2] at hg
  cases hg
  show (if u = c then lev h + 1 else lev u) <= (if h = c then lev h + 1 else lev h) + 1
  rw [hh]
  by_cases e : u = c
  ·rw [if_pos e]; exact Nat.le_refl _
  ·rw [if_neg e]
   rcases List.mem_append.mp hu with hu | hu
   ·exact top h hk u hu
   ·exact absurd (List.mem_singleton.mp hu) e
 ·rw [List.getElem?_append_left (by lia)] at hg
  obtain ⟨h1,h2⟩:=dn j g hj hg y hy
  have hgR : g∈R:=List.mem_of_getElem? hg
  refine ⟨List.mem_append_left _ h1,?_⟩
  show (if y = c then lev h + 1 else lev y) <= (if g = c then lev h + 1 else lev g) + 1
  rw [if_neg (ne y h1),if_neg (ne g hgR)]; exact h2
theorem Bfs.next (B : Bfs adj one R par lev) {h : α} (hk : R[k]? = some h) (top : BTop R lev k) (dn : zms adj R lev k) (hn : ∀ y,adj h y->y∈R/\lev y <= lev h + 1) : BTop R lev (k + 1)/\zms adj R lev (k + 1):=by
 refine ⟨fun g hg c hc=>?_,fun j g hj hg y hy=>?_⟩
 ·have h1:=List.getElem?_eq_some_iff.mp hk
  have h2:=List.getElem?_eq_some_iff.mp hg
  have:=(List.pairwise_iff_getElem.mp B.mono) k (k + 1) h1.1 h2.1 (by lia)
  rw [h1.2,h2.2] at this
  have:=top h hk c hc
  lia
 ·rcases Nat.lt_or_ge j k with c | c
  ·exact dn j g c hg y hy
  ·have : j = k:=by lia
   subst this
   rw [hk] at hg; cases hg
   exact hn y hy
theorem zqg (dn : zms adj R lev R.length) : ∀ h∈R,∀ y,adj h y->y∈R/\lev y <= lev h + 1:=fun h hh y hy=>by
 obtain ⟨j,hj⟩:=List.mem_iff_getElem?.mp hh
 exact dn j h (List.getElem?_eq_some_iff.mp hj).1 hj y hy
theorem Bfs.all (B : Bfs adj one R par lev) {P : α->Prop} (h0 : P one) (hs : ∀ a b,a∈R->adj a b->P a->P b) : ∀ c∈R,P c:=by
 have : ∀ n,∀ c∈R,lev c = n->P c:=by
  intro n
  induction n using Nat.strongRecOn with
  | _ n ih =>
   intro c hc e
   by_cases h : c = one
   ·rw [h]; exact h0
   ·obtain ⟨g,hg,_,ha,hl⟩:=B.par_of c hc h
    exact hs g c hg ha (ih (lev g) (by lia) g hg rfl)
 exact fun c hc=>this _ c hc rfl
structure Chn (adj : α->α->Prop) (R : List α) (lev : α->Nat) (one other : α) (ch : List α) (cur : Option α) : Prop where
 at_ : ∀ c,cur = some c->c∈R/\lev c + ch.length = lev other /\ ∀ l,ch.getLast? = some l->adj c l
 end_ : cur = none->ch.getLast? = some one/\ch.length = lev other + 1
 adj : ∀ (i : Nat) a b,ch[i]? = some a->ch[i + 1]? = some b->adj b a
 head : ∀ l,ch.head? = some l->l = other
 empty : ch = []->cur = some other
theorem Chn.start (ho : other∈R) : Chn adj R lev one other [] (some other) where
 at_:=fun c e=>by cases e; exact ⟨ho,by simp,fun l e=>by simp at e⟩
 end_:=fun e=>by cases e
 adj:=fun i a b e=>by simp at e
 head:=fun l e=>by simp at e
 empty:=fun _=>rfl
theorem zgb {β : Type} (l : List β) (x : β) : (l++[x]).getLast? = some x:=by simp
theorem Chn.step (B : Bfs adj one R par lev) {ch : List α} {c : α} (C : Chn adj R lev one other ch (some c)) : Chn adj R lev one other (ch++[c]) (par c):=by
 obtain ⟨hc,hl,hla⟩:=C.at_ c rfl
 refine ⟨fun d e=>?_,fun e=>?_,fun i a b ha hb=>?_,fun l e=>?_,fun e=>by simp at e⟩
 ·have hne : c≠one:=fun z=>by rw [z,B.par0] at e; cases e
  obtain ⟨h,hh,h1,h2,h3⟩:=B.par_of c hc hne
  rw [h1] at e; cases e
  refine ⟨hh,by rw [List.length_append,List.length_singleton]; lia,fun l e=>?_⟩
  rw [zgb] at e; cases e; exact h2
 ·have hone : c = one:=Classical.byContradiction fun hne=>by
   obtain ⟨h,hh,h1,h2,h3⟩:=B.par_of c hc hne
   rw [h1] at e; cases e
  rw [zgb]
  refine ⟨by rw [hone],?_⟩
  rw [List.length_append,List.length_singleton,<- hl,hone,B.lev0]; lia
 ·rcases Nat.lt_trichotomy (i + 1) ch.length with h | h | h
  ·rw [List.getElem?_append_left (by omega)] at ha hb
   exact C.adj i a b ha hb
  ·rw [List.getElem?_append_left (by lia)] at ha
   rw [List.getElem?_append_right (by lia),h,Nat.sub_self] at hb
   simp at hb; subst hb
   refine hla a ?_
   rw [List.getLast?_eq_getElem?,show ch.length - 1 = i by lia]; exact ha
  ·rw [List.getElem?_eq_none (by rw [List.length_append,List.length_singleton]; lia)] at hb; cases hb
 ·cases hch : ch with
  | nil =>
   rw [hch] at e
   simp at e
   have:=C.empty hch
   cases this
   exact e.symm
  | cons y ys =>
   rw [hch] at e
   simp at e
   exact C.head l (by rw [hch]; simp [e])
structure ChnOk (adj : α->α->Prop) (one other : α) (n : Nat) (l : List α) : Prop where
 len : l.length = n + 1
 first : l[0]? = some one
 last : l[n]? = some other
 adj : ∀ (i : Nat) a b,l[i]? = some a->l[i + 1]? = some b->adj a b
theorem Chn.done {ch : List α} (C : Chn adj R lev one other ch none) : ChnOk adj one other (lev other) ch.reverse:=by
 obtain ⟨h1,h2⟩:=C.end_ rfl
 have hl : ch.reverse.length = lev other + 1:=by rw [List.length_reverse]; exact h2
 refine ⟨hl,?_,?_,fun i a b ha hb=>?_⟩
 ·rw [List.getElem?_reverse (by lia),<- h1,List.getLast?_eq_getElem?]; rfl
 ·rw [List.getElem?_reverse (by lia),show ch.length - 1 - lev other = 0 by lia]
  cases hch : ch with
  | nil=>rw [hch] at h2; simp at h2
  | cons y ys=>rw [List.getElem?_cons_zero,C.head y (by rw [hch]; rfl)]
 ·have hb2:=(List.getElem?_eq_some_iff.mp hb).1
  rw [hl] at hb2
  rw [List.getElem?_reverse (by lia)] at ha hb
  refine C.adj (ch.length - 1 - (i + 1)) b a hb ?_
  rw [show ch.length - 1 - (i + 1) + 1 = ch.length - 1 - i by lia]; exact ha
theorem Bfs.round (B : Bfs adj one R par lev) (dn : ∀ h∈R,∀ y,adj h y->y∈R/\lev y <= lev h + 1) {S cards : List α} {r : Nat} (sym : ∀ a b,adj a b->adj b a) (hR : ∀ c∈R,c∈cards) (hS : ∀ c,c∈S ↔ c∈R/\lev c <= r) (new : List α) (hnew : ∀ c,c∈new ↔ c∈cards/\c ∉ S /\ ∃ y∈S,adj c y) : ∀ c,c∈S++new ↔ c∈R/\lev c <= r + 1:=fun c=>by
 rw [List.mem_append,hS,hnew]
 constructor
 ·rintro (⟨h1,h2⟩ | ⟨h1,h2,y,hy,ha⟩)
  ·exact ⟨h1,by lia⟩
  ·obtain ⟨y1,y2⟩:=(hS y).mp hy
   obtain ⟨z1,z2⟩:=dn y y1 c (sym _ _ ha)
   exact ⟨z1,by lia⟩
 ·rintro ⟨h1,h2⟩
  by_cases h : lev c <= r
  ·exact .inl ⟨h1,h⟩
  ·refine .inr ⟨hR c h1,fun z=>h ((hS c).mp z).2,?_⟩
   have hne : c≠one:=fun z=>by rw [z,B.lev0] at h; lia
   obtain ⟨g,hg,_,ha,hl⟩:=B.par_of c h1 hne
   exact ⟨g,(hS g).mpr ⟨hg,by lia⟩,sym _ _ ha⟩
end
end L2
namespace PySem
open Sem (wp)
section
variable {prog : Program} {w : World} {A : Around} {E : Value->Shared->Prop} {h : Heap} {g : Array GenState} {d : Drawn} {t : Nat} {os : OsState}
variable {nm q : Str} {C N : Addr} {bs bm bmB : List Value} {hdct : Bool} {sn : List Str} {sub : List Value} {ab : Bool} {col : Option Bool} {dd : Option Addr} {k0 k1 k2 k3 k5 : Option Value} {B Bn newId nid initId inN : String} {bmN : List Value}
theorem zhd (Fn : ExcBaseFacts Bn newId inN bmN) (hBn : bmB.contains (.type Bn) = true) (F : ExcBaseFacts B nid initId bmB) (T : OwnTail h bmB bm) {mN : Str->Option Value} {rest : List Value} {fI : Addr} {oI : Obj} {Q : Fin->Shared->Prop}
  (hC : h.get? C = some (excClassObj nm q C N bs bm hdct sn sub ab col dd k0 k1 k2 k3 k5 newId)) (hn : h.Ns N mN) (hi : mN "__init__" = some (.ref fI)) (hfI : h.get? fI = some oI) (hfc : oI.cls = .type "function")
  (hq : ∀ h' e,h.objs.size <= e->Heap.MadeExcOf h h' e (.ref C) rest->wpAny (model prog w) A (call (.ref fI) (.ref e::rest)) (fun r s'=>r = .none/\Q (.done (.ret (.ref e))) s') E ⟨h',g,d,t,os⟩) (hrest : rest.length <= sizeLine) :
  wpAny (model prog w) A (Builtin.«type.__call__» ⟨.ref C::rest,[]⟩) Q E ⟨h,g,d,t,os⟩:=by
 repeat (first | with_reducible refine wpAny_loadPart_at hC ?_ | with_reducible refine wpAny_madeBy_exc hC ?_ | wp_step)
 refine codeAny_call_builtin_code (Code.quiet_builtin _ Fn.quiet) (wpAny_check_new_subU Fn hBn T hC ?_)
 refine codeAny_exc_new_subU Fn hBn F T hC ?_ hrest
 show wpAny _ _ _ _ _ _
 have k2 : ∀ b o,h.get? b = some o->((h.push { cls:=.type "tuple", data:=.seq rest.toArray }).push { cls:=.ref C,data:=.fields #[.ref h.objs.size,.none,.none,.none,.bool false,.none] }).get? b = some o:=fun b o e=>Heap.get?_push_of_some _ (Heap.get?_push_of_some _ e)
 have hC1:=k2 _ _ hC
 have hf1:=k2 _ _ hfI
 have hn1 : ((h.push { cls:=.type "tuple", data:=.seq rest.toArray }).push { cls:=.ref C,data:=.fields #[.ref h.objs.size,.none,.none,.none,.bool false,.none] }).Ns N mN:=let ⟨o,es,ep,e,r⟩:=hn; ⟨o,es,ep,k2 _ _ e,r⟩
 have hget : ((h.push { cls:=.type "tuple", data:=.seq rest.toArray }).push { cls:=.ref C,data:=.fields #[.ref h.objs.size,.none,.none,.none,.bool false,.none] }).get? (h.objs.size + 1) = some { cls:=.ref C,data:=.fields #[.ref h.objs.size,.none,.none,.none,.bool false,.none] }:=by heap_get
 have hcC : (Value.ref C::bm).contains (.ref C) = true:=by simp
 have T1:=T.keeps k2
 unfold isInstance
 repeat (first | with_reducible refine wpAny_loadPart_at hget ?_ | (with_reducible refine wpAny_isSubtype_exc hC1 ?_; rw [hcC]) | wp_step)
 show wpAny _ _ (typeLookup (.ref C) _) _ _ _
 refine wpAny_typeLookup_tail hC1 hn1 T1 F.mroIs F.init.lookup ?_
 rw [hi]
 refine wpAny_holding (wpAny_bind ?_)
 unfold bindSpecial
 refine wpAny_bind (wpAny_typeOf (T:="function") ⟨_,hf1,hfc⟩ ?_)
 rw [if_pos (by decide)]
 refine wpAny_pure (wpAny_bind (wpAny_mono (hq _ (h.objs.size + 1) (Nat.le_succ _) ⟨k2,Heap.get?_none_of_le (Nat.le_succ _),h.objs.size,hget,Heap.get?_none_of_le (Nat.le_refl _),?_⟩) (fun r s' hr=>?_) fun _ _ x=>x))
 ·exact Heap.get?_push_of_some _ (Heap.get?_push_at rfl rfl)
 ·obtain ⟨rfl,hQ⟩:=hr
  wp_walk
  exact hQ
theorem zpn (Fn : ExcBaseFacts Bn newId inN bmN) (hBn : bmB.contains (.type Bn) = true) (F : ExcBaseFacts B nid initId bmB) (T : OwnTail h bmB bm) {mN : Str->Option Value} {rest : List Value} {fI : Addr} {oI : Obj} {Q : Value->Shared->Prop}
  (hC : h.get? C = some (excClassObj nm q C N bs bm hdct sn sub ab col dd k0 k1 k2 k3 k5 newId)) (hn : h.Ns N mN) (hi : mN "__init__" = some (.ref fI)) (hfI : h.get? fI = some oI) (hfc : oI.cls = .type "function")
  (hq : ∀ h' e,h.objs.size <= e->Heap.MadeExcOf h h' e (.ref C) rest->wpAny (model prog w) (A.under (.builtin "type.__call__" ⟨.ref C::rest,[]⟩)) (call (.ref fI) (.ref e::rest)) (fun r s'=>r = .none/\Q (.ref e) s') E ⟨h',g,d,t,os⟩) (hrest : rest.length <= sizeLine) :
  wpAny (model prog w) A (call (.ref C) rest) Q E ⟨h,g,d,t,os⟩:=by
 have f1:=tc_lookup
 have f2:=tc_bind (.ref C)
 have hT : (⟨h,g,d,t,os⟩ : Shared).TypeIs (.ref C) "type" := ⟨_,hC,rfl⟩
 refine wpAny_call (codeAny_of_tree ?_)
 show wpAny _ _ (callAny (.ref C) _) _ _ _
 repeat (any_goals (first | assumption | with_reducible refine wpAny_loadPart_at hC ?_ | wp_step))
 refine ⟨rfl,?_⟩
 exact codeAny_call_builtin_at (Code.quiet_builtin _ (by decide +kernel)) entry_typeCall (wpAny_check_type_call_sub hC (zhd (hrest:=hrest) Fn hBn F T hC hn hi hfI hfc fun h' e hs hm=>hq h' e hs hm))
end
end PySem
namespace L2
open PySem PySem.W PySem.Spec PyProof.Rows
noncomputable def excInI (K : PySem.W.Frag) (C : Addr) (bmB : List Value) (newId : String) (fI : Addr) : Bool:=match K.lookup C with
 | some ⟨.type "type", _,.cls cd,sl⟩=>(match cd.mro,sl.toList with
  | .ref C'::bm,[_,_,_,_,some (.builtin n),_]=>C' == C && n == newId && !cd.hasDel && tailIn K bmB bm && nsOkIn K cd.ns && nsIn K cd.ns "__init__" == some (some (.ref fI))
  | _,_=>false)
 | _=>false
noncomputable def znb (K : PySem.W.Frag) (C fI : Addr) : Prop:=excInI K C vmro "ValueError.__new__" fI = true
theorem ybb {K : PySem.W.Frag} {h : Heap} {N : Addr} {m : Str->Option Value} {n : Str} {v : Value} (X : K.In h) (G : h.Ns N m) (e : nsIn K N n = some (some v)) : m n = some v:=by
 obtain ⟨o,es,ep,ho,hd,_,hf⟩:=G
 unfold nsIn at e
 split at e
 ·rename_i c d es' n' sl q
  have:=X _ _ q
  rw [ho] at this
  cases this
  cases hd
  split at e
  ·rename_i en he
   cases e
   rw [<- hf]
   unfold nsFind findBy
   rw [<- Array.find?_toList,he]
   rfl
  ·split at e <;> cases e
 ·cases e
theorem zjw {K : PySem.W.Frag} {h : Heap} {C fI : Addr} (X : K.In h) (q : znb K C fI) : ∃ tl N nm q bs hdct sn sub ab col dd k0 k1 k2 k3 k5 mN,h.get? C = some (excClassObj nm q C N bs tl hdct sn sub ab col dd k0 k1 k2 k3 k5 "ValueError.__new__")/\h.Ns N mN/\mN "__init__" = some (.ref fI)/\OwnTail h vmro tl:=by
 unfold znb excInI at q
 split at q
 ·rename_i dd cd sl ho
  split at q
  ·rename_i C' bm k0 k1 k2 k3 n k5 hm hs
   simp only [Bool.and_eq_true,beq_iff_eq,Bool.not_eq_true'] at q
   obtain ⟨⟨⟨⟨⟨rfl,rfl⟩,hdel⟩,ht⟩,hok⟩,hni⟩:=q
   obtain ⟨nm,bs,mro,ns,qn,hd,sn,sub,ab,col,del⟩:=cd
   dsimp only at hm hdel hok hni
   subst hm hdel
   have hsl : sl = #[k0,k1,k2,k3,some (.builtin "ValueError.__new__"),k5]:=by
    obtain ⟨l⟩:=sl
    simp only at hs
    rw [hs]
   subst hsl
   exact ⟨bm,ns,nm,qn,bs,hd,sn,sub,ab,col,dd,k0,k1,k2,k3,k5,_,X _ _ ho,.of_isNs (isNs_of_in X hok),ybb X (.of_isNs (isNs_of_in X hok)) hni,tail_of_in X ht⟩
  ·cases q
 ·cases q
noncomputable def zrj (e C : Addr) (dd : Option Addr) (h : Heap) : Prop:=∃ t : Value,h.get? e = some { cls:=.ref C,dict:=dd,data:=.fields #[t,.none,.none,.none,.bool false,.none] }
noncomputable def ErrO (e C : Addr) (dd : Option Addr) : HO:=.ext (zrj e C dd)
theorem zmp {P : Program} {w : World} {H : Hp} {h : Heap} {e C : Addr} {dd : Option Addr} (x : zrj e C dd h) : zce P w H h e (ErrO e C dd) :=
 ⟨x,let ⟨_,q⟩:=x; ⟨_,q⟩,fun h1 h2 ⟨t,q⟩ k=>⟨t,k _ q⟩⟩
theorem Inv.errMade {X : Cx} {pins : List (Addr × Obj)} {σ : St} {H : Hp} {s : Shared} {h' : Heap} {e C : Addr} {rest : List Value} (I : Inv X pins σ H s) (hs : s.heap.objs.size <= e) (m : Heap.MadeExcOf s.heap h' e (.ref C) rest) :
  Inv X pins σ (upd H e (ErrO e C none)) { s with heap:=h',toks:=s.toks }:=by
 obtain ⟨t,q,_,_⟩:=m.there
 exact I.laid (t':=s.toks) (fun b u z=>m.keeps b u z) hs (zmp ⟨.ref t,q⟩)
end L2
namespace L2
open PySem PySem.Spec PyProof.Rows
end L2
namespace L2
open PySem PySem.W PySem.Spec PyProof.Rows
structure CMeth (K : PySem.W.Frag) (C : Addr) (m : Str) (f : Addr) : Prop where
 ga : specialIn K (.ref C) "__getattribute__" = some (some (.builtin "type.__getattribute__"))
 rd : readsIn K C (.type "type") = true
 fc : findCls K (.ref C) (.type "type") m = some (.val (.ref f))
 kp : keepIn K (.ref f) = true
end L2
namespace L2
open PySem PySem.W PySem.Spec PyProof.Rows
end L2
namespace L2
open PySem PySem.W PySem.Spec PyProof.Rows
section
variable {X : Cx} {a b : Str} {e : Expr} {te : TE} {k1 k2 : Nat} {p1 p2 p3 pos : Pos}
theorem zuc {x : Str} {u : Value} (r : RelV (.str x) u) : ∃ t,u = .str x t:=r
end
end L2
namespace L2
open PySem PySem.W PySem.Spec PyProof.Rows
structure CInitB (K : PySem.W.Frag) (C : Addr) : Prop where
 ga : specialIn K (.ref C) "__getattribute__" = some (some (.builtin "type.__getattribute__"))
 rd : readsIn K C (.type "type") = true
 fc : findCls K (.ref C) (.type "type") "__init__" = some (.val (.builtin "ValueError.__init__"))
noncomputable def zn9 (K : PySem.W.Frag) (t : TA) : TE:=fun σ H Q=>t σ H fun vs H1=>∃ e C dd v,vs = [.ref e,v]/\H1 e = some (ErrO e C dd)/\(∃ fI,znb K C fI)/\Q .non H1
section
variable {X : Cx} {B : Addr} {x : Str} {e1 e2 : Expr} {t : TA} {p apos pos : Pos}
theorem zpo {pl : Sem Bool} (hg : Gl X x) (hm : X.mg x = some (.ref B)) (M : CInitB X.K B) (ha : PA X [e1,e2] t)
  (hdb : (x == ("__debug__" : Str)) = false:=by decide) (hst : starEach [e1,e2] X.env = (false,eval e1 X.env)::starEach [e2] X.env:=by rfl) (hpl : (backTo pos (starEach [e2] X.env)).any (·.1) = false:=by rfl)
  (ht : eval (.Call (.Attribute (.Name x p) "__init__" apos) [e1,e2] [] pos) X.env = (do
   let ov <- eval (.Name x p) X.env
   standAt apos.atName
   let (f,first) <- holding [ov] (getMethod ov "__init__" pl)
   callWith pos f first (backTo pos (starEach [e1,e2] X.env)) (backToKw pos (keywordEach [] X.env))):=by rfl) :
  PE X (.Call (.Attribute (.Name x p) "__init__" apos) [e1,e2] [] pos) (zn9 X.K t):=by
 intro pins s σ H Q I h
 refine PySem.W.methodCall_KW (pl:=pl) (thn (zeq (v:=.ref B) hg hm rfl hdb pins s σ H (fun v H1=>v = .ref B/\H1 = H) I ⟨rfl,rfl⟩) fun u s1 hz9=>?_) ht
 obtain ⟨v,H1,I1,rx,ev,eh⟩:=hz9
 subst ev eh
 obtain rfl : u = Value.ref B:=rx
 refine method_cls I1.kIn M.ga (cls_value I1.kIn M.rd M.fc rfl ?_)
 have hA:=ha pos pins _ σ _ _ (I1.tok (s1.toks + 1)) h
 rw [hst] at hA ⊢
 refine Calls.callWith_builtin (by show (false || (backTo pos (starEach [e2] X.env)).any (·.1)) = false; rw [hpl] <;> rfl) (Calls.evalArgs_plain ?_)
 refine thn hA fun us s2 ⟨vs,H2,I2,r,e,C,dd,v,ev,he,⟨fI,hx⟩,q⟩=>?_
 subst ev
 obtain ⟨u1,u2,rfl,r1,r2⟩:=zh1 r
 cases r1
 obtain ⟨tl,Na,nm,q',bs,hdct,sn,sub,ab,col,ddc,k0,k1,k2,k3,k5,mN,hC,hN,hni,T⟩:=zjw I2.kIn hx
 obtain ⟨t0,ho⟩ : zrj e C dd s2.heap:=(I2.hok e _ he).1
 obtain ⟨hh,g,d,tk,os⟩:=s2
 refine wpAny_call (codeAny_call_builtin PySem.F.excBase_ValueError.init.plain PySem.F.excBase_ValueError.initEntry (wpAny_check_init_subU PySem.F.excBase_ValueError T hC ho rfl ?_))
 wp_walk
 have hk : ∀ b u,b≠e->hh.get? b = some u->((hh.push { cls:=.type "tuple", data:=.seq #[u2] }).update e (Obj.mapFields (·.setIfInBounds 0 (Value.ref hh.objs.size)))).get? b = some u:=fun b u hb z=>by
  rw [Heap.get?_update_other _ _ (Ne.symm hb)]
  exact Heap.get?_push_of_some _ z
 have hget : ((hh.push { cls:=.type "tuple", data:=.seq #[u2] }).update e (Obj.mapFields (·.setIfInBounds 0 (Value.ref hh.objs.size)))).get? e = some { cls:=.ref C,dict:=dd,data:=.fields #[.ref hh.objs.size,.none,.none,.none,.bool false,.none] }:=by
  rw [Heap.get?_update_self _ (Heap.get?_push_of_some _ ho) rfl]
  rfl
 have J:=Inv.write (o:=ErrO e C dd) (t':=tk) I2 (by rw [he]; trivial) (.inl rfl) hk ⟨_,hget⟩ (zmp ⟨_,hget⟩)
 have eH : upd H2 e (ErrO e C dd) = H2:=by
  funext b
  by_cases hb : b = e
  ·subst hb; rw [zae,he]
  ·rw [zaf hb]
 rw [eH] at J
 cases t0 <;> first | exact wpAny_letGo (wpAny_pure ⟨.non,H2,J,rfl,q⟩) | exact wpAny_pure (wpAny_pure ⟨.non,H2,J,rfl,q⟩)
end
end L2
namespace L2
open PySem PySem.W PySem.Spec PyProof.Rows PySem.Calls Builtin Builtin.ObjectAttr
noncomputable def vtail : List Value->Bool
 | .ref _::r=>vtail r
 | l=>l == vmro
structure XStore (K : PySem.W.Frag) (C : Addr) (name : Str) : Prop where
 sa : findIn K (.ref C) "__setattr__" = some (some (.builtin "object.__setattr__"))
 nm : findIn K (.ref C) name = some none
 ob : mroIn K C (.type "object") = some true
 hd : hasDictIn K C = true
 tl : ((clsIn K C).any fun cd=>vtail cd.mro) = true
theorem zot (self : Value) : ∀ {l : List Value},vtail l = true->refuseLoop self "__setattr__" l = pure ()
 | .ref c::r,e=>by rw [refuseLoop_ref]; exact zot self e
 | [],e=>by cases e
 | .type n::r,e=>by rw [beq_iff_eq.mp (show ((Value.type n::r) == vmro) = true from e)]; exact PySem.F.store_ValueError.passes self
 | .none::r,e=>by have:=beq_iff_eq.mp (show ((Value.none::r) == vmro) = true from e); cases this
 | .bool _::r,e=>by have:=beq_iff_eq.mp (show ((Value.bool _::r) == vmro) = true from e); cases this
 | .int _ _::r,e=>by have:=beq_iff_eq.mp (show ((Value.int _ _::r) == vmro) = true from e); cases this
 | .float _ _::r,e=>by have:=beq_iff_eq.mp (show ((Value.float _ _::r) == vmro) = true from e); cases this
 | .str _ _::r,e=>by have:=beq_iff_eq.mp (show ((Value.str _ _::r) == vmro) = true from e); cases this
 | .bytes _ _::r,e=>by have:=beq_iff_eq.mp (show ((Value.bytes _ _::r) == vmro) = true from e); cases this
 | .builtin _::r,e=>by have:=beq_iff_eq.mp (show ((Value.builtin _::r) == vmro) = true from e); cases this
section
variable {prog : Program} {w : World} {A : Around} {E : Value->Shared->Prop} {K : PySem.W.Frag} {h : Heap} {g : Array GenState} {d : Drawn} {t : Nat} {os : OsState} {e C : Addr} {oe : Obj} {name : Str} {v : Value}
theorem zx6 {Q : Unit->Shared->Prop} (X : K.In h) (S : XStore K C name) (ho : h.get? e = some oe) (hc : oe.cls = .ref C) (hdn : oe.dict = none) (hnc : notCls oe = true) {vs : Array Value} (hdat : oe.data = .fields vs)
  (hq : ∀ h' tk,h'.get? e = some { oe with dict:=some h.objs.size }->h'.Ns1 h.objs.size (fun y=>if y = name then some v else none)->(∀ b o,b≠e->h.get? b = some o->h'.get? b = some o)->Q () ⟨h',g,d,tk,os⟩) :
  wpAny (model prog w) A (setAttr (.ref e) name v) Q E ⟨h,g,d,t,os⟩:=by
 have SF:=PySem.F.store_ValueError
 have I : InstAt h e oe C none:=⟨ho,hc,hnc,by rw [hdn]; trivial⟩
 obtain ⟨cd,hcl,htl⟩:=any_some S.tl
 obtain ⟨cd2,hcl2,hdd⟩:=any_some S.hd
 have e2 : cd = cd2:=Option.some.inj (hcl.symm.trans hcl2)
 subst e2
 refine set_plain (s:=⟨h,g,d,t,os⟩) X I S.sa ?_
 have sub : Looks (model prog w) h (isInstance (.ref e) (.type "object")) true:=I.type.andThen (looks_mroIn X S.ob)
 refine codeAny_call_builtin SF.slot.plain SF.entry (@check_slot (model prog w) _ _ ⟨h,g,d,t + 1,os⟩ "object.__setattr__" "object" "__setattr__" (.ref e) [.str name t,v] [] _ SF.kind SF.split sub (SF.args (.ref e) (.str name t) v) ?_)
 have hm : Looks (model prog w) h (mroOf (.ref C)) cd.mro:=(looks_clsIn X hcl).andThen .now
 rw [osa_eq,refuse_eq]
 refine wpAny_bind (wpAny_bind (Looks.here (s:=⟨h,g,d,t + 1,os⟩) I.type (wpAny_bind (Looks.here (s:=⟨h,g,d,t + 1,os⟩) hm ?_))))
 rw [zot _ htl]
 refine wpAny_pure (wpAny_bind (Looks.here (s:=⟨h,g,d,t + 1,os⟩) I.type (wpAny_bind (Looks.here (s:=⟨h,g,d,t + 1,os⟩) (looks_findIn X S.nm) (wpAny_bind (wpAny_pure ?_))))))
 show wpAny _ _ (storeInOwnDict (.ref e) (.ref C) (.str name t) name v false) _ _ _
 refine wpAny_bind (wpAny_pure (wpAny_bind ?_))
 obtain ⟨oc,odi,oda,osl⟩:=oe
 dsimp only at hc hdn hdat hq
 subst hc hdn hdat
 refine wpAny_bind (wpAny_loadPart ho (wpAny_bind (Looks.here (s:=⟨h,g,d,t + 1,os⟩) (looks_clsIn X hcl) ?_)))
 rw [hdd]
 rw [if_neg (by decide)]
 have ho1 : (h.push { cls:=.type "dict", data:=.dict #[] }).get? e = some (⟨.ref C,none,.fields vs,osl⟩ : Obj):=Heap.get?_push_of_some _ ho
 have hes : e≠h.objs.size:=Nat.ne_of_lt (Heap.lt_size ho)
 show wpAny _ _ (alloc { cls:=.type "dict", data:=.dict #[] } >>= fun dx=>(update e fun o=>{ cls:=o.cls,dict:=some dx,data:=o.data,slots:=o.slots }) >>= fun _=>dictMade (.ref C) e dx) _ _ _
 refine wpAny_bind (wpAny_alloc' ?_)
 refine wpAny_bind (wpAny_update' ho1 ?_)
 refine wpAny_pure ?_
 have hgd : ((h.push { cls:=.type "dict", data:=.dict #[] }).update e fun o=>{ cls:=o.cls,dict:=some h.objs.size,data:=o.data,slots:=o.slots }).get? h.objs.size = some { cls:=.type "dict", data:=.dict #[] }:=(Heap.get?_update_ne _ _ _ _ hes.symm).trans (Heap.get?_push_at rfl rfl)
 have hnd : ((h.push { cls:=.type "dict", data:=.dict #[] }).update e fun o=>{ cls:=o.cls,dict:=some h.objs.size,data:=o.data,slots:=o.slots }).Ns h.objs.size (fun _=>none):=⟨_,#[],_,hgd,rfl,fun _ z=>absurd z (by simp),fun _=>rfl⟩
 show wpAny _ _ (storeInDict h.objs.size (.str name t) name v) _ _ _
 unfold storeInDict newKeyGuard
 refine wpAny_bind (wpAny_pure (wpAny_bind (wpAny_nsSet1 (Heap.Ns1.of_empty hnd) fun h' hn' hs=>?_)))
 obtain ⟨oD,esD,epD,hoD,hdD,hcD⟩:=hn'.count (Within.cons name v Within.nil)
 refine wpAny_bind (wpAny_lookBehind hoD (by rw [hdD]; exact pastItsLine_dict (Nat.le_trans hcD (by rw [List.length_cons,List.length_nil,sizeLine_eq]; lia))) ?_)
 wp_walk
 refine hq h' _ ((hs.2 e hes).trans (Heap.get?_update_self _ ho1 rfl)) hn' fun b o hb z=>?_
 exact (hs.2 b (Nat.ne_of_lt (Heap.lt_size z))).trans ((Heap.get?_update_ne _ _ _ _ hb).trans (Heap.get?_push_of_some _ z))
end
noncomputable def zre (K : PySem.W.Frag) (ta tv : TE) (f : Str) : TS:=fun D σ H=>tv σ H fun y H1=>ta σ H1 fun x H2=>∃ e C,x = .ref e/\H2 e = some (ErrO e C none)/\XStore K C f /\ ∀ dx,H2 dx = none->dx≠e->D.nx σ (upd (upd H2 e (ErrO e C (some dx))) dx (.xd [(f,y)]))
section
variable {X : Cx} {o value : Expr} {ta tv : TE} {f : Str} {pos' pos : Pos}
theorem zsh (ha : PE X o ta) (hv : PE X value tv) (hs : swapsWith value (some (.Attribute o f pos')) pos.line X.env = pure false) : PS X (.Assign [.Attribute o f pos'] value pos) (zre X.K ta tv f):=by
 intro pins s σ H D I h
 refine plainObj_wpAny_Assign_Attribute (thn (hv pins s σ H _ I h) fun u s1 ⟨y,H1,I1,ry,q⟩=>thn (ha pins s1 σ H1 _ I1 q) fun ov s2 hz9=>?_) hs
 obtain ⟨x,H2,I2,rx,e,C,ex,he,S,q2⟩:=hz9
 subst ex
 obtain rfl : ov = Value.ref e:=rx
 obtain ⟨t0,ho⟩ : zrj e C none s2.heap:=(I2.hok e _ he).1
 obtain ⟨hh,g,d,tk,os⟩:=s2
 refine zx6 I2.kIn S ho rfl rfl rfl rfl fun h' tk' hget hns hk=>?_
 have hes : e≠hh.objs.size:=Nat.ne_of_lt (Heap.lt_size ho)
 have hmk : ∀ b u,b≠e->hh.get? b = some u->(hh.update e fun o=>{ cls:=o.cls,dict:=some hh.objs.size,data:=o.data,slots:=o.slots }).get? b = some u:=fun b u hb z=>(Heap.get?_update_ne _ _ _ _ hb).trans z
 have hme : (hh.update e fun o=>{ cls:=o.cls,dict:=some hh.objs.size,data:=o.data,slots:=o.slots }).get? e = some { cls:=.ref C,dict:=some hh.objs.size,data:=.fields #[t0,.none,.none,.none,.bool false,.none] }:=Heap.get?_update_self _ ho rfl
 have I3:=Inv.write (o:=ErrO e C (some hh.objs.size)) (t':=tk') I2 (by rw [he]; trivial) (.inl rfl) hmk ⟨_,hme⟩ (zmp ⟨_,hme⟩)
 have hkk : ∀ b u,(hh.update e fun o=>{ cls:=o.cls,dict:=some hh.objs.size,data:=o.data,slots:=o.slots }).get? b = some u->h'.get? b = some u:=fun b u z=>by
  by_cases hb : b = e
  ·subst hb; rw [hme] at z; cases z; exact hget
  ·have z2:=(Heap.get?_update_ne _ _ _ _ hb).symm.trans z
   exact hk b u hb z2
 have hsz : (hh.update e fun o=>{ cls:=o.cls,dict:=some hh.objs.size,data:=o.data,slots:=o.slots }).objs.size <= hh.objs.size:=by simp [Heap.update]
 have I4:=Inv.laid (a:=hh.objs.size) (o:=.xd [(f,y)]) (t':=tk') I3 hkk hsz ⟨_,hns,fun n=>?_⟩
 ·exact ⟨σ,_,I4,q2 _ (I2.hok.fresh (Nat.le_refl _)) hes.symm⟩
 ·by_cases hn : n = f
  ·subst hn; simp [List.lookup]; exact ry
  ·have : (n == f) = false:=by simpa using hn
   simp [List.lookup,this,hn]; trivial
end
end L2
namespace L2
open PySem
noncomputable def stepR (M : Model) (Γ : _root_.PySem.Ctx) (p : Pos) (s : Shared) : Sem PySem.Fin → Option (_root_.PySem.Ctx × Pos × Sem PySem.Fin × Shared)
  | .pure (.again c) => some (Γ.goto c, p, M.den c, s)
  | .rule _ k => some (Γ, p, k (), s)
  | .at p' k => some (Γ, p', k (), s)
  | .load a _ k => (s.heap.get? a).map fun o => (Γ, p, k o, s)
  | .update a _ f k => some (Γ, p, k (), { s with heap := s.heap.update a f })
  | .loadIfAlive a k => some (Γ, p, k (s.heap.get? a), s)
  | .point _ k => some (Γ, p, k (), s)
  | .alloc o k => some (Γ, p, k s.heap.objs.size, { s with heap := s.heap.push o })
  | .fresh k => some (Γ, p, k s.toks, { s with toks := s.toks + 1 })
  | .ask k => some (Γ, p, k ⟨M.prog, M.w.params⟩, s)
  | .choose src n k => some (Γ, p, k (M.w.draws src (s.drawn.get src) % n), { s with drawn := s.drawn.bump src })
  | .os q _ k => some (Γ, p, k (Os.step s.os q).2, { s with os := (Os.step s.os q).1 })
  | .handled own k => some (Γ, p, k (if own then Γ.own else Γ.handled), s)
  | .genState g k => (s.gens[g]?).map fun st => (Γ, p, k st.seen, s)
  | .stack k => some (Γ, p, k ((Γ.code, p) :: Γ.below), s)
  | .thread k => some (Γ, p, k 0, s)
  | .newGen c k => some (Γ, p, k s.gens.size, { s with gens := s.gens.push (.fresh c) })
  | _ => none
theorem some_run {M : Model} {e : End} {s' : Shared} {x y : _root_.PySem.Ctx × Pos × Sem PySem.Fin × Shared} (h : some y = some x) (r : _root_.PySem.Runs M y.1 y.2.1 y.2.2.1 [] y.2.2.2 e s') : _root_.PySem.Runs M x.1 x.2.1 x.2.2.1 [] x.2.2.2 e s' := Option.some.inj h ▸ r
theorem runs_step {M : Model} {Γ : _root_.PySem.Ctx} {p : Pos} {t : Sem PySem.Fin} {s s' : Shared} {e : End} (h : _root_.PySem.Runs M Γ p t [] s e s') (x : _root_.PySem.Ctx × Pos × Sem PySem.Fin × Shared) (hx : stepR M Γ p s t = some x) : _root_.PySem.Runs M x.1 x.2.1 x.2.2.1 [] x.2.2.2 e s' := by
  cases h with
  | again _ r => exact some_run hx r
  | rule r => exact some_run hx r
  | «at» r => exact some_run hx r
  | load e1 r => exact some_run (Eq.trans (congrArg (Option.map _) e1.symm) hx) r
  | update _ r => exact some_run hx r
  | loadIfAlive r => exact some_run hx r
  | point r => exact some_run hx r
  | alloc r => exact some_run hx r
  | fresh r => exact some_run hx r
  | ask r => exact some_run hx r
  | choose _ r => exact some_run hx r
  | os r => exact some_run hx r
  | handled r => exact some_run hx r
  | genState e1 r => exact some_run (Eq.trans (congrArg (Option.map _) e1.symm) hx) r
  | stack r => exact some_run hx r
  | thread r => exact some_run hx r
  | newGen r => exact some_run hx r
  | _ => exact absurd hx (fun z => Option.noConfusion rfl (heq_of_eq z))
theorem zju {M : Model} {Γ : _root_.PySem.Ctx} {p : Pos} {t : Sem PySem.Fin} {fs : List Frame} {s s' : Shared} {e : End} (h : _root_.PySem.Runs M Γ p t fs s e s') :
    ∀ {e2 s2}, _root_.PySem.Runs M Γ p t fs s e2 s2 → e2 = e ∧ s2 = s' := by
  induction h with
  | done => intro e2 s2 h2; cases h2; exact ⟨rfl, rfl⟩
  | raise => intro e2 s2 h2; cases h2; exact ⟨rfl, rfl⟩
  | yield => intro e2 s2 h2; cases h2; exact ⟨rfl, rfl⟩
  | again _ _ ih => intro e2 s2 h2; exact ih (runs_step h2 _ rfl)
  | rule _ ih => intro e2 s2 h2; exact ih (runs_step h2 _ rfl)
  | «at» _ ih => intro e2 s2 h2; exact ih (runs_step h2 _ rfl)
  | load e1 _ ih => intro e2 s2 h2; exact ih (runs_step h2 (_, _, _, _) (congrArg (Option.map _) e1))
  | update _ _ ih => intro e2 s2 h2; exact ih (runs_step h2 _ rfl)
  | loadIfAlive _ ih => intro e2 s2 h2; exact ih (runs_step h2 _ rfl)
  | point _ ih => intro e2 s2 h2; exact ih (runs_step h2 _ rfl)
  | alloc _ ih => intro e2 s2 h2; exact ih (runs_step h2 _ rfl)
  | fresh _ ih => intro e2 s2 h2; exact ih (runs_step h2 _ rfl)
  | ask _ ih => intro e2 s2 h2; exact ih (runs_step h2 _ rfl)
  | choose _ _ ih => intro e2 s2 h2; exact ih (runs_step h2 _ rfl)
  | os _ ih => intro e2 s2 h2; exact ih (runs_step h2 _ rfl)
  | handled _ ih => intro e2 s2 h2; exact ih (runs_step h2 _ rfl)
  | genState e1 _ ih => intro e2 s2 h2; exact ih (runs_step h2 (_, _, _, _) (congrArg (Option.map _) e1))
  | stack _ ih => intro e2 s2 h2; exact ih (runs_step h2 _ rfl)
  | thread _ ih => intro e2 s2 h2; exact ih (runs_step h2 _ rfl)
  | newGen _ ih => intro e2 s2 h2; exact ih (runs_step h2 _ rfl)
  | call _ _ i1 i2 =>
    intro e2 s2 h2
    cases h2 with
    | call a b => obtain ⟨q, rfl⟩ := i1 a; cases q; exact i2 b
    | callSusp a => obtain ⟨q, rfl⟩ := i1 a; cases q
  | callSusp _ i1 =>
    intro e2 s2 h2
    cases h2 with
    | call a b => obtain ⟨q, rfl⟩ := i1 a; cases q
    | callSusp a => obtain ⟨q, rfl⟩ := i1 a; cases q; exact ⟨rfl, rfl⟩
  | resumeFresh e1 _ _ _ i1 i2 =>
    intro e2 s2 h2
    cases h2 with
    | resumeFresh e3 a _ b => rw [e1] at e3; cases e3; obtain ⟨rfl, rfl⟩ := i1 a; exact i2 b
    | resumeSuspended e3 a _ b => rw [e1] at e3; cases e3
    | resumeJustStarted e3 a b => exact absurd rfl a
    | resumeRunning e3 a => rw [e1] at e3; cases e3
    | resumeFinished e3 a => rw [e1] at e3; cases e3
  | resumeSuspended e1 _ _ _ i1 i2 =>
    intro e2 s2 h2
    cases h2 with
    | resumeFresh e3 a _ b => rw [e1] at e3; cases e3
    | resumeSuspended e3 a _ b => rw [e1] at e3; cases e3; obtain ⟨rfl, rfl⟩ := i1 a; exact i2 b
    | resumeJustStarted e3 a b => rw [e1] at e3; cases e3
    | resumeThrowFresh e3 a => rw [e1] at e3; cases e3
    | resumeRunning e3 a => rw [e1] at e3; cases e3
    | resumeFinished e3 a => rw [e1] at e3; cases e3
  | resumeJustStarted e1 n1 _ i1 =>
    intro e2 s2 h2
    cases h2 with
    | resumeFresh e3 a _ b => exact absurd rfl n1
    | resumeSuspended e3 a _ b => rw [e1] at e3; cases e3
    | resumeJustStarted e3 a b => exact i1 b
    | resumeRunning e3 a => rw [e1] at e3; cases e3
    | resumeFinished e3 a => rw [e1] at e3; cases e3
  | resumeThrowFresh e1 _ i1 =>
    intro e2 s2 h2
    cases h2 with
    | resumeSuspended e3 a _ b => rw [e1] at e3; cases e3
    | resumeThrowFresh e3 a => exact i1 a
    | resumeRunning e3 a => rw [e1] at e3; cases e3
    | resumeFinished e3 a => rw [e1] at e3; cases e3
  | resumeRunning e1 _ i1 =>
    intro e2 s2 h2
    cases h2 with
    | resumeFresh e3 a _ b => rw [e1] at e3; cases e3
    | resumeSuspended e3 a _ b => rw [e1] at e3; cases e3
    | resumeJustStarted e3 a b => rw [e1] at e3; cases e3
    | resumeThrowFresh e3 a => rw [e1] at e3; cases e3
    | resumeRunning e3 a => exact i1 a
    | resumeFinished e3 a => rw [e1] at e3; cases e3
  | resumeFinished e1 _ i1 =>
    intro e2 s2 h2
    cases h2 with
    | resumeFresh e3 a _ b => rw [e1] at e3; cases e3
    | resumeSuspended e3 a _ b => rw [e1] at e3; cases e3
    | resumeJustStarted e3 a b => rw [e1] at e3; cases e3
    | resumeThrowFresh e3 a => rw [e1] at e3; cases e3
    | resumeRunning e3 a => rw [e1] at e3; cases e3
    | resumeFinished e3 a => exact i1 a
  | segRet _ _ i1 i2 =>
    intro e2 s2 h2
    cases h2 with
    | segRet a b => obtain ⟨q, rfl⟩ := i1 a; cases q; exact i2 b
    | segSuspOut _ a => obtain ⟨q, rfl⟩ := i1 a; cases q
    | segSuspGen _ a _ _ => obtain ⟨q, rfl⟩ := i1 a; cases q
  | segGen _ _ i1 i2 =>
    intro e2 s2 h2
    cases h2 with
    | segGen a b => obtain ⟨q, rfl⟩ := i1 a; cases q; exact i2 b
    | segSuspOut _ a => obtain ⟨q, rfl⟩ := i1 a; cases q
    | segSuspGen _ a _ _ => obtain ⟨q, rfl⟩ := i1 a; cases q
  | segSuspOut n1 _ i1 =>
    intro e2 s2 h2
    cases h2 with
    | segRet a b => obtain ⟨q, rfl⟩ := i1 a; cases q
    | segGen a b => obtain ⟨q, rfl⟩ := i1 a; cases q
    | segSuspOut _ a => obtain ⟨q, rfl⟩ := i1 a; cases q; exact ⟨rfl, rfl⟩
    | segSuspGen n2 a _ _ => rw [n1] at n2; cases n2
  | segSuspGen n1 _ _ _ i1 i2 =>
    intro e2 s2 h2
    cases h2 with
    | segRet a b => obtain ⟨q, rfl⟩ := i1 a; cases q
    | segGen a b => obtain ⟨q, rfl⟩ := i1 a; cases q
    | segSuspOut n2 a => rw [n1] at n2; cases n2
    | segSuspGen n2 a _ b => rw [n1] at n2; cases n2; obtain ⟨q, rfl⟩ := i1 a; cases q; exact i2 b
theorem zrv {M : Model} {Γ : _root_.PySem.Ctx} {p : Pos} {g : Nat} {r : Resume} {s s' s2 : Shared} {res res2 : GenResult} (h : Wakes M Γ p g r s res s') (h2 : Wakes M Γ p g r s res2 s2) : res2 = res/\s2 = s':=by
 unfold Wakes at h h2
 cases hg : s.gens[g]? with
 | none=>simp only [hg] at h
 | some gs =>
  simp only [hg] at h h2
  cases gs with
  | fresh c =>
   cases r with
   | send v =>
    by_cases hv : v = .none
    ·subst hv
     obtain ⟨e1,s1,h1,_,rfl,rfl⟩:=h
     obtain ⟨e3,s3,h3,_,rfl,rfl⟩:=h2
     obtain ⟨rfl,rfl⟩:=zju h1 h3
     exact ⟨rfl,rfl⟩
    ·have a : res = .justStarted/\s' = s:=by cases v <;> first | exact absurd rfl hv | exact h
     have b : res2 = .justStarted/\s2 = s:=by cases v <;> first | exact absurd rfl hv | exact h2
     rw [a.1,a.2,b.1,b.2]; exact ⟨rfl,rfl⟩
   | throw x=>obtain ⟨rfl,rfl⟩:=h; obtain ⟨rfl,rfl⟩:=h2; exact ⟨rfl,rfl⟩
  | suspended k0 _ c0 p0 fs _ =>
   obtain ⟨e1,s1,h1,_,rfl,rfl⟩:=h
   obtain ⟨e3,s3,h3,_,rfl,rfl⟩:=h2
   obtain ⟨rfl,rfl⟩:=zju h1 h3
   exact ⟨rfl,rfl⟩
  | running=>obtain ⟨rfl,rfl⟩:=h; obtain ⟨rfl,rfl⟩:=h2; exact ⟨rfl,rfl⟩
  | finished=>obtain ⟨rfl,rfl⟩:=h; obtain ⟨rfl,rfl⟩:=h2; exact ⟨rfl,rfl⟩
theorem zxb {α : Type} {M : Model} {Γ : _root_.PySem.Ctx} {Q Q' : α->Pos->Shared->Prop} {E E' : Value->Pos->Shared->Prop} (t : Sem α) : ∀ (p : Pos) (s : Shared),Sem.wp M Γ t Q E p s->Sem.wp M Γ t Q' E' p s ->
  Sem.wp M Γ t (fun a p s=>Q a p s/\Q' a p s) (fun e p s=>E e p s/\E' e p s) p s:=by
 induction t with
 | pure x=>exact fun p s h h'=>⟨h,h'⟩
 | raise v=>exact fun p s h h'=>⟨h,h'⟩
 | unsupported | finish | yield | fork | await | register=>exact fun p s h h'=>h
 | rule _ k ih | «at» _ k ih | alloc _ k ih | loadIfAlive _ k ih | point _ k ih | ask k ih | os _ _ k ih | handled _ k ih | newGen _ k ih | stack k ih | thread k ih | fresh k ih=>exact fun p s h h'=>ih _ _ _ h h'
 | load a _ k ih | genState a k ih=>exact fun p s ⟨o,ho,h⟩ ⟨o',ho',h'⟩=>by rw [ho] at ho'; cases ho'; exact ⟨o,ho,ih _ _ _ h h'⟩
 | update a _ f k ih | choose _ _ k ih=>exact fun p s ⟨ha,h⟩ ⟨_,h'⟩=>⟨ha,ih _ _ _ h h'⟩
 | call c h g l k ih=>exact fun p s ⟨r,s1,h1,h2⟩ ⟨r',s1',h1',h2'⟩=>by obtain ⟨q,rfl⟩:=zju h1 h1'; cases q; exact ⟨_,_,h1,ih _ _ _ h2 h2'⟩
 | resume g r l k ih=>exact fun p s ⟨res,s1,hw,h⟩ ⟨res',s1',hw',h'⟩=>by obtain ⟨rfl,rfl⟩:=zrv hw hw'; exact ⟨_,_,hw,ih _ _ _ h h'⟩
theorem zdk {α : Type} {t : Sem α} {Q Q' : α->Shared->Prop} {M : Model} {A : Around} {E E' : Value->Shared->Prop} {s : Shared} (h : wpAny M A t Q E s) (h' : wpAny M A t Q' E' s) : wpAny M A t (fun a s=>Q a s/\Q' a s) (fun e s=>E e s/\E' e s) s :=
 fun Γ p hΓ=>zxb t p s (h Γ p hΓ) (h' Γ p hΓ)
end L2
namespace L2
open PySem PySem.W PySem.Spec PyProof.Rows
noncomputable def DK (h h' : Heap) : Prop:=∀ b o,h.get? b = some o -> ∃ o',h'.get? b = some o'/\o'.dict = o.dict
theorem DK.trans {h1 h2 h3 : Heap} (x : DK h1 h2) (y : DK h2 h3) : DK h1 h3:=fun b o e=>by
 obtain ⟨o1,e1,q1⟩:=x b o e
 obtain ⟨o2,e2,q2⟩:=y b o1 e1
 exact ⟨o2,e2,q2.trans q1⟩
theorem zxk (h : Heap) (o : Obj) : DK h (h.push o):=fun b u e=>⟨u,Heap.get?_push_of_some _ e,rfl⟩
theorem zib (g : Array Value->Array Value) (o : Obj) : (Obj.mapFields g o).dict = o.dict:=by
 obtain ⟨c,d,da,sl⟩:=o
 cases da <;> rfl
theorem zho {h : Heap} {a : Addr} {o : Obj} {vs : Array Value} (g : Array Value->Array Value) (ho : h.get? a = some o) (hd : o.data = .fields vs) : DK h (h.update a (Obj.mapFields g)):=fun b u e=>by
 by_cases hb : b = a
 ·subst hb
  rw [ho] at e; cases e
  exact ⟨_,Heap.get?_update_self (Obj.mapFields g) ho (Obj.isFreed_of_fields (Obj.data_mapFields hd g)),zib g o⟩
 ·exact ⟨u,(Heap.get?_update_other _ _ (Ne.symm hb)).trans e,rfl⟩
section
variable {M : Model} {A : Around} {E : Value->Shared->Prop} {s : Shared} {B : Heap} {env : Env} {outer : List Env} {L e : Addr}
theorem zn5 {oe : Obj} {vs : Array Value} {head : Value} {hn : Bool} (q1 : A.frames = some (env::outer)) (q2 : s.heap.FunFrames B (env::outer)) (q3 : env.frame = some L) (q4 : s.heap.get? e = some oe) (q5 : oe.data = .fields vs) (q6 : 1 < vs.size) :
  wpAny M A (do let a <- frameOf env; let pl <- entryPlaceOf L hn; let b <- EntryCells.newEntry head a .none (rawInt L) .none pl; setField (.ref e) 1 b) (fun _ s'=>DK s.heap s'.heap) E s:=by
 have ne : e ∉ (env::outer).filterMap (·.frame):=fun z=>by
  obtain ⟨_,o,ho,nf⟩:=q2.mem z
  rw [q4] at ho; cases ho; exact nf vs q5
 refine wpAny_bind (wpAny_frameOf_fun q1 q2 q3 fun g kk=>wpAny_bind (wpAny_entryPlaceOf fun pl hp=>?_))
 unfold EntryCells.newEntry newFields
 have k1 : DK s.heap g:=fun b o z=>by obtain ⟨sl,z2⟩:=kk.2.2 b o z; exact ⟨_,z2,rfl⟩
 have k2 : g.get? e = some oe:=(kk.2.1 e ne).trans q4
 exact wpAny_bind (wpAny_newObj_type (wpAny_setField (Heap.get?_push_of_some _ k2) q5 q6 (k1.trans ((zxk _ _).trans (zho _ (Heap.get?_push_of_some _ k2) q5)))) (hp.sizeOk5 _ _ _ _ _))
theorem zut {oe : Obj} {vs : Array Value} (q1 : A.frames = some (env::outer)) (q2 : s.heap.FunFrames B (env::outer)) (q3 : env.frame = some L) (q4 : s.heap.get? e = some oe) (q5 : oe.data = .fields vs) (q6 : vs[1]? = some .none) :
  wpAny M A (noteFrame (.ref e) env) (fun _ s'=>DK s.heap s'.heap) E s:=by
 unfold noteFrame
 simp only [q3]
 refine wpAny_bind (wpAny_field q4 q5 q6 ?_)
 rw [if_neg (by decide)]
 exact zn5 q1 q2 q3 q4 q5 (Array.getElem?_eq_some_iff.mp q6).1
theorem ztz {C a0 : Value} (q1 : A.frames = some (env::outer)) (q2 : s.heap.FunFrames B (env::outer)) (q3 : env.frame = some L) (q4 : s.heap.TracedW B e C a0) : wpAny M A (noteFrame (.ref e) env) (fun _ s'=>DK s.heap s'.heap) E s:=by
 obtain ⟨oe,vs,T,oT,ts,he,⟨_,_⟩,hd,h1,hnT,hTe,hT,hdT,h3⟩:=q4
 unfold noteFrame
 simp only [q3]
 refine wpAny_bind (wpAny_field he hd h1 ?_)
 rw [if_pos (by simp)]
 refine wpAny_bind (wpAny_field hT hdT h3 ?_)
 rw [if_neg (by simp [rawInt])]
 have k1:=zho (·.setIfInBounds 3 Value.none) hT hdT
 refine wpAny_bind (wpAny_setField hT hdT (Array.getElem?_eq_some_iff.mp h3).1 ?_)
 have oth : ∀ b,b≠T->(s.heap.update T (Obj.mapFields (·.setIfInBounds 3 Value.none))).get? b = s.heap.get? b:=fun b hb=>Heap.get?_update_other _ _ (Ne.symm hb)
 have nr : ∀ b o,s.heap.get? b = some o->(∀ vs,o.data ≠ .fields vs)->b≠T:=fun b o hb nf q=>by rw [q,hT] at hb; cases hb; exact nf ts hdT
 exact thn (zn5 q1 (q2.of_keeps fun b o hb nf=>⟨o,(oth b (nr b o hb nf)).trans hb,rfl⟩) q3 ((oth e (Ne.symm hTe)).trans he) hd (Array.getElem?_eq_some_iff.mp h1).1) fun _ _ k=>k1.trans k
theorem zrm {C a0 fl : Value} (q4 : s.heap.TracedAtW B e C a0 fl) : wpAny M A (setFlight (.ref e) none) (fun _ s'=>DK s.heap s'.heap) E s:=by
 obtain ⟨oe,vs,T,oT,ts,he,_,hd,h1,_,_,hT,hdT,h3⟩:=q4
 unfold setFlight
 refine wpAny_bind (wpAny_field he hd h1 ?_)
 rw [if_pos (by simp)]
 exact wpAny_setField hT hdT (Array.getElem?_eq_some_iff.mp h3).1 (zho _ hT hdT)
end
end L2
namespace L2
open PySem PySem.W PySem.Spec PyProof.Rows
noncomputable def zta (h : Heap) (e : Addr) (dd : Option Addr) : Prop:=∃ o,h.get? e = some o/\o.dict = dd
theorem DK.is {h h' : Heap} {e : Addr} {dd : Option Addr} (k : DK h h') (x : zta h e dd) : zta h' e dd:=by
 obtain ⟨o,e1,q⟩:=x
 obtain ⟨o',e2,q2⟩:=k e o e1
 exact ⟨o',e2,q2.trans q⟩
section
variable {M : Model} {A : Around} {E : Value->Shared->Prop} {s : Shared} {B : Heap} {env : Env} {outer : List Env} {L e : Addr} {C a0 : Value} {Q : Unit->Shared->Prop}
theorem zvg {h0 : Heap} {m : Sem Unit} (hm : wpAny M A m (fun _ s'=>(∃ fl,s'.heap.TracedAtW B e C a0 fl)/\DK h0 s'.heap) E s) : wpAny M A (m >>= fun _=>setFlight (.ref e) none) (fun _ s'=>DK h0 s'.heap) E s :=
 wpAny_bind (wpAny_mono hm (fun _ s1 ⟨⟨fl,t⟩,k⟩=>wpAny_mono (zrm t) (fun _ _ k2=>k.trans k2) fun _ _ z=>z) fun _ _ z=>z)
theorem zjf {oe : Obj} {vs : Array Value} (q1 : A.frames = some (env::outer)) (q2 : s.heap.FunFrames B (env::outer)) (q3 : env.frame = some L) (q4 : s.heap.get? e = some oe) (qb : B.StaysIn s.heap) (qe : B.get? e = none) (q5 : oe.data = .fields vs) (q6 : vs[1]? = some .none)
  (q7 : vs[0]? = some a0) (h : ∀ h',Heap.FlyingW B outer e oe.cls a0 h'->s.heap.UpToSlots h'->DK s.heap h'->Q () { s with heap:=h' }) : wpAny M A (leaving env (.ref e)) Q E s:=by
 refine wpAny_mono (zdk (wpAny_leaving_firstW (Q:=fun _ s'=>∃ h',s' = { s with heap:=h' }/\Heap.LeftW B (env::outer) e oe.cls a0 s.heap h') (E:=E) q1 q2 q3 q4 qb qe q5 q6 q7 fun h' a=>⟨h',rfl,a⟩) (zvg (E:=E) (C:=oe.cls) (a0:=a0) (B:=B) (m:=noteFrame (.ref e) env)
  (wpAny_mono (zdk (Q:=fun _ s'=>∃ fl,s'.heap.TracedAtW B e oe.cls a0 fl) (E:=E) ?_ (zut (E:=E) q1 q2 q3 q4 q5 q6)) (fun _ _ z=>z) fun _ _ z=>z.1))) (fun _ s' z=>?_) fun _ _ z=>z.1
 ·unfold noteFrame
  simp only [q3]
  refine wpAny_bind (wpAny_field q4 q5 q6 ?_)
  rw [if_neg (by decide)]
  exact wpAny_entryW q1 q2 q3 q4 qb qe q5 (Array.getElem?_eq_some_iff.mp q6).1 q7 fun h' n=>⟨_,n.2.2.1⟩
 ·obtain ⟨⟨h',rfl,k1,⟨_,_,k2⟩,k3,k4⟩,k⟩:=z
  exact h h' ⟨k1,qe,k2,k3⟩ k4 k
theorem zrt (q1 : A.frames = some (env::outer)) (q3 : env.frame = some L) (fl : Heap.FlyingW B (env::outer) e C a0 s.heap) (h : ∀ h',Heap.HeldW B (env::outer) e C a0 L h'->s.heap.UpToSlots h'->DK s.heap h'->Q () { s with heap:=h' }) :
  wpAny M A (noteFrame (.ref e) env) Q E s:=by
 refine wpAny_mono (zdk (wpAny_looks_onW (Q:=fun _ s'=>∃ h',s' = { s with heap:=h' }/\Heap.HeldW B (env::outer) e C a0 L h'/\s.heap.UpToSlots h') (E:=E) q1 q3 fl fun h' a b=>⟨h',rfl,a,b⟩) (ztz (E:=E) q1 fl.2.2.1 q3 fl.2.2.2)) (fun _ s' z=>?_) fun _ _ z=>z.1
 obtain ⟨⟨h',rfl,a,b⟩,k⟩:=z
 exact h h' a b k
theorem zzg {l : List Env} (hh : Heap.HeldW B l e C a0 L s.heap) (h : ∀ h',Heap.FlyingW B l e C a0 h'->s.heap.UpToSlots h'->DK s.heap h'->Q () { s with heap:=h' }) : wpAny M A (setFlight (.ref e) none) Q E s:=by
 refine wpAny_mono (zdk (wpAny_landsW (Q:=fun _ s'=>∃ h',s' = { s with heap:=h' }/\Heap.FlyingW B l e C a0 h'/\s.heap.UpToSlots h') (E:=E) hh fun h' a b=>⟨h',rfl,a,b⟩) (zrm (E:=E) hh.2.2.2)) (fun _ s' z=>?_) fun _ _ z=>z.1
 obtain ⟨⟨h',rfl,a,b⟩,k⟩:=z
 exact h h' a b k
end
noncomputable def CX2 (P : Program) (w : World) : CXT:=fun outer H s E e s'=>∃ (x C : Addr) (a0 : Value) (B : Heap) (H' : Hp) (dd : Option Addr),e = .ref x/\s'.os = s.os/\AllBare s'.gens/\Un (frs outer) [] H H' s.heap s'.heap/\HOk P w H' s'.heap /\
 Heap.FlyingW B outer x (.ref C) a0 s'.heap/\(∀ b o,s.heap.get? b = some o->b ∉ frs outer -> ∃ o',B.get? b = some o')/\(∀ b u,H' b = some u -> ∃ o',B.get? b = some o')/\s.heap.get? x = none/\H' x = none/\zta s'.heap x dd/\E (.ref C) dd H'
theorem yaa {P : Program} {w : World} {X : Cx} : zlj (CX2 P w) X E0:=fun _ _ _ _ _ _ _ h=>by
 obtain ⟨_,_,_,_,_,_,_,_,_,_,_,_,_,_,_,_,_,q⟩:=h
 exact q.elim
noncomputable def del (H : Hp) (e : Addr) : Hp:=fun b=>if b = e then none else H b
theorem zgw {H : Hp} {e : Addr} : del H e e = none:=by unfold del; rw [if_pos rfl]
theorem zgc {H : Hp} {e b : Addr} (h : b≠e) : del H e b = H b:=by unfold del; rw [if_neg h]
theorem znw {H : Hp} {e b : Addr} {u : HO} (h : del H e b = some u) : b≠e/\H b = some u:=by
 by_cases hb : b = e
 ·rw [hb,zgw] at h; cases h
 ·rw [zgc hb] at h; exact ⟨hb,h⟩
section
variable {P : Program} {w : World} {K : PySem.W.Frag} {mg : Str->Option Value} {base : Heap} {N : List Str} {qual : Str} {scope : Scope} {f : Addr} {cd : Value} {A : Around} {outer : List Env} {s : Shared} {H : Hp} {E : XK}
theorem Un.del {fs : List Addr} {H H1 : Hp} {h h2 : Heap} {e : Addr} (U : Un fs [] H H1 h h2) (he : H e = none) : Un fs [] H (L2.del H1 e) h h2 where
 keep:=U.keep
 slot:=U.slot
 free:=fun b o q n hx=>by
  by_cases hb : b = e
  ·rw [hb]; exact zgw
  ·rw [zgc hb]; exact U.free b o q n hx
 there:=U.there
 tups:=fun b xs q=>by rw [zgc (zaj q he)]; exact U.tups b xs q
 frzs:=fun b o u q=>by rw [zgc (zaj q he)]; exact U.frzs b o u q
 tbls:=fun b ps q=>by obtain ⟨m,z⟩:=U.tbls b ps q; exact ⟨m,by rw [zgc (zaj q he)]; exact z⟩
theorem HOk.del {H : Hp} {h : Heap} {e : Addr} {φ : Heap->Prop} (hok : HOk P w H h) (he : H e = some (.ext φ)) : HOk P w (L2.del H e) h:=fun b u q=>by
 obtain ⟨hb,q⟩:=znw q
 refine (hok b u q).stay (fun _ _ _ z=>z) (fun c z=>?_) fun c xs z=>?_
 ·rw [zgc (zxo z he (by intro z; cases z))]; exact z
 ·rw [zgc (zxo z he (by intro z; cases z))]; exact z
end
noncomputable def zvn (h : Heap) (C : Addr) (bm : List Value) : Prop:=∃ nm q N bs hdct sn sub ab col dd k0 k1 k2 k3 k5 newId,h.get? C = some (excClassObj nm q C N bs bm hdct sn sub ab col dd k0 k1 k2 k3 k5 newId)
section
variable {M : Model} {A : Around} {E : Value->Shared->Prop} {env : Env}
theorem zpb {s : Shared} {x : Sem Value} {Q : Flow->Shared->Prop} (hh : A.handled = none)
  (h : wpAny M A x (fun v s1=>∃ e t de C bm,v = .ref e/\zvn s1.heap C bm/\bm.contains (.type "BaseException") = true /\
   s1.heap.get? e = some { cls:=.ref C,dict:=de,data:=.fields #[t,.none,.none,.none,.bool false,.none] }/\E (.ref e) s1) E s) :
  wpAny M A (raiseStmt env (some x) none) Q E s:=by
 unfold raiseStmt
 refine wpAny_bind (wpAny_mono h (fun v s1 h1=>?_) fun _ _ x=>x)
 obtain ⟨e,t,de,C,bm,rfl,⟨_,_,_,_,_,_,_,_,_,_,_,_,_,_,_,_,hC⟩,hb,he,hE⟩:=h1
 have hB : (Value.ref C::bm).contains (.type "BaseException") = true:=by rw [List.contains_cons,hb,Bool.or_true]
 obtain ⟨hp,g,d,tk,os⟩:=s1
 repeat (first | with_reducible refine wpAny_loadPart_at he ?_ | with_reducible refine wpAny_loadPart_at hC ?_ | (with_reducible refine wpAny_isSubtype_exc hC ?_; rw [hB]) | wp_step)
 exact wpAny_raiseNew_none hh hE
end
noncomputable def zqi (K : PySem.W.Frag) (E : XK) (H₀ : Hp) (te : TE) : TS:=fun _ σ H=>te σ H fun v H1=>∃ e C dd,v = .ref e/\H1 e = some (ErrO e C dd)/\H₀ e = none/\(∃ fI,znb K C fI)/\E (.ref C) dd (del H1 e)
section
variable {P : Program} {w : World} {K : PySem.W.Frag} {mg : Str->Option Value} {base : Heap} {N : List Str} {qual : Str} {scope : Scope} {f : Addr} {cd : Value} {A : Around} {outer : List Env} {s : Shared} {H : Hp} {E : XK}
theorem zx2 {pins : List (Addr × Obj)} {σ : St} {H2 : Hp} {s2 : Shared} {e C : Addr} {dd : Option Addr} {oe : Obj} {vs : Array Value} {φ : Heap->Prop} {a0 : Value} (I2 : Inv (cxOf (CX2 P w) P w K mg base N qual scope f cd A outer s H E) pins σ H2 s2) (he : H2 e = some (.ext φ)) (hn : H e = none)
  (ho : s2.heap.get? e = some oe) (hc : oe.cls = .ref C) (hd : oe.dict = dd) (hv : oe.data = .fields vs) (h1 : vs[1]? = some .none) (h0 : vs[0]? = some a0) (q : E (.ref C) dd (del H2 e)) :
  (cxOf (CX2 P w) P w K mg base N qual scope f cd A outer s H E).xe (.ref e) s2:=by
 have thr : ∀ b o,s.heap.get? b = some o -> ∃ o1,s2.heap.get? b = some o1:=fun b o e=>I2.base.there b o e (fun z=>nomatch z)
 have stk : s2.heap.FunFrames base (envOfC qual scope s.heap.objs.size f cd::outer):=I2.stack
 have nx : s.heap.get? e = none:=by
  cases z : s.heap.get? e with
  | none=>rfl
  | some o =>
   have:=I2.base.free e o z hn (fun z=>nomatch z)
   rw [he] at this; cases this
 generalize hfr : (envOfC qual scope s.heap.objs.size f cd::outer).filterMap (·.frame) = fr
 have hin : ∀ env∈(envOfC qual scope s.heap.objs.size f cd::outer),∀ b,env.frame = some b->b∈e::fr:=fun env hz b hb=>List.mem_cons_of_mem _ (by rw [<- hfr]; exact List.mem_filterMap.mpr ⟨env,hz,hb⟩)
 have hfs : frs (envOfC qual scope s.heap.objs.size f cd::outer) = fr:=hfr
 generalize hB : hideAll s2.heap (e::fr) = B
 have bst : B.StaysIn s2.heap:=fun b o e=>by rw [<- hB] at e; exact of_hideAll _ e
 have bget : ∀ b o,s2.heap.get? b = some o->b ∉ e::fr->B.get? b = some o:=fun b o e hb=>by rw [<- hB]; exact hideAll_get _ e hb
 have bff : s2.heap.FunFrames B (envOfC qual scope s.heap.objs.size f cd::outer):=by rw [<- hB]; exact funFrames_hide stk hin
 have be : B.get? e = none:=by rw [<- hB]; exact hideAll_none _ (List.mem_cons_self ..)
 have c1 : ∀ b o,s.heap.get? b = some o->b ∉ frs outer -> ∃ o',B.get? b = some o':=fun b o z hb=>by
  obtain ⟨o1,e1⟩:=thr b o z
  refine ⟨o1,bget b o1 e1 fun k=>?_⟩
  rcases List.mem_cons.mp k with k | k
  ·rw [k,nx] at z; cases z
  ·have k : b∈s.heap.objs.size::frs outer:=by rw [<- hfs] at k; exact k
   rcases List.mem_cons.mp k with k | k
   ·exact absurd (Heap.lt_size z) (by rw [k]; exact Nat.lt_irrefl _)
   ·exact hb k
 have tin : ∀ b u,del H2 e b = some u -> ∃ o',B.get? b = some o':=fun b u z=>by
  obtain ⟨hb,z⟩:=znw z
  obtain ⟨o,ho⟩ : ∃ o,s2.heap.get? b = some o:=(I2.hok b u z).there
  refine ⟨o,bget b o ho fun k=>?_⟩
  rcases List.mem_cons.mp k with k | k
  ·exact hb k
  ·have:=I2.stkFree b (by rw [<- hfs] at k; exact k)
   rw [z] at this; cases this
 refine zjf I2.ok.frames bff rfl ho bst be hv h1 h0 fun h3 fl3 up dk=>?_
 rw [hc] at fl3
 refine ⟨e,C,a0,B,del H2 e,dd,rfl,I2.os,I2.bare,?_,(I2.hok.del he).fly tin bst fl3.1,fl3,c1,tin,nx,zgw,dk.is ⟨oe,ho,hd⟩,q⟩
 exact Un.fly (B:=B) (I2.base.del hn) bst fl3.1 c1 up fun b hb=>(stk.mem (b:=b) (List.mem_cons_of_mem _ hb)).2
theorem zqu {x : Expr} {te : TE} {pos : Pos} (hp : PE (cxOf (CX2 P w) P w K mg base N qual scope f cd A outer s H E) x te) : PS (cxOf (CX2 P w) P w K mg base N qual scope f cd A outer s H E) (.Raise (some x) none pos) (zqi K E H te):=by
 intro pins s1 σ H1 D I h
 have W:=hp pins s1 σ H1 _ I h
 show wpAny _ _ (do standAt pos; raiseStmt _ (some (do let v <- eval x _; standAt pos; pure v)) none) _ _ s1
 refine wpAny_bind (wpAny_standAt (zpb (I.ok.hd rfl) (wpAny_bind (thn W fun v s2 ⟨u,H2,I2,ru,e,C,dd,eu,he,hn,⟨fI,hx⟩,q⟩=>wpAny_bind (wpAny_standAt (wpAny_pure ?_))))))
 subst eu
 obtain rfl : v = Value.ref e:=ru
 obtain ⟨tl,Na,nm,q',bs,hdct,sn,sub,ab,col,dc,k0,k1,k2,k3,k5,mN,hC,hN,hni,T⟩:=zjw I2.kIn hx
 obtain ⟨t0,ho⟩ : zrj e C dd s2.heap:=(I2.hok e _ he).1
 exact ⟨e,t0,dd,C,tl,rfl,⟨_,_,_,_,_,_,_,_,_,_,_,_,_,_,_,_,hC⟩,T.hasType PySem.F.excBase_ValueError.hasBase,ho,zx2 I2 he hn ho rfl rfl rfl rfl rfl q⟩
end
end L2
namespace L2
open PySem PySem.W PySem.Spec PyProof.Rows
noncomputable def zsj (C : Addr) (sp : Sp) (E : XK) (t : TA) : TE:=fun σ H Q=>t σ H fun vs H1=>∀ e,H1 e = none->sp (.ref e::vs) (upd H1 e (ErrO e C none)) (fun v H2=>v = .non/\Q (.ref e) H2) E
structure XMk (K : PySem.W.Frag) (C f : Addr) : Prop where
 cls : znb K C f
 fn : PySem.W.isFn K (.ref f) = true
 kp : PySem.W.keepIn K (.ref C) = true
section
variable {X : Cx} {CX : CXT} {k : Nat} {f C : Addr} {fd : FuncData} {ps : List Str} {sp : Sp} {E : XK} {x : Str} {p pos : Pos} {e : Expr} {es : List Expr} {t : TA}
theorem zsu (M : XMk X.K C f) (F : FnOk X.prog X.w X.K X.mg X.base CX k f fd ps sp) (hr : Room (k + 1) X.A) (hg : Gl X x) (hm : X.mg x = some (.ref C)) (hb : zcp X.K fd ps []) (hx : zlj CX X E)
  (ha : PA X (e::es) t) (hsz : ps.length <= 100) (hdb : (x == ("__debug__" : Str)) = false:=by decide) (he : starEach (e::es) X.env = (false,eval e X.env)::starEach es X.env:=by rfl) (hpl : (backTo pos (starEach es X.env)).any (·.1) = false:=by rfl) :
  PE X (.Call (.Name x p) (e::es) [] pos) (zsj C sp E t):=by
 intro pins s σ H Q I h
 refine wpAny_Call_Name_kw (zhh I hg hm ?_ hdb)
 refine PySem.W.callWith_K (h₀:=X.base) I.ok.mod.kin M.kp (thn (ha pos pins s σ H _ I h) fun us s1 ⟨vs,H1,I1,r,q⟩=>⟨I1.kIn,?_⟩) he hpl
 obtain ⟨tl,Na,nm,q',bs,hdct,sn,sub,ab,col,dc,k0,k1,k2,k3,k5,mN,hC,hN,hni,T⟩:=zjw I1.kIn M.cls
 obtain ⟨oI,hoI,hcI⟩:=Option.map_eq_some_iff.mp (beq_iff_eq.mp M.fn)
 obtain ⟨hh,g,d,tk,os⟩:=s1
 refine zpn PySem.F.excBase_ValueError (by decide) PySem.F.excBase_ValueError T hC hN hni (I1.kIn f oI hoI) hcI (fun h' e' hs hmd=>?_) ?_
 ·have I2:=Inv.errMade (s:=⟨hh,g,d,tk,os⟩) (C:=C) I1 hs hmd
  have hq:=q e' (I1.hok.fresh hs)
  have r2 : Vals (V.ref e'::vs) (Value.ref e'::us):=.cons rfl r
  have hl : (Value.ref e'::us++[]).length = ps.length:=by
   have z:=r2.length
   rw [F.len _ _ _ _ hq] at z
   rw [List.append_nil]; exact z.symm
  have hb':=hb ⟨h',g,d,tk,os⟩ (Value.ref e'::us) I2.kIn hl
  rw [List.append_nil] at hb'
  refine wpAny_call (codeAny_mono (F.run _ X.stack _ _ ⟨Value.ref e'::us,[]⟩ (Value.ref e'::us) _ _ E (hr.make C us []) (I2.env0.make C us []) hb' r2 hq) fun r s' hq'=>?_)
  cases r with
  | error e=>exact hx pins σ _ _ e s' I2 hq'
  | ok fl =>
   cases fl with
   | ret u =>
    obtain ⟨v,H',I3,rv,ev,q3⟩:=I2.after hq'
    subst ev
    exact ⟨rv,⟨V.ref e',H',I3,rfl,q3⟩⟩
   | next=>exact False.elim hq'
   | brk=>exact False.elim hq'
   | cont=>exact False.elim hq'
 ·have z:=q hh.objs.size (I1.hok.fresh (Nat.le_refl _))
  have z2:=F.len _ _ _ _ z
  have z3 : vs.length + 1 = ps.length:=z2
  have z4:=r.length
  rw [sizeLine_eq,List.nil_append]; lia
end
theorem zjl {M : Model} {A : Around} {E : Value->Shared->Prop} {s : Shared} {B : Heap} {l : List Env} {e : Addr} {C a0 : Value} {Q : Unit->Shared->Prop} (fl : Heap.FlyingW B l e C a0 s.heap)
  (h : ∀ h',Heap.FlyingW B l e C a0 h'->s.heap.UpToSlots h'->DK s.heap h'->Q () { s with heap:=h' }) : wpAny M A (setFlight (.ref e) none) Q E s:=by
 refine wpAny_mono (zdk (lands_againW (Q:=fun _ s'=>∃ h',s' = { s with heap:=h' }/\Heap.FlyingW B l e C a0 h'/\s.heap.UpToSlots h') (E:=E) fl fun h' a b=>⟨h',rfl,a,b⟩) (zrm (E:=E) fl.2.2.2.at)) (fun _ s' z=>?_) fun _ _ z=>z.1
 obtain ⟨⟨h',rfl,a,b⟩,k⟩:=z
 exact h h' a b k
noncomputable def zia (x C : Addr) (dd : Option Addr) : HO:=.ext fun h=>∃ o,h.get? x = some o/\o.cls = .ref C/\o.dict = dd/\notCls o = true
section
variable {X : Cx} {pins : List (Addr × Obj)} {σ : St} {H : Hp} {s : Shared} {x : Addr}
theorem Inv.adoptX2 {C : Addr} {dd : Option Addr} (I : Inv X pins σ H s) (hn : H x = none) (h0 : X.s₀.heap.get? x = none) (hL : x≠X.env.locals) (hc : ∀ y c,X.env.cells.lookup y = some c->c≠x) (hp : ∀ p∈X.pn++pins,p.1≠x)
  (ho : ∃ o,s.heap.get? x = some o/\o.cls = .ref C/\o.dict = dd/\notCls o = true) : Inv X pins σ (upd H x (zia x C dd)) s:=by
 refine ⟨I.ok,I.os,I.bare,⟨I.base.keep,I.base.slot,fun b o e n hx=>?_,I.base.there,fun b xs e=>?_,fun b o u e=>?_,fun b ps e=>?_⟩,I.loc,I.cell,?_,fun y c e=>?_,fun p hq=>?_,fun b u e=>?_,I.len⟩
 ·have : b≠x:=fun z=>by rw [z,h0] at e; cases e
  rw [zaf this]; exact I.base.free b o e n hx
 ·have:=I.base.tups b xs e
  rw [zaf (zaj this hn)]; exact this
 ·have:=I.base.frzs b o u e
  rw [zaf (zaj this hn)]; exact this
 ·obtain ⟨more,this⟩:=I.base.tbls b ps e
  exact ⟨more,by rw [zaf (zaj this hn)]; exact this⟩
 ·rw [zaf (Ne.symm hL)]; exact I.free
 ·rw [zaf (hc y c e)]; exact I.freeC y c e
 ·obtain ⟨e,n,ne,nf,d⟩:=I.pin p hq
  exact ⟨e,by rw [zaf (hp p hq)]; exact n,ne,nf,d⟩
 ·by_cases hb : b = x
  ·subst hb
   rw [zae] at e
   cases e
   obtain ⟨o,h1,h2⟩:=ho
   exact ⟨⟨o,h1,h2⟩,⟨o,h1⟩,fun h1 h2 ⟨o,ho,r⟩ k=>⟨o,k o ho,r⟩⟩
  ·rw [zaf hb] at e
   exact (I.hok b u e).stay (fun _ _ _ q=>q) (fun c q=>by rw [zaf (zaj q hn)]; exact q) fun c xs q=>by rw [zaf (zaj q hn)]; exact q
theorem zu1 {CF : Addr} {cn n : Str} {np hp : Pos} {i : Nat} {b₀ : Stmt} {suite : List Stmt} {ts : TS} {D : Ends} {H1 : Hp} {s1 s2 : Shared} {ev : Value} (I1 : Inv X pins σ H1 s1)
  (hgc : Gl X cn) (hmc : X.mg cn = some (.ref CF)) (hN : X.N.Nodup) (hi : X.N[i]? = some n) (hx : X.env.scope.names.lookup n = some .local) (hs : ∀ x,PSs (X.inSuite x) (b₀::suite) ts) (hst : X.stack = X.env::X.outer/\X.env.frame = some X.env.locals/\X.ex = [])
  (hq : CX2 X.prog X.w X.stack H1 s1 (fun cls dd H2=>∃ C,cls = .ref C/\exmOne X.K (.ref C) (.ref CF) = some true /\ ∀ x,H2 x = none ->
   ts { nx:=fun σ' H'=>∃ v,σ'[i]? = some (some v)/\D.nx (σ'.set i none) H',rt:=fun _ _=>False } (σ.set i (some (.ref x))) (upd H2 x (zia x C dd))) ev s2) (hdc : (cn == ("__debug__" : Str)) = false) :
  wpAny (model X.prog X.w) X.A (noteFrame ev X.env) (fun _ s3=>wpAny (model X.prog X.w) X.A (setFlight ev none) (fun _ s4=>wpAny (model X.prog X.w) X.A (handleBy ev X.env [.ExceptHandler (some (.Name cn np)) (some n) (b₀::suite) hp]) (SP X pins D) X.xe s4) X.xe s3) X.xe s2:=by
 obtain ⟨x,C,a0,B,H2,dd,rfl,os,bare,U,hok,fl,c1,c2,nx,hxn,di,C',eC,hex,q2⟩:=hq
 cases eC
 have fl0 : Heap.FlyingW B (X.env::X.outer) x (.ref C) a0 s2.heap:=by rw [<- hst.1]; exact fl
 have hfr : X.A.frames = some (X.env::X.outer):=by rw [<- hst.1]; exact I1.ok.frames
 have ff : ∀ b∈frs X.stack,∃ o,s2.heap.get? b = some o /\ ∀ vs,o.data ≠ .fields vs:=fun b hb=>(fl.2.2.1.mem (b:=b) hb).2
 show wpAny _ _ (noteFrame (.ref x) X.env) _ _ s2
 refine zrt hfr hst.2.1 fl0 fun h3 held up3 dk3=>?_
 refine zzg (s:={ s2 with heap:=h3 }) held fun h4 fl4 up4 dk4=>?_
 have inv : ∀ {h' : Heap},B.StaysIn h'->s2.heap.UpToSlots h'->Inv X pins σ H2 { s2 with heap:=h' }:=fun {h'} st up =>
  I1.call' (s':={ s2 with heap:=h' }) (ch:=[]) os (U.fly fl.1 st c1 up ff) (hok.fly c2 fl.1 st) bare (fun b z=>nomatch z)
 have I4:=inv fl4.1 (up3.trans up4)
 obtain ⟨ob4,hob4,hcl4⟩:=fl4.there
 refine wpAny_handleBy_cons (codeAny_handlers_test (zhh (X:=X.inSuite x) (I4.inSuite x) hgc hmc ?_ hdc)) (by intro q; cases q)
 have LT : Looks (model X.prog X.w) h4 (typeOf (.ref x)) (.ref C):=by rw [<- hcl4]; exact (Looks.ld hob4).andThen .now
 refine Looks.here (s:={ s2 with heap:=h4 }) (exm_one (M:=model X.prog X.w) I4.kIn LT hex) ?_
 refine codeAny_handlers_suite_as ?_
 refine zjl (s:={ s2 with heap:=h4 }) fl4 fun h5 fl5 up5 dk5=>?_
 have I5:=inv fl5.1 ((up3.trans up4).trans up5)
 have h0 : X.s₀.heap.get? x = none:=by
  cases z : X.s₀.heap.get? x with
  | none=>rfl
  | some o =>
   obtain ⟨o',e'⟩:=I1.base.there x o z (by rw [hst.2.2]; exact fun z=>nomatch z)
   rw [nx] at e'; cases e'
 have I6 : Inv X pins σ (upd H2 x (zia x C dd)) { s2 with heap:=h5 }:=by
  refine I5.adoptX2 hxn h0 ?_ ?_ ?_ ?_
  ·obtain ⟨m,⟨o,_,_,ho,_⟩,_⟩:=I1.loc
   exact fun z=>by rw [z,ho] at nx; cases nx
  ·intro y c e z
   obtain ⟨v,o,ho,_⟩:=I1.cell y c e
   rw [z,nx] at ho; cases ho
  ·intro p' hp' z
   have:=(I1.pin p' hp').1
   rw [z,nx] at this; cases this
  ·obtain ⟨_,_,_,o,vs5,_,_,_,ho,⟨hc,_⟩,hd5,_⟩:=fl5
   obtain ⟨o',ho',hd'⟩:=((dk3.trans dk4).trans dk5).is di
   have ho : h5.get? x = some o:=ho
   rw [ho] at ho'; cases ho'
   exact ⟨o,ho,hc,hd',by unfold notCls; rw [hd5]⟩
 refine zg0 (X:=X.inSuite x) (i:=i) (v:=.ref x) (I6.inSuite x) hN hi (.inl hx) rfl (fun s7 I7=>?_) (.inr hx)
 refine wpAny_mono (hs x pins s7 (σ.set i (some (.ref x))) _ _ I7 (q2 x hxn)) (fun f' s8 h8=>?_) fun _ _ z=>z.elim
 cases f' with
 | next =>
  obtain ⟨σ8,H8,I8,v8,hv8,q8⟩:=h8
  have I8:=I8.outSuite I1.ok
  show wpAny _ _ (do bindName X.env n .none; unbindBehindTheSuite X.env n hp) _ _ s8
  refine wpAny_bind (wpAny_bindName (zg0 (i:=i) (v:=.non) I8 hN hi (.inl hx) rfl (fun s9 I9=>?_) (.inr hx)))
  have hl8 : i < σ8.length:=(List.getElem?_eq_some_iff.mp hv8).1
  unfold unbindBehindTheSuite
  refine wpAny_onRaise (zrq (i:=i) (v:=.non) I9 hN hi hx (List.getElem?_set_self hl8) fun s10 I10=>?_)
  rw [List.set_set] at I10
  exact ⟨_,H8,I10,q8⟩
 | ret u=>obtain ⟨_,_,_,_,_,z⟩:=h8; exact z.elim
 | brk=>obtain ⟨_,_,_,z⟩:=h8; exact z.elim
 | cont=>obtain ⟨_,_,_,z⟩:=h8; exact z.elim
end
theorem xat2 {x C : Addr} {dd : Option Addr} {h : Heap} (p : ∃ o,h.get? x = some o/\o.cls = .ref C/\o.dict = dd/\notCls o = true) : XAt x C h:=let ⟨o,a,b,_⟩:=p; ⟨o,a,b⟩
noncomputable def zt1 (K : PySem.W.Frag) : List V->Hp->VK->Prop:=fun xs H Q=>∃ x C dd c b,H x = some (zia x C dd)/\XTell K C/\((∃ D,xs = [.ref x,.ref D]/\c = Value.ref D) \/ (∃ T,xs = [.ref x,.ty T]/\c = Value.type T))/\kitOne K (.ref C) c = some b/\Q (.bl b) H
section
open PySem.Calls Builtin Builtin.ObjectAttr
variable {X : Cx}
theorem zkp : zcg X (.builtin "isinstance") (zt1 X.K):=by
 intro pins s σ H xs us Q I r h
 obtain ⟨x,C,dd,c,b,hx,T,hc,hk,q⟩:=h
 have hp : XAt x C s.heap:=xat2 (I.hok x _ hx).1
 obtain ⟨u,v,rfl,hu,hv⟩ : ∃ u v,us = [u,v]/\u = .ref x/\v = c:=by
  rcases hc with ⟨D,rfl,rfl⟩ | ⟨T',rfl,rfl⟩
  ·obtain ⟨u,v,rfl,ru,rv⟩:=zh1 r
   exact ⟨u,v,rfl,ru,rv⟩
  ·obtain ⟨u,v,rfl,ru,rv⟩:=zh1 r
   exact ⟨u,v,rfl,ru,rv⟩
 subst hu hv
 exact kia_one (zns T) I.kIn hp hk (by intro z; cases z) fun tk=>⟨.bl b,H,I.tok _,rfl,q⟩
theorem zw4 {prog : Program} {w : World} {A : Around} {E : Value->Shared->Prop} {s : Shared} {K : PySem.W.Frag} {x C dx : Addr} {mA : Str->Option Value} {name : Str} {v : Value} {ex : Bool} {Q : Value->Shared->Prop} (X : K.In s.heap) (T : XTell K C) (ha : findIn K (.ref C) name = some none)
  (p : ∃ o,s.heap.get? x = some o/\o.cls = .ref C/\o.dict = some dx/\notCls o = true) (n : s.heap.Ns1 dx mA) (hv : mA name = some v) (hv' : handedIn v = true) (q : Q v { s with toks:=s.toks + 1 }) : wpAny (model prog w) A (getAttr (.ref x) name ex) Q E s:=by
 obtain ⟨hh,g,d,t,os⟩:=s
 obtain ⟨od,hod,hl⟩:=zq4 n
 obtain ⟨o,ho,hc,hd,hn⟩:=id p
 have J : InstAt hh x o C (some od):=⟨ho,hc,hn,by rw [hd]; exact hod⟩
 have L0:=(xat2 p).ty (M:=model prog w); have L1:=looks_findIn (M:=model prog w) X T.ga; have L2:=looks_findIn (M:=model prog w) X T.gt
 have L3:=looks_find (M:=model prog w) X J (findObj_own T.dc ha rfl (by rw [hl,hv])); have L4:=looks_mroIn (M:=model prog w) X T.mb
 have hbd:=F.attr_ValueError.ga.bind (.ref x)
 have hk : builtinKind "BaseException.__getattribute__" = some .slot:=by decide +kernel
 have hs : splitId "BaseException.__getattribute__" = some ("BaseException", "__getattribute__"):=by decide +kernel
 unfold getAttr getAttrBy; refine wpAny_bind (wpAny_mkText (wpAny_holding (wpAny_bind (L0.at (wpAny_bind (L1.at ?_))))))
 show wpAny _ _ (if (_ && _) then _ else _) _ _ _
 rw [if_neg (by rw [Bool.and_eq_true]; intro z; exact absurd z.2 (by decide +kernel))]
 unfold getAttrByItsOwn
 refine wpAny_bind ((show Looks _ _ (hookBefore (.ref C)) none from L2).at (wpAny_bind (wpAny_attempt (wpAny_holding ?_))))
 unfold callGetattribute boundAndCalled
 rw [if_neg (by intro z; rw [Bool.and_eq_true] at z; exact absurd z.2 (by decide +kernel)),hbd]
 refine wpAny_bind (wpAny_pure (wpAny_call ?_))
 refine codeAny_call_builtin F.attr_ValueError.ga.plain F.entry_bexc_ga ?_
 have hao:=F.args_bexc_ga (.ref x) (.str name t)
 simp only [checkBuiltinCall,hk,hs]; unfold isInstance
 repeat lk
 exact handed_on hv' q
noncomputable def zrg (K : PySem.W.Frag) (te : TE) (f : Str) : TE:=fun σ H Q=>te σ H fun v H1=>∃ x C dx fs u,v = .ref x/\H1 x = some (zia x C (some dx))/\H1 dx = some (.xd fs)/\XTell K C/\zsq K C f/\fs.lookup f = some u/\Q u H1
theorem zr1 {e : Expr} {te : TE} {f : Str} {pos : Pos} (he : PE X e te) (hb : attributeBase e f X.env (eval e X.env) = eval e X.env) : PE X (.Attribute e f pos) (zrg X.K te f):=by
 intro pins s σ H Q I h
 refine zx9 hb (thn (he pins s σ H _ I h) fun u s1 hz9=>?_)
 obtain ⟨v,H1,I1,rv,x,C,dx,fs,y,ev,hx,hd,T,n,l,q⟩:=hz9
 subst ev
 obtain rfl : u = Value.ref x:=rv
 obtain ⟨mA,ns,r⟩:=I1.hok dx _ hd
 obtain ⟨z,hz,rz⟩:=RelO.some_of (v:=y) (o:=mA f) (by rw [<- l]; exact r f)
 exact zw4 I1.kIn T n (I1.hok x _ hx).1 ns hz (ztp rz) ⟨y,H1,I1.tok _,rz,q⟩
end
end L2
namespace L2
open PySem PySem.W PyProof.Rows
noncomputable def xsl2 (K : PySem.W.Frag) (x C dx : Addr) (f : Str) (d : D) : Sl:=.g (.ref x) [] fun F _=>F x = some (zia x C (some dx)) /\ ∃ v,F dx = some (.xd [(f,v)])/\Rep K F d v
theorem ztc (K : PySem.W.Frag) (x C dx : Addr) (f : Str) (d : D) : Stab [] fun F _=>F x = some (zia x C (some dx)) /\ ∃ v,F dx = some (.xd [(f,v)])/\Rep K F d v :=
 fun F1 H1 F2 H2 sf _ ⟨a,v,b,c⟩=>⟨sf _ _ a,v,sf _ _ b,c.mono sf⟩
section
variable {K : PySem.W.Frag} {G H₀ L : Hp} {ss : List Sl} {ta tb te : TE} {t : TA} {ds : List D} {D0 : Ends} {E E' : XK} {C fI : Addr} {f : Str} {pre bad : List D->Prop} {res err : List D->D}
theorem zrk {j : Nat} {x dx : Addr} {d : D} {c : Value} {cv : V} {b : Bool} (hs : ss[j]? = some (xsl2 K x C dx f d)) (T : XTell K C) (hc : (∃ D,cv = .ref D/\c = Value.ref D) \/ (∃ T,cv = .ty T/\c = Value.type T)) (hk : kitOne K (.ref C) c = some b) :
  Ev K G H₀ L ss (tCB (zt1 K) (zbh (tVar j) (zbh (tC cv) tNil))) (.bl b):=fun F H σ Q S q=>by
 obtain ⟨v,e,ew,ha,hw,st⟩:=S.get hs (by intro z; cases z)
 cases ew
 refine ⟨_,e,x,C,_,c,b,S.ext.fh _ _ hw.1,T,?_,hk,q _ _ _ (Ext.refl S.ext.fh) Rep.bl⟩
 rcases hc with ⟨D,rfl,rfl⟩ | ⟨T',rfl,rfl⟩
 ·exact .inl ⟨D,rfl,rfl⟩
 ·exact .inr ⟨T',rfl,rfl⟩
theorem zsk {j : Nat} {x dx : Addr} {d : D} (hs : ss[j]? = some (xsl2 K x C dx f d)) (T : XTell K C) (n : zsq K C f) : Ev K G H₀ L ss (zrg K (tVar j) f) d:=fun F H σ Q S q=>by
 obtain ⟨v,e,ew,ha,⟨hx,y,hd,ry⟩,st⟩:=S.get hs (by intro z; cases z)
 cases ew
 exact ⟨_,e,x,C,dx,[(f,y)],y,rfl,S.ext.fh _ _ hx,S.ext.fh _ _ hd,T,n,by simp [List.lookup],q _ _ _ (Ext.refl S.ext.fh) ry⟩
end
section
variable {P : Program} {w : World} {K : PySem.W.Frag} {mg : Str->Option Value} {base : Heap}
theorem Fun.okX2 {x qual : Str} {st : Stmt} {f : Addr} {fd : FuncData} {N ps : List Str} {k : Nat} {sp : Sp} (F : Fun K x qual st f fd) (S : FnScope N ps (zac st)) (len : ∀ vs H Q E,sp vs H Q E->vs.length = ps.length)
  (hbody : ∀ (cdv : Value) (A : Around) (outer : List Env) (s : Shared) (H : Hp) (vs : List V) (Q : VK) (E : XK),Room k (A.deeper (envOfC qual (zac st) s.heap.objs.size f cdv))->sp vs H Q E ->
   ∃ t,PSs (cxOf (CX2 P w) P w K mg base N qual (zac st) f cdv A outer s H E) (zak st) t/\t { nx:=fun _ H'=>Q .non H',rt:=Q } (start N vs) H) : FnOk P w K mg base (CX2 P w) (k + 1) f fd ps sp:=by
 obtain ⟨oc,od,kV,doc,pm,an,cdv,ct,osl,rfl,lk,hcd⟩:=F.ex
 exact zyx lk hcd S len fun A outer s H vs Q E hr hsp=>hbody cdv A outer s H vs Q E hr hsp
end
end L2
namespace L2
open PySem PySem.W PyProof.Rows
end L2
namespace L2
open PySem PySem.W PySem.Spec PyProof.Rows
section
variable {M : Model} {A : Around} {E : Value->Shared->Prop} {s : Shared} {env : Env}
theorem ze7 {value : Expr} {pos : Pos} {Q : Value->Shared->Prop} (h : wpAny M A (eval value env) (fun v s1=>wpAny M A (pyReprObj v) (fun y s2=>wpAny M A (formatField y Str.empty) Q E s2) E s1) E s) :
  wpAny M A (eval (.FormattedValue value 114 none pos) env) Q E s:=by
 show wpAny M A (do let v <- eval value env; standAt pos; formatted pos (<- holding [v] (converted 114 v)) none) Q E s
 refine wpAny_bind (wpAny_mono h (fun v s1 h1=>wpAny_bind (wpAny_standAt ?_)) fun _ _ x=>x)
 show wpAny _ _ (do let v' <- holding [v] (pyReprObj v); formatField v' Str.empty) Q E s1
 exact wpAny_bind (wpAny_holding h1)
end
theorem zjs (ls : List (List Nat)) : D.toPs (ls.map .str) = ls.map fun l=>PyData.str (T l):=by
 induction ls with
 | nil=>rfl
 | cons l ls ih=>rw [List.map_cons,List.map_cons,D.toPs,ih]; rfl
theorem ziv : ∀ ls : List (List Nat),PyData.shownAll (ls.map fun l=>PyData.str (T l)) = ls.map fun l=>reprText (T l)
 | []=>rfl
 | l::ls=>by rw [List.map_cons,List.map_cons,PyData.shownAll,ziv ls]; rfl
theorem zft : ∀ ls : List (List Nat),PyData.showableAll (ls.map fun l=>PyData.str (T l)) = true
 | []=>rfl
 | l::ls=>by rw [List.map_cons,PyData.showableAll,zft ls]; rfl
theorem zhn : ∀ ls : List (List Nat),PyData.hasDictAll (ls.map fun l=>PyData.str (T l)) = false
 | []=>rfl
 | l::ls=>by rw [List.map_cons,PyData.hasDictAll,zhn ls]; rfl
theorem zvy : ∀ ls : List (List Nat),D.nbs (ls.map .str) = true:=fun ls=>D.nbs_map (fun _=>rfl) ls
theorem zll : ∀ ls : List (List Nat),D.deps (ls.map .str) = 0
 | []=>rfl
 | l::ls=>by rw [List.map_cons,D.deps,zll ls]; rfl
theorem zs5 {ls : List (List Nat)} (h1 : ls.length <= 1000) (h2 : ∀ l∈ls,l.length <= 1000 /\ ∀ c∈l,c < 128) : (D.lst (ls.map .str)).toP.shown.length <= 10010000:=by
 show (PyData.shown (.list (D.toPs (ls.map .str)))).length <= _
 rw [zjs]
 show (listText (PyData.shownAll (ls.map fun l=>PyData.str (T l)))).length <= _
 rw [ziv]
 have h:=listText_len_le (ls.map fun l=>reprText (T l))
 have h3 : ((ls.map fun l=>reprText (T l)).map (·.length)).sum <= ls.length * 10002:=by
  clear h h1
  induction ls with
  | nil=>simp
  | cons l ls ih =>
   have i1:=ih fun x hx=>h2 x (List.mem_cons_of_mem _ hx)
   obtain ⟨q1,q2⟩:=h2 l (List.mem_cons_self ..)
   have q3:=StrLaws.reprText_len (T l) (fun c hc=>Nat.lt_of_lt_of_le (q2 c hc) (by decide))
   rw [zm5] at q3
   simp only [List.map_cons,List.sum_cons,List.length_cons]
   rw [Nat.add_mul]
   lia
 rw [List.length_map] at h
 have h4 : ls.length * 10002 <= 1000 * 10002:=Nat.mul_le_mul_right _ h1
 lia
noncomputable def tFsR (K : PySem.W.Frag) (a : Str) (te : TE) : TE:=fun σ H Q=>(Str.empty++a).length <= 1000/\te σ H fun x H1=>∃ (p : Addr) (ls : List (List Nat)),x = .ref p/\Rep K H1 (.lst (ls.map .str)) x/\ls.length <= 1000/\(∀ l∈ls,l.length <= 1000) /\ ∀ y,Q (.str y) H1
section
variable {X : Cx} {a : Str} {e : Expr} {te : TE} {k1 : Nat} {p1 p2 pos : Pos}
theorem znx {K : PySem.W.Frag} {H : Hp} : ∀ {ls : List (List Nat)} {vs : List V},Reps K H (ls.map .str) vs -> ∀ l∈ls,∀ c∈l,c < 128
 | [],_,_,l,hl=>by cases hl
 | x::ls,vs,r,l,hl=>by
  rw [List.map_cons,Reps] at r
  obtain ⟨v,r',rfl,rv,rr⟩:=r
  rcases List.mem_cons.mp hl with rfl | hl
  ·exact rv.asc
  ·exact znx rr l hl
theorem zv6 (hg : X.A.guards = some []) (hu : X.A.units + 64 < cLine) (he : PE X e te) : PE X (.JoinedStr [.Constant (.str a) k1 p1,.FormattedValue e 114 none p2] pos) (tFsR X.K a te):=by
 intro pins s σ H Q I h
 refine JoinedStr_many (joinParts_cons ?_)
 refine wpAny_mono (zcz (x:=a) pins s σ H (fun v H1=>v = .str a/\H1 = H) I ⟨rfl,rfl⟩) (fun u s1 ⟨v,H1,I1,rv,ev,eh⟩=>?_) fun _ _ z=>z
 subst ev eh
 obtain ⟨t1,rfl⟩:=zuc rv
 refine ⟨by have:=h.1; rw [sizeLine_eq]; lia,joinParts_cons (ze7 ?_)⟩
 refine wpAny_mono (he pins s1 σ H1 _ I1 h.2) (fun u s2 ⟨x,H2,I2,r2,p,ls,ex,rep,h1,h2,q⟩=>?_) fun _ _ z=>z
 subst ex
 obtain rfl : u = Value.ref p:=r2
 obtain ⟨p',xs,ep,sq,rs⟩:=rep.of_lst
 have hasc:=znx rs
 obtain ⟨⟨as,rd⟩,_⟩:=I2.reads (d:=.lst (ls.map .str)) (zvy ls) rep rfl
 have hlen:=zs5 h1 fun l hl=>⟨h2 l hl,hasc l hl⟩
 have hsl : (D.lst (ls.map .str)).toP.shown.length <= sizeLine:=by rw [sizeLine_eq]; lia
 have app : ∀ u v : Str,(u++v).length = u.length + v.length:=fun u v=>Str.length_append u v
 have hz2 : (Str.empty++a++(D.lst (ls.map .str)).toP.shown).length <= sizeLine:=by have:=h.1; rw [app,sizeLine_eq]; lia
 refine pyReprObj_of_reads rd (by show PyData.showableAll (D.toPs (ls.map .str)) = true; rw [zjs]; exact zft ls) (PyData.noDict_hsm (by show PyData.hasDictAll (D.toPs (ls.map .str)) = false; rw [zjs]; exact zhn ls)) hg
  (by rw [D.toP_depth]; show X.A.units + (D.deps (ls.map .str) + 1) < cLine; rw [zll]; lia) (fun _ _ z=>z) (fun h' u tk hk=>formatField_str (fun t' tk'=>?_) hsl) hsl
 exact ⟨hz2,joinParts_nilE (joinParts_nil ⟨.str _,H2,I2.kept hk,⟨_,rfl⟩,q _⟩ hz2)⟩
end
noncomputable def zr7 (K : PySem.W.Frag) (C : Addr) (f : Str) : Sp:=fun vs H Q _=>∃ (e p : Addr) (ls : List (List Nat)),vs = [.ref e,.ref p]/\Rep K H (.lst (ls.map .str)) (.ref p)/\ls.length <= 1000/\(∀ l∈ls,l.length <= 1000)/\H e = some (ErrO e C none) /\
 ∀ q ws dx,H q = none->q≠e->Reps K H (ls.map .str) ws->dx≠q->dx≠e->H dx = none->Q .non (upd (upd (upd H q (.lst ws)) e (ErrO e C (some dx))) dx (.xd [(f,.ref q)]))
theorem zqt {K : PySem.W.Frag} {C fI : Addr} {f a x y : Str} {vs : List V} {H : Hp} {Q : VK} {E : XK} (M : znb K C fI) (S : XStore K C f) (ha : (Str.empty++a).length <= 1000) (h : zr7 K C f vs H Q E) :
  tSeq (zvb (zn9 K (zbh (tVar 0) (zbh (tFsR K a (tVar 1)) tNil)))) (zre K (tVar 0) (tCB (fun xs H Q=>∃ p ys,xs = [.ref p]/\(SqL K H p ys \/ SqT K H p ys) /\ ∀ l,H l = none->Q (.ref l) (upd H l (.lst ys))) (zbh (tVar 1) tNil)) f) { nx:=fun _ H'=>Q .non H',rt:=Q } (start [x,y] vs) H:=by
 obtain ⟨e,p,ls,rfl,rep,h1,h2,he,q⟩:=h
 refine ⟨.ref e,rfl,ha,.ref p,rfl,p,ls,rfl,rep,h1,h2,fun z=>⟨e,C,none,_,rfl,he,⟨fI,M⟩,?_⟩⟩
 obtain ⟨p',xs,ep,sq,rs⟩:=rep.of_lst
 cases ep
 refine ⟨.ref p,rfl,p,xs,rfl,.inl sq,fun l hl=>?_⟩
 have hle : l≠e:=fun z=>by rw [z,he] at hl; cases hl
 refine ⟨.ref e,rfl,e,C,rfl,by rw [zaf (Ne.symm hle)]; exact he,S,fun dx hdx hne=>?_⟩
 have hdl : dx≠l:=fun z=>by rw [z,zae] at hdx; cases hdx
 exact q l xs dx hl hle rs hdl hne (by rw [zaf hdl] at hdx; exact hdx)
theorem zny {K : PySem.W.Frag} {H H2 : Hp} : ∀ {ls : List (List Nat)} {vs : List V},Reps K H (ls.map .str) vs->Reps K H2 (ls.map .str) vs
 | [],vs,r=>by rw [List.map_nil,Reps] at r ⊢; exact r
 | x::ls,vs,r=>by
  rw [List.map_cons,Reps] at r ⊢
  obtain ⟨v,r',rfl,rv,rr⟩:=r
  exact ⟨v,r',rfl,by rw [rv.of_str]; exact Rep.str rv.asc,zny rr⟩
noncomputable def SpXR (K : PySem.W.Frag) (C : Addr) (f : Str) (pre bad : List D->Prop) (res : List D->D) (errR : List D->D->Prop) : Sp:=fun vs H Q E=>∃ G ds,Same G H/\Reps K G ds vs/\pre ds /\
 (¬ bad ds -> ∀ v G' H',Ext G H G' H'->Rep K G' (res ds) v->Q v H')/\(bad ds -> ∀ dx v d G' H',errR ds d->Ext G H G' H'->G' dx = some (.xd [(f,v)])->Rep K G' d v->E (.ref C) (some dx) H')
noncomputable def RtXR (K : PySem.W.Frag) (G H₀ : Hp) (E : XK) (C : Addr) (f : Str) (R : D->Prop) : Prop:=∀ dx v d F H',R d->Ext G H₀ F H'->F dx = some (.xd [(f,v)])->Rep K F d v->E (.ref C) (some dx) H'
section
variable {K : PySem.W.Frag} {H : Hp} {vs : List V} {Q : VK} {E : XK} {N : List Str} {t : TS} {C : Addr} {f : Str} {pre bad : List D->Prop} {res : List D->D} {errR : List D->D->Prop}
theorem zok {n : Nat} (hpre : ∀ ds,pre ds->ds.length = n) (h : SpXR K C f pre bad res errR vs H Q E) : vs.length = n:=by
 obtain ⟨G,ds,sm,r,hp,q⟩:=h
 rw [<- r.length]; exact hpre ds hp
theorem zxc (h : SpXR K C f pre bad res errR vs H Q E) (hN : vs.length <= N.length) (body : ∀ G ds,pre ds->(¬ bad ds->RtD K G H Q (res ds))->(bad ds->RtXR K G H E C f (errR ds))->Go K G H G { nx:=fun _ H'=>Q .non H',rt:=Q } (slots N.length ds) t) :
  t { nx:=fun _ H'=>Q .non H',rt:=Q } (start N vs) H:=by
 obtain ⟨G,ds,sm,r,hp,q1,q2⟩:=h
 exact body G ds hp (fun nb v F H' e h4=>q1 nb v F H' e h4) (fun b dx v d F H' hd e h1 h2=>q2 b dx v d F H' hd e h1 h2) G H _ (zcs sm r hN)
end
section
variable {K : PySem.W.Frag} {G H₀ L : Hp} {ss : List Sl} {te : TE} {t : TA} {ds : List D} {D0 : Ends} {E E' : XK} {C fI : Addr} {f : Str} {pre bad : List D->Prop} {res : List D->D} {errR : List D->D->Prop} {S1 : D->Prop}
theorem ztv (M : znb K C fI) (a : EvE K G H₀ L ss te S1) (hS : ∀ d, S1 d -> ∃ ls : List (List Nat), d = .lst (ls.map .str) /\ ls.length <= 1000 /\ ∀ l ∈ ls, l.length <= 1000) (h : RtXR K G H₀ E C f S1) :
  Go K G H₀ L D0 ss (zqi K E H₀ (zsj C (zr7 K C f) E' (zbh te tNil))):=fun F H σ S =>
 a F H σ _ S fun d v F1 H1 hd e1 r1=>by
  intro e he
  obtain ⟨ls,rfl,b1,b2⟩:=hS d hd
  obtain ⟨p,xs,rfl,sq,rs⟩:=r1.of_lst
  have fe : F1 e = none:=e1.fh.free he
  have sm : Same F1 (upd H1 e (ErrO e C none)):=e1.fh.trans (Same.upd he)
  refine ⟨e,p,ls,rfl,r1.mono sm,b1,b2,zae,fun q ws dx hq hqe rw' hdq hde hdx=>⟨rfl,e,C,some dx,rfl,?_,?_,⟨fI,M⟩,?_⟩⟩
  ·rw [zaf (Ne.symm hde),zae]
  ·exact (S.ext.trans e1).hh.free he
  ·have hq1 : H1 q = none:=by rw [zaf hqe] at hq; exact hq
   have hd1 : H1 dx = none:=by rw [zaf hde] at hdx; exact hdx
   have eH : del (upd (upd (upd (upd H1 e (ErrO e C none)) q (.lst ws)) e (ErrO e C (some dx))) dx (.xd [(f,.ref q)])) e = upd (upd H1 q (.lst ws)) dx (.xd [(f,.ref q)]):=by
    funext b
    by_cases hb : b = e
    ·rw [hb,zgw,zaf (Ne.symm hde),zaf (Ne.symm hqe),he]
    ·rw [zgc hb]
     by_cases hc : b = dx
     ·rw [hc,zae,zae]
     ·rw [zaf hc,zaf hc,zaf hb]
      by_cases hg : b = q
      ·rw [hg,zae,zae]
      ·rw [zaf hg,zaf hg,zaf hb]
   rw [eH]
   have x1:=(S.ext.trans e1).newF (o:=.lst ws) hq1
   have hd2 : upd H1 q (.lst ws) dx = none:=by rw [zaf hdq]; exact hd1
   have x2:=x1.newF (o:=.xd [(f,.ref q)]) hd2
   refine h dx (.ref q) (.lst (ls.map .str)) _ _ hd x2 zae (Rep.lst (SqL.of ?_) (zny rw'))
   rw [zaf (Ne.symm hdq),zae]
theorem zqf (a : EvAF K G H₀ L ss t ds) (hp : pre ds) (hb : ¬ bad ds) : Ev K G H₀ L ss (zhg (SpXR K C f pre bad res errR) [] E t) (res ds):=fun F H σ Q S q =>
 a F H σ _ S fun vs F1 H1 e1 r1=>⟨F1,ds,e1.fh,by rw [List.append_nil]; exact r1,hp,fun _ v G' H' e2 r=>q _ _ _ (e1.trans e2) r,fun b=>absurd b hb⟩
end
end L2
namespace L2
open PySem PySem.W PySem.Spec PyProof.Rows
noncomputable def znh (K : PySem.W.Frag) (sp : Sp) (ta : TA) (i : Nat) (CF : Addr) (ts : TS) : TS:=fun D σ H=>ta σ H fun vs H1=>sp vs H1 (fun v H2=>∀ p,H2 p = none->D.rt (.ref p) (upd H2 p (.tup [v,.non]))) (fun cls dd H2=>∃ C,cls = .ref C/\exmOne K (.ref C) (.ref CF) = some true /\ ∀ x,H2 x = none ->
 ts { nx:=fun σ' H'=>∃ v,σ'[i]? = some (some v)/\D.nx (σ'.set i none) H',rt:=fun _ _=>False } (σ.set i (some (.ref x))) (upd H2 x (zia x C dd)))
section
variable {X : Cx}
theorem zpq {x1 : _} {k j : Nat} {f CF : Addr} {fd : FuncData} {ps : List Str} {sp : Sp} {fn cn n : Str} {p pos kp tpos rpos np hp tp : Pos} {e : Expr} {es : List Expr} {ta : TA} {i : Nat} {b₀ : Stmt} {suite : List Stmt} {ts : TS}
  (F : FnOk X.prog X.w X.K X.mg X.base (CX2 X.prog X.w) k f fd ps sp) (hr : Room k X.A) (hg : Gl X fn) (hm : X.mg fn = some (.ref f)) (hk : PySem.W.keepIn X.K (.ref f) = true) (hb : zcp X.K fd ps []) (ha : PA X.nox (e::es) ta)
  (hgc : Gl X cn) (hmc : X.mg cn = some (.ref CF)) (hN : X.N.Nodup) (hi : X.N[i]? = some n) (hx : X.env.scope.names.lookup n = some .local) (hs : ∀ x,PSs (X.inSuite x) (b₀::suite) ts) (hst : X.stack = X.env::X.outer/\X.env.frame = some X.env.locals/\X.ex = [])
  (hdb : (fn == ("__debug__" : Str)) = false:=by decide) (hdc : (cn == ("__debug__" : Str)) = false:=by decide) (he : starEach (e::es) X.env = (false,eval e X.env)::starEach es X.env:=by rfl) (hpl : (backTo pos (starEach es X.env)).any (·.1) = false:=by rfl)
  (he2 : starEach [.Call (.Name fn p) (e::es) [] pos,.Constant .none j kp] X.env = (false,eval (.Call (.Name fn p) (e::es) [] pos) X.env)::starEach [.Constant .none j kp] X.env:=by rfl)
  (he3 : starEach [.Constant .none j kp] X.env = (false,eval (.Constant .none j kp) X.env)::starEach [] X.env:=by rfl) :
  PS X (.Try [.Return (some (.Tuple [.Call (.Name fn p) (e::es) [] pos,.Constant .none j kp] x1 tpos)) rpos] [.ExceptHandler (some (.Name cn np)) (some n) (b₀::suite) hp] [] [] tp) (znh X.K sp ta i CF ts):=by
 intro pins s σ H D I h
 refine wpAny_Try_except (wpAny_execs_cons (wpAny_Return_some (wpAny_Tuple_spliced ?_)))
 rw [he2]
 show wpAny _ _ (spliced ((false,eval (.Call (.Name fn p) (e::es) [] pos) X.env)::backTo tpos (starEach [.Constant .none j kp] X.env))) _ _ s
 refine Calls.spliced_cons (wpAny_Call_Name_kw (zhh I hg hm ?_ hdb))
 refine PySem.W.callWith_K (h₀:=X.base) I.ok.mod.kin hk (wpAny_mono (ha pos pins s σ H _ (I.wish _) h) (fun us s1 ⟨vs,H1,I1,r,q⟩=>⟨I1.unwish.kIn,?_⟩) fun _ _ z=>z.elim) he hpl
 have I1:=I1.unwish
 have hl : (us++[]).length = ps.length:=by rw [List.append_nil,<- r.length]; exact F.len _ _ _ _ q
 have hb':=hb s1 us I1.kIn hl
 rw [List.append_nil] at hb'
 refine wpAny_call (codeAny_mono (F.run X.A X.stack s1 H1 ⟨us,[]⟩ us vs _ _ hr I1.env0 hb' r q) fun r s2 hq=>?_)
 cases r with
 | ok fl =>
  cases fl with
  | ret u =>
   obtain ⟨v,H2,I2,rv,q2⟩:=I1.after hq
   refine wpAny_mono ((pa_cons pe_non pa_nil he3 : PA X.nox [.Constant .none j kp] _) tpos pins s2 σ H2 (fun vs H3=>vs = [.non]/\H3 = H2) (I2.wish _) ⟨rfl,rfl⟩) (fun us3 s3 hz=>?_) fun _ _ z=>z.elim
   obtain ⟨vs3,H3,I3,r3,ev,eh⟩:=hz
   subst ev eh
   have I3:=I3.unwish
   have hf : H3 s3.heap.objs.size = none:=I3.hok.fresh (Nat.le_refl _)
   have rr : Vals [v,.non] (u::us3):=.cons rv r3
   have l3:=r3.length
   refine ⟨by rw [sizeLine_eq]; simp at l3 ⊢; lia,?_⟩
   refine ⟨.ref s3.heap.objs.size,σ,upd H3 s3.heap.objs.size (.tup [v,.non]),I3.laid (t':=s3.toks) (fun b u e=>Heap.get?_push_of_some _ e) (Nat.le_refl _) ?_,rfl,q2 _ hf⟩
   exact ⟨by rw [sizeLine_eq]; show 2 <= 16777216; decide,_,rr,⟨_,Heap.get?_push_size _ rfl,rfl,_,rfl⟩⟩
  | next=>exact False.elim hq
  | brk=>exact False.elim hq
  | cont=>exact False.elim hq
 | error ev=>exact zu1 I1 hgc hmc hN hi hx hs hst hq hdc
noncomputable def zyf (K : PySem.W.Frag) : List V->Hp->VK->Prop:=fun xs H Q=>∃ (x C : Addr) (dd : Option Addr) (tp : Addr) (cs : List Addr) (b : Bool),xs = [.ref x,.ref tp]/\H x = some (zia x C dd)/\XTell K C/\H tp = some (.tup (cs.map V.ref))/\kitAny K (.ref C) (cs.map Value.ref) = some b/\Q (.bl b) H
theorem zko : ∀ {cs : List Addr} {us : List Value},Vals (cs.map V.ref) us->us = cs.map Value.ref
 | [],us,r=>by cases r; rfl
 | c::cs,us,r=>by
  cases r with
  | cons a b =>
   rw [zko b]
   obtain rfl:=(show _ = Value.ref c from a)
   rfl
theorem zqh : zcg X (.builtin "isinstance") (zyf X.K):=by
 intro pins s σ H xs us Q I r h
 obtain ⟨x,C,dd,tp,cs,b,rfl,hx,T,ht,hk,q⟩:=h
 have hp : XAt x C s.heap:=xat2 (I.hok x _ hx).1
 obtain ⟨u,v,rfl,ru,rv⟩:=zh1 r
 cases ru
 cases rv
 obtain ⟨_,its,rs,⟨oc,od,oda,osl⟩,ho,hc,n,hd⟩:=I.hok tp _ ht
 dsimp only at hc hd
 subst hc hd
 have e:=zko rs
 subst e
 exact kia_tup (zns T) I.kIn hp ho hk (by intro z; cases z) fun tk=>⟨.bl b,H,I.tok _,rfl,q⟩
end
section
variable {K : PySem.W.Frag} {G H₀ L : Hp} {ss : List Sl} {t : TA} {ds : List D} {D0 : Ends} {C : Addr} {f : Str} {pre bad : List D->Prop} {res : List D->D} {errR : List D->D->Prop}
theorem zpj {i j : Nat} {CF : Addr} (a : EvAF K G H₀ L ss t ds) (hp : pre ds) (h1 : ¬ bad ds->RtD K G H₀ D0.rt (.tup [res ds,.non])) (hex : exmOne K (.ref C) (.ref CF) = some true) (hij : i≠j) (hil : i < ss.length) (hjl : j < ss.length)
  (h : bad ds -> ∀ d,errR ds d -> ∀ x dx,Nx K G H₀ L D0.nx ((ss.set i .un).set j (xsl2 K x C dx f d))) : Go K G H₀ L D0 ss (znh K (SpXR K C f pre bad res errR) t i CF (tAsg (tVar i) (zfj j))):=fun F H σ S =>
 a F H σ _ S fun vs F1 H1 e1 r1=>by
  refine ⟨F1,ds,e1.fh,r1,hp,fun nb v F2 H2 e2 rv p hp2=>?_,fun hbad dx v d F2 H2 hd e2 hdx rv=>⟨C,rfl,hex,fun x hx=>?_⟩⟩
  ·have x1:=(S.ext.trans e1).trans e2
   have x2:=x1.newF (o:=.tup [v,.non]) hp2
   exact h1 nb _ _ _ x2 (Rep.tup (SqT.of zae) (Reps.cons (rv.mono (Same.upd (x1.fh.free hp2))) (Reps.cons Rep.non Reps.nil)))
  have e3:=e1.trans e2
  have S2:=S.ext2 e3
  have hσ : i < σ.length:=by rw [S.len]; exact hil
  refine ⟨.ref x,List.getElem?_set_self hσ,?_⟩
  have g1 : ((σ.set i (some (V.ref x))).set j (some (V.ref x)))[i]? = some (some (V.ref x)):=by rw [List.getElem?_set_ne (Ne.symm hij)]; exact List.getElem?_set_self hσ
  refine ⟨.ref x,g1,?_⟩
  have eσ : ((σ.set i (some (V.ref x))).set j (some (V.ref x))).set i none = (σ.set i none).set j (some (V.ref x)):=by
   rw [List.set_comm _ _ hij,List.set_set,List.set_comm _ _ (Ne.symm hij)]
   first | rfl | skip
  rw [eσ]
  have S3 : Sat K G H₀ L F2 H2 (σ.set i none) (ss.set i .un):=S2.put S2.ext S2.fl (by simp) (fun j hj=>zbz (Ne.symm hj)) (fun _=>trivial) (by simp [Sl.ads]) (fun _ _ _ _ p hp=>by simp [Sl.ads] at hp) fun j s' _ h=>S2.ok j s' h
  have e:=(Ext.refl S3.ext.fh).newF (o:=zia x C (some dx)) hx
  have S4:=S3.ext2 e
  have fx : F2 x = none:=S3.ext.fh.free hx
  refine h hbad d hd x dx _ _ _ (S4.put S4.ext S4.fl (by simp) (fun k hk=>zbz (Ne.symm hk)) (fun hk=>?_) (by simp [xsl2,Sl.ads]) (fun k s' hk hs q hq=>by simp [xsl2,Sl.ads] at hq) fun k s' hk hs=>S4.ok k s' hs)
  rw [zbq (by rw [S3.len]; exact hk)]
  exact ⟨rfl,(fun a ha=>absurd ha List.not_mem_nil),⟨zae,v,by rw [zaf (zaj hdx fx)]; exact hdx,rv.mono e.gf⟩,ztc K x C dx f _⟩
theorem zyd {j : Nat} {x dx tt : Addr} {d : D} {cs : List Addr} {b : Bool} {tc : TA} (hs : ss[j]? = some (xsl2 K x C dx f d)) (T : XTell K C) (hc : ∀ σ H Q,Q (cs.map V.ref) H->tc σ H Q) (hz : cs.length <= 1000) (hk : kitAny K (.ref C) (cs.map Value.ref) = some b) :
  Ev K G H₀ L ss (tCB (zyf K) (zbh (tVar j) (zbh (tTup tc) tNil))) (.bl b):=fun F H σ Q S q=>by
 obtain ⟨v,e,ew,ha,hw,st⟩:=S.get hs (by intro z; cases z)
 cases ew
 refine ⟨_,e,hc _ _ _ ⟨by rw [List.length_map,sizeLine_eq]; lia,fun p hp=>?_⟩⟩
 have x1:=(Ext.refl S.ext.fh).newF (o:=.tup (cs.map V.ref)) hp
 exact ⟨x,C,_,p,cs,b,rfl,by rw [zaf (zaj (S.ext.fh _ _ hw.1) hp)]; exact S.ext.fh _ _ hw.1,T,zae,hk,q _ _ _ x1 Rep.bl⟩
end
end L2
namespace L2
open PySem PySem.W PyProof.Rows
noncomputable def zmu (K : PySem.W.Frag) : List V->Hp->VK->Prop:=fun vs H Q=>∃ a xs ds,vs = [.ref a]/\SqL K H a xs/\Reps K H ds xs/\zdo ds/\ds.length < 64 /\
 ∀ l (p : List Nat),p.Perm (List.range ds.length)->p.map (fun i=>ds.getD i .non) = zd0 ds->H l = none->Q (.ref l) (upd H l (.lst (p.map fun i=>xs.getD i .non)))
section
variable {X : Cx} {pins : List (Addr × Obj)} {σ : St} {H : Hp} {s : Shared}
theorem zl4 {h' : Heap} {ds : List D} {xs : List V} {us : List Value} {A' : Around} (I : Inv X pins σ H s) (rs : Reps X.K H ds xs) (rv : Vals xs us) (hal : zdo ds) (h2 : 2 <= us.length) (h64 : us.length < 64) (k : zdy s.heap h') :
  zo4 X.prog X.w A' { s with heap:=h' } us (OutK (rk ds) us):=by
 obtain ⟨κ,hk,hlt⟩:=zp6 (A':=A') I rs rv hal h2 k
 exact zmm h2 h64 hk hlt
theorem zj1 : zcg X (.builtin "sorted") (zmu X.K):=by
 intro pins s σ H xs us Q I r h
 obtain ⟨a,vs,ds,rfl,hq,rs,hal,h64,q⟩:=h
 obtain ⟨u,rfl,ru⟩:=zf8 r
 cases ru
 obtain ⟨its,rv,pl,hz⟩:=I.list hq
 have l1:=rs.length
 have l2:=rv.length
 refine znd (OutK (rk ds) its) pl.isList (by lia) (fun h2 h' k=>zl4 I rs rv hal h2 (by lia) k) (fun h1=>?_) fun out c h' k hc hsz hO=>?_
 ·exact zf7 h1
 ·obtain ⟨p,hp,ho,hs⟩:=hO
  have hmem : ∀ i∈p,i < its.length:=fun i hi=>List.mem_range.mp (hp.mem_iff.mp hi)
  have hpm : (p.map fun i=>ds.getD i .non).Perm ds:=by
   have h1:=hp.map (fun i=>ds.getD i D.non)
   have h2 : (List.range its.length).map (fun i=>ds.getD i D.non) = ds:=by
    rw [<- l2,<- l1]
    refine List.ext_getElem? fun i=>?_
    rw [List.getElem?_map]
    by_cases hi : i < ds.length
    ·rw [List.getElem?_range hi,List.getElem?_eq_getElem hi]
     simp [List.getD_eq_getElem?_getD,hi]
    ·rw [List.getElem?_eq_none (by simpa using hi),List.getElem?_eq_none (by simpa using hi)]; rfl
   rw [h2] at h1; exact h1
  have hso : (p.map fun i=>ds.getD i .non).Pairwise fun a b=>a.leB b = true:=by
   rw [List.pairwise_map]
   refine List.Pairwise.imp_of_mem (fun {i j} hi hj h=>zxw (by have:=hmem i hi; lia) (by have:=hmem j hj; lia) h) hs
  have eD:=zgy hal hpm hso
  have hv:=rv.pick p (by rw [l2]; exact hmem)
  rw [<- ho] at hv
  have hplen : p.length = its.length:=by rw [hp.length_eq,List.length_range]
  refine ⟨.ref (s.heap.objs.size + 1),_,I.laid (t':=s.toks) k (Nat.le_succ _) (show zce X.prog X.w _ _ _ (.lst _) from ⟨by rw [List.length_map]; lia,out.toList,c,hv,by simpa [seqObj] using hc⟩),rfl,q _ p (by rw [l1,l2]; exact hp) eD (I.hok.fresh (Nat.le_succ _))⟩
end
section
variable {K : PySem.W.Frag} {G H₀ L : Hp} {ss : List Sl} {t : TE} {ds : List D}
theorem zlo (a : EvL K G H₀ L ss t ds) (hal : zdo ds) (h64 : ds.length < 64) : EvO K G H₀ L ss (tCB (zmu K) (zbh t tNil)) (zd0 ds):=fun F H σ Q S q =>
 a F H σ _ S fun p vs F' H' e sq r=>⟨p,vs,ds,rfl,sq,r.mono e.fh,hal,h64,fun l pm hp hs hl=>by
  have hmem : ∀ i∈pm,i < ds.length:=fun i hi=>List.mem_range.mp (hp.mem_iff.mp hi)
  have:=r.pick pm hmem
  rw [hs] at this
  exact q l _ F' _ (e.newO hl) (e.hh.free hl) (e.fh.free hl) zae this⟩
end
section
variable (P : Program) (w : World) (K : PySem.W.Frag)
noncomputable def zja (f : Bool) : List V->Hp->VK->Prop:=fun vs H Q=>∃ a xs ds,vs = [.ref a]/\H a = some (zq3 P w a (ds.map D.sk) xs)/\Reps K H ds xs/\(∀ d∈ds,d.hk f = true)/\zdo ds/\ds.length < 64 /\
 ∀ l xr,H l = none->Src ds xs [] [] (zd0 ds) xr->Q (.ref l) (upd H l (.lst xr))
end
section
variable {X : Cx}
theorem zid {f : Bool} (hc : X.calm = true) : zcg X (.builtin "sorted") (zja X.prog X.w X.K f):=by
 intro pins s σ H vs us Q I r h
 obtain ⟨a,xs,ds,rfl,ha,rs,hf,hal,h64,q⟩:=h
 obtain ⟨u,rfl,ru⟩:=zf8 r
 cases ru
 obtain ⟨es,⟨o,ep,t,ho,S⟩,v⟩:=I.setE ha hf rs
 refine zkt (fun vs out=>∃ ds' xs',Vals xs' vs/\ds'.Perm ds/\Src ds xs [] [] ds' xs'/\OutK (rk ds') vs out) (I.ok.hd hc) ho S (fun vs h' d tk hp h2 k=>?_) (fun vs hp h1=>?_) fun vs out c h' d tk l hp k hl hcell hsz hO=>?_
 ·obtain ⟨d2,x2,v2,p2,s2⟩:=zlb hp rs.length v
  obtain ⟨κ,z1,z2⟩:=zl4 (A':=X.A.in1.in1) ((I.kept (h':=h') (t':=tk) k).drw d) (s2.reps rs Reps.nil) v2 (hal.perm p2) h2 (by have:=p2.length_eq; have:=s2.1; have:=v2.length; lia) (fun _ _ e=>e)
  exact ⟨κ,z1,fun Q E hQ=>z2 Q E fun st' e1 e2 e3=>hQ st' e1 e2 ⟨d2,x2,v2,p2,s2,e3⟩⟩
 ·obtain ⟨d2,x2,v2,p2,s2⟩:=zlb hp rs.length v
  exact ⟨d2,x2,v2,p2,s2,zf7 h1⟩
 ·obtain ⟨d2,x2,v2,p2,s2,p,hpp,hout,hsort⟩:=hO
  have l1:=s2.1
  have l2:=v2.length
  have rs2 : Reps X.K H d2 x2:=s2.reps rs Reps.nil
  have hmem : ∀ i∈p,i < vs.length:=fun i hi=>List.mem_range.mp (hpp.mem_iff.mp hi)
  have hpm : (p.map fun i=>d2.getD i .non).Perm d2:=by
   have g1:=hpp.map (fun i=>d2.getD i D.non)
   have g2 : (List.range vs.length).map (fun i=>d2.getD i D.non) = d2:=by
    rw [<- l2,<- l1]
    refine List.ext_getElem? fun i=>?_
    rw [List.getElem?_map]
    by_cases hi : i < d2.length
    ·rw [List.getElem?_range hi,List.getElem?_eq_getElem hi]
     simp [List.getD_eq_getElem?_getD,hi]
    ·rw [List.getElem?_eq_none (by simpa using hi),List.getElem?_eq_none (by simpa using hi)]; rfl
   rw [g2] at g1; exact g1
  have hso : (p.map fun i=>d2.getD i .non).Pairwise fun a b=>a.leB b = true:=by
   rw [List.pairwise_map]
   exact List.Pairwise.imp_of_mem (fun {i j} hi hj h=>zxw (by have:=hmem i hi; lia) (by have:=hmem j hj; lia) h) hsort
  have eD : (p.map fun i=>d2.getD i .non) = zd0 ds:=zgy hal (hpm.trans p2) hso
  have hv:=v2.pick p (by rw [l2]; exact hmem)
  rw [<- hout] at hv
  have hplen : p.length = vs.length:=by rw [hpp.length_eq,List.length_range]
  have hz : x2.length <= 1000:=by
   have:=p2.length_eq
   have:=S.small
   simp at *; lia
  refine ⟨.ref l,_,(I.laid (t':=tk) (h':=h') k hl (show zce X.prog X.w _ _ _ (.lst (p.map fun i=>x2.getD i .non)) from ⟨by rw [List.length_map,hplen,<- l2]; exact zb6 (by lia),out.toList,c,hv,by simpa [seqObj] using hcell⟩)).drw d,rfl,q l _ (I.hok.fresh hl) ⟨?_,fun i d' x' h1 h2=>?_⟩⟩
  ·rw [<- eD]; simp
  ·rw [<- eD,List.getElem?_map] at h1
   rw [List.getElem?_map] at h2
   cases hp : p[i]? with
   | none=>rw [hp] at h1; cases h1
   | some j =>
    rw [hp] at h1 h2
    have hj:=hmem j (List.mem_of_getElem? hp)
    have e1 : d2[j]? = some d':=by
     have : d2.getD j .non = d':=by simpa using h1
     rw [List.getD_eq_getElem?_getD,List.getElem?_eq_getElem (by lia)] at this
     rw [List.getElem?_eq_getElem (by lia)]; simpa using this
    have e2 : x2[j]? = some x':=by
     have : x2.getD j .non = x':=by simpa using h2
     rw [List.getD_eq_getElem?_getD,List.getElem?_eq_getElem (by lia)] at this
     rw [List.getElem?_eq_getElem (by lia)]; simpa using this
    obtain ⟨j',hj'⟩:=s2.2 j d' x' e1 e2
    exact ⟨j',hj'⟩
end
section
variable {P : Program} {w : World} {K : PySem.W.Frag} {G H₀ L : Hp} {ss : List Sl} {t ta tb : TE} {f : Bool} {ds da db dr : List D}
theorem zj7 (dd : List D) (a : EvS P w K G H₀ L ss t ds) (hf : ∀ d∈ds,d.hk f = true) (hal : zdo ds) (hn : dd.Nodup) (h64 : dd.length < 64) (hm : ∀ d,d∈dd ↔ d∈ds) : EvO K G H₀ L ss (tCB (zja P w K f) (zbh t tNil)) (zd0 dd):=fun F H σ Q S q =>
 a F H σ _ S fun p xs F' H' d1 e hp fp hp1 r n1 m1=>⟨p,xs,d1,rfl,hp1,r.mono e.fh,fun d h=>hf d ((m1 d).mp h),hal.sub fun d h=>(m1 d).mp h,by rw [<- ((List.perm_ext_iff_of_nodup hn n1).mpr fun d=>by rw [hm,m1]).length_eq]; exact h64,fun l xr hl src=>by
  have hp : dd.Perm d1:=(List.perm_ext_iff_of_nodup hn n1).mpr fun d=>by rw [hm,m1]
  rw [<- ze3 (hal.sub fun d h=>(m1 d).mp h) hp] at src
  exact q l xr F' _ (e.newO hl) (e.hh.free hl) (e.fh.free hl) zae (src.reps r Reps.nil)⟩
end
end L2
namespace L2
open PySem PySem.W PySem.Spec PyProof.Rows
section
variable {X : Cx}
noncomputable def zdm (K : PySem.W.Frag) : List V->Hp->VK->Prop:=fun xs H Q=>∃ d kvs ds,xs = [.ref d]/\H d = some (.dK kvs)/\Reps K H ds (kvs.map fun q=>kV q.1)/\zdo ds/\ds.length < 64 /\
 ∀ l (pm : List Nat),pm.Perm (List.range ds.length)->(pm.map fun i=>ds.getD i .non) = zd0 ds->H l = none->Q (.ref l) (upd H l (.lst (pm.map fun i=>(kvs.map fun q=>kV q.1).getD i .non)))
theorem zc6 (hc : X.calm = true) : zcg X (.builtin "sorted") (zdm X.K):=by
 intro pins s σ H xs us Q I r h
 obtain ⟨d,kvs,ds,rfl,e,rs,hal,h64,q⟩:=h
 obtain ⟨u,rfl,ru⟩:=zf8 r
 cases ru
 obtain ⟨hz,hd,vs,rel,dd⟩:=zmo I.hok e
 obtain ⟨ep,da⟩:=dd.dictAt
 have hzz : vs.length <= sizeLine:=by rw [<- rel.length]; exact hz
 have l1:=rs.length
 have key : ∀ its : List Value,ItemsOf (fun i v=>∃ k x,vs[i]? = some (k,x)/\(zal X.prog X.w).is k v = true) its.toArray vs.length->Vals (kvs.map fun q=>kV q.1) its:=fun its hacc =>
  zox (P:=X.prog) (w:=X.w) rel (by simpa using hacc.1) fun j v hj=>hacc.2 j v (by simpa using hj)
 refine zk8 (PySem.W.kdl_dict (kvs:=vs) (d:=d) (ep:=ep) hd) (fun its=>OutK (rk ds) its) (I.ok.hd hc) da hzz (fun its g h' tk hacc h2 kg k=>?_) (fun its hacc h1=>zf7 h1) fun its out c g h' tk hacc kg k hcell hsz hO=>?_
 ·exact zl4 (A':=X.A.in1.in1) (I.kept (h':=g) (t':=tk) kg) rs (key its hacc) hal h2 (by have:=(key its hacc).length; lia) k
 ·have rv:=key its hacc
  have l2:=rv.length
  obtain ⟨p,hp,ho,hs⟩:=hO
  have hmem : ∀ i∈p,i < its.length:=fun i hi=>List.mem_range.mp (hp.mem_iff.mp hi)
  have hpm : (p.map fun i=>ds.getD i .non).Perm ds:=by
   have h1:=hp.map (fun i=>ds.getD i D.non)
   have h2 : (List.range its.length).map (fun i=>ds.getD i D.non) = ds:=by
    rw [<- l2,<- l1]
    refine List.ext_getElem? fun i=>?_
    rw [List.getElem?_map]
    by_cases hi : i < ds.length
    ·rw [List.getElem?_range hi,List.getElem?_eq_getElem hi]
     simp [List.getD_eq_getElem?_getD,hi]
    ·rw [List.getElem?_eq_none (by simpa using hi),List.getElem?_eq_none (by simpa using hi)]; rfl
   rw [h2] at h1; exact h1
  have hso : (p.map fun i=>ds.getD i .non).Pairwise fun a b=>a.leB b = true:=by
   rw [List.pairwise_map]
   refine List.Pairwise.imp_of_mem (fun {i j} hi hj h=>zxw (by have:=hmem i hi; lia) (by have:=hmem j hj; lia) h) hs
  have eD:=zgy hal hpm hso
  have hv:=rv.pick p (by rw [l2]; exact hmem)
  rw [<- ho] at hv
  have hplen : p.length = its.length:=by rw [hp.length_eq,List.length_range]
  have I1:=I.kept (h':=g) (t':=tk) kg
  refine ⟨.ref g.objs.size,_,I1.laid (t':=tk) (h':=h') k (Nat.le_refl _) (show zce X.prog X.w _ _ _ (.lst _) from ⟨by rw [List.length_map,hplen,<- l2,List.length_map]; exact hz,out.toList,c,hv,by simpa [seqObj] using hcell⟩),rfl,q _ p (by rw [l1,l2]; exact hp) eD (I1.hok.fresh (Nat.le_refl _))⟩
end
section
variable {K : PySem.W.Frag} {G H₀ L : Hp} {ss : List Sl} {i : Nat} {p : Addr} {kqs : KQ} {kvs : DD} {qs : QS} {E : Ends} {D0 : XK} {t : TA} {te ta td : TE} {d : D} {ds : List D} {dss : List (List D)} {pre : List D->Prop} {res : List D->List (List D)}
theorem zfi (a : Ev K G H₀ L ss td (D.dic kvs)) (hal : zdo (kvs.map (·.1))) (h64 : (kvs.map (·.1)).length < 64) : EvO K G H₀ L ss (tCB (zdm K) (zbh td tNil)) (zd0 (kvs.map (·.1))):=fun F H σ Q S q =>
 a F H σ _ S fun v F1 H1 e1 r1=>by
  obtain ⟨p,xs,rfl,hp,dk⟩:=r1.of_dic
  refine ⟨p,xs,kvs.map (·.1),rfl,e1.fh p _ hp,dk.reps.1.mono e1.fh,hal,h64,fun l pm hpm hs hl=>?_⟩
  have hmem : ∀ i∈pm,i < (kvs.map (·.1)).length:=fun i hi=>List.mem_range.mp (hpm.mem_iff.mp hi)
  have:=dk.reps.1.pick pm hmem
  rw [hs] at this
  exact q l _ F1 _ (e1.newO hl) (e1.hh.free hl) (e1.fh.free hl) zae this
end
end L2
set_option maxHeartbeats 8000000
namespace My
open PySem L2 PyProof.Rows
noncomputable def top (i : Nat) : Stmt:=PySem.Challenge.pw_folk_k27_books_at_odds.main.body.getD i (.Pass ⟨0,0,0,0⟩)
noncomputable abbrev zax : Stmt:=top 1
theorem zc1 : FnScope ["book", "neighbours", "fact"] ["book"] (zac zax):=⟨rfl,rfl,rfl,by decide +kernel,rfl,by decide +kernel,by decide +kernel⟩
noncomputable abbrev zbd : Stmt:=top 2
theorem zbc : FnScope ["book", "one", "neighbours", "ahead", "reached", "place", "here", "card"] ["book", "one"] (zac zbd):=⟨rfl,rfl,rfl,by decide +kernel,rfl,by decide +kernel,by decide +kernel⟩
noncomputable abbrev zb7 : Stmt:=top 3
theorem zc8 : FnScope ["book", "one", "other", "ahead", "chain", "card"] ["book", "one", "other"] (zac zb7):=⟨rfl,rfl,rfl,by decide +kernel,rfl,by decide +kernel,by decide +kernel⟩
noncomputable abbrev zc3 : Stmt:=top 4
theorem zb9 : FnScope ["things", "links", "first", "thing", "one", "other", "kept", "lost", "lists"] ["things", "links"] (zac zc3):=⟨rfl,rfl,rfl,by decide +kernel,rfl,by decide +kernel,by decide +kernel⟩
noncomputable def ybk (i j : Nat) : Stmt:=match top i with
 | .ClassDef _ _ _ b _ _ _ _ _ _ _=>b.getD j (.Pass ⟨0,0,0,0⟩)
 | s=>s
noncomputable abbrev zbr : Stmt:=ybk 8 0
theorem zkx : FnScope ["self", "chain"] ["self", "chain"] (zac zbr):=⟨rfl,rfl,rfl,by decide +kernel,rfl,by decide +kernel,by decide +kernel⟩
noncomputable abbrev zbm : Stmt:=top 15
theorem ze5 : FnScope ["book", "names", "told"] ["book"] (zac zbm):=⟨rfl,rfl,rfl,by decide +kernel,rfl,by decide +kernel,by decide +kernel⟩
noncomputable abbrev za6 : Stmt:=top 17
theorem zkf : FnScope ["book", "field"] ["book", "field"] (zac za6):=⟨rfl,rfl,rfl,by decide +kernel,rfl,by decide +kernel,by decide +kernel⟩
noncomputable abbrev zbo : Stmt:=top 18
theorem zcu : FnScope ["blocks", "places", "place", "block", "card"] ["blocks"] (zac zbo):=⟨rfl,rfl,rfl,by decide +kernel,rfl,by decide +kernel,by decide +kernel⟩
noncomputable abbrev zbp : Stmt:=top 19
theorem zcx : FnScope ["book", "blocks", "places", "one", "other"] ["book"] (zac zbp):=⟨rfl,rfl,rfl,by decide +kernel,rfl,by decide +kernel,by decide +kernel⟩
noncomputable abbrev za3 : Stmt:=top 21
theorem zh0 : FnScope ["_law_script", "_law_k"] ["_law_script", "_law_k"] (zac za3):=⟨rfl,rfl,rfl,by decide +kernel,rfl,by decide +kernel,by decide +kernel⟩
noncomputable abbrev zb5 : Stmt:=top 22
theorem ze8 : FnScope ["_law_cell", "_law_k", "_law_many", "_law_at"] ["_law_cell", "_law_k"] (zac zb5):=⟨rfl,rfl,rfl,by decide +kernel,rfl,by decide +kernel,by decide +kernel⟩
noncomputable abbrev zb4 : Stmt:=top 23
theorem zcr : FnScope ["_law_shape", "_law_many", "_law_cell", "_law_aparts", "_law_i", "_law_j", "_law_way", "_law_field"] ["_law_shape", "_law_many", "_law_cell", "_law_aparts"] (zac zb4):=⟨rfl,rfl,rfl,by decide +kernel,rfl,by decide +kernel,by decide +kernel⟩
noncomputable abbrev zb2 : Stmt:=top 24
theorem zfb : FnScope ["_law_facts", "_law_book_here", "_law_fact_here"] ["_law_facts"] (zac zb2):=⟨rfl,rfl,rfl,by decide +kernel,rfl,by decide +kernel,by decide +kernel⟩
noncomputable abbrev zbe : Stmt:=top 25
theorem zaz : FnScope ["_law_book_here", "_law_labels_here", "_law_one", "_law_field", "_law_other", "_law_old", "_law_card_here"] ["_law_book_here"] (zac zbe):=⟨rfl,rfl,rfl,by decide +kernel,rfl,by decide +kernel,by decide +kernel⟩
noncomputable abbrev zca : Stmt:=top 26
theorem zc5 : FnScope ["_law_labels_here", "_law_due_here", "_law_seen", "_law_card_here", "_law_block"] ["_law_labels_here"] (zac zca):=⟨rfl,rfl,rfl,by decide +kernel,rfl,by decide +kernel,by decide +kernel⟩
noncomputable abbrev za2 : Stmt:=top 27
theorem zh5 : FnScope ["_law_book_here", "_law_one", "_law_other"] ["_law_book_here", "_law_one", "_law_other"] (zac za2):=⟨rfl,rfl,rfl,by decide +kernel,rfl,by decide +kernel,by decide +kernel⟩
noncomputable abbrev za7 : Stmt:=top 28
theorem zbs : FnScope ["_law_book_here", "_law_cards", "_law_one", "_law_other", "_law_seen", "_law_rounds_here", "_law_new", "_law_card_here"] ["_law_book_here", "_law_cards", "_law_one", "_law_other"] (zac za7):=⟨rfl,rfl,rfl,by decide +kernel,rfl,by decide +kernel,by decide +kernel⟩
noncomputable abbrev zbn : Stmt:=top 29
theorem zeg : FnScope ["_law_book_here", "e", "_law_told"] ["_law_book_here"] (zac zbn):=⟨rfl,rfl,rfl,by decide +kernel,rfl,by decide +kernel,by decide +kernel⟩
noncomputable abbrev zb3 : Stmt:=top 30
theorem zhc : FnScope ["_law_book_here", "_law_cards", "_law_chain", "_law_fact_here", "_law_k"] ["_law_book_here", "_law_cards", "_law_chain", "_law_fact_here"] (zac zb3):=⟨rfl,rfl,rfl,by decide +kernel,rfl,by decide +kernel,by decide +kernel⟩
noncomputable abbrev zgp : Stmt:=top 31
theorem zfe : FnScope ["_law_script", "_law_many", "_law_facts", "_law_book_here", "_law_labels_here", "_law_bad", "_law_found", "_law_chain", "_law_good_here"] ["_law_script"] (zac zgp):=⟨rfl,rfl,rfl,by decide +kernel,rfl,by decide +kernel,by decide +kernel⟩
set_option genInjectivity false in
set_option genSizeOf false in
structure Ad where
 (c_FolkError c_NoName c_NoPair c_NoRow c_NoText c_Odds c_TooMany k_PAIR_FIELDS f_neighbours_of f_steps_from f_chain_of f_joined f_Odds_init f_cards_of f_told_pairs f_places_in f_blocks_of f_law_cell_at f_law_card f_law_fact f_law_book f_law_labels f_law_due f_law_is_told f_law_rounds f_law_asked f_law_good f_law : Addr)
 (d_neighbours_of d_steps_from d_chain_of d_joined d_Odds_init d_cards_of d_told_pairs d_places_in d_blocks_of d_law_cell_at d_law_card d_law_fact d_law_book d_law_labels d_law_due d_law_is_told d_law_rounds d_law_asked d_law_good d_law : FuncData)
structure Tx (K : PySem.W.Frag) (mg : Str->Option Value) (ad0 : Ad) : Prop where
 M_FolkError : mg "FolkError" = some (.ref ad0.c_FolkError)
 M_NoName : mg "NoName" = some (.ref ad0.c_NoName)
 M_NoPair : mg "NoPair" = some (.ref ad0.c_NoPair)
 M_NoRow : mg "NoRow" = some (.ref ad0.c_NoRow)
 M_NoText : mg "NoText" = some (.ref ad0.c_NoText)
 M_Odds : mg "Odds" = some (.ref ad0.c_Odds)
 M_TooMany : mg "TooMany" = some (.ref ad0.c_TooMany)
 XM_Odds : XMk K ad0.c_Odds ad0.f_Odds_init
 XS_Odds_chain : XStore K ad0.c_Odds "chain"
 CB_FolkError : CInitB K ad0.c_FolkError
 T_Odds : XTell K ad0.c_Odds
 H_Odds_FolkError : PySem.W.exmOne K (.ref ad0.c_Odds) (.ref ad0.c_FolkError) = some true
 I_Odds_ValueError : PySem.W.kitOne K (.ref ad0.c_Odds) (.type "ValueError") = some true
 I_Odds_Odds : PySem.W.kitOne K (.ref ad0.c_Odds) (.ref ad0.c_Odds) = some true
 IA_Odds : PySem.W.kitAny K (.ref ad0.c_Odds) [.ref ad0.c_NoPair,.ref ad0.c_TooMany,.ref ad0.c_NoRow,.ref ad0.c_NoText,.ref ad0.c_NoName] = some false
 Na_Odds_chain : zsq K ad0.c_Odds "chain"
 M_PAIR_FIELDS : mg "PAIR_FIELDS" = some (.ref ad0.k_PAIR_FIELDS)
 K_PAIR_FIELDS : TupK K ad0.k_PAIR_FIELDS [[115,97,109,101],[97,112,97,114,116]]
 F_neighbours_of : Fun K "neighbours_of" "neighbours_of" zax ad0.f_neighbours_of ad0.d_neighbours_of
 B_neighbours_of : zcp K ad0.d_neighbours_of ["book"] []
 M_neighbours_of : mg "neighbours_of" = some (.ref ad0.f_neighbours_of)
 F_steps_from : Fun K "steps_from" "steps_from" zbd ad0.f_steps_from ad0.d_steps_from
 B_steps_from : zcp K ad0.d_steps_from ["book", "one"] []
 M_steps_from : mg "steps_from" = some (.ref ad0.f_steps_from)
 F_chain_of : Fun K "chain_of" "chain_of" zb7 ad0.f_chain_of ad0.d_chain_of
 B_chain_of : zcp K ad0.d_chain_of ["book", "one", "other"] []
 M_chain_of : mg "chain_of" = some (.ref ad0.f_chain_of)
 F_joined : Fun K "joined" "joined" zc3 ad0.f_joined ad0.d_joined
 B_joined : zcp K ad0.d_joined ["things", "links"] []
 M_joined : mg "joined" = some (.ref ad0.f_joined)
 F_Odds_init : Fun K "__init__" "Odds.__init__" zbr ad0.f_Odds_init ad0.d_Odds_init
 B_Odds_init : zcp K ad0.d_Odds_init ["self", "chain"] []
 F_cards_of : Fun K "cards_of" "cards_of" zbm ad0.f_cards_of ad0.d_cards_of
 B_cards_of : zcp K ad0.d_cards_of ["book"] []
 M_cards_of : mg "cards_of" = some (.ref ad0.f_cards_of)
 F_told_pairs : Fun K "told_pairs" "told_pairs" za6 ad0.f_told_pairs ad0.d_told_pairs
 B_told_pairs : zcp K ad0.d_told_pairs ["book", "field"] []
 M_told_pairs : mg "told_pairs" = some (.ref ad0.f_told_pairs)
 F_places_in : Fun K "places_in" "places_in" zbo ad0.f_places_in ad0.d_places_in
 B_places_in : zcp K ad0.d_places_in ["blocks"] []
 M_places_in : mg "places_in" = some (.ref ad0.f_places_in)
 F_blocks_of : Fun K "blocks_of" "blocks_of" zbp ad0.f_blocks_of ad0.d_blocks_of
 B_blocks_of : zcp K ad0.d_blocks_of ["book"] []
 M_blocks_of : mg "blocks_of" = some (.ref ad0.f_blocks_of)
 F_law_cell_at : Fun K "_law_cell_at" "_law_cell_at" za3 ad0.f_law_cell_at ad0.d_law_cell_at
 B_law_cell_at : zcp K ad0.d_law_cell_at ["_law_script", "_law_k"] []
 M_law_cell_at : mg "_law_cell_at" = some (.ref ad0.f_law_cell_at)
 F_law_card : Fun K "_law_card" "_law_card" zb5 ad0.f_law_card ad0.d_law_card
 B_law_card : zcp K ad0.d_law_card ["_law_cell", "_law_k"] []
 M_law_card : mg "_law_card" = some (.ref ad0.f_law_card)
 F_law_fact : Fun K "_law_fact" "_law_fact" zb4 ad0.f_law_fact ad0.d_law_fact
 B_law_fact : zcp K ad0.d_law_fact ["_law_shape", "_law_many", "_law_cell", "_law_aparts"] []
 M_law_fact : mg "_law_fact" = some (.ref ad0.f_law_fact)
 F_law_book : Fun K "_law_book" "_law_book" zb2 ad0.f_law_book ad0.d_law_book
 B_law_book : zcp K ad0.d_law_book ["_law_facts"] []
 M_law_book : mg "_law_book" = some (.ref ad0.f_law_book)
 F_law_labels : Fun K "_law_labels" "_law_labels" zbe ad0.f_law_labels ad0.d_law_labels
 B_law_labels : zcp K ad0.d_law_labels ["_law_book_here"] []
 M_law_labels : mg "_law_labels" = some (.ref ad0.f_law_labels)
 F_law_due : Fun K "_law_due" "_law_due" zca ad0.f_law_due ad0.d_law_due
 B_law_due : zcp K ad0.d_law_due ["_law_labels_here"] []
 M_law_due : mg "_law_due" = some (.ref ad0.f_law_due)
 F_law_is_told : Fun K "_law_is_told" "_law_is_told" za2 ad0.f_law_is_told ad0.d_law_is_told
 B_law_is_told : zcp K ad0.d_law_is_told ["_law_book_here", "_law_one", "_law_other"] []
 M_law_is_told : mg "_law_is_told" = some (.ref ad0.f_law_is_told)
 F_law_rounds : Fun K "_law_rounds" "_law_rounds" za7 ad0.f_law_rounds ad0.d_law_rounds
 B_law_rounds : zcp K ad0.d_law_rounds ["_law_book_here", "_law_cards", "_law_one", "_law_other"] []
 M_law_rounds : mg "_law_rounds" = some (.ref ad0.f_law_rounds)
 F_law_asked : Fun K "_law_asked" "_law_asked" zbn ad0.f_law_asked ad0.d_law_asked
 B_law_asked : zcp K ad0.d_law_asked ["_law_book_here"] []
 M_law_asked : mg "_law_asked" = some (.ref ad0.f_law_asked)
 F_law_good : Fun K "_law_good" "_law_good" zb3 ad0.f_law_good ad0.d_law_good
 B_law_good : zcp K ad0.d_law_good ["_law_book_here", "_law_cards", "_law_chain", "_law_fact_here"] []
 M_law_good : mg "_law_good" = some (.ref ad0.f_law_good)
 F_law : Fun K "law" "law" zgp ad0.f_law ad0.d_law
 B_law : zcp K ad0.d_law ["_law_script"] []
 M_law : mg "law" = some (.ref ad0.f_law)
 z_ValueError : mg "ValueError" = none
 z_any : mg "any" = none
 z_enumerate : mg "enumerate" = none
 z_int : mg "int" = none
 z_isinstance : mg "isinstance" = none
 z_len : mg "len" = none
 z_list : mg "list" = none
 z_max : mg "max" = none
 z_min : mg "min" = none
 z_range : mg "range" = none
 z_reversed : mg "reversed" = none
 z_set : mg "set" = none
 z_sorted : mg "sorted" = none
 z_str : mg "str" = none
section
variable {P : Program} {w : World} {K : PySem.W.Frag} {mg : Str->Option Value} {base : Heap} {ad0 : Ad}
noncomputable def zmw (ds : List D) : Prop:=∃ (ns : List Int) (k : Int),ds = [.lst (ns.map .int),.int k]/\0 <= k
noncomputable def zei : List D->D
 | [.lst xs,.int k]=>xs.getD k.toNat (.int 0)
 | _=>.non
theorem zic (Z : Tx K mg ad0) : FnOk P w K mg base CX0 1 ad0.f_law_cell_at ad0.d_law_cell_at ["_law_script", "_law_k"] (SpD K zmw zei):=by
 refine Z.F_law_cell_at.ok zh0 (fun vs H Q E h=>zbt (n:=2) (by rintro ds ⟨ns,k,rfl,_⟩; rfl) h) (fun cdv A outer s H vs Q E hr h=>⟨_,(zad (zdn (za1 zz1 (pv 1) (za5 zcw (by rfl) Z.z_len boot_len (pa_cons (pv 0) pa_nil)) (zbw _)) (zag (zbg (zcq (show IxR _ (rIxL K) from zec) (pv 0) (pv 1) (fun _ _=>rfl)))) zbk)
   (zag (zbg zaq))),?_⟩)
 refine zfx h (by rw [zbt (n:=2) (by rintro ds ⟨ns,k,rfl,_⟩; rfl) h]; decide) fun G ds hp rt=>?_
 obtain ⟨ns,k,rfl,hk⟩:=hp
 have ll : (ns.map D.int).length = ns.length:=by simp
 refine zah (zdj (zat (zmq (g:=fun i j=>decide (i < j)) (zaa rfl).b (zf5 (zaa rfl).l).b)) (fun hb=>?_) (fun hb=>?_))
 ·simp only [decide_eq_true_eq] at hb
  have hk2 : k.toNat < ns.length:=by lia
  refine zck (zgh (d:=.int (ns.getD k.toNat 0)) (zaa rfl).l (zaa rfl).b ?_) ?_
  ·have:=ze6 (xs:=ns.map D.int) (j:=k.toNat) (v:=D.int (ns.getD k.toNat 0)) (by rw [List.getElem?_map,List.getD_eq_getElem?_getD]; simp [hk2])
   rw [show ((k.toNat : Nat) : Int) = k by lia] at this
   exact this
  ·have e : zei [D.lst (ns.map D.int),D.int k] = .int (ns.getD k.toNat 0):=by
    simp [zei,List.getD_eq_getElem?_getD,List.getElem?_map,hk2]
   rw [e] at rt; exact rt
 ·simp only [decide_eq_false_iff_not] at hb
  have e : zei [D.lst (ns.map D.int),D.int k] = .int 0:=by
   simp [zei,List.getD_eq_getElem?_getD,List.getElem?_map,show ns[k.toNat]? = none from List.getElem?_eq_none (by lia)]
  rw [e] at rt
  refine zbl ?_
  ((try dsimp only); refine zar ?_)
  exact zck zap rt
theorem small {n : Nat} (h : n <= 1000) : n <= sizeLine:=by rw [sizeLine_eq]; lia
noncomputable def S (x : Str) : D:=.str x.cps.toList
noncomputable def zdu : List D:=[S "same", S "apart"]
noncomputable def zyw : List D:=[S "name", S "former", S "way", S "day", S "mark"]
noncomputable abbrev Fct:=List Nat × List Nat × List Nat
noncomputable def encF (f : Fct) : D:=.tup [.str f.1,.str f.2.1,.str f.2.2]
noncomputable def unF : D->Fct
 | .tup [.str a,.str b,.str c]=>(a,b,c)
 | _=>([],[],[])
theorem zd3 (fs : List Fct) : (fs.map encF).map unF = fs:=by
 rw [List.map_map,show (unF ∘ encF) = id from rfl,List.map_id]
theorem znm {f g : Fct} (h : encF f = encF g) : f = g:=congrArg unF h
theorem zg8 {fs : List Fct} {f : Fct} : encF f∈fs.map encF ↔ f∈fs :=
 ⟨fun h=>by obtain ⟨g,hg,e⟩:=List.mem_map.mp h; rw [<- znm e]; exact hg,fun h=>List.mem_map_of_mem h⟩
theorem alF (fs : List Fct) : zdo (fs.map encF):=.inr (.inr ⟨.s,[.s,.s],fun d hd=>by
 obtain ⟨f,_,rfl⟩:=List.mem_map.mp hd; exact ⟨_,rfl,rfl⟩⟩)
theorem nbF (f : Fct) : (encF f).nb = true:=rfl
theorem dpF (f : Fct) : (encF f).dep <= 1:=by show (D.deps [.str f.1,.str f.2.1,.str f.2.2]) + 1 <= 1; simp [D.deps,D.dep]
theorem ya2 {ds : List D} {fs : List Fct} (h : ∀ d∈ds,d∈fs.map encF) : (ds.map unF).map encF = ds:=by
 rw [List.map_map]
 conv=>rhs; rw [<- List.map_id ds]
 exact List.map_congr_left fun d hd=>by obtain ⟨f,_,rfl⟩:=List.mem_map.mp (h d hd); rfl
noncomputable def Bk (b : List Fct) : Prop:=b.Nodup/\zd0 (b.map encF) = b.map encF
noncomputable def mkB (fs : List Fct) : List Fct:=(zd0 (fs.map encF)).map unF
theorem zrb (fs : List Fct) : (mkB fs).map encF = zd0 (fs.map encF):=ya2 fun d hd=>(zav _).mem_iff.mp hd
theorem zqy (fs : List Fct) (f : Fct) : f∈mkB fs ↔ f∈fs:=by rw [<- zg8,zrb,(zav _).mem_iff,zg8]
theorem zr9 (fs : List Fct) : (mkB fs).length = fs.length:=by unfold mkB; rw [List.length_map,(zav _).length_eq,List.length_map]
noncomputable def zus (K : PySem.W.Frag) : Sp:=fun vs H Q _=>∃ (a : Addr) (ns : List Int),vs = [.ref a]/\SqL K H a (ns.map V.int)/\ns.length <= 63 /\ ∀ H',Q (.bl true) H'
theorem zlr {K : PySem.W.Frag} {H : Hp} : ∀ ns : List Int,Reps K H (ns.map D.int) (ns.map V.int)
 | []=>Reps.nil
 | n::ns=>Reps.cons Rep.int (zlr ns)
noncomputable def dedF (fs : List Fct) : List Fct:=(ded (fs.map encF)).map unF
noncomputable def bkD (b : List Fct) : D:=.lst (b.map encF)
theorem zhs {a b : List Fct} (h : bkD a = bkD b) : a = b:=by
 injection h with h
 have:=congrArg (List.map unF) h
 rwa [zd3,zd3] at this
theorem yag (x : List Fct) : (bkD x).nb = true:=by show (D.lst (x.map encF)).nb = true; rw [D.nb_lst]; exact D.nbs_map nbF x
theorem zwz (x : List Fct) : (bkD x).dep <= 2:=by show (D.lst (x.map encF)).dep <= 2; rw [D.dep_lst]; have:=D.deps_map dpF x; lia
noncomputable def isPw (l : List Nat) : Bool:=decide (D.str l∈zdu)
theorem zv3 : zdu = [[115,97,109,101],[97,112,97,114,116]].map D.str:=by
 unfold zdu S
 rw [show ("same" : Str).cps.toList = [115,97,109,101] by decide +kernel,show ("apart" : Str).cps.toList = [97,112,97,114,116] by decide +kernel]
 rfl
noncomputable def nmD (fs : List Fct) : List D:=fs.map (fun f=>.str f.1)++(fs.filter fun f=>isPw f.2.1).map fun f=>.str f.2.2
noncomputable def zmn (ds : List D) : Prop:=∃ fs : List Fct,ds = [bkD fs]/\fs.length <= 500/\(ded (nmD fs)).length < 64
noncomputable def zdf (fs : List Fct) : List D:=zd0 (ded (nmD fs))
theorem zio {fs : List Fct} : ∀ d∈nmD fs,∃ l,d = .str l:=by
 intro d hd
 rcases List.mem_append.mp hd with z | z <;> obtain ⟨f,_,rfl⟩:=List.mem_map.mp z <;> exact ⟨_,rfl⟩
theorem hkS {ds : List D} (h : ∀ d∈ds,∃ l,d = .str l) : ∀ d∈ds,d.hk true = true:=by
 intro d hd; obtain ⟨l,rfl⟩:=h d hd; rfl
theorem alS {ds : List D} (h : ∀ d∈ds,∃ l,d = .str l) : zdo ds:=.inl fun d hd=>by obtain ⟨l,rfl⟩:=h d hd; rfl
theorem zst {fs : List Fct} {c : List Nat} : D.str c∈zdf fs ↔ ∃ x∈fs,x.1 = c \/ (isPw x.2.1 = true/\x.2.2 = c):=by
 unfold zdf
 rw [(zav _).mem_iff,zd7]
 unfold nmD
 rw [List.mem_append,List.mem_map,List.mem_map]
 simp only [List.mem_filter,D.str.injEq]
 constructor
 ·rintro (⟨x,hx,h⟩ | ⟨x,⟨hx,h1⟩,h⟩)
  ·exact ⟨x,hx,.inl h⟩
  ·exact ⟨x,hx,.inr ⟨h1,h⟩⟩
 ·rintro ⟨x,hx,h | ⟨h1,h⟩⟩
  ·exact .inl ⟨x,hx,h⟩
  ·exact .inr ⟨x,⟨hx,h1⟩,h⟩
noncomputable def zof : List D->List D
 | [.lst b]=>zdf (b.map unF)
 | _=>[]
theorem ziq (b : List Fct) : zof [bkD b] = zdf b:=by
 show zdf ((b.map encF).map unF) = _
 rw [zd3]
theorem zne (Z : Tx K mg ad0) : FnOk P w K mg base CX0 1 ad0.f_cards_of ad0.d_cards_of ["book"] (SpO K zmn zof):=by
 refine Z.F_cards_of.ok ze5 (fun vs H Q E h=>zkb (n:=1) (by rintro ds ⟨c,rfl,_⟩; rfl) h) (fun cdv A outer s H vs Q E hr h=>⟨_,(zad (zfg (i:=1) ze5.nd rfl (Or.inl rfl) rfl (LcOk.of (Nx:=(["book", "names", "told"] : List Str)) (sc:=zac zbm) (N':=(["fact"] : List Str)) (nt:=1) (cs:=[]) rfl rfl (by decide +kernel)) (zba (pv 0)) (fun _ _ _ _=>(zau (i:=0) (show List.Nodup (["fact"] : List Str) by decide +kernel) rfl (Or.inl rfl))) (fun _ _ _ _=>zi9) (fun _ _ _ _=>(zcq (show IxR _ (rIxT K) from zcn) (pv 0) zaq (fun _ _=>rfl))))
   (zad (zfg (i:=2) ze5.nd rfl (Or.inl rfl) rfl (LcOk.of (Nx:=(["book", "names", "told"] : List Str)) (sc:=zac zbm) (N':=(["fact"] : List Str)) (nt:=1) (cs:=[]) rfl rfl (by decide +kernel)) (zba (pv 0)) (fun _ _ _ _=>(zau (i:=0) (show List.Nodup (["fact"] : List Str) by decide +kernel) rfl (Or.inl rfl))) (fun _ _ _ _=>(zfy (za1 (show OpR _ _ (rInD K false) from zob hr.units) (zcq (show IxR _ (rIxT K) from zcn) (pv 0) zaq (fun _ _=>rfl)) (zeq (v:=.ref ad0.k_PAIR_FIELDS) (by rfl) Z.M_PAIR_FIELDS rfl) (by with_unfolding_all rfl)))) (fun _ _ _ _=>(zcq (show IxR _ (rIxT K) from zcn) (pv 0) zaq (fun _ _=>rfl))))
   (zag (zbg (za5 (show zcg _ _ (zja P w K true) from zid rfl) (by rfl) Z.z_sorted boot_sorted (pa_cons (zdv (show zcg _ _ (zsb P w K true) from zrd rfl hr.units) (by rfl) Z.z_set boot_set (pa_cons (zb0 (show OpR _ _ (zsl K) from zmx) (pv 1) (pv 2)) pa_nil)) pa_nil)))))),?_⟩)
 refine zws h (by rw [zkb (n:=1) (by rintro ds ⟨c,rfl,_⟩; rfl) h]; decide) fun G ds hp rt=>?_
 obtain ⟨fs,rfl,hf,h64⟩:=hp
 rw [ziq] at rt
 have hz : fs.length < sizeLine:=by rw [sizeLine_eq]; lia
 have h3:=List.length_filter_le (fun f : Fct=>isPw f.2.1) fs
 refine zah (zcf (zmc fs encF (fun f=>.str f.1) (zaa rfl).l (zej (by decide)) (by decide) hz fun f hf=>⟨_,zas,zco (zaa rfl) zap.b rfl⟩) fun p=>?_)
 ((try dsimp only); refine zar ?_)
 refine zah (zcf (zf3 fs encF (fun f=>isPw f.2.1) (fun f=>.str f.2.2) (zaa rfl).l (zej (by decide)) (by decide) hz fun f hf=>⟨_,zas,?_,fun _=>zco (zaa rfl) zap.b rfl⟩) fun p2=>?_)
 ·show EvT _ _ _ _ _ _ (decide (D.str f.2.1∈zdu))
  rw [zv3]
  exact zat (zv8 (zco (zaa rfl) zap.b rfl).b (zvt Z.K_PAIR_FIELDS).b rfl rfl (by simp [D.dep]))
 ((try dsimp only); refine zar ?_)
 have hl2 : (nmD fs).length <= 1000:=by
  unfold nmD
  rw [List.length_append,List.length_map,List.length_map]; lia
 refine ztg (zj7 (ded (nmD fs)) (zyp (EvO.l (zmf (zcd rfl) (zcd rfl) ?_)) (hkS zio) hl2) (hkS zio) (alS zio) (zda _) h64 fun d=>zd7) rt
 rw [List.length_map,List.length_map,sizeLine_eq]; lia
noncomputable abbrev Lnk:=List Nat × List Nat
noncomputable def encS (c : List Nat) : D:=.str c
theorem zam (a b : List Nat) (h : encS a = encS b) : a = b:=by unfold encS at h; injection h
noncomputable def unS : D->List Nat
 | .str l=>l
 | _=>[]
theorem zra (xs : List (List Nat)) : (xs.map encS).map unS = xs:=by rw [List.map_map]; exact List.map_id xs
noncomputable def encN (n : Nat) : D:=.int n
noncomputable def encK (l : Lnk) : D:=.tup [.str l.1,.str l.2]
noncomputable def unK : D->Lnk
 | .tup [.str a,.str b]=>(a,b)
 | _=>([],[])
theorem zx3 (ls : List Lnk) : (ls.map encK).map unK = ls:=by rw [List.map_map]; exact List.map_id ls
noncomputable def ufS (f : List Nat->List Nat) (l : Lnk) : List Nat->List Nat:=zey (minL (f l.1) (f l.2)) (maxL (f l.1) (f l.2)) f
noncomputable def ufF (ls : List Lnk) : List Nat->List Nat:=ls.foldl ufS id
theorem znv (ls : List Lnk) (l : Lnk) : ufF (ls++[l]) = ufS (ufF ls) l:=by unfold ufF; rw [List.foldl_append]; rfl
theorem ybj (a b : List Nat) : (minL a b = a/\maxL a b = b) \/ (minL a b = b/\maxL a b = a):=by
 unfold minL maxL
 by_cases h1 : a < b
 ·rw [if_pos h1,if_neg (List.lt_asymm h1)]
  exact .inl ⟨rfl,rfl⟩
 ·by_cases h2 : b < a
  ·rw [if_pos h2,if_neg h1]
   exact .inr ⟨rfl,rfl⟩
  ·have : a = b:=List.le_antisymm (List.not_lt.mp h2) (List.not_lt.mp h1)
   rw [if_neg h1,if_neg h2]
   exact .inl ⟨rfl,this⟩
theorem zeu {α : Type} {xs : List α} (h : xs.Nodup) {k : Nat} {x : α} (hk : xs[k]? = some x) : x ∉ xs.take k:=fun hm=>by
 obtain ⟨j,hj⟩:=List.mem_iff_getElem?.mp hm
 have hjk : j < k:=by
  have:=(List.getElem?_eq_some_iff.mp hj).1
  rw [List.length_take] at this; lia
 rw [List.getElem?_take,if_pos hjk] at hj
 have h1:=(List.getElem?_eq_some_iff.mp hj)
 have h2:=(List.getElem?_eq_some_iff.mp hk)
 unfold List.Nodup at h
 rw [List.pairwise_iff_getElem] at h
 exact h j k h1.1 h2.1 hjk (h1.2.trans h2.2.symm)
noncomputable def tpF (b : List Fct) (w : List Nat) : List Lnk:=(b.filter fun f=>decide (f.2.1 = w)).map fun f=>(f.1,f.2.2)
noncomputable def zao : List Nat:=("same" : Str).cps.toList
noncomputable def zcy : List Nat:=("apart" : Str).cps.toList
noncomputable def zvc : List Nat:=("mark" : Str).cps.toList
theorem zr6 : isPw zao = true:=by unfold isPw; rw [zv3]; exact decide_eq_true (List.mem_map.mpr ⟨_,by decide,rfl⟩)
noncomputable def za9 (b : List Fct) : List (List Nat):=(zdf b).map unS
theorem zo6 (b : List Fct) : ∀ d∈zdf b,∃ l,d = .str l:=fun d hd=>zio d (zd7.mp ((zav _).mem_iff.mp hd))
theorem zs3 {ds : List D} (h : ∀ d∈ds,∃ l,d = .str l) : (ds.map unS).map encS = ds:=by
 rw [List.map_map]
 conv=>rhs; rw [<- List.map_id ds]
 exact List.map_congr_left fun d hd=>by obtain ⟨l,rfl⟩:=h d hd; rfl
theorem zdt (b : List Fct) : (za9 b).map encS = zdf b:=zs3 (zo6 b)
theorem zwv {xs : List (List Nat)} (h : (xs.map encS).Nodup) : xs.Nodup:=by
 unfold List.Nodup at *
 rw [List.pairwise_map] at h
 exact h.imp fun a e=>a (congrArg encS e)
theorem zkr (b : List Fct) : (za9 b).Nodup:=zwv (by rw [zdt]; exact (zav _).nodup_iff.mpr (zda _))
theorem zbj {b : List Fct} {c : List Nat} : c∈za9 b ↔ ∃ x∈b,x.1 = c \/ (isPw x.2.1 = true/\x.2.2 = c):=by
 rw [<- zst,<- zdt]
 exact ⟨fun h=>List.mem_map_of_mem (f:=encS) h,fun h=>by obtain ⟨y,hy,e⟩:=List.mem_map.mp h; rw [<- zam _ _ e]; exact hy⟩
theorem zim (b : List Fct) : (za9 b).length <= 2 * b.length:=by
 unfold za9 zdf
 rw [List.length_map,(zav _).length_eq]
 have h1:=ztl (nmD b)
 have h2 : (nmD b).length <= 2 * b.length:=by
  unfold nmD
  have:=List.length_filter_le (fun f : Fct=>isPw f.2.1) b
  rw [List.length_append,List.length_map,List.length_map]; lia
 lia
theorem zuj (b : List Fct) : ∀ l∈tpF b zao,l.1∈za9 b/\l.2∈za9 b:=fun l hl=>by
 obtain ⟨f,hf,rfl⟩:=List.mem_map.mp hl
 obtain ⟨h1,h2⟩:=List.mem_filter.mp hf
 have h2 : f.2.1 = zao:=of_decide_eq_true h2
 exact ⟨zbj.mpr ⟨f,h1,.inl rfl⟩,zbj.mpr ⟨f,h1,.inr ⟨by rw [h2]; exact zr6,rfl⟩⟩⟩
theorem zjh {α : Type} [DecidableEq α] {a b : List α} (h : a.Nodup) (hs : ∀ x∈a,x∈b) : a.length <= b.length:=by
 induction a generalizing b with
 | nil=>exact Nat.zero_le _
 | cons x a ih =>
  obtain ⟨h1,h2⟩:=List.nodup_cons.mp h
  have:=ih (b:=b.erase x) h2 fun y hy=>(List.mem_erase_of_ne (fun (e : y = x)=>h1 (e ▸ hy))).mpr (hs y (List.mem_cons_of_mem _ hy))
  rw [List.length_erase_of_mem (hs x List.mem_cons_self)] at this
  have hp:=List.length_pos_of_mem (hs x List.mem_cons_self)
  rw [List.length_cons]; lia
noncomputable def zij (xs : List (List Nat)) (ls : List Lnk) : List (List D):=(zbx (ufF ls) xs).map fun p=>p.map encS
noncomputable def preJ (ds : List D) : Prop:=∃ (xs : List (List Nat)) (ls : List Lnk),ds = [.lst (xs.map encS),.lst (ls.map encK)]/\xs.Nodup/\(∀ l∈ls,l.1∈xs/\l.2∈xs)/\xs.length <= 1000
noncomputable def resJ : List D->List (List D)
 | [.lst xs,.lst ls]=>zij (xs.map unS) (ls.map unK)
 | _=>[]
theorem znu (xs : List (List Nat)) (ls : List Lnk) : resJ [.lst (xs.map encS),.lst (ls.map encK)] = zij xs ls:=by
 show zij ((xs.map encS).map unS) ((ls.map encK).map unK) = _
 rw [zra,zx3]
theorem zsp (Z : Tx K mg ad0) : FnOk P w K mg base CX0 1 ad0.f_joined ad0.d_joined ["things", "links"] (SpOO K preJ resJ) := by
 refine Z.F_joined.ok zb9 (fun vs H Q E h=>znn (n:=2) (by rintro ds ⟨c,d,rfl,_⟩; rfl) h) (fun cdv A outer s H vs Q E hr h=>⟨_,(zad (zaw (i:=2) zb9.nd rfl (Or.inl rfl) zf1)
   (zad (zc2 PassesOwn.never rfl (zba (pv 0)) (zau (i:=3) zb9.nd rfl (Or.inl rfl)) (zag (zfd (zcv hr) (pv 2) (pv 3) (pv 3) rfl)))
   (zad (zc2 PassesOwn.never rfl (zba (pv 1)) (zie rfl (zbv (zau (i:=4) zb9.nd rfl (Or.inl rfl)) (zbv (zau (i:=5) zb9.nd rfl (Or.inl rfl)) zf4))) (zad (zaw (i:=6) zb9.nd rfl (Or.inl rfl) (za5 (zqw rfl) (by rfl) Z.z_min boot_min (pa_cons (zb8 (zcv hr) (pv 2) (pv 4) (fun _ _=>rfl)) (pa_cons (zb8 (zcv hr) (pv 2) (pv 5) (fun _ _=>rfl)) pa_nil))))
   (zad (zaw (i:=7) zb9.nd rfl (Or.inl rfl) (za5 (zqj rfl) (by rfl) Z.z_max boot_max (pa_cons (zb8 (zcv hr) (pv 2) (pv 4) (fun _ _=>rfl)) (pa_cons (zb8 (zcv hr) (pv 2) (pv 5) (fun _ _=>rfl)) pa_nil))))
   (zag (zc2 PassesOwn.never rfl (zba (pv 0)) (zau (i:=3) zb9.nd rfl (Or.inl rfl)) (zag (zdn (za1 zgr (zb8 (zcv hr) (pv 2) (pv 3) (fun _ _=>rfl)) (pv 7) (zbw _)) (zag (zfd (zcv hr) (pv 2) (pv 3) (pv 6) rfl)) zbk)))))))
   (zad (zaw (i:=8) zb9.nd rfl (Or.inl rfl) zf1)
   (zad (zc2 PassesOwn.never rfl (zba (pv 0)) (zau (i:=3) zb9.nd rfl (Or.inl rfl)) (zag (zd2 (zhk F.plainAttrs_list F.slot_list_append F.type_list_append zcj (zhk F.plainAttrs_dict F.slot_dict_setdefault F.type_dict_setdefault zd4 (pv 8) (pa_cons (zb8 (zcv hr) (pv 2) (pv 3) (fun _ _=>rfl)) (pa_cons (zdh pa_nil) pa_nil))) (pa_cons (pv 3) pa_nil)))))
   (zag (zbg (zdv (show zcg _ _ zlp from zh4 rfl) (by rfl) Z.z_list boot_list (pa_cons (zzt F.plainAttrs_dict F.slot_dict_values F.type_dict_values zp8 (pv 8)) pa_nil))))))))),?_⟩)
 refine zxu h (by rw [znn (n:=2) (by rintro ds ⟨c,d,rfl,_⟩; rfl) h]; decide) fun G ds hp rt=>?_
 obtain ⟨xs,ls,rfl,hnd,hls,hxl⟩:=hp
 rw [znu] at rt
 have hz : ∀ {n : Nat},n <= 1000->n < sizeLine:=fun h=>by rw [sizeLine_eq]; lia
 have dl : ∀ (ys : List (List Nat)) (f : List Nat->List Nat),(dA encS encS ys f).length = ys.length:=fun ys f=>by unfold dA; rw [List.length_map]
 refine zah (zl7 fun p=>?_)
 ((try dsimp only); refine zar ?_)
 refine zah (zdg encS xs (fun k ss=>∃ v3 : Sl,ss = [.d (.lst (xs.map encS)),.d (.lst (ls.map encK)),dsl K p (dA encS encS (xs.take k) id),v3,.un,.un,.un,.un,.un]) (zaa rfl) ⟨.un,rfl⟩ ?_ ?_)
 ·rintro L' k x ss hL hk ⟨v3,rfl⟩
  refine ⟨_,zas,fun N hN=>?_⟩
  refine zfa (i:=2) (d:=encS x) (k:=encS x) rfl (zaa rfl) (zaa rfl).b rfl (hz (by rw [dl,List.length_take]; lia)) (hN _ ⟨.d (encS x),?_⟩)
  have e : putD (dA encS encS (xs.take k) id) (encS x) (encS x) = dA encS encS (xs.take (k + 1)) id:=by
   rw [List.take_add_one,hk]
   exact zgt (f:=id) zam (zeu hnd hk)
  rw [e]; rfl
 rintro ss ⟨v3,rfl⟩
 rw [List.take_length]
 ((try dsimp only); refine zar ?_)
 refine zah (zdg encK ls (fun k ss=>∃ (f : List Nat->List Nat) (v3 v4 v5 v6 v7 : Sl),ss = [.d (.lst (xs.map encS)),.d (.lst (ls.map encK)),dsl K p (dA encS encS xs f),v3,v4,v5,v6,v7,.un] /\ ∀ t∈xs,f t = ufF (ls.take k) t) (zaa rfl) ⟨id,_,_,_,_,_,rfl,fun _ _=>rfl⟩ ?_ ?_)
 ·rintro L' k l ss hL hk ⟨f,v3,v4,v5,v6,v7,rfl,hf⟩
  refine ⟨_,zg6 rfl (zbi zas (zbi zas zfc)),fun N hN=>?_⟩
  obtain ⟨h1,h2⟩:=hls l (List.mem_of_getElem? hk)
  refine zah (zcb (d:=encS (minL (f l.1) (f l.2))) (zxe (zd8 (k:=encS l.1) (d:=encS (f l.1)) rfl (zaa rfl).b rfl (zcc zam h1)).b (zd8 (k:=encS l.2) (d:=encS (f l.2)) rfl (zaa rfl).b rfl (zcc zam h2)).b) ?_)
  ((try dsimp only); refine zar ?_)
  refine zah (zcb (d:=encS (maxL (f l.1) (f l.2))) (zyc (zd8 (k:=encS l.1) (d:=encS (f l.1)) rfl (zaa rfl).b rfl (zcc zam h1)).b (zd8 (k:=encS l.2) (d:=encS (f l.2)) rfl (zaa rfl).b rfl (zcc zam h2)).b) ?_)
  ((try dsimp only); refine zar ?_)
  generalize hkk : minL (f l.1) (f l.2) = kk
  generalize hll : maxL (f l.1) (f l.2) = ll
  refine zdg encS xs (fun q ss=>∃ (g : List Nat->List Nat) (v3 : Sl),ss = [.d (.lst (xs.map encS)),.d (.lst (ls.map encK)),dsl K p (dA encS encS xs g),v3,.d (encS l.1),.d (encS l.2),.d (encS kk),.d (encS ll),.un]/\(∀ t∈xs.take q,g t = zey kk ll f t) /\ ∀ t,t ∉ xs.take q->g t = f t) (zaa rfl) ⟨f,_,rfl,(fun t ht=>by simp at ht),fun _ _=>rfl⟩ ?_ ?_
  ·rintro L2 q x ss hL2 hq ⟨g,v3,rfl,hg1,hg2⟩
   refine ⟨_,zas,fun N2 hN2=>?_⟩
   have hx : x∈xs:=List.mem_of_getElem? hq
   have hxn:=zeu hnd hq
   have ext : xs.take (q + 1) = xs.take q++[x]:=by rw [List.take_add_one,hq]; rfl
   have egx : g x = f x:=hg2 x hxn
   refine zdj (zat (zez (l:=g x) (m:=ll) (zd8 (k:=encS x) (d:=encS (g x)) rfl (zaa rfl).b rfl (zcc zam hx)).b (zaa rfl).b)) (fun hb=>?_) (fun hb=>?_)
   ·have hb : g x = ll:=of_decide_eq_true hb
    refine zfa (i:=2) (d:=encS kk) (k:=encS x) rfl (zaa rfl) (zaa rfl).b rfl (hz (by rw [dl]; omega)) (hN2 _ ⟨fun u=>if u = x then kk else g u,_,by rw [zmd zam hx]; rfl,fun t ht=>?_,fun t ht=>?_⟩)
    ·rw [ext] at ht
     show (if t = x then kk else g t) = _
     rcases List.mem_append.mp ht with ht | ht
     ·rw [if_neg (fun z : t = x=>hxn (z ▸ ht))]; exact hg1 t ht
     ·rw [List.mem_singleton.mp ht,if_pos rfl]
      unfold zey
      rw [if_pos (egx.symm.trans hb)]
    ·rw [ext] at ht
     have h3 : t≠x:=fun z=>ht (by rw [z]; simp)
     show (if t = x then kk else g t) = _
     rw [if_neg h3]
     exact hg2 t fun z=>ht (List.mem_append_left _ z)
   ·have hb : g x≠ll:=of_decide_eq_false hb
    refine zbl (hN2 _ ⟨g,_,rfl,fun t ht=>?_,fun t ht=>?_⟩)
    ·rw [ext] at ht
     rcases List.mem_append.mp ht with ht | ht
     ·exact hg1 t ht
     ·rw [List.mem_singleton.mp ht]
      unfold zey
      rw [if_neg (by rw [<- egx]; exact hb),egx]
    ·rw [ext] at ht
     exact hg2 t fun z=>ht (List.mem_append_left _ z)
  ·rintro ss ⟨g,v3,rfl,hg1,hg2⟩
   rw [List.take_length] at hg1
   refine hN _ ⟨g,_,_,_,_,_,rfl,fun t ht=>?_⟩
   have e : ls.take (k + 1) = ls.take k++[l]:=by rw [List.take_add_one,hk]; rfl
   rw [hg1 t ht,e,znv]
   unfold ufS
   rw [<- hf l.1 h1,<- hf l.2 h2,hkk,hll]
   unfold zey
   rw [hf t ht]
 rintro ss ⟨f,v3,v4,v5,v6,v7,rfl,hf⟩
 rw [List.take_length] at hf
 ((try dsimp only); refine zar ?_)
 refine zah (zoc fun p2=>?_)
 ((try dsimp only); refine zar ?_)
 refine zah (zdg encS xs (fun k ss=>∃ (kqs : KQ) (v3 : Sl),ss = [.d (.lst (xs.map encS)),.d (.lst (ls.map encK)),dsl K p (dA encS encS xs f),v3,v4,v5,v6,v7,dls K p2 kqs]/\kqs.map dat = grpD encS encS f (xs.take k)) (zaa rfl) ⟨[],_,rfl,rfl⟩ ?_ ?_)
 ·rintro L' k x ss hL hk ⟨kqs,v3,rfl,hq⟩
  refine ⟨_,zas,fun N hN=>?_⟩
  have hx : x∈xs:=List.mem_of_getElem? hk
  have hlen : kqs.length <= xs.length:=by
   have h1:=congrArg List.length hq
   rw [List.length_map] at h1
   have h2:=zug (enc:=encS) (encB:=encS) (f:=f) (xs:=xs.take k)
   rw [List.length_take] at h2
   lia
  refine zl1 (i:=8) (k:=encS (f x)) (d:=encS x) rfl (zd8 (k:=encS x) (d:=encS (f x)) rfl (zaa rfl).b rfl (zcc zam hx)).b rfl (fun kqs'=>zaa rfl) (hz (by lia)) (fun z hzm=>hz ?_) fun kqs' he=>hN _ ⟨kqs',_,rfl,?_⟩
  ·have : dat z∈grpD encS encS f (xs.take k):=by rw [<- hq]; exact List.mem_map_of_mem hzm
   have:=zrw this
   rw [List.length_take] at this
   have e : (dat z).2 = z.2.2:=rfl
   rw [e] at this
   lia
  ·rw [he,hq,List.take_add_one,hk]
   exact zvl zam
 rintro ss ⟨kqs,v3,rfl,hq⟩
 rw [List.take_length] at hq
 ((try dsimp only); refine zar ?_)
 have e : kqs.map (·.2.2) = zij xs ls:=by
  have h1 : kqs.map (·.2.2) = (kqs.map dat).map (·.2):=by rw [List.map_map]; rfl
  have h2 : (grpD encS encS f xs).map (·.2) = (zbx f xs).map fun p=>p.map encS:=by unfold grpD zbx; rw [List.map_map,List.map_map]; rfl
  rw [h1,hq,h2]
  unfold zij
  rw [zf9 (g:=ufF ls) fun a ha b hb=>by rw [hf a ha,hf b hb]]
 refine zpf (i:=8) rfl ?_
 rw [e]; exact rt
noncomputable def ztw (ds : List D) : Prop:=∃ (b : List Fct) (w : List Nat),ds = [bkD b,.str w]/\b.length <= 500
noncomputable def zqn : List D->List D
 | [.lst b,.str w]=>(tpF (b.map unF) w).map encK
 | _=>[]
theorem zhe (b : List Fct) (w : List Nat) : zqn [bkD b,.str w] = (tpF b w).map encK:=by
 show (tpF ((b.map encF).map unF) w).map encK = _
 rw [zd3]
theorem zjz (Z : Tx K mg ad0) : FnOk P w K mg base CX0 1 ad0.f_told_pairs ad0.d_told_pairs ["book", "field"] (SpO K ztw zqn):=by
 refine Z.F_told_pairs.ok zkf (fun vs H Q E h=>zkb (n:=2) (by rintro ds ⟨c,d,rfl,_⟩; rfl) h) (fun cdv A outer s H vs Q E hr h=>⟨_,(zag (zbg (zw5 rfl (LcOk.of (Nx:=(["book", "field"] : List Str)) (sc:=zac za6) (N':=(["fact", "field"] : List Str)) (nt:=1) (cs:=[1]) rfl rfl (by decide +kernel)) (zba (pv 0)) (fun _ _ _ _=>(zau (i:=0) (show List.Nodup (["fact", "field"] : List Str) by decide +kernel) rfl (Or.inl rfl))) (fun _ _ _ _=>(zfy (za1 zgr (zcq (show IxR _ (rIxT K) from zcn) (pv 0) zaq (fun _ _=>rfl)) (pv 1) (zbw _)))) (fun _ _ _ _=>(ze1 (pa_cons (zcq (show IxR _ (rIxT K) from zcn) (pv 0) zaq (fun _ _=>rfl)) (pa_cons (zcq (show IxR _ (rIxT K) from zcn) (pv 0) zaq (fun _ _=>rfl)) pa_nil))))))),?_⟩)
 refine zws h (by rw [zkb (n:=2) (by rintro ds ⟨c,d,rfl,_⟩; rfl) h]; decide) fun G ds hp rt=>?_
 obtain ⟨b,w,rfl,hb⟩:=hp
 rw [zhe] at rt
 refine ztg ?_ rt
 have e : (tpF b w).map encK = (b.filter fun f=>decide (f.2.1 = w)).map fun f=>encK (f.1,f.2.2):=by unfold tpF; rw [List.map_map]; rfl
 rw [e]
 exact zf3 b encF (fun f=>decide (f.2.1 = w)) (fun f=>encK (f.1,f.2.2)) (zaa rfl).l (zej (by decide)) (by decide) (by rw [sizeLine_eq]; lia) fun f hf=>⟨_,zas,zat (zez (zco (zaa rfl) zap.b rfl).b (zaa rfl).b),fun _=>zg7 (zab (zco (zaa rfl) zap.b rfl) (zab (zco (zaa rfl) zap.b rfl) zai)) (small (by simp))⟩
noncomputable def encB (p : List (List Nat)) : D:=.lst (p.map encS)
noncomputable def unB : D->List (List Nat)
 | .lst q=>q.map unS
 | _=>[]
theorem zw0 (bs : List (List (List Nat))) : (bs.map encB).map unB = bs:=by
 rw [List.map_map]
 conv=>rhs; rw [<- List.map_id bs]
 exact List.map_congr_left fun p _=>zra p
noncomputable def plAt (bs : List (List (List Nat))) (c : List Nat) : Nat:=bs.findIdx fun p=>decide (c∈p)
noncomputable def plD (bs : List (List (List Nat))) : DD:=dA encS encN bs.flatten (plAt bs)
noncomputable def zys (ds : List D) : Prop:=∃ bs : List (List (List Nat)),ds = [.lst (bs.map encB)]/\bs.flatten.Nodup/\bs.flatten.length <= 1000
noncomputable def zuy : List D->D
 | [.lst bs]=>D.dic (plD (bs.map unB))
 | _=>.non
theorem zlt (bs : List (List (List Nat))) : zuy [.lst (bs.map encB)] = D.dic (plD bs):=by
 show D.dic (plD ((bs.map encB).map unB)) = _
 rw [zw0]
theorem zx4 {bs : List (List (List Nat))} {p : List (List Nat)} {x : List Nat} {k q : Nat} (hn : bs.flatten.Nodup) (hk : bs[k]? = some p) (hq : p[q]? = some x) : x ∉ (bs.take k).flatten++p.take q/\plAt bs x = k:=by
 have hkl:=List.getElem?_eq_some_iff.mp hk
 have hx : x∈p:=List.mem_of_getElem? hq
 have e : bs = bs.take k++p::bs.drop (k + 1):=by
  have:=List.take_append_drop k bs
  rw [List.drop_eq_getElem_cons hkl.1,hkl.2] at this
  exact this.symm
 have ef : bs.flatten = (bs.take k).flatten++(p++(bs.drop (k + 1)).flatten):=by
  conv=>lhs; rw [e]
  rw [List.flatten_append,List.flatten_cons]
 rw [ef] at hn
 obtain ⟨_,n2,n3⟩:=List.nodup_append.mp hn
 have np:=(List.nodup_append.mp n2).1
 have h1 : x ∉ (bs.take k).flatten:=fun h=>n3 x h x (List.mem_append_left _ hx) rfl
 refine ⟨fun h=>?_,?_⟩
 ·rcases List.mem_append.mp h with h | h
  ·exact h1 h
  ·exact zeu np hq h
 ·unfold plAt
  rw [List.findIdx_eq hkl.1]
  refine ⟨by rw [hkl.2]; exact decide_eq_true hx,fun j hj=>decide_eq_false fun h=>h1 ?_⟩
  have hjl : j < bs.length:=Nat.lt_trans hj hkl.1
  refine List.mem_flatten.mpr ⟨bs[j],?_,h⟩
  exact List.mem_iff_getElem?.mpr ⟨j,by rw [List.getElem?_take,if_pos hj,List.getElem?_eq_getElem hjl]⟩
theorem zvi {bs : List (List (List Nat))} {p : List (List Nat)} {k : Nat} (hk : bs[k]? = some p) : (bs.take k).flatten.length + p.length <= bs.flatten.length:=by
 have hkl:=List.getElem?_eq_some_iff.mp hk
 have e : bs = bs.take k++p::bs.drop (k + 1):=by
  have:=List.take_append_drop k bs
  rw [List.drop_eq_getElem_cons hkl.1,hkl.2] at this
  exact this.symm
 have ef : bs.flatten = (bs.take k).flatten++(p++(bs.drop (k + 1)).flatten):=by
  conv=>lhs; rw [e]
  rw [List.flatten_append,List.flatten_cons]
 rw [ef,List.length_append,List.length_append]; lia
theorem zlu (Z : Tx K mg ad0) : FnOk P w K mg base CX0 1 ad0.f_places_in ad0.d_places_in ["blocks"] (SpD K zys zuy):=by
 refine Z.F_places_in.ok zcu (fun vs H Q E h=>zbt (n:=1) (by rintro ds ⟨c,rfl,_⟩; rfl) h) (fun cdv A outer s H vs Q E hr h=>⟨_,(zad (zaw (i:=1) zcu.nd rfl (Or.inl rfl) zf1)
   (zad (zc2 PassesOwn.never rfl (zk2 (by rfl) Z.z_enumerate (pa_cons (pv 0) pa_nil)) (zie rfl (zbv (zau (i:=2) zcu.nd rfl (Or.inl rfl)) (zbv (zau (i:=3) zcu.nd rfl (Or.inl rfl)) zf4))) (zag (zc2 PassesOwn.never rfl (zba (pv 3)) (zau (i:=4) zcu.nd rfl (Or.inl rfl)) (zag (zfd (zcv hr) (pv 1) (pv 4) (pv 2) rfl)))))
   (zag (zbg (pv 1))))),?_⟩)
 refine zfx h (by rw [zbt (n:=1) (by rintro ds ⟨c,rfl,_⟩; rfl) h]; decide) fun G ds hp rt=>?_
 obtain ⟨bs,rfl,hnd,hl⟩:=hp
 rw [zlt] at rt
 refine zah (zl7 fun p=>?_)
 ((try dsimp only); refine zar ?_)
 refine zah (zxj encB bs (fun k ss=>∃ v2 v3 v4 : Sl,ss = [.d (.lst (bs.map encB)),dsl K p (dA encS encN (bs.take k).flatten (plAt bs)),v2,v3,v4]) (zaa rfl) ⟨.un,.un,.un,rfl⟩ ?_ ?_)
 ·rintro L' k b ss hL hk ⟨v2,v3,v4,rfl⟩
  refine ⟨_,zg6 rfl (zbi zas (zbi zas zfc)),fun N hN=>?_⟩
  have hfl:=zvi hk
  refine zdg encS b (fun q ss=>∃ v4 : Sl,ss = [.d (.lst (bs.map encB)),dsl K p (dA encS encN ((bs.take k).flatten++b.take q) (plAt bs)),.d (.int k),.d (encB b),v4]) (zaa rfl) ⟨v4,by rw [List.take_zero,List.append_nil]; rfl⟩ ?_ ?_
  ·rintro L2 q x ss hL2 hq ⟨v4,rfl⟩
   refine ⟨_,zas,fun N2 hN2=>?_⟩
   obtain ⟨f1,f2⟩:=zx4 hnd hk hq
   have hql:=(List.getElem?_eq_some_iff.mp hq).1
   refine zfa (i:=1) (d:=encN k) (k:=encS x) rfl (zaa rfl) (zaa rfl).b rfl (by rw [sizeLine_eq]; unfold dA; rw [List.length_map,List.length_append,List.length_take]; lia) (hN2 _ ⟨.d (encS x),?_⟩)
   have e : putD (dA encS encN ((bs.take k).flatten++b.take q) (plAt bs)) (encS x) (encN k) = dA encS encN ((bs.take k).flatten++b.take (q + 1)) (plAt bs):=by
    rw [List.take_add_one,hq,<- List.append_assoc,<- f2]
    exact zgt (f:=plAt bs) zam (by rw [f2]; exact f1)
   rw [e]; rfl
  ·rintro ss ⟨v4,rfl⟩
   rw [List.take_length]
   have e : (bs.take k).flatten++b = (bs.take (k + 1)).flatten:=by
    rw [List.take_add_one,hk,List.flatten_append]; simp
   rw [e]
   exact hN _ ⟨_,_,_,rfl⟩
 rintro ss ⟨v2,v3,v4,rfl⟩
 rw [List.take_length]
 refine zev (i:=1) rfl ?_
 ((try dsimp only); refine zar ?_)
 exact zck (zaa rfl) rt
theorem zpv {α β : Type} [DecidableEq α] [DecidableEq β] (f : α->β) {xs : List α} (hn : xs.Nodup) : (zbx f xs).flatten.Nodup /\ ∀ x,x∈(zbx f xs).flatten->x∈xs:=by
 refine ⟨?_,fun x hx=>?_⟩
 ·unfold zbx
  have key : ∀ hs : List α,(hs.map f).Nodup->(hs.map fun h=>xs.filter fun t=>decide (f t = f h)).flatten.Nodup:=by
   intro hs
   induction hs with
   | nil=>intro _; exact List.nodup_nil
   | cons h hs ih =>
    intro hn2
    rw [List.map_cons,List.nodup_cons] at hn2
    rw [List.map_cons,List.flatten_cons]
    refine List.nodup_append.mpr ⟨hn.filter _,ih hn2.2,fun a ha b hb e=>?_⟩
    subst e
    obtain ⟨q,hq,hb⟩:=List.mem_flatten.mp hb
    obtain ⟨y,hy,rfl⟩:=List.mem_map.mp hq
    have h1:=of_decide_eq_true (List.mem_filter.mp ha).2
    have h2:=of_decide_eq_true (List.mem_filter.mp hb).2
    exact hn2.1 (by rw [<- h1,h2]; exact List.mem_map_of_mem hy)
  exact key _ zos
 ·obtain ⟨q,hq,hx⟩:=List.mem_flatten.mp hx
  unfold zbx at hq
  obtain ⟨y,_,rfl⟩:=List.mem_map.mp hq
  exact (List.mem_filter.mp hx).1
noncomputable def zcm (b : List Fct) : List (List (List Nat)):=zbx (ufF (tpF b zao)) (za9 b)
theorem zyo {qs : List (Addr × List D)} {bs : List (List (List Nat))} (h : qs.map (·.2) = bs.map fun p=>p.map encS) : (qs.map fun q=>D.lst q.2) = bs.map encB:=by
 have h1 : (qs.map fun q=>D.lst q.2) = (qs.map (·.2)).map D.lst:=by rw [List.map_map]; rfl
 rw [h1,h,List.map_map]; rfl
noncomputable def letW : List Nat:=("abcdefghij" : Str).cps.toList
theorem zov : letW.length = 10:=by decide +kernel
noncomputable def rq (n : Int) : List Nat:=(List.replicate n.toNat ("q" : Str).cps.toList).flatten
noncomputable def zht (c : Int) : Int:=1 + c % 11
noncomputable def cat (c : Int) : Int:=c / 11 % zht c
noncomputable def cend (c k : Int) : Int:=zht c - 1 - cat c + c / 121 % 2 * (k % 2)
noncomputable def zed (c k : Int) : List Nat:=rq (cat c)++[letW.getD k.toNat 0]++rq (cend c k)
noncomputable def zu2 (ds : List D) : Prop:=∃ c k : Int,ds = [.int c,.int k]/\0 <= k/\k < 10
noncomputable def zt8 : List D->D
 | [.int c,.int k]=>.str (zed c k)
 | _=>.non
theorem zv7 {n : Int} (h : n <= 1000) : (rq n).length <= 1000:=by
 unfold rq
 have : (("q" : Str).cps.toList).length = 1:=by decide +kernel
 rw [List.length_flatten,List.map_replicate,this,List.sum_replicate_nat]; lia
theorem yab {K : PySem.W.Frag} {G H₀ L : Hp} {ss : List Sl} {ta : TE} {n : Int} (b : EvB K G H₀ L ss ta (.int n)) (h0 : 0 <= n) (h1 : n <= 1000) : Ev K G H₀ L ss (tOp zs9 (tC (.str "q")) ta) (.str (rq n)):=by
 have e : n = ((n.toNat : Nat) : Int):=by lia
 unfold rq
 refine zye (n:=n.toNat) (zdb (by decide)).b (by rw [<- e]; exact b) ?_ (by lia)
 have : (("q" : Str).cps.toList).length = 1:=by decide +kernel
 lia
theorem zlz (Z : Tx K mg ad0) : FnOk P w K mg base CX0 1 ad0.f_law_card ad0.d_law_card ["_law_cell", "_law_k"] (SpD K zu2 zt8):=by
 refine Z.F_law_card.ok ze8 (fun vs H Q E h=>zbt (n:=2) (by rintro ds ⟨c,k,rfl,_⟩; rfl) h) (fun cdv A outer s H vs Q E hr h=>⟨_,(zad (zaw (i:=2) ze8.nd rfl (Or.inl rfl) (zb0 zfl zaq (zb0 zfo (pv 0) zaq)))
   (zad (zaw (i:=3) ze8.nd rfl (Or.inl rfl) (zb0 zfo (zb0 zjt (pv 0) zaq) (pv 2)))
   (zag (zbg (zb0 zil (zb0 zil (zb0 (show OpR _ _ zs9 from zrz) zcz (pv 3)) (zcq zzr zcz (pv 1) (fun _ _=>rfl))) (zb0 (show OpR _ _ zs9 from zrz) zcz (zb0 zfl (zb0 zog (zb0 zog (pv 2) zaq) (pv 3)) (zb0 zy8 (zb0 zfo (zb0 zjt (pv 0) zaq) zaq) (zb0 zfo (pv 1) zaq))))))))),?_⟩)
 refine zfx h (by rw [zbt (n:=2) (by rintro ds ⟨c,k,rfl,_⟩; rfl) h]; decide) fun G ds hp rt=>?_
 obtain ⟨c,k,rfl,hk0,hk1⟩:=hp
 have hm : 1 <= zht c/\zht c <= 11:=by unfold zht; lia
 have hat : 0 <= cat c/\cat c < zht c:=⟨Int.emod_nonneg _ (by lia),Int.emod_lt_of_pos _ (by lia)⟩
 have h2 : 0 <= c / 121 % 2/\c / 121 % 2 <= 1:=by lia
 have hk2 : 0 <= k % 2/\k % 2 <= 1:=by lia
 have h3 : 0 <= c / 121 % 2 * (k % 2)/\c / 121 % 2 * (k % 2) <= 1:=by
  have : c / 121 % 2 = 0 \/ c / 121 % 2 = 1:=by lia
  rcases this with e | e <;> rw [e] <;> lia
 have he : 0 <= cend c k/\cend c k <= 12:=by unfold cend; lia
 have hcat : atI letW k = some (letW.getD k.toNat 0):=by
  have hl:=zov
  have:=ze6 (xs:=letW) (j:=k.toNat) (v:=letW.getD k.toNat 0) (by rw [List.getD_eq_getElem?_getD,List.getElem?_eq_getElem (by lia)]; rfl)
  rw [show ((k.toNat : Nat) : Int) = k by lia] at this
  exact this
 refine zah (zcb (d:=.int (zht c)) (zfs zap.b (zfr (zaa rfl).b zap.b (by decide)).b) ?_)
 ((try dsimp only); refine zar ?_)
 refine zah (zcb (d:=.int (cat c)) (zfr (zkg (zaa rfl).b zap.b ⟨by decide,by decide⟩).b (zaa rfl).b (by lia)) ?_)
 ((try dsimp only); refine zar ?_)
 have l1:=zv7 (n:=cat c) (by lia)
 have l2:=zv7 (n:=cend c k) (by lia)
 refine zck (d:=.str (zed c k)) (zsg (zsg (yab (zaa rfl).b hat.1 (by lia)).b (yaf (l:=letW) (zdb (by decide)).b (zaa rfl).b (by rw [zov,sizeLine_eq]; decide) hcat).b (by rw [sizeLine_eq]; simp; lia)).b (yab (n:=cend c k) (zfs (zop (zop (zaa rfl).b zap.b).b (zaa rfl).b).b (zy6 (zfr (zkg (zaa rfl).b zap.b ⟨by decide,by decide⟩).b zap.b (by decide)).b (zfr (zaa rfl).b zap.b (by decide)).b (.inl ⟨by lia,by lia⟩)).b).b he.1 (by lia)).b (by rw [sizeLine_eq]; simp; lia)) rt
noncomputable def imin (i j : Int) : Int:=if j < i then j else i
noncomputable def imax (i j : Int) : Int:=if j > i then j else i
noncomputable def fi (m c : Int) : Int:=c % m
noncomputable def fj (m c : Int) : Int:=(fi m c + 1 + c / 10 % (m - 1)) % m
noncomputable def fway (c : Int) : Int:=c / 100 % 8
noncomputable def zy0 (c : Int) (ap : Bool) : Bool:=decide (5 + (if ap then 1 else 0) < fway c)
noncomputable def zkl (c : Int) (ap : Bool) : List Nat:=if (ap && decide (4 < fway c)) = true then zcy else zao
noncomputable def zdq (s m c : Int) (ap : Bool) : Fct:=if zy0 c ap = true then (zed s (fi m c),zvc,("x" : Str).cps.toList) else (zed s (imin (fi m c) (fj m c)),zkl c ap,zed s (imax (fi m c) (fj m c)))
noncomputable def zz6 (ds : List D) : Prop:=∃ (s m c : Int) (ap : Bool),ds = [.int s,.int m,.int c,.bl ap]/\2 <= m/\m <= 10
noncomputable def zzm : List D->D
 | [.int s,.int m,.int c,.bl ap]=>encF (zdq s m c ap)
 | _=>.non
theorem zmg (Z : Tx K mg ad0) : FnOk P w K mg base CX0 2 ad0.f_law_fact ad0.d_law_fact ["_law_shape", "_law_many", "_law_cell", "_law_aparts"] (SpD K zz6 zzm):=by
 have G_law_card:=zlz (P:=P) (w:=w) (base:=base) Z
 refine Z.F_law_fact.ok zcr (fun vs H Q E h=>zbt (n:=4) (by rintro ds ⟨c,k,d,e,rfl,_⟩; rfl) h) (fun cdv A outer s H vs Q E hr h=>⟨_,(zad (zaw (i:=4) zcr.nd rfl (Or.inl rfl) (zb0 zfo (pv 2) (pv 1)))
   (zad (zaw (i:=5) zcr.nd rfl (Or.inl rfl) (zb0 zfo (zb0 zfl (zb0 zfl (pv 4) zaq) (zb0 zfo (zb0 zjt (pv 2) zaq) (zb0 zog (pv 1) zaq))) (pv 1)))
   (zad (zaw (i:=6) zcr.nd rfl (Or.inl rfl) (zb0 zfo (zb0 zjt (pv 2) zaq) zaq))
   (zad (zdn (za1 zzx (pv 6) (zb0 zfl zaq (zdv zti (by rfl) Z.z_int boot_int (pa_cons (pv 3) pa_nil))) (zbw _)) (zag (zbg (ze1 (pa_cons (za0 G_law_card (hr.mono (by decide)) (by rfl) Z.M_law_card Z.F_law_card.kp Z.B_law_card .nil zc0 (pa_cons (pv 0) (pa_cons (pv 4) pa_nil))) (pa_cons zcz (pa_cons zcz pa_nil)))))) zbk)
   (zad (zaw (i:=7) zcr.nd rfl (Or.inl rfl) zcz)
   (zad (zdn (PW.pt (zro (zgm (pv 3)) (zl8 (za1 zzx (pv 6) zaq (zbw _))))) (zag (zaw (i:=7) zcr.nd rfl (Or.inl rfl) zcz)) zbk)
   (zag (zbg (ze1 (pa_cons (za0 G_law_card (hr.mono (by decide)) (by rfl) Z.M_law_card Z.F_law_card.kp Z.B_law_card .nil zc0 (pa_cons (pv 0) (pa_cons (za5 (zss rfl) (by rfl) Z.z_min boot_min (pa_cons (pv 4) (pa_cons (pv 5) pa_nil))) pa_nil))) (pa_cons (pv 7) (pa_cons (za0 G_law_card (hr.mono (by decide)) (by rfl) Z.M_law_card Z.F_law_card.kp Z.B_law_card .nil zc0 (pa_cons (pv 0) (pa_cons (za5 (zrc rfl) (by rfl) Z.z_max boot_max (pa_cons (pv 4) (pa_cons (pv 5) pa_nil))) pa_nil))) pa_nil)))))))))))),?_⟩)
 refine zfx h (by rw [zbt (n:=4) (by rintro ds ⟨c,k,d,e,rfl,_⟩; rfl) h]; decide) fun G ds hp rt=>?_
 obtain ⟨s,m,c,ap,rfl,hm0,hm1⟩:=hp
 have rt : RtD K G H Q (encF (zdq s m c ap)):=rt
 have hi : 0 <= fi m c/\fi m c < m:=⟨Int.emod_nonneg _ (by lia),Int.emod_lt_of_pos _ (by lia)⟩
 have hj : 0 <= fj m c/\fj m c < m:=⟨Int.emod_nonneg _ (by lia),Int.emod_lt_of_pos _ (by lia)⟩
 have hmi : 0 <= imin (fi m c) (fj m c)/\imin (fi m c) (fj m c) < 10:=by unfold imin; split <;> lia
 have hma : 0 <= imax (fi m c) (fj m c)/\imax (fi m c) (fj m c) < 10:=by unfold imax; split <;> lia
 refine zah (zcb (d:=.int (fi m c)) (zfr (zaa rfl).b (zaa rfl).b (by lia)) ?_)
 ((try dsimp only); refine zar ?_)
 refine zah (zcb (d:=.int (fj m c)) (zfr (zfs (zfs (zaa rfl).b zap.b).b (zfr (zkg (zaa rfl).b zap.b ⟨by decide,by decide⟩).b (zop (zaa rfl).b zap.b).b (by lia)).b).b (zaa rfl).b (by lia)) ?_)
 ((try dsimp only); refine zar ?_)
 refine zah (zcb (d:=.int (fway c)) (zfr (zkg (zaa rfl).b zap.b ⟨by decide,by decide⟩).b zap.b (by decide)) ?_)
 ((try dsimp only); refine zar ?_)
 refine zah (zdj (b:=zy0 c ap) (zat (zyz (zaa rfl).b (zfs zap.b (zyg (zaa rfl).b).b).b)) (fun hb=>?_) (fun hb=>?_))
 ·have e : zdq s m c ap = (zed s (fi m c),zvc,("x" : Str).cps.toList):=by unfold zdq; rw [if_pos hb]
  rw [e] at rt
  exact zck (zg7 (zab (zcl (pre:=zu2) (res:=zt8) (zab (zaa rfl) (zab (zaa rfl) zai)) ⟨s,fi m c,rfl,by lia,by lia⟩) (zab (zdb (by decide)) (zab (zdb (by decide)) zai))) (small (by simp))) rt
 have e : zdq s m c ap = (zed s (imin (fi m c) (fj m c)),zkl c ap,zed s (imax (fi m c) (fj m c))):=by unfold zdq; rw [if_neg (by rw [hb]; decide)]
 rw [e] at rt
 refine zbl ?_
 ((try dsimp only); refine zar ?_)
 refine zah (zcb (d:=.str zao) (zdb (by decide)) ?_)
 ((try dsimp only); refine zar ?_)
 refine zxi (fun ss=>ss = [.d (.int s),.d (.int m),.d (.int c),.d (.bl ap),.d (.int (fi m c)),.d (.int (fj m c)),.d (.int (fway c)),.d (.str (zkl c ap))]) (fun N hN=>?_) (fun ss hss=>?_)
 ·refine zdj (b:=ap && decide (4 < fway c)) (zmi (zh7 (zaa rfl)) fun _=>zat (zyz (zaa rfl).b zap.b)) (fun hb2=>?_) (fun hb2=>?_)
  ·refine zcb (d:=.str zcy) (zdb (by decide)) (hN _ ?_)
   unfold zkl
   rw [if_pos hb2]; rfl
  ·refine zbl (hN _ ?_)
   unfold zkl
   rw [if_neg (by rw [hb2]; decide)]; rfl
 ·subst hss
  exact zck (zg7 (zab (zcl (pre:=zu2) (res:=zt8) (zab (zaa rfl) (zab (zwy (zaa rfl).b (zaa rfl).b) zai)) ⟨s,imin (fi m c) (fj m c),rfl,hmi.1,hmi.2⟩) (zab (zaa rfl) (zab (zcl (pre:=zu2) (res:=zt8) (zab (zaa rfl) (zab (zx7 (zaa rfl).b (zaa rfl).b) zai)) ⟨s,imax (fi m c) (fj m c),rfl,hma.1,hma.2⟩) zai))) (small (by simp))) rt
noncomputable def zzp (ds : List D) : Prop:=∃ fs : List Fct,ds = [bkD fs]/\fs.length <= 63
noncomputable def yae (ds : List D) (rs : List D) : Prop:=∀ fs : List Fct,ds = [bkD fs] -> ∃ b : List Fct,rs = b.map encF/\(∀ f∈b,f∈fs)/\(∀ f∈fs,f∈b)/\b.length <= fs.length
theorem zlx (Z : Tx K mg ad0) : FnOk P w K mg base CX0 1 ad0.f_law_book ad0.d_law_book ["_law_facts"] (SpR K zzp yae):=by
 refine Z.F_law_book.ok zfb (fun vs H Q E h=>zqr (n:=1) (by rintro ds ⟨c,rfl,_⟩; rfl) h) (fun cdv A outer s H vs Q E hr h=>⟨_,(zad (zaw (i:=1) zfb.nd rfl (Or.inl rfl) (zdh pa_nil))
   (zad (zc2 PassesOwn.never rfl (zba (za5 (show zcg _ _ (zmu K) from zj1) (by rfl) Z.z_sorted boot_sorted (pa_cons (pv 0) pa_nil))) (zau (i:=2) zfb.nd rfl (Or.inl rfl)) (zag (zdn (PW.pt (zu5 (za1 zgr (za5 zcw (by rfl) Z.z_len boot_len (pa_cons (pv 1) pa_nil)) zaq (zbw _)) (zom (za1 (show OpR _ _ (rNeD K) from zzl hr.units) (zcq (show IxR _ (rIxL K) from zec) (pv 1) (yar zww zaq) (fun _ _=>rfl)) (pv 2) (zbw _))))) (zag (zd2 (zhk F.plainAttrs_list F.slot_list_append F.type_list_append zcj (pv 1) (pa_cons (pv 2) pa_nil)))) zbk)))
   (zag (zbg (pv 1))))),?_⟩)
 refine yai h (by rw [zqr (n:=1) (by rintro ds ⟨c,rfl,_⟩; rfl) h]; decide) fun G ds hp rt=>?_
 obtain ⟨fs,rfl,hf⟩:=hp
 refine zah (zcf (zdi zai (by decide)) fun p=>?_)
 ((try dsimp only); refine zar ?_)
 refine zah (zdg encF (mkB fs) (fun k ss=>∃ (b : List Fct) (v : Sl),ss = [.d (bkD fs),.o p (b.map encF),v]/\(∀ f∈b,f∈fs)/\(∀ f∈(mkB fs).take k,f∈b)/\b.length <= k) (by rw [zrb]; exact EvO.ev (zlo (zaa rfl).l (alF fs) (by rw [List.length_map]; lia))) ⟨[],.un,rfl,(fun _ h=>by cases h),(fun f h=>by simp at h),Nat.zero_le _⟩ ?_ ?_)
 ·rintro L' k f ss hL hk ⟨b,v,rfl,hb,hall,hbl⟩
  have hkl:=(List.getElem?_eq_some_iff.mp hk).1
  rw [zr9] at hkl
  have hf2 : f∈fs:=(zqy fs f).mp (List.mem_of_getElem? hk)
  refine ⟨_,zas,fun N hN=>?_⟩
  have hlm : (b.map encF).length = b.length:=by simp
  have ext : (mkB fs).take (k + 1) = (mkB fs).take k++[f]:=by rw [List.take_add_one,hk]; rfl
  have key : ∃ c,(c = false->f∈b)/\EvT K G H L' [.d (bkD fs),.o p (b.map encF),.d (encF f)] (tOr (zv5 (tOp rEq (tCB (fun xs H Q=>∃ p ys,xs = [.ref p]/\(SqL K H p ys \/ SqT K H p ys)/\Q (.int ys.length) H) (zbh (tVar 1) tNil)) (tC (.int 0)))) (zv5 (tOp (rNeD K) (tOp (rIxL K) (tVar 1) (tUn (rU fun i=>.int (-i)) (tC (.int 1)))) (tVar 2)))) c:=by
   rcases List.eq_nil_or_concat b with rfl | ⟨b',l,rfl⟩
   ·exact ⟨_,(fun h=>by simp at h),zlq (c:=true) (zat (zsi (zf5 (zcd rfl)).b zap.b)) fun h=>by simp at h⟩
   ·refine ⟨_,fun hc=>?_,zlq (b:=decide ((((b'.concat l).map encF).length : Int) = 0)) (zat (zsi (zf5 (zcd rfl)).b zap.b)) fun _=>zat (zz8 (d1:=encF l) (d2:=encF f) (zgh (zcd rfl) (zwk zap.b).b ?_).b (zaa rfl).b (nbF l) (nbF f) (by have:=dpF l; lia))⟩
    ·rw [Bool.or_eq_false_iff,Bool.not_eq_false',decide_eq_true_eq] at hc
     rw [List.concat_eq_append,<- znm hc.2]; simp
    ·rw [List.concat_eq_append,List.map_append]
     exact zni _ _
  obtain ⟨c,hcf,key⟩:=key
  refine zdj key (fun _=>?_) (fun hc=>?_)
  ·refine zef rfl (zaa rfl) (by rw [hlm,sizeLine_eq]; lia) (hN _ ⟨b++[f],.d (encF f),by rw [List.map_append]; rfl,fun g hg=>?_,fun g hg=>?_,by rw [List.length_append,List.length_singleton]; lia⟩)
   ·rcases List.mem_append.mp hg with hg | hg
    ·exact hb g hg
    ·rw [List.mem_singleton.mp hg]; exact hf2
   ·rw [ext] at hg
    rcases List.mem_append.mp hg with hg | hg
    ·exact List.mem_append_left _ (hall g hg)
    ·exact List.mem_append_right _ hg
  ·refine zbl (hN _ ⟨b,_,rfl,hb,fun g hg=>?_,by lia⟩)
   rw [ext] at hg
   rcases List.mem_append.mp hg with hg | hg
   ·exact hall g hg
   ·rw [List.mem_singleton.mp hg]; exact hcf hc
 rintro ss ⟨b,v,rfl,hb,hall,hbl⟩
 rw [zr9] at hbl
 rw [List.take_length] at hall
 ((try dsimp only); refine zar ?_)
 refine zx0 rfl (rt _ fun fs' e=>?_)
 injection e with e _
 have:=zhs e
 subst this
 exact ⟨b,rfl,hb,fun f hf=>hall f ((zqy _ f).mpr hf),hbl⟩
noncomputable def insS (ks : List (List Nat)) (x : List Nat) : List (List Nat):=if x∈ks then ks else ks++[x]
theorem zjm {ks : List (List Nat)} {x c : List Nat} : c∈insS ks x ↔ c∈ks \/ c = x:=by
 unfold insS
 by_cases h : x∈ks
 ·rw [if_pos h]
  exact ⟨.inl,fun z=>z.elim id fun e=>e ▸ h⟩
 ·rw [if_neg h,List.mem_append,List.mem_singleton]
theorem zl0 {ks : List (List Nat)} {x : List Nat} (hn : ks.Nodup) : (insS ks x).Nodup:=by
 unfold insS
 by_cases h : x∈ks
 ·rw [if_pos h]; exact hn
 ·rw [if_neg h]
  exact List.nodup_append.mpr ⟨hn,by simp,fun a ha b hb e=>h (by rw [List.mem_singleton.mp hb] at e; exact e ▸ ha)⟩
theorem zj0 (ks : List (List Nat)) (x : List Nat) : (insS ks x).length <= ks.length + 1:=by unfold insS; split <;> simp
theorem zqs (ks : List (List Nat)) (x : List Nat) : putD (dA encS encS ks id) (encS x) (encS x) = dA encS encS (insS ks x) id:=by
 unfold insS
 by_cases h : x∈ks
 ·rw [if_pos h,zmd zam h]
  exact zj3 fun a _=>by by_cases e : a = x <;> simp [e]
 ·rw [if_neg h]
  exact zgt (f:=id) zam h
noncomputable def keyS (ks : List (List Nat)) (f : Fct) : List (List Nat):=if isPw f.2.1 = true then insS (insS ks f.1) f.2.2 else insS ks f.1
noncomputable def keysF (b : List Fct) : List (List Nat):=b.foldl keyS []
theorem zew (b : List Fct) (f : Fct) : keysF (b++[f]) = keyS (keysF b) f:=by unfold keysF; rw [List.foldl_append]; rfl
theorem zdd (b : List Fct) (c : List Nat) : c∈keysF b ↔ ∃ x∈b,x.1 = c \/ (isPw x.2.1 = true/\x.2.2 = c):=by
 induction b using zbu with
 | h0=>simp [keysF]
 | hs b f ih =>
  rw [zew]
  have : c∈keyS (keysF b) f ↔ c∈keysF b \/ (f.1 = c \/ (isPw f.2.1 = true/\f.2.2 = c)):=by
   unfold keyS
   by_cases h : isPw f.2.1 = true
   ·rw [if_pos h,zjm,zjm]
    constructor
    ·rintro ((z | z) | z)
     ·exact .inl z
     ·exact .inr (.inl z.symm)
     ·exact .inr (.inr ⟨h,z.symm⟩)
    ·rintro (z | z | ⟨_,z⟩)
     ·exact .inl (.inl z)
     ·exact .inl (.inr z.symm)
     ·exact .inr z.symm
   ·rw [if_neg h,zjm]
    constructor
    ·rintro (z | z)
     ·exact .inl z
     ·exact .inr (.inl z.symm)
    ·rintro (z | z | ⟨z,_⟩)
     ·exact .inl z
     ·exact .inr z.symm
     ·exact absurd z h
  rw [this,ih]
  constructor
  ·rintro (⟨x,hx,z⟩ | z)
   ·exact ⟨x,List.mem_append_left _ hx,z⟩
   ·exact ⟨f,by simp,z⟩
  ·rintro ⟨x,hx,z⟩
   rcases List.mem_append.mp hx with hx | hx
   ·exact .inl ⟨x,hx,z⟩
   ·rw [List.mem_singleton.mp hx] at z; exact .inr z
theorem zfv (b : List Fct) : (keysF b).Nodup:=by
 induction b using zbu with
 | h0=>exact List.nodup_nil
 | hs b f ih =>
  rw [zew]
  unfold keyS
  split
  ·exact zl0 (zl0 ih)
  ·exact zl0 ih
theorem zvk (ks : List (List Nat)) (f : Fct) : (keyS ks f).length <= ks.length + 2:=by
 unfold keyS
 have h1:=zj0 ks f.1
 have h2:=zj0 (insS ks f.1) f.2.2
 split <;> lia
theorem zk3 (b : List Fct) : (keysF b).length <= 2 * b.length:=by
 induction b using zbu with
 | h0=>exact Nat.le_refl _
 | hs b f ih =>
  rw [zew,List.length_append,List.length_singleton]
  have:=zvk (keysF b) f
  lia
noncomputable def lbS (g : List Nat->List Nat) (l : Lnk) : List Nat->List Nat:=zey (g l.2) (g l.1) g
noncomputable def lbF (ls : List Lnk) : List Nat->List Nat:=ls.foldl lbS id
theorem zg3 (ls : List Lnk) (l : Lnk) : lbF (ls++[l]) = lbS (lbF ls) l:=by unfold lbF; rw [List.foldl_append]; rfl
theorem zzw {xs : List (List Nat)} (ls : List Lnk) : (∀ l∈ls,l.1∈xs/\l.2∈xs)->ztb xs (lbF ls) (ufF ls):=by
 induction ls using zbu with
 | h0=>exact fun _ a _ b _=>Iff.rfl
 | hs ls l ih =>
  intro h
  rw [zg3,znv]
  obtain ⟨h1,h2⟩:=h l (by simp)
  have hk:=ybj (ufF ls l.1) (ufF ls l.2)
  exact zur h1 h2 (ih fun z hz=>h z (List.mem_append_left _ hz)) (.inr ⟨rfl,rfl⟩) hk
theorem zoi (b : List Fct) (f : Fct) (w : List Nat) : tpF (b++[f]) w = if f.2.1 = w then tpF b w++[(f.1,f.2.2)] else tpF b w:=by
 unfold tpF
 rw [List.filter_append]
 by_cases h : f.2.1 = w
 ·rw [if_pos h,List.filter_cons_of_pos (by simp [h]),List.filter_nil,List.map_append]; rfl
 ·rw [if_neg h,List.filter_cons_of_neg (by simp [h]),List.filter_nil,List.append_nil]
noncomputable def zpl (ds : List D) : Prop:=∃ b : List Fct,ds = [bkD b]/\b.length <= 300
noncomputable def labD (b : List Fct) : DD:=dA encS encS (keysF b) (lbF (tpF b zao))
noncomputable def zs6 : List D->D
 | [.lst b]=>D.dic (labD (b.map unF))
 | _=>.non
theorem zhp (b : List Fct) : zs6 [bkD b] = D.dic (labD b):=by
 show D.dic (labD ((b.map encF).map unF)) = _
 rw [zd3]
theorem zi1 (Z : Tx K mg ad0) : FnOk P w K mg base CX0 1 ad0.f_law_labels ad0.d_law_labels ["_law_book_here"] (SpD K zpl zs6):=by
 refine Z.F_law_labels.ok zaz (fun vs H Q E h=>zbt (n:=1) (by rintro ds ⟨c,rfl,_⟩; rfl) h) (fun cdv A outer s H vs Q E hr h=>⟨_,(zad (zaw (i:=1) zaz.nd rfl (Or.inl rfl) zf1)
   (zad (zc2 PassesOwn.never rfl (zba (pv 0)) (zie rfl (zbv (zau (i:=2) zaz.nd rfl (Or.inl rfl)) (zbv (zau (i:=3) zaz.nd rfl (Or.inl rfl)) (zbv (zau (i:=4) zaz.nd rfl (Or.inl rfl)) zf4)))) (zad (zfd (zcv hr) (pv 1) (pv 2) (pv 2) rfl)
   (zag (zdn (za1 (show OpR _ _ (rInD K false) from zob hr.units) (pv 3) (ze1 (pa_cons zcz (pa_cons zcz pa_nil))) (by with_unfolding_all rfl)) (zag (zfd (zcv hr) (pv 1) (pv 4) (pv 4) rfl)) zbk))))
   (zad (zc2 PassesOwn.never rfl (zba (pv 0)) (zie rfl (zbv (zau (i:=2) zaz.nd rfl (Or.inl rfl)) (zbv (zau (i:=3) zaz.nd rfl (Or.inl rfl)) (zbv (zau (i:=4) zaz.nd rfl (Or.inl rfl)) zf4)))) (zag (zdn (za1 zgr (pv 3) zcz (zbw _)) (zad (zaw (i:=5) zaz.nd rfl (Or.inl rfl) (zb8 (zcv hr) (pv 1) (pv 2) (fun _ _=>rfl)))
   (zag (zc2 PassesOwn.never rfl (zba (zdv (show zcg _ _ zru from zh2 rfl) (by rfl) Z.z_list boot_list (pa_cons (pv 1) pa_nil))) (zau (i:=6) zaz.nd rfl (Or.inl rfl)) (zag (zdn (za1 zgr (zb8 (zcv hr) (pv 1) (pv 6) (fun _ _=>rfl)) (pv 5) (zbw _)) (zag (zfd (zcv hr) (pv 1) (pv 6) (zb8 (zcv hr) (pv 1) (pv 4) (fun _ _=>rfl)) rfl)) zbk))))) zbk)))
   (zag (zbg (pv 1)))))),?_⟩)
 refine zfx h (by rw [zbt (n:=1) (by rintro ds ⟨c,rfl,_⟩; rfl) h]; decide) fun G ds hp rt=>?_
 obtain ⟨b,rfl,hbl⟩:=hp
 rw [zhp] at rt
 have dl : ∀ (ys : List (List Nat)) (f : List Nat->List Nat),(dA encS encS ys f).length = ys.length:=fun ys f=>by unfold dA; rw [List.length_map]
 have hz : ∀ {n : Nat},n <= 1000->n < sizeLine:=fun h=>by rw [sizeLine_eq]; lia
 refine zah (zl7 fun p=>?_)
 ((try dsimp only); refine zar ?_)
 refine zah (zdg encF b (fun k ss=>∃ (v2 v3 v4 : Sl),ss = [.d (bkD b),dsl K p (dA encS encS (keysF (b.take k)) id),v2,v3,v4,.un,.un]) (zaa rfl) ⟨.un,.un,.un,rfl⟩ ?_ ?_)
 ·rintro L' k f ss hL hk ⟨v2,v3,v4,rfl⟩
  refine ⟨_,zg6 rfl (zbi zas (zbi zas (zbi zas zfc))),fun N hN=>?_⟩
  have hkl:=(List.getElem?_eq_some_iff.mp hk).1
  have et : keysF (b.take (k + 1)) = keyS (keysF (b.take k)) f:=by rw [List.take_add_one,hk]; exact zew _ _
  have hkb:=zk3 (b.take k)
  rw [List.length_take] at hkb
  generalize keysF (b.take k) = ks at et hkb
  refine zah (zfa (i:=1) (d:=encS f.1) (k:=encS f.1) rfl (zaa rfl) (zaa rfl).b rfl (hz (by rw [dl]; lia)) ?_)
  rw [zqs]
  ((try dsimp only); refine zar ?_)
  have h1:=zj0 ks f.1
  refine zdj (b:=isPw f.2.1) (zat ?_) (fun hb=>?_) (fun hb=>?_)
  ·show Ev _ _ _ _ _ _ (.bl (decide (D.str f.2.1∈zdu)))
   exact zv8 (zaa rfl).b (zg7 (ds:=zdu) (zab (zdb (by decide)) (zab (zdb (by decide)) zai)) (small (by decide))).b rfl rfl (by show 0 <= 60; decide)
  ·refine zfa (i:=1) (d:=encS f.2.2) (k:=encS f.2.2) rfl (zaa rfl) (zaa rfl).b rfl (hz (by rw [dl]; lia)) (hN _ ⟨.d (encS f.1),.d (.str f.2.1),.d (encS f.2.2),?_⟩)
   rw [zqs,et]
   unfold keyS
   rw [if_pos hb]; rfl
  ·refine zbl (hN _ ⟨.d (encS f.1),.d (.str f.2.1),.d (encS f.2.2),?_⟩)
   rw [et]
   unfold keyS
   rw [if_neg (by rw [hb]; decide)]; rfl
 rintro ss ⟨v2,v3,v4,rfl⟩
 rw [List.take_length]
 ((try dsimp only); refine zar ?_)
 have hkn:=zfv b
 have hkl:=zk3 b
 have hkm : ∀ f∈b,f.2.1 = zao->f.1∈keysF b/\f.2.2∈keysF b:=fun f hf h=>⟨(zdd b _).mpr ⟨f,hf,.inl rfl⟩,(zdd b _).mpr ⟨f,hf,.inr ⟨by rw [h]; exact zr6,rfl⟩⟩⟩
 unfold labD at rt
 generalize keysF b = ks at hkn hkl hkm rt
 have eks : (dA encS encS ks id).map (·.1) = ks.map encS:=by unfold dA; rw [List.map_map]; rfl
 refine zah (zdg encF b (fun k ss=>∃ (g : List Nat->List Nat) (v2 v3 v4 v5 v6 : Sl),ss = [.d (bkD b),dsl K p (dA encS encS ks g),v2,v3,v4,v5,v6] /\ ∀ t∈ks,g t = lbF (tpF (b.take k) zao) t) (zaa rfl) ⟨id,_,_,_,_,_,rfl,fun _ _=>rfl⟩ ?_ ?_)
 ·rintro L' k f ss hL hk ⟨g, v2, v3, v4, v5, v6, rfl, hg⟩
  refine ⟨_,zg6 rfl (zbi zas (zbi zas (zbi zas zfc))),fun N hN=>?_⟩
  have et : tpF (b.take (k + 1)) zao = if f.2.1 = zao then tpF (b.take k) zao++[(f.1,f.2.2)] else tpF (b.take k) zao:=by rw [List.take_add_one,hk]; exact zoi _ _ _
  refine zdj (zat (zez (m:=zao) (zaa rfl).b (zdb (by decide)).b)) (fun hb=>?_) (fun hb=>?_)
  ·have hb : f.2.1 = zao:=of_decide_eq_true hb
   rw [if_pos hb] at et
   obtain ⟨h1,h2⟩:=hkm f (List.mem_of_getElem? hk) hb
   refine zah (zcb (d:=encS (g f.1)) (zd8 (k:=encS f.1) rfl (zaa rfl).b rfl (zcc zam h1)) ?_)
   ((try dsimp only); refine zar ?_)
   have ek : (dA encS encS ks g).map (·.1) = ks.map encS:=by unfold dA; rw [List.map_map]; rfl
   refine zdg encS ks (fun q ss=>∃ (r : List Nat->List Nat) (v6 : Sl),ss = [.d (bkD b),dsl K p (dA encS encS ks r),.d (encS f.1),.d (.str f.2.1),.d (encS f.2.2),.d (encS (g f.1)),v6]/\(∀ t∈ks.take q,r t = zey (g f.2.2) (g f.1) g t) /\ ∀ t,t ∉ ks.take q->r t = g t) (by rw [<- ek]; exact EvO.ev (zse (i:=1) rfl)) ⟨g,_,rfl,(fun t ht=>by simp at ht),fun _ _=>rfl⟩ ?_ ?_
   ·rintro L2 q x ss hL2 hq ⟨r,v6,rfl,hr1,hr2⟩
    refine ⟨_,zas,fun N2 hN2=>?_⟩
    have hx : x∈ks:=List.mem_of_getElem? hq
    have hxn:=zeu hkn hq
    have ext : ks.take (q + 1) = ks.take q++[x]:=by rw [List.take_add_one,hq]; rfl
    have egx : r x = g x:=hr2 x hxn
    have eo : r f.2.2 = g f.2.2:=by
     by_cases h : f.2.2∈ks.take q
     ·rw [hr1 _ h]; unfold zey; split <;> rfl
     ·exact hr2 _ h
    refine zdj (zat (zez (l:=r x) (m:=g f.1) (zd8 (k:=encS x) (d:=encS (r x)) rfl (zaa rfl).b rfl (zcc zam hx)).b (zaa rfl).b)) (fun hb=>?_) (fun hb=>?_)
    ·have hb : r x = g f.1:=of_decide_eq_true hb
     refine zfa (i:=1) (d:=encS (r f.2.2)) (k:=encS x) rfl (zd8 (k:=encS f.2.2) rfl (zaa rfl).b rfl (zcc zam h2)) (zaa rfl).b rfl (hz (by rw [dl]; lia)) (hN2 _ ⟨fun u=>if u = x then r f.2.2 else r u,_,by rw [zmd zam hx]; rfl,fun t ht=>?_,fun t ht=>?_⟩)
     ·rw [ext] at ht
      show (if t = x then r f.2.2 else r t) = _
      rcases List.mem_append.mp ht with ht | ht
      ·rw [if_neg (fun z : t = x=>hxn (z ▸ ht))]; exact hr1 t ht
      ·rw [List.mem_singleton.mp ht,if_pos rfl,eo]
       unfold zey
       rw [if_pos (egx.symm.trans hb)]
     ·rw [ext] at ht
      have h3 : t≠x:=fun z=>ht (by rw [z]; simp)
      show (if t = x then r f.2.2 else r t) = _
      rw [if_neg h3]
      exact hr2 t fun z=>ht (List.mem_append_left _ z)
    ·have hb : r x≠g f.1:=of_decide_eq_false hb
     refine zbl (hN2 _ ⟨r,_,rfl,fun t ht=>?_,fun t ht=>?_⟩)
     ·rw [ext] at ht
      rcases List.mem_append.mp ht with ht | ht
      ·exact hr1 t ht
      ·rw [List.mem_singleton.mp ht]
       unfold zey
       rw [if_neg (by rw [<- egx]; exact hb),egx]
     ·rw [ext] at ht
      exact hr2 t fun z=>ht (List.mem_append_left _ z)
   ·rintro ss ⟨r,v6,rfl,hr1,hr2⟩
    rw [List.take_length] at hr1
    refine hN _ ⟨r,_,_,_,_,_,rfl,fun t ht=>?_⟩
    rw [hr1 t ht,et,zg3]
    unfold lbS
    rw [<- hg _ h1,<- hg _ h2]
    unfold zey
    rw [hg t ht]
  ·have hb : f.2.1≠zao:=of_decide_eq_false hb
   rw [if_neg hb] at et
   exact zbl (hN _ ⟨g,_,_,_,_,_,rfl,by rw [et]; exact hg⟩)
 rintro ss ⟨g,v2,v3,v4,v5,v6,rfl,hg⟩
 rw [List.take_length] at hg
 refine zev (i:=1) rfl ?_
 ((try dsimp only); refine zar ?_)
 rw [<- zj3 hg] at rt
 exact zck (zaa rfl) rt
noncomputable def adjF (b : List Fct) (x y : List Nat) : Prop:=(x,y)∈tpF b zao \/ (y,x)∈tpF b zao
theorem zyl (b : List Fct) (x y : List Nat) (h : adjF b x y) : adjF b y x:=h.symm
noncomputable def zjy (ls : List Lnk) : List Lnk:=ls.flatMap fun l=>[(l.1,l.2),(l.2,l.1)]
noncomputable def nbL (ls : List Lnk) (x : List Nat) : List (List Nat):=((zjy ls).filter fun l=>decide (l.1 = x)).map (·.2)
theorem zwx {b : List Fct} {x y : List Nat} : y∈nbL (tpF b zao) x ↔ adjF b x y:=by
 unfold nbL zjy adjF
 rw [List.mem_map]
 constructor
 ·rintro ⟨l,hl,rfl⟩
  obtain ⟨h1,h2⟩:=List.mem_filter.mp hl
  have h2:=of_decide_eq_true h2
  obtain ⟨m,hm,h3⟩:=List.mem_flatMap.mp h1
  simp only [List.mem_cons,List.not_mem_nil,or_false] at h3
  rcases h3 with rfl | rfl
  ·subst h2; exact .inl hm
  ·subst h2; exact .inr hm
 ·rintro (h | h)
  ·exact ⟨(x,y),List.mem_filter.mpr ⟨List.mem_flatMap.mpr ⟨_,h,by simp⟩,by simp⟩,rfl⟩
  ·exact ⟨(x,y),List.mem_filter.mpr ⟨List.mem_flatMap.mpr ⟨_,h,by simp⟩,by simp⟩,rfl⟩
noncomputable def lkD (g : List (D × List D)) (k : D) : List D:=((g.find? fun q=>decide (q.1 = k)).map (·.2)).getD []
theorem yaq (g : List (D × List D)) (k d k' : D) : lkD (appD g k d) k' = if k = k' then lkD g k++[d] else lkD g k':=by
 induction g with
 | nil =>
  rw [appD]
  unfold lkD
  by_cases h : k = k'
  ·simp [h]
  ·simp [h]
 | cons q g ih =>
  rw [appD]
  by_cases h1 : q.1 = k
  ·rw [if_pos h1]
   unfold lkD
   by_cases h2 : k = k'
   ·rw [if_pos h2]; simp [h1,h2]
   ·have : ¬ q.1 = k':=fun z=>h2 (h1.symm.trans z)
    rw [if_neg h2]; simp [this]
  ·rw [if_neg h1]
   by_cases h3 : q.1 = k'
   ·have h2 : ¬ k = k':=fun z=>h1 (h3.trans z.symm)
    rw [if_neg h2]
    unfold lkD; simp [h3]
   ·have e1 : ∀ g',lkD (q::g') k' = lkD g' k':=fun g'=>by unfold lkD; simp [h3]
    have e2 : lkD (q::g) k = lkD g k:=by unfold lkD; simp [h1]
    rw [e1,e1,e2]; exact ih
noncomputable def nbG (ls : List Lnk) : List (D × List D):=(zjy ls).foldl (fun g l=>appD g (encS l.1) (encS l.2)) []
theorem ziw (ls : List Lnk) (l : Lnk) : nbG (ls++[l]) = appD (appD (nbG ls) (encS l.1) (encS l.2)) (encS l.2) (encS l.1):=by
 unfold nbG zjy
 rw [List.flatMap_append,List.foldl_append]; rfl
theorem ybg (ls : List Lnk) (x : List Nat) : lkD (nbG ls) (encS x) = (nbL ls x).map encS:=by
 unfold nbG nbL
 induction (zjy ls) using zbu with
 | h0=>rfl
 | hs ps l ih =>
  rw [List.foldl_append]
  show lkD (appD _ (encS l.1) (encS l.2)) (encS x) = _
  rw [yaq,List.filter_append]
  by_cases h : l.1 = x
  ·subst h
   rw [if_pos rfl,ih,List.filter_cons_of_pos (by simp),List.filter_nil,List.map_append,List.map_append]; rfl
  ·rw [if_neg fun z=>h (zam _ _ z),ih,List.filter_cons_of_neg (by simp [h]),List.filter_nil,List.append_nil]
noncomputable def nbD (ls : List Lnk) : DD:=(nbG ls).map fun q=>(q.1,D.lst q.2)
theorem zyy (ls : List Lnk) (x : List Nat) : (valD (nbD ls) (encS x)).getD (.lst []) = .lst ((nbL ls x).map encS):=by
 rw [<- ybg]
 unfold valD nbD lkD
 rw [List.find?_map]
 show (Option.map _ (Option.map _ (List.find? (fun q : D × List D=>decide (q.1 = encS x)) (nbG ls)))).getD _ = _
 cases List.find? (fun q : D × List D=>decide (q.1 = encS x)) (nbG ls) <;> rfl
theorem zi5 (g : List (D × List D)) (k d : D) : (appD g k d).length <= g.length + 1:=by
 induction g with
 | nil=>rw [appD]; simp
 | cons q g ih =>
  rw [appD]
  split
  ·simp
  ·simp only [List.length_cons]; lia
theorem zhb {g : List (D × List D)} {k d : D} {n : Nat} (h : ∀ q∈g,q.2.length <= n) : ∀ q∈appD g k d,q.2.length <= n + 1:=by
 induction g with
 | nil =>
  rw [appD]
  intro q hq
  rw [List.mem_singleton.mp hq]; simp
 | cons a g ih =>
  rw [appD]
  have h1:=h a List.mem_cons_self
  split
  ·intro q hq
   rcases List.mem_cons.mp hq with rfl | hq
   ·simp; omega
   ·have:=h q (List.mem_cons_of_mem _ hq); lia
  ·intro q hq
   rcases List.mem_cons.mp hq with rfl | hq
   ·lia
   ·exact ih (fun z hz=>h z (List.mem_cons_of_mem _ hz)) q hq
theorem zx1 (ls : List Lnk) : (nbG ls).length <= 2 * ls.length:=by
 induction ls using zbu with
 | h0=>exact Nat.le_refl _
 | hs ls l ih =>
  rw [ziw,List.length_append,List.length_singleton]
  have h1:=zi5 (nbG ls) (encS l.1) (encS l.2)
  have h2:=zi5 (appD (nbG ls) (encS l.1) (encS l.2)) (encS l.2) (encS l.1)
  lia
theorem zvf (ls : List Lnk) : ∀ q∈nbG ls,q.2.length <= 2 * ls.length:=by
 induction ls using zbu with
 | h0=>intro q hq; cases hq
 | hs ls l ih =>
  rw [ziw,List.length_append,List.length_singleton]
  exact zhb (zhb ih)
noncomputable def zxl : List D->D
 | [.lst b]=>D.dic (nbD (tpF (b.map unF) zao))
 | _=>.non
theorem zku (b : List Fct) : zxl [bkD b] = D.dic (nbD (tpF b zao)):=by
 show D.dic (nbD (tpF ((b.map encF).map unF) zao)) = _
 rw [zd3]
theorem zr0 (b : List Fct) (w : List Nat) : (tpF b w).length <= b.length:=by unfold tpF; rw [List.length_map]; exact List.length_filter_le ..
theorem zgq (Z : Tx K mg ad0) : FnOk P w K mg base CX0 1 ad0.f_neighbours_of ad0.d_neighbours_of ["book"] (SpD K zpl zxl):=by
 refine Z.F_neighbours_of.ok zc1 (fun vs H Q E h=>zbt (n:=1) (by rintro ds ⟨c,rfl,_⟩; rfl) h) (fun cdv A outer s H vs Q E hr h=>⟨_,(zad (zaw (i:=1) zc1.nd rfl (Or.inl rfl) zf1)
   (zad (zc2 PassesOwn.never rfl (zba (pv 0)) (zau (i:=2) zc1.nd rfl (Or.inl rfl)) (zag (zdn (za1 zgr (zcq (show IxR _ (rIxT K) from zcn) (pv 2) zaq (fun _ _=>rfl)) zcz (zbw _)) (zad (zd2 (zhk F.plainAttrs_list F.slot_list_append F.type_list_append zcj (zhk F.plainAttrs_dict F.slot_dict_setdefault F.type_dict_setdefault zd4 (pv 1) (pa_cons (zcq (show IxR _ (rIxT K) from zcn) (pv 2) zaq (fun _ _=>rfl)) (pa_cons (zdh pa_nil) pa_nil))) (pa_cons (zcq (show IxR _ (rIxT K) from zcn) (pv 2) zaq (fun _ _=>rfl)) pa_nil)))
   (zag (zd2 (zhk F.plainAttrs_list F.slot_list_append F.type_list_append zcj (zhk F.plainAttrs_dict F.slot_dict_setdefault F.type_dict_setdefault zd4 (pv 1) (pa_cons (zcq (show IxR _ (rIxT K) from zcn) (pv 2) zaq (fun _ _=>rfl)) (pa_cons (zdh pa_nil) pa_nil))) (pa_cons (zcq (show IxR _ (rIxT K) from zcn) (pv 2) zaq (fun _ _=>rfl)) pa_nil))))) zbk)))
   (zag (zbg (pv 1))))),?_⟩)
 refine zfx h (by rw [zbt (n:=1) (by rintro ds ⟨c,rfl,_⟩; rfl) h]; decide) fun G ds hp rt=>?_
 obtain ⟨b,rfl,hbl⟩:=hp
 rw [zku] at rt
 have hz : ∀ {n : Nat},n <= 10000->n < sizeLine:=fun h=>by rw [sizeLine_eq]; lia
 refine zah (zoc fun p=>?_)
 ((try dsimp only); refine zar ?_)
 refine zah (zdg encF b (fun k ss=>∃ (kqs : KQ) (v : Sl),ss = [.d (bkD b),dls K p kqs,v]/\kqs.map dat = nbG (tpF (b.take k) zao)) (zaa rfl) ⟨[],_,rfl,rfl⟩ ?_ ?_)
 ·rintro L' k f ss hL hk ⟨kqs,v,rfl,hq⟩
  refine ⟨_,zas,fun N hN=>?_⟩
  have et : tpF (b.take (k + 1)) zao = if f.2.1 = zao then tpF (b.take k) zao++[(f.1,f.2.2)] else tpF (b.take k) zao:=by rw [List.take_add_one,hk]; exact zoi _ _ _
  have hkl:=(List.getElem?_eq_some_iff.mp hk).1
  have htl:=zr0 (b.take k) zao
  rw [List.length_take] at htl
  refine zdj (zat (zez (m:=zao) (zco (zaa rfl) zap.b rfl).b (zdb (by decide)).b)) (fun hb=>?_) (fun hb=>?_)
  ·have hb : f.2.1 = zao:=of_decide_eq_true hb
   rw [if_pos hb] at et
   have hgl:=zx1 (tpF (b.take k) zao)
   have hgi:=zvf (tpF (b.take k) zao)
   generalize tpF (b.take k) zao = ls at et hq htl hgl hgi
   have hkq : kqs.length <= 2 * ls.length:=by rw [<- hq,List.length_map] at hgl; exact hgl
   have hki : ∀ z∈kqs,z.2.2.length <= 2 * ls.length:=fun z hz=>by
    have : dat z∈nbG ls:=by rw [<- hq]; exact List.mem_map_of_mem hz
    exact hgi _ this
   refine zah (zl1 (i:=1) (k:=encS f.1) (d:=encS f.2.2) rfl (zco (zaa rfl) zap.b rfl).b rfl (fun kqs'=>zco (zaa rfl) zap.b rfl) (hz (by lia)) (fun z hzm=>hz (by have:=hki z hzm; lia)) fun kq1 he1=>?_)
   ((try dsimp only); refine zar ?_)
   have hk1 : kq1.length <= 2 * ls.length + 1:=by
    have:=congrArg List.length he1
    rw [List.length_map] at this
    have h2:=zi5 (kqs.map dat) (encS f.1) (encS f.2.2)
    rw [List.length_map] at h2
    lia
   have hi1 : ∀ z∈kq1,z.2.2.length <= 2 * ls.length + 1:=fun z hz=>by
    have : dat z∈appD (kqs.map dat) (encS f.1) (encS f.2.2):=by rw [<- he1]; exact List.mem_map_of_mem hz
    rw [hq] at this
    exact zhb hgi _ this
   refine zl1 (i:=1) (k:=encS f.2.2) (d:=encS f.1) rfl (zco (zaa rfl) zap.b rfl).b rfl (fun kqs'=>zco (zaa rfl) zap.b rfl) (hz (by lia)) (fun z hzm=>hz (by have:=hi1 z hzm; lia)) fun kq2 he2=>hN _ ⟨kq2,_,rfl,?_⟩
   rw [he2,he1,hq,et,ziw]
  ·have hb : f.2.1≠zao:=of_decide_eq_false hb
   rw [if_neg hb] at et
   exact zbl (hN _ ⟨kqs,_,rfl,by rw [et]; exact hq⟩)
 rintro ss ⟨kqs,v,rfl,hq⟩
 rw [List.take_length] at hq
 refine zo7 (i:=1) rfl ?_
 refine zev (i:=1) rfl ?_
 ((try dsimp only); refine zar ?_)
 have e : kqs.map frzL = nbD (tpF b zao):=by
  unfold nbD
  rw [<- hq,List.map_map]; rfl
 rw [<- e] at rt
 exact zck (zaa rfl) rt
noncomputable def encO : Option (List Nat)->D
 | none=>.non
 | some c=>encS c
noncomputable def zgn (ls : List Lnk) : List (List Nat):=(zjy ls).map (·.1)
theorem ztu (ls : List Lnk) : (zgn ls).length = 2 * ls.length:=by
 unfold zgn zjy
 rw [List.length_map]
 induction ls with
 | nil=>rfl
 | cons l ls ih=>rw [List.flatMap_cons,List.length_append,ih,List.length_cons]; simp; lia
theorem zve {b : List Fct} {x y : List Nat} (h : adjF b x y) : y∈zgn (tpF b zao):=by
 unfold zgn zjy
 rw [List.mem_map]
 rcases h with h | h
 ·exact ⟨(y,x),List.mem_flatMap.mpr ⟨_,h,by simp⟩,rfl⟩
 ·exact ⟨(y,x),List.mem_flatMap.mpr ⟨_,h,by simp⟩,rfl⟩
theorem zsa {β : Type} [DecidableEq β] (enc : β->D) (R : List (List Nat)) (f : List Nat->β) (c : List Nat) : (valD (dA encS enc R f) (encS c)).isSome = decide (c∈R):=by
 by_cases h : c∈R
 ·rw [zcc zam h,decide_eq_true h]; rfl
 ·rw [zud zam h,decide_eq_false h]; rfl
structure Walk (b : List Fct) (one : List Nat) (R : List (List Nat)) (par : List Nat->Option (List Nat)) (lev : List Nat->Nat) : Prop where
 bfs : Bfs (adjF b) one R par lev
 all : ∀ h∈R,∀ y,adjF b h y->y∈R/\lev y <= lev h + 1
 univ : ∀ c∈R,c∈one::zgn (tpF b zao)
 len : R.length <= 601
noncomputable def zzi (ds : List D) : Prop:=∃ (b : List Fct) (one : List Nat),ds = [bkD b,encS one]/\b.length <= 300
noncomputable def yaj (ds : List D) (r : D) : Prop:=∀ (b : List Fct) (one : List Nat),ds = [bkD b,encS one] -> ∃ R par lev,r = D.dic (dA encS encO R par)/\Walk b one R par lev
theorem zkh (Z : Tx K mg ad0) : FnOk P w K mg base CX0 2 ad0.f_steps_from ad0.d_steps_from ["book", "one"] (SpRD K zzi yaj) := by
 have G_neighbours_of:=zgq (P:=P) (w:=w) (base:=base) Z
 refine Z.F_steps_from.ok zbc (fun vs H Q E h=>zes (n:=2) (by rintro ds ⟨c,d,rfl,_⟩; rfl) h) (fun cdv A outer s H vs Q E hr h=>⟨_,(zad (zaw (i:=2) zbc.nd rfl (Or.inl rfl) (za0 G_neighbours_of (hr.mono (by decide)) (by rfl) Z.M_neighbours_of Z.F_neighbours_of.kp Z.B_neighbours_of .nil zc0 (pa_cons (pv 0) pa_nil)))
   (zad (zaw (i:=3) zbc.nd rfl (Or.inl rfl) (zyq (zty (pv 1) pe_non zya) rfl rfl (List.cons_ne_nil _ _) (by decide)))
   (zad (zaw (i:=4) zbc.nd rfl (Or.inl rfl) (zdh (pa_cons (pv 1) pa_nil)))
   (zad (zaw (i:=5) zbc.nd rfl (Or.inl rfl) zaq)
   (zad (zi2 PassesOwn.never (za1 zz1 (pv 5) (za5 zcw (by rfl) Z.z_len boot_len (pa_cons (pv 4) pa_nil)) (zbw _)) (zad (zaw (i:=6) zbc.nd rfl (Or.inl rfl) (zcq (show IxR _ (rIxL K) from zec) (pv 4) (pv 5) (fun _ _=>rfl)))
   (zad (zc2 PassesOwn.never rfl (zba (zvv (zcv hr) (pv 2) (pv 6) (zdh pa_nil) ⟨by rfl,by rfl,by rfl,by rfl⟩)) (zau (i:=7) zbc.nd rfl (Or.inl rfl)) (zag (zdn (zwo (zlg (zcv hr) (pv 7) (pv 3)) (by with_unfolding_all rfl)) (zad (zfd (zcv hr) (pv 3) (pv 7) (pv 6) rfl)
   (zag (zd2 (zhk F.plainAttrs_list F.slot_list_append F.type_list_append zcj (pv 4) (pa_cons (pv 7) pa_nil))))) zbk)))
   (zag (zaw (i:=5) zbc.nd rfl (Or.inl rfl) (zb0 zfl (pv 5) zaq))))))
   (zag (zbg (pv 3)))))))),?_⟩)
 refine zmv h (by rw [zes (n:=2) (by rintro ds ⟨c,d,rfl,_⟩; rfl) h]; decide) fun G ds hp rt=>?_
 obtain ⟨b,one,rfl,hbl⟩:=hp
 have hz : ∀ {n : Nat},n <= 10000->n < sizeLine:=fun h=>by rw [sizeLine_eq]; lia
 have dl : ∀ (ys : List (List Nat)) (f : List Nat->Option (List Nat)),(dA encS encO ys f).length = ys.length:=fun ys f=>by unfold dA; rw [List.length_map]
 refine zah (zcb (d:=D.dic (nbD (tpF b zao))) (by rw [<- zku]; exact zcl (pre:=zpl) (res:=zxl) (ds:=[bkD b]) (zab (zaa rfl) zai) ⟨b,rfl,hbl⟩) ?_)
 ((try dsimp only); refine zar ?_)
 refine zah (zuq (i:=3) (k:=encS one) (d:=.non) (zaa rfl).b rfl zrs fun p=>?_)
 ((try dsimp only); refine zar ?_)
 refine zah (zcf (ds:=[encS one]) (zdi (zab (zaa rfl) zai) (small (by simp))) fun p2=>?_)
 ((try dsimp only); refine zar ?_)
 refine zah (zcb (d:=.int (0 : Nat)) zap ?_)
 ((try dsimp only); refine zar ?_)
 have hul : (one::zgn (tpF b zao)).length <= 601:=by
  have:=ztu (tpF b zao)
  have:=zr0 b zao
  rw [List.length_cons]; lia
 have huA : ∀ {x y : List Nat},adjF b x y->y∈one::zgn (tpF b zao):=fun h=>List.mem_cons_of_mem _ (zve h)
 generalize hU : one::zgn (tpF b zao) = U at hul huA
 have hU1 : one∈U:=by rw [<- hU]; exact List.mem_cons_self
 have hRl : ∀ {R : List (List Nat)},R.Nodup->(∀ c∈R,c∈U)->R.length <= U.length:=fun h1 h2=>zjh h1 h2
 refine zah (zj8 (fun m ss=>∃ (R : List (List Nat)) (par : List Nat->Option (List Nat)) (lev : List Nat->Nat) (k : Nat) (v6 v7 : Sl),ss = [.d (bkD b),.d (encS one),.d (D.dic (nbD (tpF b zao))),dsl K p (dA encS encO R par),.o p2 (R.map encS),.d (.int k),v6,v7]/\Bfs (adjF b) one R par lev/\BTop R lev k/\zms (adjF b) R lev k/\(∀ c∈R,c∈U)/\k <= R.length/\m = U.length - k) (U.length - 0) ⟨[one],fun _=>none,fun _=>0,0,.un,.un,rfl,Bfs.start _ _,(fun h hh c hc=>by simp),(fun j h hj=>by lia),(fun c hc=>by rw [List.mem_singleton.mp hc]; exact hU1),Nat.zero_le _,rfl⟩ ?_)
 rintro m ss ⟨R,par,lev,k,v6,v7,rfl,B,top,dn,hu,hkl,rfl⟩
 have hRU:=hRl B.nd hu
 have hlm : ((R.map encS).length : Int) = R.length:=by rw [List.length_map]
 refine ⟨_,zat (ybd (zaa rfl).b (zf5 (zcd rfl)).b),fun hb N hN=>?_,fun hb=>?_⟩
 ·have hb : k < R.length := by have := of_decide_eq_true hb; rw [hlm] at this; lia
  have hk : R[k]? = some R[k]:=List.getElem?_eq_getElem hb
  generalize R[k] = h at hk
  refine zah (zcb (d:=encS h) (zgh (zcd rfl) (zaa rfl).b (ze6 (by rw [List.getElem?_map,hk]; rfl))) ?_)
  ((try dsimp only); refine zar ?_)
  refine zah (zdg encS (nbL (tpF b zao) h) (fun q ss=>∃ (R : List (List Nat)) (par : List Nat->Option (List Nat)) (lev : List Nat->Nat) (v7 : Sl),ss = [.d (bkD b),.d (encS one),.d (D.dic (nbD (tpF b zao))),dsl K p (dA encS encO R par),.o p2 (R.map encS),.d (.int k),.d (encS h),v7]/\Bfs (adjF b) one R par lev/\BTop R lev k/\zms (adjF b) R lev k/\(∀ c∈R,c∈U)/\R[k]? = some h /\ ∀ y∈(nbL (tpF b zao) h).take q,y∈R/\lev y <= lev h + 1) (by rw [<- zyy]; exact zrl (zaa rfl) (zaa rfl).b (EvO.ev (zdi zai (by decide))) rfl) ⟨R,par,lev,_,rfl,B,top,dn,hu,hk,fun y hy=>by simp at hy⟩ ?_ ?_)
  ·rintro L' q c ss hL hq ⟨R,par,lev,v7,rfl,B,top,dn,hu,hk,hdn⟩
   refine ⟨_,zas,fun N2 hN2=>?_⟩
   have ha : adjF b h c:=zwx.mp (List.mem_of_getElem? hq)
   have hRU:=hRl B.nd hu
   have ext : (nbL (tpF b zao) h).take (q + 1) = (nbL (tpF b zao) h).take q++[c]:=by rw [List.take_add_one,hq]; rfl
   refine zdj (b:=!decide (c∈R)) (zh7 (by rw [<- zsa encO R par c]; exact zpy (k:=encS c) rfl (zaa rfl).b rfl)) (fun hb=>?_) (fun hb=>?_)
   ·have hc : c ∉ R:=by rw [Bool.not_eq_true',decide_eq_false_iff_not] at hb; exact hb
    obtain ⟨B2,top2,dn2,hk2⟩:=B.add hk top dn hc ha
    refine zah (zfa (i:=3) (d:=encS h) (k:=encS c) rfl (zaa rfl) (zaa rfl).b rfl (hz (by rw [dl]; lia)) ?_)
    ((try dsimp only); refine zar ?_)
    refine zef rfl (zaa rfl) (hz (by rw [List.length_map]; lia)) (hN2 _ ⟨R++[c],_,_,.d (encS c),?_,B2,top2,dn2,fun u hu2=>?_,hk2,fun y hy=>?_⟩)
    ·have e : putD (dA encS encO R par) (encS c) (encS h) = dA encS encO (R++[c]) (fun u=>if u = c then some h else par u):=by
      have e1 : dA encS encO R par = dA encS encO R (fun u=>if u = c then some h else par u):=zj3 fun a ha=>by
       have hac : a≠c:=fun z=>hc (z ▸ ha)
       show par a = if a = c then some h else par a
       rw [if_neg hac]
      rw [e1]
      have:=zgt (enc:=encS) (encB:=encO) (f:=fun u=>if u = c then some h else par u) zam hc
      rw [show encO (if c = c then some h else par c) = encS h by rw [if_pos rfl]; rfl] at this
      exact this
     rw [e,List.map_append]; rfl
    ·rcases List.mem_append.mp hu2 with hu2 | hu2
     ·exact hu u hu2
     ·rw [List.mem_singleton.mp hu2]; exact huA ha
    ·have hhc : h≠c:=fun z=>hc (z ▸ List.mem_of_getElem? hk)
     show y∈R++[c]/\(if y = c then lev h + 1 else lev y) <= (if h = c then lev h + 1 else lev h) + 1
     rw [if_neg hhc]
     by_cases e : y = c
     ·rw [if_pos e,e]; exact ⟨by simp,Nat.le_refl _⟩
     ·rw [if_neg e]
      rw [ext] at hy
      rcases List.mem_append.mp hy with hy | hy
      ·exact ⟨List.mem_append_left _ (hdn y hy).1,(hdn y hy).2⟩
      ·exact absurd (List.mem_singleton.mp hy) e
   ·have hc : c∈R:=by rw [Bool.not_eq_false',decide_eq_true_eq] at hb; exact hb
    refine zbl (hN2 _ ⟨R,par,lev,_,rfl,B,top,dn,hu,hk,fun y hy=>?_⟩)
    rw [ext] at hy
    rcases List.mem_append.mp hy with hy | hy
    ·exact hdn y hy
    ·rw [List.mem_singleton.mp hy]; exact ⟨hc,top h hk c hc⟩
  ·rintro ss ⟨R,par,lev,v7,rfl,B,top,dn,hu,hk,hdn⟩
   rw [List.take_length] at hdn
   ((try dsimp only); refine zar ?_)
   obtain ⟨top2,dn2⟩:=B.next hk top dn fun y hy=>hdn y (zwx.mpr hy)
   have hkl:=(List.getElem?_eq_some_iff.mp hk).1
   have hRU:=hRl B.nd hu
   refine zcb (d:=.int ((k + 1 : Nat) : Int)) (by rw [Int.natCast_add]; exact zfs (zaa rfl).b zap.b) (hN (U.length - (k + 1)) _ (by lia) ⟨R,par,lev,k + 1,_,_,rfl,B,top2,dn2,hu,hkl,rfl⟩)
 ·have hb : k = R.length:=by have:=of_decide_eq_false hb; rw [hlm] at this; lia
  subst hb
  refine zev (i:=3) rfl ?_
  ((try dsimp only); refine zar ?_)
  refine zck (zaa rfl) (rt _ fun b' one' e=>?_)
  injection e with e1 e2
  injection e2 with e2 _
  have e1:=zhs e1
  have e2:=zam _ _ e2
  subst e1 e2
  exact ⟨R,par,lev,rfl,B,zqg dn,by rw [hU]; exact hu,by lia⟩
noncomputable def zy2 (ds : List D) : Prop:=∃ (b : List Fct) (one other : List Nat),ds = [bkD b,encS one,encS other]/\b.length <= 300
noncomputable def zv4 (ds : List D) (r : D) : Prop:=∀ (b : List Fct) (one other : List Nat),ds = [bkD b,encS one,encS other] -> ∃ R par lev,Walk b one R par lev/\((other ∉ R/\r = .non) \/ (other∈R /\ ∃ l : List (List Nat),r = .lst (l.map encS)/\ChnOk (adjF b) one other (lev other) l))
theorem zmz (Z : Tx K mg ad0) : FnOk P w K mg base CX0 3 ad0.f_chain_of ad0.d_chain_of ["book", "one", "other"] (SpRD K zy2 zv4):=by
 have G_steps_from:=zkh (P:=P) (w:=w) (base:=base) Z
 refine Z.F_chain_of.ok zc8 (fun vs H Q E h=>zes (n:=3) (by rintro ds ⟨c,d,e,rfl,_⟩; rfl) h) (fun cdv A outer s H vs Q E hr h=>⟨_,(zad (zaw (i:=3) zc8.nd rfl (Or.inl rfl) (za0 G_steps_from (hr.mono (by decide)) (by rfl) Z.M_steps_from Z.F_steps_from.kp Z.B_steps_from .nil zc0 (pa_cons (pv 0) (pa_cons (pv 1) pa_nil))))
   (zad (zdn (zwo (zlg (zcv hr) (pv 2) (pv 3)) (by with_unfolding_all rfl)) (zag (zbg pe_non)) zbk)
   (zad (zaw (i:=4) zc8.nd rfl (Or.inl rfl) (zdh pa_nil))
   (zad (zaw (i:=5) zc8.nd rfl (Or.inl rfl) (pv 2))
   (zad (zi2 PassesOwn.never (za1 (show OpR _ _ zw1 from zqx) (pv 5) pe_non (zbw _)) (zad (zd2 (zhk F.plainAttrs_list F.slot_list_append F.type_list_append zcj (pv 4) (pa_cons (pv 5) pa_nil)))
   (zag (zaw (i:=5) zc8.nd rfl (Or.inl rfl) (zb8 (zcv hr) (pv 3) (pv 5) (fun _ _=>rfl))))))
   (zag (zbg (zpe rfl (by rfl) Z.z_list (by rfl) Z.z_reversed (pa_cons (pv 4) pa_nil))))))))),?_⟩)
 refine zmv h (by rw [zes (n:=3) (by rintro ds ⟨c,d,e,rfl,_⟩; rfl) h]; decide) fun G ds hp rt=>?_
 obtain ⟨b,one,other,rfl,hbl⟩:=hp
 have rt : ∀ r,(∃ R par lev,Walk b one R par lev/\((other ∉ R/\r = .non) \/ (other∈R /\ ∃ l : List (List Nat),r = .lst (l.map encS)/\ChnOk (adjF b) one other (lev other) l)))->RtD K G H Q r:=fun r hr=>rt r fun b' one' other' e=>by
  injection e with e1 e2
  injection e2 with e2 e3
  injection e3 with e3 _
  have e1:=zhs e1
  have e2:=zam _ _ e2
  have e3:=zam _ _ e3
  subst e1 e2 e3
  exact hr
 refine zah (zn1 (pre:=zzi) (R:=yaj) (ds:=[bkD b,encS one]) (zab (zaa rfl) (zab (zaa rfl) zai)) ⟨b,one,rfl,hbl⟩ fun r hR=>?_)
 obtain ⟨R,par,lev,rfl,W⟩:=hR b one rfl
 refine ⟨_,zas,?_⟩
 ((try dsimp only); refine zar ?_)
 refine zah (zdj (b:=!decide (other∈R)) (zh7 (by rw [<- zsa encO R par other]; exact zo3 (k:=encS other) (zaa rfl) (zaa rfl).b rfl)) (fun hb=>?_) (fun hb=>?_))
 ·have hb : other ∉ R:=by rw [Bool.not_eq_true',decide_eq_false_iff_not] at hb; exact hb
  exact zck zrs (rt _ ⟨R,par,lev,W,.inl ⟨hb,rfl⟩⟩)
 have ho : other∈R:=by rw [Bool.not_eq_false',decide_eq_true_eq] at hb; exact hb
 refine zbl ?_
 ((try dsimp only); refine zar ?_)
 refine zah (zcf (zdi zai (by decide)) fun p=>?_)
 ((try dsimp only); refine zar ?_)
 refine zah (zcb (d:=encS other) (zaa rfl) ?_)
 ((try dsimp only); refine zar ?_)
 have hlo:=W.bfs.bnd other ho
 have hle:=W.len
 refine zah (zj8 (fun m ss=>∃ (ch : List (List Nat)) (cur : Option (List Nat)),ss = [.d (bkD b),.d (encS one),.d (encS other),.d (D.dic (dA encS encO R par)),.o p (ch.map encS),.d (encO cur)]/\Chn (adjF b) R lev one other ch cur/\m = lev other + 1 - ch.length) (lev other + 1 - 0) ⟨[],some other,rfl,Chn.start ho,rfl⟩ ?_)
 rintro m ss ⟨ch,cur,rfl,C,rfl⟩
 refine ⟨_,zat (zqz (zaa rfl).b),fun hb N hN=>?_,fun hb=>?_⟩
 ·cases cur with
  | none=>simp [encO] at hb
  | some c =>
   obtain ⟨hc,hl,_⟩:=C.at_ c rfl
   refine zah (zef (d:=encS c) rfl (zaa rfl) (by rw [List.length_map,sizeLine_eq]; lia) ?_)
   ((try dsimp only); refine zar ?_)
   refine zcb (d:=encO (par c)) (zd1 (k:=encS c) (zaa rfl) (zaa rfl).b rfl (zcc zam hc)) (hN (lev other + 1 - (ch++[c]).length) _ (by rw [List.length_append,List.length_singleton]; lia) ⟨ch++[c],par c,by rw [List.map_append]; rfl,C.step W.bfs,rfl⟩)
 ·cases cur with
  | some c =>
   have : (encO (some c) = D.non) = False:=by simp [encO,encS]
   simp [this] at hb
  | none =>
   ((try dsimp only); refine zar ?_)
   refine zck (d:=.lst (ch.reverse.map encS)) (by rw [List.map_reverse]; exact EvO.ev (znf (zcd rfl))) (rt _ ⟨R,par,lev,W,.inr ⟨ho,ch.reverse,rfl,C.done⟩⟩)
noncomputable def labV (kvs : DD) (c : List Nat) : List Nat:=unS ((valD kvs (encS c)).getD .non)
noncomputable def srtL (kvs : DD) : List (List Nat):=(zd0 (kvs.map (·.1))).map unS
noncomputable def dueL (kvs : DD) : List (List (List Nat)):=zbx (labV kvs) (srtL kvs)
noncomputable def zp2 (ds : List D) : Prop:=∃ (ks : List (List Nat)) (f : List Nat->List Nat),ds = [D.dic (dA encS encS ks f)]/\ks.Nodup/\ks.length < 64
noncomputable def zky : List D->D
 | [.dct a b]=>.lst ((dueL (a.zip b)).map encB)
 | _=>.non
theorem zif (kvs : DD) : zky [D.dic kvs] = .lst ((dueL kvs).map encB):=by
 show D.lst ((dueL ((kvs.map (·.1)).zip (kvs.map (·.2)))).map encB) = _
 rw [ztk]
theorem zxq {α : Type} (xs : List α) (f : α->List Nat) : ∀ d∈xs.map (fun x=>encS (f x)),∃ l,d = .str l:=fun d hd=>by obtain ⟨x,_,rfl⟩:=List.mem_map.mp hd; exact ⟨_,rfl⟩
theorem zjv (c : List Nat) : (encS c).nb = true:=rfl
theorem zo8 (Z : Tx K mg ad0) : FnOk P w K mg base CX0 1 ad0.f_law_due ad0.d_law_due ["_law_labels_here"] (SpD K zp2 zky):=by
 refine Z.F_law_due.ok zc5 (fun vs H Q E h=>zbt (n:=1) (by rintro ds ⟨c,d,rfl,_⟩; rfl) h) (fun cdv A outer s H vs Q E hr h=>⟨_,(zad (zaw (i:=1) zc5.nd rfl (Or.inl rfl) (zdh pa_nil))
   (zad (zaw (i:=2) zc5.nd rfl (Or.inl rfl) (zdh pa_nil))
   (zad (zc2 PassesOwn.never rfl (zba (za5 (show zcg _ _ (zdm K) from zc6 rfl) (by rfl) Z.z_sorted boot_sorted (pa_cons (pv 0) pa_nil))) (zau (i:=3) zc5.nd rfl (Or.inr rfl)) (zag (zdn (za1 (show OpR _ _ (rInD K true) from zfh hr.units) (pv 3) (pv 2) (by with_unfolding_all rfl)) (zad (zfg (i:=4) zc5.nd rfl (Or.inl rfl) rfl (LcOk.of (Nx:=(["_law_labels_here", "_law_due_here", "_law_seen", "_law_card_here", "_law_block"] : List Str)) (sc:=zac zca) (N':=(["_law_one", "_law_labels_here", "_law_card_here"] : List Str)) (nt:=1) (cs:=[0,3]) rfl rfl (by decide +kernel)) (zba (za5 (show zcg _ _ (zdm K) from zc6 rfl) (by rfl) Z.z_sorted boot_sorted (pa_cons (pv 0) pa_nil))) (fun _ _ _ _=>(zau (i:=0) (show List.Nodup (["_law_one", "_law_labels_here", "_law_card_here"] : List Str) by decide +kernel) rfl (Or.inl rfl))) (fun _ _ _ _=>(zfy (za1 zgr (zb8 (zcv hr) (pv 1) (pv 0) (fun _ _=>rfl)) (zb8 (zcv hr) (pv 1) (pv 2) (fun _ _=>rfl)) (zbw _)))) (fun _ _ _ _=>(pv 0)))
   (zad (zaw (i:=2) zc5.nd rfl (Or.inl rfl) (zb0 (show OpR _ _ (zsl K) from zmx) (pv 2) (pv 4)))
   (zag (zd2 (zhk F.plainAttrs_list F.slot_list_append F.type_list_append zcj (pv 1) (pa_cons (pv 4) pa_nil)))))) zbk)))
   (zag (zbg (pv 1)))))),?_⟩)
 refine zfx h (by rw [zbt (n:=1) (by rintro ds ⟨c,d,rfl,_⟩; rfl) h]; decide) fun G ds hp rt=>?_
 obtain ⟨ks,f0,rfl,hkn,hkl⟩:=hp
 rw [zif] at rt
 generalize hkv : dA encS encS ks f0 = kvs at rt
 have ek : kvs.map (·.1) = ks.map encS:=by rw [<- hkv]; unfold dA; rw [List.map_map]; rfl
 have hstr : ∀ d∈kvs.map (·.1),∃ l,d = .str l:=by rw [ek]; exact zxq ks id
 have exs : (srtL kvs).map encS = zd0 (kvs.map (·.1)):=zs3 fun d hd=>hstr d ((zav _).mem_iff.mp hd)
 have hxm : ∀ x,x∈srtL kvs->x∈ks:=fun x hx=>by
  have h1 : encS x∈(srtL kvs).map encS:=List.mem_map_of_mem hx
  rw [exs,(zav _).mem_iff,ek] at h1
  obtain ⟨y,hy,e⟩:=List.mem_map.mp h1
  rw [<- zam _ _ e]; exact hy
 have hxn : (srtL kvs).Nodup:=zwv (by
  rw [exs,(zav _).nodup_iff,ek]
  unfold List.Nodup at *
  rw [List.pairwise_map]
  exact hkn.imp fun a e=>a (zam _ _ e))
 have hxl : (srtL kvs).length <= 600:=by
  unfold srtL
  rw [List.length_map,(zav _).length_eq,ek,List.length_map]; lia
 have hv : ∀ x,x∈srtL kvs->valD kvs (encS x) = some (encS (labV kvs x)):=fun x hx=>by
  unfold labV
  rw [<- hkv,zcc zam (hxm x hx)]; rfl
 unfold dueL at rt
 have hsrc : ∀ {L0 : Hp} {ss : List Sl},ss[0]? = some (.d (D.dic kvs))->EvO K G H L0 ss (tCB (zdm K) (zbh (tVar 0) tNil)) ((srtL kvs).map encS):=fun h=>by
  rw [exs]; exact zfi (zaa h) (alS hstr) (by rw [ek,List.length_map]; omega)
 generalize labV kvs = f at rt hv
 generalize srtL kvs = xs at rt hxn hxl hv hsrc
 refine zah (zcf (zdi zai (by decide)) fun p=>?_)
 ((try dsimp only); refine zar ?_)
 refine zah (zcf (zdi zai (by decide)) fun p2=>?_)
 ((try dsimp only); refine zar ?_)
 refine zah (zdg encS xs (fun k ss=>∃ (p2 : Addr) (sn : List (List Nat)) (v3 v4 : Sl),ss = [.d (D.dic kvs),.o p ((zby f (xs.take k)).map fun h=>encB (xs.filter fun t=>decide (f t = f h))),.o p2 (sn.map encS),v3,v4]/\(∀ c,c∈sn ↔ c∈xs /\ ∃ h∈zby f (xs.take k),f c = f h)/\sn.length <= 600 * k) (EvO.ev (hsrc rfl)) ⟨p2,[],.un,.un,rfl,(fun c=>by simp [zby]),Nat.zero_le _⟩ ?_ ?_)
 ·rintro L' k x ss hL hk ⟨p2,sn,v3,v4,rfl,hsn,hsl⟩
  refine ⟨_,zas,fun N hN=>?_⟩
  have hkl:=(List.getElem?_eq_some_iff.mp hk).1
  have hx : x∈xs:=List.mem_of_getElem? hk
  have het : zby f (xs.take (k + 1)) = zem f (zby f (xs.take k)) x:=by rw [List.take_add_one,hk]; exact zci
  have hhl : (zby f (xs.take k)).length <= 600:=by
   have:=zii (f:=f) (xs:=xs.take k)
   unfold zbx at this
   rw [List.length_map,List.length_take] at this; lia
  have hin : encS x∈sn.map encS ↔ ∃ h∈zby f (xs.take k),f x = f h:=by
   rw [List.mem_map]
   constructor
   ·rintro ⟨y,hy,e⟩
    rw [zam _ _ e] at hy
    exact ((hsn x).mp hy).2
   ·intro h; exact ⟨x,(hsn x).mpr ⟨hx,h⟩,rfl⟩
  have hany : ((zby f (xs.take k)).any fun y=>decide (f y = f x)) = true ↔ ∃ h∈zby f (xs.take k),f x = f h:=by
   rw [List.any_eq_true]
   constructor
   ·rintro ⟨y,hy,e⟩; exact ⟨y,hy,(of_decide_eq_true e).symm⟩
   ·rintro ⟨y,hy,e⟩; exact ⟨y,hy,decide_eq_true e.symm⟩
  refine zdj (b:=!decide (encS x∈sn.map encS)) (zat (zfn (zaa rfl).b (zcd rfl).b rfl (D.nbs_map zjv sn) (by show 0 <= 60; decide))) (fun hb=>?_) (fun hb=>?_)
  ·have hb : ¬ ∃ h∈zby f (xs.take k),f x = f h:=fun z=>by
    rw [Bool.not_eq_true',decide_eq_false_iff_not] at hb
    exact hb (hin.mpr z)
   have eh : zby f (xs.take (k + 1)) = zby f (xs.take k)++[x]:=by
    rw [het]; unfold zem; rw [if_neg fun z=>hb (hany.mp z)]
   have hfl:=List.length_filter_le (fun t=>decide (f t = f x)) xs
   refine zah (zcf (ds:=(xs.filter fun t=>decide (f t = f x)).map encS) (zf3 xs encS (fun t=>decide (f t = f x)) encS (EvO.l (hsrc rfl)) (zej (by decide)) (by decide) (by rw [sizeLine_eq]; lia) fun t ht=>⟨_,zas,zat (zez (l:=f t) (m:=f x) (zd1 (k:=encS t) (d:=encS (f t)) (zaa rfl) (zaa rfl).b rfl (hv t ht)).b (zd1 (k:=encS x) (d:=encS (f x)) (zaa rfl) (zaa rfl).b rfl (hv x hx)).b),fun _=>zaa rfl⟩) fun p4=>zdp (i:=4) rfl ?_)
   ((try dsimp only); refine zar ?_)
   refine zah (zcf (ds:=sn.map encS++(xs.filter fun t=>decide (f t = f x)).map encS) (zmf (zcd rfl) (zaa rfl).l (by rw [List.length_map,List.length_map,sizeLine_eq]; lia)) fun p5=>?_)
   ((try dsimp only); refine zar ?_)
   refine zef (d:=encB (xs.filter fun t=>decide (f t = f x))) rfl (zaa rfl) (by rw [List.length_map,sizeLine_eq]; lia) (hN _ ⟨p5,sn++xs.filter fun t=>decide (f t = f x),.d (encS x),.d (encB (xs.filter fun t=>decide (f t = f x))),?_,fun c=>?_,?_⟩)
   ·rw [eh,List.map_append,List.map_append]; rfl
   ·rw [eh,List.mem_append,List.mem_filter,hsn c]
    constructor
    ·rintro (⟨h1,h,hh,e⟩ | ⟨h1,e⟩)
     ·exact ⟨h1,h,List.mem_append_left _ hh,e⟩
     ·exact ⟨h1,x,by simp,of_decide_eq_true e⟩
    ·rintro ⟨h1,h,hh,e⟩
     rcases List.mem_append.mp hh with hh | hh
     ·exact .inl ⟨h1,h,hh,e⟩
     ·rw [List.mem_singleton.mp hh] at e; exact .inr ⟨h1,decide_eq_true e⟩
   ·rw [List.length_append]; lia
  ·have hb : ∃ h∈zby f (xs.take k),f x = f h:=hin.mp (by
    rw [Bool.not_eq_false',decide_eq_true_eq] at hb; exact hb)
   have eh : zby f (xs.take (k + 1)) = zby f (xs.take k):=by
    rw [het]; unfold zem; rw [if_pos (hany.mpr hb)]
   refine zbl (hN _ ⟨p2,sn,_,_,by rw [eh]; rfl,by rw [eh]; exact hsn,by lia⟩)
 rintro ss ⟨p2,sn,v3,v4,rfl,_,_⟩
 rw [List.take_length]
 refine zdp (i:=1) rfl ?_
 ((try dsimp only); refine zar ?_)
 have e : (zbx f xs).map encB = (zby f xs).map fun h=>encB (xs.filter fun t=>decide (f t = f h)):=by unfold zbx; rw [List.map_map]; rfl
 rw [e] at rt
 exact zck (zaa rfl) rt
theorem zym (p : List (List Nat)) : (encB p).nb = true:=by unfold encB; rw [D.nb_lst]; exact D.nbs_map zjv p
theorem zuh (p : List (List Nat)) : (encB p).dep <= 1:=by
 unfold encB; rw [D.dep_lst]; have:=D.deps_map (enc:=encS) (n:=0) (fun _=>Nat.le_refl _) p; lia
theorem zjk (bs : List (List (List Nat))) : (D.lst (bs.map encB)).nb = true:=by rw [D.nb_lst]; exact D.nbs_map zym bs
theorem zn4 (bs : List (List (List Nat))) : (D.lst (bs.map encB)).dep <= 60:=by
 rw [D.dep_lst]; have:=D.deps_map (enc:=encB) (n:=1) zuh bs; lia
theorem zt5 (b : List Fct) : dueL (labD b) = zcm b:=by
 have ek : (labD b).map (·.1) = (keysF b).map encS:=by unfold labD dA; rw [List.map_map]; rfl
 have hm : ∀ c,c∈keysF b ↔ c∈za9 b:=fun c=>by rw [zdd,zbj]
 have es : srtL (labD b) = za9 b:=by
  unfold srtL za9
  rw [ek]
  congr 1
  have hp : ((keysF b).map encS).Perm (ded (nmD b)):=by
   have hn1 : ((keysF b).map encS).Nodup:=by
    have:=zfv b
    unfold List.Nodup at *
    rw [List.pairwise_map]
    exact this.imp fun a e=>a (zam _ _ e)
   refine (List.perm_ext_iff_of_nodup hn1 (zda _)).mpr fun d=>?_
   have h1 : d∈ded (nmD b) ↔ d∈zdf b:=by unfold zdf; rw [(zav _).mem_iff]
   rw [h1,<- zdt,List.mem_map,List.mem_map]
   constructor
   ·rintro ⟨c,hc,e⟩; exact ⟨c,(hm c).mp hc,e⟩
   ·rintro ⟨c,hc,e⟩; exact ⟨c,(hm c).mpr hc,e⟩
  exact ze3 (alS fun d hd=>zio d (zd7.mp hd)) hp
 unfold dueL zcm
 rw [es]
 have hlab : ∀ c∈za9 b,labV (labD b) c = lbF (tpF b zao) c:=fun c hc=>by
  unfold labV labD
  rw [zcc zam ((hm c).mpr hc)]; rfl
 refine zf9 fun x hx y hy=>?_
 rw [hlab x hx,hlab y hy]
 exact zzw (tpF b zao) (zuj b) x hx y hy
noncomputable def zd9 (b : List Fct) (x y : List Nat) : Bool:=decide (encF (x,zao,y)∈b.map encF) || decide (encF (y,zao,x)∈b.map encF)
theorem zou {b : List Fct} {x y : List Nat} : (x,y)∈tpF b zao ↔ (x,zao,y)∈b:=by
 unfold tpF
 rw [List.mem_map]
 constructor
 ·rintro ⟨f,hf,e⟩
  obtain ⟨h1,h2⟩:=List.mem_filter.mp hf
  have h2:=of_decide_eq_true h2
  obtain ⟨f1,f2,f3⟩:=f
  simp only [Prod.mk.injEq] at e h2
  rw [<- e.1,<- e.2,<- h2]; exact h1
 ·intro h
  exact ⟨_,List.mem_filter.mpr ⟨h,decide_eq_true rfl⟩,rfl⟩
theorem zkc {b : List Fct} {x y : List Nat} : zd9 b x y = true ↔ adjF b x y:=by
 unfold zd9 adjF
 rw [Bool.or_eq_true,decide_eq_true_eq,decide_eq_true_eq,zg8,zg8,zou,zou]
noncomputable def zvq (ds : List D) : Prop:=∃ (b : List Fct) (x y : List Nat),ds = [bkD b,encS x,encS y]
noncomputable def zr8 : List D->D
 | [.lst b,.str x,.str y]=>.bl (zd9 (b.map unF) x y)
 | _=>.non
theorem zg5 (b : List Fct) (x y : List Nat) : zr8 [bkD b,encS x,encS y] = .bl (zd9 b x y):=by
 show D.bl (zd9 ((b.map encF).map unF) x y) = _
 rw [zd3]
theorem ze0 (Z : Tx K mg ad0) : FnOk P w K mg base CX0 1 ad0.f_law_is_told ad0.d_law_is_told ["_law_book_here", "_law_one", "_law_other"] (SpD K zvq zr8):=by
 refine Z.F_law_is_told.ok zh5 (fun vs H Q E h=>zbt (n:=3) (by rintro ds ⟨c,d,e,rfl⟩; rfl) h) (fun cdv A outer s H vs Q E hr h=>⟨_,(zag (zbg (ya9 (ze4 (show OpR _ _ (rInD K false) from zob hr.units) (ze1 (pa_cons (pv 1) (pa_cons zcz (pa_cons (pv 2) pa_nil)))) (pv 0) (by with_unfolding_all rfl)) (zqo (ze4 (show OpR _ _ (rInD K false) from zob hr.units) (ze1 (pa_cons (pv 2) (pa_cons zcz (pa_cons (pv 1) pa_nil)))) (pv 0) (by with_unfolding_all rfl)))))),?_⟩)
 refine zfx h (by rw [zbt (n:=3) (by rintro ds ⟨c,d,e,rfl⟩; rfl) h]; decide) fun G ds hp rt=>?_
 obtain ⟨b,x,y,rfl⟩:=hp
 rw [zg5] at rt
 refine zck (ybh (zwp (d:=encF (x,zao,y)) (Ev.b (zg7 (zab (zaa rfl) (zab (zdb (by decide)) (zab (zaa rfl) zai))) (small (by simp)))) (zaa rfl).b rfl (D.nbs_map nbF b) (by have:=dpF (x,zao,y); lia)) fun _=>zwp (d:=encF (y,zao,x)) (Ev.b (zg7 (zab (zaa rfl) (zab (zdb (by decide)) (zab (zaa rfl) zai))) (small (by simp)))) (zaa rfl).b rfl (D.nbs_map nbF b) (by have:=dpF (y,zao,x); lia)) rt
noncomputable def zz3 (n : Nat) (ds : List D) : Prop:=∃ (b : List Fct) (cards : List (List Nat)) (one other : List Nat) (R : List (List Nat)) (par : List Nat->Option (List Nat)) (lev : List Nat->Nat),ds = [bkD b,.lst (cards.map encS),encS one,encS other]/\Walk b one R par lev/\(∀ c∈R,c∈cards)/\cards.length <= 700/\other∈R/\n = lev other
noncomputable def ya5 (n : Nat) : D:=.int ((n + 1 : Nat) : Int)
theorem zj5 (Z : Tx K mg ad0) : FnOk P w K mg base CX0 2 ad0.f_law_rounds ad0.d_law_rounds ["_law_book_here", "_law_cards", "_law_one", "_law_other"] (SpG K zz3 ya5):=by
 have G_law_is_told:=ze0 (P:=P) (w:=w) (base:=base) Z
 refine Z.F_law_rounds.ok zbs (fun vs H Q E h=>zrx (n:=4) (by rintro n ds ⟨c,d,e,f,g,h,i,rfl,_⟩; rfl) h) (fun cdv A outer s H vs Q E hr h=>⟨_,(zad (zaw (i:=4) zbs.nd rfl (Or.inl rfl) (zdh (pa_cons (pv 2) pa_nil)))
   (zad (zaw (i:=5) zbs.nd rfl (Or.inl rfl) zaq)
   (zad (zi2 PassesOwn.never (za1 (show OpR _ _ (rInD K true) from zfh hr.units) (pv 3) (pv 4) (by with_unfolding_all rfl)) (zad (zaw (i:=6) zbs.nd rfl (Or.inl rfl) (zdh pa_nil))
   (zad (zc2 PassesOwn.never rfl (zba (pv 1)) (zau (i:=7) zbs.nd rfl (Or.inr rfl)) (zag (zdn (PW.pt (zro (za1 (show OpR _ _ (rInD K true) from zfh hr.units) (pv 7) (pv 4) (by with_unfolding_all rfl)) (zl8 (zgm (za5 (zvm rfl) (by rfl) Z.z_any boot_any (pa_cons (zw5 rfl (LcOk.of (Nx:=(["_law_book_here", "_law_cards", "_law_one", "_law_other", "_law_seen", "_law_rounds_here", "_law_new", "_law_card_here"] : List Str)) (sc:=zac za7) (N':=(["_law_near", "_law_book_here", "_law_card_here"] : List Str)) (nt:=1) (cs:=[0,7]) rfl rfl (by decide +kernel)) (zba (pv 4)) (fun _ _ _ _=>(zau (i:=0) (show List.Nodup (["_law_near", "_law_book_here", "_law_card_here"] : List Str) by decide +kernel) rfl (Or.inl rfl))) (fun _ _ _ _=>zi9) (fun _ _ _ _=>(za0 G_law_is_told (hr.mono (by decide)) (by rfl) Z.M_law_is_told Z.F_law_is_told.kp Z.B_law_is_told .nil zc0 (pa_cons (pv 1) (pa_cons (pv 2) (pa_cons (pv 0) pa_nil)))))) pa_nil)))))) (zag (zd2 (zhk F.plainAttrs_list F.slot_list_append F.type_list_append zcj (pv 6) (pa_cons (pv 7) pa_nil)))) zbk)))
   (zad (zaw (i:=4) zbs.nd rfl (Or.inl rfl) (zb0 (show OpR _ _ (zsl K) from zmx) (pv 4) (pv 6)))
   (zag (zaw (i:=5) zbs.nd rfl (Or.inl rfl) (zb0 zfl (pv 5) zaq)))))))
   (zag (zbg (pv 5)))))),?_⟩)
 refine yam h (by rw [zrx (n:=4) (by rintro n ds ⟨c,d,e,f,g,h,i,rfl,_⟩; rfl) h]; decide) fun G ds n hp rt=>?_
 obtain ⟨b,cards,one,other,R,par,lev,rfl,W,hRc,hcl,ho,rfl⟩:=hp
 have hlo:=W.bfs.bnd other ho
 have hle:=W.len
 refine zah (zcf (ds:=[encS one]) (zdi (zab (zaa rfl) zai) (small (by simp))) fun p=>?_)
 ((try dsimp only); refine zar ?_)
 refine zah (zcb (d:=.int ((0 + 1 : Nat) : Int)) zap ?_)
 ((try dsimp only); refine zar ?_)
 refine zah (zj8 (fun m ss=>∃ (p : Addr) (S : List (List Nat)) (r : Nat) (v6 v7 : Sl),ss = [.d (bkD b),.d (.lst (cards.map encS)),.d (encS one),.d (encS other),.o p (S.map encS),.d (.int ((r + 1 : Nat) : Int)),v6,v7]/\(∀ c,c∈S ↔ c∈R/\lev c <= r)/\S.length <= 1 + 700 * r/\r <= lev other/\m = lev other - r) (lev other - 0) ⟨p,[one],0,.un,.un,rfl,(fun c=>?_),by simp,Nat.zero_le _,rfl⟩ ?_)
 ·rw [List.mem_singleton]
  constructor
  ·rintro rfl; exact ⟨W.bfs.one_in,by rw [W.bfs.lev0]; exact Nat.le_refl _⟩
  ·rintro ⟨h1,h2⟩
   refine Classical.byContradiction fun hne=>?_
   obtain ⟨g,_,_,_,hl⟩:=W.bfs.par_of c h1 hne
   lia
 rintro m ss ⟨p,S,r,v6,v7,rfl,hS,hSl,hrl,rfl⟩
 have hin : ∀ c : List Nat,encS c∈S.map encS ↔ c∈S:=fun c=>⟨fun h=>by obtain ⟨y,hy,e⟩:=List.mem_map.mp h; rw [<- zam _ _ e]; exact hy,fun h=>List.mem_map_of_mem h⟩
 have hSz : S.length <= 500000:=by
  have : 700 * r <= 700 * 601:=Nat.mul_le_mul_left _ (by lia)
  lia
 refine ⟨_,zat (zfn (d:=encS other) (zaa rfl).b (zcd rfl).b rfl (D.nbs_map zjv S) (by show 0 <= 60; decide)),fun hb N hN=>?_,fun hb=>?_⟩
 ·have hb : ¬ lev other <= r:=fun z=>by
   rw [Bool.not_eq_true',decide_eq_false_iff_not] at hb
   exact hb ((hin other).mpr ((hS other).mpr ⟨ho,z⟩))
  refine zah (zcf (zdi zai (by decide)) fun p2=>?_)
  ((try dsimp only); refine zar ?_)
  refine zah (zdg encS cards (fun q ss=>∃ v7 : Sl,ss = [.d (bkD b),.d (.lst (cards.map encS)),.d (encS one),.d (encS other),.o p (S.map encS),.d (.int ((r + 1 : Nat) : Int)),.o p2 (((cards.take q).filter fun c=>!decide (encS c∈S.map encS) && S.any (zd9 b c)).map encS),v7]) (zaa rfl) ⟨_,rfl⟩ ?_ ?_)
  ·rintro L' q c ss hL hq ⟨v7,rfl⟩
   refine ⟨_,zas,fun N2 hN2=>?_⟩
   have ext : (cards.take (q + 1)).filter (fun c=>!decide (encS c∈S.map encS) && S.any (zd9 b c)) = (cards.take q).filter (fun c=>!decide (encS c∈S.map encS) && S.any (zd9 b c))++[c].filter fun c=>!decide (encS c∈S.map encS) && S.any (zd9 b c):=by
    rw [List.take_add_one,hq,List.filter_append]; rfl
   have hfl:=List.length_filter_le (fun c=>!decide (encS c∈S.map encS) && S.any (zd9 b c)) (cards.take q)
   rw [List.length_take] at hfl
   refine zdj (b:=!decide (encS c∈S.map encS) && S.any (zd9 b c)) (zmi (zat (zfn (d:=encS c) (zaa rfl).b (zcd rfl).b rfl (D.nbs_map zjv S) (by show 0 <= 60; decide))) fun _=>zh7 (zxd (xs:=S) (g:=zd9 b c) (EvO.l (zmc S encS (fun y=>.bl (zd9 b c y)) (zcd rfl) (zej (by decide)) (by decide) (by rw [sizeLine_eq]; lia) fun y hy=>⟨_,zas,by
    rw [<- zg5]
    exact zcl (pre:=zvq) (res:=zr8) (ds:=[bkD b,encS c,encS y]) (zab (zaa rfl) (zab (zaa rfl) (zab (zaa rfl) zai))) ⟨b,c,y,rfl⟩⟩)))) (fun hb=>?_) (fun hb=>?_)
   ·refine zef (d:=encS c) rfl (zaa rfl) (by rw [List.length_map,sizeLine_eq]; lia) (hN2 _ ⟨.d (encS c),?_⟩)
    rw [ext,List.filter_cons_of_pos (p:=fun c=>!decide (encS c∈S.map encS) && S.any (zd9 b c)) hb,List.filter_nil,List.map_append]; rfl
   ·refine zbl (hN2 _ ⟨.d (encS c),?_⟩)
    rw [ext,List.filter_cons_of_neg (p:=fun c=>!decide (encS c∈S.map encS) && S.any (zd9 b c)) (by rw [hb]; decide),List.filter_nil,List.append_nil]; rfl
  rintro ss ⟨v7,rfl⟩
  rw [List.take_length]
  ((try dsimp only); refine zar ?_)
  have hfl:=List.length_filter_le (fun c=>!decide (encS c∈S.map encS) && S.any (zd9 b c)) cards
  have hnew:=W.bfs.round W.all (zyl b) hRc hS (cards.filter fun c=>!decide (encS c∈S.map encS) && S.any (zd9 b c)) fun c=>by
   rw [List.mem_filter,Bool.and_eq_true,Bool.not_eq_true',decide_eq_false_iff_not,hin,List.any_eq_true]
   constructor
   ·rintro ⟨h1,h2,y,hy,h3⟩; exact ⟨h1,h2,y,hy,zkc.mp h3⟩
   ·rintro ⟨h1,h2,y,hy,h3⟩; exact ⟨h1,h2,y,hy,zkc.mpr h3⟩
  refine zah (zcf (ds:=(S++cards.filter fun c=>!decide (encS c∈S.map encS) && S.any (zd9 b c)).map encS) (by rw [List.map_append]; exact zmf (zcd rfl) (zcd rfl) (by rw [List.length_map,List.length_map,sizeLine_eq]; lia)) fun p3=>?_)
  ((try dsimp only); refine zar ?_)
  refine zcb (d:=.int ((r + 1 + 1 : Nat) : Int)) (by rw [Int.natCast_add (r + 1) 1]; exact zfs (zaa rfl).b zap.b) (hN (lev other - (r + 1)) _ (by lia) ⟨p3,_,r + 1,_,_,rfl,hnew,by rw [List.length_append]; lia,by lia,rfl⟩)
 ·have hb : lev other <= r:=by
   rw [Bool.not_eq_false',decide_eq_true_eq] at hb
   exact ((hS other).mp ((hin other).mp hb)).2
  have : r = lev other:=by lia
  subst this
  ((try dsimp only); refine zar ?_)
  exact zck (zaa rfl) rt
theorem ztn (ls : List Lnk) : ∀ l∈ls,lbF ls l.1 = lbF ls l.2:=by
 induction ls using zbu with
 | h0=>intro l h; cases h
 | hs ls m ih =>
  intro l hl
  rw [zg3]
  unfold lbS
  rw [zg4 (x:=m.2) (y:=m.1) (.inl ⟨rfl,rfl⟩)]
  rcases List.mem_append.mp hl with hl | hl
  ·exact .inl (ih l hl)
  ·rw [List.mem_singleton.mp hl]
   exact .inr ⟨.inr rfl,.inl rfl⟩
theorem yas (ls : List Lnk) {X : List Nat->Prop} : (∀ l∈ls,X l.1 ↔ X l.2) -> ∀ a b,lbF ls a = lbF ls b->(X a ↔ X b):=by
 induction ls using zbu with
 | h0=>intro _ a b e; have e : a = b:=e; rw [e]
 | hs ls m ih =>
  intro h a b e
  have ih:=ih fun l hl=>h l (List.mem_append_left _ hl)
  have hm:=h m (by simp)
  rw [zg3] at e
  unfold lbS at e
  rw [zg4 (x:=m.2) (y:=m.1) (.inl ⟨rfl,rfl⟩)] at e
  rcases e with e | ⟨e1,e2⟩
  ·exact ih a b e
  ·have h1 : X a ↔ X m.1:=e1.elim (fun z=>(ih _ _ z).trans hm.symm) fun z=>ih _ _ z
   have h2 : X b ↔ X m.1:=e2.elim (fun z=>(ih _ _ z).trans hm.symm) fun z=>ih _ _ z
   exact h1.trans h2.symm
theorem Walk.label {b : List Fct} {one other : List Nat} {R : List (List Nat)} {par : List Nat->Option (List Nat)} {lev : List Nat->Nat} (W : Walk b one R par lev) : other∈R ↔ lbF (tpF b zao) one = lbF (tpF b zao) other:=by
 constructor
 ·refine fun h=>W.bfs.all (P:=fun c=>lbF (tpF b zao) one = lbF (tpF b zao) c) rfl (fun x y _ hxy hx=>hx.trans ?_) other h
  rcases hxy with z | z
  ·exact ztn _ _ z
  ·exact (ztn _ _ z).symm
 ·intro h
  refine (yas (tpF b zao) (X:=fun c=>c∈R) (fun l hl=>?_) one other h).mp W.bfs.one_in
  obtain ⟨x,y⟩:=l
  exact ⟨fun h=>(W.all x h y (.inl hl)).1,fun h=>(W.all y h x (.inr hl)).1⟩
theorem zlv (Z : Tx K mg ad0) : FnOk P w K mg base CX0 1 ad0.f_Odds_init ad0.d_Odds_init ["self", "chain"] (zr7 K ad0.c_Odds "chain"):=by
 refine Z.F_Odds_init.ok zkx (fun vs H Q E h=>by obtain ⟨e,p,ls,rfl,_⟩:=h; rfl) (fun cdv A outer s H vs Q E hr h=>⟨_,(zad (zd2 (zpo (by rfl) Z.M_FolkError Z.CB_FolkError (pa_cons (pv 0) (pa_cons (zv6 hr.gd hr.units (pv 1)) pa_nil))))
   (zag (zsh (pv 0) (zdv zgd (by rfl) Z.z_list boot_list (pa_cons (pv 1) pa_nil)) (by rfl)))),?_⟩)
 exact zqt Z.XM_Odds.cls Z.XS_Odds_chain (by decide +kernel) h
theorem zp3 {f : List Nat->List Nat} {xs : List (List Nat)} {c c' : List Nat} (hc : c∈xs) (hc' : c'∈xs) : plAt (zbx f xs) c = plAt (zbx f xs) c' ↔ f c = f c':=by
 have key : ∀ {x : List Nat},x∈xs->plAt (zbx f xs) x = (zby f xs).findIdx fun h=>decide (f x = f h):=fun {x} hx=>by
  unfold plAt zbx
  rw [List.findIdx_map]
  congr 1
  funext h
  exact decide_eq_decide.mpr (by rw [List.mem_filter]; simp [hx])
 rw [key hc,key hc']
 constructor
 ·intro e
  obtain ⟨h,hh,he⟩:=(zfu (f:=f) (xs:=xs) (f c)).mpr ⟨c,hc,rfl⟩
  obtain ⟨h',hh',he'⟩:=(zfu (f:=f) (xs:=xs) (f c')).mpr ⟨c',hc',rfl⟩
  have l1 : ((zby f xs).findIdx fun h=>decide (f c = f h)) < (zby f xs).length:=List.findIdx_lt_length.mpr ⟨h,hh,decide_eq_true he.symm⟩
  have l2 : ((zby f xs).findIdx fun h=>decide (f c' = f h)) < (zby f xs).length:=List.findIdx_lt_length.mpr ⟨h',hh',decide_eq_true he'.symm⟩
  have g1:=of_decide_eq_true (List.findIdx_getElem (w:=l1))
  have g2:=of_decide_eq_true (List.findIdx_getElem (w:=l2))
  rw [g1,g2]
  congr 1
  simp only [e]
 ·intro e
  simp only [e]
theorem zv1 {α β : Type} [DecidableEq α] [DecidableEq β] {f : α->β} {xs : List α} {c : α} (hc : c∈xs) : c∈(zbx f xs).flatten:=by
 obtain ⟨h,hh,he⟩:=(zfu (f:=f) (xs:=xs) (f c)).mpr ⟨c,hc,rfl⟩
 exact List.mem_flatten.mpr ⟨_,List.mem_map.mpr ⟨h,hh,rfl⟩,List.mem_filter.mpr ⟨hc,decide_eq_true he.symm⟩⟩
theorem zn2 : isPw zcy = true:=by unfold isPw; rw [zv3]; exact decide_eq_true (List.mem_map.mpr ⟨_,by decide,rfl⟩)
theorem zwb (b : List Fct) : ∀ l∈tpF b zcy,l.1∈za9 b/\l.2∈za9 b:=fun l hl=>by
 unfold tpF at hl
 obtain ⟨f,hf,rfl⟩:=List.mem_map.mp hl
 obtain ⟨h1,h2⟩:=List.mem_filter.mp hf
 have h2:=of_decide_eq_true h2
 exact ⟨zbj.mpr ⟨f,h1,.inl rfl⟩,zbj.mpr ⟨f,h1,.inr ⟨by rw [h2]; exact zn2,rfl⟩⟩⟩
noncomputable def samB (b : List Fct) (l : Lnk) : Bool:=decide (lbF (tpF b zao) l.1 = lbF (tpF b zao) l.2)
noncomputable def zen (b : List Fct) : List Lnk:=(tpF b zcy).filter (samB b)
noncomputable def zlm (b : List Fct) : Prop:=∀ f∈b,f.1.length <= 1000/\f.2.2.length <= 1000
noncomputable def zsr (ds : List D) : Prop:=∃ b : List Fct,ds = [bkD b]/\b.length <= 300/\zlm b/\(ded (nmD b)).length < 64
noncomputable def zuf : List D->Prop
 | [.lst b]=>zen (b.map unF)≠[]
 | _=>False
theorem zeb (b : List Fct) : zuf [bkD b] ↔ zen b≠[]:=by
 show zen ((b.map encF).map unF)≠[] ↔ _
 rw [zd3]
noncomputable def zxr : List D->D
 | [.lst b]=>.lst ((zcm (b.map unF)).map encB)
 | _=>.non
theorem zhw (b : List Fct) : zxr [bkD b] = .lst ((zcm b).map encB):=by
 show D.lst ((zcm ((b.map encF).map unF)).map encB) = _
 rw [zd3]
noncomputable def ChF (b : List Fct) (l : Lnk) (ch : List (List Nat)) : Prop:=∃ R par lev,Walk b l.1 R par lev/\l.2∈R/\ChnOk (adjF b) l.1 l.2 (lev l.2) ch
noncomputable def zw7 (ds : List D) (d : D) : Prop:=∀ b : List Fct,ds = [bkD b] -> ∃ l ch,(zen b).head? = some l/\d = .lst (ch.map encS)/\ChF b l ch
theorem zts {b : List Fct} (hs : zlm b) {x y : List Nat} (h : adjF b x y) : y.length <= 1000:=by
 rcases h with h | h
 ·exact (hs _ (zou.mp h)).2
 ·exact (hs _ (zou.mp h)).1
theorem zsf {b : List Fct} (hs : zlm b) {one other : List Nat} {n : Nat} {l : List (List Nat)} (h1 : one.length <= 1000) (h : ChnOk (adjF b) one other n l) : ∀ c∈l,c.length <= 1000:=fun c hc=>by
 obtain ⟨i,hi⟩:=List.mem_iff_getElem?.mp hc
 cases i with
 | zero=>rw [h.first] at hi; cases hi; exact h1
 | succ i =>
  have hl:=(List.getElem?_eq_some_iff.mp hi).1
  exact zts hs (h.adj i _ _ (List.getElem?_eq_getElem (by lia)) hi)
theorem zga (Z : Tx K mg ad0) : FnOk P w K mg base (CX2 P w) 4 ad0.f_blocks_of ad0.d_blocks_of ["book"] (SpXR K ad0.c_Odds "chain" zsr zuf zxr zw7):=by
 have G_joined : FnOk P w K mg base CX0 3 ad0.f_joined ad0.d_joined ["things", "links"] (SpOO K preJ resJ):=(zsp Z).mono (by decide)
 have G_cards_of : FnOk P w K mg base CX0 3 ad0.f_cards_of ad0.d_cards_of ["book"] (SpO K zmn zof):=(zne Z).mono (by decide)
 have G_told_pairs : FnOk P w K mg base CX0 3 ad0.f_told_pairs ad0.d_told_pairs ["book", "field"] (SpO K ztw zqn):=(zjz Z).mono (by decide)
 have G_places_in : FnOk P w K mg base CX0 3 ad0.f_places_in ad0.d_places_in ["blocks"] (SpD K zys zuy):=(zlu Z).mono (by decide)
 have G_chain_of:=zmz (P:=P) (w:=w) (base:=base) Z
 have G_Odds_init:=zlv (P:=P) (w:=w) (base:=base) Z
 refine Z.F_blocks_of.okX2 zcx (fun vs H Q E h=>zok (n:=1) (by rintro ds ⟨c,rfl,_⟩; rfl) h) (fun cdv A outer s H vs Q E hr h=>⟨_,(zad (zs4 (zaw (i:=1) zcx.nd rfl (Or.inl rfl) (za0 G_joined (hr.mono (by decide)) (by rfl) Z.M_joined Z.F_joined.kp Z.B_joined .nil zc0 (pa_cons (za0 G_cards_of (hr.mono (by decide)) (by rfl) Z.M_cards_of Z.F_cards_of.kp Z.B_cards_of .nil zc0 (pa_cons (pv 0) pa_nil)) (pa_cons (za0 G_told_pairs (hr.mono (by decide)) (by rfl) Z.M_told_pairs Z.F_told_pairs.kp Z.B_told_pairs .nil zc0 (pa_cons (pv 0) (pa_cons zcz pa_nil))) pa_nil)))))
   (zad (zs4 (zaw (i:=2) zcx.nd rfl (Or.inl rfl) (za0 G_places_in (hr.mono (by decide)) (by rfl) Z.M_places_in Z.F_places_in.kp Z.B_places_in .nil zc0 (pa_cons (pv 1) pa_nil))))
   (zad (zc2 PassesOwn.leaving rfl (zba (PE.nox (za0 G_told_pairs (hr.mono (by decide)) (by rfl) Z.M_told_pairs Z.F_told_pairs.kp Z.B_told_pairs .nil zc0 (pa_cons (pv 0) (pa_cons zcz pa_nil))))) (zie rfl (zbv (zau (i:=3) zcx.nd rfl (Or.inl rfl)) (zbv (zau (i:=4) zcx.nd rfl (Or.inl rfl)) zf4))) (zag (zdn (PT.nox (za1 zgr (zb8 (zcv hr) (pv 2) (pv 3) (fun _ _=>rfl)) (zb8 (zcv hr) (pv 2) (pv 4) (fun _ _=>rfl)) (zbw _))) (zag (zqu (zsu Z.XM_Odds G_Odds_init (hr.mono (by decide)) (by rfl) Z.M_Odds Z.B_Odds_init zc0 (pa_cons (PE.nox (za0 G_chain_of (hr.mono (by decide)) (by rfl) Z.M_chain_of Z.F_chain_of.kp Z.B_chain_of .nil zc0 (pa_cons (pv 0) (pa_cons (pv 3) (pa_cons (pv 4) pa_nil))))) pa_nil) (by decide)))) zbk)))
   (zag (zs4 (zbg (pv 1))))))),?_⟩)
 refine zxc h (by rw [zok (n:=1) (by rintro ds ⟨c,rfl,_⟩; rfl) h]; decide) fun G ds hp rt rx=>?_
 obtain ⟨b,rfl,hb,hsb,h64⟩:=hp
 rw [zhw,zeb] at rt
 rw [zeb] at rx
 have hcl:=zim b
 refine zah (zvp (i:=1) (dss:=zij (za9 b) (tpF b zao)) (by
  rw [<- znu]
  refine zq7 (pre:=preJ) (res:=resJ) (zab (EvO.ev ?_) (zab (EvO.ev ?_) zai)) ⟨za9 b,tpF b zao,rfl,zkr b,zuj b,by lia⟩
  ·rw [zdt,<- ziq]
   exact zj2 (pre:=zmn) (res:=zof) (zab (zaa rfl) zai) ⟨b,rfl,by lia,h64⟩
  ·rw [<- zhe]
   exact zj2 (pre:=ztw) (res:=zqn) (zab (zaa rfl) (zab (zdb (by decide)) zai)) ⟨b,zao,rfl,by lia⟩) fun p qs hqs=>?_)
 have hq : (qs.map fun q=>D.lst q.2) = (zcm b).map encB:=zyo hqs
 refine znc (i:=1) rfl ?_
 rw [hq]
 ((try dsimp only); refine zar ?_)
 obtain ⟨pn,ps⟩:=zpv (ufF (tpF b zao)) (zkr b)
 have pl : (zcm b).flatten.length <= 1000:=by
  have:=zjh pn ps
  show (zbx (ufF (tpF b zao)) (za9 b)).flatten.length <= 1000
  lia
 refine zah (zcb (d:=D.dic (plD (zcm b))) (by
  rw [<- zlt]
  exact zcl (pre:=zys) (res:=zuy) (zab (zaa rfl) zai) ⟨zcm b,rfl,pn,pl⟩) ?_)
 ((try dsimp only); refine zar ?_)
 have hv : ∀ c,c∈za9 b->valD (plD (zcm b)) (encS c) = some (encN (plAt (zcm b) c)):=fun c hc=>zcc zam (zv1 hc)
 have hsame : ∀ l∈tpF b zcy,decide ((plAt (zcm b) l.1 : Int) = (plAt (zcm b) l.2 : Int)) = samB b l:=fun l hl=>by
  obtain ⟨h1,h2⟩:=zwb b l hl
  unfold samB
  have e1 : (plAt (zcm b) l.1 : Int) = (plAt (zcm b) l.2 : Int) ↔ lbF (tpF b zao) l.1 = lbF (tpF b zao) l.2:=by
   rw [Int.ofNat_inj]
   exact (zp3 (f:=ufF (tpF b zao)) h1 h2).trans (zzw (tpF b zao) (zuj b) l.1 h1 l.2 h2).symm
  by_cases hz : lbF (tpF b zao) l.1 = lbF (tpF b zao) l.2
  ·rw [decide_eq_true hz,decide_eq_true (e1.mpr hz)]
  ·rw [decide_eq_false hz,decide_eq_false fun q=>hz (e1.mp q)]
 refine zah (zdg encK (tpF b zcy) (fun k ss=>∃ v3 v4 : Sl,ss = [.d (bkD b),.d (.lst ((zcm b).map encB)),.d (D.dic (plD (zcm b))),v3,v4] /\ ∀ l∈(tpF b zcy).take k,samB b l = false) (EvO.ev (by
  rw [<- zhe]
  exact zj2 (pre:=ztw) (res:=zqn) (zab (zaa rfl) (zab (zdb (by decide)) zai)) ⟨b,zcy,rfl,by lia⟩)) ⟨.un,.un,rfl,fun l hl=>by cases hl⟩ ?_ ?_)
 ·rintro L' k l ss hL hk ⟨v3,v4,rfl,hno⟩
  refine ⟨_,zg6 rfl (zbi zas (zbi zas zfc)),fun N hN=>?_⟩
  have hl : l∈tpF b zcy:=List.mem_of_getElem? hk
  obtain ⟨h1,h2⟩:=zwb b l hl
  refine zdj (b:=samB b l) (by
   rw [<- hsame l hl]
   exact zat (zsi (zd1 (k:=encS l.1) (d:=encN (plAt (zcm b) l.1)) (zaa rfl) (zaa (d:=encS l.1) rfl).b rfl (hv l.1 h1)).b (zd1 (k:=encS l.2) (d:=encN (plAt (zcm b) l.2)) (zaa rfl) (zaa (d:=encS l.2) rfl).b rfl (hv l.2 h2)).b)) (fun hs=>?_) (fun hs=>zbl (hN _ ⟨_,_,rfl,fun x hx=>?_⟩))
  ·have hbad : zen b≠[]:=fun z=>by
    have : l∈zen b:=List.mem_filter.mpr ⟨hl,hs⟩
    rw [z] at this; cases this
   have hhead : (zen b).head? = some l:=by
    unfold zen
    rw [List.head?_filter,List.find?_eq_some_iff_append]
    have hkl:=List.getElem?_eq_some_iff.mp hk
    refine ⟨hs,(tpF b zcy).take k,(tpF b zcy).drop (k + 1),?_,fun x hx=>by rw [hno x hx]; rfl⟩
    have:=List.take_append_drop k (tpF b zcy)
    rw [List.drop_eq_getElem_cons hkl.1,hkl.2] at this
    exact this.symm
   have hlab:=of_decide_eq_true hs
   have h1s : l.1.length <= 1000:=by
    obtain ⟨f,hf,e⟩:=List.mem_map.mp hl
    rw [<- e]; exact (hsb f (List.mem_filter.mp hf).1).1
   have ask : ∀ d,zv4 [bkD b,encS l.1,encS l.2] d -> ∃ ch,d = .lst (ch.map encS)/\ChF b l ch:=fun d hd=>by
    obtain ⟨R,par,lev,W,hr⟩:=hd b l.1 l.2 rfl
    rcases hr with ⟨z,_⟩ | ⟨z,ch,e,hc⟩
    ·exact absurd (W.label.mpr hlab) z
    ·exact ⟨ch,e,R,par,lev,W,z,hc⟩
   refine ztv (S1:=zv4 [bkD b,encS l.1,encS l.2]) Z.XM_Odds.cls (zt4 (pre:=zy2) (R:=zv4) (ds:=[bkD b,encS l.1,encS l.2]) (zab (zaa rfl) (zab (zaa rfl) (zab (zaa rfl) zai))) ⟨b,l.1,l.2,rfl,hb⟩) (fun d hd=>?_) (fun dx v d F H' hd x1 x2 x3=>?_)
   ·obtain ⟨ch,e,R,par,lev,W,z,hc⟩:=ask d hd
    refine ⟨ch,e,?_,zsf hsb h1s hc⟩
    have q1:=W.bfs.bnd l.2 z
    have q2:=W.len
    rw [hc.len]; lia
   ·refine rx hbad dx v d F H' (fun b' e=>?_) x1 x2 x3
    injection e with e
    have e:=zhs e
    subst e
    obtain ⟨ch,e,hch⟩:=ask d hd
    exact ⟨l,ch,hhead,e,hch⟩
  ·rw [List.take_add_one,hk] at hx
   rcases List.mem_append.mp hx with hx | hx
   ·exact hno x hx
   ·have : x = l:=by simpa using hx
    rw [this]; exact hs
 rintro ss ⟨v3,v4,rfl,hno⟩
 rw [List.take_length] at hno
 ((try dsimp only); refine zar ?_)
 have hnb : ¬ zen b≠[]:=fun z=>z (List.filter_eq_nil_iff.mpr fun l hl=>by rw [hno l hl]; simp)
 exact zck (zaa rfl) (rt hnb)
noncomputable def yax (ds : List D) (r : D) : Prop:=∀ b : List Fct,ds = [bkD b]->(zen b = []->r = .tup [.lst ((zcm b).map encB),.non])/\(zen b≠[] -> ∃ l ch,(zen b).head? = some l/\r = .tup [.non,.lst (ch.map encS)]/\ChF b l ch)
theorem zkv (Z : Tx K mg ad0) : FnOk P w K mg base CX0 5 ad0.f_law_asked ad0.d_law_asked ["_law_book_here"] (SpRD K zsr yax):=by
 have G_blocks_of:=zga (P:=P) (w:=w) (base:=base) Z
 refine Z.F_law_asked.ok zeg (fun vs H Q E h=>zes (n:=1) (by rintro ds ⟨c,rfl,_⟩; rfl) h) (fun cdv A outer s H vs Q E hr h=>⟨_,(zad (zpq G_blocks_of (hr.mono (by decide)) (by rfl) Z.M_blocks_of Z.F_blocks_of.kp Z.B_blocks_of (pa_cons (pv 0) pa_nil) (by rfl) Z.M_FolkError zeg.nd (i:=1) rfl rfl (fun _=>(zag (zaw (i:=2) zeg.nd rfl (Or.inl rfl) (pv 1)))) ⟨rfl,rfl,rfl⟩)
   (zad (zdn (PW.pt (zu5 (zlf (zgm (za5 (show zcg _ _ (zt1 K) from zkp) (by rfl) Z.z_isinstance boot_isinstance (pa_cons (pv 2) (pa_cons (zeq (v:=.ref ad0.c_Odds) (by rfl) Z.M_Odds rfl) pa_nil))))) (zom (zlf (zgm (za5 (show zcg _ _ (zt1 K) from zkp) (by rfl) Z.z_isinstance boot_isinstance (pa_cons (pv 2) (pa_cons (zqa (v:=.ty "ValueError") (by rfl) Z.z_ValueError PyProof.Rows.Boot.«ValueError» rfl) pa_nil)))))))) (zag (zbg (ze1 (pa_cons pe_non (pa_cons (zdh pa_nil) pa_nil))))) zbk)
   (zad (zdn (zgm (za5 (show zcg _ _ (zyf K) from zqh) (by rfl) Z.z_isinstance boot_isinstance (pa_cons (pv 2) (pa_cons (ze1 (pa_cons (zeq (v:=.ref ad0.c_NoPair) (by rfl) Z.M_NoPair rfl) (pa_cons (zeq (v:=.ref ad0.c_TooMany) (by rfl) Z.M_TooMany rfl) (pa_cons (zeq (v:=.ref ad0.c_NoRow) (by rfl) Z.M_NoRow rfl) (pa_cons (zeq (v:=.ref ad0.c_NoText) (by rfl) Z.M_NoText rfl) (pa_cons (zeq (v:=.ref ad0.c_NoName) (by rfl) Z.M_NoName rfl) pa_nil)))))) pa_nil)))) (zag (zbg (ze1 (pa_cons pe_non (pa_cons (zdh pa_nil) pa_nil))))) zbk)
   (zag (zbg (ze1 (pa_cons pe_non (pa_cons (zr1 (pv 2) (by rfl)) pa_nil)))))))),?_⟩)
 refine zmv h (by rw [zes (n:=1) (by rintro ds ⟨c,rfl,_⟩; rfl) h]; decide) fun G ds hp rt=>?_
 obtain ⟨b,rfl,hb,hsb,h64⟩:=hp
 have uq : ∀ {b' : List Fct},[bkD b] = [bkD b']->b = b':=fun {b'} e=>by injection e with e; exact zhs e
 refine zah (zpj (i:=1) (j:=2) (pre:=zsr) (bad:=zuf) (res:=zxr) (errR:=zw7) (zab (zaa rfl) zai) ⟨b,rfl,hb,hsb,h64⟩ (fun nb=>?_) Z.H_Odds_FolkError (by decide) (by show 1 < 3; decide) (by show 2 < 3; decide) fun hbad d hd x dx=>?_)
 ·rw [zeb,Classical.not_not] at nb
  rw [zhw]
  refine rt _ fun b' e=>?_
  obtain rfl:=uq e
  exact ⟨fun _=>rfl,fun z=>absurd nb z⟩
 ·obtain ⟨l,ch,h1,rfl,h3⟩:=hd b rfl
  rw [zeb] at hbad
  ((try dsimp only); refine zar ?_)
  refine zah (zdj (b:=(!true || !true)) (zlq (zhq (zh7 (zrk (j:=2) rfl Z.T_Odds (.inl ⟨_,rfl,rfl⟩) Z.I_Odds_Odds))) fun _=>zhq (zh7 (zrk (j:=2) rfl Z.T_Odds (.inr ⟨_,rfl,rfl⟩) Z.I_Odds_ValueError))) (fun hb=>by simp at hb) (fun _=>?_))
  refine zbl ?_
  ((try dsimp only); refine zar ?_)
  refine zah (zdj (b:=false) (zh7 (zyd (j:=2) (cs:=[ad0.c_NoPair,ad0.c_TooMany,ad0.c_NoRow,ad0.c_NoText,ad0.c_NoName]) (tt:=ad0.c_NoRow) rfl Z.T_Odds (fun σ H Q q=>q) (by show 5 <= 1000; decide) Z.IA_Odds)) (fun hb=>by cases hb) (fun _=>?_))
  refine zbl ?_
  ((try dsimp only); refine zar ?_)
  refine zck (zg7 (zab zrs (zab (zsk (j:=2) rfl Z.T_Odds Z.Na_Odds_chain) zai)) (small (by simp))) (rt _ fun b' e=>?_)
  obtain rfl:=uq e
  exact ⟨fun z=>absurd z hbad,fun _=>⟨l,ch,h1,rfl,h3⟩⟩
noncomputable def zzk (ds : List D) : Prop:=∃ (b : List Fct) (cards : List (List Nat)) (ch : List (List Nat)) (f : Fct),ds = [bkD b,.lst (cards.map encS),.lst (ch.map encS),encF f]/\ChF b (f.1,f.2.2) ch/\(∀ c∈f.1::zgn (tpF b zao),c∈cards)/\cards.length <= 700
theorem zml (Z : Tx K mg ad0) : FnOk P w K mg base CX0 3 ad0.f_law_good ad0.d_law_good ["_law_book_here", "_law_cards", "_law_chain", "_law_fact_here"] (SpD K zzk fun _=>.bl true):=by
 have G_law_rounds:=zj5 (P:=P) (w:=w) (base:=base) Z
 have G_law_is_told : FnOk P w K mg base CX0 2 ad0.f_law_is_told ad0.d_law_is_told ["_law_book_here", "_law_one", "_law_other"] (SpD K zvq zr8):=(ze0 Z).mono (by decide)
 refine Z.F_law_good.ok zhc (fun vs H Q E h=>zbt (n:=4) (by rintro ds ⟨c,d,e,f,rfl,_⟩; rfl) h) (fun cdv A outer s H vs Q E hr h=>⟨_,(zad (zdn (PW.pt (zu5 (zlf (zgm (za5 (show zcg _ _ (fun xs H Q=>∃ p ys,xs = [.ref p,.ty "list"]/\SqL K H p ys/\Q (.bl true) H) from zfq) (by rfl) Z.z_isinstance boot_isinstance (pa_cons (pv 2) (pa_cons (zqa (v:=.ty "list") (by rfl) Z.z_list boot_list rfl) pa_nil))))) (zom (za1 yba (za5 zcw (by rfl) Z.z_len boot_len (pa_cons (pv 2) pa_nil)) (za0 G_law_rounds (hr.mono (by decide)) (by rfl) Z.M_law_rounds Z.F_law_rounds.kp Z.B_law_rounds .nil zc0 (pa_cons (pv 0) (pa_cons (pv 1) (pa_cons (zcq (show IxR _ (rIxT K) from zcn) (pv 3) zaq (fun _ _=>rfl)) (pa_cons (zcq (show IxR _ (rIxT K) from zcn) (pv 3) zaq (fun _ _=>rfl)) pa_nil))))) (zbw _))))) (zag (zbg zva)) zbk)
   (zad (zc2 PassesOwn.never rfl (zs7 (by rfl) Z.z_range (pa_cons (zb0 zog (za5 zcw (by rfl) Z.z_len boot_len (pa_cons (pv 2) pa_nil)) zaq) pa_nil)) (zau (i:=4) zhc.nd rfl (Or.inl rfl)) (zag (zdn (zlf (zgm (za0 G_law_is_told (hr.mono (by decide)) (by rfl) Z.M_law_is_told Z.F_law_is_told.kp Z.B_law_is_told .nil zc0 (pa_cons (pv 0) (pa_cons (zcq (show IxR _ (rIxL K) from zec) (pv 2) (pv 4) (fun _ _=>rfl)) (pa_cons (zcq (show IxR _ (rIxL K) from zec) (pv 2) (zb0 zfl (pv 4) zaq) (fun _ _=>rfl)) pa_nil)))))) (zag (zbg zva)) zbk)))
   (zag (zbg (zwf (ze4 zgr (zcq (show IxR _ (rIxL K) from zec) (pv 2) zaq (fun _ _=>rfl)) (zcq (show IxR _ (rIxT K) from zcn) (pv 3) zaq (fun _ _=>rfl)) (zbw _)) (zqo (ze4 zgr (zcq (show IxR _ (rIxL K) from zec) (pv 2) (yar zww zaq) (fun _ _=>rfl)) (zcq (show IxR _ (rIxT K) from zcn) (pv 3) zaq (fun _ _=>rfl)) (zbw _)))))))),?_⟩)
 refine zfx h (by rw [zbt (n:=4) (by rintro ds ⟨c,d,e,f,rfl,_⟩; rfl) h]; decide) fun G ds hp rt=>?_
 obtain ⟨b,cards,l,f,rfl,⟨R,par,lev,W,hin,hc⟩,hcar,hcl⟩:=hp
 dsimp only at W hin hc
 have hll : ((l.map encS).length : Int) = ((lev f.2.2 + 1 : Nat) : Int):=by rw [List.length_map,hc.len]
 have hlo:=W.bfs.bnd f.2.2 hin
 have hle:=W.len
 have hRc : ∀ c∈R,c∈cards:=fun c hc=>hcar c (W.univ c hc)
 refine zah (zdj (b:=false) (by
  have h2:=zlq (K:=K) (G:=G) (H₀:=H) (L:=G) (ss:=[.d (bkD b),.d (.lst (cards.map encS)),.d (.lst (l.map encS)),.d (encF f),.un]) (zhq (zh7 (ya1 (zaa (i:=2) rfl).l))) fun _=>zat (zzz (zf5 (zaa (i:=2) rfl).l).b (Ev.b (zum (E:=E0) (pre:=zz3) (res:=ya5) (lev f.2.2) (zab (zaa (i:=0) rfl) (zab (zaa (i:=1) rfl) (zab (zco (d:=encS f.1) (zaa (i:=3) rfl) (zap (i:=0)).b rfl) (zab (zco (d:=encS f.2.2) (zaa (i:=3) rfl) (zap (i:=2)).b rfl) zai)))) ⟨b,cards,f.1,f.2.2,R,par,lev,rfl,W,hRc,hcl,hin,rfl⟩)))
  rw [decide_eq_true hll] at h2
  exact h2) (fun hb=>by cases hb) (fun _=>zbl ?_))
 ((try dsimp only); refine zar ?_)
 refine zah (zvw (n:=((lev f.2.2 + 1 : Nat) : Int) - 1) (fun k ss=>∃ v4 : Sl,ss = [.d (bkD b),.d (.lst (cards.map encS)),.d (.lst (l.map encS)),.d (encF f),v4]) (zvd (zop (Ev.b (by rw [<- hll]; exact zf5 (zaa rfl).l)) zap.b).b zw6) ⟨by lia,by lia⟩ ⟨.un,rfl⟩ ?_ ?_ (fun _ _ _ h=>h))
 ·rintro k ss hk ⟨v4,rfl⟩ N hN
  have hk : k + 1 < l.length:=by rw [hc.len]; lia
  have ha : l[k]? = some l[k]:=List.getElem?_eq_getElem (by lia)
  have hb : l[k + 1]? = some l[k + 1]:=List.getElem?_eq_getElem hk
  have hadj:=hc.adj k _ _ ha hb
  generalize l[k] = x at ha hadj
  generalize l[k + 1] = y at hb hadj
  refine zdj (b:=false) (by
   have h1:=zcl (E:=E0) (K:=K) (G:=G) (H₀:=H) (L:=G) (ss:=[.d (bkD b),.d (.lst (cards.map encS)),.d (.lst (l.map encS)),.d (encF f),.d (.int k)]) (pre:=zvq) (res:=zr8) (ds:=[bkD b,encS x,encS y]) (zab (zaa (i:=0) rfl) (zab (zgh (zaa (i:=2) rfl).l (zaa (i:=4) rfl).b (ze6 (by rw [List.getElem?_map,ha]; rfl))) (zab (zgh (zaa (i:=2) rfl).l (i:=((k + 1 : Nat) : Int)) (Ev.b (by rw [Int.natCast_add]; exact zfs (zaa (i:=4) rfl).b zap.b)) (ze6 (by rw [List.getElem?_map,hb]; rfl))) zai))) ⟨b,x,y,rfl⟩
   rw [zg5,zkc.mpr hadj] at h1
   exact zhq (zh7 h1)) (fun hb=>by cases hb) (fun _=>zbl (hN _ ⟨_,rfl⟩))
 rintro ss ⟨v4,rfl⟩
 ((try dsimp only); refine zar ?_)
 have e1:=zez (K:=K) (G:=G) (H₀:=H) (L:=G) (ss:=[.d (bkD b),.d (.lst (cards.map encS)),.d (.lst (l.map encS)),.d (encF f),v4]) (l:=f.1) (m:=f.1) (Ev.b (zgh (d:=encS f.1) (zaa (i:=2) rfl).l zap.b (ze6 (j:=0) (by rw [List.getElem?_map,hc.first]; rfl)))) (Ev.b (zco (d:=encS f.1) (zaa (i:=3) rfl) (zap (i:=0)).b rfl))
 have hlast : atI (l.map encS) (-1) = some (encS f.2.2):=by
  have hll2:=hc.len
  have h2:=hc.last
  obtain ⟨l',z,rfl⟩ : ∃ l' z,l = l'++[z]:=by
   rcases List.eq_nil_or_concat l with rfl | ⟨l',z,rfl⟩
   ·simp at hll2
   ·exact ⟨l',z,by rw [List.concat_eq_append]⟩
  rw [List.length_append,List.length_singleton] at hll2
  rw [List.getElem?_append_right (by lia),show lev f.2.2 - l'.length = 0 by lia] at h2
  simp at h2
  rw [List.map_append,<- h2]
  exact zni _ _
 have e2:=zez (K:=K) (G:=G) (H₀:=H) (L:=G) (ss:=[.d (bkD b),.d (.lst (cards.map encS)),.d (.lst (l.map encS)),.d (encF f),v4]) (l:=f.2.2) (m:=f.2.2) (Ev.b (zgh (d:=encS f.2.2) (zaa (i:=2) rfl).l (zwk zap.b).b hlast)) (Ev.b (zco (d:=encS f.2.2) (zaa (i:=3) rfl) (zap (i:=2)).b rfl))
 rw [decide_eq_true rfl] at e1 e2
 exact zck (zwm e1 fun _=>e2) rt
theorem znk {n : Int} (h : n <= 20) : (rq n).length <= 20:=by
 unfold rq
 have : (("q" : Str).cps.toList).length = 1:=by decide +kernel
 rw [List.length_flatten,List.map_replicate,this,List.sum_replicate_nat]; lia
theorem zhf (c k : Int) : (zed c k).length <= 100:=by
 have hm : 1 <= zht c/\zht c <= 11:=by unfold zht; lia
 have hat : 0 <= cat c/\cat c < zht c:=⟨Int.emod_nonneg _ (by lia),Int.emod_lt_of_pos _ (by lia)⟩
 have h3 : 0 <= c / 121 % 2 * (k % 2)/\c / 121 % 2 * (k % 2) <= 1:=by
  have : c / 121 % 2 = 0 \/ c / 121 % 2 = 1:=by lia
  rcases this with e | e <;> rw [e] <;> lia
 have l1:=znk (n:=cat c) (by lia)
 have l2:=znk (n:=cend c k) (by unfold cend; lia)
 unfold zed
 simp; lia
theorem zmy (s m c : Int) (ap : Bool) : (zdq s m c ap).1.length <= 1000/\(zdq s m c ap).2.2.length <= 1000:=by
 unfold zdq
 split
 ·refine ⟨Nat.le_trans (zhf _ _) (by decide),?_⟩
  show (("x" : Str).cps.toList).length <= 1000
  decide +kernel
 ·exact ⟨Nat.le_trans (zhf _ _) (by decide),Nat.le_trans (zhf _ _) (by decide)⟩
noncomputable def Ten (s : Int) (fs : List Fct) : Prop:=∀ f∈fs,(∃ k : Nat,k < 10/\f.1 = zed s k)/\(isPw f.2.1 = true -> ∃ k : Nat,k < 10/\f.2.2 = zed s k)
theorem zxg : isPw zvc = false:=by unfold isPw; rw [zv3]; exact decide_eq_false (fun h=>by obtain ⟨x,hx,e⟩:=List.mem_map.mp h; cases D.str.inj e; revert hx; decide)
theorem zrf (s m c : Int) (ap : Bool) (h1 : 2 <= m) (h2 : m <= 10) : (∃ k : Nat,k < 10/\(zdq s m c ap).1 = zed s k)/\(isPw (zdq s m c ap).2.1 = true -> ∃ k : Nat,k < 10/\(zdq s m c ap).2.2 = zed s k):=by
 have a1:=Int.emod_nonneg c (show m≠0 by lia)
 have a2:=Int.emod_lt_of_pos c (show 0 < m by lia)
 have b1:=Int.emod_nonneg (fi m c + 1 + c / 10 % (m - 1)) (show m≠0 by lia)
 have b2:=Int.emod_lt_of_pos (fi m c + 1 + c / 10 % (m - 1)) (show 0 < m by lia)
 have f1 : 0 <= fi m c/\fi m c < 10:=⟨a1,by show c % m < 10; lia⟩
 have f2 : 0 <= fj m c/\fj m c < 10:=⟨b1,by show _ % m < 10; omega⟩
 have one : ∀ i : Int,0 <= i->i < 10 -> ∃ k : Nat,k < 10/\zed s i = zed s k:=fun i h0 h1=>⟨i.toNat,by lia,by rw [Int.toNat_of_nonneg h0]⟩
 unfold zdq
 split
 ·refine ⟨one _ f1.1 f1.2,fun z=>?_⟩
  have z : isPw zvc = true:=z
  rw [zxg] at z; cases z
 ·refine ⟨one _ ?_ ?_,fun _=>one _ ?_ ?_⟩ <;> (first | unfold imin | unfold imax) <;> split <;> lia
theorem zm6 {s : Int} {b : List Fct} (h : Ten s b) : (ded (nmD b)).length <= 10:=by
 have h2:=zjh (b:=(List.range 10).map fun k : Nat=>D.str (zed s k)) (zda (nmD b)) fun d hd=>by
  have hd:=zd7.mp hd
  unfold nmD at hd
  rcases List.mem_append.mp hd with hd | hd
  ·obtain ⟨f,hf,rfl⟩:=List.mem_map.mp hd
   obtain ⟨k,hk,e⟩:=(h f hf).1
   exact List.mem_map.mpr ⟨k,List.mem_range.mpr hk,by rw [e]⟩
  ·obtain ⟨f,hf,rfl⟩:=List.mem_map.mp hd
   obtain ⟨hf,hp⟩:=List.mem_filter.mp hf
   obtain ⟨k,hk,e⟩:=(h f hf).2 hp
   exact List.mem_map.mpr ⟨k,List.mem_range.mpr hk,by rw [e]⟩
 rw [List.length_map,List.length_range] at h2
 exact h2
theorem zp7 {s : Int} {b : List Fct} (h : Ten s b) : (za9 b).length <= 10:=by
 have:=zm6 h
 unfold za9 zdf
 rw [List.length_map,(zav _).length_eq]; exact this
theorem zol {s : Int} {b : List Fct} (h : Ten s b) : (keysF b).length <= 10 :=
 Nat.le_trans (zjh (zfv b) fun c hc=>zbj.mpr ((zdd b c).mp hc)) (zp7 h)
noncomputable def zph (b : List Fct) (f : Fct) : Bool:=decide (f.2.1 = zcy) && decide (lbF (tpF b zao) f.1 = lbF (tpF b zao) f.2.2)
noncomputable def badF (b : List Fct) : List Fct:=b.filter (zph b)
theorem zln (b : List Fct) : zen b = (badF b).map fun f=>(f.1,f.2.2):=by
 unfold zen tpF badF
 rw [List.filter_map,List.filter_filter]
 congr 1
 refine List.filter_congr fun f _=>?_
 show (samB b (f.1,f.2.2) && decide (f.2.1 = zcy)) = zph b f
 unfold samB zph
 rw [Bool.and_comm]
noncomputable def zea (b : List Fct) : List Fct:=b.filter fun f=>!decide (encF f∈(badF b).map encF)
theorem zq8 (b : List Fct) : tpF (zea b) zao = tpF b zao:=by
 unfold tpF zea
 rw [List.filter_filter]
 congr 1
 refine List.filter_congr fun f hf=>?_
 by_cases h : f.2.1 = zao
 ·have : encF f ∉ (badF b).map encF:=fun z=>by
   have z:=zg8.mp z
   unfold badF at z
   have z2:=(List.mem_filter.mp z).2
   unfold zph at z2
   rw [Bool.and_eq_true] at z2
   have z3:=of_decide_eq_true z2.1
   rw [h] at z3
   exact absurd z3 (by decide +kernel)
  rw [decide_eq_false this,decide_eq_true h]; rfl
 ·rw [decide_eq_false h]; rfl
theorem zsd (b : List Fct) : zen (zea b) = []:=by
 unfold zen
 rw [List.filter_eq_nil_iff]
 intro l hl hs
 unfold samB at hs
 rw [zq8] at hs
 unfold tpF at hl
 obtain ⟨f,hf,rfl⟩:=List.mem_map.mp hl
 obtain ⟨h1,h2⟩:=List.mem_filter.mp hf
 obtain ⟨h3,h4⟩:=List.mem_filter.mp h1
 have h5 : encF f∈(badF b).map encF:=List.mem_map_of_mem (List.mem_filter.mpr ⟨h3,by unfold zph; rw [h2,hs]; rfl⟩)
 rw [decide_eq_true h5] at h4
 cases h4
theorem zps (b : List Fct) : ∀ c∈zgn (tpF b zao),c∈za9 b:=fun c hc=>by
 unfold zgn zjy at hc
 obtain ⟨l,hl,rfl⟩:=List.mem_map.mp hc
 obtain ⟨l2,hl2,h3⟩:=List.mem_flatMap.mp hl
 obtain ⟨t1,t2⟩:=zuj b l2 hl2
 simp only [List.mem_cons,List.not_mem_nil,or_false] at h3
 rcases h3 with rfl | rfl
 ·exact t1
 ·exact t2
theorem zzn (b : List Fct) : srtL (labD b) = za9 b:=by
 have ek : (labD b).map (·.1) = (keysF b).map encS:=by unfold labD dA; rw [List.map_map]; rfl
 unfold srtL za9
 rw [ek]
 congr 1
 have hn1 : ((keysF b).map encS).Nodup:=by
  have:=zfv b
  unfold List.Nodup at *
  rw [List.pairwise_map]
  exact this.imp fun a e=>a (zam _ _ e)
 refine ze3 (alS fun d hd=>zio d (zd7.mp hd)) ((List.perm_ext_iff_of_nodup hn1 (zda _)).mpr fun d=>?_)
 have h1 : d∈ded (nmD b) ↔ d∈zdf b:=by unfold zdf; rw [(zav _).mem_iff]
 rw [h1,<- zdt,List.mem_map,List.mem_map]
 constructor
 ·rintro ⟨c,hc,e⟩; exact ⟨c,zbj.mpr ((zdd b c).mp hc),e⟩
 ·rintro ⟨c,hc,e⟩; exact ⟨c,(zdd b c).mpr (zbj.mp hc),e⟩
theorem zza (Z : Tx K mg ad0) : FnOk P w K mg base CX0 21 ad0.f_law ad0.d_law ["_law_script"] (zus K):=by
 have G_law_cell_at:=zic (P:=P) (w:=w) (base:=base) Z
 have G_law_fact:=zmg (P:=P) (w:=w) (base:=base) Z
 have G_law_book:=zlx (P:=P) (w:=w) (base:=base) Z
 have G_law_labels:=zi1 (P:=P) (w:=w) (base:=base) Z
 have G_law_due:=zo8 (P:=P) (w:=w) (base:=base) Z
 have G_law_asked:=zkv (P:=P) (w:=w) (base:=base) Z
 have G_law_good:=zml (P:=P) (w:=w) (base:=base) Z
 have G_blocks_of:=zga (P:=P) (w:=w) (base:=base) Z
 refine Z.F_law.ok zfe (fun vs H Q E h=>by obtain ⟨a,ns,rfl,_⟩:=h; rfl) (fun cdv A outer s H vs Q E hr h=>⟨_,(zad (zaw (i:=1) zfe.nd rfl (Or.inr rfl) (zb0 zfl zaq (zb0 zfo (za0 G_law_cell_at (hr.mono (by decide)) (by rfl) Z.M_law_cell_at Z.F_law_cell_at.kp Z.B_law_cell_at .nil zc0 (pa_cons (pv 0) (pa_cons zaq pa_nil))) zaq)))
   (zad (zfg (i:=2) zfe.nd rfl (Or.inl rfl) rfl (LcOk.of (Nx:=(["_law_script", "_law_many", "_law_facts", "_law_book_here", "_law_labels_here", "_law_bad", "_law_found", "_law_chain", "_law_good_here"] : List Str)) (sc:=zac zgp) (N':=(["_law_cell", "_law_many", "_law_script"] : List Str)) (nt:=1) (cs:=[1,0]) rfl rfl (by decide +kernel)) (zba (zuo zw8 (pv 0) (ztr zaq) (ztr zaq))) (fun _ _ _ _=>(zau (i:=0) (show List.Nodup (["_law_cell", "_law_many", "_law_script"] : List Str) by decide +kernel) rfl (Or.inl rfl))) (fun _ _ _ _=>zi9) (fun _ _ _ _=>(za0 G_law_fact (hr.mono (by decide)) (by rfl) Z.M_law_fact Z.F_law_fact.kp Z.B_law_fact .nil zc0 (pa_cons (za0 G_law_cell_at (hr.mono (by decide)) (by rfl) Z.M_law_cell_at Z.F_law_cell_at.kp Z.B_law_cell_at .nil zc0 (pa_cons (pv 2) (pa_cons zaq pa_nil))) (pa_cons (pv 1) (pa_cons (pv 0) (pa_cons zva pa_nil)))))))
   (zad (zaw (i:=3) zfe.nd rfl (Or.inl rfl) (za0 G_law_book (hr.mono (by decide)) (by rfl) Z.M_law_book Z.F_law_book.kp Z.B_law_book .nil zc0 (pa_cons (pv 2) pa_nil)))
   (zad (zaw (i:=4) zfe.nd rfl (Or.inr rfl) (za0 G_law_labels (hr.mono (by decide)) (by rfl) Z.M_law_labels Z.F_law_labels.kp Z.B_law_labels .nil zc0 (pa_cons (pv 3) pa_nil)))
   (zad (zaw (i:=5) zfe.nd rfl (Or.inr rfl) (zw5 rfl (LcOk.of (Nx:=(["_law_script", "_law_many", "_law_facts", "_law_book_here", "_law_labels_here", "_law_bad", "_law_found", "_law_chain", "_law_good_here"] : List Str)) (sc:=zac zgp) (N':=(["_law_fact_here", "_law_labels_here"] : List Str)) (nt:=1) (cs:=[4]) rfl rfl (by decide +kernel)) (zba (pv 3)) (fun _ _ _ _=>(zau (i:=0) (show List.Nodup (["_law_fact_here", "_law_labels_here"] : List Str) by decide +kernel) rfl (Or.inl rfl))) (fun _ _ _ _=>(zfy (PW.pt (zro (za1 zgr (zcq (show IxR _ (rIxT K) from zcn) (pv 0) zaq (fun _ _=>rfl)) zcz (zbw _)) (zl8 (za1 zgr (zb8 (zcv hr) (pv 1) (zcq (show IxR _ (rIxT K) from zcn) (pv 0) zaq (fun _ _=>rfl)) (fun _ _=>rfl)) (zb8 (zcv hr) (pv 1) (zcq (show IxR _ (rIxT K) from zcn) (pv 0) zaq (fun _ _=>rfl)) (fun _ _=>rfl)) (zbw _))))))) (fun _ _ _ _=>(pv 0))))
   (zad (yap (za0 G_law_asked (hr.mono (by decide)) (by rfl) Z.M_law_asked Z.F_law_asked.kp Z.B_law_asked .nil zc0 (pa_cons (zdv zgd (by rfl) Z.z_list boot_list (pa_cons (pv 3) pa_nil)) pa_nil)) (zie rfl (zbv (zau (i:=6) zfe.nd rfl (Or.inl rfl)) (zbv (zau (i:=7) zfe.nd rfl (Or.inl rfl)) zf4))))
   (zad (zdn (za1 (show OpR _ _ (rEqD K) from zql hr.units) (pv 5) (zdh pa_nil) (zbw _)) (zag (zbg (zwf (ze4 (show OpR _ _ rIsN from zzy) (pv 7) pe_non (zbw _)) (zqo (ze4 (show OpR _ _ (rEqD K) from zql hr.units) (pv 6) (za0 G_law_due (hr.mono (by decide)) (by rfl) Z.M_law_due Z.F_law_due.kp Z.B_law_due .nil zc0 (pa_cons (pv 4) pa_nil)) (zbw _)))))) zbk)
   (zad (zdn (PW.pt (zu5 (za1 (show OpR _ _ zw1 from zqx) (pv 6) pe_non (zbw _)) (zom (zlf (zgm (za0 G_law_good (hr.mono (by decide)) (by rfl) Z.M_law_good Z.F_law_good.kp Z.B_law_good .nil zc0 (pa_cons (pv 3) (pa_cons (za5 (show zcg _ _ (zdm K) from zc6 rfl) (by rfl) Z.z_sorted boot_sorted (pa_cons (pv 4) pa_nil)) (pa_cons (pv 7) (pa_cons (zcq (show IxR _ (rIxL K) from zec) (pv 5) zaq (fun _ _=>rfl)) pa_nil)))))))))) (zag (zbg zva)) zbk)
   (zad (zfg (i:=8) zfe.nd rfl (Or.inl rfl) rfl (LcOk.of (Nx:=(["_law_script", "_law_many", "_law_facts", "_law_book_here", "_law_labels_here", "_law_bad", "_law_found", "_law_chain", "_law_good_here"] : List Str)) (sc:=zac zgp) (N':=(["_law_fact_here", "_law_bad"] : List Str)) (nt:=1) (cs:=[5]) rfl rfl (by decide +kernel)) (zba (pv 3)) (fun _ _ _ _=>(zau (i:=0) (show List.Nodup (["_law_fact_here", "_law_bad"] : List Str) by decide +kernel) rfl (Or.inl rfl))) (fun _ _ _ _=>(zfy (za1 (show OpR _ _ (rInD K true) from zfh hr.units) (pv 0) (pv 1) (by with_unfolding_all rfl)))) (fun _ _ _ _=>(pv 0)))
   (zag (zbg (ze4 (show OpR _ _ (rEqD K) from zql hr.units) (za0 G_blocks_of (hr.mono (by decide)) (by rfl) Z.M_blocks_of Z.F_blocks_of.kp Z.B_blocks_of .nil yaa (pa_cons (pv 8) pa_nil)) (za0 G_law_due (hr.mono (by decide)) (by rfl) Z.M_law_due Z.F_law_due.kp Z.B_law_due .nil zc0 (pa_cons (za0 G_law_labels (hr.mono (by decide)) (by rfl) Z.M_law_labels Z.F_law_labels.kp Z.B_law_labels .nil zc0 (pa_cons (pv 8) pa_nil)) pa_nil)) (zbw _))))))))))))),?_⟩)
 obtain ⟨a,ns,rfl,sq,hl,hQ⟩:=h
 have r : Reps K H [.lst (ns.map .int)] [.ref a]:=Reps.cons (Rep.lst sq (zlr ns)) Reps.nil
 have rt : RtD K H H Q (.bl true):=fun v F H' e r=>by rw [r.of_bl]; exact hQ H'
 refine (?_ : Go K H H H _ (slots 9 [.lst (ns.map .int)]) _) H H _ (zcs (Same.refl H) r (by simp))
 have cell : ∀ k : Int,∃ i,zei [.lst (ns.map .int),.int k] = .int i:=fun k=>by
  show ∃ i,(ns.map D.int).getD k.toNat (.int 0) = .int i
  rw [List.getD_eq_getElem?_getD,List.getElem?_map]
  cases ns[k.toNat]? <;> exact ⟨_,rfl⟩
 obtain ⟨i0,ei0⟩:=cell 0
 obtain ⟨i1,ei1⟩:=cell 1
 refine zah (zcb (d:=.int (2 + i0 % 9)) (zfs zap.b (zfr (i:=i0) (Ev.b (by rw [<- ei0]; exact zcl (pre:=zmw) (res:=zei) (zab (zaa rfl) (zab zap zai)) ⟨ns,0,rfl,by lia⟩)) zap.b (by decide)).b) ?_)
 ((try dsimp only); refine zar ?_)
 generalize hm : 2 + i0 % 9 = m
 have hm0 : 2 <= m/\m <= 10:=by lia
 generalize hxs : (ns.drop 2).take 60 = xs
 have hxl : xs.length <= 60:=by rw [<- hxs]; simp; omega
 have exs : cutD (ns.map D.int) (some 2) (some 62) = xs.map D.int:=by
  rw [zt9 _ (by decide) (by decide),<- hxs,List.map_take,List.map_drop]; rfl
 have efs : (xs.map fun x=>encF (zdq i1 m x true)) = (xs.map fun x=>zdq i1 m x true).map encF:=by rw [List.map_map]; rfl
 refine zah (zcf (ds:=(xs.map fun x=>zdq i1 m x true).map encF) (by
  rw [<- efs]
  refine zmc xs D.int (fun x=>encF (zdq i1 m x true)) (by rw [<- exs]; exact (zyv (zaa rfl).l (znl zap.b) (znl zap.b)).l) (zej (by decide)) (by decide) (by rw [sizeLine_eq]; lia) fun x hx=>⟨_,zas,?_⟩
  exact zcl (pre:=zz6) (res:=zzm) (ds:=[.int i1,.int m,.int x,.bl true]) (zab (by rw [<- ei1]; exact zcl (pre:=zmw) (res:=zei) (zab (zaa rfl) (zab zap zai)) ⟨ns,1,rfl,by lia⟩) (zab (zaa rfl) (zab (zaa rfl) (zab ybe zai)))) ⟨i1,m,x,true,rfl,hm0.1,hm0.2⟩) fun pf=>zdp (i:=2) rfl ?_)
 ((try dsimp only); refine zar ?_)
 have hsh : ∀ f∈(xs.map fun x=>zdq i1 m x true),f.1.length <= 1000/\f.2.2.length <= 1000:=fun f hf=>by
  obtain ⟨x,_,rfl⟩:=List.mem_map.mp hf
  exact zmy i1 m x true
 have hten : Ten i1 (xs.map fun x=>zdq i1 m x true):=fun f hf=>by
  obtain ⟨x,_,rfl⟩:=List.mem_map.mp hf
  exact zrf i1 m x true hm0.1 hm0.2
 generalize hfs : (xs.map fun x=>zdq i1 m x true) = fs at hsh hten
 have hfl : fs.length <= 60:=by rw [<- hfs,List.length_map]; exact hxl
 refine zah (zyj (i:=3) (pre:=zzp) (R:=yae) (ds:=[bkD fs]) (zab (zaa rfl) zai) ⟨fs,rfl,by lia⟩ fun rs hR pb=>zdp (i:=3) rfl ?_)
 obtain ⟨b,rfl,hbm,hba,hbl⟩:=hR fs rfl
 ((try dsimp only); refine zar ?_)
 have hsb : zlm b:=fun f hf=>hsh f (hbm f hf)
 have tb : Ten i1 b:=fun f hf=>hten f (hbm f hf)
 have tg : Ten i1 (zea b):=fun f hf=>tb f (List.mem_filter.mp hf).1
 have nb64:=zm6 tb
 have ng64:=zm6 tg
 have kb64:=zol tb
 have kg64:=zol tg
 have hlk : ((labD b).map (·.1)).length < 64:=by unfold labD dA; rw [List.length_map,List.length_map]; lia
 have hsg : zlm (zea b):=fun f hf=>hsb f (List.mem_filter.mp hf).1
 have hgl : (zea b).length <= b.length:=List.length_filter_le _ _
 have hbadl : (badF b).length <= b.length:=List.length_filter_le _ _
 refine zah (zcb (d:=D.dic (labD b)) (by rw [<- zhp]; exact zcl (pre:=zpl) (res:=zs6) (ds:=[bkD b]) (zab (zaa rfl) zai) ⟨b,rfl,by lia⟩) ?_)
 ((try dsimp only); refine zar ?_)
 have hlv : ∀ c,c∈za9 b->valD (labD b) (encS c) = some (encS (lbF (tpF b zao) c)):=fun c hc=>by
  unfold labD
  exact zcc zam ((zdd b c).mpr (zbj.mp hc))
 have hal : zdo ((labD b).map (·.1)):=alS fun d hd=>by
  unfold labD dA at hd
  rw [List.map_map] at hd
  obtain ⟨x,_,rfl⟩:=List.mem_map.mp hd
  exact ⟨_,rfl⟩
 have c1 : ∀ f∈b,f.1∈za9 b:=fun f hf=>zbj.mpr ⟨f,hf,.inl rfl⟩
 have c2 : ∀ f∈b,f.2.1 = zcy->f.2.2∈za9 b:=fun f hf h=>zbj.mpr ⟨f,hf,.inr ⟨by rw [h]; exact zn2,rfl⟩⟩
 refine zah (zcf (ds:=(badF b).map encF) (zf3 b encF (zph b) encF (zaa rfl).l (zej (by decide)) (by decide) (by rw [sizeLine_eq]; lia) fun f hf=>⟨_,zas,zmi (zat (zez (l:=f.2.1) (m:=zcy) (Ev.b (zco (d:=encS f.2.1) (zaa rfl) zap.b rfl)) (zdb (by decide)).b)) fun hq=>zat (zez (l:=lbF (tpF b zao) f.1) (m:=lbF (tpF b zao) f.2.2) (zd1 (k:=encS f.1) (zaa rfl) (Ev.b (zco (d:=encS f.1) (zaa rfl) zap.b rfl)) rfl (hlv f.1 (c1 f hf))).b (zd1 (k:=encS f.2.2) (zaa rfl) (Ev.b (zco (d:=encS f.2.2) (zaa rfl) zap.b rfl)) rfl (hlv f.2.2 (c2 f hf (of_decide_eq_true hq)))).b),fun _=>zaa rfl⟩) fun pd=>zdp (i:=5) rfl ?_)
 ((try dsimp only); refine zar ?_)
 refine zah (zn1 (pre:=zsr) (R:=yax) (ds:=[bkD b]) (zab (EvO.ev (zu3 (zaa rfl).l)) zai) ⟨b,rfl,by lia,hsb,by lia⟩ fun r hR=>?_)
 obtain ⟨hgood,hbad⟩:=hR b rfl
 have bn : zen b = [] ↔ badF b = []:=by rw [zln,List.map_eq_nil_iff]
 have due : ∀ (c : List Fct) (tl : TE) {L0 : Hp} {ss : List Sl} {EX : XK},(keysF c).length < 64->Ev K H H L0 ss tl (D.dic (labD c))->Ev K H H L0 ss (zhg (SpD K zp2 zky) [] EX (zbh tl tNil)) (.lst ((zcm c).map encB)):=fun c tl {L0 ss EX} hcl2 ht=>by
  have e : zky [D.dic (labD c)] = .lst ((zcm c).map encB):=by rw [zif,zt5]
  rw [<- e]
  exact zcl (pre:=zp2) (res:=zky) (zab ht zai) ⟨keysF c,lbF (tpF c zao),rfl,zfv c,hcl2⟩
 by_cases hb0 : badF b = []
 ·obtain rfl:=hgood (bn.mpr hb0)
  refine ⟨_,zg6 rfl (zbi zas (zbi zas zfc)),?_⟩
  ((try dsimp only); refine zar ?_)
  rw [hb0]
  refine zah (zdj (b:=decide (D.lst ([] : List D) = .lst [])) (zat (znj (d1:=.lst []) (d2:=.lst []) (zaa rfl).b (EvO.ev (zdi zai (small (by decide)))).b rfl rfl (by show 1 <= 60; decide))) (fun _=>?_) (fun hb=>by rw [decide_eq_true rfl] at hb; cases hb))
  have e1:=zzd (K:=K) (G:=H) (H₀:=H) (L:=H) (ss:=[.d (.lst (ns.map .int)),.d (.int m),.d (bkD fs),.d (bkD b),.d (D.dic (labD b)),.d (.lst []),.d (.lst ((zcm b).map encB)),.d .non,.un]) (d:=.non) (zaa (i:=7) rfl).b
  have e2:=znj (K:=K) (G:=H) (H₀:=H) (L:=H) (ss:=[.d (.lst (ns.map .int)),.d (.int m),.d (bkD fs),.d (bkD b),.d (D.dic (labD b)),.d (.lst []),.d (.lst ((zcm b).map encB)),.d .non,.un]) (d1:=.lst ((zcm b).map encB)) (d2:=.lst ((zcm b).map encB)) (zaa (i:=6) rfl).b (Ev.b (due (EX:=E0) b (tVar 4) (by lia) (zaa (i:=4) rfl))) (zjk _) (zjk _) (zn4 _)
  rw [decide_eq_true rfl] at e1 e2
  exact zck (zwm e1 fun _=>e2) rt
 ·obtain ⟨l,ch,hh,rfl,hch⟩:=hbad fun z=>hb0 (bn.mp z)
  refine ⟨_,zg6 rfl (zbi zas (zbi zas zfc)),?_⟩
  ((try dsimp only); refine zar ?_)
  obtain ⟨f0,bs,eb⟩ : ∃ f0 bs,badF b = f0::bs:=by
   cases z : badF b with
   | nil=>exact absurd z hb0
   | cons f0 bs=>exact ⟨f0,bs,rfl⟩
  have hf0 : f0∈b:=(List.mem_filter.mp (show f0∈badF b by rw [eb]; exact List.mem_cons_self ..)).1
  have el : l = (f0.1,f0.2.2):=by
   rw [zln,eb] at hh
   simp at hh
   exact hh.symm
  subst el
  have nb1 : D.nb (D.lst ((badF b).map encF)) = true:=yag (badF b)
  have dp1 : (D.lst ((badF b).map encF)).dep <= 60:=by have:=zwz (badF b); unfold bkD at this; lia
  refine zah (zdj (b:=decide (D.lst ((badF b).map encF) = .lst [])) (zat (znj (d1:=.lst ((badF b).map encF)) (d2:=.lst []) (zaa rfl).b (EvO.ev (zdi zai (small (by decide)))).b nb1 rfl dp1)) (fun hb=>?_) (fun _=>zbl ?_))
  ·have z:=of_decide_eq_true hb
   rw [eb] at z
   injection z with z
   cases z
  ((try dsimp only); refine zar ?_)
  have hsE : (za9 b).map encS = zd0 ((labD b).map (·.1)):=by
   rw [<- zzn]
   unfold srtL
   refine zs3 fun d hd=>?_
   have hd:=(zav _).mem_iff.mp hd
   unfold labD dA at hd
   rw [List.map_map] at hd
   obtain ⟨x,_,rfl⟩:=List.mem_map.mp hd
   exact ⟨_,rfl⟩
  have hcs : ∀ c∈f0.1::zgn (tpF b zao),c∈za9 b:=fun c hc=>by
   rcases List.mem_cons.mp hc with rfl | hc
   ·exact c1 f0 hf0
   ·exact zps b c hc
  have hat : atI ((badF b).map encF) 0 = some (encF f0):=ze6 (j:=0) (by rw [eb]; rfl)
  refine zah (zdj (b:=(false || !true)) (zlq (by
   have e1:=zqz (K:=K) (G:=H) (H₀:=H) (L:=H) (ss:=[.d (.lst (ns.map .int)),.d (.int m),.d (bkD fs),.d (bkD b),.d (D.dic (labD b)),.d (.lst ((badF b).map encF)),.d .non,.d (.lst (ch.map encS)),.un]) (d:=.non) (zaa (i:=6) rfl).b
   rw [decide_eq_true rfl] at e1
   exact zat e1) fun _=>zhq (zh7 (zcl (pre:=zzk) (res:=fun _=>.bl true) (ds:=[bkD b,.lst ((za9 b).map encS),.lst (ch.map encS),encF f0]) (zab (zaa rfl) (zab (EvO.ev (by rw [hsE]; exact zfi (zaa rfl) hal hlk)) (zab (zaa rfl) (zab (zgh (zaa rfl).l zap.b hat) zai)))) ⟨b,za9 b,ch,f0,rfl,hch,hcs,by have:=zim b; lia⟩))) (fun hb=>by simp at hb) (fun _=>zbl ?_))
  ((try dsimp only); refine zar ?_)
  refine zah (zcf (ds:=(zea b).map encF) (zf3 b encF (fun f=>!decide (encF f∈(badF b).map encF)) encF (zaa rfl).l (zej (by decide)) (by decide) (by rw [sizeLine_eq]; lia) fun f hf=>⟨_,zas,zat (zfn (d:=encF f) (zaa rfl).b (zaa rfl).b (nbF f) (D.nbs_map nbF (badF b)) (by have:=dpF f; lia)),fun _=>zaa rfl⟩) fun pg=>zdp (i:=8) rfl ?_)
  ((try dsimp only); refine zar ?_)
  have eL : Ev K H H H [.d (.lst (ns.map .int)),.d (.int m),.d (bkD fs),.d (bkD b),.d (D.dic (labD b)),.d (.lst ((badF b).map encF)),.d .non,.d (.lst (ch.map encS)),.d (bkD (zea b))] (zhg (SpD K zpl zs6) [] E0 (zbh (tVar 8) tNil)) (D.dic (labD (zea b))):=by
   rw [<- zhp (zea b)]
   exact zcl (E:=E0) (pre:=zpl) (res:=zs6) (ds:=[bkD (zea b)]) (zab (zaa (i:=8) rfl) zai) ⟨zea b,rfl,by lia⟩
  have e3:=znj (K:=K) (G:=H) (H₀:=H) (L:=H) (ss:=[.d (.lst (ns.map .int)),.d (.int m),.d (bkD fs),.d (bkD b),.d (D.dic (labD b)),.d (.lst ((badF b).map encF)),.d .non,.d (.lst (ch.map encS)),.d (bkD (zea b))]) (d1:=.lst ((zcm (zea b)).map encB)) (d2:=.lst ((zcm (zea b)).map encB)) (Ev.b (by
   rw [<- zhw (zea b)]
   exact zqf (E:=E0) (C:=ad0.c_Odds) (f:="chain") (pre:=zsr) (bad:=zuf) (errR:=zw7) (zab (zaa (i:=8) rfl) zai) ⟨zea b,rfl,by lia,hsg,by lia⟩ fun z=>(zeb _).mp z (zsd b))) (Ev.b (due (EX:=E0) (zea b) _ (by lia) eL)) (zjk _) (zjk _) (zn4 _)
  rw [decide_eq_true rfl] at e3
  exact zck e3 rt
end
theorem zff {α : Type} {P : List α->Prop} {us : List α} (hl : us.length = 1) (h : ∀ a0,P [a0]) : P us:=match us,hl with
 | [a0],_=>h a0
theorem zir {α : Type} {P : List α->Prop} {us : List α} (hl : us.length = 2) (h : ∀ a0 a1,P [a0,a1]) : P us:=match us,hl with
 | [a0,a1],_=>h a0 a1
theorem zwu {α : Type} {P : List α->Prop} {us : List α} (hl : us.length = 3) (h : ∀ a0 a1 a2,P [a0,a1,a2]) : P us:=match us,hl with
 | [a0,a1,a2],_=>h a0 a1 a2
theorem zq1 {α : Type} {P : List α->Prop} {us : List α} (hl : us.length = 4) (h : ∀ a0 a1 a2 a3,P [a0,a1,a2,a3]) : P us:=match us,hl with
 | [a0,a1,a2,a3],_=>h a0 a1 a2 a3
theorem zgo (kV doc pm : Value) (an : Option Addr) (cdv ct : Value) (us : List Value) (hl : us.length = (["book"] : List Str).length) : bindArgs (PySem.W.fnOf "neighbours_of" "neighbours_of" (zan zax) (zak zax) (zac zax) .none kV doc pm an cdv ct) ⟨us,[]⟩ = pure ((["book"] : List Str).zip us) :=
 zff (P:=fun us=>bindArgs _ ⟨us,[]⟩ = pure (List.zip _ us)) hl fun _=>rfl
theorem zjo (kV doc pm : Value) (an : Option Addr) (cdv ct : Value) (us : List Value) (hl : us.length = (["book", "one"] : List Str).length) : bindArgs (PySem.W.fnOf "steps_from" "steps_from" (zan zbd) (zak zbd) (zac zbd) .none kV doc pm an cdv ct) ⟨us,[]⟩ = pure ((["book", "one"] : List Str).zip us) :=
 zir (P:=fun us=>bindArgs _ ⟨us,[]⟩ = pure (List.zip _ us)) hl fun _ _=>rfl
theorem zl6 (kV doc pm : Value) (an : Option Addr) (cdv ct : Value) (us : List Value) (hl : us.length = (["book", "one", "other"] : List Str).length) : bindArgs (PySem.W.fnOf "chain_of" "chain_of" (zan zb7) (zak zb7) (zac zb7) .none kV doc pm an cdv ct) ⟨us,[]⟩ = pure ((["book", "one", "other"] : List Str).zip us) :=
 zwu (P:=fun us=>bindArgs _ ⟨us,[]⟩ = pure (List.zip _ us)) hl fun _ _ _=>rfl
theorem zpz (kV doc pm : Value) (an : Option Addr) (cdv ct : Value) (us : List Value) (hl : us.length = (["things", "links"] : List Str).length) : bindArgs (PySem.W.fnOf "joined" "joined" (zan zc3) (zak zc3) (zac zc3) .none kV doc pm an cdv ct) ⟨us,[]⟩ = pure ((["things", "links"] : List Str).zip us) :=
 zir (P:=fun us=>bindArgs _ ⟨us,[]⟩ = pure (List.zip _ us)) hl fun _ _=>rfl
theorem zk7 (kV doc pm : Value) (an : Option Addr) (cdv ct : Value) (us : List Value) (hl : us.length = (["self", "chain"] : List Str).length) : bindArgs (PySem.W.fnOf "__init__" "Odds.__init__" (zan zbr) (zak zbr) (zac zbr) .none kV doc pm an cdv ct) ⟨us,[]⟩ = pure ((["self", "chain"] : List Str).zip us) :=
 zir (P:=fun us=>bindArgs _ ⟨us,[]⟩ = pure (List.zip _ us)) hl fun _ _=>rfl
theorem zmt (kV doc pm : Value) (an : Option Addr) (cdv ct : Value) (us : List Value) (hl : us.length = (["book"] : List Str).length) : bindArgs (PySem.W.fnOf "cards_of" "cards_of" (zan zbm) (zak zbm) (zac zbm) .none kV doc pm an cdv ct) ⟨us,[]⟩ = pure ((["book"] : List Str).zip us) :=
 zff (P:=fun us=>bindArgs _ ⟨us,[]⟩ = pure (List.zip _ us)) hl fun _=>rfl
theorem zjg (kV doc pm : Value) (an : Option Addr) (cdv ct : Value) (us : List Value) (hl : us.length = (["book", "field"] : List Str).length) : bindArgs (PySem.W.fnOf "told_pairs" "told_pairs" (zan za6) (zak za6) (zac za6) .none kV doc pm an cdv ct) ⟨us,[]⟩ = pure ((["book", "field"] : List Str).zip us) :=
 zir (P:=fun us=>bindArgs _ ⟨us,[]⟩ = pure (List.zip _ us)) hl fun _ _=>rfl
theorem zk4 (kV doc pm : Value) (an : Option Addr) (cdv ct : Value) (us : List Value) (hl : us.length = (["blocks"] : List Str).length) : bindArgs (PySem.W.fnOf "places_in" "places_in" (zan zbo) (zak zbo) (zac zbo) .none kV doc pm an cdv ct) ⟨us,[]⟩ = pure ((["blocks"] : List Str).zip us) :=
 zff (P:=fun us=>bindArgs _ ⟨us,[]⟩ = pure (List.zip _ us)) hl fun _=>rfl
theorem zkm (kV doc pm : Value) (an : Option Addr) (cdv ct : Value) (us : List Value) (hl : us.length = (["book"] : List Str).length) : bindArgs (PySem.W.fnOf "blocks_of" "blocks_of" (zan zbp) (zak zbp) (zac zbp) .none kV doc pm an cdv ct) ⟨us,[]⟩ = pure ((["book"] : List Str).zip us) :=
 zff (P:=fun us=>bindArgs _ ⟨us,[]⟩ = pure (List.zip _ us)) hl fun _=>rfl
theorem zh8 (kV doc pm : Value) (an : Option Addr) (cdv ct : Value) (us : List Value) (hl : us.length = (["_law_script", "_law_k"] : List Str).length) : bindArgs (PySem.W.fnOf "_law_cell_at" "_law_cell_at" (zan za3) (zak za3) (zac za3) .none kV doc pm an cdv ct) ⟨us,[]⟩ = pure ((["_law_script", "_law_k"] : List Str).zip us) :=
 zir (P:=fun us=>bindArgs _ ⟨us,[]⟩ = pure (List.zip _ us)) hl fun _ _=>rfl
theorem zm0 (kV doc pm : Value) (an : Option Addr) (cdv ct : Value) (us : List Value) (hl : us.length = (["_law_cell", "_law_k"] : List Str).length) : bindArgs (PySem.W.fnOf "_law_card" "_law_card" (zan zb5) (zak zb5) (zac zb5) .none kV doc pm an cdv ct) ⟨us,[]⟩ = pure ((["_law_cell", "_law_k"] : List Str).zip us) :=
 zir (P:=fun us=>bindArgs _ ⟨us,[]⟩ = pure (List.zip _ us)) hl fun _ _=>rfl
theorem zm4 (kV doc pm : Value) (an : Option Addr) (cdv ct : Value) (us : List Value) (hl : us.length = (["_law_shape", "_law_many", "_law_cell", "_law_aparts"] : List Str).length) : bindArgs (PySem.W.fnOf "_law_fact" "_law_fact" (zan zb4) (zak zb4) (zac zb4) .none kV doc pm an cdv ct) ⟨us,[]⟩ = pure ((["_law_shape", "_law_many", "_law_cell", "_law_aparts"] : List Str).zip us) :=
 zq1 (P:=fun us=>bindArgs _ ⟨us,[]⟩ = pure (List.zip _ us)) hl fun _ _ _ _=>rfl
theorem zme (kV doc pm : Value) (an : Option Addr) (cdv ct : Value) (us : List Value) (hl : us.length = (["_law_facts"] : List Str).length) : bindArgs (PySem.W.fnOf "_law_book" "_law_book" (zan zb2) (zak zb2) (zac zb2) .none kV doc pm an cdv ct) ⟨us,[]⟩ = pure ((["_law_facts"] : List Str).zip us) :=
 zff (P:=fun us=>bindArgs _ ⟨us,[]⟩ = pure (List.zip _ us)) hl fun _=>rfl
theorem zj4 (kV doc pm : Value) (an : Option Addr) (cdv ct : Value) (us : List Value) (hl : us.length = (["_law_book_here"] : List Str).length) : bindArgs (PySem.W.fnOf "_law_labels" "_law_labels" (zan zbe) (zak zbe) (zac zbe) .none kV doc pm an cdv ct) ⟨us,[]⟩ = pure ((["_law_book_here"] : List Str).zip us) :=
 zff (P:=fun us=>bindArgs _ ⟨us,[]⟩ = pure (List.zip _ us)) hl fun _=>rfl
theorem zpw (kV doc pm : Value) (an : Option Addr) (cdv ct : Value) (us : List Value) (hl : us.length = (["_law_labels_here"] : List Str).length) : bindArgs (PySem.W.fnOf "_law_due" "_law_due" (zan zca) (zak zca) (zac zca) .none kV doc pm an cdv ct) ⟨us,[]⟩ = pure ((["_law_labels_here"] : List Str).zip us) :=
 zff (P:=fun us=>bindArgs _ ⟨us,[]⟩ = pure (List.zip _ us)) hl fun _=>rfl
theorem zh6 (kV doc pm : Value) (an : Option Addr) (cdv ct : Value) (us : List Value) (hl : us.length = (["_law_book_here", "_law_one", "_law_other"] : List Str).length) : bindArgs (PySem.W.fnOf "_law_is_told" "_law_is_told" (zan za2) (zak za2) (zac za2) .none kV doc pm an cdv ct) ⟨us,[]⟩ = pure ((["_law_book_here", "_law_one", "_law_other"] : List Str).zip us) :=
 zwu (P:=fun us=>bindArgs _ ⟨us,[]⟩ = pure (List.zip _ us)) hl fun _ _ _=>rfl
theorem zjb (kV doc pm : Value) (an : Option Addr) (cdv ct : Value) (us : List Value) (hl : us.length = (["_law_book_here", "_law_cards", "_law_one", "_law_other"] : List Str).length) : bindArgs (PySem.W.fnOf "_law_rounds" "_law_rounds" (zan za7) (zak za7) (zac za7) .none kV doc pm an cdv ct) ⟨us,[]⟩ = pure ((["_law_book_here", "_law_cards", "_law_one", "_law_other"] : List Str).zip us) :=
 zq1 (P:=fun us=>bindArgs _ ⟨us,[]⟩ = pure (List.zip _ us)) hl fun _ _ _ _=>rfl
theorem zls (kV doc pm : Value) (an : Option Addr) (cdv ct : Value) (us : List Value) (hl : us.length = (["_law_book_here"] : List Str).length) : bindArgs (PySem.W.fnOf "_law_asked" "_law_asked" (zan zbn) (zak zbn) (zac zbn) .none kV doc pm an cdv ct) ⟨us,[]⟩ = pure ((["_law_book_here"] : List Str).zip us) :=
 zff (P:=fun us=>bindArgs _ ⟨us,[]⟩ = pure (List.zip _ us)) hl fun _=>rfl
theorem zma (kV doc pm : Value) (an : Option Addr) (cdv ct : Value) (us : List Value) (hl : us.length = (["_law_book_here", "_law_cards", "_law_chain", "_law_fact_here"] : List Str).length) : bindArgs (PySem.W.fnOf "_law_good" "_law_good" (zan zb3) (zak zb3) (zac zb3) .none kV doc pm an cdv ct) ⟨us,[]⟩ = pure ((["_law_book_here", "_law_cards", "_law_chain", "_law_fact_here"] : List Str).zip us) :=
 zq1 (P:=fun us=>bindArgs _ ⟨us,[]⟩ = pure (List.zip _ us)) hl fun _ _ _ _=>rfl
theorem yan (kV doc pm : Value) (an : Option Addr) (cdv ct : Value) (us : List Value) (hl : us.length = (["_law_script"] : List Str).length) : bindArgs (PySem.W.fnOf "law" "law" (zan zgp) (zak zgp) (zac zgp) .none kV doc pm an cdv ct) ⟨us,[]⟩ = pure ((["_law_script"] : List Str).zip us) :=
 zff (P:=fun us=>bindArgs _ ⟨us,[]⟩ = pure (List.zip _ us)) hl fun _=>rfl
theorem all_mk {l : PySem.W.OpenLaw} {w : World} {K : PySem.W.Frag} {h : Heap} {mg : Str->Option Value} {fa g0 g1 g2 g3 g4 g5 g6 g7 g8 g9 g10 g11 g12 g13 g14 g15 g16 g17 g18 g19 : Addr} (X : K.In h) (G : h.Ns mainGlobals mg) (hfa : mg "law" = some (.ref fa))
  {od0 an0 od1 an1 od2 an2 od3 an3 od4 an4 od5 an5 od6 an6 od7 an7 od8 an8 od9 an9 od10 an10 od11 an11 od12 an12 od13 an13 od14 an14 od15 an15 od16 an16 od17 an17 od18 an18 od19 an19 : Option Addr} {sl0 sl1 sl2 sl3 sl4 sl5 sl6 sl7 sl8 sl9 sl10 sl11 sl12 sl13 sl14 sl15 sl16 sl17 sl18 sl19 : Array (Option Value)} {oc0 kV0 dc0 pm0 cd0 ct0 oc1 kV1 dc1 pm1 cd1 ct1 oc2 kV2 dc2 pm2 cd2 ct2 oc3 kV3 dc3 pm3 cd3 ct3 oc4 kV4 dc4 pm4 cd4 ct4 oc5 kV5 dc5 pm5 cd5 ct5 oc6 kV6 dc6 pm6 cd6 ct6 oc7 kV7 dc7 pm7 cd7 ct7 oc8 kV8 dc8 pm8 cd8 ct8 oc9 kV9 dc9 pm9 cd9 ct9 oc10 kV10 dc10 pm10 cd10 ct10 oc11 kV11 dc11 pm11 cd11 ct11 oc12 kV12 dc12 pm12 cd12 ct12 oc13 kV13 dc13 pm13 cd13 ct13 oc14 kV14 dc14 pm14 cd14 ct14 oc15 kV15 dc15 pm15 cd15 ct15 oc16 kV16 dc16 pm16 cd16 ct16 oc17 kV17 dc17 pm17 cd17 ct17 oc18 kV18 dc18 pm18 cd18 ct18 oc19 kV19 dc19 pm19 cd19 ct19 : Value}
  {q_FolkError : Addr} {q_NoName : Addr} {q_NoPair : Addr} {q_NoRow : Addr} {q_NoText : Addr} {q_Odds : Addr} {q_TooMany : Addr} {q_PAIR_FIELDS : Addr} {od_PAIR_FIELDS : Option Addr} {nn_PAIR_FIELDS : Nat} {sl_PAIR_FIELDS : Array (Option Value)} {t0_PAIR_FIELDS t1_PAIR_FIELDS : Tok}
  (a0 : PySem.W.nsIn K mainGlobals "neighbours_of" = some (some (.ref g0))) (l0 : K.lookup g0 = some ⟨oc0,od0,.func (PySem.W.fnOf "neighbours_of" "neighbours_of" (zan zax) (zak zax) (zac zax) .none kV0 dc0 pm0 an0 cd0 ct0),sl0⟩) (c0 : PySem.W.codeIn K cd0 "neighbours_of" = true) (k0 : PySem.W.keepIn K (.ref g0) = true)
  (a1 : PySem.W.nsIn K mainGlobals "steps_from" = some (some (.ref g1))) (l1 : K.lookup g1 = some ⟨oc1,od1,.func (PySem.W.fnOf "steps_from" "steps_from" (zan zbd) (zak zbd) (zac zbd) .none kV1 dc1 pm1 an1 cd1 ct1),sl1⟩) (c1 : PySem.W.codeIn K cd1 "steps_from" = true) (k1 : PySem.W.keepIn K (.ref g1) = true)
  (a2 : PySem.W.nsIn K mainGlobals "chain_of" = some (some (.ref g2))) (l2 : K.lookup g2 = some ⟨oc2,od2,.func (PySem.W.fnOf "chain_of" "chain_of" (zan zb7) (zak zb7) (zac zb7) .none kV2 dc2 pm2 an2 cd2 ct2),sl2⟩) (c2 : PySem.W.codeIn K cd2 "chain_of" = true) (k2 : PySem.W.keepIn K (.ref g2) = true)
  (a3 : PySem.W.nsIn K mainGlobals "joined" = some (some (.ref g3))) (l3 : K.lookup g3 = some ⟨oc3,od3,.func (PySem.W.fnOf "joined" "joined" (zan zc3) (zak zc3) (zac zc3) .none kV3 dc3 pm3 an3 cd3 ct3),sl3⟩) (c3 : PySem.W.codeIn K cd3 "joined" = true) (k3 : PySem.W.keepIn K (.ref g3) = true)
  (l4 : K.lookup g4 = some ⟨oc4,od4,.func (PySem.W.fnOf "__init__" "Odds.__init__" (zan zbr) (zak zbr) (zac zbr) .none kV4 dc4 pm4 an4 cd4 ct4),sl4⟩) (c4 : PySem.W.codeIn K cd4 "Odds.__init__" = true) (k4 : PySem.W.keepIn K (.ref g4) = true) (mf4 : PySem.W.isFn K (.ref g4) = true)
  (a5 : PySem.W.nsIn K mainGlobals "cards_of" = some (some (.ref g5))) (l5 : K.lookup g5 = some ⟨oc5,od5,.func (PySem.W.fnOf "cards_of" "cards_of" (zan zbm) (zak zbm) (zac zbm) .none kV5 dc5 pm5 an5 cd5 ct5),sl5⟩) (c5 : PySem.W.codeIn K cd5 "cards_of" = true) (k5 : PySem.W.keepIn K (.ref g5) = true)
  (a6 : PySem.W.nsIn K mainGlobals "told_pairs" = some (some (.ref g6))) (l6 : K.lookup g6 = some ⟨oc6,od6,.func (PySem.W.fnOf "told_pairs" "told_pairs" (zan za6) (zak za6) (zac za6) .none kV6 dc6 pm6 an6 cd6 ct6),sl6⟩) (c6 : PySem.W.codeIn K cd6 "told_pairs" = true) (k6 : PySem.W.keepIn K (.ref g6) = true)
  (a7 : PySem.W.nsIn K mainGlobals "places_in" = some (some (.ref g7))) (l7 : K.lookup g7 = some ⟨oc7,od7,.func (PySem.W.fnOf "places_in" "places_in" (zan zbo) (zak zbo) (zac zbo) .none kV7 dc7 pm7 an7 cd7 ct7),sl7⟩) (c7 : PySem.W.codeIn K cd7 "places_in" = true) (k7 : PySem.W.keepIn K (.ref g7) = true)
  (a8 : PySem.W.nsIn K mainGlobals "blocks_of" = some (some (.ref g8))) (l8 : K.lookup g8 = some ⟨oc8,od8,.func (PySem.W.fnOf "blocks_of" "blocks_of" (zan zbp) (zak zbp) (zac zbp) .none kV8 dc8 pm8 an8 cd8 ct8),sl8⟩) (c8 : PySem.W.codeIn K cd8 "blocks_of" = true) (k8 : PySem.W.keepIn K (.ref g8) = true)
  (a9 : PySem.W.nsIn K mainGlobals "_law_cell_at" = some (some (.ref g9))) (l9 : K.lookup g9 = some ⟨oc9,od9,.func (PySem.W.fnOf "_law_cell_at" "_law_cell_at" (zan za3) (zak za3) (zac za3) .none kV9 dc9 pm9 an9 cd9 ct9),sl9⟩) (c9 : PySem.W.codeIn K cd9 "_law_cell_at" = true) (k9 : PySem.W.keepIn K (.ref g9) = true)
  (a10 : PySem.W.nsIn K mainGlobals "_law_card" = some (some (.ref g10))) (l10 : K.lookup g10 = some ⟨oc10,od10,.func (PySem.W.fnOf "_law_card" "_law_card" (zan zb5) (zak zb5) (zac zb5) .none kV10 dc10 pm10 an10 cd10 ct10),sl10⟩) (c10 : PySem.W.codeIn K cd10 "_law_card" = true) (k10 : PySem.W.keepIn K (.ref g10) = true)
  (a11 : PySem.W.nsIn K mainGlobals "_law_fact" = some (some (.ref g11))) (l11 : K.lookup g11 = some ⟨oc11,od11,.func (PySem.W.fnOf "_law_fact" "_law_fact" (zan zb4) (zak zb4) (zac zb4) .none kV11 dc11 pm11 an11 cd11 ct11),sl11⟩) (c11 : PySem.W.codeIn K cd11 "_law_fact" = true) (k11 : PySem.W.keepIn K (.ref g11) = true)
  (a12 : PySem.W.nsIn K mainGlobals "_law_book" = some (some (.ref g12))) (l12 : K.lookup g12 = some ⟨oc12,od12,.func (PySem.W.fnOf "_law_book" "_law_book" (zan zb2) (zak zb2) (zac zb2) .none kV12 dc12 pm12 an12 cd12 ct12),sl12⟩) (c12 : PySem.W.codeIn K cd12 "_law_book" = true) (k12 : PySem.W.keepIn K (.ref g12) = true)
  (a13 : PySem.W.nsIn K mainGlobals "_law_labels" = some (some (.ref g13))) (l13 : K.lookup g13 = some ⟨oc13,od13,.func (PySem.W.fnOf "_law_labels" "_law_labels" (zan zbe) (zak zbe) (zac zbe) .none kV13 dc13 pm13 an13 cd13 ct13),sl13⟩) (c13 : PySem.W.codeIn K cd13 "_law_labels" = true) (k13 : PySem.W.keepIn K (.ref g13) = true)
  (a14 : PySem.W.nsIn K mainGlobals "_law_due" = some (some (.ref g14))) (l14 : K.lookup g14 = some ⟨oc14,od14,.func (PySem.W.fnOf "_law_due" "_law_due" (zan zca) (zak zca) (zac zca) .none kV14 dc14 pm14 an14 cd14 ct14),sl14⟩) (c14 : PySem.W.codeIn K cd14 "_law_due" = true) (k14 : PySem.W.keepIn K (.ref g14) = true)
  (a15 : PySem.W.nsIn K mainGlobals "_law_is_told" = some (some (.ref g15))) (l15 : K.lookup g15 = some ⟨oc15,od15,.func (PySem.W.fnOf "_law_is_told" "_law_is_told" (zan za2) (zak za2) (zac za2) .none kV15 dc15 pm15 an15 cd15 ct15),sl15⟩) (c15 : PySem.W.codeIn K cd15 "_law_is_told" = true) (k15 : PySem.W.keepIn K (.ref g15) = true)
  (a16 : PySem.W.nsIn K mainGlobals "_law_rounds" = some (some (.ref g16))) (l16 : K.lookup g16 = some ⟨oc16,od16,.func (PySem.W.fnOf "_law_rounds" "_law_rounds" (zan za7) (zak za7) (zac za7) .none kV16 dc16 pm16 an16 cd16 ct16),sl16⟩) (c16 : PySem.W.codeIn K cd16 "_law_rounds" = true) (k16 : PySem.W.keepIn K (.ref g16) = true)
  (a17 : PySem.W.nsIn K mainGlobals "_law_asked" = some (some (.ref g17))) (l17 : K.lookup g17 = some ⟨oc17,od17,.func (PySem.W.fnOf "_law_asked" "_law_asked" (zan zbn) (zak zbn) (zac zbn) .none kV17 dc17 pm17 an17 cd17 ct17),sl17⟩) (c17 : PySem.W.codeIn K cd17 "_law_asked" = true) (k17 : PySem.W.keepIn K (.ref g17) = true)
  (a18 : PySem.W.nsIn K mainGlobals "_law_good" = some (some (.ref g18))) (l18 : K.lookup g18 = some ⟨oc18,od18,.func (PySem.W.fnOf "_law_good" "_law_good" (zan zb3) (zak zb3) (zac zb3) .none kV18 dc18 pm18 an18 cd18 ct18),sl18⟩) (c18 : PySem.W.codeIn K cd18 "_law_good" = true) (k18 : PySem.W.keepIn K (.ref g18) = true)
  (a19 : PySem.W.nsIn K mainGlobals "law" = some (some (.ref g19))) (l19 : K.lookup g19 = some ⟨oc19,od19,.func (PySem.W.fnOf "law" "law" (zan zgp) (zak zgp) (zac zgp) .none kV19 dc19 pm19 an19 cd19 ct19),sl19⟩) (c19 : PySem.W.codeIn K cd19 "law" = true) (k19 : PySem.W.keepIn K (.ref g19) = true)
  (a_FolkError : PySem.W.nsIn K mainGlobals "FolkError" = some (some (.ref q_FolkError)))
  (a_NoName : PySem.W.nsIn K mainGlobals "NoName" = some (some (.ref q_NoName)))
  (a_NoPair : PySem.W.nsIn K mainGlobals "NoPair" = some (some (.ref q_NoPair)))
  (a_NoRow : PySem.W.nsIn K mainGlobals "NoRow" = some (some (.ref q_NoRow)))
  (a_NoText : PySem.W.nsIn K mainGlobals "NoText" = some (some (.ref q_NoText)))
  (a_Odds : PySem.W.nsIn K mainGlobals "Odds" = some (some (.ref q_Odds)))
  (a_TooMany : PySem.W.nsIn K mainGlobals "TooMany" = some (some (.ref q_TooMany)))
  (me_Odds_init : PySem.W.findIn K (.ref q_Odds) "__init__" = some (some (.ref g4))) (xi_Odds : L2.excInI K q_Odds L2.vmro "ValueError.__new__" g4 = true) (mc_Odds : PySem.W.keepIn K (.ref q_Odds) = true)
  (xs0_Odds : PySem.W.findIn K (.ref q_Odds) "__setattr__" = some (some (.builtin "object.__setattr__")))
  (xs1_Odds : PySem.W.findIn K (.ref q_Odds) "chain" = some none)
  (xs2_Odds : PySem.W.mroIn K q_Odds (.type "object") = some true)
  (xs3_Odds : PySem.W.hasDictIn K q_Odds = true)
  (xi4_Odds : ((PySem.W.clsIn K q_Odds).any fun cd=>L2.vtail cd.mro) = true)
  (cb0_FolkError : PySem.W.specialIn K (.ref q_FolkError) "__getattribute__" = some (some (.builtin "type.__getattribute__"))) (cb1_FolkError : PySem.W.readsIn K q_FolkError (.type "type") = true) (cb2_FolkError : PySem.W.findCls K (.ref q_FolkError) (.type "type") "__init__" = some (.val (.builtin "ValueError.__init__")))
  (t0_Odds : PySem.W.findIn K (.ref q_Odds) "__getattribute__" = some (some (.builtin "BaseException.__getattribute__")))
  (t1_Odds : PySem.W.findIn K (.ref q_Odds) "__getattr__" = some none)
  (t2_Odds : PySem.W.mroIn K q_Odds (.type "BaseException") = some true)
  (t3_Odds : PySem.W.findIn K (.ref q_Odds) "__class__" = some (some (.builtin "object.__class__")))
  (t4_Odds : PySem.W.specialIn K (.builtin "object.__class__") "__get__" = some (some (.builtin "getset_descriptor.__get__")))
  (t5_Odds : PySem.W.takesIn K (.builtin "object.__class__") = some true)
  (t6_Odds : PySem.W.mroIn K q_Odds (.type "object") = some true)
  (t7_Odds : PySem.W.hasDictIn K q_Odds = true)
  (h_Odds_FolkError : PySem.W.exmOne K (.ref q_Odds) (.ref q_FolkError) = some true)
  (i_Odds_ValueError : PySem.W.kitOne K (.ref q_Odds) (.type "ValueError") = some true)
  (i_Odds_Odds : PySem.W.kitOne K (.ref q_Odds) (.ref q_Odds) = some true)
  (ia_Odds : PySem.W.kitAny K (.ref q_Odds) [.ref q_NoPair,.ref q_TooMany,.ref q_NoRow,.ref q_NoText,.ref q_NoName] = some false)
  (na_Odds_chain : PySem.W.findIn K (.ref q_Odds) "chain" = some none)
  (a_PAIR_FIELDS : PySem.W.nsIn K mainGlobals "PAIR_FIELDS" = some (some (.ref q_PAIR_FIELDS))) (l_PAIR_FIELDS : K.lookup q_PAIR_FIELDS = some ⟨.type "tuple", od_PAIR_FIELDS,.seq #[.str (T [115,97,109,101]) t0_PAIR_FIELDS,.str (T [97,112,97,114,116]) t1_PAIR_FIELDS] nn_PAIR_FIELDS,sl_PAIR_FIELDS⟩)
  (y_ValueError : PySem.W.nsIn K mainGlobals "ValueError" = some none)
  (y_any : PySem.W.nsIn K mainGlobals "any" = some none)
  (y_enumerate : PySem.W.nsIn K mainGlobals "enumerate" = some none)
  (y_int : PySem.W.nsIn K mainGlobals "int" = some none)
  (y_isinstance : PySem.W.nsIn K mainGlobals "isinstance" = some none)
  (y_len : PySem.W.nsIn K mainGlobals "len" = some none)
  (y_list : PySem.W.nsIn K mainGlobals "list" = some none)
  (y_max : PySem.W.nsIn K mainGlobals "max" = some none)
  (y_min : PySem.W.nsIn K mainGlobals "min" = some none)
  (y_range : PySem.W.nsIn K mainGlobals "range" = some none)
  (y_reversed : PySem.W.nsIn K mainGlobals "reversed" = some none)
  (y_set : PySem.W.nsIn K mainGlobals "set" = some none)
  (y_sorted : PySem.W.nsIn K mainGlobals "sorted" = some none)
  (y_str : PySem.W.nsIn K mainGlobals "str" = some none) :
  ∃ fd : FuncData,(∀ (s : Shared) (v : Value),BindsTo s fd ⟨[v],[]⟩ [("_law_script", v)]) /\ ∀ base : Heap,K.In base->base.Ns mainGlobals mg->FnOk l.prog w K mg base CX0 21 fa fd ["_law_script"] (zus K):=by
 have e:=hfa.symm.trans (PySem.W.mg_of X G a19)
 cases e
 have F0:=zch (st:=zax) l0 c0 k0
 have b0:=F0.binds (ps:=["book"]) zgo
 have F1:=zch (st:=zbd) l1 c1 k1
 have b1:=F1.binds (ps:=["book", "one"]) zjo
 have F2:=zch (st:=zb7) l2 c2 k2
 have b2:=F2.binds (ps:=["book", "one", "other"]) zl6
 have F3:=zch (st:=zc3) l3 c3 k3
 have b3:=F3.binds (ps:=["things", "links"]) zpz
 have F4:=zch (st:=zbr) l4 c4 k4
 have b4:=F4.binds (ps:=["self", "chain"]) zk7
 have F5:=zch (st:=zbm) l5 c5 k5
 have b5:=F5.binds (ps:=["book"]) zmt
 have F6:=zch (st:=za6) l6 c6 k6
 have b6:=F6.binds (ps:=["book", "field"]) zjg
 have F7:=zch (st:=zbo) l7 c7 k7
 have b7:=F7.binds (ps:=["blocks"]) zk4
 have F8:=zch (st:=zbp) l8 c8 k8
 have b8:=F8.binds (ps:=["book"]) zkm
 have F9:=zch (st:=za3) l9 c9 k9
 have b9:=F9.binds (ps:=["_law_script", "_law_k"]) zh8
 have F10:=zch (st:=zb5) l10 c10 k10
 have b10:=F10.binds (ps:=["_law_cell", "_law_k"]) zm0
 have F11:=zch (st:=zb4) l11 c11 k11
 have b11:=F11.binds (ps:=["_law_shape", "_law_many", "_law_cell", "_law_aparts"]) zm4
 have F12:=zch (st:=zb2) l12 c12 k12
 have b12:=F12.binds (ps:=["_law_facts"]) zme
 have F13:=zch (st:=zbe) l13 c13 k13
 have b13:=F13.binds (ps:=["_law_book_here"]) zj4
 have F14:=zch (st:=zca) l14 c14 k14
 have b14:=F14.binds (ps:=["_law_labels_here"]) zpw
 have F15:=zch (st:=za2) l15 c15 k15
 have b15:=F15.binds (ps:=["_law_book_here", "_law_one", "_law_other"]) zh6
 have F16:=zch (st:=za7) l16 c16 k16
 have b16:=F16.binds (ps:=["_law_book_here", "_law_cards", "_law_one", "_law_other"]) zjb
 have F17:=zch (st:=zbn) l17 c17 k17
 have b17:=F17.binds (ps:=["_law_book_here"]) zls
 have F18:=zch (st:=zb3) l18 c18 k18
 have b18:=F18.binds (ps:=["_law_book_here", "_law_cards", "_law_chain", "_law_fact_here"]) zma
 have F19:=zch (st:=zgp) l19 c19 k19
 have b19:=F19.binds (ps:=["_law_script"]) yan
 exact ⟨_,fun s v=>.of_eq rfl,fun base _ _=>zza (ad0:=⟨q_FolkError,q_NoName,q_NoPair,q_NoRow,q_NoText,q_Odds,q_TooMany,q_PAIR_FIELDS,g0,g1,g2,g3,g4,g5,g6,g7,g8,g9,g10,g11,g12,g13,g14,g15,g16,g17,g18,_,_,_,_,_,_,_,_,_,_,_,_,_,_,_,_,_,_,_,_,_⟩) ⟨PySem.W.mg_of X G a_FolkError,PySem.W.mg_of X G a_NoName,PySem.W.mg_of X G a_NoPair,PySem.W.mg_of X G a_NoRow,PySem.W.mg_of X G a_NoText,PySem.W.mg_of X G a_Odds,PySem.W.mg_of X G a_TooMany,⟨xi_Odds,mf4,mc_Odds⟩,⟨xs0_Odds,xs1_Odds,xs2_Odds,xs3_Odds,xi4_Odds⟩,⟨cb0_FolkError,cb1_FolkError,cb2_FolkError⟩,⟨t0_Odds,t1_Odds,t2_Odds,t3_Odds,t4_Odds,t5_Odds,t6_Odds,t7_Odds⟩,h_Odds_FolkError,i_Odds_ValueError,i_Odds_Odds,ia_Odds,na_Odds_chain,PySem.W.mg_of X G a_PAIR_FIELDS,zyn l_PAIR_FIELDS rfl rfl rfl (by decide) (by decide) (fun i l u h1 h2=>by rcases i with _ | _ | i <;> simp at h1 h2 <;> (subst h1; subst h2; exact ⟨_,rfl⟩)),F0,b0,PySem.W.mg_of X G a0,F1,b1,PySem.W.mg_of X G a1,F2,b2,PySem.W.mg_of X G a2,F3,b3,PySem.W.mg_of X G a3,F4,b4,F5,b5,PySem.W.mg_of X G a5,F6,b6,PySem.W.mg_of X G a6,F7,b7,PySem.W.mg_of X G a7,F8,b8,PySem.W.mg_of X G a8,F9,b9,PySem.W.mg_of X G a9,F10,b10,PySem.W.mg_of X G a10,F11,b11,PySem.W.mg_of X G a11,F12,b12,PySem.W.mg_of X G a12,F13,b13,PySem.W.mg_of X G a13,F14,b14,PySem.W.mg_of X G a14,F15,b15,PySem.W.mg_of X G a15,F16,b16,PySem.W.mg_of X G a16,F17,b17,PySem.W.mg_of X G a17,F18,b18,PySem.W.mg_of X G a18,F19,b19,PySem.W.mg_of X G a19,PySem.W.mg_none_of X G y_ValueError,PySem.W.mg_none_of X G y_any,PySem.W.mg_none_of X G y_enumerate,PySem.W.mg_none_of X G y_int,PySem.W.mg_none_of X G y_isinstance,PySem.W.mg_none_of X G y_len,PySem.W.mg_none_of X G y_list,PySem.W.mg_none_of X G y_max,PySem.W.mg_none_of X G y_min,PySem.W.mg_none_of X G y_range,PySem.W.mg_none_of X G y_reversed,PySem.W.mg_none_of X G y_set,PySem.W.mg_none_of X G y_sorted,PySem.W.mg_none_of X G y_str⟩⟩
theorem walk {l : PySem.W.OpenLaw} {q : Program} {loose : List Str} {XP : (Str->Option Value)->Heap->Prop} {YP : World->Heap->Prop} {d : DefRec} {K : Params->PySem.W.Frag} (hn : l.most = some 63) (hdf : d.params.defaults = [])
  (hY : ∀ (w : World) (h : Heap),YP w h->(K w.params).In h)
  (F : ∀ (w : World) (mg : Str->Option Value) (fa : Addr) (h : Heap),(K w.params).In h->h.Ns mainGlobals mg->mg d.name = some (.ref fa) ->
   ∃ fd : FuncData,(∀ (s : Shared) (u : Value),BindsTo s fd ⟨[u],[]⟩ [("_law_script", u)]) /\ ∀ base : Heap,(K w.params).In base->base.Ns mainGlobals mg->FnOk l.prog w (K w.params) mg base CX0 21 fa fd ["_law_script"] (zus (K w.params))) :
  PySem.W.WalkO q loose XP YP l.row.toRowW d [] (fun f vs=>PySem.call f vs) :=
 L2.walk_of (n:=63) (k:=21) (x:="_law_script") (CX:=fun _=>CX0) (sp:=fun w=>zus (K w.params)) hn (by decide) hdf ⟨rfl,by decide,by decide,rfl⟩ hY F (fun _ _ a ns hl _ hS=>⟨a,ns,rfl,hS,hl,fun _=>rfl⟩) fun _ _ _ _ _ z=>z
end My
noncomputable def PySem.W.Fast.tw15546023581613599046 : Unit:=()
open PySem PySem.W PyProof.Rows
set_option maxRecDepth 100000 in
set_option maxHeartbeats 0 in
theorem PySem.Challenge.cw_folk_k27_books_at_odds_holds : PySem.Challenge.rw_folk_k27_books_at_odds.Holds := by
 w_on; o_law; k_head; (case hw=>w_witness2)
 k_fill
 refine My.walk (l:=PySem.Challenge.rw_folk_k27_books_at_odds) rfl rfl (fun w h Y=>PySem.W.kIn_of Y) ?F
 case F =>
  intro w mg fa h KX G hmg
  refine' My.all_mk KX G hmg ?a0 ?l0 ?c0 ?k0 ?a1 ?l1 ?c1 ?k1 ?a2 ?l2 ?c2 ?k2 ?a3 ?l3 ?c3 ?k3 ?l4 ?c4 ?k4 ?mf4 ?a5 ?l5 ?c5 ?k5 ?a6 ?l6 ?c6 ?k6 ?a7 ?l7 ?c7 ?k7 ?a8 ?l8 ?c8 ?k8 ?a9 ?l9 ?c9 ?k9 ?a10 ?l10 ?c10 ?k10 ?a11 ?l11 ?c11 ?k11 ?a12 ?l12 ?c12 ?k12 ?a13 ?l13 ?c13 ?k13 ?a14 ?l14 ?c14 ?k14 ?a15 ?l15 ?c15 ?k15 ?a16 ?l16 ?c16 ?k16 ?a17 ?l17 ?c17 ?k17 ?a18 ?l18 ?c18 ?k18 ?a19 ?l19 ?c19 ?k19 ?a_FolkError ?a_NoName ?a_NoPair ?a_NoRow ?a_NoText ?a_Odds ?a_TooMany ?me_Odds_init ?xi_Odds ?mc_Odds ?xs0_Odds ?xs1_Odds ?xs2_Odds ?xs3_Odds ?xi4_Odds ?cb0_FolkError ?cb1_FolkError ?cb2_FolkError ?t0_Odds ?t1_Odds ?t2_Odds ?t3_Odds ?t4_Odds ?t5_Odds ?t6_Odds ?t7_Odds ?h_Odds_FolkError ?i_Odds_ValueError ?i_Odds_Odds ?ia_Odds ?na_Odds_chain ?a_PAIR_FIELDS ?l_PAIR_FIELDS ?y_ValueError ?y_any ?y_enumerate ?y_int ?y_isinstance ?y_len ?y_list ?y_max ?y_min ?y_range ?y_reversed ?y_set ?y_sorted ?y_str
  (case a_FolkError=>k_is)
  (case a_NoName=>k_is)
  (case a_NoPair=>k_is)
  (case a_NoRow=>k_is)
  (case a_NoText=>k_is)
  (case a_Odds=>k_is)
  (case a_TooMany=>k_is)
  (case me_Odds_init=>k_is)
  (case a_PAIR_FIELDS=>k_is)
  (case a0=>k_is)
  (case l0=>k_is)
  (case c0=>k_is)
  (case k0=>k_is)
  (case a1=>k_is)
  (case l1=>k_is)
  (case c1=>k_is)
  (case k1=>k_is)
  (case a2=>k_is)
  (case l2=>k_is)
  (case c2=>k_is)
  (case k2=>k_is)
  (case a3=>k_is)
  (case l3=>k_is)
  (case c3=>k_is)
  (case k3=>k_is)
  (case l4=>k_is)
  (case c4=>k_is)
  (case k4=>k_is)
  (case mf4=>k_is)
  (case a5=>k_is)
  (case l5=>k_is)
  (case c5=>k_is)
  (case k5=>k_is)
  (case a6=>k_is)
  (case l6=>k_is)
  (case c6=>k_is)
  (case k6=>k_is)
  (case a7=>k_is)
  (case l7=>k_is)
  (case c7=>k_is)
  (case k7=>k_is)
  (case a8=>k_is)
  (case l8=>k_is)
  (case c8=>k_is)
  (case k8=>k_is)
  (case a9=>k_is)
  (case l9=>k_is)
  (case c9=>k_is)
  (case k9=>k_is)
  (case a10=>k_is)
  (case l10=>k_is)
  (case c10=>k_is)
  (case k10=>k_is)
  (case a11=>k_is)
  (case l11=>k_is)
  (case c11=>k_is)
  (case k11=>k_is)
  (case a12=>k_is)
  (case l12=>k_is)
  (case c12=>k_is)
  (case k12=>k_is)
  (case a13=>k_is)
  (case l13=>k_is)
  (case c13=>k_is)
  (case k13=>k_is)
  (case a14=>k_is)
  (case l14=>k_is)
  (case c14=>k_is)
  (case k14=>k_is)
  (case a15=>k_is)
  (case l15=>k_is)
  (case c15=>k_is)
  (case k15=>k_is)
  (case a16=>k_is)
  (case l16=>k_is)
  (case c16=>k_is)
  (case k16=>k_is)
  (case a17=>k_is)
  (case l17=>k_is)
  (case c17=>k_is)
  (case k17=>k_is)
  (case a18=>k_is)
  (case l18=>k_is)
  (case c18=>k_is)
  (case k18=>k_is)
  (case a19=>k_is)
  (case l19=>k_is)
  (case c19=>k_is)
  (case k19=>k_is)
  (case xi_Odds=>kernel_rfl)
  (case mc_Odds=>k_is)
  (case xs0_Odds=>k_is)
  (case xs1_Odds=>k_is)
  (case xs2_Odds=>k_is)
  (case xs3_Odds=>k_is)
  (case xi4_Odds=>kernel_rfl)
  (case cb0_FolkError=>k_is)
  (case cb1_FolkError=>k_is)
  (case cb2_FolkError=>k_is)
  (case t0_Odds=>k_is)
  (case t1_Odds=>k_is)
  (case t2_Odds=>k_is)
  (case t3_Odds=>k_is)
  (case t4_Odds=>k_is)
  (case t5_Odds=>k_is)
  (case t6_Odds=>k_is)
  (case t7_Odds=>k_is)
  (case h_Odds_FolkError=>kts_exm)
  (case i_Odds_ValueError=>kit_is)
  (case i_Odds_Odds=>kit_is)
  (case ia_Odds=>kit_is)
  (case na_Odds_chain=>k_is)
  (case l_PAIR_FIELDS=>k_is)
  (case y_ValueError=>k_is)
  (case y_any=>k_is)
  (case y_enumerate=>k_is)
  (case y_int=>k_is)
  (case y_isinstance=>k_is)
  (case y_len=>k_is)
  (case y_list=>k_is)
  (case y_max=>k_is)
  (case y_min=>k_is)
  (case y_range=>k_is)
  (case y_reversed=>k_is)
  (case y_set=>k_is)
  (case y_sorted=>k_is)
  (case y_str=>k_is)
