import PyProof.Rows.All
import Wide.All
import OpenK.AllK
import Wide.FinOn
import Lean
import PyProof.EqAt
import PyProof.EqKinds
import PyProof.TupleCall
import KE.KSortTup
import KE.KSortKey
import KE.KMinKey
import PySem.SetTable
import KE.KDictList
import PyProof.Rows.SeqMore
import PyProof.StrLawsIn
import PyProof.MeetsStr3
import PyProof.Rows.StrSplitMax
import KE.KDictLaws
import PyProof.Rows.SumAny
import PyProof.Rows.CallKwBuiltin
import PyProof.ZipIter
import PyProof.Rows.ZipGen
import PyProof.Rows.StrWeight2
import KE.KDictSum
import KE.KTryMore
import PyProof.Rows.TopTwo
import PyProof.ExcBaseAll.ValueError
import KE.RegKIsAll
import KE.RegKTryMore
import PyProof.ExcAttrAll.ValueError
import PyProof.Rows.StrDouble
import OpenK.KCls
import PyProof.ExcInit
import PyProof.Rows.FStr
import PyProof.Rows.FStrParts
import PyProof.InstStoreFacts
import OpenK.KMake
import PyProof.Logic
import PyProof.Rows.StrJoinMade
import PyProof.ReprRoads
import PyProof.ReprLen
import PyProof.StrLawsRepr
import KE.KLam
import PyProof.Rows.SetFrom
import KE.KItemsList
import KE.KPairComp
import PySem.Challenge.RW_folk_k44_the_case_of_a_book
set_option maxRecDepth 100000
set_option hygiene false
set_option compiler.extract_closed false
local macro_rules
|`(.(Ae))=>`(List Nat)
|`(.(Ax))=>`(Mx rfl)
|`(.(Ac))=>`(List D)
|`(.(Aj))=>`(List Ae)
|`(.(Cy))=>`(λ_ _=>rfl)
|`(.(AC))=>`(List Str)
|`(.(Ag))=>`(List Fct)
|`(.(BW))=>`(zcf (by decide +kernel))
|`(.(BN))=>`(.ref s.heap.objs.size)
|`(.(Am))=>`(List Ka)
|`(.(Af))=>`(Aq Ke)
|`(.(Ai))=>`(List V)
|`(.(Al))=>`(zao ?_)
|`(.(Ao))=>`((Ax).b)
|`(.(A4))=>`(Option Ka)
|`(.(Ap))=>`(.ref p)
|`(.(A5))=>`(List Aj)
|`(.(Av))=>`(.ref a)
|`(.(A9))=>`(Array Nat)
|`(.(AK))=>`(List α)
|`(.(EC))=>`(RB (by simpa using hi))
|`(.(DA))=>`(Ext.refl S.ext.fh)
|`(.(C8))=>`(wY (by decide))
|`(.(Bp))=>`(List Addr)
|`(.(A6))=>`(.inl rfl)
|`(.(Cf))=>`(e1.trans e2)
|`(.(BR))=>`(if_pos rfl)
|`(.(AG))=>`(.ref C)
|`(.(DW))=>`(λh=>(by cases h))
|`(.(CB))=>`(Option Addr)
|`(.(E5))=>`(λ_ _ _ _ _ _ _ _=>rfl)
|`(.(EE))=>`(("__debug__" : Str))
|`(.(BT))=>`(Array Ka)
|`(.(Az))=>`(Vn _)
|`(.(DX))=>`(zb6 (by decide))
|`(.(BF))=>`(List Key)
|`(.(CC))=>`(Option Int)
|`(.(AA))=>`(f.2.2)
|`(.(Cg))=>`(S.ext2 e1)
|`(.(Ep))=>`(λG ds hp rt=>?_)
local macro_rules
|`(.(Ak))=>`(Fu s)
|`(.(BO))=>`(cardsL b)
|`(.(Bs))=>`(List SK)
|`(.(AW))=>`(Array (Int×Ka))
|`(.(Ca))=>`(.int i)
|`(.(A7))=>`(Fi Obj)
|`(.(Cb))=>`(List Int)
|`(.(E6))=>`(small (by decide))
|`(.(BK))=>`(bkD b)
|`(.(ER))=>`(small (by simp))
|`(.(ES))=>`(.seq (#[key,val]))
|`(.(D1))=>`(λ_ _=>False)
|`(.(FT))=>`(λ_ _ _ _ _ _=>Rep.bl)
|`(.(AV))=>`(RC b)
|`(.(BB))=>`(.ref x)
|`(.(GV))=>`(λa ha=>(by rw[K5.mp ha];exact⟨S.ext.hh.free hp,S.ext.fh.free hp,_,Ku,trivial⟩))
|`(.(Ch))=>`(List Rl)
|`(.(A2))=>`(Aq Hp)
|`(.(EU))=>`(.type "tuple")
|`(.(Ee))=>`(ls.map .str)
|`(.(C2))=>`(.bl true)
|`(.(Da))=>`(List Lnk)
|`(.(D3))=>`(I.ok.hd hc)
|`(.(Db))=>`(b.take k)
|`(.(FW))=>`(λG ds q hp rt=>?_)
|`(.(B0))=>`(pre ds)
|`(.(Eg))=>`(λb hb=>?_)
|`(.(B7))=>`(Kf ?_)
|`(.(Gf))=>`(s.heap.UpToSlots h')
|`(.(Eh))=>`(λN hN=>?_)
|`(.(CT))=>`(Zlu rfl)
|`(.(Cd))=>`(.ref l)
|`(.(GE))=>`(λ_ _ _ _ _ _ _ _ _=>rfl)
|`(.(FH))=>`(.seq vs.toArray)
|`(.(Bv))=>`(Ld e)
|`(.(Gg))=>`(decide_eq_true rfl)
|`(.(C3))=>`(.d BK)
|`(.(Gh))=>`(.type "set")
|`(.(EW))=>`(bs.map encB)
|`(.(Gv))=>`(λ_ _ _ _ _ _ _=>rfl)
local macro_rules
|`(.(C4))=>`(λ_=>?_)
|`(.(Cn))=>`(.ref e)
|`(.(Gi))=>`(I1.hok.fresh Az)
|`(.(Cs))=>`(.ref b)
|`(.(FI))=>`(λv s1 hz9=>?_)
|`(.(EI))=>`(as.map KJ)
|`(.(Gx))=>`(λb o e n hb hx=>?_)
|`(.(CD))=>`((Ax).l)
|`(.(Do))=>`(List Sl)
|`(.(BL))=>`(f.2.1)
|`(.(BM))=>`(wZ _)
|`(.(DR))=>`(encS f.1)
|`(.(GM))=>`((show False from r).elim)
|`(.(EX))=>`(ps.map hdL)
|`(.(Ex))=>`(Aa X.calm)
|`(.(F7))=>`(Kv (by omega))
|`(.(Dt))=>`(λh=>?_)
|`(.(D6))=>`(λhb=>?_)
|`(.(CU))=>`(K7 hj)
|`(.(GF))=>`(of_decide_eq_true h2)
|`(.(DF))=>`(Fx Ax)
|`(.(GW))=>`(λb u e z=>(by have:=(hf b z).1;rw[e] at this;cases this))
|`(.(Gn))=>`(λe=>(by cases e))
|`(.(DG))=>`(.tup ds)
|`(.(B3))=>`(q.2.2)
|`(.(DH))=>`(I.tok _)
|`(.(EL))=>`(I.list hq)
|`(.(GS))=>`(λ_ _ _ _ q hq=>(by simp[Sl.ads] at hq))
|`(.(GG))=>`(hr.mono (by decide))
|`(.(Fb))=>`(a.map encS)
|`(.(Fc))=>`(b.map encF)
|`(.(CZ))=>`(zdj hr)
|`(.(Fd))=>`(q.map encS)
|`(.(Ek))=>`(Option V)
|`(.(B8))=>`(q.2.1)
|`(.(GT))=>`(.builtin "getset_descriptor.__get__")
|`(.(GQ))=>`(Vo (by rw[S.len];exact hi))
|`(.(B9))=>`(Aq VK)
|`(.(El))=>`(Aa k.isK)
|`(.(FL))=>`(.type "list")
local macro_rules
|`(.(DM))=>`(λp=>?_)
|`(.(C6))=>`(encS x)
|`(.(FN))=>`(insR ad0.Lb)
|`(.(FO))=>`(env.scope.kind == .function)
|`(.(DN))=>`(A.handled=none)
|`(.(FE))=>`(fs.map encF)
|`(.(FF))=>`(ns.map .int)
|`(.(Dd))=>`((t.put sl).1)
|`(.(E2))=>`(if_neg hc)
|`(.(Gp))=>`(λu s1 hz9=>?_)
|`(.(De))=>`(AY rfl)
|`(.(GR))=>`(vs.toArray.zip vs.toArray)
|`(.(Ff))=>`(if_pos hc)
|`(.(GH))=>`(decide_eq_false h)
|`(.(Dx))=>`((t.put sl).2)
|`(.(Ga))=>`(env.kindOf n)
|`(.(Gb))=>`(ns.map V.int)
|`(.(EQ))=>`(.many kk)
|`(.(Cv))=>`({ nx:=(λ_ H'=>(GJ H')),rt:=Q })
|`(.(FQ))=>`(GU N.length)
local macro_rules
|`(.(Ab $a $b))=>`($a =(some $b))
|`(.(Fs $a $b))=>`({ cls:=(.type $a), data:=$b })
|`(.(Cw $a $b))=>`($a = (some $b))
|`(.(Cp $a $b))=>`(Ab (s.heap.get? $a) $b)
|`(.(Fh $a $b $c $d))=>`(Inv $a pins $b $c $d)
|`(.(CM $a $b))=>`(List ($a ×$b))
|`(.(Aq $a))=>`($a ->Prop)
|`(.(Aa $a))=>`($a =true)
|`(.(B5 $a))=>`(Pz prog $a)
|`(.(E3 $a $b))=>`(Ng (pv $a) $b)
|`(.(CN $a $b $c))=>`(λcdv A outer s H Q E hr=>⟨$a,$b,$c⟩)
|`(.(AM $a $b $c))=>`(Cw ($a)[$b]? $c)
|`(.(An $a $b))=>`(decide ($a =$b))
|`(.(Dy $a $b $c))=>`(xA $a (xA $b $c))
|`(.(AY $a))=>`(⟨$a,rfl⟩)
|`(.(AJ $a $b))=>`(Ab (h'.get? $a) $b)
|`(.(BQ $a))=>`(s.heap.objs.size+$a)
|`(.(GI $a $b $c $d))=>`(jZ (i:=$a) (show $b by decide +kernel) $c $d)
|`(.(Ar $a $b))=>`(⟨_,$a,$b⟩)
|`(.(AE $a $b))=>`(Ab (h.get? $a) $b)
|`(.(AD $a))=>`($a <=sizeLine)
|`(.(Bm $a $b $c))=>`(FnScope $a $b (KZ $c))
|`(.(Gc $a))=>`(Pz X.prog $a)
|`(.(AN $a $b $c))=>`(Reps K $a $b $c)
|`(.(CO $a))=>`(Ng $a Oj)
|`(.(Bz $a $b $c $d))=>`(zap $a (by rfl) $b $c $d)
|`(.(Cz $a))=>`(eval $a X.env)
|`(.(Ah $a $b))=>`(AM $a i $b)
|`(.(EB $a))=>`((if $a then x else y).cps.toList)
|`(.(BE $a))=>`(.d (.lst $a))
|`(.(Dz $a $b $c $d))=>`(Zmt $a $b s.heap.objs.size $c $d)
|`(.(A3 $a))=>`(.d (.int $a))
|`(.(CA $a))=>`(Vp $a X.env)
|`(.(GA $a $b))=>`(∀(cdv:Ka) (A:Ks) (outer:(List $a)) (s:Ke) (H:Hp) (Q:VK) (E:XK),$b)
|`(.(AF $a $b))=>`(decide ($a <$b))
|`(.(AR $a $b $c $d))=>`(if ($a =$b) then $c else $d)
|`(.(Ce $a $b))=>`(Fh X σ $a $b)
|`(.(AB $a $b))=>`(($a).length<=$b)
|`(.(Ft $a $b $c))=>`(Zr $a (pv $b) $c Cy)
|`(.(E4 $a $b))=>`(Ab (X.env.scope.names.lookup $a) $b)
local macro_rules
|`(.(Fi $a))=>`(CM Addr $a)
|`(.(BJ $a))=>`(plAt bs $a)
|`(.(GB $a))=>`({ cls:=o.cls,dict:=(some $a),data:=o.data,slots:=o.slots })
|`(.(BS $a))=>`((Mg.mp $a).1)
|`(.(Fj $a))=>`(S.get $a (by intro z;cases z))
|`(.(BA $a))=>`(Le (kI $a))
|`(.(ED $a))=>`(Q $a { s with heap:=h' })
|`(.(BD $a))=>`(Kc (Kf $a))
|`(.(CG $a))=>`(ds.getD $a .non)
|`(.(Bq $a))=>`(E3 $a Oj)
|`(.(BX $a $b $c))=>`(upd $a $b (.lst $c))
|`(.(As $a $b $c))=>`(Rep K $a $b $c)
|`(.(Bg $a $b))=>`(decide ($a ∈$b))
|`(.(AZ $a))=>`(tpF $a Nh)
|`(.(CP $a $b))=>`(s.heap.push (Fs $a $b))
|`(.(FR $a))=>`(Ce $a { s with heap:=h',toks:=t' })
|`(.(Bu $a))=>`(ss.set i $a)
|`(.(Br $a))=>`(⟨$a,[]⟩)
|`(.(By $a $b))=>`(⟨$a,rfl,$b⟩)
|`(.(Gd $a $b $c))=>`({ cls:=(.type $a), dict:=none,data:=$b,slots:=$c })
|`(.(Fu $a))=>`(Ce H $a)
|`(.(AL $a))=>`($a =false)
|`(.(C0 $a $b))=>`(SK.hash prog $a $b)
|`(.(Aw $a $b))=>`(Ab (H $a) $b)
|`(.(EF $a))=>`(($a : Str).cps.toList)
|`(.(Eo $a $b $c $d $e $f))=>`(a $a $b $c $d $e (λvs F1 H1 e1 r1=>$f))
|`(.(Bh $a $b $c))=>`(⟨$a,$b,rfl,$c⟩)
|`(.(CV $a $b))=>`(posM t.mask $a $b)
|`(.(DB $a $b))=>`(RD $a $b (by simp))
|`(.(Er $a))=>`($a <s.heap.objs.size)
|`(.(GC $a $b))=>`(lpM mask $a $b)
|`(.(BU $a $b $c $d $e))=>`(SetE prog $a $b $c $d $e)
|`(.(BV $a))=>`(Ol $a tNil)
|`(.(DY $a))=>`(slots N.length $a)
|`(.(Ec $a $b $c $d $e $f))=>`(a $a $b $c $d $e (λv F1 H1 e1 r1=>$f))
|`(.(Gr $a $b $c))=>`(okG $a $b (by rintro q ds ⟨rfl,_⟩;rfl) $c)
|`(.(Gs $a $b))=>`(λcdv A outer s H vs Q E hr h=>(Ar $a $b))
|`(.(FS $a $b))=>`(Ft $a $b Lg)
|`(.(Bt $a $b $c))=>`(FS (show (IxR $a (rIxT $b)) from zay) $c)
|`(.(Dr $a $b $c))=>`(Kp (NP (d:=$a) $b $c))
local macro_rules
|`(.(Ds $a $b $c))=>`(if (Aa $a) then $b else $c)
|`(.(DZ $a $b $c))=>`(Om $a (.builtin $b) $c)
|`(.(Bb $a))=>`(⟨_,$a⟩)
|`(.(B6 $a))=>`(($a).map encS)
|`(.(Ay $a $b))=>`(Ev K G Hz L ss $a $b)
|`(.(BG $a))=>`(⟨$a,?_⟩)
|`(.(FG $a $b $c $d $e))=>`(Zt (w:=$a) $b $c (λH x y Q r1 r2 q=>$d) $e)
|`(.(E7 $a))=>`(s.heap.objs.size<=$a)
|`(.(Be $a $b))=>`(AL ($a == $b))
|`(.(Cc $a $b))=>`(Ay $a (.bl $b))
|`(.(Gu $a $b $c))=>`(zau $a $b $c (by with_unfolding_all rfl))
|`(.(BP $a))=>`(Zu $a rfl)
|`(.(Bf $a))=>`(CM Str $a)
|`(.(Fv $a $b))=>`(absurd (show $a from hs) $b)
|`(.(Bi $a))=>`(RelV $a u)
|`(.(CH $a $b $c $d))=>`(zau $a $b $c (Zv $d))
|`(.(AS $a))=>`(kJ _ $a)
|`(.(Dg $a))=>`(Kc (Kc $a))
|`(.(Au $a $b))=>`(PE X $a $b)
|`(.(ET $a $b $c $d $e))=>`(Kw (Gc X.w) $a $b $c $d $e)
|`(.(BY $a))=>`(Vals $a us)
|`(.(BZ $a))=>`(keyW bs $a)
|`(.(GD $a $b $c))=>`(F.ok $a $b (λcdv A outer s H vs Q E hr h=>$c))
|`(.(EG $a $b))=>`(Dy Ax $a $b)
|`(.(C9 $a))=>`(.d (encS $a))
|`(.(Fw $a $b))=>`(Ab (sc.names.lookup $a) $b)
|`(.(C1 $a $b))=>`(.inr ⟨$a,$b⟩)
|`(.(CI $a))=>`(p.getD $a 0)
|`(.(E8 $a))=>`(λxs H Q=>(∃p ys,$a))
|`(.(Fx $a))=>`(xA $a K4)
|`(.(FU $a $b))=>`(Ab (X.env.cells.lookup $a) $b)
|`(.(Ed $a $b $c))=>`((hs.2 $a $b).trans $c)
|`(.(D2 $a $b $c))=>`(Nu $a $b (λ_ _ z=>$c))
|`(.(CQ $a))=>`(Fs "tuple" $a)
|`(.(Ci $a))=>`(Aa (d.hk $a))
|`(.(AX $a $b))=>`(upd H $a $b)
|`(.(A0 $a))=>`(kO _ $a)
|`(.(CS $a $b))=>`(Ng $a (CO $b))
|`(.(Dh $a $b))=>`(show (IxR $a (rIxL $b)) from zbg)
|`(.(Di $a $b))=>`(Aw $a (.tup $b))
local macro_rules
|`(.(Fy $a $b $c))=>`(.Call $a $b [] $c)
|`(.(Ef $a $b $c))=>`(W8 (d:=$a) $b Ky.b $c)
|`(.(Ge $a))=>`(Q $a { s with heap:=h1 })
|`(.(BC $a $b $c))=>`(pcX $a hr $b $c)
|`(.(CW $a))=>`(⟨rfl,$a⟩)
|`(.(Fz $a $b))=>`(HT.sIx xs.length $a $b)
|`(.(Cj $a $b $c))=>`(Ab (($a).get? $b) $c)
|`(.(Dc $a))=>`(.str (T $a))
|`(.(E9 $a))=>`(.lst (xs.map $a))
|`(.(GJ $a))=>`(Q .non $a)
|`(.(D4 $a))=>`((false,(Cz $a)))
|`(.(Et $a))=>`(k.hash prog $a)
|`(.(Cq $a $b))=>`(Ly $a $b Lg)
|`(.(AT $a $b $c $d $e))=>`(Kw _ $a $b $c $d $e)
|`(.(DJ $a))=>`(ds.length=$a)
|`(.(Ck $a $b))=>`(⟨$a,$b,?_⟩)
|`(.(EV $a))=>`(σ.getD $a none)
|`(.(Dj $a))=>`(Qm (pv $a))
|`(.(Dk $a))=>`($a <sizeLine)
|`(.(Dl $a))=>`(((BJ $a):Int))
|`(.(BH $a $b $c $d))=>`(⟨$a,$b,rfl,$c,$d⟩)
|`(.(FA $a $b))=>`(.Attribute $a $b apos)
|`(.(FY $a))=>`((bs.take $a).flatten)
|`(.(Bj $a $b $c $d))=>`(⟨$a,$b,$c,rfl,$d⟩)
|`(.(A8 $a $b $c))=>`(SqL K $a $b $c)
|`(.(EH $a))=>`(λi j=>(.int $a))
|`(.(Bc $a $b))=>`(AN $a ds $b)
|`(.(Bl $a))=>`(Ah ss $a)
|`(.(Cr $a $b))=>`((t.slot $a)= $b)
|`(.(Eu $a $b $c))=>`(k $a (by simp) $b $c)
|`(.(Ew $a))=>`((($a :Nat):Int))
|`(.(AH $a))=>`(Kw (B5 w) A $a Q E s)
|`(.(Fk $a))=>`(below t.place $a)
|`(.(AI $a))=>`(Cp $a o)
|`(.(Dm $a $b))=>`(⟨$a,$b,rfl⟩)
|`(.(A1 $a $b))=>`(EvB K G Hz L ss $a $b)
|`(.(B1 $a $b $c))=>`(ET X.A $a $b X.xe $c)
|`(.(Gw $a $b $c $d))=>`(zbm $a rfl $b $c $d)
|`(.(DC $a))=>`(Mz prog $a)
|`(.(FJ $a $b))=>`(Room $a (A.deeper $b))
local macro_rules
|`(.(Gj $a $b))=>`(xB $a $b za6)
|`(.(GL $a))=>`({ cls:=Gh, dict:=none,data:=$a })
|`(.(CY $a $b $c $d))=>`(⟨$a,$b,$c,$d,os⟩)
|`(.(AO $a))=>`(($a :AC))
|`(.(D5 $a $b))=>`(Ah $a (some $b))
|`(.(C5 $a $b))=>`(E3 $a (CO $b))
|`(.(FK $a))=>`($a ≠X.env.locals)
|`(.(Co $a $b))=>`((GC $a $b).1)
|`(.(Gk $a))=>`(s1.heap.objs.size+$a)
|`(.(FZ $a $b))=>`({ s with toks:=($a +$b) })
|`(.(DL $a))=>`(valD kvs $a)
|`(.(EJ $a))=>`(bs.getD $a [])
|`(.(Ei $a))=>`(b.length<=$a)
|`(.(Fa $a))=>`(BE (rs.map $a))
|`(.(Gy $a $b))=>`({ cls:=$a,data:=(.fields $b) })
|`(.(F4 $a))=>`(below t.dummies $a)
|`(.(Fl $a $b))=>`(absurd $a (Vq $b))
|`(.(AU $a))=>`(CM $a V)
|`(.(F8 $a))=>`(pl.map (λ(i:Nat)=>$a))
|`(.(DS $a))=>`(($a).map encB)
|`(.(D7 $a $b $c))=>`(FpOk $a pins $b $c)
|`(.(Gm $a $b))=>`(λb o hb e=>(($a).trans $b))
|`(.(Ct $a $b))=>`(tOp $a ta $b)
|`(.(Cu $a $b))=>`(.ins C $a $b)
|`(.(EY $a))=>`(.ok (.ret $a))
|`(.(Fm $a $b $c $d))=>`(λ_ _ _ _=>(GI $a $b $c $d))
|`(.(EK $a $b))=>`(Ab (h1.get? $a) $b)
|`(.(AQ $a $b))=>`(AM $a j $b)
|`(.(Cm $a))=>`(Ar $a rfl)
|`(.(Ej $a $b))=>`(($a % $b).toNat)
|`(.(FB $a $b))=>`(($a).Pairwise (λa b=>$b))
|`(.(GP $a))=>`(R $a { s with heap:=h',toks:=tk })
|`(.(D8 $a))=>`(p.map (λi=>$a))
|`(.(Ey $a $b $c $d))=>`(Fy (.Name $a $b) $c $d)
|`(.(Dp $a $b))=>`(E3 $a (Bq $b))
|`(.(FC $a))=>`(.inr (.inr $a))
|`(.(DT $a $b))=>`(Vr $a (CA $b))
|`(.(GN $a))=>`(.builtin "type.__call__" $a)
|`(.(FD $a))=>`(.seq ($a).toArray)
|`(.(Fo $a))=>`(runEnd mask $a)
local macro_rules
|`(.(Du $a))=>`(Fs "list" $a)
|`(.(Ez $a $b))=>`(Aw $a (.lst $b))
|`(.(EM $a))=>`((t.put $a).1)
|`(.(GU $a))=>`(vs.length<=$a)
|`(.(FM $a $b))=>`(σ.set $a (some $b))
|`(.(DU $a $b))=>`((K6 $a).map $b)
|`(.(Bw $a $b $c $d $e))=>`(Nx $a $b Hz $c $d $e)
|`(.(B4 $a))=>`(Tx $a mg ad0)
|`(.(Bx $a $b $c $d $e))=>`(Go $a $b Hz $c $d ss $e)
|`(.(EZ $a $b $c))=>`((($a).filter $b).map $c)
|`(.(Fe $a))=>`(kW s.heap $a)
|`(.(Dv $a $b))=>`(sumW bs $a $b)
|`(.(DI $a $b $c $d $e))=>`(Gw $a $b (pgn $c $d) $e)
|`(.(CJ $a $b))=>`(($a).length=$b)
|`(.(CK $a $b))=>`(⟨o,$a,$b⟩)
|`(.(Em $a))=>`(start $a vs)
|`(.(GX $a))=>`(Zs9 (a:=Lz) (by first | rfl | (simp only[kY];rfl)) $a)
|`(.(DO $a))=>`(W8 Ax Ky.b $a)
|`(.(DP $a))=>`(A1 $a Ca)
|`(.(FP $a $b $c $d $e $f))=>`(zlv $a $b $c $d (λ_ _ _ _=>$e) (λ_ _ _ _=>$f))
|`(.(Dq $a $b $c))=>`(⟨rfl,$a,$b,$c⟩)
|`(.(BI $a))=>`($a <=1000)
|`(.(GO $a))=>`(X.s₀.heap.objs.size<=$a)
|`(.(Gz $a))=>`(absurd $a (by simp))
|`(.(Gq $a $b))=>`(call (.builtin $a) $b)
|`(.(CL $a $b $c))=>`(Ext $a $b $c H')
|`(.(D9 $a $b))=>`(λkv=>(An $a $b))
|`(.(DQ $a))=>`(za9 Ls $a)
|`(.(C7 $a))=>`(runT (ltK key) $a)
|`(.(F9 $a))=>`(⟨$a,(by decide)⟩)
|`(.(EN $a $b))=>`(($a)[$b]'(by lia))
|`(.(EO $a $b))=>`(($a).getD $b .non)
|`(.(Dw $a $b $c))=>`(dA encS $a $b $c)
|`(.(En $a $b))=>`(Le (Gj $a $b))
|`(.(Fg $a $b $c $d))=>`(show (Om $a $b $c) from $d)
|`(.(DV $a))=>`(EG Ax $a)
|`(.(Fp $a))=>`(absurd rfl $a)
|`(.(Fq $a))=>`(valV $a k.key)
|`(.(Df $a))=>`(CM $a Ka)
|`(.(Ba $a))=>`(kk key p $a)
local macro_rules
|`(.(EA $a))=>`(kZ $a Ky.b (by decide))
local macro_rules
|`($f:ident $xs*)=>match f.getId with
 |.str .anonymous s=>if s.length==2&&s.front.isUpper&&s.front<'K'&&!["A'","AP","Ad","At","B2","Bd","Bk","Bn","Bo","C'","CE","CF","CR","CX","Cl","Cx","D0","DD","DE","DK","Dn","E'","E0","E1","EP","Ea","Eb","Eq","Es","Ev","F'","F0","F1","F2","F3","F5","F6","FV","FX","Fn","Fr","G'","GK","Gl","Go","Gt","H'","H0","H1","H2","H3","H4","H5","H6","H7","H8","H9","HA","HB","HO","HT","Hp","Hz","I'","I1","I2","I3","I4","I5","I6","I7","I8","I9","IJ","If","In","It","J4","J5","J6","J7","J8","J9","JA","JB"].contains s then `(.($f $xs*)) else Lean.Macro.throwUnsupported
 |_=>Lean.Macro.throwUnsupported
local macro_rules
|`($f:ident)=>match f.getId with
 |.str .anonymous s=>if s.length==2&&s.front.isUpper&&s.front<'K'&&!["A'","AP","Ad","At","B2","Bd","Bk","Bn","Bo","C'","CE","CF","CR","CX","Cl","Cx","D0","DD","DE","DK","Dn","E'","E0","E1","EP","Ea","Eb","Eq","Es","Ev","F'","F0","F1","F2","F3","F5","F6","FV","FX","Fn","Fr","G'","GK","Gl","Go","Gt","H'","H0","H1","H2","H3","H4","H5","H6","H7","H8","H9","HA","HB","HO","HT","Hp","Hz","I'","I1","I2","I3","I4","I5","I6","I7","I8","I9","IJ","If","In","It","J4","J5","J6","J7","J8","J9","JA","JB"].contains s then `(.($f)) else Lean.Macro.throwUnsupported
 |_=>Lean.Macro.throwUnsupported
set_option compiler.extract_closed true
open Array renaming getElem?_eq_getElem->NQ,getElem?_toList->Nv,length_toList->NZ,getElem?_eq_some_iff->RG,getD_eq_getD_getElem?->Vs,getD->SM,forIn_toList->lA,getElem?_eq_none->xC,mem_toList_iff->xD,getElem?_replicate->Zsv,toList_extract->Ztq,find?_toList->Zun,toList_push->Zu7,toList_map->Zvt,replicate->Zwd,size_map->Zwp,toList->Zxs
open Array.Perm renaming refl->Zw
open Bool renaming false_eq_true->Lj,and_eq_true->Lk,false_ne_true->Mh,eq_iff_iff->LK,not_eq_true'->Vt,not_true->Zx,false_and->lB,or_false->lC,or_eq_true->xE,not_eq_false'->Zu6,eq_false_iff->Zvs,not_eq_true->Zwc,not_false->Zxa,and_false->Zxb,false_or->Zxq,and_true->Zxr,true_or->Zyq
open Classical renaming byContradiction->Zy,typeDecidableEq->Ya9,not_not->Yba
open False renaming elim->Nb
open ForIn renaming forIn->Vu
open ForInStep renaming yield->W9
open Iff renaming rfl->lD
open Int renaming emod_lt_of_pos->Q6,emod_nonneg->Q7,toNat_natCast->Uc,le_refl->Vv,le_trans->lE,le_of_lt->lG,ofNat->Zz,ofNat_eq_natCast->Zul,ofNat_inj->Zyj,zero_add->Zzj,add_zero->Zzk
open List renaming getElem?_eq_getElem->Kv,getD_eq_getElem?_getD->Kz,length_map->Kg,getElem?_eq_some_iff->Mg,mem_cons_of_mem->kJ,mem_of_getElem?->KD,map_cons->Kq,mem_cons_self->KN,getElem?_map->KR,mem_map->Kr,mem_singleton->K5,length_append->K8,mem_cons->KH,mem_append->K9,range->K6,mem_filter->Li,getElem?_eq_none->RB,mem_append_left->Ml,mem_iff_getElem?->MF,map_map->Lf,map_append->LQ,append_nil->LR,length_cons->Mt,mem_map_of_mem->Ny,filter_cons_of_neg->O5,map_congr_left->N6,length_singleton->Oz,size_toArray->Nz,nodup_cons->M4,take_add_one->N7,pairwise_map->N8,take_length->NB,getElem?_append_left->Qz,length_range->Oo,mem_append_right->PB,Nodup->Lq,mem_range->Ni,filter_cons_of_pos->QB,not_mem_nil->OD,cons_lt_cons_iff->QC,length_take->O6,getElem?_append_right->SN,any_eq_true->Pk,getElem?_set_self->RJ,sum_cons->Oq,ext_getElem?->Qn,length_filter_le->RK,perm_ext_iff_of_nodup->Ud,lookup->Nj,getElem?_range->Q8,find?_cons->PJ,lookup_cons->QD,filter_append->RL,pairwise_iff_getElem->Vw,drop_eq_getElem_cons->Vx,take_append_drop->Ue,filterMap_cons_some->Vy,getElem?_set_ne->Ug,mem_flatten->RM,map_nil->PK,getElem_mem->RN,nodup_append->SQ,filter_nil->RP,length->PL,nodup_nil->RQ,lt_irrefl->RT,range_succ->SX,take_of_length_le->Xa,any_cons->RV,foldl_append->Vz,length_drop->VB,zip_cons_cons->Xb,getElem?_drop->Xc,not_lt->RW,flatten_cons->Xd,mem_flatMap->Xe,map_id->S7,flatMap_append->ZC,getElem?_take_of_lt->lH,filterMap_cons_none->lJ,mem_filterMap->ZD,length_nil->Xf,getElem?_replicate->lK,length_pos_of_mem->lL,flatMap_singleton->lM,findIdx_lt_length->lO,filter_eq_nil_iff->lQ,reverse_cons->ZF,length_replicate->lR,getElem?_reverse->lU,eq_nil_of_length_eq_zero->xF,pairwise_append->lV,all_cons->Xg,filterMap_cons->lX,getElem?_take->lY,getElem?_zip_eq_some->xG,length_erase_of_mem->xH,append_assoc->lZ,le_antisymm->mC,filter_cons->mD,all_eq_true->mF,range_succ_eq_map->xJ,drop_eq_nil_of_le->xK,pairwise_flatten->xM,mem_erase_of_ne->xN,findIdx_getElem->xO,replicate->mG,getElem_of_mem->xP,flatten_append->xQ,filter_sublist->xR,take_sublist->xT,filter_congr->xU,toArray->mH,nodup_range->xV,find?_eq_some_iff_append->Zq8,sublist_flatten_of_mem->Zro,of_mem_zip->xW,not_lt_nil->xX,nil_append->xY,length_eraseIdx_of_lt->Zsd,getLast?_eq_getElem?->Zsr,find?->mJ,eq_of_mem_replicate->Zs1,pairwise_mergeSort->Zs5,map_drop->xZ,lt_trans->yC,getElem_cons_drop->Ztk,mem_of_mem_take->Zt6,mem_of_mem_drop->Zt7,mergeSort_perm->Zuh,length_reverse->Zui,length_pos_iff->Zuj,filter_eq_self->Zuk,pairwise_cons->Zu3,head?_filter->Zvg,head?_append->Zvh,flatMap_cons->Zvi,drop_sublist->Zvj,perm_middle->Zv5,getElem_map->Zv6,getElem_inj->Zv7,sum_append->Zwj,length_set->Zwk,headD_cons->Zwl,forIn_cons->Zwm,filter_map->Zwn,take_zero->Zw3,find?_map->Zw4,drop_zero->Zw5,map_take->Zxm,le_trans->Zxn,set_set->Zyh,extract->Zyi,map->Ya3
open List.Pairwise renaming imp_of_mem->S8,sublist->Zq3,nil->Zse
open List.Perm renaming swap->yD,refl->Ya4,eq_of_pairwise->Ya5,cons->Ya6,append_left->Ya7
open List.Sublist renaming refl->yE,slnil->Zzh,append->Zzi
open List.cons renaming injEq->QF
open Nat renaming le_refl->Vn,ne_of_lt->KY,lt_of_lt_of_le->Mm,zero_le->wZ,lt_irrefl->Vq,le_trans->Nk,pow_succ->OJ,lt_succ_self->Q9,ne_of_gt->Pn,lt_or_ge->PN,lt_succ_of_lt->VD,le_succ->Ra,lt_trichotomy->ZG,le_of_lt->Xh,mul_le_mul->ZJ,mod_lt->VF,mod_eq_of_lt->mK,lt_trans->ZK,lt_of_le_of_lt->yF,eq_or_lt_of_le->yG,mod_add_div->yH,min_eq_left->yI,mod_two_eq_zero_or_one->Zsq,add_mul_mod_self_left->Zsz,sub_self->yJ,add_mul->yK,lt_of_succ_lt->Zv4,min_eq_right->Zwg,lt_of_not_le->Zwh,le_add_right->Zwi,two_pow_pos->Zw2,sub_zero->Zze,mul_comm->Zzf,le_of_eq->Zzg
open Ne renaming symm->K7
open Option renaming isSome_iff_exists->ZL,getD_some->VG,map->mL,map_eq_some_iff->Zsy,bind_eq_bind->Ztn,isSome_map->Zug,getD_none->Zu0,bind_some->Zu1,pure_def->Zvf,none->Zxl
open Option.some renaming inj->PP,injEq->Zz5
open Or renaming inl->Zlu,inr->Uh
open Prod renaming ext->Ya1
open Prod.mk renaming injEq->yL
open PyProof.Rows renaming callWith_type1->Xi,boot_isinstance->S9,boot_sorted->RX,envOfC->Zmt,seqObj->PQ,AllBare->RZ,boot_list->Xj,boot_set->Xk,entry_list_sort->yM,slot_list_sort->yN,args_list_sort->yO,subscriptTail->yP,listUpdate_at->yQ,boot_min->ZM,boot_max->ZP,arrOf->Rb,IntsAre->Xl,subscriptTail_builtinR->Zu9,plain_sorted->yR,entry_sorted->yS,args_sorted1->yU,seqEpoch_at->yV,kind_sorted->yW,SortKind->mO,Subscript_->yX,callWith_builtin1->Zzd,get?_update_seq->Zz0,SortSt->Zz4,keyLt'_oneType->Yac,joinParts_cons->Yad,keyKind'->yZ,failedOf->zA
open PyProof.Rows.Boot renaming zip->Zv3
open PyProof.Rows.F renaming plain_set_update_loop->zB,entry_set_update_loop->Zt8
open PyProof.Rows.SortSt renaming mk'->zE
open PySem renaming wpAny_bind->Kc,Value->Ka,wpAny_pure->Kf,Shared->Ke,SetTable->KC,wpAny->Kw,model->Pz,sizeLine_eq->K3,Builtin->Mu,Program->Ko,Spec->Zh3,Around->Ks,starEach->Vp,wpAny_mono->Nu,wpAny_loadPart'->O7,World->Km,wpAny_holding->Nm,NameKind->Qo,PassesOwn->Zi9,wpAny_newObj_type->Pq,wpAny_ite_split->O8,codeAny_builtin->Qp,PyData->Zj5,wpAny_typeNameOfWhole_itemiter->Xm,wpAny_call_entry->Rc,FuncData->Mp,wpAny_setField->Rf,plainId_quiet->Rg,wpAny_truthy_bool->Ui,wpAny_setEntries_of->VH,wpAny_isOneOf_itemiter->Xn,wpAny_setField_rec->VJ,mainGlobals->QG,mem_of_lookup->Xo,codeAny_call_builtin->Xp,rawInt->Ma,wpAny_field->Rh,wpAny_isInstance->VL,wpAny_askSetting->VM,compareOp->PX,sysModules->QH,Builtin->Zl9,wpAny_Call_Name_kw->Xq,backTo->Vr,wpAny_updateSeq->VN,wpAny_passesOwn->VP,codeAny_mono->Td,attributeBase->Uj,cLine->Ln,wpAny_forIn_list->Xr,wpAny_specialOf->Xu,wpAny_getItem_str_slice->mQ,wpAny_execs_nil->Xv,noteFrame->Ri,binaryOp->Qq,wpAny_storeSet_of->ZQ,wpAny_loadPart_at->ZR,wpAny_call->Te,typeIs_str->Tf,codeAny->Pr,wpAny_fieldsOf->Xw,firstArgMember->kY,bindArgs->QJ,builtinLookup_eq_fast->mR,DictEntry->Th,pyNext->Ot,wpAny_attempt->Xx,IsTupleKey->Uk,sliceBounds->VR,pickOrder->Xy,keywordEach->V0,wpAny_typeOf->Xz,tupleKind_room_in1->mU,boot_len->R0,bootBuiltins->XC,wpAny_seqItems->ZS,wpAny_setEpoch_of->mV,wpAny_pyIter_list->mW,swapsWith->Ul,richCompare_gives->mX,ofAClassStatement->mY,isInstance->V1,foldedSetIterable->mZ,Fin->V2,Model->Nf,wpAny_standAt->ZV,wpAny_callSpecial?_slot->zF,behindInMarks->ZW,typeLookup_type->nC,tupleKind->V3,post_val_or_str->nF,letOwnedTupleGo->nG,argBest->R1,Wakes->Oa,wpAny_rule->XD,isSubtype_type->nH,carriedByValue->nJ,holding->Ti,wpAny_pyIter_tuple->zG,wpAny_newList->nM,updateSeq->XF,setFlight->XH,getMethod->XJ,backToKw->V4,wpAny_setState_of->zH,wpAny_pyIter_slot->zJ,wpAny_dictEntries->zK,typeLookup->ZX,standAt->Um,setsByText->ZZ,plainObj_wpAny_Assign_Attribute->Zr0,assignEach->Z0,IsItemIter->Z1,BindsTo->Uo,sub_set_self->nO,setAddHashed->nP,call_meetsIn->nQ,ExcBaseFacts->nR,wpAny_execs_cons->zL,checkBuiltinCall->zM,wpAny_of_eq->Zs9,wpAny_dictEpoch->zN,valueAt->V5,subscripted->nT,excClassObj->nU,codeAny_of_tree->zO,callerA->V6,Result->Tj,Within->zP,Keyword->V7,Drawn->Qs,wpAny_runValue->zQ,wpAny_newTuple->zR,wpAny_loadPart->zT,isSubtype_stop->zU,entryFor_alias->zV,evalArgs_none->Zt2,wpAny_load->nW,typeOf->Uq,call_meets->nY,wpAny_handled->zW,wpAny_Call_method0_late->Zup,setWalkUnseen->zX,relayAll->Z2,getItem->XM,call->zY,IsItemIterOut->zZ,wpAny_pyNext_list_item->Zu8,wpAny_pyNext_list_end->Zvu,wpAny_isTrue_Compare1->Zvv,wpAny_eqIsQuiet_tuple->Zvw,pyIter->V8,hashByValue_scannable->Zvz,unbindBehindTheSuite->Zwe,codeAny_extend_loopS->Zwf,wpAny_throw->Zwq,wpAny_letGo->Zwr,wpAny_isSubtype_exc->Zws,hashByValue->Zwv,getAttr->Z3,atKey->Tn,raiseNew->nZ,newTuple->oA,entryFor->oE,callWith->oF,assign->XN,GenState->oG,wpAny_pyIter_enum->Zxt,wpAny_assign_Name->Zxu,wpAny_Name->Zxv,wpAny_Assign_Name->Zxw,typeIs_int->Zxx,slot_list_getitem->Zxy,searchCouldBeSeen->Zxz,checkCount->Zx0,builtinsNs->Zx1,bindL->Ur,bindC->Us,Walks->Zx5,wpAny_setScan_of->Zyr,wpAny_pyIter_zip->Zys,wpAny_lookBehind->Zyt,wpAny_Dict_empty->Zyu,pastItsLine_dict->Zyv,callGetattribute->Zyw,splitId->oH,spliced->oJ,setFind->oK,raiseStmt->Zzw,newList->oM,newFields->Zzy,getAttrByItsOwn->Zzz,collect->oN,cellsFrom->Zz3,ItemsOf->Zz6,CmpOp->Z4,setAddHashedIn->Yaa,recursionLimit->Yab,boundAndCalled->Yae,storeSet->Yal,signature?_of->Yam,setSearchFrom->Yan,reprText->Yao,intBits_le_64->Yaq,evalPart_none->Yas,comprehension->Yat,compEnvC->Yau,call_list_seq->Yav,ReadsAll->Yay,Reads->Yaz
open PySem.Around renaming under_plainId->Rj,in1_units->oO,under->Zs8
open PySem.AutoSeq1 renaming sub_tuple_tuple->Zrm,sub_list_list->Zsi
open PySem.Builtin.Dict renaming showsAll->Zzr,noArgs->Zzs
open PySem.Builtin.Dict_items renaming pairFromOwner->oR,ownedTupleIsFree->Zn8,ownsTuple->Zo5,ownedTupleFields->Zvp,newIterator->Zvq,dictOf->Zvr
open PySem.Builtin.Frozenset renaming unchanged->Z5,isAnySet->Z6,sizeOf->Zng,intersection->Zow,baseOf->Zp1,slot1->Zp3,updateFrom->Zwa,newClass->Zwb
open PySem.Builtin.List renaming listExtendWith->Tp,listSameRef->XQ,listLengthHint->oU,listTooLong->oV,listItems->Zq4,listUpdate->Zzq
open PySem.Builtin.ObjectAttr renaming getOf->Zvm,find->Zvn,dataDescriptor?->Zvo
open PySem.Builtin.Range renaming rangeSize->Zyp
open PySem.Builtin.Tuple renaming tupleCompareSizes->Zyo
open PySem.Calls renaming callWith_builtin->Z7,spliced_cons->oW,call_function_entry->Zod,evalArgs_plain->Zpv,spliced_nil->Zqq,Name_function_global->Zrs
open PySem.Challenge renaming rw_folk_k44_the_case_of_a_book->Znh,pw_folk_k44_the_case_of_a_book->Zwz
open PySem.Code renaming quiet_builtin->oX,isFrame->Ztp,frames->Zzp
open PySem.DictEntry renaming refKey->Ya8
open PySem.Draws renaming list->Zzo
open PySem.EntryCells renaming newEntry->Zsu
open PySem.EqMixed renaming ne_str_int->Zx9,ne_str_bool->Zya,ne_int_str->Zyb,ne_bool_str->Zyc,eq_str_int->Zyd,eq_str_bool->Zye,eq_int_str->Zyf,eq_bool_str->Zyg
open PySem.EqNone renaming ne_str_none->Zyz,ne_none_str->Zy0,ne_none_none->Zy1,ne_none_int->Zy2,ne_none_bool->Zy3,ne_int_none->Zy4,ne_bool_none->Zy5,eq_str_none->Zy6,eq_none_str->Zy7,eq_none_none->Zy8,eq_none_int->Zy9,eq_none_bool->Zza,eq_int_none->Zzb,eq_bool_none->Zzc
open PySem.F renaming plainAttrs_list->O9,slot_list_append->P0,type_list_append->Qt,slot_dict_itemiterator_next->Z8,excBase_ValueError->XR,plain_extend_loop->Z9,called_set->Ut,type_dict_setdefault->oY,slot_dict_setdefault->oZ,plainAttrs_dict->aA,slot_dict_get->Zo0,attr_ValueError->pA,args_dict_itemiterator_next_1->Zpi,entry_dict_itemiterator_next->Zpn,slot_dict_items_iter->Zqt,entry_extend_loop->Zrk,slot_list_clear->Zrl,store_ValueError->Zrn,slot_dict_items->Zr5,plain_list_iadd->Zr6,plainAttrs_dict->Zr7,args_dict_get_3->Zr8,entry_dict_get->Zso,slot_list_lt->Zs4,plain_extend_loop->Zv9,slot_list_extend->Zwo,type_list_clear->Zw8,plain_list_iadd->Zw9,slot_set_iter->Zyk,plain_set_new->Zyl,entry_bexc_ga->Zym,args_str_lt_2->Zyn,slot_set_and->Zzl,entry_str_lt->Zzm,args_bexc_ga->Zzn,slot_str_lt->Zz8
open PySem.Heap renaming get?_push_of_some->kO,lt_size->Ld,get?_push_size->Zu,get?_update_other->Pa,size_push->Mq,get?_update_self->Pu,SameBut->Qa,FlyingW->QK,get?_update_ne->pB,get?_none_of_le->Zp0,MadeExcOf->Zss,ExtBut->Zum,get?_push_at->Zvk,HeldW->Zvl,size_update->Zv8
open PySem.Heap.DictOf renaming new->Zz7
open PySem.Heap.IsSliceOf renaming new->Zxo
open PySem.Heap.Ns1 renaming of_empty->Zto
open PySem.Heap.SameBut renaming update->R3,refl->XS
open PySem.IsL renaming update->Ya0
open PySem.ItemsOf renaming nil->Zw6
open PySem.NameKind renaming free->Np,cell->V9
open PySem.Obj renaming data_mapFields->Tq,mapSeq->O1,isFreed_of_fields->aB,mapFields->Uu,putSet->aC,cls_mapFields->Zq0
open PySem.Paired renaming length->Zsp,snoc->Zxk
open PySem.PassesOwn renaming never->Lx,leaving->Ya2
open PySem.PyData renaming eqv->Rk,canLay0->XX,showableAll->Zp5,eqvAll->pC,str->aD,hasDictAll->Zql,shownAll->Zq6,canLayAll0->Zuf,depthAll->Zve,strOk->Zw0,depth->Zw1
open PySem.Sem renaming wp->Yax
open PySem.SeqAt.EqAt renaming str_str->Yah,str_int->Yai,int_str->Yaj,int_int->Yak
open PySem.SetTable renaming insertAt->Mi,below->Mr,grown->Tr,fresh->Tt,turns->aF,fits->aG,has->Zsm,sameMemory->Zs3,eraseAt->Zt1,slot->Zvb,fill->Zvc
open PySem.SetTable.Slot renaming dummy->Zrj
open PySem.SetTable.below renaming go->pD
open PySem.Shared renaming TypeIs->aH,heap->Zxj
open PySem.Str renaming empty->X3,ofString->pF,join->pG,length->Yaf,append->Yag
open PySem.Txt renaming slice->pH
open PySem.Value renaming ref->KJ,none->Lz,type->MJ,bool->Px,str->Rm,int->aJ,float->Zty,bytes->Ztz,isStrOf->Zwy,isInt->Zx6
open PySem.Value.ref renaming inj->Yaw
open PySem.W renaming Frag->Kd,findIn->Py,fnOf->Ou,emptyDict->Tu,keepIn->Tv,instObj->Uv,callWith_K->X4,kitOne->X5,methodCall_KW->pI,plainGet->pJ,isFn->aK,lookIn->pK,codeIn->pL,plainGet_of->Zpt,methodObj->Zqg,hasDictIn->Zqh,takerIn->Zqx,OpenLaw->Zqy,cellsFrom_some->Zsn,specialIn->Zt3,plainOver->Zt4,handedIn->Zue,makesIn->Zuz,exmOne->Zvd,WalkO->Zv2
open PySem.W.Looks renaming here->Zx8
open PySem.Walks renaming tuple->Zx4,list->Zyx
open PySem.WalksT renaming enumerateD->Zuc,zip2->Zxh
open PySem.Within renaming cons->Zyy
open PySem.pickOrder renaming go->Zr1
open Sum renaming inr->Wa,inl->Wc
open True renaming intro->Tw
set_option Elab.async false
set_option linter.all false
set_option maxRecDepth 100000
set_option maxHeartbeats 8000000
set_option genSizeOf false
set_option bootstrap.genMatcherCode false
noncomputable section
namespace L2
open PySem PySem.Spec PyProof.Rows
noncomputable abbrev Key:=Sum Int Str
noncomputable def X6:Key->Ka->Bool
 | .inl k,v=>Zx6 k v
 | .inr x,v=>Zwy x v
noncomputable def keyH(w:Km):Key->Int
 | .inl k=>hashInt k
 | .inr x=>hashStr w x
theorem Qu:∀{k:Key} {v:Ka},Aa (X6 k v)->(∃i t,k=Wc i/\v=aJ i t)\/(∃x t,k=Wa x/\v=Rm x t)
 | .inl i,v,h=>by
  obtain⟨t,e⟩:=Value.isInt_shape (k:=i) (v:=v) h;exact .inl (Bh i t e)
 | .inr x,v,h=>by
  obtain⟨t,e⟩:=Value.isStrOf_shape (x:=x) (v:=v) h;exact .inr (Bh x t e)
theorem yax(i:Int)(t:Tok):Aa (X6 (.inl i) (.int i t)):=by simp[X6,Zx6]
theorem zyi(x:Str)(t:Tok):Aa (X6 (.inr x) (.str x t)):=by simp[X6,Zwy]
theorem yjg(a b:Int):An (Wc a:Key) (Wc b)=(a == b):=by
 by_cases e:a=b;.subst e;simp
 .have h:¬ (Wc a:Key)=Wc b:=λq=>e (Sum.inl.inj q);rw[GH];exact(beq_eq_false_iff_ne.mpr e).symm
theorem ykq(a b:Str):An (Wa a:Key) (Wa b)=An a b:=by
 by_cases e:a=b;.subst e;simp
 .have h:¬ (Wa a:Key)=Wa b:=λq=>e (Sum.inr.inj q);rw[GH,decide_eq_false e]
theorem yi5(a:Int)(b:Str):AL (An (Wc a:Key) (Wa b)):=decide_eq_false (λq=>nomatch q)
theorem yiz(a:Str)(b:Int):AL (An (Wa a:Key) (Wc b)):=decide_eq_false (λq=>nomatch q)
noncomputable def Mz(prog:Ko)(w:Km):PySem.KeyKind prog w Key where
 is:=X6
 hash:=keyH w
 inj:=λv a b ha hb=>by
  rcases Qu ha with ⟨i,t,rfl,rfl⟩ | ⟨x,t,rfl,rfl⟩
  .rcases Qu hb with ⟨j,u,rfl,e⟩ | ⟨y,u,rfl,e⟩;.injection e with e1 _;rw[e1]
   .exact nomatch e
  .rcases Qu hb with ⟨j,u,rfl,e⟩ | ⟨y,u,rfl,e⟩;.exact nomatch e
   .injection e with e1 _;rw[e1]
 byValue:=λk v h=>by
  rcases Qu h with ⟨i,t,rfl,rfl⟩ | ⟨x,t,rfl,rfl⟩ <;> rfl
 pyHash:=λhv h=>by
  rcases Qu hv with ⟨i,t,rfl,rfl⟩ | ⟨x,t,rfl,rfl⟩;.exact wpAny_pyHash_int h
  .exact wpAny_pyHash_str h
 eqBool:=λhu hv h=>by
  rcases Qu hu with ⟨i,t,rfl,rfl⟩ | ⟨x,t,rfl,rfl⟩
  .rcases Qu hv with ⟨j,u,rfl,rfl⟩ | ⟨y,u,rfl,rfl⟩;.rw[yjg] at h;exact wpAny_eqBool_int h
   .rw[yi5] at h;exact Yaj i t y u _ _ _ _ h
  .rcases Qu hv with ⟨j,u,rfl,rfl⟩ | ⟨y,u,rfl,rfl⟩;.rw[yiz] at h;exact Yai x t j u _ _ _ _ h
   .rw[ykq] at h;exact wpAny_eqBool_str h
 «strs»:=λk x t v h=>by
  rcases Qu h with ⟨i,u,rfl,e⟩ | ⟨y,u,rfl,e⟩;.exact nomatch e
  .injection e with e1 _;subst e1;cases v <;> rfl
theorem zks(prog:Ko)(w:Km)(i:Int)(t:Tok):Aa ((DC w).is (.inl i) (.int i t)):=yax i t
theorem zlg(prog:Ko)(w:Km)(x:Str)(t:Tok):Aa ((DC w).is (.inr x) (.str x t)):=zyi x t
inductive V where
 | non | bl (b:Bool) | int (i:Int) | str (x:Str) | byt (b:Array UInt8) | flt (b:UInt64) | ref (a:Addr) | ty (n:String)
 deriving DecidableEq
noncomputable def RelV:V->Aq Ka
 | .non,u=>u=Lz
 | .bl b,u=>u=Px b
 | .int i,u=>∃t,u=aJ i t
 | .str x,u=>∃t,u=Rm x t
 | .byt b,u=>∃t,u=Ztz b t
 | .flt b,u=>∃t,u=Zty b t
 | .ref a,u=>u=KJ a
 | .ty n,u=>u=MJ n
noncomputable abbrev Vals:Ai->Aq Am:=Paired RelV
theorem Vals.length{xs:Ai}{us:Am}(r:BY xs):xs.length=us.length:=Zsp r
theorem Vals.get:∀{xs:Ai} {us:Am} {i:Nat} {x:V},BY xs->Ah xs x-> ∃u,Ah us u/\Bi x
 | _,_,_,_,.nil,e=>by simp at e
 | _,_,0,_,.cons r _,e=>by simp at e;subst e;exact⟨_,rfl,r⟩
 | _,_,i+1,x,.cons _ t,e=>by
  obtain⟨u,h1,h2⟩:=Vals.get (i:=i) (x:=x) t (by simpa using e);exact⟨u,by simpa using h1,h2⟩
theorem Vals.append:∀{xs ys:Ai} {us ws:Am},BY xs->Vals ys ws->Vals (xs++ys) (us++ws)
 | _,_,_,_,.nil,s=>s
 | _,_,_,_,.cons r t,s=>.cons r (Vals.append t s)
theorem Vals.take:∀{xs:Ai} {us:Am} (n:Nat),BY xs->Vals (xs.take n) (us.take n)
 | _,_,0,_=>.nil
 | _,_,_+1,.nil=>.nil
 | _,_,n+1,.cons r t=>.cons r (Vals.take n t)
theorem Vals.drop:∀{xs:Ai} {us:Am} (n:Nat),BY xs->Vals (xs.drop n) (us.drop n)
 | _,_,0,r=>r
 | _,_,_+1,.nil=>.nil
 | _,_,n+1,.cons _ t=>Vals.drop n t
noncomputable def RelO:Ek->Aq A4
 | some v,some u=>Bi v
 | none,none=>True
 | _,_=>False
noncomputable def KV{κ:Type}:AU κ->Aq (Df κ):=Paired λ(p:κ×V) (q:κ×Ka)=>p.1=q.1/\RelV p.2 q.2
noncomputable def kV:Key->V
 | .inl i=>Ca
 | .inr x=>.str x
inductive HO where
 /-- a list -/
 | lst (xs:List V)
 /-- a tuple (never changes) -/
 | tup (xs:List V)
 /-- a dict whose keys are ints and texts;one whose keys are tuples of ints and texts (the empty one is both) -/
 | dK (kvs:List (Key×V)) | dT (kvs:List (List Key×V))
 /-- a set of ints: its members,its size -/
 | set (S:Int->Bool) (n:Nat)
 /-- an instance of the class at C,its dict at dx,its attributes -/
 | ins (C dx:Addr) (fs:List (Str×V))
 /-- the dict of the instance at x -/
 | own (x:Addr)
 /-- the dict of an exception -/
 | xd (fs:List (Str×V))
 /-- a bound method,f of x -/
 | met (f x:Addr)
 /-- a range object lo,lo+1,.. below hi -/
 | rng (lo hi:Int)
 /-- a thing that is known to the object (the script;a dict while a loop walks it): read,never written while it is so -/
 | frz (o:Obj) (u:HO)
 /-- a code object's table -/
 | tbl (ps:Array Ka)
 /-- any other thing,by what is true of its one object (a def of one's own: SetO a S n:=HO.ext fun h=>..) -/
 | ext (φ:Heap->Prop)
 | tab (ps:Array Ka) (pos:Pos) (q:Str)
noncomputable abbrev Hp:=Addr->Option HO
noncomputable def upd(H:Hp)(a:Addr)(o:HO):Hp:=λb=>AR b a (some o) (H b)
theorem Ku{H:Hp}{a:Addr}{o:HO}:Ab (upd H a o a) o:=by unfold upd;rw[if_pos rfl]
theorem Kh{H:Hp}{a b:Addr}{o:HO}(h:b≠a):upd H a o b=H b:=by unfold upd;rw[if_neg h]
theorem pM{H:Hp}{a b:Addr}{o u:HO}(h:Aw a o)(h':Aw b u)(d:o≠u):a≠b:=by
 intro e;subst e;rw[h] at h';exact d (PP h')
theorem Lp{H:Hp}{a b:Addr}{o:HO}(h:Aw a o)(h':H b=none):a≠b:=by
 intro e;subst e;rw[h] at h';cases h'
section
variable(P:Ko)(w:Km)
noncomputable def Lr(H:Hp)(h:Heap)(a:Addr):Aq HO
 | .lst xs=>AD xs.length /\ ∃(its:Am) (n:Nat),Vals xs its/\AE a (Du (.seq its.toArray n))
 | .tup xs=>AD xs.length /\ ∃its:Am,Vals xs its/\IsTup h a its.toArray
 | .dK kvs=>AD kvs.length/\Be a QH /\ ∃vs,KV kvs vs/\h.DictOf (Mz P w) a vs
 | .dT kvs=>AD kvs.length/\Be a QH /\ ∃xs:CM BF (Addr×Ka),
   Paired (λ(p:List Key×V) (q:List Key×Addr×Ka)=>p.1=q.1/\Di B8 (p.1.map kV)/\RelV p.2 B3) kvs xs /\
   ∃o es ep,AE a o/\o.ExactDict/\o.data= .dict es ep/\es.toList=xs.map (entryOfKey (V3 (Mz P w)))/\(xs.map (·.1)).Nodup
 | .set S n=>h.SetOf (intKind P w) a S n
 | .ins C dx fs=>Aw dx (.own a)/\BI fs.length/\dx≠a/\AE a (Uv C dx) /\
   ∃mA,h.Ns1 dx mA/\(∀f,RelO (fs.lookup f) (mA f))/\zP mA (fs.map (·.1))
 | .own _=>∃o,AE a o
 | .xd fs=>∃mA,h.Ns1 a mA /\ ∀f,RelO (fs.lookup f) (mA f)
 | .rng lo hi=>∃t u v,AE a (Fs "range" (.fields #[.int lo t,.int hi u,.int 1 v]))
 | .frz o u=>AE a o/\Lr H h a u
 | .tbl ps=>AE a (Gy .none ps)
 | .met f x=>AE a (Zqg (.ref f) BB)
 | .ext φ=>φ h/\(∃o,AE a o) /\ ∀h1 h2:Heap,φ h1->(∀o,EK a o->Ab (h2.get? a) o)->φ h2
 | .tab ps pos q=>∃more:BT,AE a (Gy .none (ps++more))/\TriplesOk (ps++more).toList/\(codeAmong pos (ps++more).toList=none \/ ∃c' oc vs t,Ab (codeAmong pos (ps++more).toList) (.ref c')/\Aw c' (.frz oc (.own a))/\oc.data= .fields vs/\AM vs 1 (.str q t))
noncomputable def HOk(H:Hp)(h:Heap):Prop:=∀a o,Aw a o->Lr P w H h a o
end
section
variable{P:Ko}{w:Km}{H H':Hp}{h h':Heap}{a:Addr}{o:HO}
theorem Lr.lt(x:Lr P w H h a o):a<h.objs.size:=by
 cases o with
 | lst xs=>obtain⟨_,_,_,_,e⟩:=x;exact Bv
 | tup xs=>obtain⟨_,_,_,p⟩:=x;exact p.lt
 | dK kvs=>obtain⟨_,_,_,_,o,_,_,e,_⟩:=x;exact Bv
 | dT kvs=>obtain⟨_,_,_,_,o,_,_,e,_⟩:=x;exact Bv
 | set S n=>obtain⟨o,_,_,_,e,_⟩:=x;exact Bv
 | ins C dx fs=>obtain⟨_,_,_,e,_⟩:=x;exact Bv
 | own y=>obtain⟨_,e⟩:=x;exact Bv
 | xd fs=>obtain⟨_,⟨_,_,_,e,_⟩,_⟩:=x;exact Bv
 | rng lo hi=>obtain⟨_,_,_,e⟩:=x;exact Bv
 | frz ob u=>obtain⟨e,_⟩:=x;exact Bv
 | tbl ps=>exact Ld (show AE a _ from x)
 | met f y=>exact Ld (show AE a _ from x)
 | ext φ=>obtain⟨_,⟨_,e⟩,_⟩:=x;exact Bv
 | tab ps pos q=>obtain⟨_,e,_⟩:=x;exact Bv
theorem Paired.mapP{α β:Type}{F G:α->Aq β}:∀{l₁:AK} {l₂:List β},Paired F l₁ l₂->(∀a b,F a b->G a b)->Paired G l₁ l₂
 | _,_,.nil,_=>.nil
 | _,_,.cons r t,f=>.cons (f _ _ r) (Paired.mapP t f)
theorem Lr.stay(x:Lr P w H h a o)(k:∀b u,(b=a\/Aw b (.own a))->AE b u->AJ b u)
  (ho:∀b,Aw b (.own a)->Ab (H' b) (.own a)) (ht:∀b xs,Di b xs->Ab (H' b) (.tup xs))
  (hf:∀b o u,Aw b (.frz o u)->Ab (H' b) (.frz o u):=by first | exact λ_ _ _ q=>q | exact λc _ _ q=>(Kh (Lp q (by assumption))).trans q | exact λc _ _ r=>(Kh (λz=>by rw[<- z,r] at mu;exact mu)).trans r):Lr P w H' h' a o:=by
 induction o with
 | lst xs=>obtain⟨z,its,n,r,e⟩:=x;exact⟨z,its,n,r,k _ _ A6 e⟩
 | tup xs=>obtain⟨z,its,r,ob,e,c⟩:=x;exact⟨z,its,r,ob,k _ _ A6 e,c⟩
 | dK kvs=>obtain⟨z,y,vs,r,ob,es,ep,e,c⟩:=x;exact⟨z,y,vs,r,ob,es,ep,k _ _ A6 e,c⟩
 | dT kvs =>
  obtain⟨z,y,xs,r,ob,es,ep,e,c⟩:=x;exact⟨z,y,xs,Paired.mapP r λp q z=>⟨z.1,ht _ _ z.2.1,z.2.2⟩,ob,es,ep,k _ _ A6 e,c⟩
 | set S n=>obtain⟨ob,es,ep,t,e,c⟩:=x;exact⟨ob,es,ep,t,k _ _ A6 e,c⟩
 | ins C dx fs =>
  obtain⟨d,z,ne,e,mA,⟨od,es,ep,e2,c⟩,r⟩:=x;exact⟨ho _ d,z,ne,k _ _ A6 e,mA,⟨od,es,ep,k _ _ (.inr d) e2,c⟩,r⟩
 | own y=>obtain⟨ob,e⟩:=x;exact⟨ob,k _ _ A6 e⟩
 | xd fs=>obtain⟨mA,⟨od,es,ep,e,c⟩,r⟩:=x;exact⟨mA,⟨od,es,ep,k _ _ A6 e,c⟩,r⟩
 | rng lo hi=>obtain⟨t,u,v,e⟩:=x;exact⟨t,u,v,k _ _ A6 e⟩
 | frz ob u ih=>obtain⟨e,q⟩:=x;exact⟨k _ _ A6 e,ih q⟩
 | tbl ps =>
  have e:AE a (Gy .none ps):=x;show AJ a (Gy .none ps);exact k a _ A6 e
 | met f y =>
  have e:AE a (Zqg (.ref f) (.ref y)):=x;show AJ a (Zqg (.ref f) (.ref y));exact k a _ A6 e
 | ext φ=>obtain⟨p,⟨o,e⟩,st⟩:=x;exact⟨st _ _ p λo q=>k _ _ A6 q,⟨o,k _ _ A6 e⟩,st⟩
 | tab ps pos q =>
  obtain⟨m,e,t,r⟩:=x;exact⟨m,k _ _ A6 e,t,r.imp id λ⟨c',oc,vs,t2,e1,e2,q1,q2⟩=>⟨c',oc,vs,t2,e1,hf _ _ _ e2,q1,q2⟩⟩
theorem HOk.lt(x:HOk P w H h)(e:Aw a o):a<h.objs.size:=(x a o e).lt
theorem HOk.fresh(x:HOk P w H h)(e:h.objs.size<=a):H a=none:=by
 cases q:H a with
 | none=>rfl
 | some u=>exact Fl (Mm (x.lt q) e) _
theorem HOk.kept(x:HOk P w H h)(k:∀b u,AE b u->AJ b u):HOk P w H h':=λa o e =>
 (x a o e).stay (λb u _ q=>k b u q) (λ_ q=>q) λ_ _ q=>q
theorem HOk.laid(x:HOk P w H h)(k:∀b u,AE b u->AJ b u)(hp:h.objs.size<=a)(new:Lr P w (AX a o) h' a o):HOk P w (AX a o) h':=λb u e=>by
 have hn:=x.fresh hp;by_cases hb:b=a;.subst hb;rw[Ku] at e;cases e;exact new
 .rw[Kh hb] at e;exact(x b u e).stay (λc v _ q=>k c v q) (λc q=>by rw[Kh (Lp q hn)];exact q) λc xs q=>by rw[Kh (Lp q hn)];exact q
end
noncomputable def Rd(H:Hp)(a:Addr)(u:HO):Prop:=Aw a u \/ ∃o,Aw a (.frz o u)
theorem Rd.ok{P:Ko}{w:Km}{H:Hp}{h:Heap}{a:Addr}{u:HO}(r:Rd H a u)(x:HOk P w H h):Lr P w H h a u:=by
 rcases r with r | ⟨o,r⟩;.exact x a u r
 .obtain⟨_,q⟩:=x a _ r;exact q
noncomputable def Mut:Aq (Option HO)
 | some (.lst _)=>True
 | some (.dK _)=>True
 | some (.dT _)=>True
 | some (.set _ _)=>True
 | some (.ins _ _ _)=>True
 | some (.ext _)=>True
 | _=>False
section
variable{P:Ko}{w:Km}{H:Hp}{h h':Heap}{x e:Addr}{o':HO}
theorem HOk.write(ok:HOk P w H h)(mu:Mut (H x))(he:e=x\/Aw e (.own x))(k:∀b u,b≠e->AE b u->AJ b u)(heo:∃u,AJ e u)
  (new:Lr P w (AX x o') h' x o'):HOk P w (AX x o') h':=λb u q=>by
 have nown:∀c y,Aw c (.own y)->c≠x:=λc y r z=>by subst z;rw[r] at mu;exact mu
 have ntup:∀c xs,Di c xs->c≠x:=λc xs r z=>by subst z;rw[r] at mu;exact mu
 by_cases hb:b=x;.subst hb;rw[Ku] at q;cases q;exact new
 .rw[Kh hb] at q;by_cases hbe:b=e
  .have q':Aw b (.own x):=by
    rcases he with z | z;.exact absurd (hbe.trans z) hb
    .rw[hbe];exact z
   rw[q] at q';cases q';obtain⟨v,hv⟩:=heo;exact⟨v,by rw[hbe];exact hv⟩
  .refine(ok b u q).stay (λc v hc r=>k c v ?_ r) (λc r=>by rw[Kh (nown c b r)];exact r) λc xs r=>by rw[Kh (ntup c xs r)];exact r
   rcases hc with rfl | hc;.exact hbe
   .rintro rfl;rcases he with z | z;.exact nown c b hc z
    .rw[hc] at z;cases z;exact hb rfl
end
structure Un(fs ex:List Addr)(H H':Hp)(h h':Heap):Prop where
 keep:∀b o,h.get? b=some o->H b=none->b∉fs->b∉ex->h'.get? b=some o
 slot:∀b o,h.get? b=some o->H b=none->b∈fs->b∉ex-> ∃sl,h'.get? b=some { o with slots:=sl }
 free:∀b o,h.get? b=some o->H b=none->b∉ex->H' b=none
 there:∀b o,h.get? b=some o->b∉ex-> ∃o',h'.get? b=some o'
 tups:∀b xs,H b=some (.tup xs)->H' b=some (.tup xs)
 frzs:∀b o u,H b=some (.frz o u)->H' b=some (.frz o u)
 tbls:∀b ps,H b=some (.tbl ps)-> ∃more,H' b=some (.tbl (ps++more))
section
variable{fs fs' ex ex':List Addr}{H H1 H2:Hp}{h h1 h2 h':Heap}{a x e:Addr}{o:HO}
theorem Un.any(u:Un fs ex H H1 h h1){b:Addr}{ob:Obj}(q:AE b ob)(n:H b=none)(hx:b∉ex):∃sl,EK b { ob with slots:=sl }:=by
 by_cases hb:b∈fs;.exact u.slot b ob q n hb hx
 .exact⟨ob.slots,u.keep b ob q n hb hx⟩
theorem Un.kept(k:∀b u,AE b u->AJ b u):Un fs ex H H h h' :=
 ⟨λb ob q _ _ _=>k b ob q,λb ob q _ _ _=>⟨ob.slots,k b ob q⟩,λ_ _ _ n _=>n,λb ob q _=>⟨ob,k b ob q⟩,λ_ _ q=>q,λ_ _ _ q=>q,λ_ ps q=>⟨#[],by rw[q];simp⟩⟩
theorem Un.refl:Un fs ex H H h h:=Un.kept λ_ _ q=>q
theorem Un.laid(k:∀b u,AE b u->AJ b u)(hp:h.objs.size<=a)(hn:H a=none):Un fs ex H (AX a o) h h' where
 keep:=λb u q _ _ _=>k b u q
 slot:=λb u q _ _ _=>⟨u.slots,k b u q⟩
 free:=λb u q n _=>by rw[Kh (KY (Mm (Ld q) hp))];exact n
 there:=λb u q _=>⟨u,k b u q⟩
 tups:=λb xs q=>by rw[Kh (Lp q hn)];exact q
 frzs:=λb u xs q=>by rw[Kh (Lp q hn)];exact q
 tbls:=λb ps q=>⟨#[],by rw[Kh (Lp q hn),q];simp⟩
theorem Un.write(mu:Mut (H x))(he:e=x\/Aw e (.own x))(k:∀b u,b≠e->AE b u->AJ b u)(heo:∃u,AJ e u):Un fs ex H (AX x o) h h':=by
 have hx:∀b,H b=none->b≠x:=λb n z=>by subst z;rw[n] at mu;exact mu
 have hb:∀b,H b=none->b≠e:=λb n z=>by
  subst z;rcases he with r | r;.exact hx b n r
  .rw[n] at r;cases r
 have hm:∀b u,Aw b u-> ¬ Mut (some u)->b≠x:=λb u q nm z=>by subst z;rw[q] at mu;exact nm mu
 refine⟨λb u q n _ _=>k b u (hb b n) q,λb u q n _ _=>⟨u.slots,k b u (hb b n) q⟩,λb u q n _=>by rw[Kh (hx b n)];exact n,λb u q _=>?_,
  λb xs q=>by rw[Kh (hm b _ q λz=>z)];exact q,λb u xs q=>by rw[Kh (hm b _ q λz=>z)];exact q,λb ps q=>⟨#[],by rw[Kh (hm b _ q λz=>z),q];simp⟩⟩;by_cases hbe:b=e;.subst hbe;exact heo
 .exact⟨u,k b u hbe q⟩
end
noncomputable def trk(h:Heap)(H:Hp):Bp:=(K6 h.objs.size).filter λa=>(H a).isSome
noncomputable def hidT(h:Heap)(H:Hp):Heap:=PySem.W.hideAll h (trk h H)
theorem zzn(h:Heap)(H:Hp):(hidT h H).objs.size=h.objs.size:=PySem.W.hideAll_size _ _
theorem yc0{h:Heap}{H:Hp}{b:Addr}{o:Obj}(e:AE b o)(n:H b=none):Cj (hidT h H) b o :=
 PySem.W.hideAll_get _ e λhm=>by
  have q:Aa (H b).isSome:=(Li.mp hm).2;rw[n] at q;simp at q
theorem ygz{h:Heap}{H:Hp}{b:Addr}{o:Obj}(e:Cj (hidT h H) b o):AE b o/\H b=none:=by
 have e':AE b o:=PySem.W.of_hideAll (trk h H) e;refine(BG e');cases q:H b with
 | none=>rfl
 | some x =>
  have hm:b∈trk h H:=Li.mpr ⟨Ni.mpr (Ld e'),by simp[q]⟩;have z:(hidT h H).get? b=none:=PySem.W.hideAll_none (trk h H) hm;rw[z] at e;cases e
noncomputable def yhv(g h:Heap)(L:Addr):A7:=(K6 h.objs.size).filterMap λa=>if a=L\/Aa (g.get? a).isSome then none else (h.get? a).map λo=>(a,o)
noncomputable def rest(g h:Heap)(L d:Addr):A7:=(yhv g h L).filter λp=>decide (p.1≠d)
structure Mod(K:Kd)(mg:Str->Option Ka)(base:Heap):Prop where
 kin:K.In base
 glob:base.Ns QG mg
 blt:∃mb,base.Ns Zx1 mb /\ ∀x:Str,x ≠ "__name__" -> mb x=XC x
 nolimit:base.NoLimit
structure Cx where
 prog:Ko
 w:Km
 K:Kd
 mg:Str->Option Ka
 base:Heap
 A:Ks
 N:List Str
 s₀:Ke
 Hz:Hp
 env:Env
 outer:List Env
 stack:List Env
 ex:List Addr
 fn:Str->Bool
 calm:Bool
 pn:List (Addr×Obj)
 xe:Ka->Ke->Prop
noncomputable def frs(l:List Env):Bp:=l.filterMap (·.frame)
noncomputable abbrev Cx.fs(X:Cx):Bp:=frs X.outer
noncomputable def Vis(sc:Scope)(x:Str):Prop:=Fw x .local\/Fw x .cell\/Fw x .free
noncomputable def Loc(sc:Scope)(x:Str):Prop:=Fw x .local\/Fw x .cell
noncomputable def Look(env:Env)(h:Heap)(m:Str->A4)(x:Str)(u:Ka):Prop :=
 (Ab (env.kindOf x) .local/\Ab (m x) u)\/((Ab (env.kindOf x) .cell\/Ab (env.kindOf x) .free) /\ ∃c,Ab (env.cells.lookup x) c/\h.IsCell c (some u))
structure Cx.Ok(X:Cx):Prop where
 mod:Mod X.K X.mg X.base
 kind:X.env.scope.kind= .function
 glob:X.env.globals=QG
 blt:X.env.builtins=Zx1
 above:X.s₀.heap.objs.size<=X.env.locals
 inj:∀x y c,X.env.cells.lookup x=some c->X.env.cells.lookup y=some c->x=y
 has:∀x,(X.env.kindOf x=some .cell\/X.env.kindOf x=some .free)-> ∃c,X.env.cells.lookup x=some c
 cab:∀x c,X.fn x=true->X.env.cells.lookup x=some c->X.s₀.heap.objs.size<=c
 hd:X.calm=true->X.A.handled=none
 frames:X.A.frames=some X.stack
 stk:X.stack=X.outer\/(X.stack=X.env::X.outer/\X.env.frame=some X.env.locals)
 exf:∀b∈X.ex,b≠X.env.locals /\ ∀x c,X.env.cells.lookup x=some c->c≠b
 bs:∀b o,X.base.get? b=some o->X.s₀.heap.get? b=some o/\X.Hz b=none
 bsz:X.base.objs.size<=X.s₀.heap.objs.size
 noex:∀b o,X.base.get? b=some o->b∉X.ex
 exfs:∀b∈X.ex,b∉X.fs
 funs:X.s₀.heap.FunFrames X.base X.outer
 frf:∀b∈X.fs,X.Hz b=none
structure Inv(X:Cx)(pins:List (Addr×Obj))(σ:List (Option V))(H:Hp)(s:Ke):Prop where
 ok:X.Ok
 os:s.os=X.s₀.os
 bare:RZ s.gens
 base:Un X.fs X.ex X.Hz H X.s₀.heap s.heap
 loc:∃m,s.heap.Ns X.env.locals m /\ ∀(i:Nat) (x:Str) (v:V),X.N[i]? = some x->σ[i]? = some (some v)->Vis X.env.scope x-> ∃u,RelV v u/\Look X.env s.heap m x u
 cell:∀x c,X.env.cells.lookup x=some c-> ∃v,s.heap.IsCell c v
 free:H X.env.locals=none
 freeC:∀x c,X.env.cells.lookup x=some c->H c=none
 pin:∀p∈X.pn++pins,s.heap.get? p.1=some p.2/\H p.1=none/\p.1≠X.env.locals/\p.1∉X.fs /\ ∀v,p.2.data ≠ .cell v
 hok:HOk X.prog X.w H s.heap
 len:σ.length=X.N.length
section
variable{X:Cx}{pins:List (Addr×Obj)}{σ:List (Option V)}{H H':Hp}{s:Ke}{h':Heap}
theorem Cx.Ok.nofr(ok:X.Ok){b:Addr}{o:Obj}(e:Ab (X.base.get? b) o):b∉X.fs:=λhb=>by
 have:=(ok.funs.mem hb).1;rw[e] at this;cases this
theorem Inv.bs(I:Ak):∀b o,Ab (X.base.get? b) o->AI b/\H b=none:=λb o e =>
 ⟨I.base.keep b o (I.ok.bs b o e).1 (I.ok.bs b o e).2 (I.ok.nofr e) (I.ok.noex b o e),I.base.free b o (I.ok.bs b o e).1 (I.ok.bs b o e).2 (I.ok.noex b o e)⟩
theorem Inv.bk(I:Ak):∀b o,Ab (X.base.get? b) o->AI b:=λb o e=>(I.bs b o e).1
theorem Inv.mod(I:Ak):Mod X.K X.mg X.base:=I.ok.mod
theorem Inv.kIn(I:Ak):X.K.In s.heap:=I.ok.mod.kin.keeps I.bk
theorem Inv.fr(I:Ak):∃m,Fr X.base X.env.locals s.heap m :=
 let ⟨m,hn,_⟩:=I.loc
 ⟨m,hn,I.bk,Nk I.ok.bsz I.ok.above⟩
theorem Inv.lt(I:Ak):Er X.env.locals:=let ⟨_,hn,_⟩:=I.loc;hn.lt
theorem Inv.sz(I:Ak):GO s.heap.objs.size:=Nk I.ok.above (Xh I.lt)
theorem Inv.nofs(I:Ak){a:Addr}(h:E7 a):a∉X.fs:=λhb=>by
 obtain⟨_,o,ho,_⟩:=I.ok.funs.mem hb;exact Fl (Mm (Ld ho) (Nk I.sz h)) _
theorem Inv.cne(I:Ak):∀x c,FU x c->FK c:=λx c e z=>by
 obtain⟨v,o,ho,hd⟩:=I.cell x c e;obtain⟨m,⟨o',es,ep,ho',hd',_⟩,_⟩:=I.loc;rw[z,ho'] at ho;cases ho;rw[hd'] at hd;cases hd
theorem Inv.funs(I:Ak):s.heap.FunFrames X.base X.outer:=by
 have all:∀(l:List Env),(∀b∈frs l,b∈X.fs)->X.s₀.heap.FunFrames X.base l->s.heap.FunFrames X.base l:=by
  intro l;induction l with
  | nil=>intro _ _;trivial
  | cons env r ih =>
   intro hs hl;obtain⟨hk,⟨L,o,hf,hn,ho,hd⟩,hr⟩:=hl;have hL:L∈X.fs:=hs L (by unfold frs;rw[lX,hf];exact KN);obtain⟨sl,e⟩:=I.base.slot L o ho (I.ok.frf L hL) hL λz=>I.ok.exfs L z hL;exact⟨hk,⟨L,_,hf,hn,e,hd⟩,ih (λb hb=>hs b (by unfold frs;rw[lX,hf];exact kJ _ hb)) hr⟩
 exact all X.outer (λ_ hb=>hb) I.ok.funs
theorem Inv.stack(I:Ak):s.heap.FunFrames X.base X.stack:=by
 rcases I.ok.stk with e | ⟨e,hf⟩;.rw[e];exact I.funs
 .rw[e];obtain⟨m,hn,_⟩:=I.loc;refine .cons (by rw[I.ok.kind];decide) hf hn ?_ I.funs;exact Zp0 (Nk I.ok.bsz I.ok.above)
theorem Inv.stkSub(I:Ak):∀b∈frs X.stack,b∈X.env.locals::X.fs:=λb hb=>by
 rcases I.ok.stk with e | ⟨e,hf⟩;.rw[e] at hb;exact AS hb
 .rw[e] at hb;unfold frs at hb;rw[lX,hf] at hb;exact hb
theorem Inv.stkFree(I:Ak):∀b∈frs X.stack,H b=none:=λb hb=>by
 rcases KH.mp (I.stkSub b hb) with e | hb;.rw[e];exact I.free
 .obtain⟨_,o,ho,_⟩:=I.ok.funs.mem hb;exact I.base.free b o ho (I.ok.frf b hb) λz=>I.ok.exfs b z hb
theorem Inv.step{g':Array oG}{t':Nat}{d':Qs}{ch:Bp}(I:Ak)
  (hch:∀b∈ch,(b∈X.ex\/GO b)/\FK b/\(∀x c,FU x c->c≠b) /\ ∀p∈X.pn++pins,p.1≠b)
  (keep:∀b o,FK b->b∉X.fs->b∉ch->AI b->H b=none->AJ b o)
  (slot:∀b o,FK b->b∈X.fs->b∉ch->AI b->H b=none-> ∃sl,AJ b { o with slots:=sl }) (free:∀b o,b∉ch->AI b->H b=none->H' b=none)
  (there:∀b o,b∉ch->AI b-> ∃o',AJ b o')
  (tups:∀b xs,Di b xs->Ab (H' b) (.tup xs)) (frzs:∀b o u,Aw b (.frz o u)->Ab (H' b) (.frz o u)) (tbls:∀b ps,Aw b (.tbl ps)-> ∃more,Ab (H' b) (.tbl (ps++more)))
  (ns:∀m,s.heap.Ns X.env.locals m->h'.Ns X.env.locals m) (hok:HOk X.prog X.w H' h') (hg:RZ g') :
  Ce H' { s with heap:=h',gens:=g',drawn:=d',toks:=t' }:=by
 have neL:∀b o,Ab (X.s₀.heap.get? b) o->FK b:=λb o e=>KY (Mm Bv I.ok.above);have neC:∀b o,Ab (X.s₀.heap.get? b) o->b∉X.ex->b∉ch:=λb o e hx hb=>by
  rcases(hch b hb).1 with z | z;.exact hx z
  .exact Fl (Mm Bv z) _
 have cellK:∀x c,FU x c-> ∀v,s.heap.IsCell c v->h'.IsCell c v:=λx c e v ⟨o,ho,hd⟩=>by
  have nch:c∉ch:=λz=>(hch c z).2.2.1 x c e rfl;by_cases hc:c∈X.fs
  .obtain⟨sl,q⟩:=slot c o (I.cne x c e) hc nch ho (I.freeC x c e);exact(Ar q hd)
  .exact(CK (keep c o (I.cne x c e) hc nch ho (I.freeC x c e)) hd)
 refine⟨I.ok,I.os,hg,⟨Gx,Gx,λb o e n hx=>?_,λb o e hx=>?_,λb xs e=>tups b xs (I.base.tups b xs e),λb o xs e=>frzs b o xs (I.base.frzs b o xs e),λb ps e=>?_⟩,?_,λx c e=>?_,?_,λx c e=>?_,λp hp=>?_,hok,I.len⟩;.exact keep b o (neL b o e) hb (neC b o e hx) (I.base.keep b o e n hb hx) (I.base.free b o e n hx)
 .obtain⟨sl,e1⟩:=I.base.slot b o e n hb hx;obtain⟨sl',e2⟩:=slot b _ (neL b o e) hb (neC b o e hx) e1 (I.base.free b o e n hx);exact⟨sl',e2⟩
 .obtain⟨o',e1⟩:=I.base.there b o e hx;exact free b o' (neC b o e hx) e1 (I.base.free b o e n hx)
 .obtain⟨o',e1⟩:=I.base.there b o e hx;exact there b o' (neC b o e hx) e1
 .obtain⟨m1,e1⟩:=I.base.tbls b ps e;obtain⟨m2,e2⟩:=tbls b _ e1;exact⟨m1++m2,by rw[e2,Array.append_assoc]⟩
 .obtain⟨m,hn,hl⟩:=I.loc;refine⟨m,ns m hn,λi x v e1 e2 e3=>?_⟩;obtain⟨u,r,l⟩:=hl i x v e1 e2 e3;refine(Ck u r);rcases l with l | ⟨k,c,e,z⟩;.exact .inl l
  .exact .inr ⟨k,c,e,cellK x c e _ z⟩
 .obtain⟨v,z⟩:=I.cell x c e;exact⟨v,cellK x c e v z⟩
 .obtain⟨m,⟨o,_,_,ho,_⟩,_⟩:=I.loc;exact free _ o (λz=>(hch _ z).2.1 rfl) ho I.free
 .obtain⟨v,o,ho,hd⟩:=I.cell x c e;exact free c o (λz=>(hch c z).2.2.1 x c e rfl) ho (I.freeC x c e)
 .obtain⟨e,n,ne,nf,d⟩:=I.pin p hp;have nch:p.1∉ch:=λz=>(hch p.1 z).2.2.2 p hp rfl;exact⟨keep p.1 p.2 ne nf nch e n,free p.1 p.2 nch e n,ne,nf,d⟩
theorem Inv.un{t':Nat}(I:Ak)(u:Un X.fs [] H H' s.heap h')(hok:HOk X.prog X.w H' h'):FR H':=by
 obtain⟨m,⟨o,es,ep,ho,r⟩,_⟩:=id I.loc;obtain⟨sl,hL⟩:=u.any ho I.free (by simp);exact I.step (g':=s.gens) (d':=s.drawn) (ch:=[]) (λ_ z=>nomatch z) (λb o _ hb _ e n=>u.keep b o e n hb (by simp)) (λb o _ hb _ e n=>u.slot b o e n hb (by simp)) (λb o _ e n=>u.free b o e n (by simp)) (λb o _ e=>u.there b o e (by simp)) u.tups u.frzs u.tbls (λm' hm=>by
  obtain⟨o',es',ep',ho',r'⟩:=hm;rw[ho] at ho';cases ho';exact⟨_,es',ep',hL,r'⟩) hok I.bare
theorem Inv.call{g':Array oG}{t':Nat}{d':Qs}{ch:Bp}(I:Ak)(u:Un (frs X.stack) ch H H' s.heap h')(hok:HOk X.prog X.w H' h')(hg:RZ g')
  (hch:∀b∈ch,(b∈X.ex\/GO b)/\FK b/\(∀x c,FU x c->c≠b) /\ ∀p∈X.pn++pins,p.1≠b) :
  Ce H' { s with heap:=h',gens:=g',drawn:=d',toks:=t' }:=by
 obtain⟨m,⟨o,es,ep,ho,r⟩,_⟩:=id I.loc;obtain⟨sl,hL⟩:=u.any ho I.free λz=>(hch _ z).2.1 rfl;exact I.step (ch:=ch) hch (λb o hL hb hc e n=>u.keep b o e n (λz=>(KH.mp (I.stkSub b z)).elim hL hb) hc) (λb o _ _ hc e n=>u.any e n hc) (λb o hc e n=>u.free b o e n hc) (λb o hc e=>u.there b o e hc) u.tups u.frzs u.tbls (λm' hm=>by
  obtain⟨o',es',ep',ho',r'⟩:=hm;rw[ho] at ho';cases ho';exact⟨_,es',ep',hL,r'⟩) hok hg
theorem Inv.turned{t':Nat}{it:Addr}(I:Ak)(k:∀b o,b≠it->AI b->AJ b o)(hn:H it=none)(hL:FK it)
  (h1:it∈X.ex\/GO it) (h2:∀x c,FU x c->c≠it) (h3:∀p∈X.pn++pins,p.1≠it):FR H:=by
 have nit:∀b u,Aw b u->b≠it:=λb u e z=>by rw[z,hn] at e;cases e
 refine I.step (g':=s.gens) (d':=s.drawn) (ch:=[it]) Eg (λb o _ _ hc e _=>k b o (λz=>hc (by simp[z])) e) (λb o _ _ hc e _=>⟨o.slots,k b o (λz=>hc (by simp[z])) e⟩) (λ_ _ _ _ n=>n)
  (λb o hc e=>⟨o,k b o (λz=>hc (by simp[z])) e⟩) (λ_ _ e=>e) (λ_ _ _ e=>e) (λb ps e=>⟨#[],by rw[e];simp⟩) (λm hm=>?_) (λb u e=>?_) I.bare
 .have e:b=it:=by simpa using hb
  subst e;exact⟨h1,hL,h2,h3⟩
 .obtain⟨o,es,ep,ho,r⟩:=hm;exact⟨o,es,ep,k _ o (K7 hL) ho,r⟩
 .refine(I.hok b u e).stay (λc v hc q=>k c v ?_ q) (λ_ q=>q) λ_ _ q=>q;rcases hc with z | z;.rw[z];exact nit b u e
  .exact nit c _ z
theorem Inv.tok(I:Ak)(t:Nat):Fu { s with toks:=t }:=I.un (h':=s.heap) (t':=t) Un.refl I.hok
theorem Inv.kept{t':Nat}(I:Ak)(k:∀b u,Cp b u->AJ b u):FR H:=I.un (Un.kept k) (I.hok.kept k)
theorem Inv.laid{a:Addr}{o:HO}{t':Nat}(I:Ak)(k:∀b u,Cp b u->AJ b u)(hp:E7 a)(new:Lr X.prog X.w (AX a o) h' a o) :
  FR (AX a o):=I.un (Un.laid k hp (I.hok.fresh hp)) (I.hok.laid k hp new)
theorem Inv.write{x e:Addr}{o:HO}{t':Nat}(I:Ak)(mu:Mut (H x))(he:e=x\/Aw e (.own x))(k:∀b u,b≠e->Cp b u->AJ b u)(heo:∃u,AJ e u)
  (new:Lr X.prog X.w (AX x o) h' x o):FR (AX x o):=I.un (Un.write mu he k heo) (I.hok.write mu he k heo new)
theorem Inv.weak{σ':List Ek}(I:Ak)(hl:σ'.length=σ.length)(w:∀(i:Nat) v,D5 σ' v->D5 σ v):Fh X σ' H s :=
 ⟨I.ok,I.os,I.bare,I.base,let ⟨m,hn,hl'⟩:=I.loc;⟨m,hn,λi x v e1 e2 e3=>hl' i x v e1 (w i v e2) e3⟩,I.cell,I.free,I.freeC,I.pin,I.hok,hl.trans I.len⟩
theorem Inv.pins_of{pins':A7}(I:Ak)(h:∀p∈pins',Cp p.1 p.2/\H p.1=none/\FK p.1/\p.1∉X.fs /\ ∀v,p.2.data ≠ .cell v):Inv X pins' σ H s :=
 ⟨I.ok,I.os,I.bare,I.base,I.loc,I.cell,I.free,I.freeC,λp hp=>(K9.mp hp).elim (λz=>I.pin p (Ml _ z)) (h p),I.hok,I.len⟩
theorem znu{N:AC}(hN:N.Nodup){i j:Nat}{x:Str}(a:Ah N x)(b:AQ N x):i=j:=by
 obtain⟨h1,e1⟩:=Mg.mp a;obtain⟨h2,e2⟩:=Mg.mp b;exact(Zv7 hN).mp (e1.trans e2.symm)
theorem zpl{M:Nf}{A:Ks}{E:Ka->Af}{i:Nat}{x:Str}{v:V}{u:Ka}{Q:Unit->Af}(I:Ak)(hN:X.N.Nodup)(hi:Ah X.N x)(hx:Loc X.env.scope x)(r:Bi v)
  (h:∀s',Fh X (FM i v) H s'->(∃a,Qa a s.heap s'.heap/\(a=X.env.locals\/FU x a))->Q () s') (hf:Aa (X.fn x)\/E4 x .local:=by first | exact A6 | exact .inr rfl | assumption):Kw M A (storeName X.env x u) Q E s:=by
 obtain⟨m,hn,hl⟩:=id I.loc;have hcls:AL (X.env.scope.kind == .class||(X.env.scope.kind == .module&&X.env.locals != X.env.globals)):=by rw[I.ok.kind];rfl
 have hiσ:i<σ.length:=by rw[I.len];exact(Mg.mp hi).1
 have cne:=I.cne;have tracked:∀{a:Addr} {h':Heap},(∃o,AI a/\H a=none)->Qa a s.heap h'->HOk X.prog X.w H h':=λ{a h'} ha hs b ob e=>by
  obtain⟨_,_,hfree⟩:=ha;refine(I.hok b ob e).stay (λc w' hc q=>Ed c ?_ q) (λ_ q=>q) λ_ _ q=>q;rintro rfl;rcases hc with rfl | hc;.rw[hfree] at e;cases e
  .rw[hfree] at hc;cases hc
 rcases hx with hk | hk
 .refine wpAny_storeName_local hk hn (λh' hn' hs=>?_) hcls;obtain⟨oL,_,_,hoL,_⟩:=id hn;refine h _ ⟨I.ok,I.os,I.bare,⟨Gx,Gx,I.base.free,λb o e hx=>?_,I.base.tups,I.base.frzs,I.base.tbls⟩,(Ar hn' (λj y v' e1 e2 e3=>?_)),λy c e=>?_,I.free,I.freeC,λp hp=>?_,tracked ⟨oL,hoL,I.free⟩ hs,by simpa using I.len⟩ (Ar hs A6);.exact Ed b (KY (Mm Bv I.ok.above)) (I.base.keep b o e n hb hx)
  .obtain⟨sl,e1⟩:=I.base.slot b o e n hb hx;exact⟨sl,Ed b (KY (Mm Bv I.ok.above)) e1⟩
  .obtain⟨o',e1⟩:=I.base.there b o e hx;exact⟨o',Ed b (KY (Mm Bv I.ok.above)) e1⟩
  .by_cases hj:j=i
   .subst hj;rw[hi] at e1;cases e1;rw[RJ hiσ] at e2;cases e2;exact⟨u,r,.inl ⟨hk,by simp⟩⟩
   .rw[Ug CU] at e2;obtain⟨u',r',q⟩:=hl j y v' e1 e2 e3;refine(Ck u' r');rcases q with ⟨k,e⟩ | ⟨k,c,e,z⟩
    .refine .inl (BG k);have:y≠x:=λe=>hj (znu hN e1 (e ▸ hi));simp[this,e]
    .exact .inr ⟨k,c,e,z.sameBut hs (cne y c e)⟩
  .obtain⟨w',z⟩:=I.cell y c e;exact⟨w',z.sameBut hs (cne y c e)⟩
  .obtain⟨e,n,ne,nf,d⟩:=I.pin p hp;exact⟨Ed p.1 ne e,n,ne,nf,d⟩
 .have hfn:Aa (X.fn x):=by
   rcases hf with z | z;.exact z
   .rw[z] at hk;cases hk
  obtain⟨c,hc⟩:=I.ok.has x (.inl hk);obtain⟨w',z⟩:=I.cell x c hc;refine wpAny_storeName_cell I.ok.kind hk hc z (λh' hc' hs=>?_);obtain⟨oc,hoc,hocd⟩:=id z;refine h { s with heap:=h' } ⟨I.ok,I.os,I.bare,⟨Gx,Gx,I.base.free,λb o e hx=>?_,I.base.tups,I.base.frzs,I.base.tbls⟩,⟨m,hn.sameBut hs (K7 (cne x c hc)),λj y v' e1 e2 e3=>?_⟩,λy c' e=>?_,I.free,I.freeC,λp hp=>?_,tracked ⟨oc,hoc,I.freeC x c hc⟩ hs,by simpa using I.len⟩ ⟨c,hs,.inr hc⟩;.exact Ed b (KY (Mm Bv (I.ok.cab x c hfn hc))) (I.base.keep b o e n hb hx)
  .obtain⟨sl,e1⟩:=I.base.slot b o e n hb hx;exact⟨sl,Ed b (KY (Mm Bv (I.ok.cab x c hfn hc))) e1⟩
  .obtain⟨o',e1⟩:=I.base.there b o e hx;exact⟨o',Ed b (KY (Mm Bv (I.ok.cab x c hfn hc))) e1⟩
  .by_cases hj:j=i
   .subst hj;rw[hi] at e1;cases e1;rw[RJ hiσ] at e2;cases e2;exact⟨u,r,.inr ⟨.inl hk,c,hc,hc'⟩⟩
   .rw[Ug CU] at e2;obtain⟨u',r',q⟩:=hl j y v' e1 e2 e3;refine(Ck u' r');rcases q with q | ⟨k,c',e,z'⟩;.exact .inl q
    .refine .inr ⟨k,c',e,z'.sameBut hs ?_⟩;rintro rfl;exact hj (znu hN e1 (I.ok.inj _ _ _ e hc ▸ hi))
  .by_cases hcc:c'=c;.subst hcc;exact(Bb hc')
   .obtain⟨w2,z2⟩:=I.cell y c' e;exact⟨w2,z2.sameBut hs hcc⟩
  .obtain⟨e,n,ne,nf,d⟩:=I.pin p hp;refine⟨Ed p.1 ?_ e,n,ne,nf,d⟩;intro q;rw[q,hoc] at e;have q':oc=p.2:=PP e;exact d w' (by rw[<- q'];exact hocd)
theorem aL{M:Nf}{A:Ks}{E:Ka->Af}{i:Nat}{x:Str}{v:V}{u:Ka}{Q:Unit->Af}(I:Ak)(hN:X.N.Nodup)(hi:Ah X.N x)(hx:Loc X.env.scope x)(r:Bi v)
  (h:∀s',Fh X (FM i v) H s'->Q () s') (hf:Aa (X.fn x)\/E4 x .local:=by first | exact A6 | exact .inr rfl | assumption):Kw M A (storeName X.env x u) Q E s :=
 zpl I hN hi hx r (λs' I' _=>h s' I') hf
theorem Inv.call'{s':Ke}{ch:Bp}(I:Ak)(ho:s'.os=s.os)(u:Un (frs X.stack) ch H H' s.heap s'.heap)(hok:HOk X.prog X.w H' s'.heap)(hg:RZ s'.gens)
  (hch:∀b∈ch,(b∈X.ex\/GO b)/\FK b/\(∀x c,FU x c->c≠b) /\ ∀p∈X.pn++pins,p.1≠b):Ce H' s':=by
 obtain⟨h',g',d',t',o'⟩:=s';have e:o'=s.os:=ho;subst e;exact I.call (g':=g') (t':=t') (d':=d') u hok hg hch
end
noncomputable abbrev XK:=Ka->CB->A2
noncomputable abbrev St:=List Ek
noncomputable abbrev VK:=V->A2
noncomputable abbrev TE:=St->Hp->B9
noncomputable abbrev TT:=St->Hp->Aq (Bool->A2)
noncomputable abbrev TA:=St->Hp->Aq (Ai->A2)
structure Ends where
 nx:St->Hp->Prop
 rt:VK
 bk:St->Hp->Prop:=λ_ _=>False
 ct:St->Hp->Prop:=λ_ _=>False
noncomputable abbrev TS:=Ends->St->A2
noncomputable def EP(X:Cx)(pins:A7)(σ:St)(Q:VK)(u:Ka)(s':Ke):Prop:=∃v H',Ce H' s'/\Bi v/\Q v H'
noncomputable def TP(X:Cx)(pins:A7)(σ:St)(Q:Bool->A2)(b:Bool)(s':Ke):Prop:=∃H',Ce H' s'/\Q b H'
noncomputable def AP(X:Cx)(pins:A7)(σ:St)(Q:Ai->A2)(us:Am)(s':Ke):Prop:=∃vs H',Ce H' s'/\BY vs/\Q vs H'
noncomputable def SP(X:Cx)(pins:A7)(D:Ends)(f:Flow)(s':Ke):Prop :=
 match f with
 | .next=>∃σ' H',Fh X σ' H' s'/\D.nx σ' H'
 | .brk=>∃σ' H',Fh X σ' H' s'/\D.bk σ' H'
 | .cont=>∃σ' H',Fh X σ' H' s'/\D.ct σ' H'
 | .ret u=>∃v σ' H',Fh X σ' H' s'/\Bi v/\D.rt v H'
noncomputable def PE(X:Cx)(e:Expr)(t:TE):Prop :=
 ∀(pins:A7) (s:Ke) (σ:St) (H:Hp) (Q:VK),Ak->t σ H Q->B1 (Cz e) (EP X pins σ Q) s
noncomputable def PT(X:Cx)(e:Expr)(t:TT):Prop :=
 ∀(pins:A7) (s:Ke) (σ:St) (H:Hp) (Q:Bool->A2),Ak->t σ H Q->B1 (isTrue e X.env (Cz e)) (TP X pins σ Q) s
noncomputable def PW(X:Cx)(e:Expr)(t:TT):Prop :=
 ∀(whole:Sem Ka) (pins:A7) (s:Ke) (σ:St) (H:Hp) (Q:Bool->A2),Ak->t σ H Q->B1 (isTrue e X.env whole) (TP X pins σ Q) s
theorem PW.pt{X:Cx}{e:Expr}{t:TT}(h:PW X e t):PT X e t:=h _
noncomputable def PA(X:Cx)(es:List Expr)(t:TA):Prop :=
 ∀(pos:Pos) (pins:A7) (s:Ke) (σ:St) (H:Hp) (Q:Ai->A2),Ak->t σ H Q->B1 (oJ (DT pos es)) (AP X pins σ Q) s
noncomputable def PS(X:Cx)(st:Stmt)(t:TS):Prop :=
 ∀(pins:A7) (s:Ke) (σ:St) (H:Hp) (D:Ends),Ak->t D σ H->B1 (exec st X.env) (SP X pins D) s
noncomputable def PSs(X:Cx)(st:List Stmt)(t:TS):Prop :=
 ∀(pins:A7) (s:Ke) (σ:St) (H:Hp) (D:Ends),Ak->t D σ H->B1 (execs st X.env) (SP X pins D) s
theorem thn{α:Type}{t:Sem α}{Q Q':α->Af}{M:Nf}{A:Ks}{E:Ka->Af}{s:Ke}(h:Kw M A t Q E s)(hQ:∀a s,Q a s->Q' a s):Kw M A t Q' E s:=Nu h hQ λ_ _ x=>x
section
variable{X:Cx}
noncomputable def tVar(i:Nat):TE:=λσ H Q=>∃v,D5 σ v/\Q v H
noncomputable def tC(v:V):TE:=λ_ H Q=>Q v H
theorem yil{i:Nat}{x:Str}{pos:Pos}(hN:Ah X.N x)(hv:Vis X.env.scope x)(hd:Be x EE:=by decide)(hcd:Be x ("__classdict__" : Str):=by decide):Au (.Name x pos) (tVar i):=by
 intro pins s σ H Q I h;obtain⟨v,e,h⟩:=h;obtain⟨m,hn,hl⟩:=I.loc;obtain⟨u,r,l⟩:=hl i x v hN e hv;have fin:EP X pins σ Q u s:=⟨v,H,I,r,h⟩;rcases l with ⟨hk,hm⟩ | ⟨hk,c,hc,hcell⟩;.exact Zxv (wpAny_loadName_local I.ok.kind hk hn hm fin) hd
 .rcases hk with hk | hk;.exact Zxv (wpAny_loadName_cell I.ok.kind hk hc hcell fin) hd
  .exact Zxv (wpAny_loadName_free I.ok.kind hk hc hcell fin hcd) hd
theorem Lg{i j pos}:Au (.Constant Ca j pos) (tC Ca):=λ_ _ _ H _ I h=>wpAny_Constant_int ⟨Ca,H,DH,(AY _),h⟩
theorem Uw{b j pos}:Au (.Constant (.bool b) j pos) (tC (.bl b)):=λ_ _ _ H _ I h=>Constant_bool (Bj (.bl b) H I h)
theorem Ux{j pos}:Au (.Constant .none j pos) (tC .non):=λ_ _ _ H _ I h=>Constant_none (Bj .non H I h)
theorem Mf{x j pos}:Au (.Constant (.str x) j pos) (tC (.str x)):=λ_ _ _ H _ I h=>Calls.Constant_str ⟨.str x,H,DH,(AY _),h⟩
noncomputable def Gl(X:Cx)(x:Str):Prop:=Ab (X.env.kindOf x) .globalImplicit
theorem X7{E:Ka->Af}{pins:A7}{s:Ke}{σ:St}{H:Hp}{x:Str}{u:Ka}{pos:Pos}{Q:Ka->Af}(I:Ak)(hg:Gl X x)(hm:Ab (X.mg x) u)(h:Q u s)
  (hd:Be x EE:=by decide):ET X.A (Cz (.Name x pos)) Q E s :=
 Zrs I.ok.kind hg (Calls.loadGlobal_global (by rw[I.ok.glob];exact I.mod.glob.keeps I.bk) hm h) hd
theorem Uy{E:Ka->Af}{pins:A7}{s:Ke}{σ:St}{H:Hp}{x:Str}{u:Ka}{pos:Pos}{Q:Ka->Af}(I:Ak)(hg:Gl X x)(hm:X.mg x=none)(hv:Ab (XC x) u)(h:Q u s)
  (hn:x ≠ "__name__" := by decide) (hd:Be x EE:=by decide):ET X.A (Cz (.Name x pos)) Q E s:=by
 obtain⟨mb,h1,h2⟩:=I.mod.blt;exact Zrs I.ok.kind hg (Calls.loadGlobal_builtin (by rw[I.ok.glob];exact I.mod.glob.keeps I.bk) hm (by rw[I.ok.blt];exact h1.keeps I.bk) ((h2 x hn).trans hv) h) hd
theorem aM{x:Str}{v:V}{u:Ka}{pos:Pos}(hg:Gl X x)(hm:Ab (X.mg x) u)(r:Bi v)(hd:Be x EE:=by decide):Au (.Name x pos) (tC v) :=
 λ_ _ _ H _ I h=>X7 I hg hm ⟨v,H,I,r,h⟩ hd
theorem X8{x:Str}{v:V}{u:Ka}{pos:Pos}(hg:Gl X x)(hm:X.mg x=none)(hv:Ab (XC x) u)(r:Bi v)(hn:x ≠ "__name__" := by decide)(hd:Be x EE:=by decide):Au (.Name x pos) (tC v) :=
 λ_ _ _ H _ I h=>Uy I hg hm hv ⟨v,H,I,r,h⟩ hn hd
variable{a b:Expr}{ta tb:TE}{pos:Pos}
noncomputable def PC(X:Cx)(op:Z4)(a b:Expr)(t:TE):Prop :=
 ∀(pins:A7) (s:Ke) (σ:St) (H:Hp) (Q:VK),Ak->t σ H Q ->
  B1 (Cz a) (λv s₁=>B1 (Cz b) (λu s₂=>B1 (PX op v u) (EP X pins σ Q) s₂) s₁) s
noncomputable def tB(t:TE):TT:=λσ H Q=>t σ H λx H1=>∃c,x= .bl c/\Q c H1
theorem zyd{op:Z4}{t:TE}(h:PC X op a b t)(h1:AL (ZW op b):=by first | exact nobehind _ (by decide) (by decide) | rfl):PT X (.Compare a [op] [b] pos) (tB t):=by
 intro pins s σ H Q I hw;refine Zvv (thn (h pins s σ H _ I hw) λv s1 h1=>thn h1 λu s2 h2=>thn h2 λc s3 hz9=>?_) h1;obtain⟨x,H1,I1,r1,q1⟩:=hz9;obtain⟨d,rfl,q⟩:=q1;cases r1;exact Ui ⟨H1,I1,q⟩
theorem QL{e:Expr}{t:TE}(h:Au e t)(he:∀whole,isTrue e X.env whole=(do let v <- whole;Um e.pos;Ti [v] (truthy v)):=by intro _;rfl):PT X e (tB t):=by
 intro pins s σ H Q I hw;refine isTrue_plain (thn (h pins s σ H _ I hw) FI) (he _);obtain⟨x,H1,I1,r1,q1⟩:=hz9;obtain⟨d,rfl,q⟩:=q1;cases r1;exact Ui ⟨H1,I1,q⟩
variable{tA tB':TT}{rest:List Expr}
noncomputable def tAnd(t u:TT):TT:=λσ H Q=>t σ H λc H1=>Ds c (u σ H1 Q) (Q false H1)
noncomputable def tOr(t u:TT):TT:=λσ H Q=>t σ H λc H1=>Ds c (Q true H1) (u σ H1 Q)
noncomputable def tNot(t:TT):TT:=λσ H Q=>t σ H λc H1=>Q (!c) H1
theorem pN(ha:PT X a tA):PW X (.BoolOp .And [a] pos) tA:=by
 intro wh pins s σ H Q I h;refine isTrue_and (thn (ha pins s σ H Q I h) λc s1 e=>?_);cases c with
 | true=>exact isTrue_and_nil e
 | false=>exact e
theorem Yb(ha:PT X a tA):PW X (.BoolOp .Or [a] pos) tA:=by
 intro wh pins s σ H Q I h;refine isTrue_or (thn (ha pins s σ H Q I h) λc s1 e=>?_);cases c with
 | false=>exact isTrue_or_nil e
 | true=>exact e
theorem pO(ha:PT X a tA)(hb:PW X (.BoolOp .And (b::rest) pos) tB'):PW X (.BoolOp .And (a::b::rest) pos) (tAnd tA tB'):=by
 intro wh pins s σ H Q I h;refine isTrue_and (thn (ha pins s σ H _ I h) λc s1 hz9=>?_);obtain⟨H1,I1,q1⟩:=hz9;cases c with
 | true=>exact hb wh pins s1 σ H1 Q I1 q1
 | false=>exact⟨H1,I1,q1⟩
theorem R4(ha:PT X a tA)(hb:PW X (.BoolOp .Or (b::rest) pos) tB'):PW X (.BoolOp .Or (a::b::rest) pos) (tOr tA tB'):=by
 intro wh pins s σ H Q I h;refine isTrue_or (thn (ha pins s σ H _ I h) λc s1 hz9=>?_);obtain⟨H1,I1,q1⟩:=hz9;cases c with
 | true=>exact⟨H1,I1,q1⟩
 | false=>exact hb wh pins s1 σ H1 Q I1 q1
theorem Uz(ha:PT X a tA):PT X (.UnaryOp .Not a pos) (tNot tA):=by
 intro pins s σ H Q I h;exact isTrue_not (ha pins s σ H (λc H1=>Q (!c) H1) I h)
noncomputable def ykp(ta tb:TE):TE:=λσ H Q=>ta σ H λx H1=>∃c,x= .bl c/\Ds c (tb σ H1 Q) (Q (.bl false) H1)
noncomputable def yks(ta:TE):TE:=λσ H Q=>ta σ H λx H1=>∃c,x= .bl c/\Q (.bl (!c)) H1
theorem yek{op}{t:TE}(h:Au a t):Au (.BoolOp op [a] pos) t:=λpins s σ H Q I hw=>BoolOp_one (h pins s σ H Q I hw)
theorem zxk(ha:Au a ta)(hb:Au (.BoolOp .And (b::rest) pos) tb):Au (.BoolOp .And (a::b::rest) pos) (ykp ta tb):=by
 intro pins s σ H Q I h;refine BoolOp_and (thn (ha pins s σ H _ I h) FI);obtain⟨x,H1,I1,r1,q1⟩:=hz9;obtain⟨c,rfl,q1⟩:=q1;cases r1;refine Ui ?_;cases c with
 | true=>exact hb pins s1 σ H1 Q I1 q1
 | false=>exact(Bj (.bl false) H1 I1 q1)
theorem ykg(ha:Au a ta):Au (.UnaryOp .Not a pos) (yks ta):=by
 intro pins s σ H Q I h;refine UnaryOp_ (thn (ha pins s σ H _ I h) FI);obtain⟨x,H1,I1,r1,q1⟩:=hz9;obtain⟨c,rfl,q1⟩:=q1;cases r1;exact not_of (Ui (Bj (.bl (!c)) H1 I1 q1))
end
noncomputable def SqL(K:Kd)(H:Hp)(a:Addr)(xs:Ai):Prop :=
 Rd H a (.lst xs) \/
  ∃(o:Obj) (its:BT) (n:Nat),Ab (K.lookup a) o/\o.cls= FL /\ o.dict=none/\o.data= .seq its n/\AD its.size/\Vals xs its.toList
noncomputable def SqT(K:Kd)(H:Hp)(a:Addr)(xs:Ai):Prop :=
 Rd H a (.tup xs) \/
  ∃(o:Obj) (its:BT) (n:Nat),Ab (K.lookup a) o/\o.cls= EU /\ o.data= .seq its n/\AD its.size/\Vals xs its.toList
noncomputable def absV:Ka->Ek
 | .none=>some .non
 | .bool b=>some (.bl b)
 | .int i _=>some Ca
 | .str x _=>some (.str x)
 | .bytes b _=>some (.byt b)
 | .float b _=>some (.flt b)
 | .ref a=>some Av
 | .type n=>some (.ty n)
 | _=>none
theorem RelV.abs{x:V}{u:Ka}(r:Bi x):Ab (absV u) x:=by
 cases x with
 | non=>cases r;rfl
 | bl _=>cases r;rfl
 | int _=>obtain⟨t,rfl⟩:=r;rfl
 | str _=>obtain⟨t,rfl⟩:=r;rfl
 | byt _=>obtain⟨t,rfl⟩:=r;rfl
 | flt _=>obtain⟨t,rfl⟩:=r;rfl
 | ref _=>cases r;rfl
 | ty _=>cases r;rfl
theorem RelV.inj{x y:V}{u:Ka}(r:Bi x)(q:Bi y):x=y:=PP (r.abs.symm.trans q.abs)
theorem Vals.inj:∀{xs ys:Ai} {us:Am},BY xs->BY ys->xs=ys
 | _,_,_,.nil,.nil=>rfl
 | _,_,_,.cons r t,.cons r' t'=>by rw[r.inj r',Vals.inj t t']
section
variable{X:Cx}{pins:List (Addr×Obj)}{σ:St}{H:Hp}{s:Ke}{a:Addr}{xs ys:List V}
theorem SqL.of{K:Kd}(h:Ez a xs):A8 H a xs:=.inl (.inl h)
theorem SqT.of{K:Kd}(h:Di a xs):SqT K H a xs:=.inl (.inl h)
theorem Inv.list(I:Ak)(h:SqL X.K H a xs):∃its:Am,Vals xs its/\PlainL s.heap a its.toArray/\AD xs.length:=by
 rcases h with h | ⟨o,its,n,hk,hc,hd,hs,hz,r⟩
 .obtain⟨z,its,n,r,e⟩:=h.ok I.hok;exact⟨its,r,⟨_,n,e,rfl,rfl,rfl⟩,z⟩
 .refine⟨its.toList,r,⟨o,n,I.kIn a o hk,hc,hd,by simpa using hs⟩,?_⟩;have e:=r.length;simp only[NZ] at e;omega
theorem Inv.tuple(I:Ak)(h:SqT X.K H a xs):∃its:Am,Vals xs its/\IsTup s.heap a its.toArray/\AD xs.length:=by
 rcases h with h | ⟨o,its,n,hk,hc,hs,hz,r⟩
 .obtain⟨z,its,r,p⟩:=h.ok I.hok;exact⟨its,r,p,z⟩
 .refine⟨its.toList,r,⟨o,I.kIn a o hk,hc,n,by simpa using hs⟩,?_⟩;have e:=r.length;simp only[NZ] at e;omega
theorem Inv.list_inj(I:Ak)(h:SqL X.K H a xs)(h':SqL X.K H a ys):xs=ys:=by
 obtain⟨its,r,⟨o,n,e,_,_,d⟩,_⟩:=I.list h;obtain⟨its',r',⟨o',n',e',_,_,d'⟩,_⟩:=I.list h';rw[e] at e';cases e';rw[d] at d';injection d' with d1 _;have:its=its':=by simpa using congrArg Zxs d1
 subst this;exact r.inj r'
theorem Inv.tuple_inj(I:Ak)(h:SqT X.K H a xs)(h':SqT X.K H a ys):xs=ys:=by
 obtain⟨its,r,⟨o,e,_,n,d⟩,_⟩:=I.tuple h;obtain⟨its',r',⟨o',e',_,n',d'⟩,_⟩:=I.tuple h';rw[e] at e';cases e';rw[d] at d';injection d' with d1 _;have:its=its':=by simpa using congrArg Zxs d1
 subst this;exact r.inj r'
end
noncomputable abbrev Cx.wish(X:Cx)(E:Ka->Af):Cx:={ X with xe:=E }
noncomputable abbrev Cx.nox(X:Cx):Cx:=X.wish D1
theorem Cx.Ok.wish{X:Cx}(ok:X.Ok)(E:Ka->Af):(X.wish E).Ok :=
 ⟨ok.mod,ok.kind,ok.glob,ok.blt,ok.above,ok.inj,ok.has,ok.cab,ok.hd,ok.frames,ok.stk,ok.exf,ok.bs,ok.bsz,ok.noex,ok.exfs,ok.funs,ok.frf⟩
theorem Cx.Ok.unwish{X:Cx}{E:Ka->Af}(ok:(X.wish E).Ok):X.Ok :=
 ⟨ok.mod,ok.kind,ok.glob,ok.blt,ok.above,ok.inj,ok.has,ok.cab,ok.hd,ok.frames,ok.stk,ok.exf,ok.bs,ok.bsz,ok.noex,ok.exfs,ok.funs,ok.frf⟩
section
variable{X:Cx}{pins:List (Addr×Obj)}{σ:St}{H:Hp}{s:Ke}{E:Ka->Ke->Prop}
theorem Inv.wish(I:Ak)(E:Ka->Af):Fh (X.wish E) σ H s:=⟨I.ok.wish E,I.os,I.bare,I.base,I.loc,I.cell,I.free,I.freeC,I.pin,I.hok,I.len⟩
theorem Inv.unwish(I:Fh (X.wish E) σ H s):Ak:=⟨I.ok.unwish,I.os,I.bare,I.base,I.loc,I.cell,I.free,I.freeC,I.pin,I.hok,I.len⟩
theorem SP.unwish{D:Ends}{f:Flow}{s':Ke}(h:SP (X.wish E) pins D f s'):SP X pins D f s':=by
 cases f with
 | next=>obtain⟨σ',H',I,q⟩:=h;exact⟨σ',H',I.unwish,q⟩
 | brk=>obtain⟨σ',H',I,q⟩:=h;exact⟨σ',H',I.unwish,q⟩
 | cont=>obtain⟨σ',H',I,q⟩:=h;exact⟨σ',H',I.unwish,q⟩
 | ret u=>obtain⟨v,σ',H',I,r,q⟩:=h;exact⟨v,σ',H',I.unwish,r,q⟩
theorem PE.nox{e:Expr}{t:TE}(h:PE X.nox e t):Au e t:=λpins s σ H Q I hw =>
 D2 (h pins s σ H Q (I.wish _) hw) (λ_ _ ⟨v,H',I',r,q⟩=>⟨v,H',I'.unwish,r,q⟩) (Nb z)
theorem PT.nox{e:Expr}{t:TT}(h:PT X.nox e t):PT X e t:=λpins s σ H Q I hw =>
 D2 (h pins s σ H Q (I.wish _) hw) (λ_ _ ⟨H',I',q⟩=>⟨H',I'.unwish,q⟩) (Nb z)
theorem PSs.nox{st:List Stmt}{t:TS}(h:PSs X.nox st t):PSs X st t:=λpins s σ H D I hw =>
 D2 (h pins s σ H D (I.wish _) hw) (λ_ _ q=>q.unwish) (Nb z)
end
section
variable{X:Cx}{st:Stmt}{rest:List Stmt}{t u:TS}{e:Expr}{te:TE}{pos:Pos}
noncomputable def yh4:TS:=λD σ H=>D.nx σ H
noncomputable def tSeq(t u:TS):TS:=λD σ H=>t { D with nx:=u D } σ H
theorem za6:PSs X [] yh4:=λ_ _ σ H _ I h=>Xv ⟨σ,H,I,h⟩
theorem Kl(h1:PS X st t)(h2:PSs X rest u):PSs X (st::rest) (tSeq t u):=by
 intro pins s σ H D I h;refine zL (thn (h1 pins s σ H { D with nx:=u D } I h) λf s1 q=>?_);cases f with
 | next =>
  obtain⟨σ',H',I',q⟩:=q;exact h2 pins s1 σ' H' D I' q
 | ret v=>exact q
 | brk=>exact q
 | cont=>exact q
theorem Le(h1:PS X st t):PSs X [st] t:=by
 intro pins s σ H D I h;refine zL (thn (h1 pins s σ H D I h) λf s1 q=>?_);cases f with
 | next=>exact Xv q
 | ret v=>exact q
 | brk=>exact q
 | cont=>exact q
theorem Inv.quiet{pins:A7}{σ:St}{H:Hp}{s:Ke}(I:Ak):AL (interactive X.env):=by simp[interactive,I.ok.kind]
noncomputable def Wd(te:TE):TS:=λD σ H=>te σ H λ_ H1=>D.nx σ H1
theorem O2(he:Au e te)(hs:Ul e none pos.line X.env=pure false:=by rfl):PS X (.Expr e pos) (Wd te):=by
 intro pins s σ H D I h;exact wpAny_Expr_any (thn (he pins s σ H _ I h) λv s1 ⟨x,H1,I1,r1,q1⟩=>⟨σ,H1,I1,q1⟩) I.quiet hs
noncomputable def tRet(te:TE):TS:=λD σ H=>te σ H D.rt
theorem kI(he:Au e te):PS X (.Return (some e) pos) (tRet te):=by
 intro pins s σ H D I h;exact wpAny_Return_some (thn (he pins s σ H _ I h) λv s1 ⟨x,H1,I1,r1,q1⟩=>⟨x,σ,H1,I1,r1,q1⟩)
noncomputable def tIfS(c:TT)(t u:TS):TS:=λD σ H=>c σ H λb H1=>Ds b (t D σ H1) (u D σ H1)
theorem xB{c:Expr}{a b:List Stmt}{tc:TT}(hc:PT X c tc)(ha:PSs X a t)(hb:PSs X b u):PS X (.If c a b pos) (tIfS tc t u):=by
 intro pins s σ H D I h;refine wpAny_If (thn (hc pins s σ H _ I h) λd s1 hz9=>?_);obtain⟨H1,I1,q1⟩:=hz9;cases d with
 | true=>exact ha pins s1 σ H1 D I1 q1
 | false=>exact hb pins s1 σ H1 D I1 q1
end
noncomputable abbrev TG:=V->St->Hp->Aq (St->A2)
noncomputable abbrev TGs:=Ai->St->Hp->Aq (St->A2)
noncomputable def PG(X:Cx)(target:Expr)(t:TG):Prop :=
 ∀(pins:A7) (s:Ke) (σ:St) (H:Hp) (v:V) (u:Ka) (Q:St->A2),Ak->Bi v->t v σ H Q ->
  B1 (XN target X.env u) (λ_ s'=>∃σ' H',Fh X σ' H' s'/\Q σ' H') s
noncomputable def PGs(X:Cx)(ts:List Expr)(t:TGs):Prop :=
 ∀(pins:A7) (s:Ke) (σ:St) (H:Hp) (vs:Ai) (us:Am) (Q:St->A2),Ak->BY vs->t vs σ H Q ->
  B1 (assignInOrder ((Z0 ts X.env).map (·.2)) us) (λ_ s'=>∃σ' H',Fh X σ' H' s'/\Q σ' H') s
section
variable{X:Cx}{pos:Pos}
noncomputable def Ob(i:Nat):TG:=λv σ H Q=>Q (FM i v) H
theorem jZ{i:Nat}{x:Str}(hN:X.N.Nodup)(hi:Ah X.N x)(hx:Loc X.env.scope x)(hf:Aa (X.fn x)\/E4 x .local:=by first | exact A6 | exact .inr rfl | assumption):PG X (.Name x pos) (Ob i):=by
 intro pins s σ H v u Q I r h;exact Zxu (aL I hN hi hx r (λs' I'=>⟨_,H,I',h⟩) hf)
noncomputable def gNil:TGs:=λvs σ H Q=>vs=[]/\Q σ H
noncomputable def yha(t:TG)(u:TGs):TGs:=λvs σ H Q=>∃v r,vs=v::r/\t v σ H λσ' H'=>u r σ' H' Q
theorem R5:PGs X [] gNil:=by
 intro pins s σ H vs us Q I r h;obtain⟨e,h⟩:=h;subst e;cases r;exact assignInOrder_nil ⟨σ,H,I,h⟩
theorem Nq{e:Expr}{es:List Expr}{t:TG}{u:TGs}(h1:PG X e t)(h2:PGs X es u)
  (hs:(Z0 (e::es) X.env).map (·.2)=XN e X.env::(Z0 es X.env).map (·.2):=by rfl):PGs X (e::es) (yha t u):=by
 intro pins s σ H vs us Q I r h;obtain⟨v,vr,e1,h⟩:=h;subst e1;cases r with
 | cons r rr =>
  rw[hs];refine assignInOrder_cons (thn (h1 pins s σ H _ _ _ I r h) λ_ s1 hz9=>?_);obtain⟨σ1,H1,I1,q1⟩:=hz9;exact h2 pins s1 σ1 H1 _ _ Q I1 rr q1
noncomputable def gTup(K:Kd)(n:Nat)(t:TGs):TG:=λv σ H Q=>∃a xs,v= Av/\SqT K H a xs/\xs.length=n/\t xs σ H Q
theorem R6{es:List Expr}{k:Nat}{t:TGs}{n:Nat}(hc:Ex)(h:PGs X es t)
  (hn:CJ (Z0 es X.env) n:=by rfl) (hst:(Z0 es X.env).findIdx? (·.1)=none:=by rfl):PG X (.Tuple es k pos) (gTup X.K n t):=by
 intro pins s σ H v u Q I r hw;obtain⟨a,xs,e1,hq,hl,hw⟩:=hw;subst e1;cases r;obtain⟨its,rv,ht,hz⟩:=I.tuple hq;refine assign_Tuple_tuple D3 ht (by simp[hn,<- hl,rv.length]) hst λh' hx=>?_;have I1:Fu { s with heap:=h' }:=I.kept (t':=s.toks) λb o e=>hx b o (KY Bv) e;exact h pins _ σ H xs _ Q I1 (by simpa using rv) hw
noncomputable def tAsg(te:TE)(g:TG):TS:=λD σ H=>te σ H λx H1=>g x σ H1 D.nx
theorem pP{i:Nat}{x:Str}{e:Expr}{te:TE}{pos':Pos}(hN:X.N.Nodup)(hi:Ah X.N x)(hx:Loc X.env.scope x)(he:Au e te)(hs:Ul e (some (.Name x pos')) pos.line X.env=pure false:=by rfl)(hf:Aa (X.fn x)\/E4 x .local:=by first | exact A6 | exact .inr rfl | assumption) :
  PS X (.Assign [.Name x pos'] e pos) (tAsg te (Ob i)):=by
 intro pins s σ H D I h;refine Zxw (thn (he pins s σ H _ I h) FI) hs;obtain⟨y,H1,I1,r1,q1⟩:=hz9;exact aL I1 hN hi hx r1 (λs2 I2=>⟨_,H1,I2,q1⟩) hf
end
section
variable{X:Cx}{pos:Pos}
noncomputable def ye7(c:TT)(tb:TS):TS:=λD σ H=>∃W:Nat->St->A2,(∃m,W m σ H) /\ ∀m σ H,W m σ H ->
 c σ H λb H1=>Ds b (∃N:St->A2,(∀σ' H',N σ' H'-> ∃m',m'<m/\W m' σ' H')/\tb { D with nx:=N,ct:=N,bk:=D.nx } σ H1) (D.nx σ H1)
theorem zug{c:Expr}{body:List Stmt}{tc:TT}{tb:TS}(hp:Zi9 (Gc X.w) X.A X.env X.xe)(hc:PT X c tc)(hb:PSs X body tb):PS X (.While c body [] pos) (ye7 tc tb):=by
 intro pins s σ H D I h;obtain⟨W,⟨m0,w0⟩,turn⟩:=h;refine wpAny_While (codeAny_whileLoop (λn s'=>∃σ' H',Fh X σ' H' s'/\W n σ' H') ?_ m0 ⟨σ,H,I,w0⟩);rintro n s1 ⟨σ1,H1,I1,w1⟩;refine VP hp (thn (hc pins s1 σ1 H1 _ I1 (turn n σ1 H1 w1)) λb s2 hz9=>?_);obtain⟨H2,I2,q2⟩:=hz9;cases b with
 | true =>
  obtain⟨N,hN,q2⟩:=q2;rw[BR];refine VP hp (thn (hb pins s2 σ1 H2 _ I2 q2) λf s3 q3=>?_);cases f with
  | next =>
   obtain⟨σ3,H3,I3,n3⟩:=q3;obtain⟨m',hm,w3⟩:=hN σ3 H3 n3;exact⟨m',hm,σ3,H3,I3,w3⟩
  | cont =>
   obtain⟨σ3,H3,I3,n3⟩:=q3;obtain⟨m',hm,w3⟩:=hN σ3 H3 n3;exact⟨m',hm,σ3,H3,I3,w3⟩
  | brk=>exact q3
  | ret v=>exact q3
 | false =>
  rw[if_neg Mh];exact Xv ⟨σ1,H2,I2,q2⟩
end
structure It where
 go:Nat->Hp->Prop
 yld:Nat->Hp->V->Hp->Prop
 stop:Nat->Hp->Prop
noncomputable def FpOk(X:Cx)(pins:A7)(H:Hp)(b:Addr):Prop :=
 H b=none/\FK b/\b∉X.fs/\(b∈X.ex\/GO b)/\(∀x c,FU x c->c≠b) /\ ∀p∈X.pn++pins,p.1≠b
theorem Inv.fpOk{X:Cx}{pins:A7}{σ:St}{H H':Hp}{s:Ke}{b:Addr}(I:Ak)(hb:E7 b)(hn:H' b=none):D7 X H' b:=by
 refine⟨hn,Pn (Mm I.lt hb),I.nofs hb,.inr (Nk I.sz hb),λx c e z=>?_,λp hp z=>?_⟩
 .obtain⟨v,q⟩:=I.cell x c e;exact Fl (Mm q.lt (by rw[z];exact hb)) _
 .exact Fl (Mm (Ld (I.pin p hp).1) (by rw[z];exact hb)) _
structure Turn(P:Ko)(w:Km)(K:Kd)(tg:Expr)(J:It)(fp:List Addr)(it:Addr)(tn:Nat->Heap->Prop):Prop where
 mem:it∈fp
 obj:∀i h,tn i h-> ∀b∈fp,∃o,h.get? b=some o /\ ∀v,o.data ≠ .cell v
 keep:∀i h h',tn i h->(∀b∈fp,∀o,h.get? b=some o->h'.get? b=some o)->tn i h'
 item:∀(X:Cx),X.prog=P->X.w=w->X.K=K->X.calm=true-> ∀(i:Nat) (pins:List (Addr×Obj)) (s:Ke) (σ:St) (H:Hp) (E:Ka->Ke->Prop),Inv X pins σ H s->(∀b∈fp,FpOk X pins H b)->tn i s.heap->J.go i H ->
  Kw (Pz P w) X.A (Ot (.ref it)) (λr s1=>∃u,r=some u /\
   Kw (Pz P w) X.A (nG tg (.ref it) u) (λ_ s2=>∃x H',Inv X pins σ H' s2/\RelV x u/\J.yld i H x H'/\tn (i+1) s2.heap /\ ∀b∈fp,H' b=none) E s1) E s
 done:∀(X:Cx),X.prog=P->X.w=w->X.K=K->X.calm=true-> ∀(i:Nat) (pins:List (Addr×Obj)) (s:Ke) (σ:St) (H:Hp) (E:Ka->Ke->Prop),Inv X pins σ H s->(∀b∈fp,FpOk X pins H b)->tn i s.heap->J.stop i H ->
  Kw (Pz P w) X.A (Ot (.ref it)) (λr s1=>r=none/\Inv X pins σ H s1) E s
 self:∀(A:Ks) (i:Nat) (s:Ke) (Q:Ka->Ke->Prop) (E:Ka->Ke->Prop),tn i s.heap->Q (.ref it) s->Kw (Pz P w) A (V8 (.ref it)) Q E s
noncomputable abbrev TI:=St->Hp->Aq (It->A2)
noncomputable def PIE(X:Cx)(pins:A7)(σ:St)(tg:Expr)(R:It->A2)(itv:Ka)(s2:Ke):Prop :=
 ∃(it:Addr) (fp:Bp) (tn:Nat->Aq Heap) (J:It) (H':Hp),itv= .ref it/\Ce H' s2/\Turn X.prog X.w X.K tg J fp it tn/\tn 0 s2.heap/\(∀b∈fp,D7 X H' b)/\R J H'
noncomputable def PI(X:Cx)(tg iter:Expr)(wi:TI):Prop :=
 ∀(pins:A7) (s:Ke) (σ:St) (H:Hp) (R:It->A2),Ak->wi σ H R ->
  B1 (Cz iter) (λv s1=>B1 (V8 v) (PIE X pins σ tg R) s1) s
theorem ygy {M : Nf} {A : Ks} {E : Ka -> Ke -> Prop} {s : Ke} {tg : Expr} {it : Addr} {u : Ka} {o : Obj} {n : String} {vs : BT} {Q : Unit -> Ke -> Prop} (ho : Cw (s.heap.get? it) o) (hc : o.cls = .type n) (hd : o.data = .fields vs)
    (hn:AL (["enumerate", "zip", "dict_itemiterator", "dict_reverseitemiterator", "odict_iterator", "itertools.zip_longest", "itertools.pairwise"].contains n)) (hQ:Q () s):Kw M A (nG tg (.ref it) u) Q E s:=by
  unfold nG;cases tg <;> first
    | exact Kf hQ
    | (cases u <;> first
        | exact Kf hQ
        | (refine Kc (nW ho ?_);rw[hc,hd];show Kw M A (Ds (["enumerate", "zip", "dict_itemiterator", "dict_reverseitemiterator", "odict_iterator", "itertools.zip_longest", "itertools.pairwise"].contains n&&vs[0]? == some (Ma _)) _ _) Q E s;rw[if_neg (by intro h;rw[hn,lB] at h;cases h)];exact Kf hQ))
noncomputable def Itl(K:Kd)(a:Addr):It :=
 ⟨λi H=>∃xs x,A8 H a xs/\Ah xs x,λi H x H'=>H'=H /\ ∀xs,A8 H a xs->Ah xs x,λi H=>∃xs,A8 H a xs/\xs.length<=i⟩
noncomputable def Itt(K:Kd)(a:Addr):It :=
 ⟨λi H=>∃xs x,SqT K H a xs/\Ah xs x,λi H x H'=>H'=H /\ ∀xs,SqT K H a xs->Ah xs x,λi H=>∃xs,SqT K H a xs/\xs.length<=i⟩
noncomputable def Itr(lo:Int)(n:Nat):It:=⟨λi _=>i<n,λi H x H'=>H'=H/\x= .int (lo+i),λi _=>n<=i⟩
theorem zxg{P:Ko}{w:Km}{K:Kd}{tg:Expr}(a it:Addr):Turn P w K tg (Itl K a) [it] it (λi h=>h.IsListIter it a i) where
 mem:=by simp
 obj:=λi h st b hb=>by
  have e:b=it:=by simpa using hb
  subst e;obtain⟨o,e,c,d⟩:=st;exact(CK e (λv z=>by rw[d] at z;cases z))
 keep:=λi h h' st k=>st.at λo e=>Eu it o e
 item:=by
  intro X hP hw hK hc i pins s σ H E I hf st hg;subst hP hw hK;obtain⟨xs,x,hq,hx⟩:=hg;obtain⟨its,rv,p,hz⟩:=EL;obtain⟨u,hu,ru⟩:=rv.get hx;obtain⟨f0,f1,f2,f3,f4,f5⟩:=hf it (by simp);refine Zu8 st p.isList (x:=u) (by simpa using hu) λh' st' sb=>?_;have I1:Fu { s with heap:=h' }:=I.turned (t':=s.toks) (Gm (sb.2 b hb) e) f0 f1 f3 f4 f5;obtain⟨o,e,c,d⟩:=id st';exact(By u (ygy (s:={ s with heap:=h' }) e c d (by decide) ⟨x,H,I1,ru,(CW (λys hy=>by rw[I.list_inj hy hq];exact hx)),st',λb hb=>(hf b hb).1⟩))
 done:=by
  intro X hP hw hK hc i pins s σ H E I hf st hg;subst hP hw hK;obtain⟨xs,hq,hx⟩:=hg;obtain⟨its,rv,p,hz⟩:=EL;obtain⟨f0,f1,f2,f3,f4,f5⟩:=hf it (by simp);have hl:=rv.length;exact Zvu D3 st p.isList (by simp;omega) λh' eb=>(CW (I.turned (t':=s.toks) (λb o hb e=>eb b o hb e) f0 f1 f3 f4 f5))
 self:=λ_ _ _ _ _ st h=>wpAny_pyIter_listiter st h
theorem zv2{P:Ko}{w:Km}{K:Kd}{tg:Expr}(a it:Addr):Turn P w K tg (Itt K a) [it] it (λi h=>h.IsTupleIter it a i) where
 mem:=by simp
 obj:=λi h st b hb=>by
  have e:b=it:=by simpa using hb
  subst e;obtain⟨o,e,c,d⟩:=st;exact(CK e (λv z=>by rw[d] at z;cases z))
 keep:=λi h h' st k=>st.at λo e=>Eu it o e
 item:=by
  intro X hP hw hK hc i pins s σ H E I hf st hg;subst hP hw hK;obtain⟨xs,x,hq,hx⟩:=hg;obtain⟨its,rv,p,hz⟩:=I.tuple hq;obtain⟨u,hu,ru⟩:=rv.get hx;obtain⟨f0,f1,f2,f3,f4,f5⟩:=hf it (by simp);refine wpAny_pyNext_tuple_item st (show s.heap.IsTuple a its.toArray from p) (x:=u) (by simpa using hu) λh' st' sb=>?_;have I1:Fu { s with heap:=h' }:=I.turned (t':=s.toks) (Gm (sb.2 b hb) e) f0 f1 f3 f4 f5;obtain⟨o,e,c,d⟩:=id st';exact(By u (ygy (s:={ s with heap:=h' }) e c d (by decide) ⟨x,H,I1,ru,(CW (λys hy=>by rw[I.tuple_inj hy hq];exact hx)),st',λb hb=>(hf b hb).1⟩))
 done:=by
  intro X hP hw hK hc i pins s σ H E I hf st hg;subst hP hw hK;obtain⟨xs,hq,hx⟩:=hg;obtain⟨its,rv,p,hz⟩:=I.tuple hq;obtain⟨f0,f1,f2,f3,f4,f5⟩:=hf it (by simp);have hl:=rv.length;exact wpAny_pyNext_tuple_end D3 st (show s.heap.IsTuple a its.toArray from p) (by simp;omega) λh' eb=>(CW (I.turned (t':=s.toks) (λb o hb e=>eb b o hb e) f0 f1 f3 f4 f5))
 self:=λ_ _ _ _ _ st h=>wpAny_pyIter_tupleiter st h
theorem zve{P:Ko}{w:Km}{K:Kd}{tg:Expr}(it:Addr)(lo:Int)(n:Nat):Turn P w K tg (Itr lo n) [it] it (λi h=>IsRangeIter h it (lo+(i:Nat)*1) ((n:Int) - (i:Nat)) 1) where
 mem:=by simp
 obj:=λi h st b hb=>by
  have e:b=it:=by simpa using hb
  subst e;exact(Ar st (λv z=>by
   have z':Data.fields _=Data.cell v:=z;cases z'))
 keep:=λi h h' st k=>Eu it _ st
 item:=by
  intro X hP hw hK hc i pins s σ H E I hf st hg;subst hP hw hK;obtain⟨f0,f1,f2,f3,f4,f5⟩:=hf it (by simp);have W:=Walks.range (prog:=X.prog) (w:=X.w) D3 it lo 1 n;refine W.item i s _ _ hg st λv h' tk hv st' kk=>?_;obtain⟨t,rfl⟩:=hv;have I1:Fu { s with heap:=h',toks:=tk }:=I.turned (λb o hb e=>kk b o (by simpa using hb) e) f0 f1 f3 f4 f5;refine(Ar rfl (ygy (s:={ s with heap:=h',toks:=tk }) (n:="range_iterator") st' rfl rfl (by decide) ⟨.int (lo+i),H,I1,(BG t),De,st',λb hb=>(hf b hb).1⟩));rw[Int.mul_one]
 done:=by
  intro X hP hw hK hc i pins s σ H E I hf st hg;subst hP hw hK;obtain⟨f0,f1,f2,f3,f4,f5⟩:=hf it (by simp);exact wpAny_pyNext_range_end D3 st (by have:n<=i:=hg;omega) λh' eb=>(CW (I.turned (t':=s.toks) (λb o hb e=>eb b o hb e) f0 f1 f3 f4 f5))
 self:=λ_ _ _ _ _ st h=>wpAny_pyIter_rangeiter st h
section
variable{X:Cx}{tg:Expr}
noncomputable def aN(K:Kd)(tl:TE):TI:=λσ H R=>tl σ H λx H1=>∃a,x= Av/\(∃xs,A8 H1 a xs)/\R (Itl K a) H1
noncomputable def iTup(K:Kd)(tl:TE):TI:=λσ H R=>tl σ H λx H1=>∃a,x= Av/\(∃xs,SqT K H1 a xs)/\R (Itt K a) H1
theorem Qm{l:Expr}{tl:TE}(hl:Au l tl):PI X tg l (aN X.K tl):=by
 intro pins s σ H R I h;refine thn (hl pins s σ H _ I h) FI;obtain⟨x,H1,I1,r1,q1⟩:=hz9;obtain⟨a,e,⟨xs,hq⟩,q⟩:=q1;subst e;cases r1;obtain⟨its,rv,p,hz⟩:=I1.list hq;refine mW p.isList ?_;refine⟨s1.heap.objs.size,[s1.heap.objs.size],_,_,H1,rfl,I1.kept (t':=s1.toks) λb o e=>A0 e,zxg a _,(Bh _ (BP _) rfl),Eg,q⟩;have e:b=s1.heap.objs.size:=by simpa using hb
 subst e;exact I1.fpOk Az Gi
theorem yh9{l:Expr}{tl:TE}(hl:Au l tl):PI X tg l (iTup X.K tl):=by
 intro pins s σ H R I h;refine thn (hl pins s σ H _ I h) FI;obtain⟨x,H1,I1,r1,q1⟩:=hz9;obtain⟨a,e,⟨xs,hq⟩,q⟩:=q1;subst e;cases r1;obtain⟨its,rv,p,hz⟩:=I1.tuple hq;refine zG (show s1.heap.IsTuple a its.toArray from p) ?_;refine⟨s1.heap.objs.size,[s1.heap.objs.size],_,_,H1,rfl,I1.kept (t':=s1.toks) λb o e=>A0 e,zv2 a _,(Bh _ (BP _) rfl),Eg,q⟩;have e:b=s1.heap.objs.size:=by simpa using hb
 subst e;exact I1.fpOk Az Gi
theorem ydv{pins:A7}{σ:St}{H:Hp}{s:Ke}{R:It->A2}{E:Ka->Af}{lo hi:Int}{t u v:Tok}{tk:Nat}(I:Ak)(h1 : -(2 ^ 62)<=lo)(h2:lo<2 ^ 62)(h3 : -(2 ^ 62)<=hi)(h4:hi<2 ^ 62)
  (q:R (Itr lo (hi - lo).toNat) H):ET X.A (V8 BN) (PIE X pins σ tg R) E { s with heap:=CP "range" (.fields #[.int lo t,.int hi u,.int 1 v]),toks:=tk }:=by
 refine wpAny_pyIter_range (IsRange.new ..) (small_one h1 h2 h3 h4) ?_;have I1:Fu { s with heap:=CP "range" (.fields #[.int lo t,.int hi u,.int 1 v]),toks:=tk }:=I.kept λb o e=>A0 e;refine⟨(CP "range" (.fields #[.int lo t,.int hi u,.int 1 v])).objs.size,[(CP "range" (.fields #[.int lo t,.int hi u,.int 1 v])).objs.size],_,_,H,rfl,
  I1.kept (t':=tk) λb o e=>A0 e,zve _ lo (hi - lo).toNat,?_,Eg,q⟩
 .have e1:lo+(Ew 0)*1=lo:=by simp
  have e2:(Ew (hi - lo).toNat) - (Ew 0)=Zyp lo hi 1:=by rw[rangeSize_one];split <;> omega
  show IsRangeIter _ _ (lo+(Ew 0)*1) ((Ew (hi - lo).toNat) - (Ew 0)) 1;rw[e1,e2];exact BP _
 .have e:b=(CP "range" (.fields #[.int lo t,.int hi u,.int 1 v])).objs.size:=by simpa using hb
  subst e;exact I1.fpOk Az Gi
noncomputable def yky(ta:TA):TI:=λσ H R=>ta σ H λvs H1=>∃j:Int,vs=[.int j] /\ -(2 ^ 62)<=j/\j<2 ^ 62/\R (Itr 0 j.toNat) H1
theorem Yc{a:Expr}{ta:TA}{p pos:Pos}(hg:Gl X "range")(hm:X.mg "range" = none)(ha:PA X [a] ta)(hs:CA [a]=[(D4 a)]:=by rfl):PI X tg (Ey "range" p [a] pos) (yky ta):=by
 intro pins s σ H R I h;refine Call_ (Uy I hg hm boot_range (Xi (thn (ha pos pins s σ H _ I h) λus s1 hz9=>?_) hs rfl));obtain⟨vs,H1,I1,r1,q1⟩:=hz9;obtain⟨j,e,q1,q2,q⟩:=q1;subst e;cases r1 with
 | cons r rr =>
  cases rr;obtain⟨t,rfl⟩:=r;exact call_range_1 (ydv I1 (by omega) (by omega) q1 q2 (by simpa using q))
noncomputable def tFor(wi:TI)(g:TG)(tb:TS):TS:=λD σ H=>wi σ H λJ H1=>∃W:Nat->Nat->St->A2,(∃m,W 0 m σ H1) /\ ∀i m σ H,W i m σ H ->
 (J.stop i H/\D.nx σ H)\/(J.go i H /\ ∃N:St->A2,(∀σ' H',N σ' H'-> ∃m',m'<m/\W (i+1) m' σ' H') /\ ∀x H',J.yld i H x H'->g x σ H' λσ2 H2=>tb { D with nx:=N,ct:=N,bk:=D.nx } σ2 H2)
noncomputable def aO(fp:Bp)(h:Heap):A7:=fp.filterMap λb=>(h.get? b).map λo=>(b,o)
theorem pQ{fp:Bp}{h:Heap}{b:Addr}{o:Obj}(hb:b∈fp)(e:AE b o):(b,o)∈aO fp h:=ZD.mpr ⟨b,hb,by rw[e];rfl⟩
theorem zze{fp:Bp}{h:Heap}{p:Addr×Obj}(hp:p∈aO fp h):p.1∈fp/\AE p.1 p.2:=by
 obtain⟨b,hb,e⟩:=ZD.mp hp;cases q:h.get? b with
 | none=>rw[q] at e;cases e
 | some o =>
  rw[q] at e;have e':(b,o)=p:=PP e;subst e';exact⟨hb,q⟩
theorem Inv.pinned{pins:A7}{σ:St}{H:Hp}{s:Ke}{fp:Bp}(I:Ak)(hf:∀b∈fp,D7 X H b)(ho:∀b∈fp,∃o,AI b /\ ∀v,o.data ≠ .cell v):Inv X (pins++aO fp s.heap) σ H s :=
 I.pins_of λp hp=>(K9.mp hp).elim (λz=>I.pin p (PB _ z)) λz=>by
  obtain⟨hb,e⟩:=zze z;obtain⟨f0,f1,f2,_⟩:=hf p.1 hb;obtain⟨o,e',d⟩:=ho p.1 hb;rw[e] at e';cases e';exact⟨e,f0,f1,f2,d⟩
theorem Inv.unpinned{pins pl:A7}{σ:St}{H:Hp}{s:Ke}(I:Inv X (pins++pl) σ H s):Ak:=I.pins_of λp hp=>I.pin p (PB _ (Ml _ hp))
theorem zbm{iter:Expr}{body:List Stmt}{wi:TI}{g:TG}{tb:TS}{pos:Pos}(hp:Zi9 (Gc X.w) X.A X.env X.xe)(hc:Ex)(hi:PI X tg iter wi)(hg:PG X tg g)(hb:PSs X body tb)
  (hs:∀x,mZ iter X.env x=pure x:=by intro _;rfl):PS X (.For tg iter body [] pos) (tFor wi g tb):=by
 intro pins s σ H D I h;refine wpAny_For (thn (hi pins s σ H _ I h) λv s1 h1=>thn h1 λitv s2 h2=>?_) hs;obtain⟨it,fp,tn,J,H2,e,I2,T,st2,f2,W,⟨m0,w0⟩,turn⟩:=h2;subst e
 -- what stays true of the iterator's objects through the loop
 have stat:∀{H':Hp},(∀b∈fp,H' b=none)-> ∀b∈fp,D7 X H' b:=λhn b hb=>⟨hn b hb,(f2 b hb).2⟩;refine codeAny_forLoop_any (λn s'=>∃i σ' H',Fh X σ' H' s'/\tn i s'.heap/\(∀b∈fp,H' b=none)/\W i n σ' H') ?_ m0 ⟨0,σ,H2,I2,st2,λb hb=>(f2 b hb).1,w0⟩;rintro n s3 ⟨i,σ3,H3,I3,st3,fr3,w3⟩;rcases turn i n σ3 H3 w3 with ⟨stop,qn⟩ | ⟨go,N,hN,step⟩
 .refine VP hp (thn (T.done X rfl rfl rfl hc i pins s3 σ3 H3 X.xe I3 (stat fr3) st3 stop) λr s4 hz9=>?_);obtain⟨hr,I4⟩:=hz9;subst hr;exact Xv ⟨σ3,H3,I4,qn⟩
 .refine VP hp (thn (T.item X rfl rfl rfl hc i pins s3 σ3 H3 X.xe I3 (stat fr3) st3 go) λr s4 hz9=>?_);obtain⟨u,hr,h4⟩:=hz9;subst hr;refine VP hp (thn h4 λ_ s5 hz9=>?_);obtain⟨x,H5,I5,r5,y5,st5,fr5⟩:=hz9;have I5':=I5.pinned (stat fr5) (T.obj _ _ st5);refine VP hp (thn (hg _ s5 σ3 H5 x u _ I5' r5 (step x H5 y5)) λ_ s6 hz9=>?_);obtain⟨σ6,H6,I6,q6⟩:=hz9;refine VP hp (thn (hb _ s6 σ6 H6 _ I6 q6) λf s7 q7=>?_);have again:∀{σ7:St} {H7:Hp},Inv X (pins++aO fp s5.heap) σ7 H7 s7->N σ7 H7-> ∃m,m<n /\ ∃i σ' H',Fh X σ' H' s7/\tn i s7.heap/\(∀b∈fp,H' b=none)/\W i m σ' H':=λ{σ7 H7} I7 n7=>by
   obtain⟨m',hm,w7⟩:=hN σ7 H7 n7;refine⟨m',hm,i+1,σ7,H7,I7.unpinned,T.keep _ _ _ st5 λb hb o e=>(I7.pin (b,o) (PB _ (PB _ (pQ hb e)))).1,Eg,w7⟩;obtain⟨o,e,d⟩:=T.obj _ _ st5 b hb;exact(I7.pin (b,o) (PB _ (PB _ (pQ hb e)))).2.1
  cases f with
  | next=>obtain⟨σ7,H7,I7,n7⟩:=q7;exact again I7 n7
  | cont=>obtain⟨σ7,H7,I7,n7⟩:=q7;exact again I7 n7
  | brk=>obtain⟨σ7,H7,I7,q7⟩:=q7;exact⟨σ7,H7,I7.unpinned,q7⟩
  | ret v=>obtain⟨x7,σ7,H7,I7,r7,q7⟩:=q7;exact⟨x7,σ7,H7,I7.unpinned,r7,q7⟩
end
noncomputable abbrev R2:=V->V->Hp->B9
noncomputable def OpR(X:Cx)(f:Ka->Ka->Sem Ka)(r:R2):Prop :=
 ∀(pins:A7) (s:Ke) (σ:St) (H:Hp) (x y:V) (v u:Ka) (Q:VK),Ak->RelV x v->Bi y->r x y H Q ->
  B1 (f v u) (EP X pins σ Q) s
noncomputable def UnR(X:Cx)(f:Ka->Sem Ka)(r:V->Hp->B9):Prop :=
 ∀(pins:A7) (s:Ke) (σ:St) (H:Hp) (x:V) (v:Ka) (Q:VK),Ak->RelV x v->r x H Q ->
  B1 (f v) (EP X pins σ Q) s
noncomputable def Om(X:Cx)(f:Ka)(r:Ai->Hp->B9):Prop :=
 ∀(pins:A7) (s:Ke) (σ:St) (H:Hp) (xs:Ai) (us:Am) (Q:VK),Ak->BY xs->r xs H Q ->
  B1 (call f us) (EP X pins σ Q) s
noncomputable def tOp(r:R2)(ta tb:TE):TE:=λσ H Q=>ta σ H λx H1=>tb σ H1 λy H2=>r x y H2 Q
noncomputable def tUn(r:V->Hp->B9)(ta:TE):TE:=λσ H Q=>ta σ H λx H1=>r x H1 Q
noncomputable def rI(C:Int->Aq Int)(g:Int->Int->V):R2:=λx y H Q=>∃i j,x= Ca/\y= .int j/\C i j/\Q (g i j) H
noncomputable def rI0(g:Int->Int->V):R2:=λx y H Q=>∃i j,x= Ca/\y= .int j/\Q (g i j) H
noncomputable def rU(g:Int->V):V->Hp->B9:=λx H Q=>∃i,x= Ca/\Q (g i) H
section
variable{X:Cx}{a b c:Expr}{ta tb tc:TE}{pos:Pos}
theorem binT(ha:Au a ta)(hb:Au b tb){pins:A7}{s:Ke}{σ:St}{H:Hp}{R:V->V->A2}(I:Ak)
  (h:ta σ H λx H1=>tb σ H1 λy H2=>R x y H2) {Q:Ka->Af} {f:Ka->Ka->Sem Ka}
  (hf:∀v u s2 x y H2,Ce H2 s2->RelV x v->Bi y->R x y H2->B1 (f v u) Q s2) :
  B1 (Cz a) (λv s₁=>B1 (Cz b) (λu s₂=>B1 (f v u) Q s₂) s₁) s:=by
 refine thn (ha pins s σ H _ I h) FI;obtain⟨x,H1,I1,r1,q1⟩:=hz9;refine thn (hb pins s1 σ H1 _ I1 q1) λu s2 hz9=>?_;obtain⟨y,H2,I2,r2,q2⟩:=hz9;exact hf v u s2 x y H2 I2 r1 r2 q2
theorem Ly{op:Operator}{r:R2}(ho:OpR X (Qq op) r)(ha:Au a ta)(hb:Au b tb):Au (.BinOp a op b pos) (Ct r tb):=by
 intro pins s σ H Q I h;exact wpAny_BinOp (binT ha hb I h λv u s2 x y H2 I2 rx ry q=>ho pins s2 σ H2 x y v u Q I2 rx ry q)
theorem pR{op:UnaryOp}{r:V->Hp->B9}(ho:UnR X (unaryOp op) r)(ha:Au a ta):Au (.UnaryOp op a pos) (tUn r ta):=by
 intro pins s σ H Q I h;exact UnaryOp_ (thn (ha pins s σ H _ I h) λv s1 ⟨x,H1,I1,r1,q1⟩=>ho pins s1 σ H1 x v Q I1 r1 q1)
theorem opI{f:Ka->Ka->Sem Ka}{C:Int->Aq Int}{g:Int->Int->Int}
  (rule:∀(i j:Int) (t u:Tok) (s:Ke) (Q:Ka->Af) (E:Ka->Af),C i j->Q (.int (g i j) s.toks) (FZ s.toks 1)->ET X.A (f (.int i t) (.int j u)) Q E s) :
  OpR X f (rI C (EH (g i j))):=by
 intro pins s σ H x y v u Q I rx ry h;obtain⟨i,j,rfl,rfl,hc,q⟩:=h;obtain⟨t,rfl⟩:=rx;obtain⟨t',rfl⟩:=ry;exact rule i j t t' s _ _ hc ⟨.int (g i j),H,DH,(AY _),q⟩
theorem opI0{f:Ka->Ka->Sem Ka}{g:Int->Int->Int}
  (rule:∀(i j:Int) (t u:Tok) (s:Ke) (Q:Ka->Af) (E:Ka->Af),Q (.int (g i j) s.toks) (FZ s.toks 1)->ET X.A (f (.int i t) (.int j u)) Q E s) :
  OpR X f (rI0 (EH (g i j))):=by
 intro pins s σ H x y v u Q I rx ry h;obtain⟨i,j,rfl,rfl,q⟩:=h;obtain⟨t,rfl⟩:=rx;obtain⟨t',rfl⟩:=ry;exact rule i j t t' s _ _ ⟨.int (g i j),H,DH,(AY _),q⟩
theorem opB0{f:Ka->Ka->Sem Ka}{g:Int->Int->Bool}
  (rule:∀(i j:Int) (t u:Tok) (s:Ke) (Q:Ka->Af) (E:Ka->Af),Q (.bool (g i j)) s->ET X.A (f (.int i t) (.int j u)) Q E s) :
  OpR X f (rI0 λi j=>.bl (g i j)):=by
 intro pins s σ H x y v u Q I rx ry h;obtain⟨i,j,rfl,rfl,q⟩:=h;obtain⟨t,rfl⟩:=rx;obtain⟨t',rfl⟩:=ry;exact rule i j t t' s _ _ (Bj (.bl (g i j)) H I q)
noncomputable def CDiv(i j:Int):Prop:=0<j/\j<1073741824
noncomputable def CPow(i j:Int):Prop:=0<=j/\j<=1000000/\i.natAbs<2 ^ 64
noncomputable def CMul(i j:Int):Prop:=(-(2 ^ 64)<i/\i<2 ^ 64)\/(-(2 ^ 64)<j/\j<2 ^ 64)
theorem CMul.ok{i j:Int}(h:CMul i j):IntMulOk i j:=by
 rcases h with ⟨h1,h2⟩ | ⟨h1,h2⟩;.exact .of_left (Yaq h1 h2)
 .exact .of_right (Yaq h1 h2)
theorem Od:OpR X (Qq .Add) (rI0 (EH (i+j))):=opI0 λ_ _ _ _ _ _ _ q=>add_int q
theorem yjs:OpR X (Qq .Sub) (rI0 (EH (i - j))):=opI0 λ_ _ _ _ _ _ _ q=>sub_int q
theorem pU:OpR X (Qq .Mult) (rI CMul (EH (i*j))):=opI λ_ _ _ _ _ _ _ hc q=>mul_int q hc.ok
theorem Yd:OpR X (Qq .FloorDiv) (rI CDiv (EH (i / j))):=opI λi j _ _ _ _ _ hc q=>by
 have h1:(0:Int)<j:=hc.1;have h2:j<1073741824:=hc.2;exact floordiv_int (by omega) (by rw[Int.fdiv_eq_ediv_of_nonneg i (by omega)];exact q) (.inl (PyProof.noPylong_small (by omega)))
theorem Nr:OpR X (Qq .Mod) (rI (λ_ j=>0<j) (EH (i % j))):=opI λi j _ _ _ _ _ hc q=>by
 have h1:(0:Int)<j:=hc;exact mod_int' (by omega) (by rw[Int.fmod_eq_emod_of_nonneg i (by omega)];exact q)
theorem yj0:OpR X (Qq .Pow) (rI CPow (EH (i ^ j.toNat))):=opI λ_ _ _ _ _ _ _ hc q=>pow_int_small hc.1 hc.2.1 hc.2.2 q
theorem unI{f:Ka->Sem Ka}{g:Int->Int}
  (rule:∀(i:Int) (t:Tok) (s:Ke) (Q:Ka->Af) (E:Ka->Af),Q (.int (g i) s.toks) (FZ s.toks 1)->ET X.A (f (.int i t)) Q E s) :
  UnR X f (rU λi=>.int (g i)):=by
 intro pins s σ H x v Q I rx h;obtain⟨i,rfl,q⟩:=h;obtain⟨t,rfl⟩:=rx;exact rule i t s _ _ ⟨.int (g i),H,DH,(AY _),q⟩
theorem pW:UnR X (unaryOp .USub) (rU λi=>.int (-i)):=unI λ_ _ _ _ _ q=>neg_int q
end
noncomputable def scal:V->V->Bool
 | .non,.non=>true | .non,.int _=>true | .int _,.non=>true | .non,.bl _=>true | .bl _,.non=>true | .non,.str _=>true | .str _,.non=>true
 | .int _,.int _=>true | .bl _,.bl _=>true | .str _,.str _=>true | .byt _,.byt _=>true
 | .int _,.str _=>true | .str _,.int _=>true | .bl _,.str _=>true | .str _,.bl _=>true
 | _,_=>false
noncomputable def rEq:R2:=λx y H Q=>Aa (scal x y)/\Q (.bl (An x y)) H
noncomputable def rNe:R2:=λx y H Q=>Aa (scal x y)/\Q (.bl (! An x y)) H
theorem ya0{i j:Int}:An (V.int i) (V.int j)=(i == j):=by
 rw[LK];simp
theorem ye8{i j:Bool}:An (V.bl i) (V.bl j)=(i == j):=by
 rw[LK];simp
theorem zw1{i j:Str}:An (V.str i) (V.str j)=(i == j):=by
 rw[LK];simp
theorem zzy{i j:Array UInt8}:An (V.byt i) (V.byt j)=(i.toList == j.toList):=by
 rw[LK];cases i;cases j;simp
section
variable{X:Cx}{a b c:Expr}{ta tb tc:TE}{pos:Pos}
theorem RD{pins:A7}{σ:St}{H:Hp}{s:Ke}{Q:VK}{k k':Bool}(I:Ak)(q:Q (.bl k) H)(e:k=k'):EP X pins σ Q (.bool k') s:=by
 subst e;exact(Bj (.bl k) H I q)
theorem Pb:OpR X (PX .Eq) rEq:=by
 intro pins s σ H x y v u Q I rx ry h;obtain⟨hs,q⟩:=h;cases x with
 | non =>
  cases rx;cases y with
  | non=>cases ry;exact Zy8 (DB I q)
  | bl j=>cases ry;exact Zza (DB I q)
  | int j=>obtain⟨t',rfl⟩:=ry;exact Zy9 (DB I q)
  | str j=>obtain⟨t',rfl⟩:=ry;exact Zy7 (DB I q)
  | _=>exact Fv (Aa false) Mh
 | bl i =>
  cases rx;cases y with
  | non=>cases ry;exact Zzc (DB I q)
  | bl j=>cases ry;exact eq_bool (RD I q ye8)
  | str j=>obtain⟨t',rfl⟩:=ry;exact Zyg (DB I q)
  | _=>exact Fv (Aa false) Mh
 | int i =>
  obtain⟨t,rfl⟩:=rx;cases y with
  | non=>cases ry;exact Zzb (DB I q)
  | int j=>obtain⟨t',rfl⟩:=ry;exact eq_int (RD I q ya0)
  | str j=>obtain⟨t',rfl⟩:=ry;exact Zyf (DB I q)
  | _=>exact Fv (Aa false) Mh
 | str i =>
  obtain⟨t,rfl⟩:=rx;cases y with
  | non=>cases ry;exact Zy6 (DB I q)
  | bl j=>cases ry;exact Zye (DB I q)
  | int j=>obtain⟨t',rfl⟩:=ry;exact Zyd (DB I q)
  | str j=>obtain⟨t',rfl⟩:=ry;exact eq_str (RD I q zw1)
  | _=>exact Fv (Aa false) Mh
 | byt i =>
  obtain⟨t,rfl⟩:=rx;cases y with
  | byt j=>obtain⟨t',rfl⟩:=ry;exact PySem.W.eq_bytes (RD I q zzy)
  | _=>exact Fv (Aa false) Mh
 | _=>cases y <;> exact Fv (Aa false) Mh
theorem We:OpR X (PX .NotEq) rNe:=by
 intro pins s σ H x y v u Q I rx ry h;obtain⟨hs,q⟩:=h;cases x with
 | non =>
  cases rx;cases y with
  | non=>cases ry;exact Zy1 (DB I q)
  | bl j=>cases ry;exact Zy3 (DB I q)
  | int j=>obtain⟨t',rfl⟩:=ry;exact Zy2 (DB I q)
  | str j=>obtain⟨t',rfl⟩:=ry;exact Zy0 (DB I q)
  | _=>exact Fv (Aa false) Mh
 | bl i =>
  cases rx;cases y with
  | non=>cases ry;exact Zy5 (DB I q)
  | bl j=>cases ry;exact ne_bool (RD I q (congrArg not ye8))
  | str j=>obtain⟨t',rfl⟩:=ry;exact Zyc (DB I q)
  | _=>exact Fv (Aa false) Mh
 | int i =>
  obtain⟨t,rfl⟩:=rx;cases y with
  | non=>cases ry;exact Zy4 (DB I q)
  | int j=>obtain⟨t',rfl⟩:=ry;exact ne_int (RD I q (congrArg not ya0))
  | str j=>obtain⟨t',rfl⟩:=ry;exact Zyb (DB I q)
  | _=>exact Fv (Aa false) Mh
 | str i =>
  obtain⟨t,rfl⟩:=rx;cases y with
  | non=>cases ry;exact Zyz (DB I q)
  | bl j=>cases ry;exact Zya (DB I q)
  | int j=>obtain⟨t',rfl⟩:=ry;exact Zx9 (DB I q)
  | str j=>obtain⟨t',rfl⟩:=ry;exact ne_str (RD I q (congrArg not zw1))
  | _=>exact Fv (Aa false) Mh
 | byt i =>
  obtain⟨t,rfl⟩:=rx;cases y with
  | byt j=>obtain⟨t',rfl⟩:=ry;exact PySem.W.ne_bytes (RD I q (congrArg not zzy))
  | _=>exact Fv (Aa false) Mh
 | _=>cases y <;> exact Fv (Aa false) Mh
theorem pY:OpR X (PX .Lt) (rI0 λi j=>.bl (AF i j)):=opB0 λ_ _ _ _ _ _ _ q=>lt_int q
theorem yk3:OpR X (PX .Gt) (rI0 λi j=>.bl (AF j i)):=opB0 λ_ _ _ _ _ _ _ q=>gt_int q
theorem zrg:OpR X (PX .IsNot) (λx y H Q=>y= .non/\Q (.bl (! decide (x= .non))) H):=by
 intro pins s σ H x y v u Q I rx ry h;obtain⟨rfl,q⟩:=h;cases ry;refine isnot_none_gen (RD I q ?_);cases x <;> first
  | (cases rx;rfl)
  | (obtain⟨t,rfl⟩:=rx;rfl)
theorem Zv(b:Expr){op:Z4}(h:op ≠ .In:=by decide)(h2:op ≠ .NotIn:=by decide):AL (ZW op b):=by
 have e1:Be op CmpOp.In:=by cases op <;> first | rfl | exact absurd rfl h
 have e2:Be op CmpOp.NotIn:=by cases op <;> first | rfl | exact absurd rfl h2
 cases b <;> simp[ZW,e1,e2]
theorem aP{op:Z4}{r:R2}(ho:OpR X (PX op) r)(ha:Au a ta)(hb:Au b tb)(hm:AL (ZW op b)):Au (.Compare a [op] [b] pos) (Ct r tb):=by
 intro pins s σ H Q I h;exact wpAny_Compare1 (binT ha hb I h λv u s2 x y H2 I2 rx ry q=>ho pins s2 σ H2 x y v u Q I2 rx ry q) hm
noncomputable def yi9(t:TE):TT:=λσ H Q=>t σ H λx H'=>∃k,x= .bl k/\Q k H'
theorem zau{op:Z4}{r:R2}(ho:OpR X (PX op) r)(ha:Au a ta)(hb:Au b tb)(hm:AL (ZW op b)):PT X (.Compare a [op] [b] pos) (yi9 (Ct r tb)):=by
 intro pins s σ H Q I h;refine Zvv (thn (ha pins s σ H _ I h) λv s1 ⟨x,H1,I1,r1,q1⟩=>thn (hb pins s1 σ H1 _ I1 q1) λu s2 ⟨y,H2,I2,r2,q2⟩ =>
  thn (ho pins s2 σ H2 x y v u _ I2 r1 r2 q2) λc s3 ⟨z,H3,I3,r3,k,e,q3⟩=>?_) hm;subst e;cases r3;exact Ui ⟨H3,I3,q3⟩
theorem pZ:(sizeLine:Nat)<2 ^ 63:=by rw[K3];decide
theorem zm0:OpR X (Qq .Add) (λx y H Q=>∃i j,x= .str i/\y= .str j/\AD (i.length+j.length)/\Q (.str (i++j)) H):=by
 intro pins s σ H x y v u Q I rx ry h;obtain⟨i,j,rfl,rfl,hz,q⟩:=h;obtain⟨t,rfl⟩:=rx;obtain⟨t',rfl⟩:=ry;exact add_str (λt' tk=>⟨.str (i++j),H,DH,(AY _),q⟩) hz
theorem Qc{x:V}{us:Am}(r:BY [x]):∃u,us=[u]/\Bi x:=by
 cases r with
 | cons r1 r2=>cases r2;exact(Ar rfl r1)
theorem Qd{x y:V}{us:Am}(r:BY [x,y]):∃u w',us=[u,w']/\Bi x/\RelV y w':=by
 cases r with
 | cons r1 r2 =>
  cases r2 with
  | cons r3 r4=>cases r4;exact(BH _ _ r1 r3)
theorem zpr(hc:Ex):DZ X "max" (λxs H Q=>∃i j,xs=[Ca,.int j]/\Q (.int (if j>i then j else i)) H):=by
 intro pins s σ H xs us Q I r h;obtain⟨i,j,rfl,q⟩:=h;obtain⟨u,w',rfl,⟨t,rfl⟩,⟨t',rfl⟩⟩:=Qd r;refine max_two_ints D3 λh' tk k=>⟨_,H,I.kept k,?_,q⟩;by_cases hj:j>i;.rw[if_pos hj,if_pos hj];exact(AY _)
 .rw[if_neg hj,if_neg hj];exact(AY _)
theorem zo4(hc:Ex):DZ X "min" (λxs H Q=>∃i j,xs=[Ca,.int j]/\Q (.int (if j<i then j else i)) H):=by
 intro pins s σ H xs us Q I r h;obtain⟨i,j,rfl,q⟩:=h;obtain⟨u,w',rfl,⟨t,rfl⟩,⟨t',rfl⟩⟩:=Qd r;refine min_two_ints D3 λh' tk k=>⟨_,H,I.kept k,?_,q⟩;by_cases hj:j<i;.rw[if_pos hj,if_pos hj];exact(AY _)
 .rw[if_neg hj,if_neg hj];exact(AY _)
end
structure ObjM(h:Heap)(x dx C:Addr)(mA:Str->Option Ka):Prop where
 obj:h.get? x=some (Uv C dx)
 ns:h.Ns1 dx mA
 ne:dx≠x
theorem zpq{h:Heap}{dx:Addr}{mA:Str->A4}(n:h.Ns1 dx mA):∃od,AE dx od /\ ∀name,Ab (pK name od) (mA name):=by
 obtain⟨o,es,ep,ho,hd,hk,_,hm⟩:=n;refine(CK ho (λname=>?_));have e:=hm name;unfold nsFind findBy at e;rw[<- Zun] at e;unfold pK;rw[hd];dsimp only;split
 .rename_i y q;rw[q] at e;exact congrArg some e
 .rename_i q;rw[q] at e;have a:AL (es.toList.any (·.refKey)):=by
   rw[List.any_eq_false];intro y hy;obtain⟨z,t,hkey⟩:=hk y (xD.mp hy);simp[Ya8,hkey]
  have a':¬ Aa (es.toList.any (·.refKey)):=by rw[a];exact Mh
  rw[if_neg a'];exact congrArg some e
theorem ObjM.look{h:Heap}{x dx C:Addr}{mA:Str->A4}(I:ObjM h x dx C mA):∃od,PySem.W.InstAt h x (Uv C dx) C (some od) /\ ∀name,Ab (pK name od) (mA name) :=
 let ⟨od,ho,hl⟩:=zpq I.ns
 ⟨od,(Bh I.obj rfl ho),hl⟩
section
variable{prog:Ko}{w:Km}{A:Ks}{E:Ka->Ke->Prop}{s:Ke}{K:Kd}{x dx C f:Addr}{mA:Str->Option Ka}{name:Str}{v:Ka}
theorem ygm{expr:Bool}{Q:Ka->Af}(X:K.In s.heap)(I:ObjM s.heap x dx C mA)(hg:Aa (pJ K C name))(hh:Aa (Zqh K C))
  (ha:Ab (Py K AG name) none) (hv:Ab (mA name) v) (hv':Aa (Zue v)) (h:Q v (FZ s.toks 1)) :
  AH (Z3 BB name expr):=by
 obtain⟨od,J,hl⟩:=I.look;exact PySem.W.get_value X J (Zpt hg).1 (PySem.W.findObj_own hh ha rfl (by rw[hl,hv])) hv' h
theorem ybh{pl:Sem Bool}{Q:Ka×Am->Af}(X:K.In s.heap)(I:ObjM s.heap x dx C mA)(hg:Aa (pJ K C name))
  (hf:Ab (Py K AG name) (some (.ref f))) (ht:Aa (aK K (.ref f))) (hv:mA name=none) (h:Q (.ref f,[BB]) s) :
  AH (XJ BB name pl):=by
 obtain⟨od,J,hl⟩:=I.look;exact PySem.W.method_fn X J (Zpt hg).1 (Zpt hg).2 hf (beq_iff_eq.mp ht) (by show(pK name od).map (·.isSome)=some false;rw[hl,hv];rfl) h
theorem yh0{ns:AC}{Q:Unit->Af}(X:K.In s.heap)(I:ObjM s.heap x dx C mA)
  (hs:Cw (Py K AG "__setattr__") (some (.builtin "object.__setattr__"))) (hp:Aa (Zt4 K C)) (ht:Ab (Zqx K C name) none) (hh:Aa (Zqh K C))
  (hw:zP mA ns) (hsz:AD ns.length)
  (h:∀h',ObjM h' x dx C (λy=>AR y name (some v) (mA y))->Qa dx s.heap h'->Q () { s with heap:=h',toks:=s.toks+2 }) :
  AH (setAttr BB name v):=by
 obtain⟨od,J,hl⟩:=I.look;refine PySem.W.set_plain X J hs (PySem.W.osa_open (s:=(FZ s.toks 1)) (r:=none) X J hp ht λb=>?_);obtain⟨cd,hc,hd'⟩:=PySem.W.any_some hh;have hx:Cp x ⟨AG,some dx,.plain,#[]⟩:=I.obj;refine BD (Dg (zT hx (Kc (Zx8 (s:=(FZ s.toks 1)) (PySem.W.looks_clsIn X hc) ?_))));rw[hd'];refine Kf (a:=some dx) (BD (Kc ?_));refine wpAny_nsSet1 (s:=(FZ s.toks 1)) I.ns λh' hn2 hs2=>?_;obtain⟨oD,esD,epD,hoD,hdD,hcD⟩:=hn2.count (Zyy name v hw);refine Kc (Zyt hoD (by rw[hdD];exact Zyv (Nk hcD (by rw[Mt];omega))) ?_);exact Kf (h _ ⟨(hs2.2 _ (K7 I.ne)).trans I.obj,hn2,I.ne⟩ hs2)
theorem yb5{R:Tj->Af}{vs:Am}{kw:Bf Ka}(X:K.In s.heap)(hm:Aa (Zuz K C))
  (hi:Cw (Py K AG "__init__") (some (.ref f))) (hf:Ab (PySem.W.typeIn K (.ref f)) (.type "function"))
  (h:Pr (B5 w) (A.under (GN ⟨AG::vs,kw⟩)) (.call (.ref f) ⟨.ref (BQ 1)::vs,kw⟩) (PySem.W.InitBack (BQ 1) R)
   { s with heap:=(s.heap.push Tu).push (Uv C s.heap.objs.size) }) :
  Pr (B5 w) A (.call AG ⟨vs,kw⟩) R s:=by
 obtain⟨hh,g,d,t,os⟩:=s;exact PySem.W.make_core (PySem.W.makes_of X hm) (PySem.W.looks_findIn X hi) (λself=>PySem.W.bind_fn X self hf) A6 h
end
noncomputable def putF(f:Str)(v:V):Bf V->Bf V
 | []=>[(f,v)]
 | (g,x)::r=>AR g f ((g,v)::r) ((g,x)::putF f v r)
theorem zkr(f g:Str)(v:V):∀fs:Bf V,(putF f v fs).lookup g=AR g f (some v) (fs.lookup g)
 | []=>by
  show Nj g [(f,v)]=_;by_cases h:g=f
  .have hb:Aa (g == f):=beq_iff_eq.mpr h;simp only[Nj,hb,if_pos h]
  .have hb:Be g f:=beq_eq_false_iff_ne.mpr h;simp only[Nj,hb,if_neg h]
 | (k,x)::r=>by
  have ih:=zkr f g v r;rw[show putF f v ((k,x)::r)=(AR k f ((k,v)::r) ((k,x)::putF f v r)) from rfl];by_cases hk:k=f
  .rw[if_pos hk];by_cases h:g=k
   .have hb:Aa (g == k):=beq_iff_eq.mpr h;simp only[Nj,hb,if_pos (h.trans hk)]
   .have hb:Be g k:=beq_eq_false_iff_ne.mpr h;simp only[Nj,hb,if_neg (λe:g=f=>h (e.trans hk.symm))]
  .rw[if_neg hk];by_cases h:g=k
   .have hb:Aa (g == k):=beq_iff_eq.mpr h;simp only[Nj,hb,if_neg (λe:g=f=>hk (h.symm.trans e))]
   .have hb:Be g k:=beq_eq_false_iff_ne.mpr h;simp only[Nj,hb];exact ih
theorem zl3(f:Str)(v:V):∀fs:Bf V,f∈(putF f v fs).map (·.1) /\ ∀g,g∈fs.map (·.1)->g∈(putF f v fs).map (·.1)
 | []=>⟨by simp[putF],λg h=>by simp at h⟩
 | (k,x)::r=>by
  obtain⟨i1,i2⟩:=zl3 f v r;rw[show putF f v ((k,x)::r)=(AR k f ((k,v)::r) ((k,x)::putF f v r)) from rfl];by_cases hk:k=f
  .rw[if_pos hk];subst hk;exact⟨by simp,λg h=>by simpa using h⟩
  .rw[if_neg hk];refine⟨?_,λg h=>?_⟩
   .rw[Kq];exact AS i1
   .rw[Kq] at h ⊢;rcases KH.mp h with e | e;.exact KH.mpr (.inl e)
    .exact AS (i2 g e)
theorem zlu(f:Str)(v:V):∀fs:Bf V,AB (putF f v fs) (fs.length+1)
 | []=>by simp[putF]
 | (k,x)::r=>by
  have ih:=zlu f v r;rw[show putF f v ((k,x)::r)=(AR k f ((k,v)::r) ((k,x)::putF f v r)) from rfl];by_cases hk:k=f;.rw[if_pos hk,Mt,Mt];omega
  .rw[if_neg hk,Mt,Mt];omega
theorem RelO.some_of{v:V}{o:A4}(r:RelO (some v) o):∃u,Ab o u/\Bi v:=by
 cases o with
 | none=>exact GM
 | some u=>exact(By u r)
theorem RelO.none_of{o:A4}(r:RelO none o):o=none:=by
 cases o with
 | none=>rfl
 | some u=>exact GM
theorem zqj{v:V}{u:Ka}(r:Bi v):Aa (Zue u):=by
 cases v with
 | non=>cases (show u=Lz from r);rfl
 | bl b=>cases (show u=Px b from r);rfl
 | int i=>obtain⟨t,e⟩:=(show ∃t,u=aJ i t from r);cases e;rfl
 | str x=>obtain⟨t,e⟩:=(show ∃t,u=Rm x t from r);cases e;rfl
 | byt b=>obtain⟨t,e⟩:=(show ∃t,u=Ztz b t from r);cases e;rfl
 | flt b=>obtain⟨t,e⟩:=(show ∃t,u=Zty b t from r);cases e;rfl
 | ref a=>cases (show u=KJ a from r);rfl
 | ty n=>cases (show u=MJ n from r);rfl
section
variable{P:Ko}{w:Km}{H H':Hp}{h h':Heap}{a C dx:Addr}{fs fs':List (Str×V)}
theorem zrd(hok:HOk P w H h)(e:Aw a (Cu dx fs)):∃mA,ObjM h a dx C mA/\(∀f,RelO (fs.lookup f) (mA f))/\zP mA (fs.map (·.1))/\BI fs.length/\Aw dx (.own a):=by
 obtain⟨d,z,ne,ob,mA,n,r,q⟩:=(show Lr P w H h a (Cu dx fs) from hok a _ e);exact⟨mA,⟨ob,n,ne⟩,r,q,z,d⟩
end
structure Cls(K:Kd)(C:Addr):Prop where
 pg:pJ K C X3=true
 hd:Zqh K C=true
 po:Zt4 K C=true
 sa:Py K (.ref C) "__setattr__" = some (some (.builtin "object.__setattr__"))
theorem Cls.get{K:Kd}{C:Addr}(c:Cls K C)(f:Str):Aa (pJ K C f):=c.pg
noncomputable def Ov(K:Kd)(C:Addr)(f:Str):Prop:=Ab (Py K AG f) none
theorem Ov.taker{K:Kd}{C:Addr}{f:Str}(n:Ov K C f):Ab (Zqx K C f) none:=by
 unfold Zqx;rw[show Ab (Py K AG f) none from n];rfl
structure Con(K:Kd)(C:Addr)(f:Str)(v:V)(u:Ka):Prop where
 at_:Py K (.ref C) f=some (some u)
 rel:RelV v u
 get:Zt3 K u "__get__" = some none
 cp:PySem.W.copiedNames.contains f=false
structure Meth(K:Kd)(C:Addr)(m:Str)(f:Addr):Prop where
 at_:Py K (.ref C) m=some (some (.ref f))
 fn:aK K (.ref f)=true
 kp:Tv K (.ref f)=true
section
variable{X:Cx}{pins:List (Addr×Obj)}{σ:St}{H:Hp}{s:Ke}{a C dx:Addr}{fs:List (Str×V)}{f:Str}{v:V}{A:Ks}{E:Ka->Ke->Prop}
theorem zvd{b:Bool}{Q:Ka->Af}(I:Ak)(e:Aw a (Cu dx fs))(c:Cls X.K C)(n:Ov X.K C f)(l:Ab (fs.lookup f) v)
  (h:∀u s',Fu s'->Bi v->Q u s'):ET A (Z3 Av f b) Q E s:=by
 obtain⟨mA,O,r,_,_,_⟩:=zrd I.hok e;obtain⟨u,hu,ru⟩:=RelO.some_of (v:=v) (o:=mA f) (by rw[<- l];exact r f);exact ygm I.kIn O (c.get f) c.hd n hu (zqj ru) (h u _ DH ru)
theorem zi5{m:Str}{g:Addr}{pl:Sem Bool}{Q:Ka×Am->Af}(I:Ak)(e:Aw a (Cu dx fs))(c:Cls X.K C)(k:Meth X.K C m g)(l:fs.lookup m=none)
  (h:Q (.ref g,[Av]) s):ET A (XJ Av m pl) Q E s:=by
 obtain⟨mA,O,r,_,_,_⟩:=zrd I.hok e;have hn:mA m=none:=RelO.none_of (by rw[<- l];exact r m);exact ybh I.kIn O (c.get m) k.at_ k.fn hn h
theorem zwk{y:V}{u:Ka}{Q:Unit->Af}(I:Ak)(e:Aw a (Cu dx fs))(c:Cls X.K C)(n:Ov X.K C f)(hl:fs.length<1000)(ry:Bi y)
  (h:∀s',Ce (AX a (Cu dx (putF f y fs))) s'->Q () s'):ET A (setAttr Av f u) Q E s:=by
 obtain⟨mA,O,r,wi,_,ho⟩:=zrd I.hok e;have hz:AD (fs.map (·.1)).length:=by rw[Kg,K3];omega
 refine yh0 I.kIn O c.sa c.po n.taker c.hd wi hz λh' O' sb=>h _ ?_;have hd:∃o,AJ dx o:=let ⟨o,_,_,e',_⟩:=O'.ns;⟨o,e'⟩;refine I.write (x:=a) (e:=dx) (by rw[e];exact Tw) (.inr ho) (λb q hb z=>(sb.2 b hb).trans z) hd ?_;refine⟨by rw[Kh O.ne];exact ho,?_,O.ne,O'.obj,_,O'.ns,λg=>?_,λg hg=>?_⟩;.have:=zlu f y fs;omega
 .show RelO ((putF f y fs).lookup g) (AR g f (some u) (mA g));rw[zkr];by_cases q:g=f;.rw[if_pos q,if_pos q];exact ry
  .rw[if_neg q,if_neg q];exact r g
 .by_cases q:g=f;.rw[q];exact(zl3 f y fs).1
  .refine(zl3 f y fs).2 g (wi g λz=>hg ?_);show(AR g f (some u) (mA g))=none;rw[if_neg q];exact z
theorem Inv.made(I:Ak):Inv X pins σ (upd (AX s.heap.objs.size (.own (BQ 1))) (BQ 1) (Cu s.heap.objs.size []))
  { s with heap:=(s.heap.push Tu).push (Uv C s.heap.objs.size) }:=by
 have e1:Cj (s.heap.push Tu) s.heap.objs.size Tu:=BP s.heap;have e2:Cj ((s.heap.push Tu).push (Uv C s.heap.objs.size)) (BQ 1) (Uv C s.heap.objs.size):=by
  have:=Zu (s.heap.push Tu) (o:=Uv C s.heap.objs.size) rfl;rwa [Mq] at this
 have e3:(s.heap.push Tu).Ns s.heap.objs.size (λ_=>none):=⟨Tu,#[],_,e1,rfl,(λe he=>Gz he),λ_=>rfl⟩;have I1:=I.laid (a:=s.heap.objs.size) (o:=.own (BQ 1)) (h':=s.heap.push Tu) (t':=s.toks) (λb u q=>A0 q) Az (Bb e1);refine I1.laid (a:=BQ 1) (o:=Cu s.heap.objs.size []) (t':=s.toks) (λb u q=>A0 q) (Zzg (Mq _ _)) ?_;have ne:s.heap.objs.size≠BQ 1:=KY (Q9 _);refine⟨by rw[Kh ne,Ku],BM,ne,e2,λ_=>none,(Zto e3).at λo q=>A0 q,λ_=>Tw,λy hy=>Fp hy⟩
theorem zx2{prog:Ko}{w:Km}{env:Env}{e:Expr}{f:Str}{pos:Pos}{s:Ke}{Q:Ka->Af}(hb:Uj e f env (eval e env)=eval e env)
  (h:Kw (B5 w) A (eval e env) (λo s₁=>Kw (B5 w) A (Z3 o f true) Q E s₁) E s):AH (eval (.Attribute e f pos) env) :=
 Attribute_any_ h (by rw[arm_eval_Attribute,hb])
end
noncomputable def tFld(K:Kd)(ta:TE)(f:Str):TE:=λσ H Q=>ta σ H λx H1=>∃a C dx fs v,x= Av/\Ab (H1 a) (Cu dx fs)/\Cls K C/\Ov K C f/\Ab (fs.lookup f) v/\Q v H1
noncomputable def sFld(K:Kd)(ta tv:TE)(f:Str):TS:=λD σ H=>tv σ H λy H1=>ta σ H1 λx H2=>∃a C dx fs,x= Av/\Ab (H2 a) (Cu dx fs)/\Cls K C/\Ov K C f/\fs.length<1000 /\
 D.nx σ (upd H2 a (Cu dx (putF f y fs)))
section
variable{X:Cx}{o e value:Expr}{f:Str}{pos pos' tpos:Pos}{ta tv:TE}
theorem qC(he:Au e ta)(hb:Uj e f X.env (Cz e)=Cz e):Au (.Attribute e f pos) (tFld X.K ta f):=by
 intro pins s σ H Q I h;refine zx2 hb (thn (he pins s σ H _ I h) Gp);obtain⟨x,H1,I1,rx,a,C,dx,fs,v,ex,ea,c,n,l,q⟩:=hz9;subst ex;obtain rfl:u=KJ a:=rx;exact zvd I1 ea c n l λu' s2 I2 ru=>⟨v,H1,I2,ru,q⟩
theorem yeb(ha:Au o ta)(hv:Au value tv)(hs:Ul value (some (.Attribute o f pos')) pos.line X.env=pure false):PS X (.Assign [.Attribute o f pos'] value pos) (sFld X.K ta tv f):=by
 intro pins s σ H D I h;refine Zr0 (thn (hv pins s σ H _ I h) λu s1 ⟨y,H1,I1,ry,q⟩=>thn (ha pins s1 σ H1 _ I1 q) λov s2 hz9=>?_) hs;obtain⟨x,H2,I2,rx,a,C,dx,fs,ex,ea,c,n,l,q2⟩:=hz9;subst ex;obtain rfl:ov=KJ a:=rx;exact zwk I2 ea c n l ry λs3 I3=>⟨σ,_,I3,q2⟩
end
section
variable{X:Cx}{pins:List (Addr×Obj)}{σ:St}{H:Hp}{s:Ke}{A:Ks}{E:Ka->Ke->Prop}{Q:Ka->Ke->Prop}{c:Ka}{b:Bool}
inductive TyOf(K:Kd)(H:Hp):V->Ka->Prop where
 | non:TyOf K H .non (.type "NoneType")
 | bl (x:Bool):TyOf K H (.bl x) (.type "bool")
 | int (i:Int):TyOf K H (.int i) (.type "int")
 | str (x:Str):TyOf K H (.str x) (.type "str")
 | flt (x:UInt64):TyOf K H (.flt x) (.type "float")
 | lst {a:Addr} {xs:List V} (e:H a=some (.lst xs)):TyOf K H (.ref a) (.type "list")
 | frz {a:Addr} {o:Obj} {xs:List V} (e:H a=some (.frz o (.lst xs))):TyOf K H (.ref a) (.type "list")
 | tup {a:Addr} {xs:List V} (e:H a=some (.tup xs)):TyOf K H (.ref a) (.type "tuple")
 | dK {a:Addr} {kvs:List (Key×V)} (e:H a=some (.dK kvs)):TyOf K H (.ref a) (.type "dict")
 | dT {a:Addr} {kvs:List (List Key×V)} (e:H a=some (.dT kvs)):TyOf K H (.ref a) (.type "dict")
 | ins {a C dx:Addr} {fs:List (Str×V)} (e:H a=some (.ins C dx fs)) (cl:Cls K C) (ha:Py K (.ref C) "__class__" = some (some (.builtin "object.__class__")))
   (hn:Zt3 K (.builtin "object.__class__") "__get__" = some (some (.builtin "getset_descriptor.__get__"))) (htk:PySem.W.takesIn K (.builtin "object.__class__")=some true)
   (hm:PySem.W.mroIn K C (.type "object")=some true):TyOf K H (.ref a) (.ref C)
end
structure Room(k:Nat)(A:Ks):Prop where
 hd:A.handled=none
 dp:A.depth+3*k+5<Yab
 un:A.units+16*k+200<Ln
 gd:A.guards=some []
theorem Room.mono{j k:Nat}{A:Ks}(r:Room k A)(h:j<=k):Room j A:=⟨r.hd,by have:=r.dp;omega,by have:=r.un;omega,r.gd⟩
theorem Room.deeper{k:Nat}{A:Ks}(r:Room (k+1) A)(env:Env):FJ k env :=
 ⟨r.hd,by have:=r.dp;show A.depth+1+3*k+5<_;omega,by have:=r.un;show A.units+3+16*k+200<_;omega,r.gd⟩
theorem zvc{A:Ks}{C:Addr}{us:Am}{kw:Bf Ka}:(A.under (GN ⟨AG::us,kw⟩)).depth=A.depth+1:=by
 first | rfl | simp[Zs8,Code.weight,Code.isCreation,Code.isGuard,Code.isCaller,Zzp,Ztp,guardIds]
theorem zvb{A:Ks}{C:Addr}{us:Am}{kw:Bf Ka}:(A.under (GN ⟨AG::us,kw⟩)).units=A.units+1:=by
 first | rfl | simp[Zs8,Code.cUnits,Zzp,Ztp]
theorem Room.make{k:Nat}{A:Ks}(r:Room (k+1) A)(C:Addr)(us:Am)(kw:Bf Ka):Room k (A.under (GN ⟨AG::us,kw⟩)) :=
 ⟨r.hd,by have:=r.dp;rw[zvc];omega,by have:=r.un;rw[zvb];omega,r.gd⟩
theorem Room.depth{k:Nat}{A:Ks}(r:Room k A):A.depth<Yab:=by have:=r.dp;omega
theorem Room.units{k:Nat}{A:Ks}(r:Room k A):A.units+64<Ln:=by have:=r.un;omega
noncomputable def tNil:TA:=λ_ H Q=>Q [] H
noncomputable def Ol(ta:TE)(tr:TA):TA:=λσ H Q=>ta σ H λx H1=>tr σ H1 λxs H2=>Q (x::xs) H2
section
variable{X:Cx}{e:Expr}{es:List Expr}{te:TE}{t:TA}{pos:Pos}
theorem Oj:PA X [] tNil:=λ_ _ _ _ H Q I h=>Zqq ⟨[],H,I,.nil,h⟩
theorem Ng(ha:Au e te)(hr:PA X es t)(hs:CA (e::es)=(D4 e)::CA es:=by rfl):PA X (e::es) (Ol te t):=by
 intro pos pins s σ H Q I h;rw[hs];show AT _ (oJ ((D4 e)::DT pos es)) _ _ s;refine oW (thn (ha pins s σ H _ I h) Gp);obtain⟨x,H1,I1,r1,q1⟩:=hz9;refine thn (hr pos pins s1 σ H1 _ I1 q1) λus s2 hz9=>?_;obtain⟨xs,H2,I2,r2,q2⟩:=hz9;exact⟨x::xs,H2,I2,.cons r1 r2,q2⟩
noncomputable def tTup(t:TA):TE:=λσ H Q=>t σ H λxs H1=>AD xs.length /\ ∀p,H1 p=none->Q Ap (upd H1 p (.tup xs))
noncomputable def tLst(t:TA):TE:=λσ H Q=>t σ H λxs H1=>AD xs.length /\ ∀p,H1 p=none->Q Ap (BX H1 p xs)
theorem Qe{x1}(h:PA X es t):Au (.Tuple es x1 pos) (tTup t):=by
 intro pins s σ H Q I hq;refine wpAny_Tuple_spliced (thn (h pos pins s σ H _ I hq) λus s1 ⟨xs,H1,I1,r,z,q⟩=>(BG (by rw[<- r.length];exact z)));have hf:H1 s1.heap.objs.size=none:=Gi;refine(Bj (.ref s1.heap.objs.size) (upd H1 s1.heap.objs.size (.tup xs)) (I1.laid (t':=s1.toks) (λb u e=>A0 e) Az ?_) (q _ hf));exact⟨z,us,r,(BH _ (BP _) _ rfl)⟩
theorem MK(h:PA X es t):Au (.List es pos) (tLst t):=by
 intro pins s σ H Q I hq;refine wpAny_List_spliced (thn (h pos pins s σ H _ I hq) λus s1 ⟨xs,H1,I1,r,z,q⟩=>(BG (by rw[<- r.length];exact z)));have hf:H1 s1.heap.objs.size=none:=Gi;refine(Bj (.ref s1.heap.objs.size) (BX H1 s1.heap.objs.size xs) (I1.laid (t':=s1.toks) (λb u e=>A0 e) Az ?_) (q _ hf));exact⟨z,us,0,r,BP _⟩
end
noncomputable abbrev Sp:=Ai->Hp->VK->Aq XK
noncomputable abbrev CXT:=List Env->Hp->Ke->XK->Ka->Af
structure Env0(P:Ko)(w:Km)(K:Kd)(mg:Str->Option Ka)(base:Heap)(A:Ks)(outer:List Env)(s:Ke)(H:Hp):Prop where
 frames:A.frames=some outer
 mod:Mod K mg base
 bs:∀b o,base.get? b=some o->s.heap.get? b=some o/\H b=none
 bsz:base.objs.size<=s.heap.objs.size
 funs:s.heap.FunFrames base outer
 frf:∀b∈frs outer,H b=none
 hok:HOk P w H s.heap
 bare:RZ s.gens
noncomputable def CE(outer:List Env)(P:Ko)(w:Km)(H:Hp)(s:Ke)(Q:VK)(u:Ka)(s':Ke):Prop :=
 ∃v H',s'.os=s.os/\RZ s'.gens/\Un (frs outer) [] H H' s.heap s'.heap/\HOk P w H' s'.heap/\Bi v/\Q v H'
noncomputable def CR(CX:CXT)(outer:List Env)(P:Ko)(w:Km)(H:Hp)(s:Ke)(Q:VK)(E:XK)(r:Tj)(s':Ke):Prop :=
 match r with
 | .ok (.ret u)=>CE outer P w H s Q u s'
 | .ok _=>False
 | .error e=>CX outer H s E e s'
structure FnOk(P:Ko)(w:Km)(K:Kd)(mg:Str->Option Ka)(base:Heap)(CX:CXT)(k:Nat)(f:Addr)(fd:Mp)(ps:List Str)(sp:Sp):Prop where
 len:∀vs H Q E,sp vs H Q E->vs.length=ps.length
 run:∀(A:Ks) (outer:List Env) (s:Ke) (H:Hp) (args:Args) (us:List Ka) (vs:List V) (Q:VK) (E:XK),Room k A->Env0 P w K mg base A outer s H->Uo s fd args (ps.zip us)->Vals vs us->sp vs H Q E ->
  Pr (Pz P w) A (.call (.ref f) args) (CR CX outer P w H s Q E) s
theorem FnOk.mono{P:Ko}{w:Km}{K:Kd}{mg:Str->A4}{base:Heap}{CX:CXT}{j k:Nat}{f:Addr}{fd:Mp}{ps:AC}{sp:Sp}(F:FnOk P w K mg base CX j f fd ps sp)(h:j<=k) :
  FnOk P w K mg base CX k f fd ps sp:=⟨F.len,λA outer s H args us vs Q E hr=>F.run A outer s H args us vs Q E (hr.mono h)⟩
theorem Env0.make{P:Ko}{w:Km}{K:Kd}{mg:Str->A4}{base:Heap}{A:Ks}{outer:List Env}{s:Ke}{H:Hp}(e:Env0 P w K mg base A outer s H)(C:Addr)(us:Am)(kw:Bf Ka) :
  Env0 P w K mg base (A.under (GN ⟨AG::us,kw⟩)) outer s H:=⟨by first | exact e.frames | (simpa[Zs8,Code.envs,Ztp,pushEnvs] using e.frames),e.mod,e.bs,e.bsz,e.funs,e.frf,e.hok,e.bare⟩
section
variable{X:Cx}{pins:List (Addr×Obj)}{σ:St}{H:Hp}{s s':Ke}
theorem Inv.env0(I:Ak):Env0 X.prog X.w X.K X.mg X.base X.A X.stack s H :=
 ⟨I.ok.frames,I.ok.mod,I.bs,Nk I.ok.bsz I.sz,I.stack,I.stkFree,I.hok,I.bare⟩
theorem Inv.after{Q:VK}{u:Ka}(I:Ak)(h:CE X.stack X.prog X.w H s Q u s'):EP X pins σ Q u s':=by
 obtain⟨v,H',os,bare,un,hok,r,q⟩:=h;obtain⟨hh,g,d,t,os'⟩:=s';obtain rfl:os'=s.os:=os;exact⟨v,H',I.call (h':=hh) (g':=g) (d':=d) (t':=t) (ch:=[]) un hok bare (λb z=>Gz z),r,q⟩
end
noncomputable def Qv(sp:Sp)(dvs:Ai)(E:XK)(t:TA):TE:=λσ H Q=>t σ H λvs H1=>sp (vs++dvs) H1 Q E
noncomputable def yji(C:Addr)(m:Str)(sp:Sp)(dvs:Ai)(E:XK)(ta:TE)(t:TA):TE:=λσ H Q=>ta σ H λx H1=>∃a dx fs,x= Av/\Ab (H1 a) (Cu dx fs)/\fs.lookup m=none /\
 t σ H1 λvs H2=>sp (x::(vs++dvs)) H2 Q E
noncomputable def yij(C:Addr)(sp:Sp)(dvs:Ai)(E:XK)(t:TA):TE:=λσ H Q=>t σ H λvs H1=>∀x dx,H1 x=none->H1 dx=none->dx≠x ->
 sp (BB::(vs++dvs)) (upd (upd H1 dx (.own x)) x (Cu dx [])) (λv H2=>v= .non/\Q BB H2) E
noncomputable def M5(K:Kd)(fd:Mp)(ps:AC)(ds:Am):Prop :=
 ∀(s:Ke) (us:Am),K.In s.heap->CJ (us++ds) ps.length->Uo s fd (Br us) (ps.zip (us++ds))
theorem M5.all{K:Kd}{fd:Mp}{ps:AC}(h:∀us:Am,us.length=ps.length->QJ fd (Br us)=pure (ps.zip us)):M5 K fd ps []:=λs us _ hl=>by
 rw[LR] at hl ⊢;exact .of_eq (h us hl)
noncomputable def R7(CX:CXT)(X:Cx)(E:XK):Prop:=∀(pins:A7) (σ:St) (H:Hp) (s:Ke) (e:Ka) (s':Ke),Ak->CX X.stack H s E e s'->X.xe e s'
section
variable{X:Cx}{CX:CXT}{k:Nat}{f C:Addr}{fd:Mp}{ps:List Str}{sp:Sp}{dvs:List V}{ds:List Ka}{E:XK}{x m:Str}{p pos apos:Pos}{e o:Expr}{es:List Expr}{ta:TE}{t:TA}
theorem qD{pins:A7}{σ:St}{H:Hp}{s:Ke}{Q:VK}{us:Am}{vs:Ai}(F:FnOk X.prog X.w X.K X.mg X.base CX k f fd ps sp)(hr:Room k X.A)(hb:M5 X.K fd ps ds)(hd:Vals dvs ds)(hx:R7 CX X E)
  (I:Ak) (r:BY vs) (h:sp (vs++dvs) H Q E):B1 (call (.ref f) us) (EP X pins σ Q) s:=by
 have r2:Vals (vs++dvs) (us++ds):=r.append hd;have hl:CJ (us++ds) ps.length:=by rw[<- r2.length];exact F.len _ _ _ _ h
 refine Te (Td (F.run X.A X.stack s H (Br us) (us++ds) (vs++dvs) Q E hr I.env0 (hb s us I.kIn hl) r2 h) λr s' hq=>?_);cases r with
 | error e=>exact hx pins σ H s e s' I hq
 | ok fl =>
  cases fl with
  | ret u=>exact I.after hq
  | next=>exact Nb hq
  | brk=>exact Nb hq
  | cont=>exact Nb hq
theorem zx0(F:FnOk X.prog X.w X.K X.mg X.base CX k f fd ps sp)(hr:Room k X.A)(hg:Gl X x)(hm:Ab (X.mg x) (.ref f))(hk:Aa (Tv X.K (.ref f)))(hb:M5 X.K fd ps ds)(hd:Vals dvs ds)(hx:R7 CX X E)
  (ha:PA X (e::es) t) (hdb:Be x EE:=by decide) (he:CA (e::es)=(D4 e)::CA es:=by rfl) (hpl:AL ((DT pos es).any (·.1)):=by rfl) :
  Au (Ey x p (e::es) pos) (Qv sp dvs E t):=by
 intro pins s σ H Q I h;refine Xq (X7 I hg hm ?_ hdb);refine X4 (h₀:=X.base) I.ok.mod.kin hk (thn (ha pos pins s σ H _ I h) λus s1 ⟨vs,H1,I1,r,q⟩=>(BG I1.kIn)) he hpl;exact qD F hr hb hd hx I1 r q
theorem ygv{pl:Sem Bool}(he:Au o ta)(c:Cls X.K C)(hm:Meth X.K C m f)(F:FnOk X.prog X.w X.K X.mg X.base CX k f fd ps sp)(hr:Room k X.A)(hb:M5 X.K fd ps ds)(hd:Vals dvs ds)(hx:R7 CX X E)(ha:PA X (e::es) t)
  (hst:CA (e::es)=(D4 e)::CA es:=by rfl) (hpl:AL ((DT pos es).any (·.1)):=by rfl)
  (ht:Cz (Fy (FA o m) (e::es) pos)=(do
   let ov <- Cz o
   Um apos.atName
   let (f,first) <- Ti [ov] (XJ ov m pl)
   oF pos f first (DT pos (e::es)) (V4 pos (V0 [] X.env))):=by rfl) :
  Au (Fy (FA o m) (e::es) pos) (yji C m sp dvs E ta t):=by
 intro pins s σ H Q I h;refine pI (pl:=pl) (thn (he pins s σ H _ I h) Gp) ht;obtain⟨x,H1,I1,rx,a,dx,fs,ex,ea,l,q⟩:=hz9;subst ex;obtain rfl:u=KJ a:=rx;refine zi5 I1 ea c hm l ?_;refine X4 (first:=[Av]) (h₀:=X.base) I.ok.mod.kin hm.kp (thn (ha pos pins s1 σ H1 _ I1 q) λus s2 ⟨vs,H2,I2,r,q2⟩=>(BG I2.kIn)) hst hpl;exact qD (us:=Av::us) (vs:=Av::vs) F hr hb hd hx I2 (.cons rfl r) q2
structure Mk(K:Kd)(C f:Addr):Prop where
 makes:Zuz K C=true
 init:Py K (.ref C) "__init__" = some (some (.ref f))
 fn:aK K (.ref f)=true
 kp:Tv K (.ref C)=true
theorem ydr{pins:A7}{σ:St}{H:Hp}{s:Ke}{Q:VK}{us:Am}{vs:Ai}(M:Mk X.K C f)(F:FnOk X.prog X.w X.K X.mg X.base CX k f fd ps sp)(hr:Room (k+1) X.A)(hb:M5 X.K fd ps ds)(hd:Vals dvs ds)
  (hx:R7 CX X E) (I:Ak) (r:BY vs)
  (h:∀x dx,H x=none->H dx=none->dx≠x->sp (BB::(vs++dvs)) (upd (AX dx (.own x)) x (Cu dx [])) (λv H2=>v= .non/\Q BB H2) E) :
  B1 (call AG us) (EP X pins σ Q) s:=by
 have hq:=h (BQ 1) s.heap.objs.size (I.hok.fresh (Ra _)) (I.hok.fresh Az) (KY (Q9 _));have I2:=Inv.made (C:=C) I;have r2:Vals (V.ref (BQ 1)::(vs++dvs)) (KJ (BQ 1)::(us++ds)):=.cons rfl (r.append hd);have hl:CJ (KJ (BQ 1)::us++ds) ps.length:=by
  have e:=r2.length;rw[F.len _ _ _ _ hq] at e;exact e.symm
 refine Te (yb5 (f:=f) I.kIn M.makes M.init (beq_iff_eq.mp M.fn) (Td (F.run _ X.stack _ _ (Br (KJ (BQ 1)::us)) (KJ (BQ 1)::(us++ds)) _ _ E (hr.make C us [])
  (I2.env0.make C us []) (hb _ (KJ (BQ 1)::us) I2.kIn hl) r2 hq) λr s' hq'=>?_));cases r with
 | error e=>exact hx pins σ _ _ e s' I2 hq'
 | ok fl =>
  cases fl with
  | ret u =>
   obtain⟨v,H',I3,rv,ev,q3⟩:=I2.after hq';subst ev;exact⟨rv,(Bj (V.ref (BQ 1)) H' I3 q3)⟩
  | next=>exact Nb hq'
  | brk=>exact Nb hq'
  | cont=>exact Nb hq'
theorem yhy(M:Mk X.K C f)(F:FnOk X.prog X.w X.K X.mg X.base CX k f fd ps sp)(hr:Room (k+1) X.A)(hg:Gl X x)(hm:Ab (X.mg x) AG)(hb:M5 X.K fd ps ds)(hd:Vals dvs ds)(hx:R7 CX X E)
  (ha:PA X (e::es) t) (hdb:Be x EE:=by decide) (he:CA (e::es)=(D4 e)::CA es:=by rfl) (hpl:AL ((DT pos es).any (·.1)):=by rfl) :
  Au (Ey x p (e::es) pos) (yij C sp dvs E t):=by
 intro pins s σ H Q I h;refine Xq (X7 I hg hm ?_ hdb);refine X4 (h₀:=X.base) I.ok.mod.kin M.kp (thn (ha pos pins s σ H _ I h) λus s1 ⟨vs,H1,I1,r,q⟩=>(BG I1.kIn)) he hpl;exact ydr M F hr hb hd hx I1 r q
end
section
variable{X:Cx}{CX:CXT}{k:Nat}{f C:Addr}{fd:Mp}{ps ks:List Str}{sp:Sp}{E:XK}{x m:Str}{p pos apos kpos:Pos}{e o:Expr}{es:List Expr}{kws:List V7}{te ta:TE}{t tk:TA}{nm:Option Str}
structure KBinds(K:Kd)(fd:Mp)(ps ks:List Str)(g:List Ka->List Ka->List Ka)(gV:List V->List V->List V):Prop where
 to:∀(s:Ke) (us ws:List Ka),K.In s.heap->(g us ws).length=ps.length->Uo s fd ⟨us,ks.zip ws⟩ (ps.zip (g us ws))
 rel:∀{vs:List V} {us:List Ka} {zs:List V} {ws:List Ka},Vals vs us->Vals zs ws->Vals (gV vs zs) (g us ws)
variable{g:List Ka->List Ka->List Ka}{gV:List V->List V->List V}
end
structure FnScope(N P:List Str)(sc:Scope):Prop where
 kind:sc.kind= .function
 co:sc.isCoroutine=false
 gen:sc.isGenerator=false
 nd:N.Nodup
 pre:N.take P.length=P
 par:∀x∈P,sc.names.lookup x=some .local\/sc.names.lookup x=some .cell
 nofree:∀y∈sc.names,y.2 ≠ .free
theorem zpp{kindOf:Str->Option Qo}{x:Str}:∀{binds:Bf Ka} {m:Str->A4},(∀v,(x,v)∉binds)->Ur kindOf binds m x=m x
 | [],_,_=>rfl
 | (n,v)::r,m,h=>by
  unfold Ur;rw[zpp λw hw=>h w (AS hw)];split
  .have:x≠n:=by rintro rfl;exact h v KN
   simp[this]
  .rfl
theorem zql{kindOf:Str->Option Qo}{x:Str}:∀{binds:Bf Ka} {m:Str->A4},(∀v,(x,v)∉binds)->Us kindOf binds m x=m x
 | [],_,_=>rfl
 | (n,v)::r,m,h=>by
  unfold Us;rw[zql λw hw=>h w (AS hw)];split;.rfl
  .have:x≠n:=by rintro rfl;exact h v KN
   simp[this]
theorem zp7{kindOf:Str->Option Qo}{x:Str}{v:Ka}:∀{P:AC} {vs:Am} {i:Nat} {m:Str->A4},P.Nodup->Ah P x->Ah vs v->Ab (kindOf x) .local ->
  Ab (Ur kindOf (P.zip vs) m x) v
 | [],_,_,_,_,h,_,_=>by simp at h
 | _::_,[],_,_,_,_,h,_=>by simp at h
 | p::P,w::vs,0,m,nd,h1,h2,hk=>by
  simp at h1 h2;subst h1;subst h2;show Ur kindOf ((p,w)::P.zip vs) m p=_;unfold Ur;rw[zpp λv hv=>(M4.mp nd).1 (xW hv).1,if_pos hk];simp
 | p::P,w::vs,i+1,m,nd,h1,h2,hk=>by
  show Ur kindOf ((p,w)::P.zip vs) m x=_;unfold Ur;exact zp7 (i:=i) (M4.mp nd).2 (by simpa using h1) (by simpa using h2) hk
theorem zpg{kindOf:Str->Option Qo}{x:Str}{v:Ka}:∀{P:AC} {vs:Am} {i:Nat} {m:Str->A4},P.Nodup->Ah P x->Ah vs v->kindOf x≠some .local ->
  Ab (Us kindOf (P.zip vs) m x) v
 | [],_,_,_,_,h,_,_=>by simp at h
 | _::_,[],_,_,_,_,h,_=>by simp at h
 | p::P,w::vs,0,m,nd,h1,h2,hk=>by
  simp at h1 h2;subst h1;subst h2;show Us kindOf ((p,w)::P.zip vs) m p=_;unfold Us;rw[zql λv hv=>(M4.mp nd).1 (xW hv).1,if_neg hk];simp
 | p::P,w::vs,i+1,m,nd,h1,h2,hk=>by
  show Us kindOf ((p,w)::P.zip vs) m x=_;unfold Us;exact zpg (i:=i) (M4.mp nd).2 (by simpa using h1) (by simpa using h2) hk
noncomputable def start(N:AC)(vs:Ai):St:=vs.map some++mG (N.length - vs.length) none
noncomputable def cxOf(CX:CXT)(P:Ko)(w:Km)(K:Kd)(mg:Str->A4)(base:Heap)(N:AC)(qual:Str)(scope:Scope)(f:Addr)(cd:Ka)(A:Ks)(outer:List Env)(s:Ke)(H:Hp)(E:XK):Cx where
 prog:=P
 w:=w
 K:=K
 mg:=mg
 base:=base
 A:=A.deeper (Dz qual scope f cd)
 N:=N
 s₀:=s
 Hz:=H
 env:=Dz qual scope f cd
 outer:=outer
 stack:=Dz qual scope f cd::outer
 ex:=[]
 calm:=true
 fn:=λ_=>true
 pn:=[]
 xe:=λe s'=>Kw (Pz P w) (A.deeper (Dz qual scope f cd)) (leaving (Dz qual scope f cd) e) (λ_ s''=>CX outer H s E e s'') (λe' s''=>CX outer H s E e' s'') s'
theorem zt5{sc:Scope}{n:Nat}{x:Str}(h:Fw x .cell):∃c,Ab ((Zz3 n sc.names []).lookup x) c:=by
 have q:=Zsn sc.names n [] (.inl h);exact ZL.mp q
theorem ya9{CX:CXT}{P:Ko}{w:Km}{K:Kd}{mg:Str->A4}{base:Heap}{N ps:AC}{qual:Str}{scope:Scope}{f:Addr}{cd:Ka}{A:Ks}{outer:List Env}{s s1:Ke}{H:Hp}{E:XK}{us:Am}{vs:Ai}
  (S:FnScope N ps scope) (hd:DN) (e0:Env0 P w K mg base A outer s H) (hl:vs.length=ps.length) (r:BY vs)
  (x:InCallC s s.heap.objs.size (Ur (Dz qual scope f cd).kindOf (ps.zip us) λ_=>none) (Zz3 (BQ 1) scope.names []) (Us (Dz qual scope f cd).kindOf (ps.zip us) λ_=>none) s1) :
  Inv (cxOf CX P w K mg base N qual scope f cd A outer s H E) [] (Em N) H s1:=by
 have hpl:ps.length<=N.length:=by have:=congrArg PL S.pre;rw[O6] at this;omega
 obtain⟨h1,tk,rfl,hk⟩:=x.done;have noA:∀b:Addr,b∉(cxOf CX P w K mg base N qual scope f cd A outer s H E).ex:=λb z=>Gz (show b∈([]:Bp) from z);refine⟨⟨e0.mod,S.kind,rfl,rfl,Az,λy z c h1 h2=>?_,λy hy=>?_,λy c _ h=>?_,λ_=>hd,Around.frames_deeper e0.frames,.inr De,λb z=>absurd z (noA b),e0.bs,e0.bsz,λb _ _=>noA b,λb z=>absurd z (noA b),e0.funs,e0.frf⟩,
  rfl,e0.bare,Un.kept hk,(Ar x.toInCall.ns (λi y v h1 h2 h3=>?_)),λy c h=>(Bb (x.cell y c h)),e0.hok.fresh Az,λy c h=>?_,λp hp=>Gz (show p∈([]:A7) from hp),e0.hok.kept hk,?_⟩;.exact name_of_addr x.apart (Xo h1) (Xo h2)
 .have hy:Ab (scope.names.lookup y) .cell\/Ab (scope.names.lookup y) .free:=hy;rcases hy with hy | hy;.exact zt5 hy
  .exact Fp (S.nofree _ (Xo hy))
 .exact Xh (x.above y c (Xo h))
 .have hi:i<vs.length:=by
   unfold start at h2;by_cases hi:i<vs.length;.exact hi
   .rw[SN (by simpa using hi)] at h2;rw[lK] at h2;split at h2 <;> cases h2
  have ha:Ah vs v:=by
   unfold start at h2;rw[Qz (by simpa using hi),KR] at h2;cases e:vs[i]? with
   | none=>rw[e] at h2;cases h2
   | some a=>rw[e] at h2;cases h2;rfl
  obtain⟨u,hu,rv⟩:=r.get ha;have hp:Ah ps y:=by
   rw[<- S.pre,lH (by omega)];exact h1
  have ndP:ps.Nodup:=by rw[<- S.pre];exact S.nd.sublist (xT _ _)
  refine(Ck u rv);rcases S.par y (KD hp) with k | k;.exact .inl ⟨k,zp7 ndP hp hu k⟩
  .obtain⟨c,e⟩:=zt5 (n:=BQ 1) k;refine .inr ⟨.inl k,c,e,?_⟩;have q:=x.cell y c e;rw[zpg ndP hp hu (by show scope.names.lookup y≠_;rw[k];decide)] at q;exact q
 .exact e0.hok.fresh (Xh (x.above y c (Xo h)))
 .unfold start;show _=N.length;rw[K8,Kg,lR];omega
theorem yh7{CX:CXT}{P:Ko}{w:Km}{K:Kd}{mg:Str->A4}{base:Heap}{k:Nat}{f:Addr}{name qual:Str}{params:Arguments}{body:List Stmt}{scope:Scope}{dV kV doc pm cdv ct oc:Ka}{an od:CB}
  {osl:Array A4} {N ps:AC} {sp:Sp} (lk:Ab (K.lookup f) ⟨oc,od,.func (Ou name qual params body scope dV kV doc pm an cdv ct),osl⟩) (hcd:Aa (pL K cdv qual)) (S:FnScope N ps scope)
  (len:∀vs H Q E,sp vs H Q E->vs.length=ps.length)
  (hbody:∀(A:Ks) (outer:List Env) (s:Ke) (H:Hp) (vs:Ai) (Q:VK) (E:XK),FJ k (Dz qual scope f cdv)->sp vs H Q E ->
   ∃t,PSs (cxOf CX P w K mg base N qual scope f cdv A outer s H E) body t/\t Cv (Em N) H) :
  FnOk P w K mg base CX (k+1) f (Ou name qual params body scope dV kV doc pm an cdv ct) ps sp:=by
 refine⟨len,λA outer s H args us vs Q E hr e0 hb r hsp=>?_⟩;have hl:=len _ _ _ _ hsp;have KX:K.In s.heap:=e0.mod.kin.keeps λb o e=>(e0.bs b o e).1;have lim:s.heap.NoLimit:=e0.mod.nolimit.keeps λb o e=>(e0.bs b o e).1;have hkind:∀y∈ps.zip us,Ab (scope.names.lookup y.1) .local\/(Ab (scope.names.lookup y.1) .cell/\Aa ((Zz3 (BQ 1) scope.names []).lookup y.1).isSome):=λ⟨n,v⟩ hy=>by
  rcases S.par n (xW hy).1 with q | q;.exact .inl q
  .exact C1 q (Zsn _ _ _ (.inl q))
 refine codeAny_call_function hr.depth (KX _ _ lk) rfl S.co S.gen rfl (PySem.W.codeRec_of KX hcd) (hb _ _ _ _ ?_);refine wpAny_newFunctionEnv_cells S.kind hkind λenv he s1 x=>?_;subst he;refine⟨lim.keeps x.toInCall.keep,codeAny_func ?_⟩;obtain⟨t,ht,hq⟩:=hbody A outer s H vs Q E (hr.deeper _) hsp;have I:Inv (cxOf CX P w K mg base N qual scope f cdv A outer s H E) [] (Em N) H s1:=ya9 S hr.hd e0 hl r x;refine Nu (ht [] s1 (Em N) H _ I hq) (λfl s' hs=>?_) λe s' hs=>hs;have fin:∀{σ':St} {H':Hp} {v:V} {u:Ka},Inv (cxOf CX P w K mg base N qual scope f cdv A outer s H E) [] σ' H' s'->Bi v->Q v H'->CE outer P w H s Q u s' :=
  λ{σ' H' v u} J rv q=>⟨v,H',J.os,J.bare,J.base,J.hok,rv,q⟩;cases fl with
 | ret u =>
  obtain⟨v,σ',H',J,rv,q⟩:=hs;exact fin J rv q
 | next =>
  obtain⟨σ',H',J,q⟩:=hs;exact fin (v:=V.non) (u:=Lz) J rfl q
 | brk =>
  obtain⟨_,_,_,q⟩:=hs;exact Nb q
 | cont =>
  obtain⟨_,_,_,q⟩:=hs;exact Nb q
section
variable{X:Cx}{x:Str}{p pos:Pos}{e:Expr}{es:List Expr}{t:TA}{id T:String}{r:List V->Hp->VK->Prop}
noncomputable def tCB(r:Ai->Hp->B9)(t:TA):TE:=λσ H Q=>t σ H λvs H1=>r vs H1 Q
theorem zap(hc:DZ X id r)(hg:Gl X x)(hm:X.mg x=none)(hv:Ab (XC x) (.builtin id))(ha:PA X (e::es) t)(hn:x ≠ "__name__" := by decide)(hdb:Be x EE:=by decide)
  (he:CA (e::es)=(D4 e)::CA es:=by rfl) (hpl:AL ((DT pos es).any (·.1)):=by rfl):Au (Ey x p (e::es) pos) (tCB r t):=by
 intro pins s σ H Q I h;refine Xq (Uy I hg hm hv ?_ hn hdb);exact Zzd (thn (ha pos pins s σ H _ I h) λus s1 ⟨vs,H1,I1,r1,q1⟩=>hc pins s1 σ H1 vs us Q I1 r1 q1) he hpl
theorem Tz(hc:Om X (.type T) r)(hg:Gl X x)(hm:X.mg x=none)(hv:Ab (XC x) (.type T))(ha:PA X (e::es) t)(hn:x ≠ "__name__" := by decide)(hdb:Be x EE:=by decide)
  (he:CA (e::es)=(D4 e)::CA es:=by rfl) (hpl:AL ((DT pos es).any (·.1)):=by rfl):Au (Ey x p (e::es) pos) (tCB r t):=by
 intro pins s σ H Q I h;refine Xq (Uy I hg hm hv ?_ hn hdb);exact Xi (thn (ha pos pins s σ H _ I h) λus s1 ⟨vs,H1,I1,r1,q1⟩=>hc pins s1 σ H1 vs us Q I1 r1 q1) he hpl
end
end L2
namespace HT
open PySem PyProof.Rows
section
open PySem.SeqAt
open PySem.AutoSeq1 (wpAny_loadPart')
open PySem.MeetsSeq PySem.MeetsSeq2 PySem.MeetsSeq3
end
section
variable{prog:Ko}{w:Km}{A:Ks}{E:Ka->Ke->Prop}{s:Ke}
noncomputable def sIx(n d:Nat):CC->Nat
 | none=>d
 | some v=>if v<0 then (v+(n:Int)).toNat else min v.toNat n
theorem sIx_le(n d:Nat)(hd:d<=n)(o:CC):sIx n d o<=n:=by
 cases o with
 | none=>exact hd
 | some v =>
  show(if v<0 then (v+(n:Int)).toNat else min v.toNat n)<=n;by_cases hv:v<0;.rw[if_pos hv];omega
  .rw[if_neg hv];exact Nat.min_le_right _ _
end
end HT
namespace L2
open PySem PySem.Spec PyProof.Rows
noncomputable abbrev TO:=St->Hp->Aq (CC->A2)
noncomputable def PO(X:Cx)(e:Option Expr)(t:TO):Prop :=
 ∀(pins:A7) (s:Ke) (σ:St) (H:Hp) (Q:CC->A2),Ak->t σ H Q ->
  B1 (evalPart e X.env) (λu s'=>∃o H',Ce H' s'/\IsPart u o/\Q o H') s
noncomputable def yai:TO:=λ_ H Q=>Q none H
noncomputable def yko(t:TE):TO:=λσ H Q=>t σ H λx H1=>∃i,x= Ca/\Q (some i) H1
section
variable{X:Cx}{e:Expr}{te:TE}{lo hi:Option Expr}{tl th:TO}{pos p2:Pos}
theorem Ye:PO X none yai:=by
 intro pins s σ H Q I h;rw[Yas];exact Kf ⟨none,H,I,.none,h⟩
theorem R8(h:Au e te):PO X (some e) (yko te):=by
 intro pins s σ H Q I hw;rw[evalPart_some];refine thn (h pins s σ H _ I hw) Gp;obtain⟨x,H1,I1,r1,q1⟩:=hz9;obtain⟨i,rfl,q⟩:=q1;obtain⟨t,rfl⟩:=r1;exact⟨some i,H1,I1,.int i t,q⟩
noncomputable def SlR(X:Cx)(r:V->CC->CC->Hp->B9):Prop :=
 ∀(pins:A7) (s:Ke) (σ:St) (H:Hp) (x:V) (v vl vu:Ka) (lo hi:CC) (sl:Addr) (Q:VK),Ak->RelV x v->s.heap.IsSliceOf sl vl vu .none->IsPart vl lo->IsPart vu hi->r x lo hi H Q ->
  ∃T id,ZX (.type T) "__getitem__" = pure (some (.builtin id))/\s.TypeIs v T/\B1 (XM v (.ref sl)) (EP X pins σ Q) s
noncomputable def tSl(r:V->CC->CC->Hp->B9)(te:TE)(tl th:TO):TE:=λσ H Q=>te σ H λx H1=>tl σ H1 λl H2=>th σ H2 λu H3=>r x l u H3 Q
theorem UG{r:V->CC->CC->Hp->B9}(hr:SlR X r)(he:Au e te)(hl:PO X lo tl)(hu:PO X hi th):Au (.Subscript e (.Slice lo hi none p2) pos) (tSl r te tl th):=by
 intro pins s σ H Q I h;refine yX (thn (he pins s σ H _ I h) FI);obtain⟨x,H1,I1,r1,q1⟩:=hz9;refine wpAny_Slice (thn (hl pins s1 σ H1 _ I1 q1) λvl s2 ⟨l,H2,I2,pl,q2⟩=>thn (hu pins s2 σ H2 _ I2 q2) λvu s3 hz9=>?_);obtain⟨u,H3,I3,pu,q3⟩:=hz9;rw[Yas];refine B7;have I4:Ce H3 { s3 with heap:=s3.heap.push (Fs "slice" (.fields #[vl,vu,.none])) }:=I3.kept (t':=s3.toks) λb ob q=>A0 q;obtain⟨T,id,hT,ht,hg⟩:=hr pins { s3 with heap:=s3.heap.push (Fs "slice" (.fields #[vl,vu,.none])) } σ H3 x v vl vu l u s3.heap.objs.size Q I4 r1 (Zxo ..) pl pu q3;show B1 (yP e (.Slice lo hi none p2) v (.ref s3.heap.objs.size)) (EP X pins σ Q) { s3 with heap:=s3.heap.push (Fs "slice" (.fields #[vl,vu,.none])) };exact tail_any (ops:=[.ref s3.heap.objs.size,v]) ht hT hg (by with_unfolding_all rfl)
noncomputable def cutV(xs:Ai)(lo hi:CC):Ai:=(xs.drop (Fz 0 lo)).take (Fz xs.length hi - Fz 0 lo)
theorem zry(xs:Ai)(lo hi:CC):AB (cutV xs lo hi) xs.length:=by
 unfold cutV;rw[O6,VB];omega
end
noncomputable def ixN(n:Nat)(i:Int):Option Nat:=if 0<=i then (if i<n then some i.toNat else none) else if -(n:Int)<=i then some (i+n).toNat else none
noncomputable def atI{α:Type}(xs:AK)(i:Int):Option α:=(ixN xs.length i).bind λj=>xs[j]?
theorem ygs{n:Nat}{i:Int}{j:Nat}(h:Ab (ixN n i) j):Ab (seqIndex? i n) j/\j<n /\ -(n:Int)<=i/\i<n:=by
 unfold ixN at h;by_cases h0:0<=i
 .rw[if_pos h0] at h;by_cases h1:i<n
  .rw[if_pos h1] at h;have e:i.toNat=j:=PP h;exact⟨by rw[seqIndex_of h0 h1,e],by omega,by omega,h1⟩
  .rw[if_neg h1] at h;cases h
 .rw[if_neg h0] at h;by_cases h1 : -(n:Int)<=i
  .rw[if_pos h1] at h;have e:(i+n).toNat=j:=PP h;exact⟨by rw[seqIndex_neg (by omega) h1,e],by omega,h1,by omega⟩
  .rw[if_neg h1] at h;cases h
theorem zsh{α:Type}{xs:AK}{i:Int}{v:α}(h:Ab (atI xs i) v):∃j,Ab (seqIndex? i xs.length) j/\AQ xs v/\j<xs.length /\ -(xs.length:Int)<=i/\i<xs.length:=by
 unfold atI at h;cases e:ixN xs.length i with
 | none=>rw[e] at h;cases h
 | some j =>
  rw[e] at h;obtain⟨h1,h2,h3,h4⟩:=ygs e;exact⟨j,h1,h,h2,h3,h4⟩
theorem TF{α:Type}{xs:AK}{j:Nat}{v:α}(h:AQ xs v):Ab (atI xs (j:Int)) v:=by
 have hj:j<xs.length:=(BS h);have e:Ab (ixN xs.length (j:Int)) j:=by
  unfold ixN;rw[if_pos (by omega),if_pos (by omega)];simp
 unfold atI;rw[e];exact h
theorem ybd{α:Type}(xs:AK)(v:α):Ab (atI (xs++[v]) (-1)) v:=by
 have hl:CJ (xs++[v]) (xs.length+1):=by simp
 have e:Ab (ixN (xs++[v]).length (-1)) xs.length:=by
  unfold ixN;rw[hl,if_neg (by decide),if_pos (by omega)];congr 1;omega
 unfold atI;rw[e];show AM (xs++[v]) xs.length v;simp
noncomputable def ye9(b:Expr):Prop:=∀o i,nT b false o i=operate [o,i] (XM o i)
noncomputable def IxR(X:Cx)(r:R2):Prop :=
 ∀(value slice:Expr) (pins:A7) (s:Ke) (σ:St) (H:Hp) (x y:V) (v u:Ka) (Q:VK),Ak->RelV x v->Bi y->r x y H Q ->
  nT slice false v u=operate [v,u] (XM v u)->B1 (yP value slice v u) (EP X pins σ Q) s
noncomputable def MtR(X:Cx)(id:String)(r:V->Ai->Hp->B9):Prop :=
 ∀(pins:A7) (s:Ke) (σ:St) (H:Hp) (x:V) (xs:Ai) (v:Ka) (us:Am) (Q:VK),Ak->RelV x v->BY xs->r x xs H Q ->
  B1 (Gq id (v::us)) (EP X pins σ Q) s
section
variable{X:Cx}{a b:Expr}{ta tb:TE}{pos:Pos}
theorem Zr{r:R2}(hr:IxR X r)(ha:Au a ta)(hb:Au b tb)(hs:ye9 b):Au (.Subscript a b pos) (Ct r tb):=by
 intro pins s σ H Q I h;exact yX (binT ha hb I h λv u s2 x y H2 I2 rx ry q=>hr a b pins s2 σ H2 x y v u Q I2 rx ry q (hs _ _))
noncomputable def rIxL(K:Kd):R2:=λx y H Q=>∃p xs i v,x= Ap/\y= Ca/\A8 H p xs/\Ab (atI xs i) v/\Q v H
noncomputable def rIxT(K:Kd):R2:=λx y H Q=>∃p xs i v,x= Ap/\y= Ca/\SqT K H p xs/\Ab (atI xs i) v/\Q v H
noncomputable def rIxS:R2:=λx y H Q=>∃z i c,x= .str z/\y= Ca/\AD z.length/\Ab (atI z.cps.toList i) c/\Q (.str ⟨#[c]⟩) H
theorem zbg:IxR X (rIxL X.K):=by
 intro value slice pins s σ H x y v u Q I rx ry h hs;obtain⟨p,xs,i,z,rfl,rfl,hq,he,q⟩:=h;cases rx;obtain⟨t,rfl⟩:=ry;obtain⟨its,r,pl,hz⟩:=EL;obtain⟨j,h1,h2,h3,h4,h5⟩:=zsh he;obtain⟨w,ew,rw'⟩:=r.get h2;have hl:=r.length;have hn:=pZ;have fin:EP X pins σ Q w s:=⟨z,H,I,rw',q⟩;by_cases h0:0<=i
 .have hj:i.toNat=j:=by
   rw[seqIndex_of h0 h5] at h1;exact PP h1
  exact item_listR pl.isList h0 (by omega) (by rw[hj];simpa using ew) fin hs
 .have hj:(i+(its.toArray.size:Int)).toNat=j:=by
   rw[seqIndex_neg (by omega) h4] at h1;rw[Nz,<- hl];exact PP h1
  exact Zu9 (x:=w) pl.isList.typeIs slot_list_getitem.lookup
   (wpAny_getItem_list_neg (Q:=λr s'=>r=w/\EP X pins σ Q r s') pl.isList (by omega) (by rw[Nz] <;> omega) (by omega) (by rw[hj];simpa using ew) (CW fin)) hs
theorem zay:IxR X (rIxT X.K):=by
 intro value slice pins s σ H x y v u Q I rx ry h hs;obtain⟨p,xs,i,z,rfl,rfl,hq,he,q⟩:=h;cases rx;obtain⟨t,rfl⟩:=ry;obtain⟨its,r,pl,hz⟩:=I.tuple hq;obtain⟨j,h1,h2,h3,h4,h5⟩:=zsh he;obtain⟨w,ew,rw'⟩:=r.get h2;have hl:=r.length;have hn:=pZ;have fin:EP X pins σ Q w s:=⟨z,H,I,rw',q⟩;exact Zu9 (x:=w) pl.typeIs slot_tuple_getitem.lookup
  (getItem_tuple (j:=j) (Q:=λr s'=>r=w/\EP X pins σ Q r s') pl (by omega) (by omega) (by rw[Nz,<- hl];exact h1) (by simpa using ew) (CW fin)) hs
theorem yez:IxR X rIxS:=by
 intro value slice pins s σ H x y v u Q I rx ry h hs;obtain⟨z,i,c,rfl,rfl,hz,he,q⟩:=h;obtain⟨t,rfl⟩:=rx;obtain⟨t',rfl⟩:=ry;obtain⟨j,h1,h2,h3,h4,h5⟩:=zsh he;have hl:z.cps.toList.length=z.length:=by simp[Yaf]
 rw[hl] at h1 h4 h5;have hn:=pZ;exact tail_any (Tf s z t) slot_str_getitem.lookup (getItem_str (c:=c) (by
  have e1:AL (decide (i< -(2 ^ 63:Int))):=decide_eq_false (by omega);have e2:AL (decide (i ≥ 2 ^ 63)):=decide_eq_false (by omega);rw[e1,e2,lC]) (by rw[h1];simpa using h2) ⟨.str ⟨#[c]⟩,H,DH,(AY _),q⟩) hs
theorem zo3(lo hi:CC)(n:Nat):(VR lo hi none n).1=(Ew (HT.sIx n 0 lo))/\(VR lo hi none n).2.1=(Ew (HT.sIx n n hi))/\(VR lo hi none n).2.2=1:=by
 refine(Dm ?_ ?_)
 .cases lo with
  | none=>simp[VR,HT.sIx]
  | some i =>
   simp only[VR,HT.sIx,Zu0,show(1:Int)>0 by decide,if_true];by_cases h:i<0;.simp only[h,if_true] <;> omega
   .simp only[h,if_false] <;> omega
 .cases hi with
  | none=>simp[VR,HT.sIx]
  | some i =>
   simp only[VR,HT.sIx,Zu0,show(1:Int)>0 by decide,if_true];by_cases h:i<0;.simp only[h,if_true] <;> omega
   .simp only[h,if_false] <;> omega
theorem znl(its:Am)(lo hi:CC):slicePick its.toArray lo hi none=((its.drop (HT.sIx its.length 0 lo)).take (HT.sIx its.length its.length hi - HT.sIx its.length 0 lo)).toArray:=by
 obtain⟨h1,h2,h3⟩:=zo3 lo hi its.toArray.size;unfold slicePick;rw[h1,h2,h3];simp only[sliceRange_one,pick_run,Nz] <;> rfl
noncomputable def rSlL(K:Kd):V->CC->CC->Hp->B9:=λx lo hi H Q=>∃a xs,x= Av/\A8 H a xs /\ ∀p,H p=none->Q Ap (BX H p (cutV xs lo hi))
theorem Yg:SlR X (rSlL X.K):=by
 intro pins s σ H x v vl vu lo hi sl Q I rx hs pl pu h;obtain⟨a,xs,rfl,hx,q⟩:=h;cases rx;obtain⟨its,r,ht,hz⟩:=I.list hx;have hlen:=r.length;refine⟨"list", _,slot_list_getitem.lookup,ht.isList.typeIs,?_⟩;refine wpAny_getItem_list_slice ht.isList hs pl pu .none (by simp) ?_ (by rw[Nz] <;> omega);rw[znl,<- hlen];refine(Bj BN _ (I.laid (t':=s.toks) (o:=.lst (cutV xs lo hi)) (λb ob q=>A0 q) Az ?_) (q _ (I.hok.fresh Az)));exact⟨Nk (zry xs lo hi) hz,_,0,(r.drop (Fz 0 lo)).take (Fz xs.length hi - Fz 0 lo),BP _⟩
theorem TJ:DZ X "len" (E8 (xs=[Ap]/\(SqL X.K H p ys\/SqT X.K H p ys)/\Q (.int ys.length) H)):=by
 intro pins s σ H xs us Q I r h;obtain⟨p,ys,rfl,hq,q⟩:=h;obtain⟨u,rfl,rx⟩:=Qc r;cases rx;have hn:=pZ;rcases hq with hq | hq
 .obtain⟨its,r',pl,hz⟩:=EL;have hlen:=r'.length;exact Calls.call_len_list pl.isList (by simp only[Nz] <;> omega) ⟨.int ys.length,H,DH,⟨s.toks+1,by rw[Nz,hlen]⟩,q⟩
 .obtain⟨its,r',pl,hz⟩:=I.tuple hq;have hlen:=r'.length;exact len_tuple pl (by simp only[Nz] <;> omega) ⟨.int ys.length,H,DH,⟨s.toks+1,by rw[Nz,hlen]⟩,q⟩
theorem zjl:Om X FL (E8 (xs=[Ap]/\(SqL X.K H p ys\/SqT X.K H p ys) /\ ∀l,H l=none->Q Cd (BX H l ys))):=by
 intro pins s σ H xs us Q I r h;obtain⟨p,ys,rfl,hq,q⟩:=h;obtain⟨u,rfl,rx⟩:=Qc r;cases rx;have fin:∀(its:Am),Vals ys its->AD ys.length-> ∀(h':Heap) (c':Nat),(∀b o',Cp b o'->AJ b o') ->
   AJ s.heap.objs.size (Gd "list" (.seq its.toArray c') (#[]))->EP X pins σ Q BN { s with heap:=h' }:=λits r' hz h' c' kp e =>
  (Bj BN _ (I.laid (t':=s.toks) kp Az (show Lr X.prog X.w _ h' _ (.lst ys) from⟨hz,its,c',r',e⟩)) (q _ (I.hok.fresh Az)));rcases hq with hq | hq
 .obtain⟨its,r',pl,hz⟩:=EL;have hlen:=r'.length;obtain⟨o,ho,hc,n,hd⟩:=pl.isList;exact Yav p A6 ho hc hd (λh' c' kp e=>fin its r' hz h' c' kp e) (by simp only[Nz] <;> omega)
 .obtain⟨its,r',pl,hz⟩:=I.tuple hq;have hlen:=r'.length;obtain⟨o,ho,hc,n,hd⟩:=pl;exact Yav p (.inr rfl) ho hc hd (λh' c' kp e=>fin its r' hz h' c' kp e) (by simp only[Nz] <;> omega)
noncomputable def tyV(K:Kd)(T:String)(x:V)(H:Hp):Prop:=match x with
 | .str _=>T = "str"
 | .int _=>T = "int"
 | .ref p=>(T = "list" /\ ∃xs,A8 H p xs)\/(T = "tuple" /\ ∃o,Ab (K.lookup p) o/\o.cls= EU /\ o.dict=none) \/
   (T = "dict" /\ ((∃kvs,Aw p (.dK kvs)) \/ ∃kvs,Aw p (.dT kvs)))\/(T = "set" /\ ∃S n,Aw p (.set S n))
 | _=>False
theorem yeu{pins:A7}{σ:St}{H:Hp}{s:Ke}{T:String}{x:V}{v:Ka}(I:Ak)(r:RelV x v)(ty:tyV X.K T x H) :
  s.TypeIs v T /\ ∀a,v= Av-> ∃ob,Cp a ob/\ob.dict=none:=by
 cases x with
 | str z =>
  obtain⟨t,rfl⟩:=r;cases (show T = "str" from ty);exact⟨Tf s z t,λ_ e=>nomatch e⟩
 | int i =>
  obtain⟨t,rfl⟩:=r;cases (show T = "int" from ty);exact⟨Zxx s i t,λ_ e=>nomatch e⟩
 | ref p =>
  cases r;rcases ty with ⟨rfl,xs,hq⟩ | ⟨rfl,o,hk,hc,hd⟩ | ⟨rfl,hk⟩ | ⟨rfl,S,n,hk⟩
  .obtain⟨its,_,pl,_⟩:=EL;refine⟨pl.isList.typeIs,λa e=>?_⟩;cases e;obtain⟨o,n,e,c,hd,_⟩:=pl;exact(CK e hd)
  .refine⟨(CK (I.kIn p o hk) hc),λa e=>?_⟩;cases e;exact(CK (I.kIn _ o hk) hd)
  .have z:∃o,AI p/\o.ExactDict:=by
    rcases hk with ⟨kvs,hk⟩ | ⟨kvs,hk⟩
    .obtain⟨_,_,_,_,o,_,_,e,ex,_⟩:=I.hok p _ hk;exact(CK e ex)
    .obtain⟨_,_,_,_,o,_,_,e,ex,_⟩:=I.hok p _ hk;exact(CK e ex)
   obtain⟨o,e,ex⟩:=z;refine⟨(CK e ex.1),λa e2=>?_⟩;cases e2;exact(CK e ex.2.1)
  .obtain⟨o,_,_,_,e,ex,_⟩:=I.hok p _ hk;refine⟨(CK e ex.1),λa e2=>?_⟩;cases e2;exact(CK e ex.2.1)
 | _=>exact Nb ty
noncomputable def tBM0(K:Kd)(T:String)(r:V->Ai->Hp->B9)(to:TE):TE:=λσ H Q=>to σ H λx H1=>tyV K T x H1/\r x [] H1 Q
noncomputable def tBM(K:Kd)(T:String)(r:V->Ai->Hp->B9)(to:TE)(t:TA):TE:=λσ H Q=>to σ H λx H1=>tyV K T x H1/\t σ H1 λxs H2=>r x xs H2 Q
variable{o e:Expr}{es:List Expr}{to:TE}{t:TA}{name:Str}{apos cpos:Pos}{T id:String}{r:V->List V->Hp->VK->Prop}
theorem zx9(pa:PlainAttrs T)(slot:Slot T name id)(hty:Uq (.builtin id)=pure (.type "method_descriptor"))(hm:MtR X id r)(ho:Au o to)
  (hbase:Uj o name X.env (Cz o)=Cz o:=by rfl) (hline:Aa (apos.endLine == cpos.line):=by rfl):Au (Fy (FA o name) [] cpos) (tBM0 X.K T r to):=by
 intro pins s σ H Q I h;refine Zup hbase hline (thn (ho pins s σ H _ I h) FI);obtain⟨x,H1,I1,r1,ty,q1⟩:=hz9;obtain⟨h1,h2⟩:=yeu I1 r1 ty;exact⟨T,id,pa,slot,hty,h1,h2,Z7 rfl (Zt2 (hm pins s1 σ H1 x [] v [] Q I1 r1 .nil q1))⟩
theorem Oe(pa:PlainAttrs T)(slot:Slot T name id)(hty:Uq (.builtin id)=pure (.type "method_descriptor"))(hm:MtR X id r)(ho:Au o to)(ha:PA X (e::es) t)
  (hbase:Uj o name X.env (Cz o)=Cz o:=by rfl)
  (hfew:Aa ((DT cpos (e::es)).all (λx=>! x.1)&&(V4 cpos (V0 [] X.env)).all (λx=>x.1.isSome)
   && AF ((e::es).length+([]:List V7).length+(if ([]:List V7).isEmpty then 0 else 1)) 30):=by rfl)
  (hline:Aa (apos.endLine == cpos.line):=by rfl) (hs:CA (e::es)=(D4 e)::CA es:=by rfl) (hplain:AL ((DT cpos es).any (·.1)):=by rfl) :
  Au (Fy (FA o name) (e::es) cpos) (tBM X.K T r to t):=by
 intro pins s σ H Q I h;refine wpAny_Call_method_late hbase hfew hline rfl (thn (ho pins s σ H _ I h) FI);obtain⟨x,H1,I1,r1,ty,q1⟩:=hz9;obtain⟨h1,h2⟩:=yeu I1 r1 ty;refine⟨T,id,pa,slot,hty,h1,h2,?_⟩;have hA:=ha cpos pins s1 σ H1 _ I1 q1;rw[hs] at hA ⊢;refine Z7 (by show(false||(Vr cpos (Vp es X.env)).any (·.1))=false;rw[hplain] <;> rfl) (Zpv ?_);refine thn hA λus s2 hz9=>?_;obtain⟨vs,H2,I2,r2,q2⟩:=hz9;exact hm pins s2 σ H2 x vs v us Q I2 r1 r2 q2
end
noncomputable def MtM(X:Cx)(id:String)(r:V->Ai->Hp->B9):Prop :=
 ∀(pins:A7) (s:Ke) (σ:St) (H:Hp) (x:V) (xs:Ai) (v:Ka) (us:Am) (Q:VK),Ak->RelV x v->BY xs->r x xs H Q ->
  B1 (Gq id (v::us)) (EP X pins σ Q) s
theorem Vals.one:∀{x:V} {us:Am},BY [x]-> ∃u,us=[u]/\Bi x
 | _,_,.cons r .nil=>(Ar rfl r)
theorem Vals.zero:∀{us:Am},BY []->us=[]
 | _,.nil=>rfl
theorem Vals.reverse{xs:Ai}{us:Am}(h:BY xs):Vals xs.reverse us.reverse:=by
 induction h with
 | nil=>exact .nil
 | cons r t ih=>rw[ZF,ZF];exact Vals.append ih (.cons r .nil)
section
variable{X:Cx}{pins:List (Addr×Obj)}{σ:St}{H:Hp}{s:Ke}{l b:Addr}{xs ys zs:List V}
theorem Inv.lset{its its':Am}{n:Nat}{f:BT->BT}{t':Nat}(I:Ak)(hH:Ez l xs)
  (e:Cp l (Du (.seq its.toArray n))) (hf:f its.toArray=its'.toArray) (hv:Vals ys its') (hz:AD ys.length) :
  Ce (BX H l ys) { s with heap:=s.heap.update l (O1 f),toks:=t' }:=by
 have q:=Ya0 e f;rw[hf] at q;refine I.write (x:=l) (e:=l) (by rw[hH];exact trivial) A6 (λb' u hb hu=>(Pa s.heap (O1 f) (K7 hb)).trans hu) (Bb q) ?_;exact⟨hz,its',_,hv,q⟩
theorem Inv.lnew{its:Am}{t':Nat}(I:Ak)(hv:Vals ys its)(hz:AD ys.length) :
  Ce (BX H s.heap.objs.size ys) { s with heap:=CP "list" (.seq its.toArray),toks:=t' } :=
 I.laid (λ_ _ q=>A0 q) Az ⟨hz,its,0,hv,BP _⟩
theorem Inv.fresh(I:Ak):H s.heap.objs.size=none:=I.hok.fresh Az
theorem Inv.lstM(I:Ak)(hH:Ez l xs):AD xs.length /\ ∃(its:Am) (n:Nat),Vals xs its/\xs.length=its.length/\Cp l (Du (.seq its.toArray n)):=by
 obtain⟨z,its,n,r,e⟩:=I.hok l _ hH;exact⟨z,its,n,r,r.length,e⟩
theorem yc3{n:Nat}(h:AD n):AL (oV n):=by
 unfold oV;exact decide_eq_false (by omega)
end
section
variable{X:Cx}
noncomputable def zrq:V->Ai->Hp->B9:=λx vs H Q=>∃l xs y,x= Cd/\vs=[y]/\Ez l xs/\Dk xs.length/\GJ (BX H l (xs++[y]))
theorem Qf:MtM X "list.append" zrq:=by
 intro pins s σ H x vs v us Q I rx rv h;obtain⟨l,xs,y,rfl,rfl,hH,hz,q⟩:=h;cases rx;obtain⟨u,rfl,ru⟩:=rv.one;obtain⟨z,its,n,r,hl,e⟩:=I.lstM hH;refine nY P0 (Cm e) F.entry_list_append (F.args_list_append_2 _ _) (PySem.list_append l its.toArray n u (by rw[Nz];omega)) (BG e);refine(Bj .non _ (I.lset (its':=its++[u]) hH e (by simp) (r.append (.cons ru .nil)) ?_) q);rw[K8,Oz];omega
noncomputable def zz7:V->Ai->Hp->B9:=λx vs H Q=>∃l xs,x= Cd/\vs=[]/\Ez l xs/\GJ (BX H l [])
theorem zs0:MtM X "list.clear" zz7:=by
 intro pins s σ H x vs v us Q I rx rv h;obtain⟨l,xs,rfl,rfl,hH,q⟩:=h;cases rx;have hus:=rv.zero;subst hus;obtain⟨z,its,n,r,hl,e⟩:=I.lstM hH;refine nY Zrl (Cm e) F.entry_list_clear (F.args_list_clear_1 _) (AutoSeq1.list_clear_list_0 l its.toArray n (by rw[Nz];omega)) (BG e);exact(Bj .non _ (I.lset (its':=[]) (ys:=[]) hH e rfl .nil BM) q)
end
end L2
namespace Att
open PySem PySem.W PySem.Calls PyProof.Rows
theorem zkx{P:Params}{h:Heap}:∀(ns:Cb) (vs:Am),WellAll P h vs (ns.map WData.int)->Xl vs ns:=by
 intro ns;induction ns with
 | nil =>
  intro vs w;rw[PK] at w;cases w;exact .nil
 | cons n ns ih =>
  intro vs w;rw[Kq] at w;cases w with
  | cons a b =>
   cases a;exact .cons _ _ (ih _ b)
theorem zzm{l:OpenLaw}{n:Nat}(hn:Ab l.most n){P:Params}{h:Heap}{args:List WData}{vals:Am}
  (hpre:Aa (l.row.toRowW.claim.pre args)) (hwl:WellAll P h vals args) :
  ∃a vs ns,vals=[KJ a]/\args=[WData.list (ns.map WData.int)]/\AE a (Du FH)/\Xl vs ns/\ns.length<=n:=by
 have hsh:Aa (WShape.hasAll [] args [.list .int]):=(pre_splitW hpre).1;have hc:Aa (l.pre.holds [] { args:=args }):=(pre_splitW hpre).2;obtain⟨d,r,rfl,h1,h2⟩:=hasAllW_cons hsh;obtain rfl:=hasAllW_nil h2;obtain⟨xs,rfl,h3⟩:=hasW_list h1;obtain⟨ns,rfl⟩:=items_int h3;have hlen:ns.length<=n:=by
  unfold OpenLaw.pre at hc;have h4:Aa ((WTm.not (.lt (.lit (.int (n:Int))) (.len (.arg 0)))).holds [] { args:=[.list FF] }):=by
   have h4:=(holds_andW hc).1;rw[hn] at h4;exact h4
  have h5:=condW_of h4 (w_not (w_lt w_lit (w_len_list (w_arg rfl))));rw[Kg] at h5;refine Nat.le_of_not_lt λq=>?_;have q':(n:Int)<((ns.length:Nat):Int):=by omega
  first
   | (rw[decide_eq_true q'] at h5;exact absurd h5 (by decide))
   | (simp at h5;omega)
 cases hwl with
 | cons w1 w2 =>
  cases w2;cases w1 with
  | list ho hall=>exact⟨_,_,ns,rfl,rfl,ho,zkx ns _ hall,hlen⟩
theorem yba(l:OpenLaw)(args:List WData):Aa (l.row.toRowW.claim.post args (.bool true) args) :=
 postW_of (r:=l.row.toRowW) (X:=(true == true))
  (show Aa (WShape.has [] (.bool true) .bool) by first | rfl | decide | simp[WShape.has,WShape.arms,WShape.armsAll])
  (show Ab ((WTm.eq .res (.lit (.bool true))).value [] { args:=args,res:=some (.bool true),after:=args }) (.bool (true == true)) from w_eq_bool (w_res rfl) w_lit) rfl
theorem attach_call{l:OpenLaw}{n:Nat}{q:Ko}{loose:AC}{XP:(Str->A4)->Aq Heap}{YP:Km->Aq Heap}{d:DefRec}
  (hn:Ab l.most n) (hdf:d.params.defaults=[])
  (call:∀(w:Km) (s₀ s₁:Ke) (mg mb:Str->A4) (fa:Addr) (o:Obj) (pm cd doc:Ka) (a:Addr) (vs:Am) (ns:Cb),
   Ground q loose [] XP w s₀ mg mb s₁.heap->YP w s₁.heap ->
   Ab (s₁.heap.get? fa) o->o.data= .func (docDef d.name d.params d.body d.scope pm cd doc)->s₁.heap.CodeRec cd d.name->Ab (mg d.name) (.ref fa) ->
   Ab (s₁.heap.get? a) (Du FH)->Xl vs ns->ns.length<=n->s₁.gens= #[] ->
   Pr (Pz l.prog w) V6 (.call (.ref fa) (Br [Av])) (λr s'=>r= EY (.bool true)/\OldK s₁.heap s'.heap/\s'.os=s₁.os/\RZ s'.gens) s₁) :
  WalkO q loose XP YP l.row.toRowW d [] (λf vs=>zY f vs):=by
 intro w s₀ s₁ mg mb G Y fa o pm cd doc dV kV ho hd hcd hD hmg hg args vals as hpre hlay hrd hwl hlo;obtain rfl:dV= .none:=Dflts.none hD hdf;obtain rfl:kV= .none:=Dflts.noKw hD;obtain⟨a,vs,ns,rfl,rfl,hobj,hints,hlen⟩:=zzm hn hpre hwl;refine enter_call (Td (call w s₀ s₁ mg mb fa o pm cd doc a vs ns G Y ho (fd_plain hd) hcd hmg hobj hints hlen hg) λr s' hq=>?_);obtain⟨rfl,h2,h3,h4⟩:=hq;exact⟨.inl ⟨.bool true,.bool true,[],rfl,λ_=>rfl,.bool true,yba l _,λ_=>⟨Zse,λ_ hm=>(nomatch hm)⟩⟩,h2,h3,h4⟩
section
variable{prog:Ko}{w:Km}{A:Ks}{E:Ka->Ke->Prop}{s:Ke}{K:Frag}
end
end Att
namespace L2
open PySem PySem.Spec PyProof.Rows
theorem zqo:∀{vs:Am} {ns:Cb},Xl vs ns->Vals Gb vs
 | _,_,.nil=>.nil
 | _,_,.cons n t h=>.cons (AY t) (zqo h)
noncomputable def Only(H:Hp):Prop:=∀b,H b=none \/ ∃o xs,Aw b (.frz o (.lst xs))
theorem ycv {P : Ko} {w : Km} {K : Kd} {mg mb : Str -> A4} {CX : CXT} {k : Nat} {fa a : Addr} {fd : Mp} {x : Str} {sp : Sp} {s₁ : Ke} {vs : Am} {ns : Cb}
  (KX:K.In s₁.heap) (hns:s₁.heap.Ns QG mg) (hb:s₁.heap.Ns Zx1 mb) (hbb:∀x:Str,x ≠ "__name__" -> mb x=XC x) (hlim:s₁.heap.NoLimit) (hg:s₁.gens= #[])
  (ha:Ab (s₁.heap.get? a) (Du FH)) (hi:Xl vs ns) (hl:AD ns.length) (hr:Room k V6)
  (F:∀base:Heap,K.In base->base.Ns QG mg->FnOk P w K mg base CX k fa fd [x] sp) (hbind:∀(s:Ke) (u:Ka),Uo s fd (Br [u]) [(x,u)])
  (hsp:∀H:Hp,Only H->A8 H a Gb->sp [Av] H (λv _=>v= C2) λ_ _ _=>False)
  (hCX:∀H e s',CX [] H s₁ (λ_ _ _=>False) e s'->False) :
  Pr (Pz P w) V6 (.call (.ref fa) (Br [Av])) (λr s'=>r= EY (.bool true)/\OldK s₁.heap s'.heap/\s'.os=s₁.os/\RZ s'.gens) s₁:=by
 have rv:=zqo hi;have lenV:=hi.length
 -- from an abstract heap in which nothing but the script may be tracked
 have core:∀H:Hp,Only H->A8 H a Gb->HOk P w H s₁.heap->(∀b,H b≠none->b=a)->(H a≠none->K.lookup a=none) ->
   Pr (Pz P w) V6 (.call (.ref fa) (Br [Av])) (λr s'=>r= EY (.bool true)/\OldK s₁.heap s'.heap/\s'.os=s₁.os/\RZ s'.gens) s₁:=by
  intro H hO hS hok hA hK;have base_of:∀{b:Addr} {o:Obj},Ab (s₁.heap.get? b) o->H b=none->Cj (hidT s₁.heap H) b o:=λe n=>yc0 e n;have noA:∀{b:Addr} {o:Obj} {es:Array Th} {ep:Nat},Ab (s₁.heap.get? b) o->o.data= .dict es ep->H b=none:=λ{b o es ep} e d=>by
   cases q:H b with
   | none=>rfl
   | some u =>
    have e':b=a:=hA b (by rw[q];simp);subst e';rw[ha] at e;cases e;have d':Data.seq vs.toArray _=Data.dict es ep:=d;cases d'
  have nsK:∀{b:Addr} {m:Str->A4},s₁.heap.Ns b m->(hidT s₁.heap H).Ns b m:=λ{b m} ⟨o,es,ep,e,d,r⟩=>⟨o,es,ep,base_of e (noA e d),d,r⟩;have hKb:K.In (hidT s₁.heap H):=λb o e=>base_of (KX b o e) (by
   cases q:H b with
   | none=>rfl
   | some u =>
    have e':b=a:=hA b (by rw[q];simp);subst e';rw[hK (by rw[q];simp)] at e;cases e);have hM:Mod K mg (hidT s₁.heap H):=⟨hKb,nsK hns,⟨mb,nsK hb,hbb⟩,let ⟨mc,h1,h2⟩:=hlim;⟨mc,nsK h1,h2⟩⟩;have e0:Env0 P w K mg (hidT s₁.heap H) V6 [] s₁ H:=⟨rfl,hM,λb o e=>ygz e,Zzg (zzn _ _),trivial,λb hb=>Gz (show b∈([]:Bp) from hb),hok,.of_eq hg⟩;refine Td ((F _ hKb (nsK hns)).run V6 [] s₁ H (Br [Av]) [Av] [Av] _ _ hr e0 (hbind s₁ Av) (.cons rfl .nil) (hsp H hO hS)) λr s' h=>?_;cases r with
  | error e=>exact(hCX H e s' h).elim
  | ok fl =>
   cases fl with
   | next=>exact Nb h
   | brk=>exact Nb h
   | cont=>exact Nb h
   | ret u =>
    obtain⟨v,H',os,bare,un,hok',r',q⟩:=h;have q':v= C2:=q;subst q';obtain rfl:u=Px true:=r';refine(Dq (OldK.of_keep λb o e=>?_) os bare);cases q:H b with
    | none=>exact un.keep b o e q (by intro z;exact absurd (show b∈([]:List Addr) from z) (by simp)) (by simp)
    | some u =>
     rcases hO b with z | ⟨ob,xs,z⟩;.rw[q] at z;cases z
     .have z2:=un.frzs b ob _ z;obtain⟨e1,_⟩:=hok b _ z;obtain⟨e2,_⟩:=hok' b _ z2;rw[e] at e1;cases e1;exact e2
 cases hk:K.lookup a with
 | some o =>
  -- the script is one of the module's own objects
  have e:=KX a o hk;rw[ha] at e;cases e;refine core (λ_=>none) (λ_=>A6) (.inr ⟨_,vs.toArray,_,hk,rfl,rfl,rfl,by rw[Nz,lenV];exact hl,by simpa using rv⟩) (λb u z=>by have z':(none:Option HO)=some u:=z;cases z') (λb z=>Fp z) λz=>Fp z
 | none =>
  refine core (λb=>if b=a then some (.frz (Du FH) (.lst Gb)) else none) (λb=>?_) (.inl (C1 (Du FH) BR)) (λb u z=>?_) (λb z=>?_) λ_=>hk
  .by_cases hb:b=a;.exact .inr (Ar _ (if_pos hb))
   .exact .inl (if_neg hb)
  .by_cases hb:b=a
   .have z':=(if_pos hb).symm.trans z;cases z';subst hb;exact⟨ha,by rw[Kg];exact hl,vs,_,rv,ha⟩
   .have z':=(if_neg hb).symm.trans z;cases z'
  .by_cases hb:b=a;.exact hb
   .exact absurd (if_neg hb) z
theorem walk_of{l:Zqy}{n k:Nat}{q:Ko}{loose:AC}{XP:(Str->A4)->Aq Heap}{YP:Km->Aq Heap}{d:DefRec}{K:Params->Kd}{CX:Km->CXT}{sp:Km->Sp}{x:Str}
  (hn:Ab l.most n) (hn2:AD n) (hdf:d.params.defaults=[]) (hr:Room k V6)
  (hY:∀(w:Km) (h:Heap),YP w h->(K w.params).In h)
  (F:∀(w:Km) (mg:Str->A4) (fa:Addr) (h:Heap),(K w.params).In h->h.Ns QG mg->Ab (mg d.name) (.ref fa) ->
   ∃fd:Mp,(∀(s:Ke) (u:Ka),Uo s fd (Br [u]) [(x,u)]) /\
    ∀base:Heap,(K w.params).In base->base.Ns QG mg->FnOk l.prog w (K w.params) mg base (CX w) k fa fd [x] (sp w))
  (hsp:∀(w:Km) (H:Hp) (a:Addr) (ns:Cb),ns.length<=n->Only H->SqL (K w.params) H a Gb->sp w [Av] H (λv _=>v= C2) λ_ _ _=>False)
  (hCX:∀(w:Km) (H:Hp) (s:Ke) (e:Ka) (s':Ke),CX w [] H s (λ_ _ _=>False) e s'->False) :
  Zv2 q loose XP YP l.row.toRowW d [] (λf vs=>zY f vs):=by
 refine Att.attach_call hn hdf λw s₀ s₁ mg mb fa o pm cd doc a vs ns G Y ho hd hcd hmg hobj hints hlen hg=>?_;have KX:=hY w _ Y;obtain⟨fd,hb,hF⟩:=F w mg fa _ KX G.T.g hmg;exact ycv KX G.T.g G.T.b G.T.builtins G.T.nolimit hg hobj hints (Nk hlen hn2) hr hF hb (λH hO hS=>hsp w H a ns hlen hO hS) λH e s'=>hCX w H s₁ e s'
noncomputable def Pg(s:Stmt):Arguments:=match s with
 | .FunctionDef _ a _ _ _ _ _ _ _ _=>a
 | _=>{ posonlyargs:=[],args:=[],vararg:=none,kwonlyargs:=[],kw_defaults:=[],kwarg:=none,defaults:=[] }
noncomputable def Mv(s:Stmt):List Stmt:=match s with
 | .FunctionDef _ _ b _ _ _ _ _ _ _=>b
 | _=>[]
noncomputable def KZ(s:Stmt):Scope:=match s with
 | .FunctionDef _ _ _ _ _ _ sc _ _ _=>sc
 | _=>{ kind:=.function,names:=[],isGenerator:=false,isCoroutine:=false }
noncomputable abbrev CX0:CXT:=λ_ _ _ _ _ _=>False
noncomputable abbrev E0:XK:=λ_ _ _=>False
theorem Yh{X:Cx}:R7 CX0 X E0:=λ_ _ _ _ _ _ _ h=>h.elim
structure Fun(K:Kd)(x qual:Str)(st:Stmt)(f:Addr)(fd:Mp):Prop where
 ex:∃(oc:Ka) (od:Option Addr) (kV doc pm:Ka) (an:Option Addr) (cdv ct:Ka) (osl:Array (Option Ka)),
  fd=Ou x qual (Pg st) (Mv st) (KZ st) .none kV doc pm an cdv ct/\K.lookup f=some ⟨oc,od,.func fd,osl⟩/\pL K cdv qual=true
 kp:Tv K (.ref f)=true
section
variable{P:Ko}{w:Km}{K:Kd}{mg:Str->Option Ka}{base:Heap}
theorem Fun.ok{x qual:Str}{st:Stmt}{f:Addr}{fd:Mp}{N ps:AC}{k:Nat}{sp:Sp}(F:Fun K x qual st f fd)(S:Bm N ps st)(len:∀vs H Q E,sp vs H Q E->vs.length=ps.length)
  (hbody:∀(cdv:Ka) (A:Ks) (outer:List Env) (s:Ke) (H:Hp) (vs:Ai) (Q:VK) (E:XK),FJ k (Dz qual (KZ st) f cdv)->sp vs H Q E ->
   ∃t,PSs (cxOf CX0 P w K mg base N qual (KZ st) f cdv A outer s H E).nox (Mv st) t/\t Cv (Em N) H):FnOk P w K mg base CX0 (k+1) f fd ps sp:=by
 obtain⟨oc,od,kV,doc,pm,an,cdv,ct,osl,rfl,lk,hcd⟩:=F.ex;refine yh7 lk hcd S len λA outer s H vs Q E hr hsp=>?_;obtain⟨t,h,q⟩:=hbody cdv A outer s H vs Q E hr hsp;exact⟨t,h.nox,q⟩
theorem Fun.binds{x qual:Str}{st:Stmt}{f:Addr}{fd:Mp}{ps:AC}(F:Fun K x qual st f fd)
  (h:∀(kV doc pm:Ka) (an:CB) (cdv ct:Ka) (us:Am),us.length=ps.length->QJ (Ou x qual (Pg st) (Mv st) (KZ st) .none kV doc pm an cdv ct) (Br us)=pure (ps.zip us)):M5 K fd ps []:=by
 obtain⟨oc,od,kV,doc,pm,an,cdv,ct,osl,rfl,lk,hcd⟩:=F.ex;exact .all (h kV doc pm an cdv ct)
theorem fun_mk{x qual:Str}{st:Stmt}{f:Addr}{oc:Ka}{od an:CB}{osl:Array A4}{kV doc pm cdv ct:Ka}(l:Ab (K.lookup f) ⟨oc,od,.func (Ou x qual (Pg st) (Mv st) (KZ st) .none kV doc pm an cdv ct),osl⟩)
  (c:Aa (pL K cdv qual)) (k:Aa (Tv K (.ref f))):Fun K x qual st f (Ou x qual (Pg st) (Mv st) (KZ st) .none kV doc pm an cdv ct):=⟨⟨oc,od,kV,doc,pm,an,cdv,ct,osl,rfl,l,c⟩,k⟩
end
theorem zdj{A:Ks}{k:Nat}(hr:Room k A):A.units+1<Ln:=yF (Nat.add_le_add_left (by decide:1<=64) _) hr.units
section
variable{X:Cx}
theorem pv(i:Nat){x:Str}{pos:Pos}(hN:Ah X.N x:=by rfl)(hv:Vis X.env.scope x:=by first | exact CT | exact Uh CT | exact Uh (Uh rfl))(hd:Be x EE:=by decide)
  (hcd:Be x ("__classdict__" : Str):=by decide):Au (.Name x pos) (tVar i):=yil hN hv hd hcd
end
theorem iteF{A B:Prop}(h:B):if Aa false then A else B:=by
 rw[if_neg Mh];exact h
theorem iteT{A B:Prop}(h:A):if Aa true then A else B:=by
 rw[BR];exact h
noncomputable def Same(H H':Hp):Prop:=∀b o,Aw b o->Ab (H' b) o
theorem Same.refl(H:Hp):Same H H:=λ_ _ h=>h
theorem Same.trans{H H1 H2:Hp}(a:Same H H1)(b:Same H1 H2):Same H H2:=λc o h=>b c o (a c o h)
theorem Same.free{H H':Hp}(e:Same H H'){l:Addr}(h:H' l=Zxl):H l=Zxl:=by
 cases q:H l with
 | none=>rfl
 | some o =>
  rw[e l o q] at h;cases h
theorem Same.seq{K:Kd}{H H':Hp}{a:Addr}{xs:Ai}(e:Same H H')(h:A8 H a xs):A8 H' a xs:=by
 rcases h with (h | ⟨o,h⟩) | h;.exact .inl (.inl (e _ _ h))
 .exact .inl (C1 o (e _ _ h))
 .exact .inr h
end L2
namespace L2
open PySem PySem.Spec PyProof.Rows PySem.Builtin PySem.Builtin.Str
noncomputable def T(l:Ae):Str:=⟨l.toArray⟩
theorem R9(l:Ae):(T l).cps.toList=l:=by simp[T]
theorem aQ{a b:Ae}:T a=T b↔a=b:=by
 constructor
 .intro h;have:=congrArg (λx:Str=>x.cps.toList) h;simpa[T] using this
 .rintro rfl;rfl
theorem UJ(l:Ae):CJ (T l) l.length:=by simp[T,Yaf]
theorem yhf(a b:Ae):T a++T b=T (a++b):=by
 show Yag (T a) (T b)=_;simp[Yag,T]
theorem zuv(a b:Ae):An (V.str (T a)) (V.str (T b))=An a b:=by
 by_cases h:a=b;.subst h;simp
 .rw[GH,decide_eq_false];intro q;injection q with q;exact h (aQ.mp q)
noncomputable def cutL(xs:Ae)(lo hi:CC):Ae:=(xs.drop (Fz 0 lo)).take (Fz xs.length hi - Fz 0 lo)
theorem zju(lo hi:CC)(n:Nat):strSliceIndices lo hi 1 n=DU (HT.sIx n n hi - HT.sIx n 0 lo) ((HT.sIx n 0 lo + ·)):=by
 have h1:(1:Int)>0:=by decide
 have a:∀(v:Int) (d:Nat),max 0 (min (if v<0 then v+(n:Int) else v) (n:Int))=(Ew (HT.sIx n d (some v))):=by
  intro v d;show _=(Ew (if v<0 then (v+(n:Int)).toNat else min v.toNat n));by_cases hv:v<0;.simp only[if_pos hv];lia
  .simp only[if_neg hv];lia
 have key:∀(p q:Nat),sliceRange (p:Int) (q:Int) 1=DU (q - p) ((p + ·)):=by
  intro p q;unfold sliceRange;simp only[h1,if_true];have e:(if (p:Int)<(q:Int) then ((q:Int) - p+1 - 1) / 1 else 0).toNat=q - p:=by
   split <;> lia
  rw[e];refine N6 λk _=>?_;lia
 unfold strSliceIndices;simp only[h1,if_true];cases lo with
 | none =>
  cases hi with
  | none=>exact key 0 n
  | some v=>dsimp only;rw[a v n];exact key 0 _
 | some u =>
  cases hi with
  | none=>dsimp only;rw[a u 0];exact key _ n
  | some v=>dsimp only;rw[a u 0,a v n];exact key _ _
theorem ya8(n:Nat)(o:CC):HT.sIx n n o<=n:=HT.sIx_le n n Az o
theorem zxm(x:Ae)(lo hi:CC):pH (T x) lo hi=T (cutL x lo hi):=by
 have hlen:CJ (T x) x.length:=UJ x;have hle:=ya8 x.length hi;have e:(strSliceIndices lo hi 1 (T x).length).filterMap ((T x).cps[·]?)=cutL x lo hi:=by
  rw[zju,hlen];unfold cutL;generalize hp:HT.sIx x.length 0 lo=p;generalize HT.sIx x.length x.length hi=q at hle ⊢;by_cases hpq:p<=q
  .have:=StrLaws.picks x (q - p) p (by lia);rw[<- this];simp[T]
  .have:q - p=0:=by lia
   rw[this];simp
 unfold pH;split
 .rename_i h;have h2:CJ (strSliceIndices lo hi 1 (T x).length) (T x).length:=by
   simp only[Lk,beq_iff_eq] at h;exact h.2
  rw[zju,hlen,Kg,Oo] at h2;have h3:HT.sIx x.length 0 lo<=x.length:=HT.sIx_le _ 0 BM lo;unfold cutL;by_cases hx:x.length=0
  .have:x=[]:=xF hx;subst this;simp
  .have e1:HT.sIx x.length 0 lo=0:=by lia
   have e2:HT.sIx x.length x.length hi=x.length:=by lia
   rw[e1,e2];simp
 .rw[e];rfl
section
variable{X:Cx}
theorem zpb:∀{ys:AC} {us:Am},BY (ys.map V.str)->StrsAre us ys
 | [],_,h=>by cases h;exact .nil
 | y::r,_,h=>by
  cases h with
  | cons a b =>
   obtain⟨t,rfl⟩:=a;exact .cons y t (zpb b)
noncomputable def yfm(K:Kd):V->Ai->Hp->B9:=λx vs H Q=>∃z p ys,x= .str z/\vs=[Ap]/\A8 H p (ys.map V.str)/\(ys.map (·.length)).sum+ys.length*z.length<=16777216/\Q (.str (pG z ys)) H
theorem ygk:MtR X "str.join" (yfm X.K):=by
 intro pins s σ H x xs v us Q I rx rs h;obtain⟨z,p,ys,rfl,rfl,hl,hz,q⟩:=h;obtain⟨t,rfl⟩:=rx;obtain⟨u,rfl,ru⟩:=Vals.one rs;cases ru;obtain⟨its,r,pl,_⟩:=I.list hl;refine join_list pl.isList (ys:=ys) (by simpa using zpb r) hz λt' k=>⟨.str _,H,DH,(Bb (by show _=Rm (pG z ys) t';rw[<- StrLaws.glued_eq_join];rfl)),q⟩
noncomputable def rSlS:V->CC->CC->Hp->B9:=λx lo hi H Q=>∃l,x= Dc l/\AD l.length/\Q (Dc (cutL l lo hi)) H
theorem ye1:SlR X rSlS:=by
 intro pins s σ H x v vl vu lo hi sl Q I rx hs pl pu h;obtain⟨l,rfl,hz,q⟩:=h;obtain⟨t,rfl⟩:=rx;refine⟨"str", _,F.slot_str_getitem.lookup,Tf _ _ _,?_⟩;have hz':AD (T l).length:=by rw[UJ];exact hz
 have fin:AD (pH (T l) lo hi).length /\ ∀t' k,EP X pins σ Q (.str (pH (T l) lo hi) t') { s with toks:=k } :=
  ⟨Nk (Txt.slice_le _ _ _) hz',λt' k=>⟨.str _,H,DH,(Bb (by rw[zxm])),q⟩⟩;obtain⟨o,ho,hc,hd⟩:=hs;cases pl with
 | none =>
  cases pu with
  | none=>exact mQ (l:=none) (u:=none) (st:=none) ⟨o,ho,hc,hd⟩ rfl (nF fin)
  | int j uj=>exact mQ (l:=none) (u:=some (j,uj)) (st:=none) ⟨o,ho,hc,hd⟩ rfl (nF fin)
 | int i ui =>
  cases pu with
  | none=>exact mQ (l:=some (i,ui)) (u:=none) (st:=none) ⟨o,ho,hc,hd⟩ rfl (nF fin)
  | int j uj=>exact mQ (l:=some (i,ui)) (u:=some (j,uj)) (st:=none) ⟨o,ho,hc,hd⟩ rfl (nF fin)
end
end L2
namespace L2
open PySem PySem.Spec PyProof.Rows
noncomputable def clos(cells:Bf Addr):Bf Qo->Bf Addr->Bf Addr
 | [],acc=>acc
 | (n,k)::r,acc=>if k == .free then (match cells.lookup n with | some c=>clos cells r ((n,c)::acc) | none=>clos cells r acc) else clos cells r acc
theorem qF{cells:Bf Addr}:∀(names:Bf Qo) (acc:Bf Addr),(∀x c,Ab (acc.lookup x) c->Ab (cells.lookup x) c)-> ∀x c,Ab ((clos cells names acc).lookup x) c->Ab (cells.lookup x) c
 | [],_,h=>h
 | (n,k)::r,acc,h=>by
  intro x c;unfold clos;split
  .cases e:cells.lookup n with
   | none=>exact qF r acc h x c
   | some d =>
    refine qF r _ (λy z hy=>?_) x c;rw[QD] at hy;cases q:y == n with
    | true =>
     rw[q] at hy;have:y=n:=by simpa using q
     subst this;simpa[e] using hy
    | false=>rw[q] at hy;exact h y z hy
  .exact qF r acc h x c
theorem qG{cells:Bf Addr}:∀(names:Bf Qo) (acc:Bf Addr) (x:Str),Aa (acc.lookup x).isSome->Aa ((clos cells names acc).lookup x).isSome
 | [],_,_,h=>h
 | (n,k)::r,acc,x,h=>by
  unfold clos;split
  .cases e:cells.lookup n with
   | none=>exact qG r acc x h
   | some d =>
    refine qG r _ x ?_;rw[QD];cases q:x == n with
    | true=>rfl
    | false=>exact h
  .exact qG r acc x h
theorem qH{cells:Bf Addr}:∀(names:Bf Qo) (acc:Bf Addr) (x:Str),(x,Np)∈names->Aa (cells.lookup x).isSome->Aa ((clos cells names acc).lookup x).isSome
 | (n,k)::r,acc,x,hm,hs=>by
  unfold clos;rcases KH.mp hm with e | hm
  .cases e;simp only[beq_self_eq_true,if_true];obtain⟨c,hc⟩:=ZL.mp hs;rw[hc];refine qG r _ _ ?_;simp[QD]
  .split
   .cases e:cells.lookup n with
    | none=>exact qH r acc x hm hs
    | some d=>exact qH r _ x hm hs
   .exact qH r acc x hm hs
theorem zv5{scope:Scope}{env:Env}(h:∀x,(x,Np)∈scope.names->Aa (env.cells.lookup x).isSome):closureFor scope env=pure (clos env.cells scope.names []):=by
 have gen:∀(names:Bf Qo) (acc:Bf Addr),(∀x,(x,Np)∈names->Aa (env.cells.lookup x).isSome) ->
   (Vu names acc (λ(p:Str×Qo) (r:List (Str×Addr))=>(if p.2 == Np then (do let c <- cellOf env p.1;pure (W9 ((p.1,c)::r))) else pure (W9 r):Sem (ForInStep (Bf Addr)))))=pure (clos env.cells names acc):=by
  intro names;induction names with
  | nil=>intro acc _;rfl
  | cons p r ih =>
   obtain⟨n,k⟩:=p;intro acc hh;rw[Zwm];unfold clos;cases hk:k == Np with
   | false =>
    simp only[hk,Lj,if_false];exact ih acc λx hx=>hh x (AS hx)
   | true =>
    have hk':k= .free:=by simpa using hk
    subst hk';obtain⟨c,hc⟩:=ZL.mp (hh n KN);have e:cellOf env n=pure c:=by unfold cellOf;rw[hc]
    simp only[beq_self_eq_true,if_true,e,hc];exact ih _ λx hx=>hh x (AS hx)
 exact(congrArg (λ(m:Sem (List (Str×Addr)))=>m >>= λcs=>pure cs) (gen scope.names [] h)).trans rfl
noncomputable def lcS(nt:Nat)(cs:Ae)(σ:St):St:=mG nt none++cs.map λi=>(σ[i]?).getD none
noncomputable def lcCx(X:Cx)(N':AC)(scope:Scope)(s:Ke)(H:Hp)(C:Addr)(fp:Bp):Cx :=
 { X with N:=N',s₀:=s,Hz:=H,env:=Yau scope (clos X.env.cells scope.names []) C X.env,outer:=X.stack,stack:=X.stack,ex:=fp,fn:=λ_=>false,pn:=[],xe:=D1 }
noncomputable def lcOk(Nx:AC)(sc scope:Scope)(N':AC)(nt:Nat)(cs:Ae):Bool :=
 decide (scope.kind= .function)&&(scope.names.all λp=>match p.2 with
  | .cell=>false
  | .local=>decide (Ab (scope.names.lookup p.1) .local)
  | .free=>decide (Fw p.1 .cell)||decide (Fw p.1 .free)
  | _=>true)&&An N'.length (nt+cs.length)&&(((N'.drop nt).zip cs).all λp=>decide (AM Nx p.2 p.1)&&decide (Ab (scope.names.lookup p.1) .free)&&(decide (Fw p.1 .cell)||decide (Fw p.1 .free)))
structure LcOk(X:Cx)(scope:Scope)(N':List Str)(nt:Nat)(cs:List Nat):Prop where
 kind:scope.kind= .function
 nocell:∀y∈scope.names,y.2 ≠ .cell
 loc:∀y∈scope.names,y.2= .local->scope.names.lookup y.1=some .local
 fr:∀x,(x,Np)∈scope.names->X.env.kindOf x=some .cell\/X.env.kindOf x=some .free
 len:N'.length=nt+cs.length
 cap:∀j i,cs[j]? = some i-> ∃x,N'[nt+j]? = some x/\X.N[i]? = some x/\scope.names.lookup x=some .free/\Vis X.env.scope x/\X.env.kindOf x≠some .local
theorem LcOk.of{X:Cx}{scope:Scope}{N':AC}{nt:Nat}{cs:Ae}{Nx:AC}{sc:Scope}(hN:X.N=Nx)(hs:X.env.scope=sc)(h:Aa (lcOk Nx sc scope N' nt cs)):LcOk X scope N' nt cs:=by
 subst hN hs;unfold lcOk at h;simp only[Lk,decide_eq_true_eq,mF] at h;obtain⟨⟨⟨h1,h2⟩,h3⟩,h4⟩:=h;refine⟨h1,λy hy e=>?_,λy hy e=>?_,λx hx=>?_,h3,λj i e=>?_⟩;.have:=h2 y hy;rw[e] at this;exact Mh this
 .have:=h2 y hy;rw[e] at this;exact of_decide_eq_true this
 .have:=h2 _ hx;simp only[xE,decide_eq_true_eq] at this;exact this
 .have hj:j<cs.length:=(BS e);have hd:CJ (N'.drop nt) cs.length:=by rw[VB,h3];lia
  have hx:AQ (N'.drop nt) (EN (N'.drop nt) j):=by simp[hd,hj]
  generalize (N'.drop nt)[j]'(by lia)=x at hx;have hz:(x,i)∈(N'.drop nt).zip cs:=by
   refine KD (i:=j) ?_;rw[xG];exact⟨hx,e⟩
  have q:=h4 _ hz;simp only[Lk,xE,decide_eq_true_eq] at q;refine⟨x,by rw[Xc] at hx;exact hx,q.1.1,q.1.2,?_,λz=>?_⟩;.exact q.2.elim (λz=>.inr (.inl z)) λz=>FC z
  .have z':E4 x .local:=z;rcases q.2 with y | y <;> · rw[z'] at y;cases y
theorem zjj{env:Env}:∀{names:Bf Qo} {x:Str},Ab (names.lookup x) .free ->
  Ab ((names.map λ(n,k)=>if (k == Np&&FO&&Ga == some .cell) then (n,V9) else (n,k)).lookup x) .cell \/
  Ab ((names.map λ(n,k)=>if (k == Np&&FO&&Ga == some .cell) then (n,V9) else (n,k)).lookup x) .free
 | [],_,h=>by simp at h
 | (n,k)::r,x,h=>by
  have ih:=@zjj env r x;show Nj x ((Ds (k == Np&&FO&&Ga == some .cell) (n,V9) (n,k))::_)=_\/Nj x ((Ds (k == Np&&FO&&Ga == some .cell) (n,V9) (n,k))::_)=_;cases hx:x == n with
  | true =>
   simp only[QD,hx] at h;cases h;by_cases hc:Aa (Np == Np&&FO&&Ga == some .cell);.rw[Ff];left;simp only[QD,hx]
   .rw[E2];right;simp only[QD,hx]
  | false =>
   simp only[QD,hx] at h;by_cases hc:Aa (k == Np&&FO&&Ga == some .cell);.rw[Ff];simp only[QD,hx];exact ih h
   .rw[E2];simp only[QD,hx];exact ih h
theorem zgp{env:Env}:∀{names:Bf Qo} {x:Str} {q:Qo},(∀y∈names,y.2 ≠ .cell)->(q= .cell\/q= .free) ->
  Ab ((names.map λ(n,k)=>if (k == Np&&FO&&Ga == some .cell) then (n,V9) else (n,k)).lookup x) q->(x,Np)∈names
 | [],_,_,_,_,h=>by simp at h
 | (n,k)::r,x,q,hn,hq,h=>by
  have ih:=@zgp env r x q (λy hy=>hn y (AS hy)) hq;have h':Ab (Nj x ((Ds (k == Np&&FO&&Ga == some .cell) (n,V9) (n,k))::(r.map λ(n,k)=>if (k == Np&&FO&&Ga == some .cell) then (n,V9) else (n,k)))) q:=h;cases hx:x == n with
  | true =>
   have e:x=n:=by simpa using hx
   subst e;by_cases hc:Aa (k == Np&&FO&&env.kindOf x == some .cell)
   .simp only[Lk,beq_iff_eq] at hc;rw[hc.1.1];exact KN
   .rw[E2] at h';simp only[QD,beq_self_eq_true] at h';cases h';rcases hq with rfl | rfl;.exact Fp (hn (x,.cell) KN)
    .exact KN
  | false =>
   refine AS (ih ?_);by_cases hc:Aa (k == Np&&FO&&Ga == some .cell);.rw[Ff] at h';simp only[QD,hx] at h';exact h'
   .rw[E2] at h';simp only[QD,hx] at h';exact h'
section
variable{X:Cx}{pins:List (Addr×Obj)}{σ:St}{H:Hp}{s s':Ke}{scope:Scope}{N':List Str}{nt:Nat}{cs:List Nat}{C:Addr}{fp:List Addr}{h':Heap}{t':Nat}
theorem ydb(I:Ak)(L:LcOk X scope N' nt cs)(hf:∀b∈fp,D7 X H b)(hC:E7 C)(k:∀b u,Cp b u->AJ b u)(hns:h'.Ns C λ_=>none)(fpo:∀b∈fp,Er b) :
  Inv (lcCx X N' scope s H C fp) [] (lcS nt cs σ) H { s with heap:=h',toks:=t' }:=by
 have hfree:H C=none:=I.hok.fresh hC;have csub:∀x c,Ab ((clos X.env.cells scope.names []).lookup x) c->FU x c:=qF _ _ λx c h=>by simp at h
 have chas:∀x,(x,Np)∈scope.names->Aa ((clos X.env.cells scope.names []).lookup x).isSome:=λx hx=>by
  refine qH _ _ x hx ?_;obtain⟨c,e⟩:=I.ok.has x (L.fr x hx);rw[e];rfl
 have I4:FR H:=I.kept k;refine⟨⟨I.ok.mod,L.kind,I.ok.glob,I.ok.blt,hC,λx y c h1 h2=>I.ok.inj x y c (csub x c h1) (csub y c h2),λx hx=>?_,λx c hx=>(nomatch hx),I.ok.hd,I.ok.frames,A6,λb hb=>⟨?_,λx c e=>?_⟩,I.bs,Nk I.ok.bsz I.sz,λb o e hb=>?_,Eg,I.stack,I.stkFree⟩,
  rfl,I.bare,Un.kept k,(Ar hns (λi x v e1 e2 e3=>?_)),λx c e=>?_,hfree,λx c e=>I.freeC x c (csub x c e),λp hp=>Gz (show p∈([]:A7) from hp),I4.hok,?_⟩
 .have hx':(x,Np)∈scope.names:=by
   rcases hx with hx | hx;.exact zgp (env:=X.env) L.nocell A6 hx
   .exact zgp (env:=X.env) L.nocell (.inr rfl) hx
  exact ZL.mp (chas x hx')
 .exact KY (Mm (fpo b hb) hC)
 .exact(hf b hb).2.2.2.2.1 x c (csub x c e)
 .obtain⟨f0,f1,f2,f3,_⟩:=hf b hb;rcases f3 with z | z;.exact I.ok.noex b o e z
  .exact Fl (Mm Bv (Nk I.ok.bsz z)) _
 .obtain⟨f0,f1,f2,f3,_⟩:=hf b hb;intro z;rcases KH.mp (I.stkSub b z) with q | q;.exact f1 q
  .exact f2 q
 ·-- a captured name
  have e2':D5 (lcS nt cs σ) v:=e2;unfold lcS at e2';by_cases hi:i<nt
  .rw[Qz (by simpa using hi),lK] at e2';split at e2' <;> cases e2'
  .rw[SN (by simpa using hi),lR,KR] at e2';cases ej:cs[i - nt]? with
   | none=>rw[ej] at e2';cases e2'
   | some j =>
    rw[ej] at e2';have e2'':Ab ((σ[j]?).getD none) v:=PP e2';have hσ:AQ σ (some v):=by
     cases q:σ[j]? with
     | none=>rw[q] at e2'';cases e2''
     | some z=>rw[q] at e2'';exact congrArg some e2''
    obtain⟨y,y1,y2,y3,y4,y5⟩:=L.cap _ _ ej;have hxy:x=y:=by
     have e1':Ah N' x:=e1;rw[show nt+(i - nt)=i by lia,e1'] at y1;exact PP y1
    subst hxy;obtain⟨m,hn,hl⟩:=I4.loc;obtain⟨u,r,l⟩:=hl j x v y2 hσ y4;refine⟨u,r,.inr (BG (zjj (env:=X.env) y3))⟩;rcases l with ⟨l,_⟩ | ⟨_,c,hc,hcell⟩;.exact absurd l y5
    .refine⟨c,?_,hcell⟩;obtain⟨d,hd⟩:=ZL.mp (chas x (Xo y3));have:=csub x d hd;rw[hc] at this;cases this;exact hd
 .exact I4.cell x c (csub x c e)
 .show CJ (lcS nt cs σ) N'.length;unfold lcS;rw[L.len];simp
theorem ybn{σ2:St}{H2:Hp}(I:Ak)(hf:∀b∈fp,D7 X H b)(J:Inv (lcCx X N' scope s H C fp) [] σ2 H2 s'):Ce H2 s' :=
 I.call' (ch:=fp) J.os J.base J.hok J.bare λb hb=>by
  obtain⟨f0,f1,f2,f3,f4,f5⟩:=hf b hb;exact⟨f3,f1,f4,f5⟩
end
noncomputable def PIfs(X:Cx)(ifs:List Expr)(t:TT):Prop :=
 ∀(pins:A7) (s:Ke) (σ:St) (H:Hp) (Q:Bool->A2),Ak->t σ H Q ->
  B1 (Vu ifs true λc r=>if Aa r then do let ok <- isTrue c X.env (Cz c);pure (W9 ok) else pure (W9 r)) (TP X pins σ Q) s
noncomputable def Yi:TT:=λ_ H Q=>Q true H
theorem TQ{X:Cx}:PIfs X [] Yi:=λ_ _ _ H _ I h=>wpAny_tests_nil ⟨H,I,h⟩
theorem Wf{X:Cx}{c:Expr}{t:TT}(h:PT X c t):PIfs X [c] t:=λpins s σ H Q I hq=>wpAny_tests_one (h pins s σ H Q I hq)
noncomputable def LCG(nt:Nat)(cs:Ae)(g:TG)(tt:TT)(te:TE)(σ:St)(Q:VK)(J:It)(H1:Hp):Prop:=∀l,H1 l=none-> ∃W:Nat->Nat->A2,(∃m,W 0 m (BX H1 l [])) /\ ∀i m H2,W i m H2 ->
 (J.stop i H2/\Q Cd H2)\/(J.go i H2 /\ ∃N:A2,(∀H',N H'-> ∃m',m'<m/\W (i+1) m' H') /\ ∀x H3,J.yld i H2 x H3->g x (lcS nt cs σ) H3 λσ2 H4 =>
  (σ2.length=nt+cs.length/\σ2.drop nt=(lcS nt cs σ).drop nt)/\tt σ2 H4 λb H5=>Ds b (te σ2 H5 λy H6=>∃xs,Ab (H6 l) (.lst xs)/\Dk xs.length/\N (BX H6 l (xs++[y]))) (N H5))
noncomputable def tLC(nt:Nat)(cs:Ae)(wi:TI)(g:TG)(tt:TT)(te:TE):TE:=λσ H Q=>wi σ H λJ H1=>LCG nt cs g tt te σ Q J H1
theorem yg6 {prog : Ko} {w : Km} {A : Ks} {R : Tj -> Ke -> Prop} {s : Ke} {elt target iter : Expr} {ifs : List Expr} {scope : Scope} {pos : Pos} {it acc : Ka} {env : Env} (I : Nat -> Ke -> Prop)
  (turn:∀n s,I n s->Kw (B5 w) A (Ot it) (λr s₁=>match r with
   | none=>R (.ok .next) s₁
   | some v=>Kw (B5 w) A (nG target it v) (λ_ s₁'=>Kw (B5 w) A (XN target env v) (λ_ s₂ =>
     Kw (B5 w) A (Vu ifs true λc r=>if Aa r then do let ok <- isTrue c env (eval c env);pure (W9 ok) else pure (W9 r)) (λok s₃ =>
      if Aa ok then Kw (B5 w) A (eval elt env) (λx s₄ =>
       Kw (B5 w) A (Gq "list.append" [acc,x]) (λ_ s₅=>∃m,m<n/\I m s₅) D1 s₄) D1 s₃
      else ∃m,m<n/\I m s₃) D1 s₂) D1 s₁') D1 s₁) D1 s)
  (n:Nat) (h:I n s):Pr (B5 w) A (.compLoop (.ListComp elt [⟨target,iter,ifs,0⟩] scope pos) 0 it acc env) R s:=by
 refine codeAny_loop rfl I (λn s hI=>?_) n h;show AT A ((compTurn (.ListComp elt [⟨target,iter,ifs,0⟩] scope pos) 0 it acc env).onRaise (λx=>do Ri x env;theTreesLotGoes x)) _ _ s;refine wpAny_noted ?_;rw[compTurn_list];refine Kc (ZV (Kc (Nu (turn n s hI) (λr s₁ h₁=>?_) λ_ _ h'=>h'.elim)));cases r with
 | none=>exact Kf h₁
 | some v =>
  refine Kc (Nu h₁ (λ_ s₁' h₁'=>?_) λ_ _ h'=>h'.elim);refine Kc (Nu h₁' (λ_ s₂ h₂=>Kc (Nu h₂ (λok s₃ h₃=>?_) λ_ _ h'=>h'.elim)) λ_ _ h'=>h'.elim);cases ok with
  | false=>exact Kf (CW h₃)
  | true =>
   exact Dg (Nu h₃ (λx s₄ h₄=>Kc (Nu h₄ (λ_ s₅ h₅=>Kf (Kf (CW h₅))) λ_ _ h'=>h'.elim)) λ_ _ h'=>h'.elim)
section
variable{X:Cx}{elt target iter:Expr}{ifs:List Expr}{scope:Scope}{pos:Pos}{N':List Str}{nt:Nat}{cs:List Nat}{wi:TI}{g:TG}{tt:TT}{te:TE}
theorem zyn{use:Option (Ka->Sem Unit)}{QQ:Ka->Af}{p2:Pos}(hc:Ex)(L:LcOk X scope N' nt cs)(hi:PI X target iter wi)
  (hg:∀s H C fp,PG (lcCx X N' scope s H C fp) target g) (ht:∀s H C fp,PIfs (lcCx X N' scope s H C fp) ifs tt) (he:∀s H C fp,PE (lcCx X N' scope s H C fp) elt te)
  {pins:A7} {s:Ke} {σ:St} {H:Hp} {Q:VK} (I:Ak) (h:tLC nt cs wi g tt te σ H Q)
  (fin:∀(l:Addr) (H':Hp) (s':Ke) (C:Addr),Ce H' s'->D7 X H' C->(∃m,s'.heap.Ns C m)->Q Cd H'->compPost (Gc X.w) X.A X.xe use QQ Cd C (.ok .next) s')
  (hs:∀x,mZ iter X.env x=pure x:=by intro _;rfl) :
  B1 (Yat (.ListComp elt [⟨target,iter,ifs,0⟩] scope pos) scope X.env p2 (oM []) false (Cz iter) use) QQ s:=by
 have hcl:closureFor scope X.env=pure (clos X.env.cells scope.names []):=zv5 λx hx=>by
  obtain⟨c,e⟩:=I.ok.has x (L.fr x hx);rw[e];rfl
 refine wpAny_comprehension_free (env:=X.env) rfl hs hcl L.kind L.loc (thn (hi pins s σ H _ I h) λv s1 h1=>thn h1 λitv s2 h2=>?_);obtain⟨it,fp,tn,J,H1,e,I2,T,st2,f2,R⟩:=h2;subst e;refine Pq ?_;have hv:Vals [] ([]:Am):=.nil;have I3:=I2.lnew (t':=s2.toks) hv BM;have hfr:H1 s2.heap.objs.size=none:=I2.fresh;have ne3:∀b∈fp,b≠s2.heap.objs.size:=λb hb z=>by
  obtain⟨o,e,_⟩:=T.obj _ _ st2 b hb;have:=Bv;rw[z] at this;exact Vq _ this
 have f3:∀b∈fp,D7 X (BX H1 s2.heap.objs.size []) b:=λb hb=>⟨by rw[Kh (ne3 b hb)];exact(f2 b hb).1,(f2 b hb).2⟩;obtain⟨W,⟨m0,w0⟩,turn⟩:=R _ hfr;refine wpAny_newFunctionEnv L.nocell (by intro y hy;simp at hy) (λh4 hns hsb=>?_) L.kind;dsimp only at hns hsb ⊢;generalize hH3:s2.heap.push { cls:=.type "list", dict:=none,data:=.seq ([]:List Ka).toArray }=h3 at hns hsb I3 ⊢;have hsz3:h3.objs.size=s2.heap.objs.size+1:=by rw[<- hH3,Mq]
 have up4:∀b u,Ab (h3.get? b) u->Ab (h4.get? b) u:=λb u e=>hsb.extBut b u (KY Bv) (A0 e);have fpo:∀b∈fp,b<h3.objs.size:=λb hb=>by
  obtain⟨o,e,_⟩:=T.obj _ _ st2 b hb;exact Mm Bv (by rw[hsz3];exact Ra _)
 have up3:∀b u,Ab (s2.heap.get? b) u->Ab (h3.get? b) u:=λb u e=>hH3 ▸ A0 e;have J4:Inv (lcCx X N' scope { s2 with heap:=h3 } (BX H1 s2.heap.objs.size []) h3.objs.size fp) [] (lcS nt cs σ) (BX H1 s2.heap.objs.size []) { s2 with heap:=h4,toks:=s2.toks+([]:Bf Ka).length } :=
  ydb (t':=s2.toks+([]:Bf Ka).length) I3 L f3 Az up4 (by simpa using hns) fpo;have st4:tn 0 h4:=T.keep _ _ _ st2 λb hb o e=>up4 b o (up3 b o e);generalize hs3:({ s2 with heap:=h3 }:Ke)=s3 at I3 J4;generalize hX':lcCx X N' scope s3 (upd H1 s2.heap.objs.size (.lst [])) h3.objs.size fp=X' at J4;have hg':PG X' target g:=hX' ▸ hg _ _ _ _;have ht':PIfs X' ifs tt:=hX' ▸ ht _ _ _ _;have he':PE X' elt te:=hX' ▸ he _ _ _ _;have stat:∀{H':Hp},(∀b∈fp,H' b=none)-> ∀b∈fp,FpOk X' [] H' b:=λhn b hb=>by
  subst hX';refine⟨hn b hb,KY (fpo b hb),J4.ok.exfs b hb,.inl hb,(J4.ok.exf b hb).2,λp hp=>Gz (show p∈([]:A7) from hp)⟩
 have loop : Pr (Gc X.w) X.A (.compLoop (.ListComp elt [⟨target, iter, ifs, 0⟩] scope pos) 0 (.ref it) (.ref s2.heap.objs.size) (Yau scope (clos X.env.cells scope.names []) h3.objs.size X.env))
   (compPost (Gc X.w) X.A X.xe use QQ (.ref s2.heap.objs.size) h3.objs.size) { s2 with heap:=h4,toks:=s2.toks+([]:Bf Ka).length }:=by
  have eA:X'.A=X.A:=by subst hX';rfl
  have eP:X'.prog=X.prog:=by subst hX';rfl
  have eW:X'.w=X.w:=by subst hX';rfl
  have eK:X'.K=X.K:=by subst hX';rfl
  have eC:Aa X'.calm:=by subst hX';exact hc
  have eE:X'.env=Yau scope (clos X.env.cells scope.names []) h3.objs.size X.env:=by subst hX';rfl
  have eX:X'.xe=D1:=by subst hX';rfl
  refine yg6 (λn s'=>∃i H',Inv X' [] (lcS nt cs σ) H' s'/\tn i s'.heap/\(∀b∈fp,H' b=none)/\W i n H') ?_ m0 ⟨0,_,J4,st4,λb hb=>(f3 b hb).1,w0⟩;rintro n s5 ⟨i,H5,J5,st5,fr5,w5⟩;rcases turn i n H5 w5 with ⟨stop,qn⟩ | ⟨go,N,hN,step⟩
  .have d:=T.done X' eP eW eK eC i [] s5 (lcS nt cs σ) H5 D1 J5 (stat fr5) st5 stop;rw[eA] at d;refine thn d λr s6 hz9=>?_;obtain⟨hr,J6⟩:=hz9;subst hr;have I6:Ce H5 s6:=by subst hX';subst hs3;exact ybn I3 f3 J6
   refine fin _ H5 s6 h3.objs.size I6 ?_ ?_ qn
   .have hn:H5 h3.objs.size=none:=by subst hX';exact J6.free
    subst hs3;exact I3.fpOk Az hn
   .obtain⟨m,hm,_⟩:=J6.loc;subst hX';exact⟨m,hm⟩
  .have d:=T.item X' eP eW eK eC i [] s5 (lcS nt cs σ) H5 D1 J5 (stat fr5) st5 go;rw[eA] at d;refine thn d λr s6 hz9=>?_;obtain⟨u,hr,h6⟩:=hz9;subst hr;refine thn h6 λ_ s7 hz9=>?_;obtain⟨x,H7,J7,r7,y7,st7,fr7⟩:=hz9;have J7':=J7.pinned (stat fr7) (T.obj _ _ st7);have a:=hg' _ s7 (lcS nt cs σ) H7 x u _ J7' r7 (step x H7 y7);rw[eA,eP,eW,eE,eX] at a;refine thn a λ_ s8 ⟨σ8,H8,J8,⟨e8,d8⟩,q8⟩=>?_;have b:=ht' _ s8 σ8 H8 _ J8 q8;rw[eA,eP,eW,eE,eX] at b;have again:∀{s9:Ke} {H9:Hp},Inv X' ([]++aO fp s7.heap) σ8 H9 s9->N H9-> ∃m,m<n /\ ∃i H',Inv X' [] (lcS nt cs σ) H' s9/\tn i s9.heap/\(∀b∈fp,H' b=none)/\W i m H':=λ{s9 H9} J9 n9=>by
    obtain⟨m',hm,w9⟩:=hN H9 n9;refine⟨m',hm,i+1,H9,?_,T.keep _ _ _ st7 λb hb o e=>(J9.pin (b,o) (PB _ (PB _ (pQ hb e)))).1,Eg,w9⟩
    .refine J9.unpinned.weak ?_ λj v ej=>?_;.rw[e8];unfold lcS;simp
     .by_cases hj:j<nt
      .unfold lcS at ej;rw[Qz (by simpa using hj),lK] at ej;split at ej <;> cases ej
      .have z:=congrArg (λl:St=>l[j - nt]?) d8;simp only[Xc] at z;rw[show nt+(j - nt)=j by omega] at z;rw[z];exact ej
    .obtain⟨o,e,_⟩:=T.obj _ _ st7 b hb;exact(J9.pin (b,o) (PB _ (PB _ (pQ hb e)))).2.1
   refine thn b λok s9 hz9=>?_;obtain⟨H9,J9,q9⟩:=hz9;cases ok with
   | false =>
    rw[if_neg Mh] at q9 ⊢;exact again J9 q9
   | true =>
    rw[BR] at q9 ⊢;have c:=he' _ s9 σ8 H9 _ J9 q9;rw[eA,eP,eW,eE,eX] at c;refine thn c λy sA hz9=>?_;obtain⟨vy,HA,JA,ry,xs,hl,hz,nA⟩:=hz9;have ap:=Qf (X:=X') _ sA σ8 HA (.ref s2.heap.objs.size) [vy] (.ref s2.heap.objs.size) [y] (λ_ H'=>N H') JA rfl (.cons ry .nil) ⟨_,xs,vy,rfl,rfl,hl,hz,nA⟩;rw[eA,eP,eW,eX] at ap;refine thn ap λ_ sB hz9=>?_;obtain⟨_,HB,JB,_,nB⟩:=hz9;exact again JB nB
 exact codeAny_compStart_list loop (T.self X.A 0 _ _ _ st4 loop)
theorem zlv(hc:Ex)(L:LcOk X scope N' nt cs)(hi:PI X target iter wi)
  (hg:∀s H C fp,PG (lcCx X N' scope s H C fp) target g) (ht:∀s H C fp,PIfs (lcCx X N' scope s H C fp) ifs tt) (he:∀s H C fp,PE (lcCx X N' scope s H C fp) elt te)
  (hs:∀x,mZ iter X.env x=pure x:=by intro _;rfl):Au (.ListComp elt [⟨target,iter,ifs,0⟩] scope pos) (tLC nt cs wi g tt te):=by
 intro pins s σ H Q I h;rw[eval_ListComp];refine zyn (use:=none) hc L hi hg ht he I h (λl H' s' C I' f ⟨m,hm⟩ q=>⟨m,hm,λh' hs'=>?_⟩) hs;obtain⟨f0,f1,f2,f3,f4,f5⟩:=f;exact(Bj Cd H' (I'.turned (t':=s'.toks) (λb o hb e=>hs'.extBut b o hb e) f0 f1 f3 f4 f5) q)
theorem aR{i:Nat}{y:Str}{py spos:Pos}(hN:X.N.Nodup)(hy:Ah X.N y)(hx:Loc X.env.scope y)(hc:Ex)(L:LcOk X scope N' nt cs)(hi:PI X target iter wi)
  (hg:∀s H C fp,PG (lcCx X N' scope s H C fp) target g) (ht:∀s H C fp,PIfs (lcCx X N' scope s H C fp) ifs tt) (he:∀s H C fp,PE (lcCx X N' scope s H C fp) elt te)
  (hsw:Ul (.ListComp elt [⟨target,iter,ifs,0⟩] scope pos) (some (.Name y py)) spos.line X.env=pure true:=by rfl)
  (hs:∀x,mZ iter X.env x=pure x:=by intro _;rfl) (hf:Aa (X.fn y)\/E4 y .local:=by first | exact A6 | exact .inr rfl | assumption) :
  PS X (.Assign [.Name y py] (.ListComp elt [⟨target,iter,ifs,0⟩] scope pos) spos) (tAsg (tLC nt cs wi g tt te) (Ob i)):=by
 intro pins s σ H D I h;rw[exec_Assign_Name_used _ _ _ _ hsw];refine Kc (ZV (Kc ?_));show AT X.A ((do let _ <- Yat (.ListComp elt [⟨target,iter,ifs,0⟩] scope pos) scope X.env _ (oM []) false (Cz iter) (some (XN (.Name y py) X.env)))) _ _ s;refine Kc (thn (zyn (QQ:=λ_ s'=>SP X pins D .next s') (use:=some (XN (.Name y py) X.env)) hc L hi hg ht he I h (λl H' s' C I' f hm q=>?_) hs) (λ_ s' hq=>Kf (Kf hq)));show AT X.A (XN (.Name y py) X.env Cd) _ _ _;refine Zxu (zpl I' hN hy hx (v:=Cd) rfl (λs2 I2 hz9=>?_) hf);obtain⟨a,hsb,ha⟩:=hz9;obtain⟨m,hm⟩:=hm;obtain⟨f0,f1,f2,f3,f4,f5⟩:=f;have hCa:C≠a:=by
  rcases ha with rfl | ha;.exact f1
  .exact λz=>f4 y a ha z.symm
 refine⟨m,hm.sameBut hsb hCa,λh' hs'=>?_⟩;exact⟨_,H',I2.turned (t':=s2.toks) (λb o hb e=>hs'.extBut b o hb e) f0 f1 f3 f4 f5,q⟩
end
section
variable{X:Cx}{a b:Expr}{ta tb:TE}{pos:Pos}
theorem zjw:DZ X "isinstance" (λxs H Q=>∃x,xs=[.int x,.ty "int"]/\Q C2 H):=by
 intro pins s σ H xs us Q I r h;obtain⟨x,rfl,q⟩:=h;obtain⟨u,v,rfl,⟨t,rfl⟩,rfl⟩:=Qd r;exact IsiPair.int_int (Bj C2 H I q)
theorem zi7:DZ X "isinstance" (λxs H Q=>∃x,xs=[.int x,.ty "bool"]/\Q (.bl false) H):=by
 intro pins s σ H xs us Q I r h;obtain⟨x,rfl,q⟩:=h;obtain⟨u,v,rfl,⟨t,rfl⟩,rfl⟩:=Qd r;exact IsiPair.int_bool (Bj (.bl false) H DH q)
theorem ze3:DZ X "isinstance" (E8 (xs=[Ap,.ty "list"]/\SqL X.K H p ys/\Q C2 H)):=by
 intro pins s σ H xs us Q I r h;obtain⟨p,ys,rfl,hq,q⟩:=h;obtain⟨u,v,rfl,rfl,rfl⟩:=Qd r;obtain⟨its,_,pl,_⟩:=EL;obtain⟨o,n,e,c,hd,_⟩:=pl;exact IsiPair.list_list e c (Bj C2 H I q)
theorem zez:DZ X "isinstance" (E8 (xs=[Ap,.ty "tuple"]/\SqT X.K H p ys/\Q C2 H)):=by
 intro pins s σ H xs us Q I r h;obtain⟨p,ys,rfl,hq,q⟩:=h;obtain⟨u,v,rfl,rfl,rfl⟩:=Qd r;obtain⟨its,_,⟨o,e,c,_⟩,_⟩:=I.tuple hq;exact IsiPair.tuple_tuple e c (Bj C2 H I q)
end
theorem SqL.same{K:Kd}{H H':Hp}{a:Addr}{xs:Ai}(e:Same H H')(h:A8 H a xs):A8 H' a xs:=e.seq h
theorem SqT.same{K:Kd}{H H':Hp}{a:Addr}{xs:Ai}(e:Same H H')(h:SqT K H a xs):SqT K H' a xs:=by
 rcases h with (h | ⟨o,h⟩) | h;.exact .inl (.inl (e _ _ h))
 .exact .inl (C1 o (e _ _ h))
 .exact .inr h
theorem Same.upd{H:Hp}{l:Addr}{o:HO}(h:H l=none):Same H (AX l o):=λb u e=>by rw[Kh (Lp e h)];exact e
end L2
namespace L2
open PySem
end L2
namespace L2
open PySem PySem.Spec PyProof.Rows
section
variable{X:Cx}{pins:List (Addr×Obj)}{σ:St}{H:Hp}{s:Ke}{h':Heap}{t':Nat}{wr:List Addr}
theorem Inv.turns(I:Ak)(hf:∀b∈wr,D7 X H b)(k:∀b o,b∉wr->AI b->AJ b o):FR H:=by
 have nw:∀b u,Aw b u->b∉wr:=GW
 have nL:X.env.locals∉wr:=λz=>(hf _ z).2.1 rfl;refine I.step (g':=s.gens) (d':=s.drawn) (ch:=wr) Eg (λb o _ _ hc e _=>k b o hc e) (λb o _ _ hc e _=>⟨o.slots,k b o hc e⟩) (λ_ _ _ _ n=>n)
  (λb o hc e=>⟨o,k b o hc e⟩) (λ_ _ e=>e) (λ_ _ _ e=>e) (λb ps e=>⟨#[],by rw[e];simp⟩) (λm hm=>?_) (λb u e=>?_) I.bare
 .obtain⟨f0,f1,f2,f3,f4,f5⟩:=hf b hb;exact⟨f3,f1,f4,f5⟩
 .obtain⟨o,es,ep,ho,r⟩:=hm;exact⟨o,es,ep,k _ o nL ho,r⟩
 .refine(I.hok b u e).stay (λc v hc q=>k c v ?_ q) (λ_ q=>q) λ_ _ q=>q;rcases hc with z | z;.rw[z];exact nw b u e
  .exact nw c _ z
theorem Inv.turnsT(I:Ak){T0:Addr}{vs:Ai}{vals:BT}(hf:∀b∈wr,D7 X H b)(k:∀b o,b∉wr->AI b->AJ b o)(hT:E7 T0)(ht:h'.IsTuple T0 vals)(hv:Vals vs vals.toList)
  (hz:AD vs.length):FR (AX T0 (.tup vs)):=by
 have nw:∀b u,Aw b u->b∉wr:=GW
 have nL:X.env.locals∉wr:=λz=>(hf _ z).2.1 rfl;have fresh:H T0=none:=I.hok.fresh hT;have ne:∀b o,AI b->b≠T0:=λb o e=>KY (Mm Bv hT);refine I.step (g':=s.gens) (d':=s.drawn) (ch:=wr) Eg (λb o _ _ hc e _=>k b o hc e) (λb o _ _ hc e _=>⟨o.slots,k b o hc e⟩) (λb o _ e n=>by rw[Kh (ne b o e)];exact n)
  (λb o hc e=>⟨o,k b o hc e⟩) (λb xs e=>by rw[Kh (Lp e fresh)];exact e) (λb o u e=>by rw[Kh (Lp e fresh)];exact e) (λb ps e=>⟨#[],by rw[Kh (Lp e fresh),e];simp⟩) (λm hm=>?_) (λb u e=>?_) I.bare
 .obtain⟨f0,f1,f2,f3,f4,f5⟩:=hf b hb;exact⟨f3,f1,f4,f5⟩
 .obtain⟨o,es,ep,ho,r⟩:=hm;exact⟨o,es,ep,k _ o nL ho,r⟩
 .by_cases hb:b=T0
  .subst hb;rw[Ku] at e;cases e;have ht2:h'.IsTuple b vals.toList.toArray:=by simpa using ht
   exact⟨hz,vals.toList,hv,ht2⟩
  .rw[Kh hb] at e;refine(I.hok b u e).stay (λc v hc q=>k c v ?_ q) (λc q=>by rw[Kh (Lp q fresh)];exact q) λc xs q=>by rw[Kh (Lp q fresh)];exact q
   rcases hc with z | z;.rw[z];exact nw b u e
   .exact nw c _ z
end
end L2
namespace L2
open PySem
end L2
namespace L2
open PySem PySem.Spec PyProof.Rows
structure ZipAp(z TI TO i1 i2:Addr)(fp1 fp2:List Addr):Prop where
 TIz:TI≠z
 TOz:TO≠z
 i1z:i1≠z
 i2z:i2≠z
 TITO:TI≠TO
 TIi1:TI≠i1
 TIi2:TI≠i2
 TOi1:TO≠i1
 TOi2:TO≠i2
 i12:i1≠i2
 m1:i1∈fp1
 m2:i2∈fp2
 f1:∀b∈fp1,b≠z/\b≠TO/\b≠i2
 f2:∀b∈fp2,b≠z/\b≠TO/\b≠i1
theorem zwc:ZX (.type "list_reverseiterator") "__len__" = pure none:=by rw[nC,mR];kernel_rfl
theorem zm4:Slot "list_reverseiterator" "__length_hint__" "list_reverseiterator.__length_hint__" :=
 .of (owner:="list_reverseiterator") (n:="__length_hint__") (by rw[nC,mR];kernel_rfl) (by decide +kernel) (by decide +kernel) (by decide +kernel)
  (by first | exact .inl (by decide +kernel) | exact .inr (by decide +kernel)) (by rw[nH];kernel_rfl)
section
variable{prog:Ko}{w:Km}{A:Ks}{E:Ka->Ke->Prop}{s:Ke}
theorem yc6{it l:Addr}{i:Int}{Q:Bool->Af}(hit:s.heap.IsRevIter it l i)(h:Q false s):AH (oU (.ref it)):=by
 unfold oU;refine Kc (Xu hit.typeIs zwc ?_);show AT A (specialOf (KJ it) (pF "__length_hint__") >>= _) _ _ _;refine Kc (Xu hit.typeIs zm4.lookup ?_);generalize hid:("list_reverseiterator.__length_hint__" : String)=id0;wp_delta;rw[show Ab (oH id0) ("list_reverseiterator", "__length_hint__") from by subst hid;decide +kernel];subst hid;refine Kc (VL (T:="list_reverseiterator") (b:=true) hit.typeIs (by rw[nH];kernel_rfl) ?_);refine O8 (λhab=>absurd hab (by decide)) C4;refine O8 C4 (λhab=>absurd (by decide +kernel) hab);refine O8 (λhab=>absurd hab (by decide +kernel)) C4;exact Kf h
theorem zv4{R:Tj->Af}{r l:Addr}{items:BT}(hh:DN)(hr:s.heap.IsRevIter r l ((items.size:Int) - 1))(hl:s.heap.IsList l items)(hlen:AD items.size)(S:Addr)(res:Ka)(c₀:Nat)(hS:Cp S (Du (.seq #[] c₀)))(hSl:S≠l)(hlr:l≠r)
  (hR:∀h' tk acc' c',(∀b o,b≠S->b≠r->AI b->AJ b o)->AJ S (Gd "list" (.seq acc' c') (#[])) ->
   Zz6 (λi v=>AM items (items.size - 1 - i) v) acc' items.size->GP (EY res)) :
  Kw (B5 w) A.in1 (Tp (.ref S) (.ref r) res)
   (λfin s'=>match fin with | .done f=>R (.ok f) s' | .again c'=>Aa c'.quiet/\Pr (B5 w) A c' R s') (λe s'=>R (.error e) s') s:=by
 have hSr:S≠r:=λe=>by obtain⟨o,ho,hc,_⟩:=hr;rw[e,ho] at hS;cases hS;simp at hc
 have W:=(Walks.listRev (prog:=prog) (w:=w) (A:=A.in1) hh r l hlr items).toS;unfold Tp;refine Kc (Xz hr.typeIs ?_);have h1:AL (XQ (.ref S) (.ref r)):=by simp[XQ,hSr]
 have h2:Be (MJ "list_reverseiterator") (MJ "list"):=by decide
 have h3:Be (MJ "list_reverseiterator") (MJ "tuple"):=by decide
 simp only[h1,h2,h3,lC,Lj,if_false];refine Kc (wpAny_pyIter_revIter hr ?_);refine Kc (Nm (yc6 hr ?_));refine O8 (λhab=>absurd hab (by decide +kernel)) C4;have hSf:S∉[r,l]:=by simp[hSr,hSl]
 refine Kf ⟨Rg Zv9 _,Zwf W hlen _ hSf _ items.size 0 _ _ _ rfl BM ⟨BM,by simpa using hr,hl⟩ hS (Zw6 _) λs' acc' c' hm hS' hacc=>?_⟩;rw[hm.eq_with];exact hR _ _ acc' c' (λb o hb hbr e=>hm.heap b o (by simp[hb,hbr]) e) hS' hacc
theorem zle{Q:Ka->Af}{r l:Addr}{items:BT}(hh:DN)(hr:s.heap.IsRevIter r l ((items.size:Int) - 1))(hl:s.heap.IsList l items)(hlr:l≠r)(hlen:AD items.size)
  (hQ:∀h' tk acc' c',(∀b o,b≠r->AI b->AJ b o) ->
   AJ s.heap.objs.size (Gd "list" (.seq acc' c') (#[]))->Zz6 (λi v=>AM items (items.size - 1 - i) v) acc' items.size->Q BN { s with heap:=h',toks:=tk }) :
  AH (call FL [.ref r]):=by
 refine callType_codes (Q₁:=λobj s₁=>obj= BN/\s₁={ s with heap:=CP "list" (.seq #[]) }) F.called_list (F.typeCall_list_1 _) F.entry_list_init
  (code_list_new _ De) λobj s₁ h₁=>?_;obtain⟨rfl,rfl⟩:=h₁;have hS:Cj (CP "list" (.seq #[])) s.heap.objs.size (Du (.seq #[])):=BP _;have hr2:(CP "list" (.seq #[])).IsRevIter r l ((items.size:Int) - 1):=hr.at λo e=>A0 e;have hl2:(CP "list" (.seq #[])).IsList l items:=hl.at λo e=>A0 e;have hrlt:Er r:=by obtain⟨o,ho,_⟩:=hr;exact Ld ho
 have hllt:Er l:=by obtain⟨o,ho,_⟩:=hl;exact Ld ho
 refine(Ck (Cm hS) (F.args_list_init_2 _ _));show AT A.in1.in1 ((do let old <- Zq4 BN;Zzq BN (λ_=>#[]);letGo old.toList.reverse;Tp BN (.ref r) .none)) _ _ _;refine Kc ?_;unfold Zq4;refine Kc (ZS hS rfl B7);show AT _ (XF s.heap.objs.size (λ_=>#[]) >>= λ_=>letGo (#[]:BT).toList.reverse >>= λ_=>Tp BN (.ref r) .none) _ _ _;refine Kc (VN hS rfl ?_);have hS₂:=Pu (O1 (λ_=>(#[]:BT))) hS rfl;have oth:∀b o,b≠s.heap.objs.size->Cj (CP "list" (.seq #[])) b o->Cj ((CP "list" (.seq #[])).update s.heap.objs.size (O1 (λ_=>(#[]:BT)))) b o :=
  Gm (Pa _ _ (K7 hb)) e;refine Kc (Zwr ?_);refine zv4 (A:=A.in1) hh (hr2.at λo e=>oth r o (KY hrlt) e) (hl2.at λo e=>oth l o (KY hllt) e) hlen _ .none _ hS₂ (Pn hllt) hlr λh' tk acc' c' hk hS' hacc=>?_;exact(CW (hQ h' tk acc' c' (λb o hbr e=>hk b o (KY Bv) hbr (oth b o (KY Bv) (A0 e))) hS' hacc))
end
section
variable{X:Cx}{pins:List (Addr×Obj)}{σ:St}{H:Hp}{s:Ke}{h':Heap}{t':Nat}{wr:List Addr}
theorem Inv.turnsO(I:Ak){T0:Addr}{nw0:HO}(hf:∀b∈wr,D7 X H b)(k:∀b o,b∉wr->AI b->AJ b o)(hT:E7 T0)(new:Lr X.prog X.w (AX T0 nw0) h' T0 nw0) :
  FR (AX T0 nw0):=by
 have nw:∀b u,Aw b u->b∉wr:=GW
 have nL:X.env.locals∉wr:=λz=>(hf _ z).2.1 rfl;have fresh:H T0=none:=I.hok.fresh hT;have ne:∀b o,AI b->b≠T0:=λb o e=>KY (Mm Bv hT);refine I.step (g':=s.gens) (d':=s.drawn) (ch:=wr) Eg (λb o _ _ hc e _=>k b o hc e) (λb o _ _ hc e _=>⟨o.slots,k b o hc e⟩) (λb o _ e n=>by rw[Kh (ne b o e)];exact n)
  (λb o hc e=>⟨o,k b o hc e⟩) (λb xs e=>by rw[Kh (Lp e fresh)];exact e) (λb o u e=>by rw[Kh (Lp e fresh)];exact e) (λb ps e=>⟨#[],by rw[Kh (Lp e fresh),e];simp⟩) (λm hm=>?_) (λb u e=>?_) I.bare
 .obtain⟨f0,f1,f2,f3,f4,f5⟩:=hf b hb;exact⟨f3,f1,f4,f5⟩
 .obtain⟨o,es,ep,ho,r⟩:=hm;exact⟨o,es,ep,k _ o nL ho,r⟩
 .by_cases hb:b=T0
  .subst hb;rw[Ku] at e;cases e;exact new
  .rw[Kh hb] at e;refine(I.hok b u e).stay (λc v hc q=>k c v ?_ q) (λc q=>by rw[Kh (Lp q fresh)];exact q) λc xs q=>by rw[Kh (Lp q fresh)];exact q
   rcases hc with z | z;.rw[z];exact nw b u e
   .exact nw c _ z
end
section
variable{X:Cx}{e1:Expr}{ta:TA}{p pos p2 pos2:Pos}
noncomputable def ztl(K:Kd)(ta:TA):TE:=λσ H Q=>ta σ H λvs H1=>∃a xs,vs=[Av]/\A8 H1 a xs /\ ∀l,H1 l=none->Q Cd (BX H1 l xs.reverse)
theorem zvx(hc:Ex)(hgl:Gl X "list")(hml:X.mg "list" = none)(hg:Gl X "reversed")(hm:X.mg "reversed" = none)(hA:PA X [e1] ta)(hs:CA [e1]=[(D4 e1)]:=by rfl)
  (hs2:CA [Ey "reversed" p [e1] pos]=[(D4 (Ey "reversed" p [e1] pos))]:=by rfl) :
  Au (Ey "list" p2 [Ey "reversed" p [e1] pos] pos2) (ztl X.K ta):=by
 intro pins s σ H Q I h;refine Call_ (Uy I hgl hml Xj (Xi (?_:B1 (oJ (DT pos2 [Ey "reversed" p [e1] pos])) _ s) hs2 rfl));rw[hs2];show AT _ (oJ ((D4 (Ey "reversed" p [e1] pos))::[])) _ _ s;refine oW ?_;refine Call_ (Uy I hg hm boot_reversed (Xi (thn (hA pos pins s σ H _ I h) λus s1 hz9=>?_) hs rfl));obtain⟨vs,H1,I1,r1,q1⟩:=hz9;obtain⟨a,xs,rfl,hq,q⟩:=q1;obtain⟨u,rfl,ru⟩:=Qc r1;cases ru;obtain⟨its,rv,pl,hz⟩:=I1.list hq;have hn:its.toArray.size=xs.length:=by rw[rv.length];simp
 refine call_reversed_list pl.isList (Zqq ?_);have up:∀b o,Ab (s1.heap.get? b) o->Cj (s1.heap.push (revObj a ((its.toArray.size:Int) - 1))) b o:=λb o e=>A0 e;have hR:(s1.heap.push (revObj a ((its.toArray.size:Int) - 1))).IsRevIter s1.heap.objs.size a ((its.toArray.size:Int) - 1):=(Bh _ (BP _) rfl);have I2:Ce H1 { s1 with heap:=s1.heap.push (revObj a ((its.toArray.size:Int) - 1)) }:=I1.kept (t':=s1.toks) up;have hal:a<s1.heap.objs.size:=by obtain⟨o,_,ho,_⟩:=id pl;exact Ld ho
 have f1:=I1.fpOk Az Gi;generalize hh2:s1.heap.push (revObj a ((its.toArray.size:Int) - 1))=h2 at hR I2 up;refine zle (s:={ s1 with heap:=h2 }) (I1.ok.hd hc) hR (pl.isList.at λo e=>up _ _ e) (KY hal) (by rw[hn];exact hz) λh' tk acc c hk hS hacc=>?_;have hv:Vals xs.reverse acc.toList:=by
  obtain⟨hsz,hit⟩:=hacc;have e:acc.toList=its.reverse:=by
   refine Qn λi=>?_;by_cases hi:i<acc.size
   .have h1:=hit i acc[i] (by simp[hi]);have h2:Ah acc.toList acc[i]:=by simp[hi]
    rw[h2];rw[lU (by rw[hsz] at hi;simpa using hi)];have:its.toArray[its.toArray.size - 1 - i]? = its[its.length - 1 - i]?:=by simp
    rw[<- this,h1]
   .rw[EC,RB (by rw[hsz] at hi;simpa using hi)]
  rw[e];exact rv.reverse
 have hsz2:h2.objs.size=Gk 1:=by rw[<- hh2,Mq]
 have hf:∀b∈[s1.heap.objs.size],D7 X H1 b:=λb hb=>by rw[K5.mp hb];exact f1
 exact(Bj (.ref h2.objs.size) _ (I2.turnsO (t':=tk) hf (λb o hb e=>hk b o (by simpa using hb) e) Az (show Lr X.prog X.w _ _ _ (.lst _) from⟨by rw[Zui];exact hz,acc.toList,c,hv,by simpa using hS⟩)) (q _ I2.fresh))
end
end L2
namespace L2
open PySem
end L2
namespace L2
open PySem PySem.Spec PyProof.Rows
inductive D where
 | non | bl (b:Bool) | int (i:Int) | str (l:List Nat) | lst (xs:List D) | tup (xs:List D) | dct (ks vs:List D) | dctT (ks vs:List D) | ins (C:Addr) (ns:List Str) (vs:List D)
noncomputable instance:Inhabited D:=⟨.non⟩
noncomputable instance:DecidableEq D:=Ya9 D
mutual
noncomputable def D.dep:D->Nat
 | .lst a=>D.deps a+1
 | .tup a=>D.deps a+1
 | _=>0
noncomputable def D.deps:Ac->Nat
 | []=>0
 | a::x=>max a.dep (D.deps x)
end
mutual
noncomputable def D.nb:D->Bool
 | .bl _=>false
 | .dct _ _=>false
 | .dctT _ _=>false
 | .ins _ _ _=>false
 | .lst a=>D.nbs a
 | .tup a=>D.nbs a
 | _=>true
noncomputable def D.nbs:Ac->Bool
 | []=>true
 | a::x=>a.nb&&D.nbs x
end
noncomputable def D.isK:D->Bool
 | .int _=>true | .str _=>true | _=>false
noncomputable def D.key:D->Key
 | .int i=>.inl i | .str l=>.inr (T l) | _=>.inl 0
noncomputable def D.isT:D->Bool
 | .tup l=>l.all D.isK | _=>false
noncomputable def D.tkey:D->BF
 | .tup l=>l.map D.key | _=>[]
noncomputable def D.isInt:D->Bool
 | .int _=>true
 | _=>false
noncomputable def Yj(ds:Ac):Bool:=ds.any D.isInt
section
variable(K:Kd)(H:Hp)
mutual
noncomputable def Rep:D->Aq V
 | .non,v=>v= .non
 | .bl b,v=>v= .bl b
 | .int i,v=>v= Ca
 | .str l,v=>v= Dc l /\ ∀c∈l,c<128
 | .lst ds,v=>∃p xs,v= Ap/\A8 H p xs/\Reps ds xs
 | .tup ds,v=>∃p xs,v= Ap/\SqT K H p xs/\Reps ds xs/\(Aa (Yj ds)->Di p xs)
 | .dct ks vs,v=>∃p kv,v= Ap/\Aw p (.dK kv)/\Reps ks (kv.map λq=>kV q.1)/\Reps vs (kv.map λq=>q.2)
 | .dctT ks vs,v=>∃p kv,v= Ap/\(∃o,Aw p (.frz o (.dT kv)))/\(Aa (ks.all D.isT)/\(kv.map λq=>q.1)=ks.map D.tkey)/\Reps vs (kv.map λq=>q.2)
 | .ins C ns vs,v=>∃x dx fs,v= BB/\Aw x (Cu dx fs)/\Aw dx (.own x)/\fs.map (λq=>q.1)=ns/\Reps vs (fs.map λq=>q.2)
noncomputable def Reps:Ac->Aq Ai
 | [],xs=>xs=[]
 | d::ds,xs=>∃x r,xs=x::r/\Rep d x/\Reps ds r
end
end
section
variable{K:Kd}{H H':Hp}
mutual
theorem Rep.mono(s:Same H H'):∀{d:D} {v:V},As H d v->As H' d v
 | .non,_,h=>by simpa[Rep] using h
 | .bl _,_,h=>by simpa[Rep] using h
 | .int _,_,h=>by simpa[Rep] using h
 | .str _,_,h=>by simpa[Rep] using h
 | .lst ds,_,h=>by
  rw[Rep] at h ⊢;obtain⟨p,xs,e,q,r⟩:=h;exact⟨p,xs,e,SqL.same s q,Reps.mono s r⟩
 | .tup ds,_,h=>by
  rw[Rep] at h ⊢;obtain⟨p,xs,e,q,r,t⟩:=h;exact⟨p,xs,e,SqT.same s q,Reps.mono s r,λz=>s _ _ (t z)⟩
 | .dct ks vs,_,h=>by
  rw[Rep] at h ⊢;obtain⟨p,kv,e,q,r1,r2⟩:=h;exact⟨p,kv,e,s _ _ q,Reps.mono s r1,Reps.mono s r2⟩
 | .dctT ks vs,_,h=>by
  rw[Rep] at h ⊢;obtain⟨p,kv,e,⟨o,q⟩,r1,r2⟩:=h;exact⟨p,kv,e,⟨o,s _ _ q⟩,r1,Reps.mono s r2⟩
 | .ins C ns vs,_,h=>by
  rw[Rep] at h ⊢;obtain⟨x,dx,fs,e,q1,q2,hn,r⟩:=h;exact⟨x,dx,fs,e,s _ _ q1,s _ _ q2,hn,Reps.mono s r⟩
theorem Reps.mono(s:Same H H'):∀{ds:Ac} {xs:Ai},Bc H xs->Bc H' xs
 | [],_,h=>by simpa[Reps] using h
 | d::ds,_,h=>by
  rw[Reps] at h ⊢;obtain⟨x,r,e,a,b⟩:=h;exact⟨x,r,e,Rep.mono s a,Reps.mono s b⟩
end
theorem Reps.nil:AN H [] []:=by rw[Reps]
theorem Reps.cons{d:D}{ds:Ac}{x:V}{xs:Ai}(a:As H d x)(b:Bc H xs):AN H (d::ds) (x::xs):=by rw[Reps];exact⟨x,xs,rfl,a,b⟩
theorem Reps.length:∀{ds:Ac} {xs:Ai},Bc H xs->DJ xs.length
 | [],_,h=>by rw[Reps] at h;subst h;rfl
 | d::ds,_,h=>by
  rw[Reps] at h;obtain⟨x,r,rfl,_,b⟩:=h;simp[b.length]
theorem Reps.get:∀{ds:Ac} {xs:Ai} {i:Nat} {x:V},Bc H xs->Ah xs x-> ∃d,Ah ds d/\As H d x
 | [],_,_,_,h,e=>by rw[Reps] at h;subst h;simp at e
 | d::ds,_,0,_,h,e=>by
  rw[Reps] at h;obtain⟨y,r,rfl,a,_⟩:=h;cases e;exact(By d a)
 | d::ds,_,i+1,_,h,e=>by
  rw[Reps] at h;obtain⟨y,r,rfl,_,b⟩:=h;exact Reps.get (i:=i) b e
theorem Reps.get':∀{ds:Ac} {xs:Ai} {i:Nat} {d:D},Bc H xs->Ah ds d-> ∃x,Ah xs x/\As H d x:=λ{ds xs i d} h e=>by
 have hl:=h.length;have hi:=(BS e);obtain⟨d',e',r⟩:=h.get (i:=i) (x:=EN xs i) (Kv _);rw[e] at e';cases e';exact(Ar (Kv _) r)
theorem Reps.append:∀{ds es:Ac} {xs ys:Ai},Bc H xs->AN H es ys->AN H (ds++es) (xs++ys)
 | [],_,_,_,h,h2=>by rw[Reps] at h;subst h;exact h2
 | d::ds,_,_,_,h,h2=>by
  rw[Reps] at h;obtain⟨y,r,rfl,a,b⟩:=h;exact Reps.cons a (Reps.append b h2)
theorem Reps.snoc{ds:Ac}{xs:Ai}{d:D}{x:V}(h:Bc H xs)(a:As H d x):AN H (ds++[d]) (xs++[x]):=h.append (.cons a .nil)
theorem Reps.drop:∀(n:Nat) {ds:Ac} {xs:Ai},Bc H xs->AN H (ds.drop n) (xs.drop n)
 | 0,_,_,h=>h
 | n+1,[],_,h=>by rw[Reps] at h;subst h;exact Reps.nil
 | n+1,d::ds,_,h=>by
  rw[Reps] at h;obtain⟨y,r,rfl,_,b⟩:=h;exact Reps.drop n b
theorem Reps.take:∀(n:Nat) {ds:Ac} {xs:Ai},Bc H xs->AN H (ds.take n) (xs.take n)
 | 0,_,_,h=>Reps.nil
 | n+1,[],_,h=>by rw[Reps] at h;subst h;exact Reps.nil
 | n+1,d::ds,_,h=>by
  rw[Reps] at h;obtain⟨y,r,rfl,a,b⟩:=h;exact Reps.cons a (Reps.take n b)
theorem Rep.lst{ds:Ac}{p:Addr}{xs:Ai}(q:A8 H p xs)(r:Bc H xs):As H (.lst ds) Ap:=by rw[Rep];exact⟨p,xs,rfl,q,r⟩
theorem Rep.tup{ds:Ac}{p:Addr}{xs:Ai}(q:SqT K H p xs)(r:Bc H xs)(t:Aa (Yj ds)->Di p xs):As H DG Ap:=by rw[Rep];exact⟨p,xs,rfl,q,r,t⟩
theorem Rep.tupN{ds:Ac}{p:Addr}{xs:Ai}(q:Di p xs)(r:Bc H xs):As H DG Ap:=Rep.tup (SqT.of q) r λ_=>q
theorem Rep.int{i:Int}:As H Ca Ca:=by rw[Rep]
theorem Rep.bl{b:Bool}:As H (.bl b) (.bl b):=by rw[Rep]
theorem Rep.str{l:Ae}(h:∀c∈l,c<128):As H (.str l) (Dc l):=by rw[Rep];exact⟨rfl,h⟩
theorem Rep.non:As H .non .non:=by rw[Rep]
theorem Rep.of_int{i:Int}{v:V}(h:As H Ca v):v= Ca:=by rw[Rep] at h;exact h
theorem Rep.of_bl{b:Bool}{v:V}(h:As H (.bl b) v):v= .bl b:=by rw[Rep] at h;exact h
theorem Rep.of_str{l:Ae}{v:V}(h:As H (.str l) v):v= Dc l:=by rw[Rep] at h;exact h.1
theorem Rep.asc{l:Ae}{v:V}(h:As H (.str l) v):∀c∈l,c<128:=by rw[Rep] at h;exact h.2
theorem Rep.of_non{v:V}(h:As H .non v):v= .non:=by rw[Rep] at h;exact h
theorem Rep.of_lst{ds:Ac}{v:V}(h:As H (.lst ds) v):∃p xs,v= Ap/\A8 H p xs/\Bc H xs:=by rw[Rep] at h;exact h
theorem Rep.of_tup{ds:Ac}{v:V}(h:As H DG v):∃p xs,v= Ap/\SqT K H p xs/\Bc H xs:=by rw[Rep] at h;obtain⟨p,xs,e,q,r,_⟩:=h;exact⟨p,xs,e,q,r⟩
theorem Rep.trk{ds:Ac}{v:V}(h:As H DG v)(z:Aa (Yj ds)):∃p xs,v= Ap/\Di p xs/\Bc H xs:=by rw[Rep] at h;obtain⟨p,xs,e,_,r,t⟩:=h;exact⟨p,xs,e,t z,r⟩
theorem Rep.of_dct{ks vs:Ac}{v:V}(h:As H (.dct ks vs) v):∃p kv,v= Ap/\Aw p (.dK kv)/\AN H ks (kv.map λq=>kV q.1)/\AN H vs (kv.map λq=>q.2):=by rw[Rep] at h;exact h
theorem Rep.of_ins{C:Addr}{ns:AC}{vs:Ac}{v:V}(h:As H (Cu ns vs) v):∃x dx fs,v= BB/\Aw x (Cu dx fs)/\Aw dx (.own x)/\fs.map (λq=>q.1)=ns/\AN H vs (fs.map λq=>q.2):=by rw[Rep] at h;exact h
theorem Rep.dct{ks vs:Ac}{p:Addr}{kv:AU Key}(q:Aw p (.dK kv))(r1:AN H ks (kv.map λq=>kV q.1))(r2:AN H vs (kv.map λq=>q.2)):As H (.dct ks vs) Ap:=by rw[Rep];exact⟨p,kv,rfl,q,r1,r2⟩
theorem Rep.ins{C x dx:Addr}{fs:Bf V}{vs:Ac}(q1:Aw x (Cu dx fs))(q2:Aw dx (.own x))(r:AN H vs (fs.map λq=>q.2)):As H (Cu (fs.map λq=>q.1) vs) BB:=by rw[Rep];exact⟨x,dx,fs,rfl,q1,q2,rfl,r⟩
end
noncomputable def NT:Aq HO
 | .tup _=>False
 | _=>True
structure Ext(G Hz F H:Hp):Prop where
 gf:Same G F
 fh:Same F H
 hh:Same Hz H
 no:∀b o,Hz b=some o->NT o->F b=G b
theorem Ext.refl{G H:Hp}(s:Same G H):Ext G H G H:=⟨Same.refl _,s,Same.refl _,λ_ _ _ _=>rfl⟩
theorem Ext.trans{G H F1 H1 F2 H2:Hp}(a:Ext G H F1 H1)(b:Ext F1 H1 F2 H2):Ext G H F2 H2 :=
 ⟨a.gf.trans b.gf,b.fh,a.hh.trans b.hh,λc o e n=>(b.no c o (a.hh c o e) n).trans (a.no c o e n)⟩
theorem Ext.newF{G Hz F H:Hp}(x:Ext G Hz F H){p:Addr}{o:HO}(hp:H p=none):Ext G Hz (upd F p o) (AX p o):=by
 have fp:F p=none:=x.fh.free hp;refine⟨x.gf.trans (Same.upd fp),λb u e=>?_,x.hh.trans (Same.upd hp),λb u e n=>?_⟩
 .by_cases hb:b=p;.subst hb;rw[Ku] at e ⊢;exact e
  .rw[Kh hb] at e ⊢;exact x.fh b u e
 .have hb:b≠p:=λz=>by subst z;have:=x.hh b u e;rw[hp] at this;cases this
  rw[Kh hb];exact x.no b u e n
theorem Ext.newO{G Hz F H:Hp}(x:Ext G Hz F H){p:Addr}{o:HO}(hp:H p=none):Ext G Hz F (AX p o) :=
 ⟨x.gf,x.fh.trans (Same.upd hp),x.hh.trans (Same.upd hp),x.no⟩
theorem Ext.write{G Hz F H:Hp}(x:Ext G Hz F H){p:Addr}{o:HO}(fp:F p=none)(hp:Hz p=none):Ext G Hz F (AX p o) :=
 ⟨x.gf,λb u e=>by rw[Kh (Lp e fp)];exact x.fh b u e,λb u e=>by rw[Kh (Lp e hp)];exact x.hh b u e,x.no⟩
theorem Ext.freeze{G Hz F H:Hp}(x:Ext G Hz F H){p:Addr}{o:HO}(fp:F p=none)(hp:Hz p=none)(e:Aw p o):Ext G Hz (upd F p o) H:=by
 refine⟨x.gf.trans (Same.upd fp),λb u q=>?_,x.hh,λb u q n=>?_⟩
 .by_cases hb:b=p;.subst hb;rw[Ku] at q;cases q;exact e
  .rw[Kh hb] at q;exact x.fh b u q
 .rw[Kh (Lp q hp)];exact x.no b u q n
inductive Sl where
 | un | d (x:D) | o (p:Addr) (xs:List D) | oo (p:Addr) (qs:List (Addr×List D)) | g (v:V) (as:List Addr) (W:Hp->Hp->Prop)
noncomputable def Sl.ads:Sl->Bp
 | .un=>[] | .d _=>[] | .o p _=>[p] | .oo p qs=>p::qs.map (·.1) | .g _ as _=>as
noncomputable def OwnL(K:Kd)(Hz F H:Hp)(p:Addr)(xs:Ac):Prop:=Hz p=none/\F p=none /\ ∃vs,Ez p vs/\AN F xs vs
noncomputable def Stab(as:Bp)(W:Hp->A2):Prop:=∀F1 H1 F2 H2:Hp,Same F1 F2->(∀a∈as,H2 a=H1 a)->W F1 H1->W F2 H2
noncomputable def SlOk(K:Kd)(Hz F H:Hp)(ov:Ek):Aq Sl
 | .un=>True
 | .d x=>∃v,Ab ov v/\As F x v
 | .o p xs=>Ab ov Ap/\OwnL K Hz F H p xs
 | .oo p qs=>Ab ov Ap/\Hz p=none/\F p=none/\Ez p (qs.map λq=>V.ref q.1) /\ ∀q∈qs,OwnL K Hz F H q.1 q.2
 | .g v as W=>Ab ov v/\(∀a∈as,Hz a=none/\F a=none /\ ∃o,Aw a o/\NT o)/\W F H/\Stab as W
structure Sat(K:Kd)(G Hz L F H:Hp)(σ:St)(ss:List Sl):Prop where
 ext:Ext G Hz F H
 fl:Same L F
 len:σ.length=ss.length
 ok:∀(i:Nat) s,ss[i]? = some s->SlOk K Hz F H (σ.getD i none) s
 nd:∀(i:Nat) s,ss[i]? = some s->s.ads.Nodup
 ne:∀(i j:Nat) s s',i≠j->ss[i]? = some s->ss[j]? = some s'-> ∀p∈s.ads,p∉s'.ads
section
variable{K:Kd}{Hz F H F' H':Hp}
theorem OwnL.ext2{p:Addr}{xs:Ac}(h:OwnL K Hz F H p xs)(e:CL F H F'):OwnL K Hz F' H' p xs:=by
 obtain⟨h0,fp,vs,hp,r⟩:=h;exact⟨h0,(e.no p _ hp trivial).trans fp,vs,e.hh p _ hp,r.mono e.gf⟩
theorem SlOk.ext2{ov:Ek}{s:Sl}(h:SlOk K Hz F H ov s)(e:CL F H F'):SlOk K Hz F' H' ov s:=by
 cases s with
 | un=>trivial
 | d x=>obtain⟨v,ev,r⟩:=h;exact⟨v,ev,r.mono e.gf⟩
 | o p xs=>exact⟨h.1,h.2.ext2 e⟩
 | oo p qs =>
  obtain⟨ev,h0,fp,hp,hq⟩:=h;exact⟨ev,h0,(e.no p _ hp trivial).trans fp,e.hh p _ hp,λq hm=>(hq q hm).ext2 e⟩
 | g v as W =>
  obtain⟨ev,ha,hw,st⟩:=h;refine⟨ev,λa hm=>?_,st _ _ _ _ e.gf (λa hm=>?_) hw,st⟩
  .obtain⟨h0,fa,o,ho,nt⟩:=ha a hm;exact⟨h0,(e.no a _ ho nt).trans fa,o,e.hh a _ ho,nt⟩
  .obtain⟨h0,fa,o,ho,nt⟩:=ha a hm;rw[e.hh a _ ho,ho]
theorem OwnL.updNe{p a:Addr}{o:HO}{xs:Ac}(h:OwnL K Hz F H p xs)(hn:p≠a):OwnL K Hz F (AX a o) p xs:=by
 obtain⟨h0,fp,vs,hp,r⟩:=h;exact⟨h0,fp,vs,by rw[Kh hn];exact hp,r⟩
theorem SlOk.updNe{ov:Ek}{s:Sl}{a:Addr}{o:HO}(h:SlOk K Hz F H ov s)(hn:a∉s.ads):SlOk K Hz F (AX a o) ov s:=by
 cases s with
 | un=>trivial
 | d x=>exact h
 | o p xs=>exact⟨h.1,h.2.updNe λz=>hn (by simp[Sl.ads,z])⟩
 | oo p qs =>
  obtain⟨ev,h0,fp,hp,hq⟩:=h;refine⟨ev,h0,fp,by rw[Kh λz=>hn (by simp[Sl.ads,z])];exact hp,λq hm=>(hq q hm).updNe λz=>hn ?_⟩;rw[<- z];exact AS (Ny hm)
 | g v as W =>
  obtain⟨ev,ha,hw,st⟩:=h;have hne:∀b∈as,b≠a:=λb hm z=>hn (by rw[<- z];exact hm);refine⟨ev,λb hm=>?_,st _ _ _ _ (Same.refl _) (λb hm=>Kh (hne b hm)) hw,st⟩;obtain⟨h0,fa,x,ho,nt⟩:=ha b hm;exact⟨h0,fa,x,by rw[Kh (hne b hm)];exact ho,nt⟩
theorem OwnL.frz{p a:Addr}{o:HO}{xs:Ac}(h:OwnL K Hz F H p xs)(fa:F a=none)(hn:p≠a):OwnL K Hz (upd F a o) H p xs:=by
 obtain⟨h0,fp,vs,hp,r⟩:=h;exact⟨h0,by rw[Kh hn];exact fp,vs,hp,r.mono (Same.upd fa)⟩
theorem SlOk.frz{ov:Ek}{s:Sl}{a:Addr}{o:HO}(h:SlOk K Hz F H ov s)(fa:F a=none)(hn:a∉s.ads):SlOk K Hz (upd F a o) H ov s:=by
 cases s with
 | un=>trivial
 | d x=>obtain⟨v,ev,r⟩:=h;exact⟨v,ev,r.mono (Same.upd fa)⟩
 | o p xs=>exact⟨h.1,h.2.frz fa λz=>hn (by simp[Sl.ads,z])⟩
 | oo p qs =>
  obtain⟨ev,h0,fp,hp,hq⟩:=h;refine⟨ev,h0,by rw[Kh λz=>hn (by simp[Sl.ads,z])];exact fp,hp,λq hm=>(hq q hm).frz fa λz=>hn ?_⟩;rw[<- z];exact AS (Ny hm)
 | g v as W =>
  obtain⟨ev,ha,hw,st⟩:=h;have hne:∀b∈as,b≠a:=λb hm z=>hn (by rw[<- z];exact hm);refine⟨ev,λb hm=>?_,st _ _ _ _ (Same.upd fa) Cy hw,st⟩;obtain⟨h0,fb,x,ho,nt⟩:=ha b hm;exact⟨h0,by rw[Kh (hne b hm)];exact fb,x,ho,nt⟩
theorem SlOk.live{ov:Ek}{s:Sl}(h:SlOk K Hz F H ov s){p:Addr}(hp:p∈s.ads):H p≠none:=by
 cases s with
 | un=>simp[Sl.ads] at hp
 | d x=>simp[Sl.ads] at hp
 | o q xs =>
  obtain⟨_,_,_,vs,hq,_⟩:=h;simp[Sl.ads] at hp;subst hp;rw[hq];simp
 | oo q qs =>
  obtain⟨ev,h0,fp,hq,hqs⟩:=h;rcases KH.mp hp with rfl | hp;.rw[hq];simp
  .obtain⟨r,hr,rfl⟩:=Kr.mp hp;obtain⟨_,_,vs,hv,_⟩:=hqs r hr;rw[hv];simp
 | g v as W =>
  obtain⟨ev,ha,hw,st⟩:=h;obtain⟨_,_,x,ho,_⟩:=ha p hp;rw[ho];simp
end
section
variable{K:Kd}{G Hz L F H F' H':Hp}{σ:St}{ss:List Sl}
theorem Sat.ext2(S:Sat K G Hz L F H σ ss)(e:CL F H F'):Sat K G Hz L F' H' σ ss :=
 ⟨S.ext.trans e,S.fl.trans e.gf,S.len,λi s hs=>(S.ok i s hs).ext2 e,S.nd,S.ne⟩
theorem Sat.get(S:Sat K G Hz L F H σ ss){i:Nat}{s:Sl}(hs:Bl s)(hn:s ≠ .un):∃v,D5 σ v/\SlOk K Hz F H (some v) s:=by
 have hi:i<σ.length:=by rw[S.len];exact(Mg.mp hs).1
 have:=S.ok i s hs;rw[Kz,Kv hi] at this;simp only[VG] at this;cases hv:σ[i] with
 | none =>
  rw[hv] at this;cases s with
  | un=>exact Fp hn
  | d x=>obtain⟨v,ev,_⟩:=this;cases ev
  | o p xs=>obtain⟨ev,_⟩:=this;cases ev
  | oo p qs=>obtain⟨ev,_⟩:=this;cases ev
  | g v as W=>obtain⟨ev,_⟩:=this;cases ev
 | some v =>
  rw[hv] at this;exact⟨v,by rw[Kv hi,hv],this⟩
theorem Sat.getD(S:Sat K G Hz L F H σ ss){i:Nat}{x:D}(hs:Bl (.d x)):∃v,D5 σ v/\As F x v:=by
 obtain⟨v,e,w,ew,r⟩:=Fj hs;cases ew;exact⟨v,e,r⟩
theorem Sat.getO(S:Sat K G Hz L F H σ ss){i:Nat}{p:Addr}{xs:Ac}(hs:Bl (.o p xs)):D5 σ Ap/\OwnL K Hz F H p xs:=by
 obtain⟨v,e,ew,r⟩:=Fj hs;cases ew;exact⟨e,r⟩
theorem Vo{σ:St}{i:Nat}{v:Ek}(h:i<σ.length):(σ.set i v).getD i none=v:=by
 rw[Kz,RJ h];rfl
theorem QM{σ:St}{i j:Nat}{v:Ek}(h:i≠j):(σ.set i v).getD j none=EV j:=by
 rw[Kz,Ug h,Kz]
theorem aU{i j:Nat}{s t:Sl}(h:AQ (Bu s) t):(i=j/\t=s/\i<ss.length)\/(i≠j/\AQ ss t):=by
 by_cases hj:i=j
 .subst hj;have hi:=(BS h);rw[Zwk] at hi;rw[RJ hi] at h;exact .inl ⟨rfl,(PP h).symm,hi⟩
 .rw[Ug hj] at h;exact C1 hj h
theorem Sat.put{σ':St}(S:Sat K G Hz L F H σ ss){i:Nat}{s:Sl}(ex:CL G Hz F')(fl:Same L F')(hl:σ'.length=σ.length)(hσ:∀j,j≠i->σ'.getD j none=EV j)(hi:i<ss.length->SlOk K Hz F' H' (σ'.getD i none) s)
  (nd:s.ads.Nodup) (dj:∀(j:Nat) s',j≠i->AQ ss s'-> ∀p∈s.ads,p∉s'.ads) (st:∀(j:Nat) s',j≠i->AQ ss s'->SlOk K Hz F' H' (EV j) s'):Sat K G Hz L F' H' σ' (Bu s):=by
 refine⟨ex,fl,by rw[Zwk,hl,S.len],λj t ht=>?_,λj t ht=>?_,λj k t u hjk ht hu=>?_⟩
 .rcases aU ht with ⟨rfl,rfl,hlt⟩ | ⟨hj,ht⟩;.exact hi hlt
  .rw[hσ j CU];exact st j t CU ht
 .rcases aU ht with ⟨rfl,rfl,_⟩ | ⟨hj,ht⟩;.exact nd
  .exact S.nd j t ht
 .rcases aU ht with ⟨rfl,rfl,_⟩ | ⟨hj,ht'⟩
  .rcases aU hu with ⟨rfl,rfl,_⟩ | ⟨hk,hu'⟩;.exact Fp hjk
   .exact dj k u (K7 hk) hu'
  .rcases aU hu with ⟨rfl,rfl,_⟩ | ⟨hk,hu'⟩;.exact λp hp hp'=>dj j t CU ht' p hp' hp
   .exact S.ne j k t u hjk ht' hu'
theorem Sat.setD(S:Sat K G Hz L F H σ ss){i:Nat}{x:D}{v:V}(r:As F x v):Sat K G Hz L F H (FM i v) (Bu (.d x)) :=
 S.put S.ext S.fl (by simp) (λj hj=>QM CU) (λhi=>by rw[Vo (by rw[S.len];exact hi)];exact⟨v,rfl,r⟩) (by simp[Sl.ads]) (λ_ _ _ _ p hp=>by simp[Sl.ads] at hp) λj s' _ h=>S.ok j s' h
theorem Sat.setO(S:Sat K G Hz L F H σ ss){i:Nat}{xs:Ac}{p:Addr}(r:OwnL K Hz F H p xs)(hne:∀(j:Nat) s',j≠i->AQ ss s'->p∉s'.ads):Sat K G Hz L F H (FM i Ap) (Bu (.o p xs)) :=
 S.put S.ext S.fl (by simp) (λj hj=>QM CU) (λhi=>by rw[Vo (by rw[S.len];exact hi)];exact⟨rfl,r⟩) (by simp[Sl.ads]) (λj s' hj h q hq=>by simp[Sl.ads] at hq;subst hq;exact hne j s' hj h) λj s' _ h=>S.ok j s' h
theorem Sat.write(S:Sat K G Hz L F H σ ss){i:Nat}{xs ys:Ac}{p:Addr}{vs:Ai}(hs:Bl (.o p xs))(r:AN F ys vs):Sat K G Hz L F (BX H p vs) σ (Bu (.o p ys)):=by
 obtain⟨e,h0,fp,ws,hp,_⟩:=S.getO hs;have hget:Ab (EV i) Ap:=by rw[Kz,e];rfl
 refine S.put (S.ext.write fp h0) S.fl rfl Cy (λ_=>by rw[hget];exact⟨rfl,h0,fp,vs,Ku,r⟩) (by simp[Sl.ads]) (λj s' hj h q hq=>?_) λj s' hj h=>(S.ok j s' h).updNe (S.ne i j _ s' CU hs h p (by simp[Sl.ads]));simp[Sl.ads] at hq;subst hq;exact S.ne i j _ s' CU hs h q (by simp[Sl.ads])
theorem Sat.freeze(S:Sat K G Hz L F H σ ss){i:Nat}{p:Addr}{xs:Ac}(hs:Bl (.o p xs)):∃F',Sat K G Hz L F' H σ (Bu (BE xs)):=by
 obtain⟨e,h0,fp,vs,hp,r⟩:=S.getO hs;have hget:Ab (EV i) Ap:=by rw[Kz,e];rfl
 exact⟨BX F p vs,S.put (S.ext.freeze fp h0 hp) (S.fl.trans (Same.upd fp)) rfl Cy (λ_=>by rw[hget];exact⟨_,rfl,Rep.lst (SqL.of Ku) (r.mono (Same.upd fp))⟩) (by simp[Sl.ads]) GS
  λj s' hj h=>(S.ok j s' h).frz fp (S.ne i j _ s' CU hs h p (by simp[Sl.ads]))⟩
theorem Sat.raise(S:Sat K G Hz L F H σ ss):Sat K G Hz F F H σ ss:=⟨S.ext,Same.refl _,S.len,S.ok,S.nd,S.ne⟩
theorem Sat.lower{L':Hp}(S:Sat K G Hz L' F H σ ss)(h:Same L L'):Sat K G Hz L F H σ ss:=⟨S.ext,h.trans S.fl,S.len,S.ok,S.nd,S.ne⟩
end
section
variable(K:Kd)(G Hz L:Hp)(ss:List Sl)
noncomputable def Ev(t:TE)(d:D):Prop:=∀F H σ Q,Sat K G Hz L F H σ ss->(∀v F' H',CL F H F'->As F' d v->Q v H')->t σ H Q
noncomputable def EvO(t:TE)(ds:Ac):Prop:=∀F H σ Q,Sat K G Hz L F H σ ss->(∀p vs F' H',CL F H F'->H p=none->F' p=none->Ab (H' p) (.lst vs)->Bc F' vs->Q Ap H')->t σ H Q
noncomputable def EvL(t:TE)(ds:Ac):Prop:=∀F H σ Q,Sat K G Hz L F H σ ss->(∀p vs F' H',CL F H F'->A8 H' p vs->Bc F' vs->Q Ap H')->t σ H Q
noncomputable def EvB(t:TE)(d:D):Prop:=∀F H σ Q,Sat K G Hz L F H σ ss->(∀v F' H',CL F H F'->As H' d v->Q v H')->t σ H Q
noncomputable def EvT(t:TT)(b:Bool):Prop:=∀F H σ (Q:Bool->A2),Sat K G Hz L F H σ ss->(∀F' H',CL F H F'->Q b H')->t σ H Q
noncomputable def EvA(t:TA)(ds:Ac):Prop:=∀F H σ (Q:Ai->A2),Sat K G Hz L F H σ ss->(∀vs F' H',CL F H F'->Bc H' vs->Q vs H')->t σ H Q
noncomputable def EvAF(t:TA)(ds:Ac):Prop:=∀F H σ (Q:Ai->A2),Sat K G Hz L F H σ ss->(∀vs F' H',CL F H F'->Bc F' vs->Q vs H')->t σ H Q
end
section
variable{K:Kd}{G Hz L:Hp}{ss:List Sl}{t ta tb:TE}{d d1 d2:D}{ds es:List D}
theorem EvO.ev(h:EvO K G Hz L ss t ds):Ay t (.lst ds):=λF H σ Q S q=>h F H σ Q S λp vs F' H' e hp fp hp' r=>q _ _ _ (e.freeze fp hp hp') (Rep.lst (SqL.of Ku) (r.mono (Same.upd fp)))
theorem EvO.l(h:EvO K G Hz L ss t ds):EvL K G Hz L ss t ds:=λF H σ Q S q=>h F H σ Q S λp vs F' H' e hp fp hp' r=>q _ _ _ _ e (SqL.of hp') r
theorem Ev.l(h:Ay t (.lst ds)):EvL K G Hz L ss t ds:=λF H σ Q S q=>h F H σ Q S λv F' H' e r=>by
 obtain⟨p,xs,rfl,sq,rs⟩:=r.of_lst;exact q _ _ _ _ e (SqL.same e.fh sq) rs
theorem Ev.b(h:Ay t d):A1 t d:=λF H σ Q S q=>h F H σ Q S λv F' H' e r=>q _ _ _ e (r.mono e.fh)
theorem EvL.b(h:EvL K G Hz L ss t ds):A1 t (.lst ds):=λF H σ Q S q=>h F H σ Q S λp vs F' H' e sq r=>q _ _ _ e (Rep.lst sq (r.mono e.fh))
theorem Mx{i:Nat}(hs:Bl (.d d)):Ay (tVar i) d:=λF H σ Q S q=>by
 obtain⟨v,e,r⟩:=S.getD hs;exact⟨v,e,q _ _ _ DA r⟩
theorem Ow{i:Nat}{p:Addr}(hs:Bl (.o p ds)):EvL K G Hz L ss (tVar i) ds:=λF H σ Q S q=>by
 obtain⟨e,h0,fp,vs,hp,r⟩:=S.getO hs;exact⟨Ap,e,q _ _ _ _ DA (SqL.of hp) r⟩
theorem Ky{i:Int}:Ay (tC Ca) Ca:=λF H σ Q S q=>q _ _ _ DA Rep.int
theorem ykw{b:Bool}:Cc (tC (.bl b)) b:=λF H σ Q S q=>q _ _ _ DA Rep.bl
theorem aV:Ay (tC .non) .non:=λF H σ Q S q=>q _ _ _ DA Rep.non
theorem yee{x:Str}{l:Ae}(h:x=T l)(ha:∀c∈l,c<128):Ay (tC (.str x)) (.str l):=λF H σ Q S q=>by subst h;exact q _ _ _ (Ext.refl S.ext.fh) (Rep.str ha)
theorem Zt{r:R2}{w:V}(a:A1 ta d1)(b:A1 tb d2)(hr:∀H x y (Q:VK),As H d1 x->As H d2 y->Q w H->r x y H Q)(hw:∀F H x y,As H d1 x->As H d2 y->As F d w):Ay (Ct r tb) d:=λF H σ Q S q =>
 a F H σ _ S λx F1 H1 e1 r1=>b F1 H1 σ _ Cg λy F2 H2 e2 r2=>hr H2 x y Q (r1.mono e2.hh) r2 (q _ _ _ Cf (hw _ _ _ _ (r1.mono e2.hh) r2))
theorem Og{i j:Int}(a:DP ta)(b:A1 tb (.int j)):Ay (Ct (rI0 (EH (i+j))) tb) (.int (i+j)) :=
 Zt a b (λH x y Q r1 r2 q=>⟨i,j,r1.of_int,r2.of_int,q⟩) λ_ _ _ _ _ _=>Rep.int
theorem yjx{i j:Int}(a:DP ta)(b:A1 tb (.int j)):Ay (Ct (rI0 (EH (i - j))) tb) (.int (i - j)) :=
 Zt a b (λH x y Q r1 r2 q=>⟨i,j,r1.of_int,r2.of_int,q⟩) λ_ _ _ _ _ _=>Rep.int
theorem qI{C:Int->Aq Int}{g:Int->Int->Int}{i j:Int}(a:DP ta)(b:A1 tb (.int j))(hC:C i j):Ay (Ct (rI C (EH (g i j))) tb) (.int (g i j)) :=
 Zt a b (λH x y Q r1 r2 q=>⟨i,j,r1.of_int,r2.of_int,hC,q⟩) λ_ _ _ _ _ _=>Rep.int
theorem zrf{g:Int->Int->Bool}{i j:Int}(a:DP ta)(b:A1 tb (.int j)):Cc (Ct (rI0 λi j=>.bl (g i j)) tb) (g i j) :=
 Zt a b (λH x y Q r1 r2 q=>⟨i,j,r1.of_int,r2.of_int,q⟩) FT
theorem qJ{i j:Int}(a:DP ta)(b:A1 tb (.int j)):Cc (Ct rEq tb) (An i j) :=
 FG (.bl (An i j)) a b (by rw[r1.of_int,r2.of_int];exact⟨rfl,by simpa using q⟩) FT
theorem qK{i j:Int}(a:DP ta)(b:A1 tb (.int j)):Cc (Ct rNe tb) (! An i j) :=
 FG (.bl (! An i j)) a b (by rw[r1.of_int,r2.of_int];exact⟨rfl,by simpa using q⟩) FT
theorem QR{l m:Ae}(a:A1 ta (.str l))(b:A1 tb (.str m)):Cc (Ct rEq tb) (An l m) :=
 FG (.bl (An l m)) a b (by rw[r1.of_str,r2.of_str];exact⟨rfl,by rw[zuv];exact q⟩) FT
theorem zx1{l m:Ae}(a:A1 ta (.str l))(b:A1 tb (.str m)):Cc (Ct rNe tb) (! An l m) :=
 FG (.bl (! An l m)) a b (by rw[r1.of_str,r2.of_str];exact⟨rfl,by rw[zuv];exact q⟩) FT
theorem zxw{l m:Ae}(a:A1 ta (.str l))(b:A1 tb (.str m))(hz:AD (l.length+m.length)) :
  Ay (Ct (λx y H Q=>∃i j,x= .str i/\y= .str j/\AD (i.length+j.length)/\Q (.str (i++j)) H) tb) (.str (l++m)) :=
 FG (Dc (l++m)) a b ⟨_,_,r1.of_str,r2.of_str,by rw[UJ,UJ];exact hz,by rw[yhf];exact q⟩ (λ_ _ _ _ r1 r2=>Rep.str λc hc=>(K9.mp hc).elim (r1.asc c) (r2.asc c))
theorem qL{α:Type}{xs:AK}{i:Int}{x:α}(h:Ab (atI xs i) x):x∈xs:=by
 unfold atI at h;cases hx:ixN xs.length i with
 | none=>rw[hx] at h;cases h
 | some j=>rw[hx] at h;exact KD h
theorem ye2{l:Ae}{i:Int}{c:Nat}(a:A1 ta (.str l))(b:DP tb)(hz:AD l.length)(hc:Ab (atI l i) c):Ay (Ct rIxS tb) (.str [c]) :=
 FG (Dc [c]) a b ⟨_,_,c,r1.of_str,r2.of_int,by rw[UJ];exact hz,by rw[R9];exact hc,q⟩ (λ_ _ _ _ r1 r2=>Rep.str λc' hc'=>by
  rw[K5.mp hc'];exact r1.asc c (qL hc))
theorem Reps.atI{H:Hp}{ds:Ac}{vs:Ai}{i:Int}{d:D}(r:Bc H vs)(h:Ab (L2.atI ds i) d):∃v,Ab (L2.atI vs i) v/\As H d v:=by
 unfold L2.atI at h ⊢;rw[r.length] at h;cases hx:ixN vs.length i with
 | none=>rw[hx] at h;cases h
 | some j=>rw[hx] at h;exact r.get' h
theorem M6{i:Int}(a:EvL K G Hz L ss ta ds)(b:DP tb)(hc:Ab (atI ds i) d):Ay (Ct (rIxL K) tb) d:=λF H σ Q S q =>
 a F H σ _ S λp vs F1 H1 e1 sq r1=>b F1 H1 σ _ Cg λy F2 H2 e2 r2=>by
  obtain⟨v,hv,rv⟩:=r1.atI hc;exact⟨p,vs,i,v,rfl,r2.of_int,SqL.same e2.hh sq,hv,q _ _ _ Cf (rv.mono e2.gf)⟩
theorem W8{i:Int}(a:Ay ta DG)(b:DP tb)(hc:Ab (atI ds i) d):Ay (Ct (rIxT K) tb) d:=λF H σ Q S q =>
 a F H σ _ S λx F1 H1 e1 r1=>b F1 H1 σ _ Cg λy F2 H2 e2 r2=>by
  obtain⟨p,vs,rfl,sq,rs⟩:=r1.of_tup;obtain⟨v,hv,rv⟩:=rs.atI hc;exact⟨p,vs,i,v,rfl,r2.of_int,SqT.same (e1.fh.trans e2.hh) sq,hv,q _ _ _ Cf (rv.mono e2.gf)⟩
theorem Wg:EvA K G Hz L ss tNil []:=λF H σ Q S q=>q _ _ _ DA Reps.nil
theorem UL{t:TA}(a:A1 ta d)(b:EvA K G Hz L ss t ds):EvA K G Hz L ss (Ol ta t) (d::ds):=λF H σ Q S q =>
 a F H σ _ S λx F1 H1 e1 r1=>b F1 H1 σ _ Cg λvs F2 H2 e2 r2=>q _ _ _ Cf (Reps.cons (r1.mono e2.hh) r2)
theorem K4:EvAF K G Hz L ss tNil []:=λF H σ Q S q=>q _ _ _ DA Reps.nil
theorem xA{t:TA}(a:Ay ta d)(b:EvAF K G Hz L ss t ds):EvAF K G Hz L ss (Ol ta t) (d::ds):=λF H σ Q S q =>
 a F H σ _ S λx F1 H1 e1 r1=>b F1 H1 σ _ Cg λvs F2 H2 e2 r2=>q _ _ _ Cf (Reps.cons (r1.mono e2.gf) r2)
theorem QT{t:TA}(a:EvAF K G Hz L ss t ds)(hz:AD ds.length):Ay (tTup t) DG:=λF H σ Q S q =>
 Eo F H σ _ S ⟨by rw[<- r1.length];exact hz,λp hp=>q _ _ _ (e1.newF hp) (Rep.tupN (Ku) (r1.mono (Same.upd (e1.fh.free hp))))⟩
theorem NK{t:TA}(a:EvAF K G Hz L ss t ds)(hz:AD ds.length):EvO K G Hz L ss (tLst t) ds:=λF H σ Q S q =>
 Eo F H σ _ S ⟨by rw[<- r1.length];exact hz,λp hp=>q p vs F1 _ (e1.newO hp) (e1.hh.free hp) (e1.fh.free hp) Ku r1⟩
theorem Lh{b:Bool}(a:Cc t b):EvT K G Hz L ss (yi9 t) b:=λF H σ Q S q=>a F H σ _ S λv F' H' e r=>⟨b,r.of_bl,q _ _ e⟩
theorem Qg{b:Bool}(a:Cc t b):EvT K G Hz L ss (tB t) b:=λF H σ Q S q=>a F H σ _ S λv F' H' e r=>⟨b,r.of_bl,q _ _ e⟩
theorem UT{u:TT}{b:Bool}(a:EvT K G Hz L ss u b):EvT K G Hz L ss (tNot u) (!b):=λF H σ Q S q=>a F H σ _ S λF' H' e=>q _ _ e
theorem qM{u v:TT}{b c:Bool}(a:EvT K G Hz L ss u b)(h:Aa b->EvT K G Hz L ss v c):EvT K G Hz L ss (tAnd u v) (b&&c):=λF H σ Q S q=>a F H σ _ S λF' H' e=>by
 cases b with
 | false=>exact iteF (q _ _ e)
 | true=>exact iteT (h rfl _ _ _ _ (S.ext2 e) λF'' H'' e'=>q _ _ (e.trans e'))
theorem Sd{u v:TT}{b c:Bool}(a:EvT K G Hz L ss u b)(h:AL b->EvT K G Hz L ss v c):EvT K G Hz L ss (tOr u v) (b||c):=λF H σ Q S q=>a F H σ _ S λF' H' e=>by
 cases b with
 | true=>exact iteT (q _ _ e)
 | false=>exact iteF (h rfl _ _ _ _ (S.ext2 e) λF'' H'' e'=>q _ _ (e.trans e'))
theorem zzd{b c:Bool}(a:Cc ta b)(h:Aa b->Cc tb c):Cc (ykp ta tb) (b&&c):=λF H σ Q S q=>a F H σ _ S λv F' H' e r=>by
 refine(Ck b r.of_bl);cases b with
 | false=>exact iteF (q _ _ _ e Rep.bl)
 | true=>exact iteT (h rfl _ _ _ _ (S.ext2 e) λv F'' H'' e' r'=>q _ _ _ (e.trans e') r')
theorem ykn{b:Bool}(a:Cc ta b):Cc (yks ta) (!b):=λF H σ Q S q=>a F H σ _ S λv F' H' e r=>⟨b,r.of_bl,q _ _ _ e Rep.bl⟩
end
noncomputable def SpD(K:Kd)(pre:Aq Ac)(res:Ac->D):Sp:=λvs H Q _=>∃G ds,Same G H/\Bc G vs/\B0 /\ ∀v G' H',CL G H G'->As G' (res ds) v->Q v H'
noncomputable def SpO(K:Kd)(pre:Aq Ac)(res:Ac->Ac):Sp:=λvs H Q _=>∃G ds,Same G H/\Bc G vs/\B0 /\ ∀p ws G' H',CL G H G'->H p=none->G' p=none->Ab (H' p) (.lst ws)->AN G' (res ds) ws->Q Ap H'
noncomputable def D.flat:D->Bool
 | .lst _=>false | .tup _=>false | .dct _ _=>false | .dctT _ _=>false | .ins _ _ _=>false | _=>true
theorem Rep.flat{K:Kd}{H H':Hp}{d:D}{v:V}(f:Aa d.flat)(r:As H d v):As H' d v:=by
 cases d with
 | lst _=>cases f
 | tup _=>cases f
 | dct _ _=>cases f
 | dctT _ _=>cases f
 | ins _ _ _=>cases f
 | non=>rw[r.of_non];exact Rep.non
 | bl b=>rw[r.of_bl];exact Rep.bl
 | int i=>rw[r.of_int];exact Rep.int
 | str l=>rw[r.of_str];exact Rep.str r.asc
section
variable{K:Kd}{G Hz L:Hp}{ss:List Sl}{t:TA}{ds:List D}{pre:List D->Prop}{E:XK}
theorem Sg{res:Ac->D}(a:EvAF K G Hz L ss t ds)(hp:B0):Ay (Qv (SpD K pre res) [] E t) (res ds):=λF H σ Q S q =>
 Eo F H σ _ S ⟨F1,ds,e1.fh,by rw[LR];exact r1,hp,λv G' H' e2 r=>q _ _ _ Cf r⟩
theorem QV{res:Ac->Ac}(a:EvAF K G Hz L ss t ds)(hp:B0):EvO K G Hz L ss (Qv (SpO K pre res) [] E t) (res ds):=λF H σ Q S q =>
 Eo F H σ _ S ⟨F1,ds,e1.fh,by rw[LR];exact r1,hp,λp ws G' H' e2 h1 h2 h3 r=>q _ _ _ _ Cf (e1.hh.free h1) h2 h3 r⟩
end
section
variable(K:Kd)(G Hz L:Hp)
noncomputable def Nx(P:St->A2)(ss:Do):Prop:=∀F H σ,Sat K G Hz L F H σ ss->P σ H
noncomputable def Go(E:Ends)(ss:Do)(t:TS):Prop:=∀F H σ,Sat K G Hz L F H σ ss->t E σ H
noncomputable def Tg(g:TG)(d:D)(ss ss':Do):Prop:=∀F H σ v (Q:St->A2),Sat K G Hz L F H σ ss->As F d v->(∀σ' , Sat K G Hz L F H σ' ss'->Q σ' H)->g v σ H Q
noncomputable def Tgs(g:TGs)(ds:Ac)(ss ss':Do):Prop:=∀F H σ vs (Q:St->A2),Sat K G Hz L F H σ ss->Bc F vs->(∀σ' , Sat K G Hz L F H σ' ss'->Q σ' H)->g vs σ H Q
noncomputable def At(I:Aq Do):St->A2:=λσ H=>∃ss F,Sat K G Hz L F H σ ss/\I ss
end
noncomputable def RtD(K:Kd)(G Hz:Hp)(rt:VK)(d:D):Prop:=∀v F H,Ext G Hz F H->As F d v->rt v H
noncomputable def RtO(K:Kd)(G Hz:Hp)(rt:VK)(ds:Ac):Prop:=∀p vs F H,Ext G Hz F H->Hz p=none->F p=none->Ez p vs->Bc F vs->rt Ap H
section
variable{K:Kd}{G Hz L:Hp}{ss ss':List Sl}{E:Ends}{t u:TS}{te:TE}{d:D}{ds:List D}{P:St->Hp->Prop}
theorem Kp(h:Bx K G L { E with nx:=u E } t):Bx K G L E (tSeq t u):=h
theorem NP{i:Nat}(a:Ay te d)(h:Bw K G L E.nx (Bu (.d d))):Bx K G L E (tAsg te (Ob i)):=λF H σ S=>a F H σ _ S λv F' H' e r=>h F' H' _ ((S.ext2 e).setD r)
theorem Sat.notin{F H:Hp}{σ:St}{p:Addr}(S:Sat K G Hz L F H σ ss)(hp:H p=none)(j:Nat)(s:Sl)(h:AQ ss s):p∉s.ads:=λz=>(S.ok j s h).live z hp
theorem Sat.newO{F H F' H':Hp}{σ:St}{p:Addr}{vs:Ai}{i:Nat}(S:Sat K G Hz L F H σ ss)(e:CL F H F')(hp:H p=none)(fp:F' p=none)(hp':Ab (H' p) (.lst vs))(r:Bc F' vs):Sat K G Hz L F' H' (FM i Ap) (Bu (.o p ds)) :=
 (S.ext2 e).setO ⟨S.ext.hh.free hp,fp,vs,hp',r⟩ λj s _ h=>S.notin hp j s h
theorem MN{i:Nat}(a:EvO K G Hz L ss te ds)(h:∀p,Bw K G L E.nx (Bu (.o p ds))):Bx K G L E (tAsg te (Ob i)):=λF H σ S=>a F H σ _ S λp vs F' H' e hp fp hp' r=>h p F' H' _ (S.newO e hp fp hp' r)
theorem LC{c:TT}{b:Bool}(a:EvT K G Hz L ss c b)(h1:Aa b->Bx K G L E t)(h2:AL b->Bx K G L E u):Bx K G L E (tIfS c t u):=λF H σ S=>a F H σ _ S λF' H' e=>by
 cases b with
 | true=>exact iteT (h1 rfl F' H' σ (S.ext2 e))
 | false=>exact iteF (h2 rfl F' H' σ (S.ext2 e))
theorem Mj(h:Bw K G L E.nx ss):Bx K G L E yh4:=h
theorem MP(a:Ay te d)(h:RtD K G Hz E.rt d):Bx K G L E (tRet te):=λF H σ S=>a F H σ _ S λv F' H' e r=>h v F' H' (S.ext.trans e) r
theorem UV(a:EvO K G Hz L ss te ds)(h:RtO K G Hz E.rt ds):Bx K G L E (tRet te):=λF H σ S=>a F H σ _ S λp vs F' H' e hp fp hp' r=>h p vs F' H' (S.ext.trans e) (S.ext.hh.free hp) fp hp' r
theorem zri{i:Nat}{p:Addr}(hs:Bl (.o p ds))(h:RtO K G Hz E.rt ds):Bx K G L E (tRet (tVar i)):=λF H σ S=>by
 obtain⟨e,h0,fp,vs,hp,r⟩:=S.getO hs;exact⟨Ap,e,h p vs F H S.ext h0 fp hp r⟩
theorem Rn{i:Nat}{p:Addr}(hs:Bl (.o p ds))(h:Bw K G L P (Bu (BE ds))):Bw K G L P ss:=λF H σ S=>by
 obtain⟨F',S'⟩:=S.freeze hs;exact h F' H σ S'
theorem zao(h:Bx K G L E t):Bw K G L (t E) ss:=h
theorem qN{I:Aq Do}(h:I ss):Bw K G L (At K G Hz L I) ss:=λF H σ S=>⟨ss,F,S,h⟩
theorem qO(I:Aq Do)(h1:∀N:St->A2,(∀ss,I ss->Bw K G L N ss)->Bx K G L { E with nx:=N } t)(h2:∀ss,I ss->Bx K G L E u):Bx K G L E (tSeq t u):=h1 _ h2
theorem Ls{i:Nat}:Tg K G Hz L (Ob i) d ss (Bu (.d d)):=λF H σ v Q S r q=>q _ (S.setD r)
theorem Sh:Tgs K G Hz L gNil [] ss ss:=λF H σ vs Q S r q=>by
 rw[Reps] at r;exact⟨r,q _ S⟩
theorem za9{g:TG}{gs:TGs}{ss1 ss2:Do}(a:Tg K G Hz L g d ss ss1)(b:Tgs K G Hz L gs ds ss1 ss2):Tgs K G Hz L (yha g gs) (d::ds) ss ss2:=λF H σ vs Q S r q=>by
 rw[Reps] at r;obtain⟨x,xs,rfl,r1,r2⟩:=r;exact(Bh x xs (a F H σ x _ S r1 λσ' S'=>b F H σ' xs _ S' r2 q))
theorem Sq{g:TGs}{n:Nat}(hn:DJ n)(a:Tgs K G Hz L g ds ss ss'):Tg K G Hz L (gTup K n g) DG ss ss':=λF H σ v Q S r q=>by
 obtain⟨p,xs,rfl,sq,rs⟩:=r.of_tup;exact⟨p,xs,rfl,SqT.same S.ext.fh sq,by rw[<- rs.length];exact hn,a F H σ xs _ S rs q⟩
theorem TX{i:Nat}{p:Addr}{t1:TE}(hs:Bl (.o p ds))(a:Ay t1 d)(hz:Dk ds.length)(h:Bw K G L E.nx (Bu (.o p (ds++[d])))) :
  Bx K G L E (Wd (tBM K "list" zrq (tVar i) (BV t1))):=λF H σ S=>by
 obtain⟨e,h0,fp,vs,hp,r⟩:=S.getO hs;refine⟨Ap,e,.inl ⟨rfl,_,SqL.of hp⟩,a F H σ _ S λv F' H' e' r'=>?_⟩;have S':=S.ext2 e';obtain⟨e2,h02,fp2,vs',hp2,r2⟩:=S'.getO hs;exact⟨p,vs',v,rfl,rfl,hp2,by rw[<- r2.length];exact hz,h F' _ σ (S'.write hs (r2.snoc r'))⟩
theorem Rep.itl{F H:Hp}{p:Addr}(h:Same F H)(r:As F (.lst ds) Ap):∃vs,A8 H p vs/\Bc F vs:=by
 obtain⟨q,xs,e,sq,rs⟩:=r.of_lst;cases e;exact⟨xs,SqL.same h sq,rs⟩
theorem Nt{tl:TE}{g:TG}{tb:TS}{α:Type}(enc:α->D)(xs:AK)(I:Nat->Aq Do)(a:Ay tl (E9 enc))(h0:I 0 ss)
  (hs:∀L' k x ss,Same L L'->AM xs k x->I k ss-> ∃ss',Tg K G Hz L' g (enc x) ss ss' /\ ∀N,(∀ss,I (k+1) ss->Bw K G L' N ss)->Go K G Hz L' { E with nx:=N,ct:=N,bk:=E.nx } ss' tb)
  (hd:∀ss,I xs.length ss->Bw K G L E.nx ss):Bx K G L E (tFor (aN K tl) g tb):=λF H σ S =>
 Ec F H σ _ S (by
  obtain⟨p,vs,rfl,sq,rs⟩:=r1.of_lst;refine⟨p,rfl,⟨vs,SqL.same e1.fh sq⟩,?_⟩;refine(Ck (λi m σ' H'=>m=xs.length - i/\i<=xs.length/\At K G Hz F1 (I i) σ' H') ⟨_,rfl,BM,ss,F1,(Cg).raise,h0⟩);rintro i m σ' H' ⟨rfl,hi,ss1,F2,S2,h2⟩;have rp:As F2 (E9 enc) Ap:=r1.mono S2.fl;obtain⟨ws,sq2,rs2⟩:=rp.itl S2.ext.fh;have hlen:ws.length=xs.length:=by rw[<- rs2.length,Kg]
  by_cases hlt:i<xs.length
  .refine .inr ⟨⟨ws,EN ws i,sq2,Kv _⟩,λσ'' H''=>At K G Hz F1 (I (i+1)) σ'' H'',λσ'' H'' h=>(BH (xs.length - (i+1)) (by lia) hlt h),λx H'' y=>?_⟩;obtain⟨rfl,y⟩:=y;have hx:=y ws sq2;obtain⟨dx,hdx,rx⟩:=rs2.get hx;rw[KR,Kv hlt] at hdx;cases hdx;obtain⟨ss',tg,go⟩:=hs F1 i _ ss1 (S.fl.trans e1.gf) (Kv hlt) h2;exact tg F2 _ σ' x _ S2 rx λσ3 S3=>go _ (λss h=>qN h) F2 _ σ3 S3
  .have e:i=xs.length:=by lia
   subst e;exact .inl ⟨⟨ws,sq2,by lia⟩,hd ss1 h2 F2 H' σ' (S2.lower (S.fl.trans e1.gf))⟩)
theorem Yk{ta:TA}{j:Nat}{tb:TS}{n:Int}(I:Nat->Aq Do)(a:EvA K G Hz L ss ta [.int n])(hb : -(2 ^ 62)<=n/\n<2 ^ 62)(h0:I 0 ss)
  (hs:∀(k:Nat) ss,(k:Int)<n->I k ss-> ∀N,(∀ss,I (k+1) ss->Bw K G L N ss)->Go K G Hz L { E with nx:=N,ct:=N,bk:=E.nx } (ss.set j (A3 (k:Int))) tb)
  (hd:∀ss,I n.toNat ss->Bw K G L E.nx ss) {ti:TI} (hti:∀σ H R,(ta σ H λvs H1=>∃m:Int,vs=[.int m] /\ -(2 ^ 62)<=m/\m<2 ^ 62/\R (Itr 0 m.toNat) H1)->ti σ H R):Bx K G L E (tFor ti (Ob j) tb):=λF H σ S=>by
 refine hti σ H _ (Eo F H σ _ S ?_);rw[Reps] at r1;obtain⟨x,r,rfl,rx,r1⟩:=r1;rw[Reps] at r1;subst r1;rw[rx.of_int];refine⟨n,rfl,hb.1,hb.2,λi m σ' H'=>m=n.toNat - i/\i<=n.toNat/\At K G Hz L (I i) σ' H',⟨_,rfl,BM,ss,F1,Cg,h0⟩,?_⟩;rintro i m σ' H' ⟨rfl,hi,ss1,F2,S2,h2⟩;by_cases hlt:i<n.toNat
 .refine .inr ⟨hlt,λσ'' H''=>At K G Hz L (I (i+1)) σ'' H'',λσ'' H'' h=>(BH (n.toNat - (i+1)) (by lia) hlt h),λx H'' y=>?_⟩;obtain⟨rfl,rfl⟩:=y;refine hs i ss1 (by omega) h2 _ (λss h=>qN h) F2 _ _ ?_;have e:(0:Int)+(i:Int)=(i:Int):=by lia
  rw[e];exact S2.setD Rep.int
 .have e:i=n.toNat:=by lia
  subst e;exact .inl ⟨Az,hd ss1 h2 F2 H' σ' S2⟩
end
mutual
noncomputable def D.toP:D->Zj5
 | .non=>.none
 | .bl b=>.bool b
 | .int i=>Ca
 | .str l=>Dc l
 | .lst a=>.list (D.toPs a)
 | .tup a=>.tuple (D.toPs a)
 | .dct _ _=>.none
 | .dctT _ _=>.none
 | .ins _ _ _=>.none
noncomputable def D.toPs:Ac->List Zj5
 | []=>[]
 | a::x=>a.toP::D.toPs x
end
mutual
theorem D.toP_depth:∀d:D,d.toP.depth=d.dep
 | .non=>rfl
 | .bl _=>rfl
 | .int _=>rfl
 | .str _=>rfl
 | .lst a=>by simp[D.toP,Zw1,D.dep,D.toPs_depth a]
 | .tup a=>by simp[D.toP,Zw1,D.dep,D.toPs_depth a]
 | .dct _ _=>rfl
 | .dctT _ _=>rfl
 | .ins _ _ _=>rfl
theorem D.toPs_depth:∀a:Ac,Zve (D.toPs a)=D.deps a
 | []=>rfl
 | d::a=>by simp[D.toPs,Zve,D.deps,D.toP_depth d,D.toPs_depth a]
end
mutual
theorem D.eqv:∀d e:D,Aa d.nb->Aa e.nb->Rk d.toP e.toP=An d e
 | .non,e,_,h2=>by cases e <;> simp[D.toP,Rk,D.nb] at h2 ⊢
 | .bl _,_,h1,_=>by simp[D.nb] at h1
 | .dct _ _,_,h1,_=>by simp[D.nb] at h1
 | .dctT _ _,_,h1,_=>by simp[D.nb] at h1
 | .ins _ _ _,_,h1,_=>by simp[D.nb] at h1
 | .int i,e,_,h2=>by
  cases e <;> simp[D.toP,Rk,D.nb] at h2 ⊢;exact Bool.beq_eq_decide_eq _ _
 | .str l,e,_,h2=>by
  cases e <;> simp[D.toP,Rk,D.nb] at h2 ⊢;rename_i m;rw[LK];simp[aQ]
 | .lst a,e,h1,h2=>by
  cases e with
  | lst b =>
   simp only[D.nb] at h1 h2;simp only[D.toP,Rk,D.lst.injEq];exact D.eqvs a b h1 h2
  | _=>simp[D.toP,Rk,D.nb] at h2 ⊢
 | .tup a,e,h1,h2=>by
  cases e with
  | tup b =>
   simp only[D.nb] at h1 h2;simp only[D.toP,Rk,D.tup.injEq];exact D.eqvs a b h1 h2
  | _=>simp[D.toP,Rk,D.nb] at h2 ⊢
theorem D.eqvs:∀a b:Ac,Aa (D.nbs a)->Aa (D.nbs b)->pC (D.toPs a) (D.toPs b)=An a b
 | [],b,_,_=>by cases b <;> simp[D.toPs,pC]
 | d::a,b,h1,h2=>by
  cases b with
  | nil=>simp[D.toPs,pC]
  | cons e b =>
   simp only[D.nbs,Lk] at h1 h2;simp only[D.toPs,pC,D.eqv d e h1.1 h2.1,D.eqvs a b h1.2 h2.2,QF];by_cases x:d=e <;> by_cases y:a=b <;> simp[x,y]
end
section
variable{X:Cx}{pins:List (Addr×Obj)}{σ:St}{H:Hp}{s:Ke}
theorem yhr{l:Ae}(h:∀c∈l,c<128):Aa (Zw0 (T l)):=by
 unfold Zw0 T;simp;intro c hc;have:=h c hc;lia
mutual
theorem Inv.reads(I:Ak):∀{d:D} {v:V} {u:Ka},Aa d.nb->Rep X.K H d v->Bi v->(∃as,Yaz s.heap u d.toP as)/\Aa d.toP.canLay0
 | .non,_,_,_,r,q=>by rw[r.of_non] at q;cases q;exact⟨⟨_,Reads.none⟩,rfl⟩
 | .bl b,_,_,n,_,_=>by simp[D.nb] at n
 | .dct _ _,_,_,n,_,_=>by simp[D.nb] at n
 | .dctT _ _,_,_,n,_,_=>by simp[D.nb] at n
 | .ins _ _ _,_,_,n,_,_=>by simp[D.nb] at n
 | .int i,_,_,_,r,q=>by rw[r.of_int] at q;obtain⟨t,rfl⟩:=q;exact⟨⟨_,Reads.int i t⟩,rfl⟩
 | .str l,_,_,_,r,q=>by
  have ha:=r.asc;rw[r.of_str] at q;obtain⟨t,rfl⟩:=q;exact⟨(Bb (Reads.str _ t)),yhr ha⟩
 | .lst ds,_,_,nn,r,q=>by
  obtain⟨p,xs,rfl,sq,rs⟩:=r.of_lst;cases q;obtain⟨its,rv,⟨o,n,e,c,_,hd⟩,_⟩:=I.list sq;obtain⟨⟨as,ra⟩,hc⟩:=I.readsAll (by simpa[D.nb] using nn) rs rv;exact⟨(Bb (Reads.list e c hd (by simpa using ra))),by simpa[D.toP,XX] using hc⟩
 | .tup ds,_,_,nn,r,q=>by
  obtain⟨p,xs,rfl,sq,rs⟩:=r.of_tup;cases q;obtain⟨its,rv,⟨o,e,c,n,hd⟩,_⟩:=I.tuple sq;obtain⟨⟨as,ra⟩,hc⟩:=I.readsAll (by simpa[D.nb] using nn) rs rv;exact⟨(Bb (Reads.tuple e c hd (by simpa using ra))),by simpa[D.toP,XX] using hc⟩
theorem Inv.readsAll(I:Ak):∀{ds:Ac} {vs:Ai} {us:Am},Aa (D.nbs ds)->Reps X.K H ds vs->BY vs->(∃as,Yay s.heap us (D.toPs ds) as)/\Aa (Zuf (D.toPs ds))
 | [],_,_,_,r,q=>by
  rw[Reps] at r;subst r;cases q;exact(AY (Bb ReadsAll.nil))
 | d::ds,_,_,n,r,q=>by
  simp only[D.nbs,Lk] at n;rw[Reps] at r;obtain⟨x,xs,rfl,r1,r2⟩:=r;cases q with
  | cons q1 q2 =>
   obtain⟨⟨as,a⟩,hc⟩:=I.reads n.1 r1 q1;obtain⟨⟨bs,b⟩,hc2⟩:=I.readsAll n.2 r2 q2;exact⟨(Bb (ReadsAll.cons a b)),by simp[D.toPs,Zuf,hc,hc2]⟩
end
end
noncomputable def rEqD(K:Kd):R2:=λx y H Q=>∃d e,As H d x/\As H e y/\Aa d.nb/\Aa e.nb/\d.dep<=60/\Q (.bl (An d e)) H
noncomputable def rNeD(K:Kd):R2:=λx y H Q=>∃d e,As H d x/\As H e y/\Aa d.nb/\Aa e.nb/\d.dep<=60/\Q (.bl (! An d e)) H
section
variable{X:Cx}
theorem yii(hu:X.A.units+64<Ln):OpR X (PX .Eq) (rEqD X.K):=by
 intro pins s σ H x y v u Q I rx ry h;obtain⟨d,e,r1,r2,n1,n2,hd,q⟩:=h;obtain⟨⟨as,a⟩,c1⟩:=I.reads n1 r1 rx;obtain⟨⟨bs,b⟩,c2⟩:=I.reads n2 r2 ry;have h1:=D.toP_depth d;refine SeqAt.compareEq_reads a b c1 c2 (by lia) ?_;rw[D.eqv d e n1 n2];exact(Bj (.bl _) H I q)
theorem ykf(hu:X.A.units+64<Ln):OpR X (PX .NotEq) (rNeD X.K):=by
 intro pins s σ H x y v u Q I rx ry h;obtain⟨d,e,r1,r2,n1,n2,hd,q⟩:=h;obtain⟨⟨as,a⟩,c1⟩:=I.reads n1 r1 rx;obtain⟨⟨bs,b⟩,c2⟩:=I.reads n2 r2 ry;have h1:=D.toP_depth d;refine SeqAt.compareNe_reads a b c1 c2 (by lia) ?_;rw[D.eqv d e n1 n2];exact(Bj (.bl _) H I q)
theorem znx(d:D)(hd:Aa d.nb):∀ds:Ac,Aa (D.nbs ds)->((D.toPs ds).any λy=>Rk y d.toP)=Bg d ds
 | [],_=>by simp[D.toPs]
 | e::ds,h=>by
  simp only[D.nbs,Lk] at h;rw[D.toPs,RV,znx d hd ds h.2,D.eqv e d h.1 hd];by_cases x:e=d;.subst x;simp
  .have:¬ d=e:=λz=>x z.symm;simp[x,this]
noncomputable def rInD(K:Kd)(neg:Bool):R2:=λx y H Q=>∃d ds,As H d x/\(As H (.lst ds) y\/As H DG y)/\Aa d.nb/\Aa (D.nbs ds)/\d.dep<=60/\Q (.bl (if neg then ! Bg d ds else Bg d ds)) H
theorem Yl(hu:X.A.units+64<Ln):OpR X (PX .In) (rInD X.K false):=by
 intro pins s σ H x y v u Q I rx ry h;obtain⟨d,ds,r1,r2,n1,n2,hd,q⟩:=h;obtain⟨⟨as,a⟩,c1⟩:=I.reads n1 r1 rx;have h1:=D.toP_depth d;have fin:EP X pins σ Q (.bool ((D.toPs ds).any λy=>Rk y d.toP)) s:=by rw[znx d n1 ds n2];exact⟨.bl _,H,I,rfl,q⟩
 rcases r2 with r2 | r2
 .obtain⟨⟨bs,b⟩,c2⟩:=I.reads (by simpa[D.nb] using n2) r2 ry;rw[D.toP] at b c2;exact SeqAt.in_list_reads b a (by simpa[XX] using c2) c1 (by lia) fin
 .obtain⟨⟨bs,b⟩,c2⟩:=I.reads (by simpa[D.nb] using n2) r2 ry;rw[D.toP] at b c2;exact SeqAt.in_tuple_reads b a (by simpa[XX] using c2) c1 (by lia) fin
theorem zl4(hu:X.A.units+64<Ln):OpR X (PX .NotIn) (rInD X.K true):=by
 intro pins s σ H x y v u Q I rx ry h;obtain⟨d,ds,r1,r2,n1,n2,hd,q⟩:=h;obtain⟨⟨as,a⟩,c1⟩:=I.reads n1 r1 rx;have h1:=D.toP_depth d;have fin:EP X pins σ Q (.bool (!(D.toPs ds).any λy=>Rk y d.toP)) s:=by rw[znx d n1 ds n2];exact⟨.bl _,H,I,rfl,q⟩
 rcases r2 with r2 | r2
 .obtain⟨⟨bs,b⟩,c2⟩:=I.reads (by simpa[D.nb] using n2) r2 ry;rw[D.toP] at b c2;exact SeqAt.notIn_list_reads b a (by simpa[XX] using c2) c1 (by lia) fin
 .obtain⟨⟨bs,b⟩,c2⟩:=I.reads (by simpa[D.nb] using n2) r2 ry;rw[D.toP] at b c2;exact SeqAt.notIn_tuple_reads b a (by simpa[XX] using c2) c1 (by lia) fin
end
section
variable{K:Kd}{G Hz L:Hp}{ss:List Sl}{t ta tb:TE}{d d1 d2:D}{ds es:List D}
theorem yj1(a:A1 ta d1)(b:A1 tb d2)(n1:Aa d1.nb)(n2:Aa d2.nb)(hd:d1.dep<=60):Cc (Ct (rEqD K) tb) (An d1 d2) :=
 FG (.bl (An d1 d2)) a b ⟨d1,d2,r1,r2,n1,n2,hd,q⟩ FT
theorem yis(a:A1 ta d1)(b:A1 tb d2)(n1:Aa d1.nb)(n2:Aa d2.nb)(hd:d1.dep<=60):Cc (Ct (rNeD K) tb) (! An d1 d2) :=
 FG (.bl (! An d1 d2)) a b ⟨d1,d2,r1,r2,n1,n2,hd,q⟩ FT
theorem qP(a:A1 ta d)(b:A1 tb (.lst ds))(n1:Aa d.nb)(n2:Aa (D.nbs ds))(hd:d.dep<=60):Cc (Ct (rInD K false) tb) (Bg d ds) :=
 FG (.bl (Bg d ds)) a b ⟨d,ds,r1,.inl r2,n1,n2,hd,q⟩ FT
theorem ye4(a:A1 ta d)(b:A1 tb DG)(n1:Aa d.nb)(n2:Aa (D.nbs ds))(hd:d.dep<=60):Cc (Ct (rInD K false) tb) (Bg d ds) :=
 FG (.bl (Bg d ds)) a b ⟨d,ds,r1,.inr r2,n1,n2,hd,q⟩ FT
theorem zk4(a:A1 ta d)(b:A1 tb (.lst ds))(n1:Aa d.nb)(n2:Aa (D.nbs ds))(hd:d.dep<=60):Cc (Ct (rInD K true) tb) (! Bg d ds) :=
 FG (.bl (! Bg d ds)) a b ⟨d,ds,r1,.inl r2,n1,n2,hd,q⟩ FT
end
theorem D.nbs_map{α:Type}{enc:α->D}(h:∀x,Aa (enc x).nb):∀xs:AK,Aa (D.nbs (xs.map enc))
 | []=>rfl
 | x::xs=>by simp[D.nbs,h x,D.nbs_map h xs]
theorem D.deps_map{α:Type}{enc:α->D}{n:Nat}(h:∀x,(enc x).dep<=n):∀xs:AK,D.deps (xs.map enc)<=n
 | []=>BM
 | x::xs=>by
  have h1:=h x;have h2:=D.deps_map h xs;simp only[Kq,D.deps];lia
theorem D.nb_lst{ds:Ac}:(D.lst ds).nb=D.nbs ds:=by rw[D.nb]
theorem D.dep_lst{ds:Ac}:(D.lst ds).dep=D.deps ds+1:=by rw[D.dep]
noncomputable def ItOk(K:Kd)(J:It)(F' H':Hp)(n:Nat)(y:Nat->D):Prop:=∀F2 H2,Same F' F2->Same H' H2->Same F2 H2 ->
 (∀i,i<n->J.go i H2 /\ ∀x H3,J.yld i H2 x H3-> ∃F3,Ext F2 H2 F3 H3/\As F3 (y i) x)/\J.stop n H2
noncomputable def EvI(K:Kd)(G Hz L:Hp)(ss:Do)(wi:TI)(n:Nat)(y:Nat->D):Prop:=∀F H σ R,Sat K G Hz L F H σ ss->(∀F' H' J,CL F H F'->ItOk K J F' H' n y->R J H')->wi σ H R
section
variable{K:Kd}{G Hz L:Hp}{ss:List Sl}
theorem zsv{tl:TE}{ds:Ac}(a:EvL K G Hz L ss tl ds):EvI K G Hz L ss (aN K tl) ds.length λi=>CG i:=λF H σ R S q =>
 a F H σ _ S λp vs F' H' e sq r=>⟨p,rfl,⟨vs,sq⟩,q F' H' _ e λF2 H2 f1 h1 fh=>by
  have sq2:=SqL.same h1 sq;have hl:=r.length;refine⟨λi hi=>⟨⟨vs,EN vs i,sq2,Kv _⟩,λx H3 y=>?_⟩,⟨vs,sq2,by lia⟩⟩;obtain⟨rfl,y⟩:=y;obtain⟨d,hd,rd⟩:=r.get (y vs sq2);refine(Ck F2 (Ext.refl fh));show As F2 (ds.getD i D.non) x;rw[Kz,hd];exact rd.mono f1⟩
theorem yh2{tl:TE}{ds:Ac}(a:Ay tl DG):EvI K G Hz L ss (iTup K tl) ds.length λi=>CG i:=λF H σ R S q =>
 a F H σ _ S λv F' H' e r=>by
  obtain⟨p,vs,rfl,sq,r⟩:=r.of_tup;refine⟨p,rfl,⟨vs,SqT.same e.fh sq⟩,q F' H' _ e λF2 H2 f1 h1 fh=>?_⟩;have sq2:=SqT.same (f1.trans fh) sq;have hl:=r.length;refine⟨λi hi=>⟨⟨vs,EN vs i,sq2,Kv _⟩,λx H3 y=>?_⟩,⟨vs,sq2,by lia⟩⟩;obtain⟨rfl,y⟩:=y;obtain⟨d,hd,rd⟩:=r.get (y vs sq2);refine(Ck F2 (Ext.refl fh));show As F2 (ds.getD i D.non) x;rw[Kz,hd];exact rd.mono f1
noncomputable def lcSl(nt:Nat)(cs:Ae)(ss:Do):Do:=mG nt .un++cs.map λi=>ss.getD i .un
theorem Sat.lc{F H:Hp}{σ:St}{nt:Nat}{cs:Ae}(S:Sat K G Hz L F H σ ss)(hc:cs.Nodup):Sat K G Hz L F H (lcS nt cs σ) (lcSl nt cs ss):=by
 have cut:∀(i:Nat) s,Ah (lcSl nt cs ss) s->s= .un \/ ∃j,nt<=i/\AM cs (i - nt) j/\AQ ss s:=by
  intro i s h;unfold lcSl at h;by_cases hi:i<nt
  .rw[Qz (by simpa using hi),lK,if_pos hi] at h;exact .inl (PP h).symm
  .rw[SN (by simpa using hi),lR,KR] at h;cases hj:cs[i - nt]? with
   | none=>rw[hj] at h;cases h
   | some j =>
    rw[hj] at h;have h:ss.getD j .un=s:=PP h;rw[Kz] at h;cases hs:ss[j]? with
    | none=>rw[hs] at h;exact .inl h.symm
    | some s'=>rw[hs] at h;exact .inr (Bh j (by lia) (by rw[hs];exact congrArg some h))
 have val:∀(i j:Nat),nt<=i->AM cs (i - nt) j->(lcS nt cs σ).getD i none=EV j:=by
  intro i j hi hj;unfold lcS;rw[Kz,SN (by simpa using hi),lR,KR,hj];simp[Kz]
 refine⟨S.ext,S.fl,by unfold lcS lcSl;simp,λi s h=>?_,λi s h=>?_,λi j s s' hij h h' p hp=>?_⟩
 .rcases cut i s h with rfl | ⟨j,hi,hj,hs⟩;.trivial
  .rw[val i j hi hj];exact S.ok j s hs
 .rcases cut i s h with rfl | ⟨j,hi,hj,hs⟩;.simp[Sl.ads]
  .exact S.nd j s hs
 .rcases cut i s h with rfl | ⟨k,hi,hk,hs⟩;.simp[Sl.ads] at hp
  .rcases cut j s' h' with rfl | ⟨m,hj,hm,hs'⟩;.simp[Sl.ads]
   .have:k≠m:=λz=>by
     subst z;obtain⟨l1,e1⟩:=Mg.mp hk;obtain⟨l2,e2⟩:=Mg.mp hm;have:=(Zv7 hc).mp (e1.trans e2.symm);lia
    exact S.ne k m s s' this hs hs' p hp
noncomputable def GK(nt:Nat)(g:TG):Prop:=∀v σ H (Q Q':St->A2),(∀σ' H',Q σ' H'->σ'.length=σ.length->σ'.drop nt=σ.drop nt->Q' σ' H')->g v σ H Q->g v σ H Q'
noncomputable def GKs(nt:Nat)(g:TGs):Prop:=∀v σ H (Q Q':St->A2),(∀σ' H',Q σ' H'->σ'.length=σ.length->σ'.drop nt=σ.drop nt->Q' σ' H')->g v σ H Q->g v σ H Q'
theorem zb6{nt i:Nat}(h:i<nt):GK nt (Ob i):=λv σ H Q Q' f q=>f _ _ q (by simp) (by rw[List.drop_set_of_lt h])
theorem zrx{nt:Nat}:GKs nt gNil:=λv σ H Q Q' f q=>⟨q.1,f _ _ q.2 rfl rfl⟩
theorem Ym{nt:Nat}{g:TG}{gs:TGs}(a:GK nt g)(b:GKs nt gs):GKs nt (yha g gs):=λvs σ H Q Q' f q=>by
 obtain⟨v,r,e,q⟩:=q;exact⟨v,r,e,a v σ H _ _ (λσ' H' q1 l1 d1=>b r σ' H' Q Q' (λσ'' H'' q2 l2 d2=>f _ _ q2 (l2.trans l1) (d2.trans d1)) q1) q⟩
theorem zy5{nt n:Nat}{gs:TGs}(b:GKs nt gs):GK nt (gTup K n gs):=λv σ H Q Q' f q=>by
 obtain⟨a,xs,e,sq,hn,q⟩:=q;exact⟨a,xs,e,sq,hn,b xs σ H Q Q' f q⟩
theorem zsk{wi:TI}{g:TG}{tt:TT}{te:TE}{nt:Nat}{cs:Ae}{n:Nat}{y:Nat->D}(p:Nat->Bool)(f:Nat->D)(a:EvI K G Hz L ss wi n y)(hk:GK nt g)(hc:cs.Nodup)(hz:Dk n)
  (hs:∀i,i<n-> ∃ss',Tg K G Hz L g (y i) (lcSl nt cs ss) ss'/\EvT K G Hz L ss' tt (p i)/\(Aa (p i)->Ev K G Hz L ss' te (f i))) :
  EvO K G Hz L ss (tLC nt cs wi g tt te) (EZ (K6 n) p f):=λF H σ Q S q =>
 a F H σ _ S λF1 H1 J e1 it=>by
  intro l hl;have S1:=Cg;refine⟨λi m H2=>m=n - i/\i<=n /\ ∃F2 vs,Ext F1 H1 F2 H2/\F2 l=none/\Ab (H2 l) (.lst vs)/\AN F2 (EZ (K6 i) p f) vs/\GU i,
   ⟨n,by lia,BM,F1,[],(Ext.refl e1.fh).newO hl,e1.fh.free hl,Ku,Reps.nil,Az⟩,?_⟩;rintro i m H2 ⟨rfl,hi,F2,vs,e2,fl,hl2,rs,hvs⟩;obtain⟨it1,it2⟩:=it F2 H2 e2.gf e2.hh e2.fh;by_cases hlt:i<n
  .obtain⟨go,yl⟩:=it1 i hlt;refine .inr ⟨go,λH'=>∃F2 vs,CL F1 H1 F2/\F2 l=none/\Ab (H' l) (.lst vs)/\AN F2 (EZ (K6 (i+1)) p f) vs/\GU (i+1),λH' h=>(BH (n - (i+1)) (by omega) hlt h),λx H3 yx=>?_⟩;obtain⟨F3,e3,rx⟩:=yl x H3 yx;obtain⟨ss',tg,evt,ev⟩:=hs i hlt;have S3:=((S1.ext2 e2).ext2 e3).lc (nt:=nt) hc;have hl3:Ab (H3 l) (.lst vs):=e3.hh l _ hl2;have fl3:F3 l=none:=(e3.no l _ hl2 trivial).trans fl;have base:=tg F3 H3 (lcS nt cs σ) x (λσ2 H4=>H4=H3/\Sat K G Hz L F3 H3 σ2 ss') S3 rx λσ' S'=>(CW S');have fin:∀σ2,Sat K G Hz L F3 H3 σ2 ss'->tt σ2 H3 λb H5=>Ds b (te σ2 H5 λy H6=>∃xs,Ab (H6 l) (.lst xs)/\Dk xs.length/\(∃F2 vs,Ext F1 H1 F2 (BX H6 l (xs++[y]))/\F2 l=none/\Ab ((BX H6 l (xs++[y])) l) (.lst vs)/\AN F2 (EZ (K6 (i+1)) p f) vs/\GU (i+1))) (∃F2 vs,Ext F1 H1 F2 H5/\F2 l=none/\Ab (H5 l) (.lst vs)/\AN F2 (EZ (K6 (i+1)) p f) vs/\GU (i+1)):=λσ2 S2=>by
    refine evt F3 H3 σ2 _ S2 λF5 H5 e5=>?_;have S5:=S2.ext2 e5;have hl5:Ab (H5 l) (.lst vs):=e5.hh l _ hl3;have fl5:F5 l=none:=(e5.no l _ hl3 trivial).trans fl3;have gf:Same F2 F5:=e3.gf.trans e5.gf;cases hp:p i with
    | false =>
     refine iteF ⟨F5,vs,(e2.trans e3).trans e5,fl5,hl5,?_,by lia⟩;rw[SX,RL,mD,hp];simpa using rs.mono gf
    | true =>
     refine iteT (ev hp F5 H5 σ2 _ S5 λv F6 H6 e6 rv=>?_);have hl6:Ab (H6 l) (.lst vs):=e6.hh l _ hl5;have fl6:F6 l=none:=(e6.no l _ hl5 trivial).trans fl5;refine⟨vs,hl6,by lia,F6,vs++[v],(((e2.trans e3).trans e5).trans e6).write fl6 hl,fl6,Ku,?_,by simp;omega⟩;rw[SX,RL,mD,hp,BR,LQ];exact(rs.mono (gf.trans e6.gf)).snoc rv
   refine hk x (lcS nt cs σ) H3 _ _ (λσ2 H4 h l1 d1=>?_) base;obtain⟨rfl,S2⟩:=h;exact⟨⟨by rw[l1];unfold lcS;simp,d1⟩,fin σ2 S2⟩
  .have e:i=n:=by lia
   subst e;exact .inl ⟨it2,q l vs F2 H2 Cf (e1.hh.free hl) fl hl2 rs⟩
end
end L2
namespace L2
open PySem PySem.W PyProof.Rows
noncomputable def runT{α:Type}(lt:Nat->Nat->Bool):KasT α->α
 | .ret a=>a
 | .ask i j k=>runT lt (k (lt i j))
theorem Yn{α β:Type}(lt:Nat->Nat->Bool)(f:α->KasT β):∀t:KasT α,runT lt (t.bind f)=runT lt (f (runT lt t))
 | .ret _=>rfl
 | .ask i j k=>Yn lt f (k (lt i j))
section
variable(key:Nat->Int)
noncomputable def ltK(i j:Nat):Bool:=AF (key i) (key j)
noncomputable def kk(p:A9)(i:Nat):Int:=key (CI i)
noncomputable def Up(p:A9)(n:Nat):Prop:=∀i j,i<=j->j<n->Ba i<=Ba j
noncomputable def Dn(p:A9)(n:Nat):Prop:=∀i j,i<=j->j<n->Ba j<=Ba i
variable{key}
theorem yix(p:A9):Up key p 1:=λi j h1 h2=>by
 have:i=j:=by lia
 subst this;exact Vv _
theorem Up.snoc{p:A9}{n:Nat}(h:Up key p n)(h0:0<n)(hn:Ba (n - 1)<=Ba n):Up key p (n+1):=λi j h1 h2=>by
 by_cases hj:j<n;.exact h i j h1 hj
 .have:j=n:=by lia
  subst this;by_cases hi:i=j;.subst hi;exact Vv _
  .exact lE (h i (j - 1) (by lia) (by omega)) hn
theorem Dn.snoc{p:A9}{n:Nat}(h:Dn key p n)(h0:0<n)(hn:Ba n<=Ba (n - 1)):Dn key p (n+1):=λi j h1 h2=>by
 by_cases hj:j<n;.exact h i j h1 hj
 .have:j=n:=by lia
  subst this;by_cases hi:i=j;.subst hi;exact Vv _
  .exact lE hn (h i (j - 1) (by lia) (by omega))
theorem zrs(p:A9):∀(f n:Nat),0<n->Up key p n->n<=C7 (kas_asc p f n)/\C7 (kas_asc p f n)<=n+f/\Up key p (C7 (kas_asc p f n)) /\
  (C7 (kas_asc p f n)<n+f->Ba (C7 (kas_asc p f n))<Ba (C7 (kas_asc p f n) - 1))
 | 0,n,h0,h=>⟨Az,Az,h,λz=>Fl z _⟩
 | f+1,n,h0,h=>by
  have e0:C7 (kas_asc p (f+1) n)=if Ba n<Ba (n - 1) then n else C7 (kas_asc p f (n+1)):=by
   show C7 (Ds (ltK key (CI n) (CI (n - 1))) (KasT.ret n) (kas_asc p f (n+1)))=_;by_cases hc:Ba n<Ba (n - 1)
   .have e:Aa (ltK key (CI n) (CI (n - 1))):=decide_eq_true hc;rw[e,BR,Ff];rfl
   .have e:AL (ltK key (CI n) (CI (n - 1))):=decide_eq_false hc;rw[e,if_neg Mh,E2]
  rw[e0];by_cases hc:Ba n<Ba (n - 1)
  .rw[Ff];exact⟨Az,by lia,h,λ_=>hc⟩
  .rw[E2];have:=zrs p f (n+1) (by lia) (h.snoc h0 (by lia));exact⟨by lia,by lia,this.2.2.1,λz=>this.2.2.2 (by omega)⟩
theorem zs9{p:A9}{i j:Nat}(hj:j<=p.size)(k:Nat):(kas_rev p i j).getD k 0=if i<=k/\k<j then CI (i+j - 1 - k) else CI k:=by
 have h:=getElem?_mirror_all (xs:=p) (i:=i) hj k;unfold kas_rev;have e:∀(q:A9) (m:Nat),q.getD m 0=(q[m]?).getD 0:=λq m=>by simp[Vs]
 rw[e,e,e,h];split <;> rfl
theorem Wh(p:A9)(i j:Nat):(kas_rev p i j).size=p.size:=mirror_size _ _ _ _
theorem qQ(p:A9)(i j:Nat):(kas_rev p i j).Perm p:=mirror_perm _ _ _ _
theorem zhs{p:A9}{i j:Nat}(hj:j<=p.size){c:Int}(hc:∀k,i<=k->k<j->Ba k=c)(k:Nat):kk key (kas_rev p i j) k=Ba k:=by
 unfold kk;rw[zs9 hj];split
 .rename_i h;have h1:=hc (i+j - 1 - k) (by omega) (by omega);have h2:=hc k h.1 h.2;unfold kk at h1 h2;rw[h1,h2]
 .rfl
theorem zmw{p:A9}{n:Nat}(hn:n<=p.size)(k:Nat)(hk:k<n):kk key (kas_rev p 0 n) k=Ba (n - 1 - k):=by
 unfold kk;rw[zs9 hn,if_pos ⟨BM,hk⟩,show 0+n - 1 - k=n - 1 - k by lia]
theorem Dn.rev{p:A9}{n:Nat}(h:Dn key p n)(hn:n<=p.size):Up key (kas_rev p 0 n) n:=λi j h1 h2=>by
 rw[zmw hn i (by lia),zmw hn j h2];exact h _ _ (by omega) (by omega)
theorem qR:∀(f:Nat) (p:A9) (n q:Nat),0<n->q<n->n+f<=p.size->Dn key p n->(∀k,n - 1 - q<=k->k<n->Ba k=Ba (n - 1)) ->
  ∃p' n' q',C7 (kas_desc f p n q)=(p',n',q')/\p'.size=p.size/\p'.Perm p/\n<=n'/\n'<=n+f/\q'<n'/\Dn key p' n'/\(∀k,n' - 1 - q'<=k->k<n'->kk key p' k=kk key p' (n' - 1))
 | 0,p,n,q,h0,hq,hs,hd,he=>⟨p,n,q,rfl,rfl,Zw _,Az,Az,hq,hd,he⟩
 | f+1,p,n,q,h0,hq,hs,hd,he=>by
  unfold kas_desc;simp only[runT];by_cases hc:Ba n<Ba (n - 1)
  .have e:Aa (ltK key (CI n) (CI (n - 1))):=decide_eq_true hc;rw[e,BR];by_cases hq0:q>0
   .rw[if_pos hq0];have ks:=zhs (key:=key) (p:=p) (i:=n - (q+1)) (j:=n) (by lia) (c:=Ba (n - 1)) (λk h1 h2=>he k (by lia) h2);have hd':Dn key (kas_rev p (n - (q+1)) n) (n+1):=by
     intro i j h1 h2;rw[ks,ks];exact(hd.snoc h0 (lG hc)) i j h1 h2
    obtain⟨p',n',q',e1,e2,e3,e4,e5,e6,e7,e8⟩:=qR f (kas_rev p (n - (q+1)) n) (n+1) 0 (by lia) (by lia) (by rw[Wh];lia) hd' (λk h1 h2=>by
     have:k=n+1 - 1:=by lia
     rw[this]);exact⟨p',n',q',e1,by rw[e2,Wh],e3.trans (qQ _ _ _),by lia,by lia,e6,e7,e8⟩
   .rw[if_neg hq0];obtain⟨p',n',q',e1,e2,e3,e4,e5,e6,e7,e8⟩:=qR f p (n+1) 0 (by lia) (by lia) (by lia) (hd.snoc h0 (lG hc)) (λk h1 h2=>by
     have:k=n+1 - 1:=by lia
     rw[this]);exact⟨p',n',q',e1,e2,e3,by lia,by lia,e6,e7,e8⟩
  .have e:AL (ltK key (CI n) (CI (n - 1))):=decide_eq_false hc;rw[e,if_neg Mh];simp only[runT];by_cases hd2:Ba (n - 1)<Ba n
   .have e2:Aa (ltK key (CI (n - 1)) (CI n)):=decide_eq_true hd2;rw[e2,BR];exact⟨p,n,q,rfl,rfl,Zw _,Az,by lia,hq,hd,he⟩
   .have e2:AL (ltK key (CI (n - 1)) (CI n)):=decide_eq_false hd2;rw[e2,if_neg Mh];have heq:Ba n=Ba (n - 1):=by lia
    obtain⟨p',n',q',e1,e2,e3,e4,e5,e6,e7,e8⟩:=qR f p (n+1) (q+1) (by lia) (by lia) (by lia) (hd.snoc h0 (by lia)) (λk h1 h2=>by
     by_cases hk:k=n;.subst hk;rfl
     .rw[he k (by lia) (by lia)];exact heq.symm);exact⟨p',n',q',e1,e2,e3,by lia,by lia,e6,e7,e8⟩
noncomputable def Good(key:Nat->Int)(p:A9)(nrem:Nat)(r:Nat×A9):Prop:=1<=r.1/\r.1<=nrem/\r.2.size=p.size/\r.2.Perm p/\Up key r.2 r.1
theorem zta{p:A9}{n nrem:Nat}(h0:0<n)(hn:n<=nrem)(hs:nrem<=p.size)(hd:Dn key p n):Good key p nrem (C7 (kas_tail3 n nrem p)):=by
 unfold kas_tail3;rw[Yn];simp only[runT];have:=zrs (key:=key) (kas_rev p 0 n) (nrem - n) n h0 (hd.rev (by lia));refine⟨?_,?_,Wh _ _ _,qQ _ _ _,this.2.2.1⟩;.show 1<=C7 (kas_asc (kas_rev p 0 n) (nrem - n) n);lia
 .show C7 (kas_asc (kas_rev p 0 n) (nrem - n) n)<=nrem;lia
theorem Good.perm{p q:A9}{nrem:Nat}{r:Nat×A9}(h:Good key p nrem r)(hp:p.Perm q)(hs:p.size=q.size):Good key q nrem r:=⟨h.1,h.2.1,h.2.2.1.trans hs,h.2.2.2.1.trans hp,h.2.2.2.2⟩
theorem zjr{p:A9}{n nrem:Nat}(h0:0<n)(hn:n<nrem)(hs:nrem<=p.size)(hd:Dn key p (n+1)):Good key p nrem (C7 (kas_descPart n nrem p)):=by
 unfold kas_descPart;rw[Yn];obtain⟨p',n',q',e1,e2,e3,e4,e5,e6,e7,e8⟩:=qR (key:=key) (nrem - (n+1)) p (n+1) 0 (by lia) (by lia) (by lia) hd (λk h1 h2=>by
  have:k=n+1 - 1:=by lia
  rw[this]);rw[e1];dsimp only;by_cases hq:q'>0
 .rw[if_pos hq];have ks:=zhs (key:=key) (p:=p') (i:=n' - (q'+1)) (j:=n') (by lia) (c:=kk key p' (n' - 1)) (λk h1 h2=>e8 k (by lia) h2);refine(zta (p:=kas_rev p' (n' - (q'+1)) n') (by lia) (by omega) (by rw[Wh];lia) ?_).perm ((qQ _ _ _).trans e3) (by rw[Wh,e2]);intro i j h1 h2;rw[ks,ks];exact e7 i j h1 h2
 .rw[if_neg hq];exact(zta (by lia) (by omega) (by lia) e7).perm e3 e2
theorem zxz{p:A9}{nrem:Nat}(h1:1<=nrem)(hs:nrem<=p.size):Good key p nrem (C7 (kas_count nrem p)):=by
 unfold kas_count;rw[Yn];have a:=zrs (key:=key) p (nrem - 1) 1 (by lia) (yix p);generalize runT (ltK key) (kas_asc p (nrem - 1) 1)=n at a;obtain⟨a1,a2,a3,a4⟩:=a;by_cases hn:n=nrem
 .subst hn;rw[if_pos (by simp)];exact(BH a1 Az (Zw _) a3)
 .rw[if_neg (by simpa using hn)];have hlt:n<nrem:=by lia
  have dd:=a4 (by lia);by_cases h2:n>1
  .rw[if_pos h2];simp only[runT];by_cases hc:Ba 0<Ba (n - 1)
   .have e:Aa (ltK key (CI 0) (CI (n - 1))):=decide_eq_true hc;rw[e,BR];exact(BH a1 (by show n<=nrem;lia) (Zw _) a3)
   .have e:AL (ltK key (CI 0) (CI (n - 1))):=decide_eq_false hc;rw[e,if_neg Mh];have same:∀k,0<=k->k<n->Ba k=Ba 0:=λk _ hk=>by
     have:=a3 0 k (by omega) hk;have:=a3 k (n - 1) (by lia) (by lia);lia
    have ks:=zhs (key:=key) (p:=p) (i:=0) (j:=n) (by lia) same;refine(zjr (p:=kas_rev p 0 n) (by lia) hlt (by rw[Wh];exact hs) ?_).perm (qQ _ _ _) (Wh _ _ _);intro i j hi hj;rw[ks,ks];by_cases hjn:j<n;.rw[same j (by lia) hjn,same i (by lia) (by lia)];exact Vv _
    .have:j=n:=by lia
     subst this;by_cases hij:i=j;.subst hij;exact Vv _
     .rw[same i (by lia) (by lia),<- same (j - 1) (by lia) (by lia)];lia
  .rw[if_neg h2];have:n=1:=by lia
   subst this;refine zjr (by lia) hlt hs ?_;intro i j hi hj;by_cases hij:i=j;.subst hij;exact Vv _
   .have h0:i=0:=by lia
    have h1':j=1:=by lia
    subst h0 h1';have:Ba 1<Ba (1 - 1):=dd;simpa using lG this
theorem zlb{p:A9}{k:Nat}(hu:Up key p k):∀(f l r:Nat),l<=r->r<=k->r - l<=f->(∀i,i<l->Ba i<=Ba k)->(∀i,r<=i->i<k->Ba k<=Ba i) ->
  C7 (kas_place p k f l r)<=k/\(∀i,i<C7 (kas_place p k f l r)->Ba i<=Ba k)/\(∀i,C7 (kas_place p k f l r)<=i->i<k->Ba k<=Ba i)
 | 0,l,r,h1,h2,h3,h4,h5=>by
  have:l=r:=by lia
  subst this;exact⟨by simp[kas_place,runT];omega,h4,h5⟩
 | f+1,l,r,h1,h2,h3,h4,h5=>by
  unfold kas_place;by_cases hlr:l ≥ r
  .have:l=r:=by lia
   subst this;rw[if_pos hlr];exact⟨h2,h4,h5⟩
  .rw[if_neg hlr];simp only[runT];by_cases hc:Ba k<Ba ((l+r) / 2)
   .have e:Aa (ltK key (CI k) (CI ((l+r) / 2))):=decide_eq_true hc;rw[e,BR];exact zlb hu f l ((l+r) / 2) (by lia) (by lia) (by omega) h4 (λi hi hk=>lE (lG hc) (hu _ _ hi hk))
   .have e:AL (ltK key (CI k) (CI ((l+r) / 2))):=decide_eq_false hc;rw[e,if_neg Mh];exact zlb hu f ((l+r) / 2+1) r (by lia) h2 (by omega) (λi hi=>lE (hu i ((l+r) / 2) (by lia) (by lia)) (by lia)) h5
theorem ybo{p:A9}{k d:Nat}(hk:k<p.size)(hd:d<=k)(i:Nat):(bubble p k d).getD i 0=AR i (k - d) (CI k) (if k - d<i/\i<=k then CI (i - 1) else CI i):=by
 have h:=getElem?_bubble hk d hd i;have e:∀(q:A9) (m:Nat),q.getD m 0=(q[m]?).getD 0:=λq m=>by simp[Vs]
 rw[e,e,e,e,h];split;.rfl
 .split <;> rfl
theorem yaw : ∀ (f : Nat) (p : A9) (k : Nat), k + f <= p.size -> Up key p k -> (C7 (kas_bin f p k)).size = p.size /\ (C7 (kas_bin f p k)).Perm p /\ Up key (C7 (kas_bin f p k)) (k + f)
 | 0,p,k,h,hu=>⟨rfl,Zw _,hu⟩
 | f+1,p,k,h,hu=>by
  unfold kas_bin;rw[Yn];obtain⟨g1,g2,g3⟩:=zlb hu k 0 k BM Az (by lia) (λi hi=>absurd hi (Nat.not_lt_zero _)) (λi h1 h2=>by lia);generalize runT (ltK key) (kas_place p k k 0 k)=l at g1 g2 g3;have hb:∀i,kk key (bubble p k (k - l)) i=AR i l (Ba k) (if l<i/\i<=k then Ba (i - 1) else Ba i):=λi=>by
   unfold kk;rw[ybo (by lia) (by lia),show k - (k - l)=l by lia];split;.rfl
   .split <;> rfl
  have hu':Up key (bubble p k (k - l)) (k+1):=by
   intro i j hij hj;rw[hb,hb];by_cases hi1:i=l
   .rw[if_pos hi1];by_cases hj1:j=l;.rw[if_pos hj1];exact Vv _
    .rw[if_neg hj1,if_pos ⟨by lia,by lia⟩];exact g3 (j - 1) (by lia) (by lia)
   .rw[if_neg hi1];by_cases hi2:l<i/\i<=k
    .rw[if_pos hi2];rw[if_neg (by lia),if_pos ⟨by lia,by lia⟩];exact hu _ _ (by omega) (by lia)
    .rw[if_neg hi2];have hil:i<l:=by lia
     by_cases hj1:j=l;.rw[if_pos hj1];exact g2 i hil
     .rw[if_neg hj1];by_cases hj2:l<j/\j<=k;.rw[if_pos hj2];exact hu _ _ (by lia) (by lia)
      .rw[if_neg hj2];exact hu _ _ hij (by lia)
  obtain⟨b1,b2,b3⟩:=yaw f (bubble p k (k - l)) (k+1) (by rw[bubble_size];lia) hu';exact⟨by rw[b1,bubble_size],b2.trans (bubble_perm _ _ _),by rw[show k+(f+1)=k+1+f by lia];exact b3⟩
theorem ydi{n:Nat}(h:1<=n):(C7 (kas_sort n)).size=n/\(C7 (kas_sort n)).Perm (K6 n).toArray/\Up key (C7 (kas_sort n)) n:=by
 unfold kas_sort;rw[Yn];have hsz:(mH (K6 n)).size=n:=by simp
 obtain⟨c1,c2,c3,c4,c5⟩:=zxz (key:=key) (p:=mH (K6 n)) h (by rw[hsz];exact Vn _);generalize runT (ltK key) (kas_count n (mH (K6 n)))=r at c1 c2 c3 c4 c5;obtain⟨m,p⟩:=r;dsimp only at c1 c2 c3 c4 c5 ⊢;rw[hsz] at c3;by_cases hm:m<n
 .rw[if_pos hm];have e:max m 1=m:=by lia
  rw[e];obtain⟨b1,b2,b3⟩:=yaw (key:=key) (n - m) p m (by lia) c5;exact⟨by rw[b1,c3],b2.trans c4,by rw[show n=m+(n - m) by lia];rw[show m+(n - m) - m=n - m by lia];exact b3⟩
 .rw[if_neg hm];have:m=n:=by lia
  subst this;exact⟨c3,c4,c5⟩
end
section
variable{prog:Ko}{w:Km}{A:Ks}{E:Ka->Ke->Prop}{s:Ke}
noncomputable def kW(h h':Heap):Prop:=∀b o,AE b o->AJ b o
noncomputable def aW(prog:Ko)(w:Km)(A:Ks)(s:Ke)(vs:Am)(Out:Aq BT):Prop :=
 ∃κ,(∀(Q:mO->Af) (E:Ka->Af),Q κ s->AH (yZ vs.toArray)) /\
  ∀(Q:Zz4->Af) (E:Ka->Af),(∀st',zA st'=none->(Rb st').size=vs.length->Out ((Rb st').map (·.2))->Q st' s)->Kw (B5 w) A (sortRuns'.run (zE κ GR #[] 7 none)) (λr s'=>Q r.2 s') E s
theorem zjb{a:Addr}{vs:Am}{n0:Nat}{P:V2->Af}(Out:Aq BT)(ho:Cp a (PQ "list" vs.toArray n0))(hz:AD vs.length)
  (hs:2<=vs.length-> ∀h',(∀b o,b≠a->AI b->AJ b o)->aW prog w A { s with heap:=h' } vs Out) (h1:vs.length<2->Out vs.toArray)
  (h:∀out c h',(∀b o,b≠a->AI b->AJ b o)->AJ a (PQ "list" out c)->out.size=vs.length->Out out->P (.done (.ret .none)) { s with heap:=h' }) :
  Kw (B5 w) A (Mu.«list.sort» (Br [Av])) P E s:=by
 have alt:Er a:=Ld ho;rw[list_sort_plain];refine Kc (listItems_at ho rfl ?_);refine Kc (yQ ho rfl ?_ (by simpa using hz) BM);generalize hg1:s.heap.update a (O1 λ_=>(#[]:Array Ka))=g1;have k1:∀b o,b≠a->AI b->Ab (g1.get? b) o:=λb o hb e=>by rw[<- hg1];exact(Pa _ _ (K7 hb)).trans e
 obtain⟨e1,ho1⟩:∃e1,Ab (g1.get? a) (PQ "list" #[] e1):=by rw[<- hg1];exact⟨_,Zz0 ho λ_=>#[]⟩
 have sz1:g1.objs.size=s.heap.objs.size:=by rw[<- hg1,Zv8]
 refine Kc (yV ho1 rfl ?_);refine Kc (zR ?_ (by show vs.length<=_;exact hz));refine Kc (nM ?_ BM);refine Nm ?_;dsimp only;generalize hg3:(g1.push { cls:=.type "tuple", data:=.seq vs.toArray }).push { cls:=.type "list", data:=.seq #[] }=g3;have k3:∀b o,Ab (g1.get? b) o->Ab (g3.get? b) o:=λb o e=>by rw[<- hg3];exact kO _ (kO _ e)
 have ho3:=k3 a _ ho1;have keep:∀b o,b≠a->AI b->Ab (g3.get? b) o:=λb o hb e=>k3 b o (k1 b o hb e);have fin:∀(st':Zz4),zA st'=none->(Rb st').size=vs.length->Out ((Rb st').map (·.2))->P (.done (.ret .none)) { s with heap:=g3.update a (O1 λ_=>(Rb st').map (·.2)) }:=λst' hf hsz hO=>by
  obtain⟨c2,hc2⟩:∃c2,Cj (g3.update a (O1 λ_=>(Rb st').map (·.2))) a (PQ "list" ((Rb st').map (·.2)) c2):=(Bb (Zz0 ho3 λ_=>(Rb st').map (·.2)));exact h _ c2 _ (Gm (Pa _ _ (K7 hb)) (keep b o hb e)) hc2 (by simpa using hsz) hO
 have hsz:vs.toArray.size=vs.length:=by simp
 by_cases h2:vs.length<2
 .rw[if_pos (by omega),if_pos (by omega)];refine BD ?_;rw[StateT.run_pure];refine BD ?_;have eo:(Rb (zE general' GR #[] 7 none)).map (·.2)=vs.toArray:=by
   show(GR).map (·.2)=vs.toArray;apply Array.toList_inj.mp;rw[Zvt];have:(GR).toList=vs.zip vs:=by simp
   rw[this];simp[List.map_snd_zip]
  dsimp only;refine Kc (yV ho3 rfl ?_);refine Kc (yQ ho3 rfl ?_ BM (by rw[eo];simp only[Nz];lia));simp only[bne_self_eq_false,Lj,if_false];exact Kf (fin (zE general' GR #[] 7 none) rfl (by show(vs.toArray.zip vs.toArray).size=_;simp) (by rw[eo];exact h1 h2))
 .rw[if_neg (by omega),if_neg (by omega)];obtain⟨κ,hk,hr⟩:=hs (by lia) g3 keep;refine Kc (hk _ _ ?_);refine Kc (Nu (hr (λst' s'=>s'={ s with heap:=g3 }/\zA st'=none/\(Rb st').size=vs.length/\Out ((Rb st').map (·.2))) D1 λst' hf hsz hO=>(Dq hf hsz hO)) ?_ λ_ _ x=>x.elim);rintro⟨⟨⟩,st'⟩ s' ⟨rfl,hf,hsz,hO⟩;dsimp only at hf hsz hO ⊢;refine Kc (yV ho3 rfl ?_);refine Kc (yQ ho3 rfl ?_ BM (by simp only[Zwp];lia));rw[hf];simp only[bne_self_eq_false,Lj,if_false];exact Kf (fin st' hf hsz hO)
theorem zlz{l:Addr}{vs:Am}{Q:Ka->Af}(Out:Aq BT)(hl:s.heap.IsList l vs.toArray)(hz:AD vs.length)
  (hs:2<=vs.length-> ∀h',Fe h'->aW prog w A.in1.in1 { s with heap:=h' } vs Out) (h1:vs.length<2->Out vs.toArray)
  (h:∀out c h',Fe h'->AJ (BQ 1) (PQ "list" out c)->out.size=vs.length->Out out->ED (.ref (BQ 1))) :
  AH (Gq "sorted" [Cd]):=by
 refine Zod yW yR yS (yU _) ?_;unfold Mu.«sorted»;refine Kc (m:=Zx0 "sorted" 1 1 _) B7;refine Kc (collect_list hl ?_ hz);refine Kc (nM ?_ hz);generalize hg1:(s.heap.push (PQ "list" #[] 0)).update s.heap.objs.size (O1 (· ++ vs.toArray))=g1;have sz1:g1.objs.size=BQ 1:=by rw[<- hg1,Zv8,size_push']
 have k1:Fe g1:=λb o e=>by
  have hlt:=Bv;rw[<- hg1];exact(Pa _ _ (Pn hlt)).trans (A0 e)
 dsimp only;have ho:Cj (g1.push (Du FH)) (BQ 1) (PQ "list" vs.toArray 0):=by rw[<- sz1];exact Zu _ rfl
 have k2:Fe (g1.push (Du FH)):=λb o e=>A0 (k1 b o e);rw[sz1];have ne:∀b o,AI b->b≠BQ 1:=λb o e=>KY (VD Bv);refine Kc (Nm (Rc yN (Cm ho) yM (zjb (s:={ s with heap:=g1.push (Du FH) }) Out ho hz
  (λh2 h' k=>hs h2 h' λb o e=>k b o (ne b o e) (k2 b o e)) h1 λout c h' k hc hsz hO=>(Ar rfl ?_)) (yO _)));exact Kf (Ar rfl (h out c h' (λb o e=>k b o (ne b o e) (k2 b o e)) hc hsz hO))
end
noncomputable def InR{α:Type}(n:Nat)(P:Aq α):Aq (KasT α)
 | .ret a=>P a
 | .ask i j k=>i<n/\j<n /\ ∀b,InR n P (k b)
theorem InR.bind{α β:Type}{n:Nat}{f:α->KasT β}{P:Aq α}{Q:Aq β}(hf:∀a,P a->InR n Q (f a)):∀{t:KasT α},InR n P t->InR n Q (t.bind f)
 | .ret a,h=>hf a h
 | .ask i j k,h=>⟨h.1,h.2.1,λb=>InR.bind hf (h.2.2 b)⟩
theorem zu0{α:Type}{cmp:Nat->Nat->(Bool->Af)->Af}{lt:Nat->Nat->Bool}{Q:α->Af}{s:Ke}{n:Nat}{P:Aq α}(h:∀i j C,i<n->j<n->C (lt i j) s->cmp i j C s):∀{t:KasT α},InR n P t->Q (runT lt t) s->t.kasWp cmp Q s
 | .ret _,_,q=>q
 | .ask i j k,r,q=>h i j _ r.1 r.2.1 (zu0 h (r.2.2 _) q)
noncomputable def Ent(n:Nat)(p:A9):Prop:=∀i,CI i<n
theorem Ent.perm{n:Nat}{p q:A9}(h:Ent n p)(hp:q.Perm p)(hn:0<n):Ent n q:=λi=>by
 have e:∀(q:A9) (m:Nat),q.getD m 0=(q[m]?).getD 0:=λq m=>by simp[Vs]
 rw[e];cases hq:q[i]? with
 | none=>exact hn
 | some x =>
  have hx:x∈q:=Array.mem_of_getElem? hq;have hx2:x∈p:=hp.mem_iff.mp hx;obtain⟨j,hj,ej⟩:=Array.mem_iff_getElem.mp hx2;have:=h j;rw[e,NQ hj,ej] at this;exact this
theorem Ent.rev{n:Nat}{p:A9}(h:Ent n p)(hn:0<n)(i j:Nat):Ent n (kas_rev p i j):=h.perm (mirror_perm _ _ _ _) hn
section
variable{n:Nat}(hn:0<n)
theorem zy9{p:A9}(h:Ent n p):∀f m,InR n (λ_:Nat=>True) (kas_asc p f m)
 | 0,_=>trivial
 | f+1,m=>⟨h _,h _,λb=>by cases b <;> simp only[if_true,Lj,if_false];exact zy9 h f (m+1);trivial⟩
include hn in
theorem qT:∀f {p:A9} m q,Ent n p->InR n (λr:Array Nat×Nat×Nat=>Ent n r.1) (kas_desc f p m q)
 | 0,_,_,_,h=>h
 | f+1,p,m,q,h=>⟨h _,h _,λb=>by
   cases b with
   | true =>
    simp only[if_true];split;.exact qT f _ _ (h.rev hn _ _)
    .exact qT f _ _ h
   | false =>
    simp only[Lj,if_false];exact⟨h _,h _,λc=>by
     cases c with
     | true=>simp only[if_true];exact h
     | false=>simp only[Lj,if_false];exact qT f _ _ h⟩⟩
include hn in
theorem zuw{p:A9}(h:Ent n p)(m r:Nat):InR n (λr:Nat×Array Nat=>Ent n r.2) (kas_tail3 m r p):=by
 unfold kas_tail3;refine InR.bind (P:=λ_:Nat=>True) (λa _=>?_) (zy9 (h.rev hn _ _) _ _);exact h.rev hn _ _
include hn in
theorem zkw{p:A9}(h:Ent n p)(m r:Nat):InR n (λr:Nat×Array Nat=>Ent n r.2) (kas_descPart m r p):=by
 unfold kas_descPart;refine InR.bind (λa ha=>?_) (qT hn _ _ _ h);split;.exact zuw hn (ha.rev hn _ _) _ _
 .exact zuw hn ha _ _
include hn in
theorem yci{p:A9}(h:Ent n p)(r:Nat):InR n (λr:Nat×Array Nat=>Ent n r.2) (kas_count r p):=by
 unfold kas_count;refine InR.bind (λm _=>?_) (zy9 h _ _);split;.exact h
 .split
  .refine⟨h _,h _,λb=>?_⟩;cases b with
   | true=>simp only[if_true];exact h
   | false=>simp only[Lj,if_false];exact zkw hn (h.rev hn _ _) _ _
  .exact zkw hn h _ _
theorem zul{p:A9}(h:Ent n p)(k:Nat):∀f l r,InR n (λ_:Nat=>True) (kas_place p k f l r)
 | 0,_,_=>trivial
 | f+1,l,r=>by
  unfold kas_place;split;.trivial
  .exact⟨h _,h _,λb=>by cases b <;> simp only[if_true,Lj,if_false] <;> exact zul h k f _ _⟩
include hn in
theorem ye5:∀f {p:A9} k,Ent n p->InR n (λq:Array Nat=>Ent n q) (kas_bin f p k)
 | 0,_,_,h=>h
 | f+1,p,k,h=>by
  unfold kas_bin;exact InR.bind (λl _=>ye5 f _ (h.perm (bubble_perm _ _ _) hn)) (zul h k _ _ _)
include hn in
theorem ygu:InR n (λq:Array Nat=>Ent n q) (kas_sort n):=by
 unfold kas_sort;have h0:Ent n (mH (K6 n)):=λi=>by
  have e:∀(q:A9) (m:Nat),q.getD m 0=(q[m]?).getD 0:=λq m=>by simp[Vs]
  rw[e];by_cases hi:i<n;.simp[hi]
  .simp[hi];exact hn
 refine InR.bind (λr hr=>?_) (yci hn h0 n);split;.exact ye5 hn _ _ hr
 .exact hr
end
section
variable{prog:Ko}{w:Km}{A:Ks}{s:Ke}
noncomputable def OutK(key:Nat->Int)(vs:Am)(out:BT):Prop:=∃p:Ae,p.Perm (K6 vs.length)/\out.toList=D8 (vs.getD i Lz)/\p.Pairwise λi j=>key i<=key j
theorem zhr{κ:mO}{vs:Am}{key:Nat->Int}(h2:2<=vs.length)(h64:vs.length<64)
  (hk:∀(Q:mO->Af) (E:Ka->Af),Q κ s->AH (yZ vs.toArray))
  (hlt:∀i j (C:Bool->Af),i<vs.length->j<vs.length->C (AF (key i) (key j)) s->Kw (B5 w) A (keyLt' κ (vs.getD i Lz) (vs.getD j Lz)) C D1 s) :
  aW prog w A s vs (OutK key vs):=by
 refine⟨κ,hk,λQ E hQ=>?_⟩;obtain⟨s1,s2,s3⟩:=ydi (key:=key) (n:=vs.length) (by lia);refine kat_run (Q:=λst' s'=>Q st' s') (G:=λp s'=>s'=s/\p=C7 (kas_sort vs.length)) rfl h2 h64 (λp st' s' hp har hf hG=>?_) (zu0 (lt:=ltK key) (λi j C hi hj hc=>hlt i j C hi hj hc) (ygu (n:=vs.length) (by lia)) De);obtain⟨rfl,rfl⟩:=hG;have hout:=kat_snds rfl har;refine hQ st' hf (by rw[har,Zwp,s1]) ⟨(C7 (kas_sort vs.length)).toList,?_,?_,?_⟩
 .have:=s2.toList;simpa using this
 .rw[hout]
 .generalize runT (ltK key) (kas_sort vs.length)=q at s1 s3;rw[Vw];intro i j hi hj hij;have h:=s3 i j (by lia) (by simpa[s1] using hj);unfold kk at h;have e:∀m (hm:m<q.toList.length),q.getD m 0=q.toList[m]:=λm hm=>by
   have hm':m<q.size:=by simpa using hm
   simp[SM,hm']
  rw[e i hi,e j hj] at h;exact h
end
noncomputable def D.fo:D->Cb
 | .str l=>l.map Zz
 | .int i=>[i]
 | _=>[]
noncomputable def D.ord:D->List Cb
 | .tup ds=>ds.map D.fo
 | .lst ds=>ds.map D.fo
 | d=>[d.fo]
noncomputable def D.leB(a b:D):Bool:=decide (a.ord<=b.ord)
noncomputable def La(ds:Ac):Ac:=ds.mergeSort D.leB
inductive Ty where | s | i
noncomputable def Ty.ok:Ty->D->Bool
 | .s,.str _=>true
 | .i,.int _=>true
 | _,_=>false
noncomputable def shOk:List Ty->Ac->Bool
 | [],[]=>true
 | t::ts,d::ds=>t.ok d&&shOk ts ds
 | _,_=>false
noncomputable def M7(ds:Ac):Prop:=(∀d∈ds,Aa (Ty.ok .s d))\/(∀d∈ds,Aa (Ty.ok .i d)) \/ ∃t ts,∀d∈ds,∃es,d= .tup es/\Aa (shOk (t::ts) es)
theorem ofNat_inj{l m:Ae}(h:l.map Zz=m.map Zz):l=m:=by
 induction l generalizing m with
 | nil=>cases m with
  | nil=>rfl
  | cons _ _=>simp at h
 | cons a l ih=>cases m with
  | nil=>simp at h
  | cons b m =>
   simp only[Kq,QF,Zul] at h;rw[show a=b by lia,ih h.2]
theorem zn6(l m:Ae):l<m↔l.map Zz<m.map Zz:=by
 induction l generalizing m with
 | nil=>cases m <;> simp
 | cons a l ih=>cases m with
  | nil=>simp
  | cons b m =>
   simp only[Kq,QC,ih m,Zul];constructor
   .rintro(h | ⟨h,x⟩);.exact .inl (by lia)
    .exact C1 (by lia) x
   .rintro(h | ⟨h,x⟩);.exact .inl (by lia)
    .exact C1 (by lia) x
theorem aX{t:Ty}{d e:D}(h1:Aa (t.ok d))(h2:Aa (t.ok e))(h:d.fo=e.fo):d=e:=by
 cases t <;> cases d <;> simp[Ty.ok] at h1 <;> cases e <;> simp[Ty.ok] at h2;.rw[ofNat_inj h]
 .simp[D.fo] at h;rw[h]
theorem ya4:∀{ts:List Ty} {ds es:Ac},Aa (shOk ts ds)->Aa (shOk ts es)->ds.map D.fo=es.map D.fo->ds=es
 | [],ds,es,h1,h2,_=>by cases ds <;> cases es <;> simp[shOk] at h1 h2;rfl
 | t::ts,ds,es,h1,h2,h=>by
  cases ds with
  | nil=>simp[shOk] at h1
  | cons d ds=>cases es with
   | nil=>simp[shOk] at h2
   | cons e es =>
    simp only[shOk,Lk] at h1 h2;simp only[Kq,QF] at h;rw[aX h1.1 h2.1 h.1,ya4 h1.2 h2.2 h.2]
theorem ye0(x y:Cb):[x]<[y]↔x<y:=by simp[QC]
theorem zya{ds:Ac}(h:M7 ds){a b:D}(ha:a∈ds)(hb:b∈ds)(e:a.ord=b.ord):a=b:=by
 rcases h with h | h | ⟨t,ts,h⟩
 .have h1:=h a ha;have h2:=h b hb;cases a <;> simp[Ty.ok] at h1;cases b <;> simp[Ty.ok] at h2;simp only[D.ord,QF,and_true] at e;exact aX (t:=.s) rfl rfl e
 .have h1:=h a ha;have h2:=h b hb;cases a <;> simp[Ty.ok] at h1;cases b <;> simp[Ty.ok] at h2;simp only[D.ord,QF,and_true] at e;exact aX (t:=.i) rfl rfl e
 .obtain⟨es,rfl,h1⟩:=h a ha;obtain⟨fs,rfl,h2⟩:=h b hb;simp only[D.ord] at e;rw[ya4 h1 h2 e]
theorem zq3(a b c:D)(h1:Aa (a.leB b))(h2:Aa (b.leB c)):Aa (a.leB c):=decide_eq_true (Zxn (of_decide_eq_true h1) GF)
theorem zo2(a b:D):Aa (a.leB b||b.leB a):=by
 rcases List.le_total a.ord b.ord with h | h;.simp[D.leB,h]
 .simp[D.leB,h]
theorem Mw(ds:Ac):(La ds).Perm ds:=Zuh _ _
theorem aY(ds:Ac):FB (La ds) (Aa (a.leB b)):=Zs5 zq3 zo2 ds
theorem Wi{ds es:Ac}(h:M7 ds)(hp:es.Perm ds)(hs:es.Pairwise λa b=>Aa (a.leB b)):es=La ds:=by
 refine Ya5 (le:=λa b=>Aa (a.leB b)) (λa b ha hb h1 h2=>?_) hs (aY ds) (hp.trans (Mw ds).symm);exact zya h (hp.mem_iff.mp ha) ((Mw ds).mem_iff.mp hb) (mC (of_decide_eq_true h1) GF)
noncomputable def rk(ds:Ac)(i:Nat):Int:=((ds.filter λd=>AF d.ord (CG i).ord).length:Nat)
theorem zf5{α:Type}{p q:α->Bool}(h:∀x,Aa (p x)->Aa (q x)):∀l:AK,AB (l.filter p) (l.filter q).length
 | []=>Az
 | x::l=>by
  have ih:=zf5 h l;simp only[mD];cases hp:p x with
  | false =>
   cases hq:q x with
   | false=>simpa using ih
   | true=>simp;lia
  | true=>rw[h x hp];simp;omega
theorem zhz{α:Type}{p q:α->Bool}(h:∀x,Aa (p x)->Aa (q x)){y:α}(hy:Aa (q y))(hn:AL (p y)):∀l:AK,y∈l->(l.filter p).length<(l.filter q).length
 | [],hm=>by simp at hm
 | x::l,hm=>by
  have le:=zf5 h l;simp only[mD];rcases KH.mp hm with rfl | hm;.rw[hy,hn];simp;lia
  .have ih:=zhz h hy hn l hm;cases hp:p x with
   | false =>
    cases hq:q x with
    | false=>simpa using ih
    | true=>simp;lia
   | true=>rw[h x hp];simp;omega
theorem aZ{ds:Ac}{i j:Nat}(hi:i<ds.length):AF (rk ds i) (rk ds j)=AF (CG i).ord (CG j).ord:=by
 have hm:CG i∈ds:=by rw[Kz,Kv hi];exact RN _
 unfold rk;generalize ds.getD i .non=a at hm;generalize ds.getD j .non=b;by_cases h:a.ord<b.ord
 .rw[decide_eq_true h];refine decide_eq_true ?_;have:=zhz (p:=λd:D=>AF d.ord a.ord) (q:=λd:D=>AF d.ord b.ord) (λx hx=>decide_eq_true (yC (of_decide_eq_true hx) h)) (y:=a) (decide_eq_true h) (decide_eq_false (RT _)) ds hm;lia
 .rw[GH];refine decide_eq_false ?_;have:=zf5 (p:=λd:D=>AF d.ord b.ord) (q:=λd:D=>AF d.ord a.ord) (λx hx=>by
   have hx:=of_decide_eq_true hx;refine decide_eq_true ?_;by_cases hxa:x.ord<a.ord;.exact hxa
   .exact absurd hx (RW.mpr (Zxn (RW.mp h) (RW.mp hxa)))) ds;lia
theorem qU{ds:Ac}{i j:Nat}(hi:i<ds.length)(hj:j<ds.length)(h:rk ds i<=rk ds j):Aa ((CG i).leB (CG j)):=by
 have:=aZ (ds:=ds) (i:=j) (j:=i) hj;rw[decide_eq_false (by lia)] at this;exact decide_eq_true (RW.mp (of_decide_eq_false this.symm))
section
variable{prog:Ko}{w:Km}{A:Ks}{E:Ka->Ke->Prop}{s:Ke}
noncomputable def FV:D->Aq Ka
 | .str l,u=>∃t,u= .str (T l) t
 | .int i,u=>∃t,u= .int i t
 | _,_=>False
theorem zr4{t:Ty}{d e:D}{u v:Ka}(h1:Aa (t.ok d))(h2:Aa (t.ok e))(ru:FV d u)(rv:FV e v){Q:Bool->Af}(q:Q (An d e) s):AH (eqBool u v):=by
 cases t <;> cases d <;> simp[Ty.ok] at h1 <;> cases e <;> simp[Ty.ok] at h2
 .obtain⟨t,rfl⟩:=ru;obtain⟨t',rfl⟩:=rv;refine Yah _ _ _ _ prog w E Q ?_;rename_i l m;have:(T l == T m)=An (D.str l) (D.str m):=by
   rw[LK];simp[aQ]
  rw[this];exact q
 .obtain⟨t,rfl⟩:=ru;obtain⟨t',rfl⟩:=rv;refine Yak _ _ _ _ prog w E Q ?_;rename_i i j;have:(i == j)=An (D.int i) (D.int j):=by
   rw[LK];simp
  rw[this];exact q
theorem zzs{t:Ty}{d e:D}{u v:Ka}(h1:Aa (t.ok d))(h2:Aa (t.ok e))(ru:FV d u)(rv:FV e v)(f:Bool){Q:Bool->Af}(q:Q (AF d.fo e.fo) s):AH (oneLt' f u v):=by
 cases t <;> cases d <;> simp[Ty.ok] at h1 <;> cases e <;> simp[Ty.ok] at h2
 .obtain⟨t,rfl⟩:=ru;obtain⟨t',rfl⟩:=rv;rename_i l m;have ee:AF (T l).cps.toList (T m).cps.toList=AF (D.str l).fo (D.str m).fo:=by
   rw[R9,R9,LK,decide_eq_true_eq,decide_eq_true_eq];exact zn6 l m
  cases f with
  | true=>exact oneLt_str (by rw[ee];exact q)
  | false=>exact kat_one _ _ (lt_str (by show Q _ _;rw[ee];exact q))
 .obtain⟨t,rfl⟩:=ru;obtain⟨t',rfl⟩:=rv;rename_i i j;have ee:AF i j=AF (D.int i).fo (D.int j).fo:=by
   rw[LK];simp[D.fo,QC]
  cases f with
  | true=>exact oneLt_int (by rw[ee];exact q)
  | false=>exact kat_one _ _ (lt_int (by show Q _ _;rw[ee];exact q))
inductive FVs:List D->List Ka->Prop
 | nil:FVs [] []
 | cons {d ds u us}:FV d u->FVs ds us->FVs (d::ds) (u::us)
theorem zud {b : Bool} {Q : Bool -> Ke -> Prop} : ∀ {ts : List Ty} {ds es : Ac} {us vs : Am} (i : Nat), shOk ts ds = true -> shOk ts es = true -> FVs ds us -> FVs es vs -> Q (decide (ds.map D.fo < es.map D.fo)) s -> KatLex prog w A b false Q (us.zip vs) i s
 | [],ds,es,_,_,i,h1,h2,r1,r2,q=>by
  cases ds <;> cases es <;> simp[shOk] at h1 h2;cases r1;cases r2;exact kat_nil (by simpa using q)
 | t::ts,ds,es,_,_,i,h1,h2,r1,r2,q=>by
  cases r1 with
  | nil=>simp[shOk] at h1
  | cons a1 a2 =>
   cases r2 with
   | nil=>simp[shOk] at h2
   | cons b1 b2 =>
    rename_i d ds u us e es v vs;simp only[shOk,Lk] at h1 h2;rw[Xb];refine kat_cons (zr4 h1.1 h2.1 a1 b1 ?_);by_cases hde:d=e
    .subst hde;rw[Gg];refine kat_yes (zud (i+1) h1.2 h2.2 a2 b2 ?_);have:AF (ds.map D.fo) (es.map D.fo)=AF ((d::ds).map D.fo) ((d::es).map D.fo):=by
      rw[LK];simp only[decide_eq_true_eq,Kq,QC];exact⟨λh=>C1 trivial h,λh=>h.elim (λz=>absurd z (RT _)) λz=>z.2⟩
     rw[this];exact q
    .rw[decide_eq_false hde];refine kat_no (zzs h1.1 h2.1 a1 b1 _ ?_);have hf:¬ d.fo=e.fo:=λz=>hde (aX h1.1 h2.1 z);have:AF d.fo e.fo=AF ((d::ds).map D.fo) ((e::es).map D.fo):=by
      rw[LK];simp only[decide_eq_true_eq,Kq,QC];exact⟨λh=>.inl h,λh=>h.elim id λz=>absurd z.1 hf⟩
     rw[this];exact q
end
structure MI(R:Nat->Nat->Prop)(ua ub o:List Nat)(i j:Nat):Prop where
 hi:i<=ua.length
 hj:j<=ub.length
 pw:o.Pairwise R
 pa:∀x∈o,∀y∈ua.drop i,R x y
 pb:∀x∈o,∀y∈ub.drop j,R x y
 pm:o.Perm (ua.take i++ub.take j)
noncomputable def Seg(key:Nat->Int)(p:A9)(i j:Nat):Prop:=∀s t,i<=s->s<=t->t<j->Ba s<=Ba t
noncomputable def Runs(key:Nat->Int)(p:A9):CM Nat (Nat×Nat)->Nat->Aq Nat
 | [],lo,hi=>lo=hi
 | r::l,lo,hi=>r.1=lo/\0<r.2.1/\Seg key p lo (lo+r.2.1)/\Runs key p l (lo+r.2.1) hi
theorem Vals.pick{xs:Ai}{us:Am}(r:BY xs):∀p:Ae,(∀i∈p,i<xs.length)->Vals (D8 (xs.getD i .non)) (D8 (us.getD i Lz))
 | [],_=>.nil
 | i::p,h=>by
  have hi:=h i KN;obtain⟨u,hu,ru⟩:=r.get (Kv hi);refine .cons ?_ (Vals.pick r p λj hj=>h j (AS hj));show RelV (xs.getD i .non) (us.getD i Lz);rw[Kz,Kv hi,Kz,hu];exact ru
theorem Reps.pick{K:Kd}{H:Hp}{ds:Ac}{xs:Ai}(r:Bc H xs):∀p:Ae,(∀i∈p,i<ds.length)->AN H (D8 (CG i)) (D8 (xs.getD i .non))
 | [],_=>Reps.nil
 | i::p,h=>by
  have hi:=h i KN;obtain⟨u,hu,ru⟩:=r.get' (Kv hi);refine Reps.cons ?_ (Reps.pick r p λj hj=>h j (AS hj));show As H (CG i) (xs.getD i .non);rw[Kz,Kv hi,Kz,hu];exact ru
section
variable{X:Cx}{pins:List (Addr×Obj)}{σ:St}{H:Hp}{s:Ke}
theorem FV.of{t:Ty}{d:D}{x:V}{u:Ka}(ht:Aa (t.ok d))(r:Rep X.K H d x)(q:Bi x):FV d u:=by
 cases t <;> cases d <;> simp[Ty.ok] at ht;.rw[r.of_str] at q;exact q
 .rw[r.of_int] at q;exact q
theorem FVs.of:∀{ts:List Ty} {ds:Ac} {xs:Ai} {us:Am},Aa (shOk ts ds)->Reps X.K H ds xs->BY xs->FVs ds us
 | [],ds,_,_,ht,r,q=>by
  cases ds <;> simp[shOk] at ht;rw[Reps] at r;subst r;cases q;exact .nil
 | t::ts,ds,_,_,ht,r,q=>by
  cases ds with
  | nil=>simp[shOk] at ht
  | cons d ds =>
   simp only[shOk,Lk] at ht;rw[Reps] at r;obtain⟨x,xs,rfl,r1,r2⟩:=r;cases q with
   | cons q1 q2=>exact .cons (FV.of ht.1 r1 q1) (FVs.of ht.2 r2 q2)
noncomputable def TV(h:Heap)(es:Ac)(u:Ka):Prop:=∃a o its n,u= Av/\AE a o/\o.cls= EU /\ o.data= .seq its n/\FVs es its.toList
theorem Inv.tv(I:Ak){ts:List Ty}{es:Ac}{x:V}{u:Ka}(ht:Aa (shOk ts es))(r:Rep X.K H (.tup es) x)(q:Bi x):TV s.heap es u:=by
 obtain⟨p,xs,rfl,sq,rs⟩:=r.of_tup;cases q;obtain⟨its,rv,⟨o,e,c,n,hd⟩,_⟩:=I.tuple sq;exact⟨p,o,its.toArray,n,rfl,e,c,hd,by simpa using FVs.of ht rs rv⟩
theorem qW{ds:Ac}{xs:Ai}{us:Am}(rs:Reps X.K H ds xs)(rv:BY xs){i:Nat}(hi:i<us.length):∃x,Rep X.K H (CG i) x/\RelV x (us.getD i Lz)/\CG i∈ds:=by
 have l1:=rs.length;have l2:=rv.length;obtain⟨x,hx,r⟩:=rs.get' (Kv (show i<ds.length by lia));obtain⟨u,hu,ru⟩:=rv.get hx;refine⟨x,?_,?_,?_⟩;.rw[Kz,Kv (show i<ds.length by lia)];exact r
 .rw[Kz,hu];exact ru
 .rw[Kz,Kv (show i<ds.length by lia)];exact RN _
theorem qX{us:Am}{v:Ka}(h:v∈us):∃i,i<us.length/\v=us.getD i Lz:=by
 obtain⟨i,hi,e⟩:=xP h;exact⟨i,hi,by rw[Kz,Kv hi];exact e.symm⟩
noncomputable def Ty.tv:Ty->Ka
 | .s=>.type "str"
 | .i=>.type "int"
noncomputable def qY(prog:Ko)(w:Km)(A:Ks)(s:Ke)(vs:Am)(key:Nat->Int):Prop :=
 ∃κ,(∀(Q:mO->Af) (E:Ka->Af),Q κ s->AH (yZ vs.toArray)) /\
  ∀i j (C:Bool->Af),i<vs.length->j<vs.length->C (AF (key i) (key j)) s->Kw (B5 w) A (keyLt' κ (vs.getD i Lz) (vs.getD j Lz)) C D1 s
theorem yav {h' : Heap} {ds : Ac} {xs : Ai} {us : Am} {A' : Ks} (I : Ak) (rs : Reps X.K H ds xs) (rv : BY xs) (hal : M7 ds) (h2 : 2 <= us.length) (k : Fe h') :
  qY X.prog X.w A' { s with heap:=h' } us (rk ds):=by
 have l1:=rs.length;have l2:=rv.length;have flat:∀(t:Ty) (T0:Ka),(∀d u,Aa (t.ok d)->FV d u->Uq u=pure T0)->Aa (T0 != MJ "tuple")->Aa (T0 == T0)->(∀d∈ds,Aa (t.ok d))->qY X.prog X.w A' { s with heap:=h' } us (rk ds):=λt T0 hty hT1 hT2 ht=>by
  have fv:∀i,i<us.length->FV (CG i) (us.getD i Lz)/\Aa (t.ok (CG i)):=λi hi=>by
   obtain⟨x,r,q,hm⟩:=qW rs rv hi;exact⟨FV.of (ht _ hm) r q,ht _ hm⟩
  refine⟨oneType',λQ E q=>kas_kind h2 (T:=T0) (λv hv=>?_) hT1 hT2 q,λi j C hi hj hC=>?_⟩
  .obtain⟨i,hi,rfl⟩:=qX hv;obtain⟨f,o⟩:=fv i hi;rw[hty _ _ o f];exact .now
  .obtain⟨f1,o1⟩:=fv i hi;obtain⟨f2,o2⟩:=fv j hj;rw[Yac];refine zzs o1 o2 f1 f2 true ?_;rw[aZ (by lia)] at hC;have e:∀d:D,Aa (t.ok d)->d.ord=[d.fo]:=λd hd=>by cases t <;> cases d <;> simp[Ty.ok] at hd <;> rfl
   rw[e _ o1,e _ o2] at hC;have:AF (CG i).fo (CG j).fo=AF [(CG i).fo] [(CG j).fo]:=by
    rw[LK,decide_eq_true_eq,decide_eq_true_eq];exact(ye0 _ _).symm
   rw[this];exact hC
 rcases hal with ht | ht | ⟨t,ts,ht⟩;.exact flat .s (.type "str") (λd u hd f=>by cases d <;> simp[Ty.ok] at hd;obtain⟨t,rfl⟩:=f;rfl) (by decide) (by decide) ht
 .exact flat .i (.type "int") (λd u hd f=>by cases d <;> simp[Ty.ok] at hd;obtain⟨t,rfl⟩:=f;rfl) (by decide) (by decide) ht
 .have tv : ∀ i, i < us.length -> ∃ es, CG i = .tup es /\ shOk (t :: ts) es = true /\ TV h' es (us.getD i Lz) := λi hi => by
   obtain⟨x,r,q,hm⟩:=qW rs rv hi;obtain⟨es,e,ho⟩:=ht _ hm;rw[e] at r;obtain⟨a,o,its,n,eu,ho',hc,hd,fv⟩:=I.tv ho r q;exact⟨es,e,ho,a,o,its,n,eu,k a o ho',hc,hd,fv⟩
  obtain⟨T0,hT0,hb,hbb⟩:∃T0:Ka,(T0=t.tv)/\Aa (T0 != MJ "tuple")/\Aa (T0 == T0):=⟨t.tv,rfl,by cases t <;> decide,by cases t <;> decide⟩;have hfs : ∀ (l : Am), (∀ v ∈ l, ∃ es, shOk (t :: ts) es = true /\ TV h' es v) -> ∃ fs, KatTups h' l fs /\ fs.length = l.length /\ ∀ f ∈ fs, Uq f = pure T0 := by
   intro l;induction l with
   | nil=>intro _;exact(Bh [] KatTups.nil (by simp))
   | cons v l ih =>
    intro h;obtain⟨fs,h1,h2,h3⟩:=ih λu hu=>h u (AS hu);obtain⟨es,ho,a,o,its,n,rfl,hg,hc,hd,fv⟩:=h v KN;cases es with
    | nil=>simp[shOk] at ho
    | cons d es =>
     simp only[shOk,Lk] at ho;cases hits:its.toList with
     | nil=>rw[hits] at fv;cases fv
     | cons f fr =>
      rw[hits] at fv;cases fv with
      | cons fd _ =>
       have h0:AM its 0 f:=by
        have:AM its.toList 0 f:=by rw[hits];rfl
        simpa using this
       refine⟨f::fs,KatTups.cons hg hc hd h0 h1,by simp[h2],λg hgm=>?_⟩;rcases KH.mp hgm with rfl | hgm
       .cases t <;> cases d <;> simp[Ty.ok] at ho;.obtain⟨t',rfl⟩:=fd;rw[hT0];rfl
        .obtain⟨t',rfl⟩:=fd;rw[hT0];rfl
       .exact h3 g hgm
  obtain⟨fs,hk1,hk2,hk3⟩:=hfs us λv hv=>by
   obtain⟨i,hi,rfl⟩:=qX hv;obtain⟨es,_,ho,tvv⟩:=tv i hi;exact⟨es,ho,tvv⟩
  refine⟨tuples' (T0 != MJ "tuple"),λQ E q=>kat_kind (s:={ s with heap:=h' }) (T:=T0) hk1 (by lia) (λv hv=>?_) hbb q,λi j C hi hj hC=>?_⟩;.rw[hk3 v hv];exact .now
  .obtain⟨es,e1,o1,a,o,its,n,eu,hg,hc,hd,fv⟩:=tv i hi;obtain⟨es',e1',o1',a',o',its',n',eu',hg',hc',hd',fv'⟩:=tv j hj;rw[eu,eu'];rw[aZ (by lia),e1,e1'] at hC;have sz:∀{ts:List Ty} {es:Ac} {us:Am},Aa (shOk ts es)->FVs es us->us.length=ts.length:=by
    intro ts;induction ts with
    | nil=>intro es us h f;cases f with
     | nil=>rfl
     | cons _ _=>simp[shOk] at h
    | cons t ts ih=>intro es us h f;cases f with
     | nil=>simp[shOk] at h
     | cons _ f=>simp only[shOk,Lk] at h;simp[ih h.2 f]
   have z1:=sz o1 fv;have z2:=sz o1' fv';refine kat_lt (s:={ s with heap:=h' }) hg hd hg' hd' ?_;rw[decide_eq_false (by simp at z1 z2;lia)];exact zud 0 o1 o1' fv fv' hC
theorem qZ{r:Nat->Int}{us:Am}(h:us.length<2):OutK r us us.toArray:=by
 refine⟨K6 us.length,Ya4 _,?_,?_⟩
 .match us,h with
  | [],_=>rfl
  | [v],_=>rfl
 .match us,h with
  | [],_=>simp
  | [v],_=>simp
end
end L2
namespace L2
open PySem PySem.W PySem.Spec PyProof.Rows
noncomputable def cutD(xs:Ac)(lo hi:CC):Ac:=(xs.drop (Fz 0 lo)).take (Fz xs.length hi - Fz 0 lo)
theorem Reps.cut{K:Kd}{H:Hp}{ds:Ac}{xs:Ai}(lo hi:CC)(h:Bc H xs):AN H (cutD ds lo hi) (cutV xs lo hi):=by
 unfold cutD cutV;rw[<- h.length];exact(h.drop _).take _
section
variable{K:Kd}{G Hz L:Hp}{ss:List Sl}{t ta tb:TE}{d:D}{ds:List D}
theorem UW(a:EvL K G Hz L ss t ds):Ay (tCB (E8 (xs=[Ap]/\(A8 H p ys\/SqT K H p ys)/\Q (.int ys.length) H)) (BV t)) (.int ds.length):=λF H σ Q S q =>
 a F H σ _ S λp vs F' H' e sq r=>(BH p vs (.inl sq) (q _ _ _ e (by rw[<- r.length];exact Rep.int)))
theorem ybb(a:EvL K G Hz L ss t ds):EvO K G Hz L ss (tCB (E8 (xs=[Ap]/\(A8 H p ys\/SqT K H p ys) /\ ∀l,H l=none->Q Cd (BX H l ys))) (BV t)) ds:=λF H σ Q S q =>
 a F H σ _ S λp vs F' H' e sq r=>(BH p vs (.inl sq) (λl hl=>q l vs F' _ (e.newO hl) (e.hh.free hl) (e.fh.free hl) Ku r))
noncomputable def EvP(K:Kd)(G Hz L:Hp)(ss:Do)(t:TO)(o:CC):Prop:=∀F H σ (Q:CC->A2),Sat K G Hz L F H σ ss->(∀F' H',CL F H F'->Q o H')->t σ H Q
theorem Yo:EvP K G Hz L ss yai none:=λF H σ Q S q=>q _ _ DA
theorem Ss{i:Int}(a:DP t):EvP K G Hz L ss (yko t) (some i):=λF H σ Q S q=>a F H σ _ S λv F' H' e r=>⟨i,r.of_int,q _ _ e⟩
theorem Yp{tl th:TO}{lo hi:CC}(a:EvL K G Hz L ss t ds)(b:EvP K G Hz L ss tl lo)(c:EvP K G Hz L ss th hi):EvO K G Hz L ss (tSl (rSlL K) t tl th) (cutD ds lo hi):=λF H σ Q S q =>
 a F H σ _ S λp vs F1 H1 e1 sq r=>b F1 H1 σ _ Cg λF2 H2 e2=>c F2 H2 σ _ ((Cg).ext2 e2) λF3 H3 e3 =>
  (BH p vs (SqL.same e3.hh (SqL.same e2.hh sq)) (λl hl=>q l _ F3 _ (((Cf).trans e3).newO hl) (((Cf).trans e3).hh.free hl) (((Cf).trans e3).fh.free hl) Ku (((r.mono e2.gf).mono e3.gf).cut lo hi)))
theorem yet{tl th:TO}{lo hi:CC}{l:Ae}(a:A1 t (.str l))(b:EvP K G Hz L ss tl lo)(c:EvP K G Hz L ss th hi)(hz:AD l.length):Ay (tSl rSlS t tl th) (.str (cutL l lo hi)):=λF H σ Q S q =>
 a F H σ _ S λv F1 H1 e1 r=>b F1 H1 σ _ Cg λF2 H2 e2=>c F2 H2 σ _ ((Cg).ext2 e2) λF3 H3 e3 =>
  ⟨l,r.of_str,hz,q _ _ _ ((Cf).trans e3) (Rep.str λc hc=>r.asc c (Zt7 (Zt6 hc)))⟩
noncomputable def glue(z:Ae):Aj->Ae
 | []=>[]
 | [x]=>x
 | x::y::r=>x++z++glue z (y::r)
end
theorem yej(z:Ae):∀ls:Aj,pG (T z) (ls.map T)=T (glue z ls)
 | []=>rfl
 | [x]=>rfl
 | x::y::r=>by
  have ih:=yej z (y::r);rw[Kq] at ih;rw[Kq,Kq];show T x++T z++pG (T z) (T y::r.map T)=_;rw[ih,yhf,yhf];rfl
theorem zu1{z:Ae}(hz:∀c∈z,c<128):∀{ls:Aj},(∀l∈ls,∀c∈l,c<128)-> ∀c∈glue z ls,c<128
 | [],_,c,h=>by cases h
 | [x],hl,c,h=>hl x KN c h
 | x::y::r,hl,c,h=>by
  rw[glue] at h;rcases K9.mp h with h | h
  .rcases K9.mp h with h | h;.exact hl x KN c h
   .exact hz c h
  .exact zu1 hz (ls:=y::r) (λl hm=>hl l (AS hm)) c h
theorem Reps.strs{K:Kd}{H:Hp}:∀{ls:Aj} {vs:Ai},AN H (ls.map D.str) vs->vs=(ls.map T).map V.str /\ ∀l∈ls,∀c∈l,c<128
 | [],vs,h=>by rw[PK,Reps] at h;subst h;exact⟨rfl,by simp⟩
 | l::ls,vs,h=>by
  rw[Kq,Reps] at h;obtain⟨x,xs,rfl,h1,h2⟩:=h;obtain⟨e,ha⟩:=h2.strs;refine⟨by rw[h1.of_str,e];rfl,λm hm=>?_⟩;rcases KH.mp hm with rfl | hm;.exact h1.asc
  .exact ha m hm
section
variable{K:Kd}{G Hz L:Hp}{ss:List Sl}{t ta tb:TE}{d:D}{ds:List D}
theorem yfe{z:Ae}{ls:Aj}(a:A1 ta (.str z))(b:EvL K G Hz L ss t (ls.map D.str))(hz:(ls.map PL).sum+ls.length*z.length<=16777216):Ay (tBM K "str" (yfm K) ta (BV t)) (.str (glue z ls)):=λF H σ Q S q =>
 Ec F H σ _ S (by
  rw[r1.of_str];refine(CW (b F1 H1 σ _ Cg λp vs F2 H2 e2 sq r2=>?_));obtain⟨rfl,ha⟩:=r2.strs;refine⟨T z,p,ls.map T,rfl,rfl,sq,?_,?_⟩;.rw[Lf,Kg,UJ,show((λx:Str=>x.length)∘T)=PL from funext λl=>UJ l];exact hz
  .rw[yej];exact q _ _ _ Cf (Rep.str (zu1 r1.asc ha)))
theorem yeo(a:EvL K G Hz L ss t ds):Cc (tCB (E8 (xs=[Ap,.ty "list"]/\A8 H p ys/\Q C2 H)) (Ol t (BV (tC (.ty "list"))))) true:=λF H σ Q S q =>
 a F H σ _ S λp vs F1 H1 e1 sq r1=>(BH p vs sq (q _ _ _ e1 Rep.bl))
theorem yec(a:A1 t DG):Cc (tCB (E8 (xs=[Ap,.ty "tuple"]/\SqT K H p ys/\Q C2 H)) (Ol t (BV (tC (.ty "tuple"))))) true:=λF H σ Q S q =>
 Ec F H σ _ S (by
  obtain⟨p,vs,rfl,sq,_⟩:=r1.of_tup;exact(BH p vs sq (q _ _ _ e1 Rep.bl)))
end
end L2
namespace L2
open PySem PySem.W PyProof.Rows PySem.Spec PySem.Calls
noncomputable def one(f:V->A2):Ai->A2
 | [v],H=>f v H
 | _,_=>False
end L2
namespace L2
open PySem PySem.Spec PyProof.Rows
noncomputable def Ite(K:Kd)(a:Addr):It :=
 ⟨λi H=>∃xs x,A8 H a xs/\Ah xs x,λi H x H'=>∃T0 vs,x= .ref T0/\H T0=none/\H'=AX T0 (.tup vs) /\ ∀xs,A8 H a xs-> ∃y,Ah xs y/\vs=[Ca,y],λi H=>∃xs,A8 H a xs/\xs.length=i⟩
theorem zva{P:Ko}{w:Km}{K:Kd}{elts:List Expr}{kk:Nat}{tp:Pos}(a it e:Addr)(hae:a≠e)(hai:a≠it)(hei:e≠it) :
  Turn P w K (.Tuple elts kk tp) (Ite K a) [e,it] e (λi h=>(∃old,IsEnum h e it i old)/\h.IsListIter it a i) where
 mem:=by simp
 obj:=λi h st b hb=>by
  obtain⟨⟨old,ho⟩,oi,hoi,_,hdi⟩:=st;rcases KH.mp hb with rfl | hb;.exact(Ar ho (λv z=>by cases z))
  .rw[K5.mp hb];exact⟨oi,hoi,λv z=>by rw[hdi] at z;cases z⟩
 keep:=λi h h' st k=>⟨let ⟨old,ho⟩:=st.1;⟨old,Eu e _ ho⟩,st.2.at λo x=>Eu it o x⟩
 item:=by
  intro X hP hw hK hc i pins s σ H E I hf st hg;subst hP hw hK;obtain⟨xs,x,hq,hx⟩:=hg;obtain⟨its,rv,p,hz⟩:=EL;obtain⟨u,hu,ru⟩:=rv.get hx;have hil:i<its.length:=(BS hu);have W0:=Zuc (A:=X.A) (Zzo (prog:=X.prog) (w:=X.w) (A:=X.A.in1) (show X.A.in1.handled=none from D3) it a hai its.toArray) e hei (by simp[hei,K7 hae]) (by simp);refine W0.item i s _ _ (by simpa using hil) ⟨st.1,st.2,p.isList⟩ λT0 vals h1 tk hp hle ht mid kk=>?_;obtain⟨t,v,hv,rfl⟩:=hp;have hv:Ah its v:=by simpa using hv
  rw[hu] at hv;cases hv;have fresh:H T0=none:=I.hok.fresh hle;have I1:Ce (AX T0 (.tup [Ca,x])) { s with heap:=h1,toks:=tk }:=I.turnsT (wr:=[e,it]) hf kk hle ht (.cons (AY t) (.cons ru .nil)) (by rw[K3];simp);refine(By (.ref T0) (W0.go elts _ tp i T0 _ _ _ mid λh2 st2 k2=>?_));have hlt:∀b∈[e,it],b≠T0:=λb hb z=>by
   obtain⟨⟨old,ho⟩,oi,hoi,_,hdi⟩:=st;rcases KH.mp hb with rfl | hb;.exact Fl (Mm (Ld ho) (z ▸ hle)) _
   .rw[K5.mp hb] at z;exact Fl (Mm (Ld hoi) (z ▸ hle)) _
  have hf1:∀b∈[e,it],D7 X (AX T0 (.tup [Ca,x])) b:=λb hb=>⟨by rw[Kh (hlt b hb)];exact(hf b hb).1,(hf b hb).2⟩;exact⟨.ref T0,_,I1.turns (t':=tk) hf1 k2,rfl,⟨T0,_,rfl,fresh,rfl,λys hy=>(Dm x (by rw[I.list_inj hy hq];exact hx))⟩,⟨st2.1,st2.2.1⟩,λb hb=>by rw[Kh (hlt b hb)];exact(hf b hb).1⟩
 done:=by
  intro X hP hw hK hc i pins s σ H E I hf st hg;subst hP hw hK;obtain⟨xs,hq,hx⟩:=hg;obtain⟨its,rv,p,hz⟩:=EL;have hl:=rv.length;have hs:its.toArray.size=i:=by simp;lia
  have W0:=Zuc (A:=X.A) (Zzo (prog:=X.prog) (w:=X.w) (A:=X.A.in1) (show X.A.in1.handled=none from D3) it a hai its.toArray) e hei (by simp[hei,K7 hae]) (by simp);rw[hs] at W0;exact W0.done s _ _ ⟨st.1,st.2,p.isList⟩ λh1 tk kk=>(CW (I.turns (wr:=[e,it]) hf kk))
 self:=λA i s Q E st h=>Zxt st.1.choose_spec h
section
variable{X:Cx}{e:Expr}{ta:TA}{elts:List Expr}{kk:Nat}{tp p pos:Pos}
noncomputable def iEnL(K:Kd)(ta:TA):TI:=λσ H R=>ta σ H λvs H1=>∃a,vs=[Av]/\(∃xs,A8 H1 a xs)/\R (Ite K a) H1
theorem zjo(hg:Gl X "enumerate")(hm:X.mg "enumerate" = none)(hA:PA X [e] ta)(hs:CA [e]=[(D4 e)]:=by rfl) :
  PI X (.Tuple elts kk tp) (Ey "enumerate" p [e] pos) (iEnL X.K ta):=by
 intro pins s σ H R I h;refine Call_ (Uy I hg hm boot_enumerate (Xi (thn (hA pos pins s σ H _ I h) λus s1 hz9=>?_) hs rfl));obtain⟨vs,H1,I1,r1,q1⟩:=hz9;obtain⟨a,rfl,⟨xs,hq⟩,q⟩:=q1;obtain⟨u,rfl,ru⟩:=Qc r1;cases ru;obtain⟨its,rv,p,hz⟩:=I1.list hq;refine call_enumerate_list p.isList λh1 hen hit hsz hk=>?_;have I2:Ce H1 { s1 with heap:=h1 }:=I1.kept (t':=s1.toks) hk;refine Zxt hen ?_;have hlt:a<s1.heap.objs.size:=by obtain⟨o,ho,_⟩:=p.isList;exact Ld ho
 refine⟨Gk 1,[Gk 1,s1.heap.objs.size],_,_,H1,rfl,I2,zva a s1.heap.objs.size (Gk 1) (KY (VD hlt)) (KY hlt) (Nat.succ_ne_self _),⟨(Bb hen),hit⟩,Eg,q⟩;rcases KH.mp hb with rfl | hb;.exact I1.fpOk (Ra _) (I1.hok.fresh (Ra _))
 .rw[K5.mp hb];exact I1.fpOk Az Gi
theorem zt9:∀{ns:Cb} {its:Am},Vals Gb its->Xl its ns
 | [],_,h=>by cases h;exact .nil
 | n::ns,_,h=>by
  cases h with
  | cons a b =>
   obtain⟨t,rfl⟩:=a;exact .cons n t (zt9 b)
end
section
variable{κ:Type}[DecidableEq κ]
noncomputable def valV(kvs:AU κ)(k:κ):Ek:=(kvs.find? (D9 kv.1 k)).map (·.2)
noncomputable def putK(kvs:AU κ)(k:κ)(v:V):AU κ :=
 Ds (kvs.any (D9 kv.1 k)) (kvs.map (λkv=>if kv.1=k then (kv.1,v) else kv)) (kvs++[(k,v)])
theorem zny{p:κ×V}{r:AU κ}{k:κ}(e:p.1=k):Ab (valV (p::r) k) p.2:=by simp[valV,PJ,e]
theorem zot{p:κ×V}{r:AU κ}{k:κ}(e:¬ p.1=k):valV (p::r) k=valV r k:=by simp[valV,PJ,e]
theorem zm8(k:κ):∀kvs:AU κ,(kvs.any (D9 kv.1 k))=(valV kvs k).isSome
 | []=>rfl
 | p::r=>by
  rw[RV];by_cases e:p.1=k;.simp only[zny e,decide_eq_true e,Zyq,Option.isSome_some]
  .rw[zot e,decide_eq_false e,Zxq];exact zm8 k r
theorem rA(kvs:AU κ)(k:κ)(v:V):AB (putK kvs k v) (kvs.length+1):=by
 unfold putK;split;.rw[Kg];omega
 .rw[K8,Mt,Xf];omega
theorem yc9{kvs:AU κ}{k:κ}(v:V)(h:valV kvs k=none):putK kvs k v=kvs++[(k,v)]:=by
 unfold putK;rw[zm8,h];exact if_neg (by decide)
theorem RelO.isSome_eq{o:Ek}{u:A4}(r:RelO o u):o.isSome=u.isSome:=by
 cases o with
 | none=>cases u with
  | none=>rfl
  | some _=>exact GM
 | some _=>cases u with
  | none=>exact GM
  | some _=>rfl
theorem RelO.getD{o:Ek}{u:A4}{d:V}{d':Ka}(r:RelO o u)(rd:RelV d d'):RelV (o.getD d) (u.getD d'):=by
 cases o with
 | none=>cases u with
  | none=>exact rd
  | some _=>exact GM
 | some _=>cases u with
  | none=>exact GM
  | some _=>exact r
theorem KV.val{kvs:AU κ}{vs:Df κ}(r:KV kvs vs)(k:κ):RelO (valV kvs k) (V5 vs k):=by
 unfold KV at r;induction r with
 | nil=>exact Tw
 | @cons p q ps qs h t ih =>
  obtain⟨h1,h2⟩:=h;by_cases e:p.1=k
  .have e':q.1=k:=h1.symm.trans e;have b:Ab (V5 (q::qs) k) q.2:=by simp[V5,PJ,e']
   rw[zny e,b];exact h2
  .have e':¬ q.1=k:=λz=>e (h1.trans z);have b:V5 (q::qs) k=V5 qs k:=by simp[V5,PJ,e']
   rw[zot e,b];exact ih
theorem KV.any{kvs:AU κ}{vs:Df κ}(r:KV kvs vs)(k:κ):(kvs.any (D9 kv.1 k))=vs.any (D9 kv.1 k):=by
 unfold KV at r;induction r with
 | nil=>rfl
 | cons h t ih=>rw[RV,RV,ih,h.1]
theorem KV.repl{kvs:AU κ}{vs:Df κ}(r:KV kvs vs)(k:κ){y:V}{u:Ka}(ry:Bi y) :
  KV (kvs.map λkv=>if kv.1=k then (kv.1,y) else kv) (vs.map λkv=>if kv.1=k then (kv.1,u) else kv):=by
 unfold KV at r ⊢;induction r with
 | nil=>exact .nil
 | @cons p q ps qs h t ih =>
  rw[Kq,Kq];refine .cons ?_ ih;obtain⟨h1,h2⟩:=h;by_cases e:p.1=k;.rw[if_pos e,if_pos (h1.symm.trans e)];exact⟨h1,ry⟩
  .rw[if_neg e,if_neg (λz=>e (h1.trans z))];exact⟨h1,h2⟩
theorem KV.put{kvs:AU κ}{vs:Df κ}(r:KV kvs vs)(k:κ){y:V}{u:Ka}(ry:Bi y):KV (putK kvs k y) (stored vs k u):=by
 unfold putK stored;rw[r.any k];by_cases e:Aa (vs.any (D9 kv.1 k));.rw[if_pos e,if_pos e];exact r.repl k ry
 .rw[if_neg e,if_neg e];exact Zxk r (CW ry)
theorem KV.length{kvs:AU κ}{vs:Df κ}(r:KV kvs vs):kvs.length=vs.length:=Zsp r
end
theorem Wj{P:Ko}{w:Km}{k:Key}{u:Ka}(r:Bi (kV k)):Aa ((Mz P w).is k u):=by
 cases k with
 | inl i=>obtain⟨t,e⟩:=(show ∃t,u=aJ i t from r);subst e;exact zks P w i t
 | inr x=>obtain⟨t,e⟩:=(show ∃t,u=Rm x t from r);subst e;exact zlg P w x t
theorem zqp{P:Ko}{w:Km}:∀{ks:BF} {us:Am},BY (ks.map kV)->ItemsAre (Mz P w) ks us
 | [],_,r=>by rw[PK] at r;cases r;exact .nil
 | k::ks,_,r=>by
  rw[Kq] at r;cases r with
  | cons h t=>exact .cons (Wj h) (zqp t)
noncomputable abbrev KT(H:Hp):AU BF->Aq (CM BF (Addr×Ka)):=Paired λp q=>p.1=q.1/\Di B8 (p.1.map kV)/\RelV p.2 B3
theorem KT.val{H:Hp}{kvs:AU BF}{xs:CM BF (Addr×Ka)}(r:KT H kvs xs)(k:BF):RelO (valV kvs k) ((Tn xs k).map (·.2)):=by
 induction r with
 | nil=>exact Tw
 | @cons p q ps qs h t ih =>
  obtain⟨h1,_,h2⟩:=h;by_cases e:p.1=k
  .have e':q.1=k:=h1.symm.trans e;have b:Ab (Tn (q::qs) k) q.2:=by simp[Tn,PJ,e']
   rw[zny e,b];exact h2
  .have e':¬ q.1=k:=λz=>e (h1.trans z);have b:Tn (q::qs) k=Tn qs k:=by simp[Tn,PJ,e']
   rw[zot e,b];exact ih
theorem KT.repl{H:Hp}{kvs:AU BF}{xs:CM BF (Addr×Ka)}(r:KT H kvs xs)(k:BF){y:V}{u:Ka}(ry:Bi y) :
  KT H (kvs.map λkv=>if kv.1=k then (kv.1,y) else kv) (xs.map (putAt k u)):=by
 induction r with
 | nil=>exact .nil
 | @cons p q ps qs h t ih =>
  rw[Kq,Kq];refine .cons ?_ ih;obtain⟨h1,h2,h3⟩:=h;unfold putAt;by_cases e:p.1=k;.rw[if_pos e,if_pos (h1.symm.trans e)];exact⟨h1,h2,ry⟩
  .rw[if_neg e,if_neg (λz=>e (h1.trans z))];exact⟨h1,h2,h3⟩
theorem KT.put{H:Hp}{kvs:AU BF}{xs:CM BF (Addr×Ka)}(r:KT H kvs xs)(k:BF){b:Addr}{y:V}{u:Ka}(hb:Di b (k.map kV))(ry:Bi y) :
  KT H (putK kvs k y) (storedH xs k b u):=by
 have e:(kvs.any (D9 kv.1 k))=(Tn xs k).isSome:=by
  rw[zm8,(r.val k).isSome_eq,Zug]
 unfold putK storedH;rw[e];by_cases q:Aa (Tn xs k).isSome;.rw[if_pos q,if_pos q];exact r.repl k ry
 .rw[if_neg q,if_neg q];exact Zxk r ⟨rfl,hb,ry⟩
theorem KT.keeps{H H':Hp}{kvs:AU BF}{xs:CM BF (Addr×Ka)}(r:KT H kvs xs)(ht:∀b ys,Di b ys->Ab (H' b) (.tup ys)):KT H' kvs xs :=
 Paired.mapP r λ_ _ z=>⟨z.1,ht _ _ z.2.1,z.2.2⟩
section
variable{P:Ko}{w:Km}{H:Hp}{h:Heap}{a:Addr}
theorem yiq{u:HO}(ok:HOk P w H h)(e:Rd H a u):Lr P w H h a u:=e.ok ok
theorem Yq{kvs:AU Key}(ok:HOk P w H h)(e:Rd H a (.dK kvs)):AD kvs.length/\Be a QH /\ ∃vs,KV kvs vs/\h.DictOf (Mz P w) a vs :=
 show Lr P w H h a (.dK kvs) from yiq ok e
theorem bA{kvs:AU Key}(ok:HOk P w H h)(e:Aw a (.dK kvs)):AD kvs.length/\Be a QH /\ ∃vs,KV kvs vs/\h.DictOf (Mz P w) a vs:=Yq ok (.inl e)
theorem bB{ks:BF}(ok:HOk P w H h)(e:Di a (ks.map kV)):(V3 (Mz P w)).is h ks a:=by
 obtain⟨_,its,r,o,h1,h2,n,h3⟩:=(show Lr P w H h a (.tup (ks.map kV)) from ok a _ e);exact⟨o,its.toArray,n,h1,h2,h3,by simpa using zqp r⟩
theorem Yr{kvs:AU BF}(ok:HOk P w H h)(e:Rd H a (.dT kvs)):AD kvs.length/\Be a QH /\
  ∃xs,KT H kvs xs/\h.DictOfH (V3 (Mz P w)) a xs:=by
 obtain⟨z,y,xs,r,o,es,ep,h1,h2,h3,h4,h5⟩:=(show Lr P w H h a (.dT kvs) from yiq ok e);refine⟨z,y,xs,r,o,es,ep,h1,h2,h3,h4,λx hx=>?_,h5⟩;have all:∀{l:AU BF} {m:CM BF (Addr×Ka)},KT H l m-> ∀x∈m,(V3 (Mz P w)).is h x.1 x.2.1:=by
  intro l m q;induction q with
  | nil=>intro x hx;exact nomatch hx
  | @cons p q ps qs hq t ih =>
   intro x hx;rcases KH.mp hx with e | hx
   .subst e;exact bB ok (by rw[<- hq.1];exact hq.2.1)
   .exact ih x hx
 exact all r x hx
theorem ykx{kvs:AU BF}(ok:HOk P w H h)(e:Aw a (.dT kvs)):AD kvs.length/\Be a QH /\
  ∃xs,KT H kvs xs/\h.DictOfH (V3 (Mz P w)) a xs:=Yr ok (.inl e)
end
noncomputable def DGet(H:Hp)(a:Addr)(y:V)(r:Ek):Prop :=
 (∃kvs k,Rd H a (.dK kvs)/\y=kV k/\r=valV kvs k) \/ ∃kvs k b,Rd H a (.dT kvs)/\y= Cs/\Di b (k.map kV)/\r=valV kvs k
noncomputable def DPut(H:Hp)(a:Addr)(y v:V)(H':Hp):Prop :=
 (∃kvs k,Aw a (.dK kvs)/\y=kV k/\Dk kvs.length/\H'=AX a (.dK (putK kvs k v))) \/
 ∃kvs k b,Aw a (.dT kvs)/\y= Cs/\Di b (k.map kV)/\Dk kvs.length/\H'=AX a (.dT (putK kvs k v))
theorem DGet.k{H:Hp}{a:Addr}{kvs:AU Key}{k:Key}(e:Aw a (.dK kvs)):DGet H a (kV k) (valV kvs k):=.inl (Bj kvs k (.inl e) rfl)
theorem DGet.t{H:Hp}{a b:Addr}{kvs:AU BF}{k:BF}(e:Aw a (.dT kvs))(eb:Di b (k.map kV)):DGet H a Cs (valV kvs k):=.inr ⟨kvs,k,b,.inl e,rfl,eb,rfl⟩
theorem DPut.k{H:Hp}{a:Addr}{kvs:AU Key}{k:Key}{v:V}(e:Aw a (.dK kvs))(hl:Dk kvs.length):DPut H a (kV k) v (AX a (.dK (putK kvs k v))):=.inl ⟨kvs,k,e,rfl,hl,rfl⟩
theorem DPut.t{H:Hp}{a b:Addr}{kvs:AU BF}{k:BF}{v:V}(e:Aw a (.dT kvs))(eb:Di b (k.map kV))(hl:Dk kvs.length) :
  DPut H a Cs v (AX a (.dT (putK kvs k v))):=.inr ⟨kvs,k,b,e,rfl,eb,hl,rfl⟩
section
variable{X:Cx}{pins:List (Addr×Obj)}{σ:St}{H:Hp}{s:Ke}{a:Addr}{y v:V}{u r:Ka}{o:Option V}{A:Ks}{E:Ka->Ke->Prop}
theorem Inv.big(I:Ak):Er QH:=by
 have h:Er QG:=(I.mod.glob.keeps I.bk).lt;exact ZK (by decide) h
theorem zzt{Q:Ka->Af}(hu:A.units+1<Ln)(I:Ak)(g:DGet H a y (some v))(ry:Bi y)(h:∀w' s',Fu s'->RelV v w'->Q w' s') :
  ET A (XM Av u) Q E s:=by
 rcases g with ⟨kvs,k,e,ey,l⟩ | ⟨kvs,k,b,e,ey,eb,l⟩
 .subst ey;obtain⟨z,hd,vs,rel,dd⟩:=Yq I.hok e;obtain⟨w',hw,rw'⟩:=RelO.some_of (v:=v) (o:=V5 vs k) (by rw[l];exact rel.val k);exact wpAny_getItem_of (Wj ry) dd.mapOf hw (h w' _ DH rw')
 .subst ey;cases (show u=KJ b from ry);obtain⟨z,hd,xs,rel,dd⟩:=Yr I.hok e;obtain⟨w',hw,rw'⟩:=RelO.some_of (v:=v) (o:=(Tn xs k).map (·.2)) (by rw[l];exact rel.val k);obtain⟨p,hp,hp2⟩:=Zsy.mp hw;refine wpAny_getItem_heap (mU hu) (bB I.hok eb) dd hp ?_;rw[hp2];exact h w' _ DH rw'
theorem yhz{Q:Ka->Af}(hu:A.units+1<Ln)(I:Ak)(g:DGet H a y o)(ry:Bi y)(h:∀s',Fu s'->Q (.bool (!o.isSome)) s') :
  ET A (PX .NotIn u Av) Q E s:=by
 rcases g with ⟨kvs,k,e,ey,l⟩ | ⟨kvs,k,b,e,ey,eb,l⟩
 .subst ey;obtain⟨z,hd,vs,rel,dd⟩:=Yq I.hok e;refine wpAny_notIn_of (Wj ry) hd dd.mapOf ?_;rw[<- (rel.val k).isSome_eq,<- l];exact h _ DH
 .subst ey;cases (show u=KJ b from ry);obtain⟨z,hd,xs,rel,dd⟩:=Yr I.hok e;refine wpAny_notIn_heap (mU hu) (bB I.hok eb) hd dd ?_;have q:=(rel.val k).isSome_eq;rw[Zug] at q;rw[<- q,<- l];exact h _ DH
theorem rB{h':Heap}{t':Nat}{ob:HO}(I:Ak)(mu:Mut (H a))(hs:Qa a s.heap h')(he:∃q,AJ a q)(new:Lr X.prog X.w (AX a ob) h' a ob) :
  FR (AX a ob) :=
 I.write (x:=a) (e:=a) mu A6 (λb q hb z=>Ed b hb z) he new
theorem zy6{P:Ko}{w:Km}{H':Hp}{h':Heap}{kvs:AU Key}{vs:Df Key}(z:AD kvs.length)(hd:Be a QH)(rel:KV kvs vs)(dd:h'.DictOf (Mz P w) a vs) :
  Lr P w H' h' a (.dK kvs):=⟨z,hd,vs,rel,dd⟩
theorem zzl{H':Hp}{Q:Unit->Af}(hu:A.units+1<Ln)(I:Ak)(g:DPut H a y v H')(ry:Bi y)(rv:RelV v r)(h:∀s',Ce H' s'->Q () s') :
  ET A (setItem Av u r) Q E s:=by
 rcases g with ⟨kvs,k,e,ey,l,eH⟩ | ⟨kvs,k,b,e,ey,eb,l,eH⟩
 .subst ey eH;obtain⟨z,hd,vs,rel,dd⟩:=bA I.hok e;have hz:AD vs.length:=by rw[<- rel.length];exact z
  have hl:AD (putK kvs k v).length:=by have:=rA kvs k v;omega
  refine wpAny_setItem_pairs (hsz:=hz) (Wj ry) dd λh' dd' hs=>h _ ?_;have he:∃q,AJ a q:=let ⟨q,_,_,hq,_⟩:=dd';⟨q,hq⟩;exact rB I (by rw[e];exact Tw) hs he (zy6 hl hd (rel.put k rv) dd')
 .subst ey eH;cases (show u=KJ b from ry);obtain⟨z,hd,xs,rel,dd⟩:=ykx I.hok e;have hz:AD xs.length:=by rw[<- Zsp rel];exact z
  have hl:AD (putK kvs k v).length:=by have:=rA kvs k v;omega
  refine wpAny_setItem_heap (hsz:=hz) (mU hu) (bB I.hok eb) dd λh' dd' hs=>h _ ?_;obtain⟨q,es,ep,hq,h2,h3,h4,_,h5⟩:=dd';refine rB I (by rw[e];exact Tw) hs ⟨q,hq⟩ ⟨hl,hd,_,(rel.put k eb rv).keeps λc ys ec=>?_,q,es,ep,hq,h2,h3,h4,h5⟩;rw[Kh (pM ec e (λz=>nomatch z))];exact ec
end
noncomputable def NoSl(i:Expr):Prop:=∀ov iv,nT i false ov iv=operate [ov,iv] (XM ov iv)
theorem yg4{prog:Ko}{w:Km}{A:Ks}{E:Ka->Af}{s:Ke}{env:Env}{value slice:Expr}{pos:Pos}{T id:String}{Q:Ka->Af}
  (hl:ZX (.type T) "__getitem__" = pure (some (.builtin id))) (hs:NoSl slice)
  (h:Kw (B5 w) A (eval value env) (λo s₁=>Kw (B5 w) A (eval slice env) (λi s₂=>s₂.TypeIs o T/\Kw (B5 w) A (XM o i) Q E s₂) E s₁) E s) :
  AH (eval (.Subscript value slice pos) env):=by
 refine yX (Nu h (λo s₁ h₁=>Nu h₁ (λi s₂ h₂=>?_) λ_ _ x=>x) λ_ _ x=>x);obtain⟨hT,h₂⟩:=h₂;unfold yP;refine Kc ?_;rw[getitemInPython_of_ne hT.not_modules];refine Kc (Xu hT hl ?_);have fin:Kw (B5 w) A (nT slice false o i) (λr s₃=>Kw (B5 w) A (letTemporaryGo value o r >>= λ_=>pure r) Q E s₃) E s₂:=by
  rw[hs o i];exact wpAny_operating (Nu h₂ (λr s₃ h₃=>Kc (wpAny_letTemporaryGo (Kf h₃))) λ_ _ x=>x)
 first
  | exact Kf (Kc fin)
  | exact BD (Kc fin)
  | exact Kc fin
theorem zrb{X:Cx}{pins:A7}{σ:St}{H:Hp}{s:Ke}{a:Addr}{y:V}{o:Ek}(I:Ak)(g:DGet H a y o):s.TypeIs Av "dict" := by
 rcases g with ⟨kvs,k,e,_,_⟩ | ⟨kvs,k,b,e,_,_,_⟩
 .obtain⟨_,_,vs,_,dd⟩:=Yq I.hok e;exact dd.typeIs
 .obtain⟨_,_,xs,_,dd⟩:=Yr I.hok e;exact dd.typeIs
noncomputable def rC(td ty:TE):TE:=λσ H Q=>td σ H λx H1=>ty σ H1 λy H2=>∃a v,x= Av/\DGet H2 a y (some v)/\Q v H2
noncomputable def rD(ty td:TE):TE:=λσ H Q=>ty σ H λy H1=>td σ H1 λx H2=>∃a o,x= Av/\DGet H2 a y o/\Q (.bl (!o.isSome)) H2
noncomputable def rE(td ty tv:TE):TS:=λD σ H=>tv σ H λv H1=>td σ H1 λx H2=>ty σ H2 λy H3=>∃a H4,x= Av/\DPut H3 a y v H4/\D.nx σ H4
section
variable{X:Cx}{o i e value:Expr}{pos pos' tpos:Pos}{td ty tv:TE}
theorem Qh(hu:X.A.units+1<Ln)(ho:Au o td)(hi:Au i ty)(hs:NoSl i):Au (.Subscript o i pos) (rC td ty):=by
 intro pins s σ H Q I h;refine yg4 PySem.F.slot_dict_getitem.lookup hs (thn (ho pins s σ H _ I h) λu s1 ⟨x,H1,I1,rx,q1⟩=>thn (hi pins s1 σ H1 _ I1 q1) λiv s2 hz9=>?_);obtain⟨y,H2,I2,ry,a,v,ex,g,q2⟩:=hz9;subst ex;obtain rfl:u=KJ a:=rx;exact⟨zrb I2 g,zzt hu I2 g ry λw' s3 I3 rw'=>⟨v,H2,I3,rw',q2⟩⟩
theorem zld(hu:X.A.units+1<Ln)(hi:Au i ty)(ho:Au o td):PC X .NotIn i o (rD ty td):=by
 intro pins s σ H Q I h;refine thn (hi pins s σ H _ I h) λiv s1 ⟨y,H1,I1,ry,q1⟩=>thn (ho pins s1 σ H1 _ I1 q1) λu s2 hz9=>?_;obtain⟨x,H2,I2,rx,a,ov,ex,g,q2⟩:=hz9;subst ex;obtain rfl:u=KJ a:=rx;exact yhz hu I2 g ry λs3 I3=>(Bj (.bl (!ov.isSome)) H2 I3 q2)
theorem Ys(hu:X.A.units+1<Ln)(ho:Au o td)(hi:Au i ty)(hv:Au value tv)(hs:Ul value (some (.Subscript o i pos')) pos.line X.env=pure false) :
  PS X (.Assign [.Subscript o i pos'] value pos) (rE td ty tv):=by
 intro pins s σ H D I h;refine wpAny_Assign_Subscript (thn (hv pins s σ H _ I h) λr s1 ⟨v,H1,I1,rv,q1⟩=>thn (ho pins s1 σ H1 _ I1 q1) λu s2 ⟨x,H2,I2,rx,q2⟩=>thn (hi pins s2 σ H2 _ I2 q2) λiv s3 hz9=>?_) hs;obtain⟨y,H3,I3,ry,a,H4,ex,g,q3⟩:=hz9;subst ex;obtain rfl:u=KJ a:=rx;exact zzl hu I3 g ry rv λs4 I4=>⟨σ,H4,I4,q3⟩
end
theorem ztt{P:Ko}{w:Km}{H:Hp}(h:Heap)(hb:QH<h.objs.size):Lr P w H (h.push (Fs "dict" (.dict #[]))) h.objs.size (.dK []) :=
 ⟨BM,beq_eq_false_iff_ne.mpr (K7 (KY hb)),[],.nil,Zz7 h⟩
theorem yc7{P:Ko}{w:Km}{H:Hp}(h:Heap)(hb:QH<h.objs.size):Lr P w H (h.push (Fs "dict" (.dict #[]))) h.objs.size (.dT []) :=
 ⟨BM,beq_eq_false_iff_ne.mpr (K7 (KY hb)),[],.nil,_,#[],0,BP _,(By rfl rfl),rfl,rfl,RQ⟩
noncomputable def yah:TE:=λ_ H Q=>∀p,H p=none->Q Ap (AX p (.dK []))
noncomputable def yea:TE:=λ_ H Q=>∀p,H p=none->Q Ap (AX p (.dT []))
section
variable{X:Cx}{pos:Pos}
theorem bC:Au (.Dict [] [] pos) yah:=λpins s σ H Q I h =>
 Zyu (Bj BN _ (I.laid (a:=s.heap.objs.size) (o:=.dK []) (t':=s.toks) (λ_ _ q=>A0 q) Az (ztt s.heap I.big)) (h _ (I.hok.fresh Az)))
theorem zuk:Au (.Dict [] [] pos) yea:=λpins s σ H Q I h =>
 Zyu (Bj BN _ (I.laid (a:=s.heap.objs.size) (o:=.dT []) (t':=s.toks) (λ_ _ q=>A0 q) Az (yc7 s.heap I.big)) (h _ (I.hok.fresh Az)))
end
noncomputable def zxd:CM TE TE->St->Hp->Aq (AU V->A2)
 | [],_,H,Q=>Q [] H
 | (tk,tv)::r,σ,H,Q=>tk σ H λx H1=>tv σ H1 λy H2=>zxd r σ H2 λps H3=>Q ((x,y)::ps) H3
noncomputable abbrev VV:AU V->Aq (Df Ka):=Paired λp q=>RelV p.1 q.1/\RelV p.2 q.2
noncomputable def PPs(X:Cx)(pos:Pos)(keys:List (Option Expr))(values:List Expr)(trs:CM TE TE):Prop :=
 ∀(pins:A7) (s:Ke) (σ:St) (H:Hp) (Q:AU V->A2),Ak->zxd trs σ H Q ->
  B1 (evalPairs (pairTrees keys values X.env pos)) (λvs s'=>∃ps H',Ce H' s'/\VV ps vs/\Q ps H') s
theorem yg7{X:Cx}{pos:Pos}:PPs X pos [] [] []:=λpins s σ H Q I h=>pairTrees_nil_walk ⟨[],H,I,.nil,h⟩
theorem ydw{X:Cx}{pos:Pos}{k v:Expr}{ks:List (Option Expr)}{vs:List Expr}{tk tv:TE}{trs:CM TE TE}(hk:Au k tk)(hv:Au v tv)(hr:PPs X pos ks vs trs) :
  PPs X pos (some k::ks) (v::vs) ((tk,tv)::trs):=λpins s σ H Q I h =>
 pairTrees_cons_walk (thn (hk pins s σ H _ I h) λu s1 ⟨x,H1,I1,rx,q1⟩=>thn (hv pins s1 σ H1 _ I1 q1) λw2 s2 ⟨y,H2,I2,ry,q2⟩ =>
  thn (hr pins s2 σ H2 _ I2 q2) λws s3 ⟨ps,H3,I3,rel,q3⟩=>⟨(x,y)::ps,H3,I3,.cons ⟨rx,ry⟩ rel,q3⟩)
noncomputable def Yt(kvs more:AU Key):AU Key:=more.foldl (λacc kv=>putK acc kv.1 kv.2) kvs
theorem KV.merge:∀{more:AU Key} {rs:Df Key} {kvs:AU Key} {vs:Df Key},KV more rs->KV kvs vs->KV (Yt kvs more) (merged vs rs):=by
 intro more rs kvs vs r;unfold KV at r;induction r generalizing kvs vs with
 | nil=>intro q;exact q
 | @cons p q ps qs h t ih =>
  intro r0;have e:KV (putK kvs p.1 p.2) (stored vs q.1 q.2):=by
   have:=r0.put p.1 h.2;rw[<- h.1];exact this
  exact ih e
theorem zie:∀(more kvs:AU Key),AB (Yt kvs more) (kvs.length+more.length)
 | [],kvs=>by show kvs.length<=kvs.length+0;omega
 | p::r,kvs=>by
  have h1:=zie r (putK kvs p.1 p.2);have h2:=rA kvs p.1 p.2;show AB (Yt (putK kvs p.1 p.2) r) _;rw[Mt];omega
theorem zmh{P:Ko}{w:Km}:∀{kvs:AU Key} {ws:Df Ka},VV (kvs.map λkv=>(kV kv.1,kv.2)) ws-> ∃rs,Carries (Mz P w) ws rs/\KV kvs rs
 | [],_,r=>by rw[PK] at r;cases r;exact⟨[],Tw,.nil⟩
 | p::kvs,_,r=>by
  rw[Kq] at r;cases r with
  | @cons a b as bs h t =>
   obtain⟨rs,c,q⟩:=zmh (P:=P) (w:=w) t;obtain⟨b1,b2⟩:=b;exact⟨(p.1,b2)::rs,(By (Wj h.1) c),.cons (CW h.2) q⟩
noncomputable def yja(trs:CM TE TE):TE:=λσ H Q=>∀p,H p=none->zxd trs σ (AX p (.dK [])) λps H2=>Ab (H2 p) (.dK []) /\ ∃kvs:AU Key,ps=kvs.map (λkv=>(kV kv.1,kv.2))/\kvs.length<=15/\Q Ap (upd H2 p (.dK (Yt [] kvs)))
theorem yge{X:Cx}{pos:Pos}{keys:List (Option Expr)}{values:List Expr}{trs:CM TE TE}(h:PPs X pos keys values trs)(hall:Aa (keys.all (·.isSome)))(hl:keys.length=values.length)(h0:keys≠[])
  (h15:keys.length<=15):Au (.Dict keys values pos) (yja trs):=by
 intro pins s σ H Q I q;have hn:=I.hok.fresh (Vn s.heap.objs.size);have I1:=I.laid (a:=s.heap.objs.size) (o:=.dK []) (h':=CP "dict" (.dict #[])) (t':=s.toks) (λ_ _ q=>A0 q) Az (ztt s.heap I.big);refine wpAny_Dict_walk (knd:=Mz X.prog X.w) hall hl h0 h15 (thn (h pins _ σ _ _ I1 (q _ hn)) λws s2 hz9=>?_);obtain⟨ps,H2,I2,rel,e,kvs,ep,lk,q2⟩:=hz9;subst ep;obtain⟨rs,c,rk⟩:=zmh (P:=X.prog) (w:=X.w) rel;obtain⟨z,hd,vs0,r0,dd⟩:=bA I2.hok e;cases r0;refine⟨rs,c,dd,λh' dd' hs=>(Bj BN _ ?_ q2)⟩;have hz:AD (Yt [] kvs).length:=by
  have h1:=zie kvs [];rw[Xf] at h1;rw[K3];omega
 have he:∃q,AJ s.heap.objs.size q:=let ⟨q,_,_,hq,_⟩:=dd';⟨q,hq⟩;exact rB I2 (by rw[e];exact Tw) hs he (zy6 hz hd (rk.merge .nil) dd')
structure M1(X:Cx)(o:Expr)(m:Str)(apos:Pos)(e:Expr)(cpos:Pos):Prop where
 base:Uj o m X.env (eval o X.env)=eval o X.env
 few:((Vr cpos (Vp [e] X.env)).all (λx=>!x.1)&&(V4 cpos (V0 [] X.env)).all (λx=>x.1.isSome)
  && decide (([e]:List Expr).length+([]:List V7).length+(if ([]:List V7).isEmpty then 0 else 1)<30))=true
 line:(apos.endLine == cpos.line)=true
 trees:Vr cpos (Vp [e] X.env)=[(false,eval e X.env)]
structure M2(X:Cx)(o:Expr)(m:Str)(apos:Pos)(e f:Expr)(cpos:Pos):Prop where
 base:Uj o m X.env (eval o X.env)=eval o X.env
 few:((Vr cpos (Vp [e,f] X.env)).all (λx=>!x.1)&&(V4 cpos (V0 [] X.env)).all (λx=>x.1.isSome)
  && decide (([e,f]:List Expr).length+([]:List V7).length+(if ([]:List V7).isEmpty then 0 else 1)<30))=true
 line:(apos.endLine == cpos.line)=true
 trees:Vr cpos (Vp [e,f] X.env)=[(false,eval e X.env),(false,eval f X.env)]
noncomputable def IsD(H:Hp)(a:Addr):Prop:=(∃kvs,Rd H a (.dK kvs)) \/ ∃kvs,Rd H a (.dT kvs)
theorem ye6{X:Cx}{pins:A7}{σ:St}{H:Hp}{s:Ke}{a:Addr}(I:Ak)(d:IsD H a) :
  s.TypeIs Av "dict" /\ (∀b,KJ a= Cs-> ∃ob,Cp b ob/\ob.dict=none)/\Be a QH:=by
 rcases d with ⟨kvs,e⟩ | ⟨kvs,e⟩
 .obtain⟨_,hd,vs,_,dd⟩:=Yq I.hok e;refine⟨dd.typeIs,λb q=>?_,hd⟩;cases q;obtain⟨ob,_,_,h1,h2,_⟩:=dd;exact⟨ob,h1,h2.2.1⟩
 .obtain⟨_,hd,xs,_,dd⟩:=Yr I.hok e;refine⟨dd.typeIs,λb q=>?_,hd⟩;cases q;obtain⟨ob,_,_,h1,h2,_⟩:=dd;exact⟨ob,h1,h2.2.1⟩
section
variable{X:Cx}{pins:List (Addr×Obj)}{σ:St}{H:Hp}{s:Ke}{a:Addr}{y d:V}{u r:Ka}{o:Option V}{A:Ks}{E:Ka->Ke->Prop}
theorem yjf{Q:Ka->Af}(hu:A.units+1<Ln)(I:Ak)(g:DGet H a y o)(ry:Bi y)(rd:RelV d r)(h:∀w' s',Fu s'->RelV (o.getD d) w'->Q w' s') :
  ET A (Gq "dict.get" [Av,u,r]) Q E s:=by
 rcases g with ⟨kvs,k,e,ey,l⟩ | ⟨kvs,k,b,e,ey,eb,l⟩
 .subst ey;obtain⟨z,hd,vs,rel,dd⟩:=Yq I.hok e;refine nQ Zo0 dd.typeIs Zso (Zr8 _ _ _) (meets_dict_get_default (Mz X.prog X.w) a (Wj ry) hd r) (Ar dd.mapOf (h _ _ DH ?_));rw[l];exact(rel.val k).getD rd
 .subst ey;cases (show u=KJ b from ry);obtain⟨z,hd,xs,rel,dd⟩:=Yr I.hok e;refine nQ Zo0 dd.typeIs Zso (Zr8 _ _ _) (meetsH_dict_get_default (V3 (Mz X.prog X.w)) a b hd r) ⟨mU hu,k,xs,bB I.hok eb,dd,h _ _ DH ?_⟩;rw[l];exact(rel.val k).getD rd
end
noncomputable def zw9(td ty tx:TE):TE:=λσ H Q=>td σ H λx H1=>∃a,x= Av/\IsD H1 a/\ty σ H1 λy H2=>tx σ H2 λz H3=>∃o,DGet H3 a y o/\Q (o.getD z) H3
section
variable{X:Cx}{o e f:Expr}{apos cpos:Pos}{td ty tx:TE}
theorem rF(hu:X.A.units+1<Ln)(ho:Au o td)(he:Au e ty)(hf:Au f tx)(m:M2 X o "get" apos e f cpos):Au (Fy (FA o "get") [e,f] cpos) (zw9 td ty tx):=by
 intro pins s σ H Q I h;refine wpAny_Call_method m.base m.few m.line Zr7 Zo0 PySem.F.type_dict_get (thn (ho pins s σ H _ I h) Gp);obtain⟨x,H1,I1,rx,a,ex,d,q1⟩:=hz9;subst ex;obtain rfl:u=KJ a:=rx;obtain⟨t1,t2,_⟩:=ye6 I1 d;refine(Ck t1 t2);rw[m.trees];refine Z7 rfl (Zpv (oW (thn (he pins s1 σ H1 _ I1 q1) λiv s2 ⟨y,H2,I2,ry,q2⟩ =>
  oW (thn (hf pins s2 σ H2 _ I2 q2) λfv s3 ⟨z,H3,I3,rz,ov,g,q3⟩=>Zqq ?_))));exact yjf hu I3 g ry rz λw' s4 I4 rw'=>⟨_,H3,I4,rw',q3⟩
end
end L2
namespace L2
open PySem PySem.W PySem.Spec PyProof.Rows
noncomputable def rAll(K:Kd):Ai->Hp->B9:=λxs H Q=>∃p,∃bs:List Bool,xs=[Ap]/\A8 H p (bs.map V.bl)/\Q (.bl (bs.all id)) H
noncomputable def rAny(K:Kd):Ai->Hp->B9:=λxs H Q=>∃p,∃bs:List Bool,xs=[Ap]/\A8 H p (bs.map V.bl)/\Q (.bl (bs.any id)) H
section
variable{X:Cx}{prog:Ko}{w:Km}{A:Ks}{E:Ka->Ke->Prop}{s:Ke}
theorem zsp{h':Heap}{o:Obj}{k:Nat}(hk:∀b x,b∉[s.heap.objs.size]->Cj (s.heap.push o) b x->AJ b x):Fe h':=λb x e=>by
 refine hk b x (λhm=>?_) (A0 e);have h1:=Bv;rw[K5.mp hm] at h1;exact Vq _ h1
theorem zrp:∀{bs:List Bool} {us:Am},BY (bs.map V.bl)->us=bs.map Px
 | [],_,.nil=>rfl
 | b::bs,_,.cons r1 r2=>by rw[zrp r2];cases r1;rfl
theorem zvp:∀bs:List Bool,((K6 bs.length).all λi=>(bs[i]?).getD true)=bs.all id:=λbs=>by
 rw[LK,mF,mF];constructor
 .intro h b hb;obtain⟨i,hi,e⟩:=xP hb;have:=h i (Ni.mpr hi);rw[Kv hi,VG,e] at this;exact this
 .intro h i hi;have hi':=Ni.mp hi;rw[Kv hi',VG];exact h _ (RN hi')
theorem zvo:∀bs:List Bool,((K6 bs.length).any λi=>(bs[i]?).getD false)=bs.any id:=λbs=>by
 rw[LK,Pk,Pk];constructor
 .rintro⟨i,hi,h⟩;have hi':=Ni.mp hi;rw[Kv hi',VG] at h;exact(Ar (RN hi') h)
 .rintro⟨b,hb,h⟩;obtain⟨i,hi,e⟩:=xP hb;refine(Ck i (Ni.mpr hi));rw[Kv hi,VG,e];exact h
theorem yc8(hc:Ex):DZ X "all" (rAll X.K):=by
 intro pins s σ H xs us Q I r h;obtain⟨p,bs,rfl,hq,q⟩:=h;obtain⟨u,rfl,ru⟩:=Qc r;cases ru;obtain⟨its,rv,pl,_⟩:=EL;obtain rfl:=zrp rv;have hl:=pl.isList;have hlt:Er p:=by obtain⟨_,e,_⟩:=hl;exact Ld e
 refine call_all_walk (mW hl ⟨s.heap.objs.size,[s.heap.objs.size,p],[s.heap.objs.size],(bs.map Px).toArray.size,_,_,λi=>(bs[i]?).getD true,rfl,
  Zyx (A:=X.A.in1) D3 _ p (KY hlt) _,⟨(Bh _ (BP _) rfl),hl.push _⟩,λi v s' Q' E' hP hQ=>?_,λh' tk hk=>?_⟩)
 .have hP':Ah (bs.map Px) v:=by simpa using hP
  rw[KR] at hP';cases hb:bs[i]? with
  | none=>rw[hb] at hP';cases hP'
  | some b =>
   rw[hb] at hP';cases hP';simp only[hb,VG] at hQ;exact Ui hQ
 .have e:((K6 (bs.map Px).toArray.size).all λi=>(bs[i]?).getD true)=bs.all id:=by
   rw[Nz,Kg];exact zvp bs
  rw[e];exact(Bj (.bl _) H (I.kept (zsp (k:=0) hk)) q)
theorem ycq(hc:Ex):DZ X "any" (rAny X.K):=by
 intro pins s σ H xs us Q I r h;obtain⟨p,bs,rfl,hq,q⟩:=h;obtain⟨u,rfl,ru⟩:=Qc r;cases ru;obtain⟨its,rv,pl,_⟩:=EL;obtain rfl:=zrp rv;have hl:=pl.isList;have hlt:Er p:=by obtain⟨_,e,_⟩:=hl;exact Ld e
 refine call_any_walk (mW hl ⟨s.heap.objs.size,[s.heap.objs.size,p],[s.heap.objs.size],(bs.map Px).toArray.size,_,_,λi=>(bs[i]?).getD false,rfl,
  Zyx (A:=X.A.in1) D3 _ p (KY hlt) _,⟨(Bh _ (BP _) rfl),hl.push _⟩,λi v s' Q' E' hP hQ=>?_,λh' tk hk=>?_⟩)
 .have hP':Ah (bs.map Px) v:=by simpa using hP
  rw[KR] at hP';cases hb:bs[i]? with
  | none=>rw[hb] at hP';cases hP'
  | some b =>
   rw[hb] at hP';cases hP';simp only[hb,VG] at hQ;exact Ui hQ
 .have e:((K6 (bs.map Px).toArray.size).any λi=>(bs[i]?).getD false)=bs.any id:=by
   rw[Nz,Kg];exact zvo bs
  rw[e];exact(Bj (.bl _) H (I.kept (zsp (k:=0) hk)) q)
noncomputable def two(x y:Str)(t u:Tok):BT:=#[.str x t,.str y u]
theorem rG{x y:Str}{t u:Tok}:∀(i:Nat) (v:Ka),Ah (two x y t u) v-> ∃k,v= .str (if i=0 then x else y) k
 | 0,v,h=>⟨t,by simp[two] at h;simp[h.symm]⟩
 | 1,v,h=>⟨u,by simp[two] at h;simp[h.symm]⟩
 | i+2,v,h=>by simp[two] at h
theorem zn8{x y:Str}{t u:Tok}{Q:Ka->Af}(hh:DN)
  (h:∀h' tk,Fe h'->Q (if y.cps.toList<x.cps.toList then .str y u else .str x t) { s with heap:=h',toks:=tk }):AH (Gq "min" [.str x t,.str y u]):=by
 have hT:(CP "tuple" (.seq (two x y t u))).IsTuple s.heap.objs.size (two x y t u):=(BH _ (BP _) 0 rfl);have hsz:(CP "tuple" (.seq (two x y t u))).objs.size=BQ 1:=Mq ..;refine call_min_two (zG hT ?_);refine⟨_,[_,s.heap.objs.size],[_],_,_,_,λi j=>AF (EB (i=0)) (EB (j=0)),rfl,Zx4 (A:=A.in1) hh _ s.heap.objs.size (KY (by rw[Mq];lia)) (two x y t u),⟨(Bh _ (BP _) rfl),hT.push _⟩,λc hc=>?_,by simp[two],?_,λv h' tk hP hk=>?_⟩
 .show c<((s.heap.push _).push _).objs.size;rw[Mq,Mq];simp only[KH,OD,or_false] at hc;rcases hc with rfl | rfl;.rw[Mq];exact Q9 _
  .exact VD (Q9 _)
 .intro i j vi vj s' Q' E' hi hj hq;obtain⟨k1,rfl⟩:=rG i vi hi;obtain⟨k2,rfl⟩:=rG j vj hj;exact mX (op:=.Lt) (Tf _ _ _) (Tf _ _ _) Zz8 Zzm (Zyn _ _) (gives_str_lt _ _ _ _) (λe=>nomatch e) hq
 .have hold:Fe h':=λc o e=>by
   have h1:=Bv;refine hk c o (λhm=>?_) (A0 (A0 e));rw[K5.mp hm,Mq] at h1;exact Fl (Zv4 h1) _
  have:=h h' tk hold;have hsz2:(two x y t u).size - 1=1:=by simp[two]
  have hP':AM (two x y t u) (R1 (λi j=>AF (EB (i=0)) (EB (j=0))) 1) v:=by rw[<- hsz2];exact hP
  by_cases hyx:y.cps.toList<x.cps.toList
  .have e:R1 (λi j=>AF (EB (i=0)) (EB (j=0))) 1=1:=by simp[R1,hyx]
   rw[e] at hP';rw[if_pos hyx] at this;simp[two] at hP';rw[<- hP'];exact this
  .have e:R1 (λi j=>AF (EB (i=0)) (EB (j=0))) 1=0:=by simp[R1,hyx]
   rw[e] at hP';rw[if_neg hyx] at this;simp[two] at hP';rw[<- hP'];exact this
theorem zm9{x y:Str}{t u:Tok}{Q:Ka->Af}(hh:DN)
  (h:∀h' tk,Fe h'->Q (if x.cps.toList<y.cps.toList then .str y u else .str x t) { s with heap:=h',toks:=tk }):AH (Gq "max" [.str x t,.str y u]):=by
 have hT:(CP "tuple" (.seq (two x y t u))).IsTuple s.heap.objs.size (two x y t u):=(BH _ (BP _) 0 rfl);have hsz:(CP "tuple" (.seq (two x y t u))).objs.size=BQ 1:=Mq ..;refine call_max_two (zG hT ?_);refine⟨_,[_,s.heap.objs.size],[_],_,_,_,λi j=>AF (EB (j=0)) (EB (i=0)),rfl,Zx4 (A:=A.in1) hh _ s.heap.objs.size (KY (by rw[Mq];lia)) (two x y t u),⟨(Bh _ (BP _) rfl),hT.push _⟩,λc hc=>?_,by simp[two],?_,λv h' tk hP hk=>?_⟩
 .show c<((s.heap.push _).push _).objs.size;rw[Mq,Mq];simp only[KH,OD,or_false] at hc;rcases hc with rfl | rfl;.rw[Mq];exact Q9 _
  .exact VD (Q9 _)
 .intro i j vi vj s' Q' E' hi hj hq;obtain⟨k1,rfl⟩:=rG i vi hi;obtain⟨k2,rfl⟩:=rG j vj hj;exact mX (op:=.Gt) (Tf _ _ _) (Tf _ _ _) F.slot_str_gt F.entry_str_gt (F.args_str_gt_2 _ _) (gives_str_gt _ _ _ _) (λe=>nomatch e) hq
 .have hold:Fe h':=λc o e=>by
   have h1:=Bv;refine hk c o (λhm=>?_) (A0 (A0 e));rw[K5.mp hm,Mq] at h1;exact Fl (Zv4 h1) _
  have:=h h' tk hold;have hsz2:(two x y t u).size - 1=1:=by simp[two]
  have hP':AM (two x y t u) (R1 (λi j=>AF (EB (j=0)) (EB (i=0))) 1) v:=by rw[<- hsz2];exact hP
  by_cases hyx:x.cps.toList<y.cps.toList
  .have e:R1 (λi j=>AF (EB (j=0)) (EB (i=0))) 1=1:=by simp[R1,hyx]
   rw[e] at hP';rw[if_pos hyx] at this;simp[two] at hP';rw[<- hP'];exact this
  .have e:R1 (λi j=>AF (EB (j=0)) (EB (i=0))) 1=0:=by simp[R1,hyx]
   rw[e] at hP';rw[if_neg hyx] at this;simp[two] at hP';rw[<- hP'];exact this
theorem zlh(hc:Ex):DZ X "min" (λxs H Q=>∃l m:Ae,xs=[Dc l,Dc m]/\Q (Dc (if m<l then m else l)) H):=by
 intro pins s σ H xs us Q I r h;obtain⟨l,m,rfl,q⟩:=h;obtain⟨u,w',rfl,⟨t,rfl⟩,⟨t',rfl⟩⟩:=Qd r;refine zn8 D3 λh' tk k=>⟨_,H,I.kept k,?_,q⟩;rw[R9,R9];split <;> exact(AY _)
theorem zkv(hc:Ex):DZ X "max" (λxs H Q=>∃l m:Ae,xs=[Dc l,Dc m]/\Q (Dc (if l<m then m else l)) H):=by
 intro pins s σ H xs us Q I r h;obtain⟨l,m,rfl,q⟩:=h;obtain⟨u,w',rfl,⟨t,rfl⟩,⟨t',rfl⟩⟩:=Qd r;refine zm9 D3 λh' tk k=>⟨_,H,I.kept k,?_,q⟩;rw[R9,R9];split <;> exact(AY _)
end
end L2
namespace L2
open PySem PySem.W PySem.Spec PyProof.Rows PySem.Calls
open PySem.MeetsSeq PySem.MeetsSeq2 PySem.MeetsSeq3
theorem zqx{t:Ty}{d e:D}{u v:Ka}(h1:Aa (t.ok d))(h2:Aa (t.ok e))(ru:FV d u)(rv:FV e v){prog:Ko}{w:Km}{A:Ks}{E:Ka->Af}{s:Ke}{Q:Ka->Af}(q:Q (.bool (AF d.fo e.fo)) s) :
  AH (richCompare .Lt u v):=by
 cases t <;> cases d <;> simp[Ty.ok] at h1 <;> cases e <;> simp[Ty.ok] at h2
 .obtain⟨t,rfl⟩:=ru;obtain⟨t',rfl⟩:=rv;rename_i l m;have ee:AF (T l).cps.toList (T m).cps.toList=AF (D.str l).fo (D.str m).fo:=by
   rw[R9,R9,LK,decide_eq_true_eq,decide_eq_true_eq];exact zn6 l m
  rw[<- ee] at q;exact mX (op:=.Lt) (Tf _ _ _) (Tf _ _ _) Zz8 Zzm (Zyn _ _) (gives_str_lt _ _ _ _) (λe=>nomatch e) q
 .obtain⟨t,rfl⟩:=ru;obtain⟨t',rfl⟩:=rv;rename_i i j;have ee:AF i j=AF (D.int i).fo (D.int j).fo:=by
   rw[LK];simp[D.fo,QC]
  rw[<- ee] at q;exact mX (op:=.Lt) (Zxx _ _ _) (Zxx _ _ _) F.slot_int_lt F.entry_int_lt (F.args_int_lt_2 _ _) (gives_int_lt _ _ _ _) (λe=>nomatch e) q
theorem zvz{t:Ty}{d e:D}{ds es:Ac}(h1:Aa (t.ok d))(h2:Aa (t.ok e)):AF ((d::ds).map D.fo) ((e::es).map D.fo)=AR d e (AF (ds.map D.fo) (es.map D.fo)) (AF d.fo e.fo):=by
 by_cases hde:d=e
 .subst hde;rw[BR,LK];simp only[decide_eq_true_eq,Kq,QC];exact⟨λh=>h.elim (λz=>absurd z (RT _)) λz=>z.2,λh=>C1 trivial h⟩
 .have hf:¬ d.fo=e.fo:=λz=>hde (aX h1 h2 z);rw[if_neg hde,LK];simp only[decide_eq_true_eq,Kq,QC];exact⟨λh=>h.elim id λz=>absurd z.1 hf,λh=>.inl h⟩
theorem zoc (l b : Addr) (items items2 : BT) (n n2 : Nat) (dd dd2 : CB) (sl sl2 : Array A4) (ts : List Ty) (ds es : Ac) (k1 : shOk ts ds = true) (k2 : shOk ts es = true) (hi : FVs ds items.toList) (hj : FVs es items2.toList) (hsz : items.size = items2.size) :
  Meets (Mu.«tuple.__lt__» (Br [Cd,Cs]))
   (λ_ R s=>Cp l { cls:=EU, dict:=dd,data:=.seq items n,slots:=sl }/\Cp b { cls:=EU, dict:=dd2,data:=.seq items2 n2,slots:=sl2 } /\
    R (EY (.bool (AF (ds.map D.fo) (es.map D.fo)))) s) :=
 .of_wp λprog w A R s h=>by
  obtain⟨hp,g,d,tk,os⟩:=s;obtain⟨hl,hb,h⟩:=h;have f2:=Zrm;wp_walk using O7 hl,O7 hb,Xr _ (λrest b s'=>b.1=none/\s'=(CY hp g d tk) /\ ∃(vs ws:Am) (ts':List Ty) (ds' es':Ac),rest=vs.zip ws /\
   Aa (shOk ts' ds')/\Aa (shOk ts' es')/\FVs ds' vs/\FVs es' ws/\R (EY (.bool (AF (ds'.map D.fo) (es'.map D.fo)))) (CY hp g d tk)) _;case turn =>
   rintro⟨y,x⟩ rest b s' ⟨hb',rfl,vs,ws,ts',ds',es',hz,k1',k2',hvi,hwi,hR⟩;cases hvi with
   | nil=>rw[List.zip_nil_left] at hz;cases hz
   | cons a1 a2 =>
    cases hwi with
    | nil=>rw[List.zip_nil_right] at hz;cases hz
    | cons b1 b2 =>
     cases ts' with
     | nil=>simp[shOk] at k1'
     | cons t ts' =>
     rw[Xb] at hz;injection hz with hyx hrest;injection hyx with hy hx;subst hy hx;simp only[shOk,Lk] at k1' k2';rw[zvz k1'.1 k2'.1] at hR;refine Kc (zr4 k1'.1 k2'.1 a1 b1 ?_);split at hR
     .rename_i hde;rw[decide_eq_true hde];wp_walk;exact⟨rfl,rfl,_,_,_,_,_,hrest,k1'.2,k2'.2,a2,b2,hR⟩
     .rename_i hde;rw[decide_eq_false hde];refine Kc (XD ?_);refine Kc (zqx k1'.1 k2'.1 a1 b1 ?_);wp_walk;exact(Ar rfl (by simpa using hR))
  case fin =>
   rintro⟨b1,b2⟩ s' ⟨hb',rfl,vs,ws,ts',ds',es',hz,k1',k2',hvi,hwi,hR⟩;simp only at hb';subst hb';have hv:AF (ds'.map D.fo) (es'.map D.fo)=AF items.size items2.size:=by
    rw[decide_eq_false (show ¬ items.size<items2.size by lia)];cases hvi with
    | nil =>
     cases hwi with
     | nil=>rfl
     | cons b1 b2=>cases ts' <;> simp[shOk] at k1' k2'
    | cons a1 a2 =>
     cases hwi with
     | nil=>cases ts' <;> simp[shOk] at k1' k2'
     | cons b1 b2=>rw[Xb] at hz;cases hz
   rw[hv] at hR;wp_walk;exact(Ar rfl (by simpa[Zyo] using hR))
  case h =>
   exact⟨rfl,rfl,items.toList,items2.toList,ts,ds,es,rfl,k1,k2,hi,hj,h⟩
theorem FVs.len{ds:Ac}{us:Am}(h:FVs ds us):us.length=ds.length:=by
 induction h with
 | nil=>rfl
 | cons _ _ ih=>simp[ih]
theorem znq:∀{ts:List Ty} {ds:Ac},Aa (shOk ts ds)->DJ ts.length
 | [],[],_=>rfl
 | [],_::_,h=>by simp[shOk] at h
 | _::_,[],h=>by simp[shOk] at h
 | _::ts,_::ds,h=>by simp only[shOk,Lk] at h;simp[znq h.2]
section
variable{K:Kd}{G Hz L:Hp}{ss:List Sl}{t ta tb:TE}{d:D}{ds es:List D}
theorem Reps.bools{H:Hp}:∀{bs:List Bool} {vs:Ai},AN H (bs.map D.bl) vs->vs=bs.map V.bl
 | [],vs,h=>by rw[PK,Reps] at h;exact h
 | b::bs,vs,h=>by
  rw[Kq,Reps] at h;obtain⟨x,xs,rfl,h1,h2⟩:=h;rw[h1.of_bl,h2.bools];rfl
theorem yig{bs:List Bool}(a:EvL K G Hz L ss t (bs.map D.bl)):Cc (tCB (rAll K) (BV t)) (bs.all id):=λF H σ Q S q =>
 a F H σ _ S λp vs F1 H1 e1 sq r1=>(BH p bs (by rw[r1.bools] at sq;exact sq) (q _ _ _ e1 Rep.bl))
theorem yi8{bs:List Bool}(a:EvL K G Hz L ss t (bs.map D.bl)):Cc (tCB (rAny K) (BV t)) (bs.any id):=λF H σ Q S q =>
 a F H σ _ S λp vs F1 H1 e1 sq r1=>(BH p bs (by rw[r1.bools] at sq;exact sq) (q _ _ _ e1 Rep.bl))
noncomputable def minL(l m:Ae):Ae:=if m<l then m else l
noncomputable def maxL(l m:Ae):Ae:=if l<m then m else l
theorem zr6{l m:Ae}(a:A1 ta (.str l))(b:A1 tb (.str m)):Ay (tCB (λxs H Q=>∃l m:Ae,xs=[Dc l,Dc m]/\Q (Dc (if m<l then m else l)) H) (Ol ta (BV tb))) (.str (minL l m)):=λF H σ Q S q =>
 Ec F H σ _ S (b F1 H1 σ _ Cg λv2 F2 H2 e2 r2=>⟨l,m,by rw[r1.of_str,r2.of_str],q _ _ _ Cf (Rep.str (by unfold minL;split;exact r2.asc;exact r1.asc))⟩)
theorem zrz{l m:Ae}(a:A1 ta (.str l))(b:A1 tb (.str m)):Ay (tCB (λxs H Q=>∃l m:Ae,xs=[Dc l,Dc m]/\Q (Dc (if l<m then m else l)) H) (Ol ta (BV tb))) (.str (maxL l m)):=λF H σ Q S q =>
 Ec F H σ _ S (b F1 H1 σ _ Cg λv2 F2 H2 e2 r2=>⟨l,m,by rw[r1.of_str,r2.of_str],q _ _ _ Cf (Rep.str (by unfold maxL;split;exact r2.asc;exact r1.asc))⟩)
end
end L2
namespace L2
open PySem PySem.W PySem.Spec PyProof.Rows
noncomputable def slots(n:Nat)(ds:Ac):Do:=ds.map Sl.d++mG (n - ds.length) .un
section
variable{K:Kd}{H:Hp}{vs:List V}{Q:VK}{X:XK}{N:List Str}{t:TS}{pre:List D->Prop}
theorem Ro{G:Hp}{ds:Ac}(sm:Same G H)(r:Bc G vs)(hN:FQ):Sat K G H G G H (Em N) (DY ds):=by
 have hl:=r.length;have ads:∀(i:Nat) s,Ah (DY ds) s->s.ads=[]:=λi s hs=>by
  have hm:=KD hs;unfold slots at hm;rcases K9.mp hm with h | h;.obtain⟨d,_,rfl⟩:=Kr.mp h;rfl
  .rw[Zs1 h];rfl
 refine⟨Ext.refl sm,Same.refl _,?_,λi s hs=>?_,λi s hs=>by rw[ads i s hs];exact RQ,λi j s s' _ hs _ p hp=>by rw[ads i s hs] at hp;cases hp⟩;.unfold start slots;simp;lia
 .by_cases hi:i<ds.length
  .have e:Ah (DY ds) (.d ds[i]):=by
    unfold slots;rw[Qz (by simpa using hi),KR,Kv hi];rfl
   rw[e] at hs;cases hs;obtain⟨v,hv,rv⟩:=r.get' (Kv hi);refine⟨v,?_,rv⟩;unfold start;rw[Kz,Qz (by simp;lia),KR,hv];rfl
  .have hm:s= .un:=by
    unfold slots at hs;rw[SN (by simp;lia)] at hs;exact Zs1 (KD hs)
   rw[hm];trivial
theorem yie{res:Ac->D}(h:SpD K pre res vs H Q X)(hN:FQ)(body:∀G ds,B0->RtD K G H Q (res ds)->Go K G H G Cv (DY ds) t):t Cv (Em N) H:=by
 obtain⟨G,ds,sm,r,hp,q⟩:=h;exact body G ds hp (λv F H' e r=>q v F H' e r) G H _ (Ro sm r hN)
theorem yj4{res:Ac->Ac}(h:SpO K pre res vs H Q X)(hN:FQ)(body:∀G ds,B0->RtO K G H Q (res ds)->Go K G H G Cv (DY ds) t):t Cv (Em N) H:=by
 obtain⟨G,ds,sm,r,hp,q⟩:=h;exact body G ds hp (λp ws F H' e h1 h2 h3 r=>q p ws F H' e h1 h2 h3 r) G H _ (Ro sm r hN)
theorem zz6{res:Ac->D}{n:Nat}(hpre:∀ds,B0->DJ n)(h:SpD K pre res vs H Q X):vs.length=n:=by
 obtain⟨G,ds,sm,r,hp,q⟩:=h;rw[<- r.length];exact hpre ds hp
theorem zzg{res:Ac->Ac}{n:Nat}(hpre:∀ds,B0->DJ n)(h:SpO K pre res vs H Q X):vs.length=n:=by
 obtain⟨G,ds,sm,r,hp,q⟩:=h;rw[<- r.length];exact hpre ds hp
end
section
variable{K:Kd}{G Hz L:Hp}{ss:List Sl}{t ta tb:TE}{d:D}{ds es:List D}{i j:Int}
theorem kZ(a:DP ta)(b:A1 tb (.int j))(h:0<j):Ay (Ct (rI (λ_ j=>0<j) (EH (i % j))) tb) (.int (i % j)):=qI (C:=λ_ j=>0<j) (g:=λi j=>i % j) a b h
theorem rH(a:DP ta)(b:A1 tb (.int j))(h:CMul i j):Ay (Ct (rI CMul (EH (i*j))) tb) (.int (i*j)):=qI (C:=CMul) (g:=λi j=>i*j) a b h
theorem Yu(a:DP ta)(b:A1 tb (.int j))(h:CDiv i j):Ay (Ct (rI CDiv (EH (i / j))) tb) (.int (i / j)):=qI (C:=CDiv) (g:=λi j=>i / j) a b h
theorem yhx(a:DP ta)(b:A1 tb (.int j)):Cc (Ct (rI0 λi j=>.bl (AF i j)) tb) (AF i j):=zrf (g:=λi j=>AF i j) a b
end
theorem zyj(n d:Nat){a:Int}(h:0<=a):HT.sIx n d (some a)=min a.toNat n:=by
 show(if a<0 then (a+(n:Int)).toNat else min a.toNat n)=_;rw[if_neg (by lia)]
theorem zk9(m:Ac){b:Int}(h:0<=b):cutD m (some b) none=m.drop b.toNat:=by
 unfold cutD;rw[zyj _ _ h,show HT.sIx m.length m.length none=m.length from rfl,Xa (by rw[VB];lia)];by_cases hh:b.toNat<=m.length;.rw[yI hh]
 .rw[Zwg (by lia),List.drop_length,xK (by lia)]
theorem zti(m:Ac){a b:Int}(h:0<=a)(h2:a<=b):cutD m (some a) (some b)=(m.drop a.toNat).take (b.toNat - a.toNat):=by
 unfold cutD;rw[zyj _ _ h,zyj _ _ (by lia)];by_cases h3:a.toNat<=m.length
 .rw[yI h3];by_cases h4:b.toNat<=m.length;.rw[yI h4]
  .rw[Zwg (by lia),Xa (by simp),Xa (by simp;lia)]
 .rw[xK (as:=m) (i:=a.toNat) (by lia),xK (by omega)];simp
theorem zs6{α β:Type}(xs:AK)(z:α)(p:α->Bool)(f:α->β):EZ (K6 xs.length) (λi=>p (xs.getD i z)) (λi=>f (xs.getD i z))=(xs.filter p).map f:=by
 have e:xs=DU xs.length (λi=>xs.getD i z):=by
  refine Qn λi=>?_
  rw[KR]
  by_cases hi:i<xs.length
  .rw[Q8 hi,Kv hi];simp[Kz,hi]
  .rw[RB (by lia),RB (by simp;lia)];rfl
 conv=>rhs;rw[e]
 rw[Zwn,Lf]
 rfl
section
variable{K:Kd}{G Hz L:Hp}{ss:List Sl}
theorem U0{α:Type}(xs:AK)(enc:α->D)(p:α->Bool)(f:α->D){tl:TE}{g:TG}{tt:TT}{te:TE}{nt:Nat}{cs:Ae}(a:EvL K G Hz L ss tl (xs.map enc))(hk:GK nt g)(hc:cs.Nodup)(hz:Dk xs.length)
  (hs:∀x∈xs,∃ss',Tg K G Hz L g (enc x) (lcSl nt cs ss) ss'/\EvT K G Hz L ss' tt (p x)/\(Aa (p x)->Ev K G Hz L ss' te (f x))) :
  EvO K G Hz L ss (tLC nt cs (aN K tl) g tt te) ((xs.filter p).map f):=by
 cases xs with
 | nil =>
  have:=zsk (p:=λ_=>true) (f:=λ_=>.non) (tt:=tt) (te:=te) (zsv a) hk hc (by simpa using hz) (λi hi=>by simp at hi);simpa using this
 | cons z zs =>
  have hl:CJ ((z::zs).map enc) (z::zs).length:=by simp
  have:=zsk (p:=λi=>p ((z::zs).getD i z)) (f:=λi=>f ((z::zs).getD i z)) (tt:=tt) (te:=te) (zsv a) hk hc (by rw[hl];exact hz) (λi hi=>by
   rw[hl] at hi;have hm:(z::zs).getD i z∈(z::zs):=by
    rw[Kz,Kv hi];exact RN hi
   have e:EO ((z::zs).map enc) i=enc ((z::zs).getD i z):=by
    rw[Kz,KR,Kz,Kv hi];rfl
   rw[e];exact hs _ hm);rw[hl,zs6] at this;exact this
theorem ztp:EvT K G Hz L ss Yi true:=λF H σ Q S q=>q _ _ DA
theorem U3{α:Type}(xs:AK)(enc:α->D)(f:α->D){tl:TE}{g:TG}{te:TE}{nt:Nat}{cs:Ae}(a:EvL K G Hz L ss tl (xs.map enc))(hk:GK nt g)(hc:cs.Nodup)(hz:Dk xs.length)
  (hs:∀x∈xs,∃ss',Tg K G Hz L g (enc x) (lcSl nt cs ss) ss'/\Ev K G Hz L ss' te (f x)) :
  EvO K G Hz L ss (tLC nt cs (aN K tl) g Yi te) (xs.map f):=by
 have:=U0 xs enc (λ_=>true) f a hk hc hz (tt:=Yi) (te:=te) λx hx=>by
  obtain⟨ss',h1,h2⟩:=hs x hx;exact⟨ss',h1,ztp,λ_=>h2⟩
 rw[show xs.filter (λ_=>true)=xs from Zuk.mpr (by simp)] at this;exact this
theorem ycj{α:Type}{z:Ae}{xs:AK}{g:α->Ae}{ta t:TE}(a:A1 ta (.str z))(b:EvL K G Hz L ss t (xs.map λx=>D.str (g x)))(hz:((xs.map g).map PL).sum+xs.length*z.length<=16777216):Ay (tBM K "str" (yfm K) ta (BV t)) (.str (glue z (xs.map g))):=by
 refine yfe a ?_ (by rw[Kg (f:=g)];exact hz);rw[Lf];exact b
theorem yhn{α:Type}{xs:AK}{g:α->Bool}{t:TE}(b:EvL K G Hz L ss t (xs.map λx=>D.bl (g x))):Cc (tCB (rAll K) (BV t)) (xs.all g):=by
 have:=yig (K:=K) (G:=G) (Hz:=Hz) (L:=L) (ss:=ss) (t:=t) (bs:=xs.map g) (by rw[Lf];exact b);rw[List.all_map] at this;exact this
theorem yhc{α:Type}{xs:AK}{g:α->Bool}{t:TE}(b:EvL K G Hz L ss t (xs.map λx=>D.bl (g x))):Cc (tCB (rAny K) (BV t)) (xs.any g):=by
 have:=yi8 (K:=K) (G:=G) (Hz:=Hz) (L:=L) (ss:=ss) (t:=t) (bs:=xs.map g) (by rw[Lf];exact b);rw[List.any_map] at this;exact this
theorem wY{x:Str}(ha:∀c∈x.cps.toList,c<128):Ay (tC (.str x)) (.str x.cps.toList):=yee (by cases x;rfl) ha
end
theorem zts:∀ls:Aj,glue [] ls=ls.flatten
 | []=>rfl
 | [x]=>by simp[glue]
 | x::y::r=>by rw[glue,zts (y::r)];simp
theorem yck{α:Type}(xs:AK)(g:α->Nat):glue [] (xs.map λx=>[g x])=xs.map g:=by
 rw[zts];induction xs with
 | nil=>rfl
 | cons x xs ih=>simp[ih]
theorem Reps.cat{K:Kd}{H:Hp}:∀{ds es:Ac} {xs ys:Ai},Bc H xs->AN H es ys->AN H (ds++es) (xs++ys)
 | [],es,xs,ys,h,k=>by rw[Reps] at h;subst h;exact k
 | d::ds,es,xs,ys,h,k=>by
  rw[Reps] at h;obtain⟨x,xs',rfl,h1,h2⟩:=h;exact Reps.cons h1 (h2.cat k)
end L2
namespace L2T
open PySem
theorem rJ(xs:A9)(hp:xs.toList.Pairwise (· < ·))(i k x y:Nat)(hik:i<k)(hx:Ah xs x)(hy:AM xs k y):x<y:=by
 rw[<- Nv] at hx hy;obtain⟨hi',hx'⟩:=Mg.mp hx;obtain⟨hk',hy'⟩:=Mg.mp hy;have h:=Vw.mp hp i k hi' hk' hik;rw[hx',hy'] at h;exact h
theorem ydj(xs:A9)(j:Nat)(hp:xs.toList.Pairwise (· < ·)):∀(fuel lo hi:Nat),hi - lo<=fuel->lo<=hi->hi<=xs.size ->
  (∀i x,i<lo->Ah xs x->x<j)->(∀i x,hi<=i->Ah xs x->j<=x) ->
  (pD xs j fuel lo hi<=xs.size)/\(∀i x,i<pD xs j fuel lo hi->Ah xs x->x<j)/\(∀i x,pD xs j fuel lo hi<=i->Ah xs x->j<=x):=by
 intro fuel;induction fuel with
 | zero =>
  intro lo hi hf hl hs h1 h2;have:lo=hi:=by lia
  subst this;exact⟨hs,h1,h2⟩
 | succ fuel ih =>
  intro lo hi hf hl hs h1 h2;unfold pD;by_cases hlt:lo<hi
  .rw[if_pos hlt];have hm:(lo+hi) / 2<xs.size:=by lia
   have hgm:AM xs ((lo+hi) / 2) xs[(lo+hi) / 2]:=NQ hm;have hgd:xs.getD ((lo+hi) / 2) j=xs[(lo+hi) / 2]:=by simp[SM,hm]
   have hmono:=rJ xs hp;dsimp only;rw[hgd];by_cases hc:xs[(lo+hi) / 2]<j
   .rw[Ff];refine ih _ _ (by omega) (by lia) hs ?_ h2;intro i x hi' hx;by_cases he:i=(lo+hi) / 2;.subst he;rw[hgm] at hx;cases hx;exact hc
    .have:=hmono i ((lo+hi) / 2) x _ (by lia) hx hgm;lia
   .rw[E2];refine ih _ _ (by omega) (by lia) (by lia) h1 ?_;intro i x hi' hx;by_cases he:i=(lo+hi) / 2;.subst he;rw[hgm] at hx;cases hx;lia
    .have:=hmono ((lo+hi) / 2) i _ x (by lia) hgm hx;lia
  .rw[if_neg hlt];have:lo=hi:=by lia
   subst this;exact⟨hs,h1,h2⟩
theorem rK(xs:A9)(j:Nat)(hp:xs.toList.Pairwise (· < ·)) :
  Mr xs j<=xs.size/\(∀i x,i<Mr xs j->Ah xs x->x<j)/\(∀i x,Mr xs j<=i->Ah xs x->j<=x):=by
 unfold Mr;exact ydj xs j hp xs.size 0 xs.size (by lia) (by lia) (by lia) (λi x h=>by lia) (λi x h hx=>by
  have:=(RG.mp hx).1;lia)
theorem Yv(xs:A9)(j:Nat)(hp:xs.toList.Pairwise (· < ·)):AM xs (Mr xs j) j↔j∈xs.toList:=by
 obtain⟨h0,h1,h2⟩:=rK xs j hp;constructor;.intro h;rw[<- Nv] at h;exact KD h
 .intro h;obtain⟨i,hi⟩:=MF.mp h;rw[Nv] at hi;rcases PN i (Mr xs j) with hc | hc;.have:=h1 i j hc hi;lia
  .have hib:=(RG.mp hi).1;have hb:Mr xs j<xs.size:=by lia
   have hg:AM xs (Mr xs j) xs[Mr xs j]:=NQ hb;have h3:=h2 _ _ Az hg;rcases PN (Mr xs j) i with hd | hd
   .have:=rJ xs hp _ _ _ _ hd hg hi;lia
   .have:i=Mr xs j:=by lia
    rw[<- this];exact hi
theorem bD(xs:A9)(j:Nat)(hp:xs.toList.Pairwise (· < ·)):Aa (Zsm xs j)↔j∈xs.toList:=by
 unfold Zsm;rw[beq_iff_eq];exact Yv xs j hp
theorem yca(xs:A9)(i j:Nat)(hp:xs.toList.Pairwise (· < ·))(h:Ah xs j):Mr xs j=i:=by
 have hm:=(Yv xs j hp).mpr (by rw[<- Nv] at h;exact KD h);rw[<- Nv] at h hm;obtain⟨hi,hx⟩:=Mg.mp h;obtain⟨hk,hy⟩:=Mg.mp hm;rcases ZG (Mr xs j) i with hc | hc | hc;.have:=Vw.mp hp _ _ hk hi hc;lia
 .exact hc
 .have:=Vw.mp hp _ _ hi hk hc;lia
theorem U4{α:Type}(xs:Array α)(p:Nat)(x:α)(hp:p<=xs.size):(Mi xs p x).toList=xs.toList.take p++x::xs.toList.drop p:=by
 simp[Mi,Ztq,Zyi,Xa]
theorem rM{α:Type}(xs:Array α)(p:Nat):(Zt1 xs p).toList=xs.toList.take p++xs.toList.drop (p+1):=by
 simp[Zt1,Ztq,Zyi,Xa]
theorem zl6(xs:A9)(j:Nat)(hp:xs.toList.Pairwise (· < ·))(hj:j∉xs.toList) :
  (Mi xs (Mr xs j) j).toList.Pairwise (· < ·):=by
 obtain⟨h0,h1,h2⟩:=rK xs j hp;rw[U4 _ _ _ h0,lV,Zu3];have ht:∀x∈xs.toList.take (Mr xs j),x<j:=by
  intro x hx;obtain⟨i,hi⟩:=MF.mp hx;rw[lY] at hi;split at hi;.rename_i hlt;exact h1 i x hlt (by rw[<- Nv];exact hi)
  .cases hi
 have hd:∀x∈xs.toList.drop (Mr xs j),j<x:=by
  intro x hx;obtain⟨i,hi⟩:=MF.mp hx;rw[Xc] at hi;have:=h2 _ x (Zwi _ i) (by rw[<- Nv];exact hi);have hne:x≠j:=λe=>hj (e ▸ KD hi);lia
 refine(Ck (hp.sublist (xT _ _)) ⟨hd,hp.sublist (Zvj _ _)⟩);intro x hx y hy;rcases KH.mp hy with rfl | hy;.exact ht x hx
 .have:=ht x hx;have:=hd y hy;lia
structure TOk(t:KC):Prop where
 pl:t.place.toList.Pairwise (· < ·)
 du:t.dummies.toList.Pairwise (· < ·)
 ple:∀j∈t.place.toList,j<=t.mask
 dle:∀j∈t.dummies.toList,j<=t.mask
 dis:∀j∈t.dummies.toList,j∉t.place.toList
 pow:∃k,t.mask+1=2 ^ (k+3)
 big:t.mask<=8191
theorem bF{t:KC}(h:TOk t)(j i:Nat):Cr j (.live i)↔Ah t.place j:=by
 unfold Zvb;dsimp only;by_cases hc:AM t.place (Mr t.place j) j
 .rw[if_pos (by rw[beq_iff_eq];exact hc)];constructor;.intro he;cases he;exact hc
  .intro hi;rw[yca _ _ _ h.pl hi]
 .rw[if_neg (by rw[beq_iff_eq];exact hc)];constructor;.intro he;split at he <;> cases he
  .intro hi;exact absurd ((Yv _ _ h.pl).mpr (by rw[<- Nv] at hi;exact KD hi)) hc
theorem rN{t:KC}(h:TOk t)(j:Nat):Cr j .dummy↔j∈t.dummies.toList:=by
 unfold Zvb;dsimp only;by_cases hc:AM t.place (Mr t.place j) j
 .rw[if_pos (by rw[beq_iff_eq];exact hc)];constructor;.intro he;cases he
  .intro hi;exact absurd ((Yv _ _ h.pl).mp hc) (h.dis j hi)
 .rw[if_neg (by rw[beq_iff_eq];exact hc)];by_cases hd:Aa (Zsm t.dummies j);.rw[if_pos hd];exact⟨λ_=>(bD _ _ h.du).mp hd,λ_=>rfl⟩
  .rw[if_neg hd];exact⟨λhe=>(by cases he),λhe=>absurd ((bD _ _ h.du).mpr he) hd⟩
theorem bG{t:KC}(h:TOk t)(j:Nat):Cr j .empty↔(j∉t.place.toList/\j∉t.dummies.toList):=by
 constructor
 .intro he;refine⟨λhm=>?_,λhm=>?_⟩
  .obtain⟨i,hi⟩:=MF.mp hm;rw[Nv] at hi;rw[(bF h j i).mpr hi] at he;cases he
  .rw[(rN h j).mpr hm] at he;cases he
 .rintro⟨h1,h2⟩;cases hs:t.slot j with
  | empty=>rfl
  | dummy=>exact absurd ((rN h j).mp hs) h2
  | live i =>
   have:=(bF h j i).mp hs;rw[<- Nv] at this;exact absurd (KD this) h1
theorem zwm:∀(n:Nat) (L:Ae),(∀x,x<n->x∈L)->n<=L.length:=by
 intro n;induction n with
 | zero=>intro L _;exact BM
 | succ n ih =>
  intro L h;have hn:n∈L:=h n (by lia);have h1:=ih (L.erase n) (λx hx=>(xN (by lia)).mpr (h x (by lia)));have h2:=xH hn;have h3:0<L.length:=lL hn;lia
theorem zmk{t:KC}(h:TOk t)(hr:t.fill<=t.mask):∃e,e<=t.mask/\Cr e .empty:=by
 refine Zy λhc=>?_;have hall:∀x,x<t.mask+1->x∈t.place.toList++t.dummies.toList:=by
  intro x hx;refine Zy λhn=>hc ⟨x,by lia,(bG h x).mpr ?_⟩;rw[K9] at hn;exact⟨λa=>hn (.inl a),λa=>hn (.inr a)⟩
 have:=zwm _ _ hall;simp only[Zvc,K8,NZ] at this hr;lia
noncomputable def lcg:Nat->Nat->Nat
 | 0,x=>x
 | n+1,x=>lcg n (5*x+1)
theorem zsl(m n x:Nat):lcg (m+n) x=lcg n (lcg m x):=by
 induction m generalizing x with
 | zero=>simp[lcg]
 | succ m ih=>rw[Nat.succ_add];exact ih _
theorem yf4:∀k,∃u v,∀x,lcg (2 ^ k) x=(1+2 ^ (k+2)*u)*x+2 ^ k*(2*v+1):=by
 intro k
 induction k with
 | zero=>exact⟨1,0,λx=>by simp[lcg]⟩
 | succ k ih =>
  obtain⟨u,v,h⟩:=ih
  refine⟨u+2 ^ (k+1)*u*u,v+2 ^ k*u*(2*v+1),λx=>?_⟩
  have e:2 ^ (k+1)=2 ^ k+2 ^ k:=by lia
  conv=>lhs;rw[e]
  rw[zsl,h,h]
  have e1:2 ^ (k+2)=4*2 ^ k:=by rw[OJ,OJ];lia
  have e2:2 ^ (k+1+2)=8*2 ^ k:=by rw[OJ,OJ,OJ];lia
  rw[e1,e2,e]
  generalize 2 ^ k=a
  grind
theorem yfw:∀k x e,∃s,s<2 ^ k/\lcg s x % 2 ^ k=e % 2 ^ k:=by
 intro k
 induction k with
 | zero=>intro x e;exact⟨0,by simp,by simp[Nat.mod_one]⟩
 | succ k ih =>
  intro x e
  obtain⟨s,hs,he⟩:=ih x e
  have e2:2 ^ (k+1)=2*2 ^ k:=by lia
  have hpos:0<2 ^ k:=Zw2 k
  by_cases hc:lcg s x % 2 ^ (k+1)=e % 2 ^ (k+1)
  .exact⟨s,by lia,hc⟩
  .refine(Ck (s+2 ^ k) (by lia))
   rw[zsl]
   obtain⟨u,v,h⟩:=yf4 k
   rw[h]
   generalize lcg s x=y at *
   have h3:(1+2 ^ (k+2)*u)*y+2 ^ k*(2*v+1)=y+2 ^ k+2 ^ (k+1)*(2*u*y+v):=by
    have e1:2 ^ (k+2)=4*2 ^ k:=by rw[OJ,OJ];lia
    rw[e1,e2];generalize 2 ^ k=a;grind
   rw[h3,Zsz,e2]
   rw[e2] at hc
   generalize ha:2 ^ k=a at *
   -- y ≡ e mod a,not mod 2a
   have hy:=yH y a
   have hE:=yH e a
   rw[he] at hy
   generalize y / a=p at *
   generalize e / a=q at *
   generalize hr:e % a=r at *
   have hra:r<a:=by rw[<- hr];exact VF _ hpos
   subst hy
   have h5:∀z,(r+a*z) % (2*a)=if z % 2=0 then r else r+a:=by
    intro z
    have hz:=yH z 2
    have h6:r+a*z=r+a*(z % 2)+(2*a)*(z / 2):=by
     conv=>lhs;rw[<- hz]
     generalize z % 2=z1;generalize z / 2=z2;grind
    rw[h6,Zsz]
    rcases Zsq z with h7 | h7
    .rw[h7,BR];simp;exact mK (by lia)
    .rw[h7,if_neg (by lia)];simp;exact mK (by lia)
   have h7:r+a*p+a=r+a*(p+1):=by grind
   rw[<- hE] at hc ⊢
   rw[h7,h5,h5]
   rw[h5,h5] at hc
   by_cases hp2:p % 2=0 <;> by_cases hq2:q % 2=0 <;> simp only[hp2,hq2,if_true,if_false] at hc <;>
    (have:(p+1) % 2=0\/(p+1) % 2=1:=Zsq _) <;> grind
end L2T
namespace L2T
open PySem SetTable
noncomputable def advM(mask:Nat)(p:Probe):Probe :=
 if p.more>0 then { p with j:=p.j+1,more:=p.more - 1 } else
 let (i,perturb):=leap mask p.i p.perturb
 { p with j:=i,more:=Fo i - i,i,perturb }
theorem Yw(t:KC)(p:Probe):t.advance p=advM t.mask p:=rfl
noncomputable def stM(mask i perturb:Nat):Probe:={ j:=i,more:=Fo i - i,i,perturb,dummy:=none }
noncomputable def prM(mask:Nat)(h:Int):Nat->Probe
 | 0=>stM mask (bits h % (mask+1)) (bits h)
 | n+1=>advM mask (prM mask h n)
noncomputable def posM(mask:Nat)(h:Int)(n:Nat):Nat:=(prM mask h n).j
noncomputable def lpM(mask:Nat)(h:Int):Nat->Nat×Nat
 | 0=>(bits h % (mask+1),bits h)
 | m+1=>leap mask (Co h m) (GC h m).2
noncomputable def lpS(mask:Nat)(h:Int)(m:Nat):Probe:=stM mask (Co h m) (GC h m).2
theorem yfa(mask:Nat):∀(r:Nat) (p:Probe) (F:Nat->Probe),(∀n,F (n+1)=advM mask (F n))->F 0=p->r<=p.more->F r={ p with j:=p.j+r,more:=p.more - r }:=by
 intro r;induction r with
 | zero=>intro p F hF h0 hr;rw[h0];rfl
 | succ r ih =>
  intro p F hF h0 hr;rw[hF,ih p F hF h0 (by lia)];unfold advM;rw[if_pos (by show p.more - r>0;lia)];show({ p with j:=p.j+r+1,more:=p.more - r - 1 }:Probe)=_;congr 1
theorem zy3(mask i:Nat):Fo i - i<=9:=by unfold runEnd;split <;> lia
theorem zza(mask:Nat)(h:Int)(n m:Nat)(hs:prM mask h n=lpS mask h m) :
  prM mask h (n+(Fo (Co h m) - (Co h m))+1)=lpS mask h (m+1) /\
  ∀r,r<=Fo (Co h m) - (Co h m)->posM mask h (n+r)=(Co h m)+r:=by
 have hrun:=λr hr=>yfa mask r (lpS mask h m) (λk=>prM mask h (n+k)) (λk=>rfl) hs hr;refine⟨?_,λr hr=>?_⟩
 .show advM mask (prM mask h (n+(Fo (Co h m) - (Co h m))))=_;rw[hrun (Fo (Co h m) - (Co h m)) Az];unfold advM;rw[if_neg (by show ¬ (lpS mask h m).more - (Fo (Co h m) - (Co h m))>0;show ¬ (Fo (Co h m) - (Co h m)) - (Fo (Co h m) - (Co h m))>0;lia)];rfl
 .unfold posM;rw[hrun r hr];rfl
theorem ygw(mask:Nat)(h:Int):∀m,∃n,n<=10*m/\prM mask h n=lpS mask h m:=by
 intro m;induction m with
 | zero=>exact(Dm 0 (by lia))
 | succ m ih =>
  obtain⟨n,hn,he⟩:=ih;have:=zy3 mask (Co h m);exact(Ar (by lia) (zza mask h n m he).1)
theorem yfc(h:Int):bits h<2 ^ 64:=by
 unfold bits;have:h % (2 ^ 64:Int)<2 ^ 64:=Q6 _ (by decide);lia
theorem yi2(mask:Nat)(h:Int):∀m,(GC h m).2=bits h / 32 ^ m:=by
 intro m;induction m with
 | zero=>simp[lpM]
 | succ m ih=>show(GC h m).2 / 32=_;rw[ih,Nat.div_div_eq_div_mul,OJ]
theorem yfz(mask:Nat)(h:Int)(m:Nat)(hm:13<=m):(GC h m).2=0:=by
 rw[yi2];have h1:=yfc h;have h2:32 ^ 13<=32 ^ m:=Nat.pow_le_pow_right (by decide) hm;exact Nat.div_eq_of_lt (by have:(32:Nat) ^ 13=2 ^ 65:=(by decide);lia)
theorem yk6(mask:Nat)(h:Int)(m:Nat):(Co h m)<mask+1:=by
 cases m with
 | zero=>exact VF _ (by lia)
 | succ m=>exact VF _ (by lia)
theorem yjn(mask:Nat)(h:Int):∀s,(Co h (13+s))=lcg s (Co h 13) % (mask+1):=by
 intro s;induction s with
 | zero=>exact(mK (yk6 mask h 13)).symm
 | succ s ih =>
  show((Co h (13+s))*5+1+(GC h (13+s)).2 / 32) % (mask+1)=_;rw[yfz mask h (13+s) (by lia),ih,zsl];show _=(5*lcg s (Co h 13)+1) % (mask+1);generalize lcg s (lpM mask h 13).1=y;simp[Nat.add_mod,Nat.mul_mod,Zzf]
theorem yel(mask k:Nat)(hk:mask+1=2 ^ k)(h:Int)(e:Nat)(he:e<=mask):∃m,m<=13+mask/\(Co h m)=e:=by
 obtain⟨s,hs,hl⟩:=yfw k (Co h 13) e;refine(Ck (13+s) (by lia));rw[yjn,hk,hl,<- hk];exact mK (by lia)
theorem zyy(mask k:Nat)(hk:mask+1=2 ^ k)(h:Int)(e:Nat)(he:e<=mask):∃n,n<10*turns mask/\posM mask h n=e:=by
 obtain⟨m,hm,hl⟩:=yel mask k hk h e he;obtain⟨n,hn,hp⟩:=ygw mask h m;refine(Ck n (by unfold turns;lia));unfold posM;rw[hp];exact hl
noncomputable def Wk(p q:Probe):Prop:=p.j=q.j/\p.more=q.more/\p.i=q.i/\p.perturb=q.perturb
theorem znk(mask:Nat){p q:Probe}(h:Wk p q):Wk (advM mask p) (advM mask q):=by
 obtain⟨h1,h2,h3,h4⟩:=h;unfold advM;rw[h2,h3,h4,h1];split;.exact(Bh rfl rfl rfl)
 .exact(Bh rfl rfl rfl)
theorem zls(mask:Nat)(p:Probe):(advM mask p).dummy=p.dummy:=by
 unfold advM;split <;> rfl
theorem ztj (t : KC) (hashAt : Nat -> Int) (h : Int) : ∀ (fuel : Nat) (p : Probe) (n : Nat), Wk p (prM t.mask h n) ->
    (∃N,n<=N/\N<n+fuel/\Cr (CV h N) .empty) ->
    ∃m,n<=m/\(∀q,n<=q->q<m->t.slot (CV h q) ≠ .empty /\ ∀i,Cr (CV h q) (.live i)->hashAt i≠h) /\
      ∃d,(d=p.dummy \/ ∃q,n<=q/\q<m/\Ab d (CV h q)/\Cr (CV h q) .dummy) /\
      ((Cr (CV h m) .empty/\Ab (probe.go t hashAt h fuel p) (.empty (CV h m) d)) \/
       (∃i nx,Cr (CV h m) (.live i)/\hashAt i=h/\Ab (probe.go t hashAt h fuel p) (.candidate (CV h m) i nx)/\Wk nx (prM t.mask h (m+1))/\nx.dummy=d)):=by
  intro fuel;induction fuel with
  | zero=>rintro p n hs ⟨N,h1,h2,_⟩;omega
  | succ fuel ih =>
    rintro p n hs ⟨N,h1,h2,h3⟩;have hj:p.j=CV h n:=hs.1;unfold probe.go;rw[hj];cases hsl:t.slot (posM t.mask h n) with
    | empty =>
      exact⟨n,Az,λq a b=>by lia,p.dummy,A6,.inl (AY hsl)⟩
    | dummy =>
      have hN:N≠n:=λe=>by subst e;rw[hsl] at h3;cases h3
      have hs':Wk (t.advance { p with dummy:=some (CV h n) }) (prM t.mask h (n+1)):=by
        rw[Yw];exact znk _ (p:={ p with dummy:=some (CV h n) }) ⟨hs.1,hs.2.1,hs.2.2.1,hs.2.2.2⟩
      obtain⟨m,hm,hq,d,hd,hr⟩:=ih _ (n+1) hs' ⟨N,by lia,by lia,h3⟩;refine⟨m,by lia,?_,d,?_,?_⟩
      · intro q a b;rcases yG a with e | e;· subst e;exact⟨(by rw[hsl];exact λx=>(by cases x)),λi hi=>by rw[hsl] at hi;cases hi⟩
        · exact hq q e b
      · rcases hd with hd | ⟨q,a,b,c,e⟩
        · refine .inr ⟨n,Az,by lia,?_,hsl⟩;rw[hd,Yw,zls]
        · exact .inr ⟨q,by lia,b,c,e⟩
      · rw[hj] at hr;exact hr
    | live i =>
      dsimp only;by_cases hh:hashAt i=h
      · refine⟨n,Az,λq a b=>by lia,p.dummy,A6,.inr ⟨i,t.advance p,hsl,hh,?_,?_,?_⟩⟩;· rw[if_pos (by rw[hh];exact beq_self_eq_true h)]
        · rw[Yw];exact znk _ hs
        · rw[Yw,zls]
      · have hN:N≠n:=λe=>by subst e;rw[hsl] at h3;cases h3
        obtain⟨m,hm,hq,d,hd,hr⟩:=ih (t.advance p) (n+1) (by rw[Yw];exact znk _ hs) ⟨N,by lia,by lia,h3⟩;refine⟨m,by lia,?_,d,?_,?_⟩
        · intro q a b;rcases yG a with e | e;· subst e;exact⟨(by rw[hsl];exact λx=>(by cases x)),λi' hi=>by rw[hsl] at hi;cases hi;exact hh⟩
          · exact hq q e b
        · rcases hd with hd | ⟨q,a,b,c,e⟩;· exact .inl (by rw[hd,Yw,zls])
          · exact .inr ⟨q,by lia,b,c,e⟩
        · rw[if_neg (by rw[beq_iff_eq];exact hh)];exact hr
noncomputable def TY(t:KC)(h:Int)(j:Nat):Prop:=∃n,CV h n=j /\ ∀m,m<n->t.slot (CV h m) ≠ .empty
theorem Yx(mask k:Nat)(hk:mask+1=2 ^ k)(h:Int):∀n,posM mask h n<=mask:=by
 have key:∀n,(prM mask h n).j+(prM mask h n).more<=mask:=by
  intro n;have hst:∀i p,i<mask+1->(stM mask i p).j+(stM mask i p).more<=mask:=by
   intro i p hi;show i+(Fo i - i)<=mask;unfold runEnd;split <;> lia
  induction n with
  | zero=>exact hst _ _ (VF _ (by lia))
  | succ n ih =>
   show(advM mask (prM mask h n)).j+(advM mask (prM mask h n)).more<=mask;unfold advM;split;.show(prM mask h n).j+1+((prM mask h n).more - 1)<=mask;lia
   .exact hst _ (leap mask (prM mask h n).i (prM mask h n).perturb).2 (VF _ (by lia))
 intro n;have:=key n;unfold posM;lia
structure SOk{α:Type}(t:KC)(es:List (Int×α)):Prop where
 ok:TOk t
 room:t.fill*5<t.mask*3
 size:t.place.size=es.length
 reach:∀c∈t.place.toList.zip es,TY t c.2.1 c.1
theorem zyv(mask:Nat)(owner:Array (Option Nat))(h:Int):∀(fuel m n:Nat),prM mask h n=lpS mask h m ->
  (∀q,q<n->owner.getD (posM mask h q) (some 0)≠none)->(∃M,m<=M/\M<m+fuel/\owner.getD (Co h M) (some 0)=none) ->
  ∃j n',Ab (layClean.free mask owner fuel (Co h m) (GC h m).2) j/\posM mask h n'=j/\owner.getD j (some 0)=none /\ ∀q,q<n'->owner.getD (posM mask h q) (some 0)≠none:=by
 intro fuel;induction fuel with
 | zero=>rintro m n hs hq ⟨M,a,b,c⟩;omega
 | succ fuel ih =>
  rintro m n hs hq ⟨M,a,b,c⟩;obtain⟨hnx,hrun⟩:=zza mask h n m hs;unfold layClean.free;cases hf:(K6 (runEnd mask (lpM mask h m).1+1 - (lpM mask h m).1)).find? (λk=>(owner.getD ((lpM mask h m).1+k) (some 0)).isNone) with
  | some k =>
   obtain⟨h1,h2,h3⟩:=List.find?_range_eq_some.mp hf;rw[Ni] at h2;dsimp only;refine⟨_,n+k,rfl,hrun k (by lia),by simpa using h1,?_⟩;intro q hqq;rcases PN q n with hl | hl;.exact hq q hl
   .have:=h3 (q - n) (by lia);have e:=hrun (q - n) (by omega);rw[show n+(q - n)=q by lia] at e;rw[e];intro hc;rw[hc] at this;simp at this
  | none =>
   rw[List.find?_eq_none] at hf;have hocc:∀k,k<=Fo (Co h m) - (Co h m)->owner.getD ((Co h m)+k) (some 0)≠none:=by
    intro k hk hc;have hle:(Co h m)<=Fo (Co h m):=by unfold runEnd;split <;> lia
    exact hf k (Ni.mpr (by lia)) (by rw[hc];rfl)
   have hM:M≠m:=λe=>by subst e;exact hocc 0 (wZ _) c
   dsimp only;refine ih (m+1) _ hnx ?_ ⟨M,by lia,by lia,c⟩;intro q hqq;rcases PN q n with hl | hl;.exact hq q hl
   .have e:=hrun (q - n) (by lia);rw[show n+(q - n)=q by lia] at e;rw[e];exact hocc _ (by lia)
theorem zuf{α β:Type}{f g:α->Option β}:∀l:AK,(∀x∈l,f x=g x)->l.filterMap f=l.filterMap g:=by
 intro l;induction l with
 | nil=>intro _;rfl
 | cons x l ih=>intro h;simp only[lX,h x (.head _),ih (λy hy=>h y (.tail _ hy))]
theorem yct{α:Type}:∀l:AK,(K6 l.length).filterMap (λi=>l[i]?)=l:=by
 intro l;induction l with
 | nil=>rfl
 | cons x l ih =>
  rw[Mt,xJ,Vy (b:=x) (by rfl),List.filterMap_map];congr 1
noncomputable def Oh(mask:Nat)(owner:Array (Option Nat)):CM Nat Nat:=(K6 (mask+1)).filterMap λj=>(owner.getD j none).map (j,·)
theorem yjp{α β:Type}[DecidableEq α](f f':α->Option β)(x:α)(v:β)(h0:f x=none)(h1:Ab (f' x) v)(h2:∀y,y≠x->f' y=f y) :
  ∀l:AK,l.Nodup->x∈l->(l.filterMap f').Perm (v::l.filterMap f):=by
 intro l;induction l with
 | nil=>intro _ h;cases h
 | cons y l ih =>
  intro hn hx;rw[M4] at hn;by_cases he:y=x
  .subst he;rw[Vy h1,lJ h0];have:l.filterMap f'=l.filterMap f:=by
    refine zuf _ λz hz=>h2 z (λe=>hn.1 (e ▸ hz))
   rw[this]
  .have hx':x∈l:=by rcases KH.mp hx with e | e;exact absurd e.symm he;exact e
   have hi:=ih hn.2 hx';cases hf:f y with
   | none=>rw[lJ (by rw[h2 y he];exact hf),lJ hf];exact hi
   | some b =>
    rw[Vy (by rw[h2 y he];exact hf),Vy hf];exact(hi.cons b).trans (yD _ _ _)
theorem ykt{α β:Type}(f:α->Option β):∀l:AK,(∀x∈l,f x≠none)->CJ (l.filterMap f) l.length:=by
 intro l;induction l with
 | nil=>intro _;rfl
 | cons x l ih =>
  intro h;cases hf:f x with
  | none=>exact absurd hf (h x (.head _))
  | some b=>rw[Vy hf,Mt,Mt,ih (λy hy=>h y (.tail _ hy))]
structure LInv(mask:Nat)(hs:List Int)(owner:Array (Option Nat)):Prop where
 size:owner.size=mask+1
 perm:((Oh mask owner).map (·.2)).Perm (K6 hs.length)
 reach:∀j i,owner.getD j none=some i-> ∃h,hs[i]? = some h /\ ∃n,posM mask h n=j /\ ∀q,q<n->owner.getD (posM mask h q) (some 0)≠none
theorem rO(owner:Array (Option Nat))(j k x:Nat)(d:Option Nat)(hj:j<owner.size):(owner.setIfInBounds j (some k)).getD x d=AR x j (some k) (owner.getD x d):=by
 simp only[Vs,Array.getElem?_setIfInBounds];by_cases h:x=j;.subst h;simp[hj]
 .rw[if_neg (λe=>h e.symm),if_neg h]
theorem znh(owner:Array (Option Nat))(j:Nat)(hj:j<owner.size):owner.getD j (some 0)=owner.getD j none:=by
 simp[SM,hj]
theorem ycg(mask k:Nat)(hk:mask+1=2 ^ k)(hs:Cb)(owner:Array (Option Nat))(h:Int)(inv:LInv mask hs owner)(hroom:hs.length<mask+1) :
  ∃j,Ab (layClean.free mask owner (turns mask) (bits h % (mask+1)) (bits h)) j/\LInv mask (hs++[h]) (owner.setIfInBounds j (some hs.length)):=by
 have hex:∃e,e<=mask/\owner.getD e none=none:=by
  refine Zy λhc=>?_;have hl:=ykt (λj=>(owner.getD j none).map (λi=>(j,i))) (K6 (mask+1)) (λx hx hn=>hc ⟨x,by have:=Ni.mp hx;lia,by simpa using hn⟩);have hp:=inv.perm.length_eq;rw[Kg] at hp;unfold Oh at hp;rw[hl] at hp;simp at hp;lia
 obtain⟨e,he,hn⟩:=hex;obtain⟨M,hM,hMe⟩:=yel mask k hk h e he;obtain⟨j,n',hf,hp,hj,hq⟩:=zyv mask owner h (turns mask) 0 0 rfl (λq hq=>by lia)
  ⟨M,by lia,by unfold turns;lia,by rw[hMe,znh _ _ (by rw[inv.size];lia)];exact hn⟩;have hjm:j<=mask:=by rw[<- hp];exact Yx mask k hk h n'
 have hjs:j<owner.size:=by rw[inv.size];lia
 refine⟨j,hf,?_,?_,?_⟩;.simp[inv.size]
 .have hone:(Oh mask (owner.setIfInBounds j (some hs.length))).Perm ((j,hs.length)::Oh mask owner):=by
   unfold Oh;refine yjp _ _ j (j,hs.length) ?_ ?_ ?_ _ xV (Ni.mpr (by lia));.rw[<- znh _ _ hjs,hj];rfl
   .rw[rO _ _ _ _ _ hjs,BR];rfl
   .intro y hy;rw[rO _ _ _ _ _ hjs,if_neg hy]
  refine(hone.map _).trans ?_;rw[Kq,K8,Oz,SX];exact((Ya6 _ inv.perm)).trans (List.perm_append_comm (l₁:=[hs.length]))
 .intro x i hx;rw[rO _ _ _ _ _ hjs] at hx;have hne:∀y,owner.getD y (some 0)≠none->(owner.setIfInBounds j (some hs.length)).getD y (some 0)≠none:=by
   intro y hy;rw[rO _ _ _ _ _ hjs];split;.exact λc=>by cases c
   .exact hy
  by_cases hxj:x=j
  .rw[if_pos hxj] at hx;cases hx;refine⟨h,by simp,n',by rw[hp,hxj],λq hqq=>hne _ (hq q hqq)⟩
  .rw[if_neg hxj] at hx;obtain⟨h',e1,n,e2,e3⟩:=inv.reach x i hx;refine⟨h',?_,n,e2,λq hqq=>hne _ (e3 q hqq)⟩;rw[Qz (BS e1)];exact e1
theorem ydk(mask k:Nat)(hk:mask+1=2 ^ k):∀(hs done:Cb) (owner:Array (Option Nat)),LInv mask done owner->AB (done++hs) mask ->
  ∃owner',Ab (hs.foldl (λacc h=>do
    let (owner,k) <- acc
    let j <- layClean.free mask owner (turns mask) (bits h % (mask+1)) (bits h)
    pure (owner.setIfInBounds j (some k),k+1)) (some (owner,done.length))) (owner',(done++hs).length)/\LInv mask (done++hs) owner':=by
 intro hs;induction hs with
 | nil=>intro done owner inv _;exact⟨owner,by simp,by simpa using inv⟩
 | cons h hs ih =>
  intro done owner inv hl;obtain⟨j,hf,inv'⟩:=ycg mask k hk done owner h inv (by simp at hl;lia);obtain⟨ow,h1,h2⟩:=ih (done++[h]) _ inv' (by simpa using hl);refine⟨ow,?_,by simpa using h2⟩;rw[List.foldl_cons];simp only[Ztn,Zu1,hf,Zvf];rw[show CJ (done++h::hs) (done++[h]++hs).length by simp,<- h1];simp
theorem zyh(mask k:Nat)(hk:mask+1=2 ^ k)(hs:Array Int)(hl:hs.size<=mask):∃owner,Ab (layClean mask hs) owner/\LInv mask hs.toList owner:=by
 obtain⟨ow,h1,h2⟩:=ydk mask k hk hs.toList [] (Zwd (mask+1) none) ⟨by simp,by
   have:Oh mask (Zwd (mask+1) none)=[]:=by
    unfold Oh;rw[List.filterMap_eq_nil_iff];intro x hx;simp[Vs,Zsv];split <;> simp
   rw[this];simp,λj i h=>by
   simp[Vs,Zsv] at h;split at h <;> simp at h⟩ (by simpa using hl);refine⟨ow,?_,by simpa using h2⟩;unfold layClean;rw[<- Array.foldl_toList];rw[show CJ ([]:Cb) 0 from rfl] at h1;rw[h1];rfl
theorem zxq(g:Nat->Option Nat):∀l:Ae,((l.filterMap λj=>(g j).map (j,·)).map (·.1)).Sublist l:=by
 intro l;induction l with
 | nil=>exact Zzh
 | cons x l ih =>
  cases hg:g x with
  | none=>rw[lJ (by rw[hg];rfl)];exact ih.cons x
  | some v=>rw[Vy (b:=(x,v)) (by rw[hg];rfl)];exact ih.cons_cons x
theorem yih{α:Type}(g:Nat->Option α):∀L:CM Nat Nat,(∀p∈L,g p.2≠none)-> ∀c∈(L.map (·.1)).zip ((L.map (·.2)).filterMap g),∃p∈L,c.1=p.1/\Ab (g p.2) c.2:=by
 intro L;induction L with
 | nil=>intro _ c hc;simp at hc
 | cons p L ih =>
  intro h c hc;cases hg:g p.2 with
  | none=>exact absurd hg (h p (.head _))
  | some v =>
   rw[Kq,Kq,Vy hg,Xb] at hc;rcases KH.mp hc with e | e;.exact⟨p,.head _,by rw[e],by rw[e];exact hg⟩
   .obtain⟨p',h1,h2⟩:=ih (λq hq=>h q (.tail _ hq)) c e;exact⟨p',.tail _ h1,h2⟩
theorem yfj{α:Type}(mask k:Nat)(hk:mask+1=2 ^ (k+3))(hb:mask<=8191)(finger moves:Nat)(led plain:Bool)(es:Array (Int×α))(hroom:es.size*5<mask*3) :
  ∃t order,Ab (laid mask finger moves led plain (es.map (·.1))) (t,order)/\t.mask=mask/\t.dummies= #[]/\t.led=led/\t.plain=plain/\t.finger=finger/\t.moves=moves /\
   order.toList.Perm (K6 es.size)/\(order.filterMap (es[·]?)).toList.Perm es.toList/\(order.filterMap (es[·]?)).size=es.size/\SOk t (order.filterMap (es[·]?)).toList:=by
 obtain⟨ow,h1,inv⟩:=zyh mask _ hk (es.map (·.1)) (by simp;lia);have hlen:(es.map (·.1)).toList.length=es.size:=by simp
 have hperm:=inv.perm;rw[hlen] at hperm;unfold laid;rw[h1];have hL:(K6 (mask+1)).filterMap (λj=>(ow.getD j none).map (j,·))=Oh mask ow:=rfl;simp only[Ztn,Zu1,Zvf,hL];refine⟨_,_,rfl,rfl,rfl,rfl,rfl,rfl,rfl,hperm,?_⟩;have hlist:((((Oh mask ow).map (·.2)).toArray).filterMap (es[·]?)).toList=((Oh mask ow).map (·.2)).filterMap (es[·]?):=by simp
 have hp2:((((Oh mask ow).map (·.2)).toArray).filterMap (es[·]?)).toList.Perm es.toList:=by
  rw[hlist];refine(hperm.filterMap _).trans ?_;have:(K6 es.size).filterMap (λi=>es[i]?)=es.toList:=by
   have h:=yct es.toList;rw[NZ] at h;rw[<- h];refine zuf _ λx _=>(Nv ..).symm ▸ ?_;simp
  rw[this]
 refine(Ck hp2 ?_);.rw[<- NZ,hp2.length_eq,NZ]
 .have hsub:=zxq (λj=>ow.getD j none) (K6 (mask+1));have htok:TOk { mask:=mask,place:=((Oh mask ow).map (·.1)).toArray,dummies:=#[],finger:=finger,led:=led,moves:=moves,plain:=plain }:=by
   refine⟨?_,by simp,?_,by simp,by simp,⟨k,hk⟩,hb⟩
   .show(((Oh mask ow).map (·.1)).toArray).toList.Pairwise (· < ·);exact Zq3 hsub List.pairwise_lt_range
   .intro j hj;have:=hsub.subset hj;rw[Ni] at this;show j<=mask;lia
  have hmem:∀j,ow.getD j none≠none->j∈(Oh mask ow).map (·.1):=by
   intro j hj;have hjs:j<ow.size:=by
    refine Zwh λc=>hj ?_;simp[SM,Nat.not_lt.mpr c]
   cases hg:ow.getD j none with
   | none=>exact absurd hg hj
   | some i=>exact Kr.mpr (Dm (j,i) (ZD.mpr ⟨j,Ni.mpr (by rw[<- inv.size];exact hjs),by rw[hg];rfl⟩))
  have hlt:∀p∈Oh mask ow,Ab (ow.getD p.1 none) p.2:=by
   intro p hp;obtain⟨j,_,hj⟩:=ZD.mp hp;cases hg:ow.getD j none with
   | none=>rw[hg] at hj;cases hj
   | some i=>rw[hg] at hj;cases hj;exact hg
  have hin:∀p∈Oh mask ow,p.2<es.size:=by
   intro p hp;have:p.2∈(Oh mask ow).map (·.2):=Kr.mpr (Dm p hp);exact Ni.mp (hperm.mem_iff.mp this)
  refine⟨htok,?_,?_,?_⟩
  .show(((Oh mask ow).map (·.1)).toArray.size+0)*5<mask*3;have:=hperm.length_eq;simp at this ⊢;rw[this];exact hroom
  .rw[hp2.length_eq];have:=hperm.length_eq;simp at this ⊢;exact this
  .intro c hc;rw[hlist] at hc;obtain⟨p,hp,e1,e2⟩:=yih (λi=>es[i]?) (Oh mask ow) (λp hp=>by
    rw[NQ (hin p hp)];exact λc=>by cases c) c hc;obtain⟨h',a1,n,a2,a3⟩:=inv.reach p.1 p.2 (hlt p hp);have hh:h'=c.2.1:=by
    rw[Zvt,KR,Nv,e2] at a1;simpa using a1.symm
   subst hh;refine⟨n,by rw[e1];exact a2,λm hm hc=>?_⟩;have:=(bG htok _).mp hc;refine this.1 (hmem _ ?_);have h3:=a3 m hm;rwa [znh _ _ (by rw[inv.size];exact Nat.lt_succ_of_le (Yx mask _ hk _ _))] at h3
theorem zwi(t t':KC)(h1:t'.place=t.place)(h2:t'.dummies=t.dummies)(j:Nat):t'.slot j=t.slot j:=by
 unfold slot;rw[h1,h2]
theorem zja{t t':KC}(hm:t'.mask=t.mask)(h:∀j,t.slot j ≠ .empty->t'.slot j ≠ .empty){x:Int}{j:Nat}(hr:TY t x j):TY t' x j:=by
 obtain⟨n,h1,h2⟩:=hr;exact⟨n,by rw[hm];exact h1,λm hm'=>by rw[hm];exact h _ (h2 m hm')⟩
theorem zqt{α:Type}{t t':KC}{es:CM Int α}(h:SOk t es)(hm:t'.mask=t.mask)(h1:t'.place=t.place)(h2:t'.dummies=t.dummies):SOk t' es:=by
 obtain⟨⟨a1,a2,a3,a4,a5,a6,a7⟩,b,c,d⟩:=h;refine⟨⟨by rw[h1];exact a1,by rw[h2];exact a2,by rw[h1,hm];exact a3,by rw[h2,hm];exact a4,by rw[h1,h2];exact a5,by rw[hm];exact a6,by rw[hm];exact a7⟩,?_,by rw[h1];exact c,?_⟩;.unfold fill at *;rw[h1,h2,hm];exact b
 .rw[h1];intro x hx;exact zja hm (λj hj=>by rw[zwi t t' h1 h2];exact hj) (d x hx)
theorem zqu{α:Type}(finger moves:Nat)(led:Bool):SOk (α:=α) (fresh finger moves led) []:=by
 refine⟨⟨by simp[Tt],by simp[Tt],by simp[Tt],by simp[Tt],by simp[Tt],⟨0,by simp[Tt]⟩,by simp[Tt]⟩,by simp[Tt,Zvc],by simp[Tt],?_⟩;intro c hc;simp at hc
theorem zqk(n:Nat):∀(fuel size:Nat),(∃k,size=2 ^ (k+3))->n<size*2 ^ fuel ->
  (∃k,sizeAbove.go n fuel size=2 ^ (k+3))/\n<sizeAbove.go n fuel size/\(sizeAbove.go n fuel size<=size\/sizeAbove.go n fuel size<=2*n):=by
 intro fuel;induction fuel with
 | zero=>intro size hk hn;unfold sizeAbove.go;exact⟨hk,by simpa using hn,.inl Az⟩
 | succ fuel ih =>
  intro size hk hn;unfold sizeAbove.go;by_cases hc:size<=n
  .rw[Ff];obtain⟨k,hk⟩:=hk;obtain⟨h1,h2,h3⟩:=ih (size*2) ⟨k+1,by rw[hk,OJ,OJ,OJ,OJ,OJ,OJ,OJ]⟩ (by
    rw[OJ] at hn;rw[Nat.mul_assoc,Zzf 2];exact hn);refine⟨h1,h2,.inr ?_⟩;rcases h3 with h3 | h3 <;> omega
  .rw[E2];exact⟨hk,by lia,.inl Az⟩
theorem zjt(n:Nat)(hn:n<=4095):(∃k,sizeAbove n - 1+1=2 ^ (k+3))/\n<=sizeAbove n - 1/\7<=sizeAbove n - 1/\sizeAbove n - 1<=8191/\sizeAbove n<=8192:=by
 obtain⟨⟨k,h1⟩,h2,h3⟩:=zqk n 64 8 (F9 0) (yF hn (by decide));have h1':sizeAbove n=2 ^ (k+3):=h1;have h2':n<sizeAbove n:=h2;have h3':sizeAbove n<=8\/sizeAbove n<=2*n:=h3;have hk:8<=2 ^ (k+3):=by rw[Nat.pow_add];have:=Zw2 k;lia
 refine⟨⟨k,by omega⟩,by omega,by omega,by omega,by omega⟩
theorem zpm{α:Type}(t:KC)(es:Array (Int×α))(wanted:Nat)(h1:2*es.size<=wanted)(h2:wanted<=4095) :
  ∃t' order,Ab (t.relaid (es.map (·.1)) wanted) (t',order)/\t'.dummies= #[]/\t'.mask=sizeAbove wanted - 1/\t'.led=t.led/\t'.plain=t.plain /\
   order.toList.Perm (K6 es.size)/\(order.filterMap (es[·]?)).toList.Perm es.toList/\(order.filterMap (es[·]?)).size=es.size/\SOk t' (order.filterMap (es[·]?)).toList:=by
 obtain⟨⟨k,hk⟩,a,b,c,_⟩:=zjt wanted h2;obtain⟨t',order,e1,e2,e3,e4,e5,e6,e7,e8,e9,e10,e11⟩:=yfj (sizeAbove wanted - 1) k hk c t.finger (t.movedTo (sizeAbove wanted - 1)) t.led t.plain es (by lia);exact⟨t',order,e1,e3,e2,e4,e5,e8,e9,e10,e11⟩
theorem zw2{α β:Type}:∀(p:Nat) (l:AK) (m:List β),(l.zip m).take p=(l.take p).zip (m.take p):=by
 intro p;induction p with
 | zero=>intro l m;simp
 | succ p ih=>intro l m;cases l with
  | nil=>simp
  | cons a l=>cases m with
   | nil=>simp
   | cons b m=>simp[ih]
theorem zz4{α β:Type}:∀(p:Nat) (l:AK) (m:List β),(l.zip m).drop p=(l.drop p).zip (m.drop p):=by
 intro p;induction p with
 | zero=>intro l m;simp
 | succ p ih=>intro l m;cases l with
  | nil=>simp
  | cons a l=>cases m with
   | nil=>simp
   | cons b m=>simp[ih]
theorem zvh{α β:Type}(p:Nat)(a:α)(b:β):∀(l:AK) (m:List β),l.length=m.length ->
  (l.take p++a::l.drop p).zip (m.take p++b::m.drop p)=(l.zip m).take p++(a,b)::(l.zip m).drop p:=by
 intro l m h;rw[List.zip_append (by simp[h]),Xb,<- zw2,<- zz4]
theorem Wl{α:Type}(p:Nat)(a:α)(l:AK):(l.take p++a::l.drop p).Perm (a::l):=by
 have h:(l.take p++a::l.drop p).Perm (a::(l.take p++l.drop p)):=Zv5;rw[Ue] at h;exact h
theorem zo9(xs:A9)(i:Nat)(j:Nat)(hp:xs.toList.Pairwise (· < ·))(h:Ah xs j)(x:Nat):x∈(eraseAt xs i).toList↔x∈xs.toList/\x≠j:=by
 rw[rM];rw[<- Nv] at h;obtain⟨hi,hx⟩:=Mg.mp h;have hsp:xs.toList=xs.toList.take i++j::xs.toList.drop (i+1):=by
  rw[<- hx,Ztk,Ue]
 have hp':=hp;rw[hsp,lV,Zu3] at hp';obtain⟨p1,⟨p2,p3⟩,p4⟩:=hp';rw[K9];constructor
 .rintro(h1 | h1);.have:=p4 x h1 j (.head _);exact⟨Zt6 h1,by lia⟩
  .have:=p2 x h1;exact⟨Zt7 h1,by lia⟩
 .rintro⟨h1,h2⟩;rw[hsp,K9] at h1;rcases h1 with h1 | h1;.exact .inl h1
  .rcases KH.mp h1 with e | e;.exact absurd e h2
   .exact .inr e
theorem yd9{α:Type}(t:KC)(es:Array (Int×α))(h:Int)(x:α)(s:Nat)(ok:SOk t es.toList)(hs:Cr s .empty\/Cr s .dummy)(hm:s<=t.mask)(hr:TY t h s) :
  TOk (EM s)/\(EM s).mask=t.mask/\(EM s).place.size=(insertAt es (t.put s).2 (h,x)).size /\
  (∀c∈(EM s).place.toList.zip (insertAt es (t.put s).2 (h,x)).toList,TY (EM s) c.2.1 c.1) /\
  (EM s).fill<=t.fill+1/\(Cr s .dummy->(EM s).fill=t.fill)/\(insertAt es (t.put s).2 (h,x)).toList.Perm ((h,x)::es.toList) /\
  (EM s).led=t.led/\(EM s).plain=t.plain:=by
 obtain⟨⟨a1,a2,a3,a4,a5,a6,a7⟩,b,c,d⟩:=ok;have tok:TOk t:=⟨a1,a2,a3,a4,a5,a6,a7⟩;have hnp:s∉t.place.toList:=by
  rcases hs with hs | hs;.exact((bG tok s).mp hs).1
  .exact a5 s ((rN tok s).mp hs)
 have hb:=(rK t.place s a1).1;have hbe:Fk s<=es.size:=by have:t.place.size=es.size:=(by simpa using c);lia
 have hd':∀y,y∈(if Aa (has t.dummies s) then eraseAt t.dummies (F4 s) else t.dummies).toList↔y∈t.dummies.toList/\y≠s:=by
  intro y;by_cases hh:Aa (has t.dummies s)
  .rw[if_pos hh];exact zo9 t.dummies _ s a2 ((Yv _ _ a2).mpr ((bD _ _ a2).mp hh)) y
  .rw[if_neg hh];exact⟨λhy=>⟨hy,λe=>hh ((bD _ _ a2).mpr (e ▸ hy))⟩,λhy=>hy.1⟩
 have hpl:(EM s).place.toList=t.place.toList.take (Fk s)++s::t.place.toList.drop (Fk s):=U4 _ _ _ hb;have hmp:∀y,y∈(EM s).place.toList↔y=s\/y∈t.place.toList:=by
  intro y;rw[hpl,(Wl _ _ _).mem_iff,KH]
 have hmd:∀y,y∈(EM s).dummies.toList↔y∈t.dummies.toList/\y≠s:=hd';have htok:TOk (EM s):=by
  refine⟨zl6 _ _ a1 hnp,?_,?_,?_,?_,a6,a7⟩
  .show(if Aa (has t.dummies s) then eraseAt t.dummies (F4 s) else t.dummies).toList.Pairwise (· < ·);split
   .rw[rM];refine Zq3 ?_ a2;have:(t.dummies.toList.take (F4 s)++t.dummies.toList.drop (F4 s+1)).Sublist (t.dummies.toList.take (F4 s)++t.dummies.toList.drop (F4 s)) :=
     Zzi (yE _) (by rw[<- List.drop_drop];exact Zvj _ _);rw[Ue] at this;exact this
   .exact a2
  .intro j hj;rcases(hmp j).mp hj with e | e;.rw[e];exact hm
   .exact a3 j e
  .intro j hj;exact a4 j ((hmd j).mp hj).1
  .intro j hj hc;rcases(hmp j).mp hc with e | e;.exact((hmd j).mp hj).2 e
   .exact a5 j ((hmd j).mp hj).1 e
 have hmono:∀j,t.slot j ≠ .empty->(EM s).slot j ≠ .empty:=by
  intro j hj hc;obtain⟨c1,c2⟩:=(bG htok j).mp hc;refine hj ((bG tok j).mpr ⟨λe=>c1 ((hmp j).mpr (.inr e)),λe=>?_⟩);by_cases he:j=s;.exact c1 ((hmp j).mpr (.inl he))
  .exact c2 ((hmd j).mpr ⟨e,he⟩)
 refine⟨htok,rfl,?_,?_,?_,?_,?_,rfl,rfl⟩
 .show(insertAt t.place (Fk s) s).size=(insertAt es (Fk s) (h,x)).size;rw[<- NZ,<- NZ,U4 _ _ _ hb,U4 _ _ _ hbe,(Wl _ _ _).length_eq,(Wl _ _ _).length_eq];simpa using c
 .intro e he;rw[hpl] at he;have he':e∈(t.place.toList.take (Fk s)++s::t.place.toList.drop (Fk s)).zip (insertAt es (Fk s) (h,x)).toList:=he;rw[U4 _ _ _ hbe,zvh _ _ _ _ _ (by simpa using c),(Wl _ _ _).mem_iff,KH] at he';rcases he' with e1 | e1;.rw[e1];exact zja (t:=t) (t':=(EM s)) rfl hmono hr
  .exact zja (t:=t) (t':=(EM s)) rfl hmono (d e e1)
 .show(insertAt t.place (Fk s) s).size+(if Aa (has t.dummies s) then eraseAt t.dummies (F4 s) else t.dummies).size<=t.fill+1;have h1:(insertAt t.place (Fk s) s).size=t.place.size+1:=by
   rw[<- NZ,U4 _ _ _ hb,(Wl _ _ _).length_eq];simp
  have h2:(if Aa (has t.dummies s) then eraseAt t.dummies (F4 s) else t.dummies).size<=t.dummies.size:=by
   split;.rw[<- NZ,rM];simp;omega
   .exact Az
  unfold fill;lia
 .intro hdm;show(insertAt t.place (Fk s) s).size+(if Aa (has t.dummies s) then eraseAt t.dummies (F4 s) else t.dummies).size=t.fill;have h1:(insertAt t.place (Fk s) s).size=t.place.size+1:=by
   rw[<- NZ,U4 _ _ _ hb,(Wl _ _ _).length_eq];simp
  have hin:=(rN tok s).mp hdm;rw[if_pos ((bD _ _ a2).mpr hin)];have hlt:=(RG.mp ((Yv _ _ a2).mpr hin)).1;have h2:(eraseAt t.dummies (F4 s)).size+1=t.dummies.size:=by
   rw[<- NZ,rM];simp;lia
  unfold fill;lia
 .show(insertAt es (Fk s) (h,x)).toList.Perm ((h,x)::es.toList);rw[U4 _ _ _ hbe];exact Wl _ _ _
end L2T
namespace L2
open PySem PySem.Spec PyProof.Rows L2T
inductive SK where
 | one (k:Key)
 | many (ks:List Key)
 deriving DecidableEq
noncomputable def SK.flat:SK->Bool
 | .one _=>true
 | .many _=>false
section
variable(prog:Ko)(w:Km)
noncomputable def SK.is(h:Heap):SK->Aq Ka
 | .one k,v=>Aa ((DC w).is k v)
 | .many ks,v=>∃a,v= Av/\Uk (DC w) h ks a
noncomputable def SK.hash:SK->Int
 | .one k=>(DC w).hash k
 | .many ks=>tupleKeyHash (DC w) ks
inductive Es(h:Heap):List SK->List (Int×Ka)->Prop
 | nil:Es h [] []
 | cons {k:SK} {e:Int×Ka} {ks:List SK} {es:List (Int×Ka)}:e.1=k.hash prog w->k.is prog w h e.2->Es h ks es->Es h (k::ks) (e::es)
noncomputable def Qi(h h':Heap):Prop:=∀b o,o.cls= EU -> AE b o->AJ b o
noncomputable def led0:Bool:=! w.params.followText "set-order"
structure SetO(h:Heap)(o:Obj)(ks:List SK)(es:Array (Int×Ka))(ep:Nat)(t:KC):Prop where
 ex:o.ExactSet
 data:o.data= .set es ep t
 tab:SOk t es.toList
 ent:Es prog w h ks es.toList
 nod:ks.Nodup
 small:ks.length<=1000
 led:t.led=led0 w
 kind:∃f,∀k∈ks,k.flat=f
noncomputable def SetE(h:Heap)(a:Addr)(ks:Bs)(es:AW):Prop:=∃o ep t,AE a o/\SetO prog w h o ks es ep t
end
section
variable{prog:Ko}{w:Km}{h h':Heap}
theorem SK.is_mono{k:SK}{v:Ka}(K:Qi h h')(x:k.is prog w h v):k.is prog w h' v:=by
 cases k with
 | one k=>exact x
 | many ks =>
  obtain⟨a,rfl,o,its,n,e,c,d,i⟩:=x;exact⟨a,rfl,o,its,n,K a o c e,c,d,i⟩
theorem Es.mono{ks:Bs}{es:Df Int}(K:Qi h h')(x:Es prog w h ks es):Es prog w h' ks es:=by
 induction x with
 | nil=>exact .nil
 | cons a b _ ih=>exact .cons a (SK.is_mono K b) ih
theorem Es.length{ks:Bs}{es:Df Int}(x:Es prog w h ks es):ks.length=es.length:=by
 induction x with
 | nil=>rfl
 | cons a b _ ih=>simp[ih]
theorem Es.get{ks:Bs}{es:Df Int}(x:Es prog w h ks es):∀(i:Nat) (e:Int×Ka),Ah es e-> ∃k,Ah ks k/\e.1=Et w/\k.is prog w h e.2:=by
 induction x with
 | nil=>intro i e he;simp at he
 | cons a b _ ih =>
  intro i e he;cases i with
  | zero=>simp at he;subst he;exact⟨_,rfl,a,b⟩
  | succ i=>exact ih i e he
theorem Es.perm{ks:Bs}{es es':Df Int}(x:Es prog w h ks es)(p:es'.Perm es):∃ks',ks'.Perm ks/\Es prog w h ks' es':=by
 have p':=p.symm;clear p;induction p' generalizing ks with
 | nil=>exact⟨ks,.refl _,x⟩
 | cons e _ ih =>
  cases x with
  | cons a b y =>
   obtain⟨k2,q,z⟩:=ih y;exact⟨_::k2,q.cons _,.cons a b z⟩
 | swap e f l =>
  cases x with
  | cons a b y=>cases y with
   | cons c d z=>exact⟨_::_::_,yD _ _ _,.cons c d (.cons a b z)⟩
 | trans _ _ ih1 ih2 =>
  obtain⟨k1,q1,z1⟩:=ih1 x;obtain⟨k2,q2,z2⟩:=ih2 z1;exact⟨k2,q2.trans q1,z2⟩
theorem SetO.fits{o:Obj}{ks:Bs}{es:AW}{ep:Nat}{t:KC}(S:SetO prog w h o ks es ep t):Aa (t.fits es.size):=by
 have h1:=S.tab.size;have h2:=S.tab.room;simp only[aG,Lk,beq_iff_eq,decide_eq_true_eq];exact⟨by simpa using h1,by lia⟩
theorem SetO.mono{o:Obj}{ks:Bs}{es:AW}{ep:Nat}{t:KC}(K:Qi h h')(S:SetO prog w h o ks es ep t):SetO prog w h' o ks es ep t :=
 ⟨S.ex,S.data,S.tab,S.ent.mono K,S.nod,S.small,S.led,S.kind⟩
theorem rP{a:Addr}{o:Obj}{es:AW}{ep:Nat}{t:KC}(ho:AE a o)(hd:o.ExactSet)(hs:Qa a h h'):Qi h h':=by
 intro b u c e;have hne:b≠a:=by
  rintro rfl;rw[ho] at e;cases e;rw[hd.1] at c;exact absurd c (by decide)
 exact Ed b hne e
end
theorem zu7(b:Addr):isSame Cs Cs=pure true:=by
 show(Ds (b == b) (pure true:Sem Bool) _)=_;rw[if_pos (beq_self_eq_true b)]
section
variable{prog:Ko}{w:Km}{A:Ks}{E:Ka->Ke->Prop}{s:Ke}
theorem Wm{M:Nf}{a:Addr}{o:Obj}{ks:Bs}{es:AW}{ep:Nat}{t:KC}{Q:AW×Nat×KC->Af}
  (ho:AI a) (S:SetO prog w s.heap o ks es ep t) (q:Q (es,ep,t) s):AH (setState a) :=
 zH ho S.data S.fits q
theorem yes{ks:BF}{v:Ka}{a:Addr}{Q:Bool->Af}(hk:Uk (DC w) s.heap ks a)(h:Q false s):AH (mY 8 Av):=by
 have hT:=hk.typeIs;obtain⟨o,its,n,ho,_,hd,hi⟩:=hk;unfold mY;refine Kc (Xz hT ?_);show AT _ ((Ds ("tuple" == "tuple") (pure true) (isSubtype EU EU)) >>= _) Q E s;refine BD ?_;show AT _ (seqItems? Av >>= _) Q E s;refine Kc (ZS ho hd ?_);show AT _ (Vu its _ _ >>= _) Q E s;refine Kc ?_;rw[<- lA];refine Xr _ (λrest r s'=>r.1=none/\s'=s /\ ∀v∈rest,Aa (nJ v)) _ ?_ ?_ _ _ (By rfl hi.byValue)
 .rintro v rest r s' ⟨hr,rfl,hall⟩;have hv:=hall v KN;have e:mY 7 v=pure false:=by
   cases v <;> first | rfl | (simp[nJ] at hv)
  show AT _ (mY 7 v >>= _) _ _ _;rw[e];refine BD ?_;simp only[Lj,if_false];exact Kf (By rfl (λu hu'=>hall u (AS hu')))
 .rintro⟨r1,r2⟩ s' ⟨hr,rfl,_⟩;simp only at hr;subst hr;exact Kf h
theorem ycd{kk:BF}{a:Addr}{Q:Bool->Af}(hk:Uk (DC w) s.heap kk a)(h:Q false s) :
  ∀ys:Am,(∀y∈ys,∃b ks,y= Cs/\Uk (DC w) s.heap ks b)->AH (Zxz Av ys):=by
 intro ys hys;unfold Zxz;refine Kc ?_;refine Xr _ (λrest r s'=>r.1=none/\s'=s /\ ∀y∈rest,∃b ks,y= Cs/\Uk (DC w) s.heap ks b) _ ?_ ?_ _ _ (By rfl hys)
 .rintro y rest r s' ⟨hr,rfl,hall⟩;obtain⟨b,ks,rfl,hb⟩:=hall y KN;have hrest:∀y∈rest,∃b ks,y= Cs/\Uk (DC w) s'.heap ks b:=λy hy=>hall y (AS hy);dsimp only;by_cases hab:Aa (a == b)
  .rw[if_pos (by rw[hab];rfl)];exact Kf (By rfl hrest)
  .rw[if_neg (by rw[Zwc] at hab;rw[hab];simp[nJ])];refine Kc (Zvw hk ?_);simp only[Zx,Lj,if_false];refine Kc (Zvw hb ?_);simp only[Zx,Lj,if_false];refine Kc (yes (v:=.none) hk ?_);simp only[Lj,if_false];refine Kc (yes (v:=.none) hb ?_);simp only[Lj,if_false];exact Kf (By rfl hrest)
 .rintro⟨r1,r2⟩ s' ⟨hr,rfl,_⟩;simp only at hr;subst hr;exact Kf h
theorem zuo{a:Addr}{o:Obj}{ks:Bs}{es:AW}{ep:Nat}{t:KC}{x:Ka}{kk:BF}{adding:Bool}{Q:SetFound->Af}(hu:A.units<Ln)
  (ho:AI a) (S:SetO prog w s.heap o ks es ep t) (hk:∀k∈ks,AL k.flat) (hx:(SK.many kk).is prog w s.heap x)
  (found:∀i,Ah ks EQ->Q (.there (if adding then none else some i)) s)
  (free:SK.many kk∉ks-> ∀sl wd,sl<=t.mask->TY t (C0 w EQ) sl->(Aa wd->Cr sl .dummy)->(AL wd->Cr sl .empty)->Q (.free sl wd) s) :
  ∀(fuel n:Nat) (stand:Option SetTable.Probe),(stand=none->n=0) ->
   (∀p,Ab stand p->Wk p (prM t.mask (C0 w EQ) n)/\(p.dummy=none \/ ∃q,q<n/\Ab p.dummy (CV (C0 w EQ) q)/\Cr (CV (C0 w EQ) q) .dummy)) ->
   (∀q,q<n->t.slot (CV (C0 w EQ) q) ≠ .empty /\ ∀i,Cr (CV (C0 w EQ) q) (.live i)->ks[i]? ≠ some EQ) ->
   (∃N,n<=N/\N<n+fuel/\N<10*aF t.mask/\Cr (CV (C0 w EQ) N) .empty) ->
   AH (Yan a x (C0 w EQ) adding fuel stand):=by
 generalize hH:SK.hash prog w (.many kk)=hh at *;have tok:=S.tab.ok;obtain⟨kp,hpow⟩:=tok.pow;obtain⟨ax,rfl,hax⟩:=hx;have hgw:AL t.gaveWay:=by
  unfold SetTable.gaveWay;rw[OJ] at hpow;rw[beq_eq_false_iff_ne];lia
 have hent:∀(i:Nat) (h:Int) (y:Ka),Ah es (h,y)-> ∃(b:Addr) (k2:BF),y=KJ b/\Uk (DC w) s.heap k2 b/\Ah ks (SK.many k2)/\h=C0 w (SK.many k2):=by
  intro i h y he;obtain⟨k,h1,h2,h3⟩:=S.ent.get i (h,y) (by rw[Nv];exact he);have hf:=hk k (KD h1);cases k with
  | one k=>simp[SK.flat] at hf
  | many k2=>obtain⟨b,rfl,hb⟩:=h3;exact⟨b,k2,rfl,hb,h1,h2⟩
 intro fuel;induction fuel with
 | zero=>rintro n stand _ _ _ ⟨N,h1,h2,_⟩;lia
 | succ fuel ih =>
  rintro n stand hst hsp hq ⟨N,n1,n2,n3,n4⟩;unfold Yan;refine Kc (Wm (M:=B5 w) ho S ?_);dsimp only;rw[hgw];simp only[Lj,if_false];have hstart:Wk (stand.getD (t.probeStart hh)) (prM t.mask hh n)/\((stand.getD (t.probeStart hh)).dummy=none \/ ∃q,q<n/\Ab (stand.getD (t.probeStart hh)).dummy (CV hh q)/\Cr (CV hh q) .dummy):=by
   cases stand with
   | none=>rw[hst rfl];exact⟨(Bh rfl rfl rfl),A6⟩
   | some p=>exact hsp p rfl
  obtain⟨m,m1,m2,d,hd,hr⟩:=ztj t (λi=>(es[i]?.map (·.1)).getD 0) hh (10*aF t.mask) _ n hstart.1 ⟨N,n1,by lia,n4⟩;have hd':d=none \/ ∃q,q<m/\Ab d (CV hh q)/\Cr (CV hh q) .dummy:=by
   rcases hd with hd | ⟨q,q1,q2,q3,q4⟩
   .rcases hstart.2 with e | ⟨q,q1,q2,q3⟩;.exact .inl (hd.trans e)
    .exact .inr ⟨q,by lia,hd.trans q2,q3⟩
   .exact .inr ⟨q,q2,q3,q4⟩
  have hne:∀q,q<m->t.slot (CV hh q) ≠ .empty:=λq hqm=>by
   rcases PN q n with hl | hl;.exact(hq q hl).1
   .exact(m2 q hl hqm).1
  rcases hr with ⟨hemp,hr⟩ | ⟨i,nx,hlive,hhash,hr,hsn,hdn⟩;·-- an empty slot: it is not there
   have habs:SK.many kk∉ks:=by
    intro hin;obtain⟨i,hi⟩:=MF.mp hin;have hil:i<ks.length:=(BS hi);have hie:i<es.size:=by have:=S.ent.length;simp at this;lia
    have hip:i<t.place.size:=by have:=S.tab.size;simp at this;lia
    have hpl:Ah t.place t.place[i]:=NQ hip;have hes:Ah es es[i]:=NQ hie;obtain⟨b,k2,hy,hb,hki,hhi⟩:=hent i es[i].1 es[i].2 hes;have hkk:k2=kk:=by rw[hi] at hki;cases hki;rfl
    subst hkk;have hreach:=S.tab.reach (t.place[i],es[i]) (by
     rw[MF];refine(BG i);rw[xG];exact⟨by rw[Nv];exact hpl,by rw[Nv];exact hes⟩);obtain⟨n',e1,e2⟩:=hreach;dsimp only at e1 e2;rw[hhi,hH] at e1 e2;have hl:Cr (CV hh n') (.live i):=by rw[e1];exact(bF tok _ i).mpr hpl
    rcases ZG n' m with c | c | c
    .rcases PN n' n with c2 | c2;.exact(hq n' c2).2 i hl hi
     .refine(m2 n' c2 c).2 i hl ?_;rw[hes];show es[i].1=hh;rw[hhi,hH]
    .subst c;rw[hl] at hemp;cases hemp
    .exact e2 m c hemp
   generalize hX:t.probe _ hh _=pX;have hX2:=hX.symm.trans hr;subst hX2;rcases hd' with rfl | ⟨q,q1,rfl,q2⟩;.exact Kf (free habs _ false (Yx _ _ hpow hh m) (By m hne) Gn (λ_=>hemp))
   .dsimp only;rw[q2];have:AL (adding&&(Zrj != Zrj)):=by cases adding <;> decide
    rw[this];simp only[Lj,if_false];exact Kf (free habs _ true (Yx _ _ hpow hh q) (By q (λm' hm'=>hne m' (by lia))) (λ_=>q2) Gn)
  .have hpl:=(bF tok _ i).mp hlive;have hip:i<t.place.size:=(RG.mp hpl).1;have hie:i<es.size:=by have:=S.tab.size;simp at this;lia
   have hes:Ah es es[i]:=NQ hie;obtain⟨b,k2,hy,hb,hki,hhi⟩:=hent i es[i].1 es[i].2 hes;generalize hX:t.probe _ hh _=pX;have hX2:=hX.symm.trans hr;subst hX2;dsimp only;have hall:∀y∈(es.filter (·.1 == hh)).toList.map (·.2),∃(b:Addr) (k3:BF),y=KJ b/\Uk (DC w) s.heap k3 b:=by
    intro y hy;obtain⟨e,he,rfl⟩:=Kr.mp hy;have he':=(Array.mem_filter.mp (xD.mp he)).1;obtain⟨j,hj⟩:=MF.mp (xD.mpr he');rw[Nv] at hj;obtain⟨b,k3,hy,hb,_⟩:=hent j e.1 e.2 hj;exact⟨b,k3,hy,hb⟩
   by_cases hl:Aa t.led;case' pos=>simp only[hl,Zx,Lj,if_false]
   case' neg =>
    rw[Zwc] at hl;simp only[hl,Zxa,if_true];refine Kc (ycd hax ?_ _ hall);simp only[Lj,if_false]
   all_goals
     rw[hes];dsimp only;rw[hy];refine Kc (Nm (wpAny_eqBool_tuple hu hb hax ?_));refine Kc (Wm (M:=B5 w) ho S ?_);dsimp only;by_cases hkk:k2=kk
     .subst hkk;have hQ:=found i hki;rw[Gg];cases adding with
      | true=>exact Kf hQ
      | false =>
       have hsm:Ab (t.sameMemory t.moves t.mask) true:=by unfold Zs3;simp
       simp only[lB,Lj,if_false,hsm,if_true,hlive,hes,hy];have hself:=zu7 b;rw[hself];exact BD (BD (Kf hQ))
     .rw[decide_eq_false hkk];have hsm:Ab (t.sameMemory t.moves t.mask) true:=by unfold Zs3;simp
      simp only[Zxb,Lj,if_false,hsm,if_true,hlive,hes,hy];have hself:=zu7 b;rw[hself];refine BD (BD ?_);have hmN:m<N:=by
       refine Zwh λc=>?_;rcases yG c with e | e;.rw[<- e,n4] at hlive;cases hlive
       .exact hne N e n4
      refine ih (m+1) (some nx) Gn (λp hp=>?_) (λq hqm=>?_) ⟨N,by lia,by lia,n3,n4⟩
      .cases hp;refine(BG hsn);rw[hdn];rcases hd' with e | ⟨q,q1,q2,q3⟩;.exact .inl e
       .exact .inr ⟨q,by lia,q2,q3⟩
      .rcases PN q m with c | c
       .refine⟨hne q c,λj hj hkj=>?_⟩;rcases PN q n with c2 | c2;.exact(hq q c2).2 j hj hkj
        .have hpj:=(bF tok _ j).mp hj;have hjp:j<t.place.size:=(RG.mp hpj).1;have hje:j<es.size:=by have:=S.tab.size;simp at this;lia
         have hej:AQ es es[j]:=NQ hje;obtain⟨_,k3,_,_,hkj',hhj⟩:=hent j es[j].1 es[j].2 hej;rw[hkj] at hkj';cases hkj';refine(m2 q c2 c).2 j hj ?_;rw[hej];show es[j].1=hh;rw[hhj,hH]
       .have:q=m:=by lia
        subst this;refine⟨by rw[hlive];exact λe=>(by cases e),λj hj hkj=>?_⟩;rw[hlive] at hj;cases hj;rw[hki] at hkj;cases hkj;exact hkk rfl
end
section
variable{prog:Ko}{w:Km}{h:Heap}
theorem bH{a:Addr}{o:Obj}{es:AW}{ep:Nat}{t:KC}(ho:AE a o)(hd:o.data= .set es ep t)(e1:AW)(t1:KC) :
  Cj (h.update a (aC e1 t1)) a { o with data:=.set e1 (ep+1) t1 }:=by
 have z:=Pu (aC e1 t1) ho (by rw[putSet_of e1 t1 hd];rfl);rw[putSet_of e1 t1 hd] at z;exact z
theorem Es.flats{ks:Bs}{es:Df Int}(x:Es prog w h ks es)(hf:∀k∈ks,Aa k.flat):ElemsOf (DC w) es:=by
 intro e he;obtain⟨i,hi⟩:=MF.mp he;obtain⟨k,a,b,c⟩:=x.get i e hi;have hk:=hf k (KD a);cases k with
 | many _=>simp[SK.flat] at hk
 | one k =>
  refine(BG ⟨k,c,b⟩);rcases Qu c with ⟨j,t,_,e2⟩ | ⟨y,t,_,e2⟩ <;> rw[e2] <;> rfl
theorem zpi{k:Key}{x:Ka}(hx:SK.is prog w h (.one k) x):Aa x.scannable:=by
 rcases Qu hx with ⟨j,t,_,e2⟩ | ⟨y,t,_,e2⟩ <;> rw[e2] <;> rfl
theorem Es.idx{ks:Bs}{es:Df Int}(x:Es prog w h ks es)(hf:∀k∈ks,Aa k.flat)(k:Key) :
  (∀j,Ab (es.findIdx? (λe=>(DC w).is k e.2)) j->AQ ks (.one k))/\(es.findIdx? (λe=>(DC w).is k e.2)=none->SK.one k∉ks):=by
 constructor
 .intro j hj;obtain⟨h1,h2,_⟩:=List.findIdx?_eq_some_iff_getElem.mp hj;obtain⟨k',a,b,c⟩:=x.get j es[j] (Kv h1);have hk:=hf k' (KD a);cases k' with
  | many _=>simp[SK.flat] at hk
  | one k'=>rw[a,(DC w).inj _ _ _ c h2]
 .intro hn hin;obtain⟨i,hi⟩:=MF.mp hin;have hil:i<es.length:=by rw[<- x.length];exact(Mg.mp hi).1
  obtain⟨k',a,b,c⟩:=x.get i es[i] (Kv hil);rw[hi] at a;cases a;have:=List.findIdx?_eq_none_iff.mp hn es[i] (RN hil);rw[show Aa ((DC w).is k es[i].2) from c] at this;cases this
theorem zyp{es:AW}{t:KC}(ok:SOk t es.toList)(hh:Int)(x:Ka) :
  ∃sl wd,layNew t es hh x=(Mi es Dx (hh,x),Dd,wd,false)/\sl<=t.mask/\TY t hh sl/\(Aa wd->Cr sl .dummy)/\(AL wd->Cr sl .empty):=by
 obtain⟨kp,hpow⟩:=ok.ok.pow;obtain⟨e,he,hemp⟩:=zmk ok.ok (by have:=ok.room;lia);obtain⟨N,hN,hp⟩:=zyy t.mask _ hpow hh e he;obtain⟨m,m1,m2,d,hd,hr⟩:=ztj t (λ_=>hh+1) hh (10*aF t.mask) (t.probeStart hh) 0 (Bh rfl rfl rfl) ⟨N,BM,by lia,by rw[hp];exact hemp⟩;rcases hr with ⟨h1,h2⟩ | ⟨i,nx,_,h2,_⟩
 .have hfs:Ab (t.freeSlot hh) (d.getD (CV hh m),d.isSome):=by
   unfold SetTable.freeSlot SetTable.probe;rw[h2]
  have key:∃sl wd,Ab (t.freeSlot hh) (sl,wd)/\sl<=t.mask/\TY t hh sl/\(Aa wd->Cr sl .dummy)/\(AL wd->Cr sl .empty):=by
   rcases hd with hd | ⟨q,q1,q2,q3,q4⟩
   .have:d=none:=hd;subst this;exact⟨_,_,hfs,Yx _ _ hpow hh m,(By m (λq hq=>(m2 q BM hq).1)),Gn,λ_=>h1⟩
   .subst q3;exact⟨_,_,hfs,Yx _ _ hpow hh q,(By q (λq' hq=>(m2 q' BM (by lia)).1)),(λ_=>q4),Gn⟩
  obtain⟨sl,wd,f1,f2,f3,f4,f5⟩:=key;refine⟨sl,wd,?_,f2,f3,f4,f5⟩
  have hs:Cr sl .empty\/Cr sl .dummy:=by cases wd with
   | true=>exact .inr (f4 rfl)
   | false=>exact .inl (f5 rfl)
  obtain⟨g1,g2,g3,g4,g5,_⟩:=yd9 t es hh x sl ok hs f2 f3;have hfit:Aa ((Dd).fits (Mi es Dx (hh,x)).size):=by
   simp only[aG,Lk,beq_iff_eq,decide_eq_true_eq];refine(BG g3);have:=ok.room;rw[g2];lia
  unfold layNew;rw[f1];show(_,(Dd).orStandIn _,wd,!(Dd).fits _)=_;unfold SetTable.orStandIn;have hfit':Aa ((Dd).fits (Mi es (Mr t.place sl) (hh,x)).size):=hfit;rw[hfit'];rfl
 .lia
theorem zr8(t:KC)(es:AW)(wanted:Nat)(h1:2*es.size<=wanted)(h2:wanted<=4095) :
  ∃t' es',Z2 t es wanted=(es',t',false)/\t'.led=t.led/\t'.plain=t.plain/\es'.toList.Perm es.toList/\SOk t' es'.toList:=by
 obtain⟨t',order,e1,e2,e3,e4,e5,e6,e7,e8,e9⟩:=zpm t es wanted h1 h2;refine⟨t',_,?_,e4,e5,e7,e9⟩;unfold Z2;rw[e1];dsimp only;have c1:Aa (coversAll order es.size):=List.isPerm_iff.mpr e6;have c2:Aa (t'.fits (order.filterMap (es[·]?)).size):=by
  simp only[aG,Lk,beq_iff_eq,decide_eq_true_eq];exact⟨by rw[e9.size,NZ],by have:=e9.room;lia⟩
 rw[c1,c2];rfl
end
section
variable{prog:Ko}{w:Km}{A:Ks}{E:Ka->Ke->Prop}{s:Ke}
theorem zto{t:KC}{es:Df Int}(ok:SOk t es)(hh:Int):∃N,0<=N/\N<0+100000/\N<10*aF t.mask/\Cr (CV hh N) .empty:=by
 obtain⟨kp,hpow⟩:=ok.ok.pow;obtain⟨e,he,hemp⟩:=zmk ok.ok (by have:=ok.room;lia);obtain⟨N,hN,hp⟩:=zyy t.mask _ hpow hh e he;have hb:=ok.ok.big;refine⟨N,BM,?_,hN,by rw[hp];exact hemp⟩;unfold aF at hN;lia
theorem zmz{es:AW}{k:Key}{x:Ka}{ks:Bs}(hx:SK.is prog w s.heap (.one k) x)(ent:Es prog w s.heap ks es.toList)(hf:∀k∈ks,Aa k.flat)(hs:BI ks.length):Aa (byScan x es) :=
 byScan_of (knd:=DC w) (zpi hx) (by have:=ent.length;simp at this;unfold scanBound;lia) (ent.flats hf)
theorem zlj{es:AW}{a:Addr}:AL (byScan Av es):=rfl
theorem yi0{a:Addr}{o:Obj}{ks:Bs}{es:AW}{ep:Nat}{t:KC}{x:Ka}{k:SK}{Q:Option Nat->Af}(hu:A.units<Ln)
  (ho:AI a) (S:SetO prog w s.heap o ks es ep t) (hk:∀k'∈ks,k'.flat=k.flat) (hx:k.is prog w s.heap x)
  (q:∀r:Option Nat,(∀i,Ab r i->Ah ks k)->(r=none->k∉ks)->Q r s):AH (oK a x (Et w)):=by
 unfold oK setFindIn;refine Kc (Wm (M:=B5 w) ho S ?_);dsimp only;cases k with
 | one k =>
  rw[zmz hx S.ent hk S.small,BR];refine Kc (XD ?_);refine Kc (Zyr (knd:=DC w) hx ho S.data S.fits (S.ent.flats hk) ?_);obtain⟨i1,i2⟩:=S.ent.idx hk k;cases hr:es.toList.findIdx? (λe=>(Mz prog w).is k e.2) with
  | none=>exact Kf (q none (λi e=>by cases e) λ_=>i2 hr)
  | some j=>exact Kf (q (some (0+j)) (λi e=>by cases e;rw[Nat.zero_add];exact i1 j hr) Gn)
 | many kk =>
  obtain⟨ax,rfl,hax⟩:=hx;rw[zlj];simp only[Lj,if_false];unfold setSearch;refine Kc (zuo hu ho S hk (By ax hax) (λi hi=>?_) (λhn sl wd _ _ _ _=>?_) 100000 0 none (λ_=>rfl) (λp hp=>by cases hp) (λq hq=>by lia) (zto S.tab _));.exact Kf (q (some i) (λj e=>by cases e;exact hi) Gn)
  .exact Kf (q none (λi e=>by cases e) λ_=>hn)
theorem yjt{k:SK}{x:Ka}{Q:Bool->Af}(hx:k.is prog w s.heap x)(q:∀b,Q b s):AH (Zwv 8 x):=by
 cases k with
 | one k=>rw[Zvz 8 (zpi hx)];exact Kf (q _)
 | many kk =>
  obtain⟨a,rfl,hk⟩:=hx;have hT:=hk.typeIs;obtain⟨o,its,n,ho,_,hd,hi⟩:=hk;unfold Zwv;refine Kc (Xu hT F.slot_tuple_hash.lookup ?_);show AT _ (seqItems? Av >>= _) Q E s;refine Kc (ZS ho hd ?_);show AT _ (Vu its _ _ >>= _) Q E s;refine Kc ?_;rw[<- lA];refine Xr _ (λrest r s'=>r.1=none/\s'=s /\ ∀v∈rest,Aa (nJ v)/\Aa v.scannable) _ ?_ ?_ _ _ (By rfl ?_)
  .rintro v rest r s' ⟨hr,rfl,hall⟩;have hv:=hall v KN;show AT _ (Zwv 7 v >>= _) _ _ _;rw[Zvz 7 hv.2];refine BD ?_;cases plainKind v with
   | true =>
    simp only[Zx,Lj,if_false];exact Kf (By rfl (λu hu'=>hall u (AS hu')))
   | false =>
    simp only[Zxa,if_true];exact Kf (Kf (q false))
  .rintro⟨r1,r2⟩ s' ⟨hr,rfl,_⟩;simp only at hr;subst hr;exact Kf (q true)
  .intro v hv;refine(BG (hi.byValue v hv));clear hd;generalize its.toList=vs at hi hv;induction hi with
   | nil=>cases hv
   | cons h1 _ ih =>
    rcases KH.mp hv with rfl | hv;.rcases Qu h1 with ⟨j,t,_,e2⟩ | ⟨y,t,_,e2⟩ <;> rw[e2] <;> rfl
    .exact ih hv
end
section
variable{prog:Ko}{w:Km}{h:Heap}
noncomputable def MT(b:Bool)(t:KC):KC:=if b then t else { t with plain:=false }
theorem zgw(b:Bool)(t:KC):(MT b t).mask=t.mask:=by cases b <;> rfl
theorem zh9(b:Bool)(t:KC):(MT b t).place=t.place:=by cases b <;> rfl
theorem zl1(b:Bool)(t:KC):(MT b t).dummies=t.dummies:=by cases b <;> rfl
theorem zrw(b:Bool)(t:KC):(MT b t).led=t.led:=by cases b <;> rfl
theorem zjs(b:Bool)(t:KC):(MT b t).fill=t.fill:=by cases b <;> rfl
theorem zq1{o:Obj}{ks:Bs}{es:AW}{ep:Nat}{t:KC}{x:Ka}{k:SK}{sl:Nat}{wd:Bool}(S:SetO prog w h o ks es ep t)(hx:k.is prog w h x)
  (h1:sl<=t.mask) (h2:TY t (Et w) sl) (h3:Aa wd->Cr sl .dummy) (h4:AL wd->Cr sl .empty) (bv:Bool) :
  (Mi es Dx (Et w,x)).size=es.size+1/\Aa ((MT bv Dd).fits (Mi es Dx (Et w,x)).size)/\(MT bv Dd).led=led0 w /\
  (Mi es Dx (Et w,x)).toList.Perm ((Et w,x)::es.toList)/\(∃k1,k1.Perm (k::ks)/\Es prog w h k1 (Mi es Dx (Et w,x)).toList) /\
  ((Aa wd\/AL (MT bv Dd).tooFull)->SOk (MT bv Dd) (Mi es Dx (Et w,x)).toList):=by
 have hs:Cr sl .empty\/Cr sl .dummy:=by cases wd with
  | true=>exact .inr (h3 rfl)
  | false=>exact .inl (h4 rfl)
 obtain⟨g1,g2,g3,g4,g5,g6,g7,g8,g9⟩:=yd9 t es (Et w) x sl S.tab hs h1 h2;have hroom:=S.tab.room;have hsz:(Mi es Dx (Et w,x)).size=es.size+1:=by
  have:=g7.length_eq;simpa using this
 refine⟨hsz,?_,?_,g7,?_,?_⟩
 .simp only[aG,Lk,beq_iff_eq,decide_eq_true_eq];rw[zh9,zjs,zgw];exact⟨g3,by rw[g2];lia⟩
 .rw[zrw,g8];exact S.led
 .exact(Es.cons (e:=(Et w,x)) rfl hx S.ent).perm g7
 .intro hc;refine zqt (t:=Dd) ⟨g1,?_,by rw[g3,NZ],g4⟩ (zgw ..) (zh9 ..) (zl1 ..);rcases hc with hc | hc;.rw[g6 (h3 hc),g2];exact hroom
  .unfold SetTable.tooFull at hc;rw[zjs,zgw] at hc;simpa using hc
theorem SetO.newk{o:Obj}{ks:Bs}{es:AW}{ep:Nat}{t:KC}(S:SetO prog w h o ks es ep t){k:SK}(hk:∀k'∈ks,k'.flat=k.flat)(hn:k∉ks)(hr:BI (ks.length+1))
  {h':Heap} {k1:Bs} {e1:AW} {ep1:Nat} {t1:KC} (p:k1.Perm (k::ks)) (ok:SOk t1 e1.toList) (en:Es prog w h' k1 e1.toList) (hl:t1.led=led0 w) :
  SetO prog w h' { o with data:=.set e1 ep1 t1 } k1 e1 ep1 t1 :=
 ⟨S.ex,rfl,ok,en,p.nodup_iff.mpr (M4.mpr ⟨hn,S.nod⟩),by rw[p.length_eq];simpa using hr,hl,k.flat,λk' hk'=>by
  rcases KH.mp (p.mem_iff.mp hk') with rfl | e;.rfl
  .exact hk k' e⟩
end
section
variable{prog:Ko}{w:Km}{A:Ks}{E:Ka->Ke->Prop}{s:Ke}
theorem Rp{n:Nat}(h:n<=1001):AD n:=by rw[K3];lia
theorem zl9{n:Nat}(h:n<=4095):¬ SetTable.sizeAbove n>sizeLine:=by
 obtain⟨_,_,_,_,h5⟩:=zjt n h;rw[K3];lia
theorem bI{n:Nat}(h:BI n):2*n<=Tr n/\Tr n<=4095:=by
 unfold Tr;rw[if_neg (by lia)];lia
theorem yjr {a : Addr} {o : Obj} {ks : Bs} {es : Array (Int × Ka)} {ep : Nat} {t : KC} {x : Ka} {k : SK} {Q : Bool -> Ke -> Prop} (hu : A.units < Ln)
  (ho:AI a) (S:SetO prog w s.heap o ks es ep t) (hk:∀k'∈ks,k'.flat=k.flat) (hx:k.is prog w s.heap x) (hr:BI (ks.length+1))
  (q:∀h' k1 e1,Qa a s.heap h'->BU w h' a k1 e1->k1.Perm (if k∈ks then ks else k::ks)->(∀e∈e1.toList,e∈es.toList\/e=(Et w,x))->ED (decide (k∉ks))) :
  AH (nP a x (Et w)):=by
 have hlen:es.size=ks.length:=by have:=S.ent.length;simp at this;lia
 have old:k∈ks->Q false s:=λhin=>by
  have:=q s.heap ks es (XS _ _) ⟨o,ep,t,ho,S⟩ (by rw[if_pos hin]) (λe he=>.inl he);rw[decide_eq_false (by simpa using hin)] at this;exact this
 have new:k∉ks-> ∀h' e1 ep1 t1 k1,Qa a s.heap h'->AJ a { o with data:=.set e1 ep1 t1 }->k1.Perm (k::ks)->SOk t1 e1.toList->Es prog w s.heap k1 e1.toList->t1.led=led0 w->e1.toList.Perm ((Et w,x)::es.toList)->ED true:=λhn h' e1 ep1 t1 k1 hs hg p ok en hl hp=>by
  have hK:Qi s.heap h':=rP (es:=es) (ep:=ep) (t:=t) ho S.ex hs;have:=q h' k1 e1 hs ⟨_,ep1,t1,hg,S.newk hk hn hr p ok (en.mono hK) hl⟩ (by rw[if_neg hn];exact p) (λe he=>by
   rcases KH.mp (hp.mem_iff.mp he) with z | z;.exact .inr z
   .exact .inl z);rw[decide_eq_true hn] at this;exact this
 unfold nP Yaa;refine Nm (Kc (Wm (M:=B5 w) ho S ?_));dsimp only;cases k with
 | one k =>
  rw[zmz hx S.ent hk S.small,BR];unfold setAddByScan;refine Dg (XD ?_);refine Kc (Zyr (knd:=DC w) hx ho S.data S.fits (S.ent.flats hk) ?_);obtain⟨i1,i2⟩:=S.ent.idx hk k;cases hi:es.toList.findIdx? (λe=>(Mz prog w).is k e.2) with
  | some j=>exact Kf (Kf (old (KD (i1 j hi))))
  | none =>
   have hn:=i2 hi;obtain⟨sl,wd,f1,f2,f3,f4,f5⟩:=zyp S.tab (C0 w (.one k)) x;dsimp only;rw[f1];refine Kc (Kf (a:=()) ?_);dsimp only;have fin:∀(gw:Bool->Sem Unit) (hgw:∀(s:Ke) (Q:Unit->Af),Q () s->AH (gw false)) (bv:Bool),Kw (B5 w) A (do
     Yal a (Mi es Dx (C0 w (.one k),x)) (MT bv Dd)
     if Aa (!wd&&(MT bv Dd).tooFull) then do
      gw (Z2 (MT bv Dd) (Mi es Dx (C0 w (.one k),x)) (Tr (Mi es Dx (C0 w (.one k),x)).size)).2.2
      Yal a (Z2 (MT bv Dd) (Mi es Dx (C0 w (.one k),x)) (Tr (Mi es Dx (C0 w (.one k),x)).size)).1
       (Z2 (MT bv Dd) (Mi es Dx (C0 w (.one k),x)) (Tr (Mi es Dx (C0 w (.one k),x)).size)).2.1
      pure (some true)
     else pure (some true)) (λr s'=>Kw (B5 w) A (match r with | some added=>pure added | none=>Yaa a x (C0 w (.one k)) 99999) Q E s') E s:=by
    intro gw hgw bv;obtain⟨p1,p2,p3,p7,⟨k1,p4,p5⟩,p6⟩:=zq1 (bv:=bv) S (k:=.one k) hx f2 f3 f4 f5;refine Kc (ZQ ho S.data ?_ (Rp (by lia)));have g1:=bH ho S.data (Mi es Dx (C0 w (.one k),x)) (MT bv Dd);have sb1:=R3 s.heap a (aC (Mi es Dx (C0 w (.one k),x)) (MT bv Dd));by_cases hc:Aa (!wd&&(MT bv Dd).tooFull)
    .rw[Ff];obtain⟨t2,e2,r1,r2,_,r4,r5⟩:=zr8 (MT bv Dd) (Mi es Dx (C0 w (.one k),x)) (Tr (Mi es Dx (C0 w (.one k),x)).size)
      (bI (by lia)).1 (bI (by lia)).2;rw[r1];refine Kc (hgw _ _ ?_);have z2:e2.size=es.size+1:=by rw[<- p1];have:=r4.length_eq;simpa using this
     refine Kc (ZQ g1 rfl ?_ (Rp (by show e2.size<=1001;lia)));obtain⟨k2,q1,q2⟩:=p5.perm r4;refine Kf (Kf (new hn _ e2 _ t2 k2 (sb1.trans (R3 _ a _)) (bH g1 rfl e2 t2) (q1.trans p4) r5 q2 (by rw[r2];exact p3) (r4.trans p7)))
    .rw[E2];refine Kf (Kf (new hn _ _ _ _ k1 sb1 g1 p4 (p6 ?_) p5 p3 p7));cases wd with
     | true=>exact A6
     | false=>exact .inr (by simpa using hc)
   split
   .refine Kc (yjt (k:=.one k) hx λb=>?_);exact fin _ (λ_ _ q=>Kf q) b
   .exact BD (fin _ (λ_ _ q=>Kf q) true)
 | many kk =>
  obtain⟨ax,rfl,hax⟩:=hx;rw[zlj];simp only[Lj,if_false];unfold setSearch;refine Kc (zuo hu ho S hk (By ax hax) (λi hi=>?_) (λhn sl wd f2 f3 f4 f5=>?_) 100000 0 none (λ_=>rfl) (λp hp=>by cases hp) (λq hq=>by lia) (zto S.tab _));.exact Kf (old (KD hi))
  .dsimp only;refine Kc (Wm (M:=B5 w) ho S ?_);dsimp only;have fin:∀bv:Bool,AH ((do
     Yal a (Mi es Dx (C0 w EQ,.ref ax)) (MT bv Dd)
     if Aa (!wd&&(MT bv Dd).tooFull) then do
      setRelay a (Tr (es.size+1))
      pure true
     else pure true)):=by
    intro bv;obtain⟨p1,p2,p3,p7,⟨k1,p4,p5⟩,p6⟩:=zq1 (bv:=bv) S (k:=EQ) (By ax hax) f2 f3 f4 f5;refine Kc (ZQ ho S.data ?_ (Rp (by lia)));have g1:=bH ho S.data (Mi es Dx (C0 w EQ,.ref ax)) (MT bv Dd);have sb1:=R3 s.heap a (aC (Mi es Dx (C0 w EQ,.ref ax)) (MT bv Dd));by_cases hc:Aa (!wd&&(MT bv Dd).tooFull)
    .rw[Ff];obtain⟨t2,order,r1,_,_,r2,_,_,r4,r6,r5⟩:=zpm (MT bv Dd) (Mi es Dx (C0 w EQ,.ref ax)) (Tr (es.size+1))
      (by rw[p1];exact(bI (by lia)).1) (bI (by lia)).2;unfold setRelay;refine Dg (zH g1 rfl p2 ?_);dsimp only;rw[if_neg (zl9 (bI (by lia)).2)];rw[r1];refine Kc (O8 (λh=>absurd h (by rw[r6];simp)) (λ_=>B7));dsimp only;refine ZQ g1 rfl ?_ (Rp (by rw[r6,p1];lia));obtain⟨k2,q1,q2⟩:=p5.perm r4;exact Kf (new hn _ _ _ t2 k2 (sb1.trans (R3 _ a _)) (bH g1 rfl _ t2) (q1.trans p4) r5 q2 (by rw[r2];exact p3) (r4.trans p7))
    .rw[E2];refine Kf (new hn _ _ _ _ k1 sb1 g1 p4 (p6 ?_) p5 p3 p7);cases wd with
     | true=>exact A6
     | false=>exact .inr (by simpa using hc)
   split
   .refine Kc (yjt (k:=EQ) (By ax hax) λb=>?_);exact fin b
   .exact BD (fin true)
end
theorem bJ:Slot "set_iterator" "__next__" "set_iterator.__next__" :=
 .of (owner:="set_iterator") (n:="__next__") (by rw[nC,mR];kernel_rfl) (by decide +kernel) (by decide +kernel)
  (by decide +kernel) (by first | exact .inl (by decide +kernel) | exact .inr (by decide +kernel)) (by rw[nH];kernel_rfl)
theorem zoa:Cw (oE table "set_iterator.__next__") Mu.«set_iterator.__next__»:=entryFor_of_tree (by kernel_rfl)
theorem ztr:Ab (Manifest.owners.lookup (String.ofList ['r','o','t','a','r','e','t','i','_','t','e','s'].reverse)) Manifest.sig_set_iterator:=by kernel_rfl
theorem zo8(a:Ka):argsOk "set_iterator.__next__" (Br [a]):=by
 unfold argsOk;rw[Yam (id:="set_iterator.__next__") (n:=['_','_','t','x','e','n','_','_']) (o:=['r','o','t','a','r','e','t','i','_','t','e','s']) (by kernel_rfl) ztr];kernel_rfl
theorem zjg:Slot "set_iterator" "__iter__" "set_iterator.__iter__" :=
 .of (owner:="set_iterator") (n:="__iter__") (by rw[nC,mR];kernel_rfl) (by decide +kernel) (by decide +kernel)
  (by decide +kernel) (by first | exact .inl (by decide +kernel) | exact .inr (by decide +kernel)) (by rw[nH];kernel_rfl)
theorem znd:Cw (oE table "set_iterator.__iter__") Mu.«dict_keyiterator.__iter__» :=
 zV (id':="dict_keyiterator.__iter__") (by kernel_rfl) rfl (by decide +kernel) (by kernel_rfl)
theorem zqz(a:Ka):argsOk "set_iterator.__iter__" (Br [a]):=by
 unfold argsOk;rw[Yam (id:="set_iterator.__iter__") (n:=['_','_','r','e','t','i','_','_']) (o:=['r','o','t','a','r','e','t','i','_','t','e','s']) (by kernel_rfl) ztr];kernel_rfl
theorem znt:Cw (oE table "set.__iter__") Mu.«frozenset.__iter__» :=
 zV (id':="frozenset.__iter__") (by kernel_rfl) rfl (by decide +kernel) (by kernel_rfl)
noncomputable def O3(w:Km):Bool:=w.params.followText "set-order"
section
variable{prog:Ko}{w:Km}{A:Ks}{E:Ka->Ke->Prop}{s:Ke}
theorem zms{α:Type}{l:AK}{i:Nat}(h:i<l.length):(l[i]::l.eraseIdx i).Perm l:=by
 rw[List.eraseIdx_eq_take_drop_succ];have e:(l.take i++l[i]::l.drop (i+1)).Perm (l[i]::(l.take i++l.drop (i+1))):=Zv5;rw[Ztk,Ue] at e;exact e.symm
theorem ybu{src:Source}{n:Nat}{Q:Nat->Af}(hn:n≠0)(q:∀i d,i<n->Q i { s with drawn:=d }):AH (choose src n) :=
 λ_ _ _=>⟨hn,q _ _ (VF _ (Nat.pos_of_ne_zero hn))⟩
theorem yd8{α:Type}:∀(n:Nat) (xs:AK) (s:Ke) (Q:AK->Af),xs.length<=n->(∀l d,l.Perm xs->Q l { s with drawn:=d })->AH (drawOrder n xs):=by
 intro n;induction n with
 | zero =>
  intro xs s Q hl q;have:xs=[]:=xF (by lia);subst this;exact Kf (q [] s.drawn (.refl _))
 | succ n ih =>
  intro xs s Q hl q;cases xs with
  | nil=>exact Kf (q [] s.drawn (.refl _))
  | cons x xs =>
   unfold drawOrder;refine Kc (ybu (by simp) λi d hi=>?_);rw[Kv hi];dsimp only;refine Kc (ih _ _ _ ?_ λl d' hp=>?_);.rw[Zsd hi];simp at hl ⊢;omega
   .refine Kf (q _ d' ?_);exact(hp.cons _).trans (zms hi)
theorem yfi{α:Type}(next:Nat->Nat):∀(fuel k:Nat) (left:AK) (out:Array α),left.length<=fuel->(Zr1 next fuel k left out).toList.Perm (out.toList++left):=by
 intro fuel;induction fuel with
 | zero =>
  intro k left out hl;have:left=[]:=xF (by lia);subst this;unfold Zr1;simp
 | succ fuel ih =>
  intro k left out hl;unfold Zr1;cases left with
  | nil=>simp
  | cons x l =>
   have hi:next k % (x::l).length<(x::l).length:=VF _ (by simp);rw[Kv hi];dsimp only;refine(ih _ _ _ (by rw[Zsd hi];lia)).trans ?_;rw[Zu7,lZ];exact Ya7 _ (zms hi)
theorem zo5{α:Type}(next:Nat->Nat)(xs:Array α):(Xy next xs).toList.Perm xs.toList:=by
 unfold Xy;exact(yfi next xs.size 0 xs.toList #[] (by simp)).trans (by simp)
noncomputable def U5(w:Km)(a:Addr)(es:AW)(ep:Nat)(t:KC)(slot given:Nat):Option (Ka×Nat) :=
 if O3 w then ((Xy (w.params.setOrder a ep) es)[given]?).map λe=>(e.2,slot) else
  match es[Mr t.place slot]?,t.place[Mr t.place slot]? with
  | some (_,x),some j=>some (x,j+1)
  | _,_=>none
structure SetL(w:Km)(o:Obj)(es:Array (Int×Ka))(ep:Nat)(t:KC):Prop where
 data:o.data= .set es ep t
 tab:SOk t es.toList
 led:t.led=led0 w
theorem SetO.lite{o:Obj}{ks:Bs}{h:Heap}{es:AW}{ep:Nat}{t:KC}(S:SetO prog w h o ks es ep t):SetL w o es ep t:=⟨S.data,S.tab,S.led⟩
theorem SetL.fits{o:Obj}{es:AW}{ep:Nat}{t:KC}(S:SetL w o es ep t):Aa (t.fits es.size):=by
 have h1:=S.tab.size;have h2:=S.tab.room;simp only[aG,Lk,beq_iff_eq,decide_eq_true_eq];exact⟨by simpa using h1,by lia⟩
theorem bK{a:Addr}{o:Obj}{es:AW}{ep:Nat}{t:KC}{Q:AW×Nat×KC->Af}
  (ho:AI a) (S:SetL w o es ep t) (q:Q (es,ep,t) s):AH (setState a):=zH ho S.data S.fits q
theorem zut{o:Obj}{es:AW}{ep:Nat}{t:KC}(S:SetL w o es ep t):t.led= ! O3 w:=S.led
theorem zqc{a:Addr}{o:Obj}{es:AW}{ep:Nat}{t:KC}{slot given:Nat}{Q:Option (Ka×Nat)->Af}(ho:AI a)(S:SetL w o es ep t)
  (hd:AL (O3 w)->AL (!t.plain&&decide (es.size>1))) (q:Q (U5 w a es ep t slot given) s):AH (setNext a slot given ep):=by
 unfold setNext;refine Kc (bK ho S ?_);dsimp only;unfold ZZ;refine Dg (VM B7);show AT _ (Ds (O3 w) _ _) Q E s;unfold U5 at q;cases hb:O3 w with
 | true =>
  rw[hb] at q;simp only[if_true,bne_self_eq_false,Lj,if_false];unfold setWalk;refine Dg (bK ho S ?_);dsimp only;unfold ZZ;refine Dg (VM B7);show AT _ (Ds (O3 w) _ _) _ E s;rw[hb,BR];refine Kc (VM B7);exact Kf q
 | false =>
  rw[hb] at q;simp only[Lj,if_false];refine O8 (λh=>absurd (show Aa (!t.plain&&decide (es.size>1)) from h) (by rw[hd hb];simp)) C4;have hld:=zut S;rw[hb] at hld;exact Kc (O8 (λh=>absurd h (by rw[hld];simp)) (λ_=>Kf (Kf q)))
noncomputable def O4(h:Heap)(I a:Addr)(first:Ka)(i n ep:Nat):Prop:=∃o,AE I o/\o.cls= .type "set_iterator" /\ o.data= .fields #[first,.int i 0,Av,.int n 0,.int ep 0]
theorem O4.typeIs{I a:Addr}{first:Ka}{i n ep:Nat}(x:O4 s.heap I a first i n ep):s.TypeIs (.ref I) "set_iterator" := let ⟨o,ho,hc,_⟩:=x;(CK ho hc)
theorem O4.at{h h':Heap}{I a:Addr}{first:Ka}{i n ep:Nat}(x:O4 h I a first i n ep)(k:∀o,AE I o->AJ I o):O4 h' I a first i n ep:=let ⟨o,ho,r⟩:=x;(CK (k o ho) r)
theorem yey{h1:Heap}{Q:A4->Af}{P:V2->Af}(hh:DN)(q:∀h',(∀b o,EK b o->AJ b o)->ED none) :
  Kw (B5 w) A.in1 (do nZ (<- newExc (.type "StopIteration") [])) P (λe s'=>Kw (B5 w) A (do if <- V1 e (.type "StopIteration") then pure none else throw e) Q E s') { s with heap:=h1 }:=by
 refine Kc ?_;simp only[newExc,oA];refine Kc (Pq ?_ (by size_fits));refine Kc (m:=kY _ _) (GX ?_);refine Pq ?_ (by size_fits);simp only[nZ];refine Kc (zW ?_);rw[show A.in1.handled=none from hh];refine BD (Zwq ?_);refine Kc (VL (T:="StopIteration") (b:=true) (Cm (BP _)) zU ?_);exact Kf (q _ λb o e=>A0 (A0 e))
end
section
variable{prog:Ko}{w:Km}{A:Ks}{E:Ka->Ke->Prop}{s:Ke}
theorem rQ{I a:Addr}{first:Ka}{i n ep:Nat}{Q:A4->Af}(hit:O4 s.heap I a first i n ep)
  (h:Kw (B5 w) A.in1 (Mu.«set_iterator.__next__» (Br [.ref I])) (λfin s'=>∃r,fin= .done (.ret r)/\Q (some r) s')
   (λe s'=>Kw (B5 w) A (do if <- V1 e (.type "StopIteration") then pure none else throw e) Q E s') s):AH (Ot (.ref I)):=by
 unfold Ot;refine Kc (Xx (zF (name:=pF "__next__") hit.typeIs bJ (Rc bJ hit.typeIs zoa (Nu h ?_ ?_) (zo8 _))))
 .rintro fin s' ⟨r,rfl,q⟩;exact(By r (Kf q))
 .intro e s' q;exact q
theorem zpj{I a:Addr}{o:Obj}{es:AW}{ep:Nat}{t:KC}{slot i nx:Nat}{x:Ka}{Q:A4->Af}(hit:O4 s.heap I a (.int slot 0) i es.size ep)
  (ho:AI a) (S:SetL w o es ep t) (hd:AL (O3 w)->AL (!t.plain&&decide (es.size>1))) (hn:Ab (U5 w a es ep t slot i) (x,nx))
  (q:∀h',O4 h' I a (.int nx 0) (i+1) es.size ep->Qa I s.heap h'->ED (some x)):AH (Ot (.ref I)):=by
 refine rQ hit ?_;obtain⟨oi,hoi,hc,hdi⟩:=id hit;unfold Mu.«set_iterator.__next__»;refine BD ?_;refine Kc (Xw hoi hdi ?_);dsimp only;refine Kc (VH ho S.data S.fits ?_);rw[if_neg (by simp)];refine Kc (zqc ho S hd ?_);simp only[Uc];rw[hn];dsimp only;refine Kc (Rf hoi hdi (by simp) ?_);have g1:Cj (s.heap.update I (Uu (·.setIfInBounds 0 (Ma nx)))) I _:=Pu _ hoi (aB (Tq hdi _));have d1:=Tq hdi (·.setIfInBounds 0 (Ma nx));refine Kc (Rf g1 d1 (by simp) ?_);refine Kf (By x (q _ ⟨_,Pu _ g1 (aB (Tq d1 _)),?_,?_⟩ ((R3 ..).trans (R3 ..))));.exact(Zq0 ..).trans ((Zq0 ..).trans hc)
 .rw[Tq d1];simp[Ma]
theorem zs1{I a:Addr}{o:Obj}{es:AW}{ep:Nat}{t:KC}{slot i:Nat}{Q:A4->Af}(hh:DN)(hit:O4 s.heap I a (.int slot 0) i es.size ep)
  (ho:AI a) (S:SetL w o es ep t) (hd:AL (O3 w)->AL (!t.plain&&decide (es.size>1))) (hn:U5 w a es ep t slot i=none)
  (q:∀h',(∀b o,b≠I->AI b->AJ b o)->ED none):AH (Ot (.ref I)):=by
 refine rQ hit ?_;obtain⟨oi,hoi,hc,hdi⟩:=id hit;unfold Mu.«set_iterator.__next__»;refine BD ?_;refine Kc (Xw hoi hdi ?_);dsimp only;refine Kc (VH ho S.data S.fits ?_);rw[if_neg (by simp)];refine Kc (zqc ho S hd ?_);simp only[Uc];rw[hn];dsimp only;refine Kc (Rf hoi hdi (by simp) ?_);exact yey hh λh' k=>q h' λb o hb e=>k b o ((Pa _ _ (K7 hb)).trans e)
noncomputable def zod(h:Heap)(p:Addr)(pl:Ae):Prop:=∃o n,AE p o/\o.data= .seq (F8 (Ma i)).toArray n
theorem zvv{I a p:Addr}{o:Obj}{es:AW}{ep:Nat}{t:KC}{i:Nat}{pl:Ae}{e:Int×Ka}{j:Nat}{Q:A4->Af}(hit:O4 s.heap I a Ap i es.size ep)
  (hp:zod s.heap p pl) (ho:AI a) (S:SetL w o es ep t) (hj:Ah pl j) (he:AQ es e)
  (q:∀h',O4 h' I a Ap (i+1) es.size ep->Qa I s.heap h'->ED (some e.2)):AH (Ot (.ref I)):=by
 refine rQ hit ?_;obtain⟨oi,hoi,hc,hdi⟩:=id hit;obtain⟨op,np,hop,hdp⟩:=hp;unfold Mu.«set_iterator.__next__»;refine BD ?_;refine Kc (Xw hoi hdi ?_);dsimp only;refine Kc (VH ho S.data S.fits ?_);rw[if_neg (by simp)];refine Kc (ZS hop hdp ?_);dsimp only;have hpl:AM (F8 (Ma i)).toArray (i:Int).toNat (.int j 0):=by
  simp[hj,Ma]
 rw[hpl];dsimp only;unfold setNextDrawn;refine Dg (bK ho S ?_);simp only[Uc,bne_self_eq_false,Lj,if_false,he];refine B7;refine Kc (Rf hoi hdi (by simp) ?_);refine Kf (By e.2 (q _ ⟨_,Pu _ hoi (aB (Tq hdi _)),?_,?_⟩ (R3 ..)));.exact(Zq0 ..).trans hc
 .rw[Tq hdi];simp[Ma]
theorem zyk{I a p:Addr}{o:Obj}{es:AW}{ep:Nat}{t:KC}{i:Nat}{pl:Ae}{Q:A4->Af}(hh:DN)(hit:O4 s.heap I a Ap i es.size ep)
  (hp:zod s.heap p pl) (ho:AI a) (S:SetL w o es ep t) (hj:pl[i]? = none)
  (q:∀h',(∀b o,b≠I->AI b->AJ b o)->ED none):AH (Ot (.ref I)):=by
 refine rQ hit ?_;obtain⟨oi,hoi,hc,hdi⟩:=id hit;obtain⟨op,np,hop,hdp⟩:=hp;unfold Mu.«set_iterator.__next__»;refine BD ?_;refine Kc (Xw hoi hdi ?_);dsimp only;refine Kc (VH ho S.data S.fits ?_);rw[if_neg (by simp)];refine Kc (ZS hop hdp ?_);dsimp only;have hpl:(F8 (Ma i)).toArray[(i:Int).toNat]? = none:=by
  simp at hj;simp[hj]
 rw[hpl];dsimp only;refine Kc (Rf hoi hdi (by simp) ?_);have g1:Cj (s.heap.update I (Uu (·.setIfInBounds 0 (Ma 0)))) I _:=Pu _ hoi (aB (Tq hdi _));have d1:=Tq hdi (·.setIfInBounds 0 (Ma 0));refine Kc (Rf g1 d1 (by simp) ?_);exact yey hh λh' k=>q h' λb o hb e=>k b o ((Pa _ _ (K7 hb)).trans ((Pa _ _ (K7 hb)).trans e))
theorem yb2(xs:A9)(hp:xs.toList.Pairwise (· < ·))(j i:Nat)(hi:i<=xs.size)(h1:∀k x,k<i->AM xs k x->x<j)(h2:∀k x,i<=k->AM xs k x->j<=x):Mr xs j=i:=by
 obtain⟨b0,b1,b2⟩:=rK xs j hp;rcases ZG (Mr xs j) i with c | c | c
 .have hg:AM xs (Mr xs j) (EN xs (Mr xs j)):=NQ _;have:=h1 _ _ c hg;have:=b2 _ _ Az hg;lia
 .exact c
 .have hg:Ah xs (EN xs i):=NQ _;have:=h2 _ _ Az hg;have:=b1 _ _ c hg;lia
noncomputable def T3(t:KC)(i:Nat):Nat:=AR i 0 0 (t.place.getD (i - 1) 0+1)
theorem yju{a:Addr}{es:AW}{ep:Nat}{t:KC}(ok:SOk t es.toList)(hb:AL (O3 w))(i:Nat)(hi:i<=es.size) :
  U5 w a es ep t (T3 t i) i=(es[i]?).map λe=>(e.2,T3 t (i+1)):=by
 have hsz:t.place.size=es.size:=by simpa using ok.size
 have hbel:Mr t.place (T3 t i)=i:=by
  refine yb2 _ ok.ok.pl _ _ (by lia) (λk x hk hx=>?_) (λk x hk hx=>?_)
  .unfold T3;rw[if_neg (by lia)];have hl:i - 1<t.place.size:=by lia
   have hg:AM t.place (i - 1) (t.place[i - 1]):=NQ hl;have e:t.place.getD (i - 1) 0=t.place[i - 1]:=by simp[SM,hl]
   rw[e];rcases PN k (i - 1) with c | c;.have:=rJ t.place ok.ok.pl k (i - 1) x _ c hx hg;lia
   .have:k=i - 1:=by lia
    subst this;rw[hg] at hx;cases hx;lia
  .unfold T3;split;.lia
   .have hl:i - 1<t.place.size:=by lia
    have hg:AM t.place (i - 1) (t.place[i - 1]):=NQ hl;have e:t.place.getD (i - 1) 0=t.place[i - 1]:=by simp[SM,hl]
    rw[e];have:=rJ t.place ok.ok.pl (i - 1) k _ x (by lia) hg hx;lia
 unfold U5;rw[hb,hbel];simp only[Lj,if_false];by_cases hc:i<es.size
 .have h1:Ah es es[i]:=NQ hc;have h2:Ah t.place (EN t.place i):=NQ _;rw[h1,h2];show Ab (some (es[i].2,_)) (es[i].2,T3 t (i+1));unfold T3;rw[if_neg (by lia)];have e:t.place.getD (i+1 - 1) 0=EN t.place i:=by
   have hl:i<t.place.size:=by lia
   simp[SM,hl]
  rw[e]
 .have h1:es[i]? = none:=xC (by lia);rw[h1];rfl
end
noncomputable def Qw(h h':Heap):Prop:=∀b o,AE b o->AJ b o
theorem Qw.T{h h':Heap}(k:Qw h h'):Qi h h':=λb o _ e=>k b o e
section
variable{prog:Ko}{w:Km}{A:Ks}{E:Ka->Ke->Prop}{s:Ke}
theorem zgt{I a:Addr}{first:Ka}{i n ep:Nat}{Q:Ka->Af}(hit:O4 s.heap I a first i n ep)(q:Q (.ref I) s):AH (V8 (.ref I)):=by
 refine zJ hit.typeIs zjg (Rc zjg hit.typeIs znd ?_ (zqz _));show AT _ (ret (.ref I)) _ _ s;exact Kf ⟨_,rfl, "set_iterator", _,hit.typeIs,bJ.lookup,q⟩
noncomputable def zzf(prog:Ko)(w:Km)(A:Ks)(I a:Addr)(fp:Bp)(vs:Am)(St:Nat->Aq Heap):Prop :=
 Zx5 prog w A I fp [I] vs.length (λi v=>Ah vs v) St
theorem yku{a I:Addr}{o:Obj}{es:AW}{ep:Nat}{t:KC}(S:SetL w o es ep t)(hb:Aa (O3 w))(hne:a≠I)(hh:DN) :
  zzf prog w A I a [I,a] ((Xy (w.params.setOrder a ep) es).toList.map (·.2)) (λi h=>O4 h I a (.int (0:Nat) 0) i es.size ep/\AE a o):=by
 have hn:∀i,U5 w a es ep t 0 i=((((Xy (w.params.setOrder a ep) es).toList.map (·.2))[i]?).map λv=>(v,0)):=λi=>by
  unfold U5;rw[hb,BR,KR,Nv,Option.map_map];rfl
 have hd:AL (O3 w)->AL (!t.plain&&decide (es.size>1)):=λe=>by rw[hb] at e;cases e
 refine⟨λb hb=>by simp at hb;simp[hb],λi h h' st k=>⟨st.1.at λo e=>Eu I o e,Eu a o st.2⟩,λi s Q E hi st q=>?_,λs Q E st q=>?_,λi s Q E st q=>zgt st.1 q⟩
 .refine zpj st.1 st.2 S hd (x:=((Xy (w.params.setOrder a ep) es).toList.map (·.2))[i]) (nx:=0) (by rw[hn,Kv hi];rfl) λh' it' sb=>?_;exact q _ h' s.toks (Kv hi) ⟨it',(sb.2 a hne).trans st.2⟩ (Gm (sb.2 b (by simpa using hb)) e)
 .refine zs1 hh st.1 st.2 S hd (by rw[hn,RB (Vn _)];rfl) λh' k=>q h' s.toks λb o hb e=>k b o (by simpa using hb) e
theorem yk5{a I:Addr}{o:Obj}{es:AW}{ep:Nat}{t:KC}(S:SetL w o es ep t)(hb:AL (O3 w))(hd:AL (!t.plain&&decide (es.size>1)))(hne:a≠I)(hh:DN) :
  zzf prog w A I a [I,a] (es.toList.map (·.2)) (λi h=>O4 h I a (.int (T3 t i) 0) i es.size ep/\AE a o):=by
 have hl:CJ (es.toList.map (·.2)) es.size:=by simp
 refine⟨λb hb=>by simp at hb;simp[hb],λi h h' st k=>⟨st.1.at λo e=>Eu I o e,Eu a o st.2⟩,λi s Q E hi st q=>?_,λs Q E st q=>?_,λi s Q E st q=>zgt st.1 q⟩
 .rw[hl] at hi;have he:Ah es es[i]:=NQ hi;refine zpj st.1 st.2 S (λ_=>hd) (x:=es[i].2) (nx:=T3 t (i+1)) (by rw[yju S.tab hb i (by lia),he];rfl) λh' it' sb=>?_;exact q _ h' s.toks (by rw[KR,Nv,he];rfl) ⟨it',(sb.2 a hne).trans st.2⟩ (Gm (sb.2 b (by simpa using hb)) e)
 .rw[hl] at st;refine zs1 hh st.1 st.2 S (λ_=>hd) (by rw[yju S.tab hb _ (Vn _),xC (Vn _)];rfl) λh' k=>q h' s.toks λb o hb e=>k b o (by simpa using hb) e
theorem yk7{a I p:Addr}{o:Obj}{es:AW}{ep:Nat}{t:KC}(S:SetL w o es ep t){pl:Ae}(hp:pl.Perm (K6 es.size))(hne:a≠I)(hnp:p≠I)(hh:DN) :
  zzf prog w A I a [I,a,p] (pl.map λj=>(es.getD j (0,.none)).2) (λi h=>O4 h I a Ap i es.size ep/\AE a o/\zod h p pl):=by
 refine⟨λb hb=>by simp at hb;simp[hb],λi h h' st k=>⟨st.1.at λo e=>Eu I o e,Eu a o st.2.1,let ⟨op,n,e1,e2⟩:=st.2.2;⟨op,n,Eu p op e1,e2⟩⟩,λi s Q E hi st q=>?_,λs Q E st q=>?_,λi s Q E st q=>zgt st.1 q⟩
 .rw[Kg] at hi;have hj:Ah pl pl[i]:=Kv hi;have hjl:pl[i]<es.size:=Ni.mp (hp.mem_iff.mp (RN hi));have he:AM es pl[i] es[pl[i]]:=NQ hjl;refine zvv st.1 st.2.2 st.2.1 S hj he λh' it' sb=>?_;refine q _ h' s.toks ?_ (Ck it' ((sb.2 a hne).trans st.2.1)) (Gm (sb.2 b (by simpa using hb)) e)
  .rw[KR,hj];show some (es.getD pl[i] (0,.none)).2=_;simp[SM,hjl]
  .obtain⟨op,n,e1,e2⟩:=st.2.2;exact⟨op,n,(sb.2 p hnp).trans e1,e2⟩
 .rw[Kg] at st;refine zyk hh st.1 st.2.2 st.2.1 S (RB Az) λh' k=>q h' s.toks λb o hb e=>k b o (by simpa using hb) e
theorem zre{es:AW}{pl:Ae}(hp:pl.Perm (K6 es.size)):(pl.map λj=>(es.getD j (0,Lz)).2).Perm (es.toList.map (·.2)):=by
 refine(hp.map _).trans ?_;have:DU es.size (λj=>(es.getD j (0,Lz)).2)=es.toList.map (·.2):=by
  refine Qn λi=>?_;rw[KR,KR];by_cases hi:i<es.size;.rw[Q8 hi,Kv (by simpa using hi)];simp[SM,hi]
  .rw[EC,EC];rfl
 rw[this]
theorem Qj{h:Heap}{o:Obj}:Qw h (h.push o):=λb u e=>A0 e
theorem yjm{a:Addr}{o:Obj}{ks:Bs}{es:AW}{ep:Nat}{t:KC}{Q:Ka->Af}(ho:AI a)(S0:SetO prog w s.heap o ks es ep t)
  (q:∀(h1:Heap) (d:Qs) (I:Addr) (fp:Bp) (vs:Am),(∀A':Ks,A'.handled=none-> ∃St,Zx5 prog w A' I fp [I] vs.length (λi v=>Ah vs v) St/\St 0 h1)->vs.Perm (es.toList.map (·.2))->Qw s.heap h1->E7 I->I<h1.objs.size->(∀b∈fp,b=a\/E7 b) ->
   Q (.ref I) { s with heap:=h1,drawn:=d }):AH (V8 Av):=by
 have S:=S0.lite;have hT:s.TypeIs Av "set" := (CK ho S0.ex.1);have halt:Er a:=Ld ho;refine zJ hT Zyk (Rc Zyk hT znt ?_ (F.args_set_iter_1 _));unfold Mu.«frozenset.__iter__»;refine BD ?_;unfold Zng;refine Dg (VH ho S.data S.fits B7);unfold setDrawn;refine Dg (bK ho S ?_);dsimp only;unfold ZZ;refine Dg (VM B7);refine B7;show AT _ (Ds (! O3 w&&(!t.plain&&decide (es.size>1))) _ _) _ _ s;have hsm:BI es.size:=by have:=S0.small;have:=S0.ent.length;simp at this;lia
 by_cases hc:Aa (! O3 w&&(!t.plain&&decide (es.size>1)))
 .rw[Ff];refine Kc (yd8 _ _ _ _ (by simp) λpl d hp=>?_);unfold oA;refine Kc (Pq ?_ (by show AD (F8 (Ma i)).length;rw[Kg,hp.length_eq,Oo];exact Rp (by lia)));refine Kc (mV (A0 ho) S.data S.fits ?_);unfold Zzy;refine Kc (Pq (Kf ⟨_,rfl, "set_iterator", _,(Cm (BP _)),bJ.lookup,?_⟩));show Q (.ref (CP "tuple" (FD (F8 (Ma i)))).objs.size) _;have g1:Cj (CP "tuple" (FD (F8 (Ma i)))) s.heap.objs.size (CQ (FD (F8 (Ma i)))):=BP _;have k1:Qw s.heap (CP "tuple" (FD (F8 (Ma i)))):=Qj;have z1:(CP "tuple" (FD (F8 (Ma i)))).objs.size=BQ 1:=Mq ..;refine q _ d _ [(CP "tuple" (FD (F8 (Ma i)))).objs.size,a,s.heap.objs.size] _ (λA' hh=>⟨_,yk7 (p:=s.heap.objs.size) S hp (by rw[z1];exact KY (VD halt)) (by rw[z1];exact KY (Q9 _)) hh,
   (Bh _ (BP _) (by simp[Ma])),Qj _ _ (k1 _ _ ho),⟨_,0,Qj _ _ g1,rfl⟩⟩) (zre hp) (λb u e=>Qj _ _ (k1 _ _ e)) ?_ ?_ ?_;.rw[z1];lia
  .exact Nat.lt_of_lt_of_eq (Q9 _) (Mq ..).symm
  .intro b hb;simp only[KH,OD,or_false] at hb;rcases hb with rfl | rfl | rfl;.exact .inr (by rw[z1];lia)
   .exact A6
   .exact .inr Az
 .rw[E2];refine BD ?_;refine Kc (mV ho S.data S.fits ?_);unfold Zzy;refine Kc (Pq (Kf ⟨_,rfl, "set_iterator", _,(Cm (BP _)),bJ.lookup,?_⟩));have it0:O4 (CP "set_iterator" (.fields [Ma 0,Ma 0,KJ a,Ma es.size,Ma ep].toArray)) s.heap.objs.size a (.int (0:Nat) 0) 0 es.size ep :=
   (Bh _ (BP _) (by simp[Ma]));have hfp:∀b∈[s.heap.objs.size,a],b=a\/E7 b:=by
   intro b hb;simp only[KH,OD,or_false] at hb;rcases hb with rfl | rfl;.exact .inr Az
   .exact A6
  cases hb:O3 w with
  | true =>
   exact q _ s.drawn _ [s.heap.objs.size,a] _ (λA' hh=>⟨_,yku S hb (KY halt) hh,it0,Qj _ _ ho⟩) ((zo5 _ _).map _) Qj Az (by rw[Mq];exact Q9 _) hfp
  | false =>
   rw[hb] at hc;exact q _ s.drawn _ [s.heap.objs.size,a] _ (λA' hh=>⟨_,yk5 S hb (by simpa using hc) (KY halt) hh,it0,Qj _ _ ho⟩) (.refl _) Qj Az (by rw[Mq];exact Q9 _) hfp
theorem zvl:ZX Gh "__len__" = pure (some (.builtin "set.__len__")):=F.slot_set_len.lookup
theorem yiy{a:Addr}{Q:Bool->Af}(hT:s.TypeIs Av "set")(q:Q false s):AH (oU Av):=by
 unfold oU;refine Kc (Xu hT zvl ?_);generalize hid:("set.__len__" : String)=id0;wp_delta;rw[show Ab (oH id0) ("set", "__len__") from by subst hid;decide +kernel];subst hid;refine Kc (VL (T:="set") (b:=true) hT nO ?_);refine O8 (λe=>absurd e (by decide)) C4;refine O8 C4 (λe=>absurd (by decide +kernel) e);exact Kc (Xz hT (Kf q))
theorem zyu{a:Addr}{o:Obj}{ks:Bs}{es:AW}{ep:Nat}{t:KC}{Q:Am->Af}(hh:DN)(ho:AI a)(S0:SetO prog w s.heap o ks es ep t)
  (q:∀(vs:Am) (h':Heap) (d:Qs) (tk:Nat),vs.Perm (es.toList.map (·.2))->Qw s.heap h'->s.heap.objs.size<h'.objs.size->Q vs { s with heap:=h',drawn:=d,toks:=tk }):AH (oN Av):=by
 have halt:Er a:=Ld ho;unfold oN;refine Kc (zQ (Qp F.entry_proto_collect ?_));rw[Rj F.plain_proto_collect _];show AT A.in1 (oM [] >>= λl=>again (.builtin "list.__iadd__" (Br [l,Av]))) _ _ s;refine Kc (Pq ?_);refine Kf ⟨Rg Zw9 _,Qp F.entry_list_iadd ?_⟩;rw[Rj Zw9 _];generalize hN:s.heap.push { cls:=.type "list", data:=.seq ([]:List Ka).toArray }=hL;have hLg:Ab (hL.get? s.heap.objs.size) (Du (FD ([]:Am))):=by rw[<- hN];exact Zu _ rfl
 have hLs:hL.objs.size=BQ 1:=by rw[<- hN,Mq]
 have k0:Qw s.heap hL:=by rw[<- hN];exact Qj
 show AT A.in1 (Tp BN Av BN) _ _ _;unfold Tp;refine Kc (Xz (T:="set") (CK (k0 a o ho) S0.ex.1) ?_);have h1:AL (XQ BN Av):=by
  simp only[XQ,beq_eq_false_iff_ne];exact Pn halt
 have h2:Be (MJ "set") (MJ "list"):=by decide
 have h3:Be (MJ "set") (MJ "tuple"):=by decide
 simp only[h1,h2,h3,lC,Lj,if_false];refine Kc (yjm (s:={ s with heap:=hL }) (k0 a o ho) (S0.mono k0.T) λh1 d I fp vs hW hvs k1 hI1 hI2 hfp=>?_);refine Kc (Nm (yiy (CK (k1 a o (k0 a o ho)) S0.ex.1) ?_));refine O8 C4 (λe=>absurd (by decide +kernel) e);refine Kc (XD ?_);refine Kc ?_;show AT A.in1 (XF s.heap.objs.size (·.push .none) >>= λ_=>XF s.heap.objs.size (·.pop)) _ _ _;have hS1:=k1 _ _ hLg;refine Kc (VN hS1 rfl ?_);have hS2:=Pu (O1 (·.push Lz)) hS1 rfl;refine VN hS2 rfl ?_;have hS3:=Pu (O1 (·.pop)) hS2 rfl;generalize hG:(h1.update s.heap.objs.size (O1 (·.push Lz))).update s.heap.objs.size (O1 (·.pop))=h2 at hS3 ⊢;have k2:∀b u,b≠s.heap.objs.size->EK b u->Ab (h2.get? b) u:=λb u hb e=>by
  rw[<- hG];exact(Pa _ _ (K7 hb)).trans ((Pa _ _ (K7 hb)).trans e)
 have hSf:s.heap.objs.size∉fp:=λhm=>by
  rcases hfp _ hm with e | e;.rw[<- e] at halt;exact Vq _ halt
  .have e':hL.objs.size<=s.heap.objs.size:=e;rw[hLs] at e';lia
 obtain⟨St,W,st0⟩:=hW A.in1 (by simp[hh]);have st2:=W.frame 0 h1 h2 st0 λb hb u e=>k2 b u (λx=>hSf (x ▸ hb)) e;refine Kf ⟨Rg Zv9 _,Zwf (A:=A) W.toS (by rw[hvs.length_eq];simp;exact Rp (by have:=S0.small;have:=S0.ent.length;simp at this;lia)) _ hSf _ vs.length 0 _ _ _ rfl BM st2 hS3 (Zw6 _) λs' acc c hm hS' hacc=>?_⟩;show AT A (load s.heap.objs.size >>= _) _ _ s';refine Kc (nW hS' ?_);have ev:acc.toList=vs:=by
  refine Qn λi=>?_;by_cases hi:i<acc.size
  .have e1:Ah acc acc[i]:=NQ hi;rw[hacc.2 i _ e1,Kv (by simpa using hi)];simp
  .rw[EC,RB (by have:=hacc.1;lia)]
 have es':=Moved.eq_with hm;refine B7;show Q acc.toList s';rw[ev,es'];refine q vs s'.heap d s'.toks hvs (λb u e=>?_) (Ld hS');have hb:=Bv;have hb1:b≠s.heap.objs.size:=KY hb;have hb2:b≠I:=λx=>by
  have e':hL.objs.size<=I:=hI1;rw[hLs,<- x] at e';exact Vq _ (ZK hb e')
 exact hm.heap b u (by simp[hb1,hb2]) (k2 b u hb1 (k1 b u (k0 b u e)))
end
section
variable{prog:Ko}{w:Km}{A:Ks}{E:Ka->Ke->Prop}{s:Ke}
theorem yj8{k:SK}{x:Ka}{Q:Int->Af}(hu:A.units<Ln)(hx:k.is prog w s.heap x)(q:∀tk,Q (Et w) { s with toks:=tk }):AH (pyHash x):=by
 cases k with
 | one k=>exact(DC w).pyHash hx (q _)
 | many kk=>obtain⟨a,rfl,hk⟩:=hx;exact wpAny_pyHash_tuple hu hk (q _)
structure Part(prog:Ko)(w:Km)(k0:List SK)(items:Array Ka)(i:Nat)(ks:List SK)(es:Array (Int×Ka)):Prop where
 mem:∀k,k∈ks ↔ ∃j:Nat,j<i/\k0[j]? = some k
 len:ks.length<=i
 ent:∀e∈es.toList,∃j:Nat,items[j]? = some e.2
theorem ydg {S I l : Addr} {items : BT} {k0 : Bs} {f : Bool} {R : Tj -> Ke -> Prop} (hu : A.units + 1 < Ln) (hh : A.handled = none) (hSI : S ≠ I) (hSl : S ≠ l) (hIl : l ≠ I)
  (hlen:k0.length=items.size) (hn:BI items.size) (hf:∀k∈k0,k.flat=f) :
  ∀(m i:Nat) (s:Ke) (ks:Bs) (es:AW),items.size - i=m->i<=items.size->s.heap.IsListIter I l i->s.heap.IsList l items->BU w s.heap S ks es->Part prog w k0 items i ks es ->
   (∀(j:Nat) (v:Ka) (k:SK),AQ items v->AQ k0 k->k.is prog w s.heap v) ->
   (∀s' ks' es',(∀b o,b≠I->b≠S->AI b->Ab (s'.heap.get? b) o)->(∃tk,s'={ s with heap:=s'.heap,toks:=tk })->BU w s'.heap S ks' es'->Part prog w k0 items items.size ks' es'->R (EY .none) s') ->
   Pr (B5 w) A (.builtin "set.update.loop" (Br [.ref S,.ref I])) R s:=by
 intro m;induction m with
 | zero =>
  intro i s ks es hk hi hit hl hS hp hkey hR;have hin:i=items.size:=by lia
  subst hin;refine Qp Zt8 ?_;rw[Rj zB _];show AT A.in1 (Ot (.ref I) >>= _) _ _ s;refine Kc (Zvu (by simp[hh]) hit hl (by simp) λh' he=>?_);show AT A.in1 (ret Lz) _ _ _;obtain⟨o,ep,t,ho,So⟩:=hS;have kT:Qi s.heap h':=λb u c e=>he b u (λz=>by
   obtain⟨oi,h1,h2,_⟩:=hit;rw[z,h1] at e;cases e;rw[h2] at c;exact absurd c (by decide)) e;exact Kf (hR _ ks es (λb u h1 _ e=>he b u h1 e) (AY s.toks) ⟨o,ep,t,he S o hSI ho,So.mono kT⟩ hp)
 | succ m ih =>
  intro i s ks es hk hi hit hl hS hp hkey hR;have hlt:i<items.size:=by lia
  have hv:Ah items items[i]:=NQ hlt;have hki:Ah k0 (EN k0 i):=Kv _;have hx:=hkey i _ _ hv hki;have hfi:=hf _ (KD hki);generalize k0[i]'(by lia)=k at hki hx hfi;refine Qp Zt8 ?_;rw[Rj zB _];show AT A.in1 (Ot (.ref I) >>= _) _ _ s;refine Kc (Zu8 hit hl hv λh1 hit1 sb1=>?_);have kT1:Qi s.heap h1:=λb u c e=>(sb1.2 b (λz=>by
   obtain⟨oi,g1,g2,_⟩:=hit;rw[z,g1] at e;cases e;rw[g2] at c;exact absurd c (by decide))).trans e;obtain⟨o,ep,t,ho,So⟩:=hS;have ho1:EK S o:=(sb1.2 S hSI).trans ho;show AT A.in1 (Ti [items[i]] (setAdd S items[i]) >>= _) _ _ _;refine Kc (Nm ?_);unfold setAdd;refine Nm (Kc (yj8 (by simp only[oO];omega) (SK.is_mono kT1 hx) λtk=>?_));have kin:∀k'∈ks,k'.flat=k.flat:=λk' hk'=>by
   obtain⟨j,_,hj⟩:=(hp.mem k').mp hk';rw[hf _ (KD hj),hfi]
  refine yjr (s:={ s with heap:=h1,toks:=tk }) (by simp only[oO];omega) ho1 (So.mono kT1) kin (SK.is_mono kT1 hx) (by have:=hp.len;lia) λh2 k2 e2 sb2 S2 p2 en2=>?_;have hp2:Part prog w k0 items (i+1) k2 e2:=by
   refine⟨λk'=>?_,?_,λe he=>?_⟩
   .rw[p2.mem_iff];constructor
    .intro hm;have hm':k'∈k::ks:=by
      split at hm;.exact AS hm
      .exact hm
     rcases KH.mp hm' with e | e;.exact⟨i,by lia,by rw[e];exact hki⟩
     .obtain⟨j,hj,hkj⟩:=(hp.mem k').mp e;exact⟨j,by lia,hkj⟩
    .rintro⟨j,hj,hkj⟩;have hm':k'=k\/k'∈ks:=by
      rcases PN j i with c | c;.exact .inr ((hp.mem k').mpr ⟨j,c,hkj⟩)
      .have:j=i:=by lia
       subst this;rw[hki] at hkj;cases hkj;exact A6
     split
     .rename_i hin;rcases hm' with e | e;.rw[e];exact hin
      .exact e
     .rcases hm' with e | e;.rw[e];exact KN
      .exact AS e
   .rw[p2.length_eq];have:=hp.len;split;.lia
    .simp;omega
   .rcases en2 e he with z | z;.exact hp.ent e z
    .exact⟨i,by rw[z];exact hv⟩
  have k12:Qi h1 h2:=rP (es:=es) (ep:=ep) (t:=t) ho1 So.ex sb2;refine Kf ⟨Rg zB _,ih (i+1) _ k2 e2 (by lia) hlt ?_ ?_ S2 hp2 (λj v k' h3 h4=>SK.is_mono (λb u c e=>k12 b u c (kT1 b u c e)) (hkey j v k' h3 h4)) λs' k3 e3 kp ⟨tk',hs'⟩ S3 p3=>?_⟩;.exact hit1.at λu e=>(sb2.2 I (K7 hSI)).trans e
  .exact(hl.extBut sb1.extBut hIl).at λu e=>(sb2.2 l (K7 hSl)).trans e
  .refine hR s' k3 e3 (λb u h3 h4 e=>kp b u h3 h4 ((sb2.2 b h4).trans ((sb1.2 b h3).trans e))) (BG tk') S3 p3;rw[hs']
end
section
variable{prog:Ko}{w:Km}{A:Ks}{E:Ka->Ke->Prop}{s:Ke}
theorem yb3{h:Heap}{a:Addr}{led:Bool}(hl:led=led0 w)(hg:AE a (GL (.set #[] 0 (.fresh 0 0 led)))):BU w h a [] (#[]) :=
 ⟨_,0,_,hg,(By rfl rfl),rfl,zqu 0 0 led,.nil,RQ,by simp,hl,true,λk hk=>by cases hk⟩
theorem ya6(a:Ka){Q1:Ka->Af}(h:Q1 BN { s with heap:=s.heap.push (GL (.set #[] 0 (.fresh 0 0 (led0 w)))) }) :
  Pr (B5 w) A (.call (.builtin "set.__new__") (Br [Gh, a])) (wants Q1 E) s:=by
 refine zO ?_;show AT A.in1 ((do zM "set.__new__" (Br [Gh, a]);again (.builtin "set.__new__" (Br [Gh, a])))) _ _ s;refine Kc (Zs9 (F.newCall_set_1 a) (Kf ⟨Rg Zyl _,Qp F.entry_set_new ?_⟩));rw[Rj Zyl _];unfold Mu.«set.__new__» Zwb;have hsub:=nO;obtain⟨hp,g,d,tk,os⟩:=s;dsimp only;wp_walk;refine VM B7;dsimp only;simp only[newObj];refine Kc (wpAny_alloc B7);exact Kf h
theorem zvj{l:Addr}{items:BT}{k0:Bs}{f:Bool}{Q:Ka->Af}(hu:A.units+16<Ln)(hh:DN)(hl:s.heap.IsList l items)(hlen:k0.length=items.size)(hn:BI items.size)(hf:∀k∈k0,k.flat=f)
  (hkey:∀(j:Nat) (v:Ka) (k:SK),AQ items v->AQ k0 k->k.is prog w s.heap v)
  (q:∀h' tk ks es,Qw s.heap h'->BU w h' s.heap.objs.size ks es->Part prog w k0 items items.size ks es->Q BN { s with heap:=h',toks:=tk }) :
  AH (call Gh [Cd]):=by
 obtain⟨c,tl,hmro⟩:=Ut.mro;have hmade:=Ut.made;have hsub:=Ut.sub;refine Te (zO ?_);show AT _ (callAny Gh _) _ _ _;refine Kf ⟨oX _ (by decide +kernel),Qp F.entry_type_call ?_⟩;rw[Around.under_plain (weight_type_call_type "set" [Cd] []) rfl];have h1:=Ut.notType;have h2:=Ut.canCreate;have hct:=F.typeCall_set_1 Cd;repeat (any_goals (first | assumption | wp_step))
 refine Td (ya6 Cd (E:=E) (Q1:=λobj s1=>obj= BN/\s1={ s with heap:=s.heap.push (GL (.set #[] 0 (.fresh 0 0 (led0 w)))) }) De) λr s1 hr=>?_;cases r with
 | error e=>exact hr
 | ok fl =>
  cases fl with
  | ret obj =>
   obtain⟨rfl,rfl⟩:=hr;generalize hN:s.heap.push { cls:=.type "set", dict:=none,data:=.set #[] 0 (.fresh 0 0 (led0 w)) }=hp1;have hS:Ab (hp1.get? s.heap.objs.size) (GL (.set #[] 0 (.fresh 0 0 (led0 w)))):=by rw[<- hN];exact Zu _ rfl
   have k1:Qw s.heap hp1:=by rw[<- hN];exact Qj
   have z1:hp1.objs.size=BQ 1:=by rw[<- hN,Mq]
   have hT:aH { s with heap:=hp1 } BN "set" := (Cm hS);have hli:=Ut.init.lookup;have hbi:=Ut.init.bind BN;repeat (any_goals (first | assumption | wp_step))
   refine Td (Xp (R:=wants (λr s2=>r= .none /\ ∃h' tk ks es,s2={ s with heap:=h',toks:=tk }/\Qw s.heap h'/\BU w h' s.heap.objs.size ks es/\Part prog w k0 items items.size ks es) E)
    Ut.init.plain F.entry_set_init (check_set_init_1 hT ?_)) λr2 s2 hr2=>?_
   .obtain⟨ol,hol,hcl,nl,hdl⟩:=id hl;obtain⟨ocls,odict,odata,oslots⟩:=ol;simp only at hcl hdl;subst hcl;subst hdl;have hol':=k1 _ _ hol;have hsls:=F.sub_list_set;have hslf:=F.sub_list_frozenset;have hne:Be (MJ "list") (MJ "dict"):=by decide
    have hl1:hp1.IsList l items:=(BH _ hol' nl rfl);unfold Mu.«set.__init__» noKeywords Zwa;generalize hPI:V8=PI;wp_walk;subst hPI;refine mW hl1 ?_;refine Kc (zQ ?_);have hlS:Er l:=Ld hol;have hIt:(hp1.push (Fs "list_iterator" (.fields #[Cd,.int 0 0]))).IsListIter hp1.objs.size l 0:=(Bh _ (BP _) rfl);refine ydg (S:=s.heap.objs.size) (I:=hp1.objs.size) (l:=l) (items:=items) (k0:=k0) (f:=f) ?hu ?hh ?n1 ?n2 ?n3 hlen hn hf (items.size - 0) 0 _ [] #[] (by lia) BM hIt (hl1.push _) (yb3 rfl (Qj _ _ hS)) ⟨λk=>⟨DW,(λ⟨j,hj,_⟩=>by lia)⟩,by simp,(λe he=>by cases he)⟩ (λj v k a b=>SK.is_mono (λb u _ e=>Qj _ _ (k1 _ _ e)) (hkey j v k a b)) ?hR;case hu=>simp only[oO];lia
    case hh=>simp[hh]
    case n1=>rw[z1];exact KY (Q9 _)
    case n2=>exact Pn hlS
    case n3=>rw[z1];exact KY (VD hlS)
    case hR =>
     intro s' ks' es' kp ⟨tk',hs'⟩ S' p';show AT _ _ _ _ _;refine B7;show AT _ (ret Lz) _ _ _;refine Kf ⟨rfl,s'.heap,tk',ks',es',hs',λb o e=>?_,S',p'⟩;have hb:=Bv;exact kp b o (by rw[z1];exact KY (VD hb)) (KY hb) (Qj _ _ (k1 _ _ e))
   .cases r2 with
    | error e=>exact hr2
    | ok fl2 =>
     cases fl2 with
     | ret r =>
      obtain⟨rfl,h',tk,ks,es,rfl,a1,a2,a3⟩:=hr2;repeat (any_goals (first | assumption | wp_step))
      exact q _ _ _ _ a1 a2 a3
     | _=>exact hr2.elim
  | _=>exact hr.elim
end
section
variable{prog:Ko}{w:Km}{A:Ks}{E:Ka->Ke->Prop}{s:Ke}
theorem zz5{Q:Bool->Af}(q:Q (O3 w) s):AH ZZ:=by
 unfold ZZ;exact Kc (VM (Kf q))
theorem zqq{a:Addr}{o:Obj}{es:AW}{ep:Nat}{t:KC}{Q:AW->Af}(ho:AI a)(S:SetL w o es ep t)
  (q:∀(e1:AW) (d:Qs),e1.toList.Perm es.toList->Q e1 { s with drawn:=d }):AH (setWalk a):=by
 unfold setWalk;refine Kc (bK ho S ?_);dsimp only;refine Kc (zz5 ?_);cases hb:O3 w with
 | true =>
  rw[BR];refine Kc (VM B7);exact q _ s.drawn (zo5 _ _)
 | false =>
  simp only[Lj,if_false];refine O8 C4 C4;.refine Kc (yd8 _ _ _ _ (by simp) λl d hp=>Kf (q l.toArray d (by simpa using hp)))
  .have hld:=zut S;rw[hb] at hld;exact Kc (O8 (λh=>absurd h (by rw[hld];simp)) (λ_=>Kf (Kf (q es s.drawn (.refl _)))))
theorem ygd{Q:Bool->Af}(q:∀b,Q b s):∀sets:Bp,(∀a∈sets,∃ks es,BU w s.heap a ks es)->AH (setsQuiet sets):=by
 intro sets hs;unfold setsQuiet;refine Kc ?_;refine Xr _ (λrest r s'=>r.1=none/\s'=s /\ ∀a∈rest,∃ks es,BU w s.heap a ks es) _ ?_ ?_ _ _ (By rfl hs)
 .rintro a rest r s' ⟨hr,rfl,hall⟩;obtain⟨ks,es,o,ep,t,ho,So⟩:=hall a KN;have hrest:∀a∈rest,∃ks es,BU w s'.heap a ks es:=λy hy=>hall y (AS hy);refine Kc (VH ho So.data So.fits ?_);refine Kc ?_;rw[<- lA];have hel:∀e∈es.toList,∃k,SK.is prog w s'.heap k e.2:=λe he=>by
   obtain⟨i,hi⟩:=MF.mp he;obtain⟨k,_,_,c⟩:=So.ent.get i e hi;exact⟨k,c⟩
  refine Xr _ (λrest r s1=>r.1=none/\s1=s' /\ ∀e∈rest,∃k,SK.is prog w s'.heap k e.2) _ ?_ ?_ _ _ (By rfl hel)
  .rintro⟨hv,x⟩ rest r s1 ⟨hr1,rfl,hall1⟩;obtain⟨k,hk⟩:=hall1 _ KN;have hrest1:∀e∈rest,∃k,SK.is prog w s1.heap k e.2:=λy hy=>hall1 y (AS hy);cases k with
   | one k =>
    have:∀a,x ≠ Av:=λa e=>by
     rcases Qu hk with ⟨j,t,_,e2⟩ | ⟨y,t,_,e2⟩ <;> (rw[show x=_ from e2] at e;cases e)
    cases x with
    | ref a=>exact Fp (this a)
    | _=>exact Kf (By rfl hrest1)
   | many kk =>
    obtain⟨b,e,hb⟩:=hk;have e':x= Cs:=e;subst e';refine Kc (Xu hb.typeIs F.slot_tuple_eq.lookup ?_);rw[if_pos (by decide +kernel)];exact Kf (Kf (Kf (q false)))
  .rintro⟨r1,r2⟩ s1 ⟨hr1,rfl,_⟩;simp only at hr1;subst hr1;exact Kf (By rfl hrest)
 .rintro⟨r1,r2⟩ s' ⟨hr,rfl,_⟩;simp only at hr;subst hr;exact Kf (q true)
theorem yfg {a f : Addr} {others : Bp} {o : Obj} {ks kf : Bs} {es ef : Array (Int × Ka)} {ep : Nat} {t : KC} {Q : Array (Int × Ka) -> Ke -> Prop} (ho : Cw (s.heap.get? a) o) (S : SetO prog w s.heap o ks es ep t)
  (hoth:∀b∈others,∃k e,BU w s.heap b k e) (hf:BU w s.heap f kf ef)
  (q:∀(e1:AW) (h':Heap) (d:Qs),e1.toList.Perm es.toList->Qa f s.heap h'->BU w h' f kf ef->Q e1 { s with heap:=h',drawn:=d }) :
  AH (zX a others (some f)):=by
 unfold zX;refine Kc (Wm (M:=B5 w) ho S ?_);dsimp only;refine Kc (zz5 ?_);refine O8 C4 C4;.exact zqq ho S.lite λe1 d hp=>q e1 s.heap d hp (XS _ _) hf
 .refine Kc (ygd (λb=>?_) (a::others) Eg)
  .refine O8 C4 C4;.exact zqq ho S.lite λe1 d hp=>q e1 s.heap d hp (XS _ _) hf
   .refine Kc (XD ?_);obtain⟨of,epf,tf,hof,Sf⟩:=hf;refine Kc (Wm (M:=B5 w) hof Sf ?_);dsimp only;refine O8 C4 C4
    .have hz:AD ef.size:=Rp (by have:=Sf.small;have:=Sf.ent.length;simp at this;lia);refine Kc (ZQ hof Sf.data B7 hz);have sb:=R3 s.heap f (aC ef { tf with led:=tf.led&&t.led,plain:=tf.plain&&t.plain });refine q es _ s.drawn (.refl _) sb ⟨_,epf+1,{ tf with led:=tf.led&&t.led,plain:=tf.plain&&t.plain },bH hof Sf.data _ _,?_⟩;exact⟨Sf.ex,rfl,zqt Sf.tab rfl rfl rfl,Sf.ent.mono (rP (es:=ef) (ep:=epf) (t:=tf) hof Sf.ex sb),Sf.nod,Sf.small,by
      show(tf.led&&t.led)=_;rw[Sf.led,S.led];simp,Sf.kind⟩
    .exact Kf (q es s.heap s.drawn (.refl _) (XS _ _) ⟨of,epf,tf,hof,Sf⟩)
  .rcases KH.mp hb with rfl | hb;.exact⟨ks,es,o,ep,t,ho,S⟩
   .exact hoth b hb
end
section
variable{prog:Ko}{w:Km}{A:Ks}{E:Ka->Ke->Prop}{s:Ke}
theorem SetE.mono{h h':Heap}{a:Addr}{ks:Bs}{es:AW}(x:BU w h a ks es)(g:∀o,AE a o->AJ a o)(K:Qi h h'):BU w h' a ks es :=
 let ⟨o,ep,t,ho,S⟩:=x;⟨o,ep,t,g o ho,S.mono K⟩
theorem SetE.typeIs{a:Addr}{ks:Bs}{es:AW}(x:BU w s.heap a ks es):s.TypeIs Av "set" := let ⟨o,_,_,ho,S⟩:=x;(CK ho S.ex.1)
theorem SetE.keepT{h h':Heap}{a:Addr}{ks:Bs}{es:AW}(x:BU w h a ks es)(sb:Qa a h h'):Qi h h' :=
 let ⟨_,ep,t,ho,S⟩:=x;rP (es:=es) (ep:=ep) (t:=t) ho S.ex sb
theorem ybp{Q:Ka->Af}(q:BU w (s.heap.push (GL (.set #[] 0 (.fresh 0 0 (led0 w))))) s.heap.objs.size [] (#[])->Q BN { s with heap:=s.heap.push (GL (.set #[] 0 (.fresh 0 0 (led0 w)))) }) :
  AH (newSet Gh):=by
 unfold newSet;refine Kc (zz5 ?_);dsimp only;simp only[newObj];refine Kc (wpAny_alloc (Kf (q ?_)));exact⟨_,0,_,BP _,(By rfl rfl),rfl,zqu 0 0 _,.nil,RQ,by simp,rfl,true,λk hk=>by cases hk⟩
theorem yib{a:Addr}{ks:Bs}{es:AW}{Q:Ka->Af}(x:BU w s.heap a ks es)(q:Q Gh s):AH (Zp1 a):=by
 unfold Zp1;exact Kc (VL x.typeIs nO (Kf q))
theorem yhk{a:Addr}{ks:Bs}{es:AW}{Q:Bool->Af}(x:BU w s.heap a ks es)(q:Q true s):AH (Z6 Av):=by
 unfold Z6;exact Kc (VL x.typeIs nO (Kf q))
theorem zz2{a:Addr}{ks:Bs}{es:AW}{Q:Nat->Af}(x:BU w s.heap a ks es)(q:Q es.size s):AH (Zng a):=by
 obtain⟨o,ep,t,ho,S⟩:=x;unfold Zng;exact Kc (VH ho S.data S.fits (Kf q))
structure Took(kb:List SK)(p:SK->Bool)(es0:List (Int×Ka))(kd:List SK)(kr:List SK)(er:Array (Int×Ka)):Prop where
 mem:∀k,k∈kr↔k∈kb\/(k∈kd/\p k=true)
 len:kr.length<=kb.length+kd.length
 ent:∀e∈er.toList,e∈es0
theorem zwz {r : Addr} {ks kb : Bs} {es0 : List (Int × Ka)} {f : Bool} {p : SK -> Bool} {hp : Heap} (body : Int × Ka -> Sem (ForInStep Unit)) (hf : ∀ k ∈ ks, k.flat = f) (hg : ∀ k ∈ kb, k.flat = f) (hn : kb.length + ks.length <= 1000)
  (hb:∀(e:Int×Ka) (k:SK) (s:Ke) (kr:Bs) (er:AW) (Q:ForInStep Unit->Af),k∈ks->e.1=Et w->k.is prog w s.heap e.2->BU w s.heap r kr er->(∀k'∈kr,k'.flat=k.flat)->BI (kr.length+1) ->
   (∀b o,b≠r->Ab (hp.get? b) o->AI b)->Qi hp s.heap ->
   (∀h' k1 e1,Qa r s.heap h'->BU w h' r k1 e1->(∀k',k'∈k1↔k'∈kr\/(k'=k/\Aa (p k)))->k1.length<=kr.length+1->(∀e'∈e1.toList,e'∈er.toList\/e'=e)->ED (.yield ())) ->
   AH (body e)) :
  ∀(l:Df Int) (kl kd:Bs) (s:Ke) (kr:Bs) (er:AW) (Q:Unit->Af),Es prog w hp kl l->(∀e∈l,e∈es0)->kd++kl=ks->Qi hp s.heap->(∀b o,b≠r->Ab (hp.get? b) o->AI b)->BU w s.heap r kr er->Took kb p es0 kd kr er ->
   (∀h' k1 e1,Qa r s.heap h'->BU w h' r k1 e1->Took kb p es0 ks k1 e1->ED ()) ->
   AH (Vu l () λe _=>body e):=by
 intro l;induction l with
 | nil =>
  intro kl kd s kr er Q x hin hks K Kb hr tk q;cases x;rw[LR] at hks;subst hks;exact Kf (q s.heap kr er (XS _ _) hr tk)
 | cons e l ih =>
  intro kl kd s kr er Q x hin hks K Kb hr tk q;cases x with
  | @cons k _ kl' _ h1 h2 x' =>
   rw[Zwm];have hkf:k.flat=f:=hf k (by rw[<- hks];simp);refine Kc (hb e k s kr er _ (by rw[<- hks];simp) h1 (SK.is_mono K h2) hr (λk' hk'=>?_) ?_ Kb K λh' k1 e1 sb S1 m1 l1 en1=>?_)
   .rw[hkf];rcases(tk.mem k').mp hk' with z | z;.exact hg k' z
    .exact hf k' (by rw[<- hks];exact Ml _ z.1)
   .have:=tk.len;have hl:ks.length=kd.length+(k::kl').length:=by rw[<- hks,K8]
    simp at hl;lia
   .have kT:=hr.keepT sb;refine ih kl' (kd++[k]) { s with heap:=h' } k1 e1 Q x' (λe' he'=>hin e' (AS he')) (by rw[<- hks];simp) (λb o c z=>kT b o c (K b o c z)) (λb o hb' z=>(sb.2 b hb').trans (Kb b o hb' z)) S1 ⟨λk'=>?_,?_,λe' he'=>?_⟩ λh2 k2 e2 sb2 S2 t2=>q h2 k2 e2 (sb.trans sb2) S2 t2
    .rw[m1,tk.mem,K9,K5];constructor
     .rintro((c | ⟨a,b⟩) | ⟨rfl,b⟩);.exact .inl c
      .exact C1 (.inl a) b
      .exact C1 (.inr rfl) b
     .rintro(c | ⟨a | rfl,b⟩);.exact .inl (.inl c)
      .exact .inl (C1 a b)
      .exact C1 rfl b
    .have:=tk.len;simp;lia
    .rcases en1 e' he' with z | z;.exact tk.ent e' z
     .rw[z];exact hin e KN
end
section
variable{prog:Ko}{w:Km}{A:Ks}{E:Ka->Ke->Prop}{s:Ke}
theorem yev{nm:String}{a:Addr}{o:Obj}{es:AW}{ep:Nat}{t:KC}{Q:Unit->Af}(ho:AI a)(S:SetL w o es ep t)(q:Q () s):AH (Z5 nm a ep):=by
 unfold Z5;refine Kc (mV ho S.data S.fits ?_);simp only[bne_self_eq_false,Lj,if_false];exact Kf q
theorem yj7{wk ak r:Addr}{kw ka:Bs}{ew ea:AW}{nm:String}{ep:Nat}{ow:Obj}{tw:KC}{f:Bool}{Q:Unit->Af}(body:Int×Ka->Sem (ForInStep Unit))(neg:Bool)(hu:A.units<Ln)
  (hbody:∀(h:Int) (x:Ka) (s:Ke) (Q:ForInStep Unit->Af),
   Kw (B5 w) A (oK ak x h) (λrr s1 =>
    (Aa (rr.isSome != neg)->Kw (B5 w) A (nP r x h) (λ_ s2=>Kw (B5 w) A (Z5 nm wk ep) (λ_ s3=>Q (.yield ()) s3) E s2) E s1) /\
    (AL (rr.isSome != neg)->Kw (B5 w) A (Z5 nm wk ep) (λ_ s3=>Q (.yield ()) s3) E s1)) E s->AH (body (h,x)))
  (hw:Cp wk ow) (Sw:SetO prog w s.heap ow kw ew ep tw) (xa:BU w s.heap ak ka ea) (xr:BU w s.heap r [] (#[])) (hwr:wk≠r) (har:ak≠r) (hfw:∀k∈kw,k.flat=f) (hfa:∀k∈ka,k.flat=f)
  (e1:AW) (he1:e1.toList.Perm ew.toList)
  (q:∀h' kr er,Qa r s.heap h'->BU w h' r kr er->(∀k,k∈kr↔k∈kw/\Aa (Bg k ka != neg))->(∀e∈er.toList,e∈ew.toList)->ED ()) :
  AH (Vu e1 () λe _=>body e):=by
 obtain⟨k1,p1,x1⟩:=Sw.ent.perm he1;rw[<- lA];refine zwz (r:=r) (ks:=k1) (kb:=[]) (es0:=ew.toList) (f:=f) (p:=λk=>Bg k ka != neg) (hp:=s.heap) body (λk hk=>hfw k (p1.mem_iff.mp hk)) (λk hk=>by cases hk) (by have:=p1.length_eq;have:=Sw.small;simp;lia) ?_ e1.toList k1 [] s [] #[] Q x1 (λe he=>he1.mem_iff.mp he) (by simp) (λ_ _ _ e=>e) (λ_ _ _ e=>e) xr ⟨λk=>by simp,by simp,λe he=>by simp at he⟩ λh' kr er sb S' tk=>q h' kr er sb S' (λk=>by rw[tk.mem,p1.mem_iff];simp) tk.ent;rintro⟨hh,x⟩ k s1 kr er Q1 hk0 h1 h2 S1 hk1 hr1 Kb K q1;dsimp only at h1 h2;subst h1;have hin:k∈kw:=p1.mem_iff.mp hk0;obtain⟨oa,epa,ta,hoa,Sa⟩:=xa;have hoa1:=Kb ak oa har hoa;have Sa1:=Sa.mono K;have hw1:=Kb wk ow hwr hw;refine hbody _ _ _ _ (yi0 hu hoa1 Sa1 (λk' hk'=>by rw[hfa k' hk',hfw k hin]) h2 λrr f1 f2=>?_);have hrr:rr.isSome=Bg k ka:=by
  cases rr with
  | none=>exact(decide_eq_false (f2 rfl)).symm
  | some i=>exact(decide_eq_true (KD (f1 i rfl))).symm
 rw[hrr];obtain⟨or,epr,tr,hor,Sr⟩:=id S1;refine⟨λhp=>?_,λhp=>?_⟩
 .refine yjr hu hor Sr hk1 h2 hr1 λh' k2 e2 sb S2 p2 en2=>?_;refine yev ((sb.2 wk hwr).trans hw1) Sw.lite (q1 h' k2 e2 sb S2 (λk'=>?_) ?_ en2)
  .rw[p2.mem_iff];split
   .rename_i hkr;exact⟨.inl,λz=>z.elim id λz=>z.1 ▸ hkr⟩
   .rw[KH];exact⟨λz=>z.elim (λz=>C1 z hp) .inl,λz=>z.elim .inr λz=>.inl z.1⟩
  .rw[p2.length_eq];split <;> simp
 .refine yev hw1 Sw.lite (q1 s1.heap kr er (XS _ _) S1 (λk'=>⟨.inl,λz=>z.elim id λz=>?_⟩) (by lia) λe he=>.inl he);have h3:Aa (Bg k ka != neg):=z.2;rw[hp] at h3;cases h3
theorem yfs {a b : Addr} {ka kb : Bs} {ea eb : Array (Int × Ka)} {f : Bool} {nm : String} {Q : Ka -> Ke -> Prop} (hu : A.units < Ln) (hab : a ≠ b) (xa : BU w s.heap a ka ea) (xb : BU w s.heap b kb eb)
  (hfa:∀k∈ka,k.flat=f) (hfb:∀k∈kb,k.flat=f)
  (q:∀(h':Heap) (d:Qs) (r:Addr) kr er,Qw s.heap h'->E7 r->BU w h' r kr er->(∀k,k∈kr↔k∈ka/\k∈kb)->(∀e∈er.toList,e∈ea.toList\/e∈eb.toList)->Q (.ref r) { s with heap:=h',drawn:=d }) :
  AH (Zow nm a Cs):=by
 have hba:Be (KJ b) (KJ a):=by
  rw[beq_eq_false_iff_ne];exact λe=>by cases e;exact hab rfl
 unfold Zow;rw[hba];simp only[Lj,if_false];refine Kc (yib xa ?_);refine Kc (ybp λxr=>?_);generalize hN:s.heap.push { cls:=.type "set", dict:=none,data:=.set #[] 0 (.fresh 0 0 (led0 w)) }=h1 at xr ⊢;have k1:Qw s.heap h1:=by rw[<- hN];exact Qj
 have xa1:BU w h1 a ka ea:=xa.mono (λo e=>k1 a o e) k1.T;have xb1:BU w h1 b kb eb:=xb.mono (λo e=>k1 b o e) k1.T;have hra:a≠s.heap.objs.size:=let ⟨_,_,_,ho,_⟩:=xa;KY (Ld ho);have hrb:b≠s.heap.objs.size:=let ⟨_,_,_,ho,_⟩:=xb;KY (Ld ho);refine BD ?_;refine Kc (Nm ?_);refine Kc (yhk (s:={ s with heap:=h1 }) xb1 ?_);simp only[if_true];refine BD ?_;refine Kc (zz2 (s:={ s with heap:=h1 }) xb1 ?_);refine Kc (zz2 (s:={ s with heap:=h1 }) xa1 ?_);have fin : ∀ (wk ak : Addr) (kw kk : Bs) (ew ek : Array (Int × Ka)), BU w h1 wk kw ew -> BU w h1 ak kk ek -> wk ≠ s.heap.objs.size -> ak ≠ s.heap.objs.size -> (∀ k ∈ kw, k.flat = f) -> (∀ k ∈ kk, k.flat = f) ->
   (∀k,k∈kw/\k∈kk↔k∈ka/\k∈kb)->(∀e∈ew.toList,e∈ea.toList\/e∈eb.toList) ->
   Kw (B5 w) A (do
    let was <- setEpoch wk
    for (h,x) in <- zX wk [ak,s.heap.objs.size] (some s.heap.objs.size) do
     Ti [x] do
      if (<- oK ak x h).isSome then
       let _ <- nP s.heap.objs.size x h
     Z5 nm wk was) (λ_ s'=>Kw (B5 w) A (pure (KJ s.heap.objs.size)) Q E s') E { s with heap:=h1 }:=by
  intro wk ak kw kk ew ek xw xk hw hk f1 f2 hm he;obtain⟨ow,epw,tw,how,Sw⟩:=id xw;refine Kc (mV how Sw.data Sw.fits ?_);refine Kc (yfg how Sw (λc hc=>?_) xr λe1 h2 d p2 sb2 xr2=>?_)
  .simp only[KH,OD,or_false] at hc;rcases hc with rfl | rfl;.exact(Ar _ xk)
   .exact(Ar _ xr)
  .have kT:=xr.keepT sb2;refine Kc (yj7 (s:={ s with heap:=h2,drawn:=d }) (wk:=wk) (ak:=ak) (nm:=nm) (ep:=epw) (f:=f) _ false hu ?_ ((sb2.2 wk hw).trans how) (Sw.mono kT) (xk.mono (λo e=>(sb2.2 ak hk).trans e) kT) xr2 hw hk f1 f2 e1 p2 λh3 kr er sb3 S3 m3 en3=>?_)
   .intro h x s1 Q1 hq;refine Kc (Nm (Kc (D2 hq (λrr s2 hr=>?_) z)));cases hrr:rr.isSome with
    | true =>
     rw[BR];exact Kc (D2 (hr.1 (by rw[hrr];rfl)) (λ_ s3 z=>Kf (Kc (Nu z (λ_ _ y=>Kf y) λ_ _ y=>y))) z)
    | false =>
     simp only[Lj,if_false];exact Kf (Kc (Nu (hr.2 (by rw[hrr];rfl)) (λ_ _ y=>Kf y) λ_ _ y=>y))
   .refine Kf B7;refine q h3 d _ kr er (λb o e=>?_) Az S3 (λk=>?_) (λe z=>he e (en3 e z))
    .have hb:b≠s.heap.objs.size:=KY Bv;exact(sb3.2 b hb).trans ((sb2.2 b hb).trans (k1 b o e))
    .rw[m3,<- hm];simp
 split;.exact fin a b ka kb ea eb xa1 xb1 hra hrb hfa hfb (λk=>lD) (λe h=>.inl h)
 .exact fin b a kb ka eb ea xb1 xa1 hrb hra hfb hfa (λk=>And.comm) (λe h=>.inr h)
end
section
variable{prog:Ko}{w:Km}{A:Ks}{E:Ka->Ke->Prop}{s:Ke}
theorem zqw:Cw (oE table "set.__and__") Mu.«frozenset.__and__»:=zV (id':="frozenset.__and__") (by kernel_rfl) rfl (by decide +kernel) (by kernel_rfl)
end
section
variable{prog:Ko}{w:Km}{A:Ks}{E:Ka->Ke->Prop}{s:Ke}
noncomputable def yem(prog:Ko)(w:Km)(s:Ke)(ea eb:AW)(m:Aq SK)(Q:Ka->Af):Prop :=
 ∀(h':Heap) (d:Qs) (r:Addr) kr er,Qw s.heap h'->E7 r->BU w h' r kr er->(∀k,k∈kr↔m k)->(∀e∈er.toList,e∈ea.toList\/e∈eb.toList)->Q (.ref r) { s with heap:=h',drawn:=d }
theorem yla{a b:Addr}{ka kb:Bs}{ea eb:AW}{f:Bool}{Q:Ka->Af}(hu:A.units+8<Ln)(hab:a≠b)(xa:BU w s.heap a ka ea)(xb:BU w s.heap b kb eb)
  (hfa:∀k∈ka,k.flat=f) (hfb:∀k∈kb,k.flat=f) (q:yem prog w s ea eb (λk=>k∈ka/\k∈kb) Q):AH (Qq .BitAnd Av Cs):=by
 refine wpAny_binaryOp_same (op:=.BitAnd) xa.typeIs xb.typeIs F.fills_set_and Zzl (Rc Zzl xa.typeIs zqw ?_ (F.args_set_and_2 _ _));show AT _ (Zp3 "__and__" _ >>= _) _ _ _;unfold Zp3;refine Kc (BD B7);show AT _ ((Z6 Av <&&> Z6 Cs) >>= _) _ _ _;refine Dg (yhk xa ?_);show AT _ (Z6 Cs) _ _ _;refine yhk xb ?_;simp only[Zx,Lj,if_false];refine BD ?_;refine Kc (yfs (f:=f) (by simp only[oO];lia) hab xa xb hfa hfb λh' d r kr er K hr S m en=>Kf ⟨_,rfl,Gn,q h' d r kr er K hr S m en⟩)
end
noncomputable def D.kk:D->Key
 | .int i=>.inl i
 | .str l=>.inr (T l)
 | _=>.inl 0
noncomputable def D.fl:D->Bool
 | .int _=>true
 | .str _=>true
 | _=>false
noncomputable def D.sk:D->SK
 | .tup ds=>.many (ds.map D.kk)
 | d=>.one d.kk
noncomputable def D.hk:Bool->D->Bool
 | true,d=>d.fl
 | false,.tup ds=>ds.all D.fl
 | false,_=>false
theorem yer{d e:D}(h1:Aa d.fl)(h2:Aa e.fl)(h:d.kk=e.kk):d=e:=by
 cases d <;> simp[D.fl] at h1 <;> cases e <;> simp[D.fl] at h2 <;> simp[D.kk] at h;.rw[h]
 .rw[aQ] at h;rw[h]
theorem zww:∀{ds es:Ac},Aa (ds.all D.fl)->Aa (es.all D.fl)->ds.map D.kk=es.map D.kk->ds=es
 | [],[],_,_,_=>rfl
 | [],_::_,_,_,h=>by simp at h
 | _::_,[],_,_,h=>by simp at h
 | d::ds,e::es,h1,h2,h=>by
  simp only[Xg,Lk] at h1 h2;simp only[Kq,QF] at h;rw[yer h1.1 h2.1 h.1,zww h1.2 h2.2 h.2]
theorem yjw{f:Bool}{d e:D}(h1:Ci f)(h2:Aa (e.hk f))(h:d.sk=e.sk):d=e:=by
 cases f with
 | true =>
  simp only[D.hk] at h1 h2;have e1:d.sk= .one d.kk:=by cases d <;> first | rfl | simp[D.fl] at h1
  have e2:e.sk= .one e.kk:=by cases e <;> first | rfl | simp[D.fl] at h2
  rw[e1,e2] at h;injection h with h;exact yer h1 h2 h
 | false =>
  cases d <;> simp[D.hk] at h1;cases e <;> simp[D.hk] at h2;simp[D.sk] at h;rw[zww (by simpa using h1) (by simpa using h2) h]
theorem bL{f:Bool}{d:D}(h:Ci f):d.sk.flat=f:=by
 cases f with
 | true=>cases d <;> simp[D.hk,D.fl] at h <;> rfl
 | false=>cases d <;> simp[D.hk] at h;rfl
section
variable(P:Ko)(w:Km)
noncomputable def T4(p:Addr)(ks:Bs)(xs:Ai):HO:=.ext λh=>∃o es ep t,AE p o/\o.ExactSet/\SetL w o es ep t/\es.toList.map (·.1)=ks.map (SK.hash P w)/\Vals xs (es.toList.map (·.2))/\ks.Nodup/\BI ks.length
end
section
variable{X:Cx}{pins:List (Addr×Obj)}{σ:St}{H:Hp}{s:Ke}
theorem Inv.drw(I:Ak)(d:Qs):Fu { s with drawn:=d }:=⟨I.ok,I.os,I.bare,I.base,I.loc,I.cell,I.free,I.freeC,I.pin,I.hok,I.len⟩
theorem yi4{d:D}{x:V}{u:Ka}(hf:Aa d.fl)(r:Rep X.K H d x)(q:Bi x):Aa ((Mz X.prog X.w).is d.kk u):=by
 cases d <;> simp[D.fl] at hf;.rw[r.of_int] at q;obtain⟨t,rfl⟩:=q;exact zks ..
 .rw[r.of_str] at q;obtain⟨t,rfl⟩:=q;exact zlg ..
theorem yep:∀{ds:Ac} {xs:Ai} {us:Am},Aa (ds.all D.fl)->Reps X.K H ds xs->BY xs->ItemsAre (Mz X.prog X.w) (ds.map D.kk) us
 | [],_,_,_,r,q=>by rw[Reps] at r;subst r;cases q;exact .nil
 | d::ds,_,_,hf,r,q=>by
  rw[Reps] at r;obtain⟨x,xs,rfl,r1,r2⟩:=r;simp only[Xg,Lk] at hf;cases q with
  | cons q1 q2=>exact .cons (yi4 hf.1 r1 q1) (yep hf.2 r2 q2)
theorem Inv.sk(I:Ak){f:Bool}{d:D}{x:V}{u:Ka}(hf:Ci f)(r:Rep X.K H d x)(q:Bi x):d.sk.is X.prog X.w s.heap u:=by
 cases f with
 | true =>
  have e1:d.sk= .one d.kk:=by cases d <;> first | rfl | simp[D.hk,D.fl] at hf
  rw[e1];exact yi4 (by simpa[D.hk] using hf) r q
 | false =>
  cases d <;> simp[D.hk] at hf;rename_i ds;obtain⟨p,xs,rfl,sq,rs⟩:=r.of_tup;cases q;obtain⟨its,rv,⟨o,e,c,n,hd⟩,_⟩:=I.tuple sq;exact⟨p,rfl,o,its.toArray,n,e,c,hd,by simpa using yep (by simpa using hf) rs rv⟩
theorem yiu(I:Ak){f:Bool}:∀{ds:Ac} {xs:Ai} {es:Df Int},(∀d∈ds,Ci f)->Reps X.K H ds xs->Vals xs (es.map (·.2))->es.map (·.1)=(ds.map D.sk).map (SK.hash X.prog X.w)->Es X.prog X.w s.heap (ds.map D.sk) es
 | [],_,es,_,r,q,_=>by
  rw[Reps] at r;subst r;cases es with
  | nil=>exact .nil
  | cons _ _=>cases q
 | d::ds,_,es,hf,r,q,hh=>by
  rw[Reps] at r;obtain⟨x,xs,rfl,r1,r2⟩:=r;cases es with
  | nil=>cases q
  | cons e es =>
   simp only[Kq,QF] at hh;cases q with
   | cons q1 q2=>exact .cons hh.1 (I.sk (hf d KN) r1 q1) (yiu I (λd' h=>hf d' (AS h)) r2 q2 hh.2)
theorem Inv.setE(I:Ak){f:Bool}{a:Addr}{ds:Ac}{xs:Ai}(e:Aw a (T4 X.prog X.w a (ds.map D.sk) xs))(hf:∀d∈ds,Ci f)(r:Reps X.K H ds xs) :
  ∃es,SetE X.prog X.w s.heap a (ds.map D.sk) es/\Vals xs (es.toList.map (·.2)):=by
 obtain⟨⟨o,es,ep,t,ho,hx,S,hh,rv,hn,hl⟩,_,_⟩:=I.hok a _ e;exact⟨es,⟨o,ep,t,ho,hx,S.data,S.tab,yiu I hf r rv hh,hn,hl,S.led,f,λk hk=>by
  obtain⟨d,hd,rfl⟩:=Kr.mp hk;exact bL (hf d hd)⟩,rv⟩
noncomputable def Src(da:Ac)(xa:Ai)(db:Ac)(xb:Ai)(dr:Ac)(xr:Ai):Prop :=
 dr.length=xr.length /\ ∀(i:Nat) d x,Ah dr d->Ah xr x-> ∃j:Nat,(AQ da d/\AQ xa x)\/(AQ db d/\AQ xb x)
theorem Src.reps{K:Kd}{F:Hp}{da db dr:Ac}{xa xb xr:Ai}(h:Src da xa db xb dr xr)(ra:AN F da xa)(rb:AN F db xb):AN F dr xr:=by
 obtain⟨hl,h⟩:=h;induction dr generalizing xr with
 | nil=>cases xr with
  | nil=>exact Reps.nil
  | cons _ _=>simp at hl
 | cons d dr ih=>cases xr with
  | nil=>simp at hl
  | cons x xr =>
   refine Reps.cons ?_ (ih (by simpa using hl) λi d' x' h1 h2=>h (i+1) d' x' h1 h2);obtain⟨j,⟨h1,h2⟩ | ⟨h1,h2⟩⟩:=h 0 d x rfl rfl
   .obtain⟨x',e,r⟩:=ra.get' h1;rw[h2] at e;cases e;exact r
   .obtain⟨x',e,r⟩:=rb.get' h1;rw[h2] at e;cases e;exact r
theorem Src.mem{da db dr:Ac}{xa xb xr:Ai}(h:Src da xa db xb dr xr){d:D}(hd:d∈dr):d∈da\/d∈db:=by
 obtain⟨i,hi⟩:=MF.mp hd;have hil:=(BS hi);obtain⟨j,⟨h1,_⟩ | ⟨h1,_⟩⟩:=h.2 i d (xr[i]'(by have:=h.1;lia)) hi (Kv _);.exact .inl (KD h1)
 .exact .inr (KD h1)
theorem yd5{h:Heap}{k k':SK}{v:Ka}(a:k.is X.prog X.w h v)(b:k'.is X.prog X.w h v)(hf:k.flat=k'.flat):k=k':=by
 cases k <;> cases k' <;> simp[SK.flat] at hf;.exact congrArg _ ((Mz X.prog X.w).inj _ _ _ a b)
 .obtain⟨u,e1,i1⟩:=a;obtain⟨v,e2,i2⟩:=b;rw[e1] at e2;cases e2;exact congrArg _ (i1.inj i2)
theorem yia{h':Heap}{f:Bool}{da db:Ac}{xa xb:Ai}{ea eb:Df Int}(K':Qi s.heap h')(Ea:Es X.prog X.w s.heap (da.map D.sk) ea)(Eb:Es X.prog X.w s.heap (db.map D.sk) eb)(va:Vals xa (ea.map (·.2)))(vb:Vals xb (eb.map (·.2)))
  (hfa:∀d∈da,Ci f) (hfb:∀d∈db,Ci f):∀{kr:Bs} {er:Df Int},Es X.prog X.w h' kr er->(∀k∈kr,k.flat=f)->(∀e∈er,e∈ea\/e∈eb) ->
  ∃dr xr,dr.map D.sk=kr/\Vals xr (er.map (·.2))/\Src da xa db xb dr xr:=by
 intro kr er x;induction x with
 | nil=>intro _ _;exact⟨[],[],rfl,.nil,rfl,λi d x h=>by simp at h⟩
 | @cons k e kr er h1 h2 _ ih =>
  intro hk hin;obtain⟨dr,xr,a,b,c⟩:=ih (λk h=>hk k (AS h)) λe h=>hin e (AS h);have pick:∀(dz:Ac) (xz:Ai) (ez:Df Int),Es X.prog X.w s.heap (dz.map D.sk) ez->Vals xz (ez.map (·.2))->(∀d∈dz,Ci f)->e∈ez-> ∃(j:Nat) (d:D) (x:V),AQ dz d/\AQ xz x/\d.sk=k/\RelV x e.2:=by
   intro dz xz ez E1 v1 hf1 hm;obtain⟨j,hj⟩:=MF.mp hm;obtain⟨k',g1,g2,g3⟩:=E1.get j e hj;rw[KR] at g1;cases hd:dz[j]? with
   | none=>rw[hd] at g1;cases g1
   | some d =>
    rw[hd] at g1;have g1':d.sk=k':=by simpa using g1
    have hjl:j<xz.length:=by
     have:=v1.length;have:=(BS hj);simp at *;lia
    obtain⟨u,hu,ru⟩:=v1.get (Kv hjl);rw[KR,hj] at hu;have hu':e.2=u:=by simpa using hu
    refine⟨j,d,_,hd,Kv hjl,?_,by rw[hu'];exact ru⟩;rw[g1'];refine yd5 (SK.is_mono K' g3) h2 ?_;rw[<- g1',bL (hf1 d (KD hd)),hk k KN]
  rcases hin e KN with hm | hm
  .obtain⟨j,d,y,p1,p2,p3,p4⟩:=pick da xa ea Ea va hfa hm;refine⟨d::dr,y::xr,by rw[Kq,p3,a],.cons p4 b,by simp[c.1],λi d' x' q1 q2=>?_⟩;cases i with
   | zero=>simp at q1 q2;subst q1;subst q2;exact⟨j,.inl ⟨p1,p2⟩⟩
   | succ i=>exact c.2 i d' x' q1 q2
  .obtain⟨j,d,y,p1,p2,p3,p4⟩:=pick db xb eb Eb vb hfb hm;refine⟨d::dr,y::xr,by rw[Kq,p3,a],.cons p4 b,by simp[c.1],λi d' x' q1 q2=>?_⟩;cases i with
   | zero=>simp at q1 q2;subst q1;subst q2;exact⟨j,C1 p1 p2⟩
   | succ i=>exact c.2 i d' x' q1 q2
theorem zt2{h':Heap}{r:Addr}{H':Hp}{dr:Ac}{xr:Ai}{er:AW}(S:SetE X.prog X.w h' r (dr.map D.sk) er)(v:Vals xr (er.toList.map (·.2))):Lr X.prog X.w H' h' r (T4 X.prog X.w r (dr.map D.sk) xr):=by
 obtain⟨o,ep,t,ho,S⟩:=S;refine(Ck ⟨o,er,ep,t,ho,S.ex,S.lite,?_,v,S.nod,S.small⟩ ⟨o,ho⟩)
 .have:=S.ent;generalize dr.map D.sk=kr at this;generalize er.toList=el at this;induction this with
  | nil=>rfl
  | cons a _ _ ih=>simp[a,ih]
 .rintro h1 h2 ⟨o,es,ep,t,ho,r⟩ k;exact⟨o,es,ep,t,k o ho,r⟩
end
section
variable(P:Ko)(w:Km)(K:Kd)
noncomputable def U6(f:Bool):Ai->Hp->B9:=λvs H Q=>∃a xs ds,vs=[Av]/\A8 H a xs/\Bc H xs/\(∀d∈ds,Ci f)/\BI ds.length /\
 ∀r dr xr,H r=none->dr.Nodup->(∀d,d∈dr↔d∈ds)->Src ds xs [] [] dr xr->Q (.ref r) (AX r (T4 P w r (dr.map D.sk) xr))
noncomputable def bM(f:Bool)(m:Ac->Ac->Aq D):R2:=λx y H Q=>∃a b da db xa xb,x= Av/\y= Cs/\a≠b/\Aw a (T4 P w a (da.map D.sk) xa)/\Aw b (T4 P w b (db.map D.sk) xb) /\
 AN H da xa/\AN H db xb/\(∀d∈da,Ci f)/\(∀d∈db,Ci f)/\BI (da.length+db.length) /\
 ∀r dr xr,H r=none->dr.Nodup->(∀d,d∈dr↔m da db d)->Src da xa db xb dr xr->Q (.ref r) (AX r (T4 P w r (dr.map D.sk) xr))
noncomputable def mAnd(da db:Ac)(d:D):Prop:=d∈da/\d∈db
noncomputable def yfo(f:Bool):Ai->Hp->B9:=λvs H Q=>∃a xs ds,vs=[Av]/\Aw a (T4 P w a (ds.map D.sk) xs)/\Bc H xs/\(∀d∈ds,Ci f)/\Q (.int ds.length) H
end
theorem rR{f:Bool}{ds:Ac}(hf:∀d∈ds,Ci f){d:D}(hd:Ci f):d.sk∈ds.map D.sk↔d∈ds:=by
 constructor
 .intro h;obtain⟨e,he,h2⟩:=Kr.mp h;rw[<- yjw (hf e he) hd h2];exact he
 .exact λh=>Ny h
theorem zu6{dr:Ac}(h:(dr.map D.sk).Nodup):dr.Nodup:=by
 unfold Lq at *;rw[N8] at h;exact h.imp λa e=>a (congrArg _ e)
section
variable{X:Cx}
theorem Yy{f:Bool}(hc:Ex)(hu:X.A.units+64<Ln):Om X Gh (U6 X.prog X.w X.K f):=by
 intro pins s σ H vs us Q I r h;obtain⟨a,xs,ds,rfl,hq,rs,hf,hl,q⟩:=h;obtain⟨u,rfl,ru⟩:=Qc r;cases ru;obtain⟨its,rv,pl,_⟩:=EL;have l1:=rs.length;have l2:=rv.length;have hk0:∀k∈ds.map D.sk,k.flat=f:=λk hk=>by obtain⟨d,hd,rfl⟩:=Kr.mp hk;exact bL (hf d hd)
 have hkey:∀(j:Nat) (v:Ka) (k:SK),AQ its.toArray v->AQ (ds.map D.sk) k->k.is X.prog X.w s.heap v:=λj v k h1 h2=>by
  rw[KR] at h2;cases hd:ds[j]? with
  | none=>rw[hd] at h2;cases h2
  | some d =>
   rw[hd] at h2;have:d.sk=k:=by simpa using h2
   subst this;obtain⟨x,hx,rx⟩:=rs.get' hd;obtain⟨u,hu',ru⟩:=rv.get hx;have h1':AQ its v:=by simpa using h1
   rw[h1'] at hu';cases hu';exact I.sk (hf d (KD hd)) rx ru
 refine zvj (k0:=ds.map D.sk) (f:=f) (by lia) D3 pl.isList (by simp;lia) (by simp;lia) hk0 hkey λh' tk ks es K' S p=>?_;have hex:∀(kr:Bs) (el:Df Int),Es X.prog X.w h' kr el->(∀k∈kr,k.flat=f)->(∀e∈el,∃j:Nat,AQ its.toArray e.2)-> ∃dr xr,dr.map D.sk=kr/\Vals xr (el.map (·.2))/\Src ds xs [] [] dr xr:=by
  intro kr el en;induction en with
  | nil=>intro _ _;exact⟨[],[],rfl,.nil,rfl,λi d x h=>by simp at h⟩
  | @cons k e kr er g1 g2 _ ih =>
   intro hkk hent;obtain⟨dr,xr,a1,b1,c1⟩:=ih (λk h=>hkk k (AS h)) λe h=>hent e (AS h);obtain⟨j,hj⟩:=hent e KN;have hj':AQ its e.2:=by simpa using hj
   have hjl:=(BS hj');have hjd:AQ ds (EN ds j):=Kv _;obtain⟨x,hx,rx⟩:=rs.get' hjd;obtain⟨u,hu',ru⟩:=rv.get hx;rw[hj'] at hu';cases hu';have hdk:=hf _ (KD hjd);have hsk:(EN ds j).sk=k:=yd5 (SK.is_mono K'.T (I.sk hdk rx ru)) g2 (by rw[bL hdk,hkk k KN]);refine⟨_::dr,x::xr,by rw[Kq,hsk,a1],.cons ru b1,by simp[c1.1],λi d' x' q1 q2=>?_⟩;cases i with
   | zero=>simp at q1 q2;subst q1;subst q2;exact⟨j,.inl ⟨hjd,hx⟩⟩
   | succ i=>exact c1.2 i d' x' q1 q2
 obtain⟨dr,xr,e1,v1,src⟩:=hex ks es.toList (let ⟨_,_,_,_,T⟩:=S;T.ent) (λk hk=>by
   obtain⟨j,_,hj⟩:=(p.mem k).mp hk;exact hk0 k (KD hj)) p.ent;subst e1;have hnod:dr.Nodup:=by obtain⟨_,_,_,_,T⟩:=S;exact zu6 T.nod
 have hdr:∀d∈dr,Ci f:=λd hd=>by
  rcases src.mem hd with z | z;.exact hf d z
  .cases z
 refine(Bj BN _ (I.laid (t':=tk) K' Az (zt2 S v1)) (q _ dr xr (I.hok.fresh Az) hnod (λd=>⟨λh=>(src.mem h).elim id (λz=>by cases z),Dt⟩) src));refine(rR hdr (hf d h)).mp ((p.mem d.sk).mpr ?_);obtain⟨j,hj⟩:=MF.mp h;exact⟨j,by have:=(Mg.mp hj).1;simp;lia,by rw[KR,hj];rfl⟩
theorem yga{op:Operator}{f:Bool}{m:Ac->Ac->Aq D}(mk:Bs->Bs->Aq SK)
  (hm:∀(da db:Ac) (d:D),(∀d∈da,Ci f)->(∀d∈db,Ci f)->Ci f->(mk (da.map D.sk) (db.map D.sk) d.sk↔m da db d)) (hsub:∀da db d,m da db d->d∈da\/d∈db)
  (hw:∀(s:Ke) (a b:Addr) (ka kb:Bs) (ea eb:AW) (Q:Ka->Af),a≠b->SetE X.prog X.w s.heap a ka ea->SetE X.prog X.w s.heap b kb eb->(∀k∈ka,k.flat=f)->(∀k∈kb,k.flat=f)->BI (ka.length+kb.length) ->
   yem X.prog X.w s ea eb (mk ka kb) Q->B1 (Qq op Av Cs) Q s) (hmk:∀ka kb k,mk ka kb k->k∈ka\/k∈kb):OpR X (Qq op) (bM X.prog X.w X.K f m):=by
 intro pins s σ H x y v u Q I rx ry h;obtain⟨a,b,da,db,xa,xb,rfl,rfl,hab,ha,hb,ra,rb,hfa,hfb,hl,q⟩:=h;cases rx;cases ry;obtain⟨ea,Sa,va⟩:=I.setE ha hfa ra;obtain⟨eb,Sb,vb⟩:=I.setE hb hfb rb;have fk:∀(dz:Ac),(∀d∈dz,Ci f)-> ∀k∈dz.map D.sk,k.flat=f:=λdz hz k hk=>by obtain⟨d,hd,rfl⟩:=Kr.mp hk;exact bL (hz d hd)
 refine hw s a b _ _ ea eb _ hab Sa Sb (fk da hfa) (fk db hfb) (by simpa using hl) λh' d r kr er K' hr S mm en=>?_;obtain⟨_,_,_,_,Ta⟩:=Sa;obtain⟨_,_,_,_,Tb⟩:=Sb;obtain⟨o,ep,t,ho,T⟩:=id S;have hkr:∀k∈kr,k.flat=f:=λk hk=>by
  rcases hmk _ _ _ ((mm k).mp hk) with z | z;.exact fk da hfa k z
  .exact fk db hfb k z
 obtain⟨dr,xr,e1,v1,src⟩:=yia (f:=f) K'.T Ta.ent Tb.ent va vb hfa hfb T.ent hkr en;subst e1;have hdr:∀d∈dr,Ci f:=λd hd=>(src.mem hd).elim (hfa d) (hfb d);refine(Bj (.ref r) _ ((I.laid (t':=s.toks) K' hr (zt2 S v1)).drw d) (q r dr xr (I.hok.fresh hr) (zu6 T.nod) (λd=>⟨Dt,Dt⟩) src));.exact(hm da db d hfa hfb (hdr d h)).mp ((mm d.sk).mp (Ny h))
 .have hdk:Ci f:=(hsub da db d h).elim (hfa d) (hfb d);exact(rR hdr hdk).mp ((mm d.sk).mpr ((hm da db d hfa hfb hdk).mpr h))
theorem yff{f:Bool}(hu:X.A.units+64<Ln):OpR X (Qq .BitAnd) (bM X.prog X.w X.K f mAnd) :=
 yga (λka kb k=>k∈ka/\k∈kb) (λda db d h1 h2 h3=>by rw[rR h1 h3,rR h2 h3];rfl) (λda db d h=>.inl h.1) (λs a b ka kb ea eb Q hab Sa Sb ha hb _ q=>yla (f:=f) (by lia) hab Sa Sb ha hb q) λka kb k h=>.inl h.1
theorem ya7{f:Bool}:DZ X "len" (yfo X.prog X.w X.K f):=by
 intro pins s σ H vs us Q I r h;obtain⟨a,xs,ds,rfl,ha,rs,hf,q⟩:=h;obtain⟨u,rfl,ru⟩:=Qc r;cases ru;obtain⟨es,⟨o,ep,t,ho,S⟩,v⟩:=I.setE ha hf rs;have hl:es.size=ds.length:=by have:=S.ent.length;simp at this;lia
 have hs:=S.small;simp at hs;refine call_len_set ho S.ex S.data S.fits (by lia) ⟨.int ds.length,H,DH,(Bb (by rw[hl])),q⟩
end
end L2
namespace L2
open PySem PySem.W PyProof.Rows L2T
section
variable{prog:Ko}{w:Km}{A:Ks}{E:Ka->Ke->Prop}{s:Ke}
theorem zqa{a:Addr}{o:Obj}{ks:Bs}{es:AW}{ep:Nat}{t:KC}{Q:Ka->Af}(Out:Am->Aq BT)(hh:DN)(ho:AI a)(S:SetO prog w s.heap o ks es ep t)
  (hs:∀(vs:Am) (h':Heap) (d:Qs) (tk:Nat),vs.Perm (es.toList.map (·.2))->2<=vs.length->Fe h'->aW prog w A.in1.in1 { s with heap:=h',drawn:=d,toks:=tk } vs (Out vs)) (h1:∀vs:Am,vs.Perm (es.toList.map (·.2))->vs.length<2->Out vs vs.toArray)
  (h:∀(vs:Am) out c h' (d:Qs) (tk:Nat) (l:Addr),vs.Perm (es.toList.map (·.2))->Fe h'->E7 l->AJ l (PQ "list" out c)->out.size=vs.length->Out vs out->Q Cd { s with heap:=h',drawn:=d,toks:=tk }) :
  AH (Gq "sorted" [Av]):=by
 refine Zod yW yR yS (yU _) ?_;unfold Mu.«sorted»;refine Kc (m:=Zx0 "sorted" 1 1 _) B7;refine Kc (zyu (by simp[hh]) ho S λvs g1 d tk hp K1 hlt=>?_);have hz:AD vs.length:=by
  have:=hp.length_eq;have:=S.small;have:=S.ent.length;simp at *;exact Rp (by lia)
 refine Kc (nM ?_ hz);dsimp only;have hl:E7 g1.objs.size:=Xh hlt;have hg:Cj (g1.push (Du FH)) g1.objs.size (PQ "list" vs.toArray 0):=BP _;have k2:Fe (g1.push (Du FH)):=λb u e=>A0 (K1 b u e);have ne:∀b u,Cp b u->b≠g1.objs.size:=λb u e=>KY (Ld (K1 b u e));refine Kc (Nm (Rc yN (Cm hg) yM (zjb (s:={ s with heap:=g1.push (Du FH),drawn:=d,toks:=tk }) (Out vs) hg hz
  (λh2 h' k=>hs vs h' d tk hp h2 λb u e=>k b u (ne b u e) (k2 b u e)) (h1 vs hp) λout c h' k hc hsz hO=>(Ar rfl ?_)) (yO _)));exact Kf (Ar rfl (h vs out c h' d tk _ hp (λb u e=>k b u (ne b u e) (k2 b u e)) hl hc hsz hO))
end
theorem M7.perm{ds es:Ac}(h:M7 ds)(p:es.Perm ds):M7 es:=by
 rcases h with h | h | ⟨t,ts,h⟩;.exact .inl λd hd=>h d (p.mem_iff.mp hd)
 .exact .inr (.inl λd hd=>h d (p.mem_iff.mp hd))
 .exact FC ⟨t,ts,λd hd=>h d (p.mem_iff.mp hd)⟩
theorem M7.sub{ds es:Ac}(h:M7 ds)(p:∀d∈es,d∈ds):M7 es:=by
 rcases h with h | h | ⟨t,ts,h⟩;.exact .inl λd hd=>h d (p d hd)
 .exact .inr (.inl λd hd=>h d (p d hd))
 .exact FC ⟨t,ts,λd hd=>h d (p d hd)⟩
theorem zln{ds es:Ac}(h:M7 ds)(p:es.Perm ds):La es=La ds:=Wi h ((Mw es).trans p) (aY es)
theorem Src.refl{ds:Ac}{xs:Ai}(h:DJ xs.length):Src ds xs [] [] ds xs:=⟨h,λi d x h1 h2=>⟨i,.inl ⟨h1,h2⟩⟩⟩
theorem zq5{us us':Am}(p:us'.Perm us):∀{ds:Ac} {xs:Ai},DJ xs.length->BY xs-> ∃ds' xs',Vals xs' us'/\ds'.Perm ds/\Src ds xs [] [] ds' xs':=by
 have p':=p.symm;clear p;induction p' with
 | nil=>intro ds xs hl v;exact⟨ds,xs,v,.refl _,Src.refl hl⟩
 | cons e _ ih =>
  intro ds xs hl v;cases v with
  | @cons x _ xs _ v1 v2 =>
   cases ds with
   | nil=>simp at hl
   | cons d ds =>
    obtain⟨d2,x2,a,b,c⟩:=ih (by simpa using hl) v2;refine⟨d::d2,x::x2,.cons v1 a,b.cons _,by simp[c.1],λi d' x' h1 h2=>?_⟩;cases i with
    | zero=>simp at h1 h2;subst h1;subst h2;exact⟨0,.inl De⟩
    | succ i =>
     obtain⟨j,hj⟩:=c.2 i d' x' h1 h2;exact⟨j+1,hj.elim (λz=>.inl z) λz=>by simp at z⟩
 | swap e f l =>
  intro ds xs hl v;cases v with
  | @cons x _ xs _ v1 v2=>cases v2 with
   | @cons y _ xs _ v2 v3 =>
    match ds,hl with
    | d::d1::ds,hl =>
     refine⟨d1::d::ds,y::x::xs,.cons v2 (.cons v1 v3),yD _ _ _,by simpa using hl,λi d' x' h1 h2=>?_⟩;match i with
     | 0=>simp at h1 h2;subst h1;subst h2;exact⟨1,.inl De⟩
     | 1=>simp at h1 h2;subst h1;subst h2;exact⟨0,.inl De⟩
     | i+2=>exact⟨i+2,.inl ⟨h1,h2⟩⟩
 | trans _ _ ih1 ih2 =>
  intro ds xs hl v;obtain⟨d1,x1,a1,b1,c1⟩:=ih1 hl v;obtain⟨d2,x2,a2,b2,c2⟩:=ih2 c1.1 a1;refine⟨d2,x2,a2,b2.trans b1,c2.1,λi d' x' h1 h2=>?_⟩;obtain⟨j,hj⟩:=c2.2 i d' x' h1 h2;rcases hj with ⟨g1,g2⟩ | ⟨g1,_⟩;.exact c1.2 j d' x' g1 g2
  .simp at g1
noncomputable def EvS(P:Ko)(w:Km)(K:Kd)(G Hz L:Hp)(ss:Do)(t:TE)(ds:Ac):Prop:=∀F H σ Q,Sat K G Hz L F H σ ss ->
 (∀p xs F' H' ds',CL F H F'->H p=none->F' p=none->Ab (H' p) (T4 P w p (ds'.map D.sk) xs)->AN F' ds' xs->ds'.Nodup->(∀d,d∈ds'↔d∈ds)->Q Ap H')->t σ H Q
theorem zkq{α:Type}[DecidableEq α]:∀{a b:AK},a.Nodup->(∀x∈a,x∈b)->a.length<=b.length
 | [],_,_,_=>BM
 | x::a,b,hn,h=>by
  rw[M4] at hn;have h1:=zkq (b:=b.erase x) hn.2 λy hy=>(xN (show y≠x from λe=>hn.1 (by rw[<- e];exact hy))).mpr (h y (AS hy));have hx:=h x KN;have:=xH hx;have:=lL hx;simp;lia
section
variable{P:Ko}{w:Km}{K:Kd}{G Hz L:Hp}{ss:List Sl}{t ta tb:TE}{f:Bool}{ds da db dr:List D}
theorem Yz(a:EvL K G Hz L ss t ds)(hf:∀d∈ds,Ci f)(hl:BI ds.length):EvS P w K G Hz L ss (tCB (U6 P w K f) (BV t)) ds:=λF H σ Q S q =>
 a F H σ _ S λp vs F' H' e sq r=>⟨p,vs,ds,rfl,sq,r.mono e.fh,hf,hl,λl dr xr hl' hn hm src =>
  q l xr F' _ dr (e.newO hl') (e.hh.free hl') (e.fh.free hl') Ku (src.reps r Reps.nil) hn hm⟩
theorem ykl{m:Ac->Ac->Aq D}(hcong:∀a a' b b' d,(∀d,d∈a↔d∈a')->(∀d,d∈b↔d∈b')->(m a b d↔m a' b' d))(a:EvS P w K G Hz L ss ta da)(b:EvS P w K G Hz L ss tb db)(hfa:∀d∈da,Ci f)(hfb:∀d∈db,Ci f)
  (hl:BI (da.length+db.length)) (hm:∀d,d∈dr↔m da db d):EvS P w K G Hz L ss (Ct (bM P w K f m) tb) dr:=λF H σ Q S q =>
 a F H σ _ S λp xs F1 H1 d1 e1 hp fp hp1 r1 n1 m1=>b F1 H1 σ _ Cg λp2 xs2 F2 H2 d2 e2 hp2 fp2 hpp2 r2 n2 m2=>by
  have hne:p≠p2:=λz=>by rw[<- z,hp1] at hp2;cases hp2
  have l1:=zkq n1 λx h=>(m1 x).mp h;have l2:=zkq n2 λx h=>(m2 x).mp h;refine⟨p,p2,d1,d2,xs,xs2,rfl,rfl,hne,e2.hh p _ hp1,hpp2,(r1.mono e2.gf).mono e2.fh,r2.mono e2.fh,λd h=>hfa d ((m1 d).mp h),λd h=>hfb d ((m2 d).mp h),by lia,λr dr' xr hr hn hmm src=>?_⟩;have e12:=Cf;exact q r xr F2 _ dr' (e12.newO hr) (e12.hh.free hr) (e12.fh.free hr) Ku (src.reps (r1.mono e2.gf) r2) hn λd=>by rw[hmm,hm];exact hcong _ _ _ _ _ m1 m2
theorem yg9(a:EvS P w K G Hz L ss ta da)(b:EvS P w K G Hz L ss tb db)(hfa:∀d∈da,Ci f)(hfb:∀d∈db,Ci f)(hl:BI (da.length+db.length))(hm:∀d,d∈dr↔d∈da/\d∈db):EvS P w K G Hz L ss (Ct (bM P w K f mAnd) tb) dr :=
 ykl (m:=mAnd) (λa a' b b' d h1 h2=>by unfold mAnd;rw[h1,h2]) a b hfa hfb hl hm
theorem zy2(dd:Ac)(a:EvS P w K G Hz L ss t ds)(hf:∀d∈ds,Ci f)(hn:dd.Nodup)(hm:∀d,d∈dd↔d∈ds):Ay (tCB (yfo P w K f) (BV t)) (.int dd.length):=λF H σ Q S q =>
 a F H σ _ S λp xs F' H' d1 e hp fp hp1 r n1 m1=>⟨p,xs,d1,rfl,hp1,r.mono e.fh,λd h=>hf d ((m1 d).mp h),by
  have hp:dd.Perm d1:=(Ud hn n1).mpr λd=>by rw[hm,m1]
  rw[<- hp.length_eq];exact q _ F' H' e Rep.int⟩
end
noncomputable def ded:Ac->Ac
 | []=>[]
 | d::ds=>if d∈ds then ded ds else d::ded ds
theorem Qk{d:D}:∀{ds:Ac},d∈ded ds↔d∈ds
 | []=>lD
 | e::ds=>by
  unfold ded;split
  .rw[Qk,KH];exact⟨.inr,λh=>h.elim (λz=>z ▸ by assumption) id⟩
  .rw[KH,KH,Qk]
theorem U7:∀ds:Ac,(ded ds).Nodup
 | []=>RQ
 | e::ds=>by
  unfold ded;split;.exact U7 ds
  .rw[M4,Qk];exact⟨by assumption,U7 ds⟩
theorem bN:∀ds:Ac,AB (ded ds) ds.length
 | []=>Az
 | e::ds=>by
  have:=bN ds;unfold ded;split <;> simp <;> omega
noncomputable def Wn(K:Kd):R2:=λx y H Q=>∃l b xs zs,x= Cd/\y= Cs/\A8 H l xs/\A8 H b zs/\AD (xs.length+zs.length) /\ ∀p,H p=none->Q Ap (BX H p (xs++zs))
theorem bO{X:Cx}:OpR X (Qq .Add) (Wn X.K):=by
 intro pins s σ H x y v u Q I rx ry h;obtain⟨l,b,xs,zs,rfl,rfl,hl,hb,hz,q⟩:=h;cases rx;cases ry;obtain⟨its,r,pl,_⟩:=I.list hl;obtain⟨its2,r2,pl2,_⟩:=I.list hb;have z1:=r.length;have z2:=r2.length;obtain⟨⟨cls,dd,data,sl⟩,ho,hc,n,hd⟩:=pl.isList;obtain⟨⟨cls2,dd2,data2,sl2⟩,ho2,hc2,n2,hd2⟩:=pl2.isList;dsimp only at hc hd hc2 hd2;subst hc;subst hd;subst hc2;subst hd2;refine concat_meets (Cm ho) (Cm ho2) noFill_list_add seq_list_add PySem.F.slot_list_add PySem.F.entry_list_add (PySem.F.args_list_add_2 _ _) (list_addW l b its.toArray its2.toArray n n2 dd dd2 sl sl2 (by simp;lia)) (Ck ho ho2);have ea:its.toArray++its2.toArray=(its++its2).toArray:=by simp
 rw[ea];exact(Bj (.ref _) _ (I.lnew (t':=s.toks) (r.append r2) (by rw[K8];omega)) (q _ I.fresh))
section
variable{K:Kd}{G Hz L:Hp}{ss:List Sl}{ta tb:TE}{da db:List D}
theorem bQ(a:EvL K G Hz L ss ta da)(b:EvL K G Hz L ss tb db)(hz:AD (da.length+db.length)):EvO K G Hz L ss (Ct (Wn K) tb) (da++db):=λF H σ Q S q =>
 a F H σ _ S λp vs F1 H1 e1 sq1 r1=>b F1 H1 σ _ Cg λp2 vs2 F2 H2 e2 sq2 r2=>by
  have l1:=r1.length;have l2:=r2.length;refine⟨p,p2,vs,vs2,rfl,rfl,SqL.same e2.hh sq1,sq2,by lia,λl hl=>?_⟩;have e12:=Cf;exact q l _ F2 _ (e12.newO hl) (e12.hh.free hl) (e12.fh.free hl) Ku ((r1.mono e2.gf).append r2)
theorem ycz{d:D}{v:V}(r:∀H,As H d v):Ay (tC v) d:=λF H σ Q S q=>q _ _ _ DA (r _)
end
theorem zpv{K:Kd}{H:Hp}:∀(ls:Aj),(∀l∈ls,∀c∈l,c<128)->AN H Ee (ls.map λl=>Dc l)
 | [],_=>Reps.nil
 | l::ls,h=>Reps.cons (Rep.str (h l KN)) (zpv ls λl' hl=>h l' (AS hl))
theorem zml:∀{ls:Aj} {us:Am},ls.length=us.length->(∀(i:Nat) (l:Ae) (u:Ka),Ah ls l->Ah us u-> ∃t,u= .str (T l) t)->BY (ls.map λl=>V.str (T l))
 | [],us,hl,_=>by cases us with
  | nil=>exact .nil
  | cons _ _=>simp at hl
 | l::ls,us,hl,h=>by cases us with
  | nil=>simp at hl
  | cons u us=>exact .cons (h 0 l u rfl rfl) (zml (by simpa using hl) λi l' u' h1 h2=>h (i+1) l' u' h1 h2)
noncomputable def TupK(K:Kd)(a:Addr)(ls:Aj):Prop:=∀H,As H (.tup Ee) Av
theorem yht{K:Kd}{a:Addr}{o:Obj}{its:BT}{n:Nat}{ls:Aj}(hk:Ab (K.lookup a) o)(hc:o.cls= EU)(hd:o.data= .seq its n)(hl:ls.length=its.size)(hs:BI ls.length)(ha:∀l∈ls,∀c∈l,c<128)
  (h:∀(i:Nat) (l:Ae) (u:Ka),Ah ls l->Ah its.toList u-> ∃t,u= .str (T l) t):TupK K a ls:=λH =>
 Rep.tup (.inr ⟨o,its,n,hk,hc,hd,by rw[<- hl];exact Rp (by lia),zml (by simpa using hl) h⟩) (zpv ls ha) λz=>by
  obtain⟨d,hd,hi⟩:=Pk.mp z;obtain⟨l,_,rfl⟩:=Kr.mp hd;cases hi
mutual
noncomputable def D.nl:D->Bool
 | .lst _=>false
 | .dct _ _=>false
 | .dctT _ _=>false
 | .ins _ _ _=>false
 | .tup a=>D.nls a
 | _=>true
noncomputable def D.nls:Ac->Bool
 | []=>true
 | a::x=>a.nl&&D.nls x
end
noncomputable def EvOO(K:Kd)(G Hz L:Hp)(ss:Do)(t:TE)(dss:List Ac):Prop:=∀F H σ Q,Sat K G Hz L F H σ ss ->
 (∀p (qs:Fi Ac) F' H',CL F H F'->H p=none->F' p=none->Ab (H' p) (.lst (qs.map λq=>V.ref q.1))->(∀q∈qs,H q.1=none/\F' q.1=none /\ ∃vs,Ab (H' q.1) (.lst vs)/\AN F' q.2 vs)->(p::qs.map (·.1)).Nodup->qs.map (·.2)=dss->Q Ap H')->t σ H Q
section
variable{K:Kd}{G Hz L:Hp}{ss:List Sl}{i:Nat}{ta tk t1:TE}{t:TA}{d:D}{ds:List D}{dss:List (List D)}
theorem Sat.getOO{F H:Hp}{σ:St}(S:Sat K G Hz L F H σ ss){p:Addr}{qs:Fi Ac}(hs:Bl (.oo p qs)):D5 σ Ap/\Hz p=none/\F p=none/\Ez p (qs.map λq=>V.ref q.1) /\ ∀q∈qs,OwnL K Hz F H q.1 q.2:=by
 obtain⟨v,e,ew,r⟩:=Fj hs;cases ew;exact⟨e,r⟩
theorem Sat.setOO{F H:Hp}{σ:St}(S:Sat K G Hz L F H σ ss){qs:Fi Ac}{p:Addr}(h0:Hz p=none)(fp:F p=none)(hp:Ez p (qs.map λq=>V.ref q.1))(hq:∀q∈qs,OwnL K Hz F H q.1 q.2)(hn:(p::qs.map (·.1)).Nodup)
  (hne:∀(j:Nat) s',j≠i->AQ ss s'-> ∀z∈p::qs.map (·.1),z∉s'.ads):Sat K G Hz L F H (FM i Ap) (Bu (.oo p qs)) :=
 S.put S.ext S.fl (by simp) (λj hj=>QM CU) (λhi=>by rw[Vo (by rw[S.len];exact hi)];exact⟨rfl,h0,fp,hp,hq⟩) hn (λj s' hj h q hq'=>hne j s' hj h q hq') λj s' _ h=>S.ok j s' h
theorem ydc{E:Ends}(a:EvOO K G Hz L ss ta dss)(h:∀p (qs:Fi Ac),qs.map (·.2)=dss->Bw K G L E.nx (Bu (.oo p qs))):Bx K G L E (tAsg ta (Ob i)):=λF H σ S =>
 a F H σ _ S λp qs F' H' e hp fp hp' hq hn hm=>by
  have S':=S.ext2 e;have live:∀z,H z=none-> ∀(j:Nat) s',AQ ss s'->z∉s'.ads:=λz hz j s' hs hin=>(S.ok j s' hs).live hin hz;refine h p qs hm F' H' _ (S'.setOO (S.ext.hh.free hp) fp hp' (λq hqm=>?_) hn λj s' _ hs z hz=>?_)
  .obtain⟨z1,z2,vs,z3,z4⟩:=hq q hqm;exact⟨S.ext.hh.free z1,z2,vs,z3,z4⟩
  .rcases KH.mp hz with rfl | hz;.exact live _ hp j s' hs
   .obtain⟨q,hqm,rfl⟩:=Kr.mp hz;exact live _ (hq q hqm).1 j s' hs
theorem Sat.freezeOO{F H:Hp}{σ:St}(S:Sat K G Hz L F H σ ss){p:Addr}{qs:Fi Ac}(hs:Bl (.oo p qs)):∃F',Sat K G Hz L F' H σ (Bu (BE (qs.map λq=>.lst q.2))):=by
 obtain⟨e,h0,fp,hp,hq⟩:=S.getOO hs;have hget:Ab (EV i) Ap:=by rw[Kz,e];rfl
 have off:∀b,b∈p::qs.map (·.1)->Hz b=none/\F b=none:=λb hb=>by
  rcases KH.mp hb with rfl | hb;.exact⟨h0,fp⟩
  .obtain⟨q,hqm,rfl⟩:=Kr.mp hb;exact⟨(hq q hqm).1,(hq q hqm).2.1⟩
 let F':Hp:=λb=>if b∈p::qs.map (·.1) then H b else F b;have fin:∀b,b∈p::qs.map (·.1)->F' b=H b:=λb hb=>if_pos hb;have fout:∀b,b∉p::qs.map (·.1)->F' b=F b:=λb hb=>if_neg hb;have ff:Same F F':=λb o h=>by
  have:b∉p::qs.map (·.1):=λhb=>by rw[(off b hb).2] at h;cases h
  rw[fout b this];exact h
 have fh:Same F' H:=λb o h=>by
  by_cases hb:b∈p::qs.map (·.1);.rw[fin b hb] at h;exact h
  .rw[fout b hb] at h;exact S.ext.fh b o h
 have ex:Ext G Hz F' H:=⟨S.ext.gf.trans ff,fh,S.ext.hh,λb o h n=>by
  have:b∉p::qs.map (·.1):=λhb=>by rw[(off b hb).1] at h;cases h
  rw[fout b this];exact S.ext.no b o h n⟩;refine⟨F',S.put ex (S.fl.trans ff) rfl Cy C4 (by simp[Sl.ads]) GS λj s' hj h=>?_⟩
 .rw[hget];refine(Ar rfl (Rep.lst (SqL.of ((fin p KN).trans hp)) ?_));have key:∀zs:Fi Ac,(∀z∈zs,z∈qs)->AN F' (zs.map λq=>.lst q.2) (zs.map λq=>V.ref q.1):=by
   intro zs;induction zs with
   | nil=>intro _;exact Reps.nil
   | cons z zs ih =>
    intro hz;obtain⟨_,_,vs,hv,r⟩:=hq z (hz z KN);exact Reps.cons (Rep.lst (SqL.of ((fin z.1 (AS (Kr.mpr (Dm z (hz z KN))))).trans hv)) (r.mono ff)) (ih λy hy=>hz y (AS hy))
  exact key qs λz h=>h
 .have dis:∀b∈s'.ads,b∉p::qs.map (·.1):=λb hb hb2=>S.ne i j _ s' CU hs h b hb2 hb;have own:∀{b:Addr} {xs:Ac},b∈s'.ads->OwnL K Hz F H b xs->OwnL K Hz F' H b xs:=λhb ⟨a1,a2,vs,a3,a4⟩=>⟨a1,by rw[fout _ (dis _ hb)];exact a2,vs,a3,a4.mono ff⟩;have ok:=S.ok j s' h;cases s' with
  | un=>trivial
  | d x=>obtain⟨v,ev,r⟩:=ok;exact⟨v,ev,r.mono ff⟩
  | o b xs=>exact⟨ok.1,own (by simp[Sl.ads]) ok.2⟩
  | oo b zs =>
   obtain⟨a1,a2,a3,a4,a5⟩:=ok;exact⟨a1,a2,by rw[fout b (dis b (by simp[Sl.ads]))];exact a3,a4,λz hz=>own (by simp[Sl.ads];exact .inr ⟨_,hz⟩) (a5 z hz)⟩
  | g v as W =>
   obtain⟨a1,a2,a3,a4⟩:=ok;refine⟨a1,Eg,a4 _ _ _ _ ff Cy a3,a4⟩;obtain⟨b1,b2,b3⟩:=a2 b hb;exact⟨b1,by rw[fout b (dis b hb)];exact b2,b3⟩
theorem zsn{N:St->A2}{p:Addr}{qs:Fi Ac}(hs:Bl (.oo p qs))(h:Bw K G L N (Bu (BE (qs.map λq=>.lst q.2)))):Bw K G L N ss:=λF H σ S=>by
 obtain⟨F',S'⟩:=S.freezeOO hs;exact h F' H σ S'
end
end L2
namespace L2
open PySem PySem.W PySem.Spec PyProof.Rows
noncomputable def SpR(K:Kd)(pre:Aq Ac)(R:Ac->Aq Ac):Sp:=λvs H Q _=>∃G ds,Same G H/\Bc G vs/\B0 /\ ∀rs,R ds rs-> ∀p ws G' H',CL G H G'->H p=none->G' p=none->Ab (H' p) (.lst ws)->AN G' rs ws->Q Ap H'
section
variable{K:Kd}{H:Hp}{vs:List V}{Q:VK}{X:XK}{N:List Str}{t:TS}{pre:List D->Prop}{R:List D->List D->Prop}
theorem yiv(h:SpR K pre R vs H Q X)(hN:FQ)(body:∀G ds,B0->(∀rs,R ds rs->RtO K G H Q rs)->Go K G H G Cv (DY ds) t):t Cv (Em N) H:=by
 obtain⟨G,ds,sm,r,hp,q⟩:=h;exact body G ds hp (λrs hR p ws F H' e h1 h2 h3 r=>q rs hR p ws F H' e h1 h2 h3 r) G H _ (Ro sm r hN)
theorem zxo{n:Nat}(hpre:∀ds,B0->DJ n)(h:SpR K pre R vs H Q X):vs.length=n:=by
 obtain⟨G,ds,sm,r,hp,q⟩:=h;rw[<- r.length];exact hpre ds hp
end
section
variable{K:Kd}{G Hz L:Hp}{ss:List Sl}{t:TA}{ds:List D}{pre:List D->Prop}{R:List D->List D->Prop}{E:XK}{D0:Ends}
theorem zyw{i:Nat}(a:EvAF K G Hz L ss t ds)(hp:B0)(h:∀rs,R ds rs-> ∀p,Bw K G L D0.nx (Bu (.o p rs))):Bx K G L D0 (tAsg (Qv (SpR K pre R) [] E t) (Ob i)):=λF H σ S =>
 Eo F H σ _ S ⟨F1,ds,e1.fh,by rw[LR];exact r1,hp,λrs hR p ws G' H' e2 h1 h2 h3 r=>h rs hR p _ _ _ (S.newO Cf (e1.hh.free h1) h2 h3 r)⟩
end
end L2
namespace L2
open PySem PySem.W PyProof.Rows L2T
theorem Reps.rev{K:Kd}{H:Hp}:∀{ds:Ac} {xs:Ai},Bc H xs->AN H ds.reverse xs.reverse
 | [],xs,h=>by rw[Reps] at h;subst h;exact Reps.nil
 | d::ds,xs,h=>by
  rw[Reps] at h;obtain⟨x,xs',rfl,h1,h2⟩:=h;rw[ZF,ZF];exact h2.rev.snoc h1
section
variable{K:Kd}{G Hz L:Hp}{ss:List Sl}{ta tb t:TE}
theorem ya1{i j:Int}(a:DP ta)(b:A1 tb (.int j)):Ay (tCB (λxs H Q=>∃i j,xs=[Ca,.int j]/\Q (.int (if j>i then j else i)) H) (Ol ta (BV tb))) (.int (if j>i then j else i)):=λF H σ Q S q =>
 Ec F H σ _ S (b F1 H1 σ _ Cg λv2 F2 H2 e2 r2=>by
  rw[r1.of_int,r2.of_int];exact(Bh i j (q _ F2 H2 Cf Rep.int)))
theorem zz0{i j:Int}(a:DP ta)(b:A1 tb (.int j)):Ay (tCB (λxs H Q=>∃i j,xs=[Ca,.int j]/\Q (.int (if j<i then j else i)) H) (Ol ta (BV tb))) (.int (if j<i then j else i)):=λF H σ Q S q =>
 Ec F H σ _ S (b F1 H1 σ _ Cg λv2 F2 H2 e2 r2=>by
  rw[r1.of_int,r2.of_int];exact(Bh i j (q _ F2 H2 Cf Rep.int)))
theorem yk0{i j:Int}(a:DP ta)(b:A1 tb (.int j)):Cc (Ct (rI0 λi j=>.bl (AF j i)) tb) (AF j i):=zrf (g:=λi j=>AF j i) a b
theorem zrm{ds:Ac}(a:EvL K G Hz L ss t ds):EvO K G Hz L ss (ztl K (BV t)) ds.reverse:=λF H σ Q S q =>
 a F H σ _ S λp vs F' H' e sq r=>(BH p vs sq (λl hl=>q l vs.reverse F' _ (e.newO hl) (e.hh.free hl) (e.fh.free hl) Ku r.rev))
end
end L2
namespace L2
open PySem PySem.W PySem.Spec PyProof.Rows
noncomputable def SpRD(K:Kd)(pre:Aq Ac)(R:Ac->Aq D):Sp:=λvs H Q _=>∃G ds,Same G H/\Bc G vs/\B0 /\ ∀r,R ds r-> ∀v G' H',CL G H G'->As G' r v->Q v H'
section
variable{K:Kd}{H:Hp}{vs:List V}{Q:VK}{X:XK}{N:List Str}{t:TS}{pre:List D->Prop}{R:List D->D->Prop}
theorem yg0(h:SpRD K pre R vs H Q X)(hN:FQ)(body:∀G ds,B0->(∀r,R ds r->RtD K G H Q r)->Go K G H G Cv (DY ds) t):t Cv (Em N) H:=by
 obtain⟨G,ds,sm,r,hp,q⟩:=h;exact body G ds hp (λrs hR v F H' e r=>q rs hR v F H' e r) G H _ (Ro sm r hN)
theorem zue{n:Nat}(hpre:∀ds,B0->DJ n)(h:SpRD K pre R vs H Q X):vs.length=n:=by
 obtain⟨G,ds,sm,r,hp,q⟩:=h;rw[<- r.length];exact hpre ds hp
end
section
variable{K:Kd}{G Hz L:Hp}{ss:List Sl}{t:TA}{ds:List D}{pre:List D->Prop}{R:List D->D->Prop}{E:XK}{D0:Ends}{ta tb te:TE}{i j:Int}
theorem ydx{g:TG}(a:EvAF K G Hz L ss t ds)(hp:B0)(h:∀r,R ds r-> ∃ss',Tg K G Hz L g r ss ss'/\Bw K G L D0.nx ss'):Bx K G L D0 (tAsg (Qv (SpRD K pre R) [] E t) g):=λF H σ S =>
 Eo F H σ _ S ⟨F1,ds,e1.fh,by rw[LR];exact r1,hp,λr hR v G' H' e2 rr=>by
  obtain⟨ss',tg,nx⟩:=h r hR;exact tg _ H' σ _ _ (S.ext2 Cf) rr λσ' S'=>nx _ H' σ' S'⟩
theorem ykm(a:DP te):Cc (tCB (λxs H Q=>∃x,xs=[.int x,.ty "int"]/\Q C2 H) (Ol te (BV (tC (.ty "int"))))) true:=λF H σ Q S q =>
 Ec F H σ _ S ⟨i,by rw[r1.of_int],q _ _ _ e1 Rep.bl⟩
theorem yg3(a:DP te):Cc (tCB (λxs H Q=>∃x,xs=[.int x,.ty "bool"]/\Q (.bl false) H) (Ol te (BV (tC (.ty "bool"))))) false:=λF H σ Q S q =>
 Ec F H σ _ S ⟨i,by rw[r1.of_int],q _ _ _ e1 Rep.bl⟩
theorem zx6(a:DP te):Ay (tUn (rU λi=>.int (-i)) te) (.int (-i)):=λF H σ Q S q =>
 Ec F H σ _ S ⟨i,by rw[r1.of_int],q _ _ _ e1 Rep.int⟩
theorem yj9(a:DP ta)(b:A1 tb (.int j))(h:CPow i j):Ay (Ct (rI CPow (EH (i ^ j.toNat))) tb) (.int (i ^ j.toNat)):=qI (C:=CPow) (g:=λi j=>i ^ j.toNat) a b h
end
end L2
namespace L2
open PySem PySem.W PySem.Spec PyProof.Rows PySem.Builtin PySem.Builtin.Str PySem.StrLaws
end L2
namespace L2
open PySem PySem.W PySem.Spec PyProof.Rows PySem.Builtin PySem.Builtin.Str
end L2
namespace L2
open PySem PySem.W PySem.Spec PyProof.Rows
noncomputable def SpG{α:Type}(K:Kd)(pre:α->Aq Ac)(res:α->D):Sp:=λvs H Q _=>∃(G:Hp) (ds:Ac) (x:α),Same G H/\Bc G vs/\pre x ds /\ ∀v G' H',CL G H G'->As G' (res x) v->Q v H'
section
variable{α:Type}{K:Kd}{H:Hp}{vs:List V}{Q:VK}{X:XK}{N:List Str}{t:TS}{pre:α->List D->Prop}{res:α->D}
theorem yic(h:SpG K pre res vs H Q X)(hN:FQ)(body:∀G ds x,pre x ds->RtD K G H Q (res x)->Go K G H G Cv (DY ds) t):t Cv (Em N) H:=by
 obtain⟨G,ds,x,sm,r,hp,q⟩:=h;exact body G ds x hp (λv F H' e r=>q v F H' e r) G H _ (Ro sm r hN)
theorem yaq{n:Nat}(hpre:∀x ds,pre x ds->DJ n)(h:SpG K pre res vs H Q X):vs.length=n:=by
 obtain⟨G,ds,x,sm,r,hp,q⟩:=h;rw[<- r.length];exact hpre x ds hp
end
section
variable{α:Type}{K:Kd}{G Hz L:Hp}{ss:List Sl}{ta tb tc te:TE}{t:TA}{ds:List D}{E:XK}{pre:α->List D->Prop}{res:α->D}
theorem Rq(x:α)(a:EvAF K G Hz L ss t ds)(hp:pre x ds):Ay (Qv (SpG K pre res) [] E t) (res x):=λF H σ Q S q =>
 Eo F H σ _ S ⟨F1,ds,x,e1.fh,by rw[LR];exact r1,hp,λv G' H' e2 r=>q _ _ _ Cf r⟩
end
section
variable{K:Kd}{G Hz L:Hp}{ss:List Sl}
theorem zy0(ds:Ac)(f:D->D){tl:TE}{g:TG}{te:TE}{nt:Nat}{cs:Ae}(a:Ay tl DG)(hk:GK nt g)(hc:cs.Nodup)(hz:Dk ds.length)
  (hs:∀c∈ds,∃ss',Tg K G Hz L g c (lcSl nt cs ss) ss'/\Ev K G Hz L ss' te (f c)) :
  EvO K G Hz L ss (tLC nt cs (iTup K tl) g Yi te) (ds.map f):=by
 have:=zsk (p:=λ_=>true) (f:=λi=>f (CG i)) (tt:=Yi) (te:=te) (yh2 a) hk hc hz (λi hi=>by
  have hm:CG i∈ds:=by rw[Kz,Kv hi];exact RN hi
  obtain⟨ss',h1,h2⟩:=hs _ hm;exact⟨ss',h1,ztp,λ_=>h2⟩);have e:=zs6 ds .non (λ_=>true) f;rw[show ds.filter (λ_=>true)=ds from Zuk.mpr (by simp)] at e;rw[<- e];exact this
end
theorem bR{a b:D}(ha:Aa a.isK)(hb:Aa b.isK)(h:a.key=b.key):a=b:=by
 cases a <;> cases b <;> simp[D.isK,D.key] at * <;> first | exact h | exact aQ.mp h
theorem Su{K:Kd}{H:Hp}{d:D}{v:V}(hk:Aa d.isK)(r:As H d v):v=kV d.key:=by
 cases d <;> simp[D.isK] at hk;.exact r.of_int
 .exact r.of_str
noncomputable abbrev DD:=CM D D
noncomputable def valD(kvs:DD)(k:D):Option D:=(kvs.find? (D9 kv.1 k)).map (·.2)
noncomputable def putD(kvs:DD)(k d:D):DD:=Ds (kvs.any (D9 kv.1 k)) (kvs.map (λkv=>if kv.1=k then (kv.1,d) else kv)) (kvs++[(k,d)])
inductive Dks(K:Kd)(F:Hp):DD->List (Key×V)->Prop
 | nil:Dks K F [] []
 | cons {k d:D} {v:V} {kvs:DD} {xs:List (Key×V)} (hk:k.isK=true) (hr:Rep K F k (kV k.key)) (r:Rep K F d v) (t:Dks K F kvs xs):Dks K F ((k,d)::kvs) ((k.key,v)::xs)
section
variable{K:Kd}{F F':Hp}{kvs:DD}{xs:List (Key×V)}
theorem Dks.mono(h:Dks K F kvs xs)(s:Same F F'):Dks K F' kvs xs:=by
 induction h with
 | nil=>exact .nil
 | cons hk hr r t ih=>exact .cons hk (hr.mono s) (r.mono s) ih
theorem Dks.length(h:Dks K F kvs xs):kvs.length=xs.length:=by
 induction h with
 | nil=>rfl
 | cons hk hr r t ih=>simp[ih]
theorem ydu{k:D}(hk:El):Aa k.flat:=by cases k <;> simp[D.isK] at hk <;> rfl
theorem zrn{K:Kd}{H F:Hp}{k:D}{v:V}(hk:El)(r:As H k v):As F k (kV k.key):=by
 rw[<- Su hk r];exact r.flat (ydu hk)
theorem Dks.val(h:Dks K F kvs xs){k:D}(hk:El):(DL k=none/\Fq xs=none) \/ ∃d v,Ab (DL k) d/\Ab (Fq xs) v/\As F d v:=by
 induction h with
 | nil=>exact .inl De
 | @cons k' d v kvs xs hk' hr' r t ih =>
  by_cases e:k'=k
  .subst e;exact .inr ⟨d,v,by simp[valD],by simp[valV],r⟩
  .have e2:k'.key≠k.key:=λz=>e (bR hk' hk z);have h1:valD ((k',d)::kvs) k=DL k:=by simp[valD,PJ,e]
   have h2:Fq ((k'.key,v)::xs)=Fq xs:=by simp[valV,PJ,e2]
   rw[h1,h2];exact ih
theorem Dks.any(h:Dks K F kvs xs){k:D}(hk:El):(kvs.any (D9 kv.1 k))=xs.any (D9 kv.1 k.key):=by
 induction h with
 | nil=>rfl
 | @cons k' d v kvs xs hk' hr' r t ih =>
  rw[RV,RV,ih];congr 1;by_cases e:k'=k;.subst e;simp
  .have e2:k'.key≠k.key:=λz=>e (bR hk' hk z);rw[decide_eq_false e,decide_eq_false e2]
theorem Dks.snoc(h:Dks K F kvs xs){k d:D}{v:V}(hk:El)(hr:As F k (kV k.key))(r:As F d v):Dks K F (kvs++[(k,d)]) (xs++[(k.key,v)]):=by
 induction h with
 | nil=>exact .cons hk hr r .nil
 | cons hk' hr' r' t ih=>exact .cons hk' hr' r' ih
theorem Dks.put(h:Dks K F kvs xs){k d:D}{v:V}(hk:El)(hr:As F k (kV k.key))(r:As F d v):Dks K F (putD kvs k d) (putK xs k.key v):=by
 unfold putD putK;rw[h.any hk];by_cases hc:Aa (xs.any (D9 kv.1 k.key))
 .rw[Ff,Ff];clear hc;induction h with
  | nil=>exact .nil
  | @cons k' d' v' kvs xs hk' hr' r' t ih =>
   rw[Kq,Kq];by_cases e:k'=k;.subst e;rw[BR,BR];exact .cons hk' hr' r ih
   .have e2:k'.key≠k.key:=λz=>e (bR hk' hk z);rw[if_neg e,if_neg e2];exact .cons hk' hr' r' ih
 .rw[E2,E2];exact h.snoc hk hr r
end
theorem yb7(kvs:DD)(k d:D):AB (putD kvs k d) (kvs.length+1):=by
 unfold putD;split <;> simp
noncomputable def dW(K:Kd)(p:Addr)(kvs:DD):Hp->A2:=λF H=>∃xs,Aw p (.dK xs)/\Dks K F kvs xs
noncomputable def dsl(K:Kd)(p:Addr)(kvs:DD):Sl:=.g Ap [p] (dW K p kvs)
theorem rT(K:Kd)(p:Addr)(kvs:DD):Stab [p] (dW K p kvs):=λF1 H1 F2 H2 sf hh ⟨xs,h1,h2⟩=>⟨xs,by rw[hh p (by simp)];exact h1,h2.mono sf⟩
section
variable{K:Kd}{G Hz L:Hp}{ss:List Sl}{i:Nat}{p:Addr}{kvs:DD}{E:Ends}{ty td tv tx:TE}{k d z:D}
theorem Sat.getM{F H:Hp}{σ:St}(S:Sat K G Hz L F H σ ss)(hs:Bl (dsl K p kvs)):D5 σ Ap/\Hz p=none/\F p=none /\ ∃xs,Aw p (.dK xs)/\Dks K F kvs xs:=by
 obtain⟨v,e,ew,ha,hw,st⟩:=Fj hs;cases ew;obtain⟨h0,fp,_⟩:=ha p (by simp);exact⟨e,h0,fp,hw⟩
theorem Sat.writeM{F H:Hp}{σ:St}{kvs':DD}{xs:AU Key}(S:Sat K G Hz L F H σ ss)(hs:Bl (dsl K p kvs))(r:Dks K F kvs' xs):Sat K G Hz L F (AX p (.dK xs)) σ (Bu (dsl K p kvs')):=by
 obtain⟨e,h0,fp,ys,hp,_⟩:=S.getM hs;have hget:Ab (EV i) Ap:=by rw[Kz,e];rfl
 refine S.put (S.ext.write fp h0) S.fl rfl Cy C4 (by simp[dsl,Sl.ads]) (λj s' hj h q hq=>?_) λj s' hj h=>(S.ok j s' h).updNe (S.ne i j _ s' CU hs h p (by simp[dsl,Sl.ads]))
 .rw[hget];exact(Dq (λa ha=>by rw[K5.mp ha];exact⟨h0,fp,_,Ku,trivial⟩) ⟨xs,Ku,r⟩ (rT K p kvs'))
 .have:q=p:=by simpa[dsl,Sl.ads] using hq
  subst this;exact S.ne i j _ s' CU hs h q (by simp[dsl,Sl.ads])
theorem zxa(h:∀p,Bw K G L E.nx (Bu (dsl K p []))):Bx K G L E (tAsg yah (Ob i)):=λF H σ S p hp=>by
 have e:=(DA).newO (o:=.dK []) hp;have S':=S.ext2 e;refine h p F _ _ (S'.put S'.ext S'.fl (by simp) (λj hj=>QM CU) (λhi=>?_) (by simp[dsl,Sl.ads]) (λj s' hj hs q hq=>?_) λj s' hj hs=>S'.ok j s' hs)
 .rw[GQ];exact(Dq GV ⟨[],Ku,.nil⟩ (rT K p []))
 .have:q=p:=by simpa[dsl,Sl.ads] using hq
  subst this;exact λhin=>(S.ok j s' hs).live hin hp
theorem YB(hs:Bl (dsl K p kvs))(b:A1 ty k)(hk:El)(hv:Ab (DL k) d):Ay (rC (tVar i) ty) d:=λF H σ Q S q=>by
 obtain⟨e,_⟩:=S.getM hs;refine(Ar e (b F H σ _ S λv F1 H1 e1 r1=>?_));obtain⟨_,_,_,xs,hp,dk⟩:=(Cg).getM hs;rcases dk.val hk with ⟨h1,_⟩ | ⟨d',w,h1,h2,rw'⟩;.rw[h1] at hv;cases hv
 .rw[h1] at hv;cases hv;refine(BH p w ?_ (q w F1 H1 e1 rw'));rw[Su hk r1,<- h2];exact DGet.k hp
theorem zw6(hs:Bl (dsl K p kvs))(b:A1 ty k)(hk:El):Cc (rD ty (tVar i)) (!(DL k).isSome):=λF H σ Q S q =>
 b F H σ _ S λv F1 H1 e1 r1=>by
  obtain⟨e,_,_,xs,hp,dk⟩:=(Cg).getM hs;refine⟨_,e,p,Fq xs,rfl,by rw[Su hk r1];exact DGet.k hp,q _ F1 H1 e1 ?_⟩;have:(Fq xs).isSome=(DL k).isSome:=by
   rcases dk.val hk with ⟨h1,h2⟩ | ⟨d',w,h1,h2,_⟩ <;> rw[h1,h2] <;> rfl
  rw[this];exact Rep.bl
theorem rW(hs:Bl (dsl K p kvs))(a:Ay tv d)(b:A1 ty k)(hk:El)(hz:Dk kvs.length)(h:Bw K G L E.nx (Bu (dsl K p (putD kvs k d)))):Bx K G L E (rE (tVar i) ty tv):=λF H σ S =>
 Ec F H σ _ S (by
  have S1:=Cg;obtain⟨e,_⟩:=S1.getM hs;refine(Ar e (b F1 H1 σ _ S1 λw F2 H2 e2 r2=>?_));have S2:=S1.ext2 e2;obtain⟨_,_,_,xs,hp,dk⟩:=S2.getM hs;refine(BH p _ (by rw[Su hk r2];exact DPut.k (v:=v) hp (by rw[<- dk.length];exact hz)) (h F2 _ σ (S2.writeM hs (dk.put hk (zrn hk r2) (r1.mono e2.gf))))))
end
end L2
namespace L2
open PySem PySem.Spec PyProof.Rows
section
variable{X:Cx}
noncomputable def yam:V->Ai->Hp->B9:=λx vs H Q=>∃a kvs k z,x= Av/\vs=[kV k,z]/\Aw a (.dK kvs)/\Dk kvs.length/\(∀v,Ab (valV kvs k) v->Q v H)/\(valV kvs k=none->Q z (AX a (.dK (putK kvs k z))))
theorem rY:MtR X "dict.setdefault" yam:=by
 intro pins s σ H x xs v us Q I rx rs h;obtain⟨a,kvs,k,z,rfl,rfl,e,hl,q1,q2⟩:=h;obtain rfl:v=KJ a:=rx;obtain⟨u1,u2,rfl,ry,rz⟩:=Qd rs;obtain⟨hz,hd,vs,rel,dd⟩:=bA I.hok e;have hzz:AD vs.length:=by rw[<- rel.length];exact hz
 refine nQ PySem.F.slot_dict_setdefault dd.typeIs PySem.F.entry_dict_setdefault (PySem.F.args_dict_setdefault_3 _ _ _) (kt_meets_setdefault (Mz X.prog X.w) a (Wj ry) hd u2) ⟨vs,dd,hzz,λv' hv=>?_,λhn h' dd' hs=>?_⟩
 .have r:=rel.val k;rw[hv] at r;cases hk:valV kvs k with
  | none=>rw[hk] at r;exact r.elim
  | some w'=>rw[hk] at r;exact⟨w',H,DH,r,q1 w' hk⟩
 .have hk:valV kvs k=none:=by
   have r:=rel.val k;rw[hn] at r;cases hk:valV kvs k with
   | none=>rfl
   | some w'=>rw[hk] at r;exact r.elim
  have hl2:AD (putK kvs k z).length:=by have:=rA kvs k z;lia
  have he:∃q,AJ a q:=let ⟨q,_,_,hq,_⟩:=dd';⟨q,hq⟩;exact⟨z,_,rB I (by rw[e];exact Tw) hs he (zy6 hl2 hd (rel.put k rz) dd'),rz,q2 hk⟩
noncomputable def rZ(r d:Addr):HO:=.ext λh=>h.IsValuesView r d
noncomputable def zxv:V->Ai->Hp->B9:=λx vs H Q=>∃d kvs,x= .ref d/\vs=[]/\Aw d (.dK kvs) /\ ∀r,H r=none->Q (.ref r) (AX r (rZ r d))
theorem zwv:MtR X "dict.values" zxv:=by
 intro pins s σ H x xs v us Q I rx rs h;obtain⟨d,kvs,rfl,rfl,e,q⟩:=h;obtain rfl:v=KJ d:=rx;cases rs;obtain⟨hz,hd,vs,rel,dd⟩:=bA I.hok e;refine nQ PySem.F.slot_dict_values dd.typeIs PySem.F.entry_dict_values (PySem.F.args_dict_values_1 _) (meets_dict_values (Mz X.prog X.w) d hd) (BG ⟨vs,dd⟩);have I2:Ce (AX s.heap.objs.size (rZ s.heap.objs.size d)) { s with heap:=CP "dict_values" (.fields #[.ref d]) } :=
  I.laid (t':=s.toks) (λ_ _ q=>A0 q) Az ⟨(Bh _ (BP _) rfl),(Bb (BP _)),λh1 h2 ⟨o,ho,r⟩ k=>(CK (k _ ho) r)⟩;exact(Bj BN _ I2 (q _ I.fresh))
theorem KV.snds{κ:Type}[DecidableEq κ]{kvs:AU κ}{vs:Df κ}(r:KV kvs vs):Vals (kvs.map (·.2)) (vs.map (·.2)):=by
 induction r with
 | nil=>exact .nil
 | cons h t ih=>exact .cons h.2 ih
theorem zma(hc:Ex):Om X FL (λxs H Q=>∃r d kvs,xs=[.ref r]/\Aw r (rZ r d)/\Aw d (.dK kvs) /\ ∀l,H l=none->Q Cd (BX H l (kvs.map (·.2)))):=by
 intro pins s σ H xs us Q I rs h;obtain⟨r,d,kvs,rfl,hr,e,q⟩:=h;obtain⟨u,rfl,ru⟩:=Qc rs;cases ru;obtain⟨hz,hd,vs,rel,dd⟩:=bA I.hok e;obtain⟨ep,da⟩:=dd.dictAt;obtain⟨hv,_,_⟩:=I.hok r _ hr;have hzz:AD vs.length:=by rw[<- rel.length];exact hz
 refine PySem.W.kdl_call (PySem.W.kdl_values (kvs:=vs) (d:=d) (r:=r) (ep:=ep)) D3 ⟨hv,da⟩ hzz λh' tk acc c' hk hD hacc=>?_;have hacc2:acc.toList=vs.map (·.2):=PySem.W.kdl_vals_eq acc.toList (by rw[NZ];exact hacc.1) λj v hj=>hacc.2 j v (by rw[<- Nv];exact hj);have hval:Vals (kvs.map (·.2)) acc.toList:=by rw[hacc2];exact rel.snds
 exact(Bj BN _ (I.laid hk Az (show Lr X.prog X.w _ _ _ (.lst _) from⟨by rw[Kg];exact hz,acc.toList,c',hval,by simpa using hD⟩)) (q _ I.fresh))
end
end L2
namespace L2
open PySem PySem.W PySem.Spec PyProof.Rows
theorem SlOk.live2{K:Kd}{Hz F H:Hp}{ov:Ek}{s:Sl}(h:SlOk K Hz F H ov s){p:Addr}(hp:p∈s.ads):∃o,Aw p o/\NT o:=by
 cases s with
 | un=>simp[Sl.ads] at hp
 | d x=>simp[Sl.ads] at hp
 | o q xs =>
  obtain⟨_,_,_,vs,hq,_⟩:=h;simp[Sl.ads] at hp;subst hp;exact(Ar hq trivial)
 | oo q qs =>
  obtain⟨ev,h0,fp,hq,hqs⟩:=h;rcases KH.mp hp with rfl | hp;.exact(Ar hq trivial)
  .obtain⟨r,hr,rfl⟩:=Kr.mp hp;obtain⟨_,_,vs,hv,_⟩:=hqs r hr;exact(Ar hv trivial)
 | g v as W =>
  obtain⟨ev,ha,hw,st⟩:=h;obtain⟨_,_,x,ho⟩:=ha p hp;exact⟨x,ho⟩
noncomputable abbrev KQ:=CM D (Addr×Ac)
noncomputable def dat(q:D×Addr×Ac):D×Ac:=(q.1,B3)
noncomputable def raw(q:D×Addr×Ac):Key×V:=(q.1.key,.ref B8)
noncomputable def appD:CM D Ac->D->D->CM D Ac
 | [],k,d=>[(k,[d])]
 | kv::r,k,d=>AR kv.1 k ((kv.1,kv.2++[d])::r) (kv::appD r k d)
theorem yay{kqs:KQ}{k:D}(hk:El)(hks:∀q∈kqs,Aa q.1.isK):(Fq (kqs.map raw)=none /\ ∀d,appD (kqs.map dat) k d=kqs.map dat++[(k,[d])]) \/
  ∃j a ds,AQ kqs (k,a,ds)/\Ab (Fq (kqs.map raw)) Av /\ ∀d,(kqs.set j (k,a,ds++[d])).map dat=appD (kqs.map dat) k d:=by
 induction kqs with
 | nil=>exact .inl (CW (λ_=>rfl))
 | cons q r ih =>
  obtain⟨k',a',ds'⟩:=q;by_cases e:k'=k
  .subst e;refine .inr ⟨0,a',ds',rfl,by simp[valV,raw],λd=>?_⟩;show(k',ds'++[d])::r.map dat=appD ((k',ds')::r.map dat) k' d;rw[appD,BR]
  .have e2:k'.key≠k.key:=λz=>e (bR (hks _ KN) hk z);have hv:Fq (((k',a',ds')::r).map raw)=Fq (r.map raw):=by simp[valV,raw,PJ,e2]
   have ha:∀d,appD (((k',a',ds')::r).map dat) k d=(k',ds')::appD (r.map dat) k d:=λd=>by
    show appD ((k',ds')::r.map dat) k d=_;rw[appD,if_neg e]
   rw[hv];rcases ih λq hq=>hks q (kJ _ hq) with ⟨h1,h2⟩ | ⟨j,a,ds,h1,h2,h3⟩;.exact .inl ⟨h1,λd=>by rw[ha,h2];rfl⟩
   .refine .inr ⟨j+1,a,ds,h1,h2,λd=>?_⟩;rw[ha,<- h3];rfl
noncomputable def lW(K:Kd)(p:Addr)(kqs:KQ):Hp->A2:=λF H=>Aw p (.dK (kqs.map raw)) /\ ∀q∈kqs,Aa q.1.isK/\As F q.1 (kV q.1.key) /\ ∃vs,Ez B8 vs/\AN F B3 vs
noncomputable def dls(K:Kd)(p:Addr)(kqs:KQ):Sl:=.g Ap (p::kqs.map (·.2.1)) (lW K p kqs)
theorem zr7(K:Kd)(p:Addr)(kqs:KQ):Stab (p::kqs.map (·.2.1)) (lW K p kqs):=λF1 H1 F2 H2 sf hh ⟨h1,h2⟩ =>
 ⟨by rw[hh p (by simp)];exact h1,λq hq=>by
  obtain⟨a,kr,vs,b,c⟩:=h2 q hq;exact⟨a,kr.mono sf,vs,by rw[hh q.2.1 (kJ _ (Ny hq))];exact b,c.mono sf⟩⟩
section
variable{K:Kd}{G Hz L:Hp}{ss:List Sl}{i:Nat}{p:Addr}{kqs:KQ}{E:Ends}{tk tv:TE}{k d:D}
theorem Sat.getL{F H:Hp}{σ:St}(S:Sat K G Hz L F H σ ss)(hs:Bl (dls K p kqs)):D5 σ Ap/\(∀a∈p::kqs.map (·.2.1),Hz a=none/\F a=none)/\lW K p kqs F H:=by
 obtain⟨v,e,ew,ha,hw,st⟩:=Fj hs;cases ew;exact⟨e,λa h=>⟨(ha a h).1,(ha a h).2.1⟩,hw⟩
theorem znn(h:∀p,Bw K G L E.nx (Bu (dls K p []))):Bx K G L E (tAsg yah (Ob i)):=λF H σ S p hp=>by
 have e:=(DA).newO (o:=.dK []) hp;have S':=S.ext2 e;refine h p F _ _ (S'.put S'.ext S'.fl (by simp) (λj hj=>QM CU) (λhi=>?_) (by simp[dls,Sl.ads]) (λj s' hj hs q hq=>?_) λj s' hj hs=>S'.ok j s' hs)
 .rw[GQ];exact(Dq GV ⟨Ku,λ_ h=>by cases h⟩ (zr7 K p []))
 .have:q=p:=by simpa[dls,Sl.ads] using hq
  subst this;exact λhin=>(S.ok j s' hs).live hin hp
theorem ybm{α:Type}{xs:AK}{i:Nat}{x:α}(h:Ah xs x):xs.set i x=xs:=by
 refine Qn λn=>?_;by_cases hn:i=n;.subst hn;rw[RJ (BS h),h]
 .rw[Ug hn]
theorem Sat.appL{F H:Hp}{σ:St}(S:Sat K G Hz L F H σ ss){j:Nat}{a:Addr}{ds es:Ac}{vs:Ai}(hs:Bl (dls K p kqs))(hj:AQ kqs (k,a,ds))(r:AN F es vs) :
  Sat K G Hz L F (BX H a vs) σ (Bu (dls K p (kqs.set j (k,a,es)))):=by
 obtain⟨e,hoff,hp,hq⟩:=S.getL hs;have hget:Ab (EV i) Ap:=by rw[Kz,e];rfl
 have hnd:(p::kqs.map (·.2.1)).Nodup:=S.nd i _ hs;have hm:=KD hj;have ham:a∈p::kqs.map (·.2.1):=AS (Kr.mpr (Cm hm));obtain⟨a0,af⟩:=hoff a ham;have hpa:p≠a:=λz=>(M4.mp hnd).1 (z ▸ Kr.mpr (Cm hm));have mset:∀{β:Type} (f:D×Addr×Ac->β),f (k,a,es)=f (k,a,ds)->(kqs.set j (k,a,es)).map f=kqs.map f:=λ{β} f hf=>by
  rw[List.map_set];refine Qn λn=>?_;by_cases hn:j=n
  .subst hn;rw[RJ (by rw[Kg];exact(Mg.mp hj).1),KR,hj,hf];rfl
  .rw[Ug hn]
 have hads:(dls K p (kqs.set j (k,a,es))).ads=p::kqs.map (·.2.1):=by show p::(kqs.set j (k,a,es)).map (·.2.1)=_;rw[mset (·.2.1) rfl]
 have hdup:∀n z,AM kqs n z->n≠j->z.2.1≠a:=λn z hn hnj hz=>by
  have h2:(kqs.map (·.2.1)).Nodup:=(M4.mp hnd).2;unfold Lq at h2;rw[Vw] at h2;have hnl:=(Mg.mp hn);have hjl:=(Mg.mp hj);have e1:(kqs.map (·.2.1))[n]'(by simpa using hnl.1)=a:=by rw[Zv6,hnl.2];exact hz
  have e2:(kqs.map (·.2.1))[j]'(by simpa using hjl.1)=a:=by rw[Zv6,hjl.2]
  rcases PN n j with c | c;.exact h2 n j (by simpa using hnl.1) (by simpa using hjl.1) c (e1.trans e2.symm)
  .exact h2 j n (by simpa using hjl.1) (by simpa using hnl.1) (by lia) (e2.trans e1.symm)
 refine S.put (S.ext.write af a0) S.fl rfl Cy C4 (by rw[hads];exact hnd) (λn s' hn h z hz=>?_) λn s' hn h=>(S.ok n s' h).updNe (S.ne i n _ s' (K7 hn) hs h a ham)
 .rw[hget];refine(Dq Eg ⟨by rw[Kh hpa,mset raw rfl];exact hp,λz hz=>?_⟩ (zr7 _ _ _))
  .have hb:b∈p::(kqs.set j (k,a,es)).map (·.2.1):=hb;rw[mset (·.2.1) rfl] at hb;obtain⟨b0,bf⟩:=hoff b hb;refine(Ck b0 bf);by_cases hba:b=a;.subst hba;exact(Ar Ku trivial)
   .rw[Kh hba];exact(S.ok i _ hs).live2 (p:=b) hb
  .obtain⟨n,hn⟩:=MF.mp hz;by_cases hnj:j=n
   .subst hnj;rw[RJ (BS hj)] at hn;cases hn;exact⟨(hq _ hm).1,(hq _ hm).2.1,vs,Ku,r⟩
   .rw[Ug hnj] at hn;obtain⟨z1,kr,ws,z2,z3⟩:=hq z (KD hn);exact⟨z1,kr,ws,by rw[Kh (hdup n z hn (K7 hnj))];exact z2,z3⟩
 .have hz:z∈(dls K p (kqs.set j (k,a,es))).ads:=hz;rw[hads] at hz;exact S.ne i n _ s' (K7 hn) hs h z hz
theorem Sat.keyL{F H:Hp}{σ:St}(S:Sat K G Hz L F H σ ss){l:Addr}(hs:Bl (dls K p kqs))(hk:El)(kr:As F k (kV k.key))(hl:H l=none) :
  Sat K G Hz L F (upd (BX H l []) p (.dK ((kqs++[(k,l,[])]).map raw))) σ (Bu (dls K p (kqs++[(k,l,[])]))):=by
 have S2:=S.ext2 ((DA).newO (o:=.lst []) hl);obtain⟨e,hoff,hp,hq⟩:=S2.getL hs;have hget:Ab (EV i) Ap:=by rw[Kz,e];rfl
 have hnd:(p::kqs.map (·.2.1)).Nodup:=S.nd i _ hs;obtain⟨p0,pf⟩:=hoff p KN;have hnl:∀b∈p::kqs.map (·.2.1),b≠l:=λb hb z=>(S.ok i _ hs).live (p:=b) hb (z ▸ hl);have hpl:p≠l:=hnl p KN;have hads:(dls K p (kqs++[(k,l,[])])).ads=(p::kqs.map (·.2.1))++[l]:=by show p::Ya3 (λq:D×Addr×List D=>q.2.1) (kqs++[(k,l,[])])=_;rw[LQ];rfl
 refine S2.put (S2.ext.write pf p0) S2.fl rfl Cy C4 ?_ (λn s' hn h z hz=>?_) λn s' hn h=>(S2.ok n s' h).updNe (S2.ne i n _ s' (K7 hn) hs h p KN)
 .rw[hget];refine(Dq Eg ⟨Ku,λz hz=>?_⟩ (zr7 _ _ _))
  .have hb:b∈(dls K p (kqs++[(k,l,[])])).ads:=hb;rw[hads] at hb;rcases K9.mp hb with hb | hb
   .obtain⟨b0,bf⟩:=hoff b hb;refine(Ck b0 bf);by_cases hbp:b=p;.subst hbp;exact(Ar Ku trivial)
    .rw[Kh hbp];exact(S2.ok i _ hs).live2 (p:=b) hb
   .rw[K5.mp hb];exact⟨S.ext.hh.free hl,S.ext.fh.free hl,HO.lst [],by rw[Kh (K7 hpl)];exact Ku,trivial⟩
  .rcases K9.mp hz with hz | hz
   .obtain⟨z1,zr,ws,z2,z3⟩:=hq z hz;have hzp:z.2.1≠p:=λe=>(M4.mp hnd).1 (e ▸ Ny hz);exact⟨z1,zr,ws,by rw[Kh hzp];exact z2,z3⟩
   .rw[K5.mp hz];exact⟨hk,kr,[],by rw[Kh (K7 hpl)];exact Ku,Reps.nil⟩
 .rw[hads];exact SQ.mpr ⟨hnd,by simp,λx hx y hy e=>by rw[K5.mp hy] at e;exact hnl x hx e⟩
 .have hz:z∈(dls K p (kqs++[(k,l,[])])).ads:=hz;rw[hads] at hz;rcases K9.mp hz with hz | hz;.exact S.ne i n _ s' (K7 hn) hs h z hz
  .rw[K5.mp hz];exact λhin=>(S.ok n s' h).live hin hl
theorem sE(hs:Bl (dls K p kqs))(b:A1 tk k)(hk:El)(a:∀kqs',Ev K G Hz L (Bu (dls K p kqs')) tv d)(hz:Dk kqs.length)(hz2:∀q∈kqs,Dk (B3).length)
  (h:∀kqs',kqs'.map dat=appD (kqs.map dat) k d->Bw K G L E.nx (Bu (dls K p kqs'))) :
  Bx K G L E (Wd (tBM K "list" zrq (tBM K "dict" yam (tVar i) (Ol tk (BV (tLst tNil)))) (BV tv))):=λF H σ S=>by
 obtain⟨e,hoff,hp,hq⟩:=S.getL hs;have hks:∀q∈kqs,Aa q.1.isK:=λq hm=>(hq q hm).1;have hil:i<ss.length:=(BS hs);refine⟨Ap,e,FC (.inl (CW (.inl (Bb hp)))),b F H σ _ S λv F1 H1 e1 r1=>⟨BM,λl hl=>?_⟩⟩;have S1:=Cg;have S2:=S1.ext2 ((Ext.refl S1.ext.fh).newO (o:=.lst []) hl);obtain⟨_,_,hp2,hq2⟩:=S2.getL hs;refine⟨p,kqs.map raw,k.key,Cd,rfl,by rw[Su hk r1],hp2,by rw[Kg];exact hz,λv' hv'=>?_,λhn=>?_⟩
 .rcases yay hk hks with ⟨h1,_⟩ | ⟨j,q,ds,h1,h2,h3⟩;.rw[h1] at hv';cases hv'
  .rw[h2] at hv';cases hv';obtain⟨_,_,ws,hw,_⟩:=hq2 _ (KD h1);have es:Bu (dls K p kqs)=ss:=ybm hs;have S2':Sat K G Hz L F1 (BX H1 l []) σ (Bu (dls K p kqs)):=by rw[es];exact S2
   refine⟨.inl ⟨rfl,_,SqL.of hw⟩,a kqs F1 _ σ _ S2' λw F3 H3 e3 r3=>?_⟩;have S3:=S2.ext2 e3;obtain⟨_,_,_,hq3⟩:=S3.getL hs;obtain⟨_,_,ws3,hw3,rs3⟩:=hq3 _ (KD h1);refine⟨q,ws3,w,rfl,rfl,hw3,by rw[<- rs3.length];exact hz2 _ (KD h1),h _ (h3 d) F3 _ σ (S3.appL hs h1 (rs3.snoc r3))⟩
 .rcases yay hk hks with ⟨h1,h2⟩ | ⟨j,q,ds,h1,h2,h3⟩
  .have S4:=S1.keyL (k:=k) hs hk (zrn hk r1) hl;have eput:putK (kqs.map raw) k.key Cd=(kqs++[(k,l,[])]).map raw:=by rw[yc9 _ hn,LQ];rfl
   rw[eput];have hs4:Ah (Bu (dls K p (kqs++[(k,l,[])]))) (dls K p (kqs++[(k,l,[])])):=RJ hil;obtain⟨_,_,_,hq4⟩:=S4.getL hs4;have hj:AM (kqs++[(k,l,([]:Ac))]) kqs.length (k,l,[]):=by rw[SN (Vn _),yJ];rfl
   obtain⟨_,_,ws,hw,_⟩:=hq4 _ (KD hj);refine⟨.inl ⟨rfl,_,SqL.of hw⟩,a _ F1 _ σ _ S4 λw F3 H3 e3 r3=>?_⟩;have S5:=S4.ext2 e3;obtain⟨_,_,_,hq5⟩:=S5.getL hs4;obtain⟨_,_,ws5,hw5,rs5⟩:=hq5 _ (KD hj);have S6:=S5.appL hs4 hj (rs5.snoc r3);rw[Zyh] at S6;refine⟨l,ws5,w,rfl,rfl,hw5,by rw[<- rs5.length];show 0<_;rw[K3];decide,h _ ?_ F3 _ σ S6⟩;rw[h2,List.set_append_right _ _ Az,yJ,LQ];rfl
  .rw[h2] at hn;cases hn
end
section
variable{K:Kd}{G Hz L:Hp}{ss:List Sl}{i:Nat}{p:Addr}{kqs:KQ}{kvs:DD}{E:Ends}{tk tv:TE}{k d:D}
noncomputable def frzL(q:D×Addr×Ac):D×D:=(q.1,.lst B3)
theorem Sat.freezeL{F H:Hp}{σ:St}(S:Sat K G Hz L F H σ ss)(hs:Bl (dls K p kqs)):∃F',Sat K G Hz L F' H σ (Bu (dsl K p (kqs.map frzL))):=by
 obtain⟨e,hoff,hp,hq⟩:=S.getL hs;have hget:Ab (EV i) Ap:=by rw[Kz,e];rfl
 have hnd:(p::kqs.map (·.2.1)).Nodup:=S.nd i _ hs;have off:∀b,b∈kqs.map (·.2.1)->Hz b=none/\F b=none:=λb hb=>hoff b (AS hb);let F':Hp:=λb=>if b∈kqs.map (·.2.1) then H b else F b;have fin:∀b,b∈kqs.map (·.2.1)->F' b=H b:=λb hb=>if_pos hb;have fout:∀b,b∉kqs.map (·.2.1)->F' b=F b:=λb hb=>if_neg hb;have ff:Same F F':=λb o h=>by
  have:b∉kqs.map (·.2.1):=λhb=>by rw[(off b hb).2] at h;cases h
  rw[fout b this];exact h
 have fh:Same F' H:=λb o h=>by
  by_cases hb:b∈kqs.map (·.2.1);.rw[fin b hb] at h;exact h
  .rw[fout b hb] at h;exact S.ext.fh b o h
 have ex:Ext G Hz F' H:=⟨S.ext.gf.trans ff,fh,S.ext.hh,λb o h n=>by
  have:b∉kqs.map (·.2.1):=λhb=>by rw[(off b hb).1] at h;cases h
  rw[fout b this];exact S.ext.no b o h n⟩;obtain⟨p0,pf⟩:=hoff p KN;refine⟨F',S.put ex (S.fl.trans ff) rfl Cy C4 (by simp[dsl,Sl.ads]) (λj s' hj h q hq=>?_) λj s' hj h=>?_⟩
 .rw[hget];refine(Dq (λa ha=>by rw[K5.mp ha];exact⟨p0,by rw[fout p (M4.mp hnd).1];exact pf,_,hp,trivial⟩) (Ar hp ?_) (rT _ _ _));have key:∀zs:KQ,(∀z∈zs,z∈kqs)->Dks K F' (zs.map frzL) (zs.map raw):=by
   intro zs;induction zs with
   | nil=>intro _;exact .nil
   | cons z zs ih =>
    intro hz;obtain⟨z1,kr,vs,hv,r⟩:=hq z (hz z KN);exact .cons z1 (kr.mono ff) (Rep.lst (SqL.of ((fin z.2.1 (Kr.mpr (Dm z (hz z KN)))).trans hv)) (r.mono ff)) (ih λy hy=>hz y (AS hy))
  exact key kqs λz h=>h
 .have:q=p:=by simpa[dsl,Sl.ads] using hq
  subst this;exact S.ne i j _ s' CU hs h q KN
 .have dis:∀b∈s'.ads,b∉kqs.map (·.2.1):=λb hb hb2=>S.ne i j _ s' CU hs h b (AS hb2) hb;have own:∀{b:Addr} {xs:Ac},b∈s'.ads->OwnL K Hz F H b xs->OwnL K Hz F' H b xs:=λhb ⟨a1,a2,vs,a3,a4⟩=>⟨a1,by rw[fout _ (dis _ hb)];exact a2,vs,a3,a4.mono ff⟩;have ok:=S.ok j s' h;cases s' with
  | un=>trivial
  | d x=>obtain⟨v,ev,r⟩:=ok;exact⟨v,ev,r.mono ff⟩
  | o b xs=>exact⟨ok.1,own (by simp[Sl.ads]) ok.2⟩
  | oo b zs =>
   obtain⟨a1,a2,a3,a4,a5⟩:=ok;exact⟨a1,a2,by rw[fout b (dis b (by simp[Sl.ads]))];exact a3,a4,λz hz=>own (by simp[Sl.ads];exact .inr ⟨_,hz⟩) (a5 z hz)⟩
  | g v as W =>
   obtain⟨a1,a2,a3,a4⟩:=ok;refine⟨a1,Eg,a4 _ _ _ _ ff Cy a3,a4⟩;obtain⟨b1,b2,b3⟩:=a2 b hb;exact⟨b1,by rw[fout b (dis b hb)];exact b2,b3⟩
theorem zmp{N:St->A2}(hs:Bl (dls K p kqs))(h:Bw K G L N (Bu (dsl K p (kqs.map frzL)))):Bw K G L N ss:=λF H σ S=>by
 obtain⟨F',S'⟩:=S.freezeL hs;exact h F' H σ S'
noncomputable def zp3:Ai->Hp->B9:=λxs H Q=>∃r d kvs,xs=[.ref r]/\Aw r (rZ r d)/\Aw d (.dK kvs) /\ ∀l,H l=none->Q Cd (BX H l (kvs.map (·.2)))
theorem zzj{tl:TE}{g:TG}{tb:TS}{α:Type}(enc:α->D)(xs:AK)(I:Nat->Aq Do)(a:Ay tl (E9 enc))(h0:I 0 ss)
  (hs:∀L' k x ss,Same L L'->AM xs k x->I k ss-> ∃ss',Tg K G Hz L' g (.tup [.int k,enc x]) ss ss' /\ ∀N,(∀ss,I (k+1) ss->Bw K G L' N ss)->Go K G Hz L' { E with nx:=N,ct:=N,bk:=E.nx } ss' tb)
  (hd:∀ss,I xs.length ss->Bw K G L E.nx ss):Bx K G L E (tFor (iEnL K (BV tl)) g tb):=λF H σ S =>
 Ec F H σ _ S (by
  obtain⟨p,vs,rfl,sq,rs⟩:=r1.of_lst;refine⟨p,rfl,⟨vs,SqL.same e1.fh sq⟩,?_⟩;refine(Ck (λi m σ' H'=>m=xs.length - i/\i<=xs.length/\At K G Hz F1 (I i) σ' H') ⟨_,rfl,BM,ss,F1,(Cg).raise,h0⟩);rintro i m σ' H' ⟨rfl,hi,ss1,F2,S2,h2⟩;have rp:As F2 (E9 enc) Ap:=r1.mono S2.fl;obtain⟨ws,sq2,rs2⟩:=rp.itl S2.ext.fh;have hlen:ws.length=xs.length:=by rw[<- rs2.length,Kg]
  by_cases hlt:i<xs.length
  .refine .inr ⟨⟨ws,EN ws i,sq2,Kv _⟩,λσ'' H''=>At K G Hz F1 (I (i+1)) σ'' H'',λσ'' H'' h=>(BH (xs.length - (i+1)) (by lia) hlt h),λx H'' y=>?_⟩;obtain⟨T0,us,rfl,hf,rfl,y⟩:=y;obtain⟨w,hx,rfl⟩:=y ws sq2;obtain⟨dx,hdx,rx⟩:=rs2.get hx;rw[KR,Kv hlt] at hdx;cases hdx;obtain⟨ss',tg,go⟩:=hs F1 i _ ss1 (S.fl.trans e1.gf) (Kv hlt) h2;have e3:Ext F2 H' (upd F2 T0 (.tup [Ca,w])) (upd H' T0 (.tup [Ca,w])):=(Ext.refl S2.ext.fh).newF hf;have rt:As (upd F2 T0 (.tup [Ca,w])) (.tup [Ca,enc xs[i]]) (.ref T0):=Rep.tupN (Ku) (Reps.cons Rep.int (Reps.cons (rx.mono e3.gf) Reps.nil));exact tg _ _ σ' _ _ (S2.ext2 e3) rt λσ3 S3=>go _ (λss h=>qN h) _ _ σ3 S3
  .have e:i=xs.length:=by lia
   subst e;exact .inl ⟨⟨ws,sq2,hlen⟩,hd ss1 h2 F2 H' σ' (S2.lower (S.fl.trans e1.gf))⟩)
theorem zjh{F:Hp}:∀{ns:Cb} {vs:Ai},AN F (ns.map D.int) vs->vs=Gb
 | [],vs,r=>by rw[PK,Reps] at r;exact r
 | n::ns,vs,r=>by
  rw[Kq,Reps] at r;obtain⟨x,r',rfl,r1,r2⟩:=r;rw[r1.of_int,zjh r2];rfl
end
end L2
namespace L2
open PySem PySem.W PyProof.Rows PySem.Spec PySem.Calls
noncomputable def ygp(K:Kd):Ai->Hp->B9:=λvs H Q=>∃(a:Addr) (ns:Cb),vs=[Av]/\A8 H a Gb/\Q (.int ns.sum) H
theorem zyz{X:Cx}(hc:Ex):DZ X "sum" (ygp X.K):=by
 intro pins s σ H vs us Q I r h;obtain⟨l,ns,rfl,sq,q⟩:=h;obtain⟨u,rfl,ru⟩:=Qc r;cases ru;obtain⟨its,rv,pl,hz⟩:=I.list sq;have hi:=zt9 rv;have hn:=hi.numsOf;obtain⟨xs,hx⟩:=hi.allInts.items;have hl:=pl.isList;rw[hx] at hl;refine sum_intListG D3 hl λh' tk t' hk=>⟨.int ns.sum,H,I.kept (t':=tk) hk,(BG t'),q⟩;have h2:numsOf its=numsOf (intItems xs).toList:=by rw[<- hx]
 rw[hn,nums_intItems] at h2;rw[preSum_eq,Xa (by simp),h2]
section
variable{K:Kd}{G Hz L:Hp}{ss:List Sl}{ta:TE}
theorem yft{ns:Cb}(a:EvL K G Hz L ss ta FF):Ay (tCB (ygp K) (BV ta)) (.int ns.sum):=λF H σ Q S k =>
 a F H σ _ S λp vs F' H' e sq rs=>by
  have ev:=zjh rs;subst ev;exact(BH p ns sq (k _ _ _ e Rep.int))
end
end L2
namespace L2
open PySem PySem.Spec PyProof.Rows
noncomputable def Itz(K:Kd)(a b:Addr):It :=
  ⟨λi H=>∃xs ys x y,A8 H a xs/\A8 H b ys/\Ah xs x/\Ah ys y,
   λi H x H'=>∃T0 vs,x= .ref T0/\H T0=none/\H'=AX T0 (.tup vs) /\ ∀xs ys,A8 H a xs->A8 H b ys-> ∃u v,Ah xs u/\Ah ys v/\vs=[u,v],
   λi H=>∃xs ys,A8 H a xs/\A8 H b ys/\min xs.length ys.length=i⟩
theorem yb1{P:Ko}{w:Km}{K:Kd}{elts:List Expr}{kk:Nat}{tp:Pos}(z TI TO i1 i2 a b:Addr)(D0:ZipApart z TI TO i1 i2 a b) :
  Turn P w K (.Tuple elts kk tp) (Itz K a b) [z,TI,TO,i1,i2] z (λi h=>IsZip h z TI TO .none/\IsPair h TI (.ref i1) (.ref i2)/\(∃c d,IsPair h TO c d)/\h.IsListIter i1 a i/\h.IsListIter i2 b i) where
 mem:=by simp
 obj:=λi h st c hc=>by
  obtain⟨s1,s2,⟨c1,d1,s3⟩,⟨o4,s4,_,e4⟩,⟨o5,s5,_,e5⟩⟩:=st;simp only[KH,OD,or_false] at hc;rcases hc with rfl | rfl | rfl | rfl | rfl;.exact(Ar s1 (λv q=>by cases q))
  .exact(Ar s2 (λv q=>by cases q))
  .exact(Ar s3 (λv q=>by cases q))
  .exact⟨o4,s4,λv q=>by rw[e4] at q;cases q⟩
  .exact⟨o5,s5,λv q=>by rw[e5] at q;cases q⟩
 keep:=λi h h' st k=>by
  obtain⟨s1,s2,⟨c1,d1,s3⟩,s4,s5⟩:=st;exact⟨Eu z _ s1,Eu TI _ s2,⟨c1,d1,Eu TO _ s3⟩,s4.at λo x=>Eu i1 o x,s5.at λo x=>Eu i2 o x⟩
 item:=by
  intro X hP hw hK hc i pins s σ H E I hf st hg;subst hP hw hK;obtain⟨xs,ys,x,y,hq,hr,hx,hy⟩:=hg;obtain⟨its,rv,p,hz⟩:=EL;obtain⟨jts,rv2,p2,hz2⟩:=I.list hr;obtain⟨u,hu,ru⟩:=rv.get hx;obtain⟨u2,hu2,ru2⟩:=rv2.get hy;have hil:i<its.length:=(BS hu);have hil2:i<jts.length:=(BS hu2);have W0:=Zxh (prog:=X.prog) (w:=X.w) (A:=X.A) (show X.A.handled=none from D3) z TI TO i1 i2 a b D0 its.toArray jts.toArray;obtain⟨s1,s2,s3,s4,s5⟩:=st;refine W0.item i s _ _ (by simp;lia) ⟨s1,s2,s3,s4,s5,p.isList,p2.isList⟩ λT0 vals h1 tk hp hle ht mid kk=>?_;obtain⟨v,v2,hv,hv2,rfl⟩:=hp;have hv:Ah its v:=by simpa using hv
  have hv2:Ah jts v2:=by simpa using hv2
  rw[hu] at hv;cases hv;rw[hu2] at hv2;cases hv2;have fresh:H T0=none:=I.hok.fresh hle;have hfw:∀c∈[z,TO,i1,i2],D7 X H c:=λc hc=>hf c (by simp only[KH,OD,or_false] at hc ⊢;rcases hc with h | h | h | h <;> simp[h]);have I1:Ce (AX T0 (.tup [x,y])) { s with heap:=h1,toks:=tk }:=I.turnsT (wr:=[z,TO,i1,i2]) hfw kk hle ht (.cons ru (.cons ru2 .nil)) (by rw[K3];simp);refine(By (.ref T0) (W0.go elts _ tp i T0 _ _ _ mid λh2 st2 k2=>?_));have hlt:∀c∈[z,TI,TO,i1,i2],c≠T0:=λc hc q=>by
   have old:∃o,AI c:=by
    obtain⟨c1,d1,s3⟩:=s3;obtain⟨o4,s4,_⟩:=s4;obtain⟨o5,s5,_⟩:=s5;simp only[KH,OD,or_false] at hc;rcases hc with rfl | rfl | rfl | rfl | rfl;.exact(Bb s1)
    .exact(Bb s2)
    .exact(Bb s3)
    .exact(Bb s4)
    .exact(Bb s5)
   obtain⟨o,ho⟩:=old;exact Fl (Mm (Ld ho) (q ▸ hle)) _
  have hf1:∀c∈[z,TO,i1,i2],D7 X (AX T0 (.tup [x,y])) c:=λc hc=>⟨by rw[Kh (hlt c (by simp only[KH,OD,or_false] at hc ⊢;rcases hc with h | h | h | h <;> simp[h]))];exact(hfw c hc).1,(hfw c hc).2⟩;exact⟨.ref T0,_,I1.turns (t':=tk) hf1 k2,rfl,⟨T0,_,rfl,fresh,rfl,λys1 ys2 g1 g2=>⟨x,y,by rw[I.list_inj g1 hq];exact hx,by rw[I.list_inj g2 hr];exact hy,rfl⟩⟩,⟨st2.1,st2.2.1,st2.2.2.1,st2.2.2.2.1,st2.2.2.2.2.1⟩,λc hc=>by rw[Kh (hlt c hc)];exact(hf c hc).1⟩
 done:=by
  intro X hP hw hK hc i pins s σ H E I hf st hg;subst hP hw hK;obtain⟨xs,ys,hq,hr,hx⟩:=hg;obtain⟨its,rv,p,hz⟩:=EL;obtain⟨jts,rv2,p2,hz2⟩:=I.list hr;have hl:=rv.length;have hl2:=rv2.length;have W0:=Zxh (prog:=X.prog) (w:=X.w) (A:=X.A) (show X.A.handled=none from D3) z TI TO i1 i2 a b D0 its.toArray jts.toArray;have hs:min its.toArray.size jts.toArray.size=i:=by simp;lia
  rw[hs] at W0;obtain⟨s1,s2,s3,s4,s5⟩:=st;have hfw:∀c∈[z,TO,i1,i2],D7 X H c:=λc hc=>hf c (by simp only[KH,OD,or_false] at hc ⊢;rcases hc with h | h | h | h <;> simp[h]);exact W0.done s _ _ ⟨s1,s2,s3,s4,s5,p.isList,p2.isList⟩ λh1 tk kk=>(CW (I.turns (wr:=[z,TO,i1,i2]) hfw kk))
 self:=λA i s Q E st h=>Zys st.1 h
section
variable{X:Cx}{e:Expr}{ta:TA}{elts:List Expr}{kk:Nat}{tp p pos:Pos}
noncomputable def iZip(K:Kd)(ta:TA):TI:=λσ H R=>ta σ H λvs H1=>∃a b,vs=[Av,Cs]/\(∃xs,A8 H1 a xs)/\(∃ys,A8 H1 b ys)/\R (Itz K a b) H1
theorem zsa{e2:Expr}(hg:Gl X "zip")(hm:X.mg "zip" = none)(hA:PA X [e,e2] ta)(hs:CA [e,e2]=(D4 e)::CA [e2]:=by rfl)(hp:AL ((DT pos [e2]).any (·.1)):=by rfl) :
  PI X (.Tuple elts kk tp) (Ey "zip" p [e,e2] pos) (iZip X.K ta):=by
 intro pins s σ H R I h;refine Call_ (Uy I hg hm Zv3 (Xi (thn (hA pos pins s σ H _ I h) λus s1 hz9=>?_) hs hp));obtain⟨vs,H1,I1,r1,q1⟩:=hz9;obtain⟨a,b,rfl,⟨xs,hq⟩,⟨ys,hr⟩,q⟩:=q1;obtain⟨u,u2,rfl,ru,ru2⟩:=Qd r1;cases ru;cases ru2;obtain⟨its,rv,p,hz⟩:=I1.list hq;obtain⟨jts,rv2,p2,hz2⟩:=I1.list hr;refine call_zip_2 p.isList p2.isList λh1 hzp hTI hTO hi1 hi2 hsz hk=>?_;have I2:Ce H1 { s1 with heap:=h1 }:=I1.kept (t':=s1.toks) hk;refine Zys hzp ?_;have hlt:a<s1.heap.objs.size:=by obtain⟨o,ho,_⟩:=p.isList;exact Ld ho
 have hlt2:b<s1.heap.objs.size:=by obtain⟨o,ho,_⟩:=p2.isList;exact Ld ho
 have ap:=zipApart_new hlt hlt2;refine⟨Gk 4,[Gk 4,Gk 2,Gk 3,s1.heap.objs.size,Gk 1],_,_,H1,rfl,I2,yb1 _ _ _ _ _ a b ap,⟨hzp,hTI,(Ar _ hTO),hi1,hi2⟩,λc hc=>?_,q⟩;have hcs:s1.heap.objs.size<=c:=by
  simp only[KH,OD,or_false] at hc;rcases hc with rfl | rfl | rfl | rfl | rfl <;> first | exact Az | exact Zwi _ _
 exact I1.fpOk hcs (I1.hok.fresh hcs)
end
open AutoSeq1 (wpAny_loadPart')
end L2
namespace L2
open PySem PySem.Spec PyProof.Rows PySem.Builtin PySem.Builtin.Str
section
variable{K:Kd}{G Hz L:Hp}{ss:List Sl}{ta tb tc t t1 t2 te:TE}{ds:List D}{E:Ends}
theorem yi7{tl tm:TE}{g:TG}{tb:TS}{α β:Type}(enc:α->D)(enc2:β->D)(xs:AK)(ys:List β)(I:Nat->Aq Do)(a:Ay tl (E9 enc))(b:Ay tm (.lst (ys.map enc2)))(hxy:xs.length=ys.length)(h0:I 0 ss)
  (hs:∀L' k x y ss,Same L L'->AM xs k x->AM ys k y->I k ss-> ∃ss',Tg K G Hz L' g (.tup [enc x,enc2 y]) ss ss' /\ ∀N,(∀ss,I (k+1) ss->Bw K G L' N ss)->Go K G Hz L' { E with nx:=N,ct:=N,bk:=E.nx } ss' tb)
  (hd:∀ss,I xs.length ss->Bw K G L E.nx ss):Bx K G L E (tFor (iZip K (Ol tl (BV tm))) g tb):=λF H σ S =>
 a F H σ _ S λv F0 H0 e0 r0=>b F0 H0 σ _ (S.ext2 e0) λv2 F1 H1 e1 r2=>by
  have r1:=r0.mono e1.gf;obtain⟨p,vs,rfl,sq,rs⟩:=r1.of_lst;obtain⟨p2,vs2,rfl,sqb,rsb⟩:=r2.of_lst;refine⟨p,p2,rfl,⟨vs,SqL.same e1.fh sq⟩,⟨vs2,SqL.same e1.fh sqb⟩,?_⟩;have S1:=(S.ext2 e0).ext2 e1;have hLF:Same L F1:=(S.fl.trans e0.gf).trans e1.gf;refine(Ck (λi m σ' H'=>m=xs.length - i/\i<=xs.length/\At K G Hz F1 (I i) σ' H') ⟨_,rfl,BM,ss,F1,S1.raise,h0⟩);rintro i m σ' H' ⟨rfl,hi,ss1,F2,S2,h2⟩;have rp:As F2 (E9 enc) Ap:=r1.mono S2.fl;have rp2:As F2 (.lst (ys.map enc2)) (.ref p2):=r2.mono S2.fl;obtain⟨ws,sq2,rs2⟩:=rp.itl S2.ext.fh;obtain⟨ws2,sq22,rs22⟩:=rp2.itl S2.ext.fh;have hlen:ws.length=xs.length:=by rw[<- rs2.length,Kg]
  have hlen2:ws2.length=ys.length:=by rw[<- rs22.length,Kg]
  by_cases hlt:i<xs.length
  .refine .inr ⟨⟨ws,ws2,EN ws i,EN ws2 i,sq2,sq22,Kv _,Kv _⟩,λσ'' H''=>At K G Hz F1 (I (i+1)) σ'' H'',λσ'' H'' h=>(BH (xs.length - (i+1)) (by lia) hlt h),λx H'' y=>?_⟩;obtain⟨T0,us,rfl,hf,rfl,y⟩:=y;obtain⟨w,w2,hx,hx2,rfl⟩:=y ws ws2 sq2 sq22;obtain⟨dx,hdx,rx⟩:=rs2.get hx;obtain⟨dx2,hdx2,rx2⟩:=rs22.get hx2;rw[KR,Kv hlt] at hdx;rw[KR,Kv (by lia)] at hdx2;cases hdx;cases hdx2;obtain⟨ss',tg,go⟩:=hs F1 i _ _ ss1 hLF (Kv hlt) (Kv (by lia)) h2;have e3:Ext F2 H' (upd F2 T0 (.tup [w,w2])) (upd H' T0 (.tup [w,w2])):=(Ext.refl S2.ext.fh).newF hf;have rt:As (upd F2 T0 (.tup [w,w2])) (.tup [enc xs[i],enc2 (EN ys i)]) (.ref T0):=Rep.tupN (Ku) (Reps.cons (rx.mono e3.gf) (Reps.cons (rx2.mono e3.gf) Reps.nil));exact tg _ _ σ' _ _ (S2.ext2 e3) rt λσ3 S3=>go _ (λss h=>qN h) _ _ σ3 S3
  .have e:i=xs.length:=by lia
   subst e;exact .inl ⟨⟨ws,ws2,sq2,sq22,by lia⟩,hd ss1 h2 F2 H' σ' (S2.lower hLF)⟩
end
noncomputable def SpGO{α:Type}(K:Kd)(pre:α->Aq Ac)(res:α->Ac):Sp:=λvs H Q _=>∃(G:Hp) (ds:Ac) (x:α),Same G H/\Bc G vs/\pre x ds /\
 ∀p ws G' H',CL G H G'->H p=none->G' p=none->Ab (H' p) (.lst ws)->AN G' (res x) ws->Q Ap H'
section
variable{α:Type}{K:Kd}{H:Hp}{vs:List V}{Q:VK}{X:XK}{N:List Str}{t:TS}{pre:α->List D->Prop}{res:α->List D}
theorem yh1(h:SpGO K pre res vs H Q X)(hN:FQ)(body:∀G ds x,pre x ds->RtO K G H Q (res x)->Go K G H G Cv (DY ds) t):t Cv (Em N) H:=by
 obtain⟨G,ds,x,sm,r,hp,q⟩:=h;exact body G ds x hp (λp ws F H' e h1 h2 h3 h4=>q p ws F H' e h1 h2 h3 h4) G H _ (Ro sm r hN)
theorem zs3{n:Nat}(hpre:∀x ds,pre x ds->DJ n)(h:SpGO K pre res vs H Q X):vs.length=n:=by
 obtain⟨G,ds,x,sm,r,hp,q⟩:=h;rw[<- r.length];exact hpre x ds hp
end
section
variable{α:Type}{K:Kd}{G Hz L:Hp}{ss:List Sl}{t:TA}{ds:List D}{E:XK}{pre:α->List D->Prop}{res:α->List D}
theorem zjc(x:α)(a:EvAF K G Hz L ss t ds)(hp:pre x ds):EvO K G Hz L ss (Qv (SpGO K pre res) [] E t) (res x):=λF H σ Q S q =>
 Eo F H σ _ S ⟨F1,ds,x,e1.fh,by rw[LR];exact r1,hp,λp ws G' H' e2 h1 h2 h3 r=>q _ _ _ _ Cf (e1.hh.free h1) h2 h3 r⟩
end
noncomputable def EvE(K:Kd)(G Hz L:Hp)(ss:Do)(te:TE)(R:Aq D):Prop:=∀F H σ Q,Sat K G Hz L F H σ ss->(∀d v F' H',R d->CL F H F'->As F' d v->Q v H')->te σ H Q
section
variable{K:Kd}{G Hz L:Hp}{ss:List Sl}{t:TA}{te:TE}{d:D}{ds:List D}{D0:Ends}{E:XK}{pre:List D->Prop}{R:List D->D->Prop}{S1:D->Prop}{S2:List D->Prop}
theorem yb9(a:EvAF K G Hz L ss t ds)(hp:B0):EvE K G Hz L ss (Qv (SpRD K pre R) [] E t) (R ds):=λF H σ Q S q =>
 Eo F H σ _ S ⟨F1,ds,e1.fh,by rw[LR];exact r1,hp,λr hR v G' H' e2 rv=>q r v G' H' hR Cf rv⟩
end
end L2
namespace L2
open PySem PySem.W PySem.Spec PyProof.Rows
structure ITell(K:Kd)(C:Addr):Prop where
 ha:findIn K (.ref C) "__class__" = some (some (.builtin "object.__class__"))
 hn:specialIn K (.builtin "object.__class__") "__get__" = some (some (.builtin "getset_descriptor.__get__"))
 tk:takesIn K (.builtin "object.__class__")=some true
 hm:mroIn K C (.type "object")=some true
noncomputable def isl(x C dx:Addr)(fs:Bf V):Sl:=.g BB [] λF _=>Ab (F x) (Cu dx fs)/\Ab (F dx) (.own x)
theorem ydt(x C dx:Addr)(fs:Bf V):Stab [] λF _=>Ab (F x) (Cu dx fs)/\Ab (F dx) (.own x):=λF1 H1 F2 H2 sf _ h=>⟨sf _ _ h.1,sf _ _ h.2⟩
noncomputable def SpI(K:Kd)(C:Addr)(pre:Bf V->Aq Ac)(res:Bf V->Ac->D):Sp:=λvs H Q _=>∃G ds x dx fs ws,Same G H/\vs= BB::ws/\Ab (G x) (Cu dx fs)/\Ab (G dx) (.own x)/\Bc G ws/\pre fs ds /\
 ∀v G' H',CL G H G'->As G' (res fs ds) v->Q v H'
noncomputable def zzu(C:Addr)(n1 n2:Str):Sp:=λvs H Q _=>∃(x dx:Addr) (u v:V),vs=[BB,u,v]/\Aw x (Cu dx [])/\Aw dx (.own x)/\GJ (AX x (Cu dx [(n1,u),(n2,v)]))
section
variable{K:Kd}{G Hz L F H:Hp}{ss:List Sl}{σ:St}{x C dx:Addr}{fs:List (Str×V)}{ds:List D}{ws:List V}
theorem Sat.cons0{s:Sl}{ov:Ek}(S:Sat K G Hz L F H σ ss)(h:SlOk K Hz F H ov s)(ha:s.ads=[]):Sat K G Hz L F H (ov::σ) (s::ss):=by
 refine⟨S.ext,S.fl,by simp[S.len],λi t ht=>?_,λi t ht=>?_,λi j t u hij ht hu p hp hq=>?_⟩
 .cases i with
  | zero=>cases ht;exact h
  | succ i=>exact S.ok i t ht
 .cases i with
  | zero=>cases ht;rw[ha];exact RQ
  | succ i=>exact S.nd i t ht
 .cases i with
  | zero=>cases ht;rw[ha] at hp;cases hp
  | succ i =>
   cases j with
   | zero=>cases hu;rw[ha] at hq;cases hq
   | succ j=>exact S.ne i j t u (by lia) ht hu p hp hq
theorem zvt{N:AC}(sm:Same G H)(gx:Ab (G x) (Cu dx fs))(gd:Ab (G dx) (.own x))(r:Bc G ws)(hN:ws.length+1<=N.length):Sat K G H G G H (start N (BB::ws)) (isl x C dx fs::slots (N.length - 1) ds):=by
 cases N with
 | nil=>simp at hN
 | cons n N =>
  have S:=Ro (N:=N) sm r (by simpa using hN);have e:start (n::N) (BB::ws)=some BB::start N ws:=by
   unfold start;simp
  rw[e];have e2:(n::N).length - 1=N.length:=by simp
  rw[e2];exact S.cons0 (Dq (λa ha=>absurd ha OD) ⟨gx,gd⟩ (ydt x C dx fs)) rfl
variable{vs:List V}{Q:VK}{E:XK}{N:List Str}{t:TS}{pre:List (Str×V)->List D->Prop}{res:List (Str×V)->List D->D}
theorem YC{n:Nat}(hpre:∀fs ds,pre fs ds->ds.length+1=n)(h:SpI K C pre res vs H Q E):vs.length=n:=by
 obtain⟨G,ds,x,dx,fs,ws,sm,rfl,gx,gd,r,hp,q⟩:=h;rw[Mt,<- r.length];exact hpre fs ds hp
theorem zz3(h:SpI K C pre res vs H Q E)(hN:FQ)(body:∀G ds x dx fs,pre fs ds->RtD K G H Q (res fs ds)->Go K G H G Cv (isl x C dx fs::slots (N.length - 1) ds) t) :
  t Cv (Em N) H:=by
 obtain⟨G,ds,x,dx,fs,ws,sm,rfl,gx,gd,r,hp,q⟩:=h;exact body G ds x dx fs hp (λv F H' e r=>q v F H' e r) G H _ (zvt sm gx gd r (by simpa using hN))
end
section
variable{K:Kd}{G Hz L:Hp}{ss:List Sl}{i:Nat}{x C dx:Addr}{fs:List (Str×V)}{d:D}{ds:List D}{t:TA}{E:XK}{D0:Ends}{pre:List (Str×V)->List D->Prop}{res:List (Str×V)->List D->D}
theorem Sat.getI{F H:Hp}{σ:St}(S:Sat K G Hz L F H σ ss)(hs:Bl (isl x C dx fs)):D5 σ BB/\Ab (F x) (Cu dx fs)/\Ab (F dx) (.own x):=by
 obtain⟨v,e,ew,ha,hw,st⟩:=Fj hs;cases ew;exact⟨e,hw⟩
theorem yi6{f:Str}{v:V}(hs:Bl (isl x C dx fs))(c:Cls K C)(n:Ov K C f)(l:Ab (fs.lookup f) v)(r:∀F,As F d v):Ay (tFld K (tVar i) f) d:=λF H σ Q S q=>by
 obtain⟨e,fx,fd⟩:=S.getI hs;exact⟨_,e,x,C,dx,fs,v,rfl,S.ext.fh _ _ fx,c,n,l,q _ F H DA (r F)⟩
theorem ycy{m:Str}(hs:Bl (isl x C dx fs))(l:fs.lookup m=none)(a:EvAF K G Hz L ss t ds)(hp:pre fs ds):Ay (yji C m (SpI K C pre res) [] E (tVar i) t) (res fs ds):=λF H σ Q S q=>by
 obtain⟨e,fx,fd⟩:=S.getI hs;refine⟨_,e,x,dx,fs,rfl,S.ext.fh _ _ fx,l,Eo F H σ _ S ⟨F1,ds,x,dx,fs,vs,e1.fh,by rw[LR],e1.gf _ _ fx,e1.gf _ _ fd,r1,hp,λv G' H' e2 r=>q v G' H' Cf r⟩⟩
theorem upd2{H:Hp}{a:Addr}{o u:HO}:upd (AX a o) a u=AX a u:=by
 funext b;by_cases h:b=a;.subst h;rw[Ku,Ku]
 .rw[Kh h,Kh h,Kh h]
end
section
variable{K:Kd}{F H:Hp}
theorem yka{k:D}{q:Key}(r:As F k (kV q)):El/\k.key=q:=by
 cases q with
 | inl i =>
  have r:As F k (V.int i):=r;cases k <;> simp[Rep] at r;subst r;exact De
 | inr x =>
  have r:As F k (V.str x):=r;cases k <;> simp[Rep] at r;exact(CW (by rw[r.1];rfl))
theorem yef:∀{kv:AU Key} {ks vs:Ac},AN F ks (kv.map λq=>kV q.1)->AN F vs (kv.map λq=>q.2)->Dks K F (ks.zip vs) kv
 | [],ks,vs,r1,r2=>by
  cases ks with
  | nil=>exact .nil
  | cons k ks=>rw[Reps] at r1;obtain⟨_,_,e,_⟩:=r1;cases e
 | (q,v)::kv,ks,vs,r1,r2=>by
  cases ks with
  | nil=>rw[Reps] at r1;cases r1
  | cons k ks =>
   cases vs with
   | nil=>rw[Reps] at r2;cases r2
   | cons d vs =>
    rw[Reps] at r1 r2;obtain⟨x,r,e,a,b⟩:=r1;cases e;obtain⟨x,r,e,a2,b2⟩:=r2;cases e;obtain⟨h1,rfl⟩:=yka a;exact .cons h1 a a2 (yef b b2)
theorem Dks.reps{kvs:DD}{xs:AU Key}(h:Dks K F kvs xs):AN F (kvs.map (·.1)) (xs.map λq=>kV q.1)/\AN F (kvs.map (·.2)) (xs.map λq=>q.2):=by
 induction h with
 | nil=>exact⟨Reps.nil,Reps.nil⟩
 | cons hk hr r t ih=>exact⟨Reps.cons hr ih.1,Reps.cons r ih.2⟩
end
noncomputable def D.dic(kvs:DD):D:=.dct (kvs.map (·.1)) (kvs.map (·.2))
theorem yfd(kvs:DD):(kvs.map (·.1)).zip (kvs.map (·.2))=kvs:=by
 induction kvs with
 | nil=>rfl
 | cons a l ih=>rw[Kq,Kq,Xb,ih]
theorem Rep.of_dic{K:Kd}{F:Hp}{kvs:DD}{v:V}(r:As F (D.dic kvs) v):∃p xs,v= Ap/\Ab (F p) (.dK xs)/\Dks K F kvs xs:=by
 obtain⟨p,kv,e,h,r1,r2⟩:=r.of_dct;have:=yef r1 r2;rw[yfd] at this;exact⟨p,kv,e,h,this⟩
section
variable{K:Kd}{G Hz L:Hp}{ss:List Sl}{i:Nat}{p:Addr}{kvs:DD}{E:Ends}{ty td tv tx:TE}{k d z:D}
theorem sG{N:St->A2}(hs:Bl (dsl K p kvs))(h:Bw K G L N (Bu (.d (D.dic kvs)))):Bw K G L N ss:=λF H σ S=>by
 obtain⟨e,h0,fp,xs,hp,dk⟩:=S.getM hs;have hget:Ab (EV i) Ap:=by rw[Kz,e];rfl
 have dk2:=dk.mono (Same.upd (o:=.dK xs) fp);obtain⟨r1,r2⟩:=dk2.reps;exact h _ H σ (S.put (S.ext.freeze fp h0 hp) (S.fl.trans (Same.upd fp)) rfl Cy (λ_=>by rw[hget];exact⟨_,rfl,Rep.dct Ku r1 r2⟩) (by simp[Sl.ads]) GS
  λj s' hj h=>(S.ok j s' h).frz fp (S.ne i j _ s' CU hs h p (by simp[dsl,Sl.ads])))
theorem Wo(a:Ay td (D.dic kvs))(b:A1 ty k)(hk:El)(hv:Ab (DL k) d):Ay (rC td ty) d:=λF H σ Q S q =>
 a F H σ _ S λx F1 H1 e1 r1=>b F1 H1 σ _ Cg λv F2 H2 e2 r2=>by
  obtain⟨p,xs,rfl,hp,dk⟩:=r1.of_dic;have dk2:=dk.mono e2.gf;rcases dk2.val hk with ⟨h1,_⟩ | ⟨d',w,h1,h2,rw'⟩;.rw[h1] at hv;cases hv
  .rw[h1] at hv;cases hv;refine(BH p w ?_ (q w F2 H2 Cf rw'));rw[Su hk r2,<- h2];exact DGet.k (e2.fh _ _ (e2.gf _ _ hp))
theorem zv9{F:Hp}{xs:AU Key}(dk:Dks K F kvs xs)(hk:El):(Fq xs).isSome=(DL k).isSome:=by
 rcases dk.val hk with ⟨h1,h2⟩ | ⟨d',w,h1,h2,_⟩ <;> rw[h1,h2] <;> rfl
theorem zvs(a:Ay td (D.dic kvs))(b:A1 ty k)(hk:El):Cc (rD ty td) (!(DL k).isSome):=λF H σ Q S q =>
 b F H σ _ S λv F1 H1 e1 r1=>a F1 H1 σ _ Cg λx F2 H2 e2 r2=>by
  obtain⟨p,xs,rfl,hp,dk⟩:=r2.of_dic;refine(BH p (Fq xs) (by rw[Su hk r1];exact DGet.k (e2.fh _ _ hp)) (q _ F2 H2 Cf ?_));rw[zv9 dk hk];exact Rep.bl
theorem zlw(a:Ay td (D.dic kvs))(b:A1 ty k)(c:Ay tx z)(hk:El):Ay (zw9 td ty tx) ((DL k).getD z):=λF H σ Q S q =>
 a F H σ _ S λx F1 H1 e1 r1=>by
  obtain⟨p,xs,rfl,hp,dk⟩:=r1.of_dic;refine⟨p,rfl,.inl ⟨xs,.inl (e1.fh _ _ hp)⟩,b F1 H1 σ _ Cg λv F2 H2 e2 r2=>c F2 H2 σ _ ((Cg).ext2 e2) λw F3 H3 e3 r3=>?_⟩;have e:=(Cf).trans e3;have dk2:=dk.mono (e2.gf.trans e3.gf);refine⟨Fq xs,by rw[Su hk r2];exact DGet.k (e3.fh _ _ (e3.gf _ _ (e2.gf _ _ hp))),q _ F3 H3 e ?_⟩;rcases dk2.val hk with ⟨h1,h2⟩ | ⟨d',u,h1,h2,ru⟩ <;> rw[h1,h2];.exact r3
  .exact ru
end
end L2
namespace L2
open PySem PySem.Spec PyProof.Rows
end L2
namespace L2
open PySem PySem.W PySem.Spec PyProof.Rows
section
variable{P:Ko}{w:Km}{fs:List Addr}{H H':Hp}{h h2 h3 B:Heap}
theorem Un.fly(U:Un fs [] H H' h h2)(st2:B.StaysIn h2)(st3:B.StaysIn h3)(c1:∀b o,AE b o->b∉fs-> ∃o',Ab (B.get? b) o')(up:h2.UpToSlots h3)
  (ff:∀b∈fs,∃o,Ab (h2.get? b) o /\ ∀vs,o.data ≠ .fields vs):Un fs [] H H' h h3 where
 keep:=λb o e n hb hx=>by
  obtain⟨o',q⟩:=c1 b o e hb;have q1:=U.keep b o e n hb hx;have q2:=st2 b o' q;rw[q1] at q2;cases q2;exact st3 b _ q
 slot:=λb o e n hb hx=>by
  obtain⟨sl,q⟩:=U.slot b o e n hb hx;obtain⟨o2,q2,nf⟩:=ff b hb;rw[q] at q2;cases q2;obtain⟨sl',q3⟩:=up b _ q nf;exact⟨sl',q3⟩
 free:=U.free
 there:=λb o e hx=>by
  by_cases hb:b∈fs
  .obtain⟨o2,q2,nf⟩:=ff b hb;obtain⟨sl,q3⟩:=up b _ q2 nf;exact(Bb q3)
  .obtain⟨o',q⟩:=c1 b o e hb;exact⟨o',st3 b _ q⟩
 tups:=U.tups
 frzs:=U.frzs
 tbls:=U.tbls
theorem HOk.fly(hok:HOk P w H h2)(c2:∀b u,Aw b u-> ∃o',Ab (B.get? b) o')(st2:B.StaysIn h2)(st3:B.StaysIn h3):HOk P w H h3:=λb u e=>by
 refine(hok b u e).stay (λc v hc q=>?_) (λ_ q=>q) λ_ _ q=>q;obtain⟨o',q'⟩:∃o',Ab (B.get? c) o':=by
  rcases hc with rfl | hc;.exact c2 c _ e
  .exact c2 c _ hc
 have:=st2 c o' q';rw[q] at this;cases this;exact st3 c _ q'
end
section
variable{P:Ko}{w:Km}{K:Kd}{mg:Str->Option Ka}{base:Heap}{N:List Str}{qual:Str}{scope:Scope}{f:Addr}{cd:Ka}{A:Ks}{outer:List Env}{s:Ke}{H:Hp}{E:XK}
noncomputable def vmro:Am:=[.type "ValueError", .type "Exception", .type "BaseException", .type "object"]
theorem Lr.there{h:Heap}{a:Addr}{o:HO}(x:Lr P w H h a o):∃ob,AE a ob:=by
 cases o with
 | lst xs=>obtain⟨_,_,_,_,e⟩:=x;exact(Bb e)
 | tup xs=>obtain⟨_,_,_,ob,e,_⟩:=x;exact(Bb e)
 | dK kvs=>obtain⟨_,_,_,_,o,_,_,e,_⟩:=x;exact(Bb e)
 | dT kvs=>obtain⟨_,_,_,_,o,_,_,e,_⟩:=x;exact(Bb e)
 | set S n=>obtain⟨o,_,_,_,e,_⟩:=x;exact(Bb e)
 | ins C dx fs=>obtain⟨_,_,_,e,_⟩:=x;exact(Bb e)
 | own y=>obtain⟨_,e⟩:=x;exact(Bb e)
 | xd fs=>obtain⟨_,⟨_,_,_,e,_⟩,_⟩:=x;exact(Bb e)
 | rng lo hi=>obtain⟨_,_,_,e⟩:=x;exact(Bb e)
 | frz ob u=>obtain⟨e,_⟩:=x;exact(Bb e)
 | tbl ps=>exact(Bb x)
 | met f y=>exact(Bb x)
 | ext φ=>obtain⟨_,e,_⟩:=x;exact e
 | tab ps pos q=>obtain⟨_,e,_⟩:=x;exact(Bb e)
end
noncomputable abbrev Cx.inSuite(X:Cx)(x:Addr):Cx:={ X with A:=X.A.mark (some BB),calm:=false,xe:=D1 }
section
variable{X:Cx}{pins:List (Addr×Obj)}{σ:St}{H:Hp}{s:Ke}{x:Addr}
theorem Inv.inSuite(I:Ak)(x:Addr):Fh (X.inSuite x) σ H s :=
 ⟨⟨I.ok.mod,I.ok.kind,I.ok.glob,I.ok.blt,I.ok.above,I.ok.inj,I.ok.has,I.ok.cab,(λz=>by cases z),I.ok.frames,I.ok.stk,I.ok.exf,I.ok.bs,I.ok.bsz,I.ok.noex,I.ok.exfs,I.ok.funs,I.ok.frf⟩,I.os,I.bare,I.base,I.loc,I.cell,I.free,I.freeC,I.pin,I.hok,I.len⟩
theorem Inv.outSuite(ok:X.Ok)(I:Fh (X.inSuite x) σ H s):Ak:=⟨ok,I.os,I.bare,I.base,I.loc,I.cell,I.free,I.freeC,I.pin,I.hok,I.len⟩
theorem zx7{M:Nf}{A:Ks}{E:Ka->Af}{i:Nat}{n:Str}{v:V}{Q:Unit->Af}(I:Ak)(hN:X.N.Nodup)(hi:Ah X.N n)(hx:E4 n .local)(hv:D5 σ v)
  (h:∀s',Fh X (σ.set i none) H s'->Q () s'):Kw M A (unbindName X.env n) Q E s:=by
 obtain⟨m,hn,hl⟩:=id I.loc;have hcls:AL (X.env.scope.kind == .class||(X.env.scope.kind == .module&&X.env.locals != X.env.globals)):=by rw[I.ok.kind];rfl
 obtain⟨u,r,lk⟩:=hl i n v hi hv (.inl hx);have hm:Ab (m n) u:=by
  rcases lk with ⟨_,e⟩ | ⟨k,_⟩;.exact e
  .have k:E4 n .cell\/E4 n .free:=k;rw[hx] at k;rcases k with k | k <;> cases k
 refine wpAny_unbindName_local hx hn hm hcls λh' u' hn' hs=>?_;obtain⟨oL,_,_,hoL,_⟩:=id hn;have cne:=I.cne;have hiσ:i<σ.length:=by rw[I.len];exact(Mg.mp hi).1
 refine h _ ⟨I.ok,I.os,I.bare,⟨Gx,Gx,I.base.free,λb o e hx=>?_,I.base.tups,I.base.frzs,I.base.tbls⟩,(Ar hn' (λj y v' e1 e2 e3=>?_)),λy c e=>?_,I.free,I.freeC,λp hp=>?_,λb ob e=>?_,by simpa using I.len⟩;.exact Ed b (KY (Mm Bv I.ok.above)) (I.base.keep b o e n hb hx)
 .obtain⟨sl,e1⟩:=I.base.slot b o e n hb hx;exact⟨sl,Ed b (KY (Mm Bv I.ok.above)) e1⟩
 .obtain⟨o',e1⟩:=I.base.there b o e hx;exact⟨o',Ed b (KY (Mm Bv I.ok.above)) e1⟩
 .by_cases hj:j=i
  .subst hj;rw[RJ hiσ] at e2;cases e2
  .rw[Ug CU] at e2;obtain⟨u',r',q⟩:=hl j y v' e1 e2 e3;refine(Ck u' r');rcases q with ⟨k,e⟩ | ⟨k,c,e,z⟩
   .refine .inl (BG k);have:y≠n:=λe=>hj (znu hN e1 (e ▸ hi));simp[this,e]
   .exact .inr ⟨k,c,e,z.sameBut hs (cne y c e)⟩
 .obtain⟨w',z⟩:=I.cell y c e;exact⟨w',z.sameBut hs (cne y c e)⟩
 .obtain⟨e,n,ne,nf,d⟩:=I.pin p hp;exact⟨Ed p.1 ne e,n,ne,nf,d⟩
 .refine(I.hok b ob e).stay (λc w' hc q=>Ed c ?_ q) (λ_ q=>q) λ_ _ q=>q;rintro rfl;rcases hc with rfl | hc;.rw[I.free] at e;cases e
  .rw[I.free] at hc;cases hc
end
end L2
namespace L2
open PySem PySem.W PySem.Spec PyProof.Rows PySem.Calls Builtin Builtin.ObjectAttr Builtin.Getset_descriptor
structure XTell(K:Kd)(C:Addr):Prop where
 ga:findIn K (.ref C) "__getattribute__" = some (some (.builtin "BaseException.__getattribute__"))
 gt:findIn K (.ref C) "__getattr__" = some none
 mb:mroIn K C (.type "BaseException")=some true
 fc:findIn K (.ref C) "__class__" = some (some (.builtin "object.__class__"))
 sp:specialIn K (.builtin "object.__class__") "__get__" = some (some (.builtin "getset_descriptor.__get__"))
 tk:takesIn K (.builtin "object.__class__")=some true
 mo:mroIn K C (.type "object")=some true
 dc:hasDictIn K C=true
section
variable{K:Kd}{x C:Addr}
noncomputable def XAt(x C:Addr)(h:Heap):Prop:=∃o,AE x o/\o.cls= AG
theorem XAt.ty{M:Nf}{h:Heap}(p:XAt x C h):Looks M h (Uq BB) AG:=by
 obtain⟨o,ho,hc⟩:=p;rw[<- hc];exact(Looks.ld ho).andThen .now
theorem yg5{M:Nf}{h:Heap}(X:K.In h)(T:XTell K C):Looks M h (Zvn BB AG "__class__") (.bind GT (.builtin "object.__class__")) :=
 (looks_findIn X T.fc).andThen ((show Looks M h (Zvm (some (.builtin "object.__class__"))) (some GT) from looks_specialIn X T.sp).andThen
  ((show Looks M h (Zvo (some (.builtin "object.__class__")) (some GT)) (some (_,_)) from(looks_takesIn (M:=M) X T.tk).andThen .now).andThen (Looks.tag .now)))
section
variable{prog:Ko}{w:Km}{A:Ks}{s:Ke}
theorem ycx{R:Tj->Af}{tp:Ka}(X:K.In s.heap)(T:XTell K C)(p:XAt x C s.heap)(h:R (EY AG) s):Pr (B5 w) A (.call GT (Br [.builtin "object.__class__", BB,tp])) R s:=by
 obtain⟨hh,g,dr,t,os⟩:=s;have L0:=p.ty (M:=B5 w);have L1:=looks_mroIn (M:=B5 w) X T.mo;refine Xp KF.slot_gs.plain KF.entry_gs (KF.slot_gs.check _ _ _ _ _ _ _ _ KF.type_class (KF.args_gs _ _ _) (show AT _ _ _ _ _ from ?_));unfold Mu.«getset_descriptor.__get__» descrGet;rw[dga_obj];refine BD ?_;unfold descrGetter descrCheckInstance descrNameAndClass V1;simp only[KF.owner_class];repeat lk
 refine⟨oX _ (by decide +kernel),Qp KF.entry_class (show AT _ _ _ _ _ from ?_)⟩;unfold Mu.«object.__class__» shownTypeOf;repeat lk
 exact h
theorem zyc{E:Ka->Af}{Q:A4->Af}(X:K.In s.heap)(T:XTell K C)(p:XAt x C s.heap)(q:Q (some AG) (FZ s.toks 1)) :
  AH (getAttr? BB "__class__"):=by
 obtain⟨hh,g,d,t,os⟩:=s;have L0:=p.ty (M:=B5 w);have L1:=looks_findIn (M:=B5 w) X T.ga;have L2:=looks_findIn (M:=B5 w) X T.gt;have L3:=yg5 (x:=x) (M:=B5 w) X T;have L4:=looks_mroIn (M:=B5 w) X T.mb;have hbd:=pA.ga.bind BB;have hk:Cw (builtinKind "BaseException.__getattribute__") .slot:=by decide +kernel
 have hs:Cw (oH "BaseException.__getattribute__") ("BaseException", "__getattribute__"):=by decide +kernel
 unfold getAttr? getAttrBy? getAttrBy;refine Kc (wpAny_mkText (Kc (Xx (Nm (Kc (L0.at (Kc (L1.at ?_))))))));show AT _ (if (_&&_) then _ else _) _ _ _;rw[if_neg (by rw[Lk];intro z;exact absurd z.2 (by decide +kernel))];unfold Zzz;refine Kc ((show Looks _ _ (hookBefore AG) none from L2).at (Kc (Xx (Nm ?_))));unfold Zyw Yae;rw[if_neg (by intro z;cases z),hbd];refine BD (Te ?_);refine Xp pA.ga.plain Zym ?_;have hao:=Zzn BB (.str "__class__" t);simp only[zM,hk,hs];unfold V1;repeat lk
 refine wpAny_run (ycx (x:=x) X T p ?_);repeat lk
 exact q
end
theorem yb4(T:XTell K C):KitX K BB AG (XAt x C) where
 ty:=λ_ _ _ p=>p.ty
 it:=λ_ _ X _=>by
  obtain⟨cd,hc,_⟩:=any_some T.dc;unfold clsIn at hc;split at hc
  .rename_i ho;intro A' Q' E' s' k q;unfold isType loadHead;exact Kc (zT (k _ _ (X _ _ ho)) (Kf q))
  .cases hc
 ne:=λh tp dd its n sl X htp=>by
  obtain⟨cd,hc,_⟩:=any_some T.dc;refine Zvs.mpr λq=>?_;obtain rfl:C=tp:=Yaw (beq_iff_eq.mp q);unfold clsIn at hc;split at hc
  .rename_i ho;have z:=(X _ _ ho).symm.trans htp;cases z
  .cases hc
 ca:=λX p k=>zyc X T p k
end
end L2
namespace L2
open PySem PySem.W PyProof.Rows
noncomputable def EvR(K:Kd)(G Hz L:Hp)(ss:Do)(t:TE):Prop:=∀F H σ Q,Sat K G Hz L F H σ ss->t σ H Q
theorem bT{X:Cx}{st:Stmt}{t:TS}(h:PS X.nox st t):PS X st t:=λpins s σ H D I hw =>
 D2 (h pins s σ H D (I.wish _) hw) (λ_ _ q=>q.unwish) (Nb z)
end L2
namespace L2
open PySem PySem.W PySem.Spec PyProof.Rows
noncomputable abbrev QS:=Fi Ac
noncomputable def SpOO(K:Kd)(pre:Aq Ac)(res:Ac->List Ac):Sp:=λvs H Q _=>∃G ds,Same G H/\Bc G vs/\B0 /\ ∀p (qs:QS) G' H',CL G H G'->H p=none->G' p=none->Ab (H' p) (.lst (qs.map λq=>V.ref q.1))->(∀q∈qs,OwnL K H G' H' q.1 q.2)->(p::qs.map (·.1)).Nodup->qs.map (·.2)=res ds->Q Ap H'
noncomputable def RtOO(K:Kd)(G Hz:Hp)(rt:VK)(dss:List Ac):Prop:=∀p (qs:QS) F H,Ext G Hz F H->Hz p=none->F p=none->Ez p (qs.map λq=>V.ref q.1)->(∀q∈qs,OwnL K Hz F H q.1 q.2)->(p::qs.map (·.1)).Nodup->qs.map (·.2)=dss->rt Ap H
section
variable{K:Kd}{G Hz L:Hp}{ss:List Sl}{i:Nat}{p:Addr}{kqs:KQ}{kvs:DD}{qs:QS}{E:Ends}{D0:XK}{t:TA}{te ta td:TE}{d:D}{ds:List D}{dss:List (List D)}{pre:List D->Prop}{res:List D->List (List D)}
theorem zzo(a:EvAF K G Hz L ss t ds)(hp:B0):EvOO K G Hz L ss (Qv (SpOO K pre res) [] D0 t) (res ds):=λF H σ Q S q =>
 Eo F H σ _ S ⟨F1,ds,e1.fh,by rw[LR];exact r1,hp,λp qs G' H' e2 h1 h2 h3 hq hn hm=>q p qs G' H' Cf (e1.hh.free h1) h2 h3 (λz hz=>by
  obtain⟨z1,z2,z3⟩:=hq z hz;exact⟨e1.hh.free z1,z2,z3⟩) hn hm⟩
theorem yfr{vs:Ai}{H:Hp}{Q:VK}{X:XK}{N:AC}{ts:TS}(h:SpOO K pre res vs H Q X)(hN:FQ)(body:∀G ds,B0->RtOO K G H Q (res ds)->Go K G H G Cv (DY ds) ts):ts Cv (Em N) H:=by
 obtain⟨G,ds,sm,r,hp,q⟩:=h;exact body G ds hp (λp ws F H' e h1 h2 h3 h4 h5 h6=>q p ws F H' e h1 h2 h3 h4 h5 h6) G H _ (Ro sm r hN)
theorem zup{vs:Ai}{H:Hp}{Q:VK}{X:XK}{n:Nat}(hpre:∀ds,B0->DJ n)(h:SpOO K pre res vs H Q X):vs.length=n:=by
 obtain⟨G,ds,sm,r,hp,q⟩:=h;rw[<- r.length];exact hpre ds hp
theorem zvy(hs:Bl (dls K p kqs))(h:RtOO K G Hz E.rt (kqs.map (·.2.2))):Bx K G L E (tRet (tCB zp3 (BV (tBM0 K "dict" zxv (tVar i))))):=λF H σ S=>by
 obtain⟨e,hoff,hp,hq⟩:=S.getL hs;have hnd:(p::kqs.map (·.2.1)).Nodup:=S.nd i _ hs;refine⟨Ap,e,FC (.inl (CW (.inl (Bb hp)))),p,_,rfl,rfl,hp,λr hr=>?_⟩;have hpr:p≠r:=λz=>by rw[z,hr] at hp;cases hp
 refine⟨r,p,_,rfl,Ku,by rw[Kh hpr];exact hp,λl hl=>?_⟩;have hlr:l≠r:=λz=>by rw[z,Ku] at hl;cases hl
 have hl0:H l=none:=by rw[Kh hlr] at hl;exact hl
 refine h l (kqs.map λz=>(z.2.1,z.2.2)) F _ (S.ext.trans ((Ext.newO ((DA).newO hr) hl))) (S.ext.hh.free hl0) (S.ext.fh.free hl0) ?_ (λz hz=>?_) ?_ (by rw[Lf];rfl);.rw[Ku,Lf,Lf];rfl
 .obtain⟨y,hy,rfl⟩:=Kr.mp hz;obtain⟨_,_,vs,hv,rv⟩:=hq y hy;obtain⟨o1,o2⟩:=hoff y.2.1 (AS (Kr.mpr (Dm y hy)));have n1:y.2.1≠l:=λz=>by rw[z,hl0] at hv;cases hv
  have n2:y.2.1≠r:=λz=>by rw[z,hr] at hv;cases hv
  exact⟨o1,o2,vs,by rw[Kh n1,Kh n2];exact hv,rv⟩
 .rw[Lf];refine M4.mpr ⟨λhin=>?_,(M4.mp hnd).2⟩;obtain⟨y,hy,e2⟩:=Kr.mp hin;obtain⟨_,_,vs,hv,_⟩:=hq y hy;have e2:y.2.1=l:=e2;rw[e2,hl0] at hv;cases hv
mutual
noncomputable def D.nm:D->Bool
 | .lst _=>false
 | .dct ks vs=>D.nms ks&&D.nms vs
 | .dctT _ _=>false
 | .ins _ _ _=>false
 | .tup a=>D.nms a
 | _=>true
noncomputable def D.nms:Ac->Bool
 | []=>true
 | a::x=>a.nm&&D.nms x
end
noncomputable def cut(F:Hp)(as:Bp):Hp:=λb=>if b∈as then none else F b
end
noncomputable def sH:R2:=λx y H Q=>y= .non/\Q (.bl (! decide (x= .non))) H
theorem zrv{K:Kd}{H:Hp}{d:D}{x:V}(r:As H d x):(x= .non)↔d= .non:=by
 cases d with
 | non=>exact⟨λ_=>rfl,λ_=>r.of_non⟩
 | bl b=>rw[r.of_bl];exact⟨DW,DW⟩
 | int b=>rw[r.of_int];exact⟨DW,DW⟩
 | str b=>rw[r.of_str];exact⟨DW,DW⟩
 | lst b=>obtain⟨p,xs,rfl,_⟩:=r.of_lst;exact⟨DW,DW⟩
 | tup b=>obtain⟨p,xs,rfl,_⟩:=r.of_tup;exact⟨DW,DW⟩
 | dct a b=>obtain⟨p,xs,rfl,_⟩:=r.of_dct;exact⟨DW,DW⟩
 | dctT a b=>rw[Rep] at r;obtain⟨p,xs,rfl,_⟩:=r;exact⟨DW,DW⟩
 | ins a b c=>obtain⟨p,dx,fs,rfl,_⟩:=r.of_ins;exact⟨DW,DW⟩
section
variable{K:Kd}{G Hz L:Hp}{ss:List Sl}{i:Nat}{E:Ends}{te tk tv:TE}{k d:D}{c:TT}{tb:TS}
theorem sI(a:A1 te d):Cc (tOp sH te (tC .non)) (! decide (d= .non)):=λF H σ Q S q =>
 a F H σ _ S λx F1 H1 e1 r1=>(CW (by
  rw[decide_eq_decide.mpr (zrv r1)];exact q _ _ _ e1 Rep.bl))
theorem zsq(I:Nat->Aq Do)(m0:Nat)(h0:I m0 ss)
  (hs:∀m ss,I m ss-> ∃b,EvT K G Hz L ss c b/\(Aa b-> ∀N:St->A2,(∀m' ss,m'<m->I m' ss->Bw K G L N ss)->Bx K G L { E with nx:=N,ct:=N,bk:=E.nx } tb)/\(AL b->Bw K G L E.nx ss)):Bx K G L E (ye7 c tb):=λF H σ S =>
 ⟨λm σ' H'=>At K G Hz L (I m) σ' H',⟨m0,ss,F,S,h0⟩,λm σ' H' ⟨ss1,F1,S1,h1⟩=>by
  obtain⟨b,ev,ht,hf⟩:=hs m ss1 h1;refine ev F1 H' σ' _ S1 λF2 H2 e2=>?_;cases b with
  | true =>
   rw[BR];exact⟨λσ'' H''=>∃m',m'<m/\At K G Hz L (I m') σ'' H'',λσ'' H'' h=>h,ht rfl _ (λm' ss hm hI=>λF3 H3 σ3 S3=>⟨m',hm,ss,F3,S3,hI⟩) F2 H2 σ' (S1.ext2 e2)⟩
  | false =>
   rw[if_neg Mh];exact hf rfl F2 H2 σ' (S1.ext2 e2)⟩
theorem ybi(b:A1 tk k)(hk:El)(a:Ay tv d)(h:∀p,Bw K G L E.nx (Bu (dsl K p [(k,d)]))):Bx K G L E (tAsg (yja [(tk,tv)]) (Ob i)):=λF H σ S p hp=>by
 have e0:=(DA).newO (o:=.dK []) hp;refine b F _ σ _ (S.ext2 e0) λv F1 H1 e1 r1=>a F1 H1 σ _ ((S.ext2 e0).ext2 e1) λw F2 H2 e2 r2=>?_;have hp1:Ab (H1 p) (.dK []):=e1.hh p _ Ku;have hp2:Ab (H2 p) (.dK []):=e2.hh p _ hp1;have fp:F2 p=none:=by rw[e2.no p _ hp1 trivial,e1.no p _ Ku trivial];exact S.ext.fh.free hp
 refine⟨hp2,[(k.key,w)],by rw[Su hk r1];rfl,by simp,?_⟩;have e:Ext F H F2 (upd H2 p (.dK (Yt [] [(k.key,w)]))):=((e0.trans e1).trans e2).write fp hp;have S':=S.ext2 e;refine h p F2 _ _ (S'.put S'.ext S'.fl (by simp) (λj hj=>QM CU) (λhi=>?_) (by simp[dsl,Sl.ads]) (λj s' hj hs q hq=>?_) λj s' hj hs=>S'.ok j s' hs)
 .rw[GQ];exact(Dq (λa ha=>by rw[K5.mp ha];exact⟨S.ext.hh.free hp,fp,_,Ku,trivial⟩) ⟨[(k.key,w)],by rw[Ku];rfl,.cons hk (zrn hk r1) r2 .nil⟩ (rT K p _))
 .have:q=p:=by simpa[dsl,Sl.ads] using hq
  subst this;exact λhin=>(S.ok j s' hs).live hin hp
end
end L2
namespace L2
open PySem PySem.Spec PyProof.Rows
end L2
namespace L2
open PySem PySem.W PySem.Spec PyProof.Rows
structure CMeth(K:Kd)(C:Addr)(m:Str)(f:Addr):Prop where
 ga:specialIn K (.ref C) "__getattribute__" = some (some (.builtin "type.__getattribute__"))
 rd:readsIn K C (.type "type")=true
 fc:findCls K (.ref C) (.type "type") m=some (.val (.ref f))
 kp:keepIn K (.ref f)=true
theorem zuj:∀{a b:Ac},Aa (a.all D.isK)->Aa (b.all D.isK)->a.map D.key=b.map D.key->a=b
 | [],[],_,_,_=>rfl
 | [],_::_,_,_,h=>by cases h
 | _::_,[],_,_,h=>by cases h
 | x::a,y::b,ha,hb,h=>by
  rw[Xg,Lk] at ha hb;rw[Kq,Kq] at h;injection h with h1 h2;rw[bR ha.1 hb.1 h1,zuj ha.2 hb.2 h2]
theorem zox{a b:D}(ha:Aa a.isT)(hb:Aa b.isT)(h:a.tkey=b.tkey):a=b:=by
 cases a <;> simp only[D.isT] at ha <;> try (cases ha;done)
 cases b <;> simp only[D.isT] at hb <;> try (cases hb;done)
 rw[zuj ha hb h]
theorem bU{K:Kd}{H:Hp}:∀{l:Ac} {vs:Ai},Aa (l.all D.isK)->AN H l vs->vs=(l.map D.key).map kV
 | [],vs,_,r=>by rw[Reps] at r;subst r;rfl
 | d::l,vs,h,r=>by
  rw[Xg,Lk] at h;rw[Reps] at r;obtain⟨v,r',rfl,rv,r⟩:=r;rw[Kq,Kq,Su h.1 rv,bU h.2 r]
inductive Dkt(K:Kd)(F:Hp):DD->List (List Key×V)->Prop
 | nil:Dkt K F [] []
 | cons {k d:D} {v:V} {kvs:DD} {xs:List (List Key×V)} (hk:k.isT=true) (r:Rep K F d v) (t:Dkt K F kvs xs):Dkt K F ((k,d)::kvs) ((k.tkey,v)::xs)
section
variable{K:Kd}{F F':Hp}{kvs:DD}{xs:List (List Key×V)}
theorem Dkt.mono(h:Dkt K F kvs xs)(s:Same F F'):Dkt K F' kvs xs:=by
 induction h with
 | nil=>exact .nil
 | cons hk r t ih=>exact .cons hk (r.mono s) ih
theorem Dkt.length(h:Dkt K F kvs xs):kvs.length=xs.length:=by
 induction h with
 | nil=>rfl
 | cons hk r t ih=>simp[ih]
theorem Dkt.val(h:Dkt K F kvs xs){k:D}(hk:Aa k.isT):(DL k=none/\valV xs k.tkey=none) \/ ∃d v,Ab (DL k) d/\Ab (valV xs k.tkey) v/\As F d v:=by
 induction h with
 | nil=>exact .inl De
 | @cons k' d v kvs xs hk' r t ih =>
  by_cases e:k'=k
  .subst e;exact .inr ⟨d,v,by simp[valD],by simp[valV],r⟩
  .have e2:k'.tkey≠k.tkey:=λz=>e (zox hk' hk z);have h1:valD ((k',d)::kvs) k=DL k:=by simp[valD,PJ,e]
   have h2:valV ((k'.tkey,v)::xs) k.tkey=valV xs k.tkey:=by simp[valV,PJ,e2]
   rw[h1,h2];exact ih
theorem Dkt.any(h:Dkt K F kvs xs){k:D}(hk:Aa k.isT):(kvs.any (D9 kv.1 k))=xs.any (D9 kv.1 k.tkey):=by
 induction h with
 | nil=>rfl
 | @cons k' d v kvs xs hk' r t ih =>
  rw[RV,RV,ih];congr 1;by_cases e:k'=k;.subst e;simp
  .have e2:k'.tkey≠k.tkey:=λz=>e (zox hk' hk z);rw[decide_eq_false e,decide_eq_false e2]
theorem Dkt.snoc(h:Dkt K F kvs xs){k d:D}{v:V}(hk:Aa k.isT)(r:As F d v):Dkt K F (kvs++[(k,d)]) (xs++[(k.tkey,v)]):=by
 induction h with
 | nil=>exact .cons hk r .nil
 | cons hk' r' t ih=>exact .cons hk' r' ih
theorem Dkt.put(h:Dkt K F kvs xs){k d:D}{v:V}(hk:Aa k.isT)(r:As F d v):Dkt K F (putD kvs k d) (putK xs k.tkey v):=by
 unfold putD putK;rw[h.any hk];by_cases hc:Aa (xs.any (D9 kv.1 k.tkey))
 .rw[Ff,Ff];clear hc;induction h with
  | nil=>exact .nil
  | @cons k' d' v' kvs xs hk' r' t ih =>
   rw[Kq,Kq];by_cases e:k'=k;.subst e;rw[BR,BR];exact .cons hk' r ih
   .have e2:k'.tkey≠k.tkey:=λz=>e (zox hk' hk z);rw[if_neg e,if_neg e2];exact .cons hk' r' ih
 .rw[E2,E2];exact h.snoc hk r
end
noncomputable def tsl(K:Kd)(b:Addr)(ds:Ac):Sl:=.g Cs [] λF _=>∃vs,Ab (F b) (.tup vs)/\Bc F vs
theorem yb6(K:Kd)(b:Addr)(ds:Ac):Stab [] λF _=>∃vs,Ab (F b) (.tup vs)/\Bc F vs:=λF1 H1 F2 H2 sf _ ⟨vs,h,r⟩=>⟨vs,sf _ _ h,r.mono sf⟩
noncomputable def dWT(K:Kd)(p:Addr)(kvs:DD):Hp->A2:=λF H=>∃xs,Aw p (.dT xs)/\Dkt K F kvs xs
noncomputable def dslT(K:Kd)(p:Addr)(kvs:DD):Sl:=.g Ap [p] (dWT K p kvs)
theorem zte(K:Kd)(p:Addr)(kvs:DD):Stab [p] (dWT K p kvs):=λF1 H1 F2 H2 sf hh ⟨xs,h1,h2⟩=>⟨xs,by rw[hh p (by simp)];exact h1,h2.mono sf⟩
section
variable{K:Kd}{G Hz L:Hp}{ss:List Sl}{i j:Nat}{p b:Addr}{kvs:DD}{E:Ends}{ty td tv tx:TE}{t:TA}{k d z:D}{ds:List D}
theorem Sat.getT{F H:Hp}{σ:St}(S:Sat K G Hz L F H σ ss)(hs:Bl (tsl K b ds)):D5 σ Cs /\ ∃vs,Ab (F b) (.tup vs)/\Bc F vs:=by
 obtain⟨v,e,ew,ha,hw,st⟩:=Fj hs;cases ew;exact⟨e,hw⟩
theorem zz1(a:EvAF K G Hz L ss t ds)(hz:AD ds.length)(h:∀b,Bw K G L E.nx (Bu (tsl K b ds))):Bx K G L E (tAsg (tTup t) (Ob i)):=λF H σ S =>
 Eo F H σ _ S ⟨by rw[<- r1.length];exact hz,λp hp=>by
  have e:=e1.newF (o:=.tup vs) hp;have S4:=S.ext2 e;refine h p _ _ _ (S4.put S4.ext S4.fl (by simp) (λj hj=>QM CU) (λhi=>?_) (by simp[tsl,Sl.ads]) (λj s' hj hs q hq=>by simp[tsl,Sl.ads] at hq) λj s' hj hs=>S4.ok j s' hs);rw[GQ];exact(Dq (λa ha=>absurd ha OD) ⟨vs,Ku,r1.mono (Same.upd (e1.fh.free hp))⟩ (yb6 K p ds))⟩
theorem Sat.getMT{F H:Hp}{σ:St}(S:Sat K G Hz L F H σ ss)(hs:Bl (dslT K p kvs)):D5 σ Ap/\Hz p=none/\F p=none /\ ∃xs,Aw p (.dT xs)/\Dkt K F kvs xs:=by
 obtain⟨v,e,ew,ha,hw,st⟩:=Fj hs;cases ew;obtain⟨h0,fp,_⟩:=ha p (by simp);exact⟨e,h0,fp,hw⟩
theorem Sat.writeMT{F H:Hp}{σ:St}{kvs':DD}{xs:AU BF}(S:Sat K G Hz L F H σ ss)(hs:Bl (dslT K p kvs))(r:Dkt K F kvs' xs):Sat K G Hz L F (AX p (.dT xs)) σ (Bu (dslT K p kvs')):=by
 obtain⟨e,h0,fp,ys,hp,_⟩:=S.getMT hs;have hget:Ab (EV i) Ap:=by rw[Kz,e];rfl
 refine S.put (S.ext.write fp h0) S.fl rfl Cy C4 (by simp[dslT,Sl.ads]) (λj s' hj h q hq=>?_) λj s' hj h=>(S.ok j s' h).updNe (S.ne i j _ s' CU hs h p (by simp[dslT,Sl.ads]))
 .rw[hget];exact(Dq (λa ha=>by rw[K5.mp ha];exact⟨h0,fp,_,Ku,trivial⟩) ⟨xs,Ku,r⟩ (zte K p kvs'))
 .have:q=p:=by simpa[dslT,Sl.ads] using hq
  subst this;exact S.ne i j _ s' CU hs h q (by simp[dslT,Sl.ads])
theorem ztk(h:∀p,Bw K G L E.nx (Bu (dslT K p []))):Bx K G L E (tAsg yea (Ob i)):=λF H σ S p hp=>by
 have e:=(DA).newO (o:=.dT []) hp;have S':=S.ext2 e;refine h p F _ _ (S'.put S'.ext S'.fl (by simp) (λj hj=>QM CU) (λhi=>?_) (by simp[dslT,Sl.ads]) (λj s' hj hs q hq=>?_) λj s' hj hs=>S'.ok j s' hs)
 .rw[GQ];exact(Dq GV ⟨[],Ku,.nil⟩ (zte K p []))
 .have:q=p:=by simpa[dslT,Sl.ads] using hq
  subst this;exact λhin=>(S.ok j s' hs).live hin hp
theorem ycm(hs:Bl (dslT K p kvs))(hj:AQ ss (tsl K b ds))(hk:Aa (ds.all D.isK))(hv:Ab (DL DG) d):Ay (rC (tVar i) (tVar j)) d:=λF H σ Q S q=>by
 obtain⟨e,_,_,xs,hp,dk⟩:=S.getMT hs;obtain⟨e2,vs,hb,r⟩:=S.getT hj;refine⟨_,e,_,e2,?_⟩;rcases dk.val (k:=.tup ds) hk with ⟨h1,_⟩ | ⟨d',w,h1,h2,rw'⟩;.rw[h1] at hv;cases hv
 .rw[h1] at hv;cases hv;refine(BH p w ?_ (q w F H DA rw'));rw[<- h2];exact DGet.t hp (by rw[S.ext.fh _ _ hb,bU hk r];rfl)
theorem zvq(hs:Bl (dslT K p kvs))(hj:AQ ss (tsl K b ds))(hk:Aa (ds.all D.isK)):Cc (rD (tVar j) (tVar i)) (!(DL DG).isSome):=λF H σ Q S q=>by
 obtain⟨e,_,_,xs,hp,dk⟩:=S.getMT hs;obtain⟨e2,vs,hb,r⟩:=S.getT hj;refine⟨_,e2,_,e,p,valV xs (D.tup ds).tkey,rfl,DGet.t hp (by rw[S.ext.fh _ _ hb,bU hk r];rfl),q _ F H DA ?_⟩;have:(valV xs (D.tup ds).tkey).isSome=(DL DG).isSome:=by
  rcases dk.val (k:=.tup ds) hk with ⟨h1,h2⟩ | ⟨d',w,h1,h2,_⟩ <;> rw[h1,h2] <;> rfl
 rw[this];exact Rep.bl
theorem yc1(hs:Bl (dslT K p kvs))(hj:AQ ss (tsl K b ds))(hk:Aa (ds.all D.isK))(a:Ay tv d)(hz:Dk kvs.length)(h:Bw K G L E.nx (Bu (dslT K p (putD kvs DG d)))):Bx K G L E (rE (tVar i) (tVar j) tv):=λF H σ S =>
 Ec F H σ _ S (by
  have S1:=Cg;obtain⟨e,_,_,xs,hp,dk⟩:=S1.getMT hs;obtain⟨e2,vs,hb,r⟩:=S1.getT hj;refine⟨_,e,_,e2,p,_,rfl,DPut.t (k:=(D.tup ds).tkey) (v:=v) hp (by rw[S1.ext.fh _ _ hb,bU hk r];rfl) (by rw[<- dk.length];exact hz),h F1 _ σ (S1.writeMT hs (dk.put hk r1))⟩)
end
noncomputable def MOk(X:Cx)(E:XK)(m:Str)(C:Addr)(sp:Sp):Prop:=∃f fd ps k,Cls X.K C/\Meth X.K C m f/\FnOk X.prog X.w X.K X.mg X.base CX0 k f fd ps sp/\Room k X.A/\M5 X.K fd ps []
noncomputable def MOks(X:Cx)(E:XK)(m:Str)(fam:Fi Sp):Prop:=∀q∈fam,MOk X E m q.1 q.2
theorem yar{X:Cx}{E:XK}{m:Str}:MOks X E m []:=λ_ h=>nomatch h
theorem ztu{X:Cx}{E:XK}{m:Str}{C f:Addr}{sp:Sp}{fd:Mp}{ps:AC}{k:Nat}{fam:Fi Sp}(c:Cls X.K C)(hm:Meth X.K C m f)(F:FnOk X.prog X.w X.K X.mg X.base CX0 k f fd ps sp)(hr:Room k X.A)(hb:M5 X.K fd ps [])(r:MOks X E m fam) :
  MOks X E m ((C,sp)::fam):=λq h=>by
 rcases KH.mp h with rfl | h;.exact⟨f,fd,ps,k,c,hm,F,hr,hb⟩
 .exact r q h
noncomputable def bV(fam:Fi Sp)(m:Str)(E:XK)(ta:TE)(t:TA):TE:=λσ H Q=>ta σ H λx H1=>∃a C dx fs sp,x= Av/\Ab (H1 a) (Cu dx fs)/\(C,sp)∈fam/\fs.lookup m=none/\t σ H1 λvs H2=>sp (Av::vs) H2 Q E
section
variable{X:Cx}{E:XK}{m:Str}{apos pos:Pos}{e o:Expr}{es:List Expr}{ta:TE}{t:TA}{fam:List (Addr×Sp)}
theorem ycs{pl:Sem Bool}(he:Au o ta)(M:MOks X E m fam)(hx:R7 CX0 X E)(ha:PA X (e::es) t)
  (hst:CA (e::es)=(D4 e)::CA es:=by rfl) (hpl:AL ((DT pos es).any (·.1)):=by rfl)
  (ht:Cz (Fy (FA o m) (e::es) pos)=(do
   let ov <- Cz o
   Um apos.atName
   let (f,first) <- Ti [ov] (XJ ov m pl)
   oF pos f first (DT pos (e::es)) (V4 pos (V0 [] X.env))):=by rfl) :
  Au (Fy (FA o m) (e::es) pos) (bV fam m E ta t):=by
 intro pins s σ H Q I h;refine pI (pl:=pl) (thn (he pins s σ H _ I h) Gp) ht;obtain⟨x,H1,I1,rx,a,C,dx,fs,sp,ex,ea,hf,l,q⟩:=hz9;subst ex;obtain rfl:u=KJ a:=rx;obtain⟨f,fd,ps,k,c,hm,F,hr,hb⟩:=M _ hf;refine zi5 I1 ea c hm l ?_;refine X4 (first:=[Av]) (h₀:=X.base) I.ok.mod.kin hm.kp (thn (ha pos pins s1 σ H1 _ I1 q) λus s2 ⟨vs,H2,I2,r,q2⟩=>(BG I2.kIn)) hst hpl;exact qD (us:=Av::us) (vs:=Av::vs) (dvs:=[]) F hr hb .nil hx I2 (.cons rfl r) (by rw[LR];exact q2)
theorem yat{pl:Sem Bool}(he:Au o ta)(M:MOks X E m fam)(hx:R7 CX0 X E)
  (ht:Cz (Fy (FA o m) [] pos)=(do
   let ov <- Cz o
   Um apos.atName
   let (f,first) <- Ti [ov] (XJ ov m pl)
   oF pos f first (DT pos []) (V4 pos (V0 [] X.env))):=by rfl) :
  Au (Fy (FA o m) [] pos) (bV fam m E ta tNil):=by
 intro pins s σ H Q I h;refine pI (pl:=pl) (thn (he pins s σ H _ I h) Gp) ht;obtain⟨x,H1,I1,rx,a,C,dx,fs,sp,ex,ea,hf,l,q⟩:=hz9;subst ex;obtain rfl:u=KJ a:=rx;obtain⟨f,fd,ps,k,c,hm,F,hr,hb⟩:=M _ hf;refine zi5 I1 ea c hm l ?_;exact PySem.W.callWith_K0 (first:=[Av]) I1.kIn hm.kp (qD (us:=[Av]) (vs:=[Av]) (dvs:=[]) F hr hb .nil hx I1 (.cons rfl .nil) q)
end
section
variable{K:Kd}{G Hz L:Hp}{ss:List Sl}{i:Nat}{C:Addr}{ta:TE}{t:TA}{E:XK}{D0:Ends}{c:V}{ns:List Str}{vs ds:List D}{d:D}{pre:List (Str×V)->List D->Prop}{res:List (Str×V)->List D->D}
theorem ydy{n1 n2:Str}{w:Int}{l:Ae}(a:EvAF K G Hz L ss t [.int w,.str l]):Ay (yij C (zzu C n1 n2) [] E t) (Cu [n1,n2] [.int w,.str l]):=λF H σ Q S q =>
 Eo F H σ _ S (by
  have r0:=r1;rw[Reps] at r1;obtain⟨v1,r,rfl,rv1,r1⟩:=r1;rw[Reps] at r1;obtain⟨v2,r',rfl,rv2,r1⟩:=r1;rw[Reps] at r1;subst r1;intro x dx hx hdx hne;refine⟨x,dx,v1,v2,rfl,Ku,by rw[Kh hne];exact Ku,rfl,?_⟩;rw[upd2];have e2:=(Ext.refl e1.fh).newF (o:=.own x) hdx;have hx2:upd H1 dx (.own x) x=none:=by rw[Kh (K7 hne)];exact hx
  have e3:=e2.newF (o:=Cu dx [(n1,v1),(n2,v2)]) hx2;exact q _ _ _ (e1.trans e3) (Rep.ins (fs:=[(n1,v1),(n2,v2)]) Ku (by rw[Kh hne];exact Ku) (r0.mono e3.gf)))
theorem zyo{f:Str}{n1 n2:Str}{w l:D}(a:Ay ta (Cu [n1,n2] [w,l]))(cl:Cls K C)(n:Ov K C f)(hf:(f=n1/\d=w)\/(Be f n1/\f=n2/\d=l)):Ay (tFld K ta f) d:=λF H σ Q S q =>
 Ec F H σ _ S (by
  obtain⟨x,dx,fs,rfl,hx,hd,hn,rv⟩:=r1.of_ins;match fs,hn,rv with
  | [(a1,v1),(a2,v2)],hn,rv =>
   simp only[Kq,PK,QF,and_true] at hn;obtain⟨rfl,rfl⟩:=hn;rw[Kq,Kq,PK,Reps] at rv;obtain⟨_,_,e,ra,rv⟩:=rv;cases e;rw[Reps] at rv;obtain⟨_,_,e,rb,rv⟩:=rv;cases e;rcases hf with ⟨rfl,rfl⟩ | ⟨hne,rfl,rfl⟩;.exact⟨x,C,dx,_,v1,rfl,e1.fh _ _ hx,cl,n,by simp[Nj],q _ F1 H1 e1 ra⟩
   .exact⟨x,C,dx,_,v2,rfl,e1.fh _ _ hx,cl,n,by simp only[Nj,hne];simp,q _ F1 H1 e1 rb⟩
  | [],hn,rv=>cases hn
  | [_],hn,rv=>simp at hn
  | _::_::_::_,hn,rv=>simp at hn)
theorem zss{fam:Fi Sp}{m:Str}{n1 n2:Str}{w:Int}{l:Ae}(a:Ay ta (Cu [n1,n2] [.int w,.str l]))(hm:(C,SpI K C pre res)∈fam)(h1:Be m n1)(h2:Be m n2)(b:EvAF K G Hz L ss t ds)
  (hp:pre [(n1,.int w),(n2,Dc l)] ds):Ay (bV fam m E ta t) (res [(n1,.int w),(n2,Dc l)] ds):=λF H σ Q S q =>
 Ec F H σ _ S (by
  obtain⟨x,dx,fs,rfl,hx,hd,hn,rv⟩:=r1.of_ins;match fs,hn,rv with
  | [(a1,v1),(a2,v2)],hn,rv =>
   simp only[Kq,PK,QF,and_true] at hn;obtain⟨rfl,rfl⟩:=hn;rw[Kq,Kq,PK,Reps] at rv;obtain⟨_,_,e,ra,rv⟩:=rv;cases e;rw[Reps] at rv;obtain⟨_,_,e,rb,rv⟩:=rv;cases e;cases ra.of_int;cases rb.of_str;refine⟨x,C,dx,_,_,rfl,e1.fh _ _ hx,hm,by simp only[Nj,h1,h2],?_⟩;have S1:=Cg;exact b F1 H1 σ _ S1 λws F2 H2 e2 r2=>⟨F2,ds,x,dx,_,ws,e2.fh,rfl,e2.gf _ _ hx,e2.gf _ _ hd,r2,hp,λv G' H' e3 r=>q v G' H' ((Cf).trans e3) r⟩
  | [],hn,rv=>cases hn
  | [_],hn,rv=>simp at hn
  | _::_::_::_,hn,rv=>simp at hn)
end
end L2
namespace L2
theorem Ph{α:Type}{P:Aq AK}(h0:P [])(hs:∀xs x,P xs->P (xs++[x]))(xs:AK):P xs:=by
 have:∀ys:AK,P ys.reverse:=by
  intro ys;induction ys with
  | nil=>exact h0
  | cons y ys ih=>rw[ZF];exact hs _ _ ih
 have:=this xs.reverse;rwa [List.reverse_reverse] at this
section
variable{α β γ:Type}[DecidableEq α][DecidableEq β][DecidableEq γ]{f:α->β}{g:α->γ}{xs:List α}{x:α}
noncomputable def Sv(f:α->β)(acc:AK)(x:α):AK:=if Aa (acc.any λy=>An (f y) (f x)) then acc else acc++[x]
noncomputable def M8(f:α->β)(xs:AK):AK:=xs.foldl (Sv f) []
theorem T5:M8 f (xs++[x])=Sv f (M8 f xs) x:=by unfold M8;rw[Vz];rfl
theorem YD(v:β):(∃y∈M8 f xs,f y=v) ↔ ∃y∈xs,f y=v:=by
 induction xs using Ph with
 | h0=>simp[M8]
 | hs xs x ih =>
  rw[T5];unfold Sv;split
  .rename_i h;rw[Pk] at h;obtain⟨y,hy,e⟩:=h;have e:=of_decide_eq_true e;rw[ih];constructor;.rintro⟨z,hz,ez⟩;exact⟨z,Ml _ hz,ez⟩
   .rintro⟨z,hz,ez⟩;rcases K9.mp hz with hz | hz;.exact⟨z,hz,ez⟩
    .rw[K5.mp hz] at ez;exact ih.mp ⟨y,hy,e.trans ez⟩
  .constructor
   .rintro⟨z,hz,ez⟩;rcases K9.mp hz with hz | hz
    .obtain⟨w,hw,ew⟩:=ih.mp ⟨z,hz,ez⟩;exact⟨w,Ml _ hw,ew⟩
    .exact⟨z,PB _ hz,ez⟩
   .rintro⟨z,hz,ez⟩;rcases K9.mp hz with hz | hz
    .obtain⟨w,hw,ew⟩:=ih.mpr ⟨z,hz,ez⟩;exact⟨w,Ml _ hw,ew⟩
    .exact⟨z,PB _ hz,ez⟩
theorem bW{y:α}:y∈M8 f xs->y∈xs:=by
 induction xs using Ph with
 | h0=>exact λh=>h
 | hs xs x ih =>
  rw[T5];unfold Sv;split;.exact λh=>Ml _ (ih h)
  .intro h;rcases K9.mp h with h | h;.exact Ml _ (ih h)
   .exact PB _ h
theorem zob:((M8 f xs).map f).Nodup:=by
 induction xs using Ph with
 | h0=>exact RQ
 | hs xs x ih =>
  rw[T5];unfold Sv;split;.exact ih
  .rename_i h;rw[LQ];refine SQ.mpr ⟨ih,by simp,λa ha b hb e=>h ?_⟩;obtain⟨y,hy,ey⟩:=Kr.mp ha;have hb:b=f x:=by simpa using hb
   rw[Pk];exact⟨y,hy,decide_eq_true (ey.trans (e.trans hb))⟩
theorem yag(v:β):((M8 f xs).any λy=>An (f y) v)=xs.any λy=>An (f y) v:=by
 rw[LK,Pk,Pk];simp only[decide_eq_true_eq];exact YD v
noncomputable def M3(f:α->β)(xs:AK):List AK:=(M8 f xs).map λh=>xs.filter λt=>An (f t) (f h)
noncomputable def bY(xs:AK)(f:α->β)(g:α->γ):Prop:=∀a∈xs,∀b∈xs,(f a=f b↔g a=g b)
theorem zq6(h:bY xs f g):M8 f xs=M8 g xs:=by
 induction xs using Ph with
 | h0=>rfl
 | hs xs x ih =>
  rw[T5,T5,ih λa ha b hb=>h a (Ml _ ha) b (Ml _ hb)];unfold Sv;have:((M8 g xs).any λy=>An (f y) (f x))=(M8 g xs).any λy=>An (g y) (g x):=by
   rw[LK,Pk,Pk];simp only[decide_eq_true_eq];constructor;.rintro⟨y,hy,e⟩;exact⟨y,hy,(h y (Ml _ (bW hy)) x (by simp)).mp e⟩
   .rintro⟨y,hy,e⟩;exact⟨y,hy,(h y (Ml _ (bW hy)) x (by simp)).mpr e⟩
  rw[this]
theorem zpa(h:bY xs f g):M3 f xs=M3 g xs:=by
 unfold M3;rw[zq6 h];refine N6 λy hy=>xU λt ht=>?_;rw[LK,decide_eq_true_eq,decide_eq_true_eq];exact h t ht y (bW hy)
theorem zmt:AB (M3 f xs) xs.length:=by
 unfold M3;rw[Kg];induction xs using Ph with
 | h0=>exact Az
 | hs xs x ih =>
  rw[T5];unfold Sv;split <;> simp <;> omega
noncomputable def Rr(k l:β)(f:α->β):α->β:=λt=>if f t=l then k else f t
theorem bZ{k l:β}{x y a b:α}(h:(k=f x/\l=f y)\/(k=f y/\l=f x)):Rr k l f a=Rr k l f b↔f a=f b\/((f a=f x\/f a=f y)/\(f b=f x\/f b=f y)):=by
 unfold Rr;rcases h with ⟨rfl,rfl⟩ | ⟨rfl,rfl⟩
 .by_cases h1:f a=f y <;> by_cases h2:f b=f y <;> simp[h1,h2]
  .constructor;.intro e;exact .inr e.symm
   .rintro(e | e);.exact absurd e.symm h2
    .exact e.symm
  .intro e e2;exact e.trans e2.symm
 .by_cases h1:f a=f x <;> by_cases h2:f b=f x <;> simp[h1,h2]
  .constructor;.intro e;exact .inr e.symm
   .rintro(e | e);.exact absurd e.symm h2
    .exact e.symm
  .intro e e2;exact e.trans e2.symm
theorem ycn{k l:β}{k' l':γ}{x y:α}(hx:x∈xs)(hy:y∈xs)(h:bY xs f g)(h1:(k=f x/\l=f y)\/(k=f y/\l=f x))(h2:(k'=g x/\l'=g y)\/(k'=g y/\l'=g x)):bY xs (Rr k l f) (Rr k' l' g):=λa ha b hb=>by
 rw[bZ h1,bZ h2,h a ha b hb,h a ha x hx,h a ha y hy,h b hb x hx,h b hb y hy]
variable{enc:α->D}{encB:β->D}
noncomputable def dA(enc:α->D)(encB:β->D)(xs:AK)(f:α->β):DD:=xs.map λt=>(enc t,encB (f t))
theorem Rt(hi:∀a b,enc a=enc b->a=b)(h:x∈xs):Ab (valD (dA enc encB xs f) (enc x)) (encB (f x)):=by
 induction xs with
 | nil=>cases h
 | cons y ys ih =>
  by_cases e:y=x;.subst e;simp[valD,dA]
  .have e2:enc y≠enc x:=λz=>e (hi _ _ z);have:valD (dA enc encB (y::ys) f) (enc x)=valD (dA enc encB ys f) (enc x):=by simp[valD,dA,PJ,e2]
   rw[this];rcases KH.mp h with z | z;.exact absurd z.symm e
   .exact ih z
theorem ztx(hi:∀a b,enc a=enc b->a=b)(h:x∉xs):valD (dA enc encB xs f) (enc x)=none:=by
 induction xs with
 | nil=>rfl
 | cons y ys ih =>
  have e2:enc y≠enc x:=λz=>h (by rw[hi _ _ z];exact KN);have:valD (dA enc encB (y::ys) f) (enc x)=valD (dA enc encB ys f) (enc x):=by simp[valD,dA,PJ,e2]
  rw[this];exact ih λz=>h (AS z)
theorem ye3(hi:∀a b,enc a=enc b->a=b):Aa ((dA enc encB xs f).any (D9 kv.1 (enc x)))↔x∈xs:=by
 rw[Pk];constructor
 .rintro⟨kv,hkv,e⟩;obtain⟨y,hy,rfl⟩:=Kr.mp hkv;rw[<- hi _ _ (of_decide_eq_true e)];exact hy
 .intro h;exact(Ar (Kr.mpr (Dm x h)) (by simp))
theorem yaj(hi:∀a b,enc a=enc b->a=b)(h:x∈xs)(v:β):putD (dA enc encB xs f) (enc x) (encB v)=dA enc encB xs (λu=>if u=x then v else f u):=by
 unfold putD;rw[if_pos ((ye3 hi).mpr h)];unfold dA;rw[Lf];refine N6 λu _=>?_;show(AR (enc u) (enc x) (enc u,encB v) (enc u,encB (f u)))=(enc u,encB (if u=x then v else f u));by_cases e:u=x;.rw[if_pos (by rw[e]),if_pos e]
 .rw[if_neg λz=>e (hi _ _ z),if_neg e]
theorem sJ(hi:∀a b,enc a=enc b->a=b)(h:x∉xs):putD (dA enc encB xs f) (enc x) (encB (f x))=dA enc encB (xs++[x]) f:=by
 unfold putD;rw[if_neg λz=>h ((ye3 hi).mp z)];unfold dA;rw[LQ];rfl
theorem sO{g:α->β}(h:∀a∈xs,f a=g a):dA enc encB xs f=dA enc encB xs g:=by
 unfold dA;exact N6 λa ha=>by rw[h a ha]
noncomputable def grpD(enc:α->D)(encB:β->D)(f:α->β)(xs:AK):CM D Ac:=(M8 f xs).map λh=>(encB (f h),(xs.filter λt=>An (f t) (f h)).map enc)
theorem yak(hi:∀a b,encB a=encB b->a=b){F:α->Ac}{d:D}:∀{hs:AK},(hs.map f).Nodup->(∃h∈hs,f h=f x)->appD (hs.map λh=>(encB (f h),F h)) (encB (f x)) d=hs.map λh=>(encB (f h),AR (f h) (f x) (F h++[d]) (F h))
 | [],_,h=>by obtain⟨_,h,_⟩:=h;cases h
 | y::ys,hn,h=>by
  rw[Kq,Kq,appD];rw[Kq,M4] at hn;by_cases e:f y=f x
  .rw[if_pos (by show encB (f y)=encB (f x);rw[e]),if_pos e];congr 1;refine N6 λz hz=>?_;have:f z≠f x:=λw=>hn.1 (by rw[e,<- w];exact Ny hz);rw[if_neg this]
  .rw[if_neg (λz=>e (hi _ _ z)),if_neg e];congr 1;refine yak hi hn.2 ?_;obtain⟨z,hz,ez⟩:=h;rcases KH.mp hz with rfl | hz;.exact absurd ez e
   .exact⟨z,hz,ez⟩
theorem zu4(hi:∀a b,encB a=encB b->a=b){F:α->Ac}{d:D}:∀{hs:AK},(∀h∈hs,f h≠f x)->appD (hs.map λh=>(encB (f h),F h)) (encB (f x)) d=(hs.map λh=>(encB (f h),F h))++[(encB (f x),[d])]
 | [],_=>rfl
 | y::ys,h=>by
  rw[Kq,appD,if_neg (λz=>h y KN (hi _ _ z)),zu4 hi λz hz=>h z (AS hz)];rfl
theorem yde(hi:∀a b,encB a=encB b->a=b):appD (grpD enc encB f xs) (encB (f x)) (enc x)=grpD enc encB f (xs++[x]):=by
 unfold grpD;rw[T5];unfold Sv;have ef:∀h,EZ (xs++[x]) (λt=>An (f t) (f h)) enc=AR (f h) (f x) ((xs.filter λt=>An (f t) (f h)).map enc++[enc x]) ((xs.filter λt=>An (f t) (f h)).map enc):=λh=>by
  rw[RL];by_cases e:f h=f x;.rw[if_pos e,QB (by simp[e]),RP,LQ];rfl
  .rw[if_neg e,O5 (by simp;exact λz=>e z.symm),RP,LR]
 split
 .rename_i h;rw[Pk] at h;obtain⟨y,hy,e⟩:=h;rw[yak hi zob ⟨y,hy,of_decide_eq_true e⟩];exact N6 λh _=>by rw[ef]
 .rename_i h;have hno:∀y∈M8 f xs,f y≠f x:=λy hy e=>h (by rw[Pk];exact⟨y,hy,decide_eq_true e⟩);rw[zu4 hi hno,LQ];congr 1;.exact N6 λh hh=>by rw[ef,if_neg (hno h hh)]
  .rw[List.map_singleton,ef,BR];have:(xs.filter λt=>An (f t) (f x))=[]:=by
    rw[lQ];intro t ht e;obtain⟨z,hz,ez⟩:=(YD (f:=f) (xs:=xs) (f x)).mpr ⟨t,ht,of_decide_eq_true e⟩;exact hno z hz ez
   rw[this];rfl
theorem yc2:AB (grpD enc encB f xs) xs.length:=by
 have:=zmt (f:=f) (xs:=xs);unfold M3 at this;unfold grpD;simpa using this
theorem zxp{q:D×Ac}(h:q∈grpD enc encB f xs):AB q.2 xs.length:=by
 unfold grpD at h;obtain⟨y,_,rfl⟩:=Kr.mp h;rw[Kg];exact RK ..
end
end L2
namespace L2
section
variable{α:Type}[DecidableEq α]
structure Bfs(adj:α->α->Prop)(one:α)(R:List α)(par:α->Option α)(lev:α->Nat):Prop where
 nd:R.Nodup
 one_in:one∈R
 par0:par one=none
 lev0:lev one=0
 par_of:∀c∈R,c≠one-> ∃h∈R,par c=some h/\adj h c/\lev c=lev h+1
 mono:R.Pairwise λa b=>lev a<=lev b
 bnd:∀c∈R,lev c<R.length
variable{adj:α->α->Prop}{one other:α}{R:List α}{par:α->Option α}{lev:α->Nat}{k:Nat}
noncomputable def Wq(adj:α->Aq α)(R:AK)(lev:α->Nat)(k:Nat):Prop:=∀j h,j<k->AQ R h-> ∀y,adj h y->y∈R/\lev y<=lev h+1
noncomputable def BTop(R:AK)(lev:α->Nat)(k:Nat):Prop:=∀h,AM R k h-> ∀c∈R,lev c<=lev h+1
theorem Bfs.start(adj:α->Aq α)(one:α):Bfs adj one [one] (λ_=>none) (λ_=>0) :=
 ⟨by simp,by simp,rfl,rfl,λc hc h=>absurd (K5.mp hc) h,by simp,λ_ _=>by simp⟩
theorem Bfs.add(B:Bfs adj one R par lev){h c:α}(hk:AM R k h)(top:BTop R lev k)(dn:Wq adj R lev k)(hc:c∉R)(ha:adj h c) :
  Bfs adj one (R++[c]) (λu=>AR u c (some h) (par u)) (λu=>AR u c (lev h+1) (lev u))/\BTop (R++[c]) (λu=>AR u c (lev h+1) (lev u)) k/\Wq adj (R++[c]) (λu=>AR u c (lev h+1) (lev u)) k/\AM (R++[c]) k h:=by
 have hR:h∈R:=KD hk;have ne:∀u∈R,u≠c:=λu hu e=>hc (e ▸ hu);have hkl:=(BS hk);have hk2:AM (R++[c]) k h:=by rw[Qz hkl];exact hk
 have hh:(AR h c (lev h+1) (lev h))=lev h:=if_neg (ne h hR);refine⟨⟨?_,Ml _ B.one_in,?_,?_,λu hu huo=>?_,?_,λu hu=>?_⟩,λg hg u hu=>?_,λj g hj hg y hy=>?_,hk2⟩;.exact SQ.mpr ⟨B.nd,by simp,λa ha b hb e=>ne a ha (e.trans (K5.mp hb))⟩
 .show(AR one c (some h) (par one))=none;rw[if_neg (ne one B.one_in)];exact B.par0
 .show(AR one c (lev h+1) (lev one))=0;rw[if_neg (ne one B.one_in)];exact B.lev0
 .rcases K9.mp hu with hu | hu
  .obtain⟨g,hg,h1,h2,h3⟩:=B.par_of u hu huo;refine⟨g,Ml _ hg,?_,h2,?_⟩
   .show Ab (AR u c (some h) (par u)) g;rw[if_neg (ne u hu)];exact h1
   .show(AR u c (lev h+1) (lev u))=(AR g c (lev h+1) (lev g))+1;rw[if_neg (ne u hu),if_neg (ne g hg)];exact h3
  .have e:=K5.mp hu;subst e;refine⟨h,Ml _ hR,?_,ha,?_⟩
   .show Ab (AR u u (some h) (par u)) h;rw[BR]
   .show(AR u u (lev h+1) (lev u))=(AR h u (lev h+1) (lev h))+1;rw[BR,hh]
 .rw[lV];refine⟨?_,by simp,λa ha b hb=>?_⟩
  .refine S8 (λ{a b} ha hb h=>?_) B.mono;show(AR a c (lev _+1) (lev a))<=(AR b c (lev _+1) (lev b));rw[if_neg (ne a ha),if_neg (ne b hb)];exact h
  .show(AR a c (lev h+1) (lev a))<=(AR b c (lev h+1) (lev b));rw[if_neg (ne a ha),if_pos (K5.mp hb)];exact top h hk a ha
 .show(AR u c (lev h+1) (lev u))<(R++[c]).length;rw[K8,Oz];by_cases e:u=c;.rw[if_pos e];have:=B.bnd h hR;lia
  .rw[if_neg e];rcases K9.mp hu with hu | hu;.have:=B.bnd u hu;lia
   .exact absurd (K5.mp hu) e
 .rw[hk2] at hg;cases hg;show(AR u c (lev h+1) (lev u))<=(AR h c (lev h+1) (lev h))+1;rw[hh];by_cases e:u=c;.rw[if_pos e];exact Az
  .rw[if_neg e];rcases K9.mp hu with hu | hu;.exact top h hk u hu
   .exact absurd (K5.mp hu) e
 .rw[Qz (by lia)] at hg;obtain⟨h1,h2⟩:=dn j g hj hg y hy;have hgR:g∈R:=KD hg;refine(BG (Ml _ h1));show(AR y c (lev h+1) (lev y))<=(AR g c (lev h+1) (lev g))+1;rw[if_neg (ne y h1),if_neg (ne g hgR)];exact h2
theorem Bfs.next(B:Bfs adj one R par lev){h:α}(hk:AM R k h)(top:BTop R lev k)(dn:Wq adj R lev k)(hn:∀y,adj h y->y∈R/\lev y<=lev h+1):BTop R lev (k+1)/\Wq adj R lev (k+1):=by
 refine⟨λg hg c hc=>?_,λj g hj hg y hy=>?_⟩
 .have h1:=Mg.mp hk;have h2:=Mg.mp hg;have:=(Vw.mp B.mono) k (k+1) h1.1 h2.1 (by lia);rw[h1.2,h2.2] at this;have:=top h hk c hc;lia
 .rcases PN j k with c | c;.exact dn j g c hg y hy
  .have:j=k:=by lia
   subst this;rw[hk] at hg;cases hg;exact hn y hy
theorem ya5(dn:Wq adj R lev R.length):∀h∈R,∀y,adj h y->y∈R/\lev y<=lev h+1:=λh hh y hy=>by
 obtain⟨j,hj⟩:=MF.mp hh;exact dn j h (BS hj) hj y hy
theorem Bfs.all(B:Bfs adj one R par lev){P:Aq α}(h0:P one)(hs:∀a b,a∈R->adj a b->P a->P b):∀c∈R,P c:=by
 have:∀n,∀c∈R,lev c=n->P c:=by
  intro n;induction n using Nat.strongRecOn with
  | _ n ih =>
   intro c hc e;by_cases h:c=one;.rw[h];exact h0
   .obtain⟨g,hg,_,ha,hl⟩:=B.par_of c hc h;exact hs g c hg ha (ih (lev g) (by lia) g hg rfl)
 exact λc hc=>this _ c hc rfl
structure Chn(adj:α->α->Prop)(R:List α)(lev:α->Nat)(one other:α)(ch:List α)(cur:Option α):Prop where
 at_:∀c,cur=some c->c∈R/\lev c+ch.length=lev other /\ ∀l,ch.getLast? = some l->adj c l
 end_:cur=none->ch.getLast? = some one/\ch.length=lev other+1
 adj:∀(i:Nat) a b,ch[i]? = some a->ch[i+1]? = some b->adj b a
 head:∀l,ch.head? = some l->l=other
 empty:ch=[]->cur=some other
theorem Chn.start(ho:other∈R):Chn adj R lev one other [] (some other) where
 at_:=λc e=>by cases e;exact⟨ho,by simp,λl e=>by simp at e⟩
 end_:=Gn
 adj:=λi a b e=>by simp at e
 head:=λl e=>by simp at e
 empty:=λ_=>rfl
theorem zjn{β:Type}(l:List β)(x:β):Cw (l++[x]).getLast? x:=by simp
theorem Chn.step(B:Bfs adj one R par lev){ch:AK}{c:α}(C:Chn adj R lev one other ch (some c)):Chn adj R lev one other (ch++[c]) (par c):=by
 obtain⟨hc,hl,hla⟩:=C.at_ c rfl;refine⟨λd e=>?_,λe=>?_,λi a b ha hb=>?_,λl e=>?_,λe=>by simp at e⟩
 .have hne:c≠one:=λz=>by rw[z,B.par0] at e;cases e
  obtain⟨h,hh,h1,h2,h3⟩:=B.par_of c hc hne;rw[h1] at e;cases e;refine⟨hh,by rw[K8,Oz];lia,λl e=>?_⟩;rw[zjn] at e;cases e;exact h2
 .have hone:c=one:=Zy λhne=>by
   obtain⟨h,hh,h1,h2,h3⟩:=B.par_of c hc hne;rw[h1] at e;cases e
  rw[zjn];refine(BG (by rw[hone]));rw[K8,Oz,<- hl,hone,B.lev0];lia
 .rcases ZG (i+1) ch.length with h | h | h
  .rw[Qz (by omega)] at ha hb;exact C.adj i a b ha hb
  .rw[Qz (by lia)] at ha;rw[SN (by lia),h,yJ] at hb;simp at hb;subst hb;refine hla a ?_;rw[Zsr,show ch.length - 1=i by lia];exact ha
  .rw[RB (by rw[K8,Oz];lia)] at hb;cases hb
 .cases hch:ch with
  | nil =>
   rw[hch] at e;simp at e;have:=C.empty hch;cases this;exact e.symm
  | cons y ys =>
   rw[hch] at e;simp at e;exact C.head l (by rw[hch];simp[e])
structure ChnOk(adj:α->α->Prop)(one other:α)(n:Nat)(l:List α):Prop where
 len:l.length=n+1
 first:l[0]? = some one
 last:l[n]? = some other
 adj:∀(i:Nat) a b,l[i]? = some a->l[i+1]? = some b->adj a b
theorem Chn.done{ch:AK}(C:Chn adj R lev one other ch none):ChnOk adj one other (lev other) ch.reverse:=by
 obtain⟨h1,h2⟩:=C.end_ rfl;have hl:ch.reverse.length=lev other+1:=by rw[Zui];exact h2
 refine⟨hl,?_,?_,λi a b ha hb=>?_⟩;.rw[lU (by lia),<- h1,Zsr];rfl
 .rw[lU (by lia),show ch.length - 1 - lev other=0 by lia];cases hch:ch with
  | nil=>rw[hch] at h2;simp at h2
  | cons y ys=>rw[List.getElem?_cons_zero,C.head y (by rw[hch];rfl)]
 .have hb2:=(BS hb);rw[hl] at hb2;rw[lU (by lia)] at ha hb;refine C.adj (ch.length - 1 - (i+1)) b a hb ?_;rw[show ch.length - 1 - (i+1)+1=ch.length - 1 - i by lia];exact ha
end
end L2
namespace PySem
open Sem (wp)
section
variable{prog:Ko}{w:Km}{A:Ks}{E:Ka->Ke->Prop}{h:Heap}{g:Array oG}{d:Qs}{t:Nat}{os:OsState}
variable{nm q:Str}{C N:Addr}{bs bm bmB:List Ka}{hdct:Bool}{sn:List Str}{sub:List Ka}{ab:Bool}{col:Option Bool}{dd:Option Addr}{k0 k1 k2 k3 k5:Option Ka}{B Bn newId nid initId inN:String}{bmN:List Ka}
theorem zkt(Fn:nR Bn newId inN bmN)(hBn:Aa (bmB.contains (.type Bn)))(F:nR B nid initId bmB)(T:OwnTail h bmB bm){mN:Str->A4}{rest:Am}{fI:Addr}{oI:Obj}{Q:Fin->Af}
  (hC:AE C (nU nm q C N bs bm hdct sn sub ab col dd k0 k1 k2 k3 k5 newId)) (hn:h.Ns N mN) (hi:Cw (mN "__init__") (.ref fI)) (hfI:AE fI oI) (hfc:oI.cls= .type "function")
  (hq:∀h' e,h.objs.size<=e->Zss h h' e AG rest->Kw (B5 w) A (call (.ref fI) (Cn::rest)) (λr s'=>r= .none/\Q (.done (.ret Cn)) s') E (CY h' g d t)) (hrest:AD rest.length) :
  Kw (B5 w) A (Mu.«type.__call__» (Br (AG::rest))) Q E (CY h g d t):=by
 repeat (first | with_reducible refine ZR hC ?_ | with_reducible refine wpAny_madeBy_exc hC ?_ | wp_step)
 refine codeAny_call_builtin_code (oX _ Fn.quiet) (wpAny_check_new_subU Fn hBn T hC ?_);refine codeAny_exc_new_subU Fn hBn F T hC ?_ hrest;show AT _ _ _ _ _;have k2:∀b o,AE b o->Cj ((h.push (CQ (.seq rest.toArray))).push (Gy AG (#[.ref h.objs.size,.none,.none,.none,.bool false,.none]))) b o:=λb o e=>A0 (A0 e);have hC1:=k2 _ _ hC;have hf1:=k2 _ _ hfI;have hn1:((h.push (CQ (.seq rest.toArray))).push (Gy AG (#[.ref h.objs.size,.none,.none,.none,.bool false,.none]))).Ns N mN:=let ⟨o,es,ep,e,r⟩:=hn;⟨o,es,ep,k2 _ _ e,r⟩;have hget:Cj ((h.push (CQ (.seq rest.toArray))).push (Gy AG (#[.ref h.objs.size,.none,.none,.none,.bool false,.none]))) (h.objs.size+1) (Gy AG (#[.ref h.objs.size,.none,.none,.none,.bool false,.none])):=by heap_get
 have hcC:Aa ((KJ C::bm).contains AG):=by simp
 have T1:=T.keeps k2;unfold V1;repeat (first | with_reducible refine ZR hget ?_ | (with_reducible refine Zws hC1 ?_;rw[hcC]) | wp_step)
 show AT _ (ZX AG _) _ _ _;refine wpAny_typeLookup_tail hC1 hn1 T1 F.mroIs F.init.lookup ?_;rw[hi];refine Nm (Kc ?_);unfold bindSpecial;refine Kc (Xz (T:="function") (Ar hf1 hfc) ?_);rw[if_pos (by decide)];refine Kf (Kc (Nu (hq _ (h.objs.size+1) (Ra _) ⟨k2,Zp0 (Ra _),h.objs.size,hget,Zp0 Az,?_⟩) (λr s' hr=>?_) λ_ _ x=>x));.exact A0 (Zvk rfl rfl)
 .obtain⟨rfl,hQ⟩:=hr;wp_walk;exact hQ
theorem zv1(Fn:nR Bn newId inN bmN)(hBn:Aa (bmB.contains (.type Bn)))(F:nR B nid initId bmB)(T:OwnTail h bmB bm){mN:Str->A4}{rest:Am}{fI:Addr}{oI:Obj}{Q:Ka->Af}
  (hC:AE C (nU nm q C N bs bm hdct sn sub ab col dd k0 k1 k2 k3 k5 newId)) (hn:h.Ns N mN) (hi:Cw (mN "__init__") (.ref fI)) (hfI:AE fI oI) (hfc:oI.cls= .type "function")
  (hq:∀h' e,h.objs.size<=e->Zss h h' e AG rest->Kw (B5 w) (A.under (GN (Br (AG::rest)))) (call (.ref fI) (Cn::rest)) (λr s'=>r= .none/\Q Cn s') E (CY h' g d t)) (hrest:AD rest.length) :
  Kw (B5 w) A (call AG rest) Q E (CY h g d t):=by
 have f1:=tc_lookup;have f2:=tc_bind AG;have hT:((CY h g d t):Ke).TypeIs AG "type" := (Cm hC);refine Te (zO ?_);show AT _ (callAny AG _) _ _ _;repeat (any_goals (first | assumption | with_reducible refine ZR hC ?_ | wp_step))
 refine(BG rfl);exact codeAny_call_builtin_at (oX _ (by decide +kernel)) entry_typeCall (wpAny_check_type_call_sub hC (zkt (hrest:=hrest) Fn hBn F T hC hn hi hfI hfc λh' e hs hm=>hq h' e hs hm))
end
end PySem
namespace L2
open PySem PySem.W PySem.Spec PyProof.Rows
noncomputable def excInI(K:Kd)(C:Addr)(bmB:Am)(newId:String)(fI:Addr):Bool:=match K.lookup C with
 | some ⟨.type "type", _,.cls cd,sl⟩=>(match cd.mro,sl.toList with
  | .ref C'::bm,[_,_,_,_,some (.builtin n),_]=>C' == C&&n == newId && !cd.hasDel&&tailIn K bmB bm&&nsOkIn K cd.ns&&nsIn K cd.ns "__init__" == some (some (.ref fI))
  | _,_=>false)
 | _=>false
noncomputable def Wr(K:Kd)(C fI:Addr):Prop:=Aa (excInI K C vmro "ValueError.__new__" fI)
theorem yk4{K:Kd}{h:Heap}{N:Addr}{m:Str->A4}{n:Str}{v:Ka}(X:K.In h)(G:h.Ns N m)(e:Ab (nsIn K N n) (some v)):Ab (m n) v:=by
 obtain⟨o,es,ep,ho,hd,_,hf⟩:=G;unfold nsIn at e;split at e
 .rename_i c d es' n' sl q;have:=X _ _ q;rw[ho] at this;cases this;cases hd;split at e
  .rename_i en he;cases e;rw[<- hf];unfold nsFind findBy;rw[<- Zun,he];rfl
  .split at e <;> cases e
 .cases e
theorem zon{K:Kd}{h:Heap}{C fI:Addr}(X:K.In h)(q:Wr K C fI):∃tl N nm q bs hdct sn sub ab col dd k0 k1 k2 k3 k5 mN,AE C (nU nm q C N bs tl hdct sn sub ab col dd k0 k1 k2 k3 k5 "ValueError.__new__")/\h.Ns N mN/\Cw (mN "__init__") (.ref fI)/\OwnTail h vmro tl:=by
 unfold Wr excInI at q;split at q
 .rename_i dd cd sl ho;split at q
  .rename_i C' bm k0 k1 k2 k3 n k5 hm hs;simp only[Lk,beq_iff_eq,Vt] at q;obtain⟨⟨⟨⟨⟨rfl,rfl⟩,hdel⟩,ht⟩,hok⟩,hni⟩:=q;obtain⟨nm,bs,mro,ns,qn,hd,sn,sub,ab,col,del⟩:=cd;dsimp only at hm hdel hok hni;subst hm hdel;have hsl:sl= #[k0,k1,k2,k3,some (.builtin "ValueError.__new__"),k5]:=by
    obtain⟨l⟩:=sl;simp only at hs;rw[hs]
   subst hsl;exact⟨bm,ns,nm,qn,bs,hd,sn,sub,ab,col,dd,k0,k1,k2,k3,k5,_,X _ _ ho,.of_isNs (isNs_of_in X hok),yk4 X (.of_isNs (isNs_of_in X hok)) hni,tail_of_in X ht⟩
  .cases q
 .cases q
noncomputable def cA(e C:Addr)(dd:CB)(h:Heap):Prop:=∃t:Ka,AE e { cls:=AG,dict:=dd,data:=.fields #[t,.none,.none,.none,.bool false,.none] }
noncomputable def ErrO(e C:Addr)(dd:CB):HO:=.ext (cA e C dd)
theorem zq8{P:Ko}{w:Km}{H:Hp}{h:Heap}{e C:Addr}{dd:CB}(x:cA e C dd h):Lr P w H h e (ErrO e C dd) :=
 ⟨x,let ⟨_,q⟩:=x;(Bb q),λh1 h2 ⟨t,q⟩ k=>⟨t,k _ q⟩⟩
theorem Inv.errMade{X:Cx}{pins:A7}{σ:St}{H:Hp}{s:Ke}{h':Heap}{e C:Addr}{rest:Am}(I:Ak)(hs:E7 e)(m:Zss s.heap h' e AG rest) :
  Ce (AX e (ErrO e C none)) { s with heap:=h',toks:=s.toks }:=by
 obtain⟨t,q,_,_⟩:=m.there;exact I.laid (t':=s.toks) (λb u z=>m.keeps b u z) hs (zq8 ⟨.ref t,q⟩)
section
variable{X:Cx}{a b:Str}{e:Expr}{te:TE}{k1 k2:Nat}{p1 p2 p3 pos:Pos}
theorem yds{x:Str}{u:Ka}(r:Bi (.str x)):∃t,u= .str x t:=r
end
structure CInitB(K:Kd)(C:Addr):Prop where
 ga:specialIn K (.ref C) "__getattribute__" = some (some (.builtin "type.__getattribute__"))
 rd:readsIn K C (.type "type")=true
 fc:findCls K (.ref C) (.type "type") "__init__" = some (.val (.builtin "ValueError.__init__"))
noncomputable def zt7(K:Kd)(t:TA):TE:=λσ H Q=>t σ H λvs H1=>∃e C dd v,vs=[Cn,v]/\Ab (H1 e) (ErrO e C dd)/\(∃fI,Wr K C fI)/\GJ H1
section
variable{X:Cx}{B:Addr}{x:Str}{e1 e2:Expr}{t:TA}{p apos pos:Pos}
theorem zv8{pl:Sem Bool}(hg:Gl X x)(hm:Ab (X.mg x) (.ref B))(M:CInitB X.K B)(ha:PA X [e1,e2] t)
  (hdb:Be x EE:=by decide) (hst:CA [e1,e2]=(D4 e1)::CA [e2]:=by rfl) (hpl:AL ((DT pos [e2]).any (·.1)):=by rfl)
  (ht:Cz (Fy (FA (.Name x p) "__init__") [e1,e2] pos)=(do
   let ov <- Cz (.Name x p)
   Um apos.atName
   let (f,first) <- Ti [ov] (XJ ov "__init__" pl)
   oF pos f first (DT pos [e1,e2]) (V4 pos (V0 [] X.env))):=by rfl) :
  Au (Fy (FA (.Name x p) "__init__") [e1,e2] pos) (zt7 X.K t):=by
 intro pins s σ H Q I h;refine pI (pl:=pl) (thn (aM (v:=.ref B) hg hm rfl hdb pins s σ H (λv H1=>v= .ref B/\H1=H) I De) Gp) ht;obtain⟨v,H1,I1,rx,ev,eh⟩:=hz9;subst ev eh;obtain rfl:u=KJ B:=rx;refine method_cls I1.kIn M.ga (cls_value I1.kIn M.rd M.fc rfl ?_);have hA:=ha pos pins _ σ _ _ (I1.tok (s1.toks+1)) h;rw[hst] at hA ⊢;refine Z7 (by show(false||(Vr pos (Vp [e2] X.env)).any (·.1))=false;rw[hpl] <;> rfl) (Zpv ?_);refine thn hA λus s2 ⟨vs,H2,I2,r,e,C,dd,v,ev,he,⟨fI,hx⟩,q⟩=>?_;subst ev;obtain⟨u1,u2,rfl,r1,r2⟩:=Qd r;cases r1;obtain⟨tl,Na,nm,q',bs,hdct,sn,sub,ab,col,ddc,k0,k1,k2,k3,k5,mN,hC,hN,hni,T⟩:=zon I2.kIn hx;obtain⟨t0,ho⟩:cA e C dd s2.heap:=(I2.hok e _ he).1;obtain⟨hh,g,d,tk,os⟩:=s2;refine Te (Xp XR.init.plain XR.initEntry (wpAny_check_init_subU XR T hC ho rfl ?_));wp_walk;have hk:∀b u,b≠e->Ab (hh.get? b) u->Cj ((hh.push (CQ (.seq #[u2]))).update e (Uu (·.setIfInBounds 0 (KJ hh.objs.size)))) b u:=λb u hb z=>by
  rw[Pa _ _ (K7 hb)];exact A0 z
 have hget:Cj ((hh.push (CQ (.seq #[u2]))).update e (Uu (·.setIfInBounds 0 (KJ hh.objs.size)))) e { cls:=AG,dict:=dd,data:=.fields #[.ref hh.objs.size,.none,.none,.none,.bool false,.none] }:=by
  rw[Pu _ (A0 ho) rfl];rfl
 have J:=Inv.write (o:=ErrO e C dd) (t':=tk) I2 (by rw[he];trivial) A6 hk (Bb hget) (zq8 (Bb hget));have eH:upd H2 e (ErrO e C dd)=H2:=by
  funext b;by_cases hb:b=e;.subst hb;rw[Ku,he]
  .rw[Kh hb]
 rw[eH] at J;cases t0 <;> first | exact Zwr (Kf (Bj .non H2 J q)) | exact Kf (Kf (Bj .non H2 J q))
end
end L2
namespace L2
open PySem PySem.W PySem.Spec PyProof.Rows PySem.Calls Builtin Builtin.ObjectAttr
noncomputable def yfh:Am->Bool
 | .ref _::r=>yfh r
 | l=>l == vmro
structure XStore(K:Kd)(C:Addr)(name:Str):Prop where
 sa:findIn K (.ref C) "__setattr__" = some (some (.builtin "object.__setattr__"))
 nm:findIn K (.ref C) name=some none
 ob:mroIn K C (.type "object")=some true
 hd:hasDictIn K C=true
 tl:((clsIn K C).any λcd=>yfh cd.mro)=true
theorem ztb(self:Ka):∀{l:Am},Aa (yfh l)->refuseLoop self "__setattr__" l=pure ()
 | .ref c::r,e=>by rw[refuseLoop_ref];exact ztb self e
 | [],e=>by cases e
 | .type n::r,e=>by rw[beq_iff_eq.mp (show Aa ((MJ n::r) == vmro) from e)];exact Zrn.passes self
 | .none::r,e=>by have:=beq_iff_eq.mp (show((Lz::r) == vmro)=true from e);cases this
 | .bool _::r,e=>by have:=beq_iff_eq.mp (show((Px _::r) == vmro)=true from e);cases this
 | .int _ _::r,e=>by have:=beq_iff_eq.mp (show((aJ _ _::r) == vmro)=true from e);cases this
 | .float _ _::r,e=>by have:=beq_iff_eq.mp (show((Zty _ _::r) == vmro)=true from e);cases this
 | .str _ _::r,e=>by have:=beq_iff_eq.mp (show((Rm _ _::r) == vmro)=true from e);cases this
 | .bytes _ _::r,e=>by have:=beq_iff_eq.mp (show((Ztz _ _::r) == vmro)=true from e);cases this
 | .builtin _::r,e=>by have:=beq_iff_eq.mp (show Aa ((Value.builtin _::r) == vmro) from e);cases this
section
variable{prog:Ko}{w:Km}{A:Ks}{E:Ka->Ke->Prop}{K:Kd}{h:Heap}{g:Array oG}{d:Qs}{t:Nat}{os:OsState}{e C:Addr}{oe:Obj}{name:Str}{v:Ka}
theorem ygt{Q:Unit->Af}(X:K.In h)(S:XStore K C name)(ho:AE e oe)(hc:oe.cls= AG)(hdn:oe.dict=none)(hnc:Aa (notCls oe)){vs:BT}(hdat:oe.data= .fields vs)
  (hq:∀h' tk,AJ e { oe with dict:=some h.objs.size }->h'.Ns1 h.objs.size (λy=>if y=name then some v else none)->(∀b o,b≠e->AE b o->AJ b o)->Q () (CY h' g d tk)) :
  Kw (B5 w) A (setAttr Cn name v) Q E (CY h g d t):=by
 have SF:=Zrn;have I:InstAt h e oe C none:=⟨ho,hc,hnc,by rw[hdn];trivial⟩;obtain⟨cd,hcl,htl⟩:=any_some S.tl;obtain⟨cd2,hcl2,hdd⟩:=any_some S.hd;have e2:cd=cd2:=PP (hcl.symm.trans hcl2);subst e2;refine set_plain (s:=(CY h g d t)) X I S.sa ?_;have sub:Looks (B5 w) h (V1 Cn (.type "object")) true:=I.type.andThen (looks_mroIn X S.ob);refine Xp SF.slot.plain SF.entry (@check_slot (B5 w) _ _ (CY h g d (t+1)) "object.__setattr__" "object" "__setattr__" Cn [.str name t,v] [] _ SF.kind SF.split sub (SF.args Cn (.str name t) v) ?_);have hm:Looks (B5 w) h (mroOf AG) cd.mro:=(looks_clsIn X hcl).andThen .now;rw[osa_eq,refuse_eq];refine Dg (Looks.here (s:=(CY h g d (t+1))) I.type (Kc (Looks.here (s:=(CY h g d (t+1))) hm ?_)));rw[ztb _ htl];refine Kf (Kc (Looks.here (s:=(CY h g d (t+1))) I.type (Kc (Looks.here (s:=(CY h g d (t+1))) (looks_findIn X S.nm) (BD ?_)))));show AT _ (storeInOwnDict Cn AG (.str name t) name v false) _ _ _;refine BD (Kc ?_);obtain⟨oc,odi,oda,osl⟩:=oe;dsimp only at hc hdn hdat hq;subst hc hdn hdat;refine Kc (zT ho (Kc (Looks.here (s:=(CY h g d (t+1))) (looks_clsIn X hcl) ?_)));rw[hdd];rw[if_neg (by decide)];have ho1:Cj (h.push (Fs "dict" (.dict #[]))) e (⟨AG,none,.fields vs,osl⟩:Obj):=A0 ho;have hes:e≠h.objs.size:=KY (Ld ho);show AT _ (alloc (Fs "dict" (.dict #[])) >>= λdx=>(update e λo=>(GB dx)) >>= λ_=>dictMade AG e dx) _ _ _;refine Kc (wpAny_alloc' ?_);refine Kc (wpAny_update' ho1 ?_);refine B7;have hgd:Cj ((h.push (Fs "dict" (.dict #[]))).update e λo=>(GB h.objs.size)) h.objs.size (Fs "dict" (.dict #[])):=(pB _ _ _ _ hes.symm).trans (Zvk rfl rfl);have hnd:((h.push (Fs "dict" (.dict #[]))).update e λo=>(GB h.objs.size)).Ns h.objs.size (λ_=>none):=⟨_,#[],_,hgd,rfl,λ_ z=>Gz z,λ_=>rfl⟩;show AT _ (storeInDict h.objs.size (.str name t) name v) _ _ _;unfold storeInDict newKeyGuard;refine BD (Kc (wpAny_nsSet1 (Zto hnd) λh' hn' hs=>?_));obtain⟨oD,esD,epD,hoD,hdD,hcD⟩:=hn'.count (Within.cons name v Within.nil);refine Kc (Zyt hoD (by rw[hdD];exact Zyv (Nk hcD (by rw[Mt,Xf,K3];lia))) ?_);wp_walk;refine hq h' _ (Ed e hes (Pu _ ho1 rfl)) hn' λb o hb z=>?_;exact Ed b (KY (Ld z)) ((pB _ _ _ _ hb).trans (A0 z))
end
noncomputable def yaf(K:Kd)(ta tv:TE)(f:Str):TS:=λD σ H=>tv σ H λy H1=>ta σ H1 λx H2=>∃e C,x= Cn/\Ab (H2 e) (ErrO e C none)/\XStore K C f /\ ∀dx,H2 dx=none->dx≠e->D.nx σ (upd (upd H2 e (ErrO e C (some dx))) dx (.xd [(f,y)]))
section
variable{X:Cx}{o value:Expr}{ta tv:TE}{f:Str}{pos' pos:Pos}
theorem zzz(ha:Au o ta)(hv:Au value tv)(hs:Ul value (some (.Attribute o f pos')) pos.line X.env=pure false):PS X (.Assign [.Attribute o f pos'] value pos) (yaf X.K ta tv f):=by
 intro pins s σ H D I h;refine Zr0 (thn (hv pins s σ H _ I h) λu s1 ⟨y,H1,I1,ry,q⟩=>thn (ha pins s1 σ H1 _ I1 q) λov s2 hz9=>?_) hs;obtain⟨x,H2,I2,rx,e,C,ex,he,S,q2⟩:=hz9;subst ex;obtain rfl:ov=KJ e:=rx;obtain⟨t0,ho⟩:cA e C none s2.heap:=(I2.hok e _ he).1;obtain⟨hh,g,d,tk,os⟩:=s2;refine ygt I2.kIn S ho rfl rfl rfl rfl λh' tk' hget hns hk=>?_;have hes:e≠hh.objs.size:=KY (Ld ho);have hmk:∀b u,b≠e->Ab (hh.get? b) u->Cj (hh.update e λo=>(GB hh.objs.size)) b u:=λb u hb z=>(pB _ _ _ _ hb).trans z;have hme:Cj (hh.update e λo=>(GB hh.objs.size)) e { cls:=AG,dict:=some hh.objs.size,data:=.fields #[t0,.none,.none,.none,.bool false,.none] }:=Pu _ ho rfl;have I3:=Inv.write (o:=ErrO e C (some hh.objs.size)) (t':=tk') I2 (by rw[he];trivial) A6 hmk (Bb hme) (zq8 (Bb hme));have hkk:∀b u,Cj (hh.update e λo=>(GB hh.objs.size)) b u->AJ b u:=λb u z=>by
  by_cases hb:b=e;.subst hb;rw[hme] at z;cases z;exact hget
  .have z2:=(pB _ _ _ _ hb).symm.trans z;exact hk b u hb z2
 have hsz:(hh.update e λo=>(GB hh.objs.size)).objs.size<=hh.objs.size:=by simp[Heap.update]
 have I4:=Inv.laid (a:=hh.objs.size) (o:=.xd [(f,y)]) (t':=tk') I3 hkk hsz (Ar hns (λn=>?_));.exact⟨σ,_,I4,q2 _ (I2.hok.fresh Az) hes.symm⟩
 .by_cases hn:n=f;.subst hn;simp[Nj];exact ry
  .have:Be n f:=by simpa using hn
   simp[Nj,this,hn];trivial
end
end L2
namespace L2
open PySem
noncomputable def RI(M:Nf)(Γ:_root_.PySem.Ctx)(p:Pos)(s:Ke)(e:End)(s':Ke):Aq (Sem V2)
 | .pure (.done f)=>e= .ret (.ok f)/\s'=s
 | .raise x=>e= .ret (.error x)/\s'=s
 | .yield v g l k=>e= .susp v g l k Γ.code p []/\s'=s
 | .pure (.again c)=>_root_.PySem.Runs M (Γ.goto c) p (M.den c) [] s e s'
 | .rule _ k=>_root_.PySem.Runs M Γ p (k ()) [] s e s'
 | .at p' k=>_root_.PySem.Runs M Γ p' (k ()) [] s e s'
 | .load a _ k=>∃o,AI a/\_root_.PySem.Runs M Γ p (k o) [] s e s'
 | .update a _ f k=>_root_.PySem.Runs M Γ p (k ()) [] { s with heap:=s.heap.update a f } e s'
 | .loadIfAlive a k=>_root_.PySem.Runs M Γ p (k (s.heap.get? a)) [] s e s'
 | .point _ k=>_root_.PySem.Runs M Γ p (k ()) [] s e s'
 | .alloc o k=>_root_.PySem.Runs M Γ p (k s.heap.objs.size) [] { s with heap:=s.heap.push o } e s'
 | .fresh k=>_root_.PySem.Runs M Γ p (k s.toks) [] (FZ s.toks 1) e s'
 | .ask k=>_root_.PySem.Runs M Γ p (k ⟨M.prog,M.w.params⟩) [] s e s'
 | .choose src n k=>_root_.PySem.Runs M Γ p (k (M.w.draws src (s.drawn.get src) % n)) [] { s with drawn:=s.drawn.bump src } e s'
 | .os q _ k=>_root_.PySem.Runs M Γ p (k (Os.step s.os q).2) [] { s with os:=(Os.step s.os q).1 } e s'
 | .handled own k=>_root_.PySem.Runs M Γ p (k (if own then Γ.own else Γ.handled)) [] s e s'
 | .genState g k=>∃st,AM s.gens g st/\_root_.PySem.Runs M Γ p (k st.seen) [] s e s'
 | .stack k=>_root_.PySem.Runs M Γ p (k ((Γ.code,p)::Γ.below)) [] s e s'
 | .thread k=>_root_.PySem.Runs M Γ p (k 0) [] s e s'
 | .newGen c k=>_root_.PySem.Runs M Γ p (k s.gens.size) [] { s with gens:=s.gens.push (.fresh c) } e s'
 | .call c h g l k=>(∃r s₁,_root_.PySem.Runs M (Γ.enter c h p) p (M.den c) [] s (.ret r) s₁/\_root_.PySem.Runs M Γ p (k r) [] s₁ e s') \/
   ∃v g₀ l₀ k₀ c₀ p₀ fs,_root_.PySem.Runs M (Γ.enter c h p) p (M.den c) [] s (.susp v g₀ l₀ k₀ c₀ p₀ fs) s'/\e= .susp v g₀ l₀ k₀ c₀ p₀ (fs++[.ret k h g l Γ.code p []])
 | .resume g r _ k=>∃res s₁,Oa M Γ p g r s res s₁/\_root_.PySem.Runs M Γ p (k res) [] s₁ e s'
 | _=>False
theorem sS{M:Nf}{Γ:_root_.PySem.Ctx}{p:Pos}{g:Nat}{v:Ka}{s s':Ke}{res:GenResult}{c:Code}(e1:AM s.gens g (.fresh c))(hv:v ≠ .none):Oa M Γ p g (.send v) s res s'↔res= .justStarted/\s'=s:=by
 unfold Oa;rw[e1];cases v with
 | none=>exact Fp hv
 | _=>exact lD
theorem Ru{M:Nf}{Γ:_root_.PySem.Ctx}{p:Pos}{t:Sem V2}{s s':Ke}{e:End}(h:_root_.PySem.Runs M Γ p t [] s e s'):RI M Γ p s e s' t:=by
 cases h with
 | load e1 r=>exact(Ar e1 r)
 | genState e1 r=>exact(Ar e1 r)
 | call a b=>exact .inl ⟨_,_,a,b⟩
 | callSusp a=>exact .inr ⟨_,_,_,_,_,_,_,a,rfl⟩
 | done=>exact De
 | raise=>exact De
 | yield=>exact De
 | resumeFresh e1 a q b=>exact⟨_,_,by unfold Oa;rw[e1];exact⟨_,_,a,q,rfl,rfl⟩,b⟩
 | resumeSuspended e1 a q b=>exact⟨_,_,by unfold Oa;rw[e1];exact⟨_,_,a,q,rfl,rfl⟩,b⟩
 | resumeJustStarted e1 n b=>exact⟨_,_,(sS e1 n).mpr De,b⟩
 | resumeThrowFresh e1 b=>exact⟨_,_,by unfold Oa;rw[e1];exact⟨rfl,rfl⟩,b⟩
 | resumeRunning e1 b=>exact⟨_,_,by unfold Oa;rw[e1];exact⟨rfl,rfl⟩,b⟩
 | resumeFinished e1 b=>exact⟨_,_,by unfold Oa;rw[e1];exact⟨rfl,rfl⟩,b⟩
 | again _ r=>exact r
 | update _ r=>exact r
 | choose _ r=>exact r
 | rule r=>exact r
 | «at» r=>exact r
 | loadIfAlive r=>exact r
 | point r=>exact r
 | alloc r=>exact r
 | fresh r=>exact r
 | ask r=>exact r
 | os r=>exact r
 | handled r=>exact r
 | stack r=>exact r
 | thread r=>exact r
 | newGen r=>exact r
noncomputable def SG(M:Nf)(Γ:_root_.PySem.Ctx)(p:Pos)(t:Sem V2)(F:Frame)(fs:List Frame)(s:Ke)(e:End)(s':Ke):Prop :=
  (∃k h' g l c₁ p₁ kp r s₁,F= .ret k h' g l c₁ p₁ kp/\_root_.PySem.Runs M (Γ.over (F::fs)) p t [] s (.ret r) s₁/\_root_.PySem.Runs M (Γ.goto c₁) p₁ (k r) fs s₁ e s') \/
  (∃g k l c₁ p₁ r s₁,F= .gen g k l c₁ p₁/\_root_.PySem.Runs M (Γ.over (F::fs)) p t [] s (.ret r) s₁/\_root_.PySem.Runs M (Γ.goto c₁) p₁ (k (End.ret r).result) fs (s₁.setGen g .finished) e s') \/
  (∃v g₀ l₀ k₀ c₀ p₀ fs₀,splitAtGen (F::fs)=none/\_root_.PySem.Runs M (Γ.over (F::fs)) p t [] s (.susp v g₀ l₀ k₀ c₀ p₀ fs₀) s'/\e= .susp v g₀ l₀ k₀ c₀ p₀ (fs₀++F::fs)) \/
  ∃pre g k c₁ p₁ rest v g₀ l₀ k₀ c₀ p₀ fs₀ s₁,Ab (splitAtGen (F::fs)) (pre,(g,k,c₁,p₁),rest)/\_root_.PySem.Runs M (Γ.over (F::fs)) p t [] s (.susp v g₀ l₀ k₀ c₀ p₀ fs₀) s₁/\_root_.PySem.Runs M (Γ.goto c₁) p₁ (k (.yielded v)) rest (s₁.setGen g (End.susp v g₀ l₀ k₀ c₀ p₀ (fs₀++pre)).genState) e s'
theorem sU{M:Nf}{Γ:_root_.PySem.Ctx}{p:Pos}{t:Sem V2}{F:Frame}{fs:List Frame}{s s':Ke}{e:End}(h:_root_.PySem.Runs M Γ p t (F::fs) s e s'):SG M Γ p t F fs s e s':=by
 cases h with
 | segRet a b=>exact .inl ⟨_,_,_,_,_,_,_,_,_,rfl,a,b⟩
 | segGen a b=>exact .inr (.inl ⟨_,_,_,_,_,_,_,rfl,a,b⟩)
 | segSuspOut n a=>exact FC (.inl ⟨_,_,_,_,_,_,_,n,a,rfl⟩)
 | segSuspGen n a _ b=>exact FC (.inr ⟨_,_,_,_,_,_,_,_,_,_,_,_,_,_,n,a,b⟩)
theorem zou{M:Nf}{Γ:_root_.PySem.Ctx}{p:Pos}{t:Sem V2}{fs:List Frame}{s s':Ke}{e:End}(h:_root_.PySem.Runs M Γ p t fs s e s') :
  ∀{e2 s2},_root_.PySem.Runs M Γ p t fs s e2 s2->e2=e/\s2=s':=by
 induction h with
 | done | raise | yield=>exact λh2=>Ru h2
 | again _ _ ih | update _ _ ih | choose _ _ ih=>exact λh2=>ih (Ru h2)
 | rule _ ih | «at» _ ih | loadIfAlive _ ih | point _ ih | alloc _ ih | fresh _ ih | ask _ ih | os _ ih | handled _ ih | stack _ ih | thread _ ih | newGen _ ih=>exact λh2=>ih (Ru h2)
 | load e1 _ ih =>
  intro e2 s2 h2;obtain⟨o,e3,r⟩:=Ru h2;cases e1.symm.trans e3;exact ih r
 | genState e1 _ ih =>
  intro e2 s2 h2;obtain⟨o,e3,r⟩:=Ru h2;cases e1.symm.trans e3;exact ih r
 | call _ _ i1 i2 =>
  intro e2 s2 h2;rcases Ru h2 with ⟨r,s1,a,b⟩ | ⟨v,g0,l0,k0,c0,p0,fs,a,_⟩;.obtain⟨q,rfl⟩:=i1 a;cases q;exact i2 b
  .cases (i1 a).1
 | callSusp _ i1 =>
  intro e2 s2 h2;rcases Ru h2 with ⟨r,s1,a,b⟩ | ⟨v,g0,l0,k0,c0,p0,fs,a,e3⟩;.cases (i1 a).1
  .obtain⟨q,rfl⟩:=i1 a;cases q;exact(AY e3)
 | resumeFresh e1 _ _ _ i1 i2 =>
  intro e2 s2 h2;obtain⟨res,s1,w,r⟩:=Ru h2;unfold Oa at w;rw[e1] at w;obtain⟨e3,s3,a,_,rfl,rfl⟩:=w;obtain⟨rfl,rfl⟩:=i1 a;exact i2 r
 | resumeSuspended e1 _ _ _ i1 i2 =>
  intro e2 s2 h2;obtain⟨res,s1,w,r⟩:=Ru h2;unfold Oa at w;rw[e1] at w;obtain⟨e3,s3,a,_,rfl,rfl⟩:=w;obtain⟨rfl,rfl⟩:=i1 a;exact i2 r
 | resumeJustStarted e1 n1 _ i1 =>
  intro e2 s2 h2;obtain⟨res,s1,w,r⟩:=Ru h2;obtain⟨rfl,rfl⟩:=(sS e1 n1).mp w;exact i1 r
 | resumeThrowFresh e1 _ i1 | resumeRunning e1 _ i1 | resumeFinished e1 _ i1 =>
  intro e2 s2 h2;obtain⟨res,s1,w,r⟩:=Ru h2;unfold Oa at w;rw[e1] at w;obtain⟨rfl,rfl⟩:=w;exact i1 r
 | segRet _ _ i1 i2 =>
  intro e2 s2 h2;rcases sU h2 with ⟨k,h',g,l,c1,p1,kp,r,s1,q,a,b⟩ | ⟨g,k,l,c1,p1,r,s1,q,_⟩ | ⟨v,g0,l0,k0,c0,p0,f0,n,a,_⟩ | ⟨pre,g,k,c1,p1,rest,v,g0,l0,k0,c0,p0,f0,s1,n,a,_⟩;.cases q;obtain⟨q,rfl⟩:=i1 a;cases q;exact i2 b
  .cases q
  .cases (i1 a).1
  .cases (i1 a).1
 | segGen _ _ i1 i2 =>
  intro e2 s2 h2;rcases sU h2 with ⟨k,h',g,l,c1,p1,kp,r,s1,q,_⟩ | ⟨g,k,l,c1,p1,r,s1,q,a,b⟩ | ⟨v,g0,l0,k0,c0,p0,f0,n,a,_⟩ | ⟨pre,g,k,c1,p1,rest,v,g0,l0,k0,c0,p0,f0,s1,n,a,_⟩;.cases q
  .cases q;obtain⟨q,rfl⟩:=i1 a;cases q;exact i2 b
  .cases (i1 a).1
  .cases (i1 a).1
 | segSuspOut n1 _ i1 =>
  intro e2 s2 h2;rcases sU h2 with ⟨k,h',g,l,c1,p1,kp,r,s1,q,a,b⟩ | ⟨g,k,l,c1,p1,r,s1,q,a,b⟩ | ⟨v,g0,l0,k0,c0,p0,f0,n,a,e3⟩ | ⟨pre,g,k,c1,p1,rest,v,g0,l0,k0,c0,p0,f0,s1,n,a,_⟩;.cases (i1 a).1
  .cases (i1 a).1
  .obtain⟨q,rfl⟩:=i1 a;cases q;exact(AY e3)
  .rw[n1] at n;cases n
 | segSuspGen n1 _ _ _ i1 i2 =>
  intro e2 s2 h2;rcases sU h2 with ⟨k,h',g,l,c1,p1,kp,r,s1,q,a,b⟩ | ⟨g,k,l,c1,p1,r,s1,q,a,b⟩ | ⟨v,g0,l0,k0,c0,p0,f0,n,a,e3⟩ | ⟨pre,g,k,c1,p1,rest,v,g0,l0,k0,c0,p0,f0,s1,n,a,b⟩;.cases (i1 a).1
  .cases (i1 a).1
  .rw[n1] at n;cases n
  .rw[n1] at n;cases n;obtain⟨q,rfl⟩:=i1 a;cases q;exact i2 b
theorem zye{M:Nf}{Γ:_root_.PySem.Ctx}{p:Pos}{g:Nat}{r:Resume}{s s' s2:Ke}{res res2:GenResult}(h:Oa M Γ p g r s res s')(h2:Oa M Γ p g r s res2 s2):res2=res/\s2=s':=by
 cases hg:s.gens[g]? with
 | none=>unfold Oa at h;rw[hg] at h;exact h.elim
 | some gs =>
  cases gs with
  | fresh c =>
   cases r with
   | send v =>
    by_cases hv:v= .none
    .subst hv;unfold Oa at h h2;rw[hg] at h h2;obtain⟨e1,s1,h1,_,rfl,rfl⟩:=h;obtain⟨e3,s3,h3,_,rfl,rfl⟩:=h2;obtain⟨rfl,rfl⟩:=zou h1 h3;exact De
    .obtain⟨rfl,rfl⟩:=(sS hg hv).mp h;exact(sS hg hv).mp h2
   | throw x =>
    unfold Oa at h h2;rw[hg] at h h2;obtain⟨rfl,rfl⟩:=h;exact h2
  | suspended k0 _ c0 p0 fs _ =>
   unfold Oa at h h2;rw[hg] at h h2;obtain⟨e1,s1,h1,_,rfl,rfl⟩:=h;obtain⟨e3,s3,h3,_,rfl,rfl⟩:=h2;obtain⟨rfl,rfl⟩:=zou h1 h3;exact De
  | running =>
   unfold Oa at h h2;rw[hg] at h h2;obtain⟨rfl,rfl⟩:=h;exact h2
  | finished =>
   unfold Oa at h h2;rw[hg] at h h2;obtain⟨rfl,rfl⟩:=h;exact h2
theorem ygb{α:Type}{M:Nf}{Γ:_root_.PySem.Ctx}{Q Q':α->Pos->Af}{E E':Ka->Pos->Af}(t:Sem α):∀(p:Pos) (s:Ke),Yax M Γ t Q E p s->Yax M Γ t Q' E' p s ->
  Yax M Γ t (λa p s=>Q a p s/\Q' a p s) (λe p s=>E e p s/\E' e p s) p s:=by
 induction t with
 | pure x=>exact λp s h h'=>⟨h,h'⟩
 | raise v=>exact λp s h h'=>⟨h,h'⟩
 | unsupported | finish | yield | fork | await | register=>exact λp s h h'=>h
 | rule _ k ih | «at» _ k ih | alloc _ k ih | loadIfAlive _ k ih | point _ k ih | ask k ih | os _ _ k ih | handled _ k ih | newGen _ k ih | stack k ih | thread k ih | fresh k ih=>exact λp s h h'=>ih _ _ _ h h'
 | load a _ k ih | genState a k ih=>exact λp s ⟨o,ho,h⟩ ⟨o',ho',h'⟩=>by rw[ho] at ho';cases ho';exact⟨o,ho,ih _ _ _ h h'⟩
 | update a _ f k ih | choose _ _ k ih=>exact λp s ⟨ha,h⟩ ⟨_,h'⟩=>⟨ha,ih _ _ _ h h'⟩
 | call c h g l k ih=>exact λp s ⟨r,s1,h1,h2⟩ ⟨r',s1',h1',h2'⟩=>by obtain⟨q,rfl⟩:=zou h1 h1';cases q;exact⟨_,_,h1,ih _ _ _ h2 h2'⟩
 | resume g r l k ih=>exact λp s ⟨res,s1,hw,h⟩ ⟨res',s1',hw',h'⟩=>by obtain⟨rfl,rfl⟩:=zye hw hw';exact⟨_,_,hw,ih _ _ _ h h'⟩
theorem Ws{α:Type}{t:Sem α}{Q Q':α->Af}{M:Nf}{A:Ks}{E E':Ka->Af}{s:Ke}(h:Kw M A t Q E s)(h':Kw M A t Q' E' s):Kw M A t (λa s=>Q a s/\Q' a s) (λe s=>E e s/\E' e s) s :=
 λΓ p hΓ=>ygb t p s (h Γ p hΓ) (h' Γ p hΓ)
end L2
namespace L2
open PySem PySem.W PySem.Spec PyProof.Rows
noncomputable def fld2(o:Obj):A4:=match o.data with
 | .fields vs=>vs[2]?
 | _=>none
noncomputable def DK(h h':Heap):Prop:=∀b o,AE b o-> ∃o',AJ b o'/\o'.dict=o.dict/\fld2 o'=fld2 o
theorem DK.trans{h1 h2 h3:Heap}(x:DK h1 h2)(y:DK h2 h3):DK h1 h3:=λb o e=>by
 obtain⟨o1,e1,q1,r1⟩:=x b o e;obtain⟨o2,e2,q2,r2⟩:=y b o1 e1;exact⟨o2,e2,q2.trans q1,r2.trans r1⟩
theorem ygg(h:Heap)(o:Obj):DK h (h.push o):=λb u e=>(Bh u (A0 e) rfl)
theorem zl8(g:BT->BT)(o:Obj):(Uu g o).dict=o.dict:=by
 obtain⟨c,d,da,sl⟩:=o;cases da <;> rfl
theorem zkz{h:Heap}{a:Addr}{o:Obj}{vs:BT}(k:Nat)(v:Ka)(ho:AE a o)(hd:o.data= .fields vs)(hk:k≠2):DK h (h.update a (Uu (·.setIfInBounds k v))):=λb u e=>by
 by_cases hb:b=a
 .subst hb;rw[ho] at e;cases e;have hg:=Tq hd (·.setIfInBounds k v);refine⟨_,Pu (Uu (·.setIfInBounds k v)) ho (aB hg),zl8 _ o,?_⟩;unfold fld2;rw[hg,hd];show(vs.setIfInBounds k v)[2]? = vs[2]?;exact Array.getElem?_setIfInBounds_ne hk
 .exact(Bh u ((Pa _ _ (K7 hb)).trans e) rfl)
section
variable{M:Nf}{A:Ks}{E:Ka->Ke->Prop}{s:Ke}{B:Heap}{env:Env}{outer:List Env}{L e:Addr}
theorem zu3{oe:Obj}{vs:BT}{head:Ka}{hn:Bool}(q1:Ab A.frames (env::outer))(q2:s.heap.FunFrames B (env::outer))(q3:Ab env.frame L)(q4:Cp e oe)(q5:oe.data= .fields vs)(q6:1<vs.size) :
  Kw M A (do let a <- frameOf env;let pl <- entryPlaceOf L hn;let b <- Zsu head a .none (Ma L) .none pl;setField Cn 1 b) (λ_ s'=>DK s.heap s'.heap) E s:=by
 have ne:e∉(env::outer).filterMap (·.frame):=λz=>by
  obtain⟨_,o,ho,nf⟩:=q2.mem z;rw[q4] at ho;cases ho;exact nf vs q5
 refine Kc (wpAny_frameOf_fun q1 q2 q3 λg kk=>Kc (wpAny_entryPlaceOf λpl hp=>?_));unfold Zsu Zzy;have k1:DK s.heap g:=λb o z=>by obtain⟨sl,z2⟩:=kk.2.2 b o z;exact⟨_,z2,rfl,rfl⟩
 have k2:Ab (g.get? e) oe:=(kk.2.1 e ne).trans q4;exact Kc (Pq (Rf (A0 k2) q5 q6 (k1.trans ((ygg _ _).trans (zkz _ _ (A0 k2) q5 (by decide))))) (hp.sizeOk5 _ _ _ _ _))
theorem yce{oe:Obj}{vs:BT}(q1:Ab A.frames (env::outer))(q2:s.heap.FunFrames B (env::outer))(q3:Ab env.frame L)(q4:Cp e oe)(q5:oe.data= .fields vs)(q6:AM vs 1 .none) :
  Kw M A (Ri Cn env) (λ_ s'=>DK s.heap s'.heap) E s:=by
 unfold Ri;simp only[q3];refine Kc (Rh q4 q5 q6 ?_);rw[if_neg (by decide)];exact zu3 q1 q2 q3 q4 q5 (RG.mp q6).1
theorem zuq{C a0:Ka}(q1:Ab A.frames (env::outer))(q2:s.heap.FunFrames B (env::outer))(q3:Ab env.frame L)(q4:s.heap.TracedW B e C a0):Kw M A (Ri Cn env) (λ_ s'=>DK s.heap s'.heap) E s:=by
 obtain⟨oe,vs,T,oT,ts,he,⟨_,_⟩,hd,h1,hnT,hTe,hT,hdT,h3⟩:=q4;unfold Ri;simp only[q3];refine Kc (Rh he hd h1 ?_);rw[if_pos (by simp)];refine Kc (Rh hT hdT h3 ?_);rw[if_neg (by simp[Ma])];have k1:=zkz 3 Lz hT hdT (by decide);refine Kc (Rf hT hdT (RG.mp h3).1 ?_);have oth:∀b,b≠T->(s.heap.update T (Uu (·.setIfInBounds 3 Lz))).get? b=s.heap.get? b:=λb hb=>Pa _ _ (K7 hb);have nr:∀b o,AI b->(∀vs,o.data ≠ .fields vs)->b≠T:=λb o hb nf q=>by rw[q,hT] at hb;cases hb;exact nf ts hdT
 exact thn (zu3 q1 (q2.of_keeps λb o hb nf=>(Dm o ((oth b (nr b o hb nf)).trans hb))) q3 ((oth e (K7 hTe)).trans he) hd (RG.mp h1).1) λ_ _ k=>k1.trans k
theorem zwx{C a0 fl:Ka}(q4:s.heap.TracedAtW B e C a0 fl):Kw M A (XH Cn none) (λ_ s'=>DK s.heap s'.heap) E s:=by
 obtain⟨oe,vs,T,oT,ts,he,_,hd,h1,_,_,hT,hdT,h3⟩:=q4;unfold XH;refine Kc (Rh he hd h1 ?_);rw[if_pos (by simp)];exact Rf hT hdT (RG.mp h3).1 (zkz _ _ hT hdT (by decide))
end
noncomputable def yac(c:Bool)(h:Heap)(e:Addr)(dd:CB):Prop:=∃o,AE e o/\o.dict=dd/\(Aa c->Ab (fld2 o) .none)
theorem DK.is{c:Bool}{h h':Heap}{e:Addr}{dd:CB}(k:DK h h')(x:yac c h e dd):yac c h' e dd:=by
 obtain⟨o,e1,q,r⟩:=x;obtain⟨o',e2,q2,r2⟩:=k e o e1;exact⟨o',e2,q2.trans q,λz=>r2.trans (r z)⟩
section
variable{M:Nf}{A:Ks}{E:Ka->Ke->Prop}{s:Ke}{B:Heap}{env:Env}{outer:List Env}{L e:Addr}{C a0:Ka}{Q:Unit->Ke->Prop}
theorem zs2{h0:Heap}{m:Sem Unit}(hm:Kw M A m (λ_ s'=>(∃fl,s'.heap.TracedAtW B e C a0 fl)/\DK h0 s'.heap) E s):Kw M A (m >>= λ_=>XH Cn none) (λ_ s'=>DK h0 s'.heap) E s :=
 Kc (D2 hm (λ_ s1 ⟨⟨fl,t⟩,k⟩=>D2 (zwx t) (λ_ _ k2=>k.trans k2) z) z)
theorem zwj(q1:Ab A.frames (env::outer))(q3:Ab env.frame L)(fl:QK B (env::outer) e C a0 s.heap)(h:∀h',QK B outer e C a0 h'->Gf->DK s.heap h'->ED ()) :
  Kw M A (leaving env Cn) Q E s:=by
 obtain⟨f1,f2,f3,f4⟩:=id fl;refine D2 (Ws (wpAny_leaves_onW (Q:=λ_ s'=>∃h',s'={ s with heap:=h' }/\QK B outer e C a0 h'/\Gf) (E:=E) q1 q3 fl λh' a b=>⟨h',rfl,a,b⟩) (zs2 (E:=E) (m:=Ri Cn env)
  (D2 (Ws (wpAny_noteFrame_onW (Q:=λ_ s'=>∃fl,s'.heap.TracedAtW B e C a0 fl) (E:=E) q1 f3 q3 f4 f1 f2 λh' n=>(Bb n.2.2.1)) (zuq (E:=E) q1 f3 q3 f4)) (λ_ _ z=>z) z.1))) (λ_ s' z=>?_) z.1;obtain⟨⟨h',rfl,a,b⟩,k⟩:=z;exact h h' a b k
theorem zm7{oe:Obj}{vs:BT}(q1:Ab A.frames (env::outer))(q2:s.heap.FunFrames B (env::outer))(q3:Ab env.frame L)(q4:Cp e oe)(qb:B.StaysIn s.heap)(qe:B.get? e=none)(q5:oe.data= .fields vs)(q6:AM vs 1 .none)
  (q7:AM vs 0 a0) (h:∀h',QK B outer e oe.cls a0 h'->Gf->DK s.heap h'->ED ()):Kw M A (leaving env Cn) Q E s:=by
 refine D2 (Ws (wpAny_leaving_firstW (Q:=λ_ s'=>∃h',s'={ s with heap:=h' }/\Heap.LeftW B (env::outer) e oe.cls a0 s.heap h') (E:=E) q1 q2 q3 q4 qb qe q5 q6 q7 λh' a=>(By h' a)) (zs2 (E:=E) (C:=oe.cls) (a0:=a0) (B:=B) (m:=Ri Cn env)
  (D2 (Ws (Q:=λ_ s'=>∃fl,s'.heap.TracedAtW B e oe.cls a0 fl) (E:=E) ?_ (yce (E:=E) q1 q2 q3 q4 q5 q6)) (λ_ _ z=>z) z.1))) (λ_ s' z=>?_) z.1
 .unfold Ri;simp only[q3];refine Kc (Rh q4 q5 q6 ?_);rw[if_neg (by decide)];exact wpAny_entryW q1 q2 q3 q4 qb qe q5 (RG.mp q6).1 q7 λh' n=>(Bb n.2.2.1)
 .obtain⟨⟨h',rfl,k1,⟨_,_,k2⟩,k3,k4⟩,k⟩:=z;exact h h' ⟨k1,qe,k2,k3⟩ k4 k
theorem zwt(q1:Ab A.frames (env::outer))(q3:Ab env.frame L)(fl:QK B (env::outer) e C a0 s.heap)(h:∀h',Zvl B (env::outer) e C a0 L h'->Gf->DK s.heap h'->ED ()) :
  Kw M A (Ri Cn env) Q E s:=by
 refine D2 (Ws (wpAny_looks_onW (Q:=λ_ s'=>∃h',s'={ s with heap:=h' }/\Zvl B (env::outer) e C a0 L h'/\Gf) (E:=E) q1 q3 fl λh' a b=>⟨h',rfl,a,b⟩) (zuq (E:=E) q1 fl.2.2.1 q3 fl.2.2.2)) (λ_ s' z=>?_) z.1;obtain⟨⟨h',rfl,a,b⟩,k⟩:=z;exact h h' a b k
theorem yip{l:List Env}(hh:Zvl B l e C a0 L s.heap)(h:∀h',QK B l e C a0 h'->Gf->DK s.heap h'->ED ()):Kw M A (XH Cn none) Q E s:=by
 refine D2 (Ws (wpAny_landsW (Q:=λ_ s'=>∃h',s'={ s with heap:=h' }/\QK B l e C a0 h'/\Gf) (E:=E) hh λh' a b=>⟨h',rfl,a,b⟩) (zwx (E:=E) hh.2.2.2)) (λ_ s' z=>?_) z.1;obtain⟨⟨h',rfl,a,b⟩,k⟩:=z;exact h h' a b k
end
noncomputable def CXB(c:Bool)(P:Ko)(w:Km):CXT:=λouter H s E e s'=>∃(x C:Addr) (a0:Ka) (B:Heap) (H':Hp) (dd:CB),e= BB/\s'.os=s.os/\RZ s'.gens/\Un (frs outer) [] H H' s.heap s'.heap/\HOk P w H' s'.heap /\
 QK B outer x AG a0 s'.heap/\(∀b o,AI b->b∉frs outer-> ∃o',Ab (B.get? b) o')/\(∀b u,Ab (H' b) u-> ∃o',Ab (B.get? b) o')/\s.heap.get? x=none/\H' x=none/\yac c s'.heap x dd/\E AG dd H'
noncomputable abbrev CX2:=CXB false
noncomputable def del(H:Hp)(e:Addr):Hp:=λb=>if b=e then none else H b
theorem sV{H:Hp}{e:Addr}:del H e e=none:=by unfold del;rw[if_pos rfl]
theorem T6{H:Hp}{e b:Addr}(h:b≠e):del H e b=H b:=by unfold del;rw[if_neg h]
theorem zty{H:Hp}{e b:Addr}{u:HO}(h:Ab (del H e b) u):b≠e/\Aw b u:=by
 by_cases hb:b=e;.rw[hb,sV] at h;cases h
 .rw[T6 hb] at h;exact⟨hb,h⟩
section
variable{c:Bool}{P:Ko}{w:Km}{K:Kd}{mg:Str->Option Ka}{base:Heap}{N:List Str}{qual:Str}{scope:Scope}{f:Addr}{cd:Ka}{A:Ks}{outer:List Env}{s:Ke}{H:Hp}{E:XK}
theorem Un.del{fs:Bp}{H H1:Hp}{h h2:Heap}{e:Addr}(U:Un fs [] H H1 h h2)(he:H e=none):Un fs [] H (L2.del H1 e) h h2 where
 keep:=U.keep
 slot:=U.slot
 free:=λb o q n hx=>by
  by_cases hb:b=e;.rw[hb];exact sV
  .rw[T6 hb];exact U.free b o q n hx
 there:=U.there
 tups:=λb xs q=>by rw[T6 (Lp q he)];exact U.tups b xs q
 frzs:=λb o u q=>by rw[T6 (Lp q he)];exact U.frzs b o u q
 tbls:=λb ps q=>by obtain⟨m,z⟩:=U.tbls b ps q;exact⟨m,by rw[T6 (Lp q he)];exact z⟩
theorem HOk.del{H:Hp}{h:Heap}{e:Addr}{φ:Aq Heap}(hok:HOk P w H h)(he:Aw e (.ext φ)):HOk P w (L2.del H e) h:=λb u q=>by
 obtain⟨hb,q⟩:=zty q;refine(hok b u q).stay (λ_ _ _ z=>z) (λc z=>?_) (λc xs z=>?_) λc o u z=>by rw[T6 (pM z he (by intro z;cases z))];exact z
 .rw[T6 (pM z he (by intro z;cases z))];exact z
 .rw[T6 (pM z he (by intro z;cases z))];exact z
theorem ykz:R7 (CXB c P w) (cxOf (CXB c P w) P w K mg base N qual scope f cd A outer s H E) E:=by
 intro pins σ H1 s1 e s2 I h;obtain⟨x,C,a0,B,H2,dd,rfl,os,bare,U,hok,fl,c1,c2,nx,hx,di,q⟩:=h;have J:=I.call' (ch:=[]) os U hok bare (λb z=>nomatch z);have thr:∀b o,AI b-> ∃o1,Ab (s1.heap.get? b) o1:=λb o e=>I.base.there b o e (λz=>nomatch z);have nf:∀b o,AI b->b∉frs outer->b∉frs (Dz qual scope f cd::outer):=λb o e hb z=>by
  have z:b∈s.heap.objs.size::frs outer:=z;rcases KH.mp z with z | z;.exact absurd Bv (by rw[z];exact Vq _)
  .exact hb z
 have c3:∀b o,AI b->b∉frs outer-> ∃o',Ab (B.get? b) o':=λb o e hb=>by
  obtain⟨o1,e1⟩:=thr b o e;exact c1 b o1 e1 (nf b o e hb)
 refine zwj I.ok.frames rfl fl λh3 fl3 up dk=>?_;refine⟨x,C,a0,B,H2,dd,rfl,os.trans I.os,bare,?_,hok.fly c2 fl.1 fl3.1,fl3,c3,c2,?_,hx,dk.is di,q⟩;.exact Un.fly (B:=B) J.base fl.1 fl3.1 c3 up λb hb=>(fl.2.2.1.mem (b:=b) (AS hb)).2
 .cases e:s.heap.get? x with
  | none=>rfl
  | some o =>
   obtain⟨o1,e1⟩:=thr x o e;have e1:Ab (s1.heap.get? x) o1:=e1;rw[nx] at e1;cases e1
end
noncomputable def ybq(h:Heap)(C:Addr)(bm:Am):Prop:=∃nm q N bs hdct sn sub ab col dd k0 k1 k2 k3 k5 newId,AE C (nU nm q C N bs bm hdct sn sub ab col dd k0 k1 k2 k3 k5 newId)
section
variable{M:Nf}{A:Ks}{E:Ka->Ke->Prop}{env:Env}
theorem zwd{s:Ke}{x:Sem Ka}{Q:Flow->Af}(hh:DN)
  (h:Kw M A x (λv s1=>∃e t de C bm,v= Cn/\ybq s1.heap C bm/\Aa (bm.contains (.type "BaseException")) /\
   Ab (s1.heap.get? e) { cls:=AG,dict:=de,data:=.fields #[t,.none,.none,.none,.bool false,.none] }/\E Cn s1) E s) :
  Kw M A (Zzw env (some x) none) Q E s:=by
 unfold Zzw;refine Kc (Nu h (λv s1 h1=>?_) λ_ _ x=>x);obtain⟨e,t,de,C,bm,rfl,⟨_,_,_,_,_,_,_,_,_,_,_,_,_,_,_,_,hC⟩,hb,he,hE⟩:=h1;have hB:Aa ((KJ C::bm).contains (.type "BaseException")):=by rw[List.contains_cons,hb,Bool.or_true]
 obtain⟨hp,g,d,tk,os⟩:=s1;repeat (first | with_reducible refine ZR he ?_ | with_reducible refine ZR hC ?_ | (with_reducible refine Zws hC ?_;rw[hB]) | wp_step)
 exact wpAny_raiseNew_none hh hE
end
noncomputable def zwq(K:Kd)(E:XK)(Hz:Hp)(te:TE):TS:=λ_ σ H=>te σ H λv H1=>∃e C dd,v= Cn/\Ab (H1 e) (ErrO e C dd)/\Hz e=none/\(∃fI,Wr K C fI)/\E AG dd (del H1 e)
section
variable{c:Bool}{P:Ko}{w:Km}{K:Kd}{mg:Str->Option Ka}{base:Heap}{N:List Str}{qual:Str}{scope:Scope}{f:Addr}{cd:Ka}{A:Ks}{outer:List Env}{s:Ke}{H:Hp}{E:XK}
theorem ygf{pins:A7}{σ:St}{H2:Hp}{s2:Ke}{e C:Addr}{dd:CB}{oe:Obj}{vs:BT}{φ:Aq Heap}{a0:Ka}(I2:Fh (cxOf (CXB c P w) P w K mg base N qual scope f cd A outer s H E) σ H2 s2)(he:Ab (H2 e) (.ext φ))(hn:H e=none)
  (ho:Ab (s2.heap.get? e) oe) (hc:oe.cls= AG) (hd:oe.dict=dd) (hv:oe.data= .fields vs) (h1:AM vs 1 .none) (h0:AM vs 0 a0) (h2:Aa c->AM vs 2 .none) (q:E AG dd (del H2 e)) :
  (cxOf (CXB c P w) P w K mg base N qual scope f cd A outer s H E).xe Cn s2:=by
 have thr:∀b o,AI b-> ∃o1,Ab (s2.heap.get? b) o1:=λb o e=>I2.base.there b o e (λz=>nomatch z);have stk:s2.heap.FunFrames base (Dz qual scope f cd::outer):=I2.stack;have nx:s.heap.get? e=none:=by
  cases z:s.heap.get? e with
  | none=>rfl
  | some o =>
   have:=I2.base.free e o z hn (λz=>nomatch z);rw[he] at this;cases this
 generalize hfr:(Zmt qual scope s.heap.objs.size f cd::outer).filterMap (·.frame)=fr;have hin:∀env∈(Dz qual scope f cd::outer),∀b,Ab env.frame b->b∈e::fr:=λenv hz b hb=>AS (by rw[<- hfr];exact ZD.mpr ⟨env,hz,hb⟩);have hfs:frs (Dz qual scope f cd::outer)=fr:=hfr;generalize hB:hideAll s2.heap (e::fr)=B;have bst:B.StaysIn s2.heap:=λb o e=>by rw[<- hB] at e;exact of_hideAll _ e
 have bget:∀b o,Ab (s2.heap.get? b) o->b∉e::fr->Ab (B.get? b) o:=λb o e hb=>by rw[<- hB];exact hideAll_get _ e hb
 have bff:s2.heap.FunFrames B (Dz qual scope f cd::outer):=by rw[<- hB];exact funFrames_hide stk hin
 have be:B.get? e=none:=by rw[<- hB];exact hideAll_none _ (KN ..)
 have c1:∀b o,AI b->b∉frs outer-> ∃o',Ab (B.get? b) o':=λb o z hb=>by
  obtain⟨o1,e1⟩:=thr b o z;refine⟨o1,bget b o1 e1 λk=>?_⟩;rcases KH.mp k with k | k;.rw[k,nx] at z;cases z
  .have k:b∈s.heap.objs.size::frs outer:=by rw[<- hfs] at k;exact k
   rcases KH.mp k with k | k;.exact absurd (Ld z) (by rw[k];exact Vq _)
   .exact hb k
 have tin:∀b u,Ab (del H2 e b) u-> ∃o',Ab (B.get? b) o':=λb u z=>by
  obtain⟨hb,z⟩:=zty z;obtain⟨o,ho⟩:∃o,Ab (s2.heap.get? b) o:=(I2.hok b u z).there;refine⟨o,bget b o ho λk=>?_⟩;rcases KH.mp k with k | k;.exact hb k
  .have:=I2.stkFree b (by rw[<- hfs] at k;exact k);rw[z] at this;cases this
 refine zm7 I2.ok.frames bff rfl ho bst be hv h1 h0 λh3 fl3 up dk=>?_;rw[hc] at fl3;refine⟨e,C,a0,B,del H2 e,dd,rfl,I2.os,I2.bare,?_,(I2.hok.del he).fly tin bst fl3.1,fl3,c1,tin,nx,sV,dk.is ⟨oe,ho,hd,λz=>by unfold fld2;rw[hv];exact h2 z⟩,q⟩;exact Un.fly (B:=B) (I2.base.del hn) bst fl3.1 c1 up λb hb=>(stk.mem (b:=b) (AS hb)).2
theorem zys{x:Expr}{te:TE}{pos:Pos}(hp:PE (cxOf (CXB c P w) P w K mg base N qual scope f cd A outer s H E) x te):PS (cxOf (CXB c P w) P w K mg base N qual scope f cd A outer s H E) (.Raise (some x) none pos) (zwq K E H te):=by
 intro pins s1 σ H1 D I h;have W:=hp pins s1 σ H1 _ I h;show AT _ ((do Um pos;Zzw _ (some (do let v <- eval x _;Um pos;pure v)) none)) _ _ s1;refine Kc (ZV (zwd (I.ok.hd rfl) (Kc (thn W λv s2 ⟨u,H2,I2,ru,e,C,dd,eu,he,hn,⟨fI,hx⟩,q⟩=>Kc (ZV B7)))));subst eu;obtain rfl:v=KJ e:=ru;obtain⟨tl,Na,nm,q',bs,hdct,sn,sub,ab,col,dc,k0,k1,k2,k3,k5,mN,hC,hN,hni,T⟩:=zon I2.kIn hx;obtain⟨t0,ho⟩:cA e C dd s2.heap:=(I2.hok e _ he).1;exact⟨e,t0,dd,C,tl,rfl,⟨_,_,_,_,_,_,_,_,_,_,_,_,_,_,_,_,hC⟩,T.hasType XR.hasBase,ho,ygf I2 he hn ho rfl rfl rfl rfl rfl (λ_=>rfl) q⟩
end
noncomputable def zw5(C:Addr)(sp:Sp)(E:XK)(t:TA):TE:=λσ H Q=>t σ H λvs H1=>∀e,H1 e=none->sp (Cn::vs) (upd H1 e (ErrO e C none)) (λv H2=>v= .non/\Q Cn H2) E
structure XMk(K:Kd)(C f:Addr):Prop where
 cls:Wr K C f
 fn:aK K (.ref f)=true
 kp:Tv K (.ref C)=true
section
variable{X:Cx}{CX:CXT}{k:Nat}{f C:Addr}{fd:Mp}{ps:List Str}{sp:Sp}{E:XK}{x:Str}{p pos:Pos}{e:Expr}{es:List Expr}{t:TA}
theorem zwu(M:XMk X.K C f)(F:FnOk X.prog X.w X.K X.mg X.base CX k f fd ps sp)(hr:Room (k+1) X.A)(hg:Gl X x)(hm:Ab (X.mg x) AG)(hb:M5 X.K fd ps [])(hx:R7 CX X E)
  (ha:PA X (e::es) t) (hsz:ps.length<=100) (hdb:Be x EE:=by decide) (he:CA (e::es)=(D4 e)::CA es:=by rfl) (hpl:AL ((DT pos es).any (·.1)):=by rfl) :
  Au (Ey x p (e::es) pos) (zw5 C sp E t):=by
 intro pins s σ H Q I h;refine Xq (X7 I hg hm ?_ hdb);refine X4 (h₀:=X.base) I.ok.mod.kin M.kp (thn (ha pos pins s σ H _ I h) λus s1 ⟨vs,H1,I1,r,q⟩=>(BG I1.kIn)) he hpl;obtain⟨tl,Na,nm,q',bs,hdct,sn,sub,ab,col,dc,k0,k1,k2,k3,k5,mN,hC,hN,hni,T⟩:=zon I1.kIn M.cls;obtain⟨oI,hoI,hcI⟩:=Zsy.mp (beq_iff_eq.mp M.fn);obtain⟨hh,g,d,tk,os⟩:=s1;refine zv1 XR (by decide) XR T hC hN hni (I1.kIn f oI hoI) hcI (λh' e' hs hmd=>?_) ?_
 .have I2:=Inv.errMade (s:=(CY hh g d tk)) (C:=C) I1 hs hmd;have hq:=q e' (I1.hok.fresh hs);have r2:Vals (V.ref e'::vs) (KJ e'::us):=.cons rfl r;have hl:CJ (KJ e'::us++[]) ps.length:=by
   have z:=r2.length;rw[F.len _ _ _ _ hq] at z;rw[LR];exact z.symm
  have hb':=hb (CY h' g d tk) (KJ e'::us) I2.kIn hl;rw[LR] at hb';refine Te (Td (F.run _ X.stack _ _ (Br (KJ e'::us)) (KJ e'::us) _ _ E (hr.make C us []) (I2.env0.make C us []) hb' r2 hq) λr s' hq'=>?_);cases r with
  | error e=>exact hx pins σ _ _ e s' I2 hq'
  | ok fl =>
   cases fl with
   | ret u =>
    obtain⟨v,H',I3,rv,ev,q3⟩:=I2.after hq';subst ev;exact⟨rv,(Bj (V.ref e') H' I3 q3)⟩
   | next=>exact Nb hq'
   | brk=>exact Nb hq'
   | cont=>exact Nb hq'
 .have z:=q hh.objs.size Gi;have z2:=F.len _ _ _ _ z;have z3:vs.length+1=ps.length:=z2;have z4:=r.length;rw[K3,xY];lia
end
theorem znj{M:Nf}{A:Ks}{E:Ka->Af}{s:Ke}{B:Heap}{l:List Env}{e:Addr}{C a0:Ka}{Q:Unit->Af}(fl:QK B l e C a0 s.heap)
  (h:∀h',QK B l e C a0 h'->Gf->DK s.heap h'->ED ()):Kw M A (XH Cn none) Q E s:=by
 refine D2 (Ws (lands_againW (Q:=λ_ s'=>∃h',s'={ s with heap:=h' }/\QK B l e C a0 h'/\Gf) (E:=E) fl λh' a b=>⟨h',rfl,a,b⟩) (zwx (E:=E) fl.2.2.2.at)) (λ_ s' z=>?_) z.1;obtain⟨⟨h',rfl,a,b⟩,k⟩:=z;exact h h' a b k
noncomputable def T7(x C:Addr)(dd:CB):HO:=.ext λh=>∃o,AE x o/\o.cls= AG/\o.dict=dd/\Aa (notCls o)
section
variable{X:Cx}{pins:List (Addr×Obj)}{σ:St}{H:Hp}{s:Ke}{x:Addr}
theorem Inv.adoptX2{C:Addr}{dd:CB}(I:Ak)(hn:H x=none)(h0:X.s₀.heap.get? x=none)(hL:FK x)(hc:∀y c,FU y c->c≠x)(hp:∀p∈X.pn++pins,p.1≠x)
  (ho:∃o,AI x/\o.cls= AG/\o.dict=dd/\Aa (notCls o)):Ce (AX x (T7 x C dd)) s:=by
 refine⟨I.ok,I.os,I.bare,⟨I.base.keep,I.base.slot,λb o e n hx=>?_,I.base.there,λb xs e=>?_,λb o u e=>?_,λb ps e=>?_⟩,I.loc,I.cell,?_,λy c e=>?_,λp hq=>?_,λb u e=>?_,I.len⟩
 .have:b≠x:=λz=>by rw[z,h0] at e;cases e
  rw[Kh this];exact I.base.free b o e n hx
 .have:=I.base.tups b xs e;rw[Kh (Lp this hn)];exact this
 .have:=I.base.frzs b o u e;rw[Kh (Lp this hn)];exact this
 .obtain⟨more,this⟩:=I.base.tbls b ps e;exact⟨more,by rw[Kh (Lp this hn)];exact this⟩
 .rw[Kh (K7 hL)];exact I.free
 .rw[Kh (hc y c e)];exact I.freeC y c e
 .obtain⟨e,n,ne,nf,d⟩:=I.pin p hq;exact⟨e,by rw[Kh (hp p hq)];exact n,ne,nf,d⟩
 .by_cases hb:b=x
  .subst hb;rw[Ku] at e;cases e;obtain⟨o,h1,h2⟩:=ho;exact⟨(CK h1 h2),⟨o,h1⟩,λh1 h2 ⟨o,ho,r⟩ k=>(CK (k o ho) r)⟩
  .rw[Kh hb] at e;exact(I.hok b u e).stay (λ_ _ _ q=>q) (λc q=>by rw[Kh (Lp q hn)];exact q) λc xs q=>by rw[Kh (Lp q hn)];exact q
theorem ybe{c:Bool}{CF:Addr}{cn n:Str}{np hp:Pos}{i:Nat}{b₀:Stmt}{suite:List Stmt}{ts:TS}{D:Ends}{H1:Hp}{s1 s2:Ke}{ev:Ka}(I1:Ce H1 s1)
  (hgc:Gl X cn) (hmc:Ab (X.mg cn) (.ref CF)) (hN:X.N.Nodup) (hi:Ah X.N n) (hx:E4 n .local) (hs:∀x,PSs (X.inSuite x) (b₀::suite) ts) (hst:X.stack=X.env::X.outer/\Ab X.env.frame X.env.locals/\X.ex=[])
  (hq:CXB c X.prog X.w X.stack H1 s1 (λcls dd H2=>∃C,cls= AG/\Ab (exmOne X.K AG (.ref CF)) true /\ ∀x,H2 x=none ->
   ts { nx:=λσ' H'=>∃v,D5 σ' v/\D.nx (σ'.set i none) H',rt:=D1 } (FM i BB) (upd H2 x (T7 x C dd))) ev s2) (hdc:Be cn EE) :
  B1 (Ri ev X.env) (λ_ s3=>B1 (XH ev none) (λ_ s4=>B1 (handleBy ev X.env [.ExceptHandler (some (.Name cn np)) (some n) (b₀::suite) hp]) (SP X pins D) s4) s3) s2:=by
 obtain⟨x,C,a0,B,H2,dd,rfl,os,bare,U,hok,fl,c1,c2,nx,hxn,di,C',eC,hex,q2⟩:=hq;cases eC;have fl0:QK B (X.env::X.outer) x AG a0 s2.heap:=by rw[<- hst.1];exact fl
 have hfr:Ab X.A.frames (X.env::X.outer):=by rw[<- hst.1];exact I1.ok.frames
 have ff:∀b∈frs X.stack,∃o,Ab (s2.heap.get? b) o /\ ∀vs,o.data ≠ .fields vs:=λb hb=>(fl.2.2.1.mem (b:=b) hb).2;show AT _ (Ri BB X.env) _ _ s2;refine zwt hfr hst.2.1 fl0 λh3 held up3 dk3=>?_;refine yip (s:={ s2 with heap:=h3 }) held λh4 fl4 up4 dk4=>?_;have inv:∀{h':Heap},B.StaysIn h'->s2.heap.UpToSlots h'->Ce H2 { s2 with heap:=h' }:=λ{h'} st up =>
  I1.call' (s':={ s2 with heap:=h' }) (ch:=[]) os (U.fly fl.1 st c1 up ff) (hok.fly c2 fl.1 st) bare (λb z=>nomatch z);have I4:=inv fl4.1 (up3.trans up4);obtain⟨ob4,hob4,hcl4⟩:=fl4.there;refine wpAny_handleBy_cons (codeAny_handlers_test (X7 (X:=X.inSuite x) (I4.inSuite x) hgc hmc ?_ hdc)) (by intro q;cases q);have LT:Looks (Gc X.w) h4 (Uq BB) AG:=by rw[<- hcl4];exact(Looks.ld hob4).andThen .now
 refine Looks.here (s:={ s2 with heap:=h4 }) (exm_one (M:=Gc X.w) I4.kIn LT hex) ?_;refine codeAny_handlers_suite_as ?_;refine znj (s:={ s2 with heap:=h4 }) fl4 λh5 fl5 up5 dk5=>?_;have I5:=inv fl5.1 ((up3.trans up4).trans up5);have h0:X.s₀.heap.get? x=none:=by
  cases z:X.s₀.heap.get? x with
  | none=>rfl
  | some o =>
   obtain⟨o',e'⟩:=I1.base.there x o z (by rw[hst.2.2];exact λz=>nomatch z);rw[nx] at e';cases e'
 have I6:Ce (upd H2 x (T7 x C dd)) { s2 with heap:=h5 }:=by
  refine I5.adoptX2 hxn h0 ?_ ?_ ?_ ?_
  .obtain⟨m,⟨o,_,_,ho,_⟩,_⟩:=I1.loc;exact λz=>by rw[z,ho] at nx;cases nx
  .intro y c e z;obtain⟨v,o,ho,_⟩:=I1.cell y c e;rw[z,nx] at ho;cases ho
  .intro p' hp' z;have:=(I1.pin p' hp').1;rw[z,nx] at this;cases this
  .obtain⟨_,_,_,o,vs5,_,_,_,ho,⟨hc,_⟩,hd5,_⟩:=fl5;obtain⟨o',ho',hd',_⟩:=((dk3.trans dk4).trans dk5).is di;have ho:Ab (h5.get? x) o:=ho;rw[ho] at ho';cases ho';exact⟨o,ho,hc,hd',by unfold notCls;rw[hd5]⟩
 refine aL (X:=X.inSuite x) (i:=i) (v:=BB) (I6.inSuite x) hN hi (.inl hx) rfl (λs7 I7=>?_) (.inr hx);refine D2 (hs x pins s7 (FM i BB) _ _ I7 (q2 x hxn)) (λf' s8 h8=>?_) z.elim;cases f' with
 | next =>
  obtain⟨σ8,H8,I8,v8,hv8,q8⟩:=h8;have I8:=I8.outSuite I1.ok;show AT _ ((do bindName X.env n .none;Zwe X.env n hp)) _ _ s8;refine Kc (wpAny_bindName (aL (i:=i) (v:=.non) I8 hN hi (.inl hx) rfl (λs9 I9=>?_) (.inr hx)));have hl8:i<σ8.length:=(BS hv8);unfold Zwe;refine wpAny_onRaise (zx7 (i:=i) (v:=.non) I9 hN hi hx (RJ hl8) λs10 I10=>?_);rw[Zyh] at I10;exact⟨_,H8,I10,q8⟩
 | ret u=>obtain⟨_,_,_,_,_,z⟩:=h8;exact z.elim
 | brk=>obtain⟨_,_,_,z⟩:=h8;exact z.elim
 | cont=>obtain⟨_,_,_,z⟩:=h8;exact z.elim
end
theorem xat2{x C:Addr}{dd:CB}{h:Heap}(p:∃o,AE x o/\o.cls= AG/\o.dict=dd/\Aa (notCls o)):XAt x C h:=let ⟨o,a,b,_⟩:=p;(CK a b)
noncomputable def cB(K:Kd):Ai->Hp->B9:=λxs H Q=>∃x C dd c b,Aw x (T7 x C dd)/\XTell K C/\((∃D,xs=[BB,.ref D]/\c=KJ D)\/(∃T,xs=[BB,.ty T]/\c=MJ T))/\Ab (kitOne K AG c) b/\Q (.bl b) H
section
open PySem.Calls Builtin Builtin.ObjectAttr
variable{X:Cx}
theorem zlm:DZ X "isinstance" (cB X.K):=by
 intro pins s σ H xs us Q I r h;obtain⟨x,C,dd,c,b,hx,T,hc,hk,q⟩:=h;have hp:XAt x C s.heap:=xat2 (I.hok x _ hx).1;obtain⟨u,v,rfl,hu,hv⟩:∃u v,us=[u,v]/\u= BB/\v=c:=by
  rcases hc with ⟨D,rfl,rfl⟩ | ⟨T',rfl,rfl⟩
  .obtain⟨u,v,rfl,ru,rv⟩:=Qd r;exact(BH u v ru rv)
  .obtain⟨u,v,rfl,ru,rv⟩:=Qd r;exact(BH u v ru rv)
 subst hu hv;exact kia_one (yb4 T) I.kIn hp hk (by intro z;cases z) λtk=>(Bj (.bl b) H DH q)
theorem yfy{prog:Ko}{w:Km}{A:Ks}{E:Ka->Af}{s:Ke}{K:Kd}{x C dx:Addr}{mA:Str->A4}{name:Str}{v:Ka}{ex:Bool}{Q:Ka->Af}(X:K.In s.heap)(T:XTell K C)(ha:Ab (findIn K AG name) none)
  (p:∃o,AI x/\o.cls= AG/\Ab o.dict dx/\Aa (notCls o)) (n:s.heap.Ns1 dx mA) (hv:Ab (mA name) v) (hv':Aa (handedIn v)) (q:Q v (FZ s.toks 1)):AH (Z3 BB name ex):=by
 obtain⟨hh,g,d,t,os⟩:=s;obtain⟨od,hod,hl⟩:=zpq n;obtain⟨o,ho,hc,hd,hn⟩:=id p;have J:InstAt hh x o C (some od):=⟨ho,hc,hn,by rw[hd];exact hod⟩;have L0:=(xat2 p).ty (M:=B5 w);have L1:=looks_findIn (M:=B5 w) X T.ga;have L2:=looks_findIn (M:=B5 w) X T.gt;have L3:=looks_find (M:=B5 w) X J (findObj_own T.dc ha rfl (by rw[hl,hv]));have L4:=looks_mroIn (M:=B5 w) X T.mb;have hbd:=pA.ga.bind BB;have hk:Cw (builtinKind "BaseException.__getattribute__") .slot:=by decide +kernel
 have hs:Cw (oH "BaseException.__getattribute__") ("BaseException", "__getattribute__"):=by decide +kernel
 unfold Z3 getAttrBy;refine Kc (wpAny_mkText (Nm (Kc (L0.at (Kc (L1.at ?_))))));show AT _ (if (_&&_) then _ else _) _ _ _;rw[if_neg (by rw[Lk];intro z;exact absurd z.2 (by decide +kernel))];unfold Zzz;refine Kc ((show Looks _ _ (hookBefore AG) none from L2).at (Kc (Xx (Nm ?_))));unfold Zyw Yae;rw[if_neg (by intro z;rw[Lk] at z;exact absurd z.2 (by decide +kernel)),hbd];refine BD (Te ?_);refine Xp pA.ga.plain Zym ?_;have hao:=Zzn BB (.str name t);simp only[zM,hk,hs];unfold V1;repeat lk
 exact handed_on hv' q
noncomputable def zzh(K:Kd)(te:TE)(f:Str):TE:=λσ H Q=>te σ H λv H1=>∃x C dx fs u,v= BB/\Ab (H1 x) (T7 x C (some dx))/\Ab (H1 dx) (.xd fs)/\XTell K C/\Ov K C f/\Ab (fs.lookup f) u/\Q u H1
theorem zw4{e:Expr}{te:TE}{f:Str}{pos:Pos}(he:Au e te)(hb:Uj e f X.env (Cz e)=Cz e):Au (.Attribute e f pos) (zzh X.K te f):=by
 intro pins s σ H Q I h;refine zx2 hb (thn (he pins s σ H _ I h) Gp);obtain⟨v,H1,I1,rv,x,C,dx,fs,y,ev,hx,hd,T,n,l,q⟩:=hz9;subst ev;obtain rfl:u=KJ x:=rv;obtain⟨mA,ns,r⟩:=I1.hok dx _ hd;obtain⟨z,hz,rz⟩:=RelO.some_of (v:=y) (o:=mA f) (by rw[<- l];exact r f);exact yfy I1.kIn T n (I1.hok x _ hx).1 ns hz (zqj rz) ⟨y,H1,I1.tok _,rz,q⟩
end
end L2
namespace L2
open PySem PySem.W PyProof.Rows
noncomputable def xsl2(K:Kd)(x C dx:Addr)(f:Str)(d:D):Sl:=.g BB [] λF _=>Ab (F x) (T7 x C (some dx)) /\ ∃v,Ab (F dx) (.xd [(f,v)])/\As F d v
theorem zxc(K:Kd)(x C dx:Addr)(f:Str)(d:D):Stab [] λF _=>Ab (F x) (T7 x C (some dx)) /\ ∃v,Ab (F dx) (.xd [(f,v)])/\As F d v :=
 λF1 H1 F2 H2 sf _ ⟨a,v,b,c⟩=>⟨sf _ _ a,v,sf _ _ b,c.mono sf⟩
section
variable{K:Kd}{G Hz L:Hp}{ss:List Sl}{ta tb te:TE}{t:TA}{ds:List D}{D0:Ends}{E E':XK}{C fI:Addr}{f:Str}{pre bad:List D->Prop}{res err:List D->D}
theorem zr9{j:Nat}{x dx:Addr}{d:D}{c:Ka}{cv:V}{b:Bool}(hs:AQ ss (xsl2 K x C dx f d))(T:XTell K C)(hc:(∃D,cv= .ref D/\c=KJ D)\/(∃T,cv= .ty T/\c=MJ T))(hk:Ab (kitOne K AG c) b) :
  Cc (tCB (cB K) (Ol (tVar j) (BV (tC cv)))) b:=λF H σ Q S q=>by
 obtain⟨v,e,ew,ha,hw,st⟩:=Fj hs;cases ew;refine⟨_,e,x,C,_,c,b,S.ext.fh _ _ hw.1,T,?_,hk,q _ _ _ DA Rep.bl⟩;rcases hc with ⟨D,rfl,rfl⟩ | ⟨T',rfl,rfl⟩;.exact .inl (By D rfl)
 .exact .inr (By T' rfl)
theorem zxu{j:Nat}{x dx:Addr}{d:D}(hs:AQ ss (xsl2 K x C dx f d))(T:XTell K C)(n:Ov K C f):Ay (zzh K (tVar j) f) d:=λF H σ Q S q=>by
 obtain⟨v,e,ew,ha,⟨hx,y,hd,ry⟩,st⟩:=Fj hs;cases ew;exact⟨_,e,x,C,dx,[(f,y)],y,rfl,S.ext.fh _ _ hx,S.ext.fh _ _ hd,T,n,by simp[Nj],q _ _ _ DA ry⟩
end
section
variable{P:Ko}{w:Km}{K:Kd}{mg:Str->Option Ka}{base:Heap}
theorem Fun.okX2{c:Bool}{x qual:Str}{st:Stmt}{f:Addr}{fd:Mp}{N ps:AC}{k:Nat}{sp:Sp}(F:Fun K x qual st f fd)(S:Bm N ps st)(len:∀vs H Q E,sp vs H Q E->vs.length=ps.length)
  (hbody:∀(cdv:Ka) (A:Ks) (outer:List Env) (s:Ke) (H:Hp) (vs:Ai) (Q:VK) (E:XK),FJ k (Dz qual (KZ st) f cdv)->sp vs H Q E ->
   ∃t,PSs (cxOf (CXB c P w) P w K mg base N qual (KZ st) f cdv A outer s H E) (Mv st) t/\t Cv (Em N) H):FnOk P w K mg base (CXB c P w) (k+1) f fd ps sp:=by
 obtain⟨oc,od,kV,doc,pm,an,cdv,ct,osl,rfl,lk,hcd⟩:=F.ex;exact yh7 lk hcd S len λA outer s H vs Q E hr hsp=>hbody cdv A outer s H vs Q E hr hsp
end
end L2
namespace L2
open PySem PySem.W PySem.Spec PyProof.Rows
section
variable{M:Nf}{A:Ks}{E:Ka->Ke->Prop}{s:Ke}{env:Env}
theorem zhq{value:Expr}{pos:Pos}{Q:Ka->Af}(h:Kw M A (eval value env) (λv s1=>Kw M A (pyReprObj v) (λy s2=>Kw M A (formatField y X3) Q E s2) E s1) E s) :
  Kw M A (eval (.FormattedValue value 114 none pos) env) Q E s:=by
 show Kw M A (do let v <- eval value env;Um pos;formatted pos (<- Ti [v] (converted 114 v)) none) Q E s;refine Kc (Nu h (λv s1 h1=>Kc (ZV ?_)) λ_ _ x=>x);show AT _ ((do let v' <- Ti [v] (pyReprObj v);formatField v' X3)) Q E s1;exact Kc (Nm h1)
end
theorem zor(ls:Aj):D.toPs Ee=ls.map λl=>aD (T l):=by
 induction ls with
 | nil=>rfl
 | cons l ls ih=>rw[Kq,Kq,D.toPs,ih];rfl
theorem zmu:∀ls:Aj,Zq6 (ls.map λl=>aD (T l))=ls.map λl=>Yao (T l)
 | []=>rfl
 | l::ls=>by rw[Kq,Kq,Zq6,zmu ls];rfl
theorem zic:∀ls:Aj,Aa (Zp5 (ls.map λl=>aD (T l)))
 | []=>rfl
 | l::ls=>by rw[Kq,Zp5,zic ls];rfl
theorem zlc:∀ls:Aj,AL (Zql (ls.map λl=>aD (T l)))
 | []=>rfl
 | l::ls=>by rw[Kq,Zql,zlc ls];rfl
theorem ydh:∀ls:Aj,Aa (D.nbs Ee):=λls=>D.nbs_map (λ_=>rfl) ls
theorem zp6:∀ls:Aj,D.deps Ee=0
 | []=>rfl
 | l::ls=>by rw[Kq,D.deps,zp6 ls];rfl
theorem zzq{ls:Aj}(h1:BI ls.length)(h2:∀l∈ls,BI l.length /\ ∀c∈l,c<128):(D.lst Ee).toP.shown.length<=10010000:=by
 show AB (PyData.shown (.list (D.toPs Ee))) _;rw[zor];show AB (listText (Zq6 (ls.map λl=>aD (T l)))) _;rw[zmu];have h:=listText_len_le (ls.map λl=>Yao (T l));have h3:((ls.map λl=>Yao (T l)).map (·.length)).sum<=ls.length*10002:=by
  clear h h1;induction ls with
  | nil=>simp
  | cons l ls ih =>
   have i1:=ih λx hx=>h2 x (AS hx);obtain⟨q1,q2⟩:=h2 l (KN ..);have q3:=StrLaws.reprText_len (T l) (λc hc=>Mm (q2 c hc) (by decide));rw[UJ] at q3;simp only[Kq,Oq,Mt];rw[yK];lia
 rw[Kg] at h;have h4:ls.length*10002<=1000*10002:=Nat.mul_le_mul_right _ h1;lia
noncomputable def tFsR(K:Kd)(a:Str)(te:TE):TE:=λσ H Q=>AB (X3++a) 1000/\te σ H λx H1=>∃(p:Addr) (ls:Aj),x= Ap/\As H1 (.lst Ee) x/\BI ls.length/\(∀l∈ls,BI l.length) /\ ∀y,Q (.str y) H1
section
variable{X:Cx}{a:Str}{e:Expr}{te:TE}{k1:Nat}{p1 p2 pos:Pos}
theorem zsz{K:Kd}{H:Hp}:∀{ls:Aj} {vs:Ai},AN H Ee vs-> ∀l∈ls,∀c∈l,c<128
 | [],_,_,l,hl=>by cases hl
 | x::ls,vs,r,l,hl=>by
  rw[Kq,Reps] at r;obtain⟨v,r',rfl,rv,rr⟩:=r;rcases KH.mp hl with rfl | hl;.exact rv.asc
  .exact zsz rr l hl
theorem ycr(hg:Ab X.A.guards [])(hu:X.A.units+64<Ln)(he:Au e te):Au (.JoinedStr [.Constant (.str a) k1 p1,.FormattedValue e 114 none p2] pos) (tFsR X.K a te):=by
 intro pins s σ H Q I h;refine JoinedStr_many (Yad ?_);refine D2 (Mf (x:=a) pins s σ H (λv H1=>v= .str a/\H1=H) I De) (λu s1 ⟨v,H1,I1,rv,ev,eh⟩=>?_) z;subst ev eh;obtain⟨t1,rfl⟩:=yds rv;refine⟨by have:=h.1;rw[K3];lia,Yad (zhq ?_)⟩;refine D2 (he pins s1 σ H1 _ I1 h.2) (λu s2 ⟨x,H2,I2,r2,p,ls,ex,rep,h1,h2,q⟩=>?_) z;subst ex;obtain rfl:u=KJ p:=r2;obtain⟨p',xs,ep,sq,rs⟩:=rep.of_lst;have hasc:=zsz rs;obtain⟨⟨as,rd⟩,_⟩:=I2.reads (d:=.lst Ee) (ydh ls) rep rfl;have hlen:=zzq h1 λl hl=>⟨h2 l hl,hasc l hl⟩;have hsl:AD (D.lst Ee).toP.shown.length:=by rw[K3];lia
 have app:∀u v:Str,CJ (u++v) (u.length+v.length):=λu v=>Str.length_append u v;have hz2:AD (X3++a++(D.lst Ee).toP.shown).length:=by have:=h.1;rw[app,K3];lia
 refine pyReprObj_of_reads rd (by show Zp5 (D.toPs (ls.map .str))=true;rw[zor];exact zic ls) (PyData.noDict_hsm (by show Zql (D.toPs (ls.map .str))=false;rw[zor];exact zlc ls)) hg
  (by rw[D.toP_depth];show X.A.units+(D.deps (ls.map .str)+1)<Ln;rw[zp6];lia) (λ_ _ z=>z) (λh' u tk hk=>formatField_str (λt' tk'=>?_) hsl) hsl;exact⟨hz2,joinParts_nilE (joinParts_nil ⟨.str _,H2,I2.kept hk,(AY _),q _⟩ hz2)⟩
end
noncomputable def zy8(K:Kd)(C:Addr)(f:Str):Sp:=λvs H Q _=>∃(e p:Addr) (ls:Aj),vs=[Cn,Ap]/\As H (.lst Ee) Ap/\BI ls.length/\(∀l∈ls,BI l.length)/\Aw e (ErrO e C none) /\
 ∀q ws dx,H q=none->q≠e->AN H Ee ws->dx≠q->dx≠e->H dx=none->GJ (upd (upd (BX H q ws) e (ErrO e C (some dx))) dx (.xd [(f,.ref q)]))
theorem zw7{K:Kd}{C fI:Addr}{f a x y:Str}{vs:Ai}{H:Hp}{Q:VK}{E:XK}(M:Wr K C fI)(S:XStore K C f)(ha:AB (X3++a) 1000)(h:zy8 K C f vs H Q E) :
  tSeq (Wd (zt7 K (Ol (tVar 0) (BV (tFsR K a (tVar 1)))))) (yaf K (tVar 0) (tCB (E8 (xs=[Ap]/\(A8 H p ys\/SqT K H p ys) /\ ∀l,H l=none->Q Cd (BX H l ys))) (BV (tVar 1))) f) Cv (Em [x,y]) H:=by
 obtain⟨e,p,ls,rfl,rep,h1,h2,he,q⟩:=h;refine⟨Cn,rfl,ha,Ap,rfl,p,ls,rfl,rep,h1,h2,λz=>⟨e,C,none,_,rfl,he,⟨fI,M⟩,?_⟩⟩;obtain⟨p',xs,ep,sq,rs⟩:=rep.of_lst;cases ep;refine⟨Ap,rfl,p,xs,rfl,.inl sq,λl hl=>?_⟩;have hle:l≠e:=λz=>by rw[z,he] at hl;cases hl
 refine⟨Cn,rfl,e,C,rfl,by rw[Kh (K7 hle)];exact he,S,λdx hdx hne=>?_⟩;have hdl:dx≠l:=λz=>by rw[z,Ku] at hdx;cases hdx
 exact q l xs dx hl hle rs hdl hne (by rw[Kh hdl] at hdx;exact hdx)
theorem zso{K:Kd}{H H2:Hp}:∀{ls:Aj} {vs:Ai},AN H Ee vs->AN H2 Ee vs
 | [],vs,r=>by rw[PK,Reps] at r ⊢;exact r
 | x::ls,vs,r=>by
  rw[Kq,Reps] at r ⊢;obtain⟨v,r',rfl,rv,rr⟩:=r;exact(BH v r' (by rw[rv.of_str];exact Rep.str rv.asc) (zso rr))
noncomputable def SpXR(K:Kd)(C:Addr)(f:Str)(pre bad:Aq Ac)(res:Ac->D)(errR:Ac->Aq D):Sp:=λvs H Q E=>∃G ds,Same G H/\Bc G vs/\B0 /\
 (¬ bad ds-> ∀v G' H',CL G H G'->As G' (res ds) v->Q v H')/\(bad ds-> ∀dx v d G' H',errR ds d->CL G H G'->Ab (G' dx) (.xd [(f,v)])->As G' d v->E AG (some dx) H')
noncomputable def RtXR(K:Kd)(G Hz:Hp)(E:XK)(C:Addr)(f:Str)(R:Aq D):Prop:=∀dx v d F H',R d->CL G Hz F->Ab (F dx) (.xd [(f,v)])->As F d v->E AG (some dx) H'
section
variable{K:Kd}{H:Hp}{vs:List V}{Q:VK}{E:XK}{N:List Str}{t:TS}{C:Addr}{f:Str}{pre bad:List D->Prop}{res:List D->D}{errR:List D->D->Prop}
theorem zu8{n:Nat}(hpre:∀ds,B0->DJ n)(h:SpXR K C f pre bad res errR vs H Q E):vs.length=n:=by
 obtain⟨G,ds,sm,r,hp,q⟩:=h;rw[<- r.length];exact hpre ds hp
theorem yfn(h:SpXR K C f pre bad res errR vs H Q E)(hN:FQ)(body:∀G ds,B0->(¬ bad ds->RtD K G H Q (res ds))->(bad ds->RtXR K G H E C f (errR ds))->Go K G H G Cv (DY ds) t) :
  t Cv (Em N) H:=by
 obtain⟨G,ds,sm,r,hp,q1,q2⟩:=h;exact body G ds hp (λnb v F H' e h4=>q1 nb v F H' e h4) (λb dx v d F H' hd e h1 h2=>q2 b dx v d F H' hd e h1 h2) G H _ (Ro sm r hN)
end
section
variable{K:Kd}{G Hz L:Hp}{ss:List Sl}{te:TE}{t:TA}{ds:List D}{D0:Ends}{E E':XK}{C fI:Addr}{f:Str}{pre bad:List D->Prop}{res:List D->D}{errR:List D->D->Prop}{S1:D->Prop}
theorem zxj (M : Wr K C fI) (a : EvE K G Hz L ss te S1) (hS : ∀ d, S1 d -> ∃ ls : Aj, d = .lst Ee /\ ls.length <= 1000 /\ ∀ l ∈ ls, l.length <= 1000) (h : RtXR K G Hz E C f S1) :
  Bx K G L D0 (zwq K E Hz (zw5 C (zy8 K C f) E' (BV te))):=λF H σ S =>
 a F H σ _ S λd v F1 H1 hd e1 r1=>by
  intro e he;obtain⟨ls,rfl,b1,b2⟩:=hS d hd;obtain⟨p,xs,rfl,sq,rs⟩:=r1.of_lst;have fe:F1 e=none:=e1.fh.free he;have sm:Same F1 (upd H1 e (ErrO e C none)):=e1.fh.trans (Same.upd he);refine⟨e,p,ls,rfl,r1.mono sm,b1,b2,Ku,λq ws dx hq hqe rw' hdq hde hdx=>⟨rfl,e,C,some dx,rfl,?_,?_,⟨fI,M⟩,?_⟩⟩;.rw[Kh (K7 hde),Ku]
  .exact(S.ext.trans e1).hh.free he
  .have hq1:H1 q=none:=by rw[Kh hqe] at hq;exact hq
   have hd1:H1 dx=none:=by rw[Kh hde] at hdx;exact hdx
   have eH:del (upd (upd (BX (upd H1 e (ErrO e C none)) q ws) e (ErrO e C (some dx))) dx (.xd [(f,.ref q)])) e=upd (BX H1 q ws) dx (.xd [(f,.ref q)]):=by
    funext b;by_cases hb:b=e;.rw[hb,sV,Kh (K7 hde),Kh (K7 hqe),he]
    .rw[T6 hb];by_cases hc:b=dx;.rw[hc,Ku,Ku]
     .rw[Kh hc,Kh hc,Kh hb];by_cases hg:b=q;.rw[hg,Ku,Ku]
      .rw[Kh hg,Kh hg,Kh hb]
   rw[eH];have x1:=(S.ext.trans e1).newF (o:=.lst ws) hq1;have hd2:upd H1 q (.lst ws) dx=none:=by rw[Kh hdq];exact hd1
   have x2:=x1.newF (o:=.xd [(f,.ref q)]) hd2;refine h dx (.ref q) (.lst Ee) _ _ hd x2 Ku (Rep.lst (SqL.of ?_) (zso rw'));rw[Kh (K7 hdq),Ku]
theorem zxe(a:EvAF K G Hz L ss t ds)(hp:B0)(hb:¬ bad ds):Ay (Qv (SpXR K C f pre bad res errR) [] E t) (res ds):=λF H σ Q S q =>
 Eo F H σ _ S ⟨F1,ds,e1.fh,by rw[LR];exact r1,hp,λ_ v G' H' e2 r=>q _ _ _ Cf r,λb=>absurd b hb⟩
theorem zvi(a:EvAF K G Hz L ss t ds)(hp:B0)(hb:bad ds)(hx:RtXR K G Hz E C f (errR ds)):EvR K G Hz L ss (Qv (SpXR K C f pre bad res errR) [] E t):=λF H σ Q S =>
 Eo F H σ _ S ⟨F1,ds,e1.fh,by rw[LR];exact r1,hp,λnb=>absurd hb nb,λ_ dx v d G' H' hd e2 h1 h2=>hx dx v d G' H' hd ((S.ext.trans e1).trans e2) h1 h2⟩
end
end L2
namespace L2
open PySem PySem.W PyProof.Rows
noncomputable def YF(K:Kd):Ai->Hp->B9:=λvs H Q=>∃a xs ds,vs=[Av]/\A8 H a xs/\Bc H xs/\M7 ds/\ds.length<64 /\
 ∀l (p:Ae),p.Perm (K6 ds.length)->D8 (CG i)=La ds->H l=none->Q Cd (BX H l (D8 (xs.getD i .non)))
section
variable{X:Cx}{pins:List (Addr×Obj)}{σ:St}{H:Hp}{s:Ke}
theorem yao{h':Heap}{ds:Ac}{xs:Ai}{us:Am}{A':Ks}(I:Ak)(rs:Reps X.K H ds xs)(rv:BY xs)(hal:M7 ds)(h2:2<=us.length)(h64:us.length<64)(k:Fe h') :
  aW X.prog X.w A' { s with heap:=h' } us (OutK (rk ds) us):=by
 obtain⟨κ,hk,hlt⟩:=yav (A':=A') I rs rv hal h2 k;exact zhr h2 h64 hk hlt
theorem sW:DZ X "sorted" (YF X.K):=by
 intro pins s σ H xs us Q I r h;obtain⟨a,vs,ds,rfl,hq,rs,hal,h64,q⟩:=h;obtain⟨u,rfl,ru⟩:=Qc r;cases ru;obtain⟨its,rv,pl,hz⟩:=EL;have l1:=rs.length;have l2:=rv.length;refine zlz (OutK (rk ds) its) pl.isList (by lia) (λh2 h' k=>yao I rs rv hal h2 (by lia) k) (λh1=>?_) λout c h' k hc hsz hO=>?_;.exact qZ h1
 .obtain⟨p,hp,ho,hs⟩:=hO;have hmem:∀i∈p,i<its.length:=λi hi=>Ni.mp (hp.mem_iff.mp hi);have hpm:(D8 (CG i)).Perm ds:=by
   have h1:=hp.map (λi=>ds.getD i D.non);have h2:DU its.length (λi=>ds.getD i D.non)=ds:=by
    rw[<- l2,<- l1];refine Qn λi=>?_;rw[KR];by_cases hi:i<ds.length
    .rw[Q8 hi,Kv hi];simp[Kz,hi]
    .rw[EC,EC];rfl
   rw[h2] at h1;exact h1
  have hso:FB (D8 (CG i)) (Aa (a.leB b)):=by
   rw[N8];refine S8 (λ{i j} hi hj h=>qU (by have:=hmem i hi;lia) (by have:=hmem j hj;lia) h) hs
  have eD:=Wi hal hpm hso;have hv:=rv.pick p (by rw[l2];exact hmem);rw[<- ho] at hv;have hplen:p.length=its.length:=by rw[hp.length_eq,Oo]
  refine(Bj (.ref (BQ 1)) _ (I.laid (t':=s.toks) k (Ra _) (show Lr X.prog X.w _ _ _ (.lst _) from⟨by rw[Kg];lia,out.toList,c,hv,by simpa[PQ] using hc⟩)) (q _ p (by rw[l1,l2];exact hp) eD (I.hok.fresh (Ra _))))
end
section
variable{K:Kd}{G Hz L:Hp}{ss:List Sl}{t:TE}{ds:List D}
theorem sX(a:EvL K G Hz L ss t ds)(hal:M7 ds)(h64:ds.length<64):EvO K G Hz L ss (tCB (YF K) (BV t)) (La ds):=λF H σ Q S q =>
 a F H σ _ S λp vs F' H' e sq r=>⟨p,vs,ds,rfl,sq,r.mono e.fh,hal,h64,λl pm hp hs hl=>by
  have hmem:∀i∈pm,i<ds.length:=λi hi=>Ni.mp (hp.mem_iff.mp hi);have:=r.pick pm hmem;rw[hs] at this;exact q l _ F' _ (e.newO hl) (e.hh.free hl) (e.fh.free hl) Ku this⟩
end
section
variable(P:Ko)(w:Km)(K:Kd)
noncomputable def YG(f:Bool):Ai->Hp->B9:=λvs H Q=>∃a xs ds,vs=[Av]/\Aw a (T4 P w a (ds.map D.sk) xs)/\Bc H xs/\(∀d∈ds,Ci f)/\M7 ds/\ds.length<64 /\
 ∀l xr,H l=none->Src ds xs [] [] (La ds) xr->Q Cd (BX H l xr)
end
section
variable{X:Cx}
theorem sY{f:Bool}(hc:Ex):DZ X "sorted" (YG X.prog X.w X.K f):=by
 intro pins s σ H vs us Q I r h;obtain⟨a,xs,ds,rfl,ha,rs,hf,hal,h64,q⟩:=h;obtain⟨u,rfl,ru⟩:=Qc r;cases ru;obtain⟨es,⟨o,ep,t,ho,S⟩,v⟩:=I.setE ha hf rs;refine zqa (λvs out=>∃ds' xs',Vals xs' vs/\ds'.Perm ds/\Src ds xs [] [] ds' xs'/\OutK (rk ds') vs out) D3 ho S (λvs h' d tk hp h2 k=>?_) (λvs hp h1=>?_) λvs out c h' d tk l hp k hl hcell hsz hO=>?_
 .obtain⟨d2,x2,v2,p2,s2⟩:=zq5 hp rs.length v;obtain⟨κ,z1,z2⟩:=yao (A':=X.A.in1.in1) ((I.kept (h':=h') (t':=tk) k).drw d) (s2.reps rs Reps.nil) v2 (hal.perm p2) h2 (by have:=p2.length_eq;have:=s2.1;have:=v2.length;lia) (λ_ _ e=>e);exact⟨κ,z1,λQ E hQ=>z2 Q E λst' e1 e2 e3=>hQ st' e1 e2 ⟨d2,x2,v2,p2,s2,e3⟩⟩
 .obtain⟨d2,x2,v2,p2,s2⟩:=zq5 hp rs.length v;exact⟨d2,x2,v2,p2,s2,qZ h1⟩
 .obtain⟨d2,x2,v2,p2,s2,p,hpp,hout,hsort⟩:=hO;have l1:=s2.1;have l2:=v2.length;have rs2:Reps X.K H d2 x2:=s2.reps rs Reps.nil;have hmem:∀i∈p,i<vs.length:=λi hi=>Ni.mp (hpp.mem_iff.mp hi);have hpm:(D8 (d2.getD i .non)).Perm d2:=by
   have g1:=hpp.map (λi=>d2.getD i D.non);have g2:DU vs.length (λi=>d2.getD i D.non)=d2:=by
    rw[<- l2,<- l1];refine Qn λi=>?_;rw[KR];by_cases hi:i<d2.length
    .rw[Q8 hi,Kv hi];simp[Kz,hi]
    .rw[EC,EC];rfl
   rw[g2] at g1;exact g1
  have hso:FB (D8 (d2.getD i .non)) (Aa (a.leB b)):=by
   rw[N8];exact S8 (λ{i j} hi hj h=>qU (by have:=hmem i hi;lia) (by have:=hmem j hj;lia) h) hsort
  have eD:(D8 (d2.getD i .non))=La ds:=Wi hal (hpm.trans p2) hso;have hv:=v2.pick p (by rw[l2];exact hmem);rw[<- hout] at hv;have hplen:p.length=vs.length:=by rw[hpp.length_eq,Oo]
  have hz:BI x2.length:=by
   have:=p2.length_eq;have:=S.small;simp at *;lia
  refine(Bj Cd _ ((I.laid (t':=tk) (h':=h') k hl (show Lr X.prog X.w _ _ _ (.lst (D8 (x2.getD i .non))) from⟨by rw[Kg,hplen,<- l2];exact Rp (by lia),out.toList,c,hv,by simpa[PQ] using hcell⟩)).drw d) (q l _ (I.hok.fresh hl) ⟨?_,λi d' x' h1 h2=>?_⟩));.rw[<- eD];simp
  .rw[<- eD,KR] at h1;rw[KR] at h2;cases hp:p[i]? with
   | none=>rw[hp] at h1;cases h1
   | some j =>
    rw[hp] at h1 h2;have hj:=hmem j (KD hp);have e1:AQ d2 d':=by
     have:d2.getD j .non=d':=by simpa using h1
     rw[Kz,Kv (by lia)] at this;rw[Kv (by lia)];simpa using this
    have e2:AQ x2 x':=by
     have:x2.getD j .non=x':=by simpa using h2
     rw[Kz,Kv (by lia)] at this;rw[Kv (by lia)];simpa using this
    obtain⟨j',hj'⟩:=s2.2 j d' x' e1 e2;exact⟨j',hj'⟩
end
section
variable{P:Ko}{w:Km}{K:Kd}{G Hz L:Hp}{ss:List Sl}{t ta tb:TE}{f:Bool}{ds da db dr:List D}
theorem sZ(dd:Ac)(a:EvS P w K G Hz L ss t ds)(hf:∀d∈ds,Ci f)(hal:M7 ds)(hn:dd.Nodup)(h64:dd.length<64)(hm:∀d,d∈dd↔d∈ds):EvO K G Hz L ss (tCB (YG P w K f) (BV t)) (La dd):=λF H σ Q S q =>
 a F H σ _ S λp xs F' H' d1 e hp fp hp1 r n1 m1=>⟨p,xs,d1,rfl,hp1,r.mono e.fh,λd h=>hf d ((m1 d).mp h),hal.sub λd h=>(m1 d).mp h,by rw[<- ((Ud hn n1).mpr λd=>by rw[hm,m1]).length_eq];exact h64,λl xr hl src=>by
  have hp:dd.Perm d1:=(Ud hn n1).mpr λd=>by rw[hm,m1]
  rw[<- zln (hal.sub λd h=>(m1 d).mp h) hp] at src;exact q l xr F' _ (e.newO hl) (e.hh.free hl) (e.fh.free hl) Ku (src.reps r Reps.nil)⟩
end
end L2
namespace L2
open PySem PySem.W PySem.Spec PyProof.Rows
noncomputable def zuc(K:Kd)(sp:Sp)(ta:TA)(j i:Nat)(CF:Addr)(ts:TS):TS:=λD σ H=>ta σ H λvs H1=>sp vs H1 (λv H2=>D.nx (FM j v) H2) (λcls dd H2=>∃C,cls= AG/\Ab (exmOne K AG (.ref CF)) true /\ ∀x,H2 x=none ->
 ts { nx:=λσ' H'=>∃v,D5 σ' v/\D.nx (σ'.set i none) H',rt:=D1 } (FM i BB) (upd H2 x (T7 x C dd)))
section
variable{X:Cx}
theorem zwh{c:Bool}{k j:Nat}{f CF:Addr}{fd:Mp}{ps:AC}{sp:Sp}{fn cn n y:Str}{p pos yp ap np hp tp:Pos}{e:Expr}{es:List Expr}{ta:TA}{i:Nat}{b₀:Stmt}{suite:List Stmt}{ts:TS}
  (F:FnOk X.prog X.w X.K X.mg X.base (CXB c X.prog X.w) k f fd ps sp) (hr:Room k X.A) (hg:Gl X fn) (hm:Ab (X.mg fn) (.ref f)) (hk:Aa (Tv X.K (.ref f))) (hb:M5 X.K fd ps []) (ha:PA X.nox (e::es) ta)
  (hj:AQ X.N y) (hy:E4 y .local)
  (hgc:Gl X cn) (hmc:Ab (X.mg cn) (.ref CF)) (hN:X.N.Nodup) (hi:Ah X.N n) (hx:E4 n .local) (hs:∀x,PSs (X.inSuite x) (b₀::suite) ts) (hst:X.stack=X.env::X.outer/\Ab X.env.frame X.env.locals/\X.ex=[])
  (hdb:Be fn EE:=by decide) (hdc:Be cn EE:=by decide) (he:CA (e::es)=(D4 e)::CA es:=by rfl) (hpl:AL ((DT pos es).any (·.1)):=by rfl)
  (hsw:Ul (Ey fn p (e::es) pos) (some (.Name y yp)) ap.line X.env=pure false:=by rfl) :
  PS X (.Try [.Assign [.Name y yp] (Ey fn p (e::es) pos) ap] [.ExceptHandler (some (.Name cn np)) (some n) (b₀::suite) hp] [] [] tp) (zuc X.K sp ta j i CF ts):=by
 intro pins s σ H D I h;refine wpAny_Try_except (zL (Zxw (Xq (X7 I hg hm ?_ hdb)) hsw));refine X4 (h₀:=X.base) I.ok.mod.kin hk (D2 (ha pos pins s σ H _ (I.wish _) h) (λus s1 ⟨vs,H1,I1,r,q⟩=>(BG I1.unwish.kIn)) z.elim) he hpl;have I1:=I1.unwish;have hl:CJ (us++[]) ps.length:=by rw[LR,<- r.length];exact F.len _ _ _ _ q
 have hb':=hb s1 us I1.kIn hl;rw[LR] at hb';refine Te (Td (F.run X.A X.stack s1 H1 (Br us) us vs _ _ hr I1.env0 hb' r q) λr s2 hq=>?_);cases r with
 | ok fl =>
  cases fl with
  | ret u =>
   obtain⟨v,H2,I2,rv,q2⟩:=I1.after hq;exact aL I2 hN hj (.inl hy) rv (λs3 I3=>Xv (Xv ⟨_,H2,I3,q2⟩)) (.inr hy)
  | next=>exact Nb hq
  | brk=>exact Nb hq
  | cont=>exact Nb hq
 | error ev=>exact ybe I1 hgc hmc hN hi hx hs hst hq hdc
end
section
variable{K:Kd}{G Hz L:Hp}{ss:List Sl}{t:TA}{ds:List D}{D0:Ends}{C:Addr}{f:Str}{pre bad:List D->Prop}{res:List D->D}{errR:List D->D->Prop}
theorem zxx{i:Nat}{x dx:Addr}{d:D}{N:St->A2}(hs:Bl (xsl2 K x C dx f d))(h:Bw K G L N (Bu .un)):Bw K G L (λσ' H'=>∃v,D5 σ' v/\N (σ'.set i none) H') ss:=λF H σ S=>by
 obtain⟨v,e,_⟩:=Fj hs;refine⟨v,e,h F H _ (S.put S.ext S.fl (by simp) (λj hj=>QM CU) (λ_=>trivial) (by simp[Sl.ads]) (λ_ _ _ _ p hp=>by simp[Sl.ads] at hp) λj s' _ h=>S.ok j s' h)⟩
end
end L2
namespace L2
open PySem PySem.W PySem.Spec PyProof.Rows PySem.Calls
open PySem.MeetsSeq PySem.MeetsSeq2 PySem.MeetsSeq3
open AutoSeq1 (wpAny_loadPart')
inductive LexC(prog:Ko)(w:Km)(A:Ks)(s:Ke):List Ka->List Ka->Bool->Prop
 | nil:LexC prog w A s [] [] false
 | eq {u v:Ka} {us vs:List Ka} {r:Bool} (h:∀(E:Ka->Ke->Prop) (Q:Bool->Ke->Prop),Q true s->Kw (Pz prog w) A (eqBool u v) Q E s) (t:LexC prog w A s us vs r):LexC prog w A s (u::us) (v::vs) r
 | ne {u v:Ka} {us vs:List Ka} {r:Bool} (h:∀(E:Ka->Ke->Prop) (Q:Bool->Ke->Prop),Q false s->Kw (Pz prog w) A (eqBool u v) Q E s) (g:∀(E:Ka->Ke->Prop) (Q:Ka->Ke->Prop),Q (.bool r) s->Kw (Pz prog w) A (richCompare .Lt u v) Q E s):LexC prog w A s (u::us) (v::vs) r
end L2
namespace L2
open PySem PySem.W PyProof.Rows
section
variable{X:Cx}{pins:List (Addr×Obj)}{σ:St}{H:Hp}{s:Ke}{A':Ks}
theorem Inv.eqAt(I:Ak){d e:D}{x y:V}{u v:Ka}(r1:Rep X.K H d x)(rx:Bi x)(r2:Rep X.K H e y)(ry:RelV y v)(n1:Aa d.nb)(n2:Aa e.nb)(hd:d.dep<=60)(hu:A'.units+64<Ln):SeqAt.EqAt A' s u v (An d e):=by
 obtain⟨⟨as,a⟩,c1⟩:=I.reads n1 r1 rx;obtain⟨⟨bs,b⟩,c2⟩:=I.reads n2 r2 ry;have h1:=D.toP_depth d;have:=SeqAt.eqAt_reads d.toP e.toP A' s u v as bs a b c1 c2 (by lia);rw[D.eqv d e n1 n2] at this;exact this
theorem Inv.pair(I:Ak){h r:D}{x:V}{u:Ka}(rp:Rep X.K H (.tup [h,r]) x)(rx:Bi x):∃a o its n p q x1 x2,u= Av/\AI a/\o.cls= EU /\ o.data= .seq its n/\its.toList=[p,q]/\Rep X.K H h x1/\RelV x1 p/\Rep X.K H r x2/\RelV x2 q:=by
 obtain⟨a,xs,rfl,sq,rs⟩:=rp.of_tup;cases rx;obtain⟨its,rv,⟨o,e,c,n,hd⟩,_⟩:=I.tuple sq;rw[Reps] at rs;obtain⟨x1,xs,rfl,r1,rs⟩:=rs;rw[Reps] at rs;obtain⟨x2,xs,rfl,r2,rs⟩:=rs;rw[Reps] at rs;subst rs;obtain⟨p,q,rfl,hp,hq⟩:=Qd rv;exact⟨a,o,_,n,p,q,x1,x2,rfl,e,c,hd,rfl,r1,hp,r2,hq⟩
theorem yk1(I:Ak){ts:List Ty}{ds es:Ac}{x y:V}{v u:Ka}{C:Bool->Af}(r1:Rep X.K H DG x)(rx:RelV x v)(r2:Rep X.K H (.tup es) y)(ry:Bi y)(k1:Aa (shOk ts ds))(k2:Aa (shOk ts es))(hu:A'.units<Ln)
  (hC:C (AF (ds.map D.fo) (es.map D.fo)) s):ET A' (PX .Lt v u) (W.BoolBack C) D1 s:=by
 obtain⟨a,⟨cls,dd,data,sl⟩,its,n,rfl,ho,hc,hd,fv⟩:=I.tv k1 r1 rx;obtain⟨b,⟨cls2,dd2,data2,sl2⟩,its2,n2,rfl,ho2,hc2,hd2,fv2⟩:=I.tv k2 r2 ry;simp only at hc hd hc2 hd2;subst hc hd hc2 hd2;have z1:=fv.len;have z2:=fv2.len;have z3:=znq k1;have z4:=znq k2;rw[NZ] at z1 z2;exact richCompare_meets_room (op:=.Lt) (Cm ho) (Cm ho2) PySem.F.slot_tuple_lt PySem.F.entry_tuple_lt (PySem.F.args_tuple_lt_2 _ _) (zoc a b its its2 n n2 dd dd2 sl sl2 ts ds es k1 k2 fv fv2 (by lia))
  ⟨ho,ho2,(λz=>nomatch z),hC⟩ hu
noncomputable def D.hd:D->D
 | .tup (h::_)=>h
 | d=>d
theorem zyq{ds:Ac}{xs:Ai}{us:Am}{t:Ty}{ts:List Ty}(I:Ak)(rs:Reps X.K H ds xs)(rv:BY xs)(hsh:∀d∈ds,∃es r,d= .tup [.tup es,r]/\Aa (shOk (t::ts) es)/\Aa d.nb/\d.dep<=60)
  (hdis:∀d∈ds,∀e∈ds,d.hd=e.hd->d=e) (hu:A'.units+64<Ln) (h2:2<=us.length):qY X.prog X.w A' s us (rk (ds.map D.hd)):=by
 have l1:=rs.length;have l2:=rv.length;have at':∀i,i<us.length-> ∃es r x,CG i= .tup [.tup es,r]/\CG i∈ds/\Aa (shOk (t::ts) es)/\Aa (D.tup [.tup es,r]).nb/\(D.tup [.tup es,r]).dep<=60/\Rep X.K H (.tup [.tup es,r]) x/\RelV x (us.getD i Lz):=λi hi=>by
  obtain⟨x,r,q,hm⟩:=qW rs rv hi;obtain⟨es,r',e,ho,hn,hd⟩:=hsh _ hm;rw[e] at r hn hd;exact⟨es,r',x,e,hm,ho,hn,hd,r,q⟩
 have hfs:∀(l:Am),(∀v∈l,∃a o its n p q,v= Av/\AI a/\o.cls= EU /\ o.data= .seq its n/\its.toList=[p,q]/\Looks (Gc X.w) s.heap (Uq p) EU)-> ∃fs,KatTups s.heap l fs/\fs.length=l.length /\ ∀f∈fs,Looks (Gc X.w) s.heap (Uq f) EU:=by
  intro l;induction l with
  | nil=>intro _;exact(Bh [] KatTups.nil (by simp))
  | cons v l ih =>
   intro h;obtain⟨fs,h1,h2,h3⟩:=ih λu hu=>h u (AS hu);obtain⟨a,o,its,n,p,q,rfl,hg,hc,hd,hits,hl⟩:=h v KN;have h0:AM its 0 p:=by
    have:AM its.toList 0 p:=by rw[hits];rfl
    simpa using this
   refine⟨p::fs,KatTups.cons hg hc hd h0 h1,by simp[h2],λg hgm=>?_⟩;rcases KH.mp hgm with rfl | hgm;.exact hl
   .exact h3 g hgm
 obtain⟨fs,hk1,hk2,hk3⟩:=hfs us λv hv=>by
  obtain⟨i,hi,rfl⟩:=qX hv;obtain⟨es,r,x,e,hm,ho,hn,hd,rp,q⟩:=at' i hi;obtain⟨a,o,its,n,p,q',x1,x2,eu,hg,hc,hdd,hits,r1,rx1,r2,rx2⟩:=I.pair rp q;obtain⟨b,ob,its2,n2,rfl,hb,hcb,_⟩:=I.tv ho r1 rx1;refine⟨a,o,its,n,_,q',eu,hg,hc,hdd,hits,?_⟩;rw[<- hcb];exact(Looks.ld hb).andThen .now
 refine⟨tuples' ((MJ "tuple") != MJ "tuple"),λQ E q=>kat_kind (T:=EU) hk1 (by lia) hk3 (by decide) q,λi j C hi hj hC=>?_⟩;obtain⟨es,r,x,e,hm,ho,hn,hd,rp,q⟩:=at' i hi;obtain⟨es',r',x',e',hm',ho',hn',hd',rp',q'⟩:=at' j hj;obtain⟨a,o,its,n,p1,p2,x1,x2,eu,hg,hc,hdd,hits,r1,rx1,r2,rx2⟩:=I.pair rp q;obtain⟨a',o',its',n',p1',p2',x1',x2',eu',hg',hc',hdd',hits',r1',rx1',r2',rx2'⟩:=I.pair rp' q';rw[eu,eu'];have hi':i<(ds.map D.hd).length:=by rw[Kg];lia
 have gd:∀m,m<us.length->EO (ds.map D.hd) m=(CG m).hd:=λm hm=>by
  rw[Kz,Kz,KR,Kv (show m<ds.length by lia)];rfl
 rw[aZ hi',gd i hi,gd j hj,e,e'] at hC;have hC:C (AF (D.tup es).ord (D.tup es').ord) s:=hC;simp only[D.nb,D.nbs,Lk,Zxr] at hn hn';simp only[D.dep,D.deps] at hd hd';refine kat_lt hg hdd hg' hdd' ?_;rw[decide_eq_false (by
  have z1:=congrArg PL hits;have z2:=congrArg PL hits';simp at z1 z2;lia),hits,hits'];have nh:Aa (D.tup es).nb:=by rw[D.nb];exact hn.1
 have nh':Aa (D.tup es').nb:=by rw[D.nb];exact hn'.1
 refine kat_cons (I.eqAt r1 rx1 r1' rx1' nh nh' (by simp only[D.dep];lia) hu _ _ _ _ ?_);by_cases he:D.tup es=D.tup es'
 .rw[decide_eq_true he];have hdd2:CG i=CG j:=hdis _ hm _ hm' (by rw[e,e'];exact he);rw[e,e'] at hdd2;injection hdd2 with hdd2;injection hdd2 with ea eb;injection eb with eb _;subst eb;refine kat_yes (kat_cons (I.eqAt r2 rx2 r2' rx2' hn.2 hn'.2 (by lia) hu _ _ _ _ ?_));rw[Gg];refine kat_yes (kat_nil ?_);rw[<- he,decide_eq_false (RT _)] at hC;exact hC
 .rw[decide_eq_false he];refine kat_no ?_;show AT _ (oneLt' false _ _) _ _ _;exact kat_one _ _ (yk1 (A':=A') I r1 rx1 r1' rx1' ho ho' (by lia) hC)
end
end L2
namespace L2
open PySem PySem.W PySem.Spec PyProof.Rows PySem.Calls
end L2
namespace L2
open PySem PySem.W PySem.Spec PyProof.Rows
structure LamAt(base:Heap)(mg:Str->Option Ka)(fl:Mp)(T:Addr):Prop where
 ex:∃c,fl.code= .ref c/\CodeHd base c T
 bt:base.BuiltinsAt mg T
end L2
namespace L2
open PySem PySem.Spec PyProof.Rows
structure FX(K:Kd)(mg:Str->Option Ka)(n:Str)(s:Stmt)(ps:List Str)(f:Addr)(d:Mp):Prop where
 F:Fun K n n s f d
 B:M5 K d ps []
 M:mg n=some (.ref f)
noncomputable def Bd(n:Str)(s:Stmt)(ps:AC):Prop:=∀(kV doc pm:Ka) (an:CB) (cdv ct:Ka) (us:Am),us.length=ps.length->QJ (Ou n n (Pg s) (Mv s) (KZ s) .none kV doc pm an cdv ct) (Br us)=pure (ps.zip us)
theorem fx_mk{K:Kd}{h:Heap}{mg:Str->A4}{n:Str}{s:Stmt}{ps:AC}{g:Addr}{oc kV doc pm cdv ct:Ka}{od an:CB}{osl:Array A4}(X:K.In h)(G:h.Ns QG mg)(b:Bd n s ps)(a:Ab (PySem.W.nsIn K QG n) (some (.ref g)))
  (l:Ab (K.lookup g) ⟨oc,od,.func (Ou n n (Pg s) (Mv s) (KZ s) .none kV doc pm an cdv ct),osl⟩) (c:Aa (pL K cdv n)) (k:Aa (Tv K (.ref g))):FX K mg n s ps g (Ou n n (Pg s) (Mv s) (KZ s) .none kV doc pm an cdv ct) :=
 ⟨fun_mk l c k,(fun_mk l c k).binds b,PySem.W.mg_of X G a⟩
theorem FX.bt{K:Kd}{mg:Str->A4}{n x:Str}{s:Stmt}{f:Addr}{d:Mp}(b:Bd n s [x])(z:FX K mg n s [x] f d)(t:Ke)(v:Ka):Uo t d (Br [v]) [(x,v)]:=by
 obtain⟨oc,od,kV,dc,pm,an,cdv,ct,osl,rfl,l,_⟩:=z.F.ex;exact .of_eq (b kV dc pm an cdv ct [v] rfl)
theorem zcf{N P:AC}{sc:Scope}(h:Aa (decide (sc.kind= .function)&&(!sc.isCoroutine&&(!sc.isGenerator&&(decide N.Nodup&&(An (N.take P.length) P&&(P.all (λx=>decide (Fw x .local\/Fw x .cell))&&sc.names.all λy=>decide (y.2 ≠ .free)))))))):FnScope N P sc:=by
 simp only[Lk,decide_eq_true_eq,Vt,mF] at h;exact⟨h.1,h.2.1,h.2.2.1,h.2.2.2.1,h.2.2.2.2.1,h.2.2.2.2.2.1,h.2.2.2.2.2.2⟩
section
variable{X:Cx}{pos:Pos}{i:Nat}{x:Str}
theorem pgn(i:Nat)(hN:X.N.Nodup)(hi:Ah X.N x:=by rfl)(hx:Loc X.env.scope x:=by exact CT)(hf:Aa (X.fn x)\/E4 x .local:=by first | exact A6 | exact .inr rfl | assumption):PG X (.Name x pos) (Ob i):=jZ hN hi hx hf
theorem psn(i:Nat){e:Expr}{te:TE}{pos':Pos}(hN:X.N.Nodup)(he:Au e te)(hi:Ah X.N x:=by rfl)(hx:Loc X.env.scope x:=by exact CT)(hs:Ul e (some (.Name x pos')) pos.line X.env=pure false:=by rfl)(hf:Aa (X.fn x)\/E4 x .local:=by first | exact A6 | exact .inr rfl | assumption):PS X (.Assign [.Name x pos'] e pos) (tAsg te (Ob i)):=pP hN hi hx he hs hf
theorem pcX{k kk:Nat}{f:Addr}{fd:Mp}{ps:AC}{sp:Sp}{e:Expr}{es:List Expr}{t:TA}{p:Pos}{st:Stmt}(F:FnOk X.prog X.w X.K X.mg X.base CX0 k f fd ps sp)(hr:Room kk X.A)(z:FX X.K X.mg x st ps f fd)(ha:PA X (e::es) t)(hle:k<=kk:=by decide)(hg:Gl X x:=by rfl)(hdb:Be x EE:=by decide)(he:CA (e::es)=(D4 e)::CA es:=by rfl)(hpl:AL ((DT pos es).any (·.1)):=by rfl):Au (Ey x p (e::es) pos) (Qv sp [] E0 t) :=
 zx0 F (hr.mono hle) hg z.M z.F.kp z.B .nil Yh ha hdb he hpl
end
section
variable{P:Ko}{w:Km}{K:Kd}{mg:Str->Option Ka}{base:Heap}{x qual:Str}{st:Stmt}{f:Addr}{fd:Mp}{N ps:List Str}{k:Nat}
theorem Wu{sc:Scope}(S:FnScope N ps sc):ps.length<=N.length:=by
 have:=congrArg PL S.pre;rw[O6] at this;omega
theorem okD{pre:Aq Ac}{res:Ac->D}(F:Fun K x qual st f fd)(S:Bm N ps st)(hl:∀ds,B0->DJ ps.length)
  (hb:GA Env (FJ k (Dz qual (KZ st) f cdv)-> ∃t,PSs (cxOf CX0 P w K mg base N qual (KZ st) f cdv A outer s H E).nox (Mv st) t /\ ∀G ds,B0->RtD K G H Q (res ds)->Go K G H G Cv (DY ds) t)):FnOk P w K mg base CX0 (k+1) f fd ps (SpD K pre res) :=
 GD S (λvs H Q E h=>zz6 hl h) (let ⟨t,p,b⟩:=hb cdv A outer s H Q E hr;⟨t,p,yie h (by rw[zz6 hl h];exact Wu S) b⟩)
theorem okO{pre:Aq Ac}{res:Ac->Ac}(F:Fun K x qual st f fd)(S:Bm N ps st)(hl:∀ds,B0->DJ ps.length)
  (hb:GA Env (FJ k (Dz qual (KZ st) f cdv)-> ∃t,PSs (cxOf CX0 P w K mg base N qual (KZ st) f cdv A outer s H E).nox (Mv st) t /\ ∀G ds,B0->RtO K G H Q (res ds)->Go K G H G Cv (DY ds) t)):FnOk P w K mg base CX0 (k+1) f fd ps (SpO K pre res) :=
 GD S (λvs H Q E h=>zzg hl h) (let ⟨t,p,b⟩:=hb cdv A outer s H Q E hr;⟨t,p,yj4 h (by rw[zzg hl h];exact Wu S) b⟩)
theorem okR{pre:Aq Ac}{R:Ac->Aq Ac}(F:Fun K x qual st f fd)(S:Bm N ps st)(hl:∀ds,B0->DJ ps.length)
  (hb:GA Env (FJ k (Dz qual (KZ st) f cdv)-> ∃t,PSs (cxOf CX0 P w K mg base N qual (KZ st) f cdv A outer s H E).nox (Mv st) t /\ ∀G ds,B0->(∀rs,R ds rs->RtO K G H Q rs)->Go K G H G Cv (DY ds) t)):FnOk P w K mg base CX0 (k+1) f fd ps (SpR K pre R) :=
 GD S (λvs H Q E h=>zxo hl h) (let ⟨t,p,b⟩:=hb cdv A outer s H Q E hr;⟨t,p,yiv h (by rw[zxo hl h];exact Wu S) b⟩)
theorem okRD{pre:Aq Ac}{R:Ac->Aq D}(F:Fun K x qual st f fd)(S:Bm N ps st)(hl:∀ds,B0->DJ ps.length)
  (hb:GA Env (FJ k (Dz qual (KZ st) f cdv)-> ∃t,PSs (cxOf CX0 P w K mg base N qual (KZ st) f cdv A outer s H E).nox (Mv st) t /\ ∀G ds,B0->(∀r,R ds r->RtD K G H Q r)->Go K G H G Cv (DY ds) t)):FnOk P w K mg base CX0 (k+1) f fd ps (SpRD K pre R) :=
 GD S (λvs H Q E h=>zue hl h) (let ⟨t,p,b⟩:=hb cdv A outer s H Q E hr;⟨t,p,yg0 h (by rw[zue hl h];exact Wu S) b⟩)
theorem okG{α:Type}{pre:α->Aq Ac}{res:α->D}(F:Fun K x qual st f fd)(S:Bm N ps st)(hl:∀q ds,pre q ds->DJ ps.length)
  (hb:GA Env (FJ k (Dz qual (KZ st) f cdv)-> ∃t,PSs (cxOf CX0 P w K mg base N qual (KZ st) f cdv A outer s H E).nox (Mv st) t /\ ∀G ds q,pre q ds->RtD K G H Q (res q)->Go K G H G Cv (DY ds) t)):FnOk P w K mg base CX0 (k+1) f fd ps (SpG K pre res) :=
 GD S (λvs H Q E h=>yaq hl h) (let ⟨t,p,b⟩:=hb cdv A outer s H Q E hr;⟨t,p,yic h (by rw[yaq hl h];exact Wu S) b⟩)
theorem okGO{α:Type}{pre:α->Aq Ac}{res:α->Ac}(F:Fun K x qual st f fd)(S:Bm N ps st)(hl:∀q ds,pre q ds->DJ ps.length)
  (hb:GA Env (FJ k (Dz qual (KZ st) f cdv)-> ∃t,PSs (cxOf CX0 P w K mg base N qual (KZ st) f cdv A outer s H E).nox (Mv st) t /\ ∀G ds q,pre q ds->RtO K G H Q (res q)->Go K G H G Cv (DY ds) t)):FnOk P w K mg base CX0 (k+1) f fd ps (SpGO K pre res) :=
 GD S (λvs H Q E h=>zs3 hl h) (let ⟨t,p,b⟩:=hb cdv A outer s H Q E hr;⟨t,p,yh1 h (by rw[zs3 hl h];exact Wu S) b⟩)
end
end L2
namespace L2
open PySem PySem.W PySem.Spec PyProof.Rows
section
variable{P:Ko}{w:Km}{K:Kd}{mg:Str->Option Ka}{base:Heap}{x qual:Str}{st:Stmt}{f:Addr}{fd:Mp}{N ps:List Str}{k:Nat}
theorem okOO{pre:Aq Ac}{res:Ac->List Ac}(F:Fun K x qual st f fd)(S:Bm N ps st)(hl:∀ds,B0->DJ ps.length)
  (hb:GA Env (FJ k (Dz qual (KZ st) f cdv)-> ∃t,PSs (cxOf CX0 P w K mg base N qual (KZ st) f cdv A outer s H E).nox (Mv st) t /\ ∀G ds,B0->RtOO K G H Q (res ds)->Go K G H G Cv (DY ds) t)):FnOk P w K mg base CX0 (k+1) f fd ps (SpOO K pre res) :=
 GD S (λvs H Q E h=>zup hl h) (let ⟨t,p,b⟩:=hb cdv A outer s H Q E hr;⟨t,p,yfr h (by rw[zup hl h];exact Wu S) b⟩)
end
end L2
namespace L2
open PySem PySem.Spec PyProof.Rows
end L2
namespace L2
open PySem PySem.W PySem.Spec PyProof.Rows
noncomputable def cC(r d:Addr):HO:=.ext λh=>h.IsItemsView r d
noncomputable def updT(H:Hp):Bp->AU V->Hp
 | t::ts,kv::kvs=>updT (AX t (.tup [kv.1,kv.2])) ts kvs
 | _,_=>H
theorem cD:∀{ts:Bp} {kvs:AU V} {H:Hp} {b:Addr},b∉ts->updT H ts kvs b=H b
 | [],_,_,_,_=>rfl
 | _::_,[],_,_,_=>rfl
 | t::ts,kv::kvs,H,b,h=>by
  rw[updT,cD λz=>h (AS z),Kh λz=>h (by rw[z];exact KN)]
theorem zse:∀{ts:Bp} {kvs:AU V} {H:Hp} {j:Nat} {t:Addr} {kv:V×V},ts.Nodup->AQ ts t->AQ kvs kv->Ab (updT H ts kvs t) (.tup [kv.1,kv.2])
 | [],_,_,_,_,_,_,h,_=>by simp at h
 | _::_,[],_,_,_,_,_,_,h=>by simp at h
 | t::ts,kv::kvs,H,0,t',kv',hn,h1,h2=>by
  simp at h1 h2;subst h1 h2;rw[updT,cD (M4.mp hn).1,Ku]
 | t::ts,kv::kvs,H,j+1,t',kv',hn,h1,h2=>by
  rw[updT];exact zse (M4.mp hn).2 (by simpa using h1) (by simpa using h2)
section
variable{X:Cx}{pins:List (Addr×Obj)}{σ:St}{H:Hp}{s:Ke}{A':Ks}
theorem Inv.adoptT{a:Addr}{xs:Ai}{us:Am}(I:Ak)(hf:D7 X H a)(ho:Cp a (CQ (.seq us.toArray)))(r:BY xs)(hz:AD xs.length):Ce (AX a (.tup xs)) s:=by
 obtain⟨f0,f1,f2,f3,f4,f5⟩:=hf;have ne:∀b o,b∉[a]->AI b->b≠a:=λb o h _ z=>h (by simp[z]);have J:=I.step (g':=s.gens) (t':=s.toks) (d':=s.drawn) (h':=s.heap) (H':=AX a (.tup xs)) (ch:=[a]) (λb hb=>by rw[K5.mp hb];exact⟨f3,f1,f4,f5⟩) (λb o _ _ _ e _=>e) (λb o _ _ _ e _=>⟨o.slots,e⟩)
  (λb o hb e n=>by rw[Kh (ne b o hb e)];exact n) (λb o _ e=>⟨o,e⟩) (λb ys e=>by rw[Kh (Lp e f0)];exact e) (λb o u e=>by rw[Kh (Lp e f0)];exact e)
  (λb ps e=>⟨#[],by rw[Kh (Lp e f0),e];simp⟩) (λm hm=>hm) (λb u e=>?_) I.bare;.exact J
 .by_cases hb:b=a
  .subst hb;rw[Ku] at e;cases e;exact⟨hz,us,r,(BH _ ho _ rfl)⟩
  .rw[Kh hb] at e;exact(I.hok b u e).stay (λc v _ q=>q) (λc q=>by rw[Kh (Lp q f0)];exact q) λc ys q=>by rw[Kh (Lp q f0)];exact q
theorem Inv.adoptTs:∀(ts:Bp) (kvs:AU V) {H:Hp},Ak->ts.Nodup->(∀t∈ts,D7 X H t)->(∀(j:Nat) t,AQ ts t-> ∃kv u1 u2,AQ kvs kv/\RelV kv.1 u1/\RelV kv.2 u2/\Cp t (CQ (.seq #[u1,u2])))->Ce (updT H ts kvs) s
 | [],_,_,I,_,_,_=>I
 | _::_,[],_,I,_,_,_=>I
 | t::ts,kv::kvs,H,I,hn,hf,hp=>by
  obtain⟨n1,n2⟩:=M4.mp hn;obtain⟨kv',u1,u2,e,r1,r2,ho⟩:=hp 0 t rfl;simp at e;subst e;rw[updT];refine Inv.adoptTs ts kvs (I.adoptT (us:=[u1,u2]) (hf t KN) ho (.cons r1 (.cons r2 .nil)) (by rw[K3];simp)) n2 Eg λj b hj=>hp (j+1) b (by simpa using hj);obtain⟨f0,f⟩:=hf b (AS hb);exact⟨by rw[Kh λz:b=t=>n1 (by rw[<- z];exact hb)];exact f0,f⟩
theorem yjo{α β:Type}[DecidableEq α]{xs:CM α β}(h:(xs.map (·.1)).Nodup){p q:α×β}(hp:p∈xs)(hq:q∈xs)(e:p.1=q.1):p=q:=by
 induction xs with
 | nil=>cases hp
 | cons a l ih =>
  rw[Kq,M4] at h;rcases KH.mp hp with h1 | h1
  .rcases KH.mp hq with h2 | h2;.rw[h1,h2]
   .exact absurd (Kr.mpr ⟨q,h2,by rw[<- e,h1]⟩) h.1
  .rcases KH.mp hq with h2 | h2;.exact absurd (Kr.mpr ⟨p,h1,by rw[e,h2]⟩) h.1
   .exact ih h.2 h1 h2
theorem zp9:∀as:Bp,Vals (as.map V.ref) EI
 | []=>.nil
 | _::as=>.cons rfl (zp9 as)
noncomputable def prD(q:D×D):D:=.tup [q.1,q.2]
end
structure DE(h:Heap)(d:Addr)(es:Array Th)(ep:Nat):Prop where
 ob:∃o,h.get? d=some o/\o.ExactDict/\o.data= .dict es ep
theorem DE.typeIs{s:Ke}{d:Addr}{es:Array Th}{ep:Nat}(x:DE s.heap d es ep):s.TypeIs (.ref d) "dict" := let ⟨o,ho,hc,_⟩:=x.ob;(CK ho hc.1)
theorem DE.at{h h':Heap}{d:Addr}{es:Array Th}{ep:Nat}(x:DE h d es ep)(k:∀o,AE d o->AJ d o):DE h' d es ep:=let ⟨o,ho,r⟩:=x.ob;(CK (k o ho) r)
section
variable{prog:Ko}{w:Km}{A:Ks}{E:Ka->Ke->Prop}{s:Ke}{d v it:Addr}{es:Array Th}{ep i:Nat}
theorem ygc{Q:Ka->Af}(hd:Be d QH)(x:DE s.heap d es ep)(h:Q BN { s with heap:=CP "dict_items" (.fields #[.ref d]) }) :
  AH (Gq "dict.items" [.ref d]):=by
 refine Rc Zr5 x.typeIs PySem.F.entry_dict_items ?_ (PySem.F.args_dict_items_1 _);unfold Mu.«dict.items» Zzs;refine Dg (wpAny_notOrdered_dict x.typeIs B7);unfold Zzr;simp only[hd,Lj,if_false];exact BD (Kc (Pq (Kf (Ar rfl h))))
theorem yfq{Q:Ka->Af}(hv:s.heap.IsItemsView v d)(x:DE s.heap d es ep)
  (h:∀h1,Z1 h1 s.heap.objs.size d 0 es.size ep .none .none->(∀b o,AI b->EK b o)->h1.objs.size=BQ 1->Ge BN) :
  AH (V8 (.ref v)):=by
 obtain⟨o,ho,hc,hdat⟩:=id x.ob;obtain⟨y,hy,_,hyd⟩:=id hv;refine zJ hv.typeIs Zqt (Rc Zqt hv.typeIs PySem.F.entry_dict_items_iter ?_ (PySem.F.args_dict_items_iter_1 _));unfold Mu.«dict_items.__iter__» Zvr Zvq;refine BD (Dg (Rh hy hyd (i:=0) (x:=.ref d) rfl (Kf (Dg (zK ho hdat (Kc (zN ho hdat ?_)))))));have e1:Zo5 "dict_itemiterator" = true:=by decide
 rw[e1];refine Pq (Kf ⟨_,rfl, "dict_itemiterator", _,(Cm (BP _)),Z8.lookup,?_⟩) (by simp[sizeOk,Zvp,K3]);refine h _ ?_ (λb u e=>A0 e) (Mq ..);exact BP _
theorem YH:Zo5 "dict_itemiterator" = true:=by decide
theorem Sx{α:Type}{c:Prop}[Decidable c]{m1 m2:Sem α}{Q:α->Af}(hc:¬ c)(h:AH m2):AH (if c then m1 else m2):=by rw[if_neg hc];exact h
theorem yf0{Q:Ka->Af}{ok ov key val:Ka}{n:Nat}(st:Z1 s.heap it d i n ep ok ov)
  (h:∀h1,zZ h1 it d i n ep key val s.heap.objs.size->EK s.heap.objs.size (CQ ES)->h1.objs.size=BQ 1 ->
   (∀b o,b≠it->AI b->EK b o)->Ge BN) :
  AH (oR (.ref it) 6 key val):=by
 obtain⟨hp,g,dr,tk,os⟩:=s;have lt:it<hp.objs.size:=Ld st;unfold oR Zn8;refine Kc (zR ?_);have a1:Z1 (hp.push (CQ ES)) it d i n ep ok ov:=A0 st;have t1:Cj (hp.push (CQ ES)) hp.objs.size (CQ ES):=BP _;have k1:∀b o,b≠it->Ab (hp.get? b) o->Cj (hp.push (CQ ES)) b o:=λb o _ e=>A0 e;have z1:(hp.push (CQ ES)).objs.size=hp.objs.size+1:=Mq ..;show AT _ _ _ _ (CY (hp.push (CQ ES)) g dr tk);revert a1 t1 k1 z1;generalize hp.push { cls:=.type "tuple", data:=.seq #[key,val] }=q1;intro a1 t1 k1 z1;refine Dg (Rh a1 rfl (i:=0) (x:=.none) rfl B7);rw[BR];refine Kc (Rh a1 rfl (i:=6) (x:=ok) rfl (Kc (Rh a1 rfl (i:=7) (x:=ov) rfl ?_)));refine Kc (VJ a1 (by simp) λq2 a2 b2=>Kc (VJ a2 (by simp) λq3 a3 b3=>Kc (VJ a3 (by simp) λq4 a4 b4=>Kc (VJ a4 (by simp) λq5 a5 b5=>Kc (Zwr B7)))));have kk:∀b o,b≠it->Ab (q1.get? b) o->Ab (q5.get? b) o:=λb o hb e=>b5.extBut b o hb (b4.extBut b o hb (b3.extBut b o hb (b2.extBut b o hb e)));exact h q5 a5 (kk _ _ (Pn lt) t1) (by rw[b5.1,b4.1,b3.1,b2.1];exact z1) λb o hb e=>kk b o hb (k1 b o hb e)
theorem yho{Q:A4->Af}{ok ov:Ka}(st:Z1 s.heap it d i es.size ep ok ov)(x:DE s.heap d es ep)
  (hyes:∀e,Ah es e-> ∀h1,zZ h1 it d (i+1) es.size ep e.key e.val s.heap.objs.size->EK s.heap.objs.size (CQ (.seq #[e.key,e.val]))->h1.objs.size=BQ 1 ->
   (∀b o,b≠it->AI b->EK b o)->Ge (some BN))
  (hh:es[i]? = none->DN) (hno:es[i]? = none-> ∀h1,Zum it s.heap h1->Ge none) :
  AH (Ot (.ref it)):=by
 obtain⟨hp,g,dr,tk,os⟩:=s;obtain⟨o,ho,hc,hdat⟩:=id x.ob;have ty:aH (CY hp g dr tk) (.ref it) "dict_itemiterator" := (Cm st);unfold Ot;refine Kc (Xx (zF (name:=pF "__next__") ty Z8 (Rc Z8 ty Zpn ?_ (Zpi _))));refine BD (Dg (Kc (Xm ty (Kf (Kc (Xw st rfl ?_))))));rw[YH];refine Sx (show ¬ Aa (KJ d == Lz) from Mh) (BD (Kc (zK ho hdat (Sx (by simp) (BD (Kc (zN ho hdat (Sx (by simp) B7))))))));have ni:¬ ((i:Int)<0):=by omega
 cases he:es[i]? with
 | some e =>
  simp only[if_neg ni,Uc,he];refine Dg (Xm ty (Kf (Kc (Xn ty ?_))));refine Kc (VJ st (by rw[YH];simp) λq1 a1 b1=>?_);have a1:Z1 q1 it d (i+1) es.size ep ok ov:=a1;have ty1:aH (CY q1 g dr tk) (.ref it) "dict_itemiterator" := (Cm a1);refine Kc (Nm (Kc (Xn ty1 (Kc (Xn ty1 ?_)))));have z1:q1.objs.size=hp.objs.size:=b1.1;refine yf0 a1 λq2 o2 t2 z2 k2=>Kf (Ar rfl B7);have o2:zZ q2 it d (i+1) es.size ep e.key e.val q1.objs.size:=o2;rw[show Zxj (CY q1 g dr tk)=q1 from rfl,z1] at *;exact hyes e he q2 o2 t2 z2 λb u hb e=>k2 b u hb (b1.extBut b u hb e)
 | none =>
  simp only[if_neg ni,Uc,he];refine Dg (Xm ty B7);refine Kc (Rf st rfl (by rw[YH];simp) (Kc ?_));simp only[newExc,oA];refine Kc (Pq (Kc (m:=kY _ _) (GX (Pq ?_ (by size_fits)))) (by size_fits));simp only[nZ];refine Kc (zW ?_);rw[show A.in1.handled=none from hh he];refine BD (Zwq ?_);refine Kc (VL (b:=true) (T:="StopIteration") (Cm (BP _)) zU B7);exact(hno he _ (((R3 ..).extBut.push _).push _))
end
theorem Paired.get{α β:Type}{R:α->Aq β}:∀{l₁:AK} {l₂:List β},Paired R l₁ l₂-> ∀(i:Nat) (a:α),Ah l₁ a-> ∃b,Ah l₂ b/\R a b
 | _,_,.nil,i,a,h=>by simp at h
 | _,_,.cons r t,0,a,h=>by simp at h;subst h;exact⟨_,rfl,r⟩
 | _,_,.cons r t,i+1,a,h=>by simpa using Paired.get t i a (by simpa using h)
theorem Paired.len{α β:Type}{R:α->Aq β}:∀{l₁:AK} {l₂:List β},Paired R l₁ l₂->l₁.length=l₂.length
 | _,_,.nil=>rfl
 | _,_,.cons r t=>by simp[Paired.len t]
section
variable{X:Cx}{pins:List (Addr×Obj)}{σ:St}{H:Hp}{s:Ke}{d it:Addr}{o:Obj}{kvs:List (List Key×V)}{es:Array Th}{ep i:Nat}
theorem Inv.deM(I:Ak)(e:Aw d (.frz o (.dT kvs)))(ho:o.data= .dict es ep):DE s.heap d es ep/\es.size=kvs.length /\
  ∀(i:Nat) k v,Ah kvs (k,v)-> ∃b u en,Ah es en/\en.key= Cs/\en.val=u/\Di b (k.map kV)/\Bi v:=by
 obtain⟨h0,z,y,xs,r,o',es',ep',h1,h2,h3,h4,h5⟩:=I.hok d _ e;rw[h0] at h1;cases h1;rw[ho] at h3;cases h3;have hl:=Paired.len r;have hz:es.size=xs.length:=by rw[<- NZ,h4,Kg]
 refine⟨⟨o,h0,h2,ho⟩,by omega,λi k v hk=>?_⟩;obtain⟨⟨k',b,u⟩,hb,e1,e2,e3⟩:=Paired.get r i _ hk;have e1:k=k':=e1;subst e1;have:Ah es.toList (entryOfKey (V3 (Mz X.prog X.w)) (k,b,u)):=by rw[h4,KR,hb];rfl
 exact⟨b,u,_,by simpa using this,rfl,rfl,e2,e3⟩
noncomputable def zwr:V->Ai->Hp->B9:=λx vs H Q=>∃d o kvs,x= .ref d/\vs=[]/\Aw d (.frz o (.dT kvs)) /\ ∀r,H r=none->Q (.ref r) (AX r (cC r d))
theorem zw8:MtR X "dict.items" zwr:=by
 intro pins s σ H x xs v us Q I rx rs h;obtain⟨d,o,kvs,rfl,rfl,e,q⟩:=h;obtain rfl:v=KJ d:=rx;cases rs;obtain⟨h0,z,y,xs,r,o',es',ep',h1,h2,h3,h4,h5⟩:=I.hok d _ e;refine ygc (es:=es') (ep:=ep') y ⟨_,h1,h2,h3⟩ ?_;have I2:Ce (AX s.heap.objs.size (cC s.heap.objs.size d)) { s with heap:=CP "dict_items" (.fields #[.ref d]) } :=
  I.laid (t':=s.toks) (λ_ _ q=>A0 q) Az ⟨(Bh _ (BP _) rfl),(Bb (BP _)),λh1 h2 ⟨o,ho,r⟩ k=>(CK (k _ ho) r)⟩;exact(Bj BN _ I2 (q _ I.fresh))
noncomputable def tItM(td:TE):TE:=λσ H Q=>td σ H λx H1=>zwr x [] H1 Q
theorem zz9{o:Expr}{apos cpos:Pos}{td:TE}(ho:Au o td)(hbase:Uj o "items" X.env (Cz o)=Cz o:=by rfl)(hline:Aa (apos.endLine == cpos.line):=by rfl):Au (Fy (FA o "items") [] cpos) (tItM td):=by
 intro pins s σ H Q I h;refine Zup hbase hline (thn (ho pins s σ H _ I h) FI);obtain⟨x,H1,I1,r1,q1⟩:=hz9;obtain⟨d,o,kvs,ex,_,hd,_⟩:=id q1;subst ex;obtain rfl:v=KJ d:=r1;obtain⟨h1,h2,_⟩:=ye6 I1 (C1 kvs (C1 o hd));exact⟨"dict", "dict.items", Zr7,Zr5,PySem.F.type_dict_items,h1,h2,Z7 rfl (Zt2 (zw8 pins s1 σ H1 (.ref d) [] _ [] Q I1 rfl .nil q1))⟩
noncomputable def sFrz(t:TS):TS:=λD σ H=>∃a kvs,Aw a (.dT kvs) /\ ∀o,t D σ (AX a (.frz o (.dT kvs)))
theorem Inv.frzT(I:Ak)(e:Aw d (.dT kvs)):∃o,Ce (AX d (.frz o (.dT kvs))) s:=by
 have ok:=I.hok d _ e;obtain⟨z,y,xs,r,o,es,ep,h1,h2⟩:=id ok;have mu:Mut (H d):=by rw[e];trivial
 refine⟨o,I.write (t':=s.toks) (h':=s.heap) mu A6 (λ_ _ _ q=>q) ⟨o,h1⟩ (BG h1)⟩;have nt:∀b ys,Di b ys->b≠d:=λb ys q z=>by rw[z,e] at q;cases q
 exact⟨z,y,xs,Paired.mapP r λp q w=>⟨w.1,by rw[Kh (nt _ _ w.2.1)];exact w.2.1,w.2.2⟩,o,es,ep,h1,h2⟩
theorem yjz{st:Stmt}{t:TS}(h:PS X st t):PS X st (sFrz t):=λpins s σ H D I ⟨a,kvs,e,q⟩=>by
 obtain⟨o,I'⟩:=I.frzT e;exact h pins s σ _ D I' (q o)
end
end L2
namespace L2
open PySem PySem.Spec PyProof.Rows
section
variable{K:Kd}{G Hz L:Hp}{ss:List Sl}{i j:Nat}{p b:Addr}{kvs:DD}{E:Ends}{ty td tv tx:TE}{t:TA}{k d z:D}{ds:List D}
theorem yew{F H:Hp}{v:V}(r:As F DG v)(hk:Aa (ds.all D.isK))(hi:Aa (Yj ds))(fh:Same F H):∃b,v= Cs/\Di b ((D.tup ds).tkey.map kV):=by
 obtain⟨b,vs,rfl,hb,rs⟩:=r.trk hi;exact(By b (by rw[fh _ _ hb,bU hk rs];rfl))
theorem ydd(hs:Bl (dslT K p kvs))(a:Ay tv d)(b:Ay ty DG)(hk:Aa (ds.all D.isK))(hi:Aa (Yj ds))(hz:Dk kvs.length)(h:Bw K G L E.nx (Bu (dslT K p (putD kvs DG d)))):Bx K G L E (rE (tVar i) ty tv):=λF H σ S =>
 Ec F H σ _ S (by
  have S1:=Cg;obtain⟨e,_⟩:=S1.getMT hs;refine(Ar e (b F1 H1 σ _ S1 λy F2 H2 e2 r2=>?_));have S2:=S1.ext2 e2;obtain⟨_,_,_,xs,hp,dk⟩:=S2.getMT hs;obtain⟨b',rfl,hb⟩:=yew r2 hk hi S2.ext.fh;exact(BH p _ (DPut.t (k:=(D.tup ds).tkey) (v:=v) hp hb (by rw[<- dk.length];exact hz)) (h F2 _ σ (S2.writeMT hs (dk.put hk (r1.mono e2.gf))))))
end
end L2
namespace L2
open PySem PySem.W PySem.Spec PyProof.Rows
noncomputable def D.dicT(kvs:DD):D:=.dctT (kvs.map (·.1)) (kvs.map (·.2))
theorem yeh{K:Kd}{F:Hp}:∀{kvs:DD} {kv:AU BF},Aa ((kvs.map (·.1)).all D.isT)->(kv.map λq=>q.1)=(kvs.map (·.1)).map D.tkey->AN F (kvs.map (·.2)) (kv.map λq=>q.2)->Dkt K F kvs kv
 | [],[],_,_,_=>.nil
 | [],_::_,_,h,_=>by simp at h
 | _::_,[],_,h,_=>by simp at h
 | (k,d)::kvs,(q,v)::kv,ha,h,r=>by
  rw[Kq,Xg,Lk] at ha;simp only[Kq,QF] at h;rw[Kq,Kq,Reps] at r;obtain⟨x,r',e,rv,rr⟩:=r;cases e;obtain⟨h1,h2⟩:=h;have h1:q=k.tkey:=h1;subst h1;exact .cons ha.1 rv (yeh ha.2 h2 rr)
theorem Dkt.parts{K:Kd}{F:Hp}{kvs:DD}{xs:AU BF}(h:Dkt K F kvs xs):Aa ((kvs.map (·.1)).all D.isT)/\(xs.map λq=>q.1)=(kvs.map (·.1)).map D.tkey/\AN F (kvs.map (·.2)) (xs.map λq=>q.2):=by
 induction h with
 | nil=>exact(By rfl Reps.nil)
 | cons hk r t ih=>exact⟨by rw[Kq,Xg,hk,ih.1];rfl,by simp only[Kq];rw[ih.2.1],Reps.cons r ih.2.2⟩
theorem Rep.of_dicT{K:Kd}{F:Hp}{kvs:DD}{v:V}(r:As F (D.dicT kvs) v):∃p o xs,v= Ap/\Ab (F p) (.frz o (.dT xs))/\Dkt K F kvs xs:=by
 unfold D.dicT at r;rw[Rep] at r;obtain⟨p,kv,e,⟨o,q⟩,⟨h1,h2⟩,r2⟩:=r;exact⟨p,o,kv,e,q,yeh h1 h2 r2⟩
theorem Rep.dicT{K:Kd}{F:Hp}{kvs:DD}{p:Addr}{o:Obj}{xs:AU BF}(q:Ab (F p) (.frz o (.dT xs)))(dk:Dkt K F kvs xs):As F (D.dicT kvs) Ap:=by
 obtain⟨h1,h2,h3⟩:=dk.parts;unfold D.dicT;rw[Rep];exact⟨p,xs,rfl,⟨o,q⟩,⟨h1,h2⟩,h3⟩
section
variable{K:Kd}{G Hz L:Hp}{ss:List Sl}{i j:Nat}{p b:Addr}{kvs:DD}{E:Ends}{ty td tv tx:TE}{t:TS}{k d z:D}{ds:List D}{wi:TI}{n:Nat}{y:Nat->D}
theorem yh5(hs:Bl (dslT K p kvs))(h:Go K G Hz L E (Bu (.d (D.dicT kvs))) t):Bx K G L E (sFrz t):=λF H σ S=>by
 obtain⟨e,h0,fp,xs,hp,dk⟩:=S.getMT hs;have hget:Ab (EV i) Ap:=by rw[Kz,e];rfl
 refine⟨p,xs,hp,λo=>h (upd F p (.frz o (.dT xs))) _ σ ?_⟩;have hn:∀j s',j≠i->AQ ss s'->p∉s'.ads:=λj s' hj h=>S.ne i j _ s' CU hs h p (by simp[dslT,Sl.ads]);exact S.put ((S.ext.write fp h0).freeze fp h0 Ku) (S.fl.trans (Same.upd fp)) rfl Cy (λ_=>by rw[hget];exact⟨_,rfl,Rep.dicT Ku (dk.mono (Same.upd fp))⟩) (by simp[Sl.ads]) GS
  λj s' hj h=>((S.ok j s' h).updNe (hn j s' hj h)).frz fp (hn j s' hj h)
theorem Dkt.at{F:Hp}{kvs:DD}{xs:AU BF}(h:Dkt K F kvs xs):∀{i:Nat} {k:BF} {v:V},Ah xs (k,v)-> ∃kd d,Ah kvs (kd,d)/\k=kd.tkey/\As F d v:=by
 induction h with
 | nil=>intro i k v h;simp at h
 | @cons k d v kvs xs hk r t ih =>
  intro i k' v' hi;cases i with
  | zero=>simp at hi;exact(BH k d hi.1.symm (hi.2 ▸ r))
  | succ i=>simpa using ih (by simpa using hi)
theorem zyg(hs:Bl (dslT K p kvs))(b:Ay ty DG)(c:Ay tx z)(hk:Aa (ds.all D.isK))(hi:Aa (Yj ds)):Ay (zw9 (tVar i) ty tx) ((DL DG).getD z):=λF H σ Q S q=>by
 obtain⟨e,_,_,xs0,hp0,_⟩:=S.getMT hs;refine⟨_,e,p,rfl,C1 xs0 (.inl hp0),b F H σ _ S λv F2 H2 e2 r2=>c F2 H2 σ _ (S.ext2 e2) λw F3 H3 e3 r3=>?_⟩;obtain⟨_,_,_,xs,hp,dk⟩:=((S.ext2 e2).ext2 e3).getMT hs;obtain⟨b',rfl,hb⟩:=yew (r2.mono e3.gf) hk hi e3.fh;refine⟨valV xs (D.tup ds).tkey,DGet.t hp hb,q _ F3 H3 (e2.trans e3) ?_⟩;rcases dk.val (k:=.tup ds) hk with ⟨h1,h2⟩ | ⟨d',u,h1,h2,ru⟩ <;> rw[h1,h2];.exact r3
 .exact ru
theorem zpn{F:Hp}:∀{es:Ac},(∀d∈es,Aa d.isInt)->AN F es ((es.map D.key).map kV)
 | [],_=>Reps.nil
 | d::es,h=>by
  have h1:=h d KN;cases d <;> simp[D.isInt] at h1;exact Reps.cons Rep.int (zpn λe he=>h e (AS he))
end
section
variable{prog:Ko}{w:Km}{A:Ks}{E:Ka->Ke->Prop}{s:Ke}{d it a:Addr}{es:Array Th}{ep i:Nat}{f:Bool}{oa:Obj}
theorem wyes{α:Type}{c:Prop}[Decidable c]{m1 m2:Sem α}{Q:α->Af}(hc:c)(h:AH m1):AH (if c then m1 else m2):=by rw[if_pos hc];exact h
theorem ydm{Q:Ka->Af}{ok ov key val:Ka}{n:Nat}(st:KdxIt s.heap it d i n ep ok ov a f)(ha:Cp a oa)(hai:a≠it)
  (h:∀h1,KdxIt h1 it d i n ep ok ov a true->EK s.heap.objs.size (CQ ES)->h1.objs.size=BQ 1 ->
   (∀b o,b≠it->AI b->EK b o)->Ge BN) :
  AH (oR (.ref it) 6 key val):=by
 obtain⟨hp,g,dr,tk,os⟩:=s;have lt:it<hp.objs.size:=Ld st;unfold oR Zn8;refine Kc (zR ?_);have a1:KdxIt (hp.push (CQ ES)) it d i n ep ok ov a f:=A0 st;have b1:=kO (CQ ES) ha;have t1:Cj (hp.push (CQ ES)) hp.objs.size (CQ ES):=BP _;have k1:∀b o,b≠it->Ab (hp.get? b) o->Cj (hp.push (CQ ES)) b o:=λb o _ e=>A0 e;have z1:(hp.push (CQ ES)).objs.size=hp.objs.size+1:=Mq ..;show AT _ _ _ _ (CY (hp.push (CQ ES)) g dr tk);revert a1 b1 t1 k1 z1;generalize hp.push { cls:=.type "tuple", data:=.seq #[key,val] }=q1;intro a1 b1 t1 k1 z1;refine Dg (Rh a1 rfl (i:=0) (x:=Ma a) rfl ?_);show AT _ (loadIfAlive ((a:Int).toNat) >>= _) _ _ _;rw[Uc];refine Kc (kdx_alive b1 (Sx (by simp) (Kc (Rh a1 rfl (i:=1) (x:=.bool f) rfl ?_))));cases f with
 | true=>exact Sx (show ¬ Aa (Px true != Px true) from Mh) (Kf (Sx (by simp) (Kf (h q1 a1 t1 z1 k1))))
 | false =>
  refine wyes (show Aa (Px false != Px true) from rfl) (Kc (VJ a1 (by simp) λq2 a2 b2=>Kf (Sx (by simp) B7)));exact h q2 a2 (b2.extBut _ _ (Pn lt) t1) (by rw[b2.1];exact z1) λb o hb e=>b2.extBut b o hb (k1 b o hb e)
theorem ybw{Q:A4->Af}{ok ov:Ka}(st:KdxIt s.heap it d i es.size ep ok ov a f)(ha:Cp a oa)(hai:a≠it)(x:DE s.heap d es ep)
  (hyes:∀e,Ah es e-> ∀h1,KdxIt h1 it d (i+1) es.size ep ok ov a true->EK s.heap.objs.size (CQ (.seq #[e.key,e.val]))->h1.objs.size=BQ 1 ->
   (∀b o,b≠it->AI b->EK b o)->Ge (some BN))
  (hh:es[i]? = none->DN) (hno:es[i]? = none-> ∀h1,Zum it s.heap h1->Ge none) :
  AH (Ot (.ref it)):=by
 obtain⟨hp,g,dr,tk,os⟩:=s;obtain⟨o,ho,hc,hdat⟩:=id x.ob;have ty:aH (CY hp g dr tk) (.ref it) "dict_itemiterator" := (Cm st);unfold Ot;refine Kc (Xx (zF (name:=pF "__next__") ty Z8 (Rc Z8 ty Zpn ?_ (Zpi _))));refine BD (Dg (Kc (Xm ty (Kf (Kc (Xw st rfl ?_))))));rw[YH];refine Sx (show ¬ Aa (KJ d == Lz) from Mh) (BD (Kc (zK ho hdat (Sx (by simp) (BD (Kc (zN ho hdat (Sx (by simp) B7))))))));have ni:¬ ((i:Int)<0):=by omega
 cases he:es[i]? with
 | some e =>
  simp only[if_neg ni,Uc,he];refine Dg (Xm ty (Kf (Kc (Xn ty ?_))));refine Kc (VJ st (by rw[YH];simp) λq1 a1 b1=>?_);have a1:KdxIt q1 it d (i+1) es.size ep ok ov a f:=a1;have ty1:aH (CY q1 g dr tk) (.ref it) "dict_itemiterator" := (Cm a1);refine Kc (Nm (Kc (Xn ty1 (Kc (Xn ty1 ?_)))));have z1:q1.objs.size=hp.objs.size:=b1.1;refine ydm a1 (b1.extBut a oa hai ha) hai λq2 o2 t2 z2 k2=>Kf (Ar rfl B7);rw[show Zxj (CY q1 g dr tk)=q1 from rfl,z1] at *;exact hyes e he q2 o2 t2 z2 λb u hb e=>k2 b u hb (b1.extBut b u hb e)
 | none =>
  simp only[if_neg ni,Uc,he];refine Dg (Xm ty B7);refine Kc (Rf st rfl (by rw[YH];simp) (Kc ?_));simp only[newExc,oA];refine Kc (Pq (Kc (m:=kY _ _) (GX (Pq ?_ (by size_fits)))) (by size_fits));simp only[nZ];refine Kc (zW ?_);rw[show A.in1.handled=none from hh he];refine BD (Zwq ?_);refine Kc (VL (b:=true) (T:="StopIteration") (Cm (BP _)) zU B7);exact(hno he _ (((R3 ..).extBut.push _).push _))
theorem zxf{S:Addr}{Q:A4->Af}(hst:KdxSt s.heap it d S i es.size ep)(hS:Er S)(x:DE s.heap d es ep)
  (hyes:∀e,Ah es e-> ∀h1,KdxSt h1 it d S (i+1) es.size ep->EK s.heap.objs.size (CQ (.seq #[e.key,e.val]))->h1.objs.size=BQ 1 ->
   (∀b o,b≠it->AI b->EK b o)->Ge (some BN))
  (hh:es[i]? = none->DN) (hno:es[i]? = none-> ∀h1,Zum it s.heap h1->Ge none) :
  AH (Ot (.ref it)):=by
 rcases hst with ⟨rfl,ok,ov,st⟩ | ⟨ok,ov,a,f,oa,st,ha,hai,haS⟩;.exact yho st x (λe he h1 out t z k=>hyes e he h1 (.inr ⟨e.key,e.val,_,false,_,out,t,Pn (Ld st),Pn hS⟩) t z k) hh hno
 .exact ybw st ha hai x (λe he h1 st1 t z k=>hyes e he h1 (.inr ⟨ok,ov,a,true,oa,st1,k a oa hai ha,hai,haS⟩) t z k) hh hno
structure DeG(es:Array Th)(lo:Addr)(h:Heap)(as:List Addr):Prop where
 rise:as.Pairwise (· < ·)
 above:∀a∈as,lo<a
 pairs:∀(j:Nat) (a:Addr),as[j]? = some a-> ∃e,es[j]? = some e/\h.get? a=some { cls:=.type "tuple", data:=.seq #[e.key,e.val] }
theorem DeG.there{lo:Addr}{h:Heap}{as:Bp}(g:DeG es lo h as){a:Addr}(ha:a∈as):a<h.objs.size:=by
 obtain⟨j,hj⟩:=MF.mp ha;obtain⟨_,_,e⟩:=g.pairs j a hj;exact Bv
theorem DeG.keep{lo:Addr}{h h':Heap}{as:Bp}(g:DeG es lo h as)(k:∀b o,lo<b->AE b o->AJ b o):DeG es lo h' as:=⟨g.rise,g.above,λj a hj=>by
 obtain⟨e,h1,h2⟩:=g.pairs j a hj;exact⟨e,h1,k a _ (g.above a (KD hj)) h2⟩⟩
theorem DeG.more{lo x:Addr}{h:Heap}{as:Bp}{e:Th}(g:DeG es lo h as)(h1:∀a∈as,a<x)(h2:lo<x)(h3:AM es as.length e)(h4:AE x (CQ (.seq #[e.key,e.val]))):DeG es lo h (as++[x]):=by
 refine⟨lV.mpr ⟨g.rise,List.pairwise_singleton _ _,λa ha b hb=>by rw[K5.mp hb];exact h1 a ha⟩,λa ha=>?_,λj b hj=>?_⟩
 .rcases K9.mp ha with z | z;.exact g.above a z
  .rw[K5.mp z];exact h2
 .rcases PN j as.length with z | z;.rw[Qz z] at hj;exact g.pairs j b hj
  .rw[SN z] at hj;have hl:=(BS hj);have ez:j=as.length:=by simp at hl;omega
   subst ez;have eb:x=b:=by simpa using hj
   subst eb;exact⟨e,h3,h4⟩
theorem DeG.low{lo lo':Addr}{h:Heap}{as:Bp}(g:DeG es lo h as)(hl:lo'<=lo):DeG es lo' h as:=⟨g.rise,λa ha=>yF hl (g.above a ha),g.pairs⟩
theorem yf9{R:Tj->Af}{S I d:Addr}(hh:DN)(hSI:S<I)(hSd:d≠S)(hId:d≠I)(hn:AD es.size)(res:Ka){h0:Heap}
  (hR:∀h' tk acc c as,(∀b o,b≠S->b≠I->Ab (h0.get? b) o->AJ b o)->AJ S (Gd "list" (.seq acc c) (#[]))->as.length=es.size->DeG es I h' as->acc.toList=EI->GP (EY res)) :
  ∀(k i:Nat) (h:Heap) (tk c:Nat) (acc:BT) (as:Bp),es.size - i=k->i<=es.size->KdxSt h I d S i es.size ep->DE h d es ep->(∀b o,b≠S->b≠I->Ab (h0.get? b) o->AE b o) ->
   AE S (Gd "list" (.seq acc c) (#[]))->acc.toList=EI->as.length=i->DeG es I h as->I<h.objs.size ->
   Pr (B5 w) A (.builtin "list.extend.loop" (Br [.ref S,.ref I,res])) R { s with heap:=h,toks:=tk }:=by
 have hne:S≠I:=KY hSI;intro k;induction k with
 | zero =>
  intro i h tk c acc as hk hi hst hD hkeep hS hacc hal hG hIs;refine Qp Zrk ?_;rw[Rj Z9 _];show AT A.in1 (Ot (.ref I) >>= _) _ _ _;have hno:es[i]? = none:=xC (by omega);refine Kc (zxf (s:={ s with heap:=h,toks:=tk }) (A:=A.in1) hst (Ld hS) hD (λe he=>by rw[hno] at he;cases he) (λ_=>hh) λ_ h' he=>?_);exact Kf (hR h' tk acc c as (λb o h1 h2 e=>he b o h2 (hkeep b o h1 h2 e)) (he S _ hne hS) (by omega) (hG.keep λb o hb e=>he b o (Pn hb) e) hacc)
 | succ k ih =>
  intro i h tk c acc as hk hi hst hD hkeep hS hacc hal hG hIs;have hsz:acc.size=i:=by rw[<- NZ,hacc,Kg,hal]
  refine Qp Zrk ?_;rw[Rj Z9 _];show AT A.in1 (Ot (.ref I) >>= _) _ _ _;have hyes:Ah es es[i]:=NQ (by omega);refine Kc (zxf (s:={ s with heap:=h,toks:=tk }) (A:=A.in1) hst (Ld hS) hD (λe he h' hst' ht hz hkp=>?_) (λz=>by rw[hyes] at z;cases z) λz=>by rw[hyes] at z;cases z);dsimp only at ht hz hkp ⊢;have hS':=hkp S _ hne hS;have up:∀b o,b≠S->AJ b o->Cj (h'.update S (O1 (·.push (KJ h.objs.size)))) b o:=Gm (Pa _ _ (K7 hb)) e;have hSl:S<h.objs.size:=Ld hS;have nt:=up _ _ (Pn hSl) ht;have hG':DeG es I (h'.update S (O1 (·.push (KJ h.objs.size)))) as:=hG.keep λb o hb e=>up b o (Pn (ZK hSI hb)) (hkp b o (Pn hb) e);show AT A.in1 (XF S (·.push (KJ h.objs.size)) >>= _) _ _ _;refine Kc (VN hS' rfl (Kf ⟨Rg Z9 _,ih (i+1) _ tk _ (acc.push (KJ h.objs.size)) (as++[h.objs.size]) (by omega) (by omega) (hst'.keep up (K7 hne)) (hD.at λo e=>up d o hSd (hkp d o hId e))
   (λb o h1 h2 e=>up b o h1 (hkp b o h2 (hkeep b o h1 h2 e))) (Pu _ hS' rfl) (by rw[Zu7,hacc,LQ];rfl) (by rw[K8,hal];rfl) (hG'.more (λa ha=>hG.there ha) hIs (by rw[hal];exact he) nt) (ZK hIs (Ld nt))⟩) (by rw[hsz];omega) (by show(acc.push (KJ h.objs.size)).size<=sizeLine+1;rw[Array.size_push,hsz];omega))
theorem ya2{R:Tj->Af}{r:Addr}(hh:DN)(hv:s.heap.IsItemsView r d)(hm:DE s.heap d es ep)(S:Addr)(hSr:S≠r)(hSd:d≠S)(res:Ka)(c0:Nat)(hS:Cp S (Du (.seq #[] c0)))
  (hR:∀h' tk acc c as,(∀b o,b≠S->AI b->AJ b o)->AJ S (Gd "list" (.seq acc c) (#[]))->as.length=es.size->DeG es s.heap.objs.size h' as->acc.toList=EI->GP (EY res)) (hn:AD es.size) :
  Kw (B5 w) A.in1 (Tp (.ref S) (.ref r) res)
   (λfin s'=>match fin with | .done f=>R (.ok f) s' | .again c'=>Aa c'.quiet/\Pr (B5 w) A c' R s') (λe s'=>R (.error e) s') s:=by
 have hSI:Er S:=Ld hS;have hdI:Er d:=let ⟨_,ho,_⟩:=hm.ob;Ld ho;unfold Tp;refine Kc (Xz (T:="dict_items") hv.typeIs ?_);have h1:AL (XQ (.ref S) (.ref r)):=by simp[XQ,hSr]
 have h2:Be (MJ "dict_items") (MJ "list"):=by decide
 have h3:Be (MJ "dict_items") (MJ "tuple"):=by decide
 simp only[h1,h2,h3,lC,Lj,if_false];refine Kc (yfq hv hm λg1 st k1 z1=>?_);have key:∀(h:Heap) (c1 tk:Nat),(∀b o,b≠S->Ab (g1.get? b) o->AE b o)->AE S (Du (.seq #[] c1))->Pr (B5 w) A (.builtin "list.extend.loop" (Br [.ref S,BN,res])) R { s with heap:=h,toks:=tk }:=λh c1 tk hk hS1=>by
  have hI:=hk s.heap.objs.size _ (Pn hSI) st;exact yf9 (ep:=ep) (s:=s) (h0:=s.heap) hh hSI hSd (KY hdI) hn res (λh' tk' acc c as hk' hS' hl hG hacc=>hR h' tk' acc c as (λb o hb e=>hk' b o hb (KY Bv) e) hS' hl hG hacc)
   es.size 0 h tk c1 #[] [] (Zze _) BM (.inl (Dq .none .none hI)) (hm.at λo e=>hk d o hSd (k1 d o e)) (λb o hb _ e=>hk b o hb (k1 b o e)) hS1 rfl rfl
   ⟨Zse,(λ_ ha=>nomatch ha),(λj a hj=>by simp at hj)⟩ (Ld hI)
 have hS1:=k1 S _ hS;refine Kc (Nm (kdx_hint (let ⟨o,ho,hc,_⟩:=hv;(CK (k1 _ _ ho) hc)) ?_));refine O8 C4 (λ_=>Kf ⟨Rg Z9 _,key _ c0 _ (λb o _ e=>e) hS1⟩);refine Kc (XD (Kc ?_));show AT _ (XF S (·.push .none) >>= λ_=>XF S (·.pop)) _ _ _;refine Kc (VN hS1 rfl ?_);have hS2:=Pu (O1 (·.push Lz)) hS1 rfl;refine VN (hz:=by seq_fits) hS2 rfl ?_;have hS3:=Pu (O1 (·.pop)) hS2 rfl;exact Kf ⟨Rg Z9 _,key _ _ _ (Gm (Pa _ _ (K7 hb)) ((Pa _ _ (K7 hb)).trans e)) hS3⟩
theorem zvn{R:Am->Af}{r:Addr}(hh:DN)(hv:s.heap.IsItemsView r d)(hm:DE s.heap d es ep)(hn:AD es.size)
  (h:∀(h':Heap) (tk:Nat) (as:Bp),(∀b o,AI b->AJ b o)->as.length=es.size->DeG es s.heap.objs.size h' as->GP EI) :
  Kw (B5 w) A (oN (.ref r)) R E s:=by
 have hr:Er r:=let ⟨_,ho,_⟩:=hv;Ld ho;have hd:Er d:=let ⟨_,ho,_⟩:=hm.ob;Ld ho;unfold oN;refine Kc (zQ (Qp entry_proto_collect' ?_));rw[Rj PySem.F.plain_proto_collect _];show AT A.in1 (oM [] >>= λl=>again (.builtin "list.__iadd__" (Br [l,.ref r]))) _ _ s;refine Kc (Pq (Kf ⟨Rg Zr6 _,Qp entry_list_iadd' ?_⟩));rw[Rj Zr6 _];have hS1:Cj (CP "list" (FD ([]:Am))) s.heap.objs.size (Du (.seq #[])):=BP _;show AT A.in1 (Tp BN (.ref r) BN) _ _ _;have key:=ya2 (prog:=prog) (w:=w) (A:=A) (s:={ s with heap:=CP "list" (FD ([]:Am)) }) (es:=es) (ep:=ep)
  (R:=λ(q:Tj) (s':Ke)=>∃(h':Heap) (tk:Nat) (acc':BT) (c':Nat) (as:Bp),q= EY BN/\s'={ s with heap:=h',toks:=tk } /\
   (∀b o,AI b->AJ b o)/\AJ s.heap.objs.size (Gd "list" (.seq acc' c') (#[]))/\as.length=es.size/\DeG es s.heap.objs.size h' as/\acc'.toList=EI)
  hh (let ⟨o,ho,x⟩:=hv;(CK (A0 ho) x)) (hm.at λo e=>A0 e) s.heap.objs.size (Pn hr) (KY hd) BN 0 hS1
  (λh' tk acc' c' as hk hS' hl hG hacc=>⟨h',tk,acc',c',as,rfl,rfl,λb o e=>hk b o (KY Bv) (A0 e),hS',hl,hG.low (by show s.heap.objs.size<=(s.heap.push _).objs.size;rw[Mq];exact Ra _),hacc⟩) hn;refine Nu key (λfin s' x=>?_) λe s' x=>by obtain⟨_,_,_,_,_,e',_⟩:=x;cases e'
 have fin2:∀{h':Heap} {tk:Nat} {acc':BT} {c':Nat} {as:Bp},(∀b o,AI b->AJ b o)->AJ s.heap.objs.size (Gd "list" (.seq acc' c') (#[]))->as.length=es.size->DeG es s.heap.objs.size h' as->acc'.toList=EI->GP acc'.toList:=λhk hS' hl hG hacc=>by rw[hacc];exact h _ _ _ hk hl hG
 cases fin with
 | done f =>
  obtain⟨h',tk,acc',c',as,e,rfl,hk,hS',hl,hG,hacc⟩:=x;cases e;show AT A (load s.heap.objs.size >>= _) _ _ _;exact Kc (nW hS' (Kf (fin2 hk hS' hl hG hacc)))
 | again c1 =>
  refine⟨x.1,Td x.2 λq s2 y=>?_⟩;obtain⟨h',tk,acc',c',as,rfl,rfl,hk,hS',hl,hG,hacc⟩:=y;show AT A (load s.heap.objs.size >>= _) _ _ _;exact Kc (nW hS' (Kf (fin2 hk hS' hl hG hacc)))
end
noncomputable def frzS(F H:Hp)(as:Bp):Hp:=λb=>if b∈as then H b else F b
theorem tD{F H:Hp}{as:Bp}{b:Addr}(h:b∈as):frzS F H as b=H b:=if_pos h
theorem zng{F H:Hp}{as:Bp}{b:Addr}(h:b∉as):frzS F H as b=F b:=if_neg h
theorem Ext.holdS{F H:Hp}(fh:Same F H){as:Bp}(h:∀a∈as,∃ys,Di a ys):Ext F H (frzS F H as) H:=by
 refine⟨λb o e=>?_,λb o e=>?_,Same.refl _,λb o e nt=>?_⟩
 .by_cases hb:b∈as;.rw[tD hb];exact fh b o e
  .rw[zng hb];exact e
 .by_cases hb:b∈as;.rw[tD hb] at e;exact e
  .rw[zng hb] at e;exact fh b o e
 .have hb:b∉as:=λz=>by obtain⟨ys,hy⟩:=h b z;rw[e] at hy;cases hy;exact nt
  rw[zng hb]
noncomputable def prs(bs:Bp)(kvs:AU BF):AU V:=(bs.zip kvs).map λq=>(V.ref q.1,B3)
theorem zy1{bs:Bp}{kvs:AU BF}{i:Nat}{b:Addr}{k:BF}{v:V}(h1:Ah bs b)(h2:Ah kvs (k,v)):Ah (prs bs kvs) (V.ref b,v):=by
 unfold prs;rw[KR,show Ah (bs.zip kvs) (b,(k,v)) from xG.mpr ⟨h1,h2⟩];rfl
theorem zhp{K:Kd}{F H':Hp}(hs:Same F H'):∀{kds:DD} {kvs:AU BF} {ts bs:Bp},Dkt K F kds kvs->ts.length=kds.length->bs.length=kds.length->(∀q∈kds,∃es,q.1= .tup es /\ ∀z∈es,Aa z.isInt) ->
  (∀(i:Nat) b q,Ah bs b->Ah kds q->Ab (H' b) (.tup (q.1.tkey.map kV)))->(∀(j:Nat) t b k v,AQ ts t->AQ bs b->AQ kvs (k,v)->Ab (H' t) (.tup [Cs,v]))->AN H' (kds.map prD) (ts.map V.ref)
 | [],_,[],_,.nil,_,_,_,_,_=>Reps.nil
 | [],_,_::_,_,.nil,h,_,_,_,_=>by simp at h
 | _::_,_,[],_,.cons _ _ _,h,_,_,_,_=>by simp at h
 | _::_,_,_::_,[],.cons _ _ _,_,h,_,_,_=>by simp at h
 | (k,d)::kds,_,t::ts,b::bs,.cons hk r dk,h1,h2,hi,hb,ht=>by
  obtain⟨es,e,hint⟩:=hi (k,d) KN;have e:k= .tup es:=e;subst e;refine Reps.cons (Rep.tupN (ht 0 t b _ _ rfl rfl rfl) (Reps.cons (Rep.tupN (hb 0 b _ rfl rfl) (zpn hint)) (Reps.cons (r.mono hs) Reps.nil))) (zhp hs dk (by simpa using h1) (by simpa using h2) (λq hq=>hi q (AS hq)) (λi b q x y=>hb (i+1) b q (by simpa using x) (by simpa using y)) λj t b k v x y z=>ht (j+1) t b k v (by simpa using x) (by simpa using y) (by simpa using z))
noncomputable def zrj(K:Kd):Ai->Hp->B9:=λxs H Q=>∃r d o kvs kds t ty,xs=[.ref r]/\Aw r (cC r d)/\Aw d (.frz o (.dT kvs))/\Dkt K H kds kvs/\(∀q∈kds,∃es,q.1= .tup es/\Aa (shOk (t::ty) es) /\ ∀z∈es,Aa z.isInt)/\(kds.map (·.1)).Nodup/\(∀q∈kds,Aa q.2.nb/\q.2.dep<=50)/\kds.length<64 /\
 ∀l (ts bs:Bp) (pm:Ae),pm.Perm (K6 kds.length)->pm.map (λi=>EO (kds.map (·.1)) i)=La (kds.map (·.1))->ts.length=kds.length->bs.length=kds.length->(∀(i:Nat) b q,Ah bs b->Ah kds q->Di b (q.1.tkey.map kV))->ts.Nodup->(∀t∈ts,H t=none)->l∉ts->H l=none ->
  Q Cd (BX (updT H ts (prs bs kvs)) l (pm.map λi=>EO (ts.map V.ref) i))
section
variable{X:Cx}
theorem zna(hc:Ex)(hu:X.A.units+66<Ln):DZ X "sorted" (zrj X.K):=by
 intro pins s σ H xs us Q I r h;obtain⟨r0,d,o,kvs,kds,t,ty,rfl,hr,e,dk,hks,hnd,hnb,h64,q⟩:=h;obtain⟨u,rfl,ru⟩:=Qc r;cases ru;obtain⟨hv,_,_⟩:=I.hok r0 _ hr;obtain⟨h0,z,y,xs,rl,o',es,ep,h1,h2,h3,h4,h5⟩:=I.hok d _ e;rw[h0] at h1;cases h1;obtain⟨de,hz,at'⟩:=I.deM e h3;have hkl:=dk.length;have hesz:AD es.size:=by rw[K3];omega
 have hbs:∃bs:Bp,bs.length=kvs.length /\ ∀(i:Nat) b k v,Ah bs b->Ah kvs (k,v)-> ∃u en,Ah es en/\en.key= Cs/\en.val=u/\Di b (k.map kV)/\Bi v:=by
  refine⟨es.toList.map λen=>match en.key with | .ref b=>b | _=>0,by rw[Kg,NZ];exact hz,λi b k v hb hk=>?_⟩;obtain⟨b',u,en,g1,g2,g3,g4,g5⟩:=at' i k v hk;have g1':Ah es.toList en:=by simpa using g1
  rw[KR,g1'] at hb;simp only[Option.map_some,g2,Zz5] at hb;subst hb;exact⟨u,en,g1,g2,g3,g4,g5⟩
 obtain⟨bs,hbl,hb⟩:=hbs;refine Zod yW yR yS (yU _) ?_;unfold Mu.«sorted»;refine Kc (m:=Zx0 "sorted" 1 1 _) B7;refine Kc (zvn (by simp[I.ok.hd hc]) hv de hesz λg1 tk as K1 hal hG=>?_);have I1:Fu { s with heap:=g1,toks:=tk }:=I.kept (h':=g1) (t':=tk) K1;have hfr:∀t∈as,H t=none:=λt ht=>I.hok.fresh (Xh (hG.above t ht));have hfp:∀t∈as,D7 X H t:=λt ht=>I.fpOk (Xh (hG.above t ht)) (hfr t ht);have hndA:as.Nodup:=hG.rise.imp λh=>KY h;have hpr:∀(j:Nat) t,AQ as t-> ∃kv u1 u2,AQ (prs bs kvs) kv/\RelV kv.1 u1/\RelV kv.2 u2/\Ab (g1.get? t) (CQ (.seq #[u1,u2])):=λj t hj=>by
  obtain⟨en,e1,e2⟩:=hG.pairs j t hj;have hjl:=(BS hj);have f1:AQ bs bs[j]:=F7;have f2:AQ kvs kvs[j]:=F7;obtain⟨u,en',g1',g2,g3,g4,g5⟩:=hb j _ kvs[j].1 kvs[j].2 f1 f2;rw[e1] at g1';cases g1';refine⟨(.ref bs[j],kvs[j].2),en.key,en.val,zy1 f1 f2,?_,?_,e2⟩;.rw[g2];rfl
  .rw[g3];exact g5
 have I2:=Inv.adoptTs as (prs bs kvs) I1 hndA hfp hpr;have hsame:Same H (updT H as (prs bs kvs)):=λb o hb=>by
  rw[cD λz=>by rw[hfr b z] at hb;cases hb];exact hb
 have hbq:∀(i:Nat) b q,Ah bs b->Ah kds q->Di b (q.1.tkey.map kV):=λi b q x y=>by
  have hil:=(BS x);have f2:Ah kvs kvs[i]:=F7;obtain⟨_,_,_,_,_,g4,_⟩:=hb i b kvs[i].1 kvs[i].2 x f2;obtain⟨kd,dv,k1,k2,_⟩:=dk.at (i:=i) (k:=kvs[i].1) (v:=kvs[i].2) f2;rw[y] at k1;cases k1;rw[<- k2];exact g4
 have rs:Reps X.K (updT H as (prs bs kvs)) (kds.map prD) (as.map V.ref):=zhp hsame dk (by omega) (by omega) (λq hq=>let ⟨es,a,_,b⟩:=hks q hq;⟨es,a,b⟩) (λi b q x y=>hsame _ _ (hbq i b q x y)) λj t b k v x y z=>zse (kv:=(V.ref b,v)) hndA x (zy1 y z);have rv:=zp9 as;have hzl:AD (EI).length:=by rw[Kg];omega
 refine Kc (nM ?_ hzl);dsimp only;have hg:Cj (g1.push (Du (FD EI))) g1.objs.size (PQ "list" (EI).toArray 0):=BP _;have k2:kW g1 (g1.push (Du (FD EI))):=λb u e=>A0 e;have ne:∀b u,Ab (g1.get? b) u->b≠g1.objs.size:=λb u e=>KY Bv;have hheads:(kds.map prD).map D.hd=kds.map (·.1):=by rw[Lf];rfl
 have hsh:∀d∈kds.map prD,∃es r,d= .tup [.tup es,r]/\Aa (shOk (t::ty) es)/\Aa d.nb/\d.dep<=60:=λd hd=>by
  obtain⟨q,hq,rfl⟩:=Kr.mp hd;obtain⟨l,hl,hs,hi⟩:=hks q hq;obtain⟨h1,h2⟩:=hnb q hq;have n1:Aa (D.nbs l):=by
   clear hl hs;induction l with
   | nil=>rfl
   | cons a l ih=>rw[D.nbs,ih λz hz=>hi z (AS hz)];have:=hi a KN;cases a <;> simp[D.isInt] at this <;> rfl
  have n2:D.deps l=0:=by
   clear hl hs n1;induction l with
   | nil=>rfl
   | cons a l ih=>rw[D.deps,ih λz hz=>hi z (AS hz)];have:=hi a KN;cases a <;> simp[D.isInt] at this <;> rfl
  refine⟨l,q.2,by unfold prD;rw[hl],hs,?_,?_⟩;.unfold prD;rw[hl];simp[D.nb,D.nbs,h1,n1]
  .unfold prD;rw[hl];simp only[D.dep,D.deps,n2];omega
 have hdis:∀d∈kds.map prD,∀e∈kds.map prD,d.hd=e.hd->d=e:=λd hd e he h=>by
  obtain⟨q,hq,rfl⟩:=Kr.mp hd;obtain⟨q',hq',rfl⟩:=Kr.mp he;have h:q.1=q'.1:=h;rw[yjo hnd hq hq' h]
 have hal2:M7 (kds.map (·.1)):=FC ⟨t,ty,λd hd=>by
  obtain⟨q,hq,rfl⟩:=Kr.mp hd;obtain⟨l,hl,hs,_⟩:=hks q hq;exact⟨l,hl,hs⟩⟩;refine Kc (Nm (Rc yN (Cm hg) yM (zjb (s:={ s with heap:=g1.push (Du (FD EI)),toks:=tk }) (OutK (rk (kds.map (·.1))) EI) hg hzl
  (λh2 h' k=>?_) qZ λout c h' k hcell hsz hO=>(Ar rfl ?_)) (yO _)))
 .have kk:kW g1 h':=λb u e=>k b u (ne b u e) (k2 b u e);obtain⟨κ,hk,hlt⟩:=zyq (A':=X.A.in1.in1) (s:={ s with heap:=h',toks:=tk }) (I2.kept (t':=tk) kk) rs rv hsh hdis (by show X.A.units+1+1+64<_;omega) h2;rw[hheads] at hlt;exact zhr h2 (by rw[Kg];omega) hk hlt
 .have kk:kW g1 h':=λb u e=>k b u (ne b u e) (k2 b u e);obtain⟨p,hp,ho,hs⟩:=hO;have hmem:∀i∈p,i<(EI).length:=λi hi=>Ni.mp (hp.mem_iff.mp hi);have hkk:CJ (kds.map (·.1)) (EI).length:=by rw[Kg,Kg];omega
  have hpm:(D8 (EO (kds.map (·.1)) i)).Perm (kds.map (·.1)):=by
   have h1:=hp.map (λi=>(kds.map (·.1)).getD i D.non);have h2:DU (EI).length (λi=>(kds.map (·.1)).getD i D.non)=kds.map (·.1):=by
    rw[<- hkk];generalize kds.map (·.1)=ks;refine Qn λi=>?_;rw[KR];by_cases hi:i<ks.length
    .rw[Q8 hi,Kv hi];simp[Kz,hi]
    .rw[EC,EC];rfl
   rw[h2] at h1;exact h1
  have hso:FB (D8 (EO (kds.map (·.1)) i)) (Aa (a.leB b)):=by
   rw[N8];exact S8 (λ{i j} hi hj h=>qU (by have:=hmem i hi;omega) (by have:=hmem j hj;omega) h) hs
  have eD:=Wi hal2 hpm hso;have hv':=rv.pick p (by rw[rv.length];exact hmem);rw[<- ho] at hv';have hplen:p.length=as.length:=by rw[hp.length_eq,Oo,Kg]
  have hl0:g1.objs.size∉as:=λz=>Fl (hG.there z) _;have hlN:H g1.objs.size=none:=Gi;refine Kf (Ar rfl ?_);refine(Bj (.ref g1.objs.size) _ (I2.laid (t':=tk) (h':=h') kk Az (show Lr X.prog X.w _ _ _ (.lst _) from⟨by rw[Kg];omega,out.toList,c,hv',by simpa[PQ] using hcell⟩)) (q _ as bs p (by rw[<- hkk,Kg] at hp;exact hp) eD (by omega) (by omega) hbq hndA hfr hl0 hlN))
end
section
variable{K:Kd}{G Hz L:Hp}{ss:List Sl}{td:TE}{kvs:DD}{r0:List D}
theorem Ext.updT{G Hz F:Hp}:∀{ts:Bp} {ps:AU V} {H:Hp},Ext G Hz F H->ts.Nodup->(∀t∈ts,H t=none)->Ext G Hz F (updT H ts ps)
 | [],_,_,x,_,_=>x
 | _::_,[],_,x,_,_=>x
 | t::ts,p::ps,H,x,hn,h=>by
  rw[L2.updT];refine Ext.updT (x.newO (h t KN)) (M4.mp hn).2 Eg;rw[Kh λz:b=t=>(M4.mp hn).1 (by rw[<- z];exact hb)];exact h b (AS hb)
theorem zqe(t:Ty)(ty:List Ty)(a:Ay td (D.dicT kvs))(hks:∀q∈kvs,∃es,q.1= .tup es/\Aa (shOk (t::ty) es) /\ ∀z∈es,Aa z.isInt)(hnd:(kvs.map (·.1)).Nodup)(hnb:∀q∈kvs,Aa q.2.nb/\q.2.dep<=50)(h64:kvs.length<64)
  (hu:∀rs:Ac,rs.Perm (kvs.map prD)->rs.map D.hd=La (kvs.map (·.1))->rs=r0):EvO K G Hz L ss (tCB (zrj K) (BV (tItM td))) r0:=λF H σ Q S q =>
 Ec F H σ _ S (by
  obtain⟨p,o,xs,rfl,hp,dk⟩:=r1.of_dicT;refine⟨p,o,xs,rfl,rfl,e1.fh _ _ hp,λr hr=>?_⟩;have e2:=e1.newO (o:=cC r p) hr;have hpr:p≠r:=λz=>by rw[<- z,e1.fh _ _ hp] at hr;cases hr
  refine⟨r,p,o,xs,kvs,t,ty,rfl,Ku,by rw[Kh hpr];exact e1.fh _ _ hp,dk.mono e2.fh,hks,hnd,hnb,h64,λl ts bs pm hpm hs htl hbl hbq htn htf hlt hlf=>?_⟩;generalize hH2:upd H1 r (cC r p)=H2 at e2 hbq htf hlf;have e3:Ext F H F1 (updT H2 ts (prs bs xs)):=e2.updT htn htf;have hxl:=dk.length;have hin:∀(j:Nat) t b k v,AQ ts t->AQ bs b->AQ xs (k,v)->Ab (updT H2 ts (prs bs xs) t) (.tup [Cs,v]):=λj t b k v x y z=>zse (kv:=(V.ref b,v)) htn x (zy1 y z);have hbH:∀(i:Nat) b q,Ah bs b->Ah kvs q->Ab (updT H2 ts (prs bs xs) b) (.tup (q.1.tkey.map kV)):=λi b q x y=>by
   have:=hbq i b q x y;rw[cD λz=>by rw[htf b z] at this;cases this];exact this
  have htup:∀c∈ts++bs,∃ys,Ab (updT H2 ts (prs bs xs) c) (.tup ys):=λc hc=>by
   rcases K9.mp hc with hc | hc
   .obtain⟨j,hj⟩:=MF.mp hc;have hlt:=(BS hj);exact(Bb (hin j c bs[j] xs[j].1 xs[j].2 hj F7 F7))
   .obtain⟨j,hj⟩:=MF.mp hc;have hlt:=(BS hj);exact(Bb (hbH j c kvs[j] hj F7))
  have e4:=e3.trans (Ext.holdS e3.fh htup);have hsF:Same F1 (frzS F1 (updT H2 ts (prs bs xs)) (ts++bs)):=(Ext.holdS e3.fh htup).gf;have rs:AN (frzS F1 (updT H2 ts (prs bs xs)) (ts++bs)) (kvs.map prD) (ts.map V.ref):=zhp hsF dk htl hbl (λq hq=>let ⟨es,a,_,b⟩:=hks q hq;⟨es,a,b⟩) (λi b q x y=>by rw[tD (PB _ (KD x))];exact hbH i b q x y) λj t b k v x y z=>by rw[tD (Ml _ (KD x))];exact hin j t b k v x y z
  have hl2:updT H2 ts (prs bs xs) l=none:=by rw[cD hlt];exact hlf
  have hmem:∀i∈pm,i<(kvs.map prD).length:=λi hi=>by rw[Kg];exact Ni.mp (hpm.mem_iff.mp hi)
  have hpd:(pm.map λi=>EO (kvs.map prD) i).Perm (kvs.map prD):=by
   have g1:=hpm.map (λi=>(kvs.map prD).getD i D.non);have g2:DU kvs.length (λi=>(kvs.map prD).getD i D.non)=kvs.map prD:=by
    refine Qn λi=>?_;rw[KR];by_cases hi:i<kvs.length
    .rw[Q8 hi,Kv (by simpa using hi)];simp[Kz,hi]
    .rw[EC,EC];rfl
   rw[g2] at g1;exact g1
  have hk:(pm.map λi=>EO (kvs.map prD) i).map D.hd=La (kvs.map (·.1)):=by
   rw[<- hs,Lf];refine N6 λi hi=>?_;have hil:=hmem i hi;rw[Kg] at hil;show(EO (kvs.map prD) i).hd=_;rw[Kz,Kz,KR,KR,Kv hil];rfl
  have hr2:=rs.pick pm hmem;rw[hu _ hpd hk] at hr2;exact q l _ _ _ (e4.newO hl2) (e4.hh.free hl2) (e4.fh.free hl2) Ku hr2)
end
end L2
namespace L2
open PySem PySem.W PySem.Spec PyProof.Rows PySem.Calls
open PySem.MeetsSeq PySem.MeetsSeq2 PySem.MeetsSeq3
open AutoSeq1 (wpAny_loadPart')
theorem zlo{x y:Ae}{xs ys:Aj}:AF (x::xs) (y::ys)=AR x y (AF xs ys) (AF x y):=by
 by_cases h:x=y
 .subst h;rw[BR,LK];simp only[decide_eq_true_eq,QC];exact⟨λh=>h.elim (λz=>absurd z (RT _)) λz=>z.2,λh=>C1 trivial h⟩
 .rw[if_neg h,LK];simp only[decide_eq_true_eq,QC];exact⟨λz=>z.elim id λz=>absurd z.1 h,λz=>.inl z⟩
theorem yd3(x y:Ae):AF (D.str x).fo (D.str y).fo=AF x y:=by
 rw[LK,decide_eq_true_eq,decide_eq_true_eq];exact(zn6 x y).symm
theorem ybs (l b : Addr) (items items2 : BT) (n n2 : Nat) (dd dd2 : CB) (sl sl2 : Array A4) (xs ys : Aj) (h1 : ∀ (i : Nat) (x : Ae), Ah xs x -> ∃ t, Ah items (Rm (T x) t)) (h2 : ∀ (i : Nat) (x : Ae), Ah ys x -> ∃ t, Ah items2 (Rm (T x) t))
  (z1:items.size=xs.length) (z2:items2.size=ys.length) (k:Nat) :
  ∀i:Nat,min xs.length ys.length - i=k->i<=min xs.length ys.length->Meets (Mu.«list.__eq__.loop» (Br [Cd,Cs,Ma i,Ma 0]))
   (λ_ R s=>Cp l { cls:=FL, dict:=dd,data:=.seq items n,slots:=sl }/\Cp b { cls:=FL, dict:=dd2,data:=.seq items2 n2,slots:=sl2 } /\
    R (EY (.bool (AF (xs.drop i) (ys.drop i)))) s):=by
 induction k with
 | zero =>
  intro i hk hle prog w A R s h;obtain⟨hp,g,d,tk,os⟩:=s;obtain⟨hl,hb,h⟩:=h;wp_walk using O7 hl,O7 hb;have fin:R (EY (.bool (AF items.size items2.size))) (CY hp g d tk):=by
   have e:AF (xs.drop i) (ys.drop i)=AF items.size items2.size:=by
    rcases(by omega:xs.length=i\/ys.length=i) with z | z
    .have e1:xs.drop i=[]:=by simp;omega
     rw[e1];by_cases hy:ys.length=i
     .have e2:ys.drop i=[]:=by simp;omega
      rw[e2,decide_eq_false (RT _),decide_eq_false (by omega)]
     .rw[Vx (by omega:i<ys.length),decide_eq_true (by omega:items.size<items2.size)];exact decide_eq_true (List.nil_lt_cons _ _)
    .have e2:ys.drop i=[]:=by simp;omega
     rw[e2,decide_eq_false (by omega:¬ items.size<items2.size)];exact decide_eq_false (xX _)
   rw[<- e];exact h
  by_cases hx:xs.length<=i
  .have hi1:items[((i:Nat):Int).toNat]? = none:=by simp;omega
   rw[hi1];wp_walk using O7 hl,O7 hb;exact fin
  .have hi2:items2[((i:Nat):Int).toNat]? = none:=by simp;omega
   obtain⟨t1,e1⟩:=h1 i xs[i] F7;have hi1:AM items ((i:Nat):Int).toNat (.str (T xs[i]) t1):=by simpa using e1
   rw[hi1,hi2];wp_walk using O7 hl,O7 hb;exact fin
 | succ k ih =>
  intro i hk hle prog w A R s h;obtain⟨hp,g,d,tk,os⟩:=s;obtain⟨hl,hb,h⟩:=h;wp_walk using O7 hl,O7 hb;have hlt:i<xs.length:=by omega
  have hlt2:i<ys.length:=by omega
  obtain⟨t1,e1⟩:=h1 i xs[i] (Kv hlt);obtain⟨t2,e2⟩:=h2 i ys[i] (Kv hlt2);have hi1:AM items ((i:Nat):Int).toNat (.str (T xs[i]) t1):=by simpa using e1
  have hi2:AM items2 ((i:Nat):Int).toNat (.str (T ys[i]) t2):=by simpa using e2
  have hc:((i:Int)+1)=(Ew (i+1)):=by push_cast;rfl
  rw[Vx hlt,Vx hlt2,zlo] at h;rw[hi1,hi2];refine Kc (zr4 (t:=.s) (d:=.str xs[i]) (e:=.str ys[i]) rfl rfl (AY t1) (AY t2) ?_);by_cases he:xs[i]=ys[i]
  .rw[if_pos he] at h;rw[decide_eq_true (show D.str xs[i]=D.str ys[i] by rw[he])];wp_walk;rw[hc];exact⟨Rg plain_eq_loop _,Qp entry_eq_loop (by
    rw[Rj plain_eq_loop _];exact ih (i+1) (by omega) (by omega) prog w A R _ ⟨hl,hb,h⟩)⟩
  .rw[if_neg he] at h;rw[decide_eq_false (show ¬ D.str xs[i]=D.str ys[i] from λz=>he (by injection z))];wp_walk using O7 hl,O7 hb;rw[hi1,hi2];refine Kc (zqx (t:=.s) (d:=.str xs[i]) (e:=.str ys[i]) rfl rfl (AY t1) (AY t2) ?_);rw[yd3];wp_walk;simpa using h
theorem ydp(l b:Addr)(items items2:BT)(n n2:Nat)(dd dd2:CB)(sl sl2:Array A4)(xs ys:Aj)(h1:∀(i:Nat) (x:Ae),Ah xs x-> ∃t,Ah items (Rm (T x) t))(h2:∀(i:Nat) (x:Ae),Ah ys x-> ∃t,Ah items2 (Rm (T x) t))
  (z1:items.size=xs.length) (z2:items2.size=ys.length) :
  Meets (Mu.«list.__lt__» (Br [Cd,Cs]))
   (λ_ R s=>Cp l { cls:=FL, dict:=dd,data:=.seq items n,slots:=sl }/\Cp b { cls:=FL, dict:=dd2,data:=.seq items2 n2,slots:=sl2 } /\
    R (EY (.bool (AF xs ys))) s):=by
 intro prog w A R s h;obtain⟨hp,g,d,tk,os⟩:=s;obtain⟨hl,hb,h⟩:=h;have f3:=Zsi;wp_walk using O7 hl,O7 hb;exact⟨Rg plain_eq_loop _,Qp entry_eq_loop (by
  rw[Rj plain_eq_loop _];exact ybs l b items items2 n n2 dd dd2 sl sl2 xs ys h1 h2 z1 z2 _ 0 rfl BM prog w A R _ ⟨hl,hb,by simpa using h⟩)⟩
noncomputable def txL(p:Aj):D:=.lst (p.map D.str)
noncomputable def hdL(p:Aj):D:=.str (p.headD [])
section
variable{X:Cx}{pins:List (Addr×Obj)}{σ:St}{H:Hp}{s:Ke}{A':Ks}
theorem Inv.txts(I:Ak){p:Aj}{x:V}{u:Ka}(r:Rep X.K H (txL p) x)(q:Bi x):∃a o its n,u= Av/\AI a/\o.cls= FL /\ o.data= .seq its n/\its.size=p.length /\ ∀(i:Nat) (z:Ae),Ah p z-> ∃t,Ah its (Rm (T z) t):=by
 obtain⟨a,xs,rfl,sq,rs⟩:=r.of_lst;obtain rfl:u=KJ a:=q;obtain⟨us,rv,⟨o,n,e,c,_,d⟩,_⟩:=I.list sq;have l1:=rs.length;have l2:=rv.length;rw[Kg] at l1;refine⟨a,o,us.toArray,n,rfl,e,c,d,by simp;omega,λi z hz=>?_⟩;obtain⟨x,hx,rx⟩:=rs.get' (i:=i) (d:=.str z) (by rw[KR,hz];rfl);have hlt:=(BS hx);have hq:RelV x us[i]:=by
  have:∀{xs:Ai} {us:Am},BY xs-> ∀(i:Nat) x u,Ah xs x->Ah us u->Bi x:=by
   intro xs us h;induction h with
   | nil=>intro i x u h;simp at h
   | cons r t ih =>
    intro i x u h1 h2;cases i with
    | zero=>simp at h1 h2;subst h1 h2;exact r
    | succ i=>exact ih i x u (by simpa using h1) (by simpa using h2)
  exact this rv i x _ hx F7
 rw[rx.of_str] at hq;obtain⟨t,ht⟩:=hq;exact⟨t,by simp[<- ht,show i<us.length by omega]⟩
theorem zzw {ps : A5} {xs : Ai} {us : Am} (I : Ak) (rs : Reps X.K H (ps.map txL) xs) (rv : BY xs) (hne : ∀ p ∈ ps, p ≠ [])
  (hdis:∀p∈ps,∀q∈ps,hdL p=hdL q->p=q) (hu:A'.units<Ln) (h2:2<=us.length):qY X.prog X.w A' s us (rk EX):=by
 have l1:=rs.length;have l2:=rv.length;rw[Kg] at l1;have at':∀i,i<us.length-> ∃p x,Ah ps p/\Rep X.K H (txL p) x/\RelV x (us.getD i Lz):=λi hi=>by
  obtain⟨x,r,q,hm⟩:=qW rs rv hi;have hp:Ah ps ps[i]:=F7;refine⟨ps[i],x,hp,?_,q⟩;rw[Kz,KR,hp] at r;exact r
 refine⟨oneType',λQ E q=>kas_kind h2 (T:=FL) (λv hv=>?_) (by decide) (by decide) q,λi j C hi hj hC=>?_⟩
 .obtain⟨i,hi,rfl⟩:=qX hv;obtain⟨p,x,_,r,q⟩:=at' i hi;obtain⟨a,o,its,n,eu,ho,hc,_⟩:=I.txts r q;rw[eu,<- hc];exact(Looks.ld ho).andThen .now
 .obtain⟨p,x,hp,r,q⟩:=at' i hi;obtain⟨p',x',hp',r',q'⟩:=at' j hj;obtain⟨a,⟨cls,dd,data,sl⟩,its,n,eu,ho,hc,hd,hz,hit⟩:=I.txts r q;obtain⟨a',⟨cls',dd',data',sl'⟩,its',n',eu',ho',hc',hd',hz',hit'⟩:=I.txts r' q';simp only at hc hd hc' hd';subst hc hd hc' hd';rw[eu,eu'];have gd:∀{m:Nat} {z:Aj},AM ps m z->EO EX m=hdL z:=λ{m z} h=>by rw[Kz,KR,h];rfl
  rw[aZ (by rw[Kg];omega),gd hp,gd hp'] at hC;have key:AF (hdL p).ord (hdL p').ord=AF p p':=by
   have n1:=hne p (KD hp);have n2:=hne p' (KD hp');cases p with
   | nil=>exact Fp n1
   | cons c cs =>
    cases p' with
    | nil=>exact Fp n2
    | cons c' cs' =>
     have e0:AF (hdL (c::cs)).ord (hdL (c'::cs')).ord=AF c c':=by
      rw[<- yd3,LK,decide_eq_true_eq,decide_eq_true_eq];exact ye0 _ _
     rw[e0,zlo];by_cases h:c=c'
     .have:=hdis _ (KD hp) _ (KD hp') (show hdL (c::cs)=hdL (c'::cs') by unfold hdL;rw[Zwl,Zwl,h]);injection this with _ ecs;rw[if_pos h,h,ecs,decide_eq_false (RT _),decide_eq_false (RT _)]
     .rw[if_neg h]
  rw[key] at hC;rw[Yac,oneLt'_eq];simp only[if_true];refine Kc (wpAny_cRoomFor hu ?_);refine Kc (wpAny_callSpecialIfBound?_slot (Cm ho) Zs4 ?_);refine nY Zs4 (Cm ho) PySem.F.entry_list_lt (PySem.F.args_list_lt_2 _ _) (ydp a a' its its' n n' dd dd' sl sl' p p' hit hit' hz hz') (Ck ho ho');exact Ui hC
noncomputable def zr5(K:Kd):Ai->Hp->B9:=λvs H Q=>∃(a:Addr) (xs:Ai) (ps:A5),vs=[Av]/\A8 H a xs/\AN H (ps.map txL) xs/\(∀p∈ps,p≠[])/\(∀p∈ps,∀q∈ps,hdL p=hdL q->p=q)/\ps.length<64 /\
 ∀l (p:Ae),p.Perm (K6 ps.length)->D8 (EO EX i)=La EX->H l=none->Q Cd (BX H l (D8 (xs.getD i .non)))
theorem zm5(hu:X.A.units+66<Ln):DZ X "sorted" (zr5 X.K):=by
 intro pins s σ H xs us Q I r h;obtain⟨a,vs,ps,rfl,hq,rs,hne,hdis,h64,q⟩:=h;obtain⟨u,rfl,ru⟩:=Qc r;cases ru;obtain⟨its,rv,pl,hz⟩:=EL;have l1:=rs.length;rw[Kg] at l1;have l2:=rv.length;have hal:M7 EX:=.inl λd hd=>by obtain⟨e,he,rfl⟩:=Kr.mp hd;rfl
 refine zlz (OutK (rk EX) its) pl.isList (by omega) (λh2 h' k=>?_) (λh1=>qZ h1) λout c h' k hc hsz hO=>?_
 .obtain⟨κ,hk,hlt⟩:=zzw (A':=X.A.in1.in1) (s:={ s with heap:=h' }) (I.kept (t':=s.toks) k) rs rv hne hdis (by show X.A.units+1+1<_;omega) h2;exact zhr h2 (by omega) hk hlt
 .obtain⟨p,hp,ho,hs⟩:=hO;have hmem:∀i∈p,i<its.length:=λi hi=>Ni.mp (hp.mem_iff.mp hi);have hkl:CJ EX its.length:=by rw[Kg];omega
  have hpm:(D8 (EO EX i)).Perm EX:=by
   have h1:=hp.map (λi=>(EX).getD i D.non);have h2:DU its.length (λi=>(EX).getD i D.non)=EX:=by
    rw[<- hkl];generalize ps.map hdL=ks;refine Qn λi=>?_;rw[KR];by_cases hi:i<ks.length
    .rw[Q8 hi,Kv hi];simp[Kz,hi]
    .rw[EC,EC];rfl
   rw[h2] at h1;exact h1
  have hso:FB (D8 (EO EX i)) (Aa (a.leB b)):=by
   rw[N8];exact S8 (λ{i j} hi hj h=>qU (by have:=hmem i hi;omega) (by have:=hmem j hj;omega) h) hs
  have eD:=Wi hal hpm hso;have hv:=rv.pick p (by rw[l2];exact hmem);rw[<- ho] at hv;have hplen:p.length=its.length:=by rw[hp.length_eq,Oo]
  refine(Bj (.ref (BQ 1)) _ (I.laid (t':=s.toks) k (Ra _) (show Lr X.prog X.w _ _ _ (.lst _) from⟨by rw[Kg];omega,out.toList,c,hv,by simpa[PQ] using hc⟩)) (q _ p (by rw[l1,l2];exact hp) eD (I.hok.fresh (Ra _))))
end
noncomputable def Wv(ps:A5):A5:=ps.mergeSort λa b=>(hdL a).leB (hdL b)
theorem zmq(ps:A5):(Wv ps).Perm ps:=Zuh _ _
theorem zpy(ps:A5):FB (Wv ps) (Aa ((hdL a).leB (hdL b))):=Zs5 (le:=λa b=>(hdL a).leB (hdL b)) (λa b c=>zq3 _ _ _) (λa b=>zo2 _ _) ps
theorem yf7{p q:Aj}(h:(hdL p).ord=(hdL q).ord):hdL p=hdL q:=by
 have:=zya (ds:=[hdL p,hdL q]) (.inl λd hd=>by simp at hd;rcases hd with rfl | rfl <;> rfl) (a:=hdL p) (b:=hdL q) (by simp) (by simp) h;exact this
theorem ztc{ps qs:A5}(hdis:∀p∈ps,∀q∈ps,hdL p=hdL q->p=q)(hp:qs.Perm ps)(hs:qs.Pairwise λa b=>Aa ((hdL a).leB (hdL b))):qs=Wv ps:=by
 refine(hp.trans (zmq ps).symm).eq_of_pairwise (le:=λa b=>Aa ((hdL a).leB (hdL b))) (λa b ha hb h1 h2=>?_) hs (zpy ps);have e:(hdL a).ord=(hdL b).ord:=mC (of_decide_eq_true h1) GF;exact hdis a (hp.mem_iff.mp ha) b ((zmq ps).mem_iff.mp hb) (yf7 e)
section
variable{K:Kd}{G Hz L:Hp}{ss:List Sl}{te:TE}{ps:List (List (List Nat))}
theorem zqm(a:EvL K G Hz L ss te (ps.map txL))(hne:∀p∈ps,p≠[])(hdis:∀p∈ps,∀q∈ps,hdL p=hdL q->p=q)(h64:ps.length<64):EvO K G Hz L ss (tCB (zr5 K) (BV te)) ((Wv ps).map txL):=λF H σ Q S q =>
 a F H σ _ S λp vs F' H' e sq r=>⟨p,vs,ps,rfl,sq,r.mono e.fh,hne,hdis,h64,λl pm hpm hs hl=>by
  have hmem:∀i∈pm,i<ps.length:=λi hi=>Ni.mp (hpm.mem_iff.mp hi);have hpd:(pm.map λi=>ps.getD i []).Perm ps:=by
   have h1:=hpm.map (λi=>ps.getD i []);have h2:DU ps.length (λi=>ps.getD i [])=ps:=by
    refine Qn λi=>?_;rw[KR];by_cases hi:i<ps.length
    .rw[Q8 hi,Kv hi];simp[Kz,hi]
    .rw[EC,EC];rfl
   rw[h2] at h1;exact h1
  have hk:(pm.map λi=>ps.getD i []).map hdL=La EX:=by
   rw[<- hs,Lf];refine N6 λi hi=>?_;show hdL (ps.getD i [])=_;rw[Kz,Kz,KR,Kv (hmem i hi)];rfl
  have hso:FB (pm.map λi=>ps.getD i []) (Aa ((hdL a).leB (hdL b))):=by
   have:=aY EX;rw[<- hk,N8] at this;exact this
  have eq:=ztc hdis hpd hso;have hr:=r.pick pm λi hi=>by rw[Kg];exact hmem i hi
  have e2:(pm.map λi=>EO (ps.map txL) i)=(Wv ps).map txL:=by
   rw[<- eq,Lf];refine N6 λi hi=>?_;show EO (ps.map txL) i=txL (ps.getD i []);rw[Kz,Kz,KR,Kv (hmem i hi)];rfl
  rw[e2] at hr;exact q l _ F' _ (e.newO hl) (e.hh.free hl) (e.fh.free hl) Ku hr⟩
end
end L2
namespace L2
open PySem PySem.W PyProof.Rows
theorem hu66{A:Ks}{k:Nat}(hr:Room k A):A.units+66<Ln:=by have:=hr.un;lia
end L2
namespace L2
open PySem PySem.W PySem.Spec PyProof.Rows
section
variable{K:Kd}{G Hz L:Hp}{ss:List Sl}{ta tb te tk t1:TE}{t:TA}{ds:List D}{d:D}{D0:Ends}{C:Addr}{f:Str}{pre bad:List D->Prop}{res err:List D->D}{T:Addr}{pos:Pos}{q:Str}{i j:Nat}
theorem yfv{x dx:Addr}(hs:Bl (xsl2 K x C dx f d))(h:Bw K G L D0.nx (ss.set j (xsl2 K x C dx f d))):Bx K G L D0 (tAsg (tVar i) (Ob j)):=λF H σ S=>by
 obtain⟨v,e,ew,ha,hw,st⟩:=Fj hs;cases ew;refine(Ar e (h F H _ (S.put S.ext S.fl (by simp) (λk hk=>QM (K7 hk)) (λhk=>?_) (by simp[xsl2,Sl.ads]) (λk s' hk hs q hq=>by simp[xsl2,Sl.ads] at hq) λk s' hk hs=>S.ok k s' hs)));rw[Vo (by rw[S.len];exact hk)];exact(Dq (λa ha=>absurd ha OD) hw st)
end
noncomputable def RtP3(K:Kd)(G Hz:Hp)(rt:VK)(r:Int×Ac×Ac):Prop:=∀a p q vs us F H,Ext G Hz F H->Hz p=none->F p=none->Hz q=none->F q=none->p≠q->Ab (F a) (.tup [.int r.1,Ap,.ref q])->Ez p vs->AN F r.2.1 vs->Ez q us->AN F r.2.2 us->rt Av H
noncomputable def SpXP{α:Type}(K:Kd)(C:Addr)(f:Str)(pre:α->Aq Ac)(bad:Aq α)(res:α->Int×Ac×Ac)(errR:α->Aq D):Sp:=λvs H Q E=>∃(G:Hp) (ds:Ac) (x:α),Same G H/\Bc G vs/\pre x ds/\(¬ bad x->RtP3 K G H Q (res x))/\(bad x->RtXR K G H E C f (errR x))
section
variable{α:Type}{K:Kd}{H:Hp}{vs:List V}{Q:VK}{E:XK}{N:List Str}{t:TS}{C:Addr}{f:Str}{pre:α->List D->Prop}{bad:α->Prop}{res:α->Int×List D×List D}{errR:α->D->Prop}
theorem zt3{n:Nat}(hpre:∀x ds,pre x ds->DJ n)(h:SpXP K C f pre bad res errR vs H Q E):vs.length=n:=by
 obtain⟨G,ds,x,sm,r,hp,q⟩:=h;rw[<- r.length];exact hpre x ds hp
theorem yg2(h:SpXP K C f pre bad res errR vs H Q E)(hN:FQ)(body:∀G ds x,pre x ds->(¬ bad x->RtP3 K G H Q (res x))->(bad x->RtXR K G H E C f (errR x))->Go K G H G Cv (DY ds) t) :
  t Cv (Em N) H:=by
 obtain⟨G,ds,x,sm,r,hp,q1,q2⟩:=h;exact body G ds x hp q1 q2 G H _ (Ro sm r hN)
end
noncomputable def p3W(K:Kd)(a p q:Addr)(r:Int×Ac×Ac):Hp->A2:=λF H=>Ab (F a) (.tup [.int r.1,Ap,.ref q])/\(∃ws,Ez p ws/\AN F r.2.1 ws) /\ ∃ws,Ez q ws/\AN F r.2.2 ws
noncomputable def p3sl(K:Kd)(a p q:Addr)(r:Int×Ac×Ac):Sl:=.g Av [p,q] (p3W K a p q r)
theorem ztg(K:Kd)(a p q:Addr)(r:Int×Ac×Ac):Stab [p,q] (p3W K a p q r):=λF1 H1 F2 H2 sf hh ⟨h1,⟨ws,h2,r2⟩,us,h3,r3⟩=>⟨sf _ _ h1,⟨ws,by rw[hh p (by simp)];exact h2,r2.mono sf⟩,us,by rw[hh q (by simp)];exact h3,r3.mono sf⟩
section
variable{K:Kd}{G Hz L:Hp}{ss:List Sl}{t:TA}{ta tb tc te:TE}{ds xs ys:List D}{d:D}{E:XK}{D0:Ends}{i j:Nat}{a p q:Addr}{n:Int}{r:Int×List D×List D}{C CF:Addr}{f:Str}{ts:TS}{g:TG}
theorem ygl(a:EvR K G Hz L ss te):Bx K G L D0 (tAsg te g):=λF H σ S=>a F H σ _ S
theorem ybv(a:Ay ta (.int n))(b:EvO K G Hz L ss tb xs)(c:EvO K G Hz L ss tc ys)(h:RtP3 K G Hz D0.rt (n,xs,ys)):Bx K G L D0 (tRet (tTup (Ol ta (Ol tb (BV tc))))):=λF H σ S =>
 Ec F H σ _ S (b F1 H1 σ _ Cg λp vs F2 H2 e2 hp fp hp2 r2=>c F2 H2 σ _ ((Cg).ext2 e2) λq us F3 H3 e3 hq fq hq3 r3=>by
  have e:=r1.of_int;subst e;refine⟨Rp (by simp),λx hx=>?_⟩;have hp3:=e3.hh _ _ hp2;have hpx:p≠x:=λz=>by rw[z,hx] at hp3;cases hp3
  have hqx:q≠x:=λz=>by rw[z,hx] at hq3;cases hq3
  have hpq:p≠q:=λz=>by rw[z,hq] at hp2;cases hp2
  have e123:=((S.ext.trans e1).trans e2).trans e3;have fp3:F3 p=none:=by rw[e3.no p _ hp2 trivial];exact fp
  have sm:Same F3 (upd F3 x (.tup [.int n,Ap,.ref q])):=Same.upd (e3.fh.free hx);exact h x p q vs us _ _ (e123.newF hx) ((S.ext.trans e1).hh.free hp) (by rw[Kh hpx];exact fp3) (((S.ext.trans e1).trans e2).hh.free hq) (by rw[Kh hqx];exact fq) hpq Ku (by rw[Kh hpx];exact hp3) (r2.mono (e3.gf.trans sm)) (by rw[Kh hqx];exact hq3) (r3.mono sm))
theorem Sat.getP3{F H:Hp}{σ:St}(S:Sat K G Hz L F H σ ss)(hs:Bl (p3sl K a p q r)):D5 σ Av/\Ab (F a) (.tup [.int r.1,Ap,.ref q])/\OwnL K Hz F H p r.2.1/\OwnL K Hz F H q r.2.2:=by
 obtain⟨v,e,ew,ha,hw,st⟩:=Fj hs;cases ew;obtain⟨h0,fp,_⟩:=ha p (by simp);obtain⟨h0',fq,_⟩:=ha q (by simp);obtain⟨h1,⟨ws,h2,r2⟩,us,h3,r3⟩:=hw;exact⟨e,h1,⟨h0,fp,ws,h2,r2⟩,⟨h0',fq,us,h3,r3⟩⟩
theorem zrt{α:Type}{pre:α->Aq Ac}{bad:Aq α}{res:α->Int×Ac×Ac}{errR:α->Aq D}(x:α)(b:EvAF K G Hz L ss t ds)(hp:pre x ds)(h1:¬ bad x-> ∀a p q,p≠q->Bw K G L D0.nx (ss.set j (p3sl K a p q (res x))))(hex:Ab (exmOne K AG (.ref CF)) true)(hil:i<ss.length)
  (h:bad x-> ∀d,errR x d-> ∀z dx,Go K G Hz L { nx:=λσ' H'=>∃v,D5 σ' v/\D0.nx (σ'.set i none) H',rt:=D1 } (Bu (xsl2 K z C dx f d)) ts):Bx K G L D0 (zuc K (SpXP K C f pre bad res errR) t j i CF ts):=λF H σ S =>
 b F H σ _ S λvs F1 H1 e1 r1=>by
  refine⟨F1,ds,x,e1.fh,r1,hp,λnb a p q ws us F2 H2 e2 p1 p2 q1 q2 hpq ha hp2 rp hq2 rq=>?_,λhbad dx v d F2 H2 hd e2 hdx rv=>⟨C,rfl,hex,λx hx=>?_⟩⟩
  .have S2:=S.ext2 Cf;have hp0:H p=none:=e1.hh.free p1;have hq0:H q=none:=e1.hh.free q1;refine h1 nb a p q hpq _ _ _ (S2.put S2.ext S2.fl (by simp) (λk hk=>QM (K7 hk)) (λhj=>?_) (by simp[p3sl,Sl.ads,hpq]) (λk s' hk hs z hz=>?_) λk s' _ h=>S2.ok k s' h)
   .rw[Vo (by rw[S.len];exact hj)];refine(Dq (λz hz=>?_) ⟨ha,⟨ws,hp2,rp⟩,us,hq2,rq⟩ (ztg K a p q _));rcases(by simpa using hz:z=p\/z=q) with rfl | rfl;.exact⟨S.ext.hh.free hp0,p2,_,hp2,trivial⟩
    .exact⟨S.ext.hh.free hq0,q2,_,hq2,trivial⟩
   .rcases(by simpa[p3sl,Sl.ads] using hz:z=p\/z=q) with rfl | rfl;.exact S.notin hp0 k s' hs
    .exact S.notin hq0 k s' hs
  .have S2:=S.ext2 Cf;have e:=(Ext.refl S2.ext.fh).newF (o:=T7 x C (some dx)) hx;have S4:=S2.ext2 e;have fx:F2 x=none:=S2.ext.fh.free hx;refine h hbad d hd x dx _ _ _ (S4.put S4.ext S4.fl (by simp) (λk hk=>QM (K7 hk)) (λhk=>?_) (by simp[xsl2,Sl.ads]) (λk s' hk hs q hq=>by simp[xsl2,Sl.ads] at hq) λk s' hk hs=>S4.ok k s' hs);rw[Vo (by rw[S2.len];exact hk)];exact(Dq (λa ha=>absurd ha OD) ⟨Ku,v,by rw[Kh (Lp hdx fx)];exact hdx,rv.mono e.gf⟩ (zxc K x C dx f _))
theorem ykc(hs:Bl (p3sl K a p q r)):A1 (tVar i) (.tup [.int r.1,.lst r.2.1,.lst r.2.2]):=λF H σ Q S k=>by
 obtain⟨e,h1,⟨_,_,ws,hp,rp⟩,_,_,us,hq,rq⟩:=S.getP3 hs;exact(Ar e (k _ F H DA (Rep.tupN (S.ext.fh _ _ h1) (Reps.cons Rep.int (Reps.cons (Rep.lst (SqL.of hp) (rp.mono S.ext.fh)) (Reps.cons (Rep.lst (SqL.of hq) (rq.mono S.ext.fh)) Reps.nil))))))
theorem Sat.writeP3{F H:Hp}{σ:St}{r':Int×Ac×Ac}{b:Addr}{ws:Ai}(S:Sat K G Hz L F H σ ss)(hs:Bl (p3sl K a p q r))(hb:b=p\/b=q)(hw:p3W K a p q r' F (BX H b ws)):Sat K G Hz L F (BX H b ws) σ (Bu (p3sl K a p q r')):=by
 obtain⟨e,h1,⟨p0,pf,wp,hp,_⟩,q0,qf,wq,hq,_⟩:=S.getP3 hs;have hget:Ab (EV i) Av:=by rw[Kz,e];rfl
 have b0:Hz b=none:=by rcases hb with rfl | rfl <;> assumption
 have bf:F b=none:=by rcases hb with rfl | rfl <;> assumption
 have hn:∀j s',j≠i->AQ ss s'-> ∀z,z=p\/z=q->z∉s'.ads:=λj s' hj h z hz=>S.ne i j _ s' CU hs h z (by simpa[p3sl,Sl.ads] using hz);refine S.put (S.ext.write bf b0) S.fl rfl Cy (λ_=>by
  rw[hget];refine(Dq (λz hz=>?_) hw (ztg K a p q _));have hup:∀{z o},Aw z o->NT o-> ∃o,Ab (upd H b (.lst ws) z) o/\NT o:=λ{z o} h nt=>by
   by_cases hzb:z=b;.exact⟨.lst ws,by rw[hzb,Ku],trivial⟩
   .exact(CK (by rw[Kh hzb];exact h) nt)
  rcases(by simpa using hz:z=p\/z=q) with rfl | rfl;.exact⟨p0,pf,hup hp trivial⟩
  .exact⟨q0,qf,hup hq trivial⟩) (show(p3sl K a p q r).ads.Nodup from S.nd i (p3sl K a p q r) hs) (λj s' hj h z hz=>hn j s' hj h z (by simpa[p3sl,Sl.ads] using hz)) λj s' hj h=>(S.ok j s' h).updNe (hn j s' hj h b hb)
theorem zwg(hpq:p≠q)(hs:Bl (p3sl K a p q r))(h:Bw K G L D0.nx (Bu (p3sl K a p q (r.1,[],r.2.2)))):Bx K G L D0 (Wd (tBM0 K "list" zz7 (tOp (rIxT K) (tVar i) (tC (.int 1))))):=λF H σ S=>by
 obtain⟨e,h1,⟨p0,pf,wp,hp,rp⟩,q0,qf,wq,hq,rq⟩:=S.getP3 hs;refine⟨_,e,a,[.int r.1,Ap,.ref q],1,Ap,rfl,rfl,SqT.of (S.ext.fh _ _ h1),rfl,.inl ⟨rfl,_,SqL.of hp⟩,p,wp,rfl,rfl,hp,h F _ σ (S.writeP3 hs A6 ⟨h1,⟨[],Ku,Reps.nil⟩,wq,by rw[Kh (K7 hpq)];exact hq,rq⟩)⟩
theorem zvm(hpq:p≠q)(hs:Bl (p3sl K a p q r))(h:Bw K G L D0.nx (Bu (p3sl K a p q (r.1,r.2.1,[])))):Bx K G L D0 (Wd (tBM0 K "list" zz7 (tOp (rIxT K) (tVar i) (tC (.int 2))))):=λF H σ S=>by
 obtain⟨e,h1,⟨p0,pf,wp,hp,rp⟩,q0,qf,wq,hq,rq⟩:=S.getP3 hs;refine⟨_,e,a,[.int r.1,Ap,.ref q],2,.ref q,rfl,rfl,SqT.of (S.ext.fh _ _ h1),rfl,.inl ⟨rfl,_,SqL.of hq⟩,q,wq,rfl,rfl,hq,h F _ σ (S.writeP3 hs (.inr rfl) ⟨h1,⟨wp,by rw[Kh hpq];exact hp,rp⟩,[],Ku,Reps.nil⟩)⟩
end
end L2
namespace L2
open PySem PySem.Spec PyProof.Rows PySem.Calls PySem.AutoSeq1
theorem yf2(l:Addr)(its:BT)(n:Nat)(b:Addr)(its2:BT)(n2:Nat)(dd:CB)(sl:Array A4)(h1:¬Aa (!its.isEmpty&&oV (its.size+its2.size)))(h2:AD its.size)(h3:its.size+its2.size<=sizeLine+1) :
  Meets (Mu.«list.extend» (Br [Cd,Cs])) (λ_ R s=>Cp l (Gd "list" (.seq its n) (#[]))/\Cp b { cls:=FL, dict:=dd,data:=.seq its2 n2,slots:=sl }/\R (EY Lz) { s with heap:=s.heap.update l (O1 λx=>x++its2),toks:=s.toks }) :=
 .of_wp λprog w A R s h=>by
  obtain⟨hp,g,d,tk,os⟩:=s;obtain⟨hl,hb,h⟩:=h;have f1:=idx_int;have f2:=Zrm;have f3:=Zsi;have f4:=AutoSeq1.sub_tuple_list;have f5:=AutoSeq1.sub_list_tuple;have hz:(its++its2).size<=sizeLine+1:=by rw[Array.size_append];exact h3
  wp_walk using (VN hl rfl (hz:=h2) (_hz':=hz)),O7 hl,O7 hb;exact(Ar rfl h)
noncomputable def ygn(K:Kd):V->Ai->Hp->B9:=λx vs H Q=>∃l b xs zs,x= Cd/\vs=[Cs]/\Ez l xs/\A8 H b zs/\AD (xs.length+zs.length)/\GJ (BX H l (xs++zs))
section
variable{X:Cx}
theorem yhb:MtM X "list.extend" (ygn X.K):=by
 intro pins s σ H x vs v us Q I rx rv h;obtain⟨l,b,xs,zs,rfl,rfl,hH,hB,hz,q⟩:=h;cases rx;obtain⟨u,rfl,ru⟩:=rv.one;cases ru;obtain⟨z,its,n,r,hl,e⟩:=I.lstM hH;obtain⟨its2,r2,⟨⟨cls,dd,data,sl⟩,n2,e2,c2,d2,s2⟩,z2⟩:=I.list hB;simp only at c2 s2;subst c2 s2;have hl2:=r2.length;have hsz:AD (its.toArray.size+its2.toArray.size):=by rw[Nz,Nz];omega
 have hlong:¬ Aa (!its.toArray.isEmpty&&oV (its.toArray.size+its2.toArray.size)):=by
  rw[yc3 hsz,Zxb];exact Mh
 refine nY Zwo (Cm e) F.entry_list_extend (F.args_list_extend_2 _ _) (yf2 l its.toArray n b its2.toArray n2 dd sl hlong (by rw[Nz];omega) (by omega)) (Ck e e2);refine(Bj .non _ (I.lset (its':=its++its2) hH e (by simp) (r.append r2) ?_) q);rw[K8];omega
end
section
variable{K:Kd}{G Hz L:Hp}{ss:List Sl}{E:Ends}{ds es:List D}
theorem yhj{i:Nat}{p:Addr}{t1:TE}(hs:Bl (.o p ds))(a:EvL K G Hz L ss t1 es)(hz:AD (ds.length+es.length))(h:Bw K G L E.nx (Bu (.o p (ds++es)))) :
  Bx K G L E (Wd (tBM K "list" (ygn K) (tVar i) (BV t1))):=λF H σ S=>by
 obtain⟨e,h0,fp,vs,hp,r⟩:=S.getO hs;refine⟨Ap,e,.inl ⟨rfl,_,SqL.of hp⟩,a F H σ _ S λb zs F' H' e' sq r'=>?_⟩;have S':=S.ext2 e';obtain⟨e2,h02,fp2,vs',hp2,r2⟩:=S'.getO hs;exact⟨p,b,vs',zs,rfl,rfl,hp2,sq,by rw[<- r2.length,<- r'.length];exact hz,h F' _ σ (S'.write hs (r2.cat r'))⟩
end
end L2
namespace My
open PySem L2 PyProof.Rows
noncomputable def top(i:Nat):Stmt:=Zwz.main.body.getD i (.Pass ⟨0,0,0,0⟩)
noncomputable abbrev tE:Stmt:=top 1
noncomputable abbrev cG:AC:=["book"]
theorem zd4:Bm ["book", "neighbours", "fact"] cG tE:=BW
noncomputable abbrev tG:Stmt:=top 2
noncomputable abbrev cH:AC:=["book", "one"]
theorem U8:Bm ["book", "one", "neighbours", "ahead", "reached", "place", "here", "card"] cH tG:=BW
noncomputable abbrev tH:Stmt:=top 3
noncomputable abbrev cI:AC:=["book", "one", "other"]
theorem cJ:Bm ["book", "one", "other", "ahead", "chain", "card"] cI tH:=BW
noncomputable abbrev tL:Stmt:=top 4
noncomputable abbrev YJ:AC:=["things", "links"]
theorem Sy:Bm ["things", "links", "first", "thing", "one", "other", "kept", "lost", "lists"] YJ tL:=BW
noncomputable def cL(i j:Nat):Stmt:=match top i with
 | .ClassDef _ _ _ b _ _ _ _ _ _ _=>b.getD j (.Pass ⟨0,0,0,0⟩)
 | s=>s
noncomputable abbrev U9:Stmt:=cL 7 0
noncomputable abbrev zsg:AC:=["self", "chain"]
theorem zp0:Bm ["self", "chain"] zsg U9:=BW
noncomputable abbrev YK:Stmt:=top 12
noncomputable abbrev YL:AC:=["book"]
theorem zho:Bm ["book", "names", "told"] YL YK:=BW
noncomputable abbrev cM:Stmt:=top 13
noncomputable abbrev cO:AC:=["book", "card", "field"]
theorem zr3:Bm ["book", "card", "field"] cO cM:=BW
noncomputable abbrev cP:Stmt:=top 15
noncomputable abbrev YM:AC:=["book", "field"]
theorem zni:Bm ["book", "field"] YM cP:=BW
noncomputable abbrev tM:Stmt:=top 16
noncomputable abbrev YQ:AC:=["blocks"]
theorem cQ:Bm ["blocks", "places", "place", "block", "card"] YQ tM:=BW
noncomputable abbrev tO:Stmt:=top 17
noncomputable abbrev cR:AC:=["book"]
theorem cT:Bm ["book", "blocks", "places", "one", "other"] cR tO:=BW
noncomputable abbrev tQ:Stmt:=top 19
noncomputable abbrev cU:AC:=["rules", "book", "one", "other"]
theorem YS:Bm ["rules", "book", "one", "other", "answers", "total", "rule", "asked"] cU tQ:=BW
noncomputable abbrev tR:Stmt:=top 20
noncomputable abbrev cV:AC:=["book"]
theorem zd5:Bm ["book", "facts", "fact"] cV tR:=BW
noncomputable abbrev tU:Stmt:=top 21
noncomputable abbrev cW:AC:=["rules", "book"]
theorem Va:Bm ["rules", "book", "cards", "facts", "weights", "place", "one", "other", "weight"] cW tU:=BW
noncomputable abbrev tV:Stmt:=top 23
noncomputable abbrev cX:AC:=["places", "one", "other"]
theorem zit:Bm ["places", "one", "other"] cX tV:=BW
noncomputable abbrev cY:Stmt:=top 24
noncomputable abbrev cZ:AC:=["rules", "book", "places"]
theorem YT:Bm ["rules", "book", "places", "sums", "one", "other", "weight", "pair"] cZ cY:=BW
noncomputable abbrev dB:Stmt:=top 25
noncomputable abbrev dC:AC:=["book", "places"]
theorem zgl:Bm ["book", "places", "aparts"] dC dB:=BW
noncomputable abbrev tW:Stmt:=top 26
noncomputable abbrev dD:AC:=["rules", "book"]
theorem zgi:Bm ["rules", "book", "blocks", "places"] dD tW:=BW
noncomputable abbrev tX:Stmt:=top 28
noncomputable abbrev dF:AC:=["some", "others"]
theorem yaz:Bm ["some", "others"] dF tX:=BW
noncomputable abbrev Vb:Stmt:=cL 29 0
noncomputable abbrev zsb:AC:=["self", "weight", "field"]
theorem zq2:Bm ["self", "weight", "field"] zsb Vb:=BW
noncomputable abbrev Vc:Stmt:=cL 29 1
noncomputable abbrev zno:AC:=["self", "book", "one", "other"]
theorem zl7:Bm ["self", "book", "one", "other"] zno Vc:=BW
noncomputable abbrev Vd:Stmt:=cL 30 0
noncomputable abbrev zj3:AC:=["self", "texts", "others"]
theorem zi2:Bm ["self", "texts", "others"] zj3 Vd:=BW
noncomputable abbrev Ve:Stmt:=cL 30 1
noncomputable abbrev zjz:AC:=["self"]
theorem zi6:Bm ["self"] zjz Ve:=BW
noncomputable abbrev tY:Stmt:=top 32
noncomputable abbrev dG:AC:=["_law_script", "_law_k"]
theorem zme:Bm ["_law_script", "_law_k"] dG tY:=BW
noncomputable abbrev tZ:Stmt:=top 33
noncomputable abbrev dH:AC:=["_law_found"]
theorem zph:Bm ["_law_found"] dH tZ:=BW
noncomputable abbrev uA:Stmt:=top 34
noncomputable abbrev dI:AC:=["_law_cell", "_law_many"]
theorem dJ:Bm ["_law_cell", "_law_many", "_law_found", "_law_number", "_law_k"] dI uA:=BW
noncomputable abbrev dM:Stmt:=top 35
noncomputable abbrev dN:AC:=["_law_cell", "_law_many"]
theorem T8:Bm ["_law_cell", "_law_many", "_law_letters", "_law_draws", "_law_size", "_law_at_here", "_law_base", "_law_cards_here", "_law_k", "_law_sign"] dN dM:=BW
noncomputable abbrev uB:Stmt:=top 36
noncomputable abbrev dO:AC:=["_law_cells", "_law_cards_here", "_law_cell"]
theorem T9:Bm ["_law_cells", "_law_cards_here", "_law_cell", "_law_fields", "_law_facts", "_law_one", "_law_draws", "_law_card", "_law_other", "_law_fact"] dO uB:=BW
noncomputable abbrev uC:Stmt:=top 37
noncomputable abbrev dR:AC:=["_law_cell", "_law_field"]
theorem YW:Bm ["_law_cell", "_law_field", "_law_rows_here", "_law_draw", "_law_weight_here"] dR uC:=BW
noncomputable abbrev Vf:Stmt:=top 38
noncomputable abbrev dU:AC:=["_law_book_here"]
theorem Ww:Bm ["_law_book_here", "_law_cards_here", "_law_blocks_here", "_law_fact", "_law_joined", "_law_block"] dU Vf:=BW
noncomputable abbrev uD:Stmt:=top 39
noncomputable abbrev dX:AC:=["_law_blocks_here", "_law_card"]
theorem zo7:Bm ["_law_blocks_here", "_law_card", "_law_k"] dX uD:=BW
noncomputable abbrev uE:Stmt:=top 40
noncomputable abbrev dY:AC:=["_law_book_here", "_law_blocks_here"]
theorem zm2:Bm ["_law_book_here", "_law_blocks_here", "_law_fact"] dY uE:=BW
noncomputable abbrev YX:Stmt:=top 41
noncomputable abbrev dZ:AC:=["_law_rows_here", "_law_book_here", "_law_one", "_law_other"]
theorem YZ:Bm ["_law_rows_here", "_law_book_here", "_law_one", "_law_other", "_law_weight_here", "_law_number", "_law_field", "_law_mine"] dZ YX:=BW
noncomputable abbrev eF:Stmt:=top 42
noncomputable abbrev eG:AC:=["_law_rows_here", "_law_book_here", "_law_blocks_here"]
theorem Rv:Bm ["_law_rows_here", "_law_book_here", "_law_blocks_here", "_law_pairs", "_law_j", "_law_i", "_law_weight_here", "_law_card", "_law_aparts", "_law_fact"] eG eF:=BW
noncomputable abbrev uF:Stmt:=top 43
noncomputable abbrev eN:AC:=["_law_found", "_law_fact", "_law_book_here"]
theorem zen:Bm ["_law_found", "_law_fact", "_law_book_here", "_law_one", "_law_other"] eN uF:=BW
noncomputable abbrev eO:Stmt:=top 44
noncomputable abbrev eQ:AC:=["_law_found", "_law_due_here"]
theorem zk8:Bm ["_law_found", "_law_due_here", "_law_row"] eQ eO:=BW
noncomputable abbrev Y0:Stmt:=top 45
noncomputable abbrev eU:AC:=["_law_script"]
theorem Ql:Bm ["_law_script", "_law_first", "_law_cell", "_law_book_here", "_law_rows_here", "_law_rules", "_law_blocks_here", "_law_odd_here", "_law_handed", "_law_again", "_law_caught", "_law_found", "e"] eU Y0:=BW
set_option genInjectivity false in
set_option genSizeOf false in
structure Ad where
 (Vg Wx Ms Lb Wy Wz eV eY eZ Y4 WD Y5 fB Y6 Y7 fC fD fG fH fJ fK fL fM fO WF WK WL WM fP fQ fU fV fW fX fY fZ gA gB gC gD gF gG:Addr)
 (gH gJ gK Y8 WN Y9 gM Za Zb gO gP gQ gR gU gW gY gZ iB WP WQ WR WT iC iD iG iH iI iJ iK iM iQ iR iT iU iV iW:Mp)
structure Tx(K:Kd)(mg:Str->Option Ka)(ad0:Ad):Prop where
 uG:mg "FolkError" = some (.ref ad0.Vg)
 Zew:mg "NoPair" = some (.ref ad0.Wx)
 uH:mg "Odds" = some (.ref ad0.Ms)
 Zfm:mg "Same" = some (.ref ad0.Lb)
 Zep:mg "TooMany" = some (.ref ad0.Wy)
 iY:XMk K ad0.Ms ad0.WD
 Zds:XStore K ad0.Ms "chain"
 Zdz:CInitB K ad0.Vg
 Zc:XTell K ad0.Ms
 Ua:Cls K ad0.Lb
 iZ:Ov K ad0.Lb "field"
 Zb5:Meth K ad0.Lb "sort_word" ad0.WM
 Zdc:Meth K ad0.Lb "speaks" ad0.WK
 uI:Ov K ad0.Lb "weight"
 Zfa:Mk K ad0.Lb ad0.WF
 Zcm:Zvd K (.ref ad0.Ms) (.ref ad0.Vg)=some true
 Zdn:X5 K (.ref ad0.Ms) (.ref ad0.Wx)=some false
 Zdd:X5 K (.ref ad0.Ms) (.ref ad0.Wy)=some false
 Zd8:X5 K (.ref ad0.Ms) (.ref ad0.Ms)=some true
 Zdq:Ov K ad0.Ms "chain"
 Zb4:Meth K ad0.Lb "speaks_by" ad0.WL
 Zdr:mg "PAIR_FIELDS" = some (.ref ad0.Wz)
 Zdt:TupK K ad0.Wz [[115,97,109,101],[97,112,97,114,116]]
 uJ:FX K mg "neighbours_of" tE cG ad0.eV ad0.gH
 uK:FX K mg "steps_from" tG cH ad0.eY ad0.gJ
 uL:FX K mg "chain_of" tH cI ad0.eZ ad0.gK
 uM:FX K mg "joined" tL YJ ad0.Y4 ad0.Y8
 Zeb:Fun K "__init__" "Odds.__init__" U9 ad0.WD ad0.WN
 Zea:M5 K ad0.WN ["self", "chain"] []
 jA:FX K mg "cards_of" YK YL ad0.Y5 ad0.Y9
 jB:FX K mg "texts_of" cM cO ad0.fB ad0.gM
 Zd:FX K mg "told_pairs" cP YM ad0.Y6 ad0.Za
 jC:FX K mg "places_in" tM YQ ad0.Y7 ad0.Zb
 Ze:FX K mg "blocks_of" tO cR ad0.fC ad0.gO
 uN:FX K mg "weight_of" tQ cU ad0.fD ad0.gP
 uO:FX K mg "facts_by_card" tR cV ad0.fG ad0.gQ
 uP:FX K mg "weights_of" tU cW ad0.fH ad0.gR
 jD:FX K mg "pair_of_places" tV cX ad0.fJ ad0.gU
 uQ:FX K mg "block_pairs" cY cZ ad0.fK ad0.gW
 uR:FX K mg "block_aparts" dB dC ad0.fL ad0.gY
 Zf:FX K mg "book_case" tW dD ad0.fM ad0.gZ
 uT:FX K mg "shares" tX dF ad0.fO ad0.iB
 Zd9:Fun K "__init__" "Rule.__init__" Vb ad0.WF ad0.WP
 Zee:M5 K ad0.WP ["self", "weight", "field"] []
 Zdp:Fun K "speaks" "Rule.speaks" Vc ad0.WK ad0.WQ
 Zdo:M5 K ad0.WQ ["self", "book", "one", "other"] []
 Zcl:Fun K "speaks_by" "Same.speaks_by" Vd ad0.WL ad0.WR
 Zco:M5 K ad0.WR ["self", "texts", "others"] []
 Zcp:Fun K "sort_word" "Same.sort_word" Ve ad0.WM ad0.WT
 Zcr:M5 K ad0.WT ["self"] []
 Zg:FX K mg "_law_cell_at" tY dG ad0.fP ad0.iC
 jE:FX K mg "_law_whole" tZ dH ad0.fQ ad0.iD
 Zh:FX K mg "_law_stream" uA dI ad0.fU ad0.iG
 uU:FX K mg "_law_cards" dM dN ad0.fV ad0.iH
 uV:FX K mg "_law_book" uB dO ad0.fW ad0.iI
 uW:FX K mg "_law_rows" uC dR ad0.fX ad0.iJ
 uX:FX K mg "_law_blocks" Vf dU ad0.fY ad0.iK
 WW:FX K mg "_law_at" uD dX ad0.fZ ad0.iM
 uY:FX K mg "_law_odd" uE dY ad0.gA ad0.iQ
 uZ:FX K mg "_law_weight" YX dZ ad0.gB ad0.iR
 vA:FX K mg "_law_due" eF eG ad0.gC ad0.iT
 vB:FX K mg "_law_is_chain" uF eN ad0.gD ad0.iU
 vC:FX K mg "_law_good" eO eQ ad0.gF ad0.iV
 jF:FX K mg "law" Y0 eU ad0.gG ad0.iW
 Zgg:mg "all" = none
 Zgc:mg "any" = none
 Zfs:mg "bool" = none
 vD:mg "enumerate" = none
 Zgi:mg "int" = none
 Rw:mg "isinstance" = none
 QW:mg "len" = none
 Vh:mg "list" = none
 WX:mg "max" = none
 WY:mg "min" = none
 Vi:mg "range" = none
 Zem:mg "reversed" = none
 Vj:mg "set" = none
 QX:mg "sorted" = none
 Zgb:mg "sum" = none
 vG:mg "tuple" = none
 Zgh:mg "zip" = none
section
variable{P:Ko}{w:Km}{K:Kd}{mg:Str->Option Ka}{base:Heap}{ad0:Ad}
noncomputable def vH(ds:Ac):Prop:=∃(ns:Cb) (k:Int),ds=[.lst FF,.int k]/\0<=k
noncomputable def Ub:Ac->D
 | [.lst xs,.int k]=>xs.getD k.toNat (.int 0)
 | _=>.non
theorem zmb(Z:B4 K):FnOk P w K mg base CX0 1 ad0.fP ad0.iC dG (SpD K vH Ub):=by
 refine okD Z.Zg.F zme (by rintro ds ⟨ns,k,rfl,_⟩;rfl) (CN _ (Kl (Gj (CH pY (pv 1) (Bz TJ Z.QW R0 (Bq 0)) _) (BA (Ft (Dh _ K) 0 (pv 1))))
   (BA Lg)) Ep);obtain⟨ns,k,rfl,hk⟩:=hp;have ll:CJ (ns.map D.int) ns.length:=by simp
 refine Kp (LC (Lh (zrf (g:=λi j=>AF i j) Ao (UW CD).b)) D6 D6)
 .simp only[decide_eq_true_eq] at hb;have hk2:k.toNat<ns.length:=by omega
  refine MP (M6 (d:=.int (ns.getD k.toNat 0)) CD Ao ?_) ?_
  .have:=TF (xs:=ns.map D.int) (j:=k.toNat) (v:=D.int (ns.getD k.toNat 0)) (by rw[KR,Kz];simp[hk2]);rw[show((k.toNat:Nat):Int)=k by omega] at this;exact this
  .have e:Ub [D.lst (ns.map D.int),D.int k]= .int (ns.getD k.toNat 0):=by
    simp[Ub,Kz,KR,hk2]
   rw[e] at rt;exact rt
 .simp only[decide_eq_false_iff_not] at hb;have e:Ub [D.lst (ns.map D.int),D.int k]= .int 0:=by
   simp[Ub,Kz,KR,show ns[k.toNat]? = none from RB (by omega)]
  rw[e] at rt;refine Mj ?_;((try dsimp only);refine Al);exact MP Ky rt
theorem small{n:Nat}(h:BI n):AD n:=by rw[K3];omega
theorem jG{α:Type}(xs:AK)(z:α)(x:Int){n:Int}(hn:(xs.length:Int)=n)(h0:0<n):Ab (atI xs (x % n)) (xs.getD (Ej x n) z):=by
 have h1:=Q7 x (show n≠0 by omega);have h2:=Q6 x h0;have:=TF (xs:=xs) (j:=(Ej x n)) (v:=xs.getD (Ej x n) z) (by rw[Kz,Kv (by omega)];rfl);rw[show(Ew (Ej x n))=x % n by omega] at this;exact this
noncomputable def S(x:Str):D:=.str x.cps.toList
noncomputable def W2:Ac:=[S "same", S "apart"]
noncomputable def Qx:Ac:=[S "name", S "former", S "way", S "day", S "mark"]
noncomputable abbrev Fct:=Ae×Ae×Ae
noncomputable def encF(f:Fct):D:=.tup [.str f.1,.str BL,.str AA]
noncomputable def unF:D->Fct
 | .tup [.str a,.str b,.str c]=>(a,b,c)
 | _=>([],[],[])
theorem Rx(fs:Ag):(FE).map unF=fs:=by
 rw[Lf,show(unF∘encF)=id from rfl,S7]
theorem zqh(x:Int):∃l,Qx.getD (Ej x 5) .non= .str l:=by
 have h1:=Q7 x (show(5:Int)≠0 by decide);have h2:=Q6 x (show(0:Int)<5 by decide);have:(Ej x 5)=0\/(Ej x 5)=1\/(Ej x 5)=2\/(Ej x 5)=3\/(Ej x 5)=4:=by omega
 rcases this with e | e | e | e | e <;> rw[e] <;> exact(AY _)
theorem zsu{f g:Fct}(h:encF f=encF g):f=g:=congrArg unF h
theorem vI{fs:Ag}{f:Fct}:encF f∈FE↔f∈fs :=
 ⟨λh=>by obtain⟨g,hg,e⟩:=Kr.mp h;rw[<- zsu e];exact hg,λh=>Ny h⟩
theorem yhm{fs:Ag}(h:fs.Nodup):(FE).Nodup:=by
 unfold Lq at *;rw[N8];exact h.imp λa e=>a (zsu e)
theorem alF(fs:Ag):M7 FE:=FC ⟨.s,[.s,.s],λd hd=>by
 obtain⟨f,_,rfl⟩:=Kr.mp hd;exact(Cm rfl)⟩
theorem nbF(f:Fct):Aa (encF f).nb:=rfl
theorem dpF(f:Fct):(encF f).dep<=1:=by show(D.deps [.str f.1,.str f.2.1,.str f.2.2])+1<=1;simp[D.deps,D.dep]
theorem yir{ds:Ac}{fs:Ag}(h:∀d∈ds,d∈FE):(ds.map unF).map encF=ds:=by
 rw[Lf]
 conv=>rhs;rw[<- S7 ds]
 exact N6 λd hd=>by obtain⟨f,_,rfl⟩:=Kr.mp (h d hd);rfl
noncomputable def Bk(b:Ag):Prop:=b.Nodup/\La Fc=Fc
theorem zvw(ds:Ac)(h:M7 ds):La (La ds)=La ds:=zln h (Mw ds)
noncomputable def mkB(fs:Ag):Ag:=(La FE).map unF
theorem vJ(fs:Ag):(mkB fs).map encF=La FE:=yir λd hd=>(Mw _).mem_iff.mp hd
theorem yf3(fs:Ag)(f:Fct):f∈mkB fs↔f∈fs:=by rw[<- vI,vJ,(Mw _).mem_iff,vI]
theorem yf5(fs:Ag):CJ (mkB fs) fs.length:=by unfold mkB;rw[Kg,(Mw _).length_eq,Kg]
theorem yje{fs:Ag}(h:fs.Nodup):Bk (mkB fs):=by
 refine(BG ?_)
 .have:((mkB fs).map encF).Nodup:=by rw[vJ];exact(Mw _).nodup_iff.mpr (yhm h)
  unfold Lq at *;rw[N8] at this;exact this.imp λa e=>a (congrArg encF e)
 .rw[vJ,zvw _ (alF fs)]
theorem ycp(fs:Ag):La FE=(mkB fs).map encF:=(vJ fs).symm
noncomputable def vK(K:Kd):Sp:=λvs H Q _=>∃(a:Addr) (ns:Cb),vs=[Av]/\A8 H a Gb/\ns.length<=63 /\ ∀H',Q C2 H'
theorem zqf{K:Kd}{H:Hp}:∀ns:Cb,AN H (ns.map D.int) Gb
 | []=>Reps.nil
 | n::ns=>Reps.cons Rep.int (zqf ns)
noncomputable def dedF(fs:Ag):Ag:=(ded FE).map unF
noncomputable def bkD(b:Ag):D:=.lst Fc
theorem zrr{a b:Ag}(h:bkD a=BK):a=b:=by
 injection h with h;have:=congrArg (Ya3 unF) h;rwa [Rx,Rx] at this
theorem yen(x:Ag):Aa (bkD x).nb:=by show(D.lst (x.map encF)).nb=true;rw[D.nb_lst];exact D.nbs_map nbF x
theorem ygh(x:Ag):(bkD x).dep<=2:=by show(D.lst (x.map encF)).dep<=2;rw[D.dep_lst];have:=D.deps_map dpF x;omega
noncomputable def isPw(l:Ae):Bool:=Bg (D.str l) W2
theorem yhg:W2=[[115,97,109,101],[97,112,97,114,116]].map D.str:=by
 unfold W2 S;rw[show(EF "same")=[115,97,109,101] by decide +kernel,show(EF "apart")=[97,112,97,114,116] by decide +kernel];rfl
noncomputable def nmD(fs:Ag):Ac:=fs.map (λf=>.str f.1)++(fs.filter λf=>isPw BL).map λf=>.str AA
noncomputable def vL(ds:Ac):Prop:=∃fs:Ag,ds=[bkD fs]/\fs.length<=500/\(ded (nmD fs)).length<64
noncomputable def Ry(fs:Ag):Ac:=La (ded (nmD fs))
theorem W3{fs:Ag}:∀d∈nmD fs,∃l,d= .str l:=by
 intro d hd;rcases K9.mp hd with z | z <;> obtain⟨f,_,rfl⟩:=Kr.mp z <;> exact(AY _)
theorem hkS{ds:Ac}(h:∀d∈ds,∃l,d= .str l):∀d∈ds,Ci true:=by
 intro d hd;obtain⟨l,rfl⟩:=h d hd;rfl
theorem alS{ds:Ac}(h:∀d∈ds,∃l,d= .str l):M7 ds:=.inl λd hd=>by obtain⟨l,rfl⟩:=h d hd;rfl
theorem zx5{fs:Ag}{c:Ae}:D.str c∈Ry fs ↔ ∃x∈fs,x.1=c\/(Aa (isPw x.2.1)/\x.2.2=c):=by
 unfold Ry;rw[(Mw _).mem_iff,Qk];unfold nmD;rw[K9,Kr,Kr];simp only[Li,D.str.injEq];constructor
 .rintro(⟨x,hx,h⟩ | ⟨x,⟨hx,h1⟩,h⟩);.exact⟨x,hx,.inl h⟩
  .exact⟨x,hx,C1 h1 h⟩
 .rintro⟨x,hx,h | ⟨h1,h⟩⟩;.exact .inl ⟨x,hx,h⟩
  .exact .inr ⟨x,⟨hx,h1⟩,h⟩
noncomputable def jH:Ac->Ac
 | [.lst b]=>Ry (b.map unF)
 | _=>[]
theorem zir(b:Ag):jH [BK]=Ry b:=by
 show Ry ((Fc).map unF)=_;rw[Rx]
theorem zly(Z:B4 K):FnOk P w K mg base CX0 1 ad0.Y5 ad0.Y9 YL (SpO K vL jH):=by
 refine okO Z.jA.F zho (by rintro ds ⟨c,rfl,_⟩;rfl) (CN _ (Kl (aR (i:=1) zho.nd rfl CT rfl (LcOk.of (Nx:=(AO ["book", "names", "told"])) (sc:=KZ YK) (N':=(AO ["fact"])) (nt:=1) (cs:=[]) rfl rfl (by decide +kernel)) (Dj 0) (Fm 0 (Lq (AO ["fact"])) rfl CT) (λ_ _ _ _=>TQ) (λ_ _ _ _=>(Bt _ K 0)))
   (Kl (aR (i:=2) zho.nd rfl CT rfl (LcOk.of (Nx:=(AO ["book", "names", "told"])) (sc:=KZ YK) (N':=(AO ["fact"])) (nt:=1) (cs:=[]) rfl rfl (by decide +kernel)) (Dj 0) (Fm 0 (Lq (AO ["fact"])) rfl CT) (λ_ _ _ _=>(Wf (Gu (show OpR _ _ (rInD K false) from Yl hr.units) (Bt _ K 0) (aM (v:=.ref ad0.Wz) (by rfl) Z.Zdr rfl)))) (λ_ _ _ _=>(Bt _ K 0)))
   (BA (Bz (Fg _ _ (YG P w K true) (sY rfl)) Z.QX RX (CO (Tz (Fg _ _ (U6 P w K true) (Yy rfl hr.units)) (by rfl) Z.Vj Xk (CO (Ly (show OpR _ _ (Wn K) from bO) (pv 1) (pv 2))))))))) Ep);obtain⟨fs,rfl,hf,h64⟩:=hp;rw[zir] at rt;have hz:Dk fs.length:=by rw[K3];omega
 have h3:=RK (λf:Fct=>isPw BL) fs;refine Kp (MN (U3 fs encF (λf=>.str f.1) CD DX (by decide) hz λf hf=>(Ar Ls (DO rfl))) DM);((try dsimp only);refine Al);refine Kp (MN (U0 fs encF (λf=>isPw BL) (λf=>.str AA) CD DX (by decide) hz λf hf=>⟨_,Ls,?_,λ_=>DO rfl⟩) λp2=>?_)
 .show EvT _ _ _ _ _ _ (Bg (D.str BL) W2);rw[yhg];exact Lh (ye4 (DO rfl).b (ycz Z.Zdt).b rfl rfl (by simp[D.dep]))
 ((try dsimp only);refine Al);have hl2:AB (nmD fs) 1000:=by
  unfold nmD;rw[K8,Kg,Kg];omega
 refine UV (sZ (ded (nmD fs)) (Yz (EvO.l (bQ (Ow rfl) (Ow rfl) ?_)) (hkS W3) hl2) (hkS W3) (alS W3) (U7 _) h64 λd=>Qk) rt;rw[Kg,Kg,K3];omega
noncomputable abbrev Lnk:=Ae×Ae
noncomputable def encS(c:Ae):D:=.str c
theorem M9(a b:Ae)(h:encS a=encS b):a=b:=by unfold encS at h;injection h
noncomputable def unS:D->Ae
 | .str l=>l
 | _=>[]
theorem jJ(xs:Aj):(xs.map encS).map unS=xs:=by rw[Lf];exact S7 xs
noncomputable def encN(n:Nat):D:=.int n
noncomputable def encK(l:Lnk):D:=.tup [.str l.1,.str l.2]
noncomputable def unK:D->Lnk
 | .tup [.str a,.str b]=>(a,b)
 | _=>([],[])
theorem yhh(ls:Da):(ls.map encK).map unK=ls:=by rw[Lf];exact S7 ls
noncomputable def ufS(f:Ae->Ae)(l:Lnk):Ae->Ae:=Rr (minL (f l.1) (f l.2)) (maxL (f l.1) (f l.2)) f
noncomputable def ufF(ls:Da):Ae->Ae:=ls.foldl ufS id
theorem znv(ls:Da)(l:Lnk):ufF (ls++[l])=ufS (ufF ls) l:=by unfold ufF;rw[Vz];rfl
theorem vM(a b:Ae):(minL a b=a/\maxL a b=b)\/(minL a b=b/\maxL a b=a):=by
 unfold minL maxL;by_cases h1:a<b
 .rw[if_pos h1,if_neg (List.lt_asymm h1)];exact .inl De
 .by_cases h2:b<a
  .rw[if_pos h2,if_neg h1];exact .inr De
  .have:a=b:=mC (RW.mp h2) (RW.mp h1);rw[if_neg h1,if_neg h2];exact .inl (CW this)
theorem vN{α:Type}{xs:AK}(h:xs.Nodup){k:Nat}{x:α}(hk:AM xs k x):x∉xs.take k:=λhm=>by
 obtain⟨j,hj⟩:=MF.mp hm;have hjk:j<k:=by
  have:=(BS hj);rw[O6] at this;omega
 rw[lY,if_pos hjk] at hj;have h1:=(Mg.mp hj);have h2:=(Mg.mp hk);unfold Lq at h;rw[Vw] at h;exact h j k h1.1 h2.1 hjk (h1.2.trans h2.2.symm)
noncomputable def tpF(b:Ag)(w:Ae):Da:=(b.filter λf=>An BL w).map λf=>(f.1,AA)
noncomputable def Nh:Ae:=(EF "same")
noncomputable def Lw:Ae:=(EF "apart")
noncomputable def ylb:Ae:=(EF "mark")
theorem vO:Aa (isPw Nh):=by unfold isPw;rw[yhg];exact decide_eq_true (Kr.mpr ⟨_,by decide,rfl⟩)
noncomputable def cardsL(b:Ag):Aj:=(Ry b).map unS
theorem zwb(b:Ag):∀d∈Ry b,∃l,d= .str l:=λd hd=>W3 d (Qk.mp ((Mw _).mem_iff.mp hd))
theorem yeq{ds:Ac}(h:∀d∈ds,∃l,d= .str l):B6 (ds.map unS)=ds:=by
 rw[Lf]
 conv=>rhs;rw[<- S7 ds]
 exact N6 λd hd=>by obtain⟨l,rfl⟩:=h d hd;rfl
theorem Zi(b:Ag):B6 BO=Ry b:=yeq (zwb b)
theorem yif{xs:Aj}(h:(xs.map encS).Nodup):xs.Nodup:=by
 unfold Lq at *;rw[N8] at h;exact h.imp λa e=>a (congrArg encS e)
theorem Vk(b:Ag):(BO).Nodup:=yif (by rw[Zi];exact(Mw _).nodup_iff.mpr (U7 _))
theorem Rz{b:Ag}{c:Ae}:c∈BO ↔ ∃x∈b,x.1=c\/(Aa (isPw x.2.1)/\x.2.2=c):=by
 rw[<- zx5,<- Zi];exact⟨λh=>Ny (f:=encS) h,λh=>by obtain⟨y,hy,e⟩:=Kr.mp h;rw[<- M9 _ _ e];exact hy⟩
theorem vP(b:Ag):AB BO (2*b.length):=by
 unfold cardsL Ry;rw[Kg,(Mw _).length_eq];have h1:=bN (nmD b);have h2:AB (nmD b) (2*b.length):=by
  unfold nmD;have:=RK (λf:Fct=>isPw BL) b;rw[K8,Kg,Kg];omega
 omega
theorem yfk(b:Ag):∀l∈AZ b,l.1∈BO/\l.2∈BO:=λl hl=>by
 obtain⟨f,hf,rfl⟩:=Kr.mp hl;obtain⟨h1,h2⟩:=Li.mp hf;have h2:BL=Nh:=GF;exact⟨Rz.mpr ⟨f,h1,A6⟩,Rz.mpr ⟨f,h1,.inr (AY (by rw[h2];exact vO))⟩⟩
theorem W4{α:Type}[DecidableEq α]{a b:AK}(h:a.Nodup)(hs:∀x∈a,x∈b):a.length<=b.length:=by
 induction a generalizing b with
 | nil=>exact BM
 | cons x a ih =>
  obtain⟨h1,h2⟩:=M4.mp h;have:=ih (b:=b.erase x) h2 λy hy=>(xN (λ(e:y=x)=>h1 (e ▸ hy))).mpr (hs y (AS hy));rw[xH (hs x KN)] at this;have hp:=lL (hs x KN);rw[Mt];omega
noncomputable def Zj(xs:Aj)(ls:Da):List Ac:=(M3 (ufF ls) xs).map λp=>p.map encS
noncomputable def preJ(ds:Ac):Prop:=∃(xs:Aj) (ls:Da),ds=[E9 encS,.lst (ls.map encK)]/\xs.Nodup/\(∀l∈ls,l.1∈xs/\l.2∈xs)/\BI xs.length
noncomputable def resJ:Ac->List Ac
 | [.lst xs,.lst ls]=>Zj (xs.map unS) (ls.map unK)
 | _=>[]
theorem zsw(xs:Aj)(ls:Da):resJ [E9 encS,.lst (ls.map encK)]=Zj xs ls:=by
 show Zj ((xs.map encS).map unS) ((ls.map encK).map unK)=_;rw[jJ,yhh]
theorem zzp (Z : B4 K) : FnOk P w K mg base CX0 1 ad0.Y4 ad0.Y8 YJ (SpOO K preJ resJ) := by
 refine okOO Z.uM.F Sy (by rintro ds ⟨c,d,rfl,_⟩;rfl) (CN _ (Kl (psn 2 Sy.nd bC)
   (Kl (DI Lx (Dj 0) 3 Sy.nd (Le (Ys CZ (pv 2) (pv 3) (pv 3) rfl)))
   (Kl (Gw Lx (Dj 1) (R6 rfl (Nq (pgn 4 Sy.nd) (Nq (pgn 5 Sy.nd) R5))) (Kl (psn 6 Sy.nd (Bz (zlh rfl) Z.WY ZM (CS (Qh CZ (pv 2) (pv 4) Cy) (Qh CZ (pv 2) (pv 5) Cy))))
   (Kl (psn 7 Sy.nd (Bz (zkv rfl) Z.WX ZP (CS (Qh CZ (pv 2) (pv 4) Cy) (Qh CZ (pv 2) (pv 5) Cy))))
   (Le (DI Lx (Dj 0) 3 Sy.nd (En (CH Pb (Qh CZ (pv 2) (pv 3) Cy) (pv 7) _) (Le (Ys CZ (pv 2) (pv 3) (pv 6) rfl))))))))
   (Kl (psn 8 Sy.nd bC)
   (Kl (DI Lx (Dj 0) 3 Sy.nd (Le (O2 (Oe O9 P0 Qt Qf (Oe aA oZ oY rY (pv 8) (CS (Qh CZ (pv 2) (pv 3) Cy) (MK Oj))) (Bq 3)))))
   (BA (Tz (Fg _ _ zp3 (zma rfl)) (by rfl) Z.Vh Xj (CO (zx9 aA F.slot_dict_values F.type_dict_values zwv (pv 8)))))))))) Ep);obtain⟨xs,ls,rfl,hnd,hls,hxl⟩:=hp;rw[zsw] at rt;have hz:∀{n:Nat},BI n->Dk n:=λh=>by rw[K3];omega
 have dl:∀(ys:Aj) (f:Ae->Ae),CJ (Dw encS ys f) ys.length:=λys f=>by unfold dA;rw[Kg]
 refine Kp (zxa DM);((try dsimp only);refine Al);refine Kp (Nt encS xs (λk ss=>∃v3:Sl,ss=[BE (xs.map encS),BE (ls.map encK),dsl K p (Dw encS (xs.take k) id),v3,.un,.un,.un,.un,.un]) Ax (AY .un) ?_ ?_)
 .rintro L' k x ss hL hk ⟨v3,rfl⟩;refine(Ar Ls Eh);refine rW (i:=2) (d:=C6) (k:=C6) rfl Ax Ao rfl (hz (by rw[dl,O6];omega)) (hN _ (BG (C9 x)));have e:putD (Dw encS (xs.take k) id) C6 C6=Dw encS (xs.take (k+1)) id:=by
   rw[N7,hk];exact sJ (f:=id) M9 (vN hnd hk)
  rw[e];rfl
 rintro ss ⟨v3,rfl⟩;rw[NB];((try dsimp only);refine Al);refine Kp (Nt encK ls (λk ss=>∃(f:Ae->Ae) (v3 v4 v5 v6 v7:Sl),ss=[BE (xs.map encS),BE (ls.map encK),dsl K p (Dw encS xs f),v3,v4,v5,v6,v7,.un] /\ ∀t∈xs,f t=ufF (ls.take k) t) Ax ⟨id,_,_,_,_,_,rfl,Cy⟩ ?_ ?_)
 .rintro L' k l ss hL hk ⟨f,v3,v4,v5,v6,v7,rfl,hf⟩;refine(Ar (Sq rfl (DQ (DQ Sh))) Eh);obtain⟨h1,h2⟩:=hls l (KD hk);refine Dr (encS (minL (f l.1) (f l.2))) (zr6 (YB (k:=encS l.1) (d:=encS (f l.1)) rfl Ao rfl (Rt M9 h1)).b (YB (k:=encS l.2) (d:=encS (f l.2)) rfl Ao rfl (Rt M9 h2)).b) ?_;((try dsimp only);refine Al);refine Dr (encS (maxL (f l.1) (f l.2))) (zrz (YB (k:=encS l.1) (d:=encS (f l.1)) rfl Ao rfl (Rt M9 h1)).b (YB (k:=encS l.2) (d:=encS (f l.2)) rfl Ao rfl (Rt M9 h2)).b) ?_;((try dsimp only);refine Al);generalize hkk:minL (f l.1) (f l.2)=kk;generalize hll:maxL (f l.1) (f l.2)=ll;refine Nt encS xs (λq ss=>∃(g:Ae->Ae) (v3:Sl),ss=[BE (xs.map encS),BE (ls.map encK),dsl K p (Dw encS xs g),v3,C9 l.1,C9 l.2,C9 kk,C9 ll,.un]/\(∀t∈xs.take q,g t=Rr kk ll f t) /\ ∀t,t∉xs.take q->g t=f t) Ax (BH f _ (λt ht=>by simp at ht) Cy) ?_ ?_
  .rintro L2 q x ss hL2 hq ⟨g,v3,rfl,hg1,hg2⟩;refine(Ar Ls (λN2 hN2=>?_));have hx:x∈xs:=KD hq;have hxn:=vN hnd hq;have ext:xs.take (q+1)=xs.take q++[x]:=by rw[N7,hq];rfl
   have egx:g x=f x:=hg2 x hxn;refine LC (Lh (QR (l:=g x) (m:=ll) (YB (k:=C6) (d:=encS (g x)) rfl Ao rfl (Rt M9 hx)).b Ao)) D6 D6
   .have hb:g x=ll:=of_decide_eq_true hb;refine rW (i:=2) (d:=encS kk) (k:=C6) rfl Ax Ao rfl (hz (by rw[dl];omega)) (hN2 _ ⟨λu=>if u=x then kk else g u,_,by rw[yaj M9 hx];rfl,λt ht=>?_,λt ht=>?_⟩)
    .rw[ext] at ht;show(if t=x then kk else g t)=_;rcases K9.mp ht with ht | ht;.rw[if_neg (λz:t=x=>hxn (z ▸ ht))];exact hg1 t ht
     .rw[K5.mp ht,BR];unfold Rr;rw[if_pos (egx.symm.trans hb)]
    .rw[ext] at ht;have h3:t≠x:=λz=>ht (by rw[z];simp);show(if t=x then kk else g t)=_;rw[if_neg h3];exact hg2 t λz=>ht (Ml _ z)
   .have hb:g x≠ll:=of_decide_eq_false hb;refine Mj (hN2 _ (BH g _ (λt ht=>?_) (λt ht=>?_)))
    .rw[ext] at ht;rcases K9.mp ht with ht | ht;.exact hg1 t ht
     .rw[K5.mp ht];unfold Rr;rw[if_neg (by rw[<- egx];exact hb),egx]
    .rw[ext] at ht;exact hg2 t λz=>ht (Ml _ z)
  .rintro ss ⟨g,v3,rfl,hg1,hg2⟩;rw[NB] at hg1;refine hN _ ⟨g,_,_,_,_,_,rfl,λt ht=>?_⟩;have e:ls.take (k+1)=ls.take k++[l]:=by rw[N7,hk];rfl
   rw[hg1 t ht,e,znv];unfold ufS;rw[<- hf l.1 h1,<- hf l.2 h2,hkk,hll];unfold Rr;rw[hf t ht]
 rintro ss ⟨f,v3,v4,v5,v6,v7,rfl,hf⟩;rw[NB] at hf;((try dsimp only);refine Al);refine Kp (znn λp2=>?_);((try dsimp only);refine Al);refine Kp (Nt encS xs (λk ss=>∃(kqs:KQ) (v3:Sl),ss=[BE (xs.map encS),BE (ls.map encK),dsl K p (Dw encS xs f),v3,v4,v5,v6,v7,dls K p2 kqs]/\kqs.map dat=grpD encS encS f (xs.take k)) Ax (Bh [] _ rfl) ?_ ?_)
 .rintro L' k x ss hL hk ⟨kqs,v3,rfl,hq⟩;refine(Ar Ls Eh);have hx:x∈xs:=KD hk;have hlen:kqs.length<=xs.length:=by
   have h1:=congrArg PL hq;rw[Kg] at h1;have h2:=yc2 (enc:=encS) (encB:=encS) (f:=f) (xs:=xs.take k);rw[O6] at h2;omega
  refine sE (i:=8) (k:=encS (f x)) (d:=C6) rfl (YB (k:=C6) (d:=encS (f x)) rfl Ao rfl (Rt M9 hx)).b rfl (λkqs'=>Ax) (hz (by omega)) (λz hzm=>hz ?_) λkqs' he=>hN _ (Bh kqs' _ ?_)
  .have:dat z∈grpD encS encS f (xs.take k):=by rw[<- hq];exact Ny hzm
   have:=zxp this;rw[O6] at this;have e:(dat z).2=z.2.2:=rfl;rw[e] at this;omega
  .rw[he,hq,N7,hk];exact yde M9
 rintro ss ⟨kqs,v3,rfl,hq⟩;rw[NB] at hq;((try dsimp only);refine Al);have e:kqs.map (·.2.2)=Zj xs ls:=by
  have h1:kqs.map (·.2.2)=(kqs.map dat).map (·.2):=by rw[Lf];rfl
  have h2:(grpD encS encS f xs).map (·.2)=(M3 f xs).map λp=>p.map encS:=by unfold grpD M3;rw[Lf,Lf];rfl
  rw[h1,hq,h2];unfold Zj;rw[zpa (g:=ufF ls) λa ha b hb=>by rw[hf a ha,hf b hb]]
 refine zvy (i:=8) rfl ?_;rw[e];exact rt
noncomputable def jK(ds:Ac):Prop:=∃(b:Ag) (w:Ae),ds=[BK,.str w]/\Ei 500
noncomputable def Zk:Ac->Ac
 | [.lst b,.str w]=>(tpF (b.map unF) w).map encK
 | _=>[]
theorem vQ(b:Ag)(w:Ae):Zk [BK,.str w]=(tpF b w).map encK:=by
 show(tpF ((Fc).map unF) w).map encK=_;rw[Rx]
theorem zhx(Z:B4 K):FnOk P w K mg base CX0 1 ad0.Y6 ad0.Za YM (SpO K jK Zk):=by
 refine okO Z.Zd.F zni (by rintro ds ⟨c,d,rfl,_⟩;rfl) (CN _ (BA (FP rfl (LcOk.of (Nx:=(AO ["book", "field"])) (sc:=KZ cP) (N':=(AO ["fact", "field"])) (nt:=1) (cs:=[1]) rfl rfl (by decide +kernel)) (Dj 0) (Fm 0 (Lq (AO ["fact", "field"])) rfl CT) (Wf (CH Pb (Bt _ K 0) (pv 1) _)) (Qe (CS (Bt _ K 0) (Bt _ K 0))))) Ep);obtain⟨b,w,rfl,hb⟩:=hp;rw[vQ] at rt;refine UV ?_ rt;have e:(tpF b w).map encK=(b.filter λf=>An BL w).map λf=>encK (f.1,AA):=by unfold tpF;rw[Lf];rfl
 rw[e];exact U0 b encF (λf=>An BL w) (λf=>encK (f.1,AA)) CD DX (by decide) (by rw[K3];omega) λf hf=>⟨_,Ls,Lh (QR (DO rfl).b Ao),λ_=>QT (Dy (DO rfl) (DO rfl) K4) ER⟩
noncomputable def encB(p:Aj):D:=.lst (p.map encS)
noncomputable def unB:D->Aj
 | .lst q=>q.map unS
 | _=>[]
theorem yhs(bs:A5):(EW).map unB=bs:=by
 rw[Lf]
 conv=>rhs;rw[<- S7 bs]
 exact N6 λp _=>jJ p
noncomputable def plAt(bs:A5)(c:Ae):Nat:=bs.findIdx λp=>Bg c p
noncomputable def plD(bs:A5):DD:=Dw encN bs.flatten (plAt bs)
noncomputable def vR(ds:Ac):Prop:=∃bs:A5,ds=[.lst EW]/\bs.flatten.Nodup/\BI bs.flatten.length
noncomputable def jL:Ac->D
 | [.lst bs]=>D.dic (plD (bs.map unB))
 | _=>.non
theorem zko(bs:A5):jL [.lst EW]=D.dic (plD bs):=by
 show D.dic (plD ((EW).map unB))=_;rw[yhs]
theorem zsd{bs:A5}{p:Aj}{x:Ae}{k q:Nat}(hn:bs.flatten.Nodup)(hk:AM bs k p)(hq:AM p q x):x∉(FY k)++p.take q/\BJ x=k:=by
 have hkl:=Mg.mp hk
 have hx:x∈p:=KD hq
 have e:bs=bs.take k++p::bs.drop (k+1):=by
  have:=Ue k bs
  rw[Vx hkl.1,hkl.2] at this
  exact this.symm
 have ef:bs.flatten=(FY k)++(p++(bs.drop (k+1)).flatten):=by
  conv=>lhs;rw[e]
  rw[xQ,Xd]
 rw[ef] at hn
 obtain⟨_,n2,n3⟩:=SQ.mp hn
 have np:=(SQ.mp n2).1
 have h1:x∉(FY k):=λh=>n3 x h x (Ml _ hx) rfl
 refine(BG Dt)
 .rcases K9.mp h with h | h
  .exact h1 h
  .exact vN np hq h
 .unfold plAt
  rw[List.findIdx_eq hkl.1]
  refine⟨by rw[hkl.2];exact decide_eq_true hx,λj hj=>decide_eq_false λh=>h1 ?_⟩
  have hjl:j<bs.length:=ZK hj hkl.1
  refine RM.mpr ⟨bs[j],?_,h⟩
  exact MF.mpr ⟨j,by rw[lY,if_pos hj,Kv hjl]⟩
theorem ybz{bs:A5}{p:Aj}{k:Nat}(hk:AM bs k p):(bs.take k).flatten.length+p.length<=bs.flatten.length:=by
 have hkl:=Mg.mp hk
 have e:bs=bs.take k++p::bs.drop (k+1):=by
  have:=Ue k bs
  rw[Vx hkl.1,hkl.2] at this
  exact this.symm
 have ef:bs.flatten=(FY k)++(p++(bs.drop (k+1)).flatten):=by
  conv=>lhs;rw[e]
  rw[xQ,Xd]
 rw[ef,K8,K8];omega
theorem zjm(Z:B4 K):FnOk P w K mg base CX0 1 ad0.Y7 ad0.Zb YQ (SpD K vR jL):=by
 refine okD Z.jC.F cQ (by rintro ds ⟨c,rfl,_⟩;rfl) (CN _ (Kl (psn 1 cQ.nd bC)
   (Kl (Gw Lx (zjo (by rfl) Z.vD (Bq 0)) (R6 rfl (Nq (pgn 2 cQ.nd) (Nq (pgn 3 cQ.nd) R5))) (Le (DI Lx (Dj 3) 4 cQ.nd (Le (Ys CZ (pv 1) (pv 4) (pv 2) rfl)))))
   (BA (pv 1)))) Ep);obtain⟨bs,rfl,hnd,hl⟩:=hp;rw[zko] at rt;refine Kp (zxa DM);((try dsimp only);refine Al);refine Kp (zzj encB bs (λk ss=>∃v2 v3 v4:Sl,ss=[BE EW,dsl K p (Dw encN (FY k) (plAt bs)),v2,v3,v4]) Ax ⟨.un,.un,.un,rfl⟩ ?_ ?_)
 .rintro L' k b ss hL hk ⟨v2,v3,v4,rfl⟩;refine(Ar (Sq rfl (DQ (DQ Sh))) Eh);have hfl:=ybz hk;refine Nt encS b (λq ss=>∃v4:Sl,ss=[BE EW,dsl K p (Dw encN ((FY k)++b.take q) (plAt bs)),A3 k,.d (encB b),v4]) Ax ⟨v4,by rw[Zw3,LR];rfl⟩ ?_ ?_
  .rintro L2 q x ss hL2 hq ⟨v4,rfl⟩;refine(Ar Ls (λN2 hN2=>?_));obtain⟨f1,f2⟩:=zsd hnd hk hq;have hql:=(BS hq);refine rW (i:=1) (d:=encN k) (k:=C6) rfl Ax Ao rfl (by rw[K3];unfold dA;rw[Kg,K8,O6];omega) (hN2 _ (BG (C9 x)));have e:putD (Dw encN ((FY k)++b.take q) (plAt bs)) C6 (encN k)=Dw encN ((FY k)++b.take (q+1)) (plAt bs):=by
    rw[N7,hq,<- lZ,<- f2];exact sJ (f:=plAt bs) M9 (by rw[f2];exact f1)
   rw[e];rfl
  .rintro ss ⟨v4,rfl⟩;rw[NB];have e:(FY k)++b=(FY (k+1)):=by
    rw[N7,hk,xQ];simp
   rw[e];exact hN _ ⟨_,_,_,rfl⟩
 rintro ss ⟨v2,v3,v4,rfl⟩;rw[NB];refine sG (i:=1) rfl ?_;((try dsimp only);refine Al);exact MP Ax rt
theorem zix{α β:Type}[DecidableEq α][DecidableEq β](f:α->β){xs:AK}(hn:xs.Nodup):(M3 f xs).flatten.Nodup /\ ∀x,x∈(M3 f xs).flatten->x∈xs:=by
 refine⟨?_,λx hx=>?_⟩
 .unfold M3;have key:∀hs:AK,(hs.map f).Nodup->(hs.map λh=>xs.filter λt=>An (f t) (f h)).flatten.Nodup:=by
   intro hs;induction hs with
   | nil=>intro _;exact RQ
   | cons h hs ih =>
    intro hn2;rw[Kq,M4] at hn2;rw[Kq,Xd];refine SQ.mpr ⟨hn.filter _,ih hn2.2,λa ha b hb e=>?_⟩;subst e;obtain⟨q,hq,hb⟩:=RM.mp hb;obtain⟨y,hy,rfl⟩:=Kr.mp hq;have h1:=of_decide_eq_true (Li.mp ha).2;have h2:=of_decide_eq_true (Li.mp hb).2;exact hn2.1 (by rw[<- h1,h2];exact Ny hy)
  exact key _ zob
 .obtain⟨q,hq,hx⟩:=RM.mp hx;unfold M3 at hq;obtain⟨y,_,rfl⟩:=Kr.mp hq;exact(Li.mp hx).1
noncomputable def RC(b:Ag):A5:=M3 (ufF (AZ b)) BO
theorem yhe{qs:Fi Ac}{bs:A5}(h:qs.map (·.2)=bs.map λp=>p.map encS):(qs.map λq=>D.lst q.2)=EW:=by
 have h1:(qs.map λq=>D.lst q.2)=(qs.map (·.2)).map D.lst:=by rw[Lf];rfl
 rw[h1,h,Lf];rfl
noncomputable def insS(ks:Aj)(x:Ae):Aj:=if x∈ks then ks else ks++[x]
noncomputable def keyS(ks:Aj)(f:Fct):Aj:=Ds (isPw BL) (insS (insS ks f.1) AA) (insS ks f.1)
noncomputable def yk8(b:Ag):Aj:=b.foldl keyS []
noncomputable def lbS(g:Ae->Ae)(l:Lnk):Ae->Ae:=Rr (g l.2) (g l.1) g
noncomputable def lbF(ls:Da):Ae->Ae:=ls.foldl lbS id
theorem zoe(ls:Da)(l:Lnk):lbF (ls++[l])=lbS (lbF ls) l:=by unfold lbF;rw[Vz];rfl
theorem yjl{xs:Aj}(ls:Da):(∀l∈ls,l.1∈xs/\l.2∈xs)->bY xs (lbF ls) (ufF ls):=by
 induction ls using Ph with
 | h0=>exact λ_ a _ b _=>lD
 | hs ls l ih =>
  intro h;rw[zoe,znv];obtain⟨h1,h2⟩:=h l (by simp);have hk:=vM (ufF ls l.1) (ufF ls l.2);exact ycn h1 h2 (ih λz hz=>h z (Ml _ hz)) (.inr De) hk
theorem jM(b:Ag)(f:Fct)(w:Ae):tpF (b++[f]) w=AR BL w (tpF b w++[(f.1,AA)]) (tpF b w):=by
 unfold tpF;rw[RL];by_cases h:BL=w;.rw[if_pos h,QB (by simp[h]),RP,LQ];rfl
 .rw[if_neg h,O5 (by simp[h]),RP,LR]
noncomputable def vU(ds:Ac):Prop:=∃b:Ag,ds=[BK]/\Ei 300
noncomputable def labD(b:Ag):DD:=Dw encS (yk8 b) (lbF (AZ b))
noncomputable def ylc:Ac->D
 | [.lst b]=>D.dic (labD (b.map unF))
 | _=>.non
noncomputable def adjF(b:Ag)(x y:Ae):Prop:=(x,y)∈AZ b\/(y,x)∈AZ b
noncomputable def Vl(ls:Da):Da:=ls.flatMap λl=>[(l.1,l.2),(l.2,l.1)]
noncomputable def nbL(ls:Da)(x:Ae):Aj:=EZ (Vl ls) (λl=>An l.1 x) ((·.2))
theorem yed{b:Ag}{x y:Ae}:y∈nbL (AZ b) x↔adjF b x y:=by
 unfold nbL Vl adjF;rw[Kr];constructor
 .rintro⟨l,hl,rfl⟩;obtain⟨h1,h2⟩:=Li.mp hl;have h2:=GF;obtain⟨m,hm,h3⟩:=Xe.mp h1;simp only[KH,OD,or_false] at h3;rcases h3 with rfl | rfl;.subst h2;exact .inl hm
  .subst h2;exact .inr hm
 .rintro(h | h);.exact(Dm (x,y) (Li.mpr ⟨Xe.mpr (Ar h (by simp)),by simp⟩))
  .exact(Dm (x,y) (Li.mpr ⟨Xe.mpr (Ar h (by simp)),by simp⟩))
noncomputable def lkD(g:CM D Ac)(k:D):Ac:=((g.find? λq=>An q.1 k).map (·.2)).getD []
theorem yeg(g:CM D Ac)(k d k':D):lkD (appD g k d) k'=AR k k' (lkD g k++[d]) (lkD g k'):=by
 induction g with
 | nil =>
  rw[appD];unfold lkD;by_cases h:k=k';.simp[h]
  .simp[h]
 | cons q g ih =>
  rw[appD];by_cases h1:q.1=k
  .rw[if_pos h1];unfold lkD;by_cases h2:k=k';.rw[if_pos h2];simp[h1,h2]
   .have:¬ q.1=k':=λz=>h2 (h1.symm.trans z);rw[if_neg h2];simp[this]
  .rw[if_neg h1];by_cases h3:q.1=k'
   .have h2:¬ k=k':=λz=>h1 (h3.trans z.symm);rw[if_neg h2];unfold lkD;simp[h3]
   .have e1:∀g',lkD (q::g') k'=lkD g' k':=λg'=>by unfold lkD;simp[h3]
    have e2:lkD (q::g) k=lkD g k:=by unfold lkD;simp[h1]
    rw[e1,e1,e2];exact ih
noncomputable def nbG(ls:Da):CM D Ac:=(Vl ls).foldl (λg l=>appD g (encS l.1) (encS l.2)) []
theorem zov(ls:Da)(l:Lnk):nbG (ls++[l])=appD (appD (nbG ls) (encS l.1) (encS l.2)) (encS l.2) (encS l.1):=by
 unfold nbG Vl;rw[ZC,Vz];rfl
theorem ykv(ls:Da)(x:Ae):lkD (nbG ls) C6=B6 (nbL ls x):=by
 unfold nbG nbL;induction (Vl ls) using Ph with
 | h0=>rfl
 | hs ps l ih =>
  rw[Vz];show lkD (appD _ (encS l.1) (encS l.2)) C6=_;rw[yeg,RL];by_cases h:l.1=x
  .subst h;rw[BR,ih,QB (by simp),RP,LQ,LQ];rfl
  .rw[if_neg λz=>h (M9 _ _ z),ih,O5 (by simp[h]),RP,LR]
noncomputable def nbD(ls:Da):DD:=(nbG ls).map λq=>(q.1,D.lst q.2)
theorem ykh(ls:Da)(x:Ae):(valD (nbD ls) C6).getD (.lst [])= .lst (B6 (nbL ls x)):=by
 rw[<- ykv];unfold valD nbD lkD;rw[Zw4];show(mL _ (mL _ (mJ (λq:D×List D=>An q.1 C6) (nbG ls)))).getD _=_;cases mJ (λq:D×List D=>decide (q.1=encS x)) (nbG ls) <;> rfl
theorem vV(g:CM D Ac)(k d:D):AB (appD g k d) (g.length+1):=by
 induction g with
 | nil=>rw[appD];simp
 | cons q g ih =>
  rw[appD];split;.simp
  .simp only[Mt];omega
theorem vW{g:CM D Ac}{k d:D}{n:Nat}(h:∀q∈g,AB q.2 n):∀q∈appD g k d,AB q.2 (n+1):=by
 induction g with
 | nil =>
  rw[appD];intro q hq;rw[K5.mp hq];simp
 | cons a g ih =>
  rw[appD];have h1:=h a KN;split
  .intro q hq;rcases KH.mp hq with rfl | hq;.simp;omega
   .have:=h q (AS hq);omega
  .intro q hq;rcases KH.mp hq with rfl | hq;.omega
   .exact ih (λz hz=>h z (AS hz)) q hq
theorem yhi(ls:Da):AB (nbG ls) (2*ls.length):=by
 induction ls using Ph with
 | h0=>exact Az
 | hs ls l ih =>
  rw[zov,K8,Oz];have h1:=vV (nbG ls) (encS l.1) (encS l.2);have h2:=vV (appD (nbG ls) (encS l.1) (encS l.2)) (encS l.2) (encS l.1);omega
theorem ycw(ls:Da):∀q∈nbG ls,AB q.2 (2*ls.length):=by
 induction ls using Ph with
 | h0=>intro q hq;cases hq
 | hs ls l ih =>
  rw[zov,K8,Oz];exact vW (vW ih)
noncomputable def yfb:Ac->D
 | [.lst b]=>D.dic (nbD (AZ (b.map unF)))
 | _=>.non
theorem zqy(b:Ag):yfb [BK]=D.dic (nbD (AZ b)):=by
 show D.dic (nbD (AZ ((Fc).map unF)))=_;rw[Rx]
theorem W5(b:Ag)(w:Ae):AB (tpF b w) b.length:=by unfold tpF;rw[Kg];exact RK ..
theorem zjv(Z:B4 K):FnOk P w K mg base CX0 1 ad0.eV ad0.gH cG (SpD K vU yfb):=by
 refine okD Z.uJ.F zd4 (by rintro ds ⟨c,rfl,_⟩;rfl) (CN _ (Kl (psn 1 zd4.nd bC)
   (Kl (DI Lx (Dj 0) 2 zd4.nd (En (CH Pb (Bt _ K 2) Mf _) (Kl (O2 (Oe O9 P0 Qt Qf (Oe aA oZ oY rY (pv 1) (CS (Bt _ K 2) (MK Oj))) (CO (Bt _ K 2))))
   (Le (O2 (Oe O9 P0 Qt Qf (Oe aA oZ oY rY (pv 1) (CS (Bt _ K 2) (MK Oj))) (CO (Bt _ K 2))))))))
   (BA (pv 1)))) Ep);obtain⟨b,rfl,hbl⟩:=hp;rw[zqy] at rt;have hz:∀{n:Nat},n<=10000->Dk n:=λh=>by rw[K3];omega
 refine Kp (znn DM);((try dsimp only);refine Al);refine Kp (Nt encF b (λk ss=>∃(kqs:KQ) (v:Sl),ss=[C3,dls K p kqs,v]/\kqs.map dat=nbG (AZ Db)) Ax (Bh [] _ rfl) ?_ ?_)
 .rintro L' k f ss hL hk ⟨kqs,v,rfl,hq⟩;refine(Ar Ls Eh);have et:AZ (b.take (k+1))=AR BL Nh (AZ Db++[(f.1,AA)]) (AZ Db):=by rw[N7,hk];exact jM _ _ _
  have hkl:=(BS hk);have htl:=W5 Db Nh;rw[O6] at htl;refine LC (Lh (QR (m:=Nh) (DO rfl).b (C8).b)) D6 D6
  .have hb:BL=Nh:=of_decide_eq_true hb;rw[if_pos hb] at et;have hgl:=yhi (AZ Db);have hgi:=ycw (AZ Db);generalize tpF (b.take k) Nh=ls at et hq htl hgl hgi;have hkq:kqs.length<=2*ls.length:=by rw[<- hq,Kg] at hgl;exact hgl
   have hki:∀z∈kqs,AB z.2.2 (2*ls.length):=λz hz=>by
    have:dat z∈nbG ls:=by rw[<- hq];exact Ny hz
    exact hgi _ this
   refine Kp (sE (i:=1) (k:=DR) (d:=encS AA) rfl (DO rfl).b rfl (λkqs'=>DO rfl) (hz (by omega)) (λz hzm=>hz (by have:=hki z hzm;omega)) λkq1 he1=>?_);((try dsimp only);refine Al);have hk1:kq1.length<=2*ls.length+1:=by
    have:=congrArg PL he1;rw[Kg] at this;have h2:=vV (kqs.map dat) DR (encS AA);rw[Kg] at h2;omega
   have hi1:∀z∈kq1,AB z.2.2 (2*ls.length+1):=λz hz=>by
    have:dat z∈appD (kqs.map dat) DR (encS AA):=by rw[<- he1];exact Ny hz
    rw[hq] at this;exact vW hgi _ this
   refine sE (i:=1) (k:=encS AA) (d:=DR) rfl (DO rfl).b rfl (λkqs'=>DO rfl) (hz (by omega)) (λz hzm=>hz (by have:=hi1 z hzm;omega)) λkq2 he2=>hN _ (Bh kq2 _ ?_);rw[he2,he1,hq,et,zov]
  .have hb:BL≠Nh:=of_decide_eq_false hb;rw[if_neg hb] at et;exact Mj (hN _ (Bh kqs _ (by rw[et];exact hq)))
 rintro ss ⟨kqs,v,rfl,hq⟩;rw[NB] at hq;refine zmp (i:=1) rfl ?_;refine sG (i:=1) rfl ?_;((try dsimp only);refine Al);have e:kqs.map frzL=nbD (AZ b):=by
  unfold nbD;rw[<- hq,Lf];rfl
 rw[<- e] at rt;exact MP Ax rt
noncomputable def encO:Option Ae->D
 | none=>.non
 | some c=>encS c
noncomputable def Vm(ls:Da):Aj:=(Vl ls).map (·.1)
theorem zz8(ls:Da):CJ (Vm ls) (2*ls.length):=by
 unfold Vm Vl;rw[Kg];induction ls with
 | nil=>rfl
 | cons l ls ih=>rw[Zvi,K8,ih,Mt];simp;omega
theorem yco{b:Ag}{x y:Ae}(h:adjF b x y):y∈Vm (AZ b):=by
 unfold Vm Vl;rw[Kr];rcases h with h | h;.exact(Dm (y,x) (Xe.mpr (Ar h (by simp))))
 .exact(Dm (y,x) (Xe.mpr (Ar h (by simp))))
theorem yas{β:Type}[DecidableEq β](enc:β->D)(R:Aj)(f:Ae->β)(c:Ae):(valD (Dw enc R f) (encS c)).isSome=Bg c R:=by
 by_cases h:c∈R;.rw[Rt M9 h,decide_eq_true h];rfl
 .rw[ztx M9 h,GH];rfl
structure Walk(b:List Fct)(one:List Nat)(R:List (List Nat))(par:List Nat->Option (List Nat))(lev:List Nat->Nat):Prop where
 bfs:Bfs (adjF b) one R par lev
 all:∀h∈R,∀y,adjF b h y->y∈R/\lev y<=lev h+1
 univ:∀c∈R,c∈one::Vm (tpF b Nh)
 len:R.length<=601
noncomputable def yin(ds:Ac):Prop:=∃(b:Ag) (one:Ae),ds=[BK,encS one]/\Ei 300
noncomputable def yh8(ds:Ac)(r:D):Prop:=∀(b:Ag) (one:Ae),ds=[BK,encS one]-> ∃R par lev,r=D.dic (Dw encO R par)/\Walk b one R par lev
theorem zom (Z : B4 K) : FnOk P w K mg base CX0 2 ad0.eY ad0.gJ cH (SpRD K yin yh8) := by
 have Ze3:=zjv (P:=P) (w:=w) (base:=base) Z;refine okRD Z.uK.F U8 (by rintro ds ⟨c,d,rfl,_⟩;rfl) (CN _ (Kl (psn 2 U8.nd (BC Ze3 Z.uJ (Bq 0)))
   (Kl (psn 3 U8.nd (yge (ydw (pv 1) Ux yg7) rfl rfl (List.cons_ne_nil _ _) (by decide)))
   (Kl (psn 4 U8.nd (MK (Bq 1)))
   (Kl (psn 5 U8.nd Lg)
   (Kl (zug Lx (CH pY (pv 5) (Bz TJ Z.QW R0 (Bq 4)) _) (Kl (psn 6 U8.nd (Ft (Dh _ K) 4 (pv 5)))
   (Kl (DI Lx (Qm (rF CZ (pv 2) (pv 6) (MK Oj) ⟨by rfl,by rfl,by rfl,by rfl⟩)) 7 U8.nd (En (zyd (zld CZ (pv 7) (pv 3)) (by with_unfolding_all rfl)) (Kl (Ys CZ (pv 3) (pv 7) (pv 6) rfl)
   (Le (O2 (Oe O9 P0 Qt Qf (pv 4) (Bq 7)))))))
   (Le (psn 5 U8.nd (Cq Od (pv 5)))))))
   (BA (pv 3))))))) Ep);obtain⟨b,one,rfl,hbl⟩:=hp;have hz:∀{n:Nat},n<=10000->Dk n:=λh=>by rw[K3];omega
 have dl:∀(ys:Aj) (f:Ae->Option Ae),CJ (Dw encO ys f) ys.length:=λys f=>by unfold dA;rw[Kg]
 refine Dr (D.dic (nbD (AZ b))) (by rw[<- zqy];exact Sg (pre:=vU) (res:=yfb) (ds:=[BK]) DF (By b hbl)) ?_;((try dsimp only);refine Al);refine Kp (ybi (i:=3) (k:=encS one) (d:=.non) Ao rfl aV DM);((try dsimp only);refine Al);refine Kp (MN (ds:=[encS one]) (NK DF ER) λp2=>?_);((try dsimp only);refine Al);refine Dr (.int (0:Nat)) Ky ?_;((try dsimp only);refine Al);have hul:AB (one::Vm (AZ b)) 601:=by
  have:=zz8 (AZ b);have:=W5 b Nh;rw[Mt];omega
 have huA:∀{x y:Ae},adjF b x y->y∈one::Vm (AZ b):=λh=>AS (yco h);generalize hU:one::Vm (tpF b Nh)=U at hul huA;have hU1:one∈U:=by rw[<- hU];exact KN
 have hRl:∀{R:Aj},R.Nodup->(∀c∈R,c∈U)->R.length<=U.length:=λh1 h2=>W4 h1 h2;refine Kp (zsq (λm ss=>∃(R:Aj) (par:Ae->Option Ae) (lev:Ae->Nat) (k:Nat) (v6 v7:Sl),ss=[C3,C9 one,.d (D.dic (nbD (AZ b))),dsl K p (Dw encO R par),.o p2 (R.map encS),A3 k,v6,v7]/\Bfs (adjF b) one R par lev/\BTop R lev k/\Wq (adjF b) R lev k/\(∀c∈R,c∈U)/\k<=R.length/\m=U.length - k) (U.length - 0) ⟨[one],λ_=>none,λ_=>0,0,.un,.un,rfl,Bfs.start _ _,(λh hh c hc=>by simp),(λj h hj=>by omega),(λc hc=>by rw[K5.mp hc];exact hU1),BM,rfl⟩ ?_);rintro m ss ⟨R,par,lev,k,v6,v7,rfl,B,top,dn,hu,hkl,rfl⟩;have hRU:=hRl B.nd hu;have hlm:((R.map encS).length:Int)=R.length:=by rw[Kg]
 refine⟨_,Lh (yhx Ao (UW (Ow rfl)).b),λhb N hN=>?_,D6⟩
 .have hb : k < R.length := by have := of_decide_eq_true hb; rw [hlm] at this; omega
  have hk:AM R k R[k]:=Kv hb;generalize R[k]=h at hk;refine Dr (encS h) (M6 (Ow rfl) Ao (TF (by rw[KR,hk];rfl))) ?_;((try dsimp only);refine Al);refine Kp (Nt encS (nbL (AZ b) h) (λq ss=>∃(R:Aj) (par:Ae->Option Ae) (lev:Ae->Nat) (v7:Sl),ss=[C3,C9 one,.d (D.dic (nbD (AZ b))),dsl K p (Dw encO R par),.o p2 (R.map encS),A3 k,C9 h,v7]/\Bfs (adjF b) one R par lev/\BTop R lev k/\Wq (adjF b) R lev k/\(∀c∈R,c∈U)/\AM R k h /\ ∀y∈(nbL (AZ b) h).take q,y∈R/\lev y<=lev h+1) (by rw[<- ykh];exact zlw (Mx rfl) (Mx rfl).b (EvO.ev (NK K4 (by decide))) rfl) ⟨R,par,lev,_,rfl,B,top,dn,hu,hk,λy hy=>by simp at hy⟩ ?_ ?_)
  .rintro L' q c ss hL hq ⟨R,par,lev,v7,rfl,B,top,dn,hu,hk,hdn⟩;refine(Ar Ls (λN2 hN2=>?_));have ha:adjF b h c:=yed.mp (KD hq);have hRU:=hRl B.nd hu;have ext:(nbL (AZ b) h).take (q+1)=(nbL (AZ b) h).take q++[c]:=by rw[N7,hq];rfl
   refine LC (b:=! Bg c R) (Qg (by rw[<- yas encO R par c];exact zw6 (k:=encS c) rfl (Mx rfl).b rfl)) D6 D6
   .have hc:c∉R:=by rw[Vt,decide_eq_false_iff_not] at hb;exact hb
    obtain⟨B2,top2,dn2,hk2⟩:=B.add hk top dn hc ha;refine Kp (rW (i:=3) (d:=encS h) (k:=encS c) rfl Ax Ao rfl (hz (by rw[dl];omega)) ?_);((try dsimp only);refine Al);refine TX rfl Ax (hz (by rw[Kg];omega)) (hN2 _ ⟨R++[c],_,_,C9 c,?_,B2,top2,dn2,λu hu2=>?_,hk2,λy hy=>?_⟩)
    .have e:putD (Dw encO R par) (encS c) (encS h)=Dw encO (R++[c]) (λu=>AR u c (some h) (par u)):=by
      have e1:Dw encO R par=Dw encO R (λu=>AR u c (some h) (par u)):=sO λa ha=>by
       have hac:a≠c:=λz=>hc (z ▸ ha);show par a=AR a c (some h) (par a);rw[if_neg hac]
      rw[e1];have:=sJ (enc:=encS) (encB:=encO) (f:=λu=>AR u c (some h) (par u)) M9 hc;rw[show encO (AR c c (some h) (par c))=encS h by rw[BR];rfl] at this;exact this
     rw[e,LQ];rfl
    .rcases K9.mp hu2 with hu2 | hu2;.exact hu u hu2
     .rw[K5.mp hu2];exact huA ha
    .have hhc:h≠c:=λz=>hc (z ▸ KD hk);show y∈R++[c]/\(AR y c (lev h+1) (lev y))<=(AR h c (lev h+1) (lev h))+1;rw[if_neg hhc];by_cases e:y=c;.rw[if_pos e,e];exact⟨by simp,Az⟩
     .rw[if_neg e];rw[ext] at hy;rcases K9.mp hy with hy | hy;.exact⟨Ml _ (hdn y hy).1,(hdn y hy).2⟩
      .exact absurd (K5.mp hy) e
   .have hc:c∈R:=by rw[Zu6,decide_eq_true_eq] at hb;exact hb
    refine Mj (hN2 _ ⟨R,par,lev,_,rfl,B,top,dn,hu,hk,λy hy=>?_⟩);rw[ext] at hy;rcases K9.mp hy with hy | hy;.exact hdn y hy
    .rw[K5.mp hy];exact⟨hc,top h hk c hc⟩
  .rintro ss ⟨R,par,lev,v7,rfl,B,top,dn,hu,hk,hdn⟩;rw[NB] at hdn;((try dsimp only);refine Al);obtain⟨top2,dn2⟩:=B.next hk top dn λy hy=>hdn y (yed.mpr hy);have hkl:=(BS hk);have hRU:=hRl B.nd hu;refine NP (d:=.int (Ew (k+1))) (by rw[Int.natCast_add];exact Og (Mx rfl).b Ky.b) (hN (U.length - (k+1)) _ (by omega) ⟨R,par,lev,k+1,_,_,rfl,B,top2,dn2,hu,hkl,rfl⟩)
 .have hb:k=R.length:=by have:=of_decide_eq_false hb;rw[hlm] at this;omega
  subst hb;refine sG (i:=3) rfl ?_;((try dsimp only);refine Al);refine MP Ax (rt _ λb' one' e=>?_);injection e with e1 e2;injection e2 with e2 _;have e1:=zrr e1;have e2:=M9 _ _ e2;subst e1 e2;exact⟨R,par,lev,rfl,B,ya5 dn,by rw[hU];exact hu,by omega⟩
noncomputable def yid(ds:Ac):Prop:=∃(b:Ag) (one other:Ae),ds=[BK,encS one,encS other]/\Ei 300
noncomputable def vX(ds:Ac)(r:D):Prop:=∀(b:Ag) (one other:Ae),ds=[BK,encS one,encS other]-> ∃R par lev,Walk b one R par lev/\((other∉R/\r= .non)\/(other∈R /\ ∃l:Aj,r= .lst (l.map encS)/\ChnOk (adjF b) one other (lev other) l))
theorem zq9(Z:B4 K):FnOk P w K mg base CX0 3 ad0.eZ ad0.gK cI (SpRD K yid vX):=by
 have Zfr:=zom (P:=P) (w:=w) (base:=base) Z;refine okRD Z.uL.F cJ (by rintro ds ⟨c,d,e,rfl,_⟩;rfl) (CN _ (Kl (psn 3 cJ.nd (BC Zfr Z.uK (Dp 0 1)))
   (Kl (Gj (zyd (zld CZ (pv 2) (pv 3)) (by with_unfolding_all rfl)) (BA Ux))
   (Kl (psn 4 cJ.nd (MK Oj))
   (Kl (psn 5 cJ.nd (pv 2))
   (Kl (zug Lx (CH (show OpR _ _ sH from zrg) (pv 5) Ux _) (Kl (O2 (Oe O9 P0 Qt Qf (pv 4) (Bq 5)))
   (Le (psn 5 cJ.nd (Qh CZ (pv 3) (pv 5) Cy)))))
   (BA (zvx rfl (by rfl) Z.Vh (by rfl) Z.Zem (Bq 4)))))))) Ep);obtain⟨b,one,other,rfl,hbl⟩:=hp;have rt:∀r,(∃R par lev,Walk b one R par lev/\((other∉R/\r= .non)\/(other∈R /\ ∃l:Aj,r= .lst (l.map encS)/\ChnOk (adjF b) one other (lev other) l)))->RtD K G H Q r:=λr hr=>rt r λb' one' other' e=>by
  injection e with e1 e2;injection e2 with e2 e3;injection e3 with e3 _;have e1:=zrr e1;have e2:=M9 _ _ e2;have e3:=M9 _ _ e3;subst e1 e2 e3;exact hr
 refine Kp (ydx (pre:=yin) (R:=yh8) (ds:=[BK,encS one]) (DV K4) (Bh b one hbl) λr hR=>?_);obtain⟨R,par,lev,rfl,W⟩:=hR b one rfl;refine(Ar Ls ?_);((try dsimp only);refine Al);refine Kp (LC (b:=! Bg other R) (Qg (by rw[<- yas encO R par other];exact zvs (k:=encS other) Ax Ao rfl)) D6 D6)
 .have hb:other∉R:=by rw[Vt,decide_eq_false_iff_not] at hb;exact hb
  exact MP aV (rt _ ⟨R,par,lev,W,.inl (AY hb)⟩)
 have ho:other∈R:=by rw[Zu6,decide_eq_true_eq] at hb;exact hb
 refine Mj ?_;((try dsimp only);refine Al);refine Kp (MN (NK K4 (by decide)) DM);((try dsimp only);refine Al);refine Dr (encS other) Ax ?_;((try dsimp only);refine Al);have hlo:=W.bfs.bnd other ho;have hle:=W.len;refine Kp (zsq (λm ss=>∃(ch:Aj) (cur:Option Ae),ss=[C3,C9 one,C9 other,.d (D.dic (Dw encO R par)),.o p (ch.map encS),.d (encO cur)]/\Chn (adjF b) R lev one other ch cur/\m=lev other+1 - ch.length) (lev other+1 - 0) (BH [] (some other) (Chn.start ho) rfl) ?_);rintro m ss ⟨ch,cur,rfl,C,rfl⟩;refine⟨_,Lh (sI Ao),λhb N hN=>?_,D6⟩
 .cases cur with
  | none=>simp[encO] at hb
  | some c =>
   obtain⟨hc,hl,_⟩:=C.at_ c rfl;refine Kp (TX (d:=encS c) rfl Ax (by rw[Kg,K3];omega) ?_);((try dsimp only);refine Al);refine NP (d:=encO (par c)) (Wo (k:=encS c) Ax Ao rfl (Rt M9 hc)) (hN (lev other+1 - (ch++[c]).length) _ (by rw[K8,Oz];omega) ⟨ch++[c],par c,by rw[LQ];rfl,C.step W.bfs,rfl⟩)
 .cases cur with
  | some c =>
   have:(encO (some c)=D.non)=False:=by simp[encO,encS]
   simp[this] at hb
  | none =>
   ((try dsimp only);refine Al);refine MP (d:=.lst (ch.reverse.map encS)) (by rw[List.map_reverse];exact EvO.ev (zrm (Ow rfl))) (rt _ ⟨R,par,lev,W,.inr (Bh ho ch.reverse C.done)⟩)
theorem vY{b:Ag}{x y:Ae}:(x,y)∈AZ b↔(x,Nh,y)∈b:=by
 unfold tpF;rw[Kr];constructor
 .rintro⟨f,hf,e⟩;obtain⟨h1,h2⟩:=Li.mp hf;have h2:=GF;obtain⟨f1,f2,f3⟩:=f;simp only[yL] at e h2;rw[<- e.1,<- e.2,<- h2];exact h1
 .intro h;exact(Cm (Li.mpr ⟨h,Gg⟩))
theorem zzv(ls:Da):∀l∈ls,lbF ls l.1=lbF ls l.2:=by
 induction ls using Ph with
 | h0=>intro l h;cases h
 | hs ls m ih =>
  intro l hl;rw[zoe];unfold lbS;rw[bZ (x:=m.2) (y:=m.1) (.inl De)];rcases K9.mp hl with hl | hl;.exact .inl (ih l hl)
  .rw[K5.mp hl];exact C1 (.inr rfl) A6
theorem yim(ls:Da){X:Aq Ae}:(∀l∈ls,X l.1↔X l.2)-> ∀a b,lbF ls a=lbF ls b->(X a↔X b):=by
 induction ls using Ph with
 | h0=>intro _ a b e;have e:a=b:=e;rw[e]
 | hs ls m ih =>
  intro h a b e;have ih:=ih λl hl=>h l (Ml _ hl);have hm:=h m (by simp);rw[zoe] at e;unfold lbS at e;rw[bZ (x:=m.2) (y:=m.1) (.inl De)] at e;rcases e with e | ⟨e1,e2⟩;.exact ih a b e
  .have h1:X a↔X m.1:=e1.elim (λz=>(ih _ _ z).trans hm.symm) λz=>ih _ _ z;have h2:X b↔X m.1:=e2.elim (λz=>(ih _ _ z).trans hm.symm) λz=>ih _ _ z;exact h1.trans h2.symm
theorem Walk.label{b:Ag}{one other:Ae}{R:Aj}{par:Ae->Option Ae}{lev:Ae->Nat}(W:Walk b one R par lev):other∈R↔lbF (AZ b) one=lbF (AZ b) other:=by
 constructor
 .refine λh=>W.bfs.all (P:=λc=>lbF (AZ b) one=lbF (AZ b) c) rfl (λx y _ hxy hx=>hx.trans ?_) other h;rcases hxy with z | z;.exact zzv _ _ z
  .exact(zzv _ _ z).symm
 .intro h;refine(yim (AZ b) (X:=λc=>c∈R) (λl hl=>?_) one other h).mp W.bfs.one_in;obtain⟨x,y⟩:=l;exact⟨λh=>(W.all x h y (.inl hl)).1,λh=>(W.all y h x (.inr hl)).1⟩
theorem jN(c:Ae):Aa (encS c).nb:=rfl
theorem zps(Z:B4 K):FnOk P w K mg base CX0 1 ad0.WD ad0.WN ["self", "chain"] (zy8 K ad0.Ms "chain"):=by
 refine Z.Zeb.ok zp0 (λvs H Q E h=>by obtain⟨e,p,ls,rfl,_⟩:=h;rfl) (Gs (Kl (O2 (zv8 (by rfl) Z.uG Z.Zdz (C5 0 (ycr hr.gd hr.units (pv 1)))))
   (Le (zzz (pv 0) (Tz zjl (by rfl) Z.Vh Xj (Bq 1)) (by rfl)))) ?_);exact zw7 Z.iY.cls Z.Zds (by decide +kernel) h
theorem zp1{f:Ae->Ae}{xs:Aj}{c c':Ae}(hc:c∈xs)(hc':c'∈xs):plAt (M3 f xs) c=plAt (M3 f xs) c'↔f c=f c':=by
 have key:∀{x:Ae},x∈xs->plAt (M3 f xs) x=(M8 f xs).findIdx λh=>An (f x) (f h):=λ{x} hx=>by
  unfold plAt M3;rw[List.findIdx_map];congr 1;funext h;exact decide_eq_decide.mpr (by rw[Li];simp[hx])
 rw[key hc,key hc'];constructor
 .intro e;obtain⟨h,hh,he⟩:=(YD (f:=f) (xs:=xs) (f c)).mpr (Dm c hc);obtain⟨h',hh',he'⟩:=(YD (f:=f) (xs:=xs) (f c')).mpr (Dm c' hc');have l1:((M8 f xs).findIdx λh=>An (f c) (f h))<(M8 f xs).length:=lO.mpr ⟨h,hh,decide_eq_true he.symm⟩;have l2:((M8 f xs).findIdx λh=>An (f c') (f h))<(M8 f xs).length:=lO.mpr ⟨h',hh',decide_eq_true he'.symm⟩;have g1:=of_decide_eq_true (xO (w:=l1));have g2:=of_decide_eq_true (xO (w:=l2));rw[g1,g2];congr 1;simp only[e]
 .intro e;simp only[e]
theorem ztm{α β:Type}[DecidableEq α][DecidableEq β]{f:α->β}{xs:AK}{c:α}(hc:c∈xs):c∈(M3 f xs).flatten:=by
 obtain⟨h,hh,he⟩:=(YD (f:=f) (xs:=xs) (f c)).mpr (Dm c hc);exact RM.mpr (Ar (Kr.mpr (Dm h hh)) (Li.mpr ⟨hc,decide_eq_true he.symm⟩))
theorem vZ:Aa (isPw Lw):=by unfold isPw;rw[yhg];exact decide_eq_true (Kr.mpr ⟨_,by decide,rfl⟩)
theorem Zm(b:Ag):∀l∈tpF b Lw,l.1∈BO/\l.2∈BO:=λl hl=>by
 unfold tpF at hl;obtain⟨f,hf,rfl⟩:=Kr.mp hl;obtain⟨h1,h2⟩:=Li.mp hf;have h2:=GF;exact⟨Rz.mpr ⟨f,h1,A6⟩,Rz.mpr ⟨f,h1,.inr (AY (by rw[h2];exact vZ))⟩⟩
noncomputable def samB(b:Ag)(l:Lnk):Bool:=An (lbF (AZ b) l.1) (lbF (AZ b) l.2)
noncomputable def Pj(b:Ag):Da:=(tpF b Lw).filter (samB b)
noncomputable def jO(b:Ag):Prop:=∀f∈b,AB f.1 1000/\AB AA 1000
noncomputable def wA(ds:Ac):Prop:=∃b:Ag,ds=[BK]/\Ei 300/\jO b/\(ded (nmD b)).length<64
noncomputable def wB:Aq Ac
 | [.lst b]=>Pj (b.map unF)≠[]
 | _=>False
theorem wC(b:Ag):wB [BK]↔Pj b≠[]:=by
 show Pj ((Fc).map unF)≠[]↔_;rw[Rx]
noncomputable def wD:Ac->D
 | [.lst b]=>.lst (DS (RC (b.map unF)))
 | _=>.non
theorem zp5(b:Ag):wD [BK]= .lst (DS AV):=by
 show D.lst (DS (RC ((Fc).map unF)))=_;rw[Rx]
noncomputable def ChF(b:Ag)(l:Lnk)(ch:Aj):Prop:=∃R par lev,Walk b l.1 R par lev/\l.2∈R/\ChnOk (adjF b) l.1 l.2 (lev l.2) ch
noncomputable def yhw(ds:Ac)(d:D):Prop:=∀b:Ag,ds=[BK]-> ∃l ch,Cw (Pj b).head? l/\d= .lst (ch.map encS)/\ChF b l ch
theorem yab{b:Ag}(hs:jO b){x y:Ae}(h:adjF b x y):BI y.length:=by
 rcases h with h | h;.exact(hs _ (vY.mp h)).2
 .exact(hs _ (vY.mp h)).1
theorem yae{b:Ag}(hs:jO b){one other:Ae}{n:Nat}{l:Aj}(h1:BI one.length)(h:ChnOk (adjF b) one other n l):∀c∈l,BI c.length:=λc hc=>by
 obtain⟨i,hi⟩:=MF.mp hc;cases i with
 | zero=>rw[h.first] at hi;cases hi;exact h1
 | succ i =>
  have hl:=(BS hi);exact yab hs (h.adj i _ _ F7 hi)
theorem zpw(Z:B4 K):FnOk P w K mg base (CX2 P w) 4 ad0.fC ad0.gO cR (SpXR K ad0.Ms "chain" wA wB wD yhw):=by
 have Zgs:FnOk P w K mg base CX0 3 ad0.Y4 ad0.Y8 YJ (SpOO K preJ resJ):=(zzp Z).mono (by decide);have Zei:FnOk P w K mg base CX0 3 ad0.Y5 ad0.Y9 YL (SpO K vL jH):=(zly Z).mono (by decide);have wF:FnOk P w K mg base CX0 3 ad0.Y6 ad0.Za YM (SpO K jK Zk):=(zhx Z).mono (by decide);have Zed:FnOk P w K mg base CX0 3 ad0.Y7 ad0.Zb YQ (SpD K vR jL):=(zjm Z).mono (by decide);have Zge:=zq9 (P:=P) (w:=w) (base:=base) Z;have Zf0:=zps (P:=P) (w:=w) (base:=base) Z;refine Z.Ze.F.okX2 cT (λvs H Q E h=>zu8 (n:=1) (by rintro ds ⟨c,rfl,_⟩;rfl) h) (Gs (Kl (bT (psn 1 cT.nd (BC Zgs Z.uM (CS (BC Zei Z.jA (Bq 0)) (BC wF Z.Zd (C5 0 Mf))))))
   (Kl (bT (psn 2 cT.nd (BC Zed Z.jC (Bq 1))))
   (Kl (Gw Ya2 (Qm (PE.nox (BC wF Z.Zd (C5 0 Mf)))) (R6 rfl (Nq (pgn 3 cT.nd) (Nq (pgn 4 cT.nd) R5))) (En (PT.nox (CH Pb (Qh CZ (pv 2) (pv 3) Cy) (Qh CZ (pv 2) (pv 4) Cy) _)) (Le (zys (zwu Z.iY Zf0 GG (by rfl) Z.uH Z.Zea Yh (CO (PE.nox (BC Zge Z.uL (E3 0 (Dp 3 4))))) (by decide))))))
   (Le (bT (kI (pv 1))))))) ?_);refine yfn h (by rw[zu8 (n:=1) (by rintro ds ⟨c,rfl,_⟩;rfl) h];decide) λG ds hp rt rx=>?_;obtain⟨b,rfl,hb,hsb,h64⟩:=hp;rw[zp5,wC] at rt;rw[wC] at rx;have hcl:=vP b;refine Kp (ydc (i:=1) (dss:=Zj BO (AZ b)) (by
  rw[<- zsw];refine zzo (pre:=preJ) (res:=resJ) (Dy (EvO.ev ?_) (EvO.ev ?_) K4) ⟨BO,AZ b,rfl,Vk b,yfk b,by omega⟩
  .rw[Zi,<- zir];exact QV (pre:=vL) (res:=jH) DF ⟨b,rfl,by omega,h64⟩
  .rw[<- vQ];exact QV (pre:=jK) (res:=Zk) (EG C8 K4) (Bh b Nh (by omega))) λp qs hqs=>?_);have hq:(qs.map λq=>D.lst q.2)=DS AV:=yhe hqs;refine zsn (i:=1) rfl ?_;rw[hq];((try dsimp only);refine Al);obtain⟨pn,ps⟩:=zix (ufF (AZ b)) (Vk b);have pl:BI (AV).flatten.length:=by
  have:=W4 pn ps;show BI (M3 (ufF (AZ b)) BO).flatten.length;omega
 refine Dr (D.dic (plD AV)) (by
  rw[<- zko];exact Sg (pre:=vR) (res:=jL) DF ⟨AV,rfl,pn,pl⟩) ?_;((try dsimp only);refine Al);have hv:∀c,c∈BO->Ab (valD (plD AV) (encS c)) (encN (plAt AV c)):=λc hc=>Rt M9 (ztm hc);have hsame:∀l∈tpF b Lw,An (plAt AV l.1:Int) (plAt AV l.2:Int)=samB b l:=λl hl=>by
  obtain⟨h1,h2⟩:=Zm b l hl;unfold samB;have e1:(plAt AV l.1:Int)=(plAt AV l.2:Int)↔lbF (AZ b) l.1=lbF (AZ b) l.2:=by
   rw[Zyj];exact(zp1 (f:=ufF (AZ b)) h1 h2).trans (yjl (AZ b) (yfk b) l.1 h1 l.2 h2).symm
  by_cases hz:lbF (AZ b) l.1=lbF (AZ b) l.2;.rw[decide_eq_true hz,decide_eq_true (e1.mpr hz)]
  .rw[decide_eq_false hz,decide_eq_false λq=>hz (e1.mp q)]
 refine Kp (Nt encK (tpF b Lw) (λk ss=>∃v3 v4:Sl,ss=[C3,BE (DS AV),.d (D.dic (plD AV)),v3,v4] /\ ∀l∈(tpF b Lw).take k,AL (samB b l)) (EvO.ev (by
  rw[<- vQ];exact QV (pre:=jK) (res:=Zk) (EG C8 K4) (Bh b Lw (by omega)))) (Bh .un .un (λl hl=>by cases hl)) ?_ ?_)
 .rintro L' k l ss hL hk ⟨v3,v4,rfl,hno⟩;refine(Ar (Sq rfl (DQ (DQ Sh))) Eh);have hl:l∈tpF b Lw:=KD hk;obtain⟨h1,h2⟩:=Zm b l hl;refine LC (b:=samB b l) (by
   rw[<- hsame l hl];exact Lh (qJ (Wo (k:=encS l.1) (d:=encN (plAt AV l.1)) Ax (Mx (d:=encS l.1) rfl).b rfl (hv l.1 h1)).b (Wo (k:=encS l.2) (d:=encN (plAt AV l.2)) Ax (Mx (d:=encS l.2) rfl).b rfl (hv l.2 h2)).b)) (λhs=>?_) (λhs=>Mj (hN _ (Bh _ _ (λx hx=>?_))))
  .have hbad:Pj b≠[]:=λz=>by
    have:l∈Pj b:=Li.mpr ⟨hl,hs⟩;rw[z] at this;cases this
   have hhead:Cw (Pj b).head? l:=by
    unfold Pj;rw[Zvg,Zq8];have hkl:=Mg.mp hk;refine⟨hs,(tpF b Lw).take k,(tpF b Lw).drop (k+1),?_,λx hx=>by rw[hno x hx];rfl⟩;have:=Ue k (tpF b Lw);rw[Vx hkl.1,hkl.2] at this;exact this.symm
   have hlab:=of_decide_eq_true hs;have h1s:AB l.1 1000:=by
    obtain⟨f,hf,e⟩:=Kr.mp hl;rw[<- e];exact(hsb f (Li.mp hf).1).1
   have ask:∀d,vX [BK,encS l.1,encS l.2] d-> ∃ch,d= .lst (ch.map encS)/\ChF b l ch:=λd hd=>by
    obtain⟨R,par,lev,W,hr⟩:=hd b l.1 l.2 rfl;rcases hr with ⟨z,_⟩ | ⟨z,ch,e,hc⟩;.exact absurd (W.label.mpr hlab) z
    .exact⟨ch,e,R,par,lev,W,z,hc⟩
   refine zxj (S1:=vX [BK,encS l.1,encS l.2]) Z.iY.cls (yb9 (pre:=yid) (R:=vX) (ds:=[BK,encS l.1,encS l.2]) (DV DF) (Bj b l.1 l.2 hb)) (λd hd=>?_) (λdx v d F H' hd x1 x2 x3=>?_)
   .obtain⟨ch,e,R,par,lev,W,z,hc⟩:=ask d hd;refine⟨ch,e,?_,yae hsb h1s hc⟩;have q1:=W.bfs.bnd l.2 z;have q2:=W.len;rw[hc.len];omega
   .refine rx hbad dx v d F H' (λb' e=>?_) x1 x2 x3;injection e with e;have e:=zrr e;subst e;obtain⟨ch,e,hch⟩:=ask d hd;exact⟨l,ch,hhead,e,hch⟩
  .rw[N7,hk] at hx;rcases K9.mp hx with hx | hx;.exact hno x hx
   .have:x=l:=by simpa using hx
    rw[this];exact hs
 rintro ss ⟨v3,v4,rfl,hno⟩;rw[NB] at hno;((try dsimp only);refine Al);have hnb:¬ Pj b≠[]:=λz=>z (lQ.mpr λl hl=>by rw[hno l hl];simp);exact MP Ax (rt hnb)
theorem SJ{c:Ae}{cs:Aj}:encS c∈cs.map encS↔c∈cs :=
 ⟨λh=>by obtain⟨g,hg,e⟩:=Kr.mp h;rw[<- M9 _ _ e];exact hg,λh=>Ny h⟩
noncomputable def QZ(a b:Aj):Bool:=a.any λx=>Bg C6 (b.map encS)
theorem Zn{a b:Aj}:Aa (QZ a b) ↔ ∃x,x∈a/\x∈b:=by
 unfold QZ;rw[Pk];constructor;.rintro⟨x,hx,h⟩;exact⟨x,hx,SJ.mp (of_decide_eq_true h)⟩
 .rintro⟨x,hx,h⟩;exact⟨x,hx,decide_eq_true (SJ.mpr h)⟩
theorem zx8{a b a' b':Aj}(h1:∀x,x∈a↔x∈a')(h2:∀x,x∈b↔x∈b'):QZ a b=QZ a' b':=by
 rw[LK,Zn,Zn];simp only[h1,h2]
theorem zxy(a b:Aj):QZ a b=QZ b a:=by
 rw[LK,Zn,Zn];exact⟨λ⟨x,h1,h2⟩=>⟨x,h2,h1⟩,λ⟨x,h1,h2⟩=>⟨x,h2,h1⟩⟩
noncomputable def yjv(ds:Ac):Prop:=∃a b:Aj,ds=[.lst Fb,.lst (b.map encS)]/\BI (a.length+b.length)
noncomputable def wG:Ac->D
 | [.lst a,.lst b]=>.bl (QZ (a.map unS) (b.map unS))
 | _=>.non
theorem zpc(a b:Aj):wG [.lst Fb,.lst (b.map encS)]= .bl (QZ a b):=by
 show D.bl (QZ ((Fb).map unS) ((b.map encS).map unS))=_;rw[jJ,jJ]
theorem hkE(a:Aj):∀d∈Fb,Ci true:=by
 intro d hd;obtain⟨l,_,rfl⟩:=Kr.mp hd;rfl
theorem yan(Z:B4 K):FnOk P w K mg base CX0 1 ad0.fO ad0.iB dF (SpD K yjv wG):=by
 refine okD Z.uT.F yaz (by rintro ds ⟨c,d,rfl,_⟩;rfl) (CN _ (BA (aP yk3 (Bz (show Om _ _ (yfo P w K true) from ya7) Z.QW R0 (CO (Ly (show OpR _ _ (bM P w K true mAnd) from yff hr.units) (Tz (Fg _ _ (U6 P w K true) (Yy rfl hr.units)) (by rfl) Z.Vj Xk (Bq 0)) (Tz (Fg _ _ (U6 P w K true) (Yy rfl hr.units)) (by rfl) Z.Vj Xk (Bq 1))))) Lg (Zv _))) Ep);obtain⟨a,b,rfl,hl⟩:=hp;rw[zpc] at rt;have hm:∀d,d∈(Fb).filter (λd=>Bg d (b.map encS))↔d∈Fb/\d∈b.map encS:=λd=>by rw[Li,decide_eq_true_eq]
 have e:AF (0:Int) ((ded ((Fb).filter λd=>Bg d (b.map encS))).length:Nat)=QZ a b:=by
  rw[LK,decide_eq_true_eq,Zn];constructor
  .intro h;obtain⟨d,hd⟩:=List.exists_mem_of_length_pos (l:=ded ((Fb).filter λd=>Bg d (b.map encS))) (by omega);obtain⟨h1,h2⟩:=(hm d).mp (Qk.mp hd);obtain⟨x,hx,rfl⟩:=Kr.mp h1;exact⟨x,hx,SJ.mp h2⟩
  .rintro⟨x,h1,h2⟩;have:C6∈ded ((Fb).filter λd=>Bg d (b.map encS)):=Qk.mpr ((hm _).mpr ⟨Ny h1,Ny h2⟩);have:=lL this;omega
 rw[<- e] at rt;refine MP (yk0 (zy2 (f:=true) (ded ((Fb).filter λd=>Bg d (b.map encS))) (yg9 (dr:=(Fb).filter λd=>Bg d (b.map encS)) (Yz CD (hkE a) (by rw[Kg];omega)) (Yz CD (hkE b) (by rw[Kg];omega)) (hkE a) (hkE b) (by rw[Kg,Kg];omega) hm) (λd hd=>hkE a d ((hm d).mp hd).1) (U7 _) λd=>Qk).b Ky.b) rt
noncomputable def txF(b:Ag)(c f:Ae):Aj:=(b.filter λx=>An x.1 c&&An x.2.1 f).map λx=>x.2.2
noncomputable def srtS(a:Aj):Aj:=(La Fb).map unS
theorem zns(a:Aj):B6 (srtS a)=La Fb:=yeq λd hd=>by obtain⟨x,_,rfl⟩:=Kr.mp ((Mw _).mem_iff.mp hd);exact⟨_,rfl⟩
theorem ztf(a:Aj)(x:Ae):x∈srtS a↔x∈a:=by rw[<- SJ,zns,(Mw _).mem_iff,SJ]
theorem zt6(a:Aj):CJ (srtS a) a.length:=by unfold srtS;rw[Kg,(Mw _).length_eq,Kg]
theorem zrl(b:Ag)(c f:Ae):AB (txF b c f) b.length:=by unfold txF;rw[Kg];exact RK ..
noncomputable def ygr(ds:Ac):Prop:=∃(b:Ag) (c f:Ae),ds=[BK,encS c,encS f]/\Ei 60
noncomputable def wH:Ac->Ac
 | [.lst b,.str c,.str f]=>B6 (srtS (txF (b.map unF) c f))
 | _=>[]
theorem zk0(b:Ag)(c f:Ae):wH [BK,encS c,encS f]=B6 (srtS (txF b c f)):=by
 show B6 (srtS (txF ((Fc).map unF) c f))=_;rw[Rx]
theorem yi1{K:Kd}{b:Ag}{c f:Ae}:B6 (txF b c f)=(b.filter λx=>An x.1 c&&An x.2.1 f).map λx=>D.str x.2.2:=by unfold txF;rw[Lf];rfl
theorem zsi(Z:B4 K):FnOk P w K mg base CX0 1 ad0.fB ad0.gM cO (SpO K ygr wH):=by
 refine okO Z.jB.F zr3 (by rintro ds ⟨c,a,b,rfl,_⟩;rfl) (CN _ (BA (Bz (show Om _ _ (YF K) from sW) Z.QX RX (CO (FP rfl (LcOk.of (Nx:=(AO ["book", "card", "field"])) (sc:=KZ cM) (N':=(AO ["fact", "card", "field"])) (nt:=1) (cs:=[1,2]) rfl rfl (by decide +kernel)) (Dj 0) (Fm 0 (Lq (AO ["fact", "card", "field"])) rfl CT) (Wf (PW.pt (pO (CH Pb (Bt _ K 0) (pv 1) _) (pN (CH Pb (Bt _ K 0) (pv 2) _))))) (Bt _ K 0))))) Ep);obtain⟨b,c,f,rfl,hb⟩:=hp;rw[zk0,zns] at rt;refine UV (sX (EvO.l ?_) (alS λd hd=>by obtain⟨x,_,rfl⟩:=Kr.mp hd;exact⟨_,rfl⟩) (by rw[Kg];have:=zrl b c f;omega)) rt;rw[yi1 (K:=K)];exact U0 b encF (λx=>An x.1 c&&An x.2.1 f) (λx=>.str x.2.2) CD DX (by decide) (by rw[K3];omega) λx hx=>⟨_,Ls,qM (Lh (QR (DO rfl).b Ao)) λ_=>Lh (QR (DO rfl).b Ao),λ_=>DO rfl⟩
noncomputable def fld(w:Int)(f:Ae):Bf V:=[("weight", .int w),("field", Dc f)]
noncomputable def wI(fs:Bf V):Ae:=match fs.lookup ("field" : Str) with | some (.str z)=>z.cps.toList | _=>[]
theorem ykj{k:Str}{v:V}{r:Bf V}:Ab (Nj k ((k,v)::r)) v:=by simp[Nj]
theorem zrk{k a:Str}{v:V}{r:Bf V}(h:Be k a):Nj k ((a,v)::r)=Nj k r:=by simp only[Nj,h]
theorem zmj(w:Int)(f:Ae):Ab ((fld w f).lookup ("field" : Str)) (Dc f):=(zrk (by decide +kernel)).trans ykj
theorem ygj(w:Int)(f:Ae){m:Str}(h1:Be m ("weight" : Str))(h2:Be m ("field" : Str)):(fld w f).lookup m=none:=(zrk h1).trans ((zrk h2).trans rfl)
theorem zxr(w:Int)(f:Ae):wI (fld w f)=f:=by
 unfold wI;rw[zmj];exact R9 f
theorem zpd(Z:B4 K):FnOk P w K mg base CX0 1 ad0.WF ad0.WP ["self", "weight", "field"] (zzu ad0.Lb "weight" "field"):=by
 refine Z.Zd9.ok zq2 (λvs H Q E h=>by obtain⟨x,dx,u,v,rfl,_⟩:=h;rfl) (Gs (Kl (yeb (pv 0) (pv 1) (by rfl))
   (Le (yeb (pv 0) (pv 2) (by rfl)))) ?_);obtain⟨x,dx,u,v,rfl,hx,hd,q⟩:=h;refine⟨_,rfl,_,rfl,x,ad0.Lb,dx,[],rfl,hx,Z.Ua,Z.uI,by decide,?_⟩;refine⟨_,rfl,_,rfl,x,ad0.Lb,dx,[("weight", u)],rfl,Ku,Z.Ua,Z.iZ,(show 1<1000 by decide),?_⟩;rw[upd2];exact q
noncomputable def yio(fs:Bf V)(ds:Ac):Prop:=∃a b:Aj,ds=[.lst Fb,.lst (b.map encS)]/\a.length<=60/\Ei 60
noncomputable def yd7(fs:Bf V)(ds:Ac):D:=wG ds
theorem zu9(Z:B4 K):FnOk P w K mg base CX0 2 ad0.WL ad0.WR ["self", "texts", "others"] (SpI K ad0.Lb yio yd7):=by
 have Zgt:=yan (P:=P) (w:=w) (base:=base) Z;refine Z.Zcl.ok zi2 (λvs H Q E h=>YC (n:=3) (by rintro fs ds ⟨c,d,rfl,_⟩;rfl) h) (Gs (BA (BC Zgt Z.uT (Dp 1 2))) ?_);refine zz3 h (by rw[YC (n:=3) (by rintro fs ds ⟨c,d,rfl,_⟩;rfl) h];decide) λG ds x dx fs hp rt=>?_;obtain⟨a,b,rfl,l1,l2⟩:=hp;exact MP (Sg (pre:=yjv) (res:=wG) (DV K4) (Bh a b (by omega))) rt
noncomputable def wJ(fs:Bf V)(ds:Ac):Prop:=∃(w:Int) (f:Ae) (b:Ag) (x y:Ae),fs=fld w f/\ds=[BK,C6,encS y]/\Ei 60 /\ ∀c∈f,c<128
noncomputable def sayS(b:Ag)(f x y:Ae):Bool:=QZ (txF b x f) (txF b y f)
noncomputable def wK(fs:Bf V):Ac->D
 | [.lst b,.str x,.str y]=>.bl (sayS (b.map unF) (wI fs) x y)
 | _=>.non
theorem zmy(w:Int)(f:Ae)(b:Ag)(x y:Ae):wK (fld w f) [BK,C6,encS y]= .bl (sayS b f x y):=by
 show D.bl (sayS ((Fc).map unF) (wI (fld w f)) x y)=_;rw[Rx,zxr]
theorem zmf(Z:B4 K):FnOk P w K mg base CX0 3 ad0.WK ad0.WQ ["self", "book", "one", "other"] (SpI K ad0.Lb wJ wK):=by
 have Ze0:=zsi (P:=P) (w:=w) (base:=base) Z;have Zef:=zu9 (P:=P) (w:=w) (base:=base) Z;refine Z.Zdp.ok zl7 (λvs H Q E h=>YC (n:=4) (by rintro fs ds ⟨w,f,b,x,y,rfl,rfl,_⟩;rfl) h) (Gs (BA (ygv (C:=ad0.Lb) (pv 0) Z.Ua Z.Zb4 Zef GG Z.Zco .nil Yh (CS (BC Ze0 Z.jB (E3 1 (C5 2 (qC (pv 0) (by rfl))))) (BC Ze0 Z.jB (E3 1 (C5 3 (qC (pv 0) (by rfl)))))))) ?_);refine zz3 h (by rw[YC (n:=4) (by rintro fs ds ⟨w,f,b,x,y,rfl,rfl,_⟩;rfl) h];decide) λG ds xx dx fs hp rt=>?_;obtain⟨wt,f,b,x,y,rfl,rfl,hb,hf⟩:=hp;have e:sayS b f x y=QZ (srtS (txF b x f)) (srtS (txF b y f)):=zx8 (λz=>(ztf _ _).symm) λz=>(ztf _ _).symm;rw[zmy,e,<- zpc] at rt;have l1:=zrl b x f;have l2:=zrl b y f;have hfl:∀{L0:Hp},Ev K G H L0 [isl xx ad0.Lb dx (fld wt f),C3,C9 x,C9 y] (tFld K (tVar 0) "field") (encS f):=yi6 rfl Z.Ua Z.iZ (zmj wt f) λF=>Rep.str hf;refine MP (ycy (pre:=yio) (res:=yd7) (ds:=[.lst (B6 (srtS (txF b x f))),.lst (B6 (srtS (txF b y f)))]) rfl (ygj wt f (by decide +kernel) (by decide +kernel)) (Dy (EvO.ev ?_) (EvO.ev ?_) K4) (BH _ _ (by rw[zt6];omega) (by rw[zt6];omega))) rt
 .rw[<- zk0];exact QV (pre:=ygr) (res:=wH) (ds:=[BK,C6,encS f]) (DV (Fx hfl)) (Bj b x f (by omega))
 .rw[<- zk0];exact QV (pre:=ygr) (res:=wH) (ds:=[BK,encS y,encS f]) (DV (Fx hfl)) (Bj b y f (by omega))
noncomputable def Q0:Ae:=(EF "same")
noncomputable def yg1(fs:Bf V)(ds:Ac):Prop:=ds=[]
theorem zo1(Z:B4 K):FnOk P w K mg base CX0 1 ad0.WM ad0.WT ["self"] (SpI K ad0.Lb yg1 λ_ _=>.str Q0):=by
 refine Z.Zcp.ok zi6 (λvs H Q E h=>YC (n:=1) (by rintro fs ds rfl;rfl) h) (Gs (BA Mf) ?_);refine zz3 h (by rw[YC (n:=1) (by rintro fs ds rfl;rfl) h];decide) λG ds xx dx fs hp rt=>?_;exact MP (wY (by decide +kernel)) rt
theorem W6(a v:D)(r:DD)(k:D):valD ((a,v)::r) k=AR a k (some v) (valD r k):=by
 unfold valD;rw[PJ];by_cases h:a=k <;> simp[h]
theorem zu5(k d k':D):∀kvs:DD,valD (kvs.map λkv=>if kv.1=k then (kv.1,d) else kv) k'=AR k k' (if Aa (kvs.any (D9 kv.1 k)) then some d else none) (DL k')
 | []=>by simp[valD]
 | (a,v)::r=>by
  have ih:=zu5 k d k' r;rw[Kq,RV];by_cases h:a=k
  .subst h;rw[BR,W6,W6,ih];by_cases h2:a=k';.rw[if_pos h2,if_pos h2,Gg,Zyq,BR]
   .rw[if_neg h2,if_neg h2,if_neg h2,if_neg h2]
  .rw[if_neg h,W6,W6,ih,GH,Zxq];by_cases h2:a=k';.rw[if_pos h2,if_pos h2,if_neg (λz=>h (h2.trans z.symm))]
   .rw[if_neg h2,if_neg h2]
theorem zt0(k d k':D):∀kvs:DD,AL (kvs.any (D9 kv.1 k))->valD (kvs++[(k,d)]) k'=AR k k' (some d) (DL k')
 | [],_=>by rw[xY,W6]
 | (a,v)::r,h=>by
  rw[RV,Bool.or_eq_false_iff] at h;have ih:=zt0 k d k' r h.2;have hak:=of_decide_eq_false h.1;rw[List.cons_append,W6,W6,ih];by_cases h2:a=k';.rw[if_pos h2,if_pos h2,if_neg (λz=>hak (h2.trans z.symm))]
  .rw[if_neg h2,if_neg h2]
theorem ztw(kvs:DD)(k d k':D):valD (putD kvs k d) k'=AR k k' (some d) (DL k'):=by
 unfold putD;by_cases h:Aa (kvs.any (D9 kv.1 k));.rw[if_pos h,zu5,if_pos h]
 .rw[if_neg h];exact zt0 k d k' kvs (Zvs.mpr h)
noncomputable abbrev Rl:=Ae×Int
noncomputable def insR(c1:Addr)(r:Rl):D:=.ins c1 ["weight", "field"] [.int r.2,.str r.1]
noncomputable def totR(rs:Ch)(b:Ag)(x y:Ae):Int:=rs.foldl (λt r=>if Aa (sayS b r.1 x y) then t+r.2 else t) 0
theorem zoz(rs:Ch)(b:Ag)(x y:Ae)(k:Nat)(r:Rl)(hk:AM rs k r):totR (rs.take (k+1)) b x y=Ds (sayS b r.1 x y) (totR (rs.take k) b x y+r.2) (totR (rs.take k) b x y):=by
 unfold totR;rw[N7,hk,Vz];rfl
noncomputable def yh3(c1:Addr)(q:Ch×Ag×Ae×Ae)(ds:Ac):Prop:=ds=[.lst (q.1.map (insR c1)),bkD B8,encS (B3).1,encS (B3).2]/\AB q.1 20/\(∀r∈q.1,∀c∈r.1,c<128)/\AB B8 60
noncomputable def wL(q:Ch×Ag×Ae×Ae):D:=.int (totR q.1 B8 (B3).1 (B3).2)
section
variable{G Hz L:Hp}{ss:List Sl}{ta:TE}{t:TA}{r:Rl}
theorem ygx(c1:Addr)(a:Ay ta (insR c1 r)) :
  Ay (bV [(c1,SpI K c1 yg1 λ_ _=>.str Q0)] "sort_word" E0 ta tNil) (.str Q0) :=
 zss (pre:=yg1) (res:=λ_ _=>.str Q0) (ds:=[]) a (by simp) (by decide +kernel) (by decide +kernel) K4 rfl
theorem ybg(c1:Addr){b:Ag}{x y:Ae}(hf:∀c∈r.1,c<128)(hb:Ei 60)(a:Ay ta (insR c1 r))(q:EvAF K G Hz L ss t [BK,C6,encS y]) :
  Cc (bV [(c1,SpI K c1 wJ wK)] "speaks" E0 ta t) (sayS b r.1 x y):=by
 obtain⟨f,wt⟩:=r;have hp:wJ (fld wt f) [BK,C6,encS y]:=⟨wt,f,b,x,y,rfl,rfl,hb,hf⟩;have e:=zmy wt f b x y;show Ev _ _ _ _ _ _ (.bl (sayS b f x y));rw[<- e];exact zss (pre:=wJ) (res:=wK) a (by simp) (by decide +kernel) (by decide +kernel) q hp
end
theorem zpx(Z:B4 K):FnOk P w K mg base CX0 4 ad0.fD ad0.gP cU (SpG K (yh3 ad0.Lb) wL):=by
 have Zec:=zo1 (P:=P) (w:=w) (base:=base) Z;have Zeo:=zmf (P:=P) (w:=w) (base:=base) Z;refine Gr Z.uN.F YS (CN _ (Kl (psn 4 YS.nd zuk)
   (Kl (psn 5 YS.nd Lg)
   (Kl (DI Lx (Dj 0) 6 YS.nd (Kl (psn 7 YS.nd (Qe (CS (yat (pv 6) (ztu Z.Ua Z.Zb5 Zec GG Z.Zcr yar) Yh) (qC (pv 6) (by rfl)))))
   (Kl (Gj (zyd (zld CZ (pv 7) (pv 4)) (by with_unfolding_all rfl)) (Le (Ys CZ (pv 4) (pv 7) (ycs (pv 6) (ztu Z.Ua Z.Zdc Zeo GG Z.Zdo yar) Yh (E3 1 (Dp 2 3))) rfl)))
   (En (QL (Qh CZ (pv 4) (pv 7) Cy)) (Le (psn 5 YS.nd (Ly Od (pv 5) (qC (pv 6) (by rfl)))))))))
   (BA (pv 5))))) FW);obtain⟨rs,b,x,y⟩:=q;obtain⟨rfl,hl,hrs,hb⟩:=hp;have hl:rs.length<=20:=hl;have hb:Ei 60:=hb;have rt:RtD K G H Q (.int (totR rs b x y)):=rt;refine Kp (ztk DM);((try dsimp only);refine Al);refine Dr (.int 0) Ky ?_;((try dsimp only);refine Al);refine Kp (Nt FN rs (λk ss=>∃(kvs:DD) (v6 v7:Sl),ss=[Fa FN,C3,C9 x,C9 y,dslT K p kvs,A3 (totR (rs.take k) b x y),v6,v7]/\kvs.length<=k /\ ∀f v,Ab (DL (.tup [.str Q0,.str f])) v->v= .bl (sayS b f x y)) Ax ⟨[],.un,.un,rfl,Az,λ_ _ h=>by cases h⟩ ?_ ?_)
 .rintro L' k r ss hL hk ⟨kvs,v6,v7,rfl,hkl,hin⟩;refine(Ar Ls Eh);have hfa:=hrs r (KD hk);have hk20:k<rs.length:=(BS hk);have hc:Cls K ad0.Lb/\Ov K ad0.Lb "weight" /\ Ov K ad0.Lb "field" := ⟨Z.Ua,Z.uI,Z.iZ⟩;have hm:=zoz rs b x y k r hk;refine Kp (zz1 (i:=7) (ds:=[.str Q0,.str r.1]) (Dy (ygx ad0.Lb Ax) (zyo Ax hc.1 hc.2.2 (.inr (By (by decide +kernel) rfl))) K4) ER λb7=>?_);((try dsimp only);refine Al);refine qO (λss=>∃kvs':DD,ss=[Fa FN,C3,C9 x,C9 y,dslT K p kvs',A3 (totR (rs.take k) b x y),.d (insR ad0.Lb r),tsl K b7 [.str Q0,.str r.1]]/\kvs'.length<=k+1/\(∀f v,Ab (valD kvs' (.tup [.str Q0,.str f])) v->v= .bl (sayS b f x y))/\Ab (valD kvs' (.tup [.str Q0,.str r.1])) (.bl (sayS b r.1 x y))) (λN2 hN2=>LC (Lh (zvq rfl rfl rfl)) Dt Dt) ?_
  .refine yc1 rfl rfl rfl (ybg ad0.Lb hfa hb Ax (DV DF)) (by rw[K3];omega) (hN2 _ ⟨_,rfl,?_,λf v hv=>?_,?_⟩);.exact Nk (yb7 _ _ _) (by omega)
   .rw[ztw] at hv;split at hv
    .rename_i e;injection hv with hv;injection e with e;injection e with e1 e2;injection e1 with e1;injection e2 with e2 _;injection e2 with e2;rw[<- hv,e2]
    .exact hin f v hv
   .rw[ztw,BR]
  .refine Mj (hN2 _ ⟨kvs,rfl,by omega,hin,?_⟩);cases z:valD kvs (.tup [.str Q0,.str r.1]) with
   | none=>rw[z] at h;cases h
   | some v=>rw[hin _ _ z]
  rintro ss ⟨kvs',rfl,hkl',hin',hv'⟩;refine LC (Qg (ycm rfl rfl rfl hv')) Dt Dt
  .refine NP (d:=.int (totR (rs.take k) b x y+r.2)) (Og Ao (zyo Ax hc.1 hc.2.1 (.inl De)).b) (hN _ ⟨kvs',.d (insR ad0.Lb r),tsl K b7 [.str Q0,.str r.1],?_,hkl',hin'⟩);rw[hm,if_pos h];rfl
  .refine Mj (hN _ ⟨kvs',.d (insR ad0.Lb r),tsl K b7 [.str Q0,.str r.1],?_,hkl',hin'⟩);rw[hm,if_neg (by rw[h];decide)]
 rintro ss ⟨kvs,v6,v7,rfl,_,_⟩;((try dsimp only);refine Al);rw[NB];exact MP Ax rt
noncomputable def fcF(b:Ag)(x:Ae):Ag:=b.filter λf=>An f.1 x
noncomputable def fbG(b:Ag):CM D Ac:=b.foldl (λg f=>appD g DR (encF f)) []
theorem wM(b:Ag)(f:Fct):fbG (b++[f])=appD (fbG b) DR (encF f):=by
 unfold fbG;rw[Vz];rfl
theorem yk2(b:Ag)(x:Ae):lkD (fbG b) C6=(fcF b x).map encF:=by
 unfold fcF;induction b using Ph with
 | h0=>rfl
 | hs b f ih =>
  rw[wM,yeg,RL];by_cases h:f.1=x
  .subst h;rw[BR,ih,QB (by simp),RP,LQ];rfl
  .rw[if_neg λz=>h (M9 _ _ z),ih,O5 (by simp[h]),RP,LR]
noncomputable def fbD(b:Ag):DD:=(fbG b).map λq=>(q.1,D.lst q.2)
theorem yex(b:Ag)(x:Ae):(valD (fbD b) C6).getD (.lst [])=bkD (fcF b x):=by
 unfold bkD;rw[<- yk2];unfold valD fbD lkD;rw[Zw4];show(mL _ (mL _ (mJ (λq:D×List D=>An q.1 C6) (fbG b)))).getD _=_;cases mJ (λq:D×List D=>decide (q.1=encS x)) (fbG b) <;> rfl
theorem yhu(b:Ag):AB (fbG b) b.length:=by
 induction b using Ph with
 | h0=>exact Az
 | hs b f ih =>
  rw[wM,K8,Oz];have h1:=vV (fbG b) DR (encF f);omega
theorem ydn(b:Ag):∀q∈fbG b,AB q.2 b.length:=by
 induction b using Ph with
 | h0=>intro q hq;cases hq
 | hs b f ih =>
  rw[wM,K8,Oz];exact vW ih
noncomputable def yhl:Ac->D
 | [.lst b]=>D.dic (fbD (b.map unF))
 | _=>.non
theorem zqb(b:Ag):yhl [BK]=D.dic (fbD b):=by
 show D.dic (fbD ((Fc).map unF))=_;rw[Rx]
theorem zjx(Z:B4 K):FnOk P w K mg base CX0 1 ad0.fG ad0.gQ cV (SpD K vU yhl):=by
 refine okD Z.uO.F zd5 (by rintro ds ⟨c,rfl,_⟩;rfl) (CN _ (Kl (psn 1 zd5.nd bC)
   (Kl (DI Lx (Dj 0) 2 zd5.nd (Le (O2 (Oe O9 P0 Qt Qf (Oe aA oZ oY rY (pv 1) (CS (Bt _ K 2) (MK Oj))) (Bq 2)))))
   (BA (pv 1)))) Ep);obtain⟨b,rfl,hbl⟩:=hp;rw[zqb] at rt;have hz:∀{n:Nat},n<=10000->Dk n:=λh=>by rw[K3];omega
 refine Kp (znn DM);((try dsimp only);refine Al);refine Kp (Nt encF b (λk ss=>∃(kqs:KQ) (v:Sl),ss=[C3,dls K p kqs,v]/\kqs.map dat=fbG Db) Ax (Bh [] _ rfl) ?_ ?_)
 .rintro L' k f ss hL hk ⟨kqs,v,rfl,hq⟩;refine(Ar Ls Eh);have et:b.take (k+1)=Db++[f]:=by rw[N7,hk];rfl
  have hkl:=(BS hk);have htl:AB Db 300:=by rw[O6];omega
  have hgl:=yhu Db;have hgi:=ydn Db;have hkq:kqs.length<=(Db).length:=by rw[<- hq,Kg] at hgl;exact hgl
  have hki:∀z∈kqs,AB z.2.2 (Db).length:=λz hz=>by
   have:dat z∈fbG Db:=by rw[<- hq];exact Ny hz
   exact hgi _ this
  refine sE (i:=1) (k:=DR) (d:=encF f) rfl (DO rfl).b rfl (λkqs'=>Ax) (hz (by omega)) (λz hzm=>hz (by have:=hki z hzm;omega)) λkq1 he1=>hN _ (Bh kq1 _ ?_);rw[he1,hq,et,wM]
 rintro ss ⟨kqs,v,rfl,hq⟩;rw[NB] at hq;refine zmp (i:=1) rfl ?_;refine sG (i:=1) rfl ?_;((try dsimp only);refine Al);have e:kqs.map frzL=fbD b:=by
  unfold fbD;rw[<- hq,Lf];rfl
 rw[<- e] at rt;exact MP Ax rt
noncomputable def wtW(rs:Ch)(b:Ag)(x y:Ae):Int:=totR rs (fcF b x++fcF b y) x y
noncomputable abbrev Wt:=Ae×Ae×Int
noncomputable def encW(t:Wt):D:=.tup [.str t.1,.str t.2.1,.int t.2.2]
noncomputable def innW(rs:Ch)(b:Ag)(x:Ae)(ys:Aj):List Wt:=(ys.filter λy=>! An (wtW rs b x y) 0).map λy=>(x,y,wtW rs b x y)
noncomputable def wtsK(rs:Ch)(b:Ag)(cs:Aj)(k:Nat):List Wt:=(K6 k).flatMap λi=>innW rs b (cs.getD i []) (cs.drop (i+1))
theorem ztn(rs:Ch)(b:Ag)(x:Ae)(ys:Aj):AB (innW rs b x ys) ys.length:=by unfold innW;rw[Kg];exact RK ..
theorem znz(rs:Ch)(b:Ag)(cs:Aj):∀k,AB (wtsK rs b cs k) (k*cs.length)
 | 0=>by unfold wtsK;simp
 | k+1=>by
  have ih:=znz rs b cs k;have h:=ztn rs b (cs.getD k []) (cs.drop (k+1));rw[VB] at h;have e:wtsK rs b cs (k+1)=wtsK rs b cs k++innW rs b (cs.getD k []) (cs.drop (k+1)):=by unfold wtsK;rw[SX,ZC,lM]
  rw[e,K8,yK];omega
noncomputable def ykk(c1:Addr)(q:Ch×Ag)(ds:Ac):Prop:=ds=[.lst (q.1.map (insR c1)),bkD q.2]/\AB q.1 20/\(∀r∈q.1,∀c∈r.1,c<128)/\AB q.2 60/\(ded (nmD q.2)).length<64
noncomputable def yj5(q:Ch×Ag):Ac:=(wtsK q.1 q.2 (cardsL q.2) (cardsL q.2).length).map encW
theorem yjy(b:Ag){x y:Ae}(h:x≠y):AB (fcF b x++fcF b y) b.length:=by
 unfold fcF;rw[K8];induction b with
 | nil=>simp
 | cons f r ih =>
  by_cases h1:f.1=x
  .have h2:¬ f.1=y:=λz=>h (h1.symm.trans z);rw[QB (by simp[h1]),O5 (by simp[h2]),Mt,Mt];omega
  .by_cases h2:f.1=y;.rw[O5 (by simp[h1]),QB (by simp[h2]),Mt,Mt];omega
   .rw[O5 (by simp[h1]),O5 (by simp[h2]),Mt];omega
theorem ycl{α:Type}{xs:AK}(h:xs.Nodup){k j:Nat}{x y:α}(hk:AM xs k x)(hj:AQ (xs.drop (k+1)) y):x≠y:=λe=>by
 rw[Xc] at hj;subst e;exact vN h hj (KD (i:=k) (by rw[lH (by omega)];exact hk))
theorem zn2(Z:B4 K):FnOk P w K mg base CX0 5 ad0.fH ad0.gR cW (SpGO K (ykk ad0.Lb) yj5):=by
 have Zei:=zly (P:=P) (w:=w) (base:=base) Z;have Ze5:=zjx (P:=P) (w:=w) (base:=base) Z;have Zf1:=zpx (P:=P) (w:=w) (base:=base) Z;refine okGO Z.uP.F Va (by rintro q ds ⟨rfl,_⟩;rfl) (CN _ (Kl (psn 2 Va.nd (BC Zei Z.jA (Bq 1)))
   (Kl (psn 3 Va.nd (BC Ze5 Z.uO (Bq 1)))
   (Kl (psn 4 Va.nd (MK Oj))
   (Kl (Gw Lx (zjo (by rfl) Z.vD (Bq 2)) (R6 rfl (Nq (pgn 5 Va.nd) (Nq (pgn 6 Va.nd) R5))) (Le (DI Lx (Qm (UG Yg (pv 2) (R8 (Cq Od (pv 5))) Ye)) 7 Va.nd (Kl (psn 8 Va.nd (BC Zf1 Z.uN (E3 0 (Ng (Ly (show OpR _ _ (Wn K) from bO) (rF CZ (pv 3) (pv 6) (MK Oj) ⟨by rfl,by rfl,by rfl,by rfl⟩) (rF CZ (pv 3) (pv 7) (MK Oj) ⟨by rfl,by rfl,by rfl,by rfl⟩)) (Dp 6 7)))))
   (En (CH We (pv 8) Lg _) (Le (O2 (Oe O9 P0 Qt Qf (pv 4) (CO (Qe (E3 6 (Dp 7 8))))))))))))
   (BA (pv 4)))))) FW);obtain⟨rs,b⟩:=q;obtain⟨rfl,hl,hrs,hb,h64⟩:=hp;have hb:Ei 60:=hb;have rt:RtO K G H Q ((wtsK rs b BO (BO).length).map encW):=rt;refine Kp (MN (ds:=B6 BO) (by rw[Zi,<- zir];exact QV (pre:=vL) (res:=jH) (ds:=[BK]) DF ⟨b,rfl,by omega,h64⟩) λpc=>Rn (i:=2) rfl ?_);((try dsimp only);refine Al);refine Dr (D.dic (fbD b)) (by rw[<- zqb];exact Sg (pre:=vU) (res:=yhl) (ds:=[BK]) DF (By b (by omega))) ?_;((try dsimp only);refine Al);have hcl:=vP b;have hnd:=Vk b;generalize cardsL b=cs at hcl hnd rt;refine Kp (MN (NK K4 E6) DM);((try dsimp only);refine Al);refine Kp (zzj encS cs (λk ss=>∃v5 v6 v7 v8:Sl,ss=[Fa FN,C3,BE (cs.map encS),.d (D.dic (fbD b)),.o p ((wtsK rs b cs k).map encW),v5,v6,v7,v8]) Ax ⟨.un,.un,.un,.un,rfl⟩ ?_ ?_)
 .rintro L' k x ss hL hk ⟨v5,v6,v7,v8,rfl⟩;refine(Ar (Sq rfl (DQ (DQ Sh))) Eh);have hkl:=(BS hk);have hwl:=znz rs b cs k;have hwb:AB (wtsK rs b cs k) 14400:=Nk hwl (ZJ (show k<=120 by omega) (show cs.length<=120 by omega));have hdl:AB (cs.drop (k+1)) 120:=by rw[VB];omega
  have ec:cutD (cs.map encS) (some ((k:Int)+1)) none=B6 (cs.drop (k+1)):=by rw[zk9 _ (by omega),show((k:Int)+1).toNat=k+1 by omega,xZ]
  have ek:wtsK rs b cs (k+1)=wtsK rs b cs k++innW rs b x (cs.drop (k+1)):=by
   unfold wtsK;rw[SX,ZC,lM,Kz,hk];rfl
  refine Nt encS (cs.drop (k+1)) (λj ss=>∃v7 v8:Sl,ss=[Fa FN,C3,BE (cs.map encS),.d (D.dic (fbD b)),.o p ((wtsK rs b cs k++innW rs b x ((cs.drop (k+1)).take j)).map encW),A3 k,C9 x,v7,v8]) (by rw[<- ec];exact EvO.ev (Yp (Mx rfl).l (Ss (Og (Mx rfl).b Ky.b).b) Yo)) ⟨v7,v8,by rw[Zw3,show innW rs b x []=[] from rfl,LR];rfl⟩ ?_ ?_
  .rintro L2 j y ss hL2 hj ⟨v7,v8,rfl⟩;refine(Ar Ls (λN2 hN2=>?_));have hne:=ycl hnd hk hj;have hfl:=yjy b hne;rw[K8] at hfl;have hil:=ztn rs b x ((cs.drop (k+1)).take j);rw[O6] at hil;have ei:innW rs b x ((cs.drop (k+1)).take (j+1))=innW rs b x ((cs.drop (k+1)).take j)++(AR (wtW rs b x y) 0 [] [(x,y,wtW rs b x y)]):=by
    unfold innW;rw[N7,hj,RL,LQ];congr 1;by_cases h:wtW rs b x y=0 <;> simp[h]
   have em:(fcF b x++fcF b y).map encF=(fcF b x).map encF++(fcF b y).map encF:=LQ ..;have lf:∀z,CJ ((fcF b z).map encF) (fcF b z).length:=λz=>Kg ..;refine Dr (.int (wtW rs b x y)) (Rq (pre:=yh3 ad0.Lb) (res:=wL) (rs,fcF b x++fcF b y,x,y) (ds:=[.lst (rs.map FN),bkD (fcF b x++fcF b y),C6,encS y]) (EG (EvO.ev (by
    show EvO _ _ _ _ _ _ ((fcF b x++fcF b y).map encF);rw[em];refine bQ (da:=(fcF b x).map encF) (db:=(fcF b y).map encF) (Ev.l ?_) (Ev.l ?_) (by rw[lf x,lf y,K3];omega)
    .show Ev _ _ _ _ _ _ (bkD (fcF b x));rw[<- yex];exact zlw Ax Ao (EvO.ev (NK K4 (by decide))) rfl
    .show Ev _ _ _ _ _ _ (bkD (fcF b y));rw[<- yex];exact zlw Ax Ao (EvO.ev (NK K4 (by decide))) rfl)) (DV K4)) (Dq hl hrs (by show(fcF b x++fcF b y).length<=60;rw[K8];omega))) ?_;((try dsimp only);refine Al);refine LC (Lh (qK Ao Ky.b)) Dt Dt
   .have h0:¬ wtW rs b x y=0:=by simpa using h
    rw[if_neg h0] at ei;refine TX (d:=encW (x,y,wtW rs b x y)) rfl (QT (DV DF) ER) (by rw[K3,Kg,K8];omega) (hN2 _ (Ck (C9 y) (A3 (wtW rs b x y))));rw[ei,<- lZ,LQ (l₂:=[_])];rfl
   .have h0:wtW rs b x y=0:=by simpa using h
    rw[if_pos h0,LR] at ei;refine Mj (hN2 _ (Ck (C9 y) (A3 (wtW rs b x y))));rw[ei];rfl
  rintro ss ⟨v7,v8,rfl⟩;rw[NB,<- ek];exact hN _ ⟨_,_,_,_,rfl⟩
 rintro ss ⟨v5,v6,v7,v8,rfl⟩;((try dsimp only);refine Al);exact zri (i:=4) rfl rt
noncomputable def loP(bs:A5)(x y:Ae):Int:=min (Dl x) (Dl y)
noncomputable def hiP(bs:A5)(x y:Ae):Int:=max (Dl x) (Dl y)
noncomputable def yfx(q:A5×Ae×Ae)(ds:Ac):Prop:=ds=[D.dic (plD q.1),encS B8,encS B3]/\B8∈q.1.flatten/\B3∈q.1.flatten
noncomputable def ygi(q:A5×Ae×Ae):D:=.tup [.int (loP q.1 B8 B3),.int (hiP q.1 B8 B3)]
theorem zfm(Z:B4 K):FnOk P w K mg base CX0 1 ad0.fJ ad0.gU cX (SpG K yfx ygi):=by
 refine Gr Z.jD.F zit (CN _ (BA (Qe (CS (Bz (zo4 rfl) Z.WY ZM (CS (Qh CZ (pv 0) (pv 1) Cy) (Qh CZ (pv 0) (pv 2) Cy))) (Bz (zpr rfl) Z.WX ZP (CS (Qh CZ (pv 0) (pv 1) Cy) (Qh CZ (pv 0) (pv 2) Cy)))))) FW);obtain⟨bs,x,y⟩:=q;obtain⟨rfl,hx,hy⟩:=hp;have rt:RtD K G H Q (.tup [.int (loP bs x y),.int (hiP bs x y)]):=rt;have hv:∀c,c∈bs.flatten->Ab (valD (plD bs) (encS c)) (encN (BJ c)):=λc hc=>Rt M9 hc;have vx:=hv x hx;have vy:=hv y hy;have e1:loP bs x y=if (Dl y)<(Dl x) then (Dl y) else (Dl x):=by unfold loP;split <;> omega
 have e2:hiP bs x y=if (Dl y)>(Dl x) then (Dl y) else (Dl x):=by unfold hiP;split <;> omega
 rw[e1,e2] at rt;exact MP (QT (Dy (zz0 (Wo Ax Ao rfl vx).b (Wo Ax Ao rfl vy).b) (ya1 (Wo Ax Ao rfl vx).b (Wo Ax Ao rfl vy).b) K4) ER) rt
noncomputable def i2D(bs:A5)(l:Lnk):D:=.tup [.int (loP bs l.1 l.2),.int (hiP bs l.1 l.2)]
noncomputable def apL(b:Ag)(bs:A5):Ac:=(tpF b Lw).map (i2D bs)
noncomputable def yki(q:Ag×A5)(ds:Ac):Prop:=ds=[bkD q.1,D.dic (plD q.2)]/\AB q.1 60 /\ ∀l∈tpF q.1 Lw,l.1∈q.2.flatten/\l.2∈q.2.flatten
noncomputable def ykb(q:Ag×A5):Ac:=La (ded (apL q.1 q.2))
theorem zlk(Z:B4 K):FnOk P w K mg base CX0 2 ad0.fL ad0.gY dC (SpGO K yki ykb):=by
 have wF:=zhx (P:=P) (w:=w) (base:=base) Z;have Zck:=zfm (P:=P) (w:=w) (base:=base) Z;refine okGO Z.uR.F zgl (by rintro q ds ⟨rfl,_⟩;rfl) (CN _ (Kl (aR (i:=2) zgl.nd rfl CT rfl (LcOk.of (Nx:=(AO ["book", "places", "aparts"])) (sc:=KZ dB) (N':=(AO ["one", "other", "places"])) (nt:=2) (cs:=[1]) rfl rfl (by decide +kernel)) (Qm (BC wF Z.Zd (C5 0 Mf))) (λ_ _ _ _=>(show PG _ _ (gTup K 2 _) from R6 rfl (Nq (GI 0 (Lq (AO ["one", "other", "places"])) rfl CT) (Nq (GI 1 (Lq (AO ["one", "other", "places"])) rfl CT) R5)))) (λ_ _ _ _=>TQ) (λ_ _ _ _=>(BC Zck Z.jD (E3 2 (Dp 0 1)))))
   (BA (Bz (Fg _ _ (YG P w K false) (sY rfl)) Z.QX RX (CO (Tz (Fg _ _ (U6 P w K false) (Yy rfl hr.units)) (by rfl) Z.Vj Xk (Bq 2)))))) FW);obtain⟨b,bs⟩:=q;obtain⟨rfl,hb,hin⟩:=hp;have hb:Ei 60:=hb;have htl:=W5 b Lw;have rt:RtO K G H Q (La (ded (apL b bs))):=rt;refine Kp (MN (ds:=apL b bs) (U3 (tpF b Lw) encK (i2D bs) (EvO.l (by rw[<- vQ];exact QV (pre:=jK) (res:=Zk) (ds:=[BK,.str Lw]) (EG C8 K4) (Bh b Lw (by omega)))) (zy5 (Ym DX (Ym DX zrx))) (by decide) (by rw[K3];omega) λl hl=>(Ar (Sq rfl (DQ (DQ Sh))) (Rq (pre:=yfx) (res:=ygi) (bs,l.1,l.2) (DV DF) (CW (hin l hl))))) DM);((try dsimp only);refine Al);have hk:∀d∈apL b bs,Ci false:=λd hd=>by obtain⟨l,_,rfl⟩:=Kr.mp hd;rfl
 have hal:M7 (apL b bs):=FC ⟨.i,[.i],λd hd=>by obtain⟨l,_,rfl⟩:=Kr.mp hd;exact⟨_,rfl,rfl⟩⟩;have hl:AB (apL b bs) 60:=by unfold apL;rw[Kg];omega
 exact UV (sZ (f:=false) (ded (apL b bs)) (Yz (Ow rfl) hk (by omega)) hk hal (U7 _) (by have:=bN (apL b bs);omega) λd=>Qk) rt
noncomputable def M:Int:=4294967311
noncomputable def num(c:Int):Nat->Int
 | 0=>c % M+48271
 | k+1=>(num c k*num c k+69621*num c k+k) % M
theorem yhq(c:Int):∀k,0<=num c k/\num c k<M+48271
 | 0=>⟨by have:=Q7 c (show M≠0 by decide);show 0<=c % M+48271;omega,by have:=Q6 c (show 0<M by decide);show c % M+48271<M+48271;omega⟩
 | k+1=>⟨Q7 _ (by decide),by have:=Q6 (num c k*num c k+69621*num c k+k) (show 0<M by decide);show _ % M<M+48271;omega⟩
noncomputable def Q3(c:Int)(m:Nat):Ac:=DU m (λi=>.int (num c (i+2)))
noncomputable def wN(ds:Ac):Prop:=∃c m:Int,ds=[.int c,.int m]/\0<=m/\BI m
noncomputable def jP:Ac->Ac
 | [.int c,.int m]=>Q3 c m.toNat
 | _=>[]
theorem zfz(Z:B4 K):FnOk P w K mg base CX0 1 ad0.fU ad0.iG dI (SpO K wN jP):=by
 refine okO Z.Zh.F dJ (by rintro ds ⟨c,m,rfl,_⟩;rfl) (CN _ (Kl (psn 2 dJ.nd (MK Oj))
   (Kl (psn 3 dJ.nd (Cq Od (Cq Nr (pv 0))))
   (Kl (DI Lx (Yc (by rfl) Z.Vi (CO (Cq Od (pv 1)))) 4 dJ.nd (Kl (psn 3 dJ.nd (Cq Nr (Ly Od (Ly Od (Ly pU (pv 3) (pv 3)) (Ly pU Lg (pv 3))) (pv 4))))
   (Le (O2 (Oe O9 P0 Qt Qf (pv 2) (Bq 3))))))
   (BA (UG Yg (pv 2) (R8 Lg) Ye))))) Ep);obtain⟨c,m,rfl,hm0,hm1⟩:=hp;refine Kp (MN (NK K4 (by decide)) DM);((try dsimp only);refine Al);refine Kp (NP (Og (EA Ao).b Ky.b) ?_);((try dsimp only);refine Al);refine Kp (Yk (n:=m+1) (λk ss=>∃v4,ss=[A3 c,A3 m,.o p (DU k (λi=>.int (num c (i+1)))),A3 (num c k),v4]) (UL (Og Ao Ky.b).b Wg) ⟨by omega,by omega⟩ (AY .un) ?_ ?_ (λ_ _ _ h=>h))
 .rintro k ss hk ⟨v4,rfl⟩ N hN;have hr:=yhq c k;rw[show M=4294967311 from rfl] at hr;refine Kp (NP (EA (Og (Og (rH Ao Ao ?_).b (rH Ky.b Ao ?_).b).b Ao).b) ?_);.exact .inl ⟨by omega,by omega⟩
  .exact .inl (F9 (by decide))
  ·((try dsimp only);refine Al);refine TX rfl Ax ?_ ?_;.rw[Kg,Oo,K3];omega
   .refine hN _ (BG (A3 k));rw[SX,LQ];rfl
 .rintro ss ⟨v4,rfl⟩;((try dsimp only);refine Al);refine UV (Yp (Ow rfl) (Ss Ky.b) Yo) ?_;have e:cutD (DU (m+1).toNat (λi=>D.int (num c (i+1)))) (some 1) none=jP [.int c,.int m]:=by
   rw[zk9 _ (by decide),show(m+1).toNat=m.toNat+1 by omega];show List.drop 1 _=Q3 c m.toNat;rw[xJ,Kq,List.drop_succ_cons,Zw5,Lf];rfl
  rw[e];exact rt
theorem Zo(c:Int)(m:Nat)(i:Nat)(h:i<m):Ab (atI (Q3 c m) (i:Int)) (.int (num c (i+2))) :=
 TF (by unfold Q3;rw[KR,Q8 h];rfl)
noncomputable def cardAt(cs:Aj)(x:Int):Ae:=cs.getD (Ej x cs.length) []
theorem zt8(cs:Aj)(x:Int)(h:cs≠[]):Ab (atI (cs.map D.str) (x % cs.length)) (.str (cardAt cs x)):=by
 have hl:0<cs.length:=Zuj.mpr h;have h1:=Q7 x (show(cs.length:Int)≠0 by omega);have h2:=Q6 x (show(0:Int)<cs.length by omega);have:=TF (xs:=cs.map D.str) (j:=(Ej x cs.length)) (v:=.str (cardAt cs x)) (by unfold cardAt;rw[KR,Kz,Kv (by omega)];rfl);rw[show(Ew (Ej x cs.length))=x % cs.length by omega] at this;exact this
noncomputable def lets:Ae:=(EF "abcdefghijklmnopqrstuvwxyz")
theorem znp:lets.length=26:=by decide +kernel
theorem yg8:∀c∈lets,c<128:=by decide +kernel
noncomputable def W7(x:Int):Nat:=lets.getD (Ej x 26) 0
theorem zxh(x:Int):Ab (atI lets (x % 26)) (W7 x):=jG lets 0 x (by rw[znp];rfl) (by decide)
noncomputable def Qy(c:Int):Int:=1+num c 2 % 12
theorem wO(c:Int):1<=Qy c/\Qy c<=12:=by unfold Qy;omega
noncomputable def cat_(c:Int):Int:=num c 3 % Qy c
theorem yfu(c:Int):0<=cat_ c/\cat_ c<Qy c:=by
 have:=wO c;exact⟨Q7 _ (by omega),Q6 _ (by omega)⟩
noncomputable def Q4(c:Int):Ae:=DU (Qy c).toNat (λi=>W7 (num c (i+4)))
noncomputable def Zq(c:Int)(k:Nat):Ae:=cutL (Q4 c) none (some (cat_ c))++[W7 (num c ((2+cat_ c).toNat+2)+7*k)]++cutL (Q4 c) (some (cat_ c+1)) none
noncomputable def cardsN(c many:Int):Aj:=DU many.toNat (Zq c)
noncomputable def ztd(ds:Ac):Prop:=∃c m:Int,ds=[.int c,.int m]/\0<=m/\m<=100
noncomputable def wQ:Ac->Ac
 | [.int c,.int m]=>(cardsN c m).map .str
 | _=>[]
theorem zv0(c:Int)(m:Nat)(i:Int)(h0:0<=i)(h:i<m):Ab (atI (Q3 c m) i) (.int (num c (i.toNat+2))):=by
 have:=Zo c m i.toNat (by omega);rw[show((i.toNat:Nat):Int)=i by omega] at this;exact this
theorem zwl(c:Int):cutD (Q3 c 14) (some 2) (some (2+Qy c))=DU (Qy c).toNat (λi=>.int (num c (i+4))):=by
 have h:=wO c;rw[zti _ (by decide) (by omega)];unfold Q3;refine Qn λi=>?_;rw[lY];by_cases hi:i<(Qy c).toNat
 .rw[if_pos (by omega),Xc,KR,KR,Q8 (by omega),Q8 hi];show Ab (some (D.int (num c (2+i+2)))) (D.int (num c (i+4)));rw[show 2+i+2=i+4 by omega]
 .rw[if_neg (by omega),RB (by simp;omega)]
theorem zqg(c:Int):AB (Q4 c) 12:=by
 have:=wO c;unfold Q4;rw[Kg,Oo];omega
theorem jQ(l:Ae)(lo hi:CC):AB (cutL l lo hi) l.length:=by unfold cutL;rw[O6,VB];omega
theorem zqs(Z:B4 K):FnOk P w K mg base CX0 2 ad0.fV ad0.iH dN (SpO K ztd wQ):=by
 have jR:=zfz (P:=P) (w:=w) (base:=base) Z;refine okO Z.uU.F T8 (by rintro ds ⟨c,m,rfl,_⟩;rfl) (CN _ (Kl (pP (i:=2) T8.nd rfl (Uh rfl) Mf)
   (Kl (psn 3 T8.nd (BC jR Z.Zh (C5 0 Lg)))
   (Kl (psn 4 T8.nd (Ly Od Lg (Cq Nr (FS (Dh _ K) 3))))
   (Kl (psn 5 T8.nd (Ly Nr (FS (Dh _ K) 3) (pv 4)))
   (Kl (psn 6 T8.nd (Oe F.plainAttrs_str F.slot_str_join F.type_str_join ygk Mf (CO (FP rfl (LcOk.of (Nx:=(AO ["_law_cell", "_law_many", "_law_letters", "_law_draws", "_law_size", "_law_at_here", "_law_base", "_law_cards_here", "_law_k", "_law_sign"])) (sc:=KZ dM) (N':=(AO ["_law_draw", "_law_letters"])) (nt:=1) (cs:=[2]) rfl rfl (by decide +kernel)) (Qm (UG Yg (pv 3) (R8 Lg) (R8 (Ly Od Lg (pv 4))))) (Fm 0 (Lq (AO ["_law_draw", "_law_letters"])) rfl CT) TQ (Ft yez 1 (Cq Nr (pv 0)))))))
   (Kl (psn 7 T8.nd (MK Oj))
   (Kl (DI Lx (Yc (by rfl) Z.Vi (Bq 1)) 8 T8.nd (Kl (psn 9 T8.nd (Ft yez 2 (Cq Nr (Ly Od (Ft (Dh _ K) 3 (Ly Od Lg (pv 5))) (Ly pU Lg (pv 8))))))
   (Le (O2 (Oe O9 P0 Qt Qf (pv 7) (CO (Ly zm0 (Ly zm0 (UG ye1 (pv 6) Ye (R8 (pv 5))) (pv 9)) (UG ye1 (pv 6) (R8 (Cq Od (pv 5))) Ye))))))))
   (BA (pv 7))))))))) Ep);obtain⟨c,m,rfl,hm0,hm1⟩:=hp;have hz:=wO c;have ha:=yfu c;have hbl:=zqg c;have h12:AD (12:Nat):=E6;refine Kp (NP (wY yg8) ?_);((try dsimp only);refine Al);refine Kp (MN (QV (pre:=wN) (res:=jP) (EG Ky K4) (BH c 14 (by decide) (by decide))) DM);((try dsimp only);refine Al);refine Dr (.int (Qy c)) (Og Ky.b (EA (M6 (Ow rfl) Ky.b (Zo c 14 0 (by decide))).b).b) ?_;((try dsimp only);refine Al);refine Dr (.int (cat_ c)) (kZ (M6 (Ow rfl) Ky.b (Zo c 14 1 (by decide))).b Ao (by omega)) ?_;((try dsimp only);refine Al);refine Dr (.str (Q4 c)) ?_ ?_
 .unfold Q4;rw[<- yck];refine ycj (xs:=K6 (Qy c).toNat) (z:=[]) (g:=λi=>[W7 (num c (i+4))]) ?a (EvO.l ?b) ?c;case a=>exact(yee (by decide +kernel) (by decide)).b
  case b =>
   refine U3 (K6 (Qy c).toNat) (λi=>.int (num c (i+4))) _ ?b1 DX (by decide) ?b2 ?b3;case b1 =>
    rw[<- zwl];exact EvO.l (Yp (Ow rfl) (Ss Ky.b) (Ss (Og Ky.b Ao).b))
   case b2=>rw[Oo,K3];omega
   case b3 =>
    intro i hi;refine(Ar Ls ?_);exact ye2 Ao (EA Ao).b (small (by rw[znp];decide)) (zxh _)
  case c =>
   simp only[Lf,Oo,Xf,Nat.mul_zero,Nat.add_zero];rw[show(PL∘λi=>[W7 (num c (i+4))])=λ_=>1 from rfl,List.map_const',List.sum_replicate_nat,Oo];omega
 ((try dsimp only);refine Al);refine Kp (MN (NK K4 E6) λq=>?_);((try dsimp only);refine Al);refine Kp (Yk (n:=m) (λk ss=>∃v8 v9,ss=[A3 c,A3 m,.d (.str lets),.o p (Q3 c 14),A3 (Qy c),A3 (cat_ c),.d (.str (Q4 c)),.o q (DU k (λk=>.str (Zq c k))),v8,v9]) (UL Ao Wg) ⟨by omega,by omega⟩ (Dm .un .un) ?_ ?_ (λ_ _ _ h=>h))
 .rintro k ss hk ⟨v8,v9,rfl⟩ N hN;refine Dr (.str [W7 (num c ((2+cat_ c).toNat+2)+7*k)]) (ye2 Ao (EA (Og (M6 (Ow rfl) (Og Ky.b Ao).b (zv0 c 14 _ (by omega) (by omega))).b (rH Ky.b Ao (.inl (F9 (by decide)))).b).b).b (small (by rw[znp];decide)) (zxh _)) ?_;((try dsimp only);refine Al);refine TX (d:=.str (Zq c k)) rfl (zxw (zxw (yet Ao Yo (Ss Ao) (by omega)).b Ao ?_).b (yet Ao (Ss (Og Ao Ky.b).b) Yo (by omega)).b ?_) ?_ ?_
  .have:=jQ (Q4 c) none (some (cat_ c));exact small (by simp only[Mt,Xf];omega)
  .have:=jQ (Q4 c) none (some (cat_ c));have:=jQ (Q4 c) (some (cat_ c+1)) none;exact small (by simp only[K8,Mt,Xf];omega)
  .rw[Kg,Oo,K3];omega
  .refine hN _ (Ck (A3 k) (.d (.str [W7 (num c ((2+cat_ c).toNat+2)+7*k)])));rw[SX,LQ];rfl
 .rintro ss ⟨v8,v9,rfl⟩;((try dsimp only);refine Al);refine zri rfl ?_;have e:(DU m.toNat (λk=>D.str (Zq c k)))=wQ [.int c,.int m]:=by
   show _=(cardsN c m).map D.str;unfold cardsN;rw[Lf];rfl
  rw[e];exact rt
noncomputable def encR(r:Rl):D:=.tup [.int r.2,.str r.1]
noncomputable def yjd(ds:Ac):Prop:=∃c f:Int,ds=[.int c,.int f]
noncomputable def ykr(ds:Ac)(r:Ac):Prop:=∃rs:Ch,r=rs.map encR/\rs.length<=6 /\ ∀r∈rs,D.str r.1∈Qx
theorem zr1(Z:B4 K):FnOk P w K mg base CX0 2 ad0.fX ad0.iJ dR (SpR K yjd ykr):=by
 have jR:=zfz (P:=P) (w:=w) (base:=base) Z;refine okR Z.uW.F YW (by rintro ds ⟨c,f,rfl⟩;rfl) (CN _ (Kl (psn 2 YW.nd (MK Oj))
   (Kl (DI Lx (Qm (BC jR Z.Zh (C5 0 (Cq Nr (pv 0))))) 3 YW.nd (Kl (psn 4 YW.nd (Cq Od (Ly Nr (Cq pU (pv 3)) (Cq yj0 Lg))))
   (Kl (Gj (CH Pb (Cq Nr (Cq Yd (pv 3))) Lg _) (Le (psn 4 YW.nd (Ly yjs Lg (pv 4)))))
   (Kl (Gj (CH Pb (Cq Nr (Cq Yd (pv 3))) Lg _) (Le (psn 4 YW.nd (Zr (Dh _ K) (MK (CS Lg (pR pW Lg))) (Cq Nr (Cq Yd (pv 3))) Cy))))
   (Le (O2 (Oe O9 P0 Qt Qf (pv 2) (CO (Qe (C5 4 (Zr (Dh _ K) (MK (Ng Mf (Ng Mf (Ng Mf (CS Mf Mf))))) (Cq Nr (Ly Od (pv 1) (Cq Nr (pv 3)))) Cy)))))))))))
   (BA (pv 2)))) Ep);obtain⟨c,f,rfl⟩:=hp;refine Kp (MN (NK K4 E6) DM);((try dsimp only);refine Al);have m0:=Q7 c (show(7:Int)≠0 by decide);have m1:=Q6 c (show(0:Int)<7 by decide);have es:Q3 c (Ej c 7)=(DU (Ej c 7) (λi=>num c (i+2))).map D.int:=by unfold Q3;rw[Lf];rfl
 refine Kp (Nt D.int (DU (Ej c 7) (λi=>num c (i+2))) (λk ss=>∃(rs:Ch) (v3 v4:Sl),ss=[A3 c,A3 f,.o p (rs.map encR),v3,v4]/\rs.length<=k /\ ∀r∈rs,D.str r.1∈Qx) (EvO.ev (by
  rw[<- es];exact QV (pre:=wN) (res:=jP) (ds:=[.int c,.int (c % 7)]) (EG (EA Ao) K4) (BH c (c % 7) m0 (by omega)))) ⟨[],.un,.un,rfl,Az,λr h=>by cases h⟩ ?_ ?_)
 .rintro L' k d ss hL hk ⟨rs,v3,v4,rfl,hl,hf⟩;refine(Ar Ls Eh);have hkl:=(BS hk);rw[Kg,Oo] at hkl;have p9:0<(10:Int) ^ (9:Int).toNat:=by decide
  refine Kp (NP (Og (kZ (rH Ao Ky.b (C1 (by decide) (by decide))).b (yj9 Ky.b Ky.b ⟨by decide,by decide,by decide⟩).b p9).b Ky.b) ?_);((try dsimp only);refine Al);generalize d*48271 % 10 ^ (9:Int).toNat+1=w1;refine qO (λss=>∃w2:Int,ss=[A3 c,A3 f,.o p (rs.map encR),A3 d,A3 w2]) (λN2 hN2=>LC (Lh (qJ (EA (Yu Ao Ky.b (F9 (by decide))).b).b Ky.b)) (λhb=>NP (yjx Ky.b Ao) (hN2 _ (AY _))) (λhb=>Mj (hN2 _ (AY _)))) ?_;rintro ss ⟨w2,rfl⟩;refine qO (λss=>∃w3:Int,ss=[A3 c,A3 f,.o p (rs.map encR),A3 d,A3 w3]) (λN2 hN2=>LC (Lh (qJ (EA (Yu Ao Ky.b (F9 (by decide))).b).b Ky.b)) D6 (λhb=>Mj (hN2 _ (AY _)))) ?_
  .have hat:=jG [D.int 1,D.int (-1)] .non (d / 160) (n:=2) rfl (by decide);have hi:∃z,EO [D.int 1,D.int (-1)] (Ej (d / 160) 2)= .int z:=by
    have h0:=Q7 (d / 160) (show(2:Int)≠0 by decide);have h1:=Q6 (d / 160) (show(0:Int)<2 by decide);rcases(by omega:d / 160 % 2=0\/d / 160 % 2=1) with e | e <;> rw[e] <;> exact(AY _)
   obtain⟨z,hz⟩:=hi;rw[hz] at hat;exact NP (d:=.int z) (M6 (EvO.l (NK (Dy Ky (zx6 Ky.b) K4) E6)) (EA (Yu Ao Ky.b (F9 (by decide))).b).b hat) (hN2 _ (AY z))
  rintro ss ⟨w3,rfl⟩;have hat:=jG Qx .non (f+d % 2) (n:=5) rfl (by decide);obtain⟨l,hl5⟩:=zqh (f+d % 2);rw[hl5] at hat;have hmem:D.str l∈Qx:=qL hat;refine TX (d:=encR (l,w3)) rfl (QT (EG (M6 (EvO.l (NK (ds:=Qx) (Dy C8 C8 (Dy C8 C8 (Fx C8))) E6)) (EA (Og Ao (EA Ao).b).b).b hat) K4) ER) (by rw[K3,Kg];omega) (hN _ ⟨rs++[(l,w3)],A3 d,A3 w3,by rw[LQ];rfl,by rw[K8,Oz];omega,λr hr=>?_⟩);rcases K9.mp hr with h | h;.exact hf r h
  .rw[K5.mp h];exact hmem
 rintro ss ⟨rs,v3,v4,rfl,hl,hf⟩;((try dsimp only);refine Al);rw[Kg,Oo] at hl;exact zri (i:=2) rfl (rt _ ⟨rs,rfl,by omega,hf⟩)
noncomputable abbrev IJ:=Int×Int
noncomputable def encP(p:IJ):D:=.tup [.int p.1,.int p.2]
noncomputable def unP:D->IJ
 | .tup [.int i,.int j]=>(i,j)
 | _=>(0,0)
theorem jT(a b:IJ)(h:encP a=encP b):a=b:=congrArg unP h
noncomputable def keyW(bs:A5)(t:Wt):IJ:=(loP bs t.1 t.2.1,hiP bs t.1 t.2.1)
noncomputable def sumW(bs:A5)(ws:List Wt)(p:IJ):Int:=(ws.map λt=>AR (BZ t) p t.2.2 0).sum
theorem ztq(bs:A5)(ws vs:List Wt)(p:IJ):Dv (ws++vs) p=Dv ws p+Dv vs p:=by unfold sumW;rw[LQ,Zwj]
theorem zk3(bs:A5)(ws:List Wt)(t:Wt)(p:IJ):Dv (ws++[t]) p=Dv ws p+AR (BZ t) p t.2.2 0:=by rw[ztq];simp[sumW]
theorem zm6{bs:A5}{p:IJ}:∀{ws:List Wt},(∀t∈ws,BZ t≠p)->Dv ws p=0
 | [],_=>rfl
 | t::ws,h=>by
  have:=zm6 (ws:=ws) λt ht=>h t (AS ht);unfold sumW at this ⊢;rw[Kq,Oq,this,if_neg (h t KN)];rfl
structure Kys(bs:List (List (List Nat)))(ws:List Wt)(ks:List IJ):Prop where
 nd:ks.Nodup
 mem:∀p,p∈ks↔p.1≠p.2 /\ ∃t∈ws,keyW bs t=p
 len:ks.length<=ws.length
section
variable{bs:List (List (List Nat))}{ws:List Wt}{ks:List IJ}{t:Wt}
theorem Kys.same(h:Kys bs ws ks)(e:(BZ t).1=(BZ t).2):Kys bs (ws++[t]) ks/\dA encP D.int ks (sumW bs (ws++[t]))=dA encP D.int ks (sumW bs ws):=by
 have hn:∀p,p.1≠p.2->BZ t≠p:=λp hp z=>hp (by rw[<- z];exact e);refine⟨⟨h.nd,DM,by rw[K8];have:=h.len;omega⟩,sO λp hp=>?_⟩
 .rw[h.mem];constructor;.rintro⟨h1,u,hu,e⟩;exact⟨h1,u,Ml _ hu,e⟩
  .rintro⟨h1,u,hu,e⟩;rcases K9.mp hu with hu | hu;.exact⟨h1,u,hu,e⟩
   .rw[K5.mp hu] at e;exact absurd e (hn p h1)
 .rw[zk3,if_neg (hn p ((h.mem p).mp hp).1),Zzk]
theorem Kys.get(h:Kys bs ws ks)(e:(BZ t).1≠(BZ t).2):(valD (dA encP D.int ks (sumW bs ws)) (encP (BZ t))).getD (.int 0)= .int (Dv ws (BZ t)):=by
 by_cases hk:BZ t∈ks;.rw[Rt jT hk];rfl
 .rw[ztx jT hk,zm6 λu hu z=>hk ((h.mem _).mpr ⟨e,u,hu,z⟩)];rfl
theorem Kys.put(h:Kys bs ws ks)(e:(BZ t).1≠(BZ t).2):∃ks',Kys bs (ws++[t]) ks'/\putD (dA encP D.int ks (sumW bs ws)) (encP (BZ t)) (.int (Dv ws (BZ t)+t.2.2))=dA encP D.int ks' (sumW bs (ws++[t])):=by
 have hs:Dv ws (BZ t)+t.2.2=Dv (ws++[t]) (BZ t):=by rw[zk3,if_pos rfl]
 have ho:∀p,¬ p=BZ t->Dv (ws++[t]) p=Dv ws p:=λp hp=>by rw[zk3,if_neg λz=>hp z.symm,Zzk]
 have hm:∀p,(p∈ks\/p=BZ t)↔p.1≠p.2 /\ ∃u∈ws++[t],BZ u=p:=λp=>by
  constructor
  .rintro(hp | rfl);.obtain⟨h1,u,hu,e⟩:=(h.mem p).mp hp;exact⟨h1,u,Ml _ hu,e⟩
   .exact⟨e,t,by simp,rfl⟩
  .rintro⟨h1,u,hu,e⟩;rcases K9.mp hu with hu | hu;.exact .inl ((h.mem p).mpr ⟨h1,u,hu,e⟩)
   .rw[K5.mp hu] at e;exact .inr e.symm
 have hl:=h.len;by_cases hk:BZ t∈ks
 .refine(Ck ks ⟨h.nd,DM,by rw[K8];omega⟩);.rw[<- hm];exact⟨.inl,λz=>z.elim id λz=>by rw[z];exact hk⟩
  .rw[hs,yaj jT hk];refine sO λp _=>?_;by_cases hp:p=BZ t;.rw[if_pos hp,hp]
   .rw[if_neg hp,ho p hp]
 .refine(Ck (ks++[BZ t]) ⟨?_,DM,by rw[K8,K8,Oz,Oz];omega⟩)
  .rw[SQ];exact⟨h.nd,by simp,λa ha b hb z=>by rw[K5.mp hb] at z;rw[z] at ha;exact hk ha⟩
  .rw[<- hm,K9,K5]
  .rw[hs,sO (g:=sumW bs (ws++[t])) λp hp=>(ho p λz=>hk (by rw[<- z];exact hp)).symm,sJ jT hk]
end
noncomputable def Wb(rs:Ch)(b:Ag)(bs:A5)(i j:Nat):Int:=((EJ i).map λx=>((EJ j).map λy=>totR rs b x y).sum).sum
noncomputable def triD(i j:Nat)(w:Int):D:=.tup [Ca,.int j,.int w]
noncomputable def trL(W:Nat->Nat->Int)(n:Nat):Ac:=(K6 n).flatMap λj=>EZ (K6 j) (λi=>! An (W i j) 0) (λi=>triD i j (W i j))
theorem wR{W:Nat->Nat->Int}{n:Nat}{d:D}:d∈trL W n ↔ ∃i j,i<j/\j<n/\W i j≠0/\d=triD i j (W i j):=by
 unfold trL;simp only[Xe,Kr,Li,Ni,Vt,decide_eq_false_iff_not];constructor;.rintro⟨j,hj,i,⟨hi,hw⟩,rfl⟩;exact⟨i,j,hi,hj,hw,rfl⟩
 .rintro⟨i,j,hi,hj,hw,rfl⟩;exact⟨j,hj,i,⟨hi,hw⟩,rfl⟩
theorem zst{i j i' j':Nat}{w w':Int}(h:triD i j w=triD i' j' w'):i=i'/\j=j'/\w=w':=by
 unfold triD at h;injection h with h;injection h with h1 h;injection h with h2 h;injection h with h3 h;injection h1 with h1;injection h2 with h2;injection h3 with h3;exact⟨by omega,by omega,h3⟩
theorem yjb(W:Nat->Nat->Int)(n:Nat):(trL W n).Nodup:=by
 unfold trL Lq;rw[List.pairwise_flatMap];refine(BG (λj _=>?_))
 .rw[N8];exact((xV (n:=j)).filter _).imp λh e=>h (zst e).1
 .refine(xV (n:=n)).imp λ{a b} h x hx y hy e=>?_;obtain⟨i,_,rfl⟩:=Kr.mp hx;obtain⟨i',_,rfl⟩:=Kr.mp hy;exact h (zst e).2.1
theorem yei(W:Nat->Nat->Int)(n:Nat):M7 (trL W n):=FC ⟨.i,[.i,.i],λd hd=>by obtain⟨i,j,_,_,_,rfl⟩:=wR.mp hd;exact⟨_,rfl,rfl⟩⟩
theorem zzc{α:Type}(p:Aq α)[DecidablePred p](g:α->Int):∀l:AK,(l.map λy=>if p y then g y else 0).sum=((l.filter λy=>decide (p y)).map g).sum
 | []=>rfl
 | y::l=>by
  have:=zzc p g l;by_cases h:p y;.rw[Kq,Oq,QB (p:=λy=>decide (p y)) (decide_eq_true h),Kq,Oq,this,if_pos h]
  .rw[Kq,Oq,O5 (p:=λy=>decide (p y)) (by simp[h]),this,if_neg h,Zzj]
theorem zs4{l m:Cb}(h:l.Perm m):l.sum=m.sum:=by
 induction h with
 | nil=>rfl
 | cons x _ ih=>rw[Oq,Oq,ih]
 | swap x y l=>rw[Oq,Oq,Oq,Oq];omega
 | trans _ _ a b=>exact a.trans b
theorem zxn{α:Type}(f g:α->Int):∀l:AK,(l.map λx=>f x+g x).sum=(l.map f).sum+(l.map g).sum
 | []=>rfl
 | x::l=>by rw[Kq,Oq,zxn f g l,Kq,Oq,Kq,Oq];omega
noncomputable def wtsS(rs:Ch)(b:Ag):Aj->List Wt
 | []=>[]
 | x::r=>innW rs b x r++wtsS rs b r
theorem wU(rs:Ch)(b:Ag):∀cs:Aj,wtsK rs b cs cs.length=wtsS rs b cs
 | []=>rfl
 | x::r=>by
  rw[wtsS,<- wU rs b r];unfold wtsK;rw[Mt,xJ,Zvi,List.flatMap_map];rfl
theorem zsy(rs:Ch)(b:Ag)(bs:A5)(x:Ae)(p:IJ):∀ys:Aj,Dv (innW rs b x ys) p=(ys.map λy=>AR (loP bs x y,hiP bs x y) p (wtW rs b x y) 0).sum
 | []=>rfl
 | y::ys=>by
  have ih:=zsy rs b bs x p ys;rw[Kq,Oq,<- ih];unfold innW;by_cases h:wtW rs b x y=0;.rw[O5 (by simp[h]),h];simp
  .rw[QB (by simp[h]),Kq];unfold sumW;rw[Kq,Oq];rfl
theorem yd6(b:Ag)(x y z f:Ae)(hz:z=x\/z=y)(t:Ae):t∈txF (fcF b x++fcF b y) z f↔t∈txF b z f:=by
 unfold txF fcF;simp only[Kr,Li,K9,Lk,decide_eq_true_eq];constructor
 .rintro⟨u,⟨hu,h1,h2⟩,e⟩;exact⟨u,⟨hu.elim (λq=>q.1) λq=>q.1,h1,h2⟩,e⟩
 .rintro⟨u,⟨hu,h1,h2⟩,e⟩;exact⟨u,⟨hz.elim (λq=>.inl ⟨hu,h1.trans q⟩) λq=>C1 hu (h1.trans q),h1,h2⟩,e⟩
theorem zmx{rs:Ch}{b b':Ag}{x y x' y':Ae}(h:∀f,sayS b f x y=sayS b' f x' y'):totR rs b x y=totR rs b' x' y':=by
 unfold totR;congr 1;funext t r;rw[h]
theorem zy7(rs:Ch)(b:Ag)(x y:Ae):wtW rs b x y=totR rs b x y:=zmx λf=>zx8 (yd6 b x y x f A6) (yd6 b x y y f (.inr rfl))
theorem zzr(rs:Ch)(b:Ag)(x y:Ae):totR rs b x y=totR rs b y x:=zmx λf=>zxy _ _
theorem zpk(rs:Ch)(b:Ag)(bs:A5){i j:Nat}(hij:i<j):∀cs:Aj,Dv (wtsS rs b cs) ((i:Int),(j:Int)) =
  ((cs.filter λx=>An (BJ x) i).map λx=>((cs.filter λy=>An (BJ y) j).map λy=>totR rs b x y).sum).sum
 | []=>rfl
 | c::r=>by
  have ih:=zpk rs b bs hij r;rw[wtsS,ztq,zsy,ih];have key:∀y,((loP bs c y,hiP bs c y)=((i:Int),(j:Int)))↔(BJ c=i/\BJ y=j)\/(BJ c=j/\BJ y=i):=λy=>by
   rw[yL];unfold loP hiP;omega
  by_cases h1:BJ c=i
  .have h2:¬ BJ c=j:=by omega
   rw[QB (p:=λx=>An (BJ x) i) (decide_eq_true h1),O5 (p:=λx=>An (BJ x) j) (by rw[decide_eq_false h2];decide),Kq,Oq];congr 1;rw[<- zzc (λy=>BJ y=j)];congr 1;refine N6 λy _=>?_;rw[zy7];by_cases h3:BJ y=j;.rw[if_pos ((key y).mpr (.inl ⟨h1,h3⟩)),if_pos h3]
   .rw[if_neg λz=>((key y).mp z).elim (λq=>h3 q.2) λq=>h2 q.1,if_neg h3]
  .by_cases h2:BJ c=j
   .rw[O5 (p:=λx=>An (BJ x) i) (by rw[decide_eq_false h1];decide),QB (p:=λx=>An (BJ x) j) (decide_eq_true h2)];have:((r.filter λx=>An (BJ x) i).map λx=>((c::r.filter λy=>An (BJ y) j).map λy=>totR rs b x y).sum).sum=((r.filter λx=>An (BJ x) i).map λx=>totR rs b x c).sum+((r.filter λx=>An (BJ x) i).map λx=>((r.filter λy=>An (BJ y) j).map λy=>totR rs b x y).sum).sum:=by
     rw[<- zxn];congr 1
    rw[this];congr 1;rw[<- zzc (λy=>BJ y=i)];congr 1;refine N6 λy _=>?_;rw[zy7,zzr];by_cases h3:BJ y=i;.rw[if_pos ((key y).mpr (C1 h2 h3)),if_pos h3]
    .rw[if_neg λz=>((key y).mp z).elim (λq=>h1 q.1) λq=>h3 q.2,if_neg h3]
   .rw[O5 (p:=λx=>An (BJ x) i) (by rw[decide_eq_false h1];decide),O5 (p:=λx=>An (BJ x) j) (by rw[decide_eq_false h2];decide)];have:(r.map λy=>AR (loP bs c y,hiP bs c y) ((i:Int),(j:Int)) (wtW rs b c y) 0)=r.map λ_=>(0:Int):=N6 λy _=>if_neg λz=>((key y).mp z).elim (λq=>h1 q.1) λq=>h2 q.1;rw[this]
    have z0:∀l:Aj,(l.map λ_=>(0:Int)).sum=0:=λl=>by induction l with
     | nil=>rfl
     | cons _ _ ih=>rw[Kq,Oq,ih];rfl
    rw[z0,Zzj]
structure PartOf(bs:List (List (List Nat)))(cs:List (List Nat)):Prop where
 nd:bs.flatten.Nodup
 mem:∀x,x∈bs.flatten↔x∈cs
theorem zub{bs:A5}{cs:Aj}(hp:PartOf bs cs)(hn:cs.Nodup){i:Nat}(hi:i<bs.length):(EJ i).Perm (cs.filter λx=>An (BJ x) i):=by
 have hk:Ah bs bs[i]:=Kv hi;rw[Kz,hk];have hbn:bs[i].Nodup:=(xM.mp hp.nd).1 _ (RN hi);refine(Ud hbn (hn.filter _)).mpr λx=>?_;rw[Li,decide_eq_true_eq];constructor
 .intro hx;obtain⟨q,hq⟩:=MF.mp hx;exact⟨(hp.mem x).mp (RM.mpr (Ar (RN hi) hx)),(zsd hp.nd hk hq).2⟩
 .rintro⟨hx,e⟩;obtain⟨p,hpm,hxp⟩:=RM.mp ((hp.mem x).mpr hx);obtain⟨k,hk2⟩:=MF.mp hpm;obtain⟨q,hq⟩:=MF.mp hxp;have:=(zsd hp.nd hk2 hq).2;rw[e] at this;subst this;rw[hk] at hk2;cases hk2;exact hxp
theorem yfp(rs:Ch)(b:Ag){bs:A5}{cs:Aj}(hp:PartOf bs cs)(hn:cs.Nodup){i j:Nat}(hij:i<j)(hj:j<bs.length):Dv (wtsK rs b cs cs.length) ((i:Int),(j:Int))=Wb rs b bs i j:=by
 rw[wU,zpk rs b bs hij];unfold Wb;have p1:=zub hp hn (show i<bs.length by omega);have p2:=zub hp hn hj;rw[zs4 (p1.map _)];congr 1;exact N6 λx _=>(zs4 (p2.map _)).symm
noncomputable def srtK(ks:List IJ):List IJ:=(La (ks.map encP)).map unP
theorem ztz(ks:List IJ):(srtK ks).map encP=La (ks.map encP):=by
 unfold srtK;rw[Lf];refine(N6 λd hd=>?_).trans (S7 _);obtain⟨p,_,rfl⟩:=Kr.mp ((Mw _).mem_iff.mp hd);rfl
theorem wV(ks:List IJ):(srtK ks).Perm ks:=by
 have:=(Mw (ks.map encP)).map unP;rw[Lf,show unP∘encP=id from rfl,S7] at this;exact this
theorem leP{a b:IJ}:Aa ((encP a).leB (encP b))↔a.1<b.1\/(a.1=b.1/\a.2<=b.2):=by
 unfold D.leB encP;rw[decide_eq_true_eq,<- RW];simp only[D.ord,D.fo,Kq,PK,QC,xX,and_false,or_false,QF,and_true];omega
noncomputable def tr3(f:IJ->Int)(p:IJ):D:=.tup [.int p.1,.int p.2,.int (f p)]
theorem le3{f:IJ->Int}{a b:IJ}(h:Aa ((encP a).leB (encP b)))(hn:a≠b):Aa ((tr3 f a).leB (tr3 f b)):=by
 have h:=leP.mp h;have hn:¬ (a.1=b.1/\a.2=b.2):=λz=>hn (Ya1 z.1 z.2);unfold D.leB tr3;rw[decide_eq_true_eq,<- RW];simp only[D.ord,D.fo,Kq,PK,QC,xX,and_false,or_false,QF,and_true];omega
theorem zyb{bs:A5}{x:Ae}(h:x∈bs.flatten):BJ x<bs.length:=by
 obtain⟨p,hp,hx⟩:=RM.mp h;exact lO.mpr ⟨p,hp,decide_eq_true hx⟩
theorem zwy(rs:Ch)(b:Ag):∀cs:Aj,∀t∈wtsS rs b cs,t.1∈cs/\t.2.1∈cs
 | [],t,h=>by cases h
 | x::r,t,h=>by
  rw[wtsS] at h;rcases K9.mp h with h | h
  .obtain⟨y,hy,rfl⟩:=Kr.mp h;exact⟨KN,AS (Li.mp hy).1⟩
  .obtain⟨h1,h2⟩:=zwy rs b r t h;exact⟨AS h1,AS h2⟩
theorem yk9{rs:Ch}{b:Ag}{bs:A5}{cs:Aj}{ks:List IJ}(hp:PartOf bs cs)(hn:cs.Nodup)(hk:Kys bs (wtsK rs b cs cs.length) ks) :
  EZ (srtK ks) (λp=>! An (Dv (wtsK rs b cs cs.length) p) 0) (tr3 (sumW bs (wtsK rs b cs cs.length)))=La (trL (Wb rs b bs) bs.length):=by
 have hks:∀p∈ks,∃i j:Nat,p=((i:Int),(j:Int))/\i<j/\j<bs.length:=λp h=>by
  obtain⟨h1,t,ht,rfl⟩:=(hk.mem p).mp h;rw[wU] at ht;obtain⟨t1,t2⟩:=zwy rs b cs t ht;have l1:=zyb ((hp.mem _).mpr t1);have l2:=zyb ((hp.mem _).mpr t2);have h1:min (Dl t.1) (Dl t.2.1)≠max (Dl t.1) (Dl t.2.1):=h1;refine⟨min (BJ t.1) (BJ t.2.1),max (BJ t.1) (BJ t.2.1),?_,by omega,by omega⟩;unfold keyW loP hiP;rw[yL];omega
 generalize hws:wtsK rs b cs cs.length=ws at hk;have hsum:∀{i j:Nat},i<j->j<bs.length->Dv ws ((i:Int),(j:Int))=Wb rs b bs i j:=λ{i j} h1 h2=>by rw[<- hws];exact yfp rs b hp hn h1 h2
 have hsn:(srtK ks).Nodup:=(wV ks).nodup_iff.mpr hk.nd;have hti:∀p q:IJ,tr3 (sumW bs ws) p=tr3 (sumW bs ws) q->p=q:=λp q e=>by
  unfold tr3 at e;injection e with e;injection e with e1 e;injection e with e2 e;injection e1 with e1;injection e2 with e2;exact Ya1 e1 e2
 refine Wi (yei _ _) ((Ud ?_ (yjb _ _)).mpr λd=>?_) ?_
 .unfold Lq;rw[N8];exact(hsn.filter _).imp λh e=>h (hti _ _ e)
 .rw[wR,Kr];constructor
  .rintro⟨p,hpm,rfl⟩;obtain⟨h1,h2⟩:=Li.mp hpm;obtain⟨i,j,rfl,hij,hj⟩:=hks p ((wV ks).mem_iff.mp h1);have h2:¬ Dv ws ((i:Int),(j:Int))=0:=by simpa using h2
   rw[hsum hij hj] at h2;refine⟨i,j,hij,hj,h2,?_⟩;unfold tr3 triD;rw[hsum hij hj]
  .rintro⟨i,j,hij,hj,hw,rfl⟩;refine⟨((i:Int),(j:Int)),Li.mpr ⟨(wV ks).mem_iff.mpr ((hk.mem _).mpr (BG (by show(i:Int)≠j;omega))),by rw[hsum hij hj];simp[hw]⟩,by unfold tr3 triD;rw[hsum hij hj]⟩;apply Zy;intro hno;exact hw (by rw[<- hsum hij hj];exact zm6 λt ht e=>hno ⟨t,ht,e⟩)
 .rw[N8];have h1:=aY (ks.map encP);rw[<- ztz,N8] at h1;exact((h1.and hsn).filter _).imp λh=>le3 h.1 h.2
noncomputable def yjq(c1:Addr)(q:Ch×Ag×A5)(ds:Ac):Prop:=ds=[.lst (q.1.map (insR c1)),bkD B8,D.dic (plD B3)]/\(AB q.1 20/\(∀r∈q.1,∀c∈r.1,c<128)/\AB B8 60/\(ded (nmD B8)).length<64)/\PartOf B3 (cardsL B8)/\(wtsK q.1 B8 (cardsL B8) (cardsL B8).length).length<64
noncomputable def yjc(q:Ch×Ag×A5):Ac:=La (trL (Wb q.1 B8 B3) (B3).length)
theorem zmc(Z:B4 K):FnOk P w K mg base CX0 6 ad0.fK ad0.gW cZ (SpGO K (yjq ad0.Lb) yjc):=by
 have Zfu:=zn2 (P:=P) (w:=w) (base:=base) Z;have Zck:=zfm (P:=P) (w:=w) (base:=base) Z;refine okGO Z.uQ.F YT (by rintro q ds ⟨rfl,_⟩;rfl) (CN _ (Kl (psn 3 YT.nd zuk)
   (Kl (Gw Lx (Qm (BC Zfu Z.uP (Dp 0 1))) (R6 rfl (Nq (pgn 4 YT.nd) (Nq (pgn 5 YT.nd) (Nq (pgn 6 YT.nd) R5)))) (Kl (psn 7 YT.nd (BC Zck Z.jD (E3 2 (Dp 4 5))))
   (En (CH We (Bt _ K 7) (Bt _ K 7) _) (Le (Ys CZ (pv 3) (pv 7) (Ly Od (rF CZ (pv 3) (pv 7) Lg ⟨by rfl,by rfl,by rfl,by rfl⟩) (pv 6)) rfl)))))
   (Le (yjz (kI (FP rfl (LcOk.of (Nx:=(AO ["rules", "book", "places", "sums", "one", "other", "weight", "pair"])) (sc:=KZ cY) (N':=(AO ["pair", "total"])) (nt:=2) (cs:=[]) rfl rfl (by decide +kernel)) (Qm (Bz (Fg _ _ (zrj K) (zna rfl (hu66 hr))) Z.QX RX (CO (zz9 (pv 3))))) (λ_ _ _ _=>(show PG _ _ (gTup K 2 _) from R6 rfl (Nq (GI 0 (Lq (AO ["pair", "total"])) rfl CT) (Nq (GI 1 (Lq (AO ["pair", "total"])) rfl CT) R5)))) (Wf (CH We (pv 1) Lg _)) (Qe (Ng (Bt _ K 0) (Ng (Bt _ K 0) (Bq 1)))))))))) FW);obtain⟨rs,b,bs⟩:=q;obtain⟨rfl,hpw,hpart,h64⟩:=hp;have hnd:=Vk b;have rt:RtO K G H Q (La (trL (Wb rs b bs) bs.length)):=rt;have hpart:PartOf bs BO:=hpart;refine Kp (ztk DM);((try dsimp only);refine Al);have hin:∀t∈wtsK rs b BO (BO).length,t.1∈bs.flatten/\t.2.1∈bs.flatten:=λt ht=>by
  rw[wU] at ht;obtain⟨h1,h2⟩:=zwy rs b _ t ht;exact⟨(hpart.mem _).mpr h1,(hpart.mem _).mpr h2⟩
 have bpe:=λks hk=>yk9 (rs:=rs) (b:=b) (ks:=ks) hpart hnd hk;generalize hws:wtsK rs b (cardsL b) (cardsL b).length=ws at h64 hin bpe;have h64:ws.length<64:=h64;refine Kp (Nt encW ws (λk ss=>∃(ks:List IJ) (v4 v5 v6 v7:Sl),ss=[Fa FN,C3,.d (D.dic (plD bs)),dslT K p (dA encP D.int ks (sumW bs (ws.take k))),v4,v5,v6,v7]/\Kys bs (ws.take k) ks) (EvO.ev (by rw[<- hws];exact zjc (pre:=ykk ad0.Lb) (res:=yj5) (rs,b) (DV K4) (CW hpw))) ⟨[],.un,.un,.un,.un,rfl,⟨RQ,λp=>by simp,Az⟩⟩ ?_ ?_)
 .rintro L' k t ss hL hk ⟨ks,v4,v5,v6,v7,rfl,hks⟩;refine(Ar (Sq rfl (DQ (DQ (DQ Sh)))) Eh);have hkl:=(BS hk);have et:ws.take (k+1)=ws.take k++[t]:=by rw[N7,hk];rfl
  have hkn:=hks.len;rw[O6] at hkn;refine Dr (encP (BZ t)) (Rq (pre:=yfx) (res:=ygi) (bs,t.1,t.2.1) (DV DF) (CW (hin t (KD hk)))) ?_;((try dsimp only);refine Al);refine LC (Lh (qK (i:=(BZ t).1) (j:=(BZ t).2) (DO rfl).b (DO rfl).b)) Dt Dt
  .have h0:¬ (BZ t).1=(BZ t).2:=by simpa using h
   obtain⟨ks',hk',e'⟩:=hks.put h0;refine ydd (i:=3) rfl (d:=.int (Dv (ws.take k) (BZ t)+t.2.2)) (Og (Ev.b (by rw[<- hks.get h0];exact zyg (i:=3) rfl (Mx rfl) Ky rfl rfl)) Ao) Ax rfl rfl (by unfold dA;rw[Kg,K3];omega) (hN _ ⟨ks',.d (.str t.1),.d (.str t.2.1),A3 t.2.2,.d (encP (BZ t)),?_,by rw[et];exact hk'⟩);rw[show D.tup [.int (BZ t).1,.int (BZ t).2]=encP (BZ t) from rfl,e',et];rfl
  .have h0:(BZ t).1=(BZ t).2:=by simpa using h
   obtain⟨hk',e'⟩:=hks.same h0;refine Mj (hN _ ⟨ks,.d (.str t.1),.d (.str t.2.1),A3 t.2.2,.d (encP (BZ t)),?_,by rw[et];exact hk'⟩);rw[et,e'];rfl
 rintro ss ⟨ks,v4,v5,v6,v7,rfl,hks⟩;((try dsimp only);refine Al);rw[NB] at hks ⊢;have hkl:=hks.len;refine yh5 (i:=3) rfl ?_;have hsl:CJ (srtK ks) ks.length:=(wV ks).length_eq;refine UV (ds:=La (trL (Wb rs b bs) bs.length)) (by
  rw[<- bpe ks hks];refine U0 (srtK ks) (λp=>.tup [encP p,.int (Dv ws p)]) (λp=>! An (Dv ws p) 0) (tr3 (sumW bs ws)) (EvO.l (zqe .i [.i] (kvs:=dA encP D.int ks (sumW bs ws)) Ax (λq hq=>?_) ?_ (λq hq=>?_) ?_ λrs' hpm hh=>?_)) (zy5 (Ym DX (Ym DX zrx))) (by decide) (by rw[hsl,K3];omega) λp hp=>⟨_,Sq rfl (DQ (DQ Sh)),Lh (qK Ao Ky.b),λ_=>QT (Dy (Ef (.int p.1) Ax rfl) (Ef (.int p.2) Ax rfl) DF) ER⟩
  .obtain⟨p,_,rfl⟩:=Kr.mp hq;exact(Bh _ rfl (λz hz=>by simp only[KH,OD,or_false] at hz;rcases hz with rfl | rfl <;> rfl))
  .unfold dA;rw[Lf];unfold Lq;rw[N8];exact hks.nd.imp λh e=>h (jT _ _ e)
  .obtain⟨p,_,rfl⟩:=Kr.mp hq;exact(CW (by show(D.int _).dep<=50;exact wZ _))
  .unfold dA;rw[Kg];omega
  .have e0:(dA encP D.int ks (sumW bs ws)).map (·.1)=ks.map encP:=by unfold dA;rw[Lf];rfl
   rw[e0,<- ztz] at hh;have h1:∀d∈rs',d= .tup [d.hd,.int (Dv ws (unP d.hd))]:=λd hd=>by
    have:=hpm.mem_iff.mp hd;unfold dA at this;rw[Lf] at this;obtain⟨p,_,rfl⟩:=Kr.mp this;rfl
   have h2:rs'=(rs'.map D.hd).map λd=>.tup [d,.int (Dv ws (unP d))]:=by
    rw[Lf];exact((N6 λd hd=>(h1 d hd).symm).trans (S7 _)).symm
   rw[h2,hh,Lf];rfl) rt
noncomputable def yj6(c1:Addr)(q:Ch×Ag)(ds:Ac):Prop:=ds=[.lst (q.1.map (insR c1)),bkD q.2]/\(AB q.1 20/\(∀r∈q.1,∀c∈r.1,c<128)/\AB q.2 60/\(ded (nmD q.2)).length<64)/\jO q.2/\(wtsK q.1 q.2 (cardsL q.2) (cardsL q.2).length).length<64
noncomputable def yj3(q:Ch×Ag):Prop:=Pj q.2≠[]
noncomputable def jU(q:Ch×Ag):Int×Ac×Ac:=(((RC q.2).length:Nat),La (trL (Wb q.1 q.2 (RC q.2)) (RC q.2).length),La (ded (apL q.2 (RC q.2))))
noncomputable def yjh(q:Ch×Ag)(d:D):Prop:=∃l ch,Cw (Pj q.2).head? l/\d= .lst (ch.map encS)/\ChF q.2 l ch
theorem zku(b:Ag):PartOf AV BO:=⟨(zix (ufF (AZ b)) (Vk b)).1,λx=>⟨(zix (ufF (AZ b)) (Vk b)).2 x,ztm⟩⟩
theorem zp8(Z:B4 K):FnOk P w K mg base (CX2 P w) 7 ad0.fM ad0.gZ dD (SpXP K ad0.Ms "chain" (yj6 ad0.Lb) yj3 jU yjh):=by
 have Zf3:=zpw (P:=P) (w:=w) (base:=base) Z;have Zed:=zjm (P:=P) (w:=w) (base:=base) Z;have Zfl:=zmc (P:=P) (w:=w) (base:=base) Z;have Zfe:=zlk (P:=P) (w:=w) (base:=base) Z;refine Z.Zf.F.okX2 zgi (λvs H Q E h=>zt3 (n:=2) (by rintro q ds ⟨rfl,_⟩;rfl) h) (Gs (Kl (psn 2 zgi.nd (zx0 Zf3 GG (by rfl) Z.Ze.M Z.Ze.F.kp Z.Ze.B .nil ykz (CO (PE.nox (pv 1)))))
   (Kl (bT (psn 3 zgi.nd (BC Zed Z.jC (Bq 2))))
   (Le (bT (kI (Qe (Ng (Bz TJ Z.QW R0 (Bq 2)) (CS (BC Zfl Z.uQ (E3 0 (Dp 1 3))) (BC Zfe Z.uR (Dp 1 3)))))))))) ?_);refine yg2 h (by rw[zt3 (n:=2) (by rintro q ds ⟨rfl,_⟩;rfl) h];decide) λG ds q hp rt rx=>?_;obtain⟨rs,b⟩:=q;obtain⟨rfl,hpw,hsb,h64⟩:=hp;have hb:Ei 60:=hpw.2.2.1;have hc64:(ded (nmD b)).length<64:=hpw.2.2.2;have hcl:=vP b;have hpre:wA [BK]:=⟨b,rfl,by omega,hsb,hc64⟩;by_cases hbad:Pj b≠[]
 .refine Kp (ygl (zvi (pre:=wA) (bad:=wB) (res:=wD) (errR:=yhw) (ds:=[BK]) DF hpre ((wC b).mpr hbad) λdx v d F H' hd=>?_));exact rx hbad dx v d F H' (hd b rfl)
 have rt:=rt hbad;have hpt:=zku b;have htl:=W5 b Lw;refine Dr (.lst (DS AV)) (by
  rw[<- zp5];exact zxe (pre:=wA) (bad:=wB) (res:=wD) (errR:=yhw) (ds:=[BK]) DF hpre λz=>hbad ((wC b).mp z)) ?_;((try dsimp only);refine Al);have pl:BI (AV).flatten.length:=by
  have:=W4 hpt.nd λx hx=>(hpt.mem x).mp hx;omega
 refine Dr (D.dic (plD AV)) (by
  rw[<- zko];exact Sg (pre:=vR) (res:=jL) DF ⟨AV,rfl,hpt.nd,pl⟩) ?_;((try dsimp only);refine Al);have el:((DS AV).length:Int)=(Ew (AV).length):=by rw[Kg]
 exact ybv (n:=(Ew (AV).length)) (by rw[<- el];exact UW (Mx rfl).l) (zjc (pre:=yjq ad0.Lb) (res:=yjc) (rs,b,AV) (DV DF) (Dq hpw hpt h64)) (zjc (pre:=yki) (res:=ykb) (b,AV) (DV K4) ⟨rfl,hb,λl hl=>⟨(hpt.mem _).mpr (Zm b l hl).1,(hpt.mem _).mpr (Zm b l hl).2⟩⟩) rt
noncomputable def yf8(cs:Aj)(f:Fct):Prop:=f.1∈cs/\(Aa (isPw BL)->AA∈cs/\minL f.1 AA=f.1/\maxL f.1 AA=AA/\f.1≠AA)/\AB AA 100
noncomputable def zzk(ds:Ac):Prop:=∃(ns:Cb) (cs:Aj) (c:Int),ds=[.lst FF,.lst (cs.map .str),.int c]/\ns.length<=40/\cs≠[] /\ ∀x∈cs,x.length<=100
noncomputable def zx3(ds rs:Ac):Prop:=∀(ns:Cb) (cs:Aj) (c:Int),ds=[.lst FF,.lst (cs.map .str),.int c]-> ∃b:Ag,rs=Fc/\Bk b/\Ei 40 /\ ∀f∈b,yf8 cs f
theorem zwp(cs:Aj)(x:Int)(h:cs≠[]):cardAt cs x∈cs:=by
 obtain⟨y,hy,e⟩:=Kr.mp (qL (zt8 cs x h));injection e with e;rw[<- e];exact hy
noncomputable def txW:Ac:=[S "Bo", S "bo 1", S "~"]
theorem yit(x:Int):∃l,Ab (atI txW (x % 3)) (.str l)/\l.length<=100:=by
 have h:=jG txW .non x (n:=3) rfl (by decide);have h0:=Q7 x (show(3:Int)≠0 by decide);have h1:=Q6 x (show(0:Int)<3 by decide);rw[h];rcases(by omega:x % 3=0\/x % 3=1\/x % 3=2) with e | e | e <;> rw[e] <;> exact(Ar rfl (by decide +kernel))
theorem ybc{x:Int}(h0:0<=x)(h1:x<2):∃l,Ab (atI W2 x) (.str l):=by
 rcases(by omega:x=0\/x=1) with rfl | rfl <;> exact(AY _)
noncomputable def fldL:Aj:=[(EF "name"),(EF "former"),(EF "way"),(EF "day"),(EF "mark")]
theorem ycf{l:Ae}(h:D.str l∈Qx):AL (isPw l):=by
 obtain⟨m,hm,z⟩:=Kr.mp (show D.str l∈fldL.map D.str from h);injection z with z;subst z;unfold isPw;refine decide_eq_false λq=>?_;obtain⟨m',hm',z⟩:=Kr.mp (show D.str m∈[(EF "same"),(EF "apart")].map D.str from q);injection z with z;subst z;have:∀x∈fldL,x∉[(EF "same"),(EF "apart")]:=by decide +kernel
 exact this _ hm hm'
theorem yh6(a b:Ae):minL (minL a b) (maxL a b)=minL a b/\maxL (minL a b) (maxL a b)=maxL a b:=by
 unfold minL maxL;by_cases h:b<a
 .have h2:¬ a<b:=λz=>RT _ (yC h z);simp[h,h2]
 .by_cases h2:a<b;.simp[h,h2]
  .simp[h,h2]
theorem zra(Z:B4 K):FnOk P w K mg base CX0 3 ad0.fW ad0.iI dO (SpR K zzk zx3):=by
 have jR:=zfz (P:=P) (w:=w) (base:=base) Z;refine okR Z.uV.F T9 (by rintro ds ⟨ns,cs,c,rfl,_⟩;rfl) (CN _ (Kl (psn 3 T9.nd (MK (Ng Mf (Ng Mf (Ng Mf (CS Mf Mf))))))
   (Kl (psn 4 T9.nd (MK Oj))
   (Kl (DI Lx (Dj 0) 5 T9.nd (Kl (psn 6 T9.nd (BC jR Z.Zh (C5 5 Lg)))
   (Kl (psn 7 T9.nd (Ft (Dh _ K) 1 (Ly Nr (FS (Dh _ K) 6) (Bz TJ Z.QW R0 (Bq 1)))))
   (Kl (psn 8 T9.nd (Ft (Dh _ K) 1 (Ly Nr (FS (Dh _ K) 6) (Bz TJ Z.QW R0 (Bq 1)))))
   (Kl (psn 9 T9.nd (Qe (E3 7 (CS (Ft (Dh _ K) 3 (Cq Nr (Ly Od (pv 2) (Cq Nr (Cq Yd (FS (Dh _ K) 6)))))) (Zr (Dh _ K) (MK (Ng Mf (CS Mf Mf))) (Cq Nr (Cq Yd (FS (Dh _ K) 6))) Cy)))))
   (Kl (Gj (PW.pt (pO (CH pY (Cq Nr (FS (Dh _ K) 6)) Lg _) (pN (CH We (pv 7) (pv 8) _)))) (Le (psn 9 T9.nd (Qe (Ng (Bz (zlh rfl) Z.WY ZM (Dp 7 8)) (CS (Zr (Dh _ K) (MK (CS Mf Mf)) (Cq Nr (FS (Dh _ K) 6)) Cy) (Bz (zkv rfl) Z.WX ZP (Dp 7 8))))))))
   (En (Gu (show OpR _ _ (rInD K true) from zl4 hr.units) (pv 9) (pv 4)) (Le (O2 (Oe O9 P0 Qt Qf (pv 4) (Bq 9)))))))))))
   (BA (Bz (show Om _ _ (YF K) from sW) Z.QX RX (Bq 4)))))) Ep);obtain⟨ns,cs,c,rfl,hnl,hcs,hcl⟩:=hp;have hlm:((cs.map D.str).length:Int)=cs.length:=by simp
 have hl0:0<cs.length:=Zuj.mpr hcs;refine Kp (MN (ds:=Qx) (NK (Dy C8 C8 (Dy C8 C8 (Fx C8))) E6) λpw=>Rn (i:=3) rfl ?_);((try dsimp only);refine Al);refine Kp (MN (NK K4 E6) DM);((try dsimp only);refine Al);refine Kp (Nt D.int ns (λk ss=>∃(fs:Ag) (v5 v6 v7 v8 v9:Sl),ss=[BE FF,BE (cs.map .str),A3 c,BE Qx,.o p FE,v5,v6,v7,v8,v9]/\fs.length<=k/\fs.Nodup /\ ∀f∈fs,yf8 cs f) Ax ⟨[],.un,.un,.un,.un,.un,rfl,Az,RQ,λ_ h=>by cases h⟩ ?_ ?_)
 .rintro L' k x ss hL hk ⟨fs,v5,v6,v7,v8,v9,rfl,hfl,hfn,hfg⟩;refine(Ar Ls Eh);have hk63:k<40:=by have:=(Mg.mp hk).1;omega
  refine Kp (MN (ds:=Q3 x 3) (QV (pre:=wN) (res:=jP) (EG Ky K4) (BH x 3 (by decide) (by decide))) λpd=>Rn (i:=6) rfl ?_);((try dsimp only);refine Al);have x0:=Zo x 3 0 (by decide);have x1:=Zo x 3 1 (by decide);have x2:=Zo x 3 2 (by decide);have card:∀{L0:Hp} {ss:Do} {d:Int} {t:TE},AM ss 1 (BE (cs.map .str))->EvB K G H L0 ss t (.int d)->Ev K G H L0 ss (tOp (rIxL K) (tVar 1) (tOp (rI (λ_ j=>0<j) (EH (i % j))) t (tCB (E8 (xs=[Ap]/\(A8 H p ys\/SqT K H p ys)/\Q (.int ys.length) H)) (BV (tVar 1))))) (.str (cardAt cs d)):=λ{L0 ss d t} h1 a =>
   M6 (Mx h1).l (kZ a (Ev.b (by rw[<- hlm];exact UW (Mx h1).l)) (by omega)).b (zt8 cs d hcs);refine Kp (NP (card rfl (M6 CD Ky.b x0).b) ?_);((try dsimp only);refine Al);refine Kp (NP (card rfl (M6 CD Ky.b x1).b) ?_);((try dsimp only);refine Al);have i1:=zwp cs (num x (0+2)) hcs;have i2:=zwp cs (num x (1+2)) hcs;generalize cardAt cs (num x (0+2))=c1 at i1;generalize cardAt cs (num x (1+2))=c2 at i2;obtain⟨fl,hfd⟩:=zqh (c+num x (2+2) / 6 % 2);have hat:=jG Qx .non (c+num x (2+2) / 6 % 2) (n:=5) rfl (by decide);rw[hfd] at hat;have hfm:=ycf (qL hat);obtain⟨tx,htx,htl⟩:=yit (num x (2+2) / 12);refine Dr (encF (c1,fl,tx)) (QT (EG (M6 CD (EA (Og Ao (EA (Yu (M6 CD Ky.b x2).b Ky.b (F9 (by decide))).b).b).b).b hat) (Fx (M6 (ds:=txW) (EvO.l (NK (Dy C8 C8 (Fx C8)) E6)) (EA (Yu (M6 CD Ky.b x2).b Ky.b (F9 (by decide))).b).b htx))) ER) ?_;((try dsimp only);refine Al);have m0:=Q7 (num x (2+2)) (show(6:Int)≠0 by decide);refine qO (λss=>∃g:Fct,ss=[BE FF,BE (cs.map .str),A3 c,BE Qx,.o p FE,A3 x,BE (Q3 x 3),.d (.str c1),.d (.str c2),.d (encF g)]/\yf8 cs g) (λN' hN'=>LC (qM (Lh (yhx (EA (M6 CD Ky.b x2).b).b Ky.b)) λ_=>Lh (zx1 Ao Ao)) D6 D6) ?_
  .rw[Lk] at hb;obtain⟨pl,hpl⟩:=ybc m0 (of_decide_eq_true hb.1);have mm:=yh6 c1 c2;have hmc:minL c1 c2∈cs/\maxL c1 c2∈cs:=by rcases vM c1 c2 with ⟨a,b⟩ | ⟨a,b⟩ <;> rw[a,b] <;> exact⟨by assumption,by assumption⟩
   have hcc:¬ c1=c2:=by have:=hb.2;simpa using this
   have hne:minL c1 c2≠maxL c1 c2:=by
    rcases vM c1 c2 with ⟨a,b⟩ | ⟨a,b⟩ <;> rw[a,b];.exact hcc
    .exact λz=>hcc z.symm
   exact NP (d:=encF (minL c1 c2,pl,maxL c1 c2)) (QT (Dy (zr6 Ao Ao) (M6 (ds:=W2) (EvO.l (NK (Dy C8 C8 K4) E6)) (EA (M6 CD Ky.b x2).b).b hpl) (Fx (zrz Ao Ao))) ER) (hN' _ ⟨_,rfl,hmc.1,λ_=>⟨hmc.2,mm.1,mm.2,hne⟩,hcl _ hmc.2⟩)
  .exact Mj (hN' _ ⟨(c1,fl,tx),rfl,i1,λz=>(by have z:isPw fl=true:=z;rw[hfm] at z;cases z),htl⟩)
  rintro ss ⟨g,rfl,hgg⟩;refine LC (b:=! Bg (encF g) FE) (Lh (zk4 Ao (Ow rfl).b (nbF g) (D.nbs_map nbF _) (by have:=dpF g;omega))) D6 (λhb=>Mj (hN _ ⟨fs,_,_,_,_,_,rfl,by omega,hfn,hfg⟩));rw[Vt,decide_eq_false_iff_not,vI] at hb;refine TX rfl Ax (by rw[Kg,K3];omega) (hN _ ⟨fs++[g],_,_,_,_,_,by rw[LQ];rfl,by simp;omega,?_,λf hf=>?_⟩)
  .rw[SQ];exact⟨hfn,by simp,λa ha c hc e=>by rw[K5] at hc;subst hc;subst e;exact hb ha⟩
  .rcases K9.mp hf with hf | hf;.exact hfg f hf
   .rw[K5.mp hf];exact hgg
 .rintro ss ⟨fs,v5,v6,v7,v8,v9,rfl,hfl,hfn,hfg⟩;((try dsimp only);refine Al);refine UV (ds:=(mkB fs).map encF) ?_ (rt _ λns' cs' c' e=>⟨mkB fs,rfl,yje hfn,by rw[yf5];omega,λf hf=>?_⟩)
  .rw[<- ycp];exact sX (Ow rfl) (alF _) (by rw[Kg];omega)
  .have e2:cs=cs':=by
    injection e with _ e;injection e with e _;injection e with e;exact List.map_inj_right (f:=D.str) (λ_ _ z=>by injection z) |>.mp e
   rw[<- e2];exact hfg f ((yf3 fs f).mp hf)
noncomputable def clsF(f:Ae->Ae)(cs:Aj)(h:Ae):Aj:=cs.filter λx=>An (f x) (f h)
theorem Ox{f:Ae->Ae}{cs:Aj}{h x:Ae}:x∈clsF f cs h↔x∈cs/\f x=f h:=by unfold clsF;rw[Li,decide_eq_true_eq]
theorem zzi{f:Ae->Ae}{cs:Aj}{h h':Ae}(e:f h=f h'):clsF f cs h=clsF f cs h':=by unfold clsF;rw[e]
structure Cl(f:List Nat->List Nat)(cs:List (List Nat))(bl:List (List (List Nat))):Prop where
 a:∀p∈bl,∃h∈cs,p=clsF f cs h
 b:∀h∈cs,clsF f cs h∈bl
 nd:bl.Nodup
section
variable{f:List Nat->List Nat}{cs:List (List Nat)}{bl:List (List (List Nat))}
theorem Cl.meet(c:Cl f cs bl){p q:Aj}(hp:p∈bl)(hq:q∈bl){x:Ae}(h1:x∈p)(h2:x∈q):p=q:=by
 obtain⟨h,_,rfl⟩:=c.a p hp;obtain⟨h',_,rfl⟩:=c.a q hq;exact zzi ((Ox.mp h1).2.symm.trans (Ox.mp h2).2)
theorem Cl.ne(c:Cl f cs bl){p:Aj}(hp:p∈bl):p≠[]:=λz=>by
 obtain⟨h,hh,e⟩:=c.a p hp;have:h∈p:=by rw[e];exact Ox.mpr ⟨hh,rfl⟩
 rw[z] at this;cases this
theorem jV{p:Aj}(h:p≠[]):p.headD []∈p:=by cases p with
 | nil=>exact Fp h
 | cons a l=>exact KN
theorem Cl.dis(c:Cl f cs bl):∀p∈bl,∀q∈bl,hdL p=hdL q->p=q:=λp hp q hq e=>by
 have e:p.headD []=q.headD []:=by unfold hdL at e;injection e
 exact c.meet hp hq (jV (c.ne hp)) (by rw[e];exact jV (c.ne hq))
theorem Cl.init(hn:cs.Nodup):Cl id cs (cs.map λx=>[x]):=by
 have key:∀h∈cs,clsF id cs h=[h]:=λh hh=>by
  have h1:(clsF id cs h).Perm [h]:=(Ud (hn.filter _) (by simp)).mpr λx=>by
   rw[<- show clsF id cs h=cs.filter _ from rfl,Ox,K5];exact⟨λz=>z.2,λz=>⟨by rw[z];exact hh,z⟩⟩
  exact List.perm_singleton.mp h1
 refine(Ck (λp hp=>?_) (λh hh=>?_))
 .obtain⟨h,hh,rfl⟩:=Kr.mp hp;exact⟨h,hh,(key h hh).symm⟩
 .rw[key h hh];exact Ny hh
 .unfold Lq;rw[N8];exact hn.imp λh e=>h (by injection e)
noncomputable def Oi(bl:A5)(x y:Ae):Aj:=(bl.filter λp=>Bg C6 (p.map encS)||Bg (encS y) (p.map encS)).flatten
theorem Cl.join_mem(c:Cl f cs bl){x y z:Ae}(hx:x∈cs)(hy:y∈cs):z∈Oi bl x y↔z∈cs/\(f z=f x\/f z=f y):=by
 unfold Oi;rw[RM];simp only[Li,xE,decide_eq_true_eq,SJ];constructor
 .rintro⟨p,⟨hp,h⟩,hz⟩;obtain⟨h',_,rfl⟩:=c.a p hp;have hz:=Ox.mp hz;exact⟨hz.1,h.imp (λq=>hz.2.trans (Ox.mp q).2.symm) λq=>hz.2.trans (Ox.mp q).2.symm⟩
 .rintro⟨hz,h | h⟩;.exact(Ar ⟨c.b x hx,.inl (Ox.mpr (AY hx))⟩ (Ox.mpr ⟨hz,h⟩))
  .exact(Ar ⟨c.b y hy,.inr (Ox.mpr (AY hy))⟩ (Ox.mpr ⟨hz,h⟩))
theorem Cl.join_nd(c:Cl f cs bl)(hn:cs.Nodup)(x y:Ae):(Oi bl x y).Nodup:=by
 unfold Oi Lq;rw[xM];refine(BG (λp hp=>?_))
 .obtain⟨h,_,rfl⟩:=c.a p (Li.mp hp).1;exact hn.filter _
 .refine S8 (λ{p q} hp hq h u hu v hv e=>?_) (c.nd.filter _);subst e;exact h (c.meet (Li.mp hp).1 (Li.mp hq).1 hu hv)
theorem wW(f:Ae->Ae)(x y u v:Ae):ufS f (x,y) u=ufS f (x,y) v↔f u=f v\/((f u=f x\/f u=f y)/\(f v=f x\/f v=f y)):=by
 unfold ufS;exact bZ (x:=x) (y:=y) ((vM (f x) (f y)).imp (λh=>h) λh=>h)
theorem Cl.srt(c:Cl f cs bl)(hn:cs.Nodup)(hs:FB (cs.map encS) (Aa (a.leB b))){x y:Ae}(hx:x∈cs)(hy:y∈cs):srtS (Oi bl x y)=clsF (ufS f (x,y)) cs x:=by
 have hp:(clsF (ufS f (x,y)) cs x).Perm (Oi bl x y):=(Ud (hn.filter _) (c.join_nd hn x y)).mpr λz=>by
  rw[<- show clsF (ufS f (x,y)) cs x=cs.filter _ from rfl,Ox,c.join_mem hx hy,wW];exact and_congr_right λ_=>⟨λh=>h.elim .inl λh=>h.1,λh=>C1 h A6⟩
 have h1:FB (B6 (clsF (ufS f (x,y)) cs x)) (Aa (a.leB b)):=hs.sublist (B6 (xR));have h2:=Wi (alS λd hd=>by obtain⟨z,_,rfl⟩:=Kr.mp hd;exact⟨_,rfl⟩) (hp.map encS) h1;unfold srtS;rw[<- h2,jJ]
noncomputable def blkS(bl:A5)(x y:Ae):A5:=(bl.filter λp=>! Bg (hdL p) (B6 (Oi bl x y)))++[srtS (Oi bl x y)]
theorem Cl.step(c:Cl f cs bl)(hn:cs.Nodup)(hs:FB (cs.map encS) (Aa (a.leB b))){x y:Ae}(hx:x∈cs)(hy:y∈cs):Cl (ufS f (x,y)) cs (blkS bl x y):=by
 have hin:∀p,hdL p∈B6 (Oi bl x y)↔p.headD []∈Oi bl x y:=λp=>SJ;have keep:∀h∈cs,¬ (f h=f x\/f h=f y)->clsF (ufS f (x,y)) cs h=clsF f cs h:=λh _ hh=>by
  unfold clsF;refine xU λz _=>decide_eq_decide.mpr ?_;rw[wW];exact⟨λq=>q.elim id λq=>absurd q.2 hh,.inl⟩
 have merged:∀h,(f h=f x\/f h=f y)->clsF (ufS f (x,y)) cs h=clsF (ufS f (x,y)) cs x:=λh hh=>zzi ((wW f x y h x).mpr (C1 hh A6));unfold blkS;rw[c.srt hn hs hx hy];refine⟨λp hp=>?_,λh hh=>?_,SQ.mpr ⟨c.nd.filter _,by simp,λp hp q hq e=>?_⟩⟩
 .rcases K9.mp hp with hp | hp
  .obtain⟨h1,h2⟩:=Li.mp hp;obtain⟨h,hh,e⟩:=c.a p h1;refine(Ck h hh);rw[keep h hh λz=>?_];.exact e
   .have h2:¬ hdL p∈B6 (Oi bl x y):=by simpa using h2
    rw[hin,c.join_mem hx hy] at h2;have h3:=jV (c.ne h1);have h3:p.headD []∈clsF f cs h:=by rw[<- e];exact h3
    have h3:=Ox.mp h3;exact h2 ⟨h3.1,z.imp (λq=>h3.2.trans q) λq=>h3.2.trans q⟩
  .exact⟨x,hx,K5.mp hp⟩
 .by_cases z:f h=f x\/f h=f y;.rw[merged h z];simp
  .rw[keep h hh z];refine Ml _ (Li.mpr (BG (c.b h hh)));rw[Vt,decide_eq_false_iff_not,hin,c.join_mem hx hy];have h3:=Ox.mp (jV (c.ne (c.b h hh)));exact λq=>z (q.2.imp (λr=>h3.2.symm.trans r) λr=>h3.2.symm.trans r)
 .rw[K5.mp hq] at e;obtain⟨h1,h2⟩:=Li.mp hp;have h2:¬ hdL p∈B6 (Oi bl x y):=by simpa using h2
  rw[hin,c.join_mem hx hy] at h2;have h3:=jV (c.ne h1);have h3:p.headD []∈clsF (ufS f (x,y)) cs x:=by rw[<- e];exact h3
  have h3:=Ox.mp h3;refine h2 (BG h3.1);exact((wW f x y _ x).mp h3.2).elim .inl λq=>q.1
theorem zvu:∀xs:Aj,(M8 f xs).Sublist xs:=λxs=>by
 induction xs using Ph with
 | h0=>exact yE _
 | hs xs x ih =>
  rw[T5];unfold Sv;split;.exact ih.trans (List.sublist_append_left _ _)
  .exact ih.append (yE _)
theorem zrh:∀xs:Aj,∀h∈M8 f xs,Cw (clsF f xs h).head? h:=λxs=>by
 induction xs using Ph with
 | h0=>intro h hh;cases hh
 | hs xs x ih =>
  intro h hh;rw[T5] at hh;unfold Sv at hh;have e:clsF f (xs++[x]) h=clsF f xs h++clsF f [x] h:=RL ..;split at hh;.rw[e,Zvh,ih h hh];rfl
  .rename_i hno;rcases K9.mp hh with hh | hh;.rw[e,Zvh,ih h hh];rfl
   .have hx:h=x:=K5.mp hh;subst hx;have e0:clsF f xs h=[]:=lQ.mpr λy hy z=>hno (by
     rw[yag,Pk];exact⟨y,hy,z⟩);rw[e,e0,xY];unfold clsF;simp
theorem Cl.parts(c:Cl f cs bl)(hn:cs.Nodup)(hs:FB (cs.map encS) (Aa (a.leB b))):M3 f cs=Wv bl:=by
 have hnp:(M3 f cs).Nodup:=by
  unfold M3 Lq;rw[N8];have:=zob (f:=f) (xs:=cs);unfold Lq at this;rw[N8] at this;refine S8 (λ{a b} ha hb h e=>h ?_) this;have:a∈clsF f cs b:=by
   unfold clsF;rw[<- e];exact Ox.mpr (AY (bW ha))
  exact(Ox.mp this).2
 refine ztc c.dis ((Ud hnp c.nd).mpr DM) ?_
 .constructor
  .intro hp;obtain⟨h,hh,rfl⟩:=Kr.mp hp;exact c.b h (bW hh)
  .intro hp;obtain⟨h,hh,rfl⟩:=c.a p hp;obtain⟨y,hy,e⟩:=(YD (f:=f) (xs:=cs) (f h)).mpr (Dm h hh);exact Kr.mpr ⟨y,hy,zzi e⟩
 .unfold M3;rw[N8];have h1:=hs.sublist (B6 (zvu (f:=f) cs));rw[N8] at h1;have h2:∀h∈M8 f cs,hdL (cs.filter λt=>An (f t) (f h))=encS h:=λh hh=>by
   have:=zrh cs h hh;unfold clsF at this;unfold hdL encS;rw[List.headD_eq_head?_getD,this];rfl
  exact S8 (λ{a b} ha hb h=>by rw[h2 a ha,h2 b hb];exact h) h1
end
theorem zyx(b:Ag):FB (B6 BO) (Aa (a.leB b)):=by rw[Zi];exact aY _
noncomputable def yiw(ds:Ac):Prop:=∃b:Ag,ds=[BK]/\Ei 60/\(ded (nmD b)).length<64
noncomputable def ygq:Ac->Ac
 | [.lst b]=>DS (RC (b.map unF))
 | _=>[]
theorem zqn(b:Ag):ygq [BK]=DS AV:=by
 show DS (RC ((Fc).map unF))=_;rw[Rx]
theorem ykd{f:Ae->Ae}{cs:Aj}{bl:A5}(c:Cl f cs bl)(hn:cs.Nodup):bl.flatten.length<=cs.length:=by
 refine W4 ?_ λx hx=>?_
 .unfold Lq;rw[xM];refine⟨λp hp=>?_,S8 (λ{p q} hp hq h u hu v hv e=>?_) c.nd⟩
  .obtain⟨h,_,rfl⟩:=c.a p hp;exact hn.filter _
  .subst e;exact h (c.meet hp hq hu hv)
 .obtain⟨p,hp,hx⟩:=RM.mp hx;obtain⟨h,_,rfl⟩:=c.a p hp;exact(Ox.mp hx).1
theorem yd4{f:Ae->Ae}{cs:Aj}{bl:A5}(c:Cl f cs bl):bl.length<=cs.length:=by
 have h:bl.length<=(cs.map (clsF f cs)).length:=W4 c.nd λp hp=>by
  obtain⟨h,hh,e⟩:=c.a p hp;exact Kr.mpr ⟨h,hh,e.symm⟩
 rw[Kg] at h;exact h
theorem zxi{α:Type}(p:α->Bool)(g:α->Ac)(xs:AK)(k:Nat)(x:α)(hk:AM xs k x):((xs.take (k+1)).filter p).flatMap g=((xs.take k).filter p).flatMap g++(Ds (p x) (g x) []):=by
 rw[N7,hk,RL,ZC];congr 1;show(List.filter p [x]).flatMap g=_;by_cases h:Aa (p x);.rw[if_pos h,QB h,RP,lM]
 .rw[if_neg h,O5 h];rfl
theorem zoy{bl:A5}(p:Aj->Bool):(bl.filter p).flatMap (λq=>Fd)=B6 ((bl.filter p).flatten):=by
 rw[List.map_flatten,List.flatMap_def]
theorem zqv{α:Type}{l m:List AK}(h:l.Sublist m):l.flatten.length<=m.flatten.length:=by
 induction h with
 | slnil=>exact Az
 | cons a _ ih=>rw[Xd,K8];omega
 | cons_cons a _ ih=>rw[Xd,Xd,K8,K8];omega
theorem yd0{bl:A5}(p:Aj->Bool)(k:Nat):AB (((bl.take k).filter p).flatMap λq=>Fd) bl.flatten.length:=by
 rw[zoy,Kg];exact zqv (xR.trans (xT k bl))
theorem zn1(Z:B4 K):FnOk P w K mg base CX0 1 ad0.fY ad0.iK dU (SpO K yiw ygq):=by
 refine okO Z.uX.F Ww (by rintro ds ⟨c,rfl,_⟩;rfl) (CN _ (Kl (psn 1 Ww.nd (Ly (show OpR _ _ (Wn K) from bO) (FP rfl (LcOk.of (Nx:=(AO ["_law_book_here", "_law_cards_here", "_law_blocks_here", "_law_fact", "_law_joined", "_law_block"])) (sc:=KZ Vf) (N':=(AO ["_law_fact"])) (nt:=1) (cs:=[]) rfl rfl (by decide +kernel)) (Dj 0) (Fm 0 (Lq (AO ["_law_fact"])) rfl CT) TQ (Bt _ K 0)) (FP rfl (LcOk.of (Nx:=(AO ["_law_book_here", "_law_cards_here", "_law_blocks_here", "_law_fact", "_law_joined", "_law_block"])) (sc:=KZ Vf) (N':=(AO ["_law_fact"])) (nt:=1) (cs:=[]) rfl rfl (by decide +kernel)) (Dj 0) (Fm 0 (Lq (AO ["_law_fact"])) rfl CT) (Wf (Gu (show OpR _ _ (rInD K false) from Yl hr.units) (Bt _ K 0) (Qe (CS Mf Mf)))) (Bt _ K 0))))
   (Kl (aR (i:=2) Ww.nd rfl CT rfl (LcOk.of (Nx:=(AO ["_law_book_here", "_law_cards_here", "_law_blocks_here", "_law_fact", "_law_joined", "_law_block"])) (sc:=KZ Vf) (N':=(AO ["_law_card"])) (nt:=1) (cs:=[]) rfl rfl (by decide +kernel)) (Qm (Bz (Fg _ _ (YG P w K true) (sY rfl)) Z.QX RX (CO (Tz (Fg _ _ (U6 P w K true) (Yy rfl hr.units)) (by rfl) Z.Vj Xk (Bq 1))))) (Fm 0 (Lq (AO ["_law_card"])) rfl CT) (λ_ _ _ _=>TQ) (λ_ _ _ _=>(MK (Bq 0))))
   (Kl (DI Lx (Dj 0) 3 Ww.nd (En (CH Pb (Bt _ K 3) Mf _) (Kl (pP (i:=4) Ww.nd rfl (Uh rfl) (MK Oj))
   (Kl (DI Lx (Dj 2) 5 Ww.nd (En (PW.pt (R4 (Gu (show OpR _ _ (rInD K false) from Yl hr.units) (Bt _ K 3) (pv 5)) (Yb (Gu (show OpR _ _ (rInD K false) from Yl hr.units) (Bt _ K 3) (pv 5))))) (Le (O2 (Oe O9 Zwo F.type_list_extend (show MtM _ _ (ygn K) from yhb) (pv 4) (Bq 5))))))
   (Le (psn 2 Ww.nd (Ly (show OpR _ _ (Wn K) from bO) (FP rfl (LcOk.of (Nx:=(AO ["_law_book_here", "_law_cards_here", "_law_blocks_here", "_law_fact", "_law_joined", "_law_block"])) (sc:=KZ Vf) (N':=(AO ["_law_block", "_law_joined"])) (nt:=1) (cs:=[4]) rfl rfl (by decide +kernel)) (Dj 2) (Fm 0 (Lq (AO ["_law_block", "_law_joined"])) rfl CT) (Wf (Gu (show OpR _ _ (rInD K true) from zl4 hr.units) (FS (Dh _ K) 0) (pv 1))) (pv 0)) (MK (CO (Bz (show Om _ _ (YF K) from sW) Z.QX RX (Bq 4)))))))))))
   (BA (Bz (Fg _ _ (zr5 K) (zm5 (hu66 hr))) Z.QX RX (Bq 2)))))) Ep);obtain⟨b,rfl,hb,h64⟩:=hp;rw[zqn] at rt;have hz:Dk b.length:=by rw[K3];omega
 have h3:=RK (λf:Fct=>isPw BL) b;have hl2:AB (nmD b) 1000:=by
  unfold nmD;rw[K8,Kg,Kg];omega
 refine Kp (MN (ds:=nmD b) (bQ (EvO.l (U3 b encF (λf=>.str f.1) CD DX (by decide) hz λf hf=>(Ar Ls (DO rfl)))) (EvO.l (U0 b encF (λf=>isPw BL) (λf=>.str AA) CD DX (by decide) hz λf hf=>⟨_,Ls,Lh (ye4 (d:=.str BL) (ds:=W2) (DO rfl).b (QT (Dy C8 C8 K4) E6).b rfl rfl (by simp[D.dep])),λ_=>DO rfl⟩)) (by rw[Kg,Kg,K3];omega)) DM);((try dsimp only);refine Al);have hcl:=vP b;have hnd:=Vk b;have hso:=zyx b;have hc64:(BO).length<64:=by
  unfold cardsL Ry;rw[Kg,(Mw _).length_eq];exact h64
 refine Kp (MN (ds:=DS ((BO).map λx=>[x])) (by
  have:=U3 (K:=K) (G:=G) (Hz:=H) (L:=G) (ss:=[C3,.o p (nmD b),.un,.un,.un,.un]) (nt:=1) (cs:=[]) (g:=Ob 0) BO encS (λc=>.lst [encS c]) (EvO.l (by rw[Zi];exact sZ (P:=P) (w:=w) (ded (nmD b)) (Yz (Ow (i:=1) rfl) (hkS W3) hl2) (hkS W3) (alS W3) (U7 _) h64 λd=>Qk)) DX (by decide) (by rw[K3];omega) λc hc=>(Ar Ls (EvO.ev (NK (Fx (Mx (i:=0) rfl)) ER)));rw[Lf];exact this) λp2=>Rn (i:=2) rfl ?_);((try dsimp only);refine Al);refine Kp (Nt encF b (λk ss=>∃(bl:A5) (v3 v4 v5:Sl),ss=[C3,.o p (nmD b),BE (bl.map encB),v3,v4,v5]/\Cl (ufF (AZ Db)) BO bl) Ax ⟨_,.un,.un,.un,rfl,Cl.init hnd⟩ ?_ ?_)
 .rintro L' k f ss hL hk ⟨bl,v3,v4,v5,rfl,hc⟩;refine(Ar Ls Eh);have et:b.take (k+1)=Db++[f]:=by rw[N7,hk];rfl
  have hfb:f∈b:=KD hk;have hbl:=yd4 hc;have hfl:=ykd hc hnd;refine LC (b:=An BL Nh) (Lh (QR (l:=BL) (m:=Nh) (Ev.b (Ef (encS BL) Ax rfl)) (C8).b)) (λhs=>?_) (λhs=>?_)
  .have hs:=of_decide_eq_true hs;have hx:f.1∈BO:=Rz.mpr ⟨f,hfb,A6⟩;have hy:AA∈BO:=Rz.mpr ⟨f,hfb,.inr (AY (by rw[hs];exact vO))⟩;have hst:=hc.step hnd hso hx hy;have en:ufF (AZ (b.take (k+1)))=ufS (ufF (AZ Db)) (f.1,AA):=by rw[et,jM,if_pos hs,znv]
   rw[<- en] at hst;refine Kp (MN (NK K4 E6) λpj=>?_);((try dsimp only);refine Al);refine Kp (Nt encB bl (λm ss=>∃v5:Sl,ss=[C3,.o p (nmD b),BE (bl.map encB),.d (encF f),.o pj (((bl.take m).filter λq=>Bg DR Fd||Bg (encS AA) Fd).flatMap λq=>Fd),v5]) Ax (AY v5) ?_ ?_)
   .rintro L2 m q ss hL2 hm ⟨v5,rfl⟩;refine(Ar Ls (λN2 hN2=>?_));have etf:=zxi (λq=>Bg DR Fd||Bg (encS AA) Fd) (λq=>Fd) bl m q hm;have hpl:=yd0 (bl:=bl) (λq=>Bg DR Fd||Bg (encS AA) Fd) m;have hql:q.length<=bl.flatten.length:=(Zro (KD hm)).length_le;refine LC (Sd (Lh (qP (d:=DR) (ds:=Fd) (Ev.b (Ef DR Ax rfl)) Ao rfl (D.nbs_map jN q) BM)) λ_=>Lh (qP (d:=encS AA) (ds:=Fd) (Ev.b (Ef (encS AA) Ax rfl)) Ao rfl (D.nbs_map jN q) BM)) Dt Dt
    .rw[if_pos h] at etf;refine yhj (i:=4) rfl (Mx (i:=5) rfl).l (by rw[Kg,K3];omega) (hN2 _ (BG (.d (encB q))));rw[etf];rfl
    .rw[if_neg (by rw[h];decide),LR] at etf;refine Mj (hN2 _ (BG (.d (encB q))));rw[etf];rfl
   rintro ss ⟨v5,rfl⟩;rw[NB,zoy];((try dsimp only);refine Al);have hJ:((bl.filter λq=>Bg DR Fd||Bg (encS AA) Fd).flatten)=Oi bl f.1 AA:=rfl;rw[hJ];have hjl:AB (Oi bl f.1 AA) bl.flatten.length:=zqv xR;refine MN (ds:=DS (blkS bl f.1 AA)) ?_ λp6=>Rn (i:=2) rfl (hN _ ⟨blkS bl f.1 AA,_,_,_,rfl,hst⟩);have ej:B6 (srtS (Oi bl f.1 AA))=La (B6 (Oi bl f.1 AA)):=zns _;unfold blkS;rw[LQ];refine bQ (EvO.l (U0 bl encB (λq=>! Bg (hdL q) (B6 (Oi bl f.1 AA))) encB CD DX (by decide) (by rw[K3];omega) λq hq=>⟨_,Ls,Lh (zk4 (Ev.b (M6 (d:=hdL q) CD Ky.b ?_)) (Ow rfl).b rfl (D.nbs_map jN _) BM),λ_=>Ax⟩)) (EvO.l (NK (Fx ?_) ER)) ?_
   .have:=hc.ne hq;cases q with
    | nil=>exact Fp this
    | cons a l=>exact TF (j:=0) rfl
   .refine EvO.ev (ds:=B6 (srtS (Oi bl f.1 AA))) ?_;rw[ej];exact sX (Ow rfl) (alS λd hd=>by obtain⟨z,_,rfl⟩:=Kr.mp hd;exact⟨_,rfl⟩) (by rw[Kg];omega)
   .have:=RK (λq=>! Bg (hdL q) (B6 (Oi bl f.1 AA))) bl;rw[Kg,Kg,Oz,K3];omega
  .have hs:¬ BL=Nh:=of_decide_eq_false hs;have en:AZ (b.take (k+1))=AZ Db:=by rw[et,jM,if_neg hs]
   exact Mj (hN _ ⟨bl,_,_,_,rfl,by rw[en];exact hc⟩)
 rintro ss ⟨bl,v3,v4,v5,rfl,hc⟩;rw[NB] at hc;((try dsimp only);refine Al);have hbl:=yd4 hc;have e:(Wv bl).map txL=DS AV:=by
  rw[<- hc.parts hnd hso];rfl
 rw[<- e] at rt;exact UV (zqm (ps:=bl) CD (λp hp=>hc.ne hp) hc.dis (by omega)) rt
noncomputable def jW(q:A5×Ae)(ds:Ac):Prop:=ds=[.lst (DS q.1),encS q.2]/\q.2∈q.1.flatten/\AB q.1 100
noncomputable def jX(q:A5×Ae):D:=.int (plAt q.1 q.2:Nat)
theorem zpt(Z:B4 K):FnOk P w K mg base CX0 1 ad0.fZ ad0.iM dX (SpG K jW jX):=by
 refine Gr Z.WW.F zo7 (CN _ (Kl (DI Lx (Yc (by rfl) Z.Vi (CO (Bz TJ Z.QW R0 (Bq 0)))) 2 zo7.nd (En (Gu (show OpR _ _ (rInD K false) from Yl hr.units) (pv 1) (Ft (Dh _ K) 0 (pv 2))) (BA (pv 2))))
   (BA (pR pW Lg))) FW);obtain⟨bs,c⟩:=q;obtain⟨rfl,hc,hl⟩:=hp;have hl:bs.length<=100:=hl;have rt:RtD K G H Q (.int (BJ c:Nat)):=rt;have hll:((EW).length:Int)=(bs.length:Nat):=by rw[Kg]
 refine Kp (Yk (n:=((bs.length:Nat):Int)) (λk ss=>∃v2:Sl,ss=[BE EW,C9 c,v2] /\ ∀p∈bs.take k,c∉p) (UL (Ev.b (by rw[<- hll];exact UW (Mx rfl).l)) Wg) ⟨by omega,by omega⟩ (By .un (λp h=>by cases h)) ?_ ?_ (λ_ _ _ h=>h))
 .rintro k ss hk ⟨v2,rfl,hno⟩ N hN;have hkl:k<bs.length:=by omega
  have hb:AM bs k bs[k]:=Kv hkl;generalize bs[k]=p at hb;refine LC (b:=Bg (encS c) (p.map encS)) (Lh (qP Ao (Ev.b (M6 (d:=encB p) CD Ao (TF (by rw[KR,hb];rfl)))) rfl (D.nbs_map jN p) BM)) Dt (λh=>Mj (hN _ (Ar rfl (λq hq=>?_))))
  .have h:=SJ.mp (of_decide_eq_true h);have e:BJ c=k:=by
    have hlt:bs.findIdx (λp=>Bg c p)<bs.length:=lO.mpr ⟨p,KD hb,decide_eq_true h⟩;rcases ZG (plAt bs c) k with z | z | z
    .have hg:=xO (p:=λp=>Bg c p) (xs:=bs) (w:=hlt);exact absurd (of_decide_eq_true hg) (hno _ (KD (i:=BJ c) (by rw[lH z];exact Kv hlt)))
    .exact z
    .have hn:=List.not_of_lt_findIdx (p:=λp=>Bg c p) (xs:=bs) z;have e2:bs[k]=p:=by have:=Kv hkl;rw[hb] at this;injection this with this;exact this.symm
     rw[e2] at hn;simp[h] at hn
   rw[<- e];exact MP Ax rt
  .rw[N7,hb] at hq;rcases K9.mp hq with hq | hq;.exact hno q hq
   .rw[show q=p by simpa using hq];exact λz=>(of_decide_eq_false h) (SJ.mpr z)
 rintro ss ⟨v2,rfl,hno⟩;rw[show((bs.length:Nat):Int).toNat=bs.length by omega,NB] at hno;obtain⟨p,hp,hcp⟩:=RM.mp hc;exact absurd hcp (hno p hp)
noncomputable def badP(b:Ag):Ag:=b.filter λf=>An BL Lw&&An (plAt AV f.1:Int) (plAt AV AA:Int)
theorem zl0(b:Ag):Pj b=(badP b).map λf=>(f.1,AA):=by
 unfold Pj tpF badP;rw[Zwn,List.filter_filter];congr 1;refine xU λf hf=>?_;show(samB b (f.1,AA)&&An BL Lw)=_;rw[Bool.and_comm];by_cases h:BL=Lw
 .congr 1;have h1:f.1∈BO:=Rz.mpr ⟨f,hf,A6⟩;have h2:AA∈BO:=Rz.mpr ⟨f,hf,.inr (AY (by rw[h];exact vZ))⟩;unfold samB;rw[decide_eq_decide,Zyj];exact((zp1 (f:=ufF (AZ b)) h1 h2).trans (yjl (AZ b) (yfk b) _ h1 _ h2).symm).symm
 .rw[GH,lB,lB]
noncomputable def oddD(b:Ag):D:=match (badP b).head? with
 | some f=>encF f
 | none=>.non
noncomputable def yj2(b:Ag)(ds:Ac):Prop:=ds=[BK,.lst (DS AV)]/\Ei 60/\AB AV 100
theorem zvk(Z:B4 K):FnOk P w K mg base CX0 2 ad0.gA ad0.iQ dY (SpG K yj2 oddD):=by
 have jY:=zpt (P:=P) (w:=w) (base:=base) Z;refine Gr Z.uY.F zm2 (CN _ (Kl (DI Lx (Dj 0) 2 zm2.nd (En (PW.pt (pO (CH Pb (Bt _ K 2) Mf _) (pN (CH Pb (BC jY Z.WW (C5 1 (Bt _ K 2))) (BC jY Z.WW (C5 1 (Bt _ K 2))) _)))) (BA (pv 2))))
   (BA Ux)) (λG ds b hp rt=>?_));obtain⟨rfl,hb,hbl⟩:=hp;have hpt:=zku b;refine Kp (Nt encF b (λk ss=>∃v2:Sl,ss=[C3,BE (DS AV),v2] /\ ∀f∈Db,AL (An BL Lw&&An (plAt AV f.1:Int) (plAt AV AA:Int))) Ax (By .un (λf h=>by cases h)) ?_ ?_)
 .rintro L' k f ss hL hk ⟨v2,rfl,hno⟩;refine(Ar Ls Eh);have hf:f∈b:=KD hk;have h1:f.1∈BO:=Rz.mpr ⟨f,hf,A6⟩;have h2:BL=Lw->AA∈BO:=λh=>Rz.mpr ⟨f,hf,.inr (AY (by rw[h];exact vZ))⟩;refine LC (qM (Lh (QR (l:=BL) (m:=Lw) (Ev.b (Ef (encS BL) Ax rfl)) (C8).b)) λhq=>Lh (qJ (i:=(plAt AV f.1:Nat)) (j:=(plAt AV AA:Nat)) (Ev.b (Rq (pre:=jW) (res:=jX) (AV,f.1) (EG (Ef DR Ax rfl) K4) ⟨rfl,(hpt.mem _).mpr h1,hbl⟩)) (Ev.b (Rq (pre:=jW) (res:=jX) (AV,AA) (EG (Ef (encS AA) Ax rfl) K4) ⟨rfl,(hpt.mem _).mpr (h2 (of_decide_eq_true hq)),hbl⟩)))) Dt (λh=>Mj (hN _ (Ar rfl (λg hg=>?_))))
  .have e:oddD b=encF f:=by
    have:Cw (badP b).head? f:=by
     unfold badP;rw[Zvg,Zq8];have hkl:=Mg.mp hk;refine⟨h,Db,b.drop (k+1),?_,λx hx=>by rw[hno x hx];rfl⟩;have:=Ue k b;rw[Vx hkl.1,hkl.2] at this;exact this.symm
    unfold oddD;rw[this]
   rw[e] at rt;exact MP Ax rt
  .rw[N7,hk] at hg;rcases K9.mp hg with hg | hg;.exact hno g hg
   .rw[show g=f by simpa using hg];exact h
 rintro ss ⟨v2,rfl,hno⟩;rw[NB] at hno;((try dsimp only);refine Al);have e:oddD b= .non:=by
  have:badP b=[]:=lQ.mpr λf hf=>by rw[hno f hf];decide
  unfold oddD;rw[this];rfl
 rw[e] at rt;exact MP aV rt
noncomputable def yi3(q:Ch×Ag×Ae×Ae)(ds:Ac):Prop:=ds=[.lst (q.1.map encR),bkD B8,encS (B3).1,encS (B3).2]/\AB B8 60
theorem ygo(b:Ag)(f x y:Ae):(b.any λg=>An g.1 y&&(An g.2.1 f&&Bg (encS g.2.2) (B6 (txF b x f))))=sayS b f x y:=by
 unfold sayS;rw[LK,Zn,Pk];simp only[Lk,decide_eq_true_eq,SJ];constructor
 .rintro⟨g,hg,h1,h2,h3⟩;exact⟨g.2.2,h3,Kr.mpr (Dm g (Li.mpr ⟨hg,by simp[h1,h2]⟩))⟩
 .rintro⟨t,h1,h2⟩;obtain⟨g,hg,rfl⟩:=Kr.mp h2;obtain⟨hg,h3⟩:=Li.mp hg;rw[Lk,decide_eq_true_eq,decide_eq_true_eq] at h3;exact⟨g,hg,h3.1,h3.2,h1⟩
theorem znr(Z:B4 K):FnOk P w K mg base CX0 1 ad0.gB ad0.iR dZ (SpG K yi3 wL):=by
 refine Gr Z.uZ.F YZ (CN _ (Kl (psn 4 YZ.nd Lg)
   (Kl (Gw Lx (Dj 0) (R6 rfl (Nq (pgn 5 YZ.nd) (Nq (jZ (i:=6) YZ.nd rfl (Uh rfl)) R5))) (Kl (pP (i:=7) YZ.nd rfl (Uh rfl) (FP rfl (LcOk.of (Nx:=(AO ["_law_rows_here", "_law_book_here", "_law_one", "_law_other", "_law_weight_here", "_law_number", "_law_field", "_law_mine"])) (sc:=KZ YX) (N':=(AO ["_law_fact", "_law_one", "_law_field"])) (nt:=1) (cs:=[2,6]) rfl rfl (by decide +kernel)) (Dj 1) (Fm 0 (Lq (AO ["_law_fact", "_law_one", "_law_field"])) rfl CT) (Wf (PW.pt (pO (CH Pb (Bt _ K 0) (pv 1) _) (pN (CH Pb (Bt _ K 0) (pv 2) _))))) (Bt _ K 0)))
   (En (QL (Bz (ycq rfl) Z.Zgc boot_any (CO (FP rfl (LcOk.of (Nx:=(AO ["_law_rows_here", "_law_book_here", "_law_one", "_law_other", "_law_weight_here", "_law_number", "_law_field", "_law_mine"])) (sc:=KZ YX) (N':=(AO ["_law_fact", "_law_other", "_law_field", "_law_mine"])) (nt:=1) (cs:=[3,6,7]) rfl rfl (by decide +kernel)) (Dj 1) (Fm 0 (Lq (AO ["_law_fact", "_law_other", "_law_field", "_law_mine"])) rfl CT) TQ (zxk (aP Pb (Bt _ K 0) (pv 1) (Zv _)) (zxk (aP Pb (Bt _ K 0) (pv 2) (Zv _)) (yek (aP (show OpR _ _ (rInD K false) from Yl hr.units) (Bt _ K 0) (pv 3) (by with_unfolding_all rfl))))))))) (Le (psn 4 YZ.nd (Ly Od (pv 4) (pv 5)))))))
   (BA (pv 4)))) FW);obtain⟨rs,b,x,y⟩:=q;obtain⟨rfl,hb⟩:=hp;have hb:Ei 60:=hb;have rt:RtD K G H Q (.int (totR rs b x y)):=rt;refine Kp (NP Ky ?_);((try dsimp only);refine Al);refine Kp (Nt encR rs (λk ss=>∃v5 v6 v7:Sl,ss=[Fa encR,C3,C9 x,C9 y,A3 (totR (rs.take k) b x y),v5,v6,v7]) Ax ⟨.un,.un,.un,rfl⟩ ?_ ?_)
 .rintro L' k r ss hL hk ⟨v5,v6,v7,rfl⟩;refine(Ar (Sq rfl (DQ (DQ Sh))) Eh);have et:=zoz rs b x y k r hk;refine Kp (MN (ds:=B6 (txF b x r.1)) (by
   rw[yi1 (K:=K)];exact U0 b encF (λf=>An f.1 x&&An BL r.1) (λf=>.str AA) CD DX (by decide) (by rw[K3];omega) λf hf=>⟨_,Ls,qM (Lh (QR (l:=f.1) (m:=x) (Ev.b (Ef DR Ax rfl)) Ao)) λ_=>Lh (QR (l:=BL) (m:=r.1) (Ev.b (Ef (encS BL) Ax rfl)) Ao),λ_=>DO rfl⟩) λpm=>Rn (i:=7) rfl ?_);((try dsimp only);refine Al);refine LC (b:=sayS b r.1 x y) (by
   rw[<- ygo];refine Qg (yhc (EvO.l (U3 b encF _ CD DX (by decide) (by rw[K3];omega) λf hf=>(Ar Ls ?_))));exact zzd (QR (l:=f.1) (m:=y) (Ev.b (Ef DR Ax rfl)) Ao) λ_=>zzd (QR (l:=BL) (m:=r.1) (Ev.b (Ef (encS BL) Ax rfl)) Ao) λ_=>qP (d:=encS AA) (Ev.b (Ef (encS AA) Ax rfl)) Ao rfl (D.nbs_map jN _) BM) Dt Dt
  .rw[if_pos h] at et;refine NP (Og Ao Ao) (hN _ ⟨A3 r.2,.d (.str r.1),BE (B6 (txF b x r.1)),?_⟩);rw[et];rfl
  .rw[if_neg (by rw[h];decide)] at et;refine Mj (hN _ ⟨A3 r.2,.d (.str r.1),BE (B6 (txF b x r.1)),?_⟩);rw[et];rfl
 rintro ss ⟨v5,v6,v7,rfl⟩;rw[NB];((try dsimp only);refine Al);exact MP Ax rt
noncomputable def yjk(q:Ch×Ag×A5)(ds:Ac):Prop:=ds=[.lst (q.1.map encR),bkD B8,.lst (DS B3)]/\AB B8 60/\AB B3 7/\(∀l∈tpF B8 Lw,l.1∈(B3).flatten/\l.2∈(B3).flatten)/\BI (B3).flatten.length
noncomputable def yfl(q:Ch×Ag×A5):D:=.tup [.int (Ew (B3).length),.lst (La (trL (Wb q.1 B8 B3) (B3).length)),.lst (La (ded (apL B8 B3)))]
theorem zuh(W:Nat->Nat->Int)(n:Nat):trL W (n+1)=trL W n++EZ (K6 n) (λi=>! An (W i n) 0) (λi=>triD i n (W i n)):=by unfold trL;rw[SX,ZC,lM]
theorem wX(W:Nat->Nat->Int):∀n,AB (trL W n) (n*n)
 | 0=>Az
 | n+1=>by
  have h1:=wX W n;have h2:=RK (λi=>! An (W i n) 0) (K6 n);rw[Oo] at h2;rw[zuh,K8,Kg,yK,Nat.mul_add];omega
theorem ycu(g:Ae->Int)(xs:Aj)(k:Nat)(x:Ae)(hk:AM xs k x):((xs.take (k+1)).map g).sum=((xs.take k).map g).sum+g x:=by
 rw[N7,hk,LQ,Zwj];simp
theorem yhp(p:Nat->Bool)(g:Nat->D)(k:Nat):EZ (K6 (k+1)) p g=EZ (K6 k) p g++(Ds (p k) [g k] []):=by
 rw[SX,RL,LQ];congr 1;by_cases h:Aa (p k);.rw[if_pos h,QB h];rfl
 .rw[if_neg h,O5 h];rfl
theorem zwe(Z:B4 K):FnOk P w K mg base CX0 2 ad0.gC ad0.iT eG (SpG K yjk yfl):=by
 have jY:=zpt (P:=P) (w:=w) (base:=base) Z;have Zfv:=znr (P:=P) (w:=w) (base:=base) Z;refine Gr Z.vA.F Rv (CN _ (Kl (psn 3 Rv.nd (MK Oj))
   (Kl (DI Lx (Yc (by rfl) Z.Vi (CO (Bz TJ Z.QW R0 (Bq 2)))) 4 Rv.nd (Le (DI Lx (Yc (by rfl) Z.Vi (Bq 4)) 5 Rv.nd (Kl (psn 6 Rv.nd Lg)
   (Kl (Gw Lx (Qm (Ft (Dh _ K) 2 (pv 5))) (jZ (i:=7) Rv.nd rfl (Uh rfl)) (Le (psn 6 Rv.nd (Ly Od (pv 6) (Bz (Fg _ _ (ygp K) (zyz rfl)) Z.Zgb boot_sum (CO (FP rfl (LcOk.of (Nx:=(AO ["_law_rows_here", "_law_book_here", "_law_blocks_here", "_law_pairs", "_law_j", "_law_i", "_law_weight_here", "_law_card", "_law_aparts", "_law_fact"])) (sc:=KZ eF) (N':=(AO ["_law_other", "_law_rows_here", "_law_book_here", "_law_card"])) (nt:=1) (cs:=[0,1,7]) rfl rfl (by decide +kernel)) (Qm (Ft (Dh _ K) 2 (pv 4))) (Fm 0 (Lq (AO ["_law_other", "_law_rows_here", "_law_book_here", "_law_card"])) rfl CT) TQ (BC Zfv Z.uZ (E3 1 (E3 2 (Dp 3 0)))))))))))
   (En (CH We (pv 6) Lg _) (Le (O2 (Oe O9 P0 Qt Qf (pv 3) (CO (Qe (E3 5 (Dp 4 6)))))))))))))
   (Kl (psn 8 Rv.nd (MK Oj))
   (Kl (DI Lx (Dj 1) 9 Rv.nd (En (CH Pb (Bt _ K 9) Mf _) (Kl (psn 5 Rv.nd (BC jY Z.WW (C5 2 (Bt _ K 9))))
   (Kl (psn 4 Rv.nd (BC jY Z.WW (C5 2 (Bt _ K 9))))
   (Le (O2 (Oe O9 P0 Qt Qf (pv 8) (CO (Qe (CS (Bz (zo4 rfl) Z.WY ZM (Dp 5 4)) (Bz (zpr rfl) Z.WX ZP (Dp 5 4))))))))))))
   (BA (Qe (Ng (Bz TJ Z.QW R0 (Bq 2)) (CS (Bz (show Om _ _ (YF K) from sW) Z.QX RX (Bq 3)) (Bz (Fg _ _ (YG P w K false) (sY rfl)) Z.QX RX (CO (Tz (Fg _ _ (U6 P w K false) (Yy rfl hr.units)) (by rfl) Z.Vj Xk (Bq 8)))))))))))) FW);obtain⟨rs,b,bs⟩:=q;obtain⟨rfl,hb,hn,hin,hfl⟩:=hp;have hb:Ei 60:=hb;have hn:bs.length<=7:=hn;have hin:∀l∈tpF b Lw,l.1∈bs.flatten/\l.2∈bs.flatten:=hin;have hfl:BI bs.flatten.length:=hfl;have rt:RtD K G H Q (.tup [.int ((bs.length:Nat):Int),.lst (La (trL (Wb rs b bs) bs.length)),.lst (La (ded (apL b bs)))]):=rt;have hll:((EW).length:Int)=(bs.length:Nat):=by rw[Kg]
 have hat:∀k,k<bs.length->Ab (atI EW (k:Int)) (encB (EJ k)):=λk hk=>TF (by rw[KR,Kz,Kv hk];rfl);have hbl:∀k,AB (EJ k) bs.flatten.length:=λk=>by
  rw[Kz];cases e:bs[k]? with
  | none=>exact BM
  | some p=>exact(Zro (KD e)).length_le
 refine Kp (MN (NK K4 E6) DM);((try dsimp only);refine Al);refine Kp (Yk (n:=((bs.length:Nat):Int)) (λj ss=>∃v4 v5 v6 v7:Sl,ss=[Fa encR,C3,BE EW,.o p (trL (Wb rs b bs) j),v4,v5,v6,v7,.un,.un]) (UL (Ev.b (by rw[<- hll];exact UW (Mx rfl).l)) Wg) ⟨by omega,by omega⟩ ⟨.un,.un,.un,.un,rfl⟩ ?_ ?_ (λ_ _ _ h=>h))
 .rintro j ss hj ⟨v4,v5,v6,v7,rfl⟩ N hN;have hjl:j<bs.length:=by omega
  have htl:=wX (Wb rs b bs) j;have htl:AB (trL (Wb rs b bs) j) 49:=Nk htl (ZJ (show j<=7 by omega) (show j<=7 by omega));refine Yk (n:=(j:Int)) (λi ss=>∃v5 v6 v7:Sl,ss=[Fa encR,C3,BE EW,.o p (trL (Wb rs b bs) j++EZ (K6 i) (λi=>! An (Wb rs b bs i j) 0) (λi=>triD i j (Wb rs b bs i j))),A3 j,v5,v6,v7,.un,.un]) (UL Ao Wg) ⟨by omega,by omega⟩ ⟨v5,v6,v7,by rw[List.range_zero,RP,PK,LR];rfl⟩ ?_ ?_ (λ_ _ _ h=>h)
  .rintro i ss hi ⟨v5,v6,v7,rfl⟩ N2 hN2;have hil:i<bs.length:=by omega
   have hlen:=RK (λi=>! An (Wb rs b bs i j) 0) (K6 i);rw[Oo] at hlen;have hfi:=yhp (λi=>! An (Wb rs b bs i j) 0) (λi=>triD i j (Wb rs b bs i j)) i;refine Kp (NP Ky ?_);((try dsimp only);refine Al);refine Kp (Nt encS (EJ i) (λk ss=>∃v7:Sl,ss=[Fa encR,C3,BE EW,.o p (trL (Wb rs b bs) j++EZ (K6 i) (λi=>! An (Wb rs b bs i j) 0) (λi=>triD i j (Wb rs b bs i j))),A3 j,A3 i,A3 (((EJ i).take k).map λx=>((EJ j).map λy=>totR rs b x y).sum).sum,v7,.un,.un]) (M6 (d:=encB (EJ i)) CD Ao (hat i hil)) (AY v7) ?_ ?_)
   .rintro L2 k x ss hL2 hk ⟨v7,rfl⟩;refine(Ar Ls (λN3 hN3=>?_));have hlj:=hbl j;have es:∀ys:Aj,(ys.map λy=>D.int (totR rs b x y))=(ys.map λy=>totR rs b x y).map D.int:=λys=>by rw[Lf];rfl
    refine NP (Og Ao (Ev.b (yft (ns:=(EJ j).map λy=>totR rs b x y) (EvO.l (by
     rw[<- es];exact U3 (EJ j) encS (λy=>.int (totR rs b x y)) (Ev.l (ds:=B6 (EJ j)) (M6 (d:=encB (EJ j)) CD Ao (hat j hjl))) DX (by decide) (by rw[K3];omega) λy hy=>(Ar Ls (Rq (pre:=yi3) (res:=wL) (rs,b,x,y) (DV (DV K4)) (CW hb)))))))) (hN3 _ (BG (C9 x)));rw[ycu (λx=>((EJ j).map λy=>totR rs b x y).sum) _ _ _ hk];rfl
   rintro ss ⟨v7,rfl⟩;rw[NB];((try dsimp only);refine Al);have eW:(((EJ i).map λx=>((EJ j).map λy=>totR rs b x y).sum).sum)=Wb rs b bs i j:=rfl;rw[eW];refine LC (Lh (qK Ao Ky.b)) Dt Dt
   .rw[if_pos h] at hfi;refine TX (d:=triD i j (Wb rs b bs i j)) rfl (QT (DV DF) ER) (by rw[K8,Kg,K3];omega) (hN2 _ ⟨A3 i,A3 (Wb rs b bs i j),v7,?_⟩);rw[hfi,<- lZ];rfl
   .rw[if_neg (by rw[h];decide),LR] at hfi;refine Mj (hN2 _ ⟨A3 i,A3 (Wb rs b bs i j),v7,?_⟩);rw[hfi]
  rintro ss ⟨v5,v6,v7,rfl⟩;rw[show(j:Int).toNat=j by omega,<- zuh];exact hN _ ⟨_,_,_,_,rfl⟩
 rintro ss ⟨v4,v5,v6,v7,rfl⟩;rw[show((bs.length:Nat):Int).toNat=bs.length by omega];((try dsimp only);refine Al);refine Kp (MN (NK K4 E6) λp8=>?_);((try dsimp only);refine Al);refine Kp (Nt encF b (λk ss=>∃v4 v5 v9:Sl,ss=[Fa encR,C3,BE EW,.o p (trL (Wb rs b bs) bs.length),v4,v5,v6,v7,.o p8 (apL Db bs),v9]) Ax ⟨v4,v5,.un,rfl⟩ ?_ ?_)
 .rintro L' k f ss hL hk ⟨v4,v5,v9,rfl⟩;refine(Ar Ls Eh);have hf:f∈b:=KD hk;have et:b.take (k+1)=Db++[f]:=by rw[N7,hk];rfl
  have hkl:=(BS hk);have hal:=W5 Db Lw;rw[O6] at hal;refine LC (Lh (QR (l:=BL) (m:=Lw) (Ev.b (Ef (encS BL) Ax rfl)) (C8).b)) Dt Dt
  .have h:=of_decide_eq_true h;have hm:(f.1,AA)∈tpF b Lw:=Kr.mpr (Dm f (Li.mpr ⟨hf,decide_eq_true h⟩));obtain⟨m1,m2⟩:=hin _ hm;refine Dr (.int (BJ f.1:Nat)) (Rq (pre:=jW) (res:=jX) (bs,f.1) (EG (Ef DR Ax rfl) K4) ⟨rfl,m1,by show bs.length<=100;omega⟩) ?_;((try dsimp only);refine Al);refine Dr (.int (BJ AA:Nat)) (Rq (pre:=jW) (res:=jX) (bs,AA) (EG (Ef (encS AA) Ax rfl) K4) ⟨rfl,m2,by show bs.length<=100;omega⟩) ?_;((try dsimp only);refine Al);have e1:loP bs f.1 AA=if (Dl AA)<(Dl f.1) then (Dl AA) else (Dl f.1):=by unfold loP;split <;> omega
   have e2:hiP bs f.1 AA=if (Dl AA)>(Dl f.1) then (Dl AA) else (Dl f.1):=by unfold hiP;split <;> omega
   refine TX (i:=8) (d:=i2D bs (f.1,AA)) rfl (by
    unfold i2D;rw[e1,e2];exact QT (Dy (zz0 Ao Ao) (ya1 Ao Ao) K4) ER) (by unfold apL;rw[Kg,K3];omega) (hN _ ⟨A3 (BJ AA:Nat),A3 (BJ f.1:Nat),.d (encF f),?_⟩);have ea:apL (b.take (k+1)) bs=apL Db bs++[i2D bs (f.1,AA)]:=by unfold apL;rw[et,jM,if_pos h,LQ];rfl
   rw[ea];rfl
  .have h:=of_decide_eq_false h;have ea:apL (b.take (k+1)) bs=apL Db bs:=by unfold apL;rw[et,jM,if_neg h]
   refine Mj (hN _ ⟨v4,v5,.d (encF f),?_⟩);rw[ea];rfl
 rintro ss ⟨v4,v5,v9,rfl⟩;rw[NB];((try dsimp only);refine Al);have hk:∀d∈apL b bs,Ci false:=λd hd=>by obtain⟨l,_,rfl⟩:=Kr.mp hd;rfl
 have hal:M7 (apL b bs):=FC ⟨.i,[.i],λd hd=>by obtain⟨l,_,rfl⟩:=Kr.mp hd;exact⟨_,rfl,rfl⟩⟩;have htp:=W5 b Lw;have hl:AB (apL b bs) 60:=by unfold apL;rw[Kg];omega
 have htl:=wX (Wb rs b bs) bs.length;have htl:AB (trL (Wb rs b bs) bs.length) 49:=Nk htl (ZJ hn hn);exact MP (QT (Dy (by rw[<- hll];exact UW (Mx rfl).l) (EvO.ev (sX (Ow rfl) (yei _ _) (by omega))) (Fx (EvO.ev (sZ (f:=false) (ded (apL b bs)) (Yz (Ow rfl) hk (by omega)) hk hal (U7 _) (by have:=bN (apL b bs);omega) λd=>Qk)))) ER) rt
theorem zpe(Z:B4 K):FnOk P w K mg base CX0 1 ad0.fQ ad0.iD dH (SpD K (λds=>∃c:Int,ds=[.int c]) λ_=>C2):=by
 refine okD Z.jE.F zph (by rintro ds ⟨c,rfl⟩;rfl) (CN _ (BA (zxk (Bz zjw Z.Rw S9 (C5 0 (X8 (v:=.ty "int") (by rfl) Z.Zgi boot_int rfl))) (yek (ykg (Bz zi7 Z.Rw S9 (C5 0 (X8 (v:=.ty "bool") (by rfl) Z.Zfs boot_bool rfl))))))) Ep);obtain⟨c,rfl⟩:=hp;exact MP (zzd (ykm Ao) λ_=>ykn (yg3 Ao)) rt
noncomputable def yhd(b:Ag):Prop:=∀f∈b,Aa (isPw BL)->minL f.1 AA=f.1/\maxL f.1 AA=AA/\f.1≠AA
theorem zw0(a b:Ae):minL a b=minL b a/\maxL a b=maxL b a:=by
 unfold minL maxL;by_cases h:a<b
 .have h2:¬ b<a:=λz=>RT _ (yC h z);simp[h,h2]
 .by_cases h2:b<a;.simp[h,h2]
  .have e:a=b:=mC (RW.mp h2) (RW.mp h);subst e;simp[h]
theorem yd2{b:Ag}(hn:yhd b){x y:Ae}(h:adjF b x y):(minL x y,Nh,maxL x y)∈b:=by
 rcases h with h | h
 .have h:=vY.mp h;obtain⟨h1,h2,_⟩:=hn _ h vO;have h1:minL x y=x:=h1;have h2:maxL x y=y:=h2;rw[h1,h2];exact h
 .have h:=vY.mp h;obtain⟨h1,h2,_⟩:=hn _ h vO;have h1:minL y x=y:=h1;have h2:maxL y x=x:=h2;rw[(zw0 x y).1,(zw0 x y).2,h1,h2];exact h
theorem zym(m:Ac):cutD m none (some (-1))=m.take (m.length - 1):=by
 unfold L2.cutD;have e:HT.sIx m.length m.length (some (-1))=m.length - 1:=by
  show(if (-1:Int)<0 then ((-1:Int)+(m.length:Int)).toNat else min (-1:Int).toNat m.length)=_;rw[if_pos (by decide)];omega
 rw[e,show HT.sIx m.length 0 none=0 from rfl,Zw5,Zze]
noncomputable def yjj(q:Ag×Fct×Aj)(ds:Ac):Prop:=ds=[.lst (B6 B3),encF B8,bkD q.1]/\ChF q.1 ((B8).1,(B8).2.2) B3/\yhd q.1/\(B8).1≠(B8).2.2
theorem zlp(Z:B4 K):FnOk P w K mg base CX0 1 ad0.gD ad0.iU eN (SpG K yjj λ_=>C2):=by
 refine Gr Z.vB.F zen (CN _ (Kl (Gj (PW.pt (R4 (Uz (QL (Bz (show Om _ _ (E8 (xs=[Ap,.ty "list"]/\A8 H p ys/\Q C2 H)) from ze3) Z.Rw S9 (C5 0 (X8 (v:=.ty "list") (by rfl) Z.Vh Xj rfl))))) (R4 (CH pY (Bz TJ Z.QW R0 (Bq 0)) Lg _) (R4 (CH We (FS (Dh _ K) 0) (Bt _ K 1) _) (Yb (CH We (Ft (Dh _ K) 0 (pR pW Lg)) (Bt _ K 1) _)))))) (BA Uw))
   (Kl (Gw Lx (zsa (by rfl) Z.Zgh (CS (UG Yg (pv 0) Ye (R8 (pR pW Lg))) (UG Yg (pv 0) (R8 Lg) Ye))) (R6 rfl (Nq (pgn 3 zen.nd) (Nq (pgn 4 zen.nd) R5))) (En (Gu (show OpR _ _ (rInD K true) from zl4 hr.units) (Qe (Ng (Bz (zlh rfl) Z.WY ZM (Dp 3 4)) (CS Mf (Bz (zkv rfl) Z.WX ZP (Dp 3 4))))) (pv 2)) (BA Uw)))
   (BA Uw))) FW);obtain⟨b,f,l⟩:=q;obtain⟨rfl,⟨R,par,lev,W,hin,hc⟩,hnb,hne⟩:=hp;dsimp only at W hin hc hne hnb;have hlen:=hc.len;have hl2:2<=l.length:=by
  rcases PN l.length 2 with z | z
  .exfalso;have e0:lev AA=0:=by omega
   have h1:=hc.first;have h2:=hc.last;rw[e0,h1] at h2;injection h2 with h2;exact hne h2
  .exact z
 have hlast:Ab (atI (l.map encS) (-1)) (encS AA):=by
  have h2:=hc.last;obtain⟨l',z,rfl⟩:∃l' z,l=l'++[z]:=by
   rcases List.eq_nil_or_concat l with rfl | ⟨l',z,rfl⟩;.simp at hl2
   .exact⟨l',z,by rw[List.concat_eq_append]⟩
  rw[K8,Oz] at hlen;rw[SN (by omega),show lev AA - l'.length=0 by omega] at h2;simp at h2;rw[LQ,<- h2];exact ybd _ _
 have hll:((l.map encS).length:Int)=(l.length:Nat):=by rw[Kg]
 refine Kp (LC (b:=(!true||(AF ((l.length:Nat):Int) 2||(! An f.1 f.1 || ! An AA AA)))) (Sd (UT (Qg (yeo CD))) λ_=>Sd (Lh (yhx (Ev.b (by rw[<- hll];exact UW (Mx rfl).l)) Ky.b)) λ_=>Sd (Lh (zx1 (l:=f.1) (m:=f.1) (Ev.b (M6 (d:=DR) CD Ky.b (TF (j:=0) (by rw[KR,hc.first];rfl)))) (Ev.b (Ef DR Ax rfl)))) λ_=>Lh (zx1 (l:=AA) (m:=AA) (Ev.b (M6 (d:=encS AA) CD (zx6 Ky.b).b hlast)) (Ev.b (Ef (encS AA) Ax rfl)))) D6 (λ_=>Mj ?_))
 .rw[decide_eq_false (by omega:¬ ((l.length:Nat):Int)<2),Gg,Gg] at hb;cases hb
 ((try dsimp only);refine Al);have e1:cutD (l.map encS) none (some (-1))=B6 (l.take (l.length - 1)):=by rw[zym,Kg,Zxm]
 have e2:cutD (l.map encS) (some 1) none=B6 (l.drop 1):=by rw[zk9 _ (by decide),xZ];rfl
 refine Kp (yi7 encS encS (l.take (l.length - 1)) (l.drop 1) (λk ss=>∃v3 v4:Sl,ss=[BE (l.map encS),.d (encF f),C3,v3,v4]) (by rw[<- e1];exact EvO.ev (Yp (Mx rfl).l Yo (Ss (zx6 Ky.b).b))) (by rw[<- e2];exact EvO.ev (Yp (Mx rfl).l (Ss Ky.b) Yo)) (by rw[O6,VB];omega) (Dm .un .un) ?_ ?_)
 .rintro L' k x y ss hL hx hy ⟨v3,v4,rfl⟩;refine(Ar (Sq rfl (DQ (DQ Sh))) Eh);have hk:=(BS hx);rw[O6] at hk;rw[lH (by omega)] at hx;rw[Xc,Nat.add_comm] at hy;have hm:=yd2 hnb (hc.adj k x y hx hy);refine LC (b:=! Bg (encF (minL x y,Nh,maxL x y)) Fc) (Lh (zk4 (QT (Dy (zr6 Ao Ao) C8 (Fx (zrz Ao Ao))) ER).b Ao (nbF (minL x y,Nh,maxL x y)) (D.nbs_map nbF b) (by have:=dpF (minL x y,Nh,maxL x y);omega))) Dt (λ_=>Mj (hN _ (Cm _)));rw[decide_eq_true (vI.mpr hm)] at h;cases h
 rintro ss ⟨v3,v4,rfl⟩;((try dsimp only);refine Al);exact MP ykw rt
noncomputable def encI(l:Cb):D:=.tup (l.map D.int)
theorem zyf{ds:Ac}(h:∀d∈ds,∃l,d=encI l):∃rs:List Cb,ds=rs.map encI:=by
 induction ds with
 | nil=>exact(AY [])
 | cons d ds ih =>
  obtain⟨l,rfl⟩:=h d KN;obtain⟨rs,rfl⟩:=ih λd hd=>h d (AS hd);exact(AY (l::rs))
theorem yf6(l:Cb):Aa (encI l).nb:=by unfold encI;rw[D.nb];exact D.nbs_map (λ_=>rfl) l
theorem zsx(l:Cb):(encI l).dep<=1:=by unfold encI;rw[D.dep];have:=D.deps_map (enc:=D.int) (n:=0) (λ_=>Az) l;omega
noncomputable def Q5(q:Int×List Cb×List Cb):D:=.tup [.int q.1,.lst ((B8).map encI),.lst ((B3).map encI)]
theorem zs7(q:Int×List Cb×List Cb):Aa (Q5 q).nb:=by
 unfold Q5;simp only[D.nb,D.nbs,D.nbs_map yf6,Zxr,Bool.true_and]
theorem zzx(q:Int×List Cb×List Cb):(Q5 q).dep<=60:=by
 unfold Q5;have h1:=D.deps_map zsx B8;have h2:=D.deps_map zsx B3;simp only[D.dep,D.deps];omega
noncomputable def yik(q:Int×List Cb×List Cb)(ds:Ac):Prop:=ds=[Q5 q,Q5 q]/\AB B8 100/\AB B3 100 /\ ∀l∈B8++B3,l.length<=10
theorem zr2(Z:B4 K):FnOk P w K mg base CX0 2 ad0.gF ad0.iV eQ (SpG K yik λ_=>C2):=by
 have Zev:=zpe (P:=P) (w:=w) (base:=base) Z;refine Gr Z.vC.F zk8 (CN _ (Kl (Gj (PW.pt (R4 (Uz (QL (Bz (show Om _ _ (E8 (xs=[Ap,.ty "tuple"]/\SqT K H p ys/\Q C2 H)) from zez) Z.Rw S9 (C5 0 (X8 (v:=.ty "tuple") (by rfl) Z.vG boot_tuple rfl))))) (R4 (CH (show OpR _ _ (rNeD K) from ykf hr.units) (pv 0) (pv 1) _) (Yb (Uz (QL (Bz (show Om _ _ (E8 (xs=[Ap,.ty "list"]/\A8 H p ys/\Q C2 H)) from ze3) Z.Rw S9 (CS (Bt _ K 0) (X8 (v:=.ty "list") (by rfl) Z.Vh Xj rfl))))))))) (BA Uw))
   (Kl (DI Lx (Qm (Ly (show OpR _ _ (Wn K) from bO) (Bt _ K 0) (Bt _ K 0))) 2 zk8.nd (En (PW.pt (R4 (Uz (QL (Bz (show Om _ _ (E8 (xs=[Ap,.ty "tuple"]/\SqT K H p ys/\Q C2 H)) from zez) Z.Rw S9 (C5 2 (X8 (v:=.ty "tuple") (by rfl) Z.vG boot_tuple rfl))))) (Yb (Uz (QL (Bz (yc8 rfl) Z.Zgg boot_all (CO (FP rfl (LcOk.of (Nx:=(AO ["_law_found", "_law_due_here", "_law_row"])) (sc:=KZ eO) (N':=(AO ["_law_number"])) (nt:=1) (cs:=[]) rfl rfl (by decide +kernel)) (yh9 (pv 2)) (Fm 0 (Lq (AO ["_law_number"])) rfl CT) TQ (BC Zev Z.jE (Bq 0)))))))))) (BA Uw)))
   (BA (BC Zev Z.jE (CO (Bt _ K 0)))))) FW);obtain⟨n,xs,ys⟩:=q;obtain⟨rfl,hx,hy,hrow⟩:=hp;have hx:xs.length<=100:=hx;have hy:ys.length<=100:=hy;have hrow:∀l∈xs++ys,l.length<=10:=hrow;refine Kp (LC (b:=(!true||(! An (Q5 (n,xs,ys)) (Q5 (n,xs,ys)) || !true))) (Sd (UT (Qg (yec (ds:=[.int n,E9 encI,.lst (ys.map encI)]) Ao))) λ_=>Sd (Lh (yis Ao Ao (zs7 _) (zs7 _) (zzx _))) λ_=>UT (Qg (yeo (Ev.l (ds:=xs.map encI) (W8 (ds:=[.int n,E9 encI,.lst (ys.map encI)]) Ax Ky.b rfl))))) D6 (λ_=>Mj ?_));.rw[Gg] at hb;cases hb
 ((try dsimp only);refine Al);refine Kp (Nt encI (xs++ys) (λk ss=>∃v2:Sl,ss=[.d (Q5 (n,xs,ys)),.d (Q5 (n,xs,ys)),v2]) (EvO.ev (by
  rw[LQ];exact bQ (Ev.l (W8 (ds:=[.int n,E9 encI,.lst (ys.map encI)]) Ax Ky.b rfl)) (Ev.l (W8 (ds:=[.int n,E9 encI,.lst (ys.map encI)]) Ax Ky.b rfl)) (by rw[Kg,Kg,K3];omega))) (AY .un) ?_ ?_)
 .rintro L' k l ss hL hk ⟨v2,rfl⟩;refine(Ar Ls Eh);have hl:=hrow l (KD hk);have ea:Aa ((l.map D.int).all (λ_=>true)):=by simp
  refine LC (b:=(!true || !(l.map D.int).all λ_=>true)) (Sd (UT (Qg (yec (ds:=l.map D.int) Ao))) λ_=>UT (Qg (yhn (EvO.l (zy0 (l.map D.int) (λ_=>C2) Ax DX (by decide) (by rw[Kg,K3];omega) λd hd=>?_))))) D6 (λ_=>Mj (hN _ (AY _)))
  .obtain⟨i,_,rfl⟩:=Kr.mp hd;exact(Ar Ls (Sg (pre:=λds=>∃c:Int,ds=[.int c]) (res:=λ_=>C2) DF (AY i)))
  .rw[ea] at hb;cases hb
 rintro ss ⟨v2,rfl⟩;((try dsimp only);refine Al);exact MP (Sg (pre:=λds=>∃c:Int,ds=[.int c]) (res:=λ_=>C2) (ds:=[.int n]) (Fx (W8 (ds:=[.int n,E9 encI,.lst (ys.map encI)]) Ax Ky.b rfl)) (AY n)) rt
theorem zwo(c:Int)(k:Nat):AB (Zq c k) 100:=by
 have h1:=jQ (Q4 c) none (some (cat_ c));have h2:=jQ (Q4 c) (some (cat_ c+1)) none;have h3:=zqg c;unfold Zq;rw[K8,K8,Oz];omega
theorem yf1:∀l:Ae,D.str l∈Qx-> ∀c∈l,c<128:=λl h=>by
 have:∀d∈Qx,∀c∈(match d with | .str l=>l | _=>[]),c<128:=by decide +kernel
 exact this (.str l) h
theorem zyl(i j:Nat)(w:Int):triD i j w=encI [(i:Int),(j:Int),w]:=rfl
theorem zt1(bs:A5)(l:Lnk):i2D bs l=encI [loP bs l.1 l.2,hiP bs l.1 l.2]:=rfl
theorem zx4{α:Type}{K:Kd}{G Hz L:Hp}{ss:Do}{t:TA}{ds:Ac}{E:XK}{pre:α->Aq Ac}{res:α->D}(x:α)(a:EvA K G Hz L ss t ds)(hp:pre x ds)(hf:Aa (res x).flat):Ay (Qv (SpG K pre res) [] E t) (res x):=λF H σ Q S q =>
 Eo F H σ _ S ⟨H1,ds,x,Same.refl _,by rw[LR];exact r1,hp,λv G' H' e2 r=>q v F1 H' (e1.trans ⟨Same.refl _,e1.fh.trans e2.hh,e2.hh,λ_ _ _ _=>rfl⟩) (r.flat hf)⟩
theorem yke(Z:B4 K):FnOk P w K mg base CX0 21 ad0.gG ad0.iW eU (vK K):=by
 have Zdu:=zmb (P:=P) (w:=w) (base:=base) Z;have Zga:=zqs (P:=P) (w:=w) (base:=base) Z;have Zgk:=zra (P:=P) (w:=w) (base:=base) Z;have Zgd:=zr1 (P:=P) (w:=w) (base:=base) Z;have Zfo:=zn1 (P:=P) (w:=w) (base:=base) Z;have Zgm:=zvk (P:=P) (w:=w) (base:=base) Z;have Zgq:=zwe (P:=P) (w:=w) (base:=base) Z;have Ze9:=zlp (P:=P) (w:=w) (base:=base) Z;have Zgj:=zr2 (P:=P) (w:=w) (base:=base) Z;have Zf5:=zp8 (P:=P) (w:=w) (base:=base) Z;have Zer:=zpd (P:=P) (w:=w) (base:=base) Z;refine Z.jF.F.ok Ql (λvs H Q E h=>by obtain⟨a,ns,rfl,_⟩:=h;rfl) (Gs (Kl (psn 1 Ql.nd (BC Zdu Z.Zg (C5 0 Lg)))
   (Kl (psn 2 Ql.nd (BC Zdu Z.Zg (C5 0 Lg)))
   (Kl (psn 3 Ql.nd (BC Zgk Z.uV (Ng (UG Yg (pv 0) (R8 Lg) (R8 Lg)) (Ng (BC Zga Z.uU (CS (Cq Yd (pv 1)) (Ly Od Lg (Cq Nr (pv 1))))) (Bq 2)))))
   (Kl (psn 4 Ql.nd (BC Zgd Z.uW (Ng (BC Zdu Z.Zg (C5 0 Lg)) (Bq 2))))
   (Kl (aR (i:=5) Ql.nd rfl CT rfl (LcOk.of (Nx:=(AO ["_law_script", "_law_first", "_law_cell", "_law_book_here", "_law_rows_here", "_law_rules", "_law_blocks_here", "_law_odd_here", "_law_handed", "_law_again", "_law_caught", "_law_found", "e"])) (sc:=KZ Y0) (N':=(AO ["_law_weight_here", "_law_field"])) (nt:=2) (cs:=[]) rfl rfl (by decide +kernel)) (Dj 4) (λ_ _ _ _=>(show PG _ _ (gTup K 2 _) from R6 rfl (Nq (GI 0 (Lq (AO ["_law_weight_here", "_law_field"])) rfl CT) (Nq (GI 1 (Lq (AO ["_law_weight_here", "_law_field"])) rfl CT) R5)))) (λ_ _ _ _=>TQ) (λ_ _ _ _=>(yhy Z.Zfa Zer GG (by rfl) Z.Zfm Z.Zee .nil Yh (Dp 0 1))))
   (Kl (psn 6 Ql.nd (BC Zfo Z.uX (Bq 3)))
   (Kl (psn 7 Ql.nd (BC Zgm Z.uY (Dp 3 6)))
   (Kl (psn 8 Ql.nd (Tz zjl (by rfl) Z.Vh Xj (Bq 3)))
   (Kl (DI Lx (Yc (by rfl) Z.Vi (CO Lg)) 9 Ql.nd (Kl (psn 10 Ql.nd Ux)
   (Kl (psn 11 Ql.nd Ux)
   (Kl (zwh (j:=11) Zf5 GG (by rfl) Z.Zf.M Z.Zf.F.kp Z.Zf.B (Dp 5 8) rfl rfl (by rfl) Z.uG Ql.nd (i:=12) rfl rfl (λx9=>(Le (psn 10 Ql.nd (pv (X:=Cx.inSuite (cxOf CX0 P w K mg base (AO ["_law_script", "_law_first", "_law_cell", "_law_book_here", "_law_rows_here", "_law_rules", "_law_blocks_here", "_law_odd_here", "_law_handed", "_law_again", "_law_caught", "_law_found", "e"]) "law" (KZ Y0) ad0.gG cdv A outer s H E).nox x9) 12)))) (By rfl rfl))
   (Le (xB (CH (show OpR _ _ sH from zrg) (pv 7) Ux _) (Kl (Gj (PW.pt (R4 (Uz (QL (Bz (show Om _ _ (cB K) from zlm) Z.Rw S9 (C5 10 (aM (v:=.ref ad0.Ms) (by rfl) Z.uH rfl))))) (R4 (QL (Bz (show Om _ _ (cB K) from zlm) Z.Rw S9 (C5 10 (aM (v:=.ref ad0.Wy) (by rfl) Z.Zep rfl)))) (Yb (QL (Bz (show Om _ _ (cB K) from zlm) Z.Rw S9 (C5 10 (aM (v:=.ref ad0.Wx) (by rfl) Z.Zew rfl)))))))) (BA Uw))
   (En (Uz (QL (BC Ze9 Z.vB (Ng (zw4 (pv 10) (by rfl)) (Dp 7 3))))) (BA Uw))) (Le (xB (PW.pt (R4 (CH (show OpR _ _ sH from zrg) (pv 10) Ux _) (Yb (Uz (QL (BC Zgj Z.vC (C5 11 (BC Zgq Z.vA (E3 4 (Dp 3 6)))))))))) (BA Uw) (Kl (O2 (zx9 O9 Zrl Zw8 zs0 (Bt _ K 11)))
   (Le (O2 (zx9 O9 Zrl Zw8 zs0 (Bt _ K 11)))))))))))))
   (BA (aP (show OpR _ _ (rEqD K) from yii hr.units) (pv 8) (pv 3) (Zv _)))))))))))) ?_);obtain⟨a,ns,rfl,sq,hl,hQ⟩:=h;have r:AN H [.lst FF] [Av]:=Reps.cons (Rep.lst sq (zqf ns)) Reps.nil;have rt:RtD K H H Q C2:=λv F H' e r=>by rw[r.of_bl];exact hQ H'
 refine(?_:Go K H H H _ (slots 13 [.lst FF]) _) H H _ (Ro (Same.refl H) r (by simp));have cell:∀k:Int,∃i,Ub [.lst FF,.int k]= Ca:=λk=>by
  show ∃i,(ns.map D.int).getD k.toNat (.int 0)= Ca;rw[Kz,KR];cases ns[k.toNat]? <;> exact(AY _)
 obtain⟨i0,ei0⟩:=cell 0;obtain⟨i1,ei1⟩:=cell 1;obtain⟨i2,ei2⟩:=cell 2;refine Dr (.int i0) (by rw[<- ei0];exact Sg (pre:=vH) (res:=Ub) (EG Ky K4) (Bh ns 0 (by omega))) ?_;((try dsimp only);refine Al);refine Dr (.int i1) (by rw[<- ei1];exact Sg (pre:=vH) (res:=Ub) (EG Ky K4) (Bh ns 1 (by omega))) ?_;((try dsimp only);refine Al);generalize hxs:(ns.drop 3).take 40=xs;have hxl:xs.length<=40:=by rw[<- hxs];simp;omega
 have exs:cutD (ns.map D.int) (some 3) (some 43)=xs.map D.int:=by
  rw[zti _ (by decide) (by decide),<- hxs,Zxm,xZ];rfl
 have hm0:=Q7 i0 (show(6:Int)≠0 by decide);have hm1:=Q6 i0 (show(0:Int)<6 by decide);have hcl:AB (cardsN (i0 / 6) (1+i0 % 6)) 6:=by unfold cardsN;rw[Kg,Oo];omega
 have hcn:cardsN (i0 / 6) (1+i0 % 6)≠[]:=λz=>by
  have:=congrArg PL z;unfold cardsN at this;rw[Kg,Oo] at this;simp at this;omega
 have hcs:∀x∈cardsN (i0 / 6) (1+i0 % 6),x.length<=100:=λx hx=>by
  obtain⟨k,_,rfl⟩:=Kr.mp hx;exact zwo _ _
 have eres:wQ [.int (i0 / 6),.int (1+i0 % 6)]=(cardsN (i0 / 6) (1+i0 % 6)).map D.str:=rfl;generalize cardsN (i0 / 6) (1+i0 % 6)=cs at hcl hcn hcs eres;refine Kp (zyw (i:=3) (pre:=zzk) (R:=zx3) (ds:=[E9 .int,.lst (cs.map .str),.int i1]) (Dy (EvO.ev (by rw[<- exs];exact Yp (Mx rfl).l (Ss Ky.b) (Ss Ky.b))) (EvO.ev (by rw[<- eres];exact QV (pre:=ztd) (res:=wQ) (Dy (Yu Ao Ky.b (F9 (by decide))) (Og Ky.b (EA Ao).b) K4) (BH _ _ (by omega) (by omega)))) DF) ⟨xs,cs,i1,rfl,hxl,hcn,hcs⟩ λrs0 hR pb=>Rn (i:=3) rfl ?_);obtain⟨b,rfl,hbk,hbl,hgd⟩:=hR xs cs i1 rfl;((try dsimp only);refine Al);have hce:∀c∈BO,c∈cs:=λc hc=>by
  obtain⟨f,hf,h⟩:=Rz.mp hc;rcases h with rfl | ⟨h,rfl⟩;.exact(hgd f hf).1
  .exact((hgd f hf).2.1 h).1
 have hc6:AB BO 6:=Nk (W4 (Vk b) hce) hcl;have h64:(ded (nmD b)).length<64:=by
  have:CJ BO (ded (nmD b)).length:=by unfold cardsL Ry;rw[Kg,(Mw _).length_eq]
  omega
 have hsb:jO b:=λf hf=>⟨Nk (hcs _ (hgd f hf).1) (by decide),Nk (hgd f hf).2.2 (by decide)⟩;have hnb:yhd b:=λf hf h=>(hgd f hf).2.1 h |>.2;refine Kp (zyw (i:=4) (pre:=yjd) (R:=ykr) (ds:=[.int i2,.int i1]) (Dy (by rw[<- ei2];exact Sg (pre:=vH) (res:=Ub) (EG Ky K4) (Bh ns 2 (by omega))) Ax K4) (Dm i2 i1) λrs0 hR pr=>Rn (i:=4) rfl ?_);obtain⟨rs,rfl,hrl,hrf⟩:=hR;((try dsimp only);refine Al);have hrc:∀r∈rs,∀c∈r.1,c<128:=λr hr=>yf1 _ (hrf r hr);refine Kp (MN (ds:=rs.map FN) (U3 rs encR FN CD (zy5 (Ym DX (Ym DX zrx))) (by decide) (by rw[K3];omega) λr hr=>(Ar (Sq rfl (DQ (DQ Sh))) (ydy (DV K4)))) λp5=>Rn (i:=5) rfl ?_);((try dsimp only);refine Al);have hpt:=zku b;have hbs6:AB AV 6:=Nk (zmt) hc6;refine Kp (MN (ds:=DS AV) (by rw[<- zqn];exact QV (pre:=yiw) (res:=ygq) DF ⟨b,rfl,by omega,h64⟩) λp6=>Rn (i:=6) rfl ?_);((try dsimp only);refine Al);refine Dr (oddD b) (Rq (pre:=yj2) (res:=oddD) b (DV K4) ⟨rfl,by omega,by omega⟩) ?_;((try dsimp only);refine Al);refine Kp (MN (ybb CD) λp8=>Rn (i:=8) rfl ?_);((try dsimp only);refine Al);have hwl:(wtsK rs b BO (BO).length).length<64:=by
  have:=znz rs b BO (BO).length;have h2:=ZJ hc6 hc6;omega
 refine Kp (Yk (n:=2) (λk ss=>∃v9 v10 v11 v12:Sl,ss=[BE FF,A3 i0,A3 i1,C3,Fa encR,Fa FN,BE (DS AV),.d (oddD b),C3,v9,v10,v11,v12]) (UL Ky.b Wg) (F9 (by decide)) ⟨.un,.un,.un,.un,rfl⟩ ?_ ?_ (λ_ _ _ h=>h))
 .rintro k ss hk ⟨v9,v10,v11,v12,rfl⟩ N hN;refine Kp (NP aV ?_);((try dsimp only);refine Al);refine Kp (NP aV ?_);((try dsimp only);refine Al);refine Kp (zrt (i:=12) (j:=11) (f:="chain") (pre:=yj6 ad0.Lb) (bad:=yj3) (res:=jU) (errR:=yjh) (rs,b) (DV K4) (Dq ⟨by show rs.length<=20;omega,hrc,by show b.length<=60;omega,h64⟩ hsb hwl) (λnb a p q hpq=>?_) Z.Zcm (by show 12<13;decide) λhbad d hd x dx=>?_)
  .have nb:Pj b=[]:=Yba.mp nb;have hP:badP b=[]:=by rw[zl0,List.map_eq_nil_iff] at nb;exact nb
   have ho:oddD b= .non:=by unfold oddD;rw[hP];rfl
   rw[ho];((try dsimp only);refine Al);refine LC (b:=! decide (D.non= .non)) (Lh (sI Ao)) (λh=>by rw[decide_eq_true rfl] at h;cases h) C4;obtain⟨r1,e1⟩:=zyf (ds:=La (trL (Wb rs b AV) (AV).length)) λd hd=>by
    obtain⟨i,j,_,_,_,rfl⟩:=wR.mp ((Mw _).mem_iff.mp hd);exact(Bb (zyl i j _))
   obtain⟨r2,e2⟩:=zyf (ds:=La (ded (apL b AV))) λd hd=>by
    obtain⟨l,_,rfl⟩:=Kr.mp (Qk.mp ((Mw _).mem_iff.mp hd));exact(Bb (zt1 _ l))
   have l1:r1.length<=100:=by
    have h1:=congrArg PL e1;rw[(Mw _).length_eq,Kg] at h1;have h2:=wX (Wb rs b AV) (AV).length;have h3:=ZJ hbs6 hbs6;omega
   have l2:r2.length<=100:=by
    have h1:=congrArg PL e2;rw[(Mw _).length_eq,Kg] at h1;have h2:=bN (apL b AV);have h3:=W5 b Lw;unfold apL at h2;rw[Kg] at h2;unfold apL at h1;omega
   have l3:∀l∈r1++r2,l.length<=10:=λl hl=>by
    have sz:∀{l l':Cb},encI l=encI l'->l.length=l'.length:=λ{l l'} e=>by
     unfold encI at e;injection e with e;have:=congrArg PL e;simpa using this
    rcases K9.mp hl with hl | hl
    .have:=Ny (f:=encI) hl;rw[<- e1] at this;obtain⟨i,j,_,_,_,e⟩:=wR.mp ((Mw _).mem_iff.mp this);rw[sz (e.trans (zyl i j _))];simp
    .have:=Ny (f:=encI) hl;rw[<- e2] at this;obtain⟨l',_,e⟩:=Kr.mp (Qk.mp ((Mw _).mem_iff.mp this));rw[sz (e.symm.trans (zt1 _ l'))];simp
   have eT:D.tup [.int (jU (rs,b)).1,.lst (jU (rs,b)).2.1,.lst (jU (rs,b)).2.2]=Q5 (((AV).length:Nat),r1,r2):=by
    show D.tup [.int ((AV).length:Nat),.lst (La (trL (Wb rs b AV) (AV).length)),.lst (La (ded (apL b AV)))]=_;rw[e1,e2];rfl
   have eD:yfl (rs,b,AV)=Q5 (((AV).length:Nat),r1,r2):=eT;have hfl:BI (AV).flatten.length:=by
    have:=W4 hpt.nd λx hx=>(hpt.mem x).mp hx;omega
   refine LC (b:=(! decide (D.non= .non) || !true)) (Sd (Lh (sI Ao)) λ_=>UT (Qg (zx4 (pre:=yik) (res:=λ_=>C2) (((AV).length:Nat),r1,r2) (UL (by rw[<- eT];exact ykc rfl) (UL (Ev.b (by rw[<- eD];exact Rq (pre:=yjk) (res:=yfl) (rs,b,AV) (DV DF) ⟨rfl,by show b.length<=60;omega,by show(RC b).length<=7;omega,λl hl=>⟨(hpt.mem _).mpr (Zm b l hl).1,(hpt.mem _).mpr (Zm b l hl).2⟩,hfl⟩)) Wg)) (Dq l1 l2 l3) rfl))) (λh=>by rw[decide_eq_true rfl] at h;cases h) C4;refine Kp (zwg (i:=11) hpq rfl ?_);((try dsimp only);refine Al);refine zvm (i:=11) hpq rfl (hN _ ?_);rw[ho];exact⟨_,_,_,_,rfl⟩
  .obtain⟨l,ch,hh,rfl,hch⟩:=hd;have hbad:Pj b≠[]:=hbad;obtain⟨f0,e0⟩:∃f0,Cw (badP b).head? f0:=by
    cases z:badP b with
    | nil=>exact absurd (by rw[zl0,z];rfl) hbad
    | cons f0 _=>exact(AY f0)
   have hf0:f0∈badP b:=List.mem_of_mem_head? e0;have hfb:f0∈b:=(Li.mp hf0).1;have hap:f0.2.1=Lw:=by
    have:=(Li.mp hf0).2;rw[Lk] at this;exact of_decide_eq_true this.1
   have ho:oddD b=encF f0:=by unfold oddD;rw[e0]
   have el:l=(f0.1,f0.2.2):=by
    rw[zl0,List.head?_map,e0] at hh;simpa using hh.symm
   subst el;refine yfv (i:=12) (j:=10) rfl (zxx (i:=12) rfl ?_);rw[ho];((try dsimp only);refine Al);refine LC (b:=! decide (encF f0= .non)) (Lh (sI Ao)) C4 (λh=>by rw[decide_eq_false (by intro z;cases z)] at h;cases h);refine Kp (LC (b:=(!true||(false||false))) (Sd (UT (Qg (zr9 (j:=10) rfl Z.Zc (.inl (Cm rfl)) Z.Zd8))) λ_=>Sd (Qg (zr9 (j:=10) rfl Z.Zc (.inl (Cm rfl)) Z.Zdd)) λ_=>Qg (zr9 (j:=10) rfl Z.Zc (.inl (Cm rfl)) Z.Zdn)) DW (λ_=>Mj ?_));((try dsimp only);refine Al);refine LC (b:=!true) (UT (Qg (Rq (pre:=yjj) (res:=λ_=>C2) (b,f0,ch) (Dy (zxu (j:=10) rfl Z.Zc Z.Zdq) Ax DF) (Dq hch hnb (hnb f0 hfb (by rw[hap];exact vZ)).2.2)))) DW (λ_=>Mj (hN _ ?_));rw[ho];exact⟨_,_,_,_,rfl⟩
 rintro ss ⟨v9,v10,v11,v12,rfl⟩;((try dsimp only);refine Al);have e3:=yj1 (K:=K) (G:=H) (Hz:=H) (L:=H) (ss:=[BE FF,A3 i0,A3 i1,C3,Fa encR,Fa FN,BE (DS AV),.d (oddD b),C3,v9,v10,v11,v12]) (d1:=BK) (d2:=BK) (Mx (i:=8) rfl).b (Mx (i:=3) rfl).b (yen b) (yen b) (by have:=ygh b;omega);rw[Gg] at e3;exact MP e3 rt
end
theorem lb1{n:Str}{s:Stmt}{ps:AC}(hp:ps.length=1)(h:∀(kV doc pm:Ka) (an:CB) (cdv ct a0:Ka),QJ (Ou n n (Pg s) (Mv s) (KZ s) .none kV doc pm an cdv ct) (Br [a0])=pure (ps.zip [a0])):Bd n s ps:=λkV doc pm an cdv ct us hl=>match us,hl.trans hp with
 | [a0],_=>h kV doc pm an cdv ct a0
theorem lb2{n:Str}{s:Stmt}{ps:AC}(hp:ps.length=2)(h:∀(kV doc pm:Ka) (an:CB) (cdv ct a0 a1:Ka),QJ (Ou n n (Pg s) (Mv s) (KZ s) .none kV doc pm an cdv ct) (Br [a0,a1])=pure (ps.zip [a0,a1])):Bd n s ps:=λkV doc pm an cdv ct us hl=>match us,hl.trans hp with
 | [a0,a1],_=>h kV doc pm an cdv ct a0 a1
theorem lb3{n:Str}{s:Stmt}{ps:AC}(hp:ps.length=3)(h:∀(kV doc pm:Ka) (an:CB) (cdv ct a0 a1 a2:Ka),QJ (Ou n n (Pg s) (Mv s) (KZ s) .none kV doc pm an cdv ct) (Br [a0,a1,a2])=pure (ps.zip [a0,a1,a2])):Bd n s ps:=λkV doc pm an cdv ct us hl=>match us,hl.trans hp with
 | [a0,a1,a2],_=>h kV doc pm an cdv ct a0 a1 a2
theorem lb4{n:Str}{s:Stmt}{ps:AC}(hp:ps.length=4)(h:∀(kV doc pm:Ka) (an:CB) (cdv ct a0 a1 a2 a3:Ka),QJ (Ou n n (Pg s) (Mv s) (KZ s) .none kV doc pm an cdv ct) (Br [a0,a1,a2,a3])=pure (ps.zip [a0,a1,a2,a3])):Bd n s ps:=λkV doc pm an cdv ct us hl=>match us,hl.trans hp with
 | [a0,a1,a2,a3],_=>h kV doc pm an cdv ct a0 a1 a2 a3
theorem Zey:Bd "neighbours_of" tE cG:=lb1 rfl Gv
theorem Zfg:Bd "steps_from" tG cH:=lb2 rfl E5
theorem Zf6:Bd "chain_of" tH cI:=lb3 rfl GE
theorem Zgp:Bd "joined" tL YJ:=lb2 rfl E5
theorem Zft(kV doc pm:Ka)(an:CB)(cdv ct:Ka)(us:Am)(hl:us.length=(AO ["self", "chain"]).length):QJ (Ou "__init__" "Odds.__init__" (Pg U9) (Mv U9) (KZ U9) .none kV doc pm an cdv ct) (Br us)=pure ((AO ["self", "chain"]).zip us):=match us,hl with
 | [_,_],_=>rfl
theorem Zf7:Bd "cards_of" YK YL:=lb1 rfl Gv
theorem Zf4:Bd "texts_of" cM cO:=lb3 rfl GE
theorem Zfi:Bd "told_pairs" cP YM:=lb2 rfl E5
theorem Zfq:Bd "places_in" tM YQ:=lb1 rfl Gv
theorem Zfy:Bd "blocks_of" tO cR:=lb1 rfl Gv
theorem Zfz:Bd "weight_of" tQ cU:=lb4 rfl λ_ _ _ _ _ _ _ _ _ _=>rfl
theorem Zex:Bd "facts_by_card" tR cV:=lb1 rfl Gv
theorem Zfk:Bd "weights_of" tU cW:=lb2 rfl E5
theorem Zes:Bd "pair_of_places" tV cX:=lb3 rfl GE
theorem Ze8:Bd "block_pairs" cY cZ:=lb3 rfl GE
theorem Ze6:Bd "block_aparts" dB dC:=lb2 rfl E5
theorem Zfn:Bd "book_case" tW dD:=lb2 rfl E5
theorem Zgo:Bd "shares" tX dF:=lb2 rfl E5
theorem Zfx(kV doc pm:Ka)(an:CB)(cdv ct:Ka)(us:Am)(hl:us.length=(AO ["self", "weight", "field"]).length):QJ (Ou "__init__" "Rule.__init__" (Pg Vb) (Mv Vb) (KZ Vb) .none kV doc pm an cdv ct) (Br us)=pure ((AO ["self", "weight", "field"]).zip us):=match us,hl with
 | [_,_,_],_=>rfl
theorem Zfd(kV doc pm:Ka)(an:CB)(cdv ct:Ka)(us:Am)(hl:us.length=(AO ["self", "book", "one", "other"]).length):QJ (Ou "speaks" "Rule.speaks" (Pg Vc) (Mv Vc) (KZ Vc) .none kV doc pm an cdv ct) (Br us)=pure ((AO ["self", "book", "one", "other"]).zip us):=match us,hl with
 | [_,_,_,_],_=>rfl
theorem Zet(kV doc pm:Ka)(an:CB)(cdv ct:Ka)(us:Am)(hl:us.length=(AO ["self", "texts", "others"]).length):QJ (Ou "speaks_by" "Same.speaks_by" (Pg Vd) (Mv Vd) (KZ Vd) .none kV doc pm an cdv ct) (Br us)=pure ((AO ["self", "texts", "others"]).zip us):=match us,hl with
 | [_,_,_],_=>rfl
theorem Zeu(kV doc pm:Ka)(an:CB)(cdv ct:Ka)(us:Am)(hl:us.length=(AO ["self"]).length):QJ (Ou "sort_word" "Same.sort_word" (Pg Ve) (Mv Ve) (KZ Ve) .none kV doc pm an cdv ct) (Br us)=pure ((AO ["self"]).zip us):=match us,hl with
 | [_],_=>rfl
theorem Zfb:Bd "_law_cell_at" tY dG:=lb2 rfl E5
theorem Zfp:Bd "_law_whole" tZ dH:=lb1 rfl Gv
theorem Zff:Bd "_law_stream" uA dI:=lb2 rfl E5
theorem Zfw:Bd "_law_cards" dM dN:=lb2 rfl E5
theorem Zf9:Bd "_law_book" uB dO:=lb3 rfl GE
theorem Zf2:Bd "_law_rows" uC dR:=lb2 rfl E5
theorem Zfj:Bd "_law_blocks" Vf dU:=lb1 rfl Gv
theorem Zgr:Bd "_law_at" uD dX:=lb2 rfl E5
theorem Zgl:Bd "_law_odd" uE dY:=lb2 rfl E5
theorem Zfh:Bd "_law_weight" YX dZ:=lb4 rfl λ_ _ _ _ _ _ _ _ _ _=>rfl
theorem Zgf:Bd "_law_due" eF eG:=lb3 rfl GE
theorem Ze2:Bd "_law_is_chain" uF eN:=lb3 rfl GE
theorem Zf8:Bd "_law_good" eO eQ:=lb2 rfl E5
theorem Zgn:Bd "law" Y0 eU:=lb1 rfl Gv
theorem all_mk{l:Zqy}{w:Km}{K:Kd}{mg:Str->A4}{fa Vg Wx Ms Lb Wy Wz eV eY eZ Y4 WD Y5 fB Y6 Y7 fC fD fG fH fJ fK fL fM fO WF WK WL WM fP fQ fU fV fW fX fY fZ gA gB gC gD gF gG:Addr}{gH gJ gK Y8 WN Y9 gM Za Zb gO gP gQ gR gU gW gY gZ iB WP WQ WR WT iC iD iG iH iI iJ iK iM iQ iR iT iU iV iW:Mp}(hfa:Cw (mg "law") (.ref fa))(uG:Cw (mg "FolkError") (.ref Vg))(Zew:Cw (mg "NoPair") (.ref Wx))(uH:Cw (mg "Odds") (.ref Ms))(Zfm:Cw (mg "Same") (.ref Lb))(Zep:Cw (mg "TooMany") (.ref Wy))(iY:XMk K Ms WD)(Zds:XStore K Ms "chain")(Zdz:CInitB K Vg)(Zc:XTell K Ms)(Ua:Cls K Lb)(iZ:Ov K Lb "field")(Zb5:Meth K Lb "sort_word" WM)(Zdc:Meth K Lb "speaks" WK)(uI:Ov K Lb "weight")(Zfa:Mk K Lb WF)(Zcm:Ab (Zvd K (.ref Ms) (.ref Vg)) true)(Zdn:Ab (X5 K (.ref Ms) (.ref Wx)) false)(Zdd:Ab (X5 K (.ref Ms) (.ref Wy)) false)(Zd8:Ab (X5 K (.ref Ms) (.ref Ms)) true)(Zdq:Ov K Ms "chain")(Zb4:Meth K Lb "speaks_by" WL)(Zdr:Cw (mg "PAIR_FIELDS") (.ref Wz))(Zdt:TupK K Wz [[115,97,109,101],[97,112,97,114,116]])(uJ:FX K mg "neighbours_of" tE cG eV gH)(uK:FX K mg "steps_from" tG cH eY gJ)(uL:FX K mg "chain_of" tH cI eZ gK)(uM:FX K mg "joined" tL YJ Y4 Y8)(Zeb:Fun K "__init__" "Odds.__init__" U9 WD WN)(Zea:M5 K WN ["self", "chain"] [])(jA:FX K mg "cards_of" YK YL Y5 Y9)(jB:FX K mg "texts_of" cM cO fB gM)(Zd:FX K mg "told_pairs" cP YM Y6 Za)(jC:FX K mg "places_in" tM YQ Y7 Zb)(Ze:FX K mg "blocks_of" tO cR fC gO)(uN:FX K mg "weight_of" tQ cU fD gP)(uO:FX K mg "facts_by_card" tR cV fG gQ)(uP:FX K mg "weights_of" tU cW fH gR)(jD:FX K mg "pair_of_places" tV cX fJ gU)(uQ:FX K mg "block_pairs" cY cZ fK gW)(uR:FX K mg "block_aparts" dB dC fL gY)(Zf:FX K mg "book_case" tW dD fM gZ)(uT:FX K mg "shares" tX dF fO iB)(Zd9:Fun K "__init__" "Rule.__init__" Vb WF WP)(Zee:M5 K WP ["self", "weight", "field"] [])(Zdp:Fun K "speaks" "Rule.speaks" Vc WK WQ)(Zdo:M5 K WQ ["self", "book", "one", "other"] [])(Zcl:Fun K "speaks_by" "Same.speaks_by" Vd WL WR)(Zco:M5 K WR ["self", "texts", "others"] [])(Zcp:Fun K "sort_word" "Same.sort_word" Ve WM WT)(Zcr:M5 K WT ["self"] [])(Zg:FX K mg "_law_cell_at" tY dG fP iC)(jE:FX K mg "_law_whole" tZ dH fQ iD)(Zh:FX K mg "_law_stream" uA dI fU iG)(uU:FX K mg "_law_cards" dM dN fV iH)(uV:FX K mg "_law_book" uB dO fW iI)(uW:FX K mg "_law_rows" uC dR fX iJ)(uX:FX K mg "_law_blocks" Vf dU fY iK)(WW:FX K mg "_law_at" uD dX fZ iM)(uY:FX K mg "_law_odd" uE dY gA iQ)(uZ:FX K mg "_law_weight" YX dZ gB iR)(vA:FX K mg "_law_due" eF eG gC iT)(vB:FX K mg "_law_is_chain" uF eN gD iU)(vC:FX K mg "_law_good" eO eQ gF iV)(jF:FX K mg "law" Y0 eU gG iW)(Zgg:mg "all" = none)(Zgc:mg "any" = none)(Zfs:mg "bool" = none)(vD:mg "enumerate" = none)(Zgi:mg "int" = none)(Rw:mg "isinstance" = none)(QW:mg "len" = none)(Vh:mg "list" = none)(WX:mg "max" = none)(WY:mg "min" = none)(Vi:mg "range" = none)(Zem:mg "reversed" = none)(Vj:mg "set" = none)(QX:mg "sorted" = none)(Zgb:mg "sum" = none)(vG:mg "tuple" = none)(Zgh:mg "zip" = none) :
  ∃fd:Mp,(∀(s:Ke) (v:Ka),Uo s fd (Br [v]) [("_law_script", v)]) /\ ∀base:Heap,K.In base->base.Ns QG mg->FnOk l.prog w K mg base CX0 21 fa fd ["_law_script"] (vK K):=by
 have e:=hfa.symm.trans jF.M;cases e;exact(Ar (jF.bt Zgn) (λbase _ _=>yke (ad0:=⟨Vg,Wx,Ms,Lb,Wy,Wz,eV,eY,eZ,Y4,WD,Y5,fB,Y6,Y7,fC,fD,fG,fH,fJ,fK,fL,fM,fO,WF,WK,WL,WM,fP,fQ,fU,fV,fW,fX,fY,fZ,gA,gB,gC,gD,gF,_,gH,gJ,gK,Y8,WN,Y9,gM,Za,Zb,gO,gP,gQ,gR,gU,gW,gY,gZ,iB,WP,WQ,WR,WT,iC,iD,iG,iH,iI,iJ,iK,iM,iQ,iR,iT,iU,iV,iW⟩) ⟨uG,Zew,uH,Zfm,Zep,iY,Zds,Zdz,Zc,Ua,iZ,Zb5,Zdc,uI,Zfa,Zcm,Zdn,Zdd,Zd8,Zdq,Zb4,Zdr,Zdt,uJ,uK,uL,uM,Zeb,Zea,jA,jB,Zd,jC,Ze,uN,uO,uP,jD,uQ,uR,Zf,uT,Zd9,Zee,Zdp,Zdo,Zcl,Zco,Zcp,Zcr,Zg,jE,Zh,uU,uV,uW,uX,WW,uY,uZ,vA,vB,vC,jF,Zgg,Zgc,Zfs,vD,Zgi,Rw,QW,Vh,WX,WY,Vi,Zem,Vj,QX,Zgb,vG,Zgh⟩))
theorem Zfc{K:Kd}{q_PAIR_FIELDS:Addr}{od_PAIR_FIELDS:CB}{nn_PAIR_FIELDS:Nat}{sl_PAIR_FIELDS:Array A4}{t0_PAIR_FIELDS t1_PAIR_FIELDS:Tok}(l_PAIR_FIELDS:Ab (K.lookup q_PAIR_FIELDS) ⟨EU, od_PAIR_FIELDS,.seq #[.str (T [115,97,109,101]) t0_PAIR_FIELDS,.str (T [97,112,97,114,116]) t1_PAIR_FIELDS] nn_PAIR_FIELDS,sl_PAIR_FIELDS⟩):TupK K q_PAIR_FIELDS [[115,97,109,101],[97,112,97,114,116]]:=yht l_PAIR_FIELDS rfl rfl rfl (by decide) (by decide) (λi l u h1 h2=>by rcases i with _ | _ | i <;> simp at h1 h2 <;> (subst h1;subst h2;exact(AY _)))
theorem xm_mk{K:Kd}{q g:Addr}(_:Cw (Py K (.ref q) "__init__") (some (.ref g)))(xi:Aa (L2.excInI K q L2.vmro "ValueError.__new__" g))(mf:Aa (aK K (.ref g)))(mc:Aa (Tv K (.ref q))):L2.XMk K q g:=⟨xi,mf,mc⟩
theorem walk{l:Zqy}{q:Ko}{loose:AC}{XP:(Str->A4)->Aq Heap}{YP:Km->Aq Heap}{d:DefRec}{K:Params->Kd}(hn:Ab l.most 63)(hdf:d.params.defaults=[])
  (hY:∀(w:Km) (h:Heap),YP w h->(K w.params).In h)
  (F:∀(w:Km) (mg:Str->A4) (fa:Addr) (h:Heap),(K w.params).In h->h.Ns QG mg->Ab (mg d.name) (.ref fa) ->
   ∃fd:Mp,(∀(s:Ke) (u:Ka),Uo s fd (Br [u]) [("_law_script", u)]) /\ ∀base:Heap,(K w.params).In base->base.Ns QG mg->FnOk l.prog w (K w.params) mg base CX0 21 fa fd ["_law_script"] (vK (K w.params))) :
  Zv2 q loose XP YP l.row.toRowW d [] (λf vs=>zY f vs) :=
 L2.walk_of (n:=63) (k:=21) (x:="_law_script") (CX:=λ_=>CX0) (sp:=λw=>vK (K w.params)) hn (by decide) hdf (Dq (by decide) (by decide) rfl) hY F (λ_ _ a ns hl _ hS=>⟨a,ns,rfl,hS,hl,λ_=>rfl⟩) λ_ _ _ _ _ z=>z
end My
namespace PySem.W.Fast
noncomputable def tw8880518614526907002:Unit:=()
noncomputable def tw15428861308780993008:Unit:=()
noncomputable def tw17947139306536233010:Unit:=()
noncomputable def tw4753465181068031143:Unit:=()
noncomputable def tw10672036972301163704:Unit:=()
noncomputable def tw11440458303442471981:Unit:=()
noncomputable def tw12945679363034777812:Unit:=()
noncomputable def tw6306044728425670609:Unit:=()
noncomputable def tw12107701166138600598:Unit:=()
noncomputable def tw15908019037327030661:Unit:=()
noncomputable def tw6230222110831138489:Unit:=()
noncomputable def tw14037637929974183807:Unit:=()
noncomputable def tw2802452716095431852:Unit:=()
noncomputable def tw7718992677650695669:Unit:=()
noncomputable def tw7810073750941413339:Unit:=()
noncomputable def tw14954577335878311272:Unit:=()
noncomputable def tw7126117214757024898:Unit:=()
noncomputable def tw5694402602988156079:Unit:=()
noncomputable def tw1534498765204387436:Unit:=()
noncomputable def tw2695541141945805136:Unit:=()
noncomputable def tw14503873564000253194:Unit:=()
noncomputable def tw9713026942495490262:Unit:=()
noncomputable def tw7212601672871447583:Unit:=()
noncomputable def tw16108668556951343195:Unit:=()
noncomputable def tw14033755479709462724:Unit:=()
noncomputable def tw14969442641179921847:Unit:=()
noncomputable def tw7238310120636098837:Unit:=()
noncomputable def tw4612233470798085829:Unit:=()
noncomputable def tw16043745732772424264:Unit:=()
noncomputable def tw16081035604600861387:Unit:=()
noncomputable def tw14761431467484964999:Unit:=()
noncomputable def tw2591147077364086142:Unit:=()
noncomputable def tw10302159175591040984:Unit:=()
noncomputable def tw8099756466047725057:Unit:=()
noncomputable def tw1212339917208185363:Unit:=()
noncomputable def tw18400258985886749303:Unit:=()
noncomputable def tw16256684390152440350:Unit:=()
noncomputable def tw17039556135521787727:Unit:=()
noncomputable def tw16543896701871622077:Unit:=()
noncomputable def tw9885483629026183135:Unit:=()
noncomputable def tw15577169921944506977:Unit:=()
noncomputable def tw11961786193164774066:Unit:=()
noncomputable def tw10309513469009857562:Unit:=()
noncomputable def tw3093992047294319599:Unit:=()
noncomputable def tw10877768778772944560:Unit:=()
noncomputable def tw3419439275938914333:Unit:=()
noncomputable def tw5582276702918671836:Unit:=()
noncomputable def tw7145035098333448029:Unit:=()
noncomputable def tw4640211431656471221:Unit:=()
noncomputable def tw15256072969402736522:Unit:=()
noncomputable def tw5343233807367250301:Unit:=()
noncomputable def tw8719241389295541494:Unit:=()
noncomputable def tw2695930213437803369:Unit:=()
noncomputable def tw10331549540555293332:Unit:=()
noncomputable def tw3585018631942253338:Unit:=()
noncomputable def tw16829973817217801697:Unit:=()
noncomputable def tw3610805567246908903:Unit:=()
noncomputable def tw7246264481518129611:Unit:=()
noncomputable def tw15348380760259678844:Unit:=()
noncomputable def tw3169130609663996268:Unit:=()
noncomputable def tw5960249919685382702:Unit:=()
noncomputable def tw16996914894581931884:Unit:=()
noncomputable def tw11562274181900426254:Unit:=()
noncomputable def tw11404636634742382877:Unit:=()
noncomputable def tw10590718183310576198:Unit:=()
noncomputable def tw4516798842568892621:Unit:=()
noncomputable def tw8870959505098444515:Unit:=()
noncomputable def tw13022376467242126271:Unit:=()
noncomputable def tw12457908166979076141:Unit:=()
noncomputable def tw5998666724470336856:Unit:=()
noncomputable def tw8832072868282151630:Unit:=()
noncomputable def tw15103795995046786311:Unit:=()
noncomputable def tw18000575802419840008:Unit:=()
noncomputable def tw4231139005563411573:Unit:=()
noncomputable def tw880306933462257247:Unit:=()
noncomputable def tw324832545042055160:Unit:=()
noncomputable def tw2692455448129762256:Unit:=()
noncomputable def tw5926714521450449101:Unit:=()
noncomputable def tw14219587513828286288:Unit:=()
noncomputable def tw828245805944380604:Unit:=()
noncomputable def tw9206252914232032131:Unit:=()
noncomputable def tw11714112592959350975:Unit:=()
noncomputable def tw4929940995063444020:Unit:=()
noncomputable def tw1648295604931481524:Unit:=()
noncomputable def tw13967551994235025932:Unit:=()
noncomputable def tw90476144133765307:Unit:=()
noncomputable def tw34662644040147393:Unit:=()
noncomputable def tw16100089094049292225:Unit:=()
noncomputable def tw9463329438426190955:Unit:=()
noncomputable def tw13258551242710026592:Unit:=()
noncomputable def tw7276108679579895222:Unit:=()
noncomputable def tw3153227906809105492:Unit:=()
noncomputable def tw12478644867073738994:Unit:=()
noncomputable def tw3715632372439682313:Unit:=()
noncomputable def tw15586632576825374751:Unit:=()
noncomputable def tw4660659726867816798:Unit:=()
noncomputable def tw2619082979644025726:Unit:=()
noncomputable def tw358049071590801084:Unit:=()
noncomputable def tw11785503472368560365:Unit:=()
noncomputable def tw1200166658023186187:Unit:=()
noncomputable def tw11425448686374444875:Unit:=()
noncomputable def tw13975668309193931703:Unit:=()
noncomputable def tw17732421080531253746:Unit:=()
noncomputable def tw7798633421019691886:Unit:=()
noncomputable def tw14879435797151864491:Unit:=()
noncomputable def tw15186999911827810044:Unit:=()
noncomputable def tw8526416910289675739:Unit:=()
noncomputable def tw13910154436921686660:Unit:=()
noncomputable def tw9731044570404793281:Unit:=()
noncomputable def tw2625672040387514166:Unit:=()
noncomputable def tw487133059103166953:Unit:=()
noncomputable def tw16793510443629213953:Unit:=()
noncomputable def tw15035928132839620874:Unit:=()
noncomputable def tw14713323631161091528:Unit:=()
noncomputable def tw733041958328910433:Unit:=()
noncomputable def tw2076742933942136784:Unit:=()
noncomputable def tw10441623672906243873:Unit:=()
noncomputable def tw12133934791661911016:Unit:=()
noncomputable def tw1589657974120880955:Unit:=()
noncomputable def tw6788125880448527058:Unit:=()
noncomputable def tw18036939004941108964:Unit:=()
noncomputable def tw4272512775766214631:Unit:=()
noncomputable def tw17472706159072452342:Unit:=()
noncomputable def tw12893483229577740685:Unit:=()
noncomputable def tw5499078426051200319:Unit:=()
noncomputable def tw8029229561259247021:Unit:=()
noncomputable def tw13278614724971737389:Unit:=()
noncomputable def tw14332043857793192085:Unit:=()
noncomputable def tw8194949029134721491:Unit:=()
noncomputable def tw13755942490009462899:Unit:=()
noncomputable def tw13872416858496119052:Unit:=()
noncomputable def tw8928202840107212010:Unit:=()
noncomputable def tw8796005705556682529:Unit:=()
noncomputable def tw12688390131929209311:Unit:=()
noncomputable def tw11612709537538839604:Unit:=()
noncomputable def tw7275359244385408813:Unit:=()
noncomputable def tw11290083816282678964:Unit:=()
noncomputable def tw3551793600015030843:Unit:=()
noncomputable def tw17962849852858161109:Unit:=()
noncomputable def tw14858154781535089643:Unit:=()
noncomputable def tw5626620979018823333:Unit:=()
noncomputable def tw8943633131008512607:Unit:=()
noncomputable def tw1333251429569034558:Unit:=()
noncomputable def tw1852041956148842619:Unit:=()
noncomputable def tw6177104101136156765:Unit:=()
noncomputable def tw6209772946370694452:Unit:=()
noncomputable def tw1525835835269761128:Unit:=()
noncomputable def tw8868262290608130946:Unit:=()
noncomputable def tw6681233162853342780:Unit:=()
noncomputable def tw6880322976563700982:Unit:=()
noncomputable def tw3593002901149023660:Unit:=()
noncomputable def tw9507045097537201095:Unit:=()
noncomputable def tw4761933287711943886:Unit:=()
noncomputable def tw1825987056890007521:Unit:=()
noncomputable def tw16733814623099325972:Unit:=()
noncomputable def tw6698667214649900694:Unit:=()
noncomputable def tw12756599381913139197:Unit:=()
noncomputable def tw4911130020777515228:Unit:=()
noncomputable def tw505911822338461044:Unit:=()
noncomputable def tw17214346328630518529:Unit:=()
noncomputable def tw11084572908438467921:Unit:=()
noncomputable def tw8749223815837497407:Unit:=()
noncomputable def tw7957290358491440607:Unit:=()
noncomputable def tw16178780022223652141:Unit:=()
noncomputable def tw9904482728316470610:Unit:=()
noncomputable def tw6110419241174586894:Unit:=()
noncomputable def tw14495654565560594352:Unit:=()
noncomputable def tw4966549674987275233:Unit:=()
noncomputable def tw12422873439879306144:Unit:=()
noncomputable def tw13916844510822598999:Unit:=()
noncomputable def tw10584620812369030702:Unit:=()
noncomputable def tw4870293656353676909:Unit:=()
noncomputable def tw5315253337249315509:Unit:=()
noncomputable def tw11945502101833262709:Unit:=()
noncomputable def tw5564882240522077808:Unit:=()
noncomputable def tw4461299551218112461:Unit:=()
noncomputable def tw4280419125602635339:Unit:=()
noncomputable def tw12617812677286920596:Unit:=()
noncomputable def tw1814640938355100100:Unit:=()
noncomputable def tw11219758004200415571:Unit:=()
noncomputable def tw7882586456247092854:Unit:=()
noncomputable def tw796807744670314117:Unit:=()
noncomputable def tw12036951260762552610:Unit:=()
noncomputable def tw3960696757705594491:Unit:=()
noncomputable def tw14056830973750330112:Unit:=()
noncomputable def tw379279454898878520:Unit:=()
noncomputable def tw1803375620817000081:Unit:=()
noncomputable def tw18267040533643831740:Unit:=()
noncomputable def tw9940278814254297910:Unit:=()
noncomputable def tw5295900845178524580:Unit:=()
noncomputable def tw15348516845420024306:Unit:=()
noncomputable def tw1986909081763557636:Unit:=()
noncomputable def tw4478259306455859218:Unit:=()
noncomputable def tw5335262539902652615:Unit:=()
noncomputable def tw13478180532815564591:Unit:=()
noncomputable def tw11794940250041232900:Unit:=()
noncomputable def tw15868755351766750030:Unit:=()
noncomputable def tw8885680827127776285:Unit:=()
noncomputable def tw12786870187783045962:Unit:=()
noncomputable def tw14344422755625396429:Unit:=()
noncomputable def tw18155174799128248486:Unit:=()
noncomputable def tw13742381003109598108:Unit:=()
noncomputable def tw17287712695751739364:Unit:=()
noncomputable def tw551902183342697525:Unit:=()
noncomputable def tw3438166638275980836:Unit:=()
end PySem.W.Fast
open PySem PySem.W PyProof.Rows
set_option maxRecDepth 100000 in
set_option maxHeartbeats 0 in
theorem PySem.Challenge.cw_folk_k44_the_case_of_a_book_holds : PySem.Challenge.rw_folk_k44_the_case_of_a_book.Holds := by
 w_on;o_law;k_head;(case hw=>w_witness2);k_fill;refine My.walk (l:=Znh) rfl rfl (λw h Y=>PySem.W.kIn_of Y) ?F;case F =>
  intro w mg fa h KX G hmg;refine' My.all_mk hmg (mg_of KX G ?a_FolkError) (mg_of KX G ?a_NoPair) (mg_of KX G ?a_Odds) (mg_of KX G ?a_Same) (mg_of KX G ?a_TooMany) (My.xm_mk ?me_Odds_init ?xi_Odds ?mf4 ?mc_Odds) ⟨?xs0_Odds,?xs1_Odds,?xs2_Odds,?xs3_Odds,?xi4_Odds⟩ ⟨?cb0_FolkError,?cb1_FolkError,?cb2_FolkError⟩ ⟨?t0_Odds,?t1_Odds,?t2_Odds,?t3_Odds,?t4_Odds,?t5_Odds,?t6_Odds,?t7_Odds⟩ ⟨?cl0_Same,?cl1_Same,?cl2_Same,?cl3_Same⟩ ((show Py _ _ _=some none from ?na_Same_field)) ⟨?me_Same_sort_word,?mf21,?k21⟩ ⟨?me_Same_speaks,?mf19,?k19⟩ ((show Py _ _ _=some none from ?na_Same_weight)) ⟨?mk_Same,?me_Same_init,?mf18,?mc_Same⟩ (?h_Odds_FolkError) (?i_Odds_NoPair) (?i_Odds_TooMany) (?i_Odds_Odds) ((show Py _ _ _=some none from ?na_Odds_chain)) ⟨?me_Same_speaks_by,?mf20,?k20⟩ (mg_of KX G ?a_PAIR_FIELDS) (My.Zfc ?l_PAIR_FIELDS) (L2.fx_mk KX G My.Zey ?a0 ?l0 ?c0 ?k0) (L2.fx_mk KX G My.Zfg ?a1 ?l1 ?c1 ?k1) (L2.fx_mk KX G My.Zf6 ?a2 ?l2 ?c2 ?k2) (L2.fx_mk KX G My.Zgp ?a3 ?l3 ?c3 ?k3) (L2.fun_mk (st:=My.U9) ?l4 ?c4 ?k4) ((L2.fun_mk (st:=My.U9) ?l4 ?c4 ?k4).binds My.Zft) (L2.fx_mk KX G My.Zf7 ?a5 ?l5 ?c5 ?k5) (L2.fx_mk KX G My.Zf4 ?a6 ?l6 ?c6 ?k6) (L2.fx_mk KX G My.Zfi ?a7 ?l7 ?c7 ?k7) (L2.fx_mk KX G My.Zfq ?a8 ?l8 ?c8 ?k8) (L2.fx_mk KX G My.Zfy ?a9 ?l9 ?c9 ?k9) (L2.fx_mk KX G My.Zfz ?a10 ?l10 ?c10 ?k10) (L2.fx_mk KX G My.Zex ?a11 ?l11 ?c11 ?k11) (L2.fx_mk KX G My.Zfk ?a12 ?l12 ?c12 ?k12) (L2.fx_mk KX G My.Zes ?a13 ?l13 ?c13 ?k13) (L2.fx_mk KX G My.Ze8 ?a14 ?l14 ?c14 ?k14) (L2.fx_mk KX G My.Ze6 ?a15 ?l15 ?c15 ?k15) (L2.fx_mk KX G My.Zfn ?a16 ?l16 ?c16 ?k16) (L2.fx_mk KX G My.Zgo ?a17 ?l17 ?c17 ?k17) (L2.fun_mk (st:=My.Vb) ?l18 ?c18 ?k18) ((L2.fun_mk (st:=My.Vb) ?l18 ?c18 ?k18).binds My.Zfx) (L2.fun_mk (st:=My.Vc) ?l19 ?c19 ?k19) ((L2.fun_mk (st:=My.Vc) ?l19 ?c19 ?k19).binds My.Zfd) (L2.fun_mk (st:=My.Vd) ?l20 ?c20 ?k20) ((L2.fun_mk (st:=My.Vd) ?l20 ?c20 ?k20).binds My.Zet) (L2.fun_mk (st:=My.Ve) ?l21 ?c21 ?k21) ((L2.fun_mk (st:=My.Ve) ?l21 ?c21 ?k21).binds My.Zeu) (L2.fx_mk KX G My.Zfb ?a22 ?l22 ?c22 ?k22) (L2.fx_mk KX G My.Zfp ?a23 ?l23 ?c23 ?k23) (L2.fx_mk KX G My.Zff ?a24 ?l24 ?c24 ?k24) (L2.fx_mk KX G My.Zfw ?a25 ?l25 ?c25 ?k25) (L2.fx_mk KX G My.Zf9 ?a26 ?l26 ?c26 ?k26) (L2.fx_mk KX G My.Zf2 ?a27 ?l27 ?c27 ?k27) (L2.fx_mk KX G My.Zfj ?a28 ?l28 ?c28 ?k28) (L2.fx_mk KX G My.Zgr ?a29 ?l29 ?c29 ?k29) (L2.fx_mk KX G My.Zgl ?a30 ?l30 ?c30 ?k30) (L2.fx_mk KX G My.Zfh ?a31 ?l31 ?c31 ?k31) (L2.fx_mk KX G My.Zgf ?a32 ?l32 ?c32 ?k32) (L2.fx_mk KX G My.Ze2 ?a33 ?l33 ?c33 ?k33) (L2.fx_mk KX G My.Zf8 ?a34 ?l34 ?c34 ?k34) (L2.fx_mk KX G My.Zgn ?a35 ?l35 ?c35 ?k35) (mg_none_of KX G ?y_all) (mg_none_of KX G ?y_any) (mg_none_of KX G ?y_bool) (mg_none_of KX G ?y_enumerate) (mg_none_of KX G ?y_int) (mg_none_of KX G ?y_isinstance) (mg_none_of KX G ?y_len) (mg_none_of KX G ?y_list) (mg_none_of KX G ?y_max) (mg_none_of KX G ?y_min) (mg_none_of KX G ?y_range) (mg_none_of KX G ?y_reversed) (mg_none_of KX G ?y_set) (mg_none_of KX G ?y_sorted) (mg_none_of KX G ?y_sum) (mg_none_of KX G ?y_tuple) (mg_none_of KX G ?y_zip);(case a_FolkError | a_NoPair | a_Odds | a_Same | a_TooMany | me_Odds_init | me_Same_sort_word | me_Same_speaks | me_Same_init | me_Same_speaks_by | a_PAIR_FIELDS | a0 | l0 | c0 | k0 | a1 | l1 | c1 | k1 | a2 | l2 | c2 | k2 | a3 | l3 | c3 | k3 | l4 | c4 | k4 | mf4 | a5 | l5 | c5 | k5 | a6 | l6 | c6 | k6 | a7 | l7 | c7 | k7 | a8 | l8 | c8 | k8 | a9 | l9 | c9 | k9 | a10 | l10 | c10 | k10 | a11 | l11 | c11 | k11 | a12 | l12 | c12 | k12 | a13 | l13 | c13 | k13 | a14 | l14 | c14 | k14 | a15 | l15 | c15 | k15 | a16 | l16 | c16 | k16 | a17 | l17 | c17 | k17 | l18 | c18 | k18 | mf18 | l19 | c19 | k19 | mf19 | l20 | c20 | k20 | mf20 | l21 | c21 | k21 | mf21 | a22 | l22 | c22 | k22 | a23 | l23 | c23 | k23 | a24 | l24 | c24 | k24 | a25 | l25 | c25 | k25 | a26 | l26 | c26 | k26 | a27 | l27 | c27 | k27 | a28 | l28 | c28 | k28 | a29 | l29 | c29 | k29 | a30 | l30 | c30 | k30 | a31 | l31 | c31 | k31 | a32 | l32 | c32 | k32 | a33 | l33 | c33 | k33 | a34 | l34 | c34 | k34 | a35 | l35 | c35 | k35=>k_is);(case xi_Odds=>kernel_rfl);(case mc_Odds | xs0_Odds | xs1_Odds | xs2_Odds | xs3_Odds=>k_is);(case xi4_Odds=>kernel_rfl);(case cb0_FolkError | cb1_FolkError | cb2_FolkError | t0_Odds | t1_Odds | t2_Odds | t3_Odds | t4_Odds | t5_Odds | t6_Odds | t7_Odds | cl0_Same | cl1_Same | cl2_Same | cl3_Same | na_Same_field | na_Same_weight | mk_Same | mc_Same=>k_is);(case h_Odds_FolkError=>kts_exm);(case i_Odds_NoPair | i_Odds_TooMany | i_Odds_Odds=>kit_is);(case na_Odds_chain | l_PAIR_FIELDS | y_all | y_any | y_bool | y_enumerate | y_int | y_isinstance | y_len | y_list | y_max | y_min | y_range | y_reversed | y_set | y_sorted | y_sum | y_tuple | y_zip=>k_is)
