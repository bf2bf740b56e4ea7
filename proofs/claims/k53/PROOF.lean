import PyProof.Rows.All
import Wide.All
import OpenK.AllK
import Wide.FinOn
import Lean
import PyProof.EqAt
import PyProof.EqKinds
import PyProof.TupleCall
import KE.KSortTup
import PySem.SetTable
import KE.KDictList
import PyProof.Rows.SeqMore
import PyProof.StrLawsIn
import PyProof.MeetsStr3
import PyProof.Rows.StrSplitMax
import KE.KDictLaws
import PyProof.Rows.CallKwBuiltin
import PyProof.ZipIter
import PyProof.Rows.ZipGen
import PyProof.Rows.StrWeight2
import KE.KDictSum
import KE.KTryMore
import PyProof.Rows.TopTwo
import PyProof.ExcBaseAll.ValueError
import KE.RegKIsAll
import KE.RegKTryMore
import PyProof.ExcAttrAll.ValueError
import PyProof.Rows.StrDouble
import OpenK.KCls
import KE.KIntText
import PyProof.CallStr
import KE.KSortKey
import KE.KItemsList
import KE.KPairComp
import KE.KMinKey
import KE.KLam
import PySem.Challenge.RW_folk_k53_whole_poured_at_a_desk
set_option maxRecDepth 100000
set_option hygiene false
local macro_rules
|`(.(Ac))=>`(List Nat)
|`(.(Aj))=>`(zac rfl)
|`(.(Ae))=>`(List D)
|`(.(BF))=>`(fun _ _=>rfl)
|`(.(Al))=>`(List Str)
|`(.(Br))=>`(zce (by decide +kernel))
|`(.(Az))=>`(Array Nat)
|`(.(Ar))=>`(List Zgi)
|`(.(As))=>`(List Fct)
|`(.(Ah))=>`(Af Zgk)
|`(.(Bz))=>`(.ref s.heap.objs.size)
|`(.(Ao))=>`(List V)
|`(.(AY))=>`(Option Zgi)
|`(.(Aq))=>`((Aj).b)
|`(.(A6))=>`(kas_item it)
|`(.(AT))=>`(List Ac)
|`(.(BJ))=>`(fun G ds hp rt=>?_)
|`(.(Au))=>`(.ref a)
|`(.(AN))=>`(List SK)
|`(.(BP))=>`(fun _ _ _ _ _ _ _=>rfl)
|`(.(Bn))=>`(e1.trans e2)
|`(.(AA))=>`(BW Int Zgi)
|`(.(Bg))=>`(fun hq=>?_)
|`(.(AX))=>`(t.put sl)
|`(.(BH))=>`(zbv (by decide))
|`(.(A9))=>`(S.ext2 e1)
|`(.(Bi))=>`(fun h=>?_)
|`(.(AO))=>`(.ref p)
|`(.(AQ))=>`(zaz ?_)
|`(.(Ay))=>`(Zgr _)
|`(.(Bp))=>`(fun _=>?_)
|`(.(Bt))=>`(Option Int)
|`(.(Be))=>`(.inl rfl)
local macro_rules
|`(.(Aa $a $b))=>`($a =(some $b))
|`(.(Bl $a $b))=>`({ cls:=(.type $a), data:=$b })
|`(.(BU $a $b $c $d))=>`(Inv $a pins $b $c $d)
|`(.(A3 $a))=>`(Zg3 prog $a)
|`(.(Bq $a $b))=>`($a = (some $b))
|`(.(Ai $a $b))=>`(List ($a ×$b))
|`(.(Af $a))=>`($a ->Prop)
|`(.(AH $a $b))=>`(Aa (s.heap.get? $a) $b)
|`(.(AR $a))=>`(s.heap.objs.size+$a)
|`(.(BE $a $b $c))=>`(putD $a (.str $b) (bkD $c))
|`(.(By $a $b $c))=>`(fun cdv A outer s H Q E hr=>⟨$a,$b,$c⟩)
|`(.(An $a $b $c $d $e $f))=>`(Zg1 (A3 $a) $b $c $d $e $f)
|`(.(AI $a))=>`(zaa $a zae)
|`(.(AE $a $b))=>`(decide ($a ∈$b))
|`(.(BW $a $b))=>`(Array ($a ×$b))
|`(.(A5 $a))=>`(zau (l:=$a) (by decide +kernel) (by decide))
|`(.(Aw $a $b))=>`(⟨$a,rfl,$b⟩)
|`(.(AF $a))=>`(⟨$a,rfl⟩)
|`(.(AG $a $b $c $d $e))=>`(SetE prog $a $b $c $d $e)
|`(.(AL $a))=>`($a <=sizeLine)
|`(.(BY $a))=>`(Zg3 X.prog $a)
|`(.(BG $a))=>`(Q $a { s with heap:=h' })
|`(.(AU $a $b))=>`(Aa (h'.get? $a) $b)
|`(.(Bc $a $b $c))=>`(zab $a (zab $b $c))
|`(.(BR $a $b $c $d))=>`(zb9 (i:=$a) (show $b by decide +kernel) $c $d)
|`(.(Bf $a $b $c))=>`(FnScope $a $b (zad $c))
|`(.(BN $a))=>`((if $a then x else y).cps.toList)
|`(.(BA $a))=>`(($a : Str).cps.toList)
|`(.(AZ $a $b $c $d $e))=>`(BE (BE $a $b $c) $d $e)
|`(.(Ax $a $b $c))=>`(Bq ($a)[$b]? $c)
|`(.(AC $a $b))=>`(decide ($a =$b))
|`(.(BL $a))=>`({ nx:=(fun _ H'=>$a),rt:=Q })
|`(.(BO $a $b $c))=>`(zb8 $a (k:=$b) (x:=$c) (by decide))
|`(.(AJ $a))=>`(Ai Addr $a)
|`(.(AM $a $b $c))=>`(⟨$a,$b,rfl,$c⟩)
|`(.(Ab $a))=>`($a =true)
|`(.(Av $a $b))=>`(kk key $a $b)
|`(.(A2 $a))=>`(zai (zaw $a))
|`(.(A0 $a $b))=>`(Aa (h.get? $a) $b)
|`(.(Bm $a $b))=>`(valD $a (.str $b))
local macro_rules
|`(.(BB $a $b))=>`(zbk (show $a by lia) $b)
|`(.(A4 $a))=>`(.d (.lst $a))
|`(.(Bh $a))=>`(eval $a X.env)
|`(.(AB $a $b $c))=>`(Reps K $a $b $c)
|`(.(BK $a $b $c $d $e $f))=>`(a $a $b $c $d $e (fun v F1 H1 e1 r1=>$f))
|`(.(A7 $a $b))=>`(show (IxR $a (rIxL $b)) from zas)
|`(.(Ag $a $b))=>`(BU X σ $a $b)
|`(.(AD $a $b))=>`(⟨_,$a,$b⟩)
|`(.(BS $a $b))=>`(zbo $a $b (by rw[Zg2];simp;omega))
|`(.(Ba $a))=>`(Zge (Zgj $a))
|`(.(Ap $a $b $c $d $e))=>`(Ev $a $b Hz $c ss $d $e)
|`(.(BM $a $b $c $d $e))=>`(EvB $a $b Hz $c ss $d $e)
|`(.(AW $a $b $c $d $e $f))=>`(Zg1 (BY $a) $b $c $d $e $f)
|`(.(Bv $a))=>`(ds.getD $a .non)
|`(.(A1 $a $b $c))=>`(zbm $a $b $c BF)
|`(.(A8 $a $b $c $d $e))=>`(BM $a $b $c $d (.str $e))
|`(.(AS $a $b))=>`(decide ($a <$b))
|`(.(Bo $a $b))=>`(⟨$a,(.inl $b)⟩)
|`(.(AV $a))=>`(AI (pv $a))
|`(.(Bx $a $b))=>`(SK.hash prog $a $b)
|`(.(BT $a $b $c $d $e))=>`(zdf (w:=$a) $b $c (fun H x y Q r1 r2 q=>$d) $e)
|`(.(BQ $a $b))=>`((p.extract $a $b).toList)
|`(.(BV $a))=>`(Ag $a { s with heap:=h',toks:=t' })
|`(.(Bj $a $b $c $d $e))=>`(BM $a $b $c $d (.int $e))
|`(.(BC $a $b $c))=>`(if (Ab $a) then $b else $c)
|`(.(Bw $a $b))=>`(posM t.mask $a $b)
|`(.(Ak $a $b))=>`(Ax $a i $b)
|`(.(BI $a $b))=>`(zbg $a $b (by simp))
|`(.(Bu $a))=>`(mkB (dedF $a))
|`(.(BX $a $b))=>`(∀(cdv:Zgi) (A:Zhk) (outer:(List $a)) (s:Zgk) (H:Hp) (Q:VK) (E:XK),$b)
|`(.(Am $a))=>`($a =false)
|`(.(BD $a $b))=>`(s.heap.push (Bl $a $b))
|`(.(Bb $a $b))=>`(lpM mask $a $b)
local macro_rules
|`($f:ident $xs*)=>match f.getId with
 |.str .anonymous s=>if s.length==2&&s.front.isUpper&&!["A'","AK","AP","Ad","At","Bd","Bk","Bs","CE","CR","CX","Cx","D0","D1","D2","DD","DE","E'","E0","E1","E7","EP","Ea","Eb","Eq","Es","Ev","F'","F0","F1","F2","F3","F5","F6","FV","FX","Fr","G'","GK","Gl","Go","Gt","H'","H0","H1","H2","H3","H4","H5","H6","H7","H8","H9","HA","HB","HO","HT","Hp","Hz","I'","I0","I1","I2","I3","I4","I5","I6","I7","If","In","It","J4","J5","J6","J7","J8","J9","JA","JB","K'","K1","KE","KQ","KT","KV","KX","Kb","L'","L0","L2","Ln","Lt","M1","M2","MH","MI","Mk","Mv","My","N'","N2","NT","Ne","Ns","Nx","O'","Ok","Or","P1","P2","PA","PC","PE","PG","PI","PK","PO","PS","PT","PW","Q'","Q1","QQ","QS","R2","RG","RK","Rd","S'","S0","S1","S2","S3","S4","S5","SB","SC","SK","SP","SS","Sa","Sb","Sf","Sl","So","Sp","Sr","St","Sw","T0","T1","T4","TA","TE","TG","TI","TO","TP","TS","TT","TV","Ta","Tb","Tg","Tn","Tx","Ty","Un","VK","W0","X'","X0","XK","XP","YP","ZF"].contains s then `(.($f $xs*)) else Lean.Macro.throwUnsupported
 |_=>Lean.Macro.throwUnsupported
local macro_rules
|`($f:ident)=>match f.getId with
 |.str .anonymous s=>if s.length==2&&s.front.isUpper&&!["A'","AK","AP","Ad","At","Bd","Bk","Bs","CE","CR","CX","Cx","D0","D1","D2","DD","DE","E'","E0","E1","E7","EP","Ea","Eb","Eq","Es","Ev","F'","F0","F1","F2","F3","F5","F6","FV","FX","Fr","G'","GK","Gl","Go","Gt","H'","H0","H1","H2","H3","H4","H5","H6","H7","H8","H9","HA","HB","HO","HT","Hp","Hz","I'","I0","I1","I2","I3","I4","I5","I6","I7","If","In","It","J4","J5","J6","J7","J8","J9","JA","JB","K'","K1","KE","KQ","KT","KV","KX","Kb","L'","L0","L2","Ln","Lt","M1","M2","MH","MI","Mk","Mv","My","N'","N2","NT","Ne","Ns","Nx","O'","Ok","Or","P1","P2","PA","PC","PE","PG","PI","PK","PO","PS","PT","PW","Q'","Q1","QQ","QS","R2","RG","RK","Rd","S'","S0","S1","S2","S3","S4","S5","SB","SC","SK","SP","SS","Sa","Sb","Sf","Sl","So","Sp","Sr","St","Sw","T0","T1","T4","TA","TE","TG","TI","TO","TP","TS","TT","TV","Ta","Tb","Tg","Tn","Tx","Ty","Un","VK","W0","X'","X0","XK","XP","YP","ZF"].contains s then `(.($f)) else Lean.Macro.throwUnsupported
 |_=>Lean.Macro.throwUnsupported
open Array renaming getElem?_toList → Zg6, getElem?_eq_getElem → Zg7, length_toList → Zhg, getD_eq_getD_getElem? → Zia, getElem?_eq_some_iff → Zkb, toList_inj → Zkx, forIn_toList → Zkz, getD → Zlb, toList_extract → Zlg, size_map → Zl9, toList_push → Znk, mem_toList_iff → Zoj, toList_map → Zp7, getElem?_setIfInBounds → Zqe, getElem?_replicate → Zru, getElem?_eq_none → Zr9, getElem?_map → Ztj, replicate → Zu8, toList → Zwf
open Array.Perm renaming refl → Znp
open Bool renaming false_eq_true → Zgw, and_eq_true → Zhe, false_ne_true → Zhs, eq_iff_iff → Ziq, not_true → Zj3, false_and → Znd, true_and → Zph, or_eq_true → Zq1, not_false → Zrt, or_false → Zr8, or_eq_false_iff → Zs4, not_eq_true' → Zuc, not_eq_true → Zu7, false_or → Zwe
open Classical renaming byContradiction → Zmp, typeDecidableEq → Zzu
open False renaming elim → Zkl
open ForIn renaming forIn → Zsy
open ForInStep renaming yield → Zlp
open Iff renaming rfl → Zvw
open Int renaming emod_lt_of_pos → Zhm, emod_nonneg → Zhv, le_of_lt → Ziu, le_trans → Zjw, toNat_natCast → Zj5, le_refl → Zmy, ofNat → Zrc, ofNat_eq_natCast → Zti, lt_of_le_of_lt → Zub, not_lt → Zy8
open List renaming getD_eq_getElem?_getD → Zgf, getElem?_eq_getElem → Zgg, length_map → Zgn, getElem?_eq_some_iff → Zgo, mem_cons → Zgp, mem_cons_of_mem → Zgq, mem_of_getElem? → Zgs, getElem?_map → Zgy, mem_cons_self → Zgz, mem_singleton → Zg0, mem_map → Zg4, length_cons → Zg5, map_cons → Zhc, not_mem_nil → Zhf, mem_append → Zhh, range → Zhi, length_append → Zhl, mem_append_right → Zho, mem_iff_getElem? → Zht, getElem?_eq_none → Zhu, length_nil → Zhz, append_nil → Zh0, size_toArray → Zh2, mem_range → Zic, nodup_cons → Zid, getElem?_append_left → Zih, take_of_length_le → Zij, getElem_mem → Zik, map_map → Zin, getElem?_append_right → Zip, replicate → Zir, append_assoc → Zis, mem_append_left → Zit, filterMap_cons_some → Ziy, lookup_cons → Zi0, Nodup → Zi7, pairwise_iff_getElem → Zi8, eq_nil_of_length_eq_zero → Zi9, all_eq_true → Zja, take_append_drop → Zjb, find?_cons → Zjf, getElem?_set_self → Zji, take_add_one → Zjm, mem_filter → Zjq, length_replicate → Zjr, cons_lt_cons_iff → Zjs, getLast?_eq_some_getLast → Zjy, getElem?_set_ne → Zj0, lookup → Zj6, length → Zj7, getElem?_range → Zj8, pairwise_map → Zkm, map_append → Zkn, filterMap_cons → Zkt, dropWhile_cons → Zku, getElem?_drop → Zk2, forIn_cons → Zk8, ext_getElem? → Zld, perm_ext_iff_of_nodup → Zlf, pairwise_append → Zlh, nodup_nil → Zlm, length_drop → Zlo, mem_map_of_mem → Zls, filterMap_cons_none → Zlt, getElem?_replicate → Zlz, any_cons → Zl0, drop_eq_nil_of_le → Zl7, perm_append_comm → Zmg, length_filter_le → Zmh, extract → Zmi, length_take → Zmk, filter_cons → Zml, mem_of_mem_take → Zmn, map_drop → Zmo, takeWhile_cons → Zms, replicate_succ → Zmt, nil_append → Zmu, length_eraseIdx_of_lt → Zm0, mem_filterMap → Zm4, getLastD_eq_getLast? → Zna, length_range → Znm, length_erase_of_mem → Znn, getElem?_take_of_lt → Zno, cons_append → Znw, length_pos_of_mem → Znz, mem_of_mem_drop → Zom, mem_erase_of_ne → Zon, drop_drop → Zor, take_succ_cons → Zou, range' → Zov, map_congr_left → Zow, zip_cons_cons → Zpc, mem_replicate → Zpd, map_take → Zpe, map → Zpf, take_sublist → Zpq, reverse_perm → Zpr, getElem_take → Zps, eraseIdx_eq_take_drop_succ → Zpt, drop_sublist → Zpu, map_nil → Zpz, zipIdx_cons → Zqb, take_length → Zqc, range'_succ → Zqd, zipIdx_nil → Zqs, range_succ → Zqt, of_mem_zip → Zqu, not_lt → Zqv, length_set → Zqw, foldl_cons → Zqx, mem_drop_iff_getElem → Zro, lt_irrefl → Zrp, getElem?_zip_eq_some → Zrq, eq_of_mem_replicate → Zr1, sum_cons → Zr6, getElem_cons_drop → Zsk, drop_of_length_le → Zsl, dropWhile_sublist → Zsm, toArray → Zsr, pairwise_reverse → Zss, map_set → Zst, length_singleton → Zsu, eraseIdx_sublist → Zsv, mem_iff_getElem → Zs2, map_id → Ztc, length_pos_iff → Ztd, getElem_of_mem → Zte, flatten_append → Ztf, filter_eq_self → Ztg, pairwise_cons → Ztu, find?_eq_none → Ztv, filter_append → Ztw, filterMap_map → Ztx, getElem_drop → Zt8, flatten_cons → Zt9, drop_reverse → Zua, perm_middle → Zus, mem_reverse → Zut, mem_flatten → Zuu, le_antisymm → Zuv, isEmpty_iff → Zuw, getElem_map → Zux, getElem_inj → Zuy, flatMap_nil → Zuz, drop_length → Zu0, any_eq_true → Zu1, zip_append → Zvb, take_zero → Zvs, forIn_nil → Zvt, drop_zero → Zvu, lt_trans → Zv9, le_trans → Zwa, all_cons → Zwb
open List.Pairwise renaming sublist → Zm5, nil → Zn4, imp_of_mem → Zpg, map → Zxb
open List.Perm renaming swap → Zp0, append_left → Zra, refl → Zth, eq_of_pairwise → Zzq, cons → Zzr
open List.Sublist renaming refl → Zn9, append → Zqy, slnil → Zx5
open List.cons renaming injEq → Zjk
open Nat renaming le_refl → Zgr, ne_of_lt → Zhb, lt_of_lt_of_le → Zhd, zero_le → Zhr, lt_irrefl → Zib, pow_succ → Ziz, lt_succ_self → Zi1, le_trans → Zi6, zero_add → Zj4, lt_or_ge → Zkh, lt_succ_of_lt → Zkq, ne_of_gt → Zla, min_eq_left → Zmx, mod_lt → Znr, le_succ → Znv, mod_eq_of_lt → Znx, min_eq_right → Zny, eq_or_lt_of_le → Zpl, lt_trichotomy → Zpy, le_of_lt → Zp9, add_zero → Zqa, le_add_right → Zqo, mod_add_div → Zq9, mod_two_eq_zero_or_one → Zrn, add_mul_mod_self_left → Zr0, pos_of_ne_zero → Zt5, lt_of_le_of_lt → Zt6, add_sub_cancel → Zt7, lt_of_succ_lt → Zuq, lt_of_not_le → Zva, two_pow_pos → Zvq, le_add_left → Zvr, add_assoc → Zxa, sub_self → Zx1, mul_comm → Zx2, lt_trans → Zx3, le_of_eq → Zx4, mul_add → Zyo, not_lt → Zy7
open Ne renaming symm → Zh1
open Option renaming isSome_iff_exists → Zkj, getD_some → Zlj, bind_eq_bind → Zsq, isSome_map → Ztb, getD_none → Zts, bind_some → Ztt, pure_def → Zt4, none → Zv8
open Option.some renaming inj → Zim
open Or renaming inl → Zlq, inr → Zv7
open PyProof.Rows renaming wpS_bind → Zgt, wpS_pure → Zgu, wpS_forRange → Zh9, SortSt → Zii, pendingOf → Zje, wpS_mono → Zjx, SortKind → Zly, callWith_type1 → Zl8, Keyed → Zmd, wpS_get → Znt, envOfC → Zol, arrOf → Zoq, wpS_lift → Zpa, failedOf → Zpb, AllBare → Zp8, seqObj → Zqj, boot_set → Zr4, boot_sorted → Zsg, wpS_modify → Zs6, subscriptTail → Ztl, listUpdate_at → Ztn, subscriptTail_builtinR → Zt1, seqEpoch_at → Zve, IntsAre → Zvv, setPending → Zwo, Subscript_ → Zwz, callWith_builtin1 → Zx0, get?_update_seq → Zyj, entry_list_sort → Zyk, bubble → Zym, slot_list_sort → Zyv, args_list_sort → Zy1, mergeAt' → Zze, keyKind' → Zzf, elem'_eq → Zzh
open PyProof.Rows.Boot renaming zip → Zup
open PyProof.Rows.F renaming plain_set_update_loop → Zn5, entry_set_update_loop → Zs3
open PyProof.Rows.SortSt renaming mk' → Zq7
open PySem renaming wpAny_bind → Zge, Value → Zgi, wpAny_pure → Zgj, Shared → Zgk, SetTable → Zgm, wpAny → Zg1, sizeLine_eq → Zg2, model → Zg3, Program → Zg8, Builtin → Zg9, Around → Zhk, Spec → Zhn, wpAny_holding → Zhx, World → Zhy, starEach → Zh5, wpAny_ite_split → Zh7, NameKind → Zh8, wpAny_mono → Zif, wpAny_call_entry → Zi3, wpAny_seqItems → Zjg, Builtin → Zjn, wpAny_truthy_bool → Zjt, wpAny_pyIter_list → Zju, wpAny_newObj_type → Zjv, compareOp → Zjz, wpAny_rule → Zj1, typeIs_str → Zj2, FuncData → Zj9, wpAny_storeSet_of → Zka, wpAny_setEntries_of → Zke, rawInt → Zkf, keywordEach → Zkg, PyData → Zkk, wpAny_field → Zko, mainGlobals → Zkp, mem_of_lookup → Zks, wpAny_setEpoch_of → Zkv, wpAny_loadPart' → Zkw, wpAny_callSpecial?_slot → Zk0, binaryOp → Zk1, wpAny_askSetting → Zk3, PassesOwn → Zk4, wpAny_setField → Zk5, sysModules → Zk6, wpAny_setField_rec → Zlc, codeAny_builtin → Zli, backTo → Zlw, wpAny_execs_cons → Zlx, cLine → Zl2, codeAny_mono → Zl3, wpAny_getItem_str_slice → Zma, wpAny_Call_Name_kw → Zmb, backToKw → Zmc, IsPair → Zmm, wpAny_isInstance → Zmv, wpAny_forIn_list → Zmw, bindArgs → Zm2, attributeBase → Zm3, assignEach → Zm8, IsTupleKey → Znb, wpAny_specialOf → Zne, wpAny_passesOwn → Znf, wpAny_execs_nil → Zng, sliceBounds → Znh, pickOrder → Zni, entryFor_alias → Znu, ofAClassStatement → Zn1, foldedSetIterable → Zn2, call_meets → Zn3, wpAny_standAt → Zob, setWalkUnseen → Zoc, behindInMarks → Zod, Keyword → Zoi, pyNext → Zok, wpAny_pyNext_list_item → Zop, wpAny_pyNext_list_end → Zoz, swapsWith → Zo0, post_val_or_str → Zo1, letOwnedTupleGo → Zo2, codeAny → Zo3, bootBuiltins → Zo4, argBest → Zo5, wpAny_updateSeq_pair → Zpi, codeAny_call_builtin → Zpj, wpAny_fieldsOf → Zpn, firstArgMember → Zpo, carriedByValue → Zpp, wpAny_binaryOp_same → Zpv, Drawn → Zp5, wpAny_pyIter_tuple → Zqf, wpAny_onRaise → Zqg, wpAny_attempt → Zqh, tupleKind_room_in1 → Zqi, plainId_quiet → Zqk, boot_len → Zql, wpAny_setState_of → Zq2, valueAt → Zq3, setsByText → Zq4, stripped → Zq8, IsZip → Zrb, BindsTo → Zrg, sub_set_self → Zrh, setAddHashed → Zri, wpAny_pyIter_zip → Zrv, entryFor → Zr3, wpAny_of_eq → Zsb, tupleKind → Zsc, subscripted → Zsd, codeAny_of_tree → Zse, callerA → Zsf, Within → Zsj, Draws → Zsn, wpAny_call → Zs7, wpAny_newList → Ztk, relayAll → Ztm, getItem → Zto, call → Ztq, wpAny_Call_method_late → Zt0, wpAny_typeOf → Zud, wpAny_isTrue_Compare1 → Zue, wpAny_eqIsQuiet_tuple → Zuf, weight_type_call_type → Zug, seqItems? → Zuh, pyIter → Zui, hashByValue_scannable → Zuj, builtinLookup_eq_fast → Zuk, assign → Zul, Fin → Zuo, Model → Zur, DictEntry → Zu3, wpAny_letGo → Zvd, length_partsBetween → Zvf, holding → Zvg, hashByValue → Zvh, atKey → Zvi, Walks → Zvj, CmpOp → Zv1, storeSet → Zv2, setRelay → Zv3, argsOk → Zv4, wpAny_pyIter_slot → Zwg, wpAny_pyIter_enum → Zwh, wpAny_assign_Name → Zwi, wpAny_Return_some → Zwj, wpAny_Name → Zwk, wpAny_Assign_Name → Zwl, typeLookup → Zwm, slot_list_getitem → Zwn, searchCouldBeSeen → Zwp, richCompare_gives → Zwq, field → Zwr, builtinsNs → Zws, bindL → Zwt, bindC → Zwu, wpAny_setScan_of → Zxh, wpAny_getItem_of → Zxi, setDiscardHashed → Zxj, checkBuiltinCall → Zxk, wpAny_updateSeq → Zyb, typeLookup_type → Zyc, table → Zyd, strValues → Zye, spliced → Zyf, setFind → Zyg, limitOf → Zyh, getMethod → Zyi, cellsFrom → Zyl, Result → Zyn, wpAny_runValue → Zys, wpAny_notIn_of → Zyt, wpAny_newTuple → Zyu, setAddHashedIn → Zyw, recursionLimit → Zyx, numbered_texts → Zyy, isSubtype_type → Zyz, isSubtype_stop → Zy0, wpAny_handled → Zy9, signature?_of → Zza, setSearchFrom → Zzb, raiseNew → Zzc, newTuple → Zzd, evalPart_none → Zzg, comprehension → Zzi, compEnvC → Zzj, call_list_seq → Zzk, callWith → Zzl, ReadsAll → Zzm, Reads → Zzn, Operator → Zzp, ExceptHandler → Zzs
open PySem.Around renaming under_plainId → Zle, in1_units → Zll, under → Zsa, under_plain → Zs5
open PySem.Builtin.Frozenset renaming isAnySet → Zhw, slot1 → Zjl, unchanged → Zjp, updateFrom → Zlu, sizeOf → Zme, copyOf → Zmf, differenceUpdate → Znc, intersection → Zns, difference → Zn0, baseOf → Zoo, newClass → Zu4, merge → Zu5, addrOf → Zu6
open PySem.Builtin.List renaming listLengthHint → Zox, listExtendWith → Zoy, listSameRef → Zpm
open PySem.Builtin.Range renaming rangeSize → Zxg
open PySem.Builtin.SmallTypes renaming nextOf → Zil, fitsIndex → Zi2, ownedTupleIsFree → Zjo, ownedTupleHandOut → Zmz
open PySem.Builtin.Str renaming strKind → Zjd, strSub → Zn6, occurrences → Zp6, tooLong → Zyr
open PySem.Calls renaming Constant_str → Zm1, spliced_cons → Zo9, Name_function_global → Zq0, call_function_entry → Zrf, callWith_builtin → Zr7, evalArgs_plain → Zsx, spliced_nil → Ztz
open PySem.Challenge renaming rw_folk_k53_whole_poured_at_a_desk → Zl5, pw_folk_k53_whole_poured_at_a_desk → Zvn
open PySem.Code renaming isFrame → Zsw, quiet_builtin → Zty, frames → Zya
open PySem.DictEntry renaming refKey → Zzt
open PySem.Draws renaming list → Zrs
open PySem.EqMixed renaming ne_str_int → Zw1, ne_str_bool → Zw2, ne_int_str → Zw3, ne_bool_str → Zw4, eq_str_int → Zw5, eq_str_bool → Zw6, eq_int_str → Zw7, eq_bool_str → Zw8
open PySem.EqNone renaming ne_str_none → Zxm, ne_none_str → Zxn, ne_none_none → Zxo, ne_none_int → Zxp, ne_none_bool → Zxq, ne_int_none → Zxr, ne_bool_none → Zxs, eq_str_none → Zxt, eq_none_str → Zxu, eq_none_none → Zxv, eq_none_int → Zxw, eq_none_bool → Zxx, eq_int_none → Zxy, eq_bool_none → Zxz
open PySem.F renaming plainAttrs_str → Zie, slot_str_split → Zjj, entry_str_split → Zlk, slot_tuple_iterator_next → Zln, called_set → Zl1, type_str_join → Zm6, slot_str_join → Zm7, type_str_split → Zoa, slot_zip_next → Zos, slot_list_append → Zp1, called_enumerate → Zp2, args_str_split_3 → Zp3, args_str_split_2 → Zp4, slot_dict_getitem → Zqn, type_str_strip → Zrd, slot_str_strip → Zre, args_tuple_iterator_next_1 → Zrr, entry_tuple_iterator_next → Zr2, type_list_append → Zvc, plain_list_iadd → Zvx, plainAttrs_list → Zvy, entry_type_call → Zvz, args_zip_next_1 → Zv0, entry_zip_next → Zwd, type_str_find → Zxc, slot_str_find → Zxd, slot_set_iter → Zxe, plain_set_new → Zxf, slot_set_sub → Zx8, slot_set_and → Zx9, slot_set_or → Zyq
open PySem.Heap renaming get?_push_of_some → Zgl, lt_size → Zgv, get?_push_size → Zgx, size_push → Zhj, SameBut → Zhq, get?_update_other → Ziv, get?_update_self → Zjc, ExtBut → Zqz, size_update → Zu2, IsList → Zx7
open PySem.Heap.DictOf renaming new → Zyp
open PySem.Heap.IsSliceOf renaming new → Zwc
open PySem.Heap.IsTuple renaming push → Zx6
open PySem.Heap.SameBut renaming update → Zh6, refl → Zio
open PySem.IsL renaming update → Zzo
open PySem.NameKind renaming free → Zh4, cell → Zlr
open PySem.Obj renaming data_mapFields → Zi5, isFreed_of_fields → Zk9, mapSeq → Zlv, putSet → Zmr, cls_mapFields → Znq, mapFields → Zw9
open PySem.Paired renaming length → Zrm, snoc → Zv6
open PySem.PassesOwn renaming never → Ziw
open PySem.PyData renaming eqv → Zk7, canLay0 → Zl6, eqvAll → Zot, canLayAll0 → Zta, depthAll → Zt3, strOk → Zvo, depth → Zvp
open PySem.SeqAt.EqAt renaming str_str → Zy3, str_int → Zy4, int_str → Zy5, int_int → Zy6
open PySem.SetTable renaming insertAt → Zha, below → Zhp, grown → Zkc, fresh → Zkd, eraseAt → Zkr, turns → Zmq, fits → Zm9, fill → Zqr, has → Zrk, sameMemory → Zr5, sizeAbove → Zsi, slot → Zt2
open PySem.SetTable.Slot renaming dummy → Zqm
open PySem.SetTable.below renaming go → Zmj
open PySem.Shared renaming setGen → Zrj, heap → Zso, TypeIs → Zu9
open PySem.Str renaming ofString → Zog, join → Zqq, length → Zum, append → Zy2
open PySem.StrLaws renaming occ_length_le → Zrx, glued_eq_join → Zry
open PySem.Txt renaming split → Zpk, find → Zqp, stripChars → Zrw, slice → Zsz, replace → Ztp, mul → Zvl, startswith → Zv5
open PySem.Value renaming ref → Zh3, none → Zig, type → Zky, bool → Znj, str → Zo6, int → Zsh, isStrOf → Zvk, isInt → Zww, float → Zwx, bytes → Zwy
open PySem.W renaming Frag → Zgh, fnOf → Zix, findIn → Zi4, emptyDict → Zjh, instObj → Zki, keepIn → Zl4, plainGet → Znl, lookIn → Zn7, codeIn → Zn8, plainGet_of → Zoh, methodObj → Zo7, hasDictIn → Zo8, takerIn → Zpw, OpenLaw → Zpx, cellsFrom_some → Zrl, isFn → Zrz, callWith_K → Zsp, specialIn → Zs0, plainOver → Zs1, handedIn → Zs9, makesIn → Ztr, WalkO → Zun
open PySem.W.Looks renaming here → Zw0
open PySem.Walks renaming tuple → Zwv
open PySem.WalksT renaming enumerateD → Zs8
open PySem.Within renaming cons → Zxl
open PySem.pickOrder renaming go → Zq5
open Sum renaming inr → Zof, inl → Zq6
open Sum.inr renaming inj → Zvm
open True renaming intro → Zoe
set_option Elab.async false
set_option linter.all false
set_option maxRecDepth 100000
set_option maxHeartbeats 8000000
set_option genSizeOf false
set_option bootstrap.genMatcherCode false
noncomputable section
namespace L2
open PySem PySem.Spec PyProof.Rows
noncomputable abbrev Key:=Sum Int Str
noncomputable def zr3:Key->Zgi->Bool
 | .inl k,v=>Zww k v
 | .inr x,v=>Zvk x v
noncomputable def keyH(w:Zhy):Key->Int
 | .inl k=>hashInt k
 | .inr x=>hashStr w x
theorem za7:∀{k:Key} {v:Zgi},Ab (zr3 k v)->(∃i t,k=Zq6 i/\v=Zsh i t)\/(∃x t,k=Zof x/\v=Zo6 x t)
 | .inl i,v,h=>by
  obtain⟨t,e⟩:=Value.isInt_shape (k:=i) (v:=v) h
  exact .inl (AM i t e)
 | .inr x,v,h=>by
  obtain⟨t,e⟩:=Value.isStrOf_shape (x:=x) (v:=v) h
  exact .inr (AM x t e)
theorem zxb(i:Int)(t:Tok):Ab (zr3 (.inl i) (.int i t)):=by simp[zr3,Zww]
theorem zuy(x:Str)(t:Tok):Ab (zr3 (.inr x) (.str x t)):=by simp[zr3,Zvk]
theorem yfc(a b:Int):AC (Zq6 a:Key) (Zq6 b)=(a == b):=by
 by_cases e:a=b
 .subst e;simp
 .have h:¬ (Zq6 a:Key)=Zq6 b:=fun q=>e (Sum.inl.inj q)
  rw[decide_eq_false h]
  exact(beq_eq_false_iff_ne.mpr e).symm
theorem ydv(a b:Str):AC (Zof a:Key) (Zof b)=AC a b:=by
 by_cases e:a=b
 .subst e;simp
 .have h:¬ (Zof a:Key)=Zof b:=fun q=>e (Zvm q)
  rw[decide_eq_false h,decide_eq_false e]
theorem ydu(a:Int)(b:Str):Am (AC (Zq6 a:Key) (Zof b)):=decide_eq_false (fun q=>nomatch q)
theorem ydd(a:Str)(b:Int):Am (AC (Zof a:Key) (Zq6 b)):=decide_eq_false (fun q=>nomatch q)
noncomputable def zar(prog:Zg8)(w:Zhy):PySem.KeyKind prog w Key where
 is:=zr3
 hash:=keyH w
 inj:=fun v a b ha hb=>by
  rcases za7 ha with ⟨i,t,rfl,rfl⟩ | ⟨x,t,rfl,rfl⟩
  .rcases za7 hb with ⟨j,u,rfl,e⟩ | ⟨y,u,rfl,e⟩
   .injection e with e1 _;rw[e1]
   .exact nomatch e
  .rcases za7 hb with ⟨j,u,rfl,e⟩ | ⟨y,u,rfl,e⟩
   .exact nomatch e
   .injection e with e1 _;rw[e1]
 byValue:=fun k v h=>by
  rcases za7 h with ⟨i,t,rfl,rfl⟩ | ⟨x,t,rfl,rfl⟩ <;> rfl
 pyHash:=fun hv h=>by
  rcases za7 hv with ⟨i,t,rfl,rfl⟩ | ⟨x,t,rfl,rfl⟩
  .exact wpAny_pyHash_int h
  .exact wpAny_pyHash_str h
 eqBool:=fun hu hv h=>by
  rcases za7 hu with ⟨i,t,rfl,rfl⟩ | ⟨x,t,rfl,rfl⟩
  .rcases za7 hv with ⟨j,u,rfl,rfl⟩ | ⟨y,u,rfl,rfl⟩
   .rw[yfc] at h;exact wpAny_eqBool_int h
   .rw[ydu] at h;exact Zy5 i t y u _ _ _ _ h
  .rcases za7 hv with ⟨j,u,rfl,rfl⟩ | ⟨y,u,rfl,rfl⟩
   .rw[ydd] at h;exact Zy4 x t j u _ _ _ _ h
   .rw[ydv] at h;exact wpAny_eqBool_str h
 «strs»:=fun k x t v h=>by
  rcases za7 h with ⟨i,u,rfl,e⟩ | ⟨y,u,rfl,e⟩
  .exact nomatch e
  .injection e with e1 _
   subst e1
   cases v <;> rfl
theorem ziz(prog:Zg8)(w:Zhy)(i:Int)(t:Tok):Ab ((zar prog w).is (.inl i) (.int i t)):=zxb i t
theorem ze8(prog:Zg8)(w:Zhy)(x:Str)(t:Tok):Ab ((zar prog w).is (.inr x) (.str x t)):=zuy x t
inductive V where
 | non | bl (b:Bool) | int (i:Int) | str (x:Str) | byt (b:Array UInt8) | flt (b:UInt64) | ref (a:Addr) | ty (n:String)
 deriving DecidableEq
noncomputable def RelV:V->Af Zgi
 | .non,u=>u=Zig
 | .bl b,u=>u=Znj b
 | .int i,u=>∃t,u=Zsh i t
 | .str x,u=>∃t,u=Zo6 x t
 | .byt b,u=>∃t,u=Zwy b t
 | .flt b,u=>∃t,u=Zwx b t
 | .ref a,u=>u=Zh3 a
 | .ty n,u=>u=Zky n
noncomputable abbrev Vals:Ao->Af Ar:=Paired RelV
theorem Vals.length{xs:Ao}{us:Ar}(r:Vals xs us):xs.length=us.length:=Zrm r
theorem Vals.get:∀{xs:Ao} {us:Ar} {i:Nat} {x:V},Vals xs us->Ak xs x-> ∃u,Ak us u/\RelV x u
 | _,_,_,_,.nil,e=>by simp at e
 | _,_,0,_,.cons r _,e=>by simp at e;subst e;exact⟨_,rfl,r⟩
 | _,_,i+1,x,.cons _ t,e=>by
  obtain⟨u,h1,h2⟩:=Vals.get (i:=i) (x:=x) t (by simpa using e)
  exact⟨u,by simpa using h1,h2⟩
theorem Vals.append:∀{xs ys:Ao} {us ws:Ar},Vals xs us->Vals ys ws->Vals (xs++ys) (us++ws)
 | _,_,_,_,.nil,s=>s
 | _,_,_,_,.cons r t,s=>.cons r (Vals.append t s)
theorem Vals.take:∀{xs:Ao} {us:Ar} (n:Nat),Vals xs us->Vals (xs.take n) (us.take n)
 | _,_,0,_=>.nil
 | _,_,_+1,.nil=>.nil
 | _,_,n+1,.cons r t=>.cons r (Vals.take n t)
theorem Vals.drop:∀{xs:Ao} {us:Ar} (n:Nat),Vals xs us->Vals (xs.drop n) (us.drop n)
 | _,_,0,r=>r
 | _,_,_+1,.nil=>.nil
 | _,_,n+1,.cons _ t=>Vals.drop n t
noncomputable def RelO:Option V->Af AY
 | some v,some u=>RelV v u
 | none,none=>True
 | _,_=>False
noncomputable def KV{κ:Type}:Ai κ V->Af (Ai κ Zgi):=Paired fun(p:κ×V) (q:κ×Zgi)=>p.1=q.1/\RelV p.2 q.2
noncomputable def kV:Key->V
 | .inl i=>.int i
 | .inr x=>.str x
inductive HO where
 /-- a list -/
 | lst (xs:List V)
 /-- a tuple (never changes) -/
 | tup (xs:List V)
 /-- a dict whose keys are ints and texts;one whose keys are tuples of ints and texts (the empty one is both) -/
 | dK (kvs:List (Key×V)) | dT (kvs:List (List Key×V))
 /-- a set of ints: its members,its size -/
 | set (S:Int->Bool) (n:Nat)
 /-- an instance of the class at C,its dict at dx,its attributes -/
 | ins (C dx:Addr) (fs:List (Str×V))
 /-- the dict of the instance at x -/
 | own (x:Addr)
 /-- the dict of an exception -/
 | xd (fs:List (Str×V))
 /-- a bound method,f of x -/
 | met (f x:Addr)
 /-- a range object lo,lo+1,.. below hi -/
 | rng (lo hi:Int)
 /-- a thing that is known to the object (the script;a dict while a loop walks it): read,never written while it is so -/
 | frz (o:Obj) (u:HO)
 /-- a code object's Zyd -/
 | tbl (ps:Array Zgi)
 /-- any other thing,by what is true of its one object (a def of one's own: SetO a S n:=HO.ext fun h=>..) -/
 | ext (φ:Heap->Prop)
 | tab (ps:Array Zgi) (pos:Pos) (q:Str)
noncomputable abbrev Hp:=Addr->Option HO
noncomputable def upd(H:Hp)(a:Addr)(o:HO):Hp:=fun b=>if b=a then some o else H b
theorem zam{H:Hp}{a:Addr}{o:HO}:Aa (upd H a o a) o:=by unfold upd;rw[if_pos rfl]
theorem zal{H:Hp}{a b:Addr}{o:HO}(h:b≠a):upd H a o b=H b:=by unfold upd;rw[if_neg h]
theorem yfu{H:Hp}{a b:Addr}{o u:HO}(h:Aa (H a) o)(h':Aa (H b) u)(d:o≠u):a≠b:=by
 intro e;subst e;rw[h] at h';exact d (Zim h')
theorem za6{H:Hp}{a b:Addr}{o:HO}(h:Aa (H a) o)(h':H b=none):a≠b:=by
 intro e;subst e;rw[h] at h';cases h'
section
variable(P:Zg8)(w:Zhy)
noncomputable def zdb(H:Hp)(h:Heap)(a:Addr):Af HO
 | .lst xs=>AL xs.length /\ ∃(its:Ar) (n:Nat),Vals xs its/\A0 a (Bl "list" (.seq its.toArray n))
 | .tup xs=>AL xs.length /\ ∃its:Ar,Vals xs its/\IsTup h a its.toArray
 | .dK kvs=>AL kvs.length/\Am (a == Zk6) /\ ∃vs,KV kvs vs/\h.DictOf (zar P w) a vs
 | .dT kvs=>AL kvs.length/\Am (a == Zk6) /\ ∃xs:Ai (List Key) (Addr×Zgi),
   Paired (fun(p:List Key×V) (q:List Key×Addr×Zgi)=>p.1=q.1/\Aa (H q.2.1) (.tup (p.1.map kV))/\RelV p.2 q.2.2) kvs xs /\
   ∃o es ep,A0 a o/\o.ExactDict/\o.data= .dict es ep/\es.toList=xs.map (entryOfKey (Zsc (zar P w)))/\(xs.map (·.1)).Nodup
 | .set S n=>h.SetOf (intKind P w) a S n
 | .ins C dx fs=>Aa (H dx) (.own a)/\fs.length<=1000/\dx≠a/\A0 a (Zki C dx) /\
   ∃mA,h.Ns1 dx mA/\(∀f,RelO (fs.lookup f) (mA f))/\Zsj mA (fs.map (·.1))
 | .own _=>∃o,A0 a o
 | .xd fs=>∃mA,h.Ns1 a mA /\ ∀f,RelO (fs.lookup f) (mA f)
 | .rng lo hi=>∃t u v,A0 a (Bl "range" (.fields #[.int lo t,.int hi u,.int 1 v]))
 | .frz o u=>A0 a o/\zdb H h a u
 | .tbl ps=>A0 a { cls:=.none,data:=.fields ps }
 | .met f x=>A0 a (Zo7 (.ref f) (.ref x))
 | .ext φ=>φ h/\(∃o,A0 a o) /\ ∀h1 h2:Heap,φ h1->(∀o,Aa (h1.get? a) o->Aa (h2.get? a) o)->φ h2
 | .tab ps pos q=>∃more:Array Zgi,A0 a { cls:=.none,data:=.fields (ps++more) }/\TriplesOk (ps++more).toList/\(codeAmong pos (ps++more).toList=none \/ ∃c' oc vs t,Aa (codeAmong pos (ps++more).toList) (.ref c')/\Aa (H c') (.frz oc (.own a))/\oc.data= .fields vs/\Ax vs 1 (.str q t))
noncomputable def HOk(H:Hp)(h:Heap):Prop:=∀a o,Aa (H a) o->zdb P w H h a o
end
section
variable{P:Zg8}{w:Zhy}{H H':Hp}{h h':Heap}{a:Addr}{o:HO}
theorem zdb.lt(x:zdb P w H h a o):a<h.objs.size:=by
 cases o with
 | lst xs=>obtain⟨_,_,_,_,e⟩:=x;exact Zgv e
 | tup xs=>obtain⟨_,_,_,p⟩:=x;exact p.lt
 | dK kvs=>obtain⟨_,_,_,_,o,_,_,e,_⟩:=x;exact Zgv e
 | dT kvs=>obtain⟨_,_,_,_,o,_,_,e,_⟩:=x;exact Zgv e
 | set S n=>obtain⟨o,_,_,_,e,_⟩:=x;exact Zgv e
 | ins C dx fs=>obtain⟨_,_,_,e,_⟩:=x;exact Zgv e
 | own y=>obtain⟨_,e⟩:=x;exact Zgv e
 | xd fs=>obtain⟨_,⟨_,_,_,e,_⟩,_⟩:=x;exact Zgv e
 | rng lo hi=>obtain⟨_,_,_,e⟩:=x;exact Zgv e
 | frz ob u=>obtain⟨e,_⟩:=x;exact Zgv e
 | tbl ps=>exact Zgv (show A0 a _ from x)
 | met f y=>exact Zgv (show A0 a _ from x)
 | ext φ=>obtain⟨_,⟨_,e⟩,_⟩:=x;exact Zgv e
 | tab ps pos q=>obtain⟨_,e,_⟩:=x;exact Zgv e
theorem Paired.mapP{α β:Type}{F G:α->Af β}:∀{l₁:List α} {l₂:List β},Paired F l₁ l₂->(∀a b,F a b->G a b)->Paired G l₁ l₂
 | _,_,.nil,_=>.nil
 | _,_,.cons r t,f=>.cons (f _ _ r) (Paired.mapP t f)
theorem zdb.stay(x:zdb P w H h a o)(k:∀b u,(b=a\/Aa (H b) (.own a))->A0 b u->AU b u)
  (ho:∀b,Aa (H b) (.own a)->Aa (H' b) (.own a)) (ht:∀b xs,Aa (H b) (.tup xs)->Aa (H' b) (.tup xs))
  (hf:∀b o u,Aa (H b) (.frz o u)->Aa (H' b) (.frz o u):=by first | exact fun _ _ _ q=>q | exact fun c _ _ q=>(zal (za6 q (by assumption))).trans q | exact fun c _ _ r=>(zal (fun z=>by rw[<- z,r] at mu;exact mu)).trans r):zdb P w H' h' a o:=by
 induction o with
 | lst xs=>obtain⟨z,its,n,r,e⟩:=x;exact⟨z,its,n,r,k _ _ Be e⟩
 | tup xs=>obtain⟨z,its,r,ob,e,c⟩:=x;exact⟨z,its,r,ob,k _ _ Be e,c⟩
 | dK kvs=>obtain⟨z,y,vs,r,ob,es,ep,e,c⟩:=x;exact⟨z,y,vs,r,ob,es,ep,k _ _ Be e,c⟩
 | dT kvs =>
  obtain⟨z,y,xs,r,ob,es,ep,e,c⟩:=x
  exact⟨z,y,xs,Paired.mapP r fun p q z=>⟨z.1,ht _ _ z.2.1,z.2.2⟩,ob,es,ep,k _ _ Be e,c⟩
 | set S n=>obtain⟨ob,es,ep,t,e,c⟩:=x;exact⟨ob,es,ep,t,k _ _ Be e,c⟩
 | ins C dx fs =>
  obtain⟨d,z,ne,e,mA,⟨od,es,ep,e2,c⟩,r⟩:=x
  exact⟨ho _ d,z,ne,k _ _ Be e,mA,⟨od,es,ep,k _ _ (.inr d) e2,c⟩,r⟩
 | own y=>obtain⟨ob,e⟩:=x;exact⟨ob,k _ _ Be e⟩
 | xd fs=>obtain⟨mA,⟨od,es,ep,e,c⟩,r⟩:=x;exact⟨mA,⟨od,es,ep,k _ _ Be e,c⟩,r⟩
 | rng lo hi=>obtain⟨t,u,v,e⟩:=x;exact⟨t,u,v,k _ _ Be e⟩
 | frz ob u ih=>obtain⟨e,q⟩:=x;exact⟨k _ _ Be e,ih q⟩
 | tbl ps =>
  have e:A0 a { cls:=.none,data:=.fields ps }:=x
  show AU a { cls:=.none,data:=.fields ps }
  exact k a _ Be e
 | met f y =>
  have e:A0 a (Zo7 (.ref f) (.ref y)):=x
  show AU a (Zo7 (.ref f) (.ref y))
  exact k a _ Be e
 | ext φ=>obtain⟨p,⟨o,e⟩,st⟩:=x;exact⟨st _ _ p fun o q=>k _ _ Be q,⟨o,k _ _ Be e⟩,st⟩
 | tab ps pos q =>
  obtain⟨m,e,t,r⟩:=x
  exact⟨m,k _ _ Be e,t,r.imp id fun⟨c',oc,vs,t2,e1,e2,q1,q2⟩=>⟨c',oc,vs,t2,e1,hf _ _ _ e2,q1,q2⟩⟩
theorem HOk.lt(x:HOk P w H h)(e:Aa (H a) o):a<h.objs.size:=(x a o e).lt
theorem HOk.fresh(x:HOk P w H h)(e:h.objs.size<=a):H a=none:=by
 cases q:H a with
 | none=>rfl
 | some u=>exact absurd (Zhd (x.lt q) e) (Zib _)
theorem HOk.kept(x:HOk P w H h)(k:∀b u,A0 b u->AU b u):HOk P w H h':=fun a o e =>
 (x a o e).stay (fun b u _ q=>k b u q) (fun _ q=>q) fun _ _ q=>q
theorem HOk.laid(x:HOk P w H h)(k:∀b u,A0 b u->AU b u)(hp:h.objs.size<=a)(new:zdb P w (upd H a o) h' a o):HOk P w (upd H a o) h':=fun b u e=>by
 have hn:=x.fresh hp
 by_cases hb:b=a
 .subst hb;rw[zam] at e;cases e;exact new
 .rw[zal hb] at e
  exact(x b u e).stay (fun c v _ q=>k c v q) (fun c q=>by rw[zal (za6 q hn)];exact q) fun c xs q=>by rw[zal (za6 q hn)];exact q
end
noncomputable def Rd(H:Hp)(a:Addr)(u:HO):Prop:=Aa (H a) u \/ ∃o,Aa (H a) (.frz o u)
theorem Rd.ok{P:Zg8}{w:Zhy}{H:Hp}{h:Heap}{a:Addr}{u:HO}(r:Rd H a u)(x:HOk P w H h):zdb P w H h a u:=by
 rcases r with r | ⟨o,r⟩
 .exact x a u r
 .obtain⟨_,q⟩:=x a _ r
  exact q
noncomputable def Mut:Af (Option HO)
 | some (.lst _)=>True
 | some (.dK _)=>True
 | some (.dT _)=>True
 | some (.set _ _)=>True
 | some (.ins _ _ _)=>True
 | some (.ext _)=>True
 | _=>False
section
variable{P:Zg8}{w:Zhy}{H:Hp}{h h':Heap}{x e:Addr}{o':HO}
theorem HOk.write(ok:HOk P w H h)(mu:Mut (H x))(he:e=x\/Aa (H e) (.own x))(k:∀b u,b≠e->A0 b u->AU b u)(heo:∃u,AU e u)
  (new:zdb P w (upd H x o') h' x o'):HOk P w (upd H x o') h':=fun b u q=>by
 have nown:∀c y,Aa (H c) (.own y)->c≠x:=fun c y r z=>by subst z;rw[r] at mu;exact mu
 have ntup:∀c xs,Aa (H c) (.tup xs)->c≠x:=fun c xs r z=>by subst z;rw[r] at mu;exact mu
 by_cases hb:b=x
 .subst hb;rw[zam] at q;cases q;exact new
 .rw[zal hb] at q
  by_cases hbe:b=e
  .have q':Aa (H b) (.own x):=by
    rcases he with z | z
    .exact absurd (hbe.trans z) hb
    .rw[hbe];exact z
   rw[q] at q';cases q'
   obtain⟨v,hv⟩:=heo
   exact⟨v,by rw[hbe];exact hv⟩
  .refine(ok b u q).stay (fun c v hc r=>k c v ?_ r) (fun c r=>by rw[zal (nown c b r)];exact r) fun c xs r=>by rw[zal (ntup c xs r)];exact r
   rcases hc with rfl | hc
   .exact hbe
   .rintro rfl
    rcases he with z | z
    .exact nown c b hc z
    .rw[hc] at z;cases z;exact hb rfl
end
structure Un(fs ex:List Addr)(H H':Hp)(h h':Heap):Prop where
 keep:∀b o,h.get? b=some o->H b=none->b∉fs->b∉ex->h'.get? b=some o
 slot:∀b o,h.get? b=some o->H b=none->b∈fs->b∉ex-> ∃sl,h'.get? b=some { o with slots:=sl }
 free:∀b o,h.get? b=some o->H b=none->b∉ex->H' b=none
 there:∀b o,h.get? b=some o->b∉ex-> ∃o',h'.get? b=some o'
 tups:∀b xs,H b=some (.tup xs)->H' b=some (.tup xs)
 frzs:∀b o u,H b=some (.frz o u)->H' b=some (.frz o u)
 tbls:∀b ps,H b=some (.tbl ps)-> ∃more,H' b=some (.tbl (ps++more))
section
variable{fs fs' ex ex':List Addr}{H H1 H2:Hp}{h h1 h2 h':Heap}{a x e:Addr}{o:HO}
theorem Un.any(u:Un fs ex H H1 h h1){b:Addr}{ob:Obj}(q:A0 b ob)(n:H b=none)(hx:b∉ex):∃sl,Aa (h1.get? b) { ob with slots:=sl }:=by
 by_cases hb:b∈fs
 .exact u.slot b ob q n hb hx
 .exact⟨ob.slots,u.keep b ob q n hb hx⟩
theorem Un.kept(k:∀b u,A0 b u->AU b u):Un fs ex H H h h' :=
 ⟨fun b ob q _ _ _=>k b ob q,fun b ob q _ _ _=>⟨ob.slots,k b ob q⟩,fun _ _ _ n _=>n,fun b ob q _=>⟨ob,k b ob q⟩,fun _ _ q=>q,fun _ _ _ q=>q,fun _ ps q=>⟨#[],by rw[q];simp⟩⟩
theorem Un.refl:Un fs ex H H h h:=Un.kept fun _ _ q=>q
theorem Un.laid(k:∀b u,A0 b u->AU b u)(hp:h.objs.size<=a)(hn:H a=none):Un fs ex H (upd H a o) h h' where
 keep:=fun b u q _ _ _=>k b u q
 slot:=fun b u q _ _ _=>⟨u.slots,k b u q⟩
 free:=fun b u q n _=>by rw[zal (Zhb (Zhd (Zgv q) hp))];exact n
 there:=fun b u q _=>⟨u,k b u q⟩
 tups:=fun b xs q=>by rw[zal (za6 q hn)];exact q
 frzs:=fun b u xs q=>by rw[zal (za6 q hn)];exact q
 tbls:=fun b ps q=>⟨#[],by rw[zal (za6 q hn),q];simp⟩
theorem Un.write(mu:Mut (H x))(he:e=x\/Aa (H e) (.own x))(k:∀b u,b≠e->A0 b u->AU b u)(heo:∃u,AU e u):Un fs ex H (upd H x o) h h':=by
 have hx:∀b,H b=none->b≠x:=fun b n z=>by subst z;rw[n] at mu;exact mu
 have hb:∀b,H b=none->b≠e:=fun b n z=>by
  subst z
  rcases he with r | r
  .exact hx b n r
  .rw[n] at r;cases r
 have hm:∀b u,Aa (H b) u-> ¬ Mut (some u)->b≠x:=fun b u q nm z=>by subst z;rw[q] at mu;exact nm mu
 refine⟨fun b u q n _ _=>k b u (hb b n) q,fun b u q n _ _=>⟨u.slots,k b u (hb b n) q⟩,fun b u q n _=>by rw[zal (hx b n)];exact n,fun b u q _=>?_,
  fun b xs q=>by rw[zal (hm b _ q fun z=>z)];exact q,fun b u xs q=>by rw[zal (hm b _ q fun z=>z)];exact q,fun b ps q=>⟨#[],by rw[zal (hm b _ q fun z=>z),q];simp⟩⟩
 by_cases hbe:b=e
 .subst hbe;exact heo
 .exact⟨u,k b u hbe q⟩
end
noncomputable def trk(h:Heap)(H:Hp):List Addr:=(Zhi h.objs.size).filter fun a=>(H a).isSome
noncomputable def hidT(h:Heap)(H:Hp):Heap:=PySem.W.hideAll h (trk h H)
theorem ztw(h:Heap)(H:Hp):(hidT h H).objs.size=h.objs.size:=PySem.W.hideAll_size _ _
theorem zx4{h:Heap}{H:Hp}{b:Addr}{o:Obj}(e:A0 b o)(n:H b=none):Aa ((hidT h H).get? b) o :=
 PySem.W.hideAll_get _ e fun hm=>by
  have q:Ab (H b).isSome:=(Zjq.mp hm).2
  rw[n] at q;simp at q
theorem yb4{h:Heap}{H:Hp}{b:Addr}{o:Obj}(e:Aa ((hidT h H).get? b) o):A0 b o/\H b=none:=by
 have e':A0 b o:=PySem.W.of_hideAll (trk h H) e
 refine⟨e',?_⟩
 cases q:H b with
 | none=>rfl
 | some x =>
  have hm:b∈trk h H:=Zjq.mpr ⟨Zic.mpr (Zgv e'),by simp[q]⟩
  have z:(hidT h H).get? b=none:=PySem.W.hideAll_none (trk h H) hm
  rw[z] at e;cases e
noncomputable def yb7(g h:Heap)(L:Addr):AJ Obj:=(Zhi h.objs.size).filterMap fun a=>if a=L\/Ab (g.get? a).isSome then none else (h.get? a).map fun o=>(a,o)
noncomputable def rest(g h:Heap)(L d:Addr):AJ Obj:=(yb7 g h L).filter fun p=>decide (p.1≠d)
structure Mod(K:Zgh)(mg:Str->Option Zgi)(base:Heap):Prop where
 kin:K.In base
 glob:base.Ns Zkp mg
 blt:∃mb,base.Ns Zws mb /\ ∀x:Str,x ≠ "__name__" -> mb x=Zo4 x
 nolimit:base.NoLimit
structure Cx where
 prog:Zg8
 w:Zhy
 K:Zgh
 mg:Str->Option Zgi
 base:Heap
 A:Zhk
 N:List Str
 s₀:Zgk
 Hz:Hp
 env:Env
 outer:List Env
 stack:List Env
 ex:List Addr
 fn:Str->Bool
 calm:Bool
 pn:List (Addr×Obj)
 xe:Zgi->Zgk->Prop
noncomputable def frs(l:List Env):List Addr:=l.filterMap (·.frame)
noncomputable abbrev Cx.fs(X:Cx):List Addr:=frs X.outer
noncomputable def Vis(sc:Scope)(x:Str):Prop:=Aa (sc.names.lookup x) .local\/Aa (sc.names.lookup x) .cell\/Aa (sc.names.lookup x) .free
noncomputable def Loc(sc:Scope)(x:Str):Prop:=Aa (sc.names.lookup x) .local\/Aa (sc.names.lookup x) .cell
noncomputable def Look(env:Env)(h:Heap)(m:Str->AY)(x:Str)(u:Zgi):Prop :=
 (Aa (env.kindOf x) .local/\Aa (m x) u)\/((Aa (env.kindOf x) .cell\/Aa (env.kindOf x) .free) /\ ∃c,Aa (env.cells.lookup x) c/\h.IsCell c (some u))
structure Cx.Ok(X:Cx):Prop where
 mod:Mod X.K X.mg X.base
 kind:X.env.scope.kind= .function
 glob:X.env.globals=Zkp
 blt:X.env.builtins=Zws
 above:X.s₀.heap.objs.size<=X.env.locals
 inj:∀x y c,X.env.cells.lookup x=some c->X.env.cells.lookup y=some c->x=y
 has:∀x,(X.env.kindOf x=some .cell\/X.env.kindOf x=some .free)-> ∃c,X.env.cells.lookup x=some c
 cab:∀x c,X.fn x=true->X.env.cells.lookup x=some c->X.s₀.heap.objs.size<=c
 hd:X.calm=true->X.A.handled=none
 frames:X.A.frames=some X.stack
 stk:X.stack=X.outer\/(X.stack=X.env::X.outer/\X.env.frame=some X.env.locals)
 exf:∀b∈X.ex,b≠X.env.locals /\ ∀x c,X.env.cells.lookup x=some c->c≠b
 bs:∀b o,X.base.get? b=some o->X.s₀.heap.get? b=some o/\X.Hz b=none
 bsz:X.base.objs.size<=X.s₀.heap.objs.size
 noex:∀b o,X.base.get? b=some o->b∉X.ex
 exfs:∀b∈X.ex,b∉X.fs
 funs:X.s₀.heap.FunFrames X.base X.outer
 frf:∀b∈X.fs,X.Hz b=none
structure Inv(X:Cx)(pins:List (Addr×Obj))(σ:List (Option V))(H:Hp)(s:Zgk):Prop where
 ok:X.Ok
 os:s.os=X.s₀.os
 bare:Zp8 s.gens
 base:Un X.fs X.ex X.Hz H X.s₀.heap s.heap
 loc:∃m,s.heap.Ns X.env.locals m /\ ∀(i:Nat) (x:Str) (v:V),X.N[i]? = some x->σ[i]? = some (some v)->Vis X.env.scope x-> ∃u,RelV v u/\Look X.env s.heap m x u
 cell:∀x c,X.env.cells.lookup x=some c-> ∃v,s.heap.IsCell c v
 free:H X.env.locals=none
 freeC:∀x c,X.env.cells.lookup x=some c->H c=none
 pin:∀p∈X.pn++pins,s.heap.get? p.1=some p.2/\H p.1=none/\p.1≠X.env.locals/\p.1∉X.fs /\ ∀v,p.2.data ≠ .cell v
 hok:HOk X.prog X.w H s.heap
 len:σ.length=X.N.length
section
variable{X:Cx}{pins:List (Addr×Obj)}{σ:List (Option V)}{H H':Hp}{s:Zgk}{h':Heap}
theorem Cx.Ok.nofr(ok:X.Ok){b:Addr}{o:Obj}(e:Aa (X.base.get? b) o):b∉X.fs:=fun hb=>by
 have:=(ok.funs.mem hb).1
 rw[e] at this;cases this
theorem Inv.bs(I:Ag H s):∀b o,Aa (X.base.get? b) o->AH b o/\H b=none:=fun b o e =>
 ⟨I.base.keep b o (I.ok.bs b o e).1 (I.ok.bs b o e).2 (I.ok.nofr e) (I.ok.noex b o e),I.base.free b o (I.ok.bs b o e).1 (I.ok.bs b o e).2 (I.ok.noex b o e)⟩
theorem Inv.bk(I:Ag H s):∀b o,Aa (X.base.get? b) o->AH b o:=fun b o e=>(I.bs b o e).1
theorem Inv.mod(I:Ag H s):Mod X.K X.mg X.base:=I.ok.mod
theorem Inv.kIn(I:Ag H s):X.K.In s.heap:=I.ok.mod.kin.keeps I.bk
theorem Inv.fr(I:Ag H s):∃m,Fr X.base X.env.locals s.heap m :=
 let ⟨m,hn,_⟩:=I.loc
 ⟨m,hn,I.bk,Zi6 I.ok.bsz I.ok.above⟩
theorem Inv.lt(I:Ag H s):X.env.locals<s.heap.objs.size:=let ⟨_,hn,_⟩:=I.loc;hn.lt
theorem Inv.sz(I:Ag H s):X.s₀.heap.objs.size<=s.heap.objs.size:=Zi6 I.ok.above (Zp9 I.lt)
theorem Inv.nofs(I:Ag H s){a:Addr}(h:s.heap.objs.size<=a):a∉X.fs:=fun hb=>by
 obtain⟨_,o,ho,_⟩:=I.ok.funs.mem hb
 exact absurd (Zhd (Zgv ho) (Zi6 I.sz h)) (Zib _)
theorem Inv.cne(I:Ag H s):∀x c,Aa (X.env.cells.lookup x) c->c≠X.env.locals:=fun x c e z=>by
 obtain⟨v,o,ho,hd⟩:=I.cell x c e
 obtain⟨m,⟨o',es,ep,ho',hd',_⟩,_⟩:=I.loc
 rw[z,ho'] at ho;cases ho;rw[hd'] at hd;cases hd
theorem Inv.funs(I:Ag H s):s.heap.FunFrames X.base X.outer:=by
 have all:∀(l:List Env),(∀b∈frs l,b∈X.fs)->X.s₀.heap.FunFrames X.base l->s.heap.FunFrames X.base l:=by
  intro l
  induction l with
  | nil=>intro _ _;trivial
  | cons env r ih =>
   intro hs hl
   obtain⟨hk,⟨L,o,hf,hn,ho,hd⟩,hr⟩:=hl
   have hL:L∈X.fs:=hs L (by unfold frs;rw[Zkt,hf];exact Zgz)
   obtain⟨sl,e⟩:=I.base.slot L o ho (I.ok.frf L hL) hL fun z=>I.ok.exfs L z hL
   exact⟨hk,⟨L,_,hf,hn,e,hd⟩,ih (fun b hb=>hs b (by unfold frs;rw[Zkt,hf];exact Zgq _ hb)) hr⟩
 exact all X.outer (fun _ hb=>hb) I.ok.funs
theorem Inv.stack(I:Ag H s):s.heap.FunFrames X.base X.stack:=by
 rcases I.ok.stk with e | ⟨e,hf⟩
 .rw[e];exact I.funs
 .rw[e]
  obtain⟨m,hn,_⟩:=I.loc
  refine .cons (by rw[I.ok.kind];decide) hf hn ?_ I.funs
  exact Heap.get?_none_of_le (Zi6 I.ok.bsz I.ok.above)
theorem Inv.stkSub(I:Ag H s):∀b∈frs X.stack,b∈X.env.locals::X.fs:=fun b hb=>by
 rcases I.ok.stk with e | ⟨e,hf⟩
 .rw[e] at hb;exact Zgq _ hb
 .rw[e] at hb
  unfold frs at hb
  rw[Zkt,hf] at hb
  exact hb
theorem Inv.stkFree(I:Ag H s):∀b∈frs X.stack,H b=none:=fun b hb=>by
 rcases Zgp.mp (I.stkSub b hb) with e | hb
 .rw[e];exact I.free
 .obtain⟨_,o,ho,_⟩:=I.ok.funs.mem hb
  exact I.base.free b o ho (I.ok.frf b hb) fun z=>I.ok.exfs b z hb
theorem Inv.step{g':Array GenState}{t':Nat}{d':Zp5}{ch:List Addr}(I:Ag H s)
  (hch:∀b∈ch,(b∈X.ex\/X.s₀.heap.objs.size<=b)/\b≠X.env.locals/\(∀x c,Aa (X.env.cells.lookup x) c->c≠b) /\ ∀p∈X.pn++pins,p.1≠b)
  (keep:∀b o,b≠X.env.locals->b∉X.fs->b∉ch->AH b o->H b=none->AU b o)
  (slot:∀b o,b≠X.env.locals->b∈X.fs->b∉ch->AH b o->H b=none-> ∃sl,AU b { o with slots:=sl }) (free:∀b o,b∉ch->AH b o->H b=none->H' b=none)
  (there:∀b o,b∉ch->AH b o-> ∃o',AU b o')
  (tups:∀b xs,Aa (H b) (.tup xs)->Aa (H' b) (.tup xs)) (frzs:∀b o u,Aa (H b) (.frz o u)->Aa (H' b) (.frz o u)) (tbls:∀b ps,Aa (H b) (.tbl ps)-> ∃more,Aa (H' b) (.tbl (ps++more)))
  (ns:∀m,s.heap.Ns X.env.locals m->h'.Ns X.env.locals m) (hok:HOk X.prog X.w H' h') (hg:Zp8 g') :
  Ag H' { s with heap:=h',gens:=g',drawn:=d',toks:=t' }:=by
 have neL:∀b o,Aa (X.s₀.heap.get? b) o->b≠X.env.locals:=fun b o e=>Zhb (Zhd (Zgv e) I.ok.above)
 have neC:∀b o,Aa (X.s₀.heap.get? b) o->b∉X.ex->b∉ch:=fun b o e hx hb=>by
  rcases(hch b hb).1 with z | z
  .exact hx z
  .exact absurd (Zhd (Zgv e) z) (Zib _)
 have cellK:∀x c,Aa (X.env.cells.lookup x) c-> ∀v,s.heap.IsCell c v->h'.IsCell c v:=fun x c e v ⟨o,ho,hd⟩=>by
  have nch:c∉ch:=fun z=>(hch c z).2.2.1 x c e rfl
  by_cases hc:c∈X.fs
  .obtain⟨sl,q⟩:=slot c o (I.cne x c e) hc nch ho (I.freeC x c e)
   exact(AD q hd)
  .exact⟨o,keep c o (I.cne x c e) hc nch ho (I.freeC x c e),hd⟩
 refine⟨I.ok,I.os,hg,⟨fun b o e n hb hx=>?_,fun b o e n hb hx=>?_,fun b o e n hx=>?_,fun b o e hx=>?_,fun b xs e=>tups b xs (I.base.tups b xs e),fun b o xs e=>frzs b o xs (I.base.frzs b o xs e),fun b ps e=>?_⟩,?_,fun x c e=>?_,?_,fun x c e=>?_,fun p hp=>?_,hok,I.len⟩
 .exact keep b o (neL b o e) hb (neC b o e hx) (I.base.keep b o e n hb hx) (I.base.free b o e n hx)
 .obtain⟨sl,e1⟩:=I.base.slot b o e n hb hx
  obtain⟨sl',e2⟩:=slot b _ (neL b o e) hb (neC b o e hx) e1 (I.base.free b o e n hx)
  exact⟨sl',e2⟩
 .obtain⟨o',e1⟩:=I.base.there b o e hx
  exact free b o' (neC b o e hx) e1 (I.base.free b o e n hx)
 .obtain⟨o',e1⟩:=I.base.there b o e hx
  exact there b o' (neC b o e hx) e1
 .obtain⟨m1,e1⟩:=I.base.tbls b ps e
  obtain⟨m2,e2⟩:=tbls b _ e1
  exact⟨m1++m2,by rw[e2,Array.append_assoc]⟩
 .obtain⟨m,hn,hl⟩:=I.loc
  refine⟨m,ns m hn,fun i x v e1 e2 e3=>?_⟩
  obtain⟨u,r,l⟩:=hl i x v e1 e2 e3
  refine⟨u,r,?_⟩
  rcases l with l | ⟨k,c,e,z⟩
  .exact .inl l
  .exact .inr ⟨k,c,e,cellK x c e _ z⟩
 .obtain⟨v,z⟩:=I.cell x c e
  exact⟨v,cellK x c e v z⟩
 .obtain⟨m,⟨o,_,_,ho,_⟩,_⟩:=I.loc
  exact free _ o (fun z=>(hch _ z).2.1 rfl) ho I.free
 .obtain⟨v,o,ho,hd⟩:=I.cell x c e
  exact free c o (fun z=>(hch c z).2.2.1 x c e rfl) ho (I.freeC x c e)
 .obtain⟨e,n,ne,nf,d⟩:=I.pin p hp
  have nch:p.1∉ch:=fun z=>(hch p.1 z).2.2.2 p hp rfl
  exact⟨keep p.1 p.2 ne nf nch e n,free p.1 p.2 nch e n,ne,nf,d⟩
theorem Inv.un{t':Nat}(I:Ag H s)(u:Un X.fs [] H H' s.heap h')(hok:HOk X.prog X.w H' h'):BV H':=by
 obtain⟨m,⟨o,es,ep,ho,r⟩,_⟩:=id I.loc
 obtain⟨sl,hL⟩:=u.any ho I.free (by simp)
 exact I.step (g':=s.gens) (d':=s.drawn) (ch:=[]) (fun _ z=>nomatch z) (fun b o _ hb _ e n=>u.keep b o e n hb (by simp)) (fun b o _ hb _ e n=>u.slot b o e n hb (by simp)) (fun b o _ e n=>u.free b o e n (by simp)) (fun b o _ e=>u.there b o e (by simp)) u.tups u.frzs u.tbls (fun m' hm=>by
  obtain⟨o',es',ep',ho',r'⟩:=hm
  rw[ho] at ho';cases ho'
  exact⟨_,es',ep',hL,r'⟩) hok I.bare
theorem Inv.call{g':Array GenState}{t':Nat}{d':Zp5}{ch:List Addr}(I:Ag H s)(u:Un (frs X.stack) ch H H' s.heap h')(hok:HOk X.prog X.w H' h')(hg:Zp8 g')
  (hch:∀b∈ch,(b∈X.ex\/X.s₀.heap.objs.size<=b)/\b≠X.env.locals/\(∀x c,Aa (X.env.cells.lookup x) c->c≠b) /\ ∀p∈X.pn++pins,p.1≠b) :
  Ag H' { s with heap:=h',gens:=g',drawn:=d',toks:=t' }:=by
 obtain⟨m,⟨o,es,ep,ho,r⟩,_⟩:=id I.loc
 obtain⟨sl,hL⟩:=u.any ho I.free fun z=>(hch _ z).2.1 rfl
 exact I.step (ch:=ch) hch (fun b o hL hb hc e n=>u.keep b o e n (fun z=>(Zgp.mp (I.stkSub b z)).elim hL hb) hc) (fun b o _ _ hc e n=>u.any e n hc) (fun b o hc e n=>u.free b o e n hc) (fun b o hc e=>u.there b o e hc) u.tups u.frzs u.tbls (fun m' hm=>by
  obtain⟨o',es',ep',ho',r'⟩:=hm
  rw[ho] at ho';cases ho'
  exact⟨_,es',ep',hL,r'⟩) hok hg
theorem Inv.turned{t':Nat}{it:Addr}(I:Ag H s)(k:∀b o,b≠it->AH b o->AU b o)(hn:H it=none)(hL:it≠X.env.locals)
  (h1:it∈X.ex\/X.s₀.heap.objs.size<=it) (h2:∀x c,Aa (X.env.cells.lookup x) c->c≠it) (h3:∀p∈X.pn++pins,p.1≠it):BV H:=by
 have nit:∀b u,Aa (H b) u->b≠it:=fun b u e z=>by rw[z,hn] at e;cases e
 refine I.step (g':=s.gens) (d':=s.drawn) (ch:=[it]) (fun b hb=>?_) (fun b o _ _ hc e _=>k b o (fun z=>hc (by simp[z])) e) (fun b o _ _ hc e _=>⟨o.slots,k b o (fun z=>hc (by simp[z])) e⟩) (fun _ _ _ _ n=>n)
  (fun b o hc e=>⟨o,k b o (fun z=>hc (by simp[z])) e⟩) (fun _ _ e=>e) (fun _ _ _ e=>e) (fun b ps e=>⟨#[],by rw[e];simp⟩) (fun m hm=>?_) (fun b u e=>?_) I.bare
 .have e:b=it:=by simpa using hb
  subst e
  exact⟨h1,hL,h2,h3⟩
 .obtain⟨o,es,ep,ho,r⟩:=hm
  exact⟨o,es,ep,k _ o (Zh1 hL) ho,r⟩
 .refine(I.hok b u e).stay (fun c v hc q=>k c v ?_ q) (fun _ q=>q) fun _ _ q=>q
  rcases hc with z | z
  .rw[z];exact nit b u e
  .exact nit c _ z
theorem Inv.tok(I:Ag H s)(t:Nat):Ag H { s with toks:=t }:=I.un (h':=s.heap) (t':=t) Un.refl I.hok
theorem Inv.kept{t':Nat}(I:Ag H s)(k:∀b u,AH b u->AU b u):BV H:=I.un (Un.kept k) (I.hok.kept k)
theorem Inv.laid{a:Addr}{o:HO}{t':Nat}(I:Ag H s)(k:∀b u,AH b u->AU b u)(hp:s.heap.objs.size<=a)(new:zdb X.prog X.w (upd H a o) h' a o) :
  BV (upd H a o):=I.un (Un.laid k hp (I.hok.fresh hp)) (I.hok.laid k hp new)
theorem Inv.write{x e:Addr}{o:HO}{t':Nat}(I:Ag H s)(mu:Mut (H x))(he:e=x\/Aa (H e) (.own x))(k:∀b u,b≠e->AH b u->AU b u)(heo:∃u,AU e u)
  (new:zdb X.prog X.w (upd H x o) h' x o):BV (upd H x o):=I.un (Un.write mu he k heo) (I.hok.write mu he k heo new)
theorem Inv.weak{σ':List (Option V)}(I:Ag H s)(hl:σ'.length=σ.length)(w:∀(i:Nat) v,Ak σ' (some v)->Ak σ (some v)):BU X σ' H s :=
 ⟨I.ok,I.os,I.bare,I.base,let ⟨m,hn,hl'⟩:=I.loc;⟨m,hn,fun i x v e1 e2 e3=>hl' i x v e1 (w i v e2) e3⟩,I.cell,I.free,I.freeC,I.pin,I.hok,hl.trans I.len⟩
theorem Inv.pins_of{pins':AJ Obj}(I:Ag H s)(h:∀p∈pins',AH p.1 p.2/\H p.1=none/\p.1≠X.env.locals/\p.1∉X.fs /\ ∀v,p.2.data ≠ .cell v):Inv X pins' σ H s :=
 ⟨I.ok,I.os,I.bare,I.base,I.loc,I.cell,I.free,I.freeC,fun p hp=>(Zhh.mp hp).elim (fun z=>I.pin p (Zit _ z)) (h p),I.hok,I.len⟩
theorem zrb{N:Al}(hN:N.Nodup){i j:Nat}{x:Str}(a:Ak N x)(b:Ax N j x):i=j:=by
 obtain⟨h1,e1⟩:=Zgo.mp a
 obtain⟨h2,e2⟩:=Zgo.mp b
 exact(Zuy hN).mp (e1.trans e2.symm)
theorem znp{M:Zur}{A:Zhk}{E:Zgi->Ah}{i:Nat}{x:Str}{v:V}{u:Zgi}{Q:Unit->Ah}(I:Ag H s)(hN:X.N.Nodup)(hi:Ak X.N x)(hx:Loc X.env.scope x)(r:RelV v u)
  (h:∀s',BU X (σ.set i (some v)) H s'->(∃a,Zhq a s.heap s'.heap/\(a=X.env.locals\/Aa (X.env.cells.lookup x) a))->Q () s') (hf:Ab (X.fn x)\/Aa (X.env.scope.names.lookup x) .local:=by first | exact Be | exact .inr rfl | assumption):Zg1 M A (storeName X.env x u) Q E s:=by
 obtain⟨m,hn,hl⟩:=id I.loc
 have hcls:Am (X.env.scope.kind == .class||(X.env.scope.kind == .module&&X.env.locals != X.env.globals)):=by rw[I.ok.kind];rfl
 have hiσ:i<σ.length:=by rw[I.len];exact(Zgo.mp hi).1
 have cne:=I.cne
 have tracked:∀{a:Addr} {h':Heap},(∃o,AH a o/\H a=none)->Zhq a s.heap h'->HOk X.prog X.w H h':=fun {a h'} ha hs b ob e=>by
  obtain⟨_,_,hfree⟩:=ha
  refine(I.hok b ob e).stay (fun c w' hc q=>(hs.2 c ?_).trans q) (fun _ q=>q) fun _ _ q=>q
  rintro rfl
  rcases hc with rfl | hc
  .rw[hfree] at e;cases e
  .rw[hfree] at hc;cases hc
 rcases hx with hk | hk
 .refine wpAny_storeName_local hk hn (fun h' hn' hs=>?_) hcls
  obtain⟨oL,_,_,hoL,_⟩:=id hn
  refine h _ ⟨I.ok,I.os,I.bare,⟨fun b o e n hb hx=>?_,fun b o e n hb hx=>?_,I.base.free,fun b o e hx=>?_,I.base.tups,I.base.frzs,I.base.tbls⟩,(AD hn' (fun j y v' e1 e2 e3=>?_)),fun y c e=>?_,I.free,I.freeC,fun p hp=>?_,tracked ⟨oL,hoL,I.free⟩ hs,by simpa using I.len⟩ (AD hs Be)
  .exact(hs.2 b (Zhb (Zhd (Zgv e) I.ok.above))).trans (I.base.keep b o e n hb hx)
  .obtain⟨sl,e1⟩:=I.base.slot b o e n hb hx
   exact⟨sl,(hs.2 b (Zhb (Zhd (Zgv e) I.ok.above))).trans e1⟩
  .obtain⟨o',e1⟩:=I.base.there b o e hx
   exact⟨o',(hs.2 b (Zhb (Zhd (Zgv e) I.ok.above))).trans e1⟩
  .by_cases hj:j=i
   .subst hj
    rw[hi] at e1;cases e1
    rw[Zji hiσ] at e2
    cases e2
    exact⟨u,r,.inl ⟨hk,by simp⟩⟩
   .rw[Zj0 (Zh1 hj)] at e2
    obtain⟨u',r',q⟩:=hl j y v' e1 e2 e3
    refine⟨u',r',?_⟩
    rcases q with ⟨k,e⟩ | ⟨k,c,e,z⟩
    .refine .inl ⟨k,?_⟩
     have:y≠x:=fun e=>hj (zrb hN e1 (e ▸ hi))
     simp[this,e]
    .exact .inr ⟨k,c,e,z.sameBut hs (cne y c e)⟩
  .obtain⟨w',z⟩:=I.cell y c e
   exact⟨w',z.sameBut hs (cne y c e)⟩
  .obtain⟨e,n,ne,nf,d⟩:=I.pin p hp
   exact⟨(hs.2 p.1 ne).trans e,n,ne,nf,d⟩
 .have hfn:Ab (X.fn x):=by
   rcases hf with z | z
   .exact z
   .rw[z] at hk;cases hk
  obtain⟨c,hc⟩:=I.ok.has x (.inl hk)
  obtain⟨w',z⟩:=I.cell x c hc
  refine wpAny_storeName_cell I.ok.kind hk hc z (fun h' hc' hs=>?_)
  obtain⟨oc,hoc,hocd⟩:=id z
  refine h { s with heap:=h' } ⟨I.ok,I.os,I.bare,⟨fun b o e n hb hx=>?_,fun b o e n hb hx=>?_,I.base.free,fun b o e hx=>?_,I.base.tups,I.base.frzs,I.base.tbls⟩,⟨m,hn.sameBut hs (Zh1 (cne x c hc)),fun j y v' e1 e2 e3=>?_⟩,fun y c' e=>?_,I.free,I.freeC,fun p hp=>?_,tracked ⟨oc,hoc,I.freeC x c hc⟩ hs,by simpa using I.len⟩ ⟨c,hs,.inr hc⟩
  .exact(hs.2 b (Zhb (Zhd (Zgv e) (I.ok.cab x c hfn hc)))).trans (I.base.keep b o e n hb hx)
  .obtain⟨sl,e1⟩:=I.base.slot b o e n hb hx
   exact⟨sl,(hs.2 b (Zhb (Zhd (Zgv e) (I.ok.cab x c hfn hc)))).trans e1⟩
  .obtain⟨o',e1⟩:=I.base.there b o e hx
   exact⟨o',(hs.2 b (Zhb (Zhd (Zgv e) (I.ok.cab x c hfn hc)))).trans e1⟩
  .by_cases hj:j=i
   .subst hj
    rw[hi] at e1;cases e1
    rw[Zji hiσ] at e2
    cases e2
    exact⟨u,r,.inr ⟨.inl hk,c,hc,hc'⟩⟩
   .rw[Zj0 (Zh1 hj)] at e2
    obtain⟨u',r',q⟩:=hl j y v' e1 e2 e3
    refine⟨u',r',?_⟩
    rcases q with q | ⟨k,c',e,z'⟩
    .exact .inl q
    .refine .inr ⟨k,c',e,z'.sameBut hs ?_⟩
     rintro rfl
     exact hj (zrb hN e1 (I.ok.inj _ _ _ e hc ▸ hi))
  .by_cases hcc:c'=c
   .subst hcc;exact⟨_,hc'⟩
   .obtain⟨w2,z2⟩:=I.cell y c' e
    exact⟨w2,z2.sameBut hs hcc⟩
  .obtain⟨e,n,ne,nf,d⟩:=I.pin p hp
   refine⟨(hs.2 p.1 ?_).trans e,n,ne,nf,d⟩
   intro q
   rw[q,hoc] at e
   have q':oc=p.2:=Zim e
   exact d w' (by rw[<- q'];exact hocd)
theorem zl2{M:Zur}{A:Zhk}{E:Zgi->Ah}{i:Nat}{x:Str}{v:V}{u:Zgi}{Q:Unit->Ah}(I:Ag H s)(hN:X.N.Nodup)(hi:Ak X.N x)(hx:Loc X.env.scope x)(r:RelV v u)
  (h:∀s',BU X (σ.set i (some v)) H s'->Q () s') (hf:Ab (X.fn x)\/Aa (X.env.scope.names.lookup x) .local:=by first | exact Be | exact .inr rfl | assumption):Zg1 M A (storeName X.env x u) Q E s :=
 znp I hN hi hx r (fun s' I' _=>h s' I') hf
theorem Inv.call'{s':Zgk}{ch:List Addr}(I:Ag H s)(ho:s'.os=s.os)(u:Un (frs X.stack) ch H H' s.heap s'.heap)(hok:HOk X.prog X.w H' s'.heap)(hg:Zp8 s'.gens)
  (hch:∀b∈ch,(b∈X.ex\/X.s₀.heap.objs.size<=b)/\b≠X.env.locals/\(∀x c,Aa (X.env.cells.lookup x) c->c≠b) /\ ∀p∈X.pn++pins,p.1≠b):Ag H' s':=by
 obtain⟨h',g',d',t',o'⟩:=s'
 have e:o'=s.os:=ho
 subst e
 exact I.call (g':=g') (t':=t') (d':=d') u hok hg hch
end
noncomputable abbrev XK:=Zgi->Option Addr->Af Hp
noncomputable abbrev St:=List (Option V)
noncomputable abbrev VK:=V->Af Hp
noncomputable abbrev TE:=St->Hp->Af VK
noncomputable abbrev TT:=St->Hp->Af (Bool->Af Hp)
noncomputable abbrev TA:=St->Hp->Af (Ao->Af Hp)
structure Ends where
 nx:St->Hp->Prop
 rt:VK
 bk:St->Hp->Prop:=fun _ _=>False
 ct:St->Hp->Prop:=fun _ _=>False
noncomputable abbrev TS:=Ends->St->Af Hp
noncomputable def EP(X:Cx)(pins:AJ Obj)(σ:St)(Q:VK)(u:Zgi)(s':Zgk):Prop:=∃v H',Ag H' s'/\RelV v u/\Q v H'
noncomputable def TP(X:Cx)(pins:AJ Obj)(σ:St)(Q:Bool->Af Hp)(b:Bool)(s':Zgk):Prop:=∃H',Ag H' s'/\Q b H'
noncomputable def AP(X:Cx)(pins:AJ Obj)(σ:St)(Q:Ao->Af Hp)(us:Ar)(s':Zgk):Prop:=∃vs H',Ag H' s'/\Vals vs us/\Q vs H'
noncomputable def SP(X:Cx)(pins:AJ Obj)(D:Ends)(f:Flow)(s':Zgk):Prop :=
 match f with
 | .next=>∃σ' H',BU X σ' H' s'/\D.nx σ' H'
 | .brk=>∃σ' H',BU X σ' H' s'/\D.bk σ' H'
 | .cont=>∃σ' H',BU X σ' H' s'/\D.ct σ' H'
 | .ret u=>∃v σ' H',BU X σ' H' s'/\RelV v u/\D.rt v H'
noncomputable def PE(X:Cx)(e:Expr)(t:TE):Prop :=
 ∀(pins:AJ Obj) (s:Zgk) (σ:St) (H:Hp) (Q:VK),Ag H s->t σ H Q->AW X.w X.A (Bh e) (EP X pins σ Q) X.xe s
noncomputable def PT(X:Cx)(e:Expr)(t:TT):Prop :=
 ∀(pins:AJ Obj) (s:Zgk) (σ:St) (H:Hp) (Q:Bool->Af Hp),Ag H s->t σ H Q->AW X.w X.A (isTrue e X.env (Bh e)) (TP X pins σ Q) X.xe s
noncomputable def PW(X:Cx)(e:Expr)(t:TT):Prop :=
 ∀(whole:Sem Zgi) (pins:AJ Obj) (s:Zgk) (σ:St) (H:Hp) (Q:Bool->Af Hp),Ag H s->t σ H Q->AW X.w X.A (isTrue e X.env whole) (TP X pins σ Q) X.xe s
theorem PW.pt{X:Cx}{e:Expr}{t:TT}(h:PW X e t):PT X e t:=h _
noncomputable def PA(X:Cx)(es:List Expr)(t:TA):Prop :=
 ∀(pos:Pos) (pins:AJ Obj) (s:Zgk) (σ:St) (H:Hp) (Q:Ao->Af Hp),Ag H s->t σ H Q->AW X.w X.A (Zyf (Zlw pos (Zh5 es X.env))) (AP X pins σ Q) X.xe s
noncomputable def PS(X:Cx)(st:Stmt)(t:TS):Prop :=
 ∀(pins:AJ Obj) (s:Zgk) (σ:St) (H:Hp) (D:Ends),Ag H s->t D σ H->AW X.w X.A (exec st X.env) (SP X pins D) X.xe s
noncomputable def PSs(X:Cx)(st:List Stmt)(t:TS):Prop :=
 ∀(pins:AJ Obj) (s:Zgk) (σ:St) (H:Hp) (D:Ends),Ag H s->t D σ H->AW X.w X.A (execs st X.env) (SP X pins D) X.xe s
theorem thn{α:Type}{t:Sem α}{Q Q':α->Ah}{M:Zur}{A:Zhk}{E:Zgi->Ah}{s:Zgk}(h:Zg1 M A t Q E s)(hQ:∀a s,Q a s->Q' a s):Zg1 M A t Q' E s:=Zif h hQ fun _ _ x=>x
section
variable{X:Cx}
noncomputable def tVar(i:Nat):TE:=fun σ H Q=>∃v,Ak σ (some v)/\Q v H
noncomputable def tC(v:V):TE:=fun _ H Q=>Q v H
theorem yef{i:Nat}{x:Str}{pos:Pos}(hN:Ak X.N x)(hv:Vis X.env.scope x)(hd:Am (x == ("__debug__" : Str)):=by decide)(hcd:Am (x == ("__classdict__" : Str)):=by decide):PE X (.Name x pos) (tVar i):=by
 intro pins s σ H Q I h
 obtain⟨v,e,h⟩:=h
 obtain⟨m,hn,hl⟩:=I.loc
 obtain⟨u,r,l⟩:=hl i x v hN e hv
 have fin:EP X pins σ Q u s:=⟨v,H,I,r,h⟩
 rcases l with ⟨hk,hm⟩ | ⟨hk,c,hc,hcell⟩
 .exact Zwk (wpAny_loadName_local I.ok.kind hk hn hm fin) hd
 .rcases hk with hk | hk
  .exact Zwk (wpAny_loadName_cell I.ok.kind hk hc hcell fin) hd
  .exact Zwk (wpAny_loadName_free I.ok.kind hk hc hcell fin hcd) hd
theorem zaj{i j pos}:PE X (.Constant (.int i) j pos) (tC (.int i)):=fun _ _ _ H _ I h=>wpAny_Constant_int ⟨.int i,H,I.tok _,(AF _),h⟩
theorem zow{b j pos}:PE X (.Constant (.bool b) j pos) (tC (.bl b)):=fun _ _ _ H _ I h=>Constant_bool ⟨.bl b,H,I,rfl,h⟩
theorem zak{x j pos}:PE X (.Constant (.str x) j pos) (tC (.str x)):=fun _ _ _ H _ I h=>Zm1 ⟨.str x,H,I.tok _,(AF _),h⟩
noncomputable def Gl(X:Cx)(x:Str):Prop:=Aa (X.env.kindOf x) .globalImplicit
theorem zpl{E:Zgi->Ah}{pins:AJ Obj}{s:Zgk}{σ:St}{H:Hp}{x:Str}{u:Zgi}{pos:Pos}{Q:Zgi->Ah}(I:Ag H s)(hg:Gl X x)(hm:Aa (X.mg x) u)(h:Q u s)
  (hd:Am (x == ("__debug__" : Str)):=by decide):AW X.w X.A (Bh (.Name x pos)) Q E s :=
 Zq0 I.ok.kind hg (Calls.loadGlobal_global (by rw[I.ok.glob];exact I.mod.glob.keeps I.bk) hm h) hd
theorem zmn{E:Zgi->Ah}{pins:AJ Obj}{s:Zgk}{σ:St}{H:Hp}{x:Str}{u:Zgi}{pos:Pos}{Q:Zgi->Ah}(I:Ag H s)(hg:Gl X x)(hm:X.mg x=none)(hv:Aa (Zo4 x) u)(h:Q u s)
  (hn:x ≠ "__name__" := by decide) (hd:Am (x == ("__debug__" : Str)):=by decide):AW X.w X.A (Bh (.Name x pos)) Q E s:=by
 obtain⟨mb,h1,h2⟩:=I.mod.blt
 exact Zq0 I.ok.kind hg (Calls.loadGlobal_builtin (by rw[I.ok.glob];exact I.mod.glob.keeps I.bk) hm (by rw[I.ok.blt];exact h1.keeps I.bk) ((h2 x hn).trans hv) h) hd
theorem zcz{x:Str}{v:V}{u:Zgi}{pos:Pos}(hg:Gl X x)(hm:Aa (X.mg x) u)(r:RelV v u)(hd:Am (x == ("__debug__" : Str)):=by decide):PE X (.Name x pos) (tC v) :=
 fun _ _ _ H _ I h=>zpl I hg hm ⟨v,H,I,r,h⟩ hd
variable{a b:Expr}{ta tb:TE}{pos:Pos}
noncomputable def PC(X:Cx)(op:Zv1)(a b:Expr)(t:TE):Prop :=
 ∀(pins:AJ Obj) (s:Zgk) (σ:St) (H:Hp) (Q:VK),Ag H s->t σ H Q ->
  AW X.w X.A (Bh a) (fun v s₁=>AW X.w X.A (Bh b) (fun u s₂=>AW X.w X.A (Zjz op v u) (EP X pins σ Q) X.xe s₂) X.xe s₁) X.xe s
noncomputable def tB(t:TE):TT:=fun σ H Q=>t σ H fun x H1=>∃c,x= .bl c/\Q c H1
theorem zz6{op:Zv1}{t:TE}(h:PC X op a b t)(h1:Am (Zod op b):=by first | exact nobehind _ (by decide) (by decide) | rfl):PT X (.Compare a [op] [b] pos) (tB t):=by
 intro pins s σ H Q I hw
 refine Zue (thn (h pins s σ H _ I hw) fun v s1 h1=>thn h1 fun u s2 h2=>thn h2 fun c s3 hz9=>?_) h1
 obtain⟨x,H1,I1,r1,q1⟩:=hz9
 obtain⟨d,rfl,q⟩:=q1
 cases r1
 exact Zjt ⟨H1,I1,q⟩
theorem zmu{e:Expr}{t:TE}(h:PE X e t)(he:∀whole,isTrue e X.env whole=(do let v <- whole;standAt e.pos;Zvg [v] (truthy v)):=by intro _;rfl):PT X e (tB t):=by
 intro pins s σ H Q I hw
 refine isTrue_plain (thn (h pins s σ H _ I hw) fun v s1 hz9=>?_) (he _)
 obtain⟨x,H1,I1,r1,q1⟩:=hz9
 obtain⟨d,rfl,q⟩:=q1
 cases r1
 exact Zjt ⟨H1,I1,q⟩
variable{tA tB':TT}{rest:List Expr}
noncomputable def tAnd(t u:TT):TT:=fun σ H Q=>t σ H fun c H1=>BC c (u σ H1 Q) (Q false H1)
noncomputable def tOr(t u:TT):TT:=fun σ H Q=>t σ H fun c H1=>BC c (Q true H1) (u σ H1 Q)
noncomputable def tNot(t:TT):TT:=fun σ H Q=>t σ H fun c H1=>Q (!c) H1
theorem zjx(ha:PT X a tA):PW X (.BoolOp .And [a] pos) tA:=by
 intro wh pins s σ H Q I h
 refine isTrue_and (thn (ha pins s σ H Q I h) fun c s1 e=>?_)
 cases c with
 | true=>exact isTrue_and_nil e
 | false=>exact e
theorem zvl(ha:PT X a tA):PW X (.BoolOp .Or [a] pos) tA:=by
 intro wh pins s σ H Q I h
 refine isTrue_or (thn (ha pins s σ H Q I h) fun c s1 e=>?_)
 cases c with
 | false=>exact isTrue_or_nil e
 | true=>exact e
theorem zi0(ha:PT X a tA)(hb:PW X (.BoolOp .And (b::rest) pos) tB'):PW X (.BoolOp .And (a::b::rest) pos) (tAnd tA tB'):=by
 intro wh pins s σ H Q I h
 refine isTrue_and (thn (ha pins s σ H _ I h) fun c s1 hz9=>?_)
 obtain⟨H1,I1,q1⟩:=hz9
 cases c with
 | true=>exact hb wh pins s1 σ H1 Q I1 q1
 | false=>exact⟨H1,I1,q1⟩
theorem ybe(ha:PT X a tA)(hb:PW X (.BoolOp .Or (b::rest) pos) tB'):PW X (.BoolOp .Or (a::b::rest) pos) (tOr tA tB'):=by
 intro wh pins s σ H Q I h
 refine isTrue_or (thn (ha pins s σ H _ I h) fun c s1 hz9=>?_)
 obtain⟨H1,I1,q1⟩:=hz9
 cases c with
 | true=>exact⟨H1,I1,q1⟩
 | false=>exact hb wh pins s1 σ H1 Q I1 q1
theorem zql(ha:PT X a tA):PT X (.UnaryOp .Not a pos) (tNot tA):=by
 intro pins s σ H Q I h
 exact isTrue_not (ha pins s σ H (fun c H1=>Q (!c) H1) I h)
noncomputable def yer(ta tb:TE):TE:=fun σ H Q=>ta σ H fun x H1=>∃c,x= .bl c/\BC c (tb σ H1 Q) (Q (.bl false) H1)
noncomputable def tOrV(ta tb:TE):TE:=fun σ H Q=>ta σ H fun x H1=>∃c,x= .bl c/\BC c (Q (.bl true) H1) (tb σ H1 Q)
theorem zrk{op}{t:TE}(h:PE X a t):PE X (.BoolOp op [a] pos) t:=fun pins s σ H Q I hw=>BoolOp_one (h pins s σ H Q I hw)
theorem zt6(ha:PE X a ta)(hb:PE X (.BoolOp .And (b::rest) pos) tb):PE X (.BoolOp .And (a::b::rest) pos) (yer ta tb):=by
 intro pins s σ H Q I h
 refine BoolOp_and (thn (ha pins s σ H _ I h) fun v s1 hz9=>?_)
 obtain⟨x,H1,I1,r1,q1⟩:=hz9
 obtain⟨c,rfl,q1⟩:=q1
 cases r1
 refine Zjt ?_
 cases c with
 | true=>exact hb pins s1 σ H1 Q I1 q1
 | false=>exact⟨.bl false,H1,I1,rfl,q1⟩
theorem yfy(ha:PE X a ta)(hb:PE X (.BoolOp .Or (b::rest) pos) tb):PE X (.BoolOp .Or (a::b::rest) pos) (tOrV ta tb):=by
 intro pins s σ H Q I h
 refine BoolOp_or (thn (ha pins s σ H _ I h) fun v s1 hz9=>?_)
 obtain⟨x,H1,I1,r1,q1⟩:=hz9
 obtain⟨c,rfl,q1⟩:=q1
 cases r1
 refine Zjt ?_
 cases c with
 | false=>exact hb pins s1 σ H1 Q I1 q1
 | true=>exact⟨.bl true,H1,I1,rfl,q1⟩
noncomputable def tIf(t:TT)(ta tb:TE):TE:=fun σ H Q=>t σ H fun c H1=>BC c (ta σ H1 Q) (tb σ H1 Q)
theorem zyr{c:Expr}(hc:PT X c tA)(ha:PE X a ta)(hb:PE X b tb):PE X (.IfExp c a b pos) (tIf tA ta tb):=by
 intro pins s σ H Q I h
 refine wpAny_IfExp (thn (hc pins s σ H _ I h) fun d s1 hz9=>?_)
 obtain⟨H1,I1,q1⟩:=hz9
 cases d with
 | true=>exact ha pins s1 σ H1 Q I1 q1
 | false=>exact hb pins s1 σ H1 Q I1 q1
end
noncomputable def SqL(K:Zgh)(H:Hp)(a:Addr)(xs:Ao):Prop :=
 Rd H a (.lst xs) \/
  ∃(o:Obj) (its:Array Zgi) (n:Nat),Aa (K.lookup a) o/\o.cls= .type "list" /\ o.dict=none/\o.data= .seq its n/\AL its.size/\Vals xs its.toList
noncomputable def SqT(K:Zgh)(H:Hp)(a:Addr)(xs:Ao):Prop :=
 Rd H a (.tup xs) \/
  ∃(o:Obj) (its:Array Zgi) (n:Nat),Aa (K.lookup a) o/\o.cls= .type "tuple" /\ o.data= .seq its n/\AL its.size/\Vals xs its.toList
noncomputable def absV:Zgi->Option V
 | .none=>some .non
 | .bool b=>some (.bl b)
 | .int i _=>some (.int i)
 | .str x _=>some (.str x)
 | .bytes b _=>some (.byt b)
 | .float b _=>some (.flt b)
 | .ref a=>some Au
 | .type n=>some (.ty n)
 | _=>none
theorem RelV.abs{x:V}{u:Zgi}(r:RelV x u):Aa (absV u) x:=by
 cases x with
 | non=>cases r;rfl
 | bl _=>cases r;rfl
 | int _=>obtain⟨t,rfl⟩:=r;rfl
 | str _=>obtain⟨t,rfl⟩:=r;rfl
 | byt _=>obtain⟨t,rfl⟩:=r;rfl
 | flt _=>obtain⟨t,rfl⟩:=r;rfl
 | ref _=>cases r;rfl
 | ty _=>cases r;rfl
theorem RelV.inj{x y:V}{u:Zgi}(r:RelV x u)(q:RelV y u):x=y:=Zim (r.abs.symm.trans q.abs)
theorem Vals.inj:∀{xs ys:Ao} {us:Ar},Vals xs us->Vals ys us->xs=ys
 | _,_,_,.nil,.nil=>rfl
 | _,_,_,.cons r t,.cons r' t'=>by rw[r.inj r',Vals.inj t t']
section
variable{X:Cx}{pins:List (Addr×Obj)}{σ:St}{H:Hp}{s:Zgk}{a:Addr}{xs ys:List V}
theorem SqL.of{K:Zgh}(h:Aa (H a) (.lst xs)):SqL K H a xs:=.inl (.inl h)
theorem SqT.of{K:Zgh}(h:Aa (H a) (.tup xs)):SqT K H a xs:=.inl (.inl h)
theorem Inv.list(I:Ag H s)(h:SqL X.K H a xs):∃its:Ar,Vals xs its/\PlainL s.heap a its.toArray/\AL xs.length:=by
 rcases h with h | ⟨o,its,n,hk,hc,hd,hs,hz,r⟩
 .obtain⟨z,its,n,r,e⟩:=h.ok I.hok
  exact⟨its,r,⟨_,n,e,rfl,rfl,rfl⟩,z⟩
 .refine⟨its.toList,r,⟨o,n,I.kIn a o hk,hc,hd,by simpa using hs⟩,?_⟩
  have e:=r.length
  simp only[Zhg] at e
  omega
theorem Inv.tuple(I:Ag H s)(h:SqT X.K H a xs):∃its:Ar,Vals xs its/\IsTup s.heap a its.toArray/\AL xs.length:=by
 rcases h with h | ⟨o,its,n,hk,hc,hs,hz,r⟩
 .obtain⟨z,its,r,p⟩:=h.ok I.hok
  exact⟨its,r,p,z⟩
 .refine⟨its.toList,r,⟨o,I.kIn a o hk,hc,n,by simpa using hs⟩,?_⟩
  have e:=r.length
  simp only[Zhg] at e
  omega
theorem Inv.list_inj(I:Ag H s)(h:SqL X.K H a xs)(h':SqL X.K H a ys):xs=ys:=by
 obtain⟨its,r,⟨o,n,e,_,_,d⟩,_⟩:=I.list h
 obtain⟨its',r',⟨o',n',e',_,_,d'⟩,_⟩:=I.list h'
 rw[e] at e';cases e'
 rw[d] at d'
 injection d' with d1 _
 have:its=its':=by simpa using congrArg Zwf d1
 subst this
 exact r.inj r'
theorem Inv.tuple_inj(I:Ag H s)(h:SqT X.K H a xs)(h':SqT X.K H a ys):xs=ys:=by
 obtain⟨its,r,⟨o,e,_,n,d⟩,_⟩:=I.tuple h
 obtain⟨its',r',⟨o',e',_,n',d'⟩,_⟩:=I.tuple h'
 rw[e] at e';cases e'
 rw[d] at d'
 injection d' with d1 _
 have:its=its':=by simpa using congrArg Zwf d1
 subst this
 exact r.inj r'
end
noncomputable abbrev Cx.wish(X:Cx)(E:Zgi->Ah):Cx:={ X with xe:=E }
noncomputable abbrev Cx.nox(X:Cx):Cx:=X.wish fun _ _=>False
theorem Cx.Ok.wish{X:Cx}(ok:X.Ok)(E:Zgi->Ah):(X.wish E).Ok :=
 ⟨ok.mod,ok.kind,ok.glob,ok.blt,ok.above,ok.inj,ok.has,ok.cab,ok.hd,ok.frames,ok.stk,ok.exf,ok.bs,ok.bsz,ok.noex,ok.exfs,ok.funs,ok.frf⟩
theorem Cx.Ok.unwish{X:Cx}{E:Zgi->Ah}(ok:(X.wish E).Ok):X.Ok :=
 ⟨ok.mod,ok.kind,ok.glob,ok.blt,ok.above,ok.inj,ok.has,ok.cab,ok.hd,ok.frames,ok.stk,ok.exf,ok.bs,ok.bsz,ok.noex,ok.exfs,ok.funs,ok.frf⟩
section
variable{X:Cx}{pins:List (Addr×Obj)}{σ:St}{H:Hp}{s:Zgk}{E:Zgi->Zgk->Prop}
theorem Inv.wish(I:Ag H s)(E:Zgi->Ah):BU (X.wish E) σ H s:=⟨I.ok.wish E,I.os,I.bare,I.base,I.loc,I.cell,I.free,I.freeC,I.pin,I.hok,I.len⟩
theorem Inv.unwish(I:BU (X.wish E) σ H s):Ag H s:=⟨I.ok.unwish,I.os,I.bare,I.base,I.loc,I.cell,I.free,I.freeC,I.pin,I.hok,I.len⟩
theorem SP.unwish{D:Ends}{f:Flow}{s':Zgk}(h:SP (X.wish E) pins D f s'):SP X pins D f s':=by
 cases f with
 | next=>obtain⟨σ',H',I,q⟩:=h;exact⟨σ',H',I.unwish,q⟩
 | brk=>obtain⟨σ',H',I,q⟩:=h;exact⟨σ',H',I.unwish,q⟩
 | cont=>obtain⟨σ',H',I,q⟩:=h;exact⟨σ',H',I.unwish,q⟩
 | ret u=>obtain⟨v,σ',H',I,r,q⟩:=h;exact⟨v,σ',H',I.unwish,r,q⟩
theorem PSs.nox{st:List Stmt}{t:TS}(h:PSs X.nox st t):PSs X st t:=fun pins s σ H D I hw =>
 Zif (h pins s σ H D (I.wish _) hw) (fun _ _ q=>q.unwish) fun _ _ z=>Zkl z
end
section
variable{X:Cx}{st:Stmt}{rest:List Stmt}{t u:TS}{e:Expr}{te:TE}{pos:Pos}
noncomputable def ydl:TS:=fun D σ H=>D.nx σ H
noncomputable def tSeq(t u:TS):TS:=fun D σ H=>t { D with nx:=u D } σ H
theorem za0:PSs X [] ydl:=fun _ _ σ H _ I h=>Zng ⟨σ,H,I,h⟩
theorem zah(h1:PS X st t)(h2:PSs X rest u):PSs X (st::rest) (tSeq t u):=by
 intro pins s σ H D I h
 refine Zlx (thn (h1 pins s σ H { D with nx:=u D } I h) fun f s1 q=>?_)
 cases f with
 | next =>
  obtain⟨σ',H',I',q⟩:=q
  exact h2 pins s1 σ' H' D I' q
 | ret v=>exact q
 | brk=>exact q
 | cont=>exact q
theorem zai(h1:PS X st t):PSs X [st] t:=by
 intro pins s σ H D I h
 refine Zlx (thn (h1 pins s σ H D I h) fun f s1 q=>?_)
 cases f with
 | next=>exact Zng q
 | ret v=>exact q
 | brk=>exact q
 | cont=>exact q
theorem Inv.quiet{pins:AJ Obj}{σ:St}{H:Hp}{s:Zgk}(I:Ag H s):Am (interactive X.env):=by simp[interactive,I.ok.kind]
noncomputable def zum(te:TE):TS:=fun D σ H=>te σ H fun _ H1=>D.nx σ H1
theorem zlt(he:PE X e te)(hs:Zo0 e none pos.line X.env=pure false:=by rfl):PS X (.Expr e pos) (zum te):=by
 intro pins s σ H D I h
 exact wpAny_Expr_any (thn (he pins s σ H _ I h) fun v s1 ⟨x,H1,I1,r1,q1⟩=>⟨σ,H1,I1,q1⟩) I.quiet hs
noncomputable def tRet(te:TE):TS:=fun D σ H=>te σ H D.rt
theorem zaw(he:PE X e te):PS X (.Return (some e) pos) (tRet te):=by
 intro pins s σ H D I h
 exact Zwj (thn (he pins s σ H _ I h) fun v s1 ⟨x,H1,I1,r1,q1⟩=>⟨x,σ,H1,I1,r1,q1⟩)
noncomputable def tIfS(c:TT)(t u:TS):TS:=fun D σ H=>c σ H fun b H1=>BC b (t D σ H1) (u D σ H1)
theorem zcn{c:Expr}{a b:List Stmt}{tc:TT}(hc:PT X c tc)(ha:PSs X a t)(hb:PSs X b u):PS X (.If c a b pos) (tIfS tc t u):=by
 intro pins s σ H D I h
 refine wpAny_If (thn (hc pins s σ H _ I h) fun d s1 hz9=>?_)
 obtain⟨H1,I1,q1⟩:=hz9
 cases d with
 | true=>exact ha pins s1 σ H1 D I1 q1
 | false=>exact hb pins s1 σ H1 D I1 q1
noncomputable def yds:TS:=fun _ _ _=>False
theorem zgg:PS X st yds:=fun _ _ _ _ _ _ h=>h.elim
end
noncomputable abbrev TG:=V->St->Hp->Af (St->Af Hp)
noncomputable abbrev TGs:=Ao->St->Hp->Af (St->Af Hp)
noncomputable def PG(X:Cx)(target:Expr)(t:TG):Prop :=
 ∀(pins:AJ Obj) (s:Zgk) (σ:St) (H:Hp) (v:V) (u:Zgi) (Q:St->Af Hp),Ag H s->RelV v u->t v σ H Q ->
  AW X.w X.A (Zul target X.env u) (fun _ s'=>∃σ' H',BU X σ' H' s'/\Q σ' H') X.xe s
noncomputable def PGs(X:Cx)(ts:List Expr)(t:TGs):Prop :=
 ∀(pins:AJ Obj) (s:Zgk) (σ:St) (H:Hp) (vs:Ao) (us:Ar) (Q:St->Af Hp),Ag H s->Vals vs us->t vs σ H Q ->
  AW X.w X.A (assignInOrder ((Zm8 ts X.env).map (·.2)) us) (fun _ s'=>∃σ' H',BU X σ' H' s'/\Q σ' H') X.xe s
section
variable{X:Cx}{pos:Pos}
noncomputable def zho(i:Nat):TG:=fun v σ H Q=>Q (σ.set i (some v)) H
theorem zb9{i:Nat}{x:Str}(hN:X.N.Nodup)(hi:Ak X.N x)(hx:Loc X.env.scope x)(hf:Ab (X.fn x)\/Aa (X.env.scope.names.lookup x) .local:=by first | exact Be | exact .inr rfl | assumption):PG X (.Name x pos) (zho i):=by
 intro pins s σ H v u Q I r h
 exact Zwi (zl2 I hN hi hx r (fun s' I'=>⟨_,H,I',h⟩) hf)
noncomputable def gNil:TGs:=fun vs σ H Q=>vs=[]/\Q σ H
noncomputable def ycc(t:TG)(u:TGs):TGs:=fun vs σ H Q=>∃v r,vs=v::r/\t v σ H fun σ' H'=>u r σ' H' Q
theorem zft:PGs X [] gNil:=by
 intro pins s σ H vs us Q I r h
 obtain⟨e,h⟩:=h
 subst e
 cases r
 exact assignInOrder_nil ⟨σ,H,I,h⟩
theorem zbd{e:Expr}{es:List Expr}{t:TG}{u:TGs}(h1:PG X e t)(h2:PGs X es u)
  (hs:(Zm8 (e::es) X.env).map (·.2)=Zul e X.env::(Zm8 es X.env).map (·.2):=by rfl):PGs X (e::es) (ycc t u):=by
 intro pins s σ H vs us Q I r h
 obtain⟨v,vr,e1,h⟩:=h
 subst e1
 cases r with
 | cons r rr =>
  rw[hs]
  refine assignInOrder_cons (thn (h1 pins s σ H _ _ _ I r h) fun _ s1 hz9=>?_)
  obtain⟨σ1,H1,I1,q1⟩:=hz9
  exact h2 pins s1 σ1 H1 _ _ Q I1 rr q1
noncomputable def gTup(K:Zgh)(n:Nat)(t:TGs):TG:=fun v σ H Q=>∃a xs,v= Au/\SqT K H a xs/\xs.length=n/\t xs σ H Q
theorem zkq{es:List Expr}{k:Nat}{t:TGs}{n:Nat}(hc:Ab X.calm)(h:PGs X es t)
  (hn:(Zm8 es X.env).length=n:=by rfl) (hst:(Zm8 es X.env).findIdx? (·.1)=none:=by rfl):PG X (.Tuple es k pos) (gTup X.K n t):=by
 intro pins s σ H v u Q I r hw
 obtain⟨a,xs,e1,hq,hl,hw⟩:=hw
 subst e1
 cases r
 obtain⟨its,rv,ht,hz⟩:=I.tuple hq
 refine assign_Tuple_tuple (I.ok.hd hc) ht (by simp[hn,<- hl,rv.length]) hst fun h' hx=>?_
 have I1:Ag H { s with heap:=h' }:=I.kept (t':=s.toks) fun b o e=>hx b o (Zhb (Zgv e)) e
 exact h pins _ σ H xs _ Q I1 (by simpa using rv) hw
noncomputable def tAsg(te:TE)(g:TG):TS:=fun D σ H=>te σ H fun x H1=>g x σ H1 D.nx
theorem yey{tg e:Expr}{te:TE}{g:TG}(he:PE X e te)(hg:PG X tg g)(hs:swapsWithSole [tg] e pos.line X.env=pure false:=by rfl)(hw:swappedStores [tg] e X.env=pure none:=by rfl)
  (h1:(Zm8 [tg] X.env).map (·.2)=[Zul tg X.env]:=by rfl):PS X (.Assign [tg] e pos) (tAsg te g):=by
 intro pins s σ H D I h
 refine wpAny_Assign_stores (thn (he pins s σ H _ I h) fun v s1 hz9=>?_) hs hw
 obtain⟨x,H1,I1,r1,q1⟩:=hz9
 rw[h1]
 exact thn (hg pins s1 σ H1 x v _ I1 r1 q1) fun _ s2 q=>q
theorem zwr{i:Nat}{x:Str}{e:Expr}{te:TE}{pos':Pos}(hN:X.N.Nodup)(hi:Ak X.N x)(hx:Loc X.env.scope x)(he:PE X e te)(hs:Zo0 e (some (.Name x pos')) pos.line X.env=pure false:=by rfl)(hf:Ab (X.fn x)\/Aa (X.env.scope.names.lookup x) .local:=by first | exact Be | exact .inr rfl | assumption) :
  PS X (.Assign [.Name x pos'] e pos) (tAsg te (zho i)):=by
 intro pins s σ H D I h
 refine Zwl (thn (he pins s σ H _ I h) fun v s1 hz9=>?_) hs
 obtain⟨y,H1,I1,r1,q1⟩:=hz9
 exact zl2 I1 hN hi hx r1 (fun s2 I2=>⟨_,H1,I2,q1⟩) hf
end
structure It where
 go:Nat->Hp->Prop
 yld:Nat->Hp->V->Hp->Prop
 stop:Nat->Hp->Prop
noncomputable def FpOk(X:Cx)(pins:AJ Obj)(H:Hp)(b:Addr):Prop :=
 H b=none/\b≠X.env.locals/\b∉X.fs/\(b∈X.ex\/X.s₀.heap.objs.size<=b)/\(∀x c,Aa (X.env.cells.lookup x) c->c≠b) /\ ∀p∈X.pn++pins,p.1≠b
theorem Inv.fpOk{X:Cx}{pins:AJ Obj}{σ:St}{H H':Hp}{s:Zgk}{b:Addr}(I:Ag H s)(hb:s.heap.objs.size<=b)(hn:H' b=none):FpOk X pins H' b:=by
 refine⟨hn,Zla (Zhd I.lt hb),I.nofs hb,.inr (Zi6 I.sz hb),fun x c e z=>?_,fun p hp z=>?_⟩
 .obtain⟨v,q⟩:=I.cell x c e
  exact absurd (Zhd q.lt (by rw[z];exact hb)) (Zib _)
 .exact absurd (Zhd (Zgv (I.pin p hp).1) (by rw[z];exact hb)) (Zib _)
structure Turn(P:Zg8)(w:Zhy)(K:Zgh)(tg:Expr)(J:It)(fp:List Addr)(it:Addr)(tn:Nat->Heap->Prop):Prop where
 mem:it∈fp
 obj:∀i h,tn i h-> ∀b∈fp,∃o,h.get? b=some o /\ ∀v,o.data ≠ .cell v
 keep:∀i h h',tn i h->(∀b∈fp,∀o,h.get? b=some o->h'.get? b=some o)->tn i h'
 item:∀(X:Cx),X.prog=P->X.w=w->X.K=K->X.calm=true-> ∀(i:Nat) (pins:List (Addr×Obj)) (s:Zgk) (σ:St) (H:Hp) (E:Zgi->Zgk->Prop),Inv X pins σ H s->(∀b∈fp,FpOk X pins H b)->tn i s.heap->J.go i H ->
  Zg1 (Zg3 P w) X.A (Zok (.ref it)) (fun r s1=>∃u,r=some u /\
   Zg1 (Zg3 P w) X.A (Zo2 tg (.ref it) u) (fun _ s2=>∃x H',Inv X pins σ H' s2/\RelV x u/\J.yld i H x H'/\tn (i+1) s2.heap /\ ∀b∈fp,H' b=none) E s1) E s
 done:∀(X:Cx),X.prog=P->X.w=w->X.K=K->X.calm=true-> ∀(i:Nat) (pins:List (Addr×Obj)) (s:Zgk) (σ:St) (H:Hp) (E:Zgi->Zgk->Prop),Inv X pins σ H s->(∀b∈fp,FpOk X pins H b)->tn i s.heap->J.stop i H ->
  Zg1 (Zg3 P w) X.A (Zok (.ref it)) (fun r s1=>r=none/\Inv X pins σ H s1) E s
 self:∀(A:Zhk) (i:Nat) (s:Zgk) (Q:Zgi->Zgk->Prop) (E:Zgi->Zgk->Prop),tn i s.heap->Q (.ref it) s->Zg1 (Zg3 P w) A (Zui (.ref it)) Q E s
noncomputable abbrev TI:=St->Hp->Af (It->Af Hp)
noncomputable def PIE(X:Cx)(pins:AJ Obj)(σ:St)(tg:Expr)(R:It->Af Hp)(itv:Zgi)(s2:Zgk):Prop :=
 ∃(it:Addr) (fp:List Addr) (tn:Nat->Af Heap) (J:It) (H':Hp),itv= .ref it/\Ag H' s2/\Turn X.prog X.w X.K tg J fp it tn/\tn 0 s2.heap/\(∀b∈fp,FpOk X pins H' b)/\R J H'
noncomputable def PI(X:Cx)(tg iter:Expr)(wi:TI):Prop :=
 ∀(pins:AJ Obj) (s:Zgk) (σ:St) (H:Hp) (R:It->Af Hp),Ag H s->wi σ H R ->
  AW X.w X.A (Bh iter) (fun v s1=>AW X.w X.A (Zui v) (PIE X pins σ tg R) X.xe s1) X.xe s
theorem ybd {M : Zur} {A : Zhk} {E : Zgi -> Zgk -> Prop} {s : Zgk} {tg : Expr} {it : Addr} {u : Zgi} {o : Obj} {n : String} {vs : Array Zgi} {Q : Unit -> Zgk -> Prop} (ho : Bq (s.heap.get? it) o) (hc : o.cls = .type n) (hd : o.data = .fields vs)
    (hn:Am (["enumerate", "zip", "dict_itemiterator", "dict_reverseitemiterator", "odict_iterator", "itertools.zip_longest", "itertools.pairwise"].contains n)) (hQ:Q () s):Zg1 M A (Zo2 tg (.ref it) u) Q E s:=by
  unfold Zo2
  cases tg <;> first
    | exact Zgj hQ
    | (cases u <;> first
        | exact Zgj hQ
        | (refine Zge (wpAny_load ho ?_)
           rw[hc,hd]
           show Zg1 M A (BC (["enumerate", "zip", "dict_itemiterator", "dict_reverseitemiterator", "odict_iterator", "itertools.zip_longest", "itertools.pairwise"].contains n&&vs[0]? == some (Zkf _)) _ _) Q E s
           rw[if_neg (by intro h;rw[hn,Znd] at h;cases h)]
           exact Zgj hQ))
noncomputable def Itl(K:Zgh)(a:Addr):It :=
 ⟨fun i H=>∃xs x,SqL K H a xs/\Ak xs x,fun i H x H'=>H'=H /\ ∀xs,SqL K H a xs->Ak xs x,fun i H=>∃xs,SqL K H a xs/\xs.length<=i⟩
noncomputable def Itr(lo:Int)(n:Nat):It:=⟨fun i _=>i<n,fun i H x H'=>H'=H/\x= .int (lo+i),fun i _=>n<=i⟩
theorem zs4{P:Zg8}{w:Zhy}{K:Zgh}{tg:Expr}(a it:Addr):Turn P w K tg (Itl K a) [it] it (fun i h=>h.IsListIter it a i) where
 mem:=by simp
 obj:=fun i h st b hb=>by
  have e:b=it:=by simpa using hb
  subst e
  obtain⟨o,e,c,d⟩:=st
  exact⟨o,e,fun v z=>by rw[d] at z;cases z⟩
 keep:=fun i h h' st k=>st.at fun o e=>k it (by simp) o e
 item:=by
  intro X hP hw hK hc i pins s σ H E I hf st hg
  subst hP hw hK
  obtain⟨xs,x,hq,hx⟩:=hg
  obtain⟨its,rv,p,hz⟩:=I.list hq
  obtain⟨u,hu,ru⟩:=rv.get hx
  obtain⟨f0,f1,f2,f3,f4,f5⟩:=hf it (by simp)
  refine Zop st p.isList (x:=u) (by simpa using hu) fun h' st' sb=>?_
  have I1:Ag H { s with heap:=h' }:=I.turned (t':=s.toks) (fun b o hb e=>(sb.2 b hb).trans e) f0 f1 f3 f4 f5
  obtain⟨o,e,c,d⟩:=id st'
  exact(Aw u (ybd (s:={ s with heap:=h' }) e c d (by decide) ⟨x,H,I1,ru,⟨rfl,fun ys hy=>by rw[I.list_inj hy hq];exact hx⟩,st',fun b hb=>(hf b hb).1⟩))
 done:=by
  intro X hP hw hK hc i pins s σ H E I hf st hg
  subst hP hw hK
  obtain⟨xs,hq,hx⟩:=hg
  obtain⟨its,rv,p,hz⟩:=I.list hq
  obtain⟨f0,f1,f2,f3,f4,f5⟩:=hf it (by simp)
  have hl:=rv.length
  exact Zoz (I.ok.hd hc) st p.isList (by simp;omega) fun h' eb=>⟨rfl,I.turned (t':=s.toks) (fun b o hb e=>eb b o hb e) f0 f1 f3 f4 f5⟩
 self:=fun _ _ _ _ _ st h=>wpAny_pyIter_listiter st h
theorem zso{P:Zg8}{w:Zhy}{K:Zgh}{tg:Expr}(it:Addr)(lo:Int)(n:Nat):Turn P w K tg (Itr lo n) [it] it (fun i h=>IsRangeIter h it (lo+(i:Nat)*1) ((n:Int) - (i:Nat)) 1) where
 mem:=by simp
 obj:=fun i h st b hb=>by
  have e:b=it:=by simpa using hb
  subst e
  exact(AD st (fun v z=>by
   have z':Data.fields _=Data.cell v:=z
   cases z'))
 keep:=fun i h h' st k=>k it (by simp) _ st
 item:=by
  intro X hP hw hK hc i pins s σ H E I hf st hg
  subst hP hw hK
  obtain⟨f0,f1,f2,f3,f4,f5⟩:=hf it (by simp)
  have W:=Walks.range (prog:=X.prog) (w:=X.w) (I.ok.hd hc) it lo 1 n
  refine W.item i s _ _ hg st fun v h' tk hv st' kk=>?_
  obtain⟨t,rfl⟩:=hv
  have I1:Ag H { s with heap:=h',toks:=tk }:=I.turned (fun b o hb e=>kk b o (by simpa using hb) e) f0 f1 f3 f4 f5
  refine(Aw _ (ybd (s:={ s with heap:=h',toks:=tk }) (n:="range_iterator") st' rfl rfl (by decide) ⟨.int (lo+i),H,I1,⟨t,?_⟩,(AF rfl),st',fun b hb=>(hf b hb).1⟩))
  rw[Int.mul_one]
 done:=by
  intro X hP hw hK hc i pins s σ H E I hf st hg
  subst hP hw hK
  obtain⟨f0,f1,f2,f3,f4,f5⟩:=hf it (by simp)
  exact wpAny_pyNext_range_end (I.ok.hd hc) st (by have:n<=i:=hg;omega) fun h' eb=>⟨rfl,I.turned (t':=s.toks) (fun b o hb e=>eb b o hb e) f0 f1 f3 f4 f5⟩
 self:=fun _ _ _ _ _ st h=>wpAny_pyIter_rangeiter st h
section
variable{X:Cx}{tg:Expr}
noncomputable def zvu(K:Zgh)(tl:TE):TI:=fun σ H R=>tl σ H fun x H1=>∃a,x= Au/\(∃xs,SqL K H1 a xs)/\R (Itl K a) H1
theorem zda{l:Expr}{tl:TE}(hl:PE X l tl):PI X tg l (zvu X.K tl):=by
 intro pins s σ H R I h
 refine thn (hl pins s σ H _ I h) fun v s1 hz9=>?_
 obtain⟨x,H1,I1,r1,q1⟩:=hz9
 obtain⟨a,e,⟨xs,hq⟩,q⟩:=q1
 subst e
 cases r1
 obtain⟨its,rv,p,hz⟩:=I1.list hq
 refine Zju p.isList ?_
 refine⟨s1.heap.objs.size,[s1.heap.objs.size],_,_,H1,rfl,I1.kept (t':=s1.toks) fun b o e=>Zgl _ e,zs4 a _,(AM _ (Zgx _ rfl) rfl),fun b hb=>?_,q⟩
 have e:b=s1.heap.objs.size:=by simpa using hb
 subst e
 exact I1.fpOk Ay (I1.hok.fresh Ay)
theorem zx6{pins:AJ Obj}{σ:St}{H:Hp}{s:Zgk}{R:It->Af Hp}{E:Zgi->Ah}{lo hi:Int}{t u v:Tok}{tk:Nat}(I:Ag H s)(h1 : -(2 ^ 62)<=lo)(h2:lo<2 ^ 62)(h3 : -(2 ^ 62)<=hi)(h4:hi<2 ^ 62)
  (q:R (Itr lo (hi - lo).toNat) H):AW X.w X.A (Zui Bz) (PIE X pins σ tg R) E { s with heap:=BD "range" (.fields #[.int lo t,.int hi u,.int 1 v]),toks:=tk }:=by
 refine wpAny_pyIter_range (IsRange.new ..) (small_one h1 h2 h3 h4) ?_
 have I1:Ag H { s with heap:=BD "range" (.fields #[.int lo t,.int hi u,.int 1 v]),toks:=tk }:=I.kept fun b o e=>Zgl _ e
 refine⟨(BD "range" (.fields #[.int lo t,.int hi u,.int 1 v])).objs.size,[(BD "range" (.fields #[.int lo t,.int hi u,.int 1 v])).objs.size],_,_,H,rfl,
  I1.kept (t':=tk) fun b o e=>Zgl _ e,zso _ lo (hi - lo).toNat,?_,fun b hb=>?_,q⟩
 .have e1:lo+((0:Nat):Int)*1=lo:=by simp
  have e2:(((hi - lo).toNat:Nat):Int) - ((0:Nat):Int)=Zxg lo hi 1:=by rw[rangeSize_one];split <;> omega
  show IsRangeIter _ _ (lo+((0:Nat):Int)*1) ((((hi - lo).toNat:Nat):Int) - ((0:Nat):Int)) 1
  rw[e1,e2]
  exact Zgx _ rfl
 .have e:b=(BD "range" (.fields #[.int lo t,.int hi u,.int 1 v])).objs.size:=by simpa using hb
  subst e
  exact I1.fpOk Ay (I1.hok.fresh Ay)
noncomputable def ydi(ta:TA):TI:=fun σ H R=>ta σ H fun vs H1=>∃j:Int,vs=[.int j] /\ -(2 ^ 62)<=j/\j<2 ^ 62/\R (Itr 0 j.toNat) H1
theorem zg4{a:Expr}{ta:TA}{p pos:Pos}(hg:Gl X "range")(hm:X.mg "range" = none)(ha:PA X [a] ta)(hs:Zh5 [a] X.env=[(false,Bh a)]:=by rfl):PI X tg (.Call (.Name "range" p) [a] [] pos) (ydi ta):=by
 intro pins s σ H R I h
 refine Call_ (zmn I hg hm boot_range (Zl8 (thn (ha pos pins s σ H _ I h) fun us s1 hz9=>?_) hs rfl))
 obtain⟨vs,H1,I1,r1,q1⟩:=hz9
 obtain⟨j,e,q1,q2,q⟩:=q1
 subst e
 cases r1 with
 | cons r rr =>
  cases rr
  obtain⟨t,rfl⟩:=r
  exact call_range_1 (zx6 I1 (by omega) (by omega) q1 q2 (by simpa using q))
noncomputable def tFor(wi:TI)(g:TG)(tb:TS):TS:=fun D σ H=>wi σ H fun J H1=>∃W:Nat->Nat->St->Af Hp,(∃m,W 0 m σ H1) /\ ∀i m σ H,W i m σ H ->
 (J.stop i H/\D.nx σ H)\/(J.go i H /\ ∃N:St->Af Hp,(∀σ' H',N σ' H'-> ∃m',m'<m/\W (i+1) m' σ' H') /\ ∀x H',J.yld i H x H'->g x σ H' fun σ2 H2=>tb { D with nx:=N,ct:=N,bk:=D.nx } σ2 H2)
noncomputable def zmw(fp:List Addr)(h:Heap):AJ Obj:=fp.filterMap fun b=>(h.get? b).map fun o=>(b,o)
theorem zf9{fp:List Addr}{h:Heap}{b:Addr}{o:Obj}(hb:b∈fp)(e:A0 b o):(b,o)∈zmw fp h:=Zm4.mpr ⟨b,hb,by rw[e];rfl⟩
theorem ztn{fp:List Addr}{h:Heap}{p:Addr×Obj}(hp:p∈zmw fp h):p.1∈fp/\A0 p.1 p.2:=by
 obtain⟨b,hb,e⟩:=Zm4.mp hp
 cases q:h.get? b with
 | none=>rw[q] at e;cases e
 | some o =>
  rw[q] at e
  have e':(b,o)=p:=Zim e
  subst e'
  exact⟨hb,q⟩
theorem Inv.pinned{pins:AJ Obj}{σ:St}{H:Hp}{s:Zgk}{fp:List Addr}(I:Ag H s)(hf:∀b∈fp,FpOk X pins H b)(ho:∀b∈fp,∃o,AH b o /\ ∀v,o.data ≠ .cell v):Inv X (pins++zmw fp s.heap) σ H s :=
 I.pins_of fun p hp=>(Zhh.mp hp).elim (fun z=>I.pin p (Zho _ z)) fun z=>by
  obtain⟨hb,e⟩:=ztn z
  obtain⟨f0,f1,f2,_⟩:=hf p.1 hb
  obtain⟨o,e',d⟩:=ho p.1 hb
  rw[e] at e';cases e'
  exact⟨e,f0,f1,f2,d⟩
theorem Inv.unpinned{pins pl:AJ Obj}{σ:St}{H:Hp}{s:Zgk}(I:Inv X (pins++pl) σ H s):Ag H s:=I.pins_of fun p hp=>I.pin p (Zho _ (Zit _ hp))
theorem zek{iter:Expr}{body:List Stmt}{wi:TI}{g:TG}{tb:TS}{pos:Pos}(hp:Zk4 (BY X.w) X.A X.env X.xe)(hc:Ab X.calm)(hi:PI X tg iter wi)(hg:PG X tg g)(hb:PSs X body tb)
  (hs:∀x,Zn2 iter X.env x=pure x:=by intro _;rfl):PS X (.For tg iter body [] pos) (tFor wi g tb):=by
 intro pins s σ H D I h
 refine wpAny_For (thn (hi pins s σ H _ I h) fun v s1 h1=>thn h1 fun itv s2 h2=>?_) hs
 obtain⟨it,fp,tn,J,H2,e,I2,T,st2,f2,W,⟨m0,w0⟩,turn⟩:=h2
 subst e
 -- what stays true of the iterator's objects through the loop
 have stat:∀{H':Hp},(∀b∈fp,H' b=none)-> ∀b∈fp,FpOk X pins H' b:=fun hn b hb=>⟨hn b hb,(f2 b hb).2⟩
 refine codeAny_forLoop_any (fun n s'=>∃i σ' H',BU X σ' H' s'/\tn i s'.heap/\(∀b∈fp,H' b=none)/\W i n σ' H') ?_ m0 ⟨0,σ,H2,I2,st2,fun b hb=>(f2 b hb).1,w0⟩
 rintro n s3 ⟨i,σ3,H3,I3,st3,fr3,w3⟩
 rcases turn i n σ3 H3 w3 with ⟨stop,qn⟩ | ⟨go,N,hN,step⟩
 .refine Znf hp (thn (T.done X rfl rfl rfl hc i pins s3 σ3 H3 X.xe I3 (stat fr3) st3 stop) fun r s4 hz9=>?_)
  obtain⟨hr,I4⟩:=hz9
  subst hr
  exact Zng ⟨σ3,H3,I4,qn⟩
 .refine Znf hp (thn (T.item X rfl rfl rfl hc i pins s3 σ3 H3 X.xe I3 (stat fr3) st3 go) fun r s4 hz9=>?_)
  obtain⟨u,hr,h4⟩:=hz9
  subst hr
  refine Znf hp (thn h4 fun _ s5 hz9=>?_)
  obtain⟨x,H5,I5,r5,y5,st5,fr5⟩:=hz9
  have I5':=I5.pinned (stat fr5) (T.obj _ _ st5)
  refine Znf hp (thn (hg _ s5 σ3 H5 x u _ I5' r5 (step x H5 y5)) fun _ s6 hz9=>?_)
  obtain⟨σ6,H6,I6,q6⟩:=hz9
  refine Znf hp (thn (hb _ s6 σ6 H6 _ I6 q6) fun f s7 q7=>?_)
  have again:∀{σ7:St} {H7:Hp},Inv X (pins++zmw fp s5.heap) σ7 H7 s7->N σ7 H7-> ∃m,m<n /\ ∃i σ' H',BU X σ' H' s7/\tn i s7.heap/\(∀b∈fp,H' b=none)/\W i m σ' H':=fun {σ7 H7} I7 n7=>by
   obtain⟨m',hm,w7⟩:=hN σ7 H7 n7
   refine⟨m',hm,i+1,σ7,H7,I7.unpinned,T.keep _ _ _ st5 fun b hb o e=>(I7.pin (b,o) (Zho _ (Zho _ (zf9 hb e)))).1,fun b hb=>?_,w7⟩
   obtain⟨o,e,d⟩:=T.obj _ _ st5 b hb
   exact(I7.pin (b,o) (Zho _ (Zho _ (zf9 hb e)))).2.1
  cases f with
  | next=>obtain⟨σ7,H7,I7,n7⟩:=q7;exact again I7 n7
  | cont=>obtain⟨σ7,H7,I7,n7⟩:=q7;exact again I7 n7
  | brk=>obtain⟨σ7,H7,I7,q7⟩:=q7;exact⟨σ7,H7,I7.unpinned,q7⟩
  | ret v=>obtain⟨x7,σ7,H7,I7,r7,q7⟩:=q7;exact⟨x7,σ7,H7,I7.unpinned,r7,q7⟩
end
noncomputable abbrev R2:=V->V->Hp->Af VK
noncomputable def OpR(X:Cx)(f:Zgi->Zgi->Sem Zgi)(r:R2):Prop :=
 ∀(pins:AJ Obj) (s:Zgk) (σ:St) (H:Hp) (x y:V) (v u:Zgi) (Q:VK),Ag H s->RelV x v->RelV y u->r x y H Q ->
  AW X.w X.A (f v u) (EP X pins σ Q) X.xe s
noncomputable def UnR(X:Cx)(f:Zgi->Sem Zgi)(r:V->Hp->Af VK):Prop :=
 ∀(pins:AJ Obj) (s:Zgk) (σ:St) (H:Hp) (x:V) (v:Zgi) (Q:VK),Ag H s->RelV x v->r x H Q ->
  AW X.w X.A (f v) (EP X pins σ Q) X.xe s
noncomputable def zdd(X:Cx)(f:Zgi)(r:Ao->Hp->Af VK):Prop :=
 ∀(pins:AJ Obj) (s:Zgk) (σ:St) (H:Hp) (xs:Ao) (us:Ar) (Q:VK),Ag H s->Vals xs us->r xs H Q ->
  AW X.w X.A (call f us) (EP X pins σ Q) X.xe s
noncomputable def tOp(r:R2)(ta tb:TE):TE:=fun σ H Q=>ta σ H fun x H1=>tb σ H1 fun y H2=>r x y H2 Q
noncomputable def tUn(r:V->Hp->Af VK)(ta:TE):TE:=fun σ H Q=>ta σ H fun x H1=>r x H1 Q
noncomputable def rI(C:Int->Af Int)(g:Int->Int->V):R2:=fun x y H Q=>∃i j,x= .int i/\y= .int j/\C i j/\Q (g i j) H
noncomputable def rI0(g:Int->Int->V):R2:=fun x y H Q=>∃i j,x= .int i/\y= .int j/\Q (g i j) H
noncomputable def rU(g:Int->V):V->Hp->Af VK:=fun x H Q=>∃i,x= .int i/\Q (g i) H
section
variable{X:Cx}{a b c:Expr}{ta tb tc:TE}{pos:Pos}
theorem binT(ha:PE X a ta)(hb:PE X b tb){pins:AJ Obj}{s:Zgk}{σ:St}{H:Hp}{R:V->V->Af Hp}(I:Ag H s)
  (h:ta σ H fun x H1=>tb σ H1 fun y H2=>R x y H2) {Q:Zgi->Ah} {f:Zgi->Zgi->Sem Zgi}
  (hf:∀v u s2 x y H2,Ag H2 s2->RelV x v->RelV y u->R x y H2->AW X.w X.A (f v u) Q X.xe s2) :
  AW X.w X.A (Bh a) (fun v s₁=>AW X.w X.A (Bh b) (fun u s₂=>AW X.w X.A (f v u) Q X.xe s₂) X.xe s₁) X.xe s:=by
 refine thn (ha pins s σ H _ I h) fun v s1 hz9=>?_
 obtain⟨x,H1,I1,r1,q1⟩:=hz9
 refine thn (hb pins s1 σ H1 _ I1 q1) fun u s2 hz9=>?_
 obtain⟨y,H2,I2,r2,q2⟩:=hz9
 exact hf v u s2 x y H2 I2 r1 r2 q2
theorem zax{op:Zzp}{r:R2}(ho:OpR X (Zk1 op) r)(ha:PE X a ta)(hb:PE X b tb):PE X (.BinOp a op b pos) (tOp r ta tb):=by
 intro pins s σ H Q I h
 exact wpAny_BinOp (binT ha hb I h fun v u s2 x y H2 I2 rx ry q=>ho pins s2 σ H2 x y v u Q I2 rx ry q)
theorem yfp{op:UnaryOp}{r:V->Hp->Af VK}(ho:UnR X (unaryOp op) r)(ha:PE X a ta):PE X (.UnaryOp op a pos) (tUn r ta):=by
 intro pins s σ H Q I h
 exact UnaryOp_ (thn (ha pins s σ H _ I h) fun v s1 ⟨x,H1,I1,r1,q1⟩=>ho pins s1 σ H1 x v Q I1 r1 q1)
theorem opI{f:Zgi->Zgi->Sem Zgi}{C:Int->Af Int}{g:Int->Int->Int}
  (rule:∀(i j:Int) (t u:Tok) (s:Zgk) (Q:Zgi->Ah) (E:Zgi->Ah),C i j->Q (.int (g i j) s.toks) { s with toks:=s.toks+1 }->AW X.w X.A (f (.int i t) (.int j u)) Q E s) :
  OpR X f (rI C fun i j=>.int (g i j)):=by
 intro pins s σ H x y v u Q I rx ry h
 obtain⟨i,j,rfl,rfl,hc,q⟩:=h
 obtain⟨t,rfl⟩:=rx
 obtain⟨t',rfl⟩:=ry
 exact rule i j t t' s _ _ hc ⟨.int (g i j),H,I.tok _,(AF _),q⟩
theorem opI0{f:Zgi->Zgi->Sem Zgi}{g:Int->Int->Int}
  (rule:∀(i j:Int) (t u:Tok) (s:Zgk) (Q:Zgi->Ah) (E:Zgi->Ah),Q (.int (g i j) s.toks) { s with toks:=s.toks+1 }->AW X.w X.A (f (.int i t) (.int j u)) Q E s) :
  OpR X f (rI0 fun i j=>.int (g i j)):=by
 intro pins s σ H x y v u Q I rx ry h
 obtain⟨i,j,rfl,rfl,q⟩:=h
 obtain⟨t,rfl⟩:=rx
 obtain⟨t',rfl⟩:=ry
 exact rule i j t t' s _ _ ⟨.int (g i j),H,I.tok _,(AF _),q⟩
theorem opB0{f:Zgi->Zgi->Sem Zgi}{g:Int->Int->Bool}
  (rule:∀(i j:Int) (t u:Tok) (s:Zgk) (Q:Zgi->Ah) (E:Zgi->Ah),Q (.bool (g i j)) s->AW X.w X.A (f (.int i t) (.int j u)) Q E s) :
  OpR X f (rI0 fun i j=>.bl (g i j)):=by
 intro pins s σ H x y v u Q I rx ry h
 obtain⟨i,j,rfl,rfl,q⟩:=h
 obtain⟨t,rfl⟩:=rx
 obtain⟨t',rfl⟩:=ry
 exact rule i j t t' s _ _ ⟨.bl (g i j),H,I,rfl,q⟩
noncomputable def CDiv(i j:Int):Prop:=0<j/\j<1073741824
theorem zi9:OpR X (Zk1 .Add) (rI0 fun i j=>.int (i+j)):=opI0 fun _ _ _ _ _ _ _ q=>add_int q
theorem zsv:OpR X (Zk1 .Sub) (rI0 fun i j=>.int (i - j)):=opI0 fun _ _ _ _ _ _ _ q=>sub_int q
theorem zeb:OpR X (Zk1 .FloorDiv) (rI CDiv fun i j=>.int (i / j)):=opI fun i j _ _ _ _ _ hc q=>by
 have h1:(0:Int)<j:=hc.1
 have h2:j<1073741824:=hc.2
 exact floordiv_int (by omega) (by rw[Int.fdiv_eq_ediv_of_nonneg i (by omega)];exact q) (.inl (PyProof.noPylong_small (by omega)))
theorem zer:OpR X (Zk1 .Mod) (rI (fun _ j=>0<j) fun i j=>.int (i % j)):=opI fun i j _ _ _ _ _ hc q=>by
 have h1:(0:Int)<j:=hc
 exact mod_int' (by omega) (by rw[Int.fmod_eq_emod_of_nonneg i (by omega)];exact q)
theorem unI{f:Zgi->Sem Zgi}{g:Int->Int}
  (rule:∀(i:Int) (t:Tok) (s:Zgk) (Q:Zgi->Ah) (E:Zgi->Ah),Q (.int (g i) s.toks) { s with toks:=s.toks+1 }->AW X.w X.A (f (.int i t)) Q E s) :
  UnR X f (rU fun i=>.int (g i)):=by
 intro pins s σ H x v Q I rx h
 obtain⟨i,rfl,q⟩:=h
 obtain⟨t,rfl⟩:=rx
 exact rule i t s _ _ ⟨.int (g i),H,I.tok _,(AF _),q⟩
theorem ydf:UnR X (unaryOp .USub) (rU fun i=>.int (-i)):=unI fun _ _ _ _ _ q=>neg_int q
end
noncomputable def scal:V->V->Bool
 | .non,.non=>true | .non,.int _=>true | .int _,.non=>true | .non,.bl _=>true | .bl _,.non=>true | .non,.str _=>true | .str _,.non=>true
 | .int _,.int _=>true | .bl _,.bl _=>true | .str _,.str _=>true | .byt _,.byt _=>true
 | .int _,.str _=>true | .str _,.int _=>true | .bl _,.str _=>true | .str _,.bl _=>true
 | _,_=>false
noncomputable def rEq:R2:=fun x y H Q=>Ab (scal x y)/\Q (.bl (AC x y)) H
noncomputable def rNe:R2:=fun x y H Q=>Ab (scal x y)/\Q (.bl (! AC x y)) H
theorem zta{i j:Int}:AC (V.int i) (V.int j)=(i == j):=by
 rw[Ziq]
 simp
theorem zzw{i j:Bool}:AC (V.bl i) (V.bl j)=(i == j):=by
 rw[Ziq]
 simp
theorem zvn{i j:Str}:AC (V.str i) (V.str j)=(i == j):=by
 rw[Ziq]
 simp
theorem zve{i j:Array UInt8}:AC (V.byt i) (V.byt j)=(i.toList == j.toList):=by
 rw[Ziq]
 cases i
 cases j
 simp
section
variable{X:Cx}{a b c:Expr}{ta tb tc:TE}{pos:Pos}
theorem zbg{pins:AJ Obj}{σ:St}{H:Hp}{s:Zgk}{Q:VK}{k k':Bool}(I:Ag H s)(q:Q (.bl k) H)(e:k=k'):EP X pins σ Q (.bool k') s:=by
 subst e
 exact⟨.bl k,H,I,rfl,q⟩
theorem zgh:OpR X (Zjz .Eq) rEq:=by
 intro pins s σ H x y v u Q I rx ry h
 obtain⟨hs,q⟩:=h
 cases x with
 | non =>
  cases rx
  cases y with
  | non=>cases ry;exact Zxv (BI I q)
  | bl j=>cases ry;exact Zxx (BI I q)
  | int j=>obtain⟨t',rfl⟩:=ry;exact Zxw (BI I q)
  | str j=>obtain⟨t',rfl⟩:=ry;exact Zxu (BI I q)
  | _=>exact absurd (show Ab false from hs) Zhs
 | bl i =>
  cases rx
  cases y with
  | non=>cases ry;exact Zxz (BI I q)
  | bl j=>cases ry;exact eq_bool (zbg I q zzw)
  | str j=>obtain⟨t',rfl⟩:=ry;exact Zw8 (BI I q)
  | _=>exact absurd (show Ab false from hs) Zhs
 | int i =>
  obtain⟨t,rfl⟩:=rx
  cases y with
  | non=>cases ry;exact Zxy (BI I q)
  | int j=>obtain⟨t',rfl⟩:=ry;exact eq_int (zbg I q zta)
  | str j=>obtain⟨t',rfl⟩:=ry;exact Zw7 (BI I q)
  | _=>exact absurd (show Ab false from hs) Zhs
 | str i =>
  obtain⟨t,rfl⟩:=rx
  cases y with
  | non=>cases ry;exact Zxt (BI I q)
  | bl j=>cases ry;exact Zw6 (BI I q)
  | int j=>obtain⟨t',rfl⟩:=ry;exact Zw5 (BI I q)
  | str j=>obtain⟨t',rfl⟩:=ry;exact eq_str (zbg I q zvn)
  | _=>exact absurd (show Ab false from hs) Zhs
 | byt i =>
  obtain⟨t,rfl⟩:=rx
  cases y with
  | byt j=>obtain⟨t',rfl⟩:=ry;exact PySem.W.eq_bytes (zbg I q zve)
  | _=>exact absurd (show Ab false from hs) Zhs
 | _=>cases y <;> exact absurd (show Ab false from hs) Zhs
theorem zly:OpR X (Zjz .NotEq) rNe:=by
 intro pins s σ H x y v u Q I rx ry h
 obtain⟨hs,q⟩:=h
 cases x with
 | non =>
  cases rx
  cases y with
  | non=>cases ry;exact Zxo (BI I q)
  | bl j=>cases ry;exact Zxq (BI I q)
  | int j=>obtain⟨t',rfl⟩:=ry;exact Zxp (BI I q)
  | str j=>obtain⟨t',rfl⟩:=ry;exact Zxn (BI I q)
  | _=>exact absurd (show Ab false from hs) Zhs
 | bl i =>
  cases rx
  cases y with
  | non=>cases ry;exact Zxs (BI I q)
  | bl j=>cases ry;exact ne_bool (zbg I q (congrArg not zzw))
  | str j=>obtain⟨t',rfl⟩:=ry;exact Zw4 (BI I q)
  | _=>exact absurd (show Ab false from hs) Zhs
 | int i =>
  obtain⟨t,rfl⟩:=rx
  cases y with
  | non=>cases ry;exact Zxr (BI I q)
  | int j=>obtain⟨t',rfl⟩:=ry;exact ne_int (zbg I q (congrArg not zta))
  | str j=>obtain⟨t',rfl⟩:=ry;exact Zw3 (BI I q)
  | _=>exact absurd (show Ab false from hs) Zhs
 | str i =>
  obtain⟨t,rfl⟩:=rx
  cases y with
  | non=>cases ry;exact Zxm (BI I q)
  | bl j=>cases ry;exact Zw2 (BI I q)
  | int j=>obtain⟨t',rfl⟩:=ry;exact Zw1 (BI I q)
  | str j=>obtain⟨t',rfl⟩:=ry;exact ne_str (zbg I q (congrArg not zvn))
  | _=>exact absurd (show Ab false from hs) Zhs
 | byt i =>
  obtain⟨t,rfl⟩:=rx
  cases y with
  | byt j=>obtain⟨t',rfl⟩:=ry;exact PySem.W.ne_bytes (zbg I q (congrArg not zve))
  | _=>exact absurd (show Ab false from hs) Zhs
 | _=>cases y <;> exact absurd (show Ab false from hs) Zhs
theorem yac:OpR X (Zjz .Lt) (rI0 fun i j=>.bl (AS i j)):=opB0 fun _ _ _ _ _ _ _ q=>lt_int q
theorem zya:OpR X (Zjz .LtE) (rI0 fun i j=>.bl (decide (i<=j))):=opB0 fun _ _ _ _ _ _ _ q=>le_int q
theorem yc3:OpR X (Zjz .Gt) (rI0 fun i j=>.bl (AS j i)):=opB0 fun _ _ _ _ _ _ _ q=>gt_int q
theorem yf0:OpR X (Zjz .GtE) (rI0 fun i j=>.bl (decide (j<=i))):=opB0 fun _ _ _ _ _ _ _ q=>ge_int q
theorem ztd:OpR X (Zjz .In) (fun x y H Q=>∃i j,x= .str i/\y= .str j/\Q (.bl (!(Zp6 j i 0 j.length 1).isEmpty)) H):=by
 intro pins s σ H x y v u Q I rx ry h
 obtain⟨i,j,rfl,rfl,q⟩:=h
 obtain⟨t,rfl⟩:=rx
 obtain⟨t',rfl⟩:=ry
 exact in_str (zbg I q rfl)
theorem zbh(b:Expr){op:Zv1}(h:op ≠ .In:=by decide)(h2:op ≠ .NotIn:=by decide):Am (Zod op b):=by
 have e1:Am (op == CmpOp.In):=by cases op <;> first | rfl | exact absurd rfl h
 have e2:Am (op == CmpOp.NotIn):=by cases op <;> first | rfl | exact absurd rfl h2
 cases b <;> simp[Zod,e1,e2]
theorem ziw{op:Zv1}{r:R2}(ho:OpR X (Zjz op) r)(ha:PE X a ta)(hb:PE X b tb)(hm:Am (Zod op b)):PE X (.Compare a [op] [b] pos) (tOp r ta tb):=by
 intro pins s σ H Q I h
 exact wpAny_Compare1 (binT ha hb I h fun v u s2 x y H2 I2 rx ry q=>ho pins s2 σ H2 x y v u Q I2 rx ry q) hm
noncomputable def zx1(t:TE):TT:=fun σ H Q=>t σ H fun x H'=>∃k,x= .bl k/\Q k H'
theorem zat{op:Zv1}{r:R2}(ho:OpR X (Zjz op) r)(ha:PE X a ta)(hb:PE X b tb)(hm:Am (Zod op b)):PT X (.Compare a [op] [b] pos) (zx1 (tOp r ta tb)):=by
 intro pins s σ H Q I h
 refine Zue (thn (ha pins s σ H _ I h) fun v s1 ⟨x,H1,I1,r1,q1⟩=>thn (hb pins s1 σ H1 _ I1 q1) fun u s2 ⟨y,H2,I2,r2,q2⟩ =>
  thn (ho pins s2 σ H2 x y v u _ I2 r1 r2 q2) fun c s3 ⟨z,H3,I3,r3,k,e,q3⟩=>?_) hm
 subst e
 cases r3
 exact Zjt ⟨H3,I3,q3⟩
noncomputable def zq8(r r':R2)(ta tb tc:TE):TE:=fun σ H Q=>ta σ H fun x H1=>tb σ H1 fun y H2=>r x y H2 fun z H3=>∃k,z= .bl k /\
 (BC k (tc σ H3 fun w' H4=>r' y w' H4 Q) (Q (.bl false) H3))
theorem zqu{op op':Zv1}{r r':R2}(ho:OpR X (Zjz op) r)(ho':OpR X (Zjz op') r')(ha:PE X a ta)(hb:PE X b tb)(hc:PE X c tc)
  (hm:Am (lastMarks [op,op'] [b,c]):=by with_unfolding_all rfl):PE X (.Compare a [op,op'] [b,c] pos) (zq8 r r' ta tb tc):=by
 intro pins s σ H Q I h
 refine Compare_chain (thn (ha pins s σ H _ I h) fun v s1 ⟨x,H1,I1,r1,q1⟩=>chain_link (thn (hb pins s1 σ H1 _ I1 q1) fun u s2 ⟨y,H2,I2,r2,q2⟩ =>
  thn (ho pins s2 σ H2 x y v u _ I2 r1 r2 q2) fun d s3 ⟨z,H3,I3,r3,k,e,q3⟩=>?_)) hm
 subst e
 cases r3
 refine Zjt ?_
 cases k with
 | false=>exact ite_ff ⟨.bl false,H3,I3,rfl,q3⟩
 | true=>exact ite_tt (chain_last (thn (hc pins s3 σ H3 _ I3 q3) fun w' s4 ⟨z',H4,I4,r4,q4⟩=>ho' pins s4 σ H4 y z' u w' Q I4 r2 r4 q4))
theorem zym{op op':Zv1}{r r':R2}(ho:OpR X (Zjz op) r)(ho':OpR X (Zjz op') r')(ha:PE X a ta)(hb:PE X b tb)(hc:PE X c tc)
  (hm:Am (lastMarks [op,op'] [b,c]):=by with_unfolding_all rfl):PT X (.Compare a [op,op'] [b,c] pos) (zx1 (zq8 r r' ta tb tc)):=by
 intro pins s σ H Q I h
 refine isTrue_chain (thn (ha pins s σ H _ I h) fun v s1 ⟨x,H1,I1,r1,q1⟩=>test_link (thn (hb pins s1 σ H1 _ I1 q1) fun u s2 ⟨y,H2,I2,r2,q2⟩ =>
  thn (ho pins s2 σ H2 x y v u _ I2 r1 r2 q2) fun d s3 ⟨z,H3,I3,r3,k,e,q3⟩=>?_)) hm
 subst e
 cases r3
 refine Zjt ?_
 cases k with
 | false =>
  obtain⟨k',e',q'⟩:=q3
  cases e'
  exact ite_ff ⟨H3,I3,q'⟩
 | true =>
  refine ite_tt (test_last (thn (hc pins s3 σ H3 _ I3 q3) fun w' s4 ⟨z',H4,I4,r4,q4⟩=>thn (ho' pins s4 σ H4 y z' u w' _ I4 r2 r4 q4) fun d' s5 hz9=>?_))
  obtain⟨z2,H5,I5,r5,k2,e2,q5⟩:=hz9
  subst e2
  cases r5
  exact Zjt ⟨H5,I5,q5⟩
theorem zn4:(sizeLine:Nat)<2 ^ 63:=by rw[Zg2];decide
theorem zaq:OpR X (Zk1 .Add) (fun x y H Q=>∃i j,x= .str i/\y= .str j/\AL (i.length+j.length)/\Q (.str (i++j)) H):=by
 intro pins s σ H x y v u Q I rx ry h
 obtain⟨i,j,rfl,rfl,hz,q⟩:=h
 obtain⟨t,rfl⟩:=rx
 obtain⟨t',rfl⟩:=ry
 exact add_str (fun t' tk=>⟨.str (i++j),H,I.tok _,(AF _),q⟩) hz
theorem zj0{x:V}{us:Ar}(r:Vals [x] us):∃u,us=[u]/\RelV x u:=by
 cases r with
 | cons r1 r2=>cases r2;exact(Aw _ r1)
theorem zrr{x y:V}{us:Ar}(r:Vals [x,y] us):∃u w',us=[u,w']/\RelV x u/\RelV y w':=by
 cases r with
 | cons r1 r2 =>
  cases r2 with
  | cons r3 r4=>cases r4;exact⟨_,_,rfl,r1,r3⟩
theorem zs9(hc:Ab X.calm):zdd X (.builtin "max") (fun xs H Q=>∃i j,xs=[.int i,.int j]/\Q (.int (if j>i then j else i)) H):=by
 intro pins s σ H xs us Q I r h
 obtain⟨i,j,rfl,q⟩:=h
 obtain⟨u,w',rfl,⟨t,rfl⟩,⟨t',rfl⟩⟩:=zrr r
 refine max_two_ints (I.ok.hd hc) fun h' tk k=>⟨_,H,I.kept k,?_,q⟩
 by_cases hj:j>i
 .rw[if_pos hj,if_pos hj];exact(AF _)
 .rw[if_neg hj,if_neg hj];exact(AF _)
theorem zvb(hc:Ab X.calm):zdd X (.builtin "min") (fun xs H Q=>∃i j,xs=[.int i,.int j]/\Q (.int (if j<i then j else i)) H):=by
 intro pins s σ H xs us Q I r h
 obtain⟨i,j,rfl,q⟩:=h
 obtain⟨u,w',rfl,⟨t,rfl⟩,⟨t',rfl⟩⟩:=zrr r
 refine min_two_ints (I.ok.hd hc) fun h' tk k=>⟨_,H,I.kept k,?_,q⟩
 by_cases hj:j<i
 .rw[if_pos hj,if_pos hj];exact(AF _)
 .rw[if_neg hj,if_neg hj];exact(AF _)
theorem zye:zdd X (.builtin "ord") (fun xs H Q=>∃x,xs=[.str x]/\x.length=1/\Q (.int (x.cps.getD 0 0:Nat)) H):=by
 intro pins s σ H xs us Q I r h
 obtain⟨x,rfl,hz,q⟩:=h
 obtain⟨u,rfl,t,rfl⟩:=zj0 r
 exact ord_of_one hz ⟨.int _,H,I.tok _,(AF _),q⟩
end
structure ObjM(h:Heap)(x dx C:Addr)(mA:Str->Option Zgi):Prop where
 obj:h.get? x=some (Zki C dx)
 ns:h.Ns1 dx mA
 ne:dx≠x
theorem zwt{h:Heap}{dx:Addr}{mA:Str->AY}(n:h.Ns1 dx mA):∃od,A0 dx od /\ ∀name,Aa (Zn7 name od) (mA name):=by
 obtain⟨o,es,ep,ho,hd,hk,_,hm⟩:=n
 refine⟨o,ho,fun name=>?_⟩
 have e:=hm name
 unfold nsFind findBy at e
 rw[<- Array.find?_toList] at e
 unfold Zn7
 rw[hd]
 dsimp only
 split
 .rename_i y q
  rw[q] at e
  exact congrArg some e
 .rename_i q
  rw[q] at e
  have a:Am (es.toList.any (·.refKey)):=by
   rw[List.any_eq_false]
   intro y hy
   obtain⟨z,t,hkey⟩:=hk y (Zoj.mp hy)
   simp[Zzt,hkey]
  have a':¬ Ab (es.toList.any (·.refKey)):=by rw[a];exact Zhs
  rw[if_neg a']
  exact congrArg some e
theorem ObjM.look{h:Heap}{x dx C:Addr}{mA:Str->AY}(I:ObjM h x dx C mA):∃od,PySem.W.InstAt h x (Zki C dx) C (some od) /\ ∀name,Aa (Zn7 name od) (mA name) :=
 let ⟨od,ho,hl⟩:=zwt I.ns
 ⟨od,(AM I.obj rfl ho),hl⟩
section
variable{prog:Zg8}{w:Zhy}{A:Zhk}{E:Zgi->Zgk->Prop}{s:Zgk}{K:Zgh}{x dx C f:Addr}{mA:Str->Option Zgi}{name:Str}{v:Zgi}
theorem ycr{expr:Bool}{Q:Zgi->Ah}(X:K.In s.heap)(I:ObjM s.heap x dx C mA)(hg:Ab (Znl K C name))(hh:Ab (Zo8 K C))
  (ha:Aa (Zi4 K (.ref C) name) none) (hv:Aa (mA name) v) (hv':Ab (Zs9 v)) (h:Q v { s with toks:=s.toks+1 }) :
  An w A (getAttr (.ref x) name expr) Q E s:=by
 obtain⟨od,J,hl⟩:=I.look
 exact PySem.W.get_value X J (Zoh hg).1 (PySem.W.findObj_own hh ha rfl (by rw[hl,hv])) hv' h
theorem zy0{pl:Sem Bool}{Q:Zgi×Ar->Ah}(X:K.In s.heap)(I:ObjM s.heap x dx C mA)(hg:Ab (Znl K C name))
  (hf:Aa (Zi4 K (.ref C) name) (some (.ref f))) (ht:Ab (Zrz K (.ref f))) (hv:mA name=none) (h:Q (.ref f,[.ref x]) s) :
  An w A (Zyi (.ref x) name pl) Q E s:=by
 obtain⟨od,J,hl⟩:=I.look
 exact PySem.W.method_fn X J (Zoh hg).1 (Zoh hg).2 hf (beq_iff_eq.mp ht) (by show(Zn7 name od).map (·.isSome)=some false;rw[hl,hv];rfl) h
theorem yaf{ns:Al}{Q:Unit->Ah}(X:K.In s.heap)(I:ObjM s.heap x dx C mA)
  (hs:Bq (Zi4 K (.ref C) "__setattr__") (some (.builtin "object.__setattr__"))) (hp:Ab (Zs1 K C)) (ht:Aa (Zpw K C name) none) (hh:Ab (Zo8 K C))
  (hw:Zsj mA ns) (hsz:AL ns.length)
  (h:∀h',ObjM h' x dx C (fun y=>if y=name then some v else mA y)->Zhq dx s.heap h'->Q () { s with heap:=h',toks:=s.toks+2 }) :
  An w A (setAttr (.ref x) name v) Q E s:=by
 obtain⟨od,J,hl⟩:=I.look
 refine PySem.W.set_plain X J hs (PySem.W.osa_open (s:={ s with toks:=s.toks+1 }) (r:=none) X J hp ht fun b=>?_)
 obtain⟨cd,hc,hd'⟩:=PySem.W.any_some hh
 have hx:AH x ⟨.ref C,some dx,.plain,#[]⟩:=I.obj
 refine Ba (Zge (Zge (wpAny_loadPart hx (Zge (Zw0 (s:={ s with toks:=s.toks+1 }) (PySem.W.looks_clsIn X hc) ?_)))))
 rw[hd']
 refine Zgj (a:=some dx) (Ba (Zge ?_))
 refine wpAny_nsSet1 (s:={ s with toks:=s.toks+1 }) I.ns fun h' hn2 hs2=>?_
 obtain⟨oD,esD,epD,hoD,hdD,hcD⟩:=hn2.count (Zxl name v hw)
 refine Zge (wpAny_lookBehind hoD (by rw[hdD];exact pastItsLine_dict (Zi6 hcD (by rw[Zg5];omega))) ?_)
 exact Zgj (h _ ⟨(hs2.2 _ (Zh1 I.ne)).trans I.obj,hn2,I.ne⟩ hs2)
theorem zyn{R:Zyn->Ah}{vs:Ar}{kw:Ai Str Zgi}(X:K.In s.heap)(hm:Ab (Ztr K C))
  (hi:Bq (Zi4 K (.ref C) "__init__") (some (.ref f))) (hf:Aa (PySem.W.typeIn K (.ref f)) (.type "function"))
  (h:Zo3 (A3 w) (A.under (.builtin "type.__call__" ⟨.ref C::vs,kw⟩)) (.call (.ref f) ⟨.ref (AR 1)::vs,kw⟩) (PySem.W.InitBack (AR 1) R)
   { s with heap:=(s.heap.push Zjh).push (Zki C s.heap.objs.size) }) :
  Zo3 (A3 w) A (.call (.ref C) ⟨vs,kw⟩) R s:=by
 obtain⟨hh,g,d,t,os⟩:=s
 exact PySem.W.make_core (PySem.W.makes_of X hm) (PySem.W.looks_findIn X hi) (fun self=>PySem.W.bind_fn X self hf) Be h
end
noncomputable def putF(f:Str)(v:V):Ai Str V->Ai Str V
 | []=>[(f,v)]
 | (g,x)::r=>if g=f then (g,v)::r else (g,x)::putF f v r
theorem zj3(f g:Str)(v:V):∀fs:Ai Str V,(putF f v fs).lookup g=if g=f then some v else fs.lookup g
 | []=>by
  show Zj6 g [(f,v)]=_
  by_cases h:g=f
  .have hb:Ab (g == f):=beq_iff_eq.mpr h
   simp only[Zj6,hb,if_pos h]
  .have hb:Am (g == f):=beq_eq_false_iff_ne.mpr h
   simp only[Zj6,hb,if_neg h]
 | (k,x)::r=>by
  have ih:=zj3 f g v r
  rw[show putF f v ((k,x)::r)=(if k=f then (k,v)::r else (k,x)::putF f v r) from rfl]
  by_cases hk:k=f
  .rw[if_pos hk]
   by_cases h:g=k
   .have hb:Ab (g == k):=beq_iff_eq.mpr h
    simp only[Zj6,hb,if_pos (h.trans hk)]
   .have hb:Am (g == k):=beq_eq_false_iff_ne.mpr h
    simp only[Zj6,hb,if_neg (fun e:g=f=>h (e.trans hk.symm))]
  .rw[if_neg hk]
   by_cases h:g=k
   .have hb:Ab (g == k):=beq_iff_eq.mpr h
    simp only[Zj6,hb,if_neg (fun e:g=f=>hk (h.symm.trans e))]
   .have hb:Am (g == k):=beq_eq_false_iff_ne.mpr h
    simp only[Zj6,hb]
    exact ih
theorem zjp(f:Str)(v:V):∀fs:Ai Str V,f∈(putF f v fs).map (·.1) /\ ∀g,g∈fs.map (·.1)->g∈(putF f v fs).map (·.1)
 | []=>⟨by simp[putF],fun g h=>by simp at h⟩
 | (k,x)::r=>by
  obtain⟨i1,i2⟩:=zjp f v r
  rw[show putF f v ((k,x)::r)=(if k=f then (k,v)::r else (k,x)::putF f v r) from rfl]
  by_cases hk:k=f
  .rw[if_pos hk]
   subst hk
   exact⟨by simp,fun g h=>by simpa using h⟩
  .rw[if_neg hk]
   refine⟨?_,fun g h=>?_⟩
   .rw[Zhc]
    exact Zgq _ i1
   .rw[Zhc] at h ⊢
    rcases Zgp.mp h with e | e
    .exact Zgp.mpr (.inl e)
    .exact Zgq _ (i2 g e)
theorem zj8(f:Str)(v:V):∀fs:Ai Str V,(putF f v fs).length<=fs.length+1
 | []=>by simp[putF]
 | (k,x)::r=>by
  have ih:=zj8 f v r
  rw[show putF f v ((k,x)::r)=(if k=f then (k,v)::r else (k,x)::putF f v r) from rfl]
  by_cases hk:k=f
  .rw[if_pos hk,Zg5,Zg5];omega
  .rw[if_neg hk,Zg5,Zg5];omega
theorem RelO.some_of{v:V}{o:AY}(r:RelO (some v) o):∃u,Aa o u/\RelV v u:=by
 cases o with
 | none=>exact(show False from r).elim
 | some u=>exact(Aw u r)
theorem RelO.none_of{o:AY}(r:RelO none o):o=none:=by
 cases o with
 | none=>rfl
 | some u=>exact(show False from r).elim
theorem zwm{v:V}{u:Zgi}(r:RelV v u):Ab (Zs9 u):=by
 cases v with
 | non=>cases (show u=Zig from r);rfl
 | bl b=>cases (show u=Znj b from r);rfl
 | int i=>obtain⟨t,e⟩:=(show ∃t,u=Zsh i t from r);cases e;rfl
 | str x=>obtain⟨t,e⟩:=(show ∃t,u=Zo6 x t from r);cases e;rfl
 | byt b=>obtain⟨t,e⟩:=(show ∃t,u=Zwy b t from r);cases e;rfl
 | flt b=>obtain⟨t,e⟩:=(show ∃t,u=Zwx b t from r);cases e;rfl
 | ref a=>cases (show u=Zh3 a from r);rfl
 | ty n=>cases (show u=Zky n from r);rfl
section
variable{P:Zg8}{w:Zhy}{H H':Hp}{h h':Heap}{a C dx:Addr}{fs fs':List (Str×V)}
theorem zo8(hok:HOk P w H h)(e:Aa (H a) (.ins C dx fs)):∃mA,ObjM h a dx C mA/\(∀f,RelO (fs.lookup f) (mA f))/\Zsj mA (fs.map (·.1))/\fs.length<=1000/\Aa (H dx) (.own a):=by
 obtain⟨d,z,ne,ob,mA,n,r,q⟩:=(show zdb P w H h a (.ins C dx fs) from hok a _ e)
 exact⟨mA,⟨ob,n,ne⟩,r,q,z,d⟩
end
structure Cls(K:Zgh)(C:Addr):Prop where
 pg:Znl K C Str.empty=true
 hd:Zo8 K C=true
 po:Zs1 K C=true
 sa:Zi4 K (.ref C) "__setattr__" = some (some (.builtin "object.__setattr__"))
theorem Cls.get{K:Zgh}{C:Addr}(c:Cls K C)(f:Str):Ab (Znl K C f):=c.pg
noncomputable def zen(K:Zgh)(C:Addr)(f:Str):Prop:=Aa (Zi4 K (.ref C) f) none
theorem zen.taker{K:Zgh}{C:Addr}{f:Str}(n:zen K C f):Aa (Zpw K C f) none:=by
 unfold Zpw
 rw[show Aa (Zi4 K (.ref C) f) none from n]
 rfl
structure Con(K:Zgh)(C:Addr)(f:Str)(v:V)(u:Zgi):Prop where
 at_:Zi4 K (.ref C) f=some (some u)
 rel:RelV v u
 get:Zs0 K u "__get__" = some none
 cp:PySem.W.copiedNames.contains f=false
structure Meth(K:Zgh)(C:Addr)(m:Str)(f:Addr):Prop where
 at_:Zi4 K (.ref C) m=some (some (.ref f))
 fn:Zrz K (.ref f)=true
 kp:Zl4 K (.ref f)=true
section
variable{X:Cx}{pins:List (Addr×Obj)}{σ:St}{H:Hp}{s:Zgk}{a C dx:Addr}{fs:List (Str×V)}{f:Str}{v:V}{A:Zhk}{E:Zgi->Zgk->Prop}
theorem zsi{b:Bool}{Q:Zgi->Ah}(I:Ag H s)(e:Aa (H a) (.ins C dx fs))(c:Cls X.K C)(n:zen X.K C f)(l:Aa (fs.lookup f) v)
  (h:∀u s',Ag H s'->RelV v u->Q u s'):AW X.w A (getAttr Au f b) Q E s:=by
 obtain⟨mA,O,r,_,_,_⟩:=zo8 I.hok e
 obtain⟨u,hu,ru⟩:=RelO.some_of (v:=v) (o:=mA f) (by rw[<- l];exact r f)
 exact ycr I.kIn O (c.get f) c.hd n hu (zwm ru) (h u _ (I.tok _) ru)
theorem zsd{m:Str}{g:Addr}{pl:Sem Bool}{Q:Zgi×Ar->Ah}(I:Ag H s)(e:Aa (H a) (.ins C dx fs))(c:Cls X.K C)(k:Meth X.K C m g)(l:fs.lookup m=none)
  (h:Q (.ref g,[Au]) s):AW X.w A (Zyi Au m pl) Q E s:=by
 obtain⟨mA,O,r,_,_,_⟩:=zo8 I.hok e
 have hn:mA m=none:=RelO.none_of (by rw[<- l];exact r m)
 exact zy0 I.kIn O (c.get m) k.at_ k.fn hn h
theorem zr9{y:V}{u:Zgi}{Q:Unit->Ah}(I:Ag H s)(e:Aa (H a) (.ins C dx fs))(c:Cls X.K C)(n:zen X.K C f)(hl:fs.length<1000)(ry:RelV y u)
  (h:∀s',Ag (upd H a (.ins C dx (putF f y fs))) s'->Q () s'):AW X.w A (setAttr Au f u) Q E s:=by
 obtain⟨mA,O,r,wi,_,ho⟩:=zo8 I.hok e
 have hz:AL (fs.map (·.1)).length:=by rw[Zgn,Zg2];omega
 refine yaf I.kIn O c.sa c.po n.taker c.hd wi hz fun h' O' sb=>h _ ?_
 have hd:∃o,AU dx o:=let ⟨o,_,_,e',_⟩:=O'.ns;⟨o,e'⟩
 refine I.write (x:=a) (e:=dx) (by rw[e];exact Zoe) (.inr ho) (fun b q hb z=>(sb.2 b hb).trans z) hd ?_
 refine⟨by rw[zal O.ne];exact ho,?_,O.ne,O'.obj,_,O'.ns,fun g=>?_,fun g hg=>?_⟩
 .have:=zj8 f y fs;omega
 .show RelO ((putF f y fs).lookup g) (if g=f then some u else mA g)
  rw[zj3]
  by_cases q:g=f
  .rw[if_pos q,if_pos q];exact ry
  .rw[if_neg q,if_neg q];exact r g
 .by_cases q:g=f
  .rw[q];exact(zjp f y fs).1
  .refine(zjp f y fs).2 g (wi g fun z=>hg ?_)
   show(if g=f then some u else mA g)=none
   rw[if_neg q];exact z
theorem Inv.made(I:Ag H s):Inv X pins σ (upd (upd H s.heap.objs.size (.own (AR 1))) (AR 1) (.ins C s.heap.objs.size []))
  { s with heap:=(s.heap.push Zjh).push (Zki C s.heap.objs.size) }:=by
 have e1:Aa ((s.heap.push Zjh).get? s.heap.objs.size) Zjh:=Zgx s.heap rfl
 have e2:Aa (((s.heap.push Zjh).push (Zki C s.heap.objs.size)).get? (AR 1)) (Zki C s.heap.objs.size):=by
  have:=Zgx (s.heap.push Zjh) (o:=Zki C s.heap.objs.size) rfl
  rwa [Zhj] at this
 have e3:(s.heap.push Zjh).Ns s.heap.objs.size (fun _=>none):=⟨Zjh,#[],_,e1,rfl,(fun e he=>absurd he (by simp)),fun _=>rfl⟩
 have I1:=I.laid (a:=s.heap.objs.size) (o:=.own (AR 1)) (h':=s.heap.push Zjh) (t':=s.toks) (fun b u q=>Zgl _ q) Ay ⟨_,e1⟩
 refine I1.laid (a:=AR 1) (o:=.ins C s.heap.objs.size []) (t':=s.toks) (fun b u q=>Zgl _ q) (Zx4 (Zhj _ _)) ?_
 have ne:s.heap.objs.size≠AR 1:=Zhb (Zi1 _)
 refine⟨by rw[zal ne,zam],Zhr _,ne,e2,fun _=>none,(Heap.Ns1.of_empty e3).at fun o q=>Zgl _ q,fun _=>Zoe,fun y hy=>absurd rfl hy⟩
theorem yci{prog:Zg8}{w:Zhy}{env:Env}{e:Expr}{f:Str}{pos:Pos}{s:Zgk}{Q:Zgi->Ah}(hb:Zm3 e f env (eval e env)=eval e env)
  (h:An w A (eval e env) (fun o s₁=>An w A (getAttr o f true) Q E s₁) E s):An w A (eval (.Attribute e f pos) env) Q E s :=
 Attribute_any_ h (by rw[arm_eval_Attribute,hb])
end
noncomputable def tFld(K:Zgh)(ta:TE)(f:Str):TE:=fun σ H Q=>ta σ H fun x H1=>∃a C dx fs v,x= Au/\Aa (H1 a) (.ins C dx fs)/\Cls K C/\zen K C f/\Aa (fs.lookup f) v/\Q v H1
noncomputable def sFld(K:Zgh)(ta tv:TE)(f:Str):TS:=fun D σ H=>tv σ H fun y H1=>ta σ H1 fun x H2=>∃a C dx fs,x= Au/\Aa (H2 a) (.ins C dx fs)/\Cls K C/\zen K C f/\fs.length<1000 /\
 D.nx σ (upd H2 a (.ins C dx (putF f y fs)))
section
variable{X:Cx}{o e value:Expr}{f:Str}{pos pos' tpos:Pos}{ta tv:TE}
theorem zko(he:PE X e ta)(hb:Zm3 e f X.env (Bh e)=Bh e):PE X (.Attribute e f pos) (tFld X.K ta f):=by
 intro pins s σ H Q I h
 refine yci hb (thn (he pins s σ H _ I h) fun u s1 hz9=>?_)
 obtain⟨x,H1,I1,rx,a,C,dx,fs,v,ex,ea,c,n,l,q⟩:=hz9
 subst ex
 obtain rfl:u=Zh3 a:=rx
 exact zsi I1 ea c n l fun u' s2 I2 ru=>⟨v,H1,I2,ru,q⟩
theorem zzp(ha:PE X o ta)(hv:PE X value tv)(hs:Zo0 value (some (.Attribute o f pos')) pos.line X.env=pure false):PS X (.Assign [.Attribute o f pos'] value pos) (sFld X.K ta tv f):=by
 intro pins s σ H D I h
 refine plainObj_wpAny_Assign_Attribute (thn (hv pins s σ H _ I h) fun u s1 ⟨y,H1,I1,ry,q⟩=>thn (ha pins s1 σ H1 _ I1 q) fun ov s2 hz9=>?_) hs
 obtain⟨x,H2,I2,rx,a,C,dx,fs,ex,ea,c,n,l,q2⟩:=hz9
 subst ex
 obtain rfl:ov=Zh3 a:=rx
 exact zr9 I2 ea c n l ry fun s3 I3=>⟨σ,_,I3,q2⟩
end
section
variable{X:Cx}{pins:List (Addr×Obj)}{σ:St}{H:Hp}{s:Zgk}{A:Zhk}{E:Zgi->Zgk->Prop}{Q:Zgi->Zgk->Prop}{c:Zgi}{b:Bool}
inductive TyOf(K:Zgh)(H:Hp):V->Zgi->Prop where
 | non:TyOf K H .non (.type "NoneType")
 | bl (x:Bool):TyOf K H (.bl x) (.type "bool")
 | int (i:Int):TyOf K H (.int i) (.type "int")
 | str (x:Str):TyOf K H (.str x) (.type "str")
 | flt (x:UInt64):TyOf K H (.flt x) (.type "float")
 | lst {a:Addr} {xs:List V} (e:H a=some (.lst xs)):TyOf K H (.ref a) (.type "list")
 | frz {a:Addr} {o:Obj} {xs:List V} (e:H a=some (.frz o (.lst xs))):TyOf K H (.ref a) (.type "list")
 | tup {a:Addr} {xs:List V} (e:H a=some (.tup xs)):TyOf K H (.ref a) (.type "tuple")
 | dK {a:Addr} {kvs:List (Key×V)} (e:H a=some (.dK kvs)):TyOf K H (.ref a) (.type "dict")
 | dT {a:Addr} {kvs:List (List Key×V)} (e:H a=some (.dT kvs)):TyOf K H (.ref a) (.type "dict")
 | ins {a C dx:Addr} {fs:List (Str×V)} (e:H a=some (.ins C dx fs)) (cl:Cls K C) (ha:Zi4 K (.ref C) "__class__" = some (some (.builtin "object.__class__")))
   (hn:Zs0 K (.builtin "object.__class__") "__get__" = some (some (.builtin "getset_descriptor.__get__"))) (htk:PySem.W.takesIn K (.builtin "object.__class__")=some true)
   (hm:PySem.W.mroIn K C (.type "object")=some true):TyOf K H (.ref a) (.ref C)
end
structure Room(k:Nat)(A:Zhk):Prop where
 hd:A.handled=none
 dp:A.depth+3*k+5<Zyx
 un:A.units+16*k+200<Zl2
 gd:A.guards=some []
theorem Room.mono{j k:Nat}{A:Zhk}(r:Room k A)(h:j<=k):Room j A:=⟨r.hd,by have:=r.dp;omega,by have:=r.un;omega,r.gd⟩
theorem Room.deeper{k:Nat}{A:Zhk}(r:Room (k+1) A)(env:Env):Room k (A.deeper env) :=
 ⟨r.hd,by have:=r.dp;show A.depth+1+3*k+5<_;omega,by have:=r.un;show A.units+3+16*k+200<_;omega,r.gd⟩
theorem zsj{A:Zhk}{C:Addr}{us:Ar}{kw:Ai Str Zgi}:(A.under (.builtin "type.__call__" ⟨.ref C::us,kw⟩)).depth=A.depth+1:=by
 first | rfl | simp[Zsa,Code.weight,Code.isCreation,Code.isGuard,Code.isCaller,Zya,Zsw,guardIds]
theorem zr2{A:Zhk}{C:Addr}{us:Ar}{kw:Ai Str Zgi}:(A.under (.builtin "type.__call__" ⟨.ref C::us,kw⟩)).units=A.units+1:=by
 first | rfl | simp[Zsa,Code.cUnits,Zya,Zsw]
theorem Room.make{k:Nat}{A:Zhk}(r:Room (k+1) A)(C:Addr)(us:Ar)(kw:Ai Str Zgi):Room k (A.under (.builtin "type.__call__" ⟨.ref C::us,kw⟩)) :=
 ⟨r.hd,by have:=r.dp;rw[zsj];omega,by have:=r.un;rw[zr2];omega,r.gd⟩
theorem Room.depth{k:Nat}{A:Zhk}(r:Room k A):A.depth<Zyx:=by have:=r.dp;omega
theorem Room.units{k:Nat}{A:Zhk}(r:Room k A):A.units+64<Zl2:=by have:=r.un;omega
noncomputable def tNil:TA:=fun _ H Q=>Q [] H
noncomputable def zbb(ta:TE)(tr:TA):TA:=fun σ H Q=>ta σ H fun x H1=>tr σ H1 fun xs H2=>Q (x::xs) H2
section
variable{X:Cx}{e:Expr}{es:List Expr}{te:TE}{t:TA}{pos:Pos}
theorem zae:PA X [] tNil:=fun _ _ _ _ H Q I h=>Ztz ⟨[],H,I,.nil,h⟩
theorem zaa(ha:PE X e te)(hr:PA X es t)(hs:Zh5 (e::es) X.env=(false,Bh e)::Zh5 es X.env:=by rfl):PA X (e::es) (zbb te t):=by
 intro pos pins s σ H Q I h
 rw[hs]
 show Zg1 _ _ (Zyf ((false,Bh e)::Zlw pos (Zh5 es X.env))) _ _ s
 refine Zo9 (thn (ha pins s σ H _ I h) fun u s1 hz9=>?_)
 obtain⟨x,H1,I1,r1,q1⟩:=hz9
 refine thn (hr pos pins s1 σ H1 _ I1 q1) fun us s2 hz9=>?_
 obtain⟨xs,H2,I2,r2,q2⟩:=hz9
 exact⟨x::xs,H2,I2,.cons r1 r2,q2⟩
noncomputable def tTup(t:TA):TE:=fun σ H Q=>t σ H fun xs H1=>AL xs.length /\ ∀p,H1 p=none->Q AO (upd H1 p (.tup xs))
noncomputable def tLst(t:TA):TE:=fun σ H Q=>t σ H fun xs H1=>AL xs.length /\ ∀p,H1 p=none->Q AO (upd H1 p (.lst xs))
theorem zob{x1}(h:PA X es t):PE X (.Tuple es x1 pos) (tTup t):=by
 intro pins s σ H Q I hq
 refine wpAny_Tuple_spliced (thn (h pos pins s σ H _ I hq) fun us s1 ⟨xs,H1,I1,r,z,q⟩=>⟨by rw[<- r.length];exact z,?_⟩)
 have hf:H1 s1.heap.objs.size=none:=I1.hok.fresh Ay
 refine⟨.ref s1.heap.objs.size,upd H1 s1.heap.objs.size (.tup xs),I1.laid (t':=s1.toks) (fun b u e=>Zgl _ e) Ay ?_,rfl,q _ hf⟩
 exact⟨z,us,r,⟨_,Zgx _ rfl,rfl,_,rfl⟩⟩
theorem zb2(h:PA X es t):PE X (.List es pos) (tLst t):=by
 intro pins s σ H Q I hq
 refine wpAny_List_spliced (thn (h pos pins s σ H _ I hq) fun us s1 ⟨xs,H1,I1,r,z,q⟩=>⟨by rw[<- r.length];exact z,?_⟩)
 have hf:H1 s1.heap.objs.size=none:=I1.hok.fresh Ay
 refine⟨.ref s1.heap.objs.size,upd H1 s1.heap.objs.size (.lst xs),I1.laid (t':=s1.toks) (fun b u e=>Zgl _ e) Ay ?_,rfl,q _ hf⟩
 exact⟨z,us,0,r,Zgx _ rfl⟩
end
noncomputable abbrev Sp:=Ao->Hp->VK->Af XK
noncomputable abbrev CXT:=List Env->Hp->Zgk->XK->Zgi->Ah
structure Env0(P:Zg8)(w:Zhy)(K:Zgh)(mg:Str->Option Zgi)(base:Heap)(A:Zhk)(outer:List Env)(s:Zgk)(H:Hp):Prop where
 frames:A.frames=some outer
 mod:Mod K mg base
 bs:∀b o,base.get? b=some o->s.heap.get? b=some o/\H b=none
 bsz:base.objs.size<=s.heap.objs.size
 funs:s.heap.FunFrames base outer
 frf:∀b∈frs outer,H b=none
 hok:HOk P w H s.heap
 bare:Zp8 s.gens
noncomputable def CE(outer:List Env)(P:Zg8)(w:Zhy)(H:Hp)(s:Zgk)(Q:VK)(u:Zgi)(s':Zgk):Prop :=
 ∃v H',s'.os=s.os/\Zp8 s'.gens/\Un (frs outer) [] H H' s.heap s'.heap/\HOk P w H' s'.heap/\RelV v u/\Q v H'
noncomputable def CR(CX:CXT)(outer:List Env)(P:Zg8)(w:Zhy)(H:Hp)(s:Zgk)(Q:VK)(E:XK)(r:Zyn)(s':Zgk):Prop :=
 match r with
 | .ok (.ret u)=>CE outer P w H s Q u s'
 | .ok _=>False
 | .error e=>CX outer H s E e s'
structure FnOk(P:Zg8)(w:Zhy)(K:Zgh)(mg:Str->Option Zgi)(base:Heap)(CX:CXT)(k:Nat)(f:Addr)(fd:Zj9)(ps:List Str)(sp:Sp):Prop where
 len:∀vs H Q E,sp vs H Q E->vs.length=ps.length
 run:∀(A:Zhk) (outer:List Env) (s:Zgk) (H:Hp) (args:Args) (us:List Zgi) (vs:List V) (Q:VK) (E:XK),Room k A->Env0 P w K mg base A outer s H->Zrg s fd args (ps.zip us)->Vals vs us->sp vs H Q E ->
  Zo3 (Zg3 P w) A (.call (.ref f) args) (CR CX outer P w H s Q E) s
theorem FnOk.mono{P:Zg8}{w:Zhy}{K:Zgh}{mg:Str->AY}{base:Heap}{CX:CXT}{j k:Nat}{f:Addr}{fd:Zj9}{ps:Al}{sp:Sp}(F:FnOk P w K mg base CX j f fd ps sp)(h:j<=k) :
  FnOk P w K mg base CX k f fd ps sp:=⟨F.len,fun A outer s H args us vs Q E hr=>F.run A outer s H args us vs Q E (hr.mono h)⟩
theorem Env0.make{P:Zg8}{w:Zhy}{K:Zgh}{mg:Str->AY}{base:Heap}{A:Zhk}{outer:List Env}{s:Zgk}{H:Hp}(e:Env0 P w K mg base A outer s H)(C:Addr)(us:Ar)(kw:Ai Str Zgi) :
  Env0 P w K mg base (A.under (.builtin "type.__call__" ⟨.ref C::us,kw⟩)) outer s H:=⟨by first | exact e.frames | (simpa[Zsa,Code.envs,Zsw,pushEnvs] using e.frames),e.mod,e.bs,e.bsz,e.funs,e.frf,e.hok,e.bare⟩
section
variable{X:Cx}{pins:List (Addr×Obj)}{σ:St}{H:Hp}{s s':Zgk}
theorem Inv.env0(I:Ag H s):Env0 X.prog X.w X.K X.mg X.base X.A X.stack s H :=
 ⟨I.ok.frames,I.ok.mod,I.bs,Zi6 I.ok.bsz I.sz,I.stack,I.stkFree,I.hok,I.bare⟩
theorem Inv.after{Q:VK}{u:Zgi}(I:Ag H s)(h:CE X.stack X.prog X.w H s Q u s'):EP X pins σ Q u s':=by
 obtain⟨v,H',os,bare,un,hok,r,q⟩:=h
 obtain⟨hh,g,d,t,os'⟩:=s'
 obtain rfl:os'=s.os:=os
 exact⟨v,H',I.call (h':=hh) (g':=g) (d':=d) (t':=t) (ch:=[]) un hok bare (fun b z=>absurd z (by simp)),r,q⟩
end
noncomputable def zka(sp:Sp)(dvs:Ao)(E:XK)(t:TA):TE:=fun σ H Q=>t σ H fun vs H1=>sp (vs++dvs) H1 Q E
noncomputable def ycn(C:Addr)(m:Str)(sp:Sp)(dvs:Ao)(E:XK)(ta:TE)(t:TA):TE:=fun σ H Q=>ta σ H fun x H1=>∃a dx fs,x= Au/\Aa (H1 a) (.ins C dx fs)/\fs.lookup m=none /\
 t σ H1 fun vs H2=>sp (x::(vs++dvs)) H2 Q E
noncomputable def yc0(C:Addr)(sp:Sp)(dvs:Ao)(E:XK)(t:TA):TE:=fun σ H Q=>t σ H fun vs H1=>∀x dx,H1 x=none->H1 dx=none->dx≠x ->
 sp (.ref x::(vs++dvs)) (upd (upd H1 dx (.own x)) x (.ins C dx [])) (fun v H2=>v= .non/\Q (.ref x) H2) E
noncomputable def zev(K:Zgh)(fd:Zj9)(ps:Al)(ds:Ar):Prop :=
 ∀(s:Zgk) (us:Ar),K.In s.heap->(us++ds).length=ps.length->Zrg s fd ⟨us,[]⟩ (ps.zip (us++ds))
theorem zev.all{K:Zgh}{fd:Zj9}{ps:Al}(h:∀us:Ar,us.length=ps.length->Zm2 fd ⟨us,[]⟩=pure (ps.zip us)):zev K fd ps []:=fun s us _ hl=>by
 rw[Zh0] at hl ⊢
 exact .of_eq (h us hl)
noncomputable def zk6(CX:CXT)(X:Cx)(E:XK):Prop:=∀(pins:AJ Obj) (σ:St) (H:Hp) (s:Zgk) (e:Zgi) (s':Zgk),Ag H s->CX X.stack H s E e s'->X.xe e s'
section
variable{X:Cx}{CX:CXT}{k:Nat}{f C:Addr}{fd:Zj9}{ps:List Str}{sp:Sp}{dvs:List V}{ds:List Zgi}{E:XK}{x m:Str}{p pos apos:Pos}{e o:Expr}{es:List Expr}{ta:TE}{t:TA}
theorem zz4{pins:AJ Obj}{σ:St}{H:Hp}{s:Zgk}{Q:VK}{us:Ar}{vs:Ao}(F:FnOk X.prog X.w X.K X.mg X.base CX k f fd ps sp)(hr:Room k X.A)(hb:zev X.K fd ps ds)(hd:Vals dvs ds)(hx:zk6 CX X E)
  (I:Ag H s) (r:Vals vs us) (h:sp (vs++dvs) H Q E):AW X.w X.A (call (.ref f) us) (EP X pins σ Q) X.xe s:=by
 have r2:Vals (vs++dvs) (us++ds):=r.append hd
 have hl:(us++ds).length=ps.length:=by rw[<- r2.length];exact F.len _ _ _ _ h
 refine Zs7 (Zl3 (F.run X.A X.stack s H ⟨us,[]⟩ (us++ds) (vs++dvs) Q E hr I.env0 (hb s us I.kIn hl) r2 h) fun r s' hq=>?_)
 cases r with
 | error e=>exact hx pins σ H s e s' I hq
 | ok fl =>
  cases fl with
  | ret u=>exact I.after hq
  | next=>exact Zkl hq
  | brk=>exact Zkl hq
  | cont=>exact Zkl hq
theorem ycl(F:FnOk X.prog X.w X.K X.mg X.base CX k f fd ps sp)(hr:Room k X.A)(hg:Gl X x)(hm:Aa (X.mg x) (.ref f))(hk:Ab (Zl4 X.K (.ref f)))(hb:zev X.K fd ps ds)(hd:Vals dvs ds)(hx:zk6 CX X E)
  (ha:PA X (e::es) t) (hdb:Am (x == ("__debug__" : Str)):=by decide) (he:Zh5 (e::es) X.env=(false,Bh e)::Zh5 es X.env:=by rfl) (hpl:Am ((Zlw pos (Zh5 es X.env)).any (·.1)):=by rfl) :
  PE X (.Call (.Name x p) (e::es) [] pos) (zka sp dvs E t):=by
 intro pins s σ H Q I h
 refine Zmb (zpl I hg hm ?_ hdb)
 refine Zsp (h₀:=X.base) I.ok.mod.kin hk (thn (ha pos pins s σ H _ I h) fun us s1 ⟨vs,H1,I1,r,q⟩=>⟨I1.kIn,?_⟩) he hpl
 exact zz4 F hr hb hd hx I1 r q
theorem zfs{pl:Sem Bool}(he:PE X o ta)(c:Cls X.K C)(hm:Meth X.K C m f)(F:FnOk X.prog X.w X.K X.mg X.base CX k f fd ps sp)(hr:Room k X.A)(hb:zev X.K fd ps ds)(hd:Vals dvs ds)(hx:zk6 CX X E)(ha:PA X (e::es) t)
  (hst:Zh5 (e::es) X.env=(false,Bh e)::Zh5 es X.env:=by rfl) (hpl:Am ((Zlw pos (Zh5 es X.env)).any (·.1)):=by rfl)
  (ht:Bh (.Call (.Attribute o m apos) (e::es) [] pos)=(do
   let ov <- Bh o
   standAt apos.atName
   let (f,first) <- Zvg [ov] (Zyi ov m pl)
   Zzl pos f first (Zlw pos (Zh5 (e::es) X.env)) (Zmc pos (Zkg [] X.env))):=by rfl) :
  PE X (.Call (.Attribute o m apos) (e::es) [] pos) (ycn C m sp dvs E ta t):=by
 intro pins s σ H Q I h
 refine PySem.W.methodCall_KW (pl:=pl) (thn (he pins s σ H _ I h) fun u s1 hz9=>?_) ht
 obtain⟨x,H1,I1,rx,a,dx,fs,ex,ea,l,q⟩:=hz9
 subst ex
 obtain rfl:u=Zh3 a:=rx
 refine zsd I1 ea c hm l ?_
 refine Zsp (first:=[Au]) (h₀:=X.base) I.ok.mod.kin hm.kp (thn (ha pos pins s1 σ H1 _ I1 q) fun us s2 ⟨vs,H2,I2,r,q2⟩=>⟨I2.kIn,?_⟩) hst hpl
 exact zz4 (us:=Au::us) (vs:=Au::vs) F hr hb hd hx I2 (.cons rfl r) q2
structure Mk(K:Zgh)(C f:Addr):Prop where
 makes:Ztr K C=true
 init:Zi4 K (.ref C) "__init__" = some (some (.ref f))
 fn:Zrz K (.ref f)=true
 kp:Zl4 K (.ref C)=true
theorem zxz{pins:AJ Obj}{σ:St}{H:Hp}{s:Zgk}{Q:VK}{us:Ar}{vs:Ao}(M:Mk X.K C f)(F:FnOk X.prog X.w X.K X.mg X.base CX k f fd ps sp)(hr:Room (k+1) X.A)(hb:zev X.K fd ps ds)(hd:Vals dvs ds)
  (hx:zk6 CX X E) (I:Ag H s) (r:Vals vs us)
  (h:∀x dx,H x=none->H dx=none->dx≠x->sp (.ref x::(vs++dvs)) (upd (upd H dx (.own x)) x (.ins C dx [])) (fun v H2=>v= .non/\Q (.ref x) H2) E) :
  AW X.w X.A (call (.ref C) us) (EP X pins σ Q) X.xe s:=by
 have hq:=h (AR 1) s.heap.objs.size (I.hok.fresh (Znv _)) (I.hok.fresh Ay) (Zhb (Zi1 _))
 have I2:=Inv.made (C:=C) I
 have r2:Vals (V.ref (AR 1)::(vs++dvs)) (Zh3 (AR 1)::(us++ds)):=.cons rfl (r.append hd)
 have hl:(Zh3 (AR 1)::us++ds).length=ps.length:=by
  have e:=r2.length
  rw[F.len _ _ _ _ hq] at e
  exact e.symm
 refine Zs7 (zyn (f:=f) I.kIn M.makes M.init (beq_iff_eq.mp M.fn) (Zl3 (F.run _ X.stack _ _ ⟨Zh3 (AR 1)::us,[]⟩ (Zh3 (AR 1)::(us++ds)) _ _ E (hr.make C us [])
  (I2.env0.make C us []) (hb _ (Zh3 (AR 1)::us) I2.kIn hl) r2 hq) fun r s' hq'=>?_))
 cases r with
 | error e=>exact hx pins σ _ _ e s' I2 hq'
 | ok fl =>
  cases fl with
  | ret u =>
   obtain⟨v,H',I3,rv,ev,q3⟩:=I2.after hq'
   subst ev
   exact⟨rv,⟨V.ref (AR 1),H',I3,rfl,q3⟩⟩
  | next=>exact Zkl hq'
  | brk=>exact Zkl hq'
  | cont=>exact Zkl hq'
theorem zx8(M:Mk X.K C f)(F:FnOk X.prog X.w X.K X.mg X.base CX k f fd ps sp)(hr:Room (k+1) X.A)(hg:Gl X x)(hm:Aa (X.mg x) (.ref C))(hb:zev X.K fd ps ds)(hd:Vals dvs ds)(hx:zk6 CX X E)
  (hdb:Am (x == ("__debug__" : Str)):=by decide):PE X (.Call (.Name x p) [] [] pos) (yc0 C sp dvs E tNil):=by
 intro pins s σ H Q I h
 refine Zmb (zpl I hg hm ?_ hdb)
 exact PySem.W.callWith_K0 I.kIn M.kp (zxz (us:=[]) M F hr hb hd hx I .nil h)
end
noncomputable def PK(X:Cx)(kws:List Zoi)(t:TA):Prop :=
 ∀(pos:Pos) (pins:AJ Obj) (s:Zgk) (σ:St) (H:Hp) (Q:Ao->Af Hp),Ag H s->t σ H Q->AW X.w X.A (evalAll ((Zmc pos (Zkg kws X.env)).map (·.2))) (AP X pins σ Q) X.xe s
section
variable{X:Cx}{CX:CXT}{k:Nat}{f C:Addr}{fd:Zj9}{ps ks:List Str}{sp:Sp}{E:XK}{x m:Str}{p pos apos kpos:Pos}{e o:Expr}{es:List Expr}{kws:List Zoi}{te ta:TE}{t tk:TA}{nm:Option Str}
theorem yeq:PK X [] tNil:=fun _ _ _ _ H Q I h=>wpAny_evalAll_nil ⟨[],H,I,.nil,h⟩
theorem ya9(ha:PE X e te)(hr:PK X kws t):PK X (⟨nm,e,kpos⟩::kws) (zbb te t):=by
 intro pos pins s σ H Q I h
 show Zg1 _ _ (evalAll ((do let v <- Bh e;standAt pos;pure v)::(Zmc pos (Zkg kws X.env)).map (·.2))) _ _ s
 refine wpAny_evalAll_cons (Zge (thn (ha pins s σ H _ I h) fun u s1 ⟨x,H1,I1,r1,q1⟩=>Zge (Zob (Zgj ?_))))
 refine thn (hr pos pins s1 σ H1 _ I1 q1) fun us s2 hz9=>?_
 obtain⟨xs,H2,I2,r2,q2⟩:=hz9
 exact⟨x::xs,H2,I2,.cons r1 r2,q2⟩
structure KBinds(K:Zgh)(fd:Zj9)(ps ks:List Str)(g:List Zgi->List Zgi->List Zgi)(gV:List V->List V->List V):Prop where
 to:∀(s:Zgk) (us ws:List Zgi),K.In s.heap->(g us ws).length=ps.length->Zrg s fd ⟨us,ks.zip ws⟩ (ps.zip (g us ws))
 rel:∀{vs:List V} {us:List Zgi} {zs:List V} {ws:List Zgi},Vals vs us->Vals zs ws->Vals (gV vs zs) (g us ws)
variable{g:List Zgi->List Zgi->List Zgi}{gV:List V->List V->List V}
end
structure FnScope(N P:List Str)(sc:Scope):Prop where
 kind:sc.kind= .function
 co:sc.isCoroutine=false
 gen:sc.isGenerator=false
 nd:N.Nodup
 pre:N.take P.length=P
 par:∀x∈P,sc.names.lookup x=some .local\/sc.names.lookup x=some .cell
 nofree:∀y∈sc.names,y.2 ≠ .free
theorem zmz{kindOf:Str->Option Zh8}{x:Str}:∀{binds:Ai Str Zgi} {m:Str->AY},(∀v,(x,v)∉binds)->Zwt kindOf binds m x=m x
 | [],_,_=>rfl
 | (n,v)::r,m,h=>by
  unfold Zwt
  rw[zmz fun w hw=>h w (Zgq _ hw)]
  split
  .have:x≠n:=by rintro rfl;exact h v Zgz
   simp[this]
  .rfl
theorem zn9{kindOf:Str->Option Zh8}{x:Str}:∀{binds:Ai Str Zgi} {m:Str->AY},(∀v,(x,v)∉binds)->Zwu kindOf binds m x=m x
 | [],_,_=>rfl
 | (n,v)::r,m,h=>by
  unfold Zwu
  rw[zn9 fun w hw=>h w (Zgq _ hw)]
  split
  .rfl
  .have:x≠n:=by rintro rfl;exact h v Zgz
   simp[this]
theorem zn5{kindOf:Str->Option Zh8}{x:Str}{v:Zgi}:∀{P:Al} {vs:Ar} {i:Nat} {m:Str->AY},P.Nodup->Ak P x->Ak vs v->Aa (kindOf x) .local ->
  Aa (Zwt kindOf (P.zip vs) m x) v
 | [],_,_,_,_,h,_,_=>by simp at h
 | _::_,[],_,_,_,_,h,_=>by simp at h
 | p::P,w::vs,0,m,nd,h1,h2,hk=>by
  simp at h1 h2;subst h1;subst h2
  show Zwt kindOf ((p,w)::P.zip vs) m p=_
  unfold Zwt
  rw[zmz fun v hv=>(Zid.mp nd).1 (Zqu hv).1,if_pos hk]
  simp
 | p::P,w::vs,i+1,m,nd,h1,h2,hk=>by
  show Zwt kindOf ((p,w)::P.zip vs) m x=_
  unfold Zwt
  exact zn5 (i:=i) (Zid.mp nd).2 (by simpa using h1) (by simpa using h2) hk
theorem znm{kindOf:Str->Option Zh8}{x:Str}{v:Zgi}:∀{P:Al} {vs:Ar} {i:Nat} {m:Str->AY},P.Nodup->Ak P x->Ak vs v->kindOf x≠some .local ->
  Aa (Zwu kindOf (P.zip vs) m x) v
 | [],_,_,_,_,h,_,_=>by simp at h
 | _::_,[],_,_,_,_,h,_=>by simp at h
 | p::P,w::vs,0,m,nd,h1,h2,hk=>by
  simp at h1 h2;subst h1;subst h2
  show Zwu kindOf ((p,w)::P.zip vs) m p=_
  unfold Zwu
  rw[zn9 fun v hv=>(Zid.mp nd).1 (Zqu hv).1,if_neg hk]
  simp
 | p::P,w::vs,i+1,m,nd,h1,h2,hk=>by
  show Zwu kindOf ((p,w)::P.zip vs) m x=_
  unfold Zwu
  exact znm (i:=i) (Zid.mp nd).2 (by simpa using h1) (by simpa using h2) hk
noncomputable def start(N:Al)(vs:Ao):St:=vs.map some++Zir (N.length - vs.length) none
noncomputable def cxOf(CX:CXT)(P:Zg8)(w:Zhy)(K:Zgh)(mg:Str->AY)(base:Heap)(N:Al)(qual:Str)(scope:Scope)(f:Addr)(cd:Zgi)(A:Zhk)(outer:List Env)(s:Zgk)(H:Hp)(E:XK):Cx where
 prog:=P
 w:=w
 K:=K
 mg:=mg
 base:=base
 A:=A.deeper (Zol qual scope s.heap.objs.size f cd)
 N:=N
 s₀:=s
 Hz:=H
 env:=Zol qual scope s.heap.objs.size f cd
 outer:=outer
 stack:=Zol qual scope s.heap.objs.size f cd::outer
 ex:=[]
 calm:=true
 fn:=fun _=>true
 pn:=[]
 xe:=fun e s'=>Zg1 (Zg3 P w) (A.deeper (Zol qual scope s.heap.objs.size f cd)) (leaving (Zol qual scope s.heap.objs.size f cd) e) (fun _ s''=>CX outer H s E e s'') (fun e' s''=>CX outer H s E e' s'') s'
theorem zrf{sc:Scope}{n:Nat}{x:Str}(h:Aa (sc.names.lookup x) .cell):∃c,Aa ((Zyl n sc.names []).lookup x) c:=by
 have q:=Zrl sc.names n [] (.inl h)
 exact Zkj.mp q
theorem zww{CX:CXT}{P:Zg8}{w:Zhy}{K:Zgh}{mg:Str->AY}{base:Heap}{N ps:Al}{qual:Str}{scope:Scope}{f:Addr}{cd:Zgi}{A:Zhk}{outer:List Env}{s s1:Zgk}{H:Hp}{E:XK}{us:Ar}{vs:Ao}
  (S:FnScope N ps scope) (hd:A.handled=none) (e0:Env0 P w K mg base A outer s H) (hl:vs.length=ps.length) (r:Vals vs us)
  (x:InCallC s s.heap.objs.size (Zwt (Zol qual scope s.heap.objs.size f cd).kindOf (ps.zip us) fun _=>none) (Zyl (AR 1) scope.names []) (Zwu (Zol qual scope s.heap.objs.size f cd).kindOf (ps.zip us) fun _=>none) s1) :
  Inv (cxOf CX P w K mg base N qual scope f cd A outer s H E) [] (start N vs) H s1:=by
 have hpl:ps.length<=N.length:=by have:=congrArg Zj7 S.pre;rw[Zmk] at this;omega
 obtain⟨h1,tk,rfl,hk⟩:=x.done
 have noA:∀b:Addr,b∉(cxOf CX P w K mg base N qual scope f cd A outer s H E).ex:=fun b z=>absurd (show b∈([]:List Addr) from z) (by simp)
 refine⟨⟨e0.mod,S.kind,rfl,rfl,Ay,fun y z c h1 h2=>?_,fun y hy=>?_,fun y c _ h=>?_,fun _=>hd,Around.frames_deeper e0.frames,.inr (AF rfl),fun b z=>absurd z (noA b),e0.bs,e0.bsz,fun b _ _=>noA b,fun b z=>absurd z (noA b),e0.funs,e0.frf⟩,
  rfl,e0.bare,Un.kept hk,(AD x.toInCall.ns (fun i y v h1 h2 h3=>?_)),fun y c h=>⟨_,x.cell y c h⟩,e0.hok.fresh Ay,fun y c h=>?_,fun p hp=>absurd (show p∈([]:AJ Obj) from hp) (by simp),e0.hok.kept hk,?_⟩
 .exact name_of_addr x.apart (Zks h1) (Zks h2)
 .have hy:Aa (scope.names.lookup y) .cell\/Aa (scope.names.lookup y) .free:=hy
  rcases hy with hy | hy
  .exact zrf hy
  .exact absurd rfl (S.nofree _ (Zks hy))
 .exact Zp9 (x.above y c (Zks h))
 .have hi:i<vs.length:=by
   unfold start at h2
   by_cases hi:i<vs.length
   .exact hi
   .rw[Zip (by simpa using hi)] at h2
    rw[Zlz] at h2
    split at h2 <;> cases h2
  have ha:Ak vs v:=by
   unfold start at h2
   rw[Zih (by simpa using hi),Zgy] at h2
   cases e:vs[i]? with
   | none=>rw[e] at h2;cases h2
   | some a=>rw[e] at h2;cases h2;rfl
  obtain⟨u,hu,rv⟩:=r.get ha
  have hp:Ak ps y:=by
   rw[<- S.pre,Zno (by omega)];exact h1
  have ndP:ps.Nodup:=by rw[<- S.pre];exact S.nd.sublist (Zpq _ _)
  refine⟨u,rv,?_⟩
  rcases S.par y (Zgs hp) with k | k
  .exact .inl ⟨k,zn5 ndP hp hu k⟩
  .obtain⟨c,e⟩:=zrf (n:=AR 1) k
   refine .inr ⟨.inl k,c,e,?_⟩
   have q:=x.cell y c e
   rw[znm ndP hp hu (by show scope.names.lookup y≠_;rw[k];decide)] at q
   exact q
 .exact e0.hok.fresh (Zp9 (x.above y c (Zks h)))
 .unfold start
  show _=N.length
  rw[Zhl,Zgn,Zjr]
  omega
theorem yf7{CX:CXT}{P:Zg8}{w:Zhy}{K:Zgh}{mg:Str->AY}{base:Heap}{k:Nat}{f:Addr}{name qual:Str}{params:Arguments}{body:List Stmt}{scope:Scope}{dV kV doc pm cdv ct oc:Zgi}{an od:Option Addr}
  {osl:Array AY} {N ps:Al} {sp:Sp} (lk:Aa (K.lookup f) ⟨oc,od,.func (Zix name qual params body scope dV kV doc pm an cdv ct),osl⟩) (hcd:Ab (Zn8 K cdv qual)) (S:FnScope N ps scope)
  (len:∀vs H Q E,sp vs H Q E->vs.length=ps.length)
  (hbody:∀(A:Zhk) (outer:List Env) (s:Zgk) (H:Hp) (vs:Ao) (Q:VK) (E:XK),Room k (A.deeper (Zol qual scope s.heap.objs.size f cdv))->sp vs H Q E ->
   ∃t,PSs (cxOf CX P w K mg base N qual scope f cdv A outer s H E) body t/\t (BL (Q .non H')) (start N vs) H) :
  FnOk P w K mg base CX (k+1) f (Zix name qual params body scope dV kV doc pm an cdv ct) ps sp:=by
 refine⟨len,fun A outer s H args us vs Q E hr e0 hb r hsp=>?_⟩
 have hl:=len _ _ _ _ hsp
 have KX:K.In s.heap:=e0.mod.kin.keeps fun b o e=>(e0.bs b o e).1
 have lim:s.heap.NoLimit:=e0.mod.nolimit.keeps fun b o e=>(e0.bs b o e).1
 have hkind:∀y∈ps.zip us,Aa (scope.names.lookup y.1) .local\/(Aa (scope.names.lookup y.1) .cell/\Ab ((Zyl (AR 1) scope.names []).lookup y.1).isSome):=fun⟨n,v⟩ hy=>by
  rcases S.par n (Zqu hy).1 with q | q
  .exact .inl q
  .exact .inr ⟨q,Zrl _ _ _ (.inl q)⟩
 refine codeAny_call_function hr.depth (KX _ _ lk) rfl S.co S.gen rfl (PySem.W.codeRec_of KX hcd) (hb _ _ _ _ ?_)
 refine wpAny_newFunctionEnv_cells S.kind hkind fun env he s1 x=>?_
 subst he
 refine⟨lim.keeps x.toInCall.keep,codeAny_func ?_⟩
 obtain⟨t,ht,hq⟩:=hbody A outer s H vs Q E (hr.deeper _) hsp
 have I:Inv (cxOf CX P w K mg base N qual scope f cdv A outer s H E) [] (start N vs) H s1:=zww S hr.hd e0 hl r x
 refine Zif (ht [] s1 (start N vs) H _ I hq) (fun fl s' hs=>?_) fun e s' hs=>hs
 have fin:∀{σ':St} {H':Hp} {v:V} {u:Zgi},Inv (cxOf CX P w K mg base N qual scope f cdv A outer s H E) [] σ' H' s'->RelV v u->Q v H'->CE outer P w H s Q u s' :=
  fun {σ' H' v u} J rv q=>⟨v,H',J.os,J.bare,J.base,J.hok,rv,q⟩
 cases fl with
 | ret u =>
  obtain⟨v,σ',H',J,rv,q⟩:=hs
  exact fin J rv q
 | next =>
  obtain⟨σ',H',J,q⟩:=hs
  exact fin (v:=V.non) (u:=Zig) J rfl q
 | brk =>
  obtain⟨_,_,_,q⟩:=hs
  exact Zkl q
 | cont =>
  obtain⟨_,_,_,q⟩:=hs
  exact Zkl q
section
variable{X:Cx}{x:Str}{p pos:Pos}{e:Expr}{es:List Expr}{t:TA}{id T:String}{r:List V->Hp->VK->Prop}
noncomputable def tCB(r:Ao->Hp->Af VK)(t:TA):TE:=fun σ H Q=>t σ H fun vs H1=>r vs H1 Q
theorem zbl(hc:zdd X (.builtin id) r)(hg:Gl X x)(hm:X.mg x=none)(hv:Aa (Zo4 x) (.builtin id))(ha:PA X (e::es) t)(hn:x ≠ "__name__" := by decide)(hdb:Am (x == ("__debug__" : Str)):=by decide)
  (he:Zh5 (e::es) X.env=(false,Bh e)::Zh5 es X.env:=by rfl) (hpl:Am ((Zlw pos (Zh5 es X.env)).any (·.1)):=by rfl):PE X (.Call (.Name x p) (e::es) [] pos) (tCB r t):=by
 intro pins s σ H Q I h
 refine Zmb (zmn I hg hm hv ?_ hn hdb)
 exact Zx0 (thn (ha pos pins s σ H _ I h) fun us s1 ⟨vs,H1,I1,r1,q1⟩=>hc pins s1 σ H1 vs us Q I1 r1 q1) he hpl
theorem zc9(hc:zdd X (.type T) r)(hg:Gl X x)(hm:X.mg x=none)(hv:Aa (Zo4 x) (.type T))(ha:PA X (e::es) t)(hn:x ≠ "__name__" := by decide)(hdb:Am (x == ("__debug__" : Str)):=by decide)
  (he:Zh5 (e::es) X.env=(false,Bh e)::Zh5 es X.env:=by rfl) (hpl:Am ((Zlw pos (Zh5 es X.env)).any (·.1)):=by rfl):PE X (.Call (.Name x p) (e::es) [] pos) (tCB r t):=by
 intro pins s σ H Q I h
 refine Zmb (zmn I hg hm hv ?_ hn hdb)
 exact Zl8 (thn (ha pos pins s σ H _ I h) fun us s1 ⟨vs,H1,I1,r1,q1⟩=>hc pins s1 σ H1 vs us Q I1 r1 q1) he hpl
end
end L2
namespace HT
open PySem PyProof.Rows
section
open PySem.SeqAt
open PySem.AutoSeq1 (wpAny_loadPart')
open PySem.MeetsSeq PySem.MeetsSeq2 PySem.MeetsSeq3
end
section
variable{prog:Zg8}{w:Zhy}{A:Zhk}{E:Zgi->Zgk->Prop}{s:Zgk}
noncomputable def sIx(n d:Nat):Bt->Nat
 | none=>d
 | some v=>if v<0 then (v+(n:Int)).toNat else min v.toNat n
theorem sIx_le(n d:Nat)(hd:d<=n)(o:Bt):sIx n d o<=n:=by
 cases o with
 | none=>exact hd
 | some v =>
  show(if v<0 then (v+(n:Int)).toNat else min v.toNat n)<=n
  by_cases hv:v<0
  .rw[if_pos hv];omega
  .rw[if_neg hv];exact Nat.min_le_right _ _
end
end HT
namespace L2
open PySem PySem.Spec PyProof.Rows
noncomputable abbrev TO:=St->Hp->Af (Bt->Af Hp)
noncomputable def PO(X:Cx)(e:Option Expr)(t:TO):Prop :=
 ∀(pins:AJ Obj) (s:Zgk) (σ:St) (H:Hp) (Q:Bt->Af Hp),Ag H s->t σ H Q ->
  AW X.w X.A (evalPart e X.env) (fun u s'=>∃o H',Ag H' s'/\IsPart u o/\Q o H') X.xe s
noncomputable def zi8:TO:=fun _ H Q=>Q none H
noncomputable def zp0(t:TE):TO:=fun σ H Q=>t σ H fun x H1=>∃i,x= .int i/\Q (some i) H1
section
variable{X:Cx}{e:Expr}{te:TE}{lo hi:Option Expr}{tl th:TO}{pos p2:Pos}
theorem zgt:PO X none zi8:=by
 intro pins s σ H Q I h
 rw[Zzg]
 exact Zgj ⟨none,H,I,.none,h⟩
theorem ze7(h:PE X e te):PO X (some e) (zp0 te):=by
 intro pins s σ H Q I hw
 rw[evalPart_some]
 refine thn (h pins s σ H _ I hw) fun u s1 hz9=>?_
 obtain⟨x,H1,I1,r1,q1⟩:=hz9
 obtain⟨i,rfl,q⟩:=q1
 obtain⟨t,rfl⟩:=r1
 exact⟨some i,H1,I1,.int i t,q⟩
noncomputable def SlR(X:Cx)(r:V->Bt->Bt->Hp->Af VK):Prop :=
 ∀(pins:AJ Obj) (s:Zgk) (σ:St) (H:Hp) (x:V) (v vl vu:Zgi) (lo hi:Bt) (sl:Addr) (Q:VK),Ag H s->RelV x v->s.heap.IsSliceOf sl vl vu .none->IsPart vl lo->IsPart vu hi->r x lo hi H Q ->
  ∃T id,Zwm (.type T) "__getitem__" = pure (some (.builtin id))/\s.TypeIs v T/\AW X.w X.A (Zto v (.ref sl)) (EP X pins σ Q) X.xe s
noncomputable def tSl(r:V->Bt->Bt->Hp->Af VK)(te:TE)(tl th:TO):TE:=fun σ H Q=>te σ H fun x H1=>tl σ H1 fun l H2=>th σ H2 fun u H3=>r x l u H3 Q
theorem zea{r:V->Bt->Bt->Hp->Af VK}(hr:SlR X r)(he:PE X e te)(hl:PO X lo tl)(hu:PO X hi th):PE X (.Subscript e (.Slice lo hi none p2) pos) (tSl r te tl th):=by
 intro pins s σ H Q I h
 refine Zwz (thn (he pins s σ H _ I h) fun v s1 hz9=>?_)
 obtain⟨x,H1,I1,r1,q1⟩:=hz9
 refine wpAny_Slice (thn (hl pins s1 σ H1 _ I1 q1) fun vl s2 ⟨l,H2,I2,pl,q2⟩=>thn (hu pins s2 σ H2 _ I2 q2) fun vu s3 hz9=>?_)
 obtain⟨u,H3,I3,pu,q3⟩:=hz9
 rw[Zzg]
 refine Zgj ?_
 have I4:Ag H3 { s3 with heap:=s3.heap.push (Bl "slice" (.fields #[vl,vu,.none])) }:=I3.kept (t':=s3.toks) fun b ob q=>Zgl _ q
 obtain⟨T,id,hT,ht,hg⟩:=hr pins { s3 with heap:=s3.heap.push (Bl "slice" (.fields #[vl,vu,.none])) } σ H3 x v vl vu l u s3.heap.objs.size Q I4 r1 (Zwc ..) pl pu q3
 show AW X.w X.A (Ztl e (.Slice lo hi none p2) v (.ref s3.heap.objs.size)) (EP X pins σ Q) X.xe { s3 with heap:=s3.heap.push (Bl "slice" (.fields #[vl,vu,.none])) }
 exact tail_any (ops:=[.ref s3.heap.objs.size,v]) ht hT hg (by with_unfolding_all rfl)
noncomputable def cutV(xs:Ao)(lo hi:Bt):Ao:=(xs.drop (HT.sIx xs.length 0 lo)).take (HT.sIx xs.length xs.length hi - HT.sIx xs.length 0 lo)
theorem zpf(xs:Ao)(lo hi:Bt):(cutV xs lo hi).length<=xs.length:=by
 unfold cutV
 rw[Zmk,Zlo]
 omega
end
noncomputable def ixN(n:Nat)(i:Int):Option Nat:=if 0<=i then (if i<n then some i.toNat else none) else if -(n:Int)<=i then some (i+n).toNat else none
noncomputable def atI{α:Type}(xs:List α)(i:Int):Option α:=(ixN xs.length i).bind fun j=>xs[j]?
theorem yar{n:Nat}{i:Int}{j:Nat}(h:Aa (ixN n i) j):Aa (seqIndex? i n) j/\j<n /\ -(n:Int)<=i/\i<n:=by
 unfold ixN at h
 by_cases h0:0<=i
 .rw[if_pos h0] at h
  by_cases h1:i<n
  .rw[if_pos h1] at h
   have e:i.toNat=j:=Zim h
   exact⟨by rw[seqIndex_of h0 h1,e],by omega,by omega,h1⟩
  .rw[if_neg h1] at h;cases h
 .rw[if_neg h0] at h
  by_cases h1 : -(n:Int)<=i
  .rw[if_pos h1] at h
   have e:(i+n).toNat=j:=Zim h
   exact⟨by rw[seqIndex_neg (by omega) h1,e],by omega,h1,by omega⟩
  .rw[if_neg h1] at h;cases h
theorem zpm{α:Type}{xs:List α}{i:Int}{v:α}(h:Aa (atI xs i) v):∃j,Aa (seqIndex? i xs.length) j/\Ax xs j v/\j<xs.length /\ -(xs.length:Int)<=i/\i<xs.length:=by
 unfold atI at h
 cases e:ixN xs.length i with
 | none=>rw[e] at h;cases h
 | some j =>
  rw[e] at h
  obtain⟨h1,h2,h3,h4⟩:=yar e
  exact⟨j,h1,h,h2,h3,h4⟩
theorem zdt{α:Type}{xs:List α}{j:Nat}{v:α}(h:Ax xs j v):Aa (atI xs (j:Int)) v:=by
 have hj:j<xs.length:=(Zgo.mp h).1
 have e:Aa (ixN xs.length (j:Int)) j:=by
  unfold ixN
  rw[if_pos (by omega),if_pos (by omega)];simp
 unfold atI;rw[e];exact h
noncomputable def ybp(b:Expr):Prop:=∀o i,Zsd b false o i=operate [o,i] (Zto o i)
noncomputable def IxR(X:Cx)(r:R2):Prop :=
 ∀(value slice:Expr) (pins:AJ Obj) (s:Zgk) (σ:St) (H:Hp) (x y:V) (v u:Zgi) (Q:VK),Ag H s->RelV x v->RelV y u->r x y H Q ->
  Zsd slice false v u=operate [v,u] (Zto v u)->AW X.w X.A (Ztl value slice v u) (EP X pins σ Q) X.xe s
noncomputable def MtR(X:Cx)(id:String)(r:V->Ao->Hp->Af VK):Prop :=
 ∀(pins:AJ Obj) (s:Zgk) (σ:St) (H:Hp) (x:V) (xs:Ao) (v:Zgi) (us:Ar) (Q:VK),Ag H s->RelV x v->Vals xs us->r x xs H Q ->
  AW X.w X.A (call (.builtin id) (v::us)) (EP X pins σ Q) X.xe s
section
variable{X:Cx}{a b:Expr}{ta tb:TE}{pos:Pos}
theorem zbm{r:R2}(hr:IxR X r)(ha:PE X a ta)(hb:PE X b tb)(hs:ybp b):PE X (.Subscript a b pos) (tOp r ta tb):=by
 intro pins s σ H Q I h
 exact Zwz (binT ha hb I h fun v u s2 x y H2 I2 rx ry q=>hr a b pins s2 σ H2 x y v u Q I2 rx ry q (hs _ _))
noncomputable def rIxL(K:Zgh):R2:=fun x y H Q=>∃p xs i v,x= AO/\y= .int i/\SqL K H p xs/\Aa (atI xs i) v/\Q v H
noncomputable def rIxT(K:Zgh):R2:=fun x y H Q=>∃p xs i v,x= AO/\y= .int i/\SqT K H p xs/\Aa (atI xs i) v/\Q v H
noncomputable def rIxS:R2:=fun x y H Q=>∃z i c,x= .str z/\y= .int i/\AL z.length/\Aa (atI z.cps.toList i) c/\Q (.str ⟨#[c]⟩) H
theorem zas:IxR X (rIxL X.K):=by
 intro value slice pins s σ H x y v u Q I rx ry h hs
 obtain⟨p,xs,i,z,rfl,rfl,hq,he,q⟩:=h
 cases rx
 obtain⟨t,rfl⟩:=ry
 obtain⟨its,r,pl,hz⟩:=I.list hq
 obtain⟨j,h1,h2,h3,h4,h5⟩:=zpm he
 obtain⟨w,ew,rw'⟩:=r.get h2
 have hl:=r.length
 have hn:=zn4
 have fin:EP X pins σ Q w s:=⟨z,H,I,rw',q⟩
 by_cases h0:0<=i
 .have hj:i.toNat=j:=by
   rw[seqIndex_of h0 h5] at h1
   exact Zim h1
  exact item_listR pl.isList h0 (by omega) (by rw[hj];simpa using ew) fin hs
 .have hj:(i+(its.toArray.size:Int)).toNat=j:=by
   rw[seqIndex_neg (by omega) h4] at h1
   rw[Zh2,<- hl]
   exact Zim h1
  exact Zt1 (x:=w) pl.isList.typeIs slot_list_getitem.lookup
   (wpAny_getItem_list_neg (Q:=fun r s'=>r=w/\EP X pins σ Q r s') pl.isList (by omega) (by rw[Zh2] <;> omega) (by omega) (by rw[hj];simpa using ew) ⟨rfl,fin⟩) hs
theorem yc5:IxR X (rIxT X.K):=by
 intro value slice pins s σ H x y v u Q I rx ry h hs
 obtain⟨p,xs,i,z,rfl,rfl,hq,he,q⟩:=h
 cases rx
 obtain⟨t,rfl⟩:=ry
 obtain⟨its,r,pl,hz⟩:=I.tuple hq
 obtain⟨j,h1,h2,h3,h4,h5⟩:=zpm he
 obtain⟨w,ew,rw'⟩:=r.get h2
 have hl:=r.length
 have hn:=zn4
 have fin:EP X pins σ Q w s:=⟨z,H,I,rw',q⟩
 exact Zt1 (x:=w) pl.typeIs slot_tuple_getitem.lookup
  (getItem_tuple (j:=j) (Q:=fun r s'=>r=w/\EP X pins σ Q r s') pl (by omega) (by omega) (by rw[Zh2,<- hl];exact h1) (by simpa using ew) ⟨rfl,fin⟩) hs
theorem zqm:IxR X rIxS:=by
 intro value slice pins s σ H x y v u Q I rx ry h hs
 obtain⟨z,i,c,rfl,rfl,hz,he,q⟩:=h
 obtain⟨t,rfl⟩:=rx
 obtain⟨t',rfl⟩:=ry
 obtain⟨j,h1,h2,h3,h4,h5⟩:=zpm he
 have hl:z.cps.toList.length=z.length:=by simp[Zum]
 rw[hl] at h1 h4 h5
 have hn:=zn4
 exact tail_any (Zj2 s z t) slot_str_getitem.lookup (getItem_str (c:=c) (by
  have e1:Am (decide (i< -(2 ^ 63:Int))):=decide_eq_false (by omega)
  have e2:Am (decide (i ≥ 2 ^ 63)):=decide_eq_false (by omega)
  rw[e1,e2,Zr8]) (by rw[h1];simpa using h2) ⟨.str ⟨#[c]⟩,H,I.tok _,(AF _),q⟩) hs
theorem znz(lo hi:Bt)(n:Nat):(Znh lo hi none n).1=((HT.sIx n 0 lo:Nat):Int)/\(Znh lo hi none n).2.1=((HT.sIx n n hi:Nat):Int)/\(Znh lo hi none n).2.2=1:=by
 refine⟨?_,?_,rfl⟩
 .cases lo with
  | none=>simp[Znh,HT.sIx]
  | some i =>
   simp only[Znh,HT.sIx,Zts,show(1:Int)>0 by decide,if_true]
   by_cases h:i<0
   .simp only[h,if_true] <;> omega
   .simp only[h,if_false] <;> omega
 .cases hi with
  | none=>simp[Znh,HT.sIx]
  | some i =>
   simp only[Znh,HT.sIx,Zts,show(1:Int)>0 by decide,if_true]
   by_cases h:i<0
   .simp only[h,if_true] <;> omega
   .simp only[h,if_false] <;> omega
theorem zlj(its:Ar)(lo hi:Bt):slicePick its.toArray lo hi none=((its.drop (HT.sIx its.length 0 lo)).take (HT.sIx its.length its.length hi - HT.sIx its.length 0 lo)).toArray:=by
 obtain⟨h1,h2,h3⟩:=znz lo hi its.toArray.size
 unfold slicePick
 rw[h1,h2,h3]
 simp only[sliceRange_one,pick_run,Zh2] <;> rfl
noncomputable def rSlL(K:Zgh):V->Bt->Bt->Hp->Af VK:=fun x lo hi H Q=>∃a xs,x= Au/\SqL K H a xs /\ ∀p,H p=none->Q AO (upd H p (.lst (cutV xs lo hi)))
theorem zhq:SlR X (rSlL X.K):=by
 intro pins s σ H x v vl vu lo hi sl Q I rx hs pl pu h
 obtain⟨a,xs,rfl,hx,q⟩:=h
 cases rx
 obtain⟨its,r,ht,hz⟩:=I.list hx
 have hlen:=r.length
 refine⟨"list", _,slot_list_getitem.lookup,ht.isList.typeIs,?_⟩
 refine wpAny_getItem_list_slice ht.isList hs pl pu .none (by simp) ?_ (by rw[Zh2] <;> omega)
 rw[zlj,<- hlen]
 refine⟨Bz,_,I.laid (t':=s.toks) (o:=.lst (cutV xs lo hi)) (fun b ob q=>Zgl _ q) Ay ?_,rfl,q _ (I.hok.fresh Ay)⟩
 exact⟨Zi6 (zpf xs lo hi) hz,_,0,(r.drop (HT.sIx xs.length 0 lo)).take (HT.sIx xs.length xs.length hi - HT.sIx xs.length 0 lo),Zgx _ rfl⟩
theorem zc7:zdd X (.builtin "len") (fun xs H Q=>∃p ys,xs=[AO]/\(SqL X.K H p ys\/SqT X.K H p ys)/\Q (.int ys.length) H):=by
 intro pins s σ H xs us Q I r h
 obtain⟨p,ys,rfl,hq,q⟩:=h
 obtain⟨u,rfl,rx⟩:=zj0 r
 cases rx
 have hn:=zn4
 rcases hq with hq | hq
 .obtain⟨its,r',pl,hz⟩:=I.list hq
  have hlen:=r'.length
  exact Calls.call_len_list pl.isList (by simp only[Zh2] <;> omega) ⟨.int ys.length,H,I.tok _,⟨s.toks+1,by rw[Zh2,hlen]⟩,q⟩
 .obtain⟨its,r',pl,hz⟩:=I.tuple hq
  have hlen:=r'.length
  exact len_tuple pl (by simp only[Zh2] <;> omega) ⟨.int ys.length,H,I.tok _,⟨s.toks+1,by rw[Zh2,hlen]⟩,q⟩
theorem zhu:zdd X (.builtin "len") (fun xs H Q=>∃z,xs=[.str z]/\AL z.length/\Q (.int z.length) H):=by
 intro pins s σ H xs us Q I r h
 obtain⟨z,rfl,hz,q⟩:=h
 obtain⟨u,rfl,t,rfl⟩:=zj0 r
 have hn:=zn4
 exact len_str (by omega) ⟨.int z.length,H,I.tok _,(AF _),q⟩
theorem zoc:zdd X (.type "list") (fun xs H Q=>∃p ys,xs=[AO]/\(SqL X.K H p ys\/SqT X.K H p ys) /\ ∀l,H l=none->Q (.ref l) (upd H l (.lst ys))):=by
 intro pins s σ H xs us Q I r h
 obtain⟨p,ys,rfl,hq,q⟩:=h
 obtain⟨u,rfl,rx⟩:=zj0 r
 cases rx
 have fin:∀(its:Ar),Vals ys its->AL ys.length-> ∀(h':Heap) (c':Nat),(∀b o',AH b o'->AU b o') ->
   AU s.heap.objs.size { cls:=.type "list", dict:=none,data:=.seq its.toArray c',slots:=#[] }->EP X pins σ Q Bz { s with heap:=h' }:=fun its r' hz h' c' kp e =>
  ⟨Bz,_,I.laid (t':=s.toks) kp Ay (show zdb X.prog X.w _ h' _ (.lst ys) from⟨hz,its,c',r',e⟩),rfl,q _ (I.hok.fresh Ay)⟩
 rcases hq with hq | hq
 .obtain⟨its,r',pl,hz⟩:=I.list hq
  have hlen:=r'.length
  obtain⟨o,ho,hc,n,hd⟩:=pl.isList
  exact Zzk p Be ho hc hd (fun h' c' kp e=>fin its r' hz h' c' kp e) (by simp only[Zh2] <;> omega)
 .obtain⟨its,r',pl,hz⟩:=I.tuple hq
  have hlen:=r'.length
  obtain⟨o,ho,hc,n,hd⟩:=pl
  exact Zzk p (.inr rfl) ho hc hd (fun h' c' kp e=>fin its r' hz h' c' kp e) (by simp only[Zh2] <;> omega)
theorem zle:zdd X (.type "tuple") (fun xs H Q=>∃p ys,xs=[AO]/\((SqL X.K H p ys /\ ∀l,H l=none->Q (.ref l) (upd H l (.tup ys)))\/(SqT X.K H p ys/\Q AO H))):=by
 intro pins s σ H xs us Q I r h
 obtain⟨p,ys,rfl,h⟩:=h
 obtain⟨u,rfl,rx⟩:=zj0 r
 cases rx
 rcases h with ⟨hq,q⟩ | ⟨hq,q⟩
 .obtain⟨its,r',pl,hz⟩:=I.list hq
  have hlen:=r'.length
  refine call_tuple_list pl.isList (fun h' kp=>?_) (by simp only[Zh2] <;> omega)
  have I1:Ag H { s with heap:=h' }:=I.kept (t':=s.toks) kp
  have I2:Ag (upd H h'.objs.size (.tup ys)) { s with heap:=h'.push (Bl "tuple" (.seq its.toArray)) } :=
   I1.laid (t':=s.toks) (fun b o e=>Zgl _ e) Ay (show zdb X.prog X.w _ _ _ (.tup ys) from⟨hz,its,r',IsTup.new _ _⟩)
  exact⟨.ref h'.objs.size,_,I2,rfl,q _ (I1.hok.fresh Ay)⟩
 .obtain⟨its,r',pl,hz⟩:=I.tuple hq
  exact call_tuple_same pl ⟨AO,H,I,rfl,q⟩
noncomputable def tyV(K:Zgh)(T:String)(x:V)(H:Hp):Prop:=match x with
 | .str _=>T = "str"
 | .int _=>T = "int"
 | .ref p=>(T = "list" /\ ∃xs,SqL K H p xs)\/(T = "tuple" /\ ∃o,Aa (K.lookup p) o/\o.cls= .type "tuple" /\ o.dict=none) \/
   (T = "dict" /\ ((∃kvs,Aa (H p) (.dK kvs)) \/ ∃kvs,Aa (H p) (.dT kvs)))\/(T = "set" /\ ∃S n,Aa (H p) (.set S n))
 | _=>False
theorem ydm{pins:AJ Obj}{σ:St}{H:Hp}{s:Zgk}{T:String}{x:V}{v:Zgi}(I:Ag H s)(r:RelV x v)(ty:tyV X.K T x H) :
  s.TypeIs v T /\ ∀a,v= Au-> ∃ob,AH a ob/\ob.dict=none:=by
 cases x with
 | str z =>
  obtain⟨t,rfl⟩:=r
  cases (show T = "str" from ty)
  exact⟨Zj2 s z t,fun _ e=>nomatch e⟩
 | int i =>
  obtain⟨t,rfl⟩:=r
  cases (show T = "int" from ty)
  exact⟨typeIs_int s i t,fun _ e=>nomatch e⟩
 | ref p =>
  cases r
  rcases ty with ⟨rfl,xs,hq⟩ | ⟨rfl,o,hk,hc,hd⟩ | ⟨rfl,hk⟩ | ⟨rfl,S,n,hk⟩
  .obtain⟨its,_,pl,_⟩:=I.list hq
   refine⟨pl.isList.typeIs,fun a e=>?_⟩
   cases e
   obtain⟨o,n,e,c,hd,_⟩:=pl
   exact⟨o,e,hd⟩
  .refine⟨⟨o,I.kIn p o hk,hc⟩,fun a e=>?_⟩
   cases e
   exact⟨o,I.kIn _ o hk,hd⟩
  .have z:∃o,AH p o/\o.ExactDict:=by
    rcases hk with ⟨kvs,hk⟩ | ⟨kvs,hk⟩
    .obtain⟨_,_,_,_,o,_,_,e,ex,_⟩:=I.hok p _ hk
     exact⟨o,e,ex⟩
    .obtain⟨_,_,_,_,o,_,_,e,ex,_⟩:=I.hok p _ hk
     exact⟨o,e,ex⟩
   obtain⟨o,e,ex⟩:=z
   refine⟨⟨o,e,ex.1⟩,fun a e2=>?_⟩
   cases e2
   exact⟨o,e,ex.2.1⟩
  .obtain⟨o,_,_,_,e,ex,_⟩:=I.hok p _ hk
   refine⟨⟨o,e,ex.1⟩,fun a e2=>?_⟩
   cases e2
   exact⟨o,e,ex.2.1⟩
 | _=>exact Zkl ty
noncomputable def tBM(K:Zgh)(T:String)(r:V->Ao->Hp->Af VK)(to:TE)(t:TA):TE:=fun σ H Q=>to σ H fun x H1=>tyV K T x H1/\t σ H1 fun xs H2=>r x xs H2 Q
variable{o e:Expr}{es:List Expr}{to:TE}{t:TA}{name:Str}{apos cpos:Pos}{T id:String}{r:V->List V->Hp->VK->Prop}
theorem zf2(pa:PlainAttrs T)(slot:Slot T name id)(hty:typeOf (.builtin id)=pure (.type "method_descriptor"))(hm:MtR X id r)(ho:PE X o to)(ha:PA X (e::es) t)
  (hbase:Zm3 o name X.env (Bh o)=Bh o:=by rfl)
  (hfew:Ab ((Zlw cpos (Zh5 (e::es) X.env)).all (fun x=>! x.1)&&(Zmc cpos (Zkg [] X.env)).all (fun x=>x.1.isSome)
   && AS ((e::es).length+([]:List Zoi).length+(if ([]:List Zoi).isEmpty then 0 else 1)) 30):=by rfl)
  (hline:Ab (apos.endLine == cpos.line):=by rfl) (hs:Zh5 (e::es) X.env=(false,Bh e)::Zh5 es X.env:=by rfl) (hplain:Am ((Zlw cpos (Zh5 es X.env)).any (·.1)):=by rfl) :
  PE X (.Call (.Attribute o name apos) (e::es) [] cpos) (tBM X.K T r to t):=by
 intro pins s σ H Q I h
 refine Zt0 hbase hfew hline rfl (thn (ho pins s σ H _ I h) fun v s1 hz9=>?_)
 obtain⟨x,H1,I1,r1,ty,q1⟩:=hz9
 obtain⟨h1,h2⟩:=ydm I1 r1 ty
 refine⟨T,id,pa,slot,hty,h1,h2,?_⟩
 have hA:=ha cpos pins s1 σ H1 _ I1 q1
 rw[hs] at hA ⊢
 refine Zr7 (by show(false||(Zlw cpos (Zh5 es X.env)).any (·.1))=false;rw[hplain] <;> rfl) (Zsx ?_)
 refine thn hA fun us s2 hz9=>?_
 obtain⟨vs,H2,I2,r2,q2⟩:=hz9
 exact hm pins s2 σ H2 x vs v us Q I2 r1 r2 q2
end
noncomputable def MtM(X:Cx)(id:String)(r:V->Ao->Hp->Af VK):Prop :=
 ∀(pins:AJ Obj) (s:Zgk) (σ:St) (H:Hp) (x:V) (xs:Ao) (v:Zgi) (us:Ar) (Q:VK),Ag H s->RelV x v->Vals xs us->r x xs H Q ->
  AW X.w X.A (call (.builtin id) (v::us)) (EP X pins σ Q) X.xe s
theorem Vals.one:∀{x:V} {us:Ar},Vals [x] us-> ∃u,us=[u]/\RelV x u
 | _,_,.cons r .nil=>(Aw _ r)
section
variable{X:Cx}{pins:List (Addr×Obj)}{σ:St}{H:Hp}{s:Zgk}{l b:Addr}{xs ys zs:List V}
theorem Inv.lset{its its':Ar}{n:Nat}{f:Array Zgi->Array Zgi}{t':Nat}(I:Ag H s)(hH:Aa (H l) (.lst xs))
  (e:AH l (Bl "list" (.seq its.toArray n))) (hf:f its.toArray=its'.toArray) (hv:Vals ys its') (hz:AL ys.length) :
  Ag (upd H l (.lst ys)) { s with heap:=s.heap.update l (Zlv f),toks:=t' }:=by
 have q:=Zzo e f
 rw[hf] at q
 refine I.write (x:=l) (e:=l) (by rw[hH];exact trivial) Be (fun b' u hb hu=>(Ziv s.heap (Zlv f) (Zh1 hb)).trans hu) ⟨_,q⟩ ?_
 exact⟨hz,its',_,hv,q⟩
theorem Inv.lnew{its:Ar}{t':Nat}(I:Ag H s)(hv:Vals ys its)(hz:AL ys.length) :
  Ag (upd H s.heap.objs.size (.lst ys)) { s with heap:=BD "list" (.seq its.toArray),toks:=t' } :=
 I.laid (fun _ _ q=>Zgl _ q) Ay ⟨hz,its,0,hv,Zgx _ rfl⟩
theorem Inv.fresh(I:Ag H s):H s.heap.objs.size=none:=I.hok.fresh Ay
theorem Inv.lstM(I:Ag H s)(hH:Aa (H l) (.lst xs)):AL xs.length /\ ∃(its:Ar) (n:Nat),Vals xs its/\xs.length=its.length/\AH l (Bl "list" (.seq its.toArray n)):=by
 obtain⟨z,its,n,r,e⟩:=I.hok l _ hH
 exact⟨z,its,n,r,r.length,e⟩
end
section
variable{X:Cx}
noncomputable def zor:V->Ao->Hp->Af VK:=fun x vs H Q=>∃l xs y,x= .ref l/\vs=[y]/\Aa (H l) (.lst xs)/\xs.length<sizeLine/\Q .non (upd H l (.lst (xs++[y])))
theorem zix:MtM X "list.append" zor:=by
 intro pins s σ H x vs v us Q I rx rv h
 obtain⟨l,xs,y,rfl,rfl,hH,hz,q⟩:=h
 cases rx
 obtain⟨u,rfl,ru⟩:=rv.one
 obtain⟨z,its,n,r,hl,e⟩:=I.lstM hH
 refine Zn3 Zp1 (AD e rfl) F.entry_list_append (F.args_list_append_2 _ _) (PySem.list_append l its.toArray n u (by rw[Zh2];omega)) ⟨e,?_⟩
 refine⟨.non,_,I.lset (its':=its++[u]) hH e (by simp) (r.append (.cons ru .nil)) ?_,rfl,q⟩
 rw[Zhl,Zsu]
 omega
end
end L2
namespace Att
open PySem PySem.W PySem.Calls PyProof.Rows
theorem zjb{P:Params}{h:Heap}:∀(ns:List Int) (vs:Ar),WellAll P h vs (ns.map WData.int)->Zvv vs ns:=by
 intro ns
 induction ns with
 | nil =>
  intro vs w
  rw[Zpz] at w
  cases w
  exact .nil
 | cons n ns ih =>
  intro vs w
  rw[Zhc] at w
  cases w with
  | cons a b =>
   cases a
   exact .cons _ _ (ih _ b)
theorem zvt{l:OpenLaw}{n:Nat}(hn:Aa l.most n){P:Params}{h:Heap}{args:List WData}{vals:Ar}
  (hpre:Ab (l.row.toRowW.claim.pre args)) (hwl:WellAll P h vals args) :
  ∃a vs ns,vals=[Zh3 a]/\args=[WData.list (ns.map WData.int)]/\A0 a (Bl "list" (.seq vs.toArray))/\Zvv vs ns/\ns.length<=n:=by
 have hsh:Ab (WShape.hasAll [] args [.list .int]):=(pre_splitW hpre).1
 have hc:Ab (l.pre.holds [] { args:=args }):=(pre_splitW hpre).2
 obtain⟨d,r,rfl,h1,h2⟩:=hasAllW_cons hsh
 obtain rfl:=hasAllW_nil h2
 obtain⟨xs,rfl,h3⟩:=hasW_list h1
 obtain⟨ns,rfl⟩:=items_int h3
 have hlen:ns.length<=n:=by
  unfold OpenLaw.pre at hc
  have h4:Ab ((WTm.not (.lt (.lit (.int (n:Int))) (.len (.arg 0)))).holds [] { args:=[.list (ns.map .int)] }):=by
   have h4:=(holds_andW hc).1
   rw[hn] at h4
   exact h4
  have h5:=condW_of h4 (w_not (w_lt w_lit (w_len_list (w_arg rfl))))
  rw[Zgn] at h5
  refine Nat.le_of_not_lt fun q=>?_
  have q':(n:Int)<((ns.length:Nat):Int):=by omega
  first
   | (rw[decide_eq_true q'] at h5;exact absurd h5 (by decide))
   | (simp at h5;omega)
 cases hwl with
 | cons w1 w2 =>
  cases w2
  cases w1 with
  | list ho hall=>exact⟨_,_,ns,rfl,rfl,ho,zjb ns _ hall,hlen⟩
theorem zu2(l:OpenLaw)(args:List WData):Ab (l.row.toRowW.claim.post args (.bool true) args) :=
 postW_of (r:=l.row.toRowW) (X:=(true == true))
  (show Ab (WShape.has [] (.bool true) .bool) by first | rfl | decide | simp[WShape.has,WShape.arms,WShape.armsAll])
  (show Aa ((WTm.eq .res (.lit (.bool true))).value [] { args:=args,res:=some (.bool true),after:=args }) (.bool (true == true)) from w_eq_bool (w_res rfl) w_lit) rfl
theorem attach_call{l:OpenLaw}{n:Nat}{q:Zg8}{loose:Al}{XP:(Str->AY)->Af Heap}{YP:Zhy->Af Heap}{d:DefRec}
  (hn:Aa l.most n) (hdf:d.params.defaults=[])
  (call:∀(w:Zhy) (s₀ s₁:Zgk) (mg mb:Str->AY) (fa:Addr) (o:Obj) (pm cd doc:Zgi) (a:Addr) (vs:Ar) (ns:List Int),
   Ground q loose [] XP w s₀ mg mb s₁.heap->YP w s₁.heap ->
   Aa (s₁.heap.get? fa) o->o.data= .func (docDef d.name d.params d.body d.scope pm cd doc)->s₁.heap.CodeRec cd d.name->Aa (mg d.name) (.ref fa) ->
   Aa (s₁.heap.get? a) (Bl "list" (.seq vs.toArray))->Zvv vs ns->ns.length<=n->s₁.gens= #[] ->
   Zo3 (Zg3 l.prog w) Zsf (.call (.ref fa) ⟨[Au],[]⟩) (fun r s'=>r= .ok (.ret (.bool true))/\OldK s₁.heap s'.heap/\s'.os=s₁.os/\Zp8 s'.gens) s₁) :
  WalkO q loose XP YP l.row.toRowW d [] (fun f vs=>Ztq f vs):=by
 intro w s₀ s₁ mg mb G Y fa o pm cd doc dV kV ho hd hcd hD hmg hg args vals as hpre hlay hrd hwl hlo
 obtain rfl:dV= .none:=Dflts.none hD hdf
 obtain rfl:kV= .none:=Dflts.noKw hD
 obtain⟨a,vs,ns,rfl,rfl,hobj,hints,hlen⟩:=zvt hn hpre hwl
 refine enter_call (Zl3 (call w s₀ s₁ mg mb fa o pm cd doc a vs ns G Y ho (fd_plain hd) hcd hmg hobj hints hlen hg) fun r s' hq=>?_)
 obtain⟨rfl,h2,h3,h4⟩:=hq
 exact⟨.inl ⟨.bool true,.bool true,[],rfl,fun _=>rfl,.bool true,zu2 l _,fun _=>⟨Zn4,fun _ hm=>(nomatch hm)⟩⟩,h2,h3,h4⟩
section
variable{prog:Zg8}{w:Zhy}{A:Zhk}{E:Zgi->Zgk->Prop}{s:Zgk}{K:Frag}
end
end Att
namespace L2
open PySem PySem.Spec PyProof.Rows
theorem znq:∀{vs:Ar} {ns:List Int},Zvv vs ns->Vals (ns.map V.int) vs
 | _,_,.nil=>.nil
 | _,_,.cons n t h=>.cons (AF t) (znq h)
noncomputable def Only(H:Hp):Prop:=∀b,H b=none \/ ∃o xs,Aa (H b) (.frz o (.lst xs))
theorem zyh {P : Zg8} {w : Zhy} {K : Zgh} {mg mb : Str -> AY} {CX : CXT} {k : Nat} {fa a : Addr} {fd : Zj9} {x : Str} {sp : Sp} {s₁ : Zgk} {vs : Ar} {ns : List Int}
  (KX:K.In s₁.heap) (hns:s₁.heap.Ns Zkp mg) (hb:s₁.heap.Ns Zws mb) (hbb:∀x:Str,x ≠ "__name__" -> mb x=Zo4 x) (hlim:s₁.heap.NoLimit) (hg:s₁.gens= #[])
  (ha:Aa (s₁.heap.get? a) (Bl "list" (.seq vs.toArray))) (hi:Zvv vs ns) (hl:AL ns.length) (hr:Room k Zsf)
  (F:∀base:Heap,K.In base->base.Ns Zkp mg->FnOk P w K mg base CX k fa fd [x] sp) (hbind:∀(s:Zgk) (u:Zgi),Zrg s fd ⟨[u],[]⟩ [(x,u)])
  (hsp:∀H:Hp,Only H->SqL K H a (ns.map V.int)->sp [Au] H (fun v _=>v= .bl true) fun _ _ _=>False)
  (hCX:∀H e s',CX [] H s₁ (fun _ _ _=>False) e s'->False) :
  Zo3 (Zg3 P w) Zsf (.call (.ref fa) ⟨[Au],[]⟩) (fun r s'=>r= .ok (.ret (.bool true))/\OldK s₁.heap s'.heap/\s'.os=s₁.os/\Zp8 s'.gens) s₁:=by
 have rv:=znq hi
 have lenV:=hi.length
 -- from an abstract heap in which nothing but the script may be tracked
 have core:∀H:Hp,Only H->SqL K H a (ns.map V.int)->HOk P w H s₁.heap->(∀b,H b≠none->b=a)->(H a≠none->K.lookup a=none) ->
   Zo3 (Zg3 P w) Zsf (.call (.ref fa) ⟨[Au],[]⟩) (fun r s'=>r= .ok (.ret (.bool true))/\OldK s₁.heap s'.heap/\s'.os=s₁.os/\Zp8 s'.gens) s₁:=by
  intro H hO hS hok hA hK
  have base_of:∀{b:Addr} {o:Obj},Aa (s₁.heap.get? b) o->H b=none->Aa ((hidT s₁.heap H).get? b) o:=fun e n=>zx4 e n
  have noA:∀{b:Addr} {o:Obj} {es:Array Zu3} {ep:Nat},Aa (s₁.heap.get? b) o->o.data= .dict es ep->H b=none:=fun {b o es ep} e d=>by
   cases q:H b with
   | none=>rfl
   | some u =>
    have e':b=a:=hA b (by rw[q];simp)
    subst e'
    rw[ha] at e;cases e
    have d':Data.seq vs.toArray _=Data.dict es ep:=d
    cases d'
  have nsK:∀{b:Addr} {m:Str->AY},s₁.heap.Ns b m->(hidT s₁.heap H).Ns b m:=fun {b m} ⟨o,es,ep,e,d,r⟩=>⟨o,es,ep,base_of e (noA e d),d,r⟩
  have hKb:K.In (hidT s₁.heap H):=fun b o e=>base_of (KX b o e) (by
   cases q:H b with
   | none=>rfl
   | some u =>
    have e':b=a:=hA b (by rw[q];simp)
    subst e'
    rw[hK (by rw[q];simp)] at e;cases e)
  have hM:Mod K mg (hidT s₁.heap H):=⟨hKb,nsK hns,⟨mb,nsK hb,hbb⟩,let ⟨mc,h1,h2⟩:=hlim;⟨mc,nsK h1,h2⟩⟩
  have e0:Env0 P w K mg (hidT s₁.heap H) Zsf [] s₁ H:=⟨rfl,hM,fun b o e=>yb4 e,Zx4 (ztw _ _),trivial,fun b hb=>absurd (show b∈([]:List Addr) from hb) (by simp),hok,.of_eq hg⟩
  refine Zl3 ((F _ hKb (nsK hns)).run Zsf [] s₁ H ⟨[Au],[]⟩ [Au] [Au] _ _ hr e0 (hbind s₁ Au) (.cons rfl .nil) (hsp H hO hS)) fun r s' h=>?_
  cases r with
  | error e=>exact(hCX H e s' h).elim
  | ok fl =>
   cases fl with
   | next=>exact Zkl h
   | brk=>exact Zkl h
   | cont=>exact Zkl h
   | ret u =>
    obtain⟨v,H',os,bare,un,hok',r',q⟩:=h
    have q':v= .bl true:=q
    subst q'
    obtain rfl:u=Znj true:=r'
    refine⟨rfl,OldK.of_keep fun b o e=>?_,os,bare⟩
    cases q:H b with
    | none=>exact un.keep b o e q (by intro z;exact absurd (show b∈([]:List Addr) from z) (by simp)) (by simp)
    | some u =>
     rcases hO b with z | ⟨ob,xs,z⟩
     .rw[q] at z;cases z
     .have z2:=un.frzs b ob _ z
      obtain⟨e1,_⟩:=hok b _ z
      obtain⟨e2,_⟩:=hok' b _ z2
      rw[e] at e1;cases e1
      exact e2
 cases hk:K.lookup a with
 | some o =>
  -- the script is one of the module's own objects
  have e:=KX a o hk
  rw[ha] at e
  cases e
  refine core (fun _=>none) (fun _=>Be) (.inr ⟨_,vs.toArray,_,hk,rfl,rfl,rfl,by rw[Zh2,lenV];exact hl,by simpa using rv⟩) (fun b u z=>by have z':(none:Option HO)=some u:=z;cases z') (fun b z=>absurd rfl z) fun z=>absurd rfl z
 | none =>
  refine core (fun b=>if b=a then some (.frz (Bl "list" (.seq vs.toArray)) (.lst (ns.map V.int))) else none) (fun b=>?_) (.inl (.inr ⟨(Bl "list" (.seq vs.toArray)),if_pos rfl⟩)) (fun b u z=>?_) (fun b z=>?_) fun _=>hk
  .by_cases hb:b=a
   .exact .inr (AD _ (if_pos hb))
   .exact .inl (if_neg hb)
  .by_cases hb:b=a
   .have z':=(if_pos hb).symm.trans z
    cases z'
    subst hb
    exact⟨ha,by rw[Zgn];exact hl,vs,_,rv,ha⟩
   .have z':=(if_neg hb).symm.trans z
    cases z'
  .by_cases hb:b=a
   .exact hb
   .exact absurd (if_neg hb) z
theorem walk_of{l:Zpx}{n k:Nat}{q:Zg8}{loose:Al}{XP:(Str->AY)->Af Heap}{YP:Zhy->Af Heap}{d:DefRec}{K:Params->Zgh}{CX:Zhy->CXT}{sp:Zhy->Sp}{x:Str}
  (hn:Aa l.most n) (hn2:AL n) (hdf:d.params.defaults=[]) (hr:Room k Zsf)
  (hY:∀(w:Zhy) (h:Heap),YP w h->(K w.params).In h)
  (F:∀(w:Zhy) (mg:Str->AY) (fa:Addr) (h:Heap),(K w.params).In h->h.Ns Zkp mg->Aa (mg d.name) (.ref fa) ->
   ∃fd:Zj9,(∀(s:Zgk) (u:Zgi),Zrg s fd ⟨[u],[]⟩ [(x,u)]) /\
    ∀base:Heap,(K w.params).In base->base.Ns Zkp mg->FnOk l.prog w (K w.params) mg base (CX w) k fa fd [x] (sp w))
  (hsp:∀(w:Zhy) (H:Hp) (a:Addr) (ns:List Int),ns.length<=n->Only H->SqL (K w.params) H a (ns.map V.int)->sp w [Au] H (fun v _=>v= .bl true) fun _ _ _=>False)
  (hCX:∀(w:Zhy) (H:Hp) (s:Zgk) (e:Zgi) (s':Zgk),CX w [] H s (fun _ _ _=>False) e s'->False) :
  Zun q loose XP YP l.row.toRowW d [] (fun f vs=>Ztq f vs):=by
 refine Att.attach_call hn hdf fun w s₀ s₁ mg mb fa o pm cd doc a vs ns G Y ho hd hcd hmg hobj hints hlen hg=>?_
 have KX:=hY w _ Y
 obtain⟨fd,hb,hF⟩:=F w mg fa _ KX G.T.g hmg
 exact zyh KX G.T.g G.T.b G.T.builtins G.T.nolimit hg hobj hints (Zi6 hlen hn2) hr hF hb (fun H hO hS=>hsp w H a ns hlen hO hS) fun H e s'=>hCX w H s₁ e s'
noncomputable def zcj(s:Stmt):Arguments:=match s with
 | .FunctionDef _ a _ _ _ _ _ _ _ _=>a
 | _=>{ posonlyargs:=[],args:=[],vararg:=none,kwonlyargs:=[],kw_defaults:=[],kwarg:=none,defaults:=[] }
noncomputable def zbp(s:Stmt):List Stmt:=match s with
 | .FunctionDef _ _ b _ _ _ _ _ _ _=>b
 | _=>[]
noncomputable def zad(s:Stmt):Scope:=match s with
 | .FunctionDef _ _ _ _ _ _ sc _ _ _=>sc
 | _=>{ kind:=.function,names:=[],isGenerator:=false,isCoroutine:=false }
noncomputable abbrev CX0:CXT:=fun _ _ _ _ _ _=>False
noncomputable abbrev E0:XK:=fun _ _ _=>False
theorem zkg{X:Cx}:zk6 CX0 X E0:=fun _ _ _ _ _ _ _ h=>h.elim
structure Fun(K:Zgh)(x qual:Str)(st:Stmt)(f:Addr)(fd:Zj9):Prop where
 ex:∃(oc:Zgi) (od:Option Addr) (kV doc pm:Zgi) (an:Option Addr) (cdv ct:Zgi) (osl:Array (Option Zgi)),
  fd=Zix x qual (zcj st) (zbp st) (zad st) .none kV doc pm an cdv ct/\K.lookup f=some ⟨oc,od,.func fd,osl⟩/\Zn8 K cdv qual=true
 kp:Zl4 K (.ref f)=true
section
variable{P:Zg8}{w:Zhy}{K:Zgh}{mg:Str->Option Zgi}{base:Heap}
theorem Fun.ok{x qual:Str}{st:Stmt}{f:Addr}{fd:Zj9}{N ps:Al}{k:Nat}{sp:Sp}(F:Fun K x qual st f fd)(S:Bf N ps st)(len:∀vs H Q E,sp vs H Q E->vs.length=ps.length)
  (hbody:∀(cdv:Zgi) (A:Zhk) (outer:List Env) (s:Zgk) (H:Hp) (vs:Ao) (Q:VK) (E:XK),Room k (A.deeper (Zol qual (zad st) s.heap.objs.size f cdv))->sp vs H Q E ->
   ∃t,PSs (cxOf CX0 P w K mg base N qual (zad st) f cdv A outer s H E).nox (zbp st) t/\t (BL (Q .non H')) (start N vs) H):FnOk P w K mg base CX0 (k+1) f fd ps sp:=by
 obtain⟨oc,od,kV,doc,pm,an,cdv,ct,osl,rfl,lk,hcd⟩:=F.ex
 refine yf7 lk hcd S len fun A outer s H vs Q E hr hsp=>?_
 obtain⟨t,h,q⟩:=hbody cdv A outer s H vs Q E hr hsp
 exact⟨t,h.nox,q⟩
theorem Fun.binds{x qual:Str}{st:Stmt}{f:Addr}{fd:Zj9}{ps:Al}(F:Fun K x qual st f fd)
  (h:∀(kV doc pm:Zgi) (an:Option Addr) (cdv ct:Zgi) (us:Ar),us.length=ps.length->Zm2 (Zix x qual (zcj st) (zbp st) (zad st) .none kV doc pm an cdv ct) ⟨us,[]⟩=pure (ps.zip us)):zev K fd ps []:=by
 obtain⟨oc,od,kV,doc,pm,an,cdv,ct,osl,rfl,lk,hcd⟩:=F.ex
 exact .all (h kV doc pm an cdv ct)
theorem fun_mk{x qual:Str}{st:Stmt}{f:Addr}{oc:Zgi}{od an:Option Addr}{osl:Array AY}{kV doc pm cdv ct:Zgi}(l:Aa (K.lookup f) ⟨oc,od,.func (Zix x qual (zcj st) (zbp st) (zad st) .none kV doc pm an cdv ct),osl⟩)
  (c:Ab (Zn8 K cdv qual)) (k:Ab (Zl4 K (.ref f))):Fun K x qual st f (Zix x qual (zcj st) (zbp st) (zad st) .none kV doc pm an cdv ct):=⟨⟨oc,od,kV,doc,pm,an,cdv,ct,osl,rfl,l,c⟩,k⟩
end
theorem zsl{A:Zhk}{k:Nat}(hr:Room k A):A.units+1<Zl2:=Zt6 (Nat.add_le_add_left (by decide:1<=64) _) hr.units
section
variable{X:Cx}
theorem pv(i:Nat){x:Str}{pos:Pos}(hN:Ak X.N x:=by rfl)(hv:Vis X.env.scope x:=by first | exact Zlq rfl | exact Zv7 (Zlq rfl) | exact Zv7 (Zv7 rfl))(hd:Am (x == ("__debug__" : Str)):=by decide)
  (hcd:Am (x == ("__classdict__" : Str)):=by decide):PE X (.Name x pos) (tVar i):=yef hN hv hd hcd
end
theorem iteF{A B:Prop}(h:B):if Ab false then A else B:=by
 rw[if_neg Zhs]
 exact h
theorem iteT{A B:Prop}(h:A):if Ab true then A else B:=by
 rw[if_pos rfl]
 exact h
noncomputable def Same(H H':Hp):Prop:=∀b o,Aa (H b) o->Aa (H' b) o
theorem Same.refl(H:Hp):Same H H:=fun _ _ h=>h
theorem Same.trans{H H1 H2:Hp}(a:Same H H1)(b:Same H1 H2):Same H H2:=fun c o h=>b c o (a c o h)
theorem Same.free{H H':Hp}(e:Same H H'){l:Addr}(h:H' l=Zv8):H l=Zv8:=by
 cases q:H l with
 | none=>rfl
 | some o =>
  rw[e l o q] at h
  cases h
theorem Same.seq{K:Zgh}{H H':Hp}{a:Addr}{xs:Ao}(e:Same H H')(h:SqL K H a xs):SqL K H' a xs:=by
 rcases h with (h | ⟨o,h⟩) | h
 .exact .inl (.inl (e _ _ h))
 .exact .inl (.inr ⟨o,e _ _ h⟩)
 .exact .inr h
section
variable{κ:Type}[DecidableEq κ]
noncomputable def valV(kvs:Ai κ V)(k:κ):Option V:=(kvs.find? fun kv=>AC kv.1 k).map (·.2)
noncomputable def putK(kvs:Ai κ V)(k:κ)(v:V):Ai κ V :=
 BC (kvs.any fun kv=>AC kv.1 k) (kvs.map (fun kv=>if kv.1=k then (kv.1,v) else kv)) (kvs++[(k,v)])
theorem zl7{p:κ×V}{r:Ai κ V}{k:κ}(e:p.1=k):Aa (valV (p::r) k) p.2:=by simp[valV,Zjf,e]
theorem zlr{p:κ×V}{r:Ai κ V}{k:κ}(e:¬ p.1=k):valV (p::r) k=valV r k:=by simp[valV,Zjf,e]
theorem zrn(k:κ):∀kvs:Ai κ V,(kvs.any fun kv=>AC kv.1 k)=(valV kvs k).isSome
 | []=>rfl
 | p::r=>by
  rw[Zl0]
  by_cases e:p.1=k
  .simp only[zl7 e,decide_eq_true e,Bool.true_or,Option.isSome_some]
  .rw[zlr e,decide_eq_false e,Zwe];exact zrn k r
theorem zjz(kvs:Ai κ V)(k:κ)(v:V):(putK kvs k v).length<=kvs.length+1:=by
 unfold putK
 split
 .rw[Zgn];omega
 .rw[Zhl,Zg5,Zhz];omega
theorem RelO.isSome_eq{o:Option V}{u:AY}(r:RelO o u):o.isSome=u.isSome:=by
 cases o with
 | none=>cases u with
  | none=>rfl
  | some _=>exact(show False from r).elim
 | some _=>cases u with
  | none=>exact(show False from r).elim
  | some _=>rfl
theorem KV.val{kvs:Ai κ V}{vs:Ai κ Zgi}(r:KV kvs vs)(k:κ):RelO (valV kvs k) (Zq3 vs k):=by
 unfold KV at r
 induction r with
 | nil=>exact Zoe
 | @cons p q ps qs h t ih =>
  obtain⟨h1,h2⟩:=h
  by_cases e:p.1=k
  .have e':q.1=k:=h1.symm.trans e
   have b:Aa (Zq3 (q::qs) k) q.2:=by simp[Zq3,Zjf,e']
   rw[zl7 e,b];exact h2
  .have e':¬ q.1=k:=fun z=>e (h1.trans z)
   have b:Zq3 (q::qs) k=Zq3 qs k:=by simp[Zq3,Zjf,e']
   rw[zlr e,b];exact ih
theorem KV.any{kvs:Ai κ V}{vs:Ai κ Zgi}(r:KV kvs vs)(k:κ):(kvs.any fun kv=>AC kv.1 k)=vs.any fun kv=>AC kv.1 k:=by
 unfold KV at r
 induction r with
 | nil=>rfl
 | cons h t ih=>rw[Zl0,Zl0,ih,h.1]
theorem KV.repl{kvs:Ai κ V}{vs:Ai κ Zgi}(r:KV kvs vs)(k:κ){y:V}{u:Zgi}(ry:RelV y u) :
  KV (kvs.map fun kv=>if kv.1=k then (kv.1,y) else kv) (vs.map fun kv=>if kv.1=k then (kv.1,u) else kv):=by
 unfold KV at r ⊢
 induction r with
 | nil=>exact .nil
 | @cons p q ps qs h t ih =>
  rw[Zhc,Zhc]
  refine .cons ?_ ih
  obtain⟨h1,h2⟩:=h
  by_cases e:p.1=k
  .rw[if_pos e,if_pos (h1.symm.trans e)];exact⟨h1,ry⟩
  .rw[if_neg e,if_neg (fun z=>e (h1.trans z))];exact⟨h1,h2⟩
theorem KV.put{kvs:Ai κ V}{vs:Ai κ Zgi}(r:KV kvs vs)(k:κ){y:V}{u:Zgi}(ry:RelV y u):KV (putK kvs k y) (stored vs k u):=by
 unfold putK stored
 rw[r.any k]
 by_cases e:Ab (vs.any fun kv=>AC kv.1 k)
 .rw[if_pos e,if_pos e];exact r.repl k ry
 .rw[if_neg e,if_neg e];exact Zv6 r ⟨rfl,ry⟩
theorem KV.length{kvs:Ai κ V}{vs:Ai κ Zgi}(r:KV kvs vs):kvs.length=vs.length:=Zrm r
end
theorem zsq{P:Zg8}{w:Zhy}{k:Key}{u:Zgi}(r:RelV (kV k) u):Ab ((zar P w).is k u):=by
 cases k with
 | inl i=>obtain⟨t,e⟩:=(show ∃t,u=Zsh i t from r);subst e;exact ziz P w i t
 | inr x=>obtain⟨t,e⟩:=(show ∃t,u=Zo6 x t from r);subst e;exact ze8 P w x t
theorem zok{P:Zg8}{w:Zhy}:∀{ks:List Key} {us:Ar},Vals (ks.map kV) us->ItemsAre (zar P w) ks us
 | [],_,r=>by rw[Zpz] at r;cases r;exact .nil
 | k::ks,_,r=>by
  rw[Zhc] at r
  cases r with
  | cons h t=>exact .cons (zsq h) (zok t)
noncomputable abbrev KT(H:Hp):Ai (List Key) V->Af (Ai (List Key) (Addr×Zgi)):=Paired fun p q=>p.1=q.1/\Aa (H q.2.1) (.tup (p.1.map kV))/\RelV p.2 q.2.2
theorem KT.val{H:Hp}{kvs:Ai (List Key) V}{xs:Ai (List Key) (Addr×Zgi)}(r:KT H kvs xs)(k:List Key):RelO (valV kvs k) ((Zvi xs k).map (·.2)):=by
 induction r with
 | nil=>exact Zoe
 | @cons p q ps qs h t ih =>
  obtain⟨h1,_,h2⟩:=h
  by_cases e:p.1=k
  .have e':q.1=k:=h1.symm.trans e
   have b:Aa (Zvi (q::qs) k) q.2:=by simp[Zvi,Zjf,e']
   rw[zl7 e,b];exact h2
  .have e':¬ q.1=k:=fun z=>e (h1.trans z)
   have b:Zvi (q::qs) k=Zvi qs k:=by simp[Zvi,Zjf,e']
   rw[zlr e,b];exact ih
theorem KT.repl{H:Hp}{kvs:Ai (List Key) V}{xs:Ai (List Key) (Addr×Zgi)}(r:KT H kvs xs)(k:List Key){y:V}{u:Zgi}(ry:RelV y u) :
  KT H (kvs.map fun kv=>if kv.1=k then (kv.1,y) else kv) (xs.map (putAt k u)):=by
 induction r with
 | nil=>exact .nil
 | @cons p q ps qs h t ih =>
  rw[Zhc,Zhc]
  refine .cons ?_ ih
  obtain⟨h1,h2,h3⟩:=h
  unfold putAt
  by_cases e:p.1=k
  .rw[if_pos e,if_pos (h1.symm.trans e)];exact⟨h1,h2,ry⟩
  .rw[if_neg e,if_neg (fun z=>e (h1.trans z))];exact⟨h1,h2,h3⟩
theorem KT.put{H:Hp}{kvs:Ai (List Key) V}{xs:Ai (List Key) (Addr×Zgi)}(r:KT H kvs xs)(k:List Key){b:Addr}{y:V}{u:Zgi}(hb:Aa (H b) (.tup (k.map kV)))(ry:RelV y u) :
  KT H (putK kvs k y) (storedH xs k b u):=by
 have e:(kvs.any fun kv=>AC kv.1 k)=(Zvi xs k).isSome:=by
  rw[zrn,(r.val k).isSome_eq,Ztb]
 unfold putK storedH
 rw[e]
 by_cases q:Ab (Zvi xs k).isSome
 .rw[if_pos q,if_pos q];exact r.repl k ry
 .rw[if_neg q,if_neg q];exact Zv6 r ⟨rfl,hb,ry⟩
theorem KT.keeps{H H':Hp}{kvs:Ai (List Key) V}{xs:Ai (List Key) (Addr×Zgi)}(r:KT H kvs xs)(ht:∀b ys,Aa (H b) (.tup ys)->Aa (H' b) (.tup ys)):KT H' kvs xs :=
 Paired.mapP r fun _ _ z=>⟨z.1,ht _ _ z.2.1,z.2.2⟩
section
variable{P:Zg8}{w:Zhy}{H:Hp}{h:Heap}{a:Addr}
theorem yeg{u:HO}(ok:HOk P w H h)(e:Rd H a u):zdb P w H h a u:=e.ok ok
theorem zxo{kvs:Ai Key V}(ok:HOk P w H h)(e:Rd H a (.dK kvs)):AL kvs.length/\Am (a == Zk6) /\ ∃vs,KV kvs vs/\h.DictOf (zar P w) a vs :=
 show zdb P w H h a (.dK kvs) from yeg ok e
theorem yfq{kvs:Ai Key V}(ok:HOk P w H h)(e:Aa (H a) (.dK kvs)):AL kvs.length/\Am (a == Zk6) /\ ∃vs,KV kvs vs/\h.DictOf (zar P w) a vs:=zxo ok (.inl e)
theorem zqs{ks:List Key}(ok:HOk P w H h)(e:Aa (H a) (.tup (ks.map kV))):(Zsc (zar P w)).is h ks a:=by
 obtain⟨_,its,r,o,h1,h2,n,h3⟩:=(show zdb P w H h a (.tup (ks.map kV)) from ok a _ e)
 exact⟨o,its.toArray,n,h1,h2,h3,by simpa using zok r⟩
theorem zxt{kvs:Ai (List Key) V}(ok:HOk P w H h)(e:Rd H a (.dT kvs)):AL kvs.length/\Am (a == Zk6) /\
  ∃xs,KT H kvs xs/\h.DictOfH (Zsc (zar P w)) a xs:=by
 obtain⟨z,y,xs,r,o,es,ep,h1,h2,h3,h4,h5⟩:=(show zdb P w H h a (.dT kvs) from yeg ok e)
 refine⟨z,y,xs,r,o,es,ep,h1,h2,h3,h4,fun x hx=>?_,h5⟩
 have all:∀{l:Ai (List Key) V} {m:Ai (List Key) (Addr×Zgi)},KT H l m-> ∀x∈m,(Zsc (zar P w)).is h x.1 x.2.1:=by
  intro l m q
  induction q with
  | nil=>intro x hx;exact nomatch hx
  | @cons p q ps qs hq t ih =>
   intro x hx
   rcases Zgp.mp hx with e | hx
   .subst e
    exact zqs ok (by rw[<- hq.1];exact hq.2.1)
   .exact ih x hx
 exact all r x hx
theorem yfr{kvs:Ai (List Key) V}(ok:HOk P w H h)(e:Aa (H a) (.dT kvs)):AL kvs.length/\Am (a == Zk6) /\
  ∃xs,KT H kvs xs/\h.DictOfH (Zsc (zar P w)) a xs:=zxt ok (.inl e)
end
noncomputable def DGet(H:Hp)(a:Addr)(y:V)(r:Option V):Prop :=
 (∃kvs k,Rd H a (.dK kvs)/\y=kV k/\r=valV kvs k) \/ ∃kvs k b,Rd H a (.dT kvs)/\y= .ref b/\Aa (H b) (.tup (k.map kV))/\r=valV kvs k
noncomputable def DPut(H:Hp)(a:Addr)(y v:V)(H':Hp):Prop :=
 (∃kvs k,Aa (H a) (.dK kvs)/\y=kV k/\kvs.length<sizeLine/\H'=upd H a (.dK (putK kvs k v))) \/
 ∃kvs k b,Aa (H a) (.dT kvs)/\y= .ref b/\Aa (H b) (.tup (k.map kV))/\kvs.length<sizeLine/\H'=upd H a (.dT (putK kvs k v))
theorem DGet.k{H:Hp}{a:Addr}{kvs:Ai Key V}{k:Key}(e:Aa (H a) (.dK kvs)):DGet H a (kV k) (valV kvs k):=.inl ⟨kvs,k,.inl e,rfl,rfl⟩
theorem DPut.k{H:Hp}{a:Addr}{kvs:Ai Key V}{k:Key}{v:V}(e:Aa (H a) (.dK kvs))(hl:kvs.length<sizeLine):DPut H a (kV k) v (upd H a (.dK (putK kvs k v))):=.inl ⟨kvs,k,e,rfl,hl,rfl⟩
section
variable{X:Cx}{pins:List (Addr×Obj)}{σ:St}{H:Hp}{s:Zgk}{a:Addr}{y v:V}{u r:Zgi}{o:Option V}{A:Zhk}{E:Zgi->Zgk->Prop}
theorem Inv.big(I:Ag H s):Zk6<s.heap.objs.size:=by
 have h:Zkp<s.heap.objs.size:=(I.mod.glob.keeps I.bk).lt
 exact Zx3 (by decide) h
theorem zu4{Q:Zgi->Ah}(hu:A.units+1<Zl2)(I:Ag H s)(g:DGet H a y (some v))(ry:RelV y u)(h:∀w' s',Ag H s'->RelV v w'->Q w' s') :
  AW X.w A (Zto Au u) Q E s:=by
 rcases g with ⟨kvs,k,e,ey,l⟩ | ⟨kvs,k,b,e,ey,eb,l⟩
 .subst ey
  obtain⟨z,hd,vs,rel,dd⟩:=zxo I.hok e
  obtain⟨w',hw,rw'⟩:=RelO.some_of (v:=v) (o:=Zq3 vs k) (by rw[l];exact rel.val k)
  exact Zxi (zsq ry) dd.mapOf hw (h w' _ (I.tok _) rw')
 .subst ey
  cases (show u=Zh3 b from ry)
  obtain⟨z,hd,xs,rel,dd⟩:=zxt I.hok e
  obtain⟨w',hw,rw'⟩:=RelO.some_of (v:=v) (o:=(Zvi xs k).map (·.2)) (by rw[l];exact rel.val k)
  obtain⟨p,hp,hp2⟩:=Option.map_eq_some_iff.mp hw
  refine wpAny_getItem_heap (Zqi hu) (zqs I.hok eb) dd hp ?_
  rw[hp2]
  exact h w' _ (I.tok _) rw'
theorem yak{Q:Zgi->Ah}(hu:A.units+1<Zl2)(I:Ag H s)(g:DGet H a y o)(ry:RelV y u)(h:∀s',Ag H s'->Q (.bool (!o.isSome)) s') :
  AW X.w A (Zjz .NotIn u Au) Q E s:=by
 rcases g with ⟨kvs,k,e,ey,l⟩ | ⟨kvs,k,b,e,ey,eb,l⟩
 .subst ey
  obtain⟨z,hd,vs,rel,dd⟩:=zxo I.hok e
  refine Zyt (zsq ry) hd dd.mapOf ?_
  rw[<- (rel.val k).isSome_eq,<- l]
  exact h _ (I.tok _)
 .subst ey
  cases (show u=Zh3 b from ry)
  obtain⟨z,hd,xs,rel,dd⟩:=zxt I.hok e
  refine wpAny_notIn_heap (Zqi hu) (zqs I.hok eb) hd dd ?_
  have q:=(rel.val k).isSome_eq
  rw[Ztb] at q
  rw[<- q,<- l]
  exact h _ (I.tok _)
theorem zwb{h':Heap}{t':Nat}{ob:HO}(I:Ag H s)(mu:Mut (H a))(hs:Zhq a s.heap h')(he:∃q,AU a q)(new:zdb X.prog X.w (upd H a ob) h' a ob) :
  BV (upd H a ob) :=
 I.write (x:=a) (e:=a) mu Be (fun b q hb z=>(hs.2 b hb).trans z) he new
theorem yfa{P:Zg8}{w:Zhy}{H':Hp}{h':Heap}{kvs:Ai Key V}{vs:Ai Key Zgi}(z:AL kvs.length)(hd:Am (a == Zk6))(rel:KV kvs vs)(dd:h'.DictOf (zar P w) a vs) :
  zdb P w H' h' a (.dK kvs):=⟨z,hd,vs,rel,dd⟩
theorem zvo{H':Hp}{Q:Unit->Ah}(hu:A.units+1<Zl2)(I:Ag H s)(g:DPut H a y v H')(ry:RelV y u)(rv:RelV v r)(h:∀s',Ag H' s'->Q () s') :
  AW X.w A (setItem Au u r) Q E s:=by
 rcases g with ⟨kvs,k,e,ey,l,eH⟩ | ⟨kvs,k,b,e,ey,eb,l,eH⟩
 .subst ey eH
  obtain⟨z,hd,vs,rel,dd⟩:=yfq I.hok e
  have hz:AL vs.length:=by rw[<- rel.length];exact z
  have hl:AL (putK kvs k v).length:=by have:=zjz kvs k v;omega
  refine wpAny_setItem_pairs (hsz:=hz) (zsq ry) dd fun h' dd' hs=>h _ ?_
  have he:∃q,AU a q:=let ⟨q,_,_,hq,_⟩:=dd';⟨q,hq⟩
  exact zwb I (by rw[e];exact Zoe) hs he (yfa hl hd (rel.put k rv) dd')
 .subst ey eH
  cases (show u=Zh3 b from ry)
  obtain⟨z,hd,xs,rel,dd⟩:=yfr I.hok e
  have hz:AL xs.length:=by rw[<- Zrm rel];exact z
  have hl:AL (putK kvs k v).length:=by have:=zjz kvs k v;omega
  refine wpAny_setItem_heap (hsz:=hz) (Zqi hu) (zqs I.hok eb) dd fun h' dd' hs=>h _ ?_
  obtain⟨q,es,ep,hq,h2,h3,h4,_,h5⟩:=dd'
  refine zwb I (by rw[e];exact Zoe) hs ⟨q,hq⟩ ⟨hl,hd,_,(rel.put k eb rv).keeps fun c ys ec=>?_,q,es,ep,hq,h2,h3,h4,h5⟩
  rw[zal (yfu ec e (fun z=>nomatch z))]
  exact ec
end
noncomputable def NoSl(i:Expr):Prop:=∀ov iv,Zsd i false ov iv=operate [ov,iv] (Zto ov iv)
theorem zue{prog:Zg8}{w:Zhy}{A:Zhk}{E:Zgi->Ah}{s:Zgk}{env:Env}{value slice:Expr}{pos:Pos}{T id:String}{Q:Zgi->Ah}
  (hl:Zwm (.type T) "__getitem__" = pure (some (.builtin id))) (hs:NoSl slice)
  (h:An w A (eval value env) (fun o s₁=>An w A (eval slice env) (fun i s₂=>s₂.TypeIs o T/\An w A (Zto o i) Q E s₂) E s₁) E s) :
  An w A (eval (.Subscript value slice pos) env) Q E s:=by
 refine Zwz (Zif h (fun o s₁ h₁=>Zif h₁ (fun i s₂ h₂=>?_) fun _ _ x=>x) fun _ _ x=>x)
 obtain⟨hT,h₂⟩:=h₂
 unfold Ztl
 refine Zge ?_
 rw[getitemInPython_of_ne hT.not_modules]
 refine Zge (Zne hT hl ?_)
 have fin:An w A (Zsd slice false o i) (fun r s₃=>An w A (letTemporaryGo value o r >>= fun _=>pure r) Q E s₃) E s₂:=by
  rw[hs o i]
  exact wpAny_operating (Zif h₂ (fun r s₃ h₃=>Zge (wpAny_letTemporaryGo (Zgj h₃))) fun _ _ x=>x)
 first
  | exact Zgj (Zge fin)
  | exact Ba (Zge fin)
  | exact Zge fin
theorem zpn{X:Cx}{pins:AJ Obj}{σ:St}{H:Hp}{s:Zgk}{a:Addr}{y:V}{o:Option V}(I:Ag H s)(g:DGet H a y o):s.TypeIs Au "dict" := by
 rcases g with ⟨kvs,k,e,_,_⟩ | ⟨kvs,k,b,e,_,_,_⟩
 .obtain⟨_,_,vs,_,dd⟩:=zxo I.hok e
  exact dd.typeIs
 .obtain⟨_,_,xs,_,dd⟩:=zxt I.hok e
  exact dd.typeIs
noncomputable def yeo(td ty:TE):TE:=fun σ H Q=>td σ H fun x H1=>ty σ H1 fun y H2=>∃a v,x= Au/\DGet H2 a y (some v)/\Q v H2
noncomputable def zs0(ty td:TE):TE:=fun σ H Q=>ty σ H fun y H1=>td σ H1 fun x H2=>∃a o,x= Au/\DGet H2 a y o/\Q (.bl (!o.isSome)) H2
noncomputable def yc9(td ty tv:TE):TS:=fun D σ H=>tv σ H fun v H1=>td σ H1 fun x H2=>ty σ H2 fun y H3=>∃a H4,x= Au/\DPut H3 a y v H4/\D.nx σ H4
section
variable{X:Cx}{o i e value:Expr}{pos pos' tpos:Pos}{td ty tv:TE}
theorem zlu(hu:X.A.units+1<Zl2)(ho:PE X o td)(hi:PE X i ty)(hs:NoSl i):PE X (.Subscript o i pos) (yeo td ty):=by
 intro pins s σ H Q I h
 refine zue Zqn.lookup hs (thn (ho pins s σ H _ I h) fun u s1 ⟨x,H1,I1,rx,q1⟩=>thn (hi pins s1 σ H1 _ I1 q1) fun iv s2 hz9=>?_)
 obtain⟨y,H2,I2,ry,a,v,ex,g,q2⟩:=hz9
 subst ex
 obtain rfl:u=Zh3 a:=rx
 exact⟨zpn I2 g,zu4 hu I2 g ry fun w' s3 I3 rw'=>⟨v,H2,I3,rw',q2⟩⟩
theorem ztg(hu:X.A.units+1<Zl2)(hi:PE X i ty)(ho:PE X o td):PC X .NotIn i o (zs0 ty td):=by
 intro pins s σ H Q I h
 refine thn (hi pins s σ H _ I h) fun iv s1 ⟨y,H1,I1,ry,q1⟩=>thn (ho pins s1 σ H1 _ I1 q1) fun u s2 hz9=>?_
 obtain⟨x,H2,I2,rx,a,ov,ex,g,q2⟩:=hz9
 subst ex
 obtain rfl:u=Zh3 a:=rx
 exact yak hu I2 g ry fun s3 I3=>⟨.bl (!ov.isSome),H2,I3,rfl,q2⟩
theorem ybu(hu:X.A.units+1<Zl2)(ho:PE X o td)(hi:PE X i ty)(hv:PE X value tv)(hs:Zo0 value (some (.Subscript o i pos')) pos.line X.env=pure false) :
  PS X (.Assign [.Subscript o i pos'] value pos) (yc9 td ty tv):=by
 intro pins s σ H D I h
 refine wpAny_Assign_Subscript (thn (hv pins s σ H _ I h) fun r s1 ⟨v,H1,I1,rv,q1⟩=>thn (ho pins s1 σ H1 _ I1 q1) fun u s2 ⟨x,H2,I2,rx,q2⟩=>thn (hi pins s2 σ H2 _ I2 q2) fun iv s3 hz9=>?_) hs
 obtain⟨y,H3,I3,ry,a,H4,ex,g,q3⟩:=hz9
 subst ex
 obtain rfl:u=Zh3 a:=rx
 exact zvo hu I3 g ry rv fun s4 I4=>⟨σ,H4,I4,q3⟩
end
theorem zy6{P:Zg8}{w:Zhy}{H:Hp}(h:Heap)(hb:Zk6<h.objs.size):zdb P w H (h.push (Bl "dict" (.dict #[]))) h.objs.size (.dK []) :=
 ⟨Zhr _,beq_eq_false_iff_ne.mpr (Zh1 (Zhb hb)),[],.nil,Zyp h⟩
noncomputable def yfd:TE:=fun _ H Q=>∀p,H p=none->Q AO (upd H p (.dK []))
section
variable{X:Cx}{pos:Pos}
theorem zyf:PE X (.Dict [] [] pos) yfd:=fun pins s σ H Q I h =>
 wpAny_Dict_empty ⟨Bz,_,I.laid (a:=s.heap.objs.size) (o:=.dK []) (t':=s.toks) (fun _ _ q=>Zgl _ q) Ay (zy6 s.heap I.big),rfl,h _ (I.hok.fresh Ay)⟩
end
structure M1(X:Cx)(o:Expr)(m:Str)(apos:Pos)(e:Expr)(cpos:Pos):Prop where
 base:Zm3 o m X.env (eval o X.env)=eval o X.env
 few:((Zlw cpos (Zh5 [e] X.env)).all (fun x=>!x.1)&&(Zmc cpos (Zkg [] X.env)).all (fun x=>x.1.isSome)
  && decide (([e]:List Expr).length+([]:List Zoi).length+(if ([]:List Zoi).isEmpty then 0 else 1)<30))=true
 line:(apos.endLine == cpos.line)=true
 trees:Zlw cpos (Zh5 [e] X.env)=[(false,eval e X.env)]
structure M2(X:Cx)(o:Expr)(m:Str)(apos:Pos)(e f:Expr)(cpos:Pos):Prop where
 base:Zm3 o m X.env (eval o X.env)=eval o X.env
 few:((Zlw cpos (Zh5 [e,f] X.env)).all (fun x=>!x.1)&&(Zmc cpos (Zkg [] X.env)).all (fun x=>x.1.isSome)
  && decide (([e,f]:List Expr).length+([]:List Zoi).length+(if ([]:List Zoi).isEmpty then 0 else 1)<30))=true
 line:(apos.endLine == cpos.line)=true
 trees:Zlw cpos (Zh5 [e,f] X.env)=[(false,eval e X.env),(false,eval f X.env)]
end L2
namespace L2
open PySem PySem.Spec PyProof.Rows PySem.Builtin PySem.Builtin.Str
noncomputable def T(l:Ac):Str:=⟨l.toArray⟩
theorem ze5(l:Ac):(T l).cps.toList=l:=by simp[T]
theorem zvq{a b:Ac}:T a=T b↔a=b:=by
 constructor
 .intro h
  have:=congrArg (fun x:Str=>x.cps.toList) h
  simpa[T] using this
 .rintro rfl;rfl
theorem zbw(l:Ac):(T l).length=l.length:=by simp[T,Zum]
theorem ybk(a b:Ac):T a++T b=T (a++b):=by
 show Zy2 (T a) (T b)=_
 simp[Zy2,T]
theorem zmj(a b:Ac):AC (V.str (T a)) (V.str (T b))=AC a b:=by
 by_cases h:a=b
 .subst h;simp
 .rw[decide_eq_false h,decide_eq_false]
  intro q;injection q with q;exact h (zvq.mp q)
noncomputable def cutL(xs:Ac)(lo hi:Bt):Ac:=(xs.drop (HT.sIx xs.length 0 lo)).take (HT.sIx xs.length xs.length hi - HT.sIx xs.length 0 lo)
theorem zht(lo hi:Bt)(n:Nat):strSliceIndices lo hi 1 n=(Zhi (HT.sIx n n hi - HT.sIx n 0 lo)).map (HT.sIx n 0 lo + ·):=by
 have h1:(1:Int)>0:=by decide
 have a:∀(v:Int) (d:Nat),max 0 (min (if v<0 then v+(n:Int) else v) (n:Int))=((HT.sIx n d (some v):Nat):Int):=by
  intro v d
  show _=(((if v<0 then (v+(n:Int)).toNat else min v.toNat n):Nat):Int)
  by_cases hv:v<0
  .simp only[if_pos hv];lia
  .simp only[if_neg hv];lia
 have key:∀(p q:Nat),sliceRange (p:Int) (q:Int) 1=(Zhi (q - p)).map (p + ·):=by
  intro p q
  unfold sliceRange
  simp only[h1,if_true]
  have e:(if (p:Int)<(q:Int) then ((q:Int) - p+1 - 1) / 1 else 0).toNat=q - p:=by
   split <;> lia
  rw[e]
  refine Zow fun k _=>?_
  lia
 unfold strSliceIndices
 simp only[h1,if_true]
 cases lo with
 | none =>
  cases hi with
  | none=>exact key 0 n
  | some v=>dsimp only;rw[a v n];exact key 0 _
 | some u =>
  cases hi with
  | none=>dsimp only;rw[a u 0];exact key _ n
  | some v=>dsimp only;rw[a u 0,a v n];exact key _ _
theorem zuk(n:Nat)(o:Bt):HT.sIx n n o<=n:=HT.sIx_le n n Ay o
theorem zvp(x:Ac)(lo hi:Bt):Zsz (T x) lo hi=T (cutL x lo hi):=by
 have hlen:(T x).length=x.length:=zbw x
 have hle:=zuk x.length hi
 have e:(strSliceIndices lo hi 1 (T x).length).filterMap ((T x).cps[·]?)=cutL x lo hi:=by
  rw[zht,hlen]
  unfold cutL
  generalize hp:HT.sIx x.length 0 lo=p
  generalize HT.sIx x.length x.length hi=q at hle ⊢
  by_cases hpq:p<=q
  .have:=StrLaws.picks x (q - p) p (by lia)
   rw[<- this]
   simp[T]
  .have:q - p=0:=by lia
   rw[this];simp
 unfold Zsz
 split
 .rename_i h
  have h2:(strSliceIndices lo hi 1 (T x).length).length=(T x).length:=by
   simp only[Zhe,beq_iff_eq] at h;exact h.2
  rw[zht,hlen,Zgn,Znm] at h2
  have h3:HT.sIx x.length 0 lo<=x.length:=HT.sIx_le _ 0 (Zhr _) lo
  unfold cutL
  by_cases hx:x.length=0
  .have:x=[]:=Zi9 hx
   subst this;simp
  .have e1:HT.sIx x.length 0 lo=0:=by lia
   have e2:HT.sIx x.length x.length hi=x.length:=by lia
   rw[e1,e2];simp
 .rw[e];rfl
section
variable{X:Cx}
theorem zjh:∀(l:Ai Str Tok),Vals ((l.map (·.1)).map V.str) (Zye l)
 | []=>.nil
 | p::r=>.cons (AF p.2) (zjh r)
theorem zjq:∀{ys:Al} {us:Ar},Vals (ys.map V.str) us->StrsAre us ys
 | [],_,h=>by cases h;exact .nil
 | y::r,_,h=>by
  cases h with
  | cons a b =>
   obtain⟨t,rfl⟩:=a
   exact .cons y t (zjq b)
noncomputable def zz1:V->Ao->Hp->Af VK:=fun x vs H Q=>∃z y,x= .str z/\vs=[.str y]/\Am (y.length == 0)/\AL (z.length+2) /\ ∀p,H p=none->Q AO (upd H p (.lst ((Zpk z y).map V.str)))
theorem zwv(x y:Str):(Zpk x y).length<=x.length+2:=by
 unfold Zpk
 split
 .simp
 .split
  .simp
  .rw[Zvf]
   have:=Zrx x y 0 x.length (x.length+1)
   lia
theorem zlf:MtR X "str.split" zz1:=by
 intro pins s σ H x xs v us Q I rx rs h
 obtain⟨z,y,rfl,rfl,hy,hz,q⟩:=h
 obtain⟨t,rfl⟩:=rx
 obtain⟨u,rfl,ru⟩:=Vals.one rs
 obtain⟨u,rfl⟩:=ru
 have hlen:=zwv z y
 have fin:∀(l:Ai Str Tok) (k:Nat),l.map (·.1)=Zpk z y ->
   EP X pins σ Q Bz { s with heap:=BD "list" (.seq (Zye l).toArray),toks:=k }:=fun l k e=>by
  have v1:=zjh l
  rw[e] at v1
  exact⟨Bz,_,I.lnew v1 (by rw[Zgn];lia),rfl,q _ I.fresh⟩
 have hn:AL (partsBetween z (occurrences z y 0 z.length (z.length+1)) y.length).length:=by
  have e1:=Zrx z y 0 z.length (z.length+1)
  rw[Zvf];lia
 cases h1:(decide (z.length<y.length)||decide (strKind z<strKind y))
 .cases hf:(occurrences z y 0 z.length (z.length+1)).isEmpty
  .refine Zn3 Zjj (Zj2 _ _ _) Zlk (Zp4 _ _) (meets_str_split_sep z y t u h1 hy hf (by lia) hn) ?_
   show wants (EP X pins σ Q) X.xe _ { s with toks:=_,heap:=BD "list" (.seq (strsFrom s.toks (partsBetween z (occurrences z y 0 z.length (z.length+1)) y.length)).toArray) }
   rw[strsFrom_eq]
   exact fin (numbered s.toks _) _ ((Zyy _ _).trans ((if_neg (ne_true_of_eq_false h1)).trans (if_neg (ne_true_of_eq_false hf))).symm)
  .exact Zn3 Zjj (Zj2 _ _ _) Zlk (Zp4 _ _) (meets_str_split_not_found z y t u h1 hy hf)
    (fin [(z,t)] s.toks ((if_neg (ne_true_of_eq_false h1)).trans (if_pos hf)).symm)
 .exact Zn3 Zjj (Zj2 _ _ _) Zlk (Zp4 _ _) (meets_str_split_cannot_occur z y t u h1)
   (fin [(z,t)] s.toks (if_pos h1).symm)
noncomputable def ybq(K:Zgh):V->Ao->Hp->Af VK:=fun x vs H Q=>∃z p ys,x= .str z/\vs=[AO]/\SqL K H p (ys.map V.str)/\(ys.map (·.length)).sum+ys.length*z.length<=16777216/\Q (.str (Zqq z ys)) H
theorem zla:MtR X "str.join" (ybq X.K):=by
 intro pins s σ H x xs v us Q I rx rs h
 obtain⟨z,p,ys,rfl,rfl,hl,hz,q⟩:=h
 obtain⟨t,rfl⟩:=rx
 obtain⟨u,rfl,ru⟩:=Vals.one rs
 cases ru
 obtain⟨its,r,pl,_⟩:=I.list hl
 refine join_list pl.isList (ys:=ys) (by simpa using zjq r) hz fun t' k=>⟨.str _,H,I.tok _,⟨_,by show _=Zo6 (Zqq z ys) t';rw[<- Zry];rfl⟩,q⟩
noncomputable def yej:V->Ao->Hp->Af VK:=fun x vs H Q=>∃z y,x= .str z/\vs=[.str y]/\Q (.int (Zqp z y)) H
theorem zua:MtR X "str.find" yej:=by
 intro pins s σ H x xs v us Q I rx rs h
 obtain⟨z,y,rfl,rfl,q⟩:=h
 obtain⟨t,rfl⟩:=rx
 obtain⟨u,rfl,ru⟩:=Vals.one rs
 obtain⟨u,rfl⟩:=ru
 exact SC.find ⟨.int _,H,I.tok _,(AF _),q⟩
noncomputable def rSlS:V->Bt->Bt->Hp->Af VK:=fun x lo hi H Q=>∃l,x= .str (T l)/\AL l.length/\Q (.str (T (cutL l lo hi))) H
theorem zzt:SlR X rSlS:=by
 intro pins s σ H x v vl vu lo hi sl Q I rx hs pl pu h
 obtain⟨l,rfl,hz,q⟩:=h
 obtain⟨t,rfl⟩:=rx
 refine⟨"str", _,F.slot_str_getitem.lookup,Zj2 _ _ _,?_⟩
 have hz':AL (T l).length:=by rw[zbw];exact hz
 have fin:AL (Zsz (T l) lo hi).length /\ ∀t' k,EP X pins σ Q (.str (Zsz (T l) lo hi) t') { s with toks:=k } :=
  ⟨Zi6 (Txt.slice_le _ _ _) hz',fun t' k=>⟨.str _,H,I.tok _,⟨_,by rw[zvp]⟩,q⟩⟩
 obtain⟨o,ho,hc,hd⟩:=hs
 cases pl with
 | none =>
  cases pu with
  | none=>exact Zma (l:=none) (u:=none) (st:=none) ⟨o,ho,hc,hd⟩ rfl (Zo1 fin)
  | int j uj=>exact Zma (l:=none) (u:=some (j,uj)) (st:=none) ⟨o,ho,hc,hd⟩ rfl (Zo1 fin)
 | int i ui =>
  cases pu with
  | none=>exact Zma (l:=some (i,ui)) (u:=none) (st:=none) ⟨o,ho,hc,hd⟩ rfl (Zo1 fin)
  | int j uj=>exact Zma (l:=some (i,ui)) (u:=some (j,uj)) (st:=none) ⟨o,ho,hc,hd⟩ rfl (Zo1 fin)
end
noncomputable def Its(x:Str):It:=⟨fun i _=>i<x.cps.toList.length,fun i H v H'=>H'=H /\ ∃c,Ak x.cps.toList c/\v= .str (T [c]),fun i _=>x.cps.toList.length<=i⟩
theorem zoj{P:Zg8}{w:Zhy}{K:Zgh}{tg:Expr}{it:Addr}{n:Nat}{R:Nat->Af Zgi}{St:Nat->Af Heap}{J:It}
  (W:∀A':Zhk,A'.handled=none->Zvj P w A' it [it] [it] n R St) (hself:∀(A':Zhk) (i:Nat) (s:Zgk) (Q:Zgi->Ah) (E:Zgi->Ah),St i s.heap->Q (.ref it) s->Zg1 (Zg3 P w) A' (Zui (.ref it)) Q E s) (ho:∀i h,St i h-> ∃o T vs,A0 it o/\o.cls= .type T/\o.data= .fields vs/\Am (["enumerate", "zip", "dict_itemiterator", "dict_reverseitemiterator", "odict_iterator", "itertools.zip_longest", "itertools.pairwise"].contains T))
  (hgo:∀i H,J.go i H->i<n) (hst:∀i H,J.stop i H->n<=i) (hy:∀i v H,i<n->R i v-> ∃x,RelV x v/\J.yld i H x H):Turn P w K tg J [it] it (fun i h=>i<=n/\St i h) where
 mem:=by simp
 obj:=fun i h st b hb=>by
  have e:b=it:=by simpa using hb
  subst e
  obtain⟨o,T,vs,e,c,d,_⟩:=ho i h st.2
  exact⟨o,e,fun v z=>by rw[d] at z;cases z⟩
 keep:=fun i h h' st k=>⟨st.1,by
  have W0:=W ({}:Zhk) rfl
  exact W0.frame i h h' st.2 fun b hb o e=>k b hb o e⟩
 item:=by
  intro X hP hw hK hc i pins s σ H E I hf st hg
  subst hP hw hK
  obtain⟨f0,f1,f2,f3,f4,f5⟩:=hf it (by simp)
  have hi:=hgo i H hg
  refine(W X.A (I.ok.hd hc)).item i s _ _ hi st.2 fun v h' tk hv st' kk=>?_
  obtain⟨x,rx,yx⟩:=hy i v H hi hv
  have I1:Ag H { s with heap:=h',toks:=tk }:=I.turned (fun b o hb e=>kk b o (by simpa using hb) e) f0 f1 f3 f4 f5
  obtain⟨o,T,vs,e,c,d,nz⟩:=ho _ _ st'
  exact(Aw v (ybd (s:={ s with heap:=h',toks:=tk }) (n:=T) e c d nz ⟨x,H,I1,rx,yx,⟨hi,st'⟩,fun b hb=>(hf b hb).1⟩))
 done:=by
  intro X hP hw hK hc i pins s σ H E I hf st hg
  subst hP hw hK
  obtain⟨f0,f1,f2,f3,f4,f5⟩:=hf it (by simp)
  have e:i=n:=Nat.le_antisymm st.1 (hst i H hg)
  subst e
  exact(W X.A (I.ok.hd hc)).done s _ _ st.2 fun h' tk kk=>⟨rfl,I.turned (fun b o hb e=>kk b o (by simpa using hb) e) f0 f1 f3 f4 f5⟩
 self:=fun A i s Q E st h=>hself A i s Q E st.2 h
section
variable{X:Cx}{tg:Expr}
noncomputable def iStr(tl:TE):TI:=fun σ H R=>tl σ H fun x H1=>∃z,x= .str z/\R (Its z) H1
theorem zqd{l:Expr}{tl:TE}(hl:PE X l tl):PI X tg l (iStr tl):=by
 intro pins s σ H R I h
 refine thn (hl pins s σ H _ I h) fun v s1 hz9=>?_
 obtain⟨x,H1,I1,r1,q1⟩:=hz9
 obtain⟨z,e,q⟩:=q1
 subst e
 obtain⟨t,rfl⟩:=r1
 have fin:∀(o:Obj) (St:Nat->Af Heap),Turn X.prog X.w X.K tg (Its z) [s1.heap.objs.size] s1.heap.objs.size (fun i h=>i<=z.cps.size/\St i h)->St 0 (s1.heap.push o) ->
   PIE X pins σ tg R (.ref s1.heap.objs.size) { s1 with heap:=s1.heap.push o }:=fun o St Tn st=>by
  refine⟨s1.heap.objs.size,[s1.heap.objs.size],_,_,H1,rfl,I1.kept (t':=s1.toks) fun b o e=>Zgl _ e,Tn,⟨Zhr _,st⟩,fun b hb=>?_,q⟩
  have e:b=s1.heap.objs.size:=by simpa using hb
  subst e
  exact I1.fpOk Ay (I1.hok.fresh Ay)
 have hgo:∀i H,(Its z).go i H->i<z.cps.size:=fun i _ h=>by simpa[Its] using h
 have hst:∀i H,(Its z).stop i H->z.cps.size<=i:=fun i _ h=>by simpa[Its] using h
 have hy:∀i v H,i<z.cps.size->SignAt z i v-> ∃x,RelV x v/\(Its z).yld i H x H:=fun i v H hi ⟨c,u,hc,e⟩=>by
  subst e
  exact⟨.str (T [c]),(AF u),rfl,c,by simpa using hc,rfl⟩
 cases ha:z.cps.all (· < 128)
 .refine wpAny_pyIter_wide ha (fin _ _ (zoj (n:=z.cps.size) (R:=SignAt z) (St:=fun i h=>h.IsStrIter s1.heap.objs.size "str_iterator" z t i) (fun A' hA=>Walks.strWide hA _ z t) (fun _ _ _ _ _ st q=>wpAny_pyIter_striter_wide st q) (fun i h st=>?_) hgo hst hy) (AM _ (Zgx _ rfl) rfl))
  obtain⟨o,e,c,d⟩:=st
  exact⟨o,_,_,e,c,d,by decide⟩
 .refine wpAny_pyIter_ascii ha (fin _ _ (zoj (n:=z.cps.size) (R:=SignAt z) (St:=fun i h=>h.IsStrIter s1.heap.objs.size "str_ascii_iterator" z t i) (fun A' hA=>Walks.strAscii hA _ z t) (fun _ _ _ _ _ st q=>wpAny_pyIter_striter_ascii st q) (fun i h st=>?_) hgo hst hy) (AM _ (Zgx _ rfl) rfl))
  obtain⟨o,e,c,d⟩:=st
  exact⟨o,_,_,e,c,d,by decide⟩
end
end L2
namespace L2
open PySem PySem.Spec PyProof.Rows
noncomputable def clos(cells:Ai Str Addr):Ai Str Zh8->Ai Str Addr->Ai Str Addr
 | [],acc=>acc
 | (n,k)::r,acc=>if k == .free then (match cells.lookup n with | some c=>clos cells r ((n,c)::acc) | none=>clos cells r acc) else clos cells r acc
theorem zim{cells:Ai Str Addr}:∀(names:Ai Str Zh8) (acc:Ai Str Addr),(∀x c,Aa (acc.lookup x) c->Aa (cells.lookup x) c)-> ∀x c,Aa ((clos cells names acc).lookup x) c->Aa (cells.lookup x) c
 | [],_,h=>h
 | (n,k)::r,acc,h=>by
  intro x c
  unfold clos
  split
  .cases e:cells.lookup n with
   | none=>exact zim r acc h x c
   | some d =>
    refine zim r _ (fun y z hy=>?_) x c
    rw[Zi0] at hy
    cases q:y == n with
    | true =>
     rw[q] at hy
     have:y=n:=by simpa using q
     subst this
     simpa[e] using hy
    | false=>rw[q] at hy;exact h y z hy
  .exact zim r acc h x c
theorem zij{cells:Ai Str Addr}:∀(names:Ai Str Zh8) (acc:Ai Str Addr) (x:Str),Ab (acc.lookup x).isSome->Ab ((clos cells names acc).lookup x).isSome
 | [],_,_,h=>h
 | (n,k)::r,acc,x,h=>by
  unfold clos
  split
  .cases e:cells.lookup n with
   | none=>exact zij r acc x h
   | some d =>
    refine zij r _ x ?_
    rw[Zi0]
    cases q:x == n with
    | true=>rfl
    | false=>exact h
  .exact zij r acc x h
theorem zif{cells:Ai Str Addr}:∀(names:Ai Str Zh8) (acc:Ai Str Addr) (x:Str),(x,Zh4)∈names->Ab (cells.lookup x).isSome->Ab ((clos cells names acc).lookup x).isSome
 | (n,k)::r,acc,x,hm,hs=>by
  unfold clos
  rcases Zgp.mp hm with e | hm
  .cases e
   simp only[beq_self_eq_true,if_true]
   obtain⟨c,hc⟩:=Zkj.mp hs
   rw[hc]
   refine zij r _ _ ?_
   simp[Zi0]
  .split
   .cases e:cells.lookup n with
    | none=>exact zif r acc x hm hs
    | some d=>exact zif r _ x hm hs
   .exact zif r acc x hm hs
theorem zr0{scope:Scope}{env:Env}(h:∀x,(x,Zh4)∈scope.names->Ab (env.cells.lookup x).isSome):closureFor scope env=pure (clos env.cells scope.names []):=by
 have gen:∀(names:Ai Str Zh8) (acc:Ai Str Addr),(∀x,(x,Zh4)∈names->Ab (env.cells.lookup x).isSome) ->
   (Zsy names acc (fun(p:Str×Zh8) (r:List (Str×Addr))=>(if p.2 == Zh4 then (do let c <- cellOf env p.1;pure (Zlp ((p.1,c)::r))) else pure (Zlp r):Sem (ForInStep (Ai Str Addr)))))=pure (clos env.cells names acc):=by
  intro names
  induction names with
  | nil=>intro acc _;rfl
  | cons p r ih =>
   obtain⟨n,k⟩:=p
   intro acc hh
   rw[Zk8]
   unfold clos
   cases hk:k == Zh4 with
   | false =>
    simp only[hk,Zgw,if_false]
    exact ih acc fun x hx=>hh x (Zgq _ hx)
   | true =>
    have hk':k= .free:=by simpa using hk
    subst hk'
    obtain⟨c,hc⟩:=Zkj.mp (hh n Zgz)
    have e:cellOf env n=pure c:=by unfold cellOf;rw[hc]
    simp only[beq_self_eq_true,if_true,e,hc]
    exact ih _ fun x hx=>hh x (Zgq _ hx)
 exact(congrArg (fun(m:Sem (List (Str×Addr)))=>m >>= fun cs=>pure cs) (gen scope.names [] h)).trans rfl
noncomputable def lcS(nt:Nat)(cs:Ac)(σ:St):St:=Zir nt none++cs.map fun i=>(σ[i]?).getD none
noncomputable def lcCx(X:Cx)(N':Al)(scope:Scope)(s:Zgk)(H:Hp)(C:Addr)(fp:List Addr):Cx :=
 { X with N:=N',s₀:=s,Hz:=H,env:=Zzj scope (clos X.env.cells scope.names []) C X.env,outer:=X.stack,stack:=X.stack,ex:=fp,fn:=fun _=>false,pn:=[],xe:=fun _ _=>False }
noncomputable def lcOk(Nx:Al)(sc scope:Scope)(N':Al)(nt:Nat)(cs:Ac):Bool :=
 decide (scope.kind= .function)&&(scope.names.all fun p=>match p.2 with
  | .cell=>false
  | .local=>decide (Aa (scope.names.lookup p.1) .local)
  | .free=>decide (Aa (sc.names.lookup p.1) .cell)||decide (Aa (sc.names.lookup p.1) .free)
  | _=>true)&&AC N'.length (nt+cs.length)&&(((N'.drop nt).zip cs).all fun p=>decide (Ax Nx p.2 p.1)&&decide (Aa (scope.names.lookup p.1) .free)&&(decide (Aa (sc.names.lookup p.1) .cell)||decide (Aa (sc.names.lookup p.1) .free)))
structure LcOk(X:Cx)(scope:Scope)(N':List Str)(nt:Nat)(cs:List Nat):Prop where
 kind:scope.kind= .function
 nocell:∀y∈scope.names,y.2 ≠ .cell
 loc:∀y∈scope.names,y.2= .local->scope.names.lookup y.1=some .local
 fr:∀x,(x,Zh4)∈scope.names->X.env.kindOf x=some .cell\/X.env.kindOf x=some .free
 len:N'.length=nt+cs.length
 cap:∀j i,cs[j]? = some i-> ∃x,N'[nt+j]? = some x/\X.N[i]? = some x/\scope.names.lookup x=some .free/\Vis X.env.scope x/\X.env.kindOf x≠some .local
theorem LcOk.of{X:Cx}{scope:Scope}{N':Al}{nt:Nat}{cs:Ac}{Nx:Al}{sc:Scope}(hN:X.N=Nx)(hs:X.env.scope=sc)(h:Ab (lcOk Nx sc scope N' nt cs)):LcOk X scope N' nt cs:=by
 subst hN hs
 unfold lcOk at h
 simp only[Zhe,decide_eq_true_eq,Zja] at h
 obtain⟨⟨⟨h1,h2⟩,h3⟩,h4⟩:=h
 refine⟨h1,fun y hy e=>?_,fun y hy e=>?_,fun x hx=>?_,h3,fun j i e=>?_⟩
 .have:=h2 y hy;rw[e] at this;exact Zhs this
 .have:=h2 y hy;rw[e] at this;exact of_decide_eq_true this
 .have:=h2 _ hx
  simp only[Zq1,decide_eq_true_eq] at this
  exact this
 .have hj:j<cs.length:=(Zgo.mp e).1
  have hd:(N'.drop nt).length=cs.length:=by rw[Zlo,h3];lia
  have hx:Ax (N'.drop nt) j ((N'.drop nt)[j]'(by lia)):=by simp[hd,hj]
  generalize (N'.drop nt)[j]'(by lia)=x at hx
  have hz:(x,i)∈(N'.drop nt).zip cs:=by
   refine Zgs (i:=j) ?_
   rw[Zrq]
   exact⟨hx,e⟩
  have q:=h4 _ hz
  simp only[Zhe,Zq1,decide_eq_true_eq] at q
  refine⟨x,by rw[Zk2] at hx;exact hx,q.1.1,q.1.2,?_,fun z=>?_⟩
  .exact q.2.elim (fun z=>.inr (.inl z)) fun z=>.inr (.inr z)
  .have z':Aa (X.env.scope.names.lookup x) .local:=z
   rcases q.2 with y | y <;> · rw[z'] at y;cases y
theorem zh0{env:Env}:∀{names:Ai Str Zh8} {x:Str},Aa (names.lookup x) .free ->
  Aa ((names.map fun(n,k)=>if (k == Zh4&&env.scope.kind == .function&&env.kindOf n == some .cell) then (n,Zlr) else (n,k)).lookup x) .cell \/
  Aa ((names.map fun(n,k)=>if (k == Zh4&&env.scope.kind == .function&&env.kindOf n == some .cell) then (n,Zlr) else (n,k)).lookup x) .free
 | [],_,h=>by simp at h
 | (n,k)::r,x,h=>by
  have ih:=@zh0 env r x
  show Zj6 x ((BC (k == Zh4&&env.scope.kind == .function&&env.kindOf n == some .cell) (n,Zlr) (n,k))::_)=_\/Zj6 x ((BC (k == Zh4&&env.scope.kind == .function&&env.kindOf n == some .cell) (n,Zlr) (n,k))::_)=_
  cases hx:x == n with
  | true =>
   simp only[Zi0,hx] at h
   cases h
   by_cases hc:Ab (Zh4 == Zh4&&env.scope.kind == .function&&env.kindOf n == some .cell)
   .rw[if_pos hc];left;simp only[Zi0,hx]
   .rw[if_neg hc];right;simp only[Zi0,hx]
  | false =>
   simp only[Zi0,hx] at h
   by_cases hc:Ab (k == Zh4&&env.scope.kind == .function&&env.kindOf n == some .cell)
   .rw[if_pos hc];simp only[Zi0,hx];exact ih h
   .rw[if_neg hc];simp only[Zi0,hx];exact ih h
theorem zfh{env:Env}:∀{names:Ai Str Zh8} {x:Str} {q:Zh8},(∀y∈names,y.2 ≠ .cell)->(q= .cell\/q= .free) ->
  Aa ((names.map fun(n,k)=>if (k == Zh4&&env.scope.kind == .function&&env.kindOf n == some .cell) then (n,Zlr) else (n,k)).lookup x) q->(x,Zh4)∈names
 | [],_,_,_,_,h=>by simp at h
 | (n,k)::r,x,q,hn,hq,h=>by
  have ih:=@zfh env r x q (fun y hy=>hn y (Zgq _ hy)) hq
  have h':Aa (Zj6 x ((BC (k == Zh4&&env.scope.kind == .function&&env.kindOf n == some .cell) (n,Zlr) (n,k))::(r.map fun(n,k)=>if (k == Zh4&&env.scope.kind == .function&&env.kindOf n == some .cell) then (n,Zlr) else (n,k)))) q:=h
  cases hx:x == n with
  | true =>
   have e:x=n:=by simpa using hx
   subst e
   by_cases hc:Ab (k == Zh4&&env.scope.kind == .function&&env.kindOf x == some .cell)
   .simp only[Zhe,beq_iff_eq] at hc
    rw[hc.1.1];exact Zgz
   .rw[if_neg hc] at h'
    simp only[Zi0,beq_self_eq_true] at h'
    cases h'
    rcases hq with rfl | rfl
    .exact absurd rfl (hn (x,.cell) Zgz)
    .exact Zgz
  | false =>
   refine Zgq _ (ih ?_)
   by_cases hc:Ab (k == Zh4&&env.scope.kind == .function&&env.kindOf n == some .cell)
   .rw[if_pos hc] at h';simp only[Zi0,hx] at h';exact h'
   .rw[if_neg hc] at h';simp only[Zi0,hx] at h';exact h'
section
variable{X:Cx}{pins:List (Addr×Obj)}{σ:St}{H:Hp}{s s':Zgk}{scope:Scope}{N':List Str}{nt:Nat}{cs:List Nat}{C:Addr}{fp:List Addr}{h':Heap}{t':Nat}
theorem zxx(I:Ag H s)(L:LcOk X scope N' nt cs)(hf:∀b∈fp,FpOk X pins H b)(hC:s.heap.objs.size<=C)(k:∀b u,AH b u->AU b u)(hns:h'.Ns C fun _=>none)(fpo:∀b∈fp,b<s.heap.objs.size) :
  Inv (lcCx X N' scope s H C fp) [] (lcS nt cs σ) H { s with heap:=h',toks:=t' }:=by
 have hfree:H C=none:=I.hok.fresh hC
 have csub:∀x c,Aa ((clos X.env.cells scope.names []).lookup x) c->Aa (X.env.cells.lookup x) c:=zim _ _ fun x c h=>by simp at h
 have chas:∀x,(x,Zh4)∈scope.names->Ab ((clos X.env.cells scope.names []).lookup x).isSome:=fun x hx=>by
  refine zif _ _ x hx ?_
  obtain⟨c,e⟩:=I.ok.has x (L.fr x hx)
  rw[e];rfl
 have I4:BV H:=I.kept k
 refine⟨⟨I.ok.mod,L.kind,I.ok.glob,I.ok.blt,hC,fun x y c h1 h2=>I.ok.inj x y c (csub x c h1) (csub y c h2),fun x hx=>?_,fun x c hx=>(nomatch hx),I.ok.hd,I.ok.frames,Be,fun b hb=>⟨?_,fun x c e=>?_⟩,I.bs,Zi6 I.ok.bsz I.sz,fun b o e hb=>?_,fun b hb=>?_,I.stack,I.stkFree⟩,
  rfl,I.bare,Un.kept k,(AD hns (fun i x v e1 e2 e3=>?_)),fun x c e=>?_,hfree,fun x c e=>I.freeC x c (csub x c e),fun p hp=>absurd (show p∈([]:AJ Obj) from hp) (by simp),I4.hok,?_⟩
 .have hx':(x,Zh4)∈scope.names:=by
   rcases hx with hx | hx
   .exact zfh (env:=X.env) L.nocell Be hx
   .exact zfh (env:=X.env) L.nocell (.inr rfl) hx
  exact Zkj.mp (chas x hx')
 .exact Zhb (Zhd (fpo b hb) hC)
 .exact(hf b hb).2.2.2.2.1 x c (csub x c e)
 .obtain⟨f0,f1,f2,f3,_⟩:=hf b hb
  rcases f3 with z | z
  .exact I.ok.noex b o e z
  .exact absurd (Zhd (Zgv e) (Zi6 I.ok.bsz z)) (Zib _)
 .obtain⟨f0,f1,f2,f3,_⟩:=hf b hb
  intro z
  rcases Zgp.mp (I.stkSub b z) with q | q
  .exact f1 q
  .exact f2 q
 ·-- a captured name
  have e2':Ak (lcS nt cs σ) (some v):=e2
  unfold lcS at e2'
  by_cases hi:i<nt
  .rw[Zih (by simpa using hi),Zlz] at e2'
   split at e2' <;> cases e2'
  .rw[Zip (by simpa using hi),Zjr,Zgy] at e2'
   cases ej:cs[i - nt]? with
   | none=>rw[ej] at e2';cases e2'
   | some j =>
    rw[ej] at e2'
    have e2'':Aa ((σ[j]?).getD none) v:=Zim e2'
    have hσ:Ax σ j (some v):=by
     cases q:σ[j]? with
     | none=>rw[q] at e2'';cases e2''
     | some z=>rw[q] at e2'';exact congrArg some e2''
    obtain⟨y,y1,y2,y3,y4,y5⟩:=L.cap _ _ ej
    have hxy:x=y:=by
     have e1':Ak N' x:=e1
     rw[show nt+(i - nt)=i by lia,e1'] at y1
     exact Zim y1
    subst hxy
    obtain⟨m,hn,hl⟩:=I4.loc
    obtain⟨u,r,l⟩:=hl j x v y2 hσ y4
    refine⟨u,r,.inr ⟨zh0 (env:=X.env) y3,?_⟩⟩
    rcases l with ⟨l,_⟩ | ⟨_,c,hc,hcell⟩
    .exact absurd l y5
    .refine⟨c,?_,hcell⟩
     obtain⟨d,hd⟩:=Zkj.mp (chas x (Zks y3))
     have:=csub x d hd
     rw[hc] at this
     cases this
     exact hd
 .exact I4.cell x c (csub x c e)
 .show(lcS nt cs σ).length=N'.length
  unfold lcS
  rw[L.len];simp
theorem zxp{σ2:St}{H2:Hp}(I:Ag H s)(hf:∀b∈fp,FpOk X pins H b)(J:Inv (lcCx X N' scope s H C fp) [] σ2 H2 s'):Ag H2 s' :=
 I.call' (ch:=fp) J.os J.base J.hok J.bare fun b hb=>by
  obtain⟨f0,f1,f2,f3,f4,f5⟩:=hf b hb
  exact⟨f3,f1,f4,f5⟩
end
noncomputable def PIfs(X:Cx)(ifs:List Expr)(t:TT):Prop :=
 ∀(pins:AJ Obj) (s:Zgk) (σ:St) (H:Hp) (Q:Bool->Af Hp),Ag H s->t σ H Q ->
  AW X.w X.A (Zsy ifs true fun c r=>if Ab r then do let ok <- isTrue c X.env (Bh c);pure (Zlp ok) else pure (Zlp r)) (TP X pins σ Q) X.xe s
noncomputable def zsb:TT:=fun _ H Q=>Q true H
theorem zd7{X:Cx}:PIfs X [] zsb:=fun _ _ _ H _ I h=>wpAny_tests_nil ⟨H,I,h⟩
theorem zk7{X:Cx}{c:Expr}{t:TT}(h:PT X c t):PIfs X [c] t:=fun pins s σ H Q I hq=>wpAny_tests_one (h pins s σ H Q I hq)
noncomputable def LCG(nt:Nat)(cs:Ac)(g:TG)(tt:TT)(te:TE)(σ:St)(Q:VK)(J:It)(H1:Hp):Prop:=∀l,H1 l=none-> ∃W:Nat->Nat->Af Hp,(∃m,W 0 m (upd H1 l (.lst []))) /\ ∀i m H2,W i m H2 ->
 (J.stop i H2/\Q (.ref l) H2)\/(J.go i H2 /\ ∃N:Af Hp,(∀H',N H'-> ∃m',m'<m/\W (i+1) m' H') /\ ∀x H3,J.yld i H2 x H3->g x (lcS nt cs σ) H3 fun σ2 H4 =>
  (σ2.length=nt+cs.length/\σ2.drop nt=(lcS nt cs σ).drop nt)/\tt σ2 H4 fun b H5=>BC b (te σ2 H5 fun y H6=>∃xs,Aa (H6 l) (.lst xs)/\xs.length<sizeLine/\N (upd H6 l (.lst (xs++[y])))) (N H5))
noncomputable def tLC(nt:Nat)(cs:Ac)(wi:TI)(g:TG)(tt:TT)(te:TE):TE:=fun σ H Q=>wi σ H fun J H1=>LCG nt cs g tt te σ Q J H1
theorem yb0 {prog : Zg8} {w : Zhy} {A : Zhk} {R : Zyn -> Zgk -> Prop} {s : Zgk} {elt target iter : Expr} {ifs : List Expr} {scope : Scope} {pos : Pos} {it acc : Zgi} {env : Env} (I : Nat -> Zgk -> Prop)
  (turn:∀n s,I n s->An w A (Zok it) (fun r s₁=>match r with
   | none=>R (.ok .next) s₁
   | some v=>An w A (Zo2 target it v) (fun _ s₁'=>An w A (Zul target env v) (fun _ s₂ =>
     An w A (Zsy ifs true fun c r=>if Ab r then do let ok <- isTrue c env (eval c env);pure (Zlp ok) else pure (Zlp r)) (fun ok s₃ =>
      if Ab ok then An w A (eval elt env) (fun x s₄ =>
       An w A (call (.builtin "list.append") [acc,x]) (fun _ s₅=>∃m,m<n/\I m s₅) (fun _ _=>False) s₄) (fun _ _=>False) s₃
      else ∃m,m<n/\I m s₃) (fun _ _=>False) s₂) (fun _ _=>False) s₁') (fun _ _=>False) s₁) (fun _ _=>False) s)
  (n:Nat) (h:I n s):Zo3 (A3 w) A (.compLoop (.ListComp elt [⟨target,iter,ifs,0⟩] scope pos) 0 it acc env) R s:=by
 refine codeAny_loop rfl I (fun n s hI=>?_) n h
 show Zg1 _ A ((compTurn (.ListComp elt [⟨target,iter,ifs,0⟩] scope pos) 0 it acc env).onRaise (fun x=>do noteFrame x env;theTreesLotGoes x)) _ _ s
 refine wpAny_noted ?_
 rw[compTurn_list]
 refine Zge (Zob (Zge (Zif (turn n s hI) (fun r s₁ h₁=>?_) fun _ _ h'=>h'.elim)))
 cases r with
 | none=>exact Zgj h₁
 | some v =>
  refine Zge (Zif h₁ (fun _ s₁' h₁'=>?_) fun _ _ h'=>h'.elim)
  refine Zge (Zif h₁' (fun _ s₂ h₂=>Zge (Zif h₂ (fun ok s₃ h₃=>?_) fun _ _ h'=>h'.elim)) fun _ _ h'=>h'.elim)
  cases ok with
  | false=>exact Zgj ⟨rfl,h₃⟩
  | true =>
   exact Zge (Zge (Zif h₃ (fun x s₄ h₄=>Zge (Zif h₄ (fun _ s₅ h₅=>Zgj (Zgj ⟨rfl,h₅⟩)) fun _ _ h'=>h'.elim)) fun _ _ h'=>h'.elim))
section
variable{X:Cx}{elt target iter:Expr}{ifs:List Expr}{scope:Scope}{pos:Pos}{N':List Str}{nt:Nat}{cs:List Nat}{wi:TI}{g:TG}{tt:TT}{te:TE}
theorem zv8{use:Option (Zgi->Sem Unit)}{QQ:Zgi->Ah}{p2:Pos}(hc:Ab X.calm)(L:LcOk X scope N' nt cs)(hi:PI X target iter wi)
  (hg:∀s H C fp,PG (lcCx X N' scope s H C fp) target g) (ht:∀s H C fp,PIfs (lcCx X N' scope s H C fp) ifs tt) (he:∀s H C fp,PE (lcCx X N' scope s H C fp) elt te)
  {pins:AJ Obj} {s:Zgk} {σ:St} {H:Hp} {Q:VK} (I:Ag H s) (h:tLC nt cs wi g tt te σ H Q)
  (fin:∀(l:Addr) (H':Hp) (s':Zgk) (C:Addr),Ag H' s'->FpOk X pins H' C->(∃m,s'.heap.Ns C m)->Q (.ref l) H'->compPost (BY X.w) X.A X.xe use QQ (.ref l) C (.ok .next) s')
  (hs:∀x,Zn2 iter X.env x=pure x:=by intro _;rfl) :
  AW X.w X.A (Zzi (.ListComp elt [⟨target,iter,ifs,0⟩] scope pos) scope X.env p2 (newList []) false (Bh iter) use) QQ X.xe s:=by
 have hcl:closureFor scope X.env=pure (clos X.env.cells scope.names []):=zr0 fun x hx=>by
  obtain⟨c,e⟩:=I.ok.has x (L.fr x hx)
  rw[e];rfl
 refine wpAny_comprehension_free (env:=X.env) rfl hs hcl L.kind L.loc (thn (hi pins s σ H _ I h) fun v s1 h1=>thn h1 fun itv s2 h2=>?_)
 obtain⟨it,fp,tn,J,H1,e,I2,T,st2,f2,R⟩:=h2
 subst e
 refine Zjv ?_
 have hv:Vals [] ([]:Ar):=.nil
 have I3:=I2.lnew (t':=s2.toks) hv (Zhr _)
 have hfr:H1 s2.heap.objs.size=none:=I2.fresh
 have ne3:∀b∈fp,b≠s2.heap.objs.size:=fun b hb z=>by
  obtain⟨o,e,_⟩:=T.obj _ _ st2 b hb
  have:=Zgv e
  rw[z] at this
  exact Zib _ this
 have f3:∀b∈fp,FpOk X pins (upd H1 s2.heap.objs.size (.lst [])) b:=fun b hb=>⟨by rw[zal (ne3 b hb)];exact(f2 b hb).1,(f2 b hb).2⟩
 obtain⟨W,⟨m0,w0⟩,turn⟩:=R _ hfr
 refine wpAny_newFunctionEnv L.nocell (by intro y hy;simp at hy) (fun h4 hns hsb=>?_) L.kind
 dsimp only at hns hsb ⊢
 generalize hH3:s2.heap.push { cls:=.type "list", dict:=none,data:=.seq ([]:List Zgi).toArray }=h3 at hns hsb I3 ⊢
 have hsz3:h3.objs.size=s2.heap.objs.size+1:=by rw[<- hH3,Zhj]
 have up4:∀b u,Aa (h3.get? b) u->Aa (h4.get? b) u:=fun b u e=>hsb.extBut b u (Zhb (Zgv e)) (Zgl _ e)
 have fpo:∀b∈fp,b<h3.objs.size:=fun b hb=>by
  obtain⟨o,e,_⟩:=T.obj _ _ st2 b hb
  exact Zhd (Zgv e) (by rw[hsz3];exact Znv _)
 have up3:∀b u,Aa (s2.heap.get? b) u->Aa (h3.get? b) u:=fun b u e=>hH3 ▸ Zgl _ e
 have J4:Inv (lcCx X N' scope { s2 with heap:=h3 } (upd H1 s2.heap.objs.size (.lst [])) h3.objs.size fp) [] (lcS nt cs σ) (upd H1 s2.heap.objs.size (.lst [])) { s2 with heap:=h4,toks:=s2.toks+([]:Ai Str Zgi).length } :=
  zxx (t':=s2.toks+([]:Ai Str Zgi).length) I3 L f3 Ay up4 (by simpa using hns) fpo
 have st4:tn 0 h4:=T.keep _ _ _ st2 fun b hb o e=>up4 b o (up3 b o e)
 generalize hs3:({ s2 with heap:=h3 }:Zgk)=s3 at I3 J4
 generalize hX':lcCx X N' scope s3 (upd H1 s2.heap.objs.size (.lst [])) h3.objs.size fp=X' at J4
 have hg':PG X' target g:=hX' ▸ hg _ _ _ _
 have ht':PIfs X' ifs tt:=hX' ▸ ht _ _ _ _
 have he':PE X' elt te:=hX' ▸ he _ _ _ _
 have stat:∀{H':Hp},(∀b∈fp,H' b=none)-> ∀b∈fp,FpOk X' [] H' b:=fun hn b hb=>by
  subst hX'
  refine⟨hn b hb,Zhb (fpo b hb),J4.ok.exfs b hb,.inl hb,(J4.ok.exf b hb).2,fun p hp=>absurd (show p∈([]:AJ Obj) from hp) (by simp)⟩
 have loop : Zo3 (BY X.w) X.A (.compLoop (.ListComp elt [⟨target, iter, ifs, 0⟩] scope pos) 0 (.ref it) (.ref s2.heap.objs.size) (Zzj scope (clos X.env.cells scope.names []) h3.objs.size X.env))
   (compPost (BY X.w) X.A X.xe use QQ (.ref s2.heap.objs.size) h3.objs.size) { s2 with heap:=h4,toks:=s2.toks+([]:Ai Str Zgi).length }:=by
  have eA:X'.A=X.A:=by subst hX';rfl
  have eP:X'.prog=X.prog:=by subst hX';rfl
  have eW:X'.w=X.w:=by subst hX';rfl
  have eK:X'.K=X.K:=by subst hX';rfl
  have eC:Ab X'.calm:=by subst hX';exact hc
  have eE:X'.env=Zzj scope (clos X.env.cells scope.names []) h3.objs.size X.env:=by subst hX';rfl
  have eX:X'.xe=fun _ _=>False:=by subst hX';rfl
  refine yb0 (fun n s'=>∃i H',Inv X' [] (lcS nt cs σ) H' s'/\tn i s'.heap/\(∀b∈fp,H' b=none)/\W i n H') ?_ m0 ⟨0,_,J4,st4,fun b hb=>(f3 b hb).1,w0⟩
  rintro n s5 ⟨i,H5,J5,st5,fr5,w5⟩
  rcases turn i n H5 w5 with ⟨stop,qn⟩ | ⟨go,N,hN,step⟩
  .have d:=T.done X' eP eW eK eC i [] s5 (lcS nt cs σ) H5 (fun _ _=>False) J5 (stat fr5) st5 stop
   rw[eA] at d
   refine thn d fun r s6 hz9=>?_
   obtain⟨hr,J6⟩:=hz9
   subst hr
   have I6:Ag H5 s6:=by subst hX';subst hs3;exact zxp I3 f3 J6
   refine fin _ H5 s6 h3.objs.size I6 ?_ ?_ qn
   .have hn:H5 h3.objs.size=none:=by subst hX';exact J6.free
    subst hs3
    exact I3.fpOk Ay hn
   .obtain⟨m,hm,_⟩:=J6.loc
    subst hX'
    exact⟨m,hm⟩
  .have d:=T.item X' eP eW eK eC i [] s5 (lcS nt cs σ) H5 (fun _ _=>False) J5 (stat fr5) st5 go
   rw[eA] at d
   refine thn d fun r s6 hz9=>?_
   obtain⟨u,hr,h6⟩:=hz9
   subst hr
   refine thn h6 fun _ s7 hz9=>?_
   obtain⟨x,H7,J7,r7,y7,st7,fr7⟩:=hz9
   have J7':=J7.pinned (stat fr7) (T.obj _ _ st7)
   have a:=hg' _ s7 (lcS nt cs σ) H7 x u _ J7' r7 (step x H7 y7)
   rw[eA,eP,eW,eE,eX] at a
   refine thn a fun _ s8 ⟨σ8,H8,J8,⟨e8,d8⟩,q8⟩=>?_
   have b:=ht' _ s8 σ8 H8 _ J8 q8
   rw[eA,eP,eW,eE,eX] at b
   have again:∀{s9:Zgk} {H9:Hp},Inv X' ([]++zmw fp s7.heap) σ8 H9 s9->N H9-> ∃m,m<n /\ ∃i H',Inv X' [] (lcS nt cs σ) H' s9/\tn i s9.heap/\(∀b∈fp,H' b=none)/\W i m H':=fun {s9 H9} J9 n9=>by
    obtain⟨m',hm,w9⟩:=hN H9 n9
    refine⟨m',hm,i+1,H9,?_,T.keep _ _ _ st7 fun b hb o e=>(J9.pin (b,o) (Zho _ (Zho _ (zf9 hb e)))).1,fun b hb=>?_,w9⟩
    .refine J9.unpinned.weak ?_ fun j v ej=>?_
     .rw[e8];unfold lcS;simp
     .by_cases hj:j<nt
      .unfold lcS at ej
       rw[Zih (by simpa using hj),Zlz] at ej
       split at ej <;> cases ej
      .have z:=congrArg (fun l:St=>l[j - nt]?) d8
       simp only[Zk2] at z
       rw[show nt+(j - nt)=j by omega] at z
       rw[z];exact ej
    .obtain⟨o,e,_⟩:=T.obj _ _ st7 b hb
     exact(J9.pin (b,o) (Zho _ (Zho _ (zf9 hb e)))).2.1
   refine thn b fun ok s9 hz9=>?_
   obtain⟨H9,J9,q9⟩:=hz9
   cases ok with
   | false =>
    rw[if_neg Zhs] at q9 ⊢
    exact again J9 q9
   | true =>
    rw[if_pos rfl] at q9 ⊢
    have c:=he' _ s9 σ8 H9 _ J9 q9
    rw[eA,eP,eW,eE,eX] at c
    refine thn c fun y sA hz9=>?_
    obtain⟨vy,HA,JA,ry,xs,hl,hz,nA⟩:=hz9
    have ap:=zix (X:=X') _ sA σ8 HA (.ref s2.heap.objs.size) [vy] (.ref s2.heap.objs.size) [y] (fun _ H'=>N H') JA rfl (.cons ry .nil) ⟨_,xs,vy,rfl,rfl,hl,hz,nA⟩
    rw[eA,eP,eW,eX] at ap
    refine thn ap fun _ sB hz9=>?_
    obtain⟨_,HB,JB,_,nB⟩:=hz9
    exact again JB nB
 exact codeAny_compStart_list loop (T.self X.A 0 _ _ _ st4 loop)
theorem znd(hc:Ab X.calm)(L:LcOk X scope N' nt cs)(hi:PI X target iter wi)
  (hg:∀s H C fp,PG (lcCx X N' scope s H C fp) target g) (ht:∀s H C fp,PIfs (lcCx X N' scope s H C fp) ifs tt) (he:∀s H C fp,PE (lcCx X N' scope s H C fp) elt te)
  (hs:∀x,Zn2 iter X.env x=pure x:=by intro _;rfl):PE X (.ListComp elt [⟨target,iter,ifs,0⟩] scope pos) (tLC nt cs wi g tt te):=by
 intro pins s σ H Q I h
 rw[eval_ListComp]
 refine zv8 (use:=none) hc L hi hg ht he I h (fun l H' s' C I' f ⟨m,hm⟩ q=>⟨m,hm,fun h' hs'=>?_⟩) hs
 obtain⟨f0,f1,f2,f3,f4,f5⟩:=f
 exact⟨.ref l,H',I'.turned (t':=s'.toks) (fun b o hb e=>hs'.extBut b o hb e) f0 f1 f3 f4 f5,rfl,q⟩
theorem zlv{i:Nat}{y:Str}{py spos:Pos}(hN:X.N.Nodup)(hy:Ak X.N y)(hx:Loc X.env.scope y)(hc:Ab X.calm)(L:LcOk X scope N' nt cs)(hi:PI X target iter wi)
  (hg:∀s H C fp,PG (lcCx X N' scope s H C fp) target g) (ht:∀s H C fp,PIfs (lcCx X N' scope s H C fp) ifs tt) (he:∀s H C fp,PE (lcCx X N' scope s H C fp) elt te)
  (hsw:Zo0 (.ListComp elt [⟨target,iter,ifs,0⟩] scope pos) (some (.Name y py)) spos.line X.env=pure true:=by rfl)
  (hs:∀x,Zn2 iter X.env x=pure x:=by intro _;rfl) (hf:Ab (X.fn y)\/Aa (X.env.scope.names.lookup y) .local:=by first | exact Be | exact .inr rfl | assumption) :
  PS X (.Assign [.Name y py] (.ListComp elt [⟨target,iter,ifs,0⟩] scope pos) spos) (tAsg (tLC nt cs wi g tt te) (zho i)):=by
 intro pins s σ H D I h
 rw[exec_Assign_Name_used _ _ _ _ hsw]
 refine Zge (Zob (Zge ?_))
 show Zg1 _ X.A (do let _ <- Zzi (.ListComp elt [⟨target,iter,ifs,0⟩] scope pos) scope X.env _ (newList []) false (Bh iter) (some (Zul (.Name y py) X.env))) _ _ s
 refine Zge (thn (zv8 (QQ:=fun _ s'=>SP X pins D .next s') (use:=some (Zul (.Name y py) X.env)) hc L hi hg ht he I h (fun l H' s' C I' f hm q=>?_) hs) (fun _ s' hq=>Zgj (Zgj hq)))
 show Zg1 _ X.A (Zul (.Name y py) X.env (.ref l)) _ _ _
 refine Zwi (znp I' hN hy hx (v:=.ref l) rfl (fun s2 I2 hz9=>?_) hf)
 obtain⟨a,hsb,ha⟩:=hz9
 obtain⟨m,hm⟩:=hm
 obtain⟨f0,f1,f2,f3,f4,f5⟩:=f
 have hCa:C≠a:=by
  rcases ha with rfl | ha
  .exact f1
  .exact fun z=>f4 y a ha z.symm
 refine⟨m,hm.sameBut hsb hCa,fun h' hs'=>?_⟩
 exact⟨_,H',I2.turned (t':=s2.toks) (fun b o hb e=>hs'.extBut b o hb e) f0 f1 f3 f4 f5,q⟩
end
theorem SqL.same{K:Zgh}{H H':Hp}{a:Addr}{xs:Ao}(e:Same H H')(h:SqL K H a xs):SqL K H' a xs:=e.seq h
theorem SqT.same{K:Zgh}{H H':Hp}{a:Addr}{xs:Ao}(e:Same H H')(h:SqT K H a xs):SqT K H' a xs:=by
 rcases h with (h | ⟨o,h⟩) | h
 .exact .inl (.inl (e _ _ h))
 .exact .inl (.inr ⟨o,e _ _ h⟩)
 .exact .inr h
theorem Same.upd{H:Hp}{l:Addr}{o:HO}(h:H l=none):Same H (upd H l o):=fun b u e=>by rw[zal (za6 e h)];exact e
end L2
namespace L2
open PySem
end L2
namespace L2
open PySem PySem.Spec PyProof.Rows
section
variable{X:Cx}{pins:List (Addr×Obj)}{σ:St}{H:Hp}{s:Zgk}{h':Heap}{t':Nat}{wr:List Addr}
theorem Inv.turns(I:Ag H s)(hf:∀b∈wr,FpOk X pins H b)(k:∀b o,b∉wr->AH b o->AU b o):BV H:=by
 have nw:∀b u,Aa (H b) u->b∉wr:=fun b u e z=>by have:=(hf b z).1;rw[e] at this;cases this
 have nL:X.env.locals∉wr:=fun z=>(hf _ z).2.1 rfl
 refine I.step (g':=s.gens) (d':=s.drawn) (ch:=wr) (fun b hb=>?_) (fun b o _ _ hc e _=>k b o hc e) (fun b o _ _ hc e _=>⟨o.slots,k b o hc e⟩) (fun _ _ _ _ n=>n)
  (fun b o hc e=>⟨o,k b o hc e⟩) (fun _ _ e=>e) (fun _ _ _ e=>e) (fun b ps e=>⟨#[],by rw[e];simp⟩) (fun m hm=>?_) (fun b u e=>?_) I.bare
 .obtain⟨f0,f1,f2,f3,f4,f5⟩:=hf b hb
  exact⟨f3,f1,f4,f5⟩
 .obtain⟨o,es,ep,ho,r⟩:=hm
  exact⟨o,es,ep,k _ o nL ho,r⟩
 .refine(I.hok b u e).stay (fun c v hc q=>k c v ?_ q) (fun _ q=>q) fun _ _ q=>q
  rcases hc with z | z
  .rw[z];exact nw b u e
  .exact nw c _ z
theorem Inv.turnsT(I:Ag H s){T0:Addr}{vs:Ao}{vals:Array Zgi}(hf:∀b∈wr,FpOk X pins H b)(k:∀b o,b∉wr->AH b o->AU b o)(hT:s.heap.objs.size<=T0)(ht:h'.IsTuple T0 vals)(hv:Vals vs vals.toList)
  (hz:AL vs.length):BV (upd H T0 (.tup vs)):=by
 have nw:∀b u,Aa (H b) u->b∉wr:=fun b u e z=>by have:=(hf b z).1;rw[e] at this;cases this
 have nL:X.env.locals∉wr:=fun z=>(hf _ z).2.1 rfl
 have fresh:H T0=none:=I.hok.fresh hT
 have ne:∀b o,AH b o->b≠T0:=fun b o e=>Zhb (Zhd (Zgv e) hT)
 refine I.step (g':=s.gens) (d':=s.drawn) (ch:=wr) (fun b hb=>?_) (fun b o _ _ hc e _=>k b o hc e) (fun b o _ _ hc e _=>⟨o.slots,k b o hc e⟩) (fun b o _ e n=>by rw[zal (ne b o e)];exact n)
  (fun b o hc e=>⟨o,k b o hc e⟩) (fun b xs e=>by rw[zal (za6 e fresh)];exact e) (fun b o u e=>by rw[zal (za6 e fresh)];exact e) (fun b ps e=>⟨#[],by rw[zal (za6 e fresh),e];simp⟩) (fun m hm=>?_) (fun b u e=>?_) I.bare
 .obtain⟨f0,f1,f2,f3,f4,f5⟩:=hf b hb
  exact⟨f3,f1,f4,f5⟩
 .obtain⟨o,es,ep,ho,r⟩:=hm
  exact⟨o,es,ep,k _ o nL ho,r⟩
 .by_cases hb:b=T0
  .subst hb
   rw[zam] at e
   cases e
   have ht2:h'.IsTuple b vals.toList.toArray:=by simpa using ht
   exact⟨hz,vals.toList,hv,ht2⟩
  .rw[zal hb] at e
   refine(I.hok b u e).stay (fun c v hc q=>k c v ?_ q) (fun c q=>by rw[zal (za6 q fresh)];exact q) fun c xs q=>by rw[zal (za6 q fresh)];exact q
   rcases hc with z | z
   .rw[z];exact nw b u e
   .exact nw c _ z
end
end L2
namespace L2
open PySem
end L2
namespace L2
open PySem PySem.Spec PyProof.Rows
structure ZipAp(z TI TO i1 i2:Addr)(fp1 fp2:List Addr):Prop where
 TIz:TI≠z
 TOz:TO≠z
 i1z:i1≠z
 i2z:i2≠z
 TITO:TI≠TO
 TIi1:TI≠i1
 TIi2:TI≠i2
 TOi1:TO≠i1
 TOi2:TO≠i2
 i12:i1≠i2
 m1:i1∈fp1
 m2:i2∈fp2
 f1:∀b∈fp1,b≠z/\b≠TO/\b≠i2
 f2:∀b∈fp2,b≠z/\b≠TO/\b≠i1
section
variable{prog:Zg8}{w:Zhy}{A:Zhk}{E:Zgi->Zgk->Prop}{s:Zgk}
theorem zj9{z TI TO i1 i2:Addr}{fp1 fp2:List Addr}{n1 n2 k:Nat}{P1 P2:Nat->Af Zgi}{S1 S2:Nat->Af Heap}{a b:Zgi}{Q:Zgi->Ah}
  (D1:Zsn prog w A i1 fp1 n1 P1 S1) (D2:Zsn prog w A i2 fp2 n2 P2 S2) (D:ZipAp z TI TO i1 i2 fp1 fp2)
  (hz:Zrb s.heap z TI TO .none) (hTI:Zmm s.heap TI (.ref i1) (.ref i2)) (hTO:Zmm s.heap TO a b) (h1:S1 k s.heap) (h2:S2 k s.heap) (k1:k<n1) (k2:k<n2)
  (hQ:∀x y h' tk,P1 k x->P2 k y->Zrb h' z TI TO (Zkf s.heap.objs.size)->Zmm h' TO x y->S1 (k+1) h'->S2 (k+1) h'->Zmm h' s.heap.objs.size x y->h'.objs.size=AR 1 ->
   (∀c o,c≠z->c≠TO->c≠i1->c≠i2->AH c o->AU c o)->Q Bz { s with heap:=h',toks:=tk }) :
  An w A (Zg9.«zip.__next__» ⟨[.ref z],[]⟩) (fun fin s'=>∃v,fin= .done (.ret v)/\Q v s') E s:=by
 obtain⟨hp,g,dr,tk0,os⟩:=s
 show Zg1 _ _ (Zwr (.ref z) 2 >>= _) _ _ _
 refine Zge (Zko hz rfl (x:=.bool false) rfl ?_)
 show Zg1 _ _ (Zwr (.ref z) 3 >>= _) _ _ _
 refine Zge (Zko hz rfl (x:=.ref TI) rfl ?_)
 refine Zge (Zjg hTI rfl ?_)
 show Zg1 _ _ (Zjo (.ref z) >>= _) _ _ _
 refine Zge ?_
 unfold Zjo
 refine Zge (Zko hz rfl (x:=.none) rfl (Zgj ?_))
 simp only[if_true]
 refine Zge (Zj1 ?_)
 refine Zge (Zko hz rfl (x:=.ref TO) rfl ?_)
 refine Zge (Zlc hz (by simp) fun h₁ hz₁ hs₁=>?_)
 replace hz₁:Zrb h₁ z TI TO .ellipsis:=hz₁
 replace hs₁:Zhq z hp h₁:=hs₁
 refine Zge ?_
 simp only[Zqb,Zqs,Zk8,Zvt]
 refine Zge (Zge (Zqg ?_))
 show Zg1 _ _ (Zil (.ref i1) >>= _) _ _ _
 refine Zge (D1.item k _ _ _ k1 (D1.frame _ _ _ h1 fun c hc o e=>hs₁.extBut _ _ (D.f1 c hc).1 e) fun x h₂ tk1 px h1₂ hs₂=>Zgj ?_)
 replace hs₂:Zhq i1 h₁ h₂:=hs₂
 have hTO₂:Zmm h₂ TO a b:=hs₂.extBut _ _ D.TOi1 (hs₁.extBut _ _ D.TOz hTO)
 refine Zge (Zjg hTO₂ rfl ?_)
 refine Zge (Zpi hTO₂ fun h₃ hTO₃ hs₃=>?_)
 replace hTO₃:Zmm h₃ TO x b:=hTO₃
 replace hs₃:Zhq TO h₂ h₃:=hs₃
 refine Zge (Zvd (Zgj ?_))
 refine Zge (Zge (Zqg ?_))
 show Zg1 _ _ (Zil (.ref i2) >>= _) _ _ _
 refine Zge (D2.item k _ _ _ k2 (D2.frame _ _ _ h2 fun c hc o e=>hs₃.extBut _ _ (D.f2 c hc).2.1 (hs₂.extBut _ _ (D.f2 c hc).2.2 (hs₁.extBut _ _ (D.f2 c hc).1 e))) fun y h₄ tk2 py h2₄ hs₄=>Zgj ?_)
 replace hs₄:Zhq i2 h₃ h₄:=hs₄
 have hTO₄:Zmm h₄ TO x b:=hs₄.extBut _ _ D.TOi2 hTO₃
 refine Zge (Zjg hTO₄ rfl ?_)
 refine Zge (Zpi hTO₄ fun h₅ hTO₅ hs₅=>?_)
 replace hTO₅:Zmm h₅ TO x y:=hTO₅
 replace hs₅:Zhq TO h₄ h₅:=hs₅
 refine Zge (Zvd (Zgj (Zgj ?_)))
 refine Zge (Zjg hTO₅ rfl ?_)
 refine Zge (Zyu ?_)
 have hsz:h₅.objs.size=hp.objs.size:=by rw[hs₅.1,hs₄.1,hs₃.1,hs₂.1,hs₁.1]
 have hz₅:Zrb h₅ z TI TO .ellipsis:=hs₅.extBut _ _ D.TOz.symm (hs₄.extBut _ _ D.i2z.symm (hs₃.extBut _ _ D.TOz.symm (hs₂.extBut _ _ D.i1z.symm hz₁)))
 have hk₅:∀c o,c≠z->c≠TO->c≠i1->c≠i2->Aa (hp.get? c) o->Aa (h₅.get? c) o:=fun c o c1 c2 c3 c4 e =>
  hs₅.extBut _ _ c2 (hs₄.extBut _ _ c4 (hs₃.extBut _ _ c2 (hs₂.extBut _ _ c3 (hs₁.extBut _ _ c1 e))))
 have h1₅:S1 (k+1) h₅:=D1.frame _ _ _ h1₂ fun c hc o e=>hs₅.extBut _ _ (D.f1 c hc).2.1 (hs₄.extBut _ _ (D.f1 c hc).2.2 (hs₃.extBut _ _ (D.f1 c hc).2.1 e))
 have h2₅:S2 (k+1) h₅:=D2.frame _ _ _ h2₄ fun c hc o e=>hs₅.extBut _ _ (D.f2 c hc).2.1 e
 have hzlt:z<h₅.objs.size:=Zgv hz₅
 show Zg1 _ _ (Zmz (.ref z) (.ref h₅.objs.size) >>= _) _ _ _
 refine Zge ?_
 unfold Zmz
 have hz₆:Zrb (h₅.push (Bl "tuple" (.seq #[x,y]))) z TI TO .ellipsis:=Zgl _ hz₅
 refine Zge (Zlc hz₆ (by simp) fun h₇ hz₇ hs₇=>?_)
 replace hz₇:Zrb h₇ z TI TO (Zkf h₅.objs.size):=hz₇
 refine Zlc hz₇ (by simp) fun h₈ hz₈ hs₈=>?_
 replace hz₈:Zrb h₈ z TI TO (Zkf h₅.objs.size):=hz₈
 have up:∀c o,c≠z->Aa (h₅.get? c) o->Aa (h₈.get? c) o:=fun c o c1 e=>hs₈.extBut _ _ c1 (hs₇.extBut _ _ c1 (Zgl _ e))
 have hT₈:Zmm h₈ h₅.objs.size x y:=hs₈.extBut _ _ (Zla hzlt) (hs₇.extBut _ _ (Zla hzlt) (Zgx _ rfl))
 have hz8:h₈.objs.size=h₅.objs.size+1:=by rw[hs₈.1,hs₇.1,Zhj]
 rw[hsz] at hz₈ hT₈ hz8
 refine Zgj (Aw _ ?_)
 show Q (.ref h₅.objs.size) _
 rw[hsz]
 exact hQ x y h₈ _ px py hz₈ (up _ _ D.TOz hTO₅) (D1.frame _ _ _ h1₅ fun c hc o e=>up _ o (D.f1 c hc).1 e) (D2.frame _ _ _ h2₅ fun c hc o e=>up _ o (D.f2 c hc).1 e) hT₈ hz8 fun c o c1 c2 c3 c4 e=>up c o c1 (hk₅ c o c1 c2 c3 c4 e)
theorem zlz{z TI TO i1 i2:Addr}{fp1 fp2:List Addr}{n1 n2:Nat}{P1 P2:Nat->Af Zgi}{S1 S2:Nat->Af Heap}{a b:Zgi}{Q:Fin->Ah}
  (D1:Zsn prog w A i1 fp1 n1 P1 S1) (D2:Zsn prog w A i2 fp2 n2 P2 S2) (D:ZipAp z TI TO i1 i2 fp1 fp2)
  (hz:Zrb s.heap z TI TO .none) (hTI:Zmm s.heap TI (.ref i1) (.ref i2)) (hTO:Zmm s.heap TO a b) (h1:S1 (min n1 n2) s.heap) (h2:S2 (min n1 n2) s.heap)
  (hE:∀h' e tk,(∀c o,c≠z->c≠TO->c≠i1->c≠i2->AH c o->AU c o)->(∃o,AU e o/\o.cls= .type "StopIteration")->E (.ref e) { s with heap:=h',toks:=tk }) :
  An w A (Zg9.«zip.__next__» ⟨[.ref z],[]⟩) Q E s:=by
 obtain⟨hp,g,dr,tk0,os⟩:=s
 show Zg1 _ _ (Zwr (.ref z) 2 >>= _) _ _ _
 refine Zge (Zko hz rfl (x:=.bool false) rfl ?_)
 show Zg1 _ _ (Zwr (.ref z) 3 >>= _) _ _ _
 refine Zge (Zko hz rfl (x:=.ref TI) rfl ?_)
 refine Zge (Zjg hTI rfl ?_)
 show Zg1 _ _ (Zjo (.ref z) >>= _) _ _ _
 refine Zge ?_
 unfold Zjo
 refine Zge (Zko hz rfl (x:=.none) rfl (Zgj ?_))
 simp only[if_true]
 refine Zge (Zj1 ?_)
 refine Zge (Zko hz rfl (x:=.ref TO) rfl ?_)
 refine Zge (Zlc hz (by simp) fun h₁ hz₁ hs₁=>?_)
 replace hz₁:Zrb h₁ z TI TO .ellipsis:=hz₁
 replace hs₁:Zhq z hp h₁:=hs₁
 refine Zge ?_
 simp only[Zqb,Zqs,Zk8,Zvt]
 refine Zge (Zge (Zqg ?_))
 show Zg1 _ _ (Zil (.ref i1) >>= _) _ _ _
 have f1:S1 (min n1 n2) h₁:=D1.frame _ _ _ h1 fun c hc o e=>hs₁.extBut _ _ (D.f1 c hc).1 e
 by_cases hle:n1<=n2
 .rw[Zmx hle] at f1
  refine Zge (D1.done _ _ _ f1 fun h₂ e hs₂ he=>?_)
  replace hs₂:Zqz i1 h₁ h₂:=hs₂
  obtain⟨oe,hoe,hce⟩:=he
  have hz₂:Zrb h₂ z TI TO .ellipsis:=hs₂ _ _ D.i1z.symm hz₁
  have hez:e≠z:=fun x=>by subst x;rw[hz₂] at hoe;cases hoe;simp at hce
  refine Zlc hz₂ (by simp) fun h₃ _ hs₃=>hE h₃ e _ (fun c o c1 _ c3 _ x=>hs₃.extBut _ _ c1 (hs₂ _ _ c3 (hs₁.extBut _ _ c1 x))) ⟨oe,hs₃.extBut _ _ hez hoe,hce⟩
 .have hmin:min n1 n2=n2:=Zny (by lia)
  rw[hmin] at f1
  refine Zge (D1.item n2 _ _ _ (by lia) f1 fun x h₂ tk1 px h1₂ hs₂=>Zgj ?_)
  replace hs₂:Zhq i1 h₁ h₂:=hs₂
  have hTO₂:Zmm h₂ TO a b:=hs₂.extBut _ _ D.TOi1 (hs₁.extBut _ _ D.TOz hTO)
  refine Zge (Zjg hTO₂ rfl ?_)
  refine Zge (Zpi hTO₂ fun h₃ hTO₃ hs₃=>?_)
  replace hs₃:Zhq TO h₂ h₃:=hs₃
  refine Zge (Zvd (Zgj ?_))
  refine Zge (Zge (Zqg ?_))
  show Zg1 _ _ (Zil (.ref i2) >>= _) _ _ _
  rw[hmin] at h2
  refine Zge (D2.done _ _ _ (D2.frame _ _ _ h2 fun c hc o e=>hs₃.extBut _ _ (D.f2 c hc).2.1 (hs₂.extBut _ _ (D.f2 c hc).2.2 (hs₁.extBut _ _ (D.f2 c hc).1 e))) fun h₄ e hs₄ he=>?_)
  replace hs₄:Zqz i2 h₃ h₄:=hs₄
  obtain⟨oe,hoe,hce⟩:=he
  have hz₄:Zrb h₄ z TI TO .ellipsis:=hs₄ _ _ D.i2z.symm (hs₃.extBut _ _ D.TOz.symm (hs₂.extBut _ _ D.i1z.symm hz₁))
  have hez:e≠z:=fun x=>by subst x;rw[hz₄] at hoe;cases hoe;simp at hce
  refine Zlc hz₄ (by simp) fun h₅ _ hs₅=>hE h₅ e _ (fun c o c1 c2 c3 c4 x=>hs₅.extBut _ _ c1 (hs₄ _ _ c4 (hs₃.extBut _ _ c2 (hs₂.extBut _ _ c3 (hs₁.extBut _ _ c1 x))))) ⟨oe,hs₅.extBut _ _ hez hoe,hce⟩
theorem zjv{z TI TO i1 i2:Addr}{fp1 fp2:List Addr}{n1 n2:Nat}{P1 P2:Nat->Af Zgi}{S1 S2:Nat->Af Heap}
  (D1:Zsn prog w A.in1 i1 fp1 n1 P1 S1) (D2:Zsn prog w A.in1 i2 fp2 n2 P2 S2) (D:ZipAp z TI TO i1 i2 fp1 fp2) (hT1:∀b∈fp1,b≠TI) (hT2:∀b∈fp2,b≠TI) :
  WalksT prog w A z (z::TI::TO::(fp1++fp2)) [z,TO,i1,i2] (min n1 n2)
   (fun i vals=>∃x y,P1 i x/\P2 i y/\vals= #[x,y])
   (fun i h=>Zrb h z TI TO .none/\Zmm h TI (.ref i1) (.ref i2)/\(∃a b,Zmm h TO a b)/\S1 i h/\S2 i h)
   (fun i T h=>Zrb h z TI TO (Zkf T)/\Zmm h TI (.ref i1) (.ref i2)/\(∃a b,Zmm h TO a b)/\S1 (i+1) h/\S2 (i+1) h/\T≠z/\T≠TO/\T≠i1/\T≠i2) where
 sub:=fun c hc=>by
  have m1:=D.m1
  have m2:=D.m2
  simp at hc ⊢;rcases hc with rfl | rfl | rfl | rfl <;> simp[*]
 frame:=fun i h h' hst hk=>by
  obtain⟨hz,hTI,⟨a,b,hTO⟩,h1,h2⟩:=hst
  exact⟨hk z (by simp) _ hz,hk TI (by simp) _ hTI,⟨a,b,hk TO (by simp) _ hTO⟩,D1.frame _ _ _ h1 fun b hb o e=>hk b (by simp[hb]) o e,D2.frame _ _ _ h2 fun b hb o e=>hk b (by simp[hb]) o e⟩
 item:=fun i s Q E hi hst hQ=>by
  obtain⟨hz,hTI,⟨a,b,hTO⟩,h1,h2⟩:=hst
  have hT:s.TypeIs (.ref z) "zip" := (AD hz rfl)
  have lt:∀{c o},AH c o->s.heap.objs.size≠c:=fun e=>Zla (Zgv e)
  unfold Zok
  refine Zge (Zqh (Zk0 (name:=Zog "__next__") hT Zos
   (Zi3 Zos hT Zwd
    (zj9 D1 D2 D hz hTI hTO h1 h2 (by lia) (by lia) fun x y h' tk px py a1 a2 a3 a4 a5 a6 hk=>Zgj ?_) (Zv0 _))))
  exact hQ s.heap.objs.size #[x,y] h' tk ⟨_,_,px,py,rfl⟩ Ay ⟨_,a5,rfl,_,rfl⟩
   ⟨a1,hk _ _ D.TIz D.TITO D.TIi1 D.TIi2 hTI,(AD _ a2),a3,a4,lt hz,lt hTO,(by obtain⟨_,e⟩:=D1.live _ _ h1;exact lt e),(by obtain⟨_,e⟩:=D2.live _ _ h2;exact lt e)⟩
   fun c o hc e=>hk c o (fun x=>hc (by simp[x])) (fun x=>hc (by simp[x])) (fun x=>hc (by simp[x])) (fun x=>hc (by simp[x])) e
 go:=fun elts k pos i T s Q E hm hQ=>by
  obtain⟨hz,hTI,⟨a,b,hTO⟩,h1,h2,_⟩:=hm
  refine wpAny_letOwnedTupleGo_zip hz fun h' hz' hs'=>hQ h' ⟨hz',hs'.extBut _ _ D.TIz hTI,⟨a,b,hs'.extBut _ _ D.TOz hTO⟩,D1.frame _ _ _ h1 fun c hc o e=>hs'.extBut _ _ (D.f1 c hc).1 e,D2.frame _ _ _ h2 fun c hc o e=>hs'.extBut _ _ (D.f2 c hc).1 e⟩ fun c o hc e=>hs'.extBut _ _ (fun x=>hc (by simp[x])) e
 apart:=fun i T h hm hT=>by
  obtain⟨_,_,_,_,_,t1,t2,t3,t4⟩:=hm
  simp at hT
  rcases hT with rfl | rfl | rfl | rfl
  .exact t1 rfl
  .exact t2 rfl
  .exact t3 rfl
  .exact t4 rfl
 done:=fun s Q E hst hQ=>by
  obtain⟨hz,hTI,⟨a,b,hTO⟩,h1,h2⟩:=hst
  have hT:s.TypeIs (.ref z) "zip" := (AD hz rfl)
  unfold Zok
  refine Zge (Zqh (Zk0 (name:=Zog "__next__") hT Zos
   (Zi3 Zos hT Zwd (zlz D1 D2 D hz hTI hTO h1 h2 fun h' e tk hk he=>?_) (Zv0 _))))
  obtain⟨o,ho,hc⟩:=he
  refine Zge (Zmv (T:="StopIteration") (b:=true) ⟨o,ho,hc⟩ Zy0 ?_)
  exact Zgj (hQ h' tk fun c o hc e=>hk c o (fun x=>hc (by simp[x])) (fun x=>hc (by simp[x])) (fun x=>hc (by simp[x])) (fun x=>hc (by simp[x])) e)
 self:=fun i s Q E hst hQ=>Zrv hst.1 hQ
end
end L2
namespace L2
open PySem
end L2
namespace L2
open PySem PySem.Spec PyProof.Rows
inductive D where
 | non | bl (b:Bool) | int (i:Int) | str (l:List Nat) | lst (xs:List D) | tup (xs:List D) | dct (ks vs:List D) | dctT (ks vs:List D) | ins (C:Addr) (ns:List Str) (vs:List D)
noncomputable instance:Inhabited D:=⟨.non⟩
noncomputable instance:DecidableEq D:=Zzu D
mutual
noncomputable def D.dep:D->Nat
 | .lst a=>D.deps a+1
 | .tup a=>D.deps a+1
 | _=>0
noncomputable def D.deps:Ae->Nat
 | []=>0
 | a::x=>max a.dep (D.deps x)
end
mutual
noncomputable def D.nb:D->Bool
 | .bl _=>false
 | .dct _ _=>false
 | .dctT _ _=>false
 | .ins _ _ _=>false
 | .lst a=>D.nbs a
 | .tup a=>D.nbs a
 | _=>true
noncomputable def D.nbs:Ae->Bool
 | []=>true
 | a::x=>a.nb&&D.nbs x
end
noncomputable def D.isK:D->Bool
 | .int _=>true | .str _=>true | _=>false
noncomputable def D.key:D->Key
 | .int i=>.inl i | .str l=>.inr (T l) | _=>.inl 0
noncomputable def D.isT:D->Bool
 | .tup l=>l.all D.isK | _=>false
noncomputable def D.tkey:D->List Key
 | .tup l=>l.map D.key | _=>[]
noncomputable def D.isInt:D->Bool
 | .int _=>true
 | _=>false
noncomputable def zzz(ds:Ae):Bool:=ds.any D.isInt
section
variable(K:Zgh)(H:Hp)
mutual
noncomputable def Rep:D->Af V
 | .non,v=>v= .non
 | .bl b,v=>v= .bl b
 | .int i,v=>v= .int i
 | .str l,v=>v= .str (T l) /\ ∀c∈l,c<128
 | .lst ds,v=>∃p xs,v= AO/\SqL K H p xs/\Reps ds xs
 | .tup ds,v=>∃p xs,v= AO/\SqT K H p xs/\Reps ds xs/\(Ab (zzz ds)->Aa (H p) (.tup xs))
 | .dct ks vs,v=>∃p kv,v= AO/\Aa (H p) (.dK kv)/\Reps ks (kv.map fun q=>kV q.1)/\Reps vs (kv.map fun q=>q.2)
 | .dctT ks vs,v=>∃p kv,v= AO/\(∃o,Aa (H p) (.frz o (.dT kv)))/\(Ab (ks.all D.isT)/\(kv.map fun q=>q.1)=ks.map D.tkey)/\Reps vs (kv.map fun q=>q.2)
 | .ins C ns vs,v=>∃x dx fs,v= .ref x/\Aa (H x) (.ins C dx fs)/\Aa (H dx) (.own x)/\fs.map (fun q=>q.1)=ns/\Reps vs (fs.map fun q=>q.2)
noncomputable def Reps:Ae->Af Ao
 | [],xs=>xs=[]
 | d::ds,xs=>∃x r,xs=x::r/\Rep d x/\Reps ds r
end
end
section
variable{K:Zgh}{H H':Hp}
mutual
theorem Rep.mono(s:Same H H'):∀{d:D} {v:V},Rep K H d v->Rep K H' d v
 | .non,_,h=>by simpa[Rep] using h
 | .bl _,_,h=>by simpa[Rep] using h
 | .int _,_,h=>by simpa[Rep] using h
 | .str _,_,h=>by simpa[Rep] using h
 | .lst ds,_,h=>by
  rw[Rep] at h ⊢
  obtain⟨p,xs,e,q,r⟩:=h
  exact⟨p,xs,e,SqL.same s q,Reps.mono s r⟩
 | .tup ds,_,h=>by
  rw[Rep] at h ⊢
  obtain⟨p,xs,e,q,r,t⟩:=h
  exact⟨p,xs,e,SqT.same s q,Reps.mono s r,fun z=>s _ _ (t z)⟩
 | .dct ks vs,_,h=>by
  rw[Rep] at h ⊢
  obtain⟨p,kv,e,q,r1,r2⟩:=h
  exact⟨p,kv,e,s _ _ q,Reps.mono s r1,Reps.mono s r2⟩
 | .dctT ks vs,_,h=>by
  rw[Rep] at h ⊢
  obtain⟨p,kv,e,⟨o,q⟩,r1,r2⟩:=h
  exact⟨p,kv,e,⟨o,s _ _ q⟩,r1,Reps.mono s r2⟩
 | .ins C ns vs,_,h=>by
  rw[Rep] at h ⊢
  obtain⟨x,dx,fs,e,q1,q2,hn,r⟩:=h
  exact⟨x,dx,fs,e,s _ _ q1,s _ _ q2,hn,Reps.mono s r⟩
theorem Reps.mono(s:Same H H'):∀{ds:Ae} {xs:Ao},AB H ds xs->AB H' ds xs
 | [],_,h=>by simpa[Reps] using h
 | d::ds,_,h=>by
  rw[Reps] at h ⊢
  obtain⟨x,r,e,a,b⟩:=h
  exact⟨x,r,e,Rep.mono s a,Reps.mono s b⟩
end
theorem Reps.nil:AB H [] []:=by rw[Reps]
theorem Reps.cons{d:D}{ds:Ae}{x:V}{xs:Ao}(a:Rep K H d x)(b:AB H ds xs):AB H (d::ds) (x::xs):=by rw[Reps];exact⟨x,xs,rfl,a,b⟩
theorem Reps.length:∀{ds:Ae} {xs:Ao},AB H ds xs->ds.length=xs.length
 | [],_,h=>by rw[Reps] at h;subst h;rfl
 | d::ds,_,h=>by
  rw[Reps] at h
  obtain⟨x,r,rfl,_,b⟩:=h
  simp[b.length]
theorem Reps.get:∀{ds:Ae} {xs:Ao} {i:Nat} {x:V},AB H ds xs->Ak xs x-> ∃d,Ak ds d/\Rep K H d x
 | [],_,_,_,h,e=>by rw[Reps] at h;subst h;simp at e
 | d::ds,_,0,_,h,e=>by
  rw[Reps] at h
  obtain⟨y,r,rfl,a,_⟩:=h
  cases e
  exact(Aw d a)
 | d::ds,_,i+1,_,h,e=>by
  rw[Reps] at h
  obtain⟨y,r,rfl,_,b⟩:=h
  exact Reps.get (i:=i) b e
theorem Reps.get':∀{ds:Ae} {xs:Ao} {i:Nat} {d:D},AB H ds xs->Ak ds d-> ∃x,Ak xs x/\Rep K H d x:=fun {ds xs i d} h e=>by
 have hl:=h.length
 have hi:=(Zgo.mp e).1
 obtain⟨d',e',r⟩:=h.get (i:=i) (x:=xs[i]'(by lia)) (Zgg _)
 rw[e] at e';cases e'
 exact(AD (Zgg _) r)
theorem Reps.append:∀{ds es:Ae} {xs ys:Ao},AB H ds xs->AB H es ys->AB H (ds++es) (xs++ys)
 | [],_,_,_,h,h2=>by rw[Reps] at h;subst h;exact h2
 | d::ds,_,_,_,h,h2=>by
  rw[Reps] at h
  obtain⟨y,r,rfl,a,b⟩:=h
  exact Reps.cons a (Reps.append b h2)
theorem Reps.snoc{ds:Ae}{xs:Ao}{d:D}{x:V}(h:AB H ds xs)(a:Rep K H d x):AB H (ds++[d]) (xs++[x]):=h.append (.cons a .nil)
theorem Reps.drop:∀(n:Nat) {ds:Ae} {xs:Ao},AB H ds xs->AB H (ds.drop n) (xs.drop n)
 | 0,_,_,h=>h
 | n+1,[],_,h=>by rw[Reps] at h;subst h;exact Reps.nil
 | n+1,d::ds,_,h=>by
  rw[Reps] at h
  obtain⟨y,r,rfl,_,b⟩:=h
  exact Reps.drop n b
theorem Reps.take:∀(n:Nat) {ds:Ae} {xs:Ao},AB H ds xs->AB H (ds.take n) (xs.take n)
 | 0,_,_,h=>Reps.nil
 | n+1,[],_,h=>by rw[Reps] at h;subst h;exact Reps.nil
 | n+1,d::ds,_,h=>by
  rw[Reps] at h
  obtain⟨y,r,rfl,a,b⟩:=h
  exact Reps.cons a (Reps.take n b)
theorem Rep.lst{ds:Ae}{p:Addr}{xs:Ao}(q:SqL K H p xs)(r:AB H ds xs):Rep K H (.lst ds) AO:=by rw[Rep];exact⟨p,xs,rfl,q,r⟩
theorem Rep.tup{ds:Ae}{p:Addr}{xs:Ao}(q:SqT K H p xs)(r:AB H ds xs)(t:Ab (zzz ds)->Aa (H p) (.tup xs)):Rep K H (.tup ds) AO:=by rw[Rep];exact⟨p,xs,rfl,q,r,t⟩
theorem Rep.tupN{ds:Ae}{p:Addr}{xs:Ao}(q:Aa (H p) (.tup xs))(r:AB H ds xs):Rep K H (.tup ds) AO:=Rep.tup (SqT.of q) r fun _=>q
theorem Rep.int{i:Int}:Rep K H (.int i) (.int i):=by rw[Rep]
theorem Rep.bl{b:Bool}:Rep K H (.bl b) (.bl b):=by rw[Rep]
theorem Rep.str{l:Ac}(h:∀c∈l,c<128):Rep K H (.str l) (.str (T l)):=by rw[Rep];exact⟨rfl,h⟩
theorem Rep.non:Rep K H .non .non:=by rw[Rep]
theorem Rep.of_int{i:Int}{v:V}(h:Rep K H (.int i) v):v= .int i:=by rw[Rep] at h;exact h
theorem Rep.of_bl{b:Bool}{v:V}(h:Rep K H (.bl b) v):v= .bl b:=by rw[Rep] at h;exact h
theorem Rep.of_str{l:Ac}{v:V}(h:Rep K H (.str l) v):v= .str (T l):=by rw[Rep] at h;exact h.1
theorem Rep.asc{l:Ac}{v:V}(h:Rep K H (.str l) v):∀c∈l,c<128:=by rw[Rep] at h;exact h.2
theorem Rep.of_non{v:V}(h:Rep K H .non v):v= .non:=by rw[Rep] at h;exact h
theorem Rep.of_lst{ds:Ae}{v:V}(h:Rep K H (.lst ds) v):∃p xs,v= AO/\SqL K H p xs/\AB H ds xs:=by rw[Rep] at h;exact h
theorem Rep.of_tup{ds:Ae}{v:V}(h:Rep K H (.tup ds) v):∃p xs,v= AO/\SqT K H p xs/\AB H ds xs:=by rw[Rep] at h;obtain⟨p,xs,e,q,r,_⟩:=h;exact⟨p,xs,e,q,r⟩
end
noncomputable def NT:Af HO
 | .tup _=>False
 | _=>True
structure Ext(G Hz F H:Hp):Prop where
 gf:Same G F
 fh:Same F H
 hh:Same Hz H
 no:∀b o,Hz b=some o->NT o->F b=G b
theorem Ext.refl{G H:Hp}(s:Same G H):Ext G H G H:=⟨Same.refl _,s,Same.refl _,fun _ _ _ _=>rfl⟩
theorem Ext.trans{G H F1 H1 F2 H2:Hp}(a:Ext G H F1 H1)(b:Ext F1 H1 F2 H2):Ext G H F2 H2 :=
 ⟨a.gf.trans b.gf,b.fh,a.hh.trans b.hh,fun c o e n=>(b.no c o (a.hh c o e) n).trans (a.no c o e n)⟩
theorem Ext.newF{G Hz F H:Hp}(x:Ext G Hz F H){p:Addr}{o:HO}(hp:H p=none):Ext G Hz (upd F p o) (upd H p o):=by
 have fp:F p=none:=x.fh.free hp
 refine⟨x.gf.trans (Same.upd fp),fun b u e=>?_,x.hh.trans (Same.upd hp),fun b u e n=>?_⟩
 .by_cases hb:b=p
  .subst hb;rw[zam] at e ⊢;exact e
  .rw[zal hb] at e ⊢;exact x.fh b u e
 .have hb:b≠p:=fun z=>by subst z;have:=x.hh b u e;rw[hp] at this;cases this
  rw[zal hb];exact x.no b u e n
theorem Ext.newO{G Hz F H:Hp}(x:Ext G Hz F H){p:Addr}{o:HO}(hp:H p=none):Ext G Hz F (upd H p o) :=
 ⟨x.gf,x.fh.trans (Same.upd hp),x.hh.trans (Same.upd hp),x.no⟩
theorem Ext.write{G Hz F H:Hp}(x:Ext G Hz F H){p:Addr}{o:HO}(fp:F p=none)(hp:Hz p=none):Ext G Hz F (upd H p o) :=
 ⟨x.gf,fun b u e=>by rw[zal (za6 e fp)];exact x.fh b u e,fun b u e=>by rw[zal (za6 e hp)];exact x.hh b u e,x.no⟩
theorem Ext.freeze{G Hz F H:Hp}(x:Ext G Hz F H){p:Addr}{o:HO}(fp:F p=none)(hp:Hz p=none)(e:Aa (H p) o):Ext G Hz (upd F p o) H:=by
 refine⟨x.gf.trans (Same.upd fp),fun b u q=>?_,x.hh,fun b u q n=>?_⟩
 .by_cases hb:b=p
  .subst hb;rw[zam] at q;cases q;exact e
  .rw[zal hb] at q;exact x.fh b u q
 .rw[zal (za6 q hp)];exact x.no b u q n
inductive Sl where
 | un | d (x:D) | o (p:Addr) (xs:List D) | oo (p:Addr) (qs:List (Addr×List D)) | g (v:V) (as:List Addr) (W:Hp->Hp->Prop)
noncomputable def Sl.ads:Sl->List Addr
 | .un=>[] | .d _=>[] | .o p _=>[p] | .oo p qs=>p::qs.map (·.1) | .g _ as _=>as
noncomputable def OwnL(K:Zgh)(Hz F H:Hp)(p:Addr)(xs:Ae):Prop:=Hz p=none/\F p=none /\ ∃vs,Aa (H p) (.lst vs)/\AB F xs vs
noncomputable def Stab(as:List Addr)(W:Hp->Af Hp):Prop:=∀F1 H1 F2 H2:Hp,Same F1 F2->(∀a∈as,H2 a=H1 a)->W F1 H1->W F2 H2
noncomputable def SlOk(K:Zgh)(Hz F H:Hp)(ov:Option V):Af Sl
 | .un=>True
 | .d x=>∃v,Aa ov v/\Rep K F x v
 | .o p xs=>Aa ov AO/\OwnL K Hz F H p xs
 | .oo p qs=>Aa ov AO/\Hz p=none/\F p=none/\Aa (H p) (.lst (qs.map fun q=>V.ref q.1)) /\ ∀q∈qs,OwnL K Hz F H q.1 q.2
 | .g v as W=>Aa ov v/\(∀a∈as,Hz a=none/\F a=none /\ ∃o,Aa (H a) o/\NT o)/\W F H/\Stab as W
structure Sat(K:Zgh)(G Hz L F H:Hp)(σ:St)(ss:List Sl):Prop where
 ext:Ext G Hz F H
 fl:Same L F
 len:σ.length=ss.length
 ok:∀(i:Nat) s,ss[i]? = some s->SlOk K Hz F H (σ.getD i none) s
 nd:∀(i:Nat) s,ss[i]? = some s->s.ads.Nodup
 ne:∀(i j:Nat) s s',i≠j->ss[i]? = some s->ss[j]? = some s'-> ∀p∈s.ads,p∉s'.ads
section
variable{K:Zgh}{Hz F H F' H':Hp}
theorem OwnL.ext2{p:Addr}{xs:Ae}(h:OwnL K Hz F H p xs)(e:Ext F H F' H'):OwnL K Hz F' H' p xs:=by
 obtain⟨h0,fp,vs,hp,r⟩:=h
 exact⟨h0,(e.no p _ hp trivial).trans fp,vs,e.hh p _ hp,r.mono e.gf⟩
theorem SlOk.ext2{ov:Option V}{s:Sl}(h:SlOk K Hz F H ov s)(e:Ext F H F' H'):SlOk K Hz F' H' ov s:=by
 cases s with
 | un=>trivial
 | d x=>obtain⟨v,ev,r⟩:=h;exact⟨v,ev,r.mono e.gf⟩
 | o p xs=>exact⟨h.1,h.2.ext2 e⟩
 | oo p qs =>
  obtain⟨ev,h0,fp,hp,hq⟩:=h
  exact⟨ev,h0,(e.no p _ hp trivial).trans fp,e.hh p _ hp,fun q hm=>(hq q hm).ext2 e⟩
 | g v as W =>
  obtain⟨ev,ha,hw,st⟩:=h
  refine⟨ev,fun a hm=>?_,st _ _ _ _ e.gf (fun a hm=>?_) hw,st⟩
  .obtain⟨h0,fa,o,ho,nt⟩:=ha a hm
   exact⟨h0,(e.no a _ ho nt).trans fa,o,e.hh a _ ho,nt⟩
  .obtain⟨h0,fa,o,ho,nt⟩:=ha a hm
   rw[e.hh a _ ho,ho]
theorem OwnL.updNe{p a:Addr}{o:HO}{xs:Ae}(h:OwnL K Hz F H p xs)(hn:p≠a):OwnL K Hz F (upd H a o) p xs:=by
 obtain⟨h0,fp,vs,hp,r⟩:=h
 exact⟨h0,fp,vs,by rw[zal hn];exact hp,r⟩
theorem SlOk.updNe{ov:Option V}{s:Sl}{a:Addr}{o:HO}(h:SlOk K Hz F H ov s)(hn:a∉s.ads):SlOk K Hz F (upd H a o) ov s:=by
 cases s with
 | un=>trivial
 | d x=>exact h
 | o p xs=>exact⟨h.1,h.2.updNe fun z=>hn (by simp[Sl.ads,z])⟩
 | oo p qs =>
  obtain⟨ev,h0,fp,hp,hq⟩:=h
  refine⟨ev,h0,fp,by rw[zal fun z=>hn (by simp[Sl.ads,z])];exact hp,fun q hm=>(hq q hm).updNe fun z=>hn ?_⟩
  rw[<- z]
  exact Zgq _ (Zls hm)
 | g v as W =>
  obtain⟨ev,ha,hw,st⟩:=h
  have hne:∀b∈as,b≠a:=fun b hm z=>hn (by rw[<- z];exact hm)
  refine⟨ev,fun b hm=>?_,st _ _ _ _ (Same.refl _) (fun b hm=>zal (hne b hm)) hw,st⟩
  obtain⟨h0,fa,x,ho,nt⟩:=ha b hm
  exact⟨h0,fa,x,by rw[zal (hne b hm)];exact ho,nt⟩
theorem OwnL.frz{p a:Addr}{o:HO}{xs:Ae}(h:OwnL K Hz F H p xs)(fa:F a=none)(hn:p≠a):OwnL K Hz (upd F a o) H p xs:=by
 obtain⟨h0,fp,vs,hp,r⟩:=h
 exact⟨h0,by rw[zal hn];exact fp,vs,hp,r.mono (Same.upd fa)⟩
theorem SlOk.frz{ov:Option V}{s:Sl}{a:Addr}{o:HO}(h:SlOk K Hz F H ov s)(fa:F a=none)(hn:a∉s.ads):SlOk K Hz (upd F a o) H ov s:=by
 cases s with
 | un=>trivial
 | d x=>obtain⟨v,ev,r⟩:=h;exact⟨v,ev,r.mono (Same.upd fa)⟩
 | o p xs=>exact⟨h.1,h.2.frz fa fun z=>hn (by simp[Sl.ads,z])⟩
 | oo p qs =>
  obtain⟨ev,h0,fp,hp,hq⟩:=h
  refine⟨ev,h0,by rw[zal fun z=>hn (by simp[Sl.ads,z])];exact fp,hp,fun q hm=>(hq q hm).frz fa fun z=>hn ?_⟩
  rw[<- z]
  exact Zgq _ (Zls hm)
 | g v as W =>
  obtain⟨ev,ha,hw,st⟩:=h
  have hne:∀b∈as,b≠a:=fun b hm z=>hn (by rw[<- z];exact hm)
  refine⟨ev,fun b hm=>?_,st _ _ _ _ (Same.upd fa) BF hw,st⟩
  obtain⟨h0,fb,x,ho,nt⟩:=ha b hm
  exact⟨h0,by rw[zal (hne b hm)];exact fb,x,ho,nt⟩
theorem SlOk.live{ov:Option V}{s:Sl}(h:SlOk K Hz F H ov s){p:Addr}(hp:p∈s.ads):H p≠none:=by
 cases s with
 | un=>simp[Sl.ads] at hp
 | d x=>simp[Sl.ads] at hp
 | o q xs =>
  obtain⟨_,_,_,vs,hq,_⟩:=h
  simp[Sl.ads] at hp;subst hp;rw[hq];simp
 | oo q qs =>
  obtain⟨ev,h0,fp,hq,hqs⟩:=h
  rcases Zgp.mp hp with rfl | hp
  .rw[hq];simp
  .obtain⟨r,hr,rfl⟩:=Zg4.mp hp
   obtain⟨_,_,vs,hv,_⟩:=hqs r hr
   rw[hv];simp
 | g v as W =>
  obtain⟨ev,ha,hw,st⟩:=h
  obtain⟨_,_,x,ho,_⟩:=ha p hp
  rw[ho];simp
end
section
variable{K:Zgh}{G Hz L F H F' H':Hp}{σ:St}{ss:List Sl}
theorem Sat.ext2(S:Sat K G Hz L F H σ ss)(e:Ext F H F' H'):Sat K G Hz L F' H' σ ss :=
 ⟨S.ext.trans e,S.fl.trans e.gf,S.len,fun i s hs=>(S.ok i s hs).ext2 e,S.nd,S.ne⟩
theorem Sat.get(S:Sat K G Hz L F H σ ss){i:Nat}{s:Sl}(hs:Ak ss s)(hn:s ≠ .un):∃v,Ak σ (some v)/\SlOk K Hz F H (some v) s:=by
 have hi:i<σ.length:=by rw[S.len];exact(Zgo.mp hs).1
 have:=S.ok i s hs
 rw[Zgf,Zgg hi] at this
 simp only[Zlj] at this
 cases hv:σ[i] with
 | none =>
  rw[hv] at this
  cases s with
  | un=>exact absurd rfl hn
  | d x=>obtain⟨v,ev,_⟩:=this;cases ev
  | o p xs=>obtain⟨ev,_⟩:=this;cases ev
  | oo p qs=>obtain⟨ev,_⟩:=this;cases ev
  | g v as W=>obtain⟨ev,_⟩:=this;cases ev
 | some v =>
  rw[hv] at this
  exact⟨v,by rw[Zgg hi,hv],this⟩
theorem Sat.getD(S:Sat K G Hz L F H σ ss){i:Nat}{x:D}(hs:Ak ss (.d x)):∃v,Ak σ (some v)/\Rep K F x v:=by
 obtain⟨v,e,w,ew,r⟩:=S.get hs (by intro z;cases z)
 cases ew
 exact⟨v,e,r⟩
theorem Sat.getO(S:Sat K G Hz L F H σ ss){i:Nat}{p:Addr}{xs:Ae}(hs:Ak ss (.o p xs)):Ak σ (some AO)/\OwnL K Hz F H p xs:=by
 obtain⟨v,e,ew,r⟩:=S.get hs (by intro z;cases z)
 cases ew
 exact⟨e,r⟩
theorem zdh{σ:St}{i:Nat}{v:Option V}(h:i<σ.length):(σ.set i v).getD i none=v:=by
 rw[Zgf,Zji h];rfl
theorem ze1{σ:St}{i j:Nat}{v:Option V}(h:i≠j):(σ.set i v).getD j none=σ.getD j none:=by
 rw[Zgf,Zj0 h,Zgf]
theorem zfq{i j:Nat}{s t:Sl}(h:Ax (ss.set i s) j t):(i=j/\t=s/\i<ss.length)\/(i≠j/\Ax ss j t):=by
 by_cases hj:i=j
 .subst hj
  have hi:=(Zgo.mp h).1
  rw[Zqw] at hi
  rw[Zji hi] at h
  exact .inl ⟨rfl,(Zim h).symm,hi⟩
 .rw[Zj0 hj] at h;exact .inr ⟨hj,h⟩
theorem Sat.put{σ':St}(S:Sat K G Hz L F H σ ss){i:Nat}{s:Sl}(ex:Ext G Hz F' H')(fl:Same L F')(hl:σ'.length=σ.length)(hσ:∀j,j≠i->σ'.getD j none=σ.getD j none)(hi:i<ss.length->SlOk K Hz F' H' (σ'.getD i none) s)
  (nd:s.ads.Nodup) (dj:∀(j:Nat) s',j≠i->Ax ss j s'-> ∀p∈s.ads,p∉s'.ads) (st:∀(j:Nat) s',j≠i->Ax ss j s'->SlOk K Hz F' H' (σ.getD j none) s'):Sat K G Hz L F' H' σ' (ss.set i s):=by
 refine⟨ex,fl,by rw[Zqw,hl,S.len],fun j t ht=>?_,fun j t ht=>?_,fun j k t u hjk ht hu=>?_⟩
 .rcases zfq ht with ⟨rfl,rfl,hlt⟩ | ⟨hj,ht⟩
  .exact hi hlt
  .rw[hσ j (Zh1 hj)];exact st j t (Zh1 hj) ht
 .rcases zfq ht with ⟨rfl,rfl,_⟩ | ⟨hj,ht⟩
  .exact nd
  .exact S.nd j t ht
 .rcases zfq ht with ⟨rfl,rfl,_⟩ | ⟨hj,ht'⟩
  .rcases zfq hu with ⟨rfl,rfl,_⟩ | ⟨hk,hu'⟩
   .exact absurd rfl hjk
   .exact dj k u (Zh1 hk) hu'
  .rcases zfq hu with ⟨rfl,rfl,_⟩ | ⟨hk,hu'⟩
   .exact fun p hp hp'=>dj j t (Zh1 hj) ht' p hp' hp
   .exact S.ne j k t u hjk ht' hu'
theorem Sat.setD(S:Sat K G Hz L F H σ ss){i:Nat}{x:D}{v:V}(r:Rep K F x v):Sat K G Hz L F H (σ.set i (some v)) (ss.set i (.d x)) :=
 S.put S.ext S.fl (by simp) (fun j hj=>ze1 (Zh1 hj)) (fun hi=>by rw[zdh (by rw[S.len];exact hi)];exact⟨v,rfl,r⟩) (by simp[Sl.ads]) (fun _ _ _ _ p hp=>by simp[Sl.ads] at hp) fun j s' _ h=>S.ok j s' h
theorem Sat.setO(S:Sat K G Hz L F H σ ss){i:Nat}{xs:Ae}{p:Addr}(r:OwnL K Hz F H p xs)(hne:∀(j:Nat) s',j≠i->Ax ss j s'->p∉s'.ads):Sat K G Hz L F H (σ.set i (some AO)) (ss.set i (.o p xs)) :=
 S.put S.ext S.fl (by simp) (fun j hj=>ze1 (Zh1 hj)) (fun hi=>by rw[zdh (by rw[S.len];exact hi)];exact⟨rfl,r⟩) (by simp[Sl.ads]) (fun j s' hj h q hq=>by simp[Sl.ads] at hq;subst hq;exact hne j s' hj h) fun j s' _ h=>S.ok j s' h
theorem Sat.write(S:Sat K G Hz L F H σ ss){i:Nat}{xs ys:Ae}{p:Addr}{vs:Ao}(hs:Ak ss (.o p xs))(r:AB F ys vs):Sat K G Hz L F (upd H p (.lst vs)) σ (ss.set i (.o p ys)):=by
 obtain⟨e,h0,fp,ws,hp,_⟩:=S.getO hs
 have hget:Aa (σ.getD i none) AO:=by rw[Zgf,e];rfl
 refine S.put (S.ext.write fp h0) S.fl rfl BF (fun _=>by rw[hget];exact⟨rfl,h0,fp,vs,zam,r⟩) (by simp[Sl.ads]) (fun j s' hj h q hq=>?_) fun j s' hj h=>(S.ok j s' h).updNe (S.ne i j _ s' (Zh1 hj) hs h p (by simp[Sl.ads]))
 simp[Sl.ads] at hq;subst hq
 exact S.ne i j _ s' (Zh1 hj) hs h q (by simp[Sl.ads])
theorem Sat.freeze(S:Sat K G Hz L F H σ ss){i:Nat}{p:Addr}{xs:Ae}(hs:Ak ss (.o p xs)):∃F',Sat K G Hz L F' H σ (ss.set i (A4 xs)):=by
 obtain⟨e,h0,fp,vs,hp,r⟩:=S.getO hs
 have hget:Aa (σ.getD i none) AO:=by rw[Zgf,e];rfl
 exact⟨upd F p (.lst vs),S.put (S.ext.freeze fp h0 hp) (S.fl.trans (Same.upd fp)) rfl BF (fun _=>by rw[hget];exact⟨_,rfl,Rep.lst (SqL.of zam) (r.mono (Same.upd fp))⟩) (by simp[Sl.ads]) (fun _ _ _ _ q hq=>by simp[Sl.ads] at hq)
  fun j s' hj h=>(S.ok j s' h).frz fp (S.ne i j _ s' (Zh1 hj) hs h p (by simp[Sl.ads]))⟩
theorem Sat.raise(S:Sat K G Hz L F H σ ss):Sat K G Hz F F H σ ss:=⟨S.ext,Same.refl _,S.len,S.ok,S.nd,S.ne⟩
theorem Sat.lower{L':Hp}(S:Sat K G Hz L' F H σ ss)(h:Same L L'):Sat K G Hz L F H σ ss:=⟨S.ext,h.trans S.fl,S.len,S.ok,S.nd,S.ne⟩
end
section
variable(K:Zgh)(G Hz L:Hp)(ss:List Sl)
noncomputable def Ev(t:TE)(d:D):Prop:=∀F H σ Q,Sat K G Hz L F H σ ss->(∀v F' H',Ext F H F' H'->Rep K F' d v->Q v H')->t σ H Q
noncomputable def EvO(t:TE)(ds:Ae):Prop:=∀F H σ Q,Sat K G Hz L F H σ ss->(∀p vs F' H',Ext F H F' H'->H p=none->F' p=none->Aa (H' p) (.lst vs)->AB F' ds vs->Q AO H')->t σ H Q
noncomputable def EvL(t:TE)(ds:Ae):Prop:=∀F H σ Q,Sat K G Hz L F H σ ss->(∀p vs F' H',Ext F H F' H'->SqL K H' p vs->AB F' ds vs->Q AO H')->t σ H Q
noncomputable def EvB(t:TE)(d:D):Prop:=∀F H σ Q,Sat K G Hz L F H σ ss->(∀v F' H',Ext F H F' H'->Rep K H' d v->Q v H')->t σ H Q
noncomputable def EvT(t:TT)(b:Bool):Prop:=∀F H σ (Q:Bool->Af Hp),Sat K G Hz L F H σ ss->(∀F' H',Ext F H F' H'->Q b H')->t σ H Q
noncomputable def EvA(t:TA)(ds:Ae):Prop:=∀F H σ (Q:Ao->Af Hp),Sat K G Hz L F H σ ss->(∀vs F' H',Ext F H F' H'->AB H' ds vs->Q vs H')->t σ H Q
noncomputable def EvAF(t:TA)(ds:Ae):Prop:=∀F H σ (Q:Ao->Af Hp),Sat K G Hz L F H σ ss->(∀vs F' H',Ext F H F' H'->AB F' ds vs->Q vs H')->t σ H Q
end
section
variable{K:Zgh}{G Hz L:Hp}{ss:List Sl}{t ta tb:TE}{d d1 d2:D}{ds es:List D}
theorem EvO.ev(h:EvO K G Hz L ss t ds):Ap K G L t (.lst ds):=fun F H σ Q S q=>h F H σ Q S fun p vs F' H' e hp fp hp' r=>q _ _ _ (e.freeze fp hp hp') (Rep.lst (SqL.of zam) (r.mono (Same.upd fp)))
theorem EvO.l(h:EvO K G Hz L ss t ds):EvL K G Hz L ss t ds:=fun F H σ Q S q=>h F H σ Q S fun p vs F' H' e hp fp hp' r=>q _ _ _ _ e (SqL.of hp') r
theorem Ev.l(h:Ap K G L t (.lst ds)):EvL K G Hz L ss t ds:=fun F H σ Q S q=>h F H σ Q S fun v F' H' e r=>by
 obtain⟨p,xs,rfl,sq,rs⟩:=r.of_lst
 exact q _ _ _ _ e (SqL.same e.fh sq) rs
theorem Ev.b(h:Ap K G L t d):BM K G L t d:=fun F H σ Q S q=>h F H σ Q S fun v F' H' e r=>q _ _ _ e (r.mono e.fh)
theorem zac{i:Nat}(hs:Ak ss (.d d)):Ap K G L (tVar i) d:=fun F H σ Q S q=>by
 obtain⟨v,e,r⟩:=S.getD hs
 exact⟨v,e,q _ _ _ (Ext.refl S.ext.fh) r⟩
theorem zde{i:Nat}{p:Addr}(hs:Ak ss (.o p ds)):EvL K G Hz L ss (tVar i) ds:=fun F H σ Q S q=>by
 obtain⟨e,h0,fp,vs,hp,r⟩:=S.getO hs
 exact⟨AO,e,q _ _ _ _ (Ext.refl S.ext.fh) (SqL.of hp) r⟩
theorem zag{i:Int}:Ap K G L (tC (.int i)) (.int i):=fun F H σ Q S q=>q _ _ _ (Ext.refl S.ext.fh) Rep.int
theorem ydr{b:Bool}:Ap K G L (tC (.bl b)) (.bl b):=fun F H σ Q S q=>q _ _ _ (Ext.refl S.ext.fh) Rep.bl
theorem zau{x:Str}{l:Ac}(h:x=T l)(ha:∀c∈l,c<128):Ap K G L (tC (.str x)) (.str l):=fun F H σ Q S q=>by subst h;exact q _ _ _ (Ext.refl S.ext.fh) (Rep.str ha)
theorem zdf{r:R2}{w:V}(a:BM K G L ta d1)(b:BM K G L tb d2)(hr:∀H x y (Q:VK),Rep K H d1 x->Rep K H d2 y->Q w H->r x y H Q)(hw:∀F H x y,Rep K H d1 x->Rep K H d2 y->Rep K F d w):Ap K G L (tOp r ta tb) d:=fun F H σ Q S q =>
 a F H σ _ S fun x F1 H1 e1 r1=>b F1 H1 σ _ A9 fun y F2 H2 e2 r2=>hr H2 x y Q (r1.mono e2.hh) r2 (q _ _ _ Bn (hw _ _ _ _ (r1.mono e2.hh) r2))
theorem zjg{i j:Int}(a:Bj K G L ta i)(b:Bj K G L tb j):Ap K G L (tOp (rI0 fun i j=>.int (i+j)) ta tb) (.int (i+j)) :=
 zdf a b (fun H x y Q r1 r2 q=>⟨i,j,r1.of_int,r2.of_int,q⟩) fun _ _ _ _ _ _=>Rep.int
theorem zus{i j:Int}(a:Bj K G L ta i)(b:Bj K G L tb j):Ap K G L (tOp (rI0 fun i j=>.int (i - j)) ta tb) (.int (i - j)) :=
 zdf a b (fun H x y Q r1 r2 q=>⟨i,j,r1.of_int,r2.of_int,q⟩) fun _ _ _ _ _ _=>Rep.int
theorem zzj{C:Int->Af Int}{g:Int->Int->Int}{i j:Int}(a:Bj K G L ta i)(b:Bj K G L tb j)(hC:C i j):Ap K G L (tOp (rI C fun i j=>.int (g i j)) ta tb) (.int (g i j)) :=
 zdf a b (fun H x y Q r1 r2 q=>⟨i,j,r1.of_int,r2.of_int,hC,q⟩) fun _ _ _ _ _ _=>Rep.int
theorem zmb{g:Int->Int->Bool}{i j:Int}(a:Bj K G L ta i)(b:Bj K G L tb j):Ap K G L (tOp (rI0 fun i j=>.bl (g i j)) ta tb) (.bl (g i j)) :=
 zdf a b (fun H x y Q r1 r2 q=>⟨i,j,r1.of_int,r2.of_int,q⟩) fun _ _ _ _ _ _=>Rep.bl
theorem zhv{i j:Int}(a:Bj K G L ta i)(b:Bj K G L tb j):Ap K G L (tOp rEq ta tb) (.bl (AC i j)) :=
 BT (.bl (AC i j)) a b (by rw[r1.of_int,r2.of_int];exact⟨rfl,by simpa using q⟩) (fun _ _ _ _ _ _=>Rep.bl)
theorem zzx{i j:Int}(a:Bj K G L ta i)(b:Bj K G L tb j):Ap K G L (tOp rNe ta tb) (.bl (! AC i j)) :=
 BT (.bl (! AC i j)) a b (by rw[r1.of_int,r2.of_int];exact⟨rfl,by simpa using q⟩) (fun _ _ _ _ _ _=>Rep.bl)
theorem zhc{l m:Ac}(a:A8 K G L ta l)(b:A8 K G L tb m):Ap K G L (tOp rEq ta tb) (.bl (AC l m)) :=
 BT (.bl (AC l m)) a b (by rw[r1.of_str,r2.of_str];exact⟨rfl,by rw[zmj];exact q⟩) (fun _ _ _ _ _ _=>Rep.bl)
theorem zzo{l m:Ac}(a:A8 K G L ta l)(b:A8 K G L tb m):Ap K G L (tOp rNe ta tb) (.bl (! AC l m)) :=
 BT (.bl (! AC l m)) a b (by rw[r1.of_str,r2.of_str];exact⟨rfl,by rw[zmj];exact q⟩) (fun _ _ _ _ _ _=>Rep.bl)
theorem zbo{l m:Ac}(a:A8 K G L ta l)(b:A8 K G L tb m)(hz:AL (l.length+m.length)) :
  Ap K G L (tOp (fun x y H Q=>∃i j,x= .str i/\y= .str j/\AL (i.length+j.length)/\Q (.str (i++j)) H) ta tb) (.str (l++m)) :=
 BT (.str (T (l++m))) a b ⟨_,_,r1.of_str,r2.of_str,by rw[zbw,zbw];exact hz,by rw[ybk];exact q⟩ (fun _ _ _ _ r1 r2=>Rep.str fun c hc=>(Zhh.mp hc).elim (r1.asc c) (r2.asc c))
theorem ycg{α:Type}{xs:List α}{i:Int}{x:α}(h:Aa (atI xs i) x):x∈xs:=by
 unfold atI at h
 cases hx:ixN xs.length i with
 | none=>rw[hx] at h;cases h
 | some j=>rw[hx] at h;exact Zgs h
theorem zp9{l:Ac}{i:Int}{c:Nat}(a:A8 K G L ta l)(b:Bj K G L tb i)(hz:AL l.length)(hc:Aa (atI l i) c):Ap K G L (tOp rIxS ta tb) (.str [c]) :=
 BT (.str (T [c])) a b ⟨_,_,c,r1.of_str,r2.of_int,by rw[zbw];exact hz,by rw[ze5];exact hc,q⟩ (fun _ _ _ _ r1 r2=>Rep.str fun c' hc'=>by
  rw[Zg0.mp hc']
  exact r1.asc c (ycg hc))
theorem Reps.atI{H:Hp}{ds:Ae}{vs:Ao}{i:Int}{d:D}(r:AB H ds vs)(h:Aa (L2.atI ds i) d):∃v,Aa (L2.atI vs i) v/\Rep K H d v:=by
 unfold L2.atI at h ⊢
 rw[r.length] at h
 cases hx:ixN vs.length i with
 | none=>rw[hx] at h;cases h
 | some j=>rw[hx] at h;exact r.get' h
theorem zay{i:Int}(a:EvL K G Hz L ss ta ds)(b:Bj K G L tb i)(hc:Aa (atI ds i) d):Ap K G L (tOp (rIxL K) ta tb) d:=fun F H σ Q S q =>
 a F H σ _ S fun p vs F1 H1 e1 sq r1=>b F1 H1 σ _ A9 fun y F2 H2 e2 r2=>by
  obtain⟨v,hv,rv⟩:=r1.atI hc
  exact⟨p,vs,i,v,rfl,r2.of_int,SqL.same e2.hh sq,hv,q _ _ _ Bn (rv.mono e2.gf)⟩
theorem ydo{i:Int}(a:Ap K G L ta (.tup ds))(b:Bj K G L tb i)(hc:Aa (atI ds i) d):Ap K G L (tOp (rIxT K) ta tb) d:=fun F H σ Q S q =>
 a F H σ _ S fun x F1 H1 e1 r1=>b F1 H1 σ _ A9 fun y F2 H2 e2 r2=>by
  obtain⟨p,vs,rfl,sq,rs⟩:=r1.of_tup
  obtain⟨v,hv,rv⟩:=rs.atI hc
  exact⟨p,vs,i,v,rfl,r2.of_int,SqT.same (e1.fh.trans e2.hh) sq,hv,q _ _ _ Bn (rv.mono e2.gf)⟩
theorem zlm:EvA K G Hz L ss tNil []:=fun F H σ Q S q=>q _ _ _ (Ext.refl S.ext.fh) Reps.nil
theorem zib{t:TA}(a:BM K G L ta d)(b:EvA K G Hz L ss t ds):EvA K G Hz L ss (zbb ta t) (d::ds):=fun F H σ Q S q =>
 a F H σ _ S fun x F1 H1 e1 r1=>b F1 H1 σ _ A9 fun vs F2 H2 e2 r2=>q _ _ _ Bn (Reps.cons (r1.mono e2.hh) r2)
theorem zaf:EvAF K G Hz L ss tNil []:=fun F H σ Q S q=>q _ _ _ (Ext.refl S.ext.fh) Reps.nil
theorem zab{t:TA}(a:Ap K G L ta d)(b:EvAF K G Hz L ss t ds):EvAF K G Hz L ss (zbb ta t) (d::ds):=fun F H σ Q S q =>
 a F H σ _ S fun x F1 H1 e1 r1=>b F1 H1 σ _ A9 fun vs F2 H2 e2 r2=>q _ _ _ Bn (Reps.cons (r1.mono e2.gf) r2)
theorem zm4{t:TA}(a:EvAF K G Hz L ss t ds)(hz:AL ds.length):Ap K G L (tTup t) (.tup ds):=fun F H σ Q S q =>
 a F H σ _ S fun vs F1 H1 e1 r1=>⟨by rw[<- r1.length];exact hz,fun p hp=>q _ _ _ (e1.newF hp) (Rep.tupN (zam) (r1.mono (Same.upd (e1.fh.free hp))))⟩
theorem zbr{t:TA}(a:EvAF K G Hz L ss t ds)(hz:AL ds.length):EvO K G Hz L ss (tLst t) ds:=fun F H σ Q S q =>
 a F H σ _ S fun vs F1 H1 e1 r1=>⟨by rw[<- r1.length];exact hz,fun p hp=>q p vs F1 _ (e1.newO hp) (e1.hh.free hp) (e1.fh.free hp) zam r1⟩
theorem zap{b:Bool}(a:Ap K G L t (.bl b)):EvT K G Hz L ss (zx1 t) b:=fun F H σ Q S q=>a F H σ _ S fun v F' H' e r=>⟨b,r.of_bl,q _ _ e⟩
theorem zul{b:Bool}(a:Ap K G L t (.bl b)):EvT K G Hz L ss (tB t) b:=fun F H σ Q S q=>a F H σ _ S fun v F' H' e r=>⟨b,r.of_bl,q _ _ e⟩
theorem zme{u:TT}{b:Bool}(a:EvT K G Hz L ss u b):EvT K G Hz L ss (tNot u) (!b):=fun F H σ Q S q=>a F H σ _ S fun F' H' e=>q _ _ e
theorem zfu{u v:TT}{b c:Bool}(a:EvT K G Hz L ss u b)(h:Ab b->EvT K G Hz L ss v c):EvT K G Hz L ss (tAnd u v) (b&&c):=fun F H σ Q S q=>a F H σ _ S fun F' H' e=>by
 cases b with
 | false=>exact iteF (q _ _ e)
 | true=>exact iteT (h rfl _ _ _ _ (S.ext2 e) fun F'' H'' e'=>q _ _ (e.trans e'))
theorem zvr{u v:TT}{b c:Bool}(a:EvT K G Hz L ss u b)(h:Am b->EvT K G Hz L ss v c):EvT K G Hz L ss (tOr u v) (b||c):=fun F H σ Q S q=>a F H σ _ S fun F' H' e=>by
 cases b with
 | true=>exact iteT (q _ _ e)
 | false=>exact iteF (h rfl _ _ _ _ (S.ext2 e) fun F'' H'' e'=>q _ _ (e.trans e'))
theorem ztz{b c:Bool}(a:Ap K G L ta (.bl b))(h:Ab b->Ap K G L tb (.bl c)):Ap K G L (yer ta tb) (.bl (b&&c)):=fun F H σ Q S q=>a F H σ _ S fun v F' H' e r=>by
 refine⟨b,r.of_bl,?_⟩
 cases b with
 | false=>exact iteF (q _ _ _ e Rep.bl)
 | true=>exact iteT (h rfl _ _ _ _ (S.ext2 e) fun v F'' H'' e' r'=>q _ _ _ (e.trans e') r')
theorem yf2{b c:Bool}(a:Ap K G L ta (.bl b))(h:Am b->Ap K G L tb (.bl c)):Ap K G L (tOrV ta tb) (.bl (b||c)):=fun F H σ Q S q=>a F H σ _ S fun v F' H' e r=>by
 refine⟨b,r.of_bl,?_⟩
 cases b with
 | true=>exact iteT (q _ _ _ e Rep.bl)
 | false=>exact iteF (h rfl _ _ _ _ (S.ext2 e) fun v F'' H'' e' r'=>q _ _ _ (e.trans e') r')
end
noncomputable def SpD(K:Zgh)(pre:Af Ae)(res:Ae->D):Sp:=fun vs H Q _=>∃G ds,Same G H/\AB G ds vs/\pre ds /\ ∀v G' H',Ext G H G' H'->Rep K G' (res ds) v->Q v H'
noncomputable def SpO(K:Zgh)(pre:Af Ae)(res:Ae->Ae):Sp:=fun vs H Q _=>∃G ds,Same G H/\AB G ds vs/\pre ds /\ ∀p ws G' H',Ext G H G' H'->H p=none->G' p=none->Aa (H' p) (.lst ws)->AB G' (res ds) ws->Q AO H'
noncomputable def D.flat:D->Bool
 | .lst _=>false | .tup _=>false | .dct _ _=>false | .dctT _ _=>false | .ins _ _ _=>false | _=>true
theorem Rep.flat{K:Zgh}{H H':Hp}{d:D}{v:V}(f:Ab d.flat)(r:Rep K H d v):Rep K H' d v:=by
 cases d with
 | lst _=>cases f
 | tup _=>cases f
 | dct _ _=>cases f
 | dctT _ _=>cases f
 | ins _ _ _=>cases f
 | non=>rw[r.of_non];exact Rep.non
 | bl b=>rw[r.of_bl];exact Rep.bl
 | int i=>rw[r.of_int];exact Rep.int
 | str l=>rw[r.of_str];exact Rep.str r.asc
section
variable{K:Zgh}{G Hz L:Hp}{ss:List Sl}{t:TA}{ds:List D}{pre:List D->Prop}{E:XK}
theorem zbq{res:Ae->D}(a:EvAF K G Hz L ss t ds)(hp:pre ds):Ap K G L (zka (SpD K pre res) [] E t) (res ds):=fun F H σ Q S q =>
 a F H σ _ S fun vs F1 H1 e1 r1=>⟨F1,ds,e1.fh,by rw[Zh0];exact r1,hp,fun v G' H' e2 r=>q _ _ _ Bn r⟩
theorem zhb{res:Ae->Ae}(a:EvAF K G Hz L ss t ds)(hp:pre ds):EvO K G Hz L ss (zka (SpO K pre res) [] E t) (res ds):=fun F H σ Q S q =>
 a F H σ _ S fun vs F1 H1 e1 r1=>⟨F1,ds,e1.fh,by rw[Zh0];exact r1,hp,fun p ws G' H' e2 h1 h2 h3 r=>q _ _ _ _ Bn (e1.hh.free h1) h2 h3 r⟩
end
section
variable(K:Zgh)(G Hz L:Hp)
noncomputable def Nx(P:St->Af Hp)(ss:List Sl):Prop:=∀F H σ,Sat K G Hz L F H σ ss->P σ H
noncomputable def Go(E:Ends)(ss:List Sl)(t:TS):Prop:=∀F H σ,Sat K G Hz L F H σ ss->t E σ H
noncomputable def Tg(g:TG)(d:D)(ss ss':List Sl):Prop:=∀F H σ v (Q:St->Af Hp),Sat K G Hz L F H σ ss->Rep K F d v->(∀σ' , Sat K G Hz L F H σ' ss'->Q σ' H)->g v σ H Q
noncomputable def Tgs(g:TGs)(ds:Ae)(ss ss':List Sl):Prop:=∀F H σ vs (Q:St->Af Hp),Sat K G Hz L F H σ ss->AB F ds vs->(∀σ' , Sat K G Hz L F H σ' ss'->Q σ' H)->g vs σ H Q
noncomputable def At(I:Af (List Sl)):St->Af Hp:=fun σ H=>∃ss F,Sat K G Hz L F H σ ss/\I ss
end
noncomputable def RtD(K:Zgh)(G Hz:Hp)(rt:VK)(d:D):Prop:=∀v F H,Ext G Hz F H->Rep K F d v->rt v H
noncomputable def RtO(K:Zgh)(G Hz:Hp)(rt:VK)(ds:Ae):Prop:=∀p vs F H,Ext G Hz F H->Hz p=none->F p=none->Aa (H p) (.lst vs)->AB F ds vs->rt AO H
section
variable{K:Zgh}{G Hz L:Hp}{ss ss':List Sl}{E:Ends}{t u:TS}{te:TE}{d:D}{ds:List D}{P:St->Hp->Prop}
theorem zan(h:Go K G Hz L { E with nx:=u E } ss t):Go K G Hz L E ss (tSeq t u):=h
theorem zco{i:Nat}(a:Ap K G L te d)(h:Nx K G Hz L E.nx (ss.set i (.d d))):Go K G Hz L E ss (tAsg te (zho i)):=fun F H σ S=>a F H σ _ S fun v F' H' e r=>h F' H' _ ((S.ext2 e).setD r)
theorem Sat.notin{F H:Hp}{σ:St}{p:Addr}(S:Sat K G Hz L F H σ ss)(hp:H p=none)(j:Nat)(s:Sl)(h:Ax ss j s):p∉s.ads:=fun z=>(S.ok j s h).live z hp
theorem Sat.newO{F H F' H':Hp}{σ:St}{p:Addr}{vs:Ao}{i:Nat}(S:Sat K G Hz L F H σ ss)(e:Ext F H F' H')(hp:H p=none)(fp:F' p=none)(hp':Aa (H' p) (.lst vs))(r:AB F' ds vs):Sat K G Hz L F' H' (σ.set i (some AO)) (ss.set i (.o p ds)) :=
 (S.ext2 e).setO ⟨S.ext.hh.free hp,fp,vs,hp',r⟩ fun j s _ h=>S.notin hp j s h
theorem zci{i:Nat}(a:EvO K G Hz L ss te ds)(h:∀p,Nx K G Hz L E.nx (ss.set i (.o p ds))):Go K G Hz L E ss (tAsg te (zho i)):=fun F H σ S=>a F H σ _ S fun p vs F' H' e hp fp hp' r=>h p F' H' _ (S.newO e hp fp hp' r)
theorem yd3{g:TG}(a:Ap K G L te d)(hg:Tg K G Hz L g d ss ss')(h:Nx K G Hz L E.nx ss'):Go K G Hz L E ss (tAsg te g):=fun F H σ S=>a F H σ _ S fun v F' H' e r=>hg F' H' σ v _ (S.ext2 e) r fun σ' S'=>h F' H' σ' S'
theorem zwq(a:BM K G L te d)(h:Nx K G Hz L E.nx ss):Go K G Hz L E ss (zum te):=fun F H σ S=>a F H σ _ S fun v F' H' e r=>h F' H' _ (S.ext2 e)
theorem zcg{c:TT}{b:Bool}(a:EvT K G Hz L ss c b)(h1:Ab b->Go K G Hz L E ss t)(h2:Am b->Go K G Hz L E ss u):Go K G Hz L E ss (tIfS c t u):=fun F H σ S=>a F H σ _ S fun F' H' e=>by
 cases b with
 | true=>exact iteT (h1 rfl F' H' σ (S.ext2 e))
 | false=>exact iteF (h2 rfl F' H' σ (S.ext2 e))
theorem za5(h:Nx K G Hz L E.nx ss):Go K G Hz L E ss ydl:=h
theorem zbs(a:Ap K G L te d)(h:RtD K G Hz E.rt d):Go K G Hz L E ss (tRet te):=fun F H σ S=>a F H σ _ S fun v F' H' e r=>h v F' H' (S.ext.trans e) r
theorem zir(a:EvO K G Hz L ss te ds)(h:RtO K G Hz E.rt ds):Go K G Hz L E ss (tRet te):=fun F H σ S=>a F H σ _ S fun p vs F' H' e hp fp hp' r=>h p vs F' H' (S.ext.trans e) (S.ext.hh.free hp) fp hp' r
theorem zsu{i:Nat}{p:Addr}(hs:Ak ss (.o p ds))(h:RtO K G Hz E.rt ds):Go K G Hz L E ss (tRet (tVar i)):=fun F H σ S=>by
 obtain⟨e,h0,fp,vs,hp,r⟩:=S.getO hs
 exact⟨AO,e,h p vs F H S.ext h0 fp hp r⟩
theorem zc4{i:Nat}{p:Addr}(hs:Ak ss (.o p ds))(h:Nx K G Hz L P (ss.set i (A4 ds))):Nx K G Hz L P ss:=fun F H σ S=>by
 obtain⟨F',S'⟩:=S.freeze hs
 exact h F' H σ S'
theorem zaz(h:Go K G Hz L E ss t):Nx K G Hz L (t E) ss:=h
theorem zxn{I:Af (List Sl)}(h:I ss):Nx K G Hz L (At K G Hz L I) ss:=fun F H σ S=>⟨ss,F,S,h⟩
theorem zwa(I:Af (List Sl))(h1:∀N:St->Af Hp,(∀ss,I ss->Nx K G Hz L N ss)->Go K G Hz L { E with nx:=N } ss t)(h2:∀ss,I ss->Go K G Hz L E ss u):Go K G Hz L E ss (tSeq t u):=h1 _ h2
theorem zav{i:Nat}:Tg K G Hz L (zho i) d ss (ss.set i (.d d)):=fun F H σ v Q S r q=>q _ (S.setD r)
theorem zfe:Tgs K G Hz L gNil [] ss ss:=fun F H σ vs Q S r q=>by
 rw[Reps] at r
 exact⟨r,q _ S⟩
theorem zbc{g:TG}{gs:TGs}{ss1 ss2:List Sl}(a:Tg K G Hz L g d ss ss1)(b:Tgs K G Hz L gs ds ss1 ss2):Tgs K G Hz L (ycc g gs) (d::ds) ss ss2:=fun F H σ vs Q S r q=>by
 rw[Reps] at r
 obtain⟨x,xs,rfl,r1,r2⟩:=r
 exact(AM x xs (a F H σ x _ S r1 fun σ' S'=>b F H σ' xs _ S' r2 q))
theorem zkr{g:TGs}{n:Nat}(hn:ds.length=n)(a:Tgs K G Hz L g ds ss ss'):Tg K G Hz L (gTup K n g) (.tup ds) ss ss':=fun F H σ v Q S r q=>by
 obtain⟨p,xs,rfl,sq,rs⟩:=r.of_tup
 exact⟨p,xs,rfl,SqT.same S.ext.fh sq,by rw[<- rs.length];exact hn,a F H σ xs _ S rs q⟩
theorem zw7{i:Nat}{p:Addr}{t1:TE}(hs:Ak ss (.o p ds))(a:Ap K G L t1 d)(hz:ds.length<sizeLine)(h:Nx K G Hz L E.nx (ss.set i (.o p (ds++[d])))) :
  Go K G Hz L E ss (zum (tBM K "list" zor (tVar i) (zbb t1 tNil))):=fun F H σ S=>by
 obtain⟨e,h0,fp,vs,hp,r⟩:=S.getO hs
 refine⟨AO,e,.inl ⟨rfl,_,SqL.of hp⟩,a F H σ _ S fun v F' H' e' r'=>?_⟩
 have S':=S.ext2 e'
 obtain⟨e2,h02,fp2,vs',hp2,r2⟩:=S'.getO hs
 exact⟨p,vs',v,rfl,rfl,hp2,by rw[<- r2.length];exact hz,h F' _ σ (S'.write hs (r2.snoc r'))⟩
theorem Rep.itl{F H:Hp}{p:Addr}(h:Same F H)(r:Rep K F (.lst ds) AO):∃vs,SqL K H p vs/\AB F ds vs:=by
 obtain⟨q,xs,e,sq,rs⟩:=r.of_lst
 cases e
 exact⟨xs,SqL.same h sq,rs⟩
theorem zky{tl:TE}{g:TG}{tb:TS}{α:Type}(enc:α->D)(xs:List α)(I:Nat->Af (List Sl))(a:Ap K G L tl (.lst (xs.map enc)))(h0:I 0 ss)
  (hs:∀L' k x ss,Same L L'->Ax xs k x->I k ss-> ∃ss',Tg K G Hz L' g (enc x) ss ss' /\ ∀N,(∀ss,I (k+1) ss->Nx K G Hz L' N ss)->Go K G Hz L' { E with nx:=N,ct:=N,bk:=E.nx } ss' tb)
  (hd:∀ss,I xs.length ss->Nx K G Hz L E.nx ss):Go K G Hz L E ss (tFor (zvu K tl) g tb):=fun F H σ S =>
 BK F H σ _ S (by
  obtain⟨p,vs,rfl,sq,rs⟩:=r1.of_lst
  refine⟨p,rfl,⟨vs,SqL.same e1.fh sq⟩,?_⟩
  refine⟨fun i m σ' H'=>m=xs.length - i/\i<=xs.length/\At K G Hz F1 (I i) σ' H',⟨_,rfl,Zhr _,ss,F1,(A9).raise,h0⟩,?_⟩
  rintro i m σ' H' ⟨rfl,hi,ss1,F2,S2,h2⟩
  have rp:Rep K F2 (.lst (xs.map enc)) AO:=r1.mono S2.fl
  obtain⟨ws,sq2,rs2⟩:=rp.itl S2.ext.fh
  have hlen:ws.length=xs.length:=by rw[<- rs2.length,Zgn]
  by_cases hlt:i<xs.length
  .refine .inr ⟨⟨ws,ws[i]'(by lia),sq2,Zgg _⟩,fun σ'' H''=>At K G Hz F1 (I (i+1)) σ'' H'',fun σ'' H'' h=>⟨xs.length - (i+1),by lia,rfl,hlt,h⟩,fun x H'' y=>?_⟩
   obtain⟨rfl,y⟩:=y
   have hx:=y ws sq2
   obtain⟨dx,hdx,rx⟩:=rs2.get hx
   rw[Zgy,Zgg hlt] at hdx
   cases hdx
   obtain⟨ss',tg,go⟩:=hs F1 i _ ss1 (S.fl.trans e1.gf) (Zgg hlt) h2
   exact tg F2 _ σ' x _ S2 rx fun σ3 S3=>go _ (fun ss h=>zxn h) F2 _ σ3 S3
  .have e:i=xs.length:=by lia
   subst e
   exact .inl ⟨⟨ws,sq2,by lia⟩,hd ss1 h2 F2 H' σ' (S2.lower (S.fl.trans e1.gf))⟩)
theorem zli{ta:TA}{j:Nat}{tb:TS}{n:Int}(I:Nat->Af (List Sl))(a:EvA K G Hz L ss ta [.int n])(hb : -(2 ^ 62)<=n/\n<2 ^ 62)(h0:I 0 ss)
  (hs:∀(k:Nat) ss,(k:Int)<n->I k ss-> ∀N,(∀ss,I (k+1) ss->Nx K G Hz L N ss)->Go K G Hz L { E with nx:=N,ct:=N,bk:=E.nx } (ss.set j (.d (.int (k:Int)))) tb)
  (hd:∀ss,I n.toNat ss->Nx K G Hz L E.nx ss) {ti:TI} (hti:∀σ H R,(ta σ H fun vs H1=>∃m:Int,vs=[.int m] /\ -(2 ^ 62)<=m/\m<2 ^ 62/\R (Itr 0 m.toNat) H1)->ti σ H R):Go K G Hz L E ss (tFor ti (zho j) tb):=fun F H σ S=>by
 refine hti σ H _ (a F H σ _ S fun vs F1 H1 e1 r1=>?_)
 rw[Reps] at r1
 obtain⟨x,r,rfl,rx,r1⟩:=r1
 rw[Reps] at r1
 subst r1
 rw[rx.of_int]
 refine⟨n,rfl,hb.1,hb.2,fun i m σ' H'=>m=n.toNat - i/\i<=n.toNat/\At K G Hz L (I i) σ' H',⟨_,rfl,Zhr _,ss,F1,A9,h0⟩,?_⟩
 rintro i m σ' H' ⟨rfl,hi,ss1,F2,S2,h2⟩
 by_cases hlt:i<n.toNat
 .refine .inr ⟨hlt,fun σ'' H''=>At K G Hz L (I (i+1)) σ'' H'',fun σ'' H'' h=>⟨n.toNat - (i+1),by lia,rfl,hlt,h⟩,fun x H'' y=>?_⟩
  obtain⟨rfl,rfl⟩:=y
  refine hs i ss1 (by omega) h2 _ (fun ss h=>zxn h) F2 _ _ ?_
  have e:(0:Int)+(i:Int)=(i:Int):=by lia
  rw[e]
  exact S2.setD Rep.int
 .have e:i=n.toNat:=by lia
  subst e
  exact .inl ⟨Ay,hd ss1 h2 F2 H' σ' S2⟩
end
mutual
noncomputable def D.toP:D->Zkk
 | .non=>.none
 | .bl b=>.bool b
 | .int i=>.int i
 | .str l=>.str (T l)
 | .lst a=>.list (D.toPs a)
 | .tup a=>.tuple (D.toPs a)
 | .dct _ _=>.none
 | .dctT _ _=>.none
 | .ins _ _ _=>.none
noncomputable def D.toPs:Ae->List Zkk
 | []=>[]
 | a::x=>a.toP::D.toPs x
end
mutual
theorem D.toP_depth:∀d:D,d.toP.depth=d.dep
 | .non=>rfl
 | .bl _=>rfl
 | .int _=>rfl
 | .str _=>rfl
 | .lst a=>by simp[D.toP,Zvp,D.dep,D.toPs_depth a]
 | .tup a=>by simp[D.toP,Zvp,D.dep,D.toPs_depth a]
 | .dct _ _=>rfl
 | .dctT _ _=>rfl
 | .ins _ _ _=>rfl
theorem D.toPs_depth:∀a:Ae,Zt3 (D.toPs a)=D.deps a
 | []=>rfl
 | d::a=>by simp[D.toPs,Zt3,D.deps,D.toP_depth d,D.toPs_depth a]
end
mutual
theorem D.eqv:∀d e:D,Ab d.nb->Ab e.nb->Zk7 d.toP e.toP=AC d e
 | .non,e,_,h2=>by cases e <;> simp[D.toP,Zk7,D.nb] at h2 ⊢
 | .bl _,_,h1,_=>by simp[D.nb] at h1
 | .dct _ _,_,h1,_=>by simp[D.nb] at h1
 | .dctT _ _,_,h1,_=>by simp[D.nb] at h1
 | .ins _ _ _,_,h1,_=>by simp[D.nb] at h1
 | .int i,e,_,h2=>by
  cases e <;> simp[D.toP,Zk7,D.nb] at h2 ⊢
  exact Bool.beq_eq_decide_eq _ _
 | .str l,e,_,h2=>by
  cases e <;> simp[D.toP,Zk7,D.nb] at h2 ⊢
  rename_i m
  rw[Ziq];simp[zvq]
 | .lst a,e,h1,h2=>by
  cases e with
  | lst b =>
   simp only[D.nb] at h1 h2
   simp only[D.toP,Zk7,D.lst.injEq]
   exact D.eqvs a b h1 h2
  | _=>simp[D.toP,Zk7,D.nb] at h2 ⊢
 | .tup a,e,h1,h2=>by
  cases e with
  | tup b =>
   simp only[D.nb] at h1 h2
   simp only[D.toP,Zk7,D.tup.injEq]
   exact D.eqvs a b h1 h2
  | _=>simp[D.toP,Zk7,D.nb] at h2 ⊢
theorem D.eqvs:∀a b:Ae,Ab (D.nbs a)->Ab (D.nbs b)->Zot (D.toPs a) (D.toPs b)=AC a b
 | [],b,_,_=>by cases b <;> simp[D.toPs,Zot]
 | d::a,b,h1,h2=>by
  cases b with
  | nil=>simp[D.toPs,Zot]
  | cons e b =>
   simp only[D.nbs,Zhe] at h1 h2
   simp only[D.toPs,Zot,D.eqv d e h1.1 h2.1,D.eqvs a b h1.2 h2.2,Zjk]
   by_cases x:d=e <;> by_cases y:a=b <;> simp[x,y]
end
section
variable{X:Cx}{pins:List (Addr×Obj)}{σ:St}{H:Hp}{s:Zgk}
theorem ybm{l:Ac}(h:∀c∈l,c<128):Ab (Zvo (T l)):=by
 unfold Zvo T
 simp
 intro c hc
 have:=h c hc
 lia
mutual
theorem Inv.reads(I:Ag H s):∀{d:D} {v:V} {u:Zgi},Ab d.nb->Rep X.K H d v->RelV v u->(∃as,Zzn s.heap u d.toP as)/\Ab d.toP.canLay0
 | .non,_,_,_,r,q=>by rw[r.of_non] at q;cases q;exact⟨⟨_,Reads.none⟩,rfl⟩
 | .bl b,_,_,n,_,_=>by simp[D.nb] at n
 | .dct _ _,_,_,n,_,_=>by simp[D.nb] at n
 | .dctT _ _,_,_,n,_,_=>by simp[D.nb] at n
 | .ins _ _ _,_,_,n,_,_=>by simp[D.nb] at n
 | .int i,_,_,_,r,q=>by rw[r.of_int] at q;obtain⟨t,rfl⟩:=q;exact⟨⟨_,Reads.int i t⟩,rfl⟩
 | .str l,_,_,_,r,q=>by
  have ha:=r.asc
  rw[r.of_str] at q;obtain⟨t,rfl⟩:=q
  exact⟨⟨_,Reads.str _ t⟩,ybm ha⟩
 | .lst ds,_,_,nn,r,q=>by
  obtain⟨p,xs,rfl,sq,rs⟩:=r.of_lst
  cases q
  obtain⟨its,rv,⟨o,n,e,c,_,hd⟩,_⟩:=I.list sq
  obtain⟨⟨as,ra⟩,hc⟩:=I.readsAll (by simpa[D.nb] using nn) rs rv
  exact⟨⟨_,Reads.list e c hd (by simpa using ra)⟩,by simpa[D.toP,Zl6] using hc⟩
 | .tup ds,_,_,nn,r,q=>by
  obtain⟨p,xs,rfl,sq,rs⟩:=r.of_tup
  cases q
  obtain⟨its,rv,⟨o,e,c,n,hd⟩,_⟩:=I.tuple sq
  obtain⟨⟨as,ra⟩,hc⟩:=I.readsAll (by simpa[D.nb] using nn) rs rv
  exact⟨⟨_,Reads.tuple e c hd (by simpa using ra)⟩,by simpa[D.toP,Zl6] using hc⟩
theorem Inv.readsAll(I:Ag H s):∀{ds:Ae} {vs:Ao} {us:Ar},Ab (D.nbs ds)->Reps X.K H ds vs->Vals vs us->(∃as,Zzm s.heap us (D.toPs ds) as)/\Ab (Zta (D.toPs ds))
 | [],_,_,_,r,q=>by
  rw[Reps] at r;subst r
  cases q
  exact(AF ⟨_,ReadsAll.nil⟩)
 | d::ds,_,_,n,r,q=>by
  simp only[D.nbs,Zhe] at n
  rw[Reps] at r
  obtain⟨x,xs,rfl,r1,r2⟩:=r
  cases q with
  | cons q1 q2 =>
   obtain⟨⟨as,a⟩,hc⟩:=I.reads n.1 r1 q1
   obtain⟨⟨bs,b⟩,hc2⟩:=I.readsAll n.2 r2 q2
   exact⟨⟨_,ReadsAll.cons a b⟩,by simp[D.toPs,Zta,hc,hc2]⟩
end
end
noncomputable def rNeD(K:Zgh):R2:=fun x y H Q=>∃d e,Rep K H d x/\Rep K H e y/\Ab d.nb/\Ab e.nb/\d.dep<=60/\Q (.bl (! AC d e)) H
section
variable{X:Cx}
theorem yc6(hu:X.A.units+64<Zl2):OpR X (Zjz .NotEq) (rNeD X.K):=by
 intro pins s σ H x y v u Q I rx ry h
 obtain⟨d,e,r1,r2,n1,n2,hd,q⟩:=h
 obtain⟨⟨as,a⟩,c1⟩:=I.reads n1 r1 rx
 obtain⟨⟨bs,b⟩,c2⟩:=I.reads n2 r2 ry
 have h1:=D.toP_depth d
 refine SeqAt.compareNe_reads a b c1 c2 (by lia) ?_
 rw[D.eqv d e n1 n2]
 exact⟨.bl _,H,I,rfl,q⟩
theorem zl4(d:D)(hd:Ab d.nb):∀ds:Ae,Ab (D.nbs ds)->((D.toPs ds).any fun y=>Zk7 y d.toP)=AE d ds
 | [],_=>by simp[D.toPs]
 | e::ds,h=>by
  simp only[D.nbs,Zhe] at h
  rw[D.toPs,Zl0,zl4 d hd ds h.2,D.eqv e d h.1 hd]
  by_cases x:e=d
  .subst x;simp
  .have:¬ d=e:=fun z=>x z.symm
   simp[x,this]
noncomputable def rInD(K:Zgh)(neg:Bool):R2:=fun x y H Q=>∃d ds,Rep K H d x/\(Rep K H (.lst ds) y\/Rep K H (.tup ds) y)/\Ab d.nb/\Ab (D.nbs ds)/\d.dep<=60/\Q (.bl (if neg then ! AE d ds else AE d ds)) H
theorem zjm(hu:X.A.units+64<Zl2):OpR X (Zjz .In) (rInD X.K false):=by
 intro pins s σ H x y v u Q I rx ry h
 obtain⟨d,ds,r1,r2,n1,n2,hd,q⟩:=h
 obtain⟨⟨as,a⟩,c1⟩:=I.reads n1 r1 rx
 have h1:=D.toP_depth d
 have fin:EP X pins σ Q (.bool ((D.toPs ds).any fun y=>Zk7 y d.toP)) s:=by rw[zl4 d n1 ds n2];exact⟨.bl _,H,I,rfl,q⟩
 rcases r2 with r2 | r2
 .obtain⟨⟨bs,b⟩,c2⟩:=I.reads (by simpa[D.nb] using n2) r2 ry
  rw[D.toP] at b c2
  exact SeqAt.in_list_reads b a (by simpa[Zl6] using c2) c1 (by lia) fin
 .obtain⟨⟨bs,b⟩,c2⟩:=I.reads (by simpa[D.nb] using n2) r2 ry
  rw[D.toP] at b c2
  exact SeqAt.in_tuple_reads b a (by simpa[Zl6] using c2) c1 (by lia) fin
theorem zmo(hu:X.A.units+64<Zl2):OpR X (Zjz .NotIn) (rInD X.K true):=by
 intro pins s σ H x y v u Q I rx ry h
 obtain⟨d,ds,r1,r2,n1,n2,hd,q⟩:=h
 obtain⟨⟨as,a⟩,c1⟩:=I.reads n1 r1 rx
 have h1:=D.toP_depth d
 have fin:EP X pins σ Q (.bool (!(D.toPs ds).any fun y=>Zk7 y d.toP)) s:=by rw[zl4 d n1 ds n2];exact⟨.bl _,H,I,rfl,q⟩
 rcases r2 with r2 | r2
 .obtain⟨⟨bs,b⟩,c2⟩:=I.reads (by simpa[D.nb] using n2) r2 ry
  rw[D.toP] at b c2
  exact SeqAt.notIn_list_reads b a (by simpa[Zl6] using c2) c1 (by lia) fin
 .obtain⟨⟨bs,b⟩,c2⟩:=I.reads (by simpa[D.nb] using n2) r2 ry
  rw[D.toP] at b c2
  exact SeqAt.notIn_tuple_reads b a (by simpa[Zl6] using c2) c1 (by lia) fin
end
section
variable{K:Zgh}{G Hz L:Hp}{ss:List Sl}{t ta tb:TE}{d d1 d2:D}{ds es:List D}
theorem yfj(a:BM K G L ta d1)(b:BM K G L tb d2)(n1:Ab d1.nb)(n2:Ab d2.nb)(hd:d1.dep<=60):Ap K G L (tOp (rNeD K) ta tb) (.bl (! AC d1 d2)) :=
 BT (.bl (! AC d1 d2)) a b ⟨d1,d2,r1,r2,n1,n2,hd,q⟩ (fun _ _ _ _ _ _=>Rep.bl)
theorem ydk(a:BM K G L ta d)(b:BM K G L tb (.lst ds))(n1:Ab d.nb)(n2:Ab (D.nbs ds))(hd:d.dep<=60):Ap K G L (tOp (rInD K false) ta tb) (.bl (AE d ds)) :=
 BT (.bl (AE d ds)) a b ⟨d,ds,r1,.inl r2,n1,n2,hd,q⟩ (fun _ _ _ _ _ _=>Rep.bl)
theorem zw5(a:BM K G L ta d)(b:BM K G L tb (.tup ds))(n1:Ab d.nb)(n2:Ab (D.nbs ds))(hd:d.dep<=60):Ap K G L (tOp (rInD K false) ta tb) (.bl (AE d ds)) :=
 BT (.bl (AE d ds)) a b ⟨d,ds,r1,.inr r2,n1,n2,hd,q⟩ (fun _ _ _ _ _ _=>Rep.bl)
theorem zwi(a:BM K G L ta d)(b:BM K G L tb (.lst ds))(n1:Ab d.nb)(n2:Ab (D.nbs ds))(hd:d.dep<=60):Ap K G L (tOp (rInD K true) ta tb) (.bl (! AE d ds)) :=
 BT (.bl (! AE d ds)) a b ⟨d,ds,r1,.inl r2,n1,n2,hd,q⟩ (fun _ _ _ _ _ _=>Rep.bl)
theorem zns(a:BM K G L ta d)(b:BM K G L tb (.tup ds))(n1:Ab d.nb)(n2:Ab (D.nbs ds))(hd:d.dep<=60):Ap K G L (tOp (rInD K true) ta tb) (.bl (! AE d ds)) :=
 BT (.bl (! AE d ds)) a b ⟨d,ds,r1,.inr r2,n1,n2,hd,q⟩ (fun _ _ _ _ _ _=>Rep.bl)
end
theorem D.nbs_map{α:Type}{enc:α->D}(h:∀x,Ab (enc x).nb):∀xs:List α,Ab (D.nbs (xs.map enc))
 | []=>rfl
 | x::xs=>by simp[D.nbs,h x,D.nbs_map h xs]
noncomputable def ItOk(K:Zgh)(J:It)(F' H':Hp)(n:Nat)(y:Nat->D):Prop:=∀F2 H2,Same F' F2->Same H' H2->Same F2 H2 ->
 (∀i,i<n->J.go i H2 /\ ∀x H3,J.yld i H2 x H3-> ∃F3,Ext F2 H2 F3 H3/\Rep K F3 (y i) x)/\J.stop n H2
noncomputable def EvI(K:Zgh)(G Hz L:Hp)(ss:List Sl)(wi:TI)(n:Nat)(y:Nat->D):Prop:=∀F H σ R,Sat K G Hz L F H σ ss->(∀F' H' J,Ext F H F' H'->ItOk K J F' H' n y->R J H')->wi σ H R
section
variable{K:Zgh}{G Hz L:Hp}{ss:List Sl}
theorem zq6{tl:TE}{ds:Ae}(a:EvL K G Hz L ss tl ds):EvI K G Hz L ss (zvu K tl) ds.length fun i=>Bv i:=fun F H σ R S q =>
 a F H σ _ S fun p vs F' H' e sq r=>⟨p,rfl,⟨vs,sq⟩,q F' H' _ e fun F2 H2 f1 h1 fh=>by
  have sq2:=SqL.same h1 sq
  have hl:=r.length
  refine⟨fun i hi=>⟨⟨vs,vs[i]'(by lia),sq2,Zgg _⟩,fun x H3 y=>?_⟩,⟨vs,sq2,by lia⟩⟩
  obtain⟨rfl,y⟩:=y
  obtain⟨d,hd,rd⟩:=r.get (y vs sq2)
  refine⟨F2,Ext.refl fh,?_⟩
  show Rep K F2 (ds.getD i D.non) x
  rw[Zgf,hd]
  exact rd.mono f1⟩
theorem yau{tl:TE}{l:Ac}(a:A8 K G L tl l):EvI K G Hz L ss (iStr tl) l.length fun i=>.str [l.getD i 0]:=fun F H σ R S q =>
 a F H σ _ S fun v F' H' e r=>by
  have ha:=r.asc
  rw[r.of_str]
  refine(Aw (T l) (q F' H' _ e fun F2 H2 f1 h1 fh=>?_))
  have ez:(T l).cps.toList=l:=ze5 l
  refine⟨fun i hi=>⟨by show i<_;rw[ez];exact hi,fun x H3 y=>?_⟩,by show _<=_;rw[ez];exact Zgr _⟩
  obtain⟨rfl,c,hc,rfl⟩:=y
  rw[ez] at hc
  refine⟨F2,Ext.refl fh,?_⟩
  have:l.getD i 0=c:=by rw[Zgf,hc];rfl
  show Rep K F2 (D.str [l.getD i 0]) _
  rw[this]
  exact Rep.str fun c' h'=>by rw[Zg0.mp h'];exact ha c (Zgs hc)
noncomputable def lcSl(nt:Nat)(cs:Ac)(ss:List Sl):List Sl:=Zir nt .un++cs.map fun i=>ss.getD i .un
theorem Sat.lc{F H:Hp}{σ:St}{nt:Nat}{cs:Ac}(S:Sat K G Hz L F H σ ss)(hc:cs.Nodup):Sat K G Hz L F H (lcS nt cs σ) (lcSl nt cs ss):=by
 have cut:∀(i:Nat) s,Ak (lcSl nt cs ss) s->s= .un \/ ∃j,nt<=i/\Ax cs (i - nt) j/\Ax ss j s:=by
  intro i s h
  unfold lcSl at h
  by_cases hi:i<nt
  .rw[Zih (by simpa using hi),Zlz,if_pos hi] at h
   exact .inl (Zim h).symm
  .rw[Zip (by simpa using hi),Zjr,Zgy] at h
   cases hj:cs[i - nt]? with
   | none=>rw[hj] at h;cases h
   | some j =>
    rw[hj] at h
    have h:ss.getD j .un=s:=Zim h
    rw[Zgf] at h
    cases hs:ss[j]? with
    | none=>rw[hs] at h;exact .inl h.symm
    | some s'=>rw[hs] at h;exact .inr (AM j (by lia) (by rw[hs];exact congrArg some h))
 have val:∀(i j:Nat),nt<=i->Ax cs (i - nt) j->(lcS nt cs σ).getD i none=σ.getD j none:=by
  intro i j hi hj
  unfold lcS
  rw[Zgf,Zip (by simpa using hi),Zjr,Zgy,hj]
  simp[Zgf]
 refine⟨S.ext,S.fl,by unfold lcS lcSl;simp,fun i s h=>?_,fun i s h=>?_,fun i j s s' hij h h' p hp=>?_⟩
 .rcases cut i s h with rfl | ⟨j,hi,hj,hs⟩
  .trivial
  .rw[val i j hi hj];exact S.ok j s hs
 .rcases cut i s h with rfl | ⟨j,hi,hj,hs⟩
  .simp[Sl.ads]
  .exact S.nd j s hs
 .rcases cut i s h with rfl | ⟨k,hi,hk,hs⟩
  .simp[Sl.ads] at hp
  .rcases cut j s' h' with rfl | ⟨m,hj,hm,hs'⟩
   .simp[Sl.ads]
   .have:k≠m:=fun z=>by
     subst z
     obtain⟨l1,e1⟩:=Zgo.mp hk
     obtain⟨l2,e2⟩:=Zgo.mp hm
     have:=(Zuy hc).mp (e1.trans e2.symm)
     lia
    exact S.ne k m s s' this hs hs' p hp
noncomputable def GK(nt:Nat)(g:TG):Prop:=∀v σ H (Q Q':St->Af Hp),(∀σ' H',Q σ' H'->σ'.length=σ.length->σ'.drop nt=σ.drop nt->Q' σ' H')->g v σ H Q->g v σ H Q'
noncomputable def GKs(nt:Nat)(g:TGs):Prop:=∀v σ H (Q Q':St->Af Hp),(∀σ' H',Q σ' H'->σ'.length=σ.length->σ'.drop nt=σ.drop nt->Q' σ' H')->g v σ H Q->g v σ H Q'
theorem zch{nt i:Nat}(h:i<nt):GK nt (zho i):=fun v σ H Q Q' f q=>f _ _ q (by simp) (by rw[List.drop_set_of_lt h])
theorem zpi{nt:Nat}:GKs nt gNil:=fun v σ H Q Q' f q=>⟨q.1,f _ _ q.2 rfl rfl⟩
theorem ze2{nt:Nat}{g:TG}{gs:TGs}(a:GK nt g)(b:GKs nt gs):GKs nt (ycc g gs):=fun vs σ H Q Q' f q=>by
 obtain⟨v,r,e,q⟩:=q
 exact⟨v,r,e,a v σ H _ _ (fun σ' H' q1 l1 d1=>b r σ' H' Q Q' (fun σ'' H'' q2 l2 d2=>f _ _ q2 (l2.trans l1) (d2.trans d1)) q1) q⟩
theorem zu5{nt n:Nat}{gs:TGs}(b:GKs nt gs):GK nt (gTup K n gs):=fun v σ H Q Q' f q=>by
 obtain⟨a,xs,e,sq,hn,q⟩:=q
 exact⟨a,xs,e,sq,hn,b xs σ H Q Q' f q⟩
theorem zis{wi:TI}{g:TG}{tt:TT}{te:TE}{nt:Nat}{cs:Ac}{n:Nat}{y:Nat->D}(p:Nat->Bool)(f:Nat->D)(a:EvI K G Hz L ss wi n y)(hk:GK nt g)(hc:cs.Nodup)(hz:n<sizeLine)
  (hs:∀i,i<n-> ∃ss',Tg K G Hz L g (y i) (lcSl nt cs ss) ss'/\EvT K G Hz L ss' tt (p i)/\(Ab (p i)->Ev K G Hz L ss' te (f i))) :
  EvO K G Hz L ss (tLC nt cs wi g tt te) (((Zhi n).filter p).map f):=fun F H σ Q S q =>
 a F H σ _ S fun F1 H1 J e1 it=>by
  intro l hl
  have S1:=A9
  refine⟨fun i m H2=>m=n - i/\i<=n /\ ∃F2 vs,Ext F1 H1 F2 H2/\F2 l=none/\Aa (H2 l) (.lst vs)/\AB F2 (((Zhi i).filter p).map f) vs/\vs.length<=i,
   ⟨n,by lia,Zhr _,F1,[],(Ext.refl e1.fh).newO hl,e1.fh.free hl,zam,Reps.nil,Ay⟩,?_⟩
  rintro i m H2 ⟨rfl,hi,F2,vs,e2,fl,hl2,rs,hvs⟩
  obtain⟨it1,it2⟩:=it F2 H2 e2.gf e2.hh e2.fh
  by_cases hlt:i<n
  .obtain⟨go,yl⟩:=it1 i hlt
   refine .inr ⟨go,fun H'=>∃F2 vs,Ext F1 H1 F2 H'/\F2 l=none/\Aa (H' l) (.lst vs)/\AB F2 (((Zhi (i+1)).filter p).map f) vs/\vs.length<=i+1,fun H' h=>⟨n - (i+1),by omega,rfl,hlt,h⟩,fun x H3 yx=>?_⟩
   obtain⟨F3,e3,rx⟩:=yl x H3 yx
   obtain⟨ss',tg,evt,ev⟩:=hs i hlt
   have S3:=((S1.ext2 e2).ext2 e3).lc (nt:=nt) hc
   have hl3:Aa (H3 l) (.lst vs):=e3.hh l _ hl2
   have fl3:F3 l=none:=(e3.no l _ hl2 trivial).trans fl
   have base:=tg F3 H3 (lcS nt cs σ) x (fun σ2 H4=>H4=H3/\Sat K G Hz L F3 H3 σ2 ss') S3 rx fun σ' S'=>⟨rfl,S'⟩
   have fin:∀σ2,Sat K G Hz L F3 H3 σ2 ss'->tt σ2 H3 fun b H5=>BC b (te σ2 H5 fun y H6=>∃xs,Aa (H6 l) (.lst xs)/\xs.length<sizeLine/\(∃F2 vs,Ext F1 H1 F2 (upd H6 l (.lst (xs++[y])))/\F2 l=none/\Aa ((upd H6 l (.lst (xs++[y]))) l) (.lst vs)/\AB F2 (((Zhi (i+1)).filter p).map f) vs/\vs.length<=i+1)) (∃F2 vs,Ext F1 H1 F2 H5/\F2 l=none/\Aa (H5 l) (.lst vs)/\AB F2 (((Zhi (i+1)).filter p).map f) vs/\vs.length<=i+1):=fun σ2 S2=>by
    refine evt F3 H3 σ2 _ S2 fun F5 H5 e5=>?_
    have S5:=S2.ext2 e5
    have hl5:Aa (H5 l) (.lst vs):=e5.hh l _ hl3
    have fl5:F5 l=none:=(e5.no l _ hl3 trivial).trans fl3
    have gf:Same F2 F5:=e3.gf.trans e5.gf
    cases hp:p i with
    | false =>
     refine iteF ⟨F5,vs,(e2.trans e3).trans e5,fl5,hl5,?_,by lia⟩
     rw[Zqt,Ztw,Zml,hp]
     simpa using rs.mono gf
    | true =>
     refine iteT (ev hp F5 H5 σ2 _ S5 fun v F6 H6 e6 rv=>?_)
     have hl6:Aa (H6 l) (.lst vs):=e6.hh l _ hl5
     have fl6:F6 l=none:=(e6.no l _ hl5 trivial).trans fl5
     refine⟨vs,hl6,by lia,F6,vs++[v],(((e2.trans e3).trans e5).trans e6).write fl6 hl,fl6,zam,?_,by simp;omega⟩
     rw[Zqt,Ztw,Zml,hp,if_pos rfl,Zkn]
     exact(rs.mono (gf.trans e6.gf)).snoc rv
   refine hk x (lcS nt cs σ) H3 _ _ (fun σ2 H4 h l1 d1=>?_) base
   obtain⟨rfl,S2⟩:=h
   exact⟨⟨by rw[l1];unfold lcS;simp,d1⟩,fin σ2 S2⟩
  .have e:i=n:=by lia
   subst e
   exact .inl ⟨it2,q l vs F2 H2 Bn (e1.hh.free hl) fl hl2 rs⟩
end
end L2
namespace L2
open PySem PySem.W PyProof.Rows
section
variable(key:Nat->Int)
noncomputable def kk(p:Az)(i:Nat):Int:=key (p.getD i 0)
variable{key}
theorem zii{p:Az}{i j:Nat}(hj:j<=p.size)(k:Nat):(kas_rev p i j).getD k 0=if i<=k/\k<j then p.getD (i+j - 1 - k) 0 else p.getD k 0:=by
 have h:=getElem?_mirror_all (xs:=p) (i:=i) hj k
 unfold kas_rev
 have e:∀(q:Az) (m:Nat),q.getD m 0=(q[m]?).getD 0:=fun q m=>by simp[Zia]
 rw[e,e,e,h]
 split <;> rfl
theorem zxk(p:Az)(i j:Nat):(kas_rev p i j).size=p.size:=mirror_size _ _ _ _
theorem zyv(p:Az)(i j:Nat):(kas_rev p i j).Perm p:=mirror_perm _ _ _ _
theorem zdx{p:Az}{i j:Nat}(hj:j<=p.size){c:Int}(hc:∀k,i<=k->k<j->Av p k=c)(k:Nat):Av (kas_rev p i j) k=Av p k:=by
 unfold kk
 rw[zii hj]
 split
 .rename_i h
  have h1:=hc (i+j - 1 - k) (by omega) (by omega)
  have h2:=hc k h.1 h.2
  unfold kk at h1 h2
  rw[h1,h2]
 .rfl
theorem zrh{p:Az}{k d:Nat}(hk:k<p.size)(hd:d<=k)(i:Nat):(Zym p k d).getD i 0=if i=k - d then p.getD k 0 else if k - d<i/\i<=k then p.getD (i - 1) 0 else p.getD i 0:=by
 have h:=getElem?_bubble hk d hd i
 have e:∀(q:Az) (m:Nat),q.getD m 0=(q[m]?).getD 0:=fun q m=>by simp[Zia]
 rw[e,e,e,e,h]
 split
 .rfl
 .split <;> rfl
end
section
variable{prog:Zg8}{w:Zhy}{A:Zhk}{E:Zgi->Zgk->Prop}{s:Zgk}
noncomputable def zg1(h h':Heap):Prop:=∀b o,A0 b o->AU b o
noncomputable def zub(prog:Zg8)(w:Zhy)(A:Zhk)(s:Zgk)(vs:Ar)(Out:Af (Array Zgi)):Prop :=
 ∃κ,(∀(Q:Zly->Ah) (E:Zgi->Ah),Q κ s->An w A (Zzf vs.toArray) Q E s) /\
  ∀(Q:Zii->Ah) (E:Zgi->Ah),(∀st',Zpb st'=none->(Zoq st').size=vs.length->Out ((Zoq st').map (·.2))->Q st' s)->An w A (sortRuns'.run (Zq7 κ (vs.toArray.zip vs.toArray) #[] 7 none)) (fun r s'=>Q r.2 s') E s
theorem zkv{a:Addr}{vs:Ar}{n0:Nat}{P:Zuo->Ah}(Out:Af (Array Zgi))(ho:AH a (Zqj "list" vs.toArray n0))(hz:AL vs.length)
  (hs:2<=vs.length-> ∀h',(∀b o,b≠a->AH b o->AU b o)->zub prog w A { s with heap:=h' } vs Out) (h1:vs.length<2->Out vs.toArray)
  (h:∀out c h',(∀b o,b≠a->AH b o->AU b o)->AU a (Zqj "list" out c)->out.size=vs.length->Out out->P (.done (.ret .none)) { s with heap:=h' }) :
  An w A (Zg9.«list.sort» ⟨[Au],[]⟩) P E s:=by
 have alt:a<s.heap.objs.size:=Zgv ho
 rw[list_sort_plain]
 refine Zge (listItems_at ho rfl ?_)
 refine Zge (Ztn ho rfl ?_ (by simpa using hz) (Zhr _))
 generalize hg1:s.heap.update a (Zlv fun _=>(#[]:Array Zgi))=g1
 have k1:∀b o,b≠a->AH b o->Aa (g1.get? b) o:=fun b o hb e=>by rw[<- hg1];exact(Ziv _ _ (Zh1 hb)).trans e
 obtain⟨e1,ho1⟩:∃e1,Aa (g1.get? a) (Zqj "list" #[] e1):=by rw[<- hg1];exact⟨_,Zyj ho fun _=>#[]⟩
 have sz1:g1.objs.size=s.heap.objs.size:=by rw[<- hg1,Zu2]
 refine Zge (Zve ho1 rfl ?_)
 refine Zge (Zyu ?_ (by show vs.length<=_;exact hz))
 refine Zge (Ztk ?_ (Zhr _))
 refine Zhx ?_
 dsimp only
 generalize hg3:(g1.push { cls:=.type "tuple", data:=.seq vs.toArray }).push { cls:=.type "list", data:=.seq #[] }=g3
 have k3:∀b o,Aa (g1.get? b) o->Aa (g3.get? b) o:=fun b o e=>by rw[<- hg3];exact Zgl _ (Zgl _ e)
 have ho3:=k3 a _ ho1
 have keep:∀b o,b≠a->AH b o->Aa (g3.get? b) o:=fun b o hb e=>k3 b o (k1 b o hb e)
 have fin:∀(st':Zii),Zpb st'=none->(Zoq st').size=vs.length->Out ((Zoq st').map (·.2))->P (.done (.ret .none)) { s with heap:=g3.update a (Zlv fun _=>(Zoq st').map (·.2)) }:=fun st' hf hsz hO=>by
  obtain⟨c2,hc2⟩:∃c2,Aa ((g3.update a (Zlv fun _=>(Zoq st').map (·.2))).get? a) (Zqj "list" ((Zoq st').map (·.2)) c2):=⟨_,Zyj ho3 fun _=>(Zoq st').map (·.2)⟩
  exact h _ c2 _ (fun b o hb e=>(Ziv _ _ (Zh1 hb)).trans (keep b o hb e)) hc2 (by simpa using hsz) hO
 have hsz:vs.toArray.size=vs.length:=by simp
 by_cases h2:vs.length<2
 .rw[if_pos (by omega),if_pos (by omega)]
  refine Ba ?_
  rw[StateT.run_pure]
  refine Ba ?_
  have eo:(Zoq (Zq7 general' (vs.toArray.zip vs.toArray) #[] 7 none)).map (·.2)=vs.toArray:=by
   show(vs.toArray.zip vs.toArray).map (·.2)=vs.toArray
   apply Zkx.mp
   rw[Zp7]
   have:(vs.toArray.zip vs.toArray).toList=vs.zip vs:=by simp
   rw[this]
   simp[List.map_snd_zip]
  dsimp only
  refine Zge (Zve ho3 rfl ?_)
  refine Zge (Ztn ho3 rfl ?_ (Zhr _) (by rw[eo];simp only[Zh2];lia))
  simp only[bne_self_eq_false,Zgw,if_false]
  exact Zgj (fin (Zq7 general' (vs.toArray.zip vs.toArray) #[] 7 none) rfl (by show(vs.toArray.zip vs.toArray).size=_;simp) (by rw[eo];exact h1 h2))
 .rw[if_neg (by omega),if_neg (by omega)]
  obtain⟨κ,hk,hr⟩:=hs (by lia) g3 keep
  refine Zge (hk _ _ ?_)
  refine Zge (Zif (hr (fun st' s'=>s'={ s with heap:=g3 }/\Zpb st'=none/\(Zoq st').size=vs.length/\Out ((Zoq st').map (·.2))) (fun _ _=>False) fun st' hf hsz hO=>⟨rfl,hf,hsz,hO⟩) ?_ fun _ _ x=>x.elim)
  rintro⟨⟨⟩,st'⟩ s' ⟨rfl,hf,hsz,hO⟩
  dsimp only at hf hsz hO ⊢
  refine Zge (Zve ho3 rfl ?_)
  refine Zge (Ztn ho3 rfl ?_ (Zhr _) (by simp only[Zl9];lia))
  rw[hf]
  simp only[bne_self_eq_false,Zgw,if_false]
  exact Zgj (fin st' hf hsz hO)
theorem zo9{l:Addr}{vs:Ar}{Q:Zgi->Ah}(Out:Af (Array Zgi))(hl:s.heap.IsList l vs.toArray)(hz:AL vs.length)
  (hs:2<=vs.length-> ∀h',zg1 s.heap h'->zub prog w A.in1.in1 { s with heap:=h' } vs Out) (h1:vs.length<2->Out vs.toArray)
  (h:∀out c h',zg1 s.heap h'->AU (AR 1) (Zqj "list" out c)->out.size=vs.length->Out out->BG (.ref (AR 1))) :
  An w A (call (.builtin "sorted") [.ref l]) Q E s:=by
 refine Zrf kind_sorted plain_sorted entry_sorted (args_sorted1 _) ?_
 unfold Zg9.«sorted»
 refine Zge (m:=checkCount "sorted" 1 1 _) (Zgj ?_)
 refine Zge (collect_list hl ?_ hz)
 refine Zge (Ztk ?_ hz)
 generalize hg1:(s.heap.push (Zqj "list" #[] 0)).update s.heap.objs.size (Zlv (· ++ vs.toArray))=g1
 have sz1:g1.objs.size=AR 1:=by rw[<- hg1,Zu2,size_push']
 have k1:zg1 s.heap g1:=fun b o e=>by
  have hlt:=Zgv e
  rw[<- hg1]
  exact(Ziv _ _ (Zla hlt)).trans (Zgl _ e)
 dsimp only
 have ho:Aa ((g1.push (Bl "list" (.seq vs.toArray))).get? (AR 1)) (Zqj "list" vs.toArray 0):=by rw[<- sz1];exact Zgx _ rfl
 have k2:zg1 s.heap (g1.push (Bl "list" (.seq vs.toArray))):=fun b o e=>Zgl _ (k1 b o e)
 rw[sz1]
 have ne:∀b o,AH b o->b≠AR 1:=fun b o e=>Zhb (Zkq (Zgv e))
 refine Zge (Zhx (Zi3 Zyv (AD ho rfl) Zyk (zkv (s:={ s with heap:=g1.push (Bl "list" (.seq vs.toArray)) }) Out ho hz
  (fun h2 h' k=>hs h2 h' fun b o e=>k b o (ne b o e) (k2 b o e)) h1 fun out c h' k hc hsz hO=>(Aw _ ?_)) (Zy1 _)))
 exact Zgj (Aw _ (h out c h' (fun b o e=>k b o (ne b o e) (k2 b o e)) hc hsz hO))
end
noncomputable def Ent(n:Nat)(p:Az):Prop:=∀i,p.getD i 0<n
theorem Ent.perm{n:Nat}{p q:Az}(h:Ent n p)(hp:q.Perm p)(hn:0<n):Ent n q:=fun i=>by
 have e:∀(q:Az) (m:Nat),q.getD m 0=(q[m]?).getD 0:=fun q m=>by simp[Zia]
 rw[e]
 cases hq:q[i]? with
 | none=>exact hn
 | some x =>
  have hx:x∈q:=Array.mem_of_getElem? hq
  have hx2:x∈p:=hp.mem_iff.mp hx
  obtain⟨j,hj,ej⟩:=Array.mem_iff_getElem.mp hx2
  have:=h j
  rw[e,Zg7 hj,ej] at this
  exact this
section
variable{prog:Zg8}{w:Zhy}{A:Zhk}{s:Zgk}
noncomputable def OutK(key:Nat->Int)(vs:Ar)(out:Array Zgi):Prop:=∃p:Ac,p.Perm (Zhi vs.length)/\out.toList=p.map (fun i=>vs.getD i Zig)/\p.Pairwise fun i j=>key i<=key j
end
noncomputable def D.fo:D->List Int
 | .str l=>l.map Zrc
 | .int i=>[i]
 | _=>[]
noncomputable def D.ord:D->List (List Int)
 | .tup ds=>ds.map D.fo
 | .lst ds=>ds.map D.fo
 | d=>[d.fo]
noncomputable def D.leB(a b:D):Bool:=decide (a.ord<=b.ord)
noncomputable def ze9(ds:Ae):Ae:=ds.mergeSort D.leB
inductive Ty where | s | i
noncomputable def Ty.ok:Ty->D->Bool
 | .s,.str _=>true
 | .i,.int _=>true
 | _,_=>false
noncomputable def shOk:List Ty->Ae->Bool
 | [],[]=>true
 | t::ts,d::ds=>t.ok d&&shOk ts ds
 | _,_=>false
noncomputable def zfx(ds:Ae):Prop:=(∀d∈ds,Ab (Ty.ok .s d))\/(∀d∈ds,Ab (Ty.ok .i d)) \/ ∃t ts,∀d∈ds,∃es,d= .tup es/\Ab (shOk (t::ts) es)
theorem zvi{l m:Ac}(h:l.map Zrc=m.map Zrc):l=m:=by
 induction l generalizing m with
 | nil=>cases m with
  | nil=>rfl
  | cons _ _=>simp at h
 | cons a l ih=>cases m with
  | nil=>simp at h
  | cons b m =>
   simp only[Zhc,Zjk,Zti] at h
   rw[show a=b by lia,ih h.2]
theorem zyc(l m:Ac):l<m↔l.map Zrc<m.map Zrc:=by
 induction l generalizing m with
 | nil=>cases m <;> simp
 | cons a l ih=>cases m with
  | nil=>simp
  | cons b m =>
   simp only[Zhc,Zjs,ih m,Zti]
   constructor
   .rintro(h | ⟨h,x⟩)
    .exact .inl (by lia)
    .exact .inr ⟨by lia,x⟩
   .rintro(h | ⟨h,x⟩)
    .exact .inl (by lia)
    .exact .inr ⟨by lia,x⟩
theorem zqk{t:Ty}{d e:D}(h1:Ab (t.ok d))(h2:Ab (t.ok e))(h:d.fo=e.fo):d=e:=by
 cases t <;> cases d <;> simp[Ty.ok] at h1 <;> cases e <;> simp[Ty.ok] at h2
 .rw[zvi h]
 .simp[D.fo] at h;rw[h]
theorem ztc:∀{ts:List Ty} {ds es:Ae},Ab (shOk ts ds)->Ab (shOk ts es)->ds.map D.fo=es.map D.fo->ds=es
 | [],ds,es,h1,h2,_=>by cases ds <;> cases es <;> simp[shOk] at h1 h2;rfl
 | t::ts,ds,es,h1,h2,h=>by
  cases ds with
  | nil=>simp[shOk] at h1
  | cons d ds=>cases es with
   | nil=>simp[shOk] at h2
   | cons e es =>
    simp only[shOk,Zhe] at h1 h2
    simp only[Zhc,Zjk] at h
    rw[zqk h1.1 h2.1 h.1,ztc h1.2 h2.2 h.2]
theorem ye3(x y:List Int):[x]<[y]↔x<y:=by simp[Zjs]
theorem zuq{ds:Ae}(h:zfx ds){a b:D}(ha:a∈ds)(hb:b∈ds)(e:a.ord=b.ord):a=b:=by
 rcases h with h | h | ⟨t,ts,h⟩
 .have h1:=h a ha
  have h2:=h b hb
  cases a <;> simp[Ty.ok] at h1
  cases b <;> simp[Ty.ok] at h2
  simp only[D.ord,Zjk,and_true] at e
  exact zqk (t:=.s) rfl rfl e
 .have h1:=h a ha
  have h2:=h b hb
  cases a <;> simp[Ty.ok] at h1
  cases b <;> simp[Ty.ok] at h2
  simp only[D.ord,Zjk,and_true] at e
  exact zqk (t:=.i) rfl rfl e
 .obtain⟨es,rfl,h1⟩:=h a ha
  obtain⟨fs,rfl,h2⟩:=h b hb
  simp only[D.ord] at e
  rw[ztc h1 h2 e]
theorem zvw(a b c:D)(h1:Ab (a.leB b))(h2:Ab (b.leB c)):Ab (a.leB c):=decide_eq_true (Zwa (of_decide_eq_true h1) (of_decide_eq_true h2))
theorem ztj(a b:D):Ab (a.leB b||b.leB a):=by
 rcases List.le_total a.ord b.ord with h | h
 .simp[D.leB,h]
 .simp[D.leB,h]
theorem zcl(ds:Ae):(ze9 ds).Perm ds:=List.mergeSort_perm _ _
theorem zd5(ds:Ae):(ze9 ds).Pairwise fun a b=>Ab (a.leB b):=List.pairwise_mergeSort zvw ztj ds
theorem zio{ds es:Ae}(h:zfx ds)(hp:es.Perm ds)(hs:es.Pairwise fun a b=>Ab (a.leB b)):es=ze9 ds:=by
 refine Zzq (le:=fun a b=>Ab (a.leB b)) (fun a b ha hb h1 h2=>?_) hs (zd5 ds) (hp.trans (zcl ds).symm)
 exact zuq h (hp.mem_iff.mp ha) ((zcl ds).mem_iff.mp hb) (Zuv (of_decide_eq_true h1) (of_decide_eq_true h2))
noncomputable def rk(ds:Ae)(i:Nat):Int:=((ds.filter fun d=>AS d.ord (Bv i).ord).length:Nat)
theorem zew{α:Type}{p q:α->Bool}(h:∀x,Ab (p x)->Ab (q x)):∀l:List α,(l.filter p).length<=(l.filter q).length
 | []=>Ay
 | x::l=>by
  have ih:=zew h l
  simp only[Zml]
  cases hp:p x with
  | false =>
   cases hq:q x with
   | false=>simpa using ih
   | true=>simp;lia
  | true=>rw[h x hp];simp;omega
theorem zhi{α:Type}{p q:α->Bool}(h:∀x,Ab (p x)->Ab (q x)){y:α}(hy:Ab (q y))(hn:Am (p y)):∀l:List α,y∈l->(l.filter p).length<(l.filter q).length
 | [],hm=>by simp at hm
 | x::l,hm=>by
  have le:=zew h l
  simp only[Zml]
  rcases Zgp.mp hm with rfl | hm
  .rw[hy,hn];simp;lia
  .have ih:=zhi h hy hn l hm
   cases hp:p x with
   | false =>
    cases hq:q x with
    | false=>simpa using ih
    | true=>simp;lia
   | true=>rw[h x hp];simp;omega
theorem ycw{ds:Ae}{i j:Nat}(hi:i<ds.length):AS (rk ds i) (rk ds j)=AS (Bv i).ord (Bv j).ord:=by
 have hm:Bv i∈ds:=by rw[Zgf,Zgg hi];exact Zik _
 unfold rk
 generalize ds.getD i .non=a at hm
 generalize ds.getD j .non=b
 by_cases h:a.ord<b.ord
 .rw[decide_eq_true h]
  refine decide_eq_true ?_
  have:=zhi (p:=fun d:D=>AS d.ord a.ord) (q:=fun d:D=>AS d.ord b.ord) (fun x hx=>decide_eq_true (Zv9 (of_decide_eq_true hx) h)) (y:=a) (decide_eq_true h) (decide_eq_false (Zrp _)) ds hm
  lia
 .rw[decide_eq_false h]
  refine decide_eq_false ?_
  have:=zew (p:=fun d:D=>AS d.ord b.ord) (q:=fun d:D=>AS d.ord a.ord) (fun x hx=>by
   have hx:=of_decide_eq_true hx
   refine decide_eq_true ?_
   by_cases hxa:x.ord<a.ord
   .exact hxa
   .exact absurd hx (Zqv.mpr (Zwa (Zqv.mp h) (Zqv.mp hxa)))) ds
  lia
theorem ye1{ds:Ae}{i j:Nat}(hi:i<ds.length)(hj:j<ds.length)(h:rk ds i<=rk ds j):Ab ((Bv i).leB (Bv j)):=by
 have:=ycw (ds:=ds) (i:=j) (j:=i) hj
 rw[decide_eq_false (by lia)] at this
 exact decide_eq_true (Zqv.mp (of_decide_eq_false this.symm))
section
variable{prog:Zg8}{w:Zhy}{A:Zhk}{E:Zgi->Zgk->Prop}{s:Zgk}
noncomputable def FV:D->Af Zgi
 | .str l,u=>∃t,u= .str (T l) t
 | .int i,u=>∃t,u= .int i t
 | _,_=>False
theorem yce{t:Ty}{d e:D}{u v:Zgi}(h1:Ab (t.ok d))(h2:Ab (t.ok e))(ru:FV d u)(rv:FV e v){Q:Bool->Ah}(q:Q (AC d e) s):An w A (eqBool u v) Q E s:=by
 cases t <;> cases d <;> simp[Ty.ok] at h1 <;> cases e <;> simp[Ty.ok] at h2
 .obtain⟨t,rfl⟩:=ru
  obtain⟨t',rfl⟩:=rv
  refine Zy3 _ _ _ _ prog w E Q ?_
  rename_i l m
  have:(T l == T m)=AC (D.str l) (D.str m):=by
   rw[Ziq];simp[zvq]
  rw[this];exact q
 .obtain⟨t,rfl⟩:=ru
  obtain⟨t',rfl⟩:=rv
  refine Zy6 _ _ _ _ prog w E Q ?_
  rename_i i j
  have:(i == j)=AC (D.int i) (D.int j):=by
   rw[Ziq];simp
  rw[this];exact q
theorem zvk{t:Ty}{d e:D}{u v:Zgi}(h1:Ab (t.ok d))(h2:Ab (t.ok e))(ru:FV d u)(rv:FV e v)(f:Bool){Q:Bool->Ah}(q:Q (AS d.fo e.fo) s):An w A (oneLt' f u v) Q E s:=by
 cases t <;> cases d <;> simp[Ty.ok] at h1 <;> cases e <;> simp[Ty.ok] at h2
 .obtain⟨t,rfl⟩:=ru
  obtain⟨t',rfl⟩:=rv
  rename_i l m
  have ee:AS (T l).cps.toList (T m).cps.toList=AS (D.str l).fo (D.str m).fo:=by
   rw[ze5,ze5,Ziq,decide_eq_true_eq,decide_eq_true_eq]
   exact zyc l m
  cases f with
  | true=>exact oneLt_str (by rw[ee];exact q)
  | false=>exact kat_one _ _ (lt_str (by show Q _ _;rw[ee];exact q))
 .obtain⟨t,rfl⟩:=ru
  obtain⟨t',rfl⟩:=rv
  rename_i i j
  have ee:AS i j=AS (D.int i).fo (D.int j).fo:=by
   rw[Ziq]
   simp[D.fo,Zjs]
  cases f with
  | true=>exact oneLt_int (by rw[ee];exact q)
  | false=>exact kat_one _ _ (lt_int (by show Q _ _;rw[ee];exact q))
inductive FVs:List D->List Zgi->Prop
 | nil:FVs [] []
 | cons {d ds u us}:FV d u->FVs ds us->FVs (d::ds) (u::us)
theorem zq1 {b : Bool} {Q : Bool -> Zgk -> Prop} : ∀ {ts : List Ty} {ds es : Ae} {us vs : Ar} (i : Nat), shOk ts ds = true -> shOk ts es = true -> FVs ds us -> FVs es vs -> Q (decide (ds.map D.fo < es.map D.fo)) s -> KatLex prog w A b false Q (us.zip vs) i s
 | [],ds,es,_,_,i,h1,h2,r1,r2,q=>by
  cases ds <;> cases es <;> simp[shOk] at h1 h2
  cases r1;cases r2
  exact kat_nil (by simpa using q)
 | t::ts,ds,es,_,_,i,h1,h2,r1,r2,q=>by
  cases r1 with
  | nil=>simp[shOk] at h1
  | cons a1 a2 =>
   cases r2 with
   | nil=>simp[shOk] at h2
   | cons b1 b2 =>
    rename_i d ds u us e es v vs
    simp only[shOk,Zhe] at h1 h2
    rw[Zpc]
    refine kat_cons (yce h1.1 h2.1 a1 b1 ?_)
    by_cases hde:d=e
    .subst hde
     rw[decide_eq_true rfl]
     refine kat_yes (zq1 (i+1) h1.2 h2.2 a2 b2 ?_)
     have:AS (ds.map D.fo) (es.map D.fo)=AS ((d::ds).map D.fo) ((d::es).map D.fo):=by
      rw[Ziq]
      simp only[decide_eq_true_eq,Zhc,Zjs]
      exact⟨fun h=>.inr ⟨trivial,h⟩,fun h=>h.elim (fun z=>absurd z (Zrp _)) fun z=>z.2⟩
     rw[this];exact q
    .rw[decide_eq_false hde]
     refine kat_no (zvk h1.1 h2.1 a1 b1 _ ?_)
     have hf:¬ d.fo=e.fo:=fun z=>hde (zqk h1.1 h2.1 z)
     have:AS d.fo e.fo=AS ((d::ds).map D.fo) ((e::es).map D.fo):=by
      rw[Ziq]
      simp only[decide_eq_true_eq,Zhc,Zjs]
      exact⟨fun h=>.inl h,fun h=>h.elim id fun z=>absurd z.1 hf⟩
     rw[this];exact q
end
noncomputable def zun:Bool->Zmd->Array Zmd->Nat->Nat->Nat->StateT Zii Sem (Option Nat):=sortPriv% PySem.Builtin.gallop
noncomputable def zqw:Array Zmd->Array Zmd->StateT Zii Sem (Array Zmd):=sortPriv% PySem.Builtin.mergeLo
noncomputable def zqx:Array Zmd->Array Zmd->StateT Zii Sem (Array Zmd):=sortPriv% PySem.Builtin.mergeHi
section
variable{prog:Zg8}{w:Zhy}{A:Zhk}{E:Zgi->Zgk->Prop}{s:Zgk}{κ:Zly}{it:Array Zmd}{n:Nat}{key:Nat->Int}
noncomputable def Cmp(prog:Zg8)(w:Zhy)(A:Zhk)(s:Zgk)(κ:Zly)(it:Array Zmd)(n:Nat)(key:Nat->Int):Prop :=
 ∀i j (C:Bool->Ah),i<n->j<n->C (AS (key i) (key j)) s->An w A (keyLt' κ (kas_item it i).1 (kas_item it j).1) C (fun _ _=>False) s
theorem lt_w(hc:Cmp prog w A s κ it n key){st:Zii}{i j:Nat}{Q:Option Bool->Af Zii}(hk:kindOf st=κ)(hi:i<n)(hj:j<n)(q:Q (some (AS (key i) (key j))) st):wpS (A3 w) A E s (lt' (kas_item it i) (kas_item it j)) Q st:=by
 rw[lt'_eq]
 refine Zgt (Znt ?_)
 rw[hk]
 refine Zgt (Zpa (Zqh (Zif (hc i j (fun b s'=>s'=s/\b=AS (key i) (key j)) hi hj (AF rfl)) (fun b s' hb=>?_) fun _ _ x=>x.elim)))
 obtain⟨rfl,rfl⟩:=hb
 exact⟨rfl,Zgu q⟩
theorem zbk{p:Az}{i:Nat}{st:Zii}{Q:Zmd->Af Zii}(hi:i<p.size)(q:Q (kas_item it (p.getD i 0)) st):wpS (A3 w) A E s (elem' (p.map A6) i) Q st:=by
 rw[Zzh]
 have e:Ak (p.map A6) (kas_item it (p.getD i 0)):=by
  simp[Zlb,hi]
 rw[e]
 exact Zgu q
noncomputable def byd(key:Nat->Int)(left:Bool)(x:Nat)(p:Az)(base i:Nat):Bool:=if left then AS (key (p.getD (base+i) 0)) (key x) else ! AS (key x) (key (p.getD (base+i) 0))
theorem by_w(hc:Cmp prog w A s κ it n key){left:Bool}{x:Nat}{p:Az}{base i:Nat}{st:Zii}{Q:Option Bool->Af Zii}(hk:kindOf st=κ)(hx:x<n)(hp:Ent n p)(hb:base+i<p.size)(q:Q (some (byd key left x p base i)) st) :
  wpS (A3 w) A E s (elem' (p.map A6) (base+i) >>= fun y=>BC left (lt' y (kas_item it x)) (lt' (kas_item it x) y >>= fun b=>pure (b.map fun c=>!c))) Q st:=by
 refine Zgt (zbk hb ?_)
 cases left with
 | true=>simp only[if_true];exact lt_w hc hk (hp _) hx q
 | false =>
  simp only[Zgw,if_false]
  exact Zgt (lt_w hc hk hx (hp _) (Zgu q))
theorem zd9 (hc : Cmp prog w A s κ it n key) {left : Bool} {x : Nat} {p : Az} {base m hint : Nat} {st : Zii} {Q : Option Nat -> Zii -> Prop} (hk : kindOf st = κ) (hx : x < n) (hp : Ent n p) (hb : base + m <= p.size) (hh : hint < m)
  (anti:∀i j,i<=j->j<m->Ab (byd key left x p base j)->Ab (byd key left x p base i))
  (q:∀k,k<=m->(∀i,i<k->Ab (byd key left x p base i))->(∀i,k<=i->i<m->Am (byd key left x p base i))->Q (some k) st) :
  wpS (A3 w) A E s (zun left (kas_item it x) (p.map A6) base m hint) Q st:=by
 have anti':∀i j,i<=j->j<m->Am (byd key left x p base i)->Am (byd key left x p base j):=fun i j h1 h2 h3=>by
  cases hj:byd key left x p base j with
  | false=>rfl
  | true=>rw[anti i j h1 h2 hj] at h3;exact h3
 unfold zun
 show wpS _ _ _ _ (_ >>= _) _ _
 try dsimp only
 refine Zgt (by_w hc hk hx hp (by lia) ?_)
 dsimp only
 split
 .rename_i hr
  refine Zgt (Zjx (Zh9 (I:=fun k c st'=>st=st' /\ ∃la of,c=(none,la,of)/\k+1<=of/\la<of/\hint+la<m/\Ab (byd key left x p base (hint+la)))
   (Q:=fun c st'=>st=st' /\ ∃la of,c=(none,la,of)/\la<of/\hint+la<m/\Ab (byd key left x p base (hint+la))/\(m - hint<=of\/Am (byd key left x p base (hint+of)))) ?_ ?_ ⟨rfl,0,1,rfl,by lia,by lia,by omega,hr⟩) ?_)
  .rintro k c st' _ hkm ⟨rfl,la,of,rfl,h1,h2,h3,h4⟩
   dsimp only
   split
   .exact Zgu ⟨rfl,la,of,rfl,h2,h3,h4,.inl (by omega)⟩
   .refine Zgt (by_w hc hk hx hp (by lia) ?_)
    dsimp only
    split
    .rename_i hm
     exact Zgu ⟨rfl,la,of,rfl,h2,h3,h4,.inr (by simpa using hm)⟩
    .rename_i hm
     exact Zgu ⟨rfl,of,2*of+1,rfl,by lia,by lia,by lia,by simpa using hm⟩
  .rintro c st' ⟨rfl,la,of,rfl,h1,h2,h3,h4⟩
   exact⟨rfl,la,of,rfl,h2,h3,h4,.inl (by lia)⟩
  .rintro c st' ⟨rfl,la,of,rfl,h2,h3,h4,h5⟩
   dsimp only
   have g1:hint+la+1<=hint+min of (m - hint):=by lia
   have g2:hint+min of (m - hint)<=m:=by lia
   have g3:∀i,i<hint+la+1->Ab (byd key left x p base i):=fun i hi=>anti i _ (by lia) h3 h4
   have g4:∀i,hint+min of (m - hint)<=i->i<m->Am (byd key left x p base i):=fun i h1 h2=>by
    rcases h5 with h5 | h5
    .omega
    .by_cases hof:m - hint<=of
     .omega
     .exact anti' (hint+of) i (by lia) h2 h5
   refine Zgt (Zjx (Zh9 (I:=fun k c st'=>st=st' /\ ∃lo hi,c=(none,lo,hi)/\lo<=hi/\hi<=m/\hi - lo<=m - k/\(∀i,i<lo->Ab (byd key left x p base i))/\(∀i,hi<=i->i<m->Am (byd key left x p base i)))
    (Q:=fun c st'=>st=st' /\ ∃lo hi,c=(none,lo,hi)/\hi<=lo/\lo<=hi/\hi<=m/\(∀i,i<lo->Ab (byd key left x p base i))/\(∀i,hi<=i->i<m->Am (byd key left x p base i))) ?_ ?_ ⟨rfl,_,_,rfl,g1,g2,by lia,g3,g4⟩) ?_)
   .rintro k c st' _ hkm ⟨rfl,lo,hi,rfl,h1,h2,h3,h4,h5⟩
    dsimp only
    split
    .exact Zgu ⟨rfl,lo,hi,rfl,by omega,by omega,h2,h4,h5⟩
    .refine Zgt (by_w hc hk hx hp (by lia) ?_)
     dsimp only
     split
     .rename_i hm
      exact Zgu ⟨rfl,lo+(hi - lo) / 2+1,hi,rfl,by lia,by omega,by omega,fun i hi'=>anti i _ (by lia) (by lia) hm,h5⟩
     .rename_i hm
      exact Zgu ⟨rfl,lo,lo+(hi - lo) / 2,rfl,by lia,by lia,by omega,h4,fun i hi' h'=>anti' _ i hi' h' (by simpa using hm)⟩
   .rintro c st' ⟨rfl,lo,hi,rfl,h1,h2,h3,h4,h5⟩
    exact⟨rfl,lo,hi,rfl,by lia,by omega,h2,h4,h5⟩
   .rintro c st' ⟨rfl,lo,hi,rfl,h1,h2,h3,h4,h5⟩
    exact Zgu (q hi h3 (fun i hi'=>h4 i (by lia)) h5)
 .rename_i hr
  have hr':Am (byd key left x p base hint):=by simpa using hr
  refine Zgt (Zjx (Zh9 (I:=fun k c st'=>st=st' /\ ∃la of,c=(none,la,of)/\k+1<=of/\la<of/\la<=hint/\Am (byd key left x p base (hint - la)))
   (Q:=fun c st'=>st=st' /\ ∃la of,c=(none,la,of)/\la<of/\la<=hint/\Am (byd key left x p base (hint - la))/\(hint+1<=of\/Ab (byd key left x p base (hint - of)))) ?_ ?_ ⟨rfl,0,1,rfl,by lia,by lia,by lia,hr'⟩) ?_)
  .rintro k c st' _ hkm ⟨rfl,la,of,rfl,h1,h2,h3,h4⟩
   dsimp only
   split
   .exact Zgu ⟨rfl,la,of,rfl,h2,h3,h4,.inl (by omega)⟩
   .refine Zgt (by_w hc hk hx hp (by lia) ?_)
    dsimp only
    split
    .rename_i hm
     exact Zgu ⟨rfl,la,of,rfl,h2,h3,h4,.inr hm⟩
    .rename_i hm
     exact Zgu ⟨rfl,of,2*of+1,rfl,by lia,by lia,by lia,by simpa using hm⟩
  .rintro c st' ⟨rfl,la,of,rfl,h1,h2,h3,h4⟩
   exact⟨rfl,la,of,rfl,h2,h3,h4,.inl (by lia)⟩
  .rintro c st' ⟨rfl,la,of,rfl,h2,h3,h4,h5⟩
   dsimp only
   have g1:hint+1 - min of (hint+1)<=hint - la:=by omega
   have g2:hint - la<=m:=by lia
   have g3:∀i,i<hint+1 - min of (hint+1)->Ab (byd key left x p base i):=fun i hi=>by
    rcases h5 with h5 | h5
    .omega
    .exact anti i _ (by omega) (by lia) h5
   have g4:∀i,hint - la<=i->i<m->Am (byd key left x p base i):=fun i h1 h2=>anti' _ i h1 h2 h4
   refine Zgt (Zjx (Zh9 (I:=fun k c st'=>st=st' /\ ∃lo hi,c=(none,lo,hi)/\lo<=hi/\hi<=m/\hi - lo<=m - k/\(∀i,i<lo->Ab (byd key left x p base i))/\(∀i,hi<=i->i<m->Am (byd key left x p base i)))
    (Q:=fun c st'=>st=st' /\ ∃lo hi,c=(none,lo,hi)/\hi<=lo/\lo<=hi/\hi<=m/\(∀i,i<lo->Ab (byd key left x p base i))/\(∀i,hi<=i->i<m->Am (byd key left x p base i))) ?_ ?_ ⟨rfl,_,_,rfl,g1,g2,by lia,g3,g4⟩) ?_)
   .rintro k c st' _ hkm ⟨rfl,lo,hi,rfl,h1,h2,h3,h4,h5⟩
    dsimp only
    split
    .exact Zgu ⟨rfl,lo,hi,rfl,by omega,by omega,h2,h4,h5⟩
    .refine Zgt (by_w hc hk hx hp (by lia) ?_)
     dsimp only
     split
     .rename_i hm
      exact Zgu ⟨rfl,lo+(hi - lo) / 2+1,hi,rfl,by lia,by omega,by omega,fun i hi'=>anti i _ (by lia) (by lia) hm,h5⟩
     .rename_i hm
      exact Zgu ⟨rfl,lo,lo+(hi - lo) / 2,rfl,by lia,by lia,by omega,h4,fun i hi' h'=>anti' _ i hi' h' (by simpa using hm)⟩
   .rintro c st' ⟨rfl,lo,hi,rfl,h1,h2,h3,h4,h5⟩
    exact⟨rfl,lo,hi,rfl,by lia,by omega,h2,h4,h5⟩
   .rintro c st' ⟨rfl,lo,hi,rfl,h1,h2,h3,h4,h5⟩
    exact Zgu (q hi h3 (fun i hi'=>h4 i (by lia)) h5)
end
structure MI(R:Nat->Nat->Prop)(ua ub o:List Nat)(i j:Nat):Prop where
 hi:i<=ua.length
 hj:j<=ub.length
 pw:o.Pairwise R
 pa:∀x∈o,∀y∈ua.drop i,R x y
 pb:∀x∈o,∀y∈ub.drop j,R x y
 pm:o.Perm (ua.take i++ub.take j)
section
variable{R:Nat->Nat->Prop}{ua ub o:List Nat}{i j:Nat}
theorem MI.swap(h:MI R ua ub o i j):MI R ub ua o j i:=⟨h.hj,h.hi,h.pw,h.pb,h.pa,h.pm.trans Zmg⟩
theorem zcb{u:Ac}{i t:Nat}(h:i<=t)(ht:t<u.length):u.getD t 0∈u.drop i:=by
 rw[Zro]
 refine⟨t - i,by lia,?_⟩
 rw[Zgf,Zgg ht]
 simp only[Zlj]
 congr 1;lia
theorem ze3{u:Ac}{i y:Nat}(h:y∈u.drop i):∃t,i<=t/\t<u.length/\y=u.getD t 0:=by
 rw[Zro] at h
 obtain⟨k,hk,e⟩:=h
 refine⟨i+k,by lia,by lia,?_⟩
 rw[Zgf,Zgg (by lia)]
 exact e.symm
theorem zpe{u:Ac}(h:u.Pairwise R){s t:Nat}(hs:s<t)(ht:t<u.length):R (u.getD s 0) (u.getD t 0):=by
 have:=Zi8.mp h s t (by lia) ht hs
 rw[Zgf,Zgg (by lia),Zgf,Zgg ht]
 exact this
theorem zkd{u:Ac}{i:Nat}(h:i<u.length):u.take (i+1)=u.take i++[u.getD i 0]:=by
 rw[Zjm,Zgg h,Zgf,Zgg h];rfl
theorem MI.pushA(h:MI R ua ub o i j)(hi:i<ua.length)(sa:ua.Pairwise R)(hR:∀y∈ub.drop j,R (ua.getD i 0) y):MI R ua ub (o++[ua.getD i 0]) (i+1) j:=by
 refine⟨hi,h.hj,?_,?_,?_,?_⟩
 .rw[Zlh]
  refine⟨h.pw,List.pairwise_singleton _ _,fun x hx y hy=>?_⟩
  rw[Zg0.mp hy]
  exact h.pa x hx _ (zcb Ay hi)
 .intro x hx y hy
  obtain⟨t,h1,h2,rfl⟩:=ze3 hy
  rcases Zhh.mp hx with hx | hx
  .exact h.pa x hx _ (zcb (by lia) h2)
  .rw[Zg0.mp hx];exact zpe sa (by lia) h2
 .intro x hx y hy
  rcases Zhh.mp hx with hx | hx
  .exact h.pb x hx _ hy
  .rw[Zg0.mp hx];exact hR y hy
 .rw[zkd hi,Zis]
  refine(h.pm.append_right _).trans ?_
  rw[Zis]
  exact Zra _ Zmg
theorem zkl{u:Ac}{i k:Nat}(h:i+k<u.length):(u.drop i).take (k+1)=(u.drop i).take k++[u.getD (i+k) 0]:=by
 rw[Zjm,Zk2,Zgg h,Zgf,Zgg h];rfl
theorem MI.takeA(h:MI R ua ub o i j)(sa:ua.Pairwise R):∀k,i+k<=ua.length->(∀t,i<=t->t<i+k-> ∀y∈ub.drop j,R (ua.getD t 0) y)->MI R ua ub (o++(ua.drop i).take k) (i+k) j
 | 0,_,_=>by simpa using h
 | k+1,hk,hR=>by
  have ih:=MI.takeA h sa k (by lia) fun t h1 h2=>hR t h1 (by lia)
  have:=ih.pushA (by lia) sa (hR (i+k) (by lia) (by lia))
  rw[zkl (by lia),<- Zis]
  exact this
theorem MI.endB(h:MI R ua ub o i ub.length)(sa:ua.Pairwise R):MI R ua ub (o++ua.drop i) ua.length ub.length:=by
 have:=h.takeA sa (ua.length - i) (by have:=h.hi;lia) fun t _ _ y hy=>by simp at hy
 rw[show i+(ua.length - i)=ua.length by have:=h.hi;lia,Zij (by simp)] at this
 exact this
theorem MI.endA(h:MI R ua ub o ua.length j)(sb:ub.Pairwise R):MI R ua ub (o++ub.drop j) ua.length ub.length:=(h.swap.endB sb).swap
theorem MI.lastA(h:MI R ua ub o i j)(sa:ua.Pairwise R)(sb:ub.Pairwise R)(hi:i+1=ua.length)(hl:∀y∈ub,R y (ua.getD i 0)):MI R ua ub (o++ub.drop j++ua.drop i) ua.length ub.length:=by
 have h1:=h.swap.takeA sb (ub.length - j) (by have:=h.hj;lia) fun t _ ht y hy=>by
  obtain⟨t',a1,a2,rfl⟩:=ze3 hy
  have:t'=i:=by lia
  subst this
  exact hl _ (by have hjl:=h.hj;have:=zcb (u:=ub) (i:=0) (Zhr t) (by omega);simpa using this)
 rw[show j+(ub.length - j)=ub.length by have:=h.hj;lia,Zij (by simp)] at h1
 exact h1.swap.endB sa
theorem MI.fin(h:MI R ua ub o ua.length ub.length):o.Pairwise R/\o.Perm (ua++ub):=⟨h.pw,by simpa using h.pm⟩
theorem MI.len(h:MI R ua ub o i j):o.length=i+j:=by
 have:=h.pm.length_eq
 have h1:=h.hi
 have h2:=h.hj
 simp at this;lia
theorem low{u:Ac}{key:Nat->Int}(su:u.Pairwise fun x y=>key x<=key y){x i:Nat}(h:key x<=key (u.getD i 0)):∀y∈u.drop i,key x<=key y:=fun y hy=>by
 obtain⟨t,h1,h2,rfl⟩:=ze3 hy
 by_cases e:i=t
 .subst e;exact h
 .exact Zjw h (zpe su (by lia) h2)
end
noncomputable def AK(it:Array Zmd)(o:Ac):Array Zmd:=(o.map A6).toArray
theorem zb6(it:Array Zmd)(o:Ac)(x:Nat):(AK it o).push (kas_item it x)=AK it (o++[x]):=by simp[AK]
theorem ztq(it:Array Zmd)(o:Ac)(p:Az)(i k:Nat):AK it o++(p.map A6).extract i (i+k)=AK it (o++(p.toList.drop i).take k):=by
 apply Zkx.mp
 simp[AK,Zmi,Zpe,Zmo]
theorem zk4(it:Array Zmd)(o:Ac)(p:Az)(i:Nat):AK it o++(p.map A6).extract i p.size=AK it (o++p.toList.drop i):=by
 apply Zkx.mp
 simp only[AK,Array.toList_append,Zlg,Zp7,Zkn,Zmo,Zmi]
 rw[Zij (by simp)]
noncomputable def SS(st st':Zii):Prop:=kindOf st'=kindOf st/\Zoq st'=Zoq st/\Zje st'=Zje st/\Zpb st'=Zpb st
theorem SS.refl(st:Zii):SS st st:=(AM rfl rfl rfl)
section
variable{prog:Zg8}{w:Zhy}{A:Zhk}{E:Zgi->Zgk->Prop}{s:Zgk}{κ:Zly}{it:Array Zmd}{n:Nat}{key:Nat->Int}
noncomputable def setG:Nat->StateT Zii Sem Unit:=sortPriv% PySem.Builtin.setMinGallop
theorem zqa{st st0:Zii}{g:Nat}{Q:Unit->Af Zii}(h:SS st0 st)(q:∀st',SS st0 st'->Q () st'):wpS (A3 w) A E s (setG g) Q st:=by
 unfold setG
 exact Zs6 (q _ h)
noncomputable def Res(it:Array Zmd)(key:Nat->Int)(ua ub:Ac)(r:Array Zmd):Prop:=∃q:Ac,r=AK it q/\q.Perm (ua++ub)/\q.Pairwise fun x y=>key x<=key y
theorem Res.of{ua ub o:Ac}(h:MI (fun x y=>key x<=key y) ua ub o ua.length ub.length):Res it key ua ub (AK it o):=⟨o,rfl,h.fin.2,h.fin.1⟩
end
section
variable{prog:Zg8}{w:Zhy}{A:Zhk}{E:Zgi->Zgk->Prop}{s:Zgk}{κ:Zly}{it:Array Zmd}{n:Nat}{key:Nat->Int}
noncomputable abbrev RK(key:Nat->Int):Nat->Af Nat:=fun x y=>key x<=key y
theorem zao{pa:Az}(i:Nat):pa.getD i 0=pa.toList.getD i 0:=by
 rw[Zgf,Zg6,Zia]
theorem znc{key:Nat->Int}{x:Nat}{p:Az}{base i:Nat}:(Ab (byd key false x p base i)↔key (p.toList.getD (base+i) 0)<=key x)/\(Am (byd key false x p base i)↔key x<key (p.toList.getD (base+i) 0)):=by
 unfold byd
 rw[zao]
 simp
theorem zh8{key:Nat->Int}{x:Nat}{p:Az}{base i:Nat}:(Ab (byd key true x p base i)↔key (p.toList.getD (base+i) 0)<key x)/\(Am (byd key true x p base i)↔key x<=key (p.toList.getD (base+i) 0)):=by
 unfold byd
 rw[zao]
 simp
theorem zzb{u:Ac}(h:u.Pairwise (RK key)){s t:Nat}(hs:s<=t)(ht:t<u.length):key (u.getD s 0)<=key (u.getD t 0):=by
 by_cases e:s=t
 .subst e;exact Zmy _
 .exact zpe h (by lia) ht
theorem zzq{x:Nat}{p:Az}{base m:Nat}(hb:base+m<=p.size)(sp:p.toList.Pairwise (RK key)):∀i j,i<=j->j<m->Ab (byd key false x p base j)->Ab (byd key false x p base i):=fun i j h1 h2 h=>by
 rw[znc.1] at h ⊢
 exact Zjw (zzb sp (by lia) (by simp;lia)) h
theorem zqh{x:Nat}{p:Az}{base m:Nat}(hb:base+m<=p.size)(sp:p.toList.Pairwise (RK key)):∀i j,i<=j->j<m->Ab (byd key true x p base j)->Ab (byd key true x p base i):=fun i j h1 h2 h=>by
 rw[zh8.1] at h ⊢
 exact Zub (zzb sp (by lia) (by simp;lia)) h
theorem zbn{α:Type}{c:Prop}[Decidable c]{m1 m2:StateT Zii Sem α}{Q:α->Af Zii}{st:Zii}(h1:c->wpS (A3 w) A E s m1 Q st)(h2:¬ c->wpS (A3 w) A E s m2 Q st):wpS (A3 w) A E s (if c then m1 else m2) Q st:=by
 by_cases h:c
 .rw[if_pos h];exact h1 h
 .rw[if_neg h];exact h2 h
theorem zca{α:Type}{x y:Nat}{m1 m2:StateT Zii Sem α}{Q:α->Af Zii}{st:Zii}(h1:x=y->wpS (A3 w) A E s m1 Q st)(h2:¬ x=y->wpS (A3 w) A E s m2 Q st):wpS (A3 w) A E s (if Ab (x == y) then m1 else m2) Q st :=
 zbn (fun h=>h1 (beq_iff_eq.mp h)) fun h=>h2 fun e=>h (beq_iff_eq.mpr e)
theorem lo_w(hc:Cmp prog w A s κ it n key){pa pb:Az}{st:Zii}{Q:Array Zmd->Af Zii}(hk:kindOf st=κ)(ea:Ent n pa)(eb:Ent n pb)(sa:pa.toList.Pairwise (RK key))(sb:pb.toList.Pairwise (RK key))(ha:0<pa.size)(hb:0<pb.size)
  (h0:key (pb.toList.getD 0 0)<=key (pa.toList.getD 0 0)) (hl:∀y∈pb.toList,key y<=key (pa.toList.getD (pa.size - 1) 0)) (q:∀r st',SS st st'->Res it key pa.toList pb.toList r->Q r st') :
  wpS (A3 w) A E s (zqw (pa.map A6) (pb.map A6)) Q st:=by
 have la:pa.toList.length=pa.size:=by simp
 have lb:pb.toList.length=pb.size:=by simp
 have dn:∀{o:Ac} {i j:Nat},MI (RK key) pa.toList pb.toList o i j->j=pb.size->Res it key pa.toList pb.toList (AK it o++(pa.map A6).extract i pa.size++(pb.map A6).extract j pb.size):=fun {o i j} h hj=>by
  subst hj
  rw[zk4,zk4,Zsl (l:=pb.toList) (by simp),Zh0]
  rw[<- lb] at h
  exact Res.of (h.endB sa)
 have dn':∀{o:Ac} {i j:Nat},MI (RK key) pa.toList pb.toList o i j->i=pa.size->Res it key pa.toList pb.toList (AK it o++(pa.map A6).extract i pa.size++(pb.map A6).extract j pb.size):=fun {o i j} h hi=>by
  subst hi
  rw[zk4,zk4,Zsl (l:=pa.toList) (by simp),Zh0]
  rw[<- la] at h
  exact Res.of (h.endA sb)
 have ls:∀{o:Ac} {i j:Nat},MI (RK key) pa.toList pb.toList o i j->i+1=pa.size->Res it key pa.toList pb.toList (AK it o++(pb.map A6).extract j pb.size++(pa.map A6).extract i pa.size):=fun {o i j} h hi=>by
  rw[zk4,zk4]
  exact Res.of (h.lastA sa sb (by omega) fun y hy=>by have:=hl y hy;rwa [show pa.size - 1=i by lia] at this)
 have m0:MI (RK key) pa.toList pb.toList [] 0 0:=⟨Zhr _,Zhr _,Zn4,by simp,by simp,by simp⟩
 have m1:MI (RK key) pa.toList pb.toList [pb.toList.getD 0 0] 0 1:=(m0.swap.pushA (by omega) sb (low sa h0)).swap
 unfold zqw
 show wpS _ _ _ _ (_ >>= _) _ _
 rw[show(pa.map A6).size=pa.size from Zl9 ..,show(pb.map A6).size=pb.size from Zl9 ..]
 dsimp only
 refine Zgt (Zpa (Zj1 ⟨rfl,?_⟩))
 refine Zgt (zbk hb ?_)
 have e1 : #[kas_item it (pb.getD 0 0)]=AK it [pb.toList.getD 0 0]:=by rw[zao];rfl
 rw[e1]
 refine zca (fun hq1=>?_) fun hq1=>?_
 .exact Zgu (q _ _ (SS.refl _) (dn m1 (by omega)))
 refine zca (fun hq2=>?_) fun hq2=>?_
 .exact Zgu (q _ _ (SS.refl _) (ls m1 (by omega)))
 refine Zgt (Znt ?_)
 refine Zgt (Zjx (Zh9
  (I:=fun k c st'=>SS st st' /\ ∃o ia ib mg,c=(none,AK it o,ia,ib,mg)/\MI (RK key) pa.toList pb.toList o ia ib/\ia+1<pa.size/\ib<pb.size/\k+1<=o.length)
  (Q:=fun c st'=>SS st st' /\ ∃r z,c=(some r,z)/\Res it key pa.toList pb.toList r) ?_ ?_ ⟨SS.refl _,_,0,1,_,rfl,m1,by lia,by lia,by simp⟩) ?_)
 .rintro k c st' _ hkm ⟨hS, o, ia, ib, mg, rfl, mi, hia, hib, hlen⟩
  dsimp only
  refine Zgt (Zjx (Zh9
   (I:=fun k' c st2=>SS st st2 /\ ∃o' ia ib ac bc,c=(none,AK it o',ia,ib,ac,bc)/\MI (RK key) pa.toList pb.toList o' ia ib/\ia+1<pa.size/\ib<pb.size/\o.length<=o'.length)
   (Q:=fun c st2=>SS st st2/\((∃r z,c=(some r,z)/\Res it key pa.toList pb.toList r) \/ ∃o' ia ib ac bc,c=(none,AK it o',ia,ib,ac,bc)/\MI (RK key) pa.toList pb.toList o' ia ib/\ia+1<pa.size/\ib<pb.size/\o.length<=o'.length)) ?_ ?_ ⟨hS,o,ia,ib,0,0,rfl,mi,hia,hib,Ay⟩) ?_)
  .rintro k' c st2 _ _ ⟨hS,o',ia,ib,ac,bc,rfl,mi,hia,hib,hlen'⟩
   dsimp only
   refine Zgt (zbk hib (Zgt (BB (ia<pa.size) (Zgt (lt_w hc (hS.1.trans hk) (eb _) (ea _) ?_)))))
   dsimp only
   rw[zao,zao]
   refine zbn (fun hlt=>?_) fun hlt=>?_
   .simp only[decide_eq_true_eq] at hlt
    refine Zgt (zbk hib ?_)
    rw[zb6,zao]
    have mi':=(mi.swap.pushA (by omega) sb (low sa (Ziu hlt))).swap
    refine zca (fun hq3=>?_) fun hq3=>?_
    .exact Zgu (Bo hS (AM _ _ (dn mi' (by omega))))
    refine zbn (fun hq4=>?_) fun hq4=>?_
    .exact Zgu ⟨hS,.inr ⟨_,_,_,_,_,rfl,mi',hia,by lia,by simp;lia⟩⟩
    .exact Zgu ⟨hS,_,_,_,_,_,rfl,mi',hia,by lia,by simp;lia⟩
   .simp only[decide_eq_true_eq,Zy8] at hlt
    refine Zgt (BB (ia<pa.size) ?_)
    rw[zb6,zao]
    have mi':=mi.pushA (by lia) sa (low sb hlt)
    refine zca (fun hq3=>?_) fun hq3=>?_
    .exact Zgu (Bo hS (AM _ _ (ls mi' (by omega))))
    refine zbn (fun hq4=>?_) fun hq4=>?_
    .exact Zgu ⟨hS,.inr ⟨_,_,_,_,_,rfl,mi',by lia,by omega,by simp;lia⟩⟩
    .exact Zgu ⟨hS,_,_,_,_,_,rfl,mi',by lia,by omega,by simp;lia⟩
  .rintro c st2 ⟨hS,h⟩
   exact⟨hS,.inr h⟩
  .rintro c st2 ⟨hS, ⟨r, z, rfl, hr⟩ | ⟨o1, ia, ib, ac, bc, rfl, mi, hia, hib, hlen1⟩⟩
   .exact Zgu ⟨hS,r,_,rfl,hr⟩
   .dsimp only
    refine Zgt (Zpa (Zj1 ⟨rfl,?_⟩))
    refine Zgt (Zjx (Zh9
     (I:=fun k' c st3=>SS st st3 /\ ∃o' ia ib mg ac bc,c=(none,AK it o',ia,ib,mg,ac,bc)/\MI (RK key) pa.toList pb.toList o' ia ib/\ia+1<pa.size/\ib<pb.size/\o1.length+k'<=o'.length)
     (Q:=fun c st3=>SS st st3/\((∃r z,c=(some r,z)/\Res it key pa.toList pb.toList r) \/ ∃o' ia ib mg ac bc,c=(none,AK it o',ia,ib,mg,ac,bc)/\MI (RK key) pa.toList pb.toList o' ia ib/\ia+1<pa.size/\ib<pb.size/\o1.length+1<=o'.length)) ?_ ?_ ⟨hS,o1,ia,ib,_,ac,bc,rfl,mi,hia,hib,Ay⟩) ?_)
    .clear mi hia hib
     rintro k' c st3 _ _ ⟨hS,o',ia,ib,mg,ac,bc,rfl,mi,hia,hib,hlen'⟩
     dsimp only
     refine zbn (fun hmg=>?_) fun hmg=>?_
     all_goals
      refine Zgt (zqa hS fun st4 hS4=>Zgt (zbk hib (Zgt (zd9 hc (hS4.1.trans hk) (eb _) ea (by lia) (by lia) (zzq (by lia) sa) fun k1 i1 i2 i3=>?_))))
      dsimp only
      rw[zao] at i2 i3
      have mi2':=mi.takeA sa k1 (by lia) fun t h1 h2=>low sb (by have:=znc.1.mp (i2 (t - ia) (by lia));rwa [show ia+(t - ia)=t by lia] at this)
      have hg':ia+k1<pa.size->key (pb.toList.getD ib 0)<key (pa.toList.getD (ia+k1) 0):=fun h=>znc.2.mp (i3 k1 Ay (by lia))
      refine zbn (fun hk0=>?_) fun hk0=>?_
      .rw[ztq]
       have hlen2:o1.length+k'<=(o'++(pa.toList.drop ia).take k1).length:=by simp;lia
       refine zca Bg fun hq1=>?_
       .exact Zgu (Bo hS4 (AM _ _ (ls mi2' hq)))
       refine zca Bg fun hq2=>?_
       .exact Zgu (Bo hS4 (AM _ _ (dn' mi2' hq)))
       have hg:=hg' (by lia)
       have mi2:=mi2'
       generalize o'++(pa.toList.drop ia).take k1=o2 at mi2 hlen2 ⊢
       have hia2:ia+k1+1<pa.size:=by lia
       clear mi2' hg'
       generalize ia+k1=ia2 at mi2 hia2 hg ⊢
       refine Zgt (zbk hib ?_)
       rw[zb6,zao]
       have mi3:=(mi2.swap.pushA (by omega) sb (low sa (Ziu hg))).swap
       have hlen3:o1.length+k'+1<=(o2++[pb.toList.getD ib 0]).length:=by simp;omega
       refine zca Bg Bg
       .exact Zgu (Bo hS4 (AM _ _ (dn mi3 hq)))
       refine Zgt (BB (ia2<pa.size) (Zgt (zd9 hc (hS4.1.trans hk) (ea _) eb (by lia) (by lia) (zqh (by lia) sb) fun k2 j1 j2 j3=>?_)))
       dsimp only
       rw[zao] at j2 j3
       generalize o2++[pb.toList.getD ib 0]=o3 at mi3 hlen3 ⊢
       have mi4':=(mi3.swap.takeA sb k2 (by lia) fun t h1 h2=>low sa (by have:=zh8.1.mp (j2 (t - (ib+1)) (by lia));rw[show ib+1+(t - (ib+1))=t by lia] at this;exact Ziu this)).swap
       have hg2':ib+1+k2<pb.size->key (pa.toList.getD ia2 0)<=key (pb.toList.getD (ib+1+k2) 0):=fun h=>zh8.2.mp (j3 k2 Ay (by lia))
       refine zbn (fun hk0=>?_) fun hk0=>?_
       .rw[ztq]
        have hlen4:o1.length+k'+1<=(o3++(pb.toList.drop (ib+1)).take k2).length:=by simp;lia
        refine zca Bg Bg
        .exact Zgu (Bo hS4 (AM _ _ (dn mi4' hq)))
        have hg2:=hg2' (by lia)
        have mi4:=mi4'
        generalize o3++(pb.toList.drop (ib+1)).take k2=o4 at mi4 hlen4 ⊢
        have hib4:ib+1+k2<pb.size:=by lia
        clear mi4' hg2'
        generalize ib+1+k2=ib4 at mi4 hib4 hg2 ⊢
        refine Zgt (BB (ia2<pa.size) ?_)
        rw[zb6,zao]
        have mi5:=mi4.pushA (by lia) sa (low sb hg2)
        refine zca Bg Bg
        .exact Zgu (Bo hS4 (AM _ _ (ls mi5 hq)))
        refine zbn (fun hq4=>?_) fun hq4=>?_
        .exact Zgu ⟨hS4,.inr ⟨_,_,_,_,_,_,rfl,mi5,by lia,by omega,by simp;lia⟩⟩
        .exact Zgu ⟨hS4,_,_,_,_,_,_,rfl,mi5,by lia,by omega,by simp;lia⟩
       .have hk00:k2=0:=by lia
        subst hk00
        have hg2:=hg2' (by lia)
        rw[Zqa] at hg2
        have mi4:=mi3
        have hib4:ib+1<pb.size:=by lia
        refine Zgt (BB (ia2<pa.size) ?_)
        rw[zb6,zao]
        have mi5:=mi4.pushA (by lia) sa (low sb hg2)
        refine zca Bg Bg
        .exact Zgu (Bo hS4 (AM _ _ (ls mi5 hq)))
        refine zbn (fun hq4=>?_) fun hq4=>?_
        .exact Zgu ⟨hS4,.inr ⟨_,_,_,_,_,_,rfl,mi5,by lia,by omega,by simp;lia⟩⟩
        .exact Zgu ⟨hS4,_,_,_,_,_,_,rfl,mi5,by lia,by omega,by simp;lia⟩
      .have hk00:k1=0:=by lia
       subst hk00
       have hg:=hg' (by lia)
       rw[Zqa] at hg
       obtain⟨o2,eo2⟩:∃o2,o2=o':=(AF _)
       obtain⟨ia2,eia2⟩:∃i,i=ia:=(AF _)
       have mi2:=mi
       have hlen2:=hlen'
       have hia2:ia+1<pa.size:=hia
       clear mi2' hg'
       rw[<- eo2] at mi2 hlen2 ⊢
       rw[<- eia2] at mi2 hia2 hg ⊢
       refine Zgt (zbk hib ?_)
       rw[zb6,zao]
       have mi3:=(mi2.swap.pushA (by omega) sb (low sa (Ziu hg))).swap
       have hlen3:o1.length+k'+1<=(o2++[pb.toList.getD ib 0]).length:=by simp;omega
       refine zca Bg Bg
       .exact Zgu (Bo hS4 (AM _ _ (dn mi3 hq)))
       refine Zgt (BB (ia2<pa.size) (Zgt (zd9 hc (hS4.1.trans hk) (ea _) eb (by lia) (by lia) (zqh (by lia) sb) fun k2 j1 j2 j3=>?_)))
       dsimp only
       rw[zao] at j2 j3
       generalize o2++[pb.toList.getD ib 0]=o3 at mi3 hlen3 ⊢
       have mi4':=(mi3.swap.takeA sb k2 (by lia) fun t h1 h2=>low sa (by have:=zh8.1.mp (j2 (t - (ib+1)) (by lia));rw[show ib+1+(t - (ib+1))=t by lia] at this;exact Ziu this)).swap
       have hg2':ib+1+k2<pb.size->key (pa.toList.getD ia2 0)<=key (pb.toList.getD (ib+1+k2) 0):=fun h=>zh8.2.mp (j3 k2 Ay (by lia))
       refine zbn (fun hk0=>?_) fun hk0=>?_
       .rw[ztq]
        have hlen4:o1.length+k'+1<=(o3++(pb.toList.drop (ib+1)).take k2).length:=by simp;lia
        refine zca Bg Bg
        .exact Zgu (Bo hS4 (AM _ _ (dn mi4' hq)))
        have hg2:=hg2' (by lia)
        have mi4:=mi4'
        generalize o3++(pb.toList.drop (ib+1)).take k2=o4 at mi4 hlen4 ⊢
        have hib4:ib+1+k2<pb.size:=by lia
        clear mi4' hg2'
        generalize ib+1+k2=ib4 at mi4 hib4 hg2 ⊢
        refine Zgt (BB (ia2<pa.size) ?_)
        rw[zb6,zao]
        have mi5:=mi4.pushA (by lia) sa (low sb hg2)
        refine zca Bg Bg
        .exact Zgu (Bo hS4 (AM _ _ (ls mi5 hq)))
        refine zbn (fun hq4=>?_) fun hq4=>?_
        .exact Zgu ⟨hS4,.inr ⟨_,_,_,_,_,_,rfl,mi5,by lia,by omega,by simp;lia⟩⟩
        .exact Zgu ⟨hS4,_,_,_,_,_,_,rfl,mi5,by lia,by omega,by simp;lia⟩
       .have hk00:k2=0:=by lia
        subst hk00
        have hg2:=hg2' (by lia)
        rw[Zqa] at hg2
        have mi4:=mi3
        have hib4:ib+1<pb.size:=by lia
        refine Zgt (BB (ia2<pa.size) ?_)
        rw[zb6,zao]
        have mi5:=mi4.pushA (by lia) sa (low sb hg2)
        refine zca Bg Bg
        .exact Zgu (Bo hS4 (AM _ _ (ls mi5 hq)))
        refine zbn (fun hq4=>?_) fun hq4=>?_
        .exact Zgu ⟨hS4,.inr ⟨_,_,_,_,_,_,rfl,mi5,by lia,by omega,by simp;lia⟩⟩
        .exact Zgu ⟨hS4,_,_,_,_,_,_,rfl,mi5,by lia,by omega,by simp;lia⟩
    .rintro c st3 ⟨hS,o',ia,ib,mg,ac,bc,rfl,mi,hia,hib,hlen'⟩
     exact⟨hS,.inr ⟨_,_,_,_,_,_,rfl,mi,hia,hib,by lia⟩⟩
    .rintro c st3 ⟨hS,⟨r,z,rfl,hr⟩ | ⟨o',ia,ib,mg,ac,bc,rfl,mi,hia,hib,hlen'⟩⟩
     .exact Zgu ⟨hS,r,_,rfl,hr⟩
     .dsimp only
      exact Zgt (zqa hS fun st4 hS4=>Zgu ⟨hS4,_,_,_,_,rfl,mi,hia,hib,by lia⟩)
 .rintro c st' ⟨hS,o,ia,ib,mg,rfl,mi,hia,hib,hlen⟩
  exfalso
  have:=mi.len
  lia
 .rintro c st' ⟨hS,r,z,rfl,hr⟩
  exact Zgu (q _ _ hS hr)
end
noncomputable abbrev RG(key:Nat->Int):Nat->Af Nat:=fun x y=>key y<=key x
noncomputable def MH(key:Nat->Int)(pa pb o:Ac)(na nb:Nat):Prop:=na<=pa.length/\nb<=pb.length/\MI (RG key) pa.reverse pb.reverse o (pa.length - na) (pb.length - nb)
section
variable{key:Nat->Int}{pa pb o:List Nat}{na nb:Nat}
theorem zil{u:Ac}{m:Nat}(h1:1<=m)(h2:m<=u.length):u.reverse.getD (u.length - m) 0=u.getD (m - 1) 0:=by
 rw[Zgf,Zgf,List.getElem?_reverse (by omega)]
 congr 2;lia
theorem zgc{u:Ac}{m:Nat}(h2:m<=u.length):u.reverse.drop (u.length - m)=(u.take m).reverse:=by
 rw[Zua];congr 2;lia
theorem zm1{u:Ac}(h:u.Pairwise (RK key)):u.reverse.Pairwise (RG key):=Zss.mpr h
theorem MH.swap(h:MH key pa pb o na nb):MH key pb pa o nb na:=⟨h.2.1,h.1,h.2.2.swap⟩
theorem MH.pushA(h:MH key pa pb o na nb)(h1:1<=na)(sa:pa.Pairwise (RK key))(hR:∀y∈pb.take nb,key y<=key (pa.getD (na - 1) 0)):MH key pa pb (o++[pa.getD (na - 1) 0]) (na - 1) nb:=by
 have h2:=h.1
 refine⟨by lia,h.2.1,?_⟩
 have:=h.2.2.pushA (by simp;omega) (zm1 sa) (by rw[zil h1 h.1,zgc h.2.1];intro y hy;exact hR y (by simpa using hy))
 rw[zil h1 h.1] at this
 rw[show pa.length - (na - 1)=pa.length - na+1 by lia]
 exact this
theorem MH.takeA(h:MH key pa pb o na nb)(sa:pa.Pairwise (RK key)){m:Nat}(hm:m<=na)(hR:∀t,m<=t->t<na-> ∀y∈pb.take nb,key y<=key (pa.getD t 0)):MH key pa pb (o++((pa.drop m).take (na - m)).reverse) m nb:=by
 have h2:=h.1
 refine⟨by lia,h.2.1,?_⟩
 have:=h.2.2.takeA (zm1 sa) (na - m) (by simp;lia) (by
  intro t t1 t2 y hy
  rw[zgc h.2.1] at hy
  have e:=zil (u:=pa) (m:=pa.length - t) (by omega) (by lia)
  rw[show pa.length - (pa.length - t)=t by lia] at e
  rw[show RG key (pa.reverse.getD t 0) y↔key y<=key (pa.reverse.getD t 0) from Zvw,e]
  exact hR _ (by omega) (by omega) y (by simpa using hy))
 rw[zgc h.1,List.take_reverse,List.drop_take] at this
 have e1:(List.take na pa).length - (na - m)=m:=by simp;lia
 rw[e1] at this
 rw[show pa.length - m=pa.length - na+(na - m) by lia]
 exact this
theorem MI.finR{r:Ac}(h:MI (RG key) pa.reverse pb.reverse r pa.reverse.length pb.reverse.length):r.reverse.Pairwise (RK key)/\r.reverse.Perm (pa++pb):=by
 refine⟨Zss.mpr h.fin.1,?_⟩
 refine(Zpr r).trans (h.fin.2.trans ?_)
 exact(Zpr pa).append (Zpr pb)
theorem MH.endB(h:MH key pa pb o na 0)(sa:pa.Pairwise (RK key)):(pa.take na++o.reverse).Pairwise (RK key)/\(pa.take na++o.reverse).Perm (pa++pb):=by
 have h3:=h.2.2
 rw[Nat.sub_zero,<- List.length_reverse (as:=pb)] at h3
 have:=(h3.endB (zm1 sa)).finR
 rw[zgc h.1] at this
 simpa using this
theorem MH.lastB(h:MH key pa pb o na 1)(sa:pa.Pairwise (RK key))(sb:pb.Pairwise (RK key))(hl:∀y∈pa,key (pb.getD 0 0)<=key y):(pb.take 1++pa.take na++o.reverse).Pairwise (RK key)/\(pb.take 1++pa.take na++o.reverse).Perm (pa++pb):=by
 have hb:=h.2.1
 have:=(h.2.2.swap.lastA (zm1 sb) (zm1 sa) (by simp;lia) (by
  intro y hy
  have:=hl y (by simpa using hy)
  rw[zil Ay hb];exact this)).swap.finR
 rw[zgc h.1,zgc h.2.1] at this
 simpa using this
theorem MH.len(h:MH key pa pb o na nb):o.length+na+nb=pa.length+pb.length:=by
 have:=h.2.2.len
 have h1:=h.1
 have h2:=h.2.1
 lia
theorem upp{u:Ac}(su:u.Pairwise (RK key)){x m:Nat}(hm:m<=u.length)(h:0<m->key (u.getD (m - 1) 0)<=key x):∀y∈u.take m,key y<=key x:=fun y hy=>by
 obtain⟨t,ht,rfl⟩:=Zs2.mp hy
 have ht':t<m:=by simp at ht;lia
 have h3:=zzb su (s:=t) (t:=m - 1) (by lia) (by lia)
 have e:(u.take m)[t]=u.getD t 0:=by
  rw[Zps,Zgf,Zgg];rfl
 rw[e]
 exact Zjw h3 (h (by lia))
end
theorem zov(it:Array Zmd)(o:Ac)(p:Az)(i k:Nat):AK it o++((p.map A6).extract i k).reverse=AK it (o++((p.toList.drop i).take (k - i)).reverse):=by
 apply Zkx.mp
 simp[AK,Zmi,Zpe,Zmo]
theorem zur(it:Array Zmd)(o:Ac)(p q:Az)(i j:Nat):(p.map A6).extract 0 i++(q.map A6).extract 0 j++(AK it o).reverse=AK it (p.toList.take i++q.toList.take j++o.reverse):=by
 apply Zkx.mp
 simp[AK,Zmi,Zpe,Zmo]
section
variable{prog:Zg8}{w:Zhy}{A:Zhk}{E:Zgi->Zgk->Prop}{s:Zgk}{κ:Zly}{it:Array Zmd}{n:Nat}{key:Nat->Int}
theorem hi_w(hc:Cmp prog w A s κ it n key){pa pb:Az}{st:Zii}{Q:Array Zmd->Af Zii}(hk:kindOf st=κ)(ea:Ent n pa)(eb:Ent n pb)(sa:pa.toList.Pairwise (RK key))(sb:pb.toList.Pairwise (RK key))(ha:0<pa.size)(hb:0<pb.size)
  (h0:∀y∈pa.toList,key (pb.toList.getD 0 0)<=key y) (hl:∀y∈pb.toList,key y<=key (pa.toList.getD (pa.size - 1) 0)) (q:∀r st',SS st st'->Res it key pa.toList pb.toList r->Q r st') :
  wpS (A3 w) A E s (zqx (pa.map A6) (pb.map A6)) Q st:=by
 have la:pa.toList.length=pa.size:=by simp
 have lb:pb.toList.length=pb.size:=by simp
 have dn:∀{o:Ac} {i j:Nat},MH key pa.toList pb.toList o i j->j=0->Res it key pa.toList pb.toList ((pa.map A6).extract 0 i++(pb.map A6).extract 0 j++(AK it o).reverse):=fun {o i j} h hj=>by
  subst hj
  rw[zur,Zvs,Zh0]
  exact⟨_,rfl,(h.endB sa).2,(h.endB sa).1⟩
 have dn':∀{o:Ac} {i j:Nat},MH key pa.toList pb.toList o i j->i=0->Res it key pa.toList pb.toList ((pa.map A6).extract 0 i++(pb.map A6).extract 0 j++(AK it o).reverse):=fun {o i j} h hi=>by
  subst hi
  rw[zur,Zvs,Zmu]
  have:=h.swap.endB sb
  exact⟨_,rfl,this.2.trans Zmg,this.1⟩
 have ls:∀{o:Ac} {i j:Nat},MH key pa.toList pb.toList o i j->j=1->Res it key pa.toList pb.toList ((pb.map A6).extract 0 j++(pa.map A6).extract 0 i++(AK it o).reverse):=fun {o i j} h hj=>by
  subst hj
  rw[zur]
  have:=h.lastB sa sb h0
  exact⟨_,rfl,this.2,this.1⟩
 have m0:MH key pa.toList pb.toList [] pa.size pb.size:=⟨by lia,by lia,by simp,by simp,Zn4,by simp,by simp,by simp⟩
 have m1:MH key pa.toList pb.toList [pa.toList.getD (pa.size - 1) 0] (pa.size - 1) pb.size:=m0.pushA (by lia) sa fun y hy=>hl y (Zmn hy)
 unfold zqx
 show wpS _ _ _ _ (_ >>= _) _ _
 rw[show(pa.map A6).size=pa.size from Zl9 ..,show(pb.map A6).size=pb.size from Zl9 ..]
 dsimp only
 refine Zgt (Zpa (Zj1 ⟨rfl,?_⟩))
 refine Zgt (BB (pa.size - 1<pa.size) ?_)
 have e1 : #[kas_item it (pa.getD (pa.size - 1) 0)]=AK it [pa.toList.getD (pa.size - 1) 0]:=by rw[zao];rfl
 rw[e1]
 refine zca (fun hq1=>?_) fun hq1=>?_
 .exact Zgu (q _ _ (SS.refl _) (dn' m1 hq1))
 refine zca (fun hq2=>?_) fun hq2=>?_
 .exact Zgu (q _ _ (SS.refl _) (ls m1 hq2))
 refine Zgt (Znt ?_)
 refine Zgt (Zjx (Zh9
  (I:=fun k c st'=>SS st st' /\ ∃o ia ib mg,c=(none,ia,ib,AK it o,mg)/\MH key pa.toList pb.toList o ia ib/\0<ia/\1<ib/\k+1<=o.length)
  (Q:=fun c st'=>SS st st' /\ ∃r z,c=(some r,z)/\Res it key pa.toList pb.toList r) ?_ ?_ ⟨SS.refl _,_,_,_,_,rfl,m1,by lia,by lia,by simp⟩) ?_)
 .rintro k c st' _ hkm ⟨hS, o, ia, ib, mg, rfl, mi, hia, hib, hlen⟩
  dsimp only
  refine Zgt (Zjx (Zh9
   (I:=fun k' c st2=>SS st st2 /\ ∃o' ia ib ac bc,c=(none,ia,ib,AK it o',ac,bc)/\MH key pa.toList pb.toList o' ia ib/\0<ia/\1<ib/\o.length<=o'.length)
   (Q:=fun c st2=>SS st st2/\((∃r z,c=(some r,z)/\Res it key pa.toList pb.toList r) \/ ∃o' ia ib ac bc,c=(none,ia,ib,AK it o',ac,bc)/\MH key pa.toList pb.toList o' ia ib/\0<ia/\1<ib/\o.length<=o'.length)) ?_ ?_ ⟨hS,o,ia,ib,0,0,rfl,mi,hia,hib,Ay⟩) ?_)
  .rintro k' c st2 _ _ ⟨hS,o',ia,ib,ac,bc,rfl,mi,hia,hib,hlen'⟩
   have za:=mi.1
   have zb:=mi.2.1
   dsimp only
   refine Zgt (BB (ib - 1<pb.size) (Zgt (BB (ia - 1<pa.size) (Zgt (lt_w hc (hS.1.trans hk) (eb _) (ea _) ?_)))))
   dsimp only
   rw[zao,zao]
   refine zbn (fun hlt=>?_) fun hlt=>?_
   .simp only[decide_eq_true_eq] at hlt
    refine Zgt (BB (ia - 1<pa.size) ?_)
    rw[zb6,zao]
    have mi':=mi.pushA hia sa (upp sb zb fun _=>Ziu hlt)
    refine zca (fun hq3=>?_) fun hq3=>?_
    .exact Zgu (Bo hS (AM _ _ (dn' mi' hq3)))
    refine zbn (fun hq4=>?_) fun hq4=>?_
    .exact Zgu ⟨hS,.inr ⟨_,_,_,_,_,rfl,mi',by lia,by omega,by simp;lia⟩⟩
    .exact Zgu ⟨hS,_,_,_,_,_,rfl,mi',by lia,by omega,by simp;lia⟩
   .simp only[decide_eq_true_eq,Zy8] at hlt
    refine Zgt (BB (ib - 1<pb.size) ?_)
    rw[zb6,zao]
    have mi':=(mi.swap.pushA (by lia) sb (upp sa za fun _=>hlt)).swap
    refine zca (fun hq3=>?_) fun hq3=>?_
    .exact Zgu (Bo hS (AM _ _ (ls mi' hq3)))
    refine zbn (fun hq4=>?_) fun hq4=>?_
    .exact Zgu ⟨hS,.inr ⟨_,_,_,_,_,rfl,mi',by omega,by lia,by simp;lia⟩⟩
    .exact Zgu ⟨hS,_,_,_,_,_,rfl,mi',by omega,by lia,by simp;lia⟩
  .rintro c st2 ⟨hS,h⟩
   exact⟨hS,.inr h⟩
  .rintro c st2 ⟨hS, ⟨r, z, rfl, hr⟩ | ⟨o1, ia, ib, ac, bc, rfl, mi, hia, hib, hlen1⟩⟩
   .exact Zgu ⟨hS,r,_,rfl,hr⟩
   .dsimp only
    refine Zgt (Zpa (Zj1 ⟨rfl,?_⟩))
    refine Zgt (Zjx (Zh9
     (I:=fun k' c st3=>SS st st3 /\ ∃o' ia ib mg ac bc,c=(none,ia,ib,AK it o',mg,ac,bc)/\MH key pa.toList pb.toList o' ia ib/\0<ia/\1<ib/\o1.length+k'<=o'.length)
     (Q:=fun c st3=>SS st st3/\((∃r z,c=(some r,z)/\Res it key pa.toList pb.toList r) \/ ∃o' ia ib mg ac bc,c=(none,ia,ib,AK it o',mg,ac,bc)/\MH key pa.toList pb.toList o' ia ib/\0<ia/\1<ib/\o1.length+1<=o'.length)) ?_ ?_ ⟨hS,o1,ia,ib,_,ac,bc,rfl,mi,hia,hib,Ay⟩) ?_)
    .clear mi hia hib
     rintro k' c st3 _ _ ⟨hS,o',ia,ib,mg,ac,bc,rfl,mi,hia,hib,hlen'⟩
     have za:=mi.1
     have zb:=mi.2.1
     dsimp only
     refine zbn (fun hmg=>?_) fun hmg=>?_
     all_goals
      refine Zgt (zqa hS fun st4 hS4=>Zgt (BB (ib - 1<pb.size) (Zgt (zd9 hc (hS4.1.trans hk) (eb _) ea (by lia) (by lia) (zzq (by lia) sa) fun at1 i1 i2 i3=>?_))))
      dsimp only
      rw[zao] at i2 i3
      have mi2':=mi.takeA sa i1 fun t h1 h2=>upp sb zb fun _=>by have:=znc.2.mp (i3 t h1 h2);rw[Zj4] at this;exact Ziu this
      have hg':∀y∈pa.toList.take at1,key y<=key (pb.toList.getD (ib - 1) 0):=upp sa (by lia) fun h=>by have:=znc.1.mp (i2 (at1 - 1) (by lia));rwa [Zj4] at this
      refine zbn (fun hk0=>?_) fun hk0=>?_
      .rw[zov]
       have hlen2:o1.length+k'<=(o'++((pa.toList.drop at1).take (ia - at1)).reverse).length:=by simp;lia
       refine zca Bg fun hq1=>?_
       .exact Zgu (Bo hS4 (AM _ _ (dn' mi2' hq)))
       have hg:=hg'
       have mi2:=mi2'
       generalize o'++((pa.toList.drop at1).take (ia - at1)).reverse=o2 at mi2 hlen2 ⊢
       have hia2:0<at1:=by lia
       have za2:at1<=pa.size:=by lia
       clear mi2' hg'
       obtain⟨ia2,eia2⟩:∃i,i=at1:=(AF _)
       rw[<- eia2] at mi2 hia2 hg za2 ⊢
       refine Zgt (BB (ib - 1<pb.size) ?_)
       rw[zb6,zao]
       have mi3:=(mi2.swap.pushA (by lia) sb hg).swap
       have hlen3:o1.length+k'+1<=(o2++[pb.toList.getD (ib - 1) 0]).length:=by simp;omega
       refine zca Bg fun hqb=>?_
       .exact Zgu (Bo hS4 (AM _ _ (ls mi3 hq)))
       refine Zgt (BB (ia2 - 1<pa.size) (Zgt (zd9 hc (hS4.1.trans hk) (ea _) eb (by lia) (by lia) (zqh (by lia) sb) fun at2 j1 j2 j3=>?_)))
       dsimp only
       rw[zao] at j2 j3
       generalize o2++[pb.toList.getD (ib - 1) 0]=o3 at mi3 hlen3 ⊢
       have mi4':=(mi3.swap.takeA sb j1 fun t h1 h2=>upp sa (by omega) fun _=>by have:=zh8.2.mp (j3 t h1 h2);rwa [Zj4] at this).swap
       have hg2:∀y∈pb.toList.take at2,key y<=key (pa.toList.getD (ia2 - 1) 0):=upp sb (by lia) fun h=>by have:=zh8.1.mp (j2 (at2 - 1) (by lia));rw[Zj4] at this;exact Ziu this
       refine zbn (fun hk0=>?_) fun hk0=>?_
       .rw[zov]
        have hlen4:o1.length+k'+1<=(o3++((pb.toList.drop at2).take (ib - 1 - at2)).reverse).length:=by simp;lia
        refine zca Bg fun hqc=>?_
        .exact Zgu (Bo hS4 (AM _ _ (ls mi4' hq)))
        refine zca Bg fun hqd=>?_
        .exact Zgu (Bo hS4 (AM _ _ (dn mi4' hq)))
        have mi4:=mi4'
        generalize o3++((pb.toList.drop at2).take (ib - 1 - at2)).reverse=o4 at mi4 hlen4 ⊢
        refine Zgt (BB (ia2 - 1<pa.size) ?_)
        rw[zb6,zao]
        have mi5:=mi4.pushA hia2 sa hg2
        refine zca Bg Bg
        .exact Zgu (Bo hS4 (AM _ _ (dn' mi5 hq)))
        refine zbn (fun hq4=>?_) fun hq4=>?_
        .exact Zgu ⟨hS4,.inr ⟨_,_,_,_,_,_,rfl,mi5,by lia,by lia,by simp;lia⟩⟩
        .exact Zgu ⟨hS4,_,_,_,_,_,_,rfl,mi5,by lia,by lia,by simp;lia⟩
       .have e2:at2=ib - 1:=by lia
        subst e2
        have mi4:=mi3
        refine Zgt (BB (ia2 - 1<pa.size) ?_)
        rw[zb6,zao]
        have mi5:=mi4.pushA hia2 sa hg2
        refine zca Bg Bg
        .exact Zgu (Bo hS4 (AM _ _ (dn' mi5 hq)))
        refine zbn (fun hq4=>?_) fun hq4=>?_
        .exact Zgu ⟨hS4,.inr ⟨_,_,_,_,_,_,rfl,mi5,by lia,by lia,by simp;lia⟩⟩
        .exact Zgu ⟨hS4,_,_,_,_,_,_,rfl,mi5,by lia,by lia,by simp;lia⟩
      .have e2:at1=ia:=by lia
       rw[e2] at hg'
       have hg:=hg'
       obtain⟨o2,eo2⟩:∃o2,o2=o':=(AF _)
       obtain⟨ia2,eia2⟩:∃i,i=ia:=(AF _)
       have mi2:=mi
       have hlen2:=hlen'
       have hia2:0<ia:=hia
       have za2:ia<=pa.size:=by omega
       clear mi2' hg'
       rw[<- eo2] at mi2 hlen2 ⊢
       rw[<- eia2] at mi2 hia2 hg za2 ⊢
       refine Zgt (BB (ib - 1<pb.size) ?_)
       rw[zb6,zao]
       have mi3:=(mi2.swap.pushA (by lia) sb hg).swap
       have hlen3:o1.length+k'+1<=(o2++[pb.toList.getD (ib - 1) 0]).length:=by simp;omega
       refine zca Bg fun hqb=>?_
       .exact Zgu (Bo hS4 (AM _ _ (ls mi3 hq)))
       refine Zgt (BB (ia2 - 1<pa.size) (Zgt (zd9 hc (hS4.1.trans hk) (ea _) eb (by lia) (by lia) (zqh (by lia) sb) fun at2 j1 j2 j3=>?_)))
       dsimp only
       rw[zao] at j2 j3
       generalize o2++[pb.toList.getD (ib - 1) 0]=o3 at mi3 hlen3 ⊢
       have mi4':=(mi3.swap.takeA sb j1 fun t h1 h2=>upp sa (by omega) fun _=>by have:=zh8.2.mp (j3 t h1 h2);rwa [Zj4] at this).swap
       have hg2:∀y∈pb.toList.take at2,key y<=key (pa.toList.getD (ia2 - 1) 0):=upp sb (by lia) fun h=>by have:=zh8.1.mp (j2 (at2 - 1) (by lia));rw[Zj4] at this;exact Ziu this
       refine zbn (fun hk0=>?_) fun hk0=>?_
       .rw[zov]
        have hlen4:o1.length+k'+1<=(o3++((pb.toList.drop at2).take (ib - 1 - at2)).reverse).length:=by simp;lia
        refine zca Bg fun hqc=>?_
        .exact Zgu (Bo hS4 (AM _ _ (ls mi4' hq)))
        refine zca Bg fun hqd=>?_
        .exact Zgu (Bo hS4 (AM _ _ (dn mi4' hq)))
        have mi4:=mi4'
        generalize o3++((pb.toList.drop at2).take (ib - 1 - at2)).reverse=o4 at mi4 hlen4 ⊢
        refine Zgt (BB (ia2 - 1<pa.size) ?_)
        rw[zb6,zao]
        have mi5:=mi4.pushA hia2 sa hg2
        refine zca Bg Bg
        .exact Zgu (Bo hS4 (AM _ _ (dn' mi5 hq)))
        refine zbn (fun hq4=>?_) fun hq4=>?_
        .exact Zgu ⟨hS4,.inr ⟨_,_,_,_,_,_,rfl,mi5,by lia,by lia,by simp;lia⟩⟩
        .exact Zgu ⟨hS4,_,_,_,_,_,_,rfl,mi5,by lia,by lia,by simp;lia⟩
       .have e2:at2=ib - 1:=by lia
        subst e2
        have mi4:=mi3
        refine Zgt (BB (ia2 - 1<pa.size) ?_)
        rw[zb6,zao]
        have mi5:=mi4.pushA hia2 sa hg2
        refine zca Bg Bg
        .exact Zgu (Bo hS4 (AM _ _ (dn' mi5 hq)))
        refine zbn (fun hq4=>?_) fun hq4=>?_
        .exact Zgu ⟨hS4,.inr ⟨_,_,_,_,_,_,rfl,mi5,by lia,by lia,by simp;lia⟩⟩
        .exact Zgu ⟨hS4,_,_,_,_,_,_,rfl,mi5,by lia,by lia,by simp;lia⟩
    .rintro c st3 ⟨hS,o',ia,ib,mg,ac,bc,rfl,mi,hia,hib,hlen'⟩
     exact⟨hS,.inr ⟨_,_,_,_,_,_,rfl,mi,hia,hib,by lia⟩⟩
    .rintro c st3 ⟨hS,⟨r,z,rfl,hr⟩ | ⟨o',ia,ib,mg,ac,bc,rfl,mi,hia,hib,hlen'⟩⟩
     .exact Zgu ⟨hS,r,_,rfl,hr⟩
     .dsimp only
      exact Zgt (zqa hS fun st4 hS4=>Zgu ⟨hS4,_,_,_,_,rfl,mi,hia,hib,by lia⟩)
 .rintro c st' ⟨hS,o,ia,ib,mg,rfl,mi,hia,hib,hlen⟩
  exfalso
  have:=mi.len
  lia
 .rintro c st' ⟨hS,r,z,rfl,hr⟩
  exact Zgu (q _ _ hS hr)
end
noncomputable def Seg(key:Nat->Int)(p:Az)(i j:Nat):Prop:=∀s t,i<=s->s<=t->t<j->Av p s<=Av p t
theorem zq2{α:Type}(b:Nat):∀(q:List α) (j:Nat) (a:Array α),b+j+q.length<=a.size-> ∀t,((q.zipIdx j).foldl (fun a x=>match x with | (p,j)=>a.setIfInBounds (b+j) p) a)[t]? = if b+j<=t/\t<b+j+q.length then q[t - (b+j)]? else a[t]?
 | [],j,a,h,t=>by
  simp only[Zqs,List.foldl_nil,Zhz]
  rw[if_neg (by lia)]
 | x::q,j,a,h,t=>by
  rw[Zqb,Zqx]
  simp only[Zg5] at h ⊢
  rw[zq2 b q (j+1) _ (by simp;lia) t]
  by_cases h1:b+(j+1)<=t/\t<b+(j+1)+q.length
  .rw[if_pos h1,if_pos (by lia),show t - (b+j)=(t - (b+(j+1)))+1 by lia,List.getElem?_cons_succ]
  .rw[if_neg h1]
   rw[Zqe]
   by_cases h2:b+j=t
   .subst h2
    rw[if_pos rfl,if_pos (by lia),if_pos (by lia),Zx1,List.getElem?_cons_zero]
   .rw[if_neg h2,if_neg (by lia)]
noncomputable def spl(p:Az)(b:Nat)(q:Ac)(e:Nat):Az:=(p.toList.take b++q++p.toList.drop e).toArray
theorem zs7{p:Az}{b e:Nat}{q:Ac}(h1:b+q.length=e)(h2:e<=p.size)(t:Nat):(spl p b q e)[t]? = if b<=t/\t<e then q[t - b]? else p[t]?:=by
 unfold spl
 rw[List.getElem?_toArray]
 by_cases hb:t<b
 .rw[if_neg (by lia),Zis,Zih (by simp;lia),Zno hb,Zg6]
 .by_cases he:t<e
  .rw[if_pos (by lia),Zis,Zip (by simp;lia),Zih (by simp;lia)]
   congr 1;simp;lia
  .rw[if_neg (by omega),Zip (by simp;lia),Zk2,Zg6]
   congr 1;simp;lia
theorem zik{p:Az}{b e:Nat}{q:Ac}(h1:b+q.length=e)(h2:e<=p.size)(t:Nat):(spl p b q e).getD t 0=if b<=t/\t<e then q.getD (t - b) 0 else p.getD t 0:=by
 rw[Zia,zs7 h1 h2]
 split
 .rw[Zgf]
 .rw[Zia]
theorem zyq{p:Az}{b e:Nat}{q:Ac}(h1:b+q.length=e)(h2:e<=p.size):(spl p b q e).size=p.size:=by
 simp[spl];lia
theorem zck(p:Az)(i j:Nat):(BQ i j)=(p.toList.drop i).take (j - i):=by
 rw[Zlg]
theorem zza{p:Az}{b m e:Nat}{q:Ac}(h1:b<=m)(hm:m<=e)(h2:e<=p.size)(hq:q.Perm ((BQ b m)++(BQ m e))):(spl p b q e).Perm p:=by
 rw[Array.perm_iff_toList_perm]
 unfold spl
 have e1:p.toList=p.toList.take b++((BQ b m)++(BQ m e))++p.toList.drop e:=by
  rw[zck,zck]
  have a1:(p.toList.drop b).take (m - b)++(p.toList.drop m).take (e - m)=(p.toList.drop b).take (e - b):=by
   rw[show e - b=(m - b)+(e - m) by lia,List.take_add,Zor,show b+(m - b)=m by lia]
  rw[a1]
  have a2:(p.toList.drop b).take (e - b)++p.toList.drop e=p.toList.drop b:=by
   have:=Zjb (e - b) (p.toList.drop b)
   rw[Zor,show b+(e - b)=e by lia] at this
   exact this
  rw[Zis,a2,Zjb]
 have:(p.toList.take b++q++p.toList.drop e).Perm p.toList:=by
  rw[e1]
  have l1:(p.toList.take b++((BQ b m)++(BQ m e))++p.toList.drop e).take b=p.toList.take b:=by rw[<- e1]
  have l2:(p.toList.take b++((BQ b m)++(BQ m e))++p.toList.drop e).drop e=p.toList.drop e:=by rw[<- e1]
  rw[l1,l2]
  exact(hq.append_left _).append_right _
 exact this
theorem zjf{p:Az}{i j x:Nat}(h:x∈(BQ i j)):∃t,i<=t/\t<j/\t<p.size/\x=p.getD t 0:=by
 rw[zck] at h
 obtain⟨k,hk,e⟩:=Zs2.mp h
 have hk':k<j - i/\k<p.size - i:=by simp at hk;lia
 refine⟨i+k,by lia,by omega,by lia,?_⟩
 rw[<- e,Zps,Zt8,zao,Zgf,Zgg (by simp;lia)];rfl
theorem zz0{key:Nat->Int}{p:Az}{i j:Nat}(h:Seg key p i j):(p.extract i j).toList.Pairwise (RK key):=by
 rw[Zi8]
 intro s t hs ht hst
 have hj:t<j - i/\t<p.size - i:=by rw[zck] at ht;simp at ht;lia
 have e:∀u (hu:u<(p.extract i j).toList.length),(BQ i j)[u]=p.getD (i+u) 0:=fun u hu=>by
  have hu':u<j - i/\u<p.size - i:=by rw[zck] at hu;simp at hu;omega
  have:(BQ i j)[u]=((p.toList.drop i).take (j - i))[u]'(by rw[zck] at hu;exact hu):=by congr 1;exact zck p i j
  rw[this,Zps,Zt8,zao,Zgf,Zgg (by simp;lia)];rfl
 rw[e s hs,e t ht]
 exact h (i+s) (i+t) (by lia) (by lia) (by omega)
theorem zq5{p:Az}{i j u:Nat}(h:u<j - i)(hj:j<=p.size):(p.extract i j).toList.getD u 0=p.getD (i+u) 0:=by
 rw[zck,Zgf,Zno h,Zk2,zao,Zgf]
theorem zut{n:Nat}{p:Az}(hp:Ent n p)(hn:0<n)(i j:Nat):Ent n (p.extract i j):=fun k=>by
 rw[zao]
 by_cases h:k<(p.extract i j).toList.length
 .rw[Zgf,Zgg h]
  obtain⟨t,_,_,_,e⟩:=zjf (p:=p) (i:=i) (j:=j) (x:=(BQ i j)[k]) (Zik h)
  rw[Zlj,e];exact hp t
 .rw[Zgf,Zhu (by lia)];exact hn
theorem zzd{it:Array Zmd}{p:Az}{b e:Nat}{q:Ac}(h1:b+q.length=e)(h2:e<=p.size):((AK it q).toList.zipIdx 0).foldl (fun a x=>match x with | (p,j)=>a.setIfInBounds (b+j) p) (p.map A6)=(spl p b q e).map A6:=by
 apply Array.ext_getElem?
 intro t
 rw[zq2 b _ 0 _ (by simp[AK];lia) t,Ztj,Ztj,zs7 h1 h2]
 have l:(AK it q).toList=q.map A6:=by simp[AK]
 rw[l]
 by_cases h:b<=t/\t<e
 .rw[if_pos h,if_pos (by simp;lia),Zgy,Zqa]
 .rw[if_neg h,if_neg (by simp;lia)]
section
variable{prog:Zg8}{w:Zhy}{A:Zhk}{E:Zgi->Zgk->Prop}{s:Zgk}{κ:Zly}{it:Array Zmd}{n:Nat}{key:Nat->Int}
theorem yae{x:Nat}{p:Az}{base m:Nat}(sp:Seg key p base (base+m)):∀i j,i<=j->j<m->Ab (byd key false x p base j)->Ab (byd key false x p base i):=fun i j h1 h2 h=>by
 rw[znc.1,<- zao] at h ⊢
 exact Zjw (sp (base+i) (base+j) (by lia) (by lia) (by lia)) h
theorem ybj{x:Nat}{p:Az}{base m:Nat}(sp:Seg key p base (base+m)):∀i j,i<=j->j<m->Ab (byd key true x p base j)->Ab (byd key true x p base i):=fun i j h1 h2 h=>by
 rw[zh8.1,<- zao] at h ⊢
 exact Zub (sp (base+i) (base+j) (by lia) (by lia) (by lia)) h
noncomputable def Sta(κ:Zly)(it:Array Zmd)(st:Zii)(p:Az)(pend:BW Nat (Nat×Nat)):Prop:=kindOf st=κ/\Zoq st=p.map A6/\Zje st=pend/\Zpb st=none
theorem yao{x:Zii}{Q:PUnit->Af Zii}{st:Zii}(h:∀st1,st1=x->Q ⟨⟩ st1):wpS (A3 w) A E s (set x:StateT Zii Sem PUnit) Q st:=by
 unfold wpS;rw[StateT.run_set];exact Zgj ⟨rfl,h _ rfl⟩
theorem zgp{f:Zii->Zii}{Q:PUnit->Af Zii}{st:Zii}(h:∀st1,st1=f st->Q ⟨⟩ st1):wpS (A3 w) A E s (modify f:StateT Zii Sem PUnit) Q st:=Zs6 (h _ rfl)
theorem at_w(hc:Cmp prog w A s κ it n key)(hn:0<n){i sa na pw sb nb pw2:Nat}{p:Az}{pend:BW Nat (Nat×Nat)}{st:Zii}{Q:Bool->Af Zii}(hs:Sta κ it st p pend)(hp:Ent n p)(e1:Ak pend (sa,na,pw))(e2:Ax pend (i+1) (sb,nb,pw2))
  (hsb:sb=sa+na) (hna:0<na) (hnb:0<nb) (hz:sb+nb<=p.size) (ha:Seg key p sa sb) (hb:Seg key p sb (sb+nb))
  (q:∀st' p',Sta κ it st' p' ((pend.setIfInBounds i (sa,na+nb,pw)).eraseIdxIfInBounds (i+1))->p'.size=p.size->p'.Perm p->(∀t,t<sa\/sb+nb<=t->p'.getD t 0=p.getD t 0)->Seg key p' sa (sb+nb)->Q true st') :
  wpS (A3 w) A E s (Zze i) Q st:=by
 obtain⟨hk,harr,hpd,hf⟩:=hs
 unfold Zze
 show wpS _ _ _ _ (_ >>= _) _ _
 try dsimp only
 refine Zgt (Znt ?_)
 have x1:Zje st=pend:=hpd
 have x2:Zoq st=p.map A6:=harr
 unfold Zje at x1
 unfold Zoq at x2
 rw[x1,e1,e2,x2]
 dsimp only
 refine Zgt (yao fun st1 est=>?_)
 have hS1:Sta κ it st1 p ((pend.setIfInBounds i (sa,na+nb,pw)).eraseIdxIfInBounds (i+1)):=by
  rw[est];exact(AM hk rfl hf)
 clear est
 refine Zgt (BB (sb<p.size) ?_)
 refine Zgt (zd9 hc hS1.1 (hp _) hp (by lia) hna (yae (by rw[<- hsb];exact ha)) fun k k1 k2 k3=>?_)
 dsimp only
 have u1:∀t,sa<=t->t<sa+k->Av p t<=Av p sb:=fun t h1 h2=>by
  have:=znc.1.mp (k2 (t - sa) (by lia))
  rw[<- zao,show sa+(t - sa)=t by lia] at this;exact this
 have u2:∀t,sa+k<=t->t<sb->Av p sb<Av p t:=fun t h1 h2=>by
  have:=znc.2.mp (k3 (t - sa) (by lia) (by lia))
  rw[<- zao,show sa+(t - sa)=t by lia] at this;exact this
 have whole:Av p (sb - 1)<=Av p sb->Seg key p sa (sb+nb):=fun h s t h1 h2 h3=>by
  by_cases c1:t<sb
  .exact ha s t h1 h2 c1
  .by_cases c2:s<sb
   .exact Zjw (ha s (sb - 1) h1 (by lia) (by lia)) (Zjw h (hb sb t (by lia) (by lia) h3))
   .exact hb s t (by lia) h2 h3
 refine zca Bg Bg
 .exact Zgu (q st1 p hS1 rfl (Znp _) BF (whole (u1 (sb - 1) (by lia) (by lia))))
 rw[show sa+k+(na - k) - 1=sb - 1 by lia]
 refine Zgt (BB (sb - 1<p.size) ?_)
 refine Zgt (zd9 hc hS1.1 (hp _) hp hz (by lia) (ybj hb) fun m m1 m2 m3=>?_)
 dsimp only
 have v1:∀t,sb<=t->t<sb+m->Av p t<Av p (sb - 1):=fun t h1 h2=>by
  have:=zh8.1.mp (m2 (t - sb) (by lia))
  rw[<- zao,show sb+(t - sb)=t by lia] at this;exact this
 have v2:∀t,sb+m<=t->t<sb+nb->Av p (sb - 1)<=Av p t:=fun t h1 h2=>by
  have:=zh8.2.mp (m3 (t - sb) (by lia) (by lia))
  rw[<- zao,show sb+(t - sb)=t by lia] at this;exact this
 refine zca (fun hm=>?_) fun hm=>?_
 .exact Zgu (q st1 p hS1 rfl (Znp _) BF (whole (v2 sb (by lia) (by lia))))
 have ex1:(p.map A6).extract (sa+k) sb=(p.extract (sa+k) sb).map A6:=by simp
 have ex2:(p.map A6).extract sb (sb+m)=(p.extract sb (sb+m)).map A6:=by simp
 rw[ex1,ex2]
 have zx:(p.extract (sa+k) sb).size=sb - (sa+k):=by simp;lia
 have zy:(p.extract sb (sb+m)).size=m:=by simp;lia
 have sx:(p.extract (sa+k) sb).toList.Pairwise (RK key):=zz0 fun s t h1 h2 h3=>ha s t (by lia) h2 h3
 have sy:(p.extract sb (sb+m)).toList.Pairwise (RK key):=zz0 fun s t h1 h2 h3=>hb s t h1 h2 (by lia)
 have g0:(p.extract sb (sb+m)).toList.getD 0 0=p.getD sb 0:=zq5 (by lia) (by lia)
 have gl:(p.extract (sa+k) sb).toList.getD ((p.extract (sa+k) sb).size - 1) 0=p.getD (sb - 1) 0:=by
  rw[zx,zq5 (by lia) (by lia)];congr 1;lia
 have h0:∀y∈(BQ (sa+k) sb),key ((p.extract sb (sb+m)).toList.getD 0 0)<=key y:=fun y hy=>by
  obtain⟨t,t1,t2,_,rfl⟩:=zjf hy
  rw[g0];exact Ziu (u2 t t1 t2)
 have hl:∀y∈(BQ sb (sb+m)),key y<=key ((p.extract (sa+k) sb).toList.getD ((p.extract (sa+k) sb).size - 1) 0):=fun y hy=>by
  obtain⟨t,t1,t2,_,rfl⟩:=zjf hy
  rw[gl];exact Ziu (v1 t t1 t2)
 have ex:Ent n (p.extract (sa+k) sb):=zut hp hn _ _
 have ey:Ent n (p.extract sb (sb+m)):=zut hp hn _ _
 refine zbn (fun _=>Zgt (lo_w hc hS1.1 ex ey sx sy (by lia) (by lia) (by
   have:=h0 _ (show(p.extract (sa+k) sb).toList.getD 0 0∈_ from by
    have:=zcb (u:=(BQ (sa+k) sb)) (i:=0) (t:=0) Ay (by simp only[Zhg];lia)
    simpa using this)
   exact this) hl fun r st' hSS hR=>?_)) fun _=>Zgt (hi_w hc hS1.1 ex ey sx sy (by lia) (by lia) h0 hl fun r st' hSS hR=>?_)
 all_goals
  obtain⟨l,rfl,lp,ls⟩:=hR
  have ll:l.length=sb - (sa+k)+m:=by rw[lp.length_eq];simp only[Zhl,Zhg];lia
  have le:sa+k+l.length=sb+m:=by lia
  refine Zgt (zgp fun st2 est=>?_)
  have hS2:Sta κ it st2 (spl p (sa+k) l (sb+m)) ((pend.setIfInBounds i (sa,na+nb,pw)).eraseIdxIfInBounds (i+1)):=by
   obtain⟨a1,a2,a3,a4⟩:=hSS
   obtain⟨b1,b2,b3,b4⟩:=hS1
   rw[est]
   refine⟨a1.trans b1,?_,a3.trans b3,a4.trans b4⟩
   have a5:=a2.trans b2
   rw[<- zzd le (by lia),<- a5]
  clear est
  refine Zgt (Znt ?_)
  have hfin:Ab (Zpb st2).isNone:=by rw[hS2.2.2.2];rfl
  have mid:∀t,sa+k<=t->t<sb+m-> ∃u,sa+k<=u/\u<sb+m/\(spl p (sa+k) l (sb+m)).getD t 0=p.getD u 0:=fun t h1 h2=>by
   rw[zik le (by lia),if_pos ⟨h1,h2⟩]
   have hm:=zcb (u:=l) (i:=0) (t:=t - (sa+k)) (Zhr _) (by omega)
   rw[Zvu] at hm
   rcases Zhh.mp (lp.mem_iff.mp hm) with h | h
   .obtain⟨u,c1,c2,_,e⟩:=zjf h
    exact⟨u,c1,by lia,e⟩
   .obtain⟨u,c1,c2,_,e⟩:=zjf h
    exact⟨u,by lia,c2,e⟩
  have out:∀t,t<sa+k\/sb+m<=t->(spl p (sa+k) l (sb+m)).getD t 0=p.getD t 0:=fun t h=>by
   rw[zik le (by lia),if_neg (by lia)]
  have res:=Zgu (M:=A3 w) (A:=A) (E:=E) (s:=s) (a:=(Zpb st2).isNone) (Q:=Q) (st:=st2) (by
   rw[hfin]
   refine q st2 _ hS2 (zyq le (by lia)) (zza (m:=sb) (by lia) (by lia) (by lia) lp) (fun t ht=>out t (by lia)) ?_
   intro s t h1 h2 h3
   unfold kk
   by_cases c1:s<sa+k
   .rw[out s (.inl c1)]
    by_cases c2:t<sa+k
    .rw[out t (.inl c2)];exact ha s t h1 h2 (by lia)
    .by_cases c3:t<sb+m
     .obtain⟨u,d1,d2,e⟩:=mid t (by lia) c3
      rw[e]
      by_cases c4:u<sb
      .exact ha s u h1 (by lia) c4
      .exact Zjw (u1 s h1 c1) (hb sb u (by lia) (by lia) (by lia))
     .rw[out t (.inr (by lia))]
      exact Zjw (u1 s h1 c1) (hb sb t (by lia) (by lia) h3)
   .by_cases c2:s<sb+m
    .by_cases c3:t<sb+m
     .rw[zik le (by lia),zik le (by lia),if_pos (by lia),if_pos (by lia)]
      exact zzb ls (by lia) (by lia)
     .obtain⟨u,d1,d2,e⟩:=mid s (by lia) c2
      rw[e,out t (.inr (by lia))]
      by_cases c4:u<sb
      .exact Zjw (ha u (sb - 1) (by lia) (by lia) (by lia)) (v2 t (by lia) h3)
      .exact hb u t (by lia) (by lia) h3
    .rw[out s (.inr (by lia)),out t (.inr (by lia))]
     exact hb s t (by lia) h2 h3)
  exact res
end
noncomputable def Mv(p p':Az)(lo hi:Nat):Prop:=p'.size=p.size/\p'.Perm p /\ ∀t,t<lo\/hi<=t->p'.getD t 0=p.getD t 0
theorem Mv.refl(p:Az)(lo hi:Nat):Mv p p lo hi:=⟨rfl,Znp _,BF⟩
theorem Mv.trans{p q r:Az}{lo hi:Nat}(h:Mv p q lo hi)(k:Mv q r lo hi):Mv p r lo hi:=⟨k.1.trans h.1,k.2.1.trans h.2.1,fun t ht=>(k.2.2 t ht).trans (h.2.2 t ht)⟩
theorem Mv.rev{p q:Az}{lo hi i j:Nat}(h:Mv p q lo hi)(h1:lo<=i)(h2:j<=hi)(h3:hi<=p.size):Mv p (kas_rev q i j) lo hi:=by
 have hz:=h.1
 exact h.trans ⟨zxk _ _ _,zyv _ _ _,fun t ht=>by rw[zii (by lia),if_neg (by lia)]⟩
theorem Mv.bub{p q:Az}{lo hi k d:Nat}(h:Mv p q lo hi)(h1:lo+d<=k)(h2:k<hi)(h3:hi<=p.size):Mv p (Zym q k d) lo hi:=by
 have hz:=h.1
 exact h.trans ⟨bubble_size _ _ _,bubble_perm _ _ _,fun t ht=>by rw[zrh (by lia) (by lia),if_neg (by lia),if_neg (by lia)]⟩
noncomputable def Sgd(key:Nat->Int)(p:Az)(i j:Nat):Prop:=∀s t,i<=s->s<=t->t<j->Av p t<=Av p s
section
variable{key:Nat->Int}{p:Array Nat}{i j:Nat}
theorem Seg.snoc(h:Seg key p i j)(hij:i<j)(hn:Av p (j - 1)<=Av p j):Seg key p i (j+1):=fun s t h1 h2 h3=>by
 by_cases e:t=j
 .subst e
  by_cases e2:s=t
  .subst e2;exact Zmy _
  .exact Zjw (h s (t - 1) h1 (by lia) (by lia)) hn
 .exact h s t h1 h2 (by lia)
theorem Sgd.snoc(h:Sgd key p i j)(hij:i<j)(hn:Av p j<=Av p (j - 1)):Sgd key p i (j+1):=fun s t h1 h2 h3=>by
 by_cases e:t=j
 .subst e
  by_cases e2:s=t
  .subst e2;exact Zmy _
  .exact Zjw hn (h s (t - 1) h1 (by lia) (by lia))
 .exact h s t h1 h2 (by lia)
theorem Seg.one:Seg key p i (i+1):=fun s t h1 h2 h3=>by
 have:s=t:=by lia
 subst this;exact Zmy _
theorem Sgd.congr{p':Az}(h:Sgd key p i j)(e:∀k,Av p' k=Av p k):Sgd key p' i j:=fun s t h1 h2 h3=>by rw[e,e];exact h s t h1 h2 h3
theorem Sgd.rev(h:Sgd key p i j)(hj:j<=p.size):Seg key (kas_rev p i j) i j:=fun s t h1 h2 h3=>by
 unfold kk
 rw[zii hj,zii hj,if_pos (by lia),if_pos (by lia)]
 exact h _ _ (by omega) (by omega) (by omega)
end
section
variable{prog:Zg8}{w:Zhy}{A:Zhk}{E:Zgi->Zgk->Prop}{s:Zgk}{κ:Zly}{it:Array Zmd}{n:Nat}{key:Nat->Int}
theorem Sta.get{st:Zii}{p:Az}{pend:BW Nat (Nat×Nat)}(h:Sta κ it st p pend){i:Nat}(hi:i<p.size):Ak (Zoq st) (kas_item it (p.getD i 0)):=by
 rw[h.2.1]
 have e:p.getD i 0=p[i]:=by simp[Zlb,hi]
 rw[e];simp[hi]
theorem zfo(hc:Cmp prog w A s κ it n key){st:Zii}{p:Az}{pend:BW Nat (Nat×Nat)}(hs:Sta κ it st p pend)(hp:Ent n p){i j:Nat}(hi:i<p.size)(hj:j<p.size){Q:Option Bool->Af Zii}(q:Q (some (AS (Av p i) (Av p j))) st):wpS (A3 w) A E s (ltAt' i j) Q st:=by
 rw[ltAt'_eq]
 refine Zgt (Znt ?_)
 dsimp only
 rw[Zzh,Zzh,hs.get hi,hs.get hj]
 exact Zgt (Zgu (Zgt (Zgu (lt_w hc hs.1 (hp _) (hp _) q))))
theorem zlh{st:Zii}{p:Az}{pend:BW Nat (Nat×Nat)}(hs:Sta κ it st p pend){i j:Nat}{Q:Unit->Af Zii}(q:∀st',Sta κ it st' (kas_rev p i j) pend->Q () st'):wpS (A3 w) A E s (reverseSlice' i j) Q st:=by
 rw[reverseSlice'_eq]
 refine Zs6 (q _ ⟨hs.1,?_,hs.2.2.1,hs.2.2.2⟩)
 show mirror (Zoq st) i j ((j - i) / 2)=_
 rw[hs.2.1]
 exact kas_swaps_map A6 (fun k=>i+k) (fun k=>j - 1 - k) _ p
theorem yeh{st:Zii}{p:Az}{pend:BW Nat (Nat×Nat)}(hs:Sta κ it st p pend){k l:Nat}{Q:Unit->Af Zii}(q:∀st',Sta κ it st' (Zym p k (k - l)) pend->Q () st'):wpS (A3 w) A E s (moveDown' k l) Q st:=by
 rw[moveDown'_eq]
 refine Zs6 (q _ ⟨hs.1,?_,hs.2.2.1,hs.2.2.2⟩)
 show Zym (Zoq st) k (k - l)=_
 rw[hs.2.1]
 exact kas_swaps_map A6 (fun i=>k - i) (fun i=>k - i - 1) _ p
theorem Ent.mv{p p':Az}{lo hi:Nat}(h:Ent n p)(hn:0<n)(m:Mv p p' lo hi):Ent n p':=h.perm m.2.1 hn
theorem ya0 (hc : Cmp prog w A s κ it n key) (hn : 0 < n) {lo nrem : Nat} {p : Az} {pend : Array (Nat × Nat × Nat)} {st : Zii} {Q : Option Nat -> Zii -> Prop} (hs : Sta κ it st p pend) (hp : Ent n p) (h1 : 1 <= nrem) (hz : lo + nrem <= p.size)
  (q:∀m p' st',Sta κ it st' p' pend->Mv p p' lo (lo+nrem)->1<=m->m<=nrem->Seg key p' lo (lo+m)->Q (some m) st'):wpS (A3 w) A E s (countRun' lo nrem) Q st:=by
 rw[countRun'_eq]
 dsimp only
 refine Zgt (Zjx (Zh9 (I:=fun v c st'=>c=(none,v)/\v<=nrem/\Sta κ it st' p pend/\Seg key p lo (lo+v))
  (Q:=fun c st'=>∃v,c=(none,v)/\1<=v/\v<=nrem/\Sta κ it st' p pend/\Seg key p lo (lo+v)/\(v<nrem->Av p (lo+v)<Av p (lo+v - 1))) ?_ ?_ ⟨rfl,by omega,hs,Seg.one⟩) ?_)
 .rintro v c st' hv1 hv2 ⟨rfl,_,hs',hg⟩
  dsimp only
  refine Zgt (zfo hc hs' hp (by lia) (by lia) ?_)
  dsimp only
  refine zbn Bi Bi
  .exact Zgu ⟨v,rfl,hv1,by omega,hs',hg,fun _=>by simpa using h⟩
  .exact Zgu ⟨rfl,by lia,hs',hg.snoc (by lia) (by simpa using h)⟩
 .rintro c st' ⟨rfl,h1,hs',hg⟩
  exact⟨_,rfl,by lia,by omega,hs',hg,fun h=>by lia⟩
 .rintro c st' ⟨m, rfl, m1, m2, hs', hg, hlt⟩
  dsimp only
  refine zca Bg Bg
  .exact Zgu (q m p st' hs' (Mv.refl _ _ _) m1 m2 hg)
  have hlt':=hlt (by lia)
  refine zbn (fun hm=>?_) fun hm=>?_
  .refine Zgt (zfo hc hs' hp (by lia) (by lia) ?_)
   dsimp only
   refine zbn Bi Bi
   .exact Zgu (q m p st' hs' (Mv.refl _ _ _) m1 m2 hg)
   have h':¬ Av p lo<Av p (lo+m - 1):=by simpa using h
   have same:∀k,lo<=k->k<lo+m->Av p k=Av p lo:=fun k k1 k2=>by
    have a1:=hg lo k Ay k1 k2
    have a2:=hg k (lo+m - 1) k1 (by lia) (by lia)
    lia
   have ks:=zdx (key:=key) (p:=p) (i:=lo) (j:=lo+m) (by lia) (c:=Av p lo) same
   refine Zgt (zlh hs' fun st2 hs2=>?_)
   have mvd:=(Mv.refl p lo (lo+nrem)).rev (i:=lo) (j:=lo+m) Ay (by lia) hz
   have gdd:Sgd key (kas_rev p lo (lo+m)) lo (lo+(m+1)):=by
    refine Sgd.congr (p:=p) ?_ ks
    refine Sgd.snoc (j:=lo+m) (fun s t a1 a2 a3=>?_) (by lia) (Ziu hlt')
    rw[same s a1 (by lia),same t (by lia) a3];exact Zmy _
   generalize kas_rev p lo (lo+m)=pd at hs2 mvd gdd
   refine Zgt (Zpa (Zj1 ⟨rfl,?_⟩))
   refine Zgt (Zjx (Zh9 (I:=fun x c st'=>x<=nrem /\ ∃p' qn,c=(none,x,qn)/\Sta κ it st' p' pend/\Mv p p' lo (lo+nrem)/\Sgd key p' lo (lo+x)/\qn<x/\(∀k,lo+x - 1 - qn<=k->k<lo+x->Av p' k=Av p' (lo+x - 1)))
    (Q:=fun c st'=>∃p' x qn,c=(none,x,qn)/\1<=x/\x<=nrem/\Sta κ it st' p' pend/\Mv p p' lo (lo+nrem)/\Sgd key p' lo (lo+x)/\qn<x/\(∀k,lo+x - 1 - qn<=k->k<lo+x->Av p' k=Av p' (lo+x - 1))) ?_ ?_ ⟨by lia,pd,0,rfl,hs2,mvd,gdd,by lia,fun k h1 h2=>congrArg (kk key pd) (by lia)⟩) ?_)
   .rintro x c st' hx1 hx2 ⟨_,p',qn,rfl,hs',mv,gd,hq,he⟩
    have z':=mv.1
    have e':=hp.mv hn mv
    dsimp only
    refine Zgt (zfo hc hs' e' (by lia) (by lia) ?_)
    dsimp only
    refine zbn Bi Bi
    .have h':Av p' (lo+x)<Av p' (lo+x - 1):=by simpa using h
     refine zbn (fun h0=>?_) fun h0=>?_
     .refine Zgt (zlh hs' fun st2 hs2=>?_)
      have ks:=zdx (key:=key) (p:=p') (i:=lo+x - (qn+1)) (j:=lo+x) (by lia) (c:=Av p' (lo+x - 1)) (fun k h1 h2=>he k (by lia) h2)
      refine Zgu ⟨by lia,_,0,rfl,hs2,mv.rev (by lia) (by lia) hz,?_,by lia,fun k h1 h2=>?_⟩
      .exact Sgd.snoc (j:=lo+x) (Sgd.congr gd ks) (by lia) (by rw[ks,ks];exact Ziu h')
      .have:k=lo+(x+1) - 1:=by lia
       rw[this]
     .refine Zgu ⟨by lia,p',0,rfl,hs',mv,gd.snoc (by lia) (Ziu h'),by lia,fun k h1 h2=>?_⟩
      have:k=lo+(x+1) - 1:=by lia
      rw[this]
    .have h':¬ Av p' (lo+x)<Av p' (lo+x - 1):=by simpa using h
     refine Zgt (zfo hc hs' e' (by lia) (by lia) ?_)
     dsimp only
     refine zbn (fun h2=>?_) fun h2=>?_
     .exact Zgu ⟨p',x,qn,rfl,by lia,by omega,hs',mv,gd,hq,he⟩
     .have h2':¬ Av p' (lo+x - 1)<Av p' (lo+x):=by simpa using h2
      refine Zgu ⟨by lia,p',qn+1,rfl,hs',mv,gd.snoc (by lia) (by lia),by lia,fun k h1 h3=>?_⟩
      rw[show lo+(x+1) - 1=lo+x by lia]
      by_cases ek:k=lo+x
      .rw[ek]
      .rw[he k (by lia) (by lia)];lia
   .rintro c st' ⟨h0,p',qn,rfl,hs',mv,gd,hq,he⟩
    exact⟨p',_,qn,rfl,by lia,by omega,hs',mv,gd,hq,he⟩
   .rintro c st' ⟨p',x,qn,rfl,hx1,hx2,hs',mv,gd,hq,he⟩
    have z':=mv.1
    have e':=hp.mv hn mv
    dsimp only
    refine zbn (fun h0=>?_) fun h0=>?_
    .have ks:=zdx (key:=key) (p:=p') (i:=lo+x - (qn+1)) (j:=lo+x) (by lia) (c:=Av p' (lo+x - 1)) (fun k h1 h2=>he k (by lia) h2)
     refine Zgt (zlh hs' fun st2 hs2=>?_)
     have mv2:=mv.rev (i:=lo+x - (qn+1)) (j:=lo+x) (by lia) (by lia) hz
     have gd2:=Sgd.congr gd ks
     have z2:=mv2.1
     generalize kas_rev p' (lo+x - (qn+1)) (lo+x)=p2 at hs2 mv2 gd2 z2
     refine Zgt (zlh hs2 fun st5 hs5=>?_)
     have mv5:=Mv.rev mv2 (Zgr lo) (show lo+x<=lo+nrem by lia) hz
     have z5:=mv5.1
     have e5:Ent n (kas_rev p2 lo (lo+x)):=hp.mv hn mv5
     have g5:=Sgd.rev gd2 (show lo+x<=p2.size by lia)
     generalize kas_rev p2 lo (lo+x)=p5 at hs5 mv5 z5 e5 g5
     refine Zgt (Zjx (Zh9 (I:=fun v c st'=>c=(none,v)/\v<=nrem/\Sta κ it st' p5 pend/\Seg key p5 lo (lo+v))
      (Q:=fun c st'=>∃v,c=(none,v)/\x<=v/\v<=nrem/\Sta κ it st' p5 pend/\Seg key p5 lo (lo+v)/\(v<nrem->Av p5 (lo+v)<Av p5 (lo+v - 1))) ?_ ?_ ⟨rfl,by omega,hs5,g5⟩) ?_)
     .rintro v c st' hv1 hv2 ⟨rfl,_,hs',hg⟩
      dsimp only
      refine Zgt (zfo hc hs' e5 (by lia) (by lia) ?_)
      dsimp only
      refine zbn Bi Bi
      .exact Zgu ⟨v,rfl,hv1,by omega,hs',hg,fun _=>by simpa using h⟩
      .exact Zgu ⟨rfl,by lia,hs',hg.snoc (by lia) (by simpa using h)⟩
     .rintro c st' ⟨rfl,h1,hs',hg⟩
      exact⟨_,rfl,by lia,by omega,hs',hg,fun h=>by lia⟩
     .rintro c st' ⟨y,rfl,y1,y2,hs',hg,_⟩
      exact Zgu (q y p5 st' hs' mv5 (by lia) y2 hg)
    .skip
     refine Zgt (zlh hs' fun st5 hs5=>?_)
     have mv5:=Mv.rev mv (Zgr lo) (show lo+x<=lo+nrem by lia) hz
     have z5:=mv5.1
     have e5:Ent n (kas_rev p' lo (lo+x)):=hp.mv hn mv5
     have g5:=Sgd.rev gd (show lo+x<=p'.size by lia)
     generalize kas_rev p' lo (lo+x)=p5 at hs5 mv5 z5 e5 g5
     refine Zgt (Zjx (Zh9 (I:=fun v c st'=>c=(none,v)/\v<=nrem/\Sta κ it st' p5 pend/\Seg key p5 lo (lo+v))
      (Q:=fun c st'=>∃v,c=(none,v)/\x<=v/\v<=nrem/\Sta κ it st' p5 pend/\Seg key p5 lo (lo+v)/\(v<nrem->Av p5 (lo+v)<Av p5 (lo+v - 1))) ?_ ?_ ⟨rfl,by omega,hs5,g5⟩) ?_)
     .rintro v c st' hv1 hv2 ⟨rfl,_,hs',hg⟩
      dsimp only
      refine Zgt (zfo hc hs' e5 (by lia) (by lia) ?_)
      dsimp only
      refine zbn Bi Bi
      .exact Zgu ⟨v,rfl,hv1,by omega,hs',hg,fun _=>by simpa using h⟩
      .exact Zgu ⟨rfl,by lia,hs',hg.snoc (by lia) (by simpa using h)⟩
     .rintro c st' ⟨rfl,h1,hs',hg⟩
      exact⟨_,rfl,by lia,by omega,hs',hg,fun h=>by lia⟩
     .rintro c st' ⟨y,rfl,y1,y2,hs',hg,_⟩
      exact Zgu (q y p5 st' hs' mv5 (by lia) y2 hg)
  .have em:m=1:=by lia
   subst em
   have gdd:Sgd key p lo (lo+(1+1)):=Sgd.snoc (j:=lo+1) (fun s t a1 a2 a3=>by
    have:s=t:=by lia
    subst this;exact Zmy _) (by lia) (Ziu hlt')
   refine Zgt (Zpa (Zj1 ⟨rfl,?_⟩))
   refine Zgt (Zjx (Zh9 (I:=fun x c st'=>x<=nrem /\ ∃p' qn,c=(none,x,qn)/\Sta κ it st' p' pend/\Mv p p' lo (lo+nrem)/\Sgd key p' lo (lo+x)/\qn<x/\(∀k,lo+x - 1 - qn<=k->k<lo+x->Av p' k=Av p' (lo+x - 1)))
    (Q:=fun c st'=>∃p' x qn,c=(none,x,qn)/\1<=x/\x<=nrem/\Sta κ it st' p' pend/\Mv p p' lo (lo+nrem)/\Sgd key p' lo (lo+x)/\qn<x/\(∀k,lo+x - 1 - qn<=k->k<lo+x->Av p' k=Av p' (lo+x - 1))) ?_ ?_ ⟨by lia,p,0,rfl,hs',Mv.refl _ _ _,gdd,by lia,fun k h1 h2=>congrArg (kk key p) (by lia)⟩) ?_)
   .rintro x c st' hx1 hx2 ⟨_,p',qn,rfl,hs',mv,gd,hq,he⟩
    have z':=mv.1
    have e':=hp.mv hn mv
    dsimp only
    refine Zgt (zfo hc hs' e' (by lia) (by lia) ?_)
    dsimp only
    refine zbn Bi Bi
    .have h':Av p' (lo+x)<Av p' (lo+x - 1):=by simpa using h
     refine zbn (fun h0=>?_) fun h0=>?_
     .refine Zgt (zlh hs' fun st2 hs2=>?_)
      have ks:=zdx (key:=key) (p:=p') (i:=lo+x - (qn+1)) (j:=lo+x) (by lia) (c:=Av p' (lo+x - 1)) (fun k h1 h2=>he k (by lia) h2)
      refine Zgu ⟨by lia,_,0,rfl,hs2,mv.rev (by lia) (by lia) hz,?_,by lia,fun k h1 h2=>?_⟩
      .exact Sgd.snoc (j:=lo+x) (Sgd.congr gd ks) (by lia) (by rw[ks,ks];exact Ziu h')
      .have:k=lo+(x+1) - 1:=by lia
       rw[this]
     .refine Zgu ⟨by lia,p',0,rfl,hs',mv,gd.snoc (by lia) (Ziu h'),by lia,fun k h1 h2=>?_⟩
      have:k=lo+(x+1) - 1:=by lia
      rw[this]
    .have h':¬ Av p' (lo+x)<Av p' (lo+x - 1):=by simpa using h
     refine Zgt (zfo hc hs' e' (by lia) (by lia) ?_)
     dsimp only
     refine zbn (fun h2=>?_) fun h2=>?_
     .exact Zgu ⟨p',x,qn,rfl,by lia,by omega,hs',mv,gd,hq,he⟩
     .have h2':¬ Av p' (lo+x - 1)<Av p' (lo+x):=by simpa using h2
      refine Zgu ⟨by lia,p',qn+1,rfl,hs',mv,gd.snoc (by lia) (by lia),by lia,fun k h1 h3=>?_⟩
      rw[show lo+(x+1) - 1=lo+x by lia]
      by_cases ek:k=lo+x
      .rw[ek]
      .rw[he k (by lia) (by lia)];lia
   .rintro c st' ⟨h0,p',qn,rfl,hs',mv,gd,hq,he⟩
    exact⟨p',_,qn,rfl,by lia,by omega,hs',mv,gd,hq,he⟩
   .rintro c st' ⟨p',x,qn,rfl,hx1,hx2,hs',mv,gd,hq,he⟩
    have z':=mv.1
    have e':=hp.mv hn mv
    dsimp only
    refine zbn (fun h0=>?_) fun h0=>?_
    .have ks:=zdx (key:=key) (p:=p') (i:=lo+x - (qn+1)) (j:=lo+x) (by lia) (c:=Av p' (lo+x - 1)) (fun k h1 h2=>he k (by lia) h2)
     refine Zgt (zlh hs' fun st2 hs2=>?_)
     have mv2:=mv.rev (i:=lo+x - (qn+1)) (j:=lo+x) (by lia) (by lia) hz
     have gd2:=Sgd.congr gd ks
     have z2:=mv2.1
     generalize kas_rev p' (lo+x - (qn+1)) (lo+x)=p2 at hs2 mv2 gd2 z2
     refine Zgt (zlh hs2 fun st5 hs5=>?_)
     have mv5:=Mv.rev mv2 (Zgr lo) (show lo+x<=lo+nrem by lia) hz
     have z5:=mv5.1
     have e5:Ent n (kas_rev p2 lo (lo+x)):=hp.mv hn mv5
     have g5:=Sgd.rev gd2 (show lo+x<=p2.size by lia)
     generalize kas_rev p2 lo (lo+x)=p5 at hs5 mv5 z5 e5 g5
     refine Zgt (Zjx (Zh9 (I:=fun v c st'=>c=(none,v)/\v<=nrem/\Sta κ it st' p5 pend/\Seg key p5 lo (lo+v))
      (Q:=fun c st'=>∃v,c=(none,v)/\x<=v/\v<=nrem/\Sta κ it st' p5 pend/\Seg key p5 lo (lo+v)/\(v<nrem->Av p5 (lo+v)<Av p5 (lo+v - 1))) ?_ ?_ ⟨rfl,by omega,hs5,g5⟩) ?_)
     .rintro v c st' hv1 hv2 ⟨rfl,_,hs',hg⟩
      dsimp only
      refine Zgt (zfo hc hs' e5 (by lia) (by lia) ?_)
      dsimp only
      refine zbn Bi Bi
      .exact Zgu ⟨v,rfl,hv1,by omega,hs',hg,fun _=>by simpa using h⟩
      .exact Zgu ⟨rfl,by lia,hs',hg.snoc (by lia) (by simpa using h)⟩
     .rintro c st' ⟨rfl,h1,hs',hg⟩
      exact⟨_,rfl,by lia,by omega,hs',hg,fun h=>by lia⟩
     .rintro c st' ⟨y,rfl,y1,y2,hs',hg,_⟩
      exact Zgu (q y p5 st' hs' mv5 (by lia) y2 hg)
    .skip
     refine Zgt (zlh hs' fun st5 hs5=>?_)
     have mv5:=Mv.rev mv (Zgr lo) (show lo+x<=lo+nrem by lia) hz
     have z5:=mv5.1
     have e5:Ent n (kas_rev p' lo (lo+x)):=hp.mv hn mv5
     have g5:=Sgd.rev gd (show lo+x<=p'.size by lia)
     generalize kas_rev p' lo (lo+x)=p5 at hs5 mv5 z5 e5 g5
     refine Zgt (Zjx (Zh9 (I:=fun v c st'=>c=(none,v)/\v<=nrem/\Sta κ it st' p5 pend/\Seg key p5 lo (lo+v))
      (Q:=fun c st'=>∃v,c=(none,v)/\x<=v/\v<=nrem/\Sta κ it st' p5 pend/\Seg key p5 lo (lo+v)/\(v<nrem->Av p5 (lo+v)<Av p5 (lo+v - 1))) ?_ ?_ ⟨rfl,by omega,hs5,g5⟩) ?_)
     .rintro v c st' hv1 hv2 ⟨rfl,_,hs',hg⟩
      dsimp only
      refine Zgt (zfo hc hs' e5 (by lia) (by lia) ?_)
      dsimp only
      refine zbn Bi Bi
      .exact Zgu ⟨v,rfl,hv1,by omega,hs',hg,fun _=>by simpa using h⟩
      .exact Zgu ⟨rfl,by lia,hs',hg.snoc (by lia) (by simpa using h)⟩
     .rintro c st' ⟨rfl,h1,hs',hg⟩
      exact⟨_,rfl,by lia,by omega,hs',hg,fun h=>by lia⟩
     .rintro c st' ⟨y,rfl,y1,y2,hs',hg,_⟩
      exact Zgu (q y p5 st' hs' mv5 (by lia) y2 hg)
theorem yfs (hc : Cmp prog w A s κ it n key) (hn : 0 < n) {lo m ok : Nat} {p : Az} {pend : Array (Nat × Nat × Nat)} {st : Zii} {Q : Bool -> Zii -> Prop} (hs : Sta κ it st p pend) (hp : Ent n p) (h1 : 1 <= ok) (hok : ok <= m) (hz : lo + m <= p.size) (hg : Seg key p lo (lo + ok))
  (q:∀p' st',Sta κ it st' p' pend->Mv p p' lo (lo+m)->Seg key p' lo (lo+m)->Q true st'):wpS (A3 w) A E s (binarySort' lo m ok) Q st:=by
 rw[binarySort'_eq]
 dsimp only
 refine Zgt (Zjx (Zh9 (I:=fun k c st'=>k<=m /\ ∃p',c=(none,())/\Sta κ it st' p' pend/\Mv p p' lo (lo+m)/\Seg key p' lo (lo+k))
  (Q:=fun c st'=>∃p',c=(none,())/\Sta κ it st' p' pend/\Mv p p' lo (lo+m)/\Seg key p' lo (lo+m)) ?_ ?_ ⟨by lia,p,rfl,hs,Mv.refl _ _ _,by rw[show max ok 1=ok by lia];exact hg⟩) ?_)
 .rintro k c st' hk1 hk2 ⟨_,p',rfl,hs',mv,g⟩
  have z':=mv.1
  have e':=hp.mv hn mv
  try dsimp only
  refine Zgt (Zjx (Zh9 (I:=fun x c st2=>st'=st2 /\ ∃l r,c=(none,l,r)/\l<=r/\r<=k/\r - l<=k - x/\(∀i,lo<=i->i<lo+l->Av p' i<=Av p' (lo+k))/\(∀i,lo+r<=i->i<lo+k->Av p' (lo+k)<=Av p' i))
   (Q:=fun c st2=>st'=st2 /\ ∃l r,c=(none,l,r)/\l<=r/\r<=l/\r<=k/\(∀i,lo<=i->i<lo+l->Av p' i<=Av p' (lo+k))/\(∀i,lo+r<=i->i<lo+k->Av p' (lo+k)<=Av p' i)) ?_ ?_ ⟨rfl,0,k,rfl,by lia,by lia,by lia,fun i a b=>by lia,fun i a b=>by lia⟩) ?_)
  .rintro x c st2 _ _ ⟨rfl,l,r,rfl,a1,a2,a3,a4,a5⟩
   dsimp only
   refine zbn Bi Bi
   .exact Zgu ⟨rfl,l,r,rfl,a1,by omega,a2,a4,a5⟩
   refine Zgt (zfo hc hs' e' (by lia) (by lia) ?_)
   dsimp only
   refine zbn (fun h2=>?_) fun h2=>?_
   .have h2':Av p' (lo+k)<Av p' (lo+(l+r) / 2):=by simpa using h2
    exact Zgu ⟨rfl,l,(l+r) / 2,rfl,by lia,by lia,by omega,a4,fun i b1 b2=>Zjw (Ziu h2') (g _ _ (by lia) b1 b2)⟩
   .have h2':¬ Av p' (lo+k)<Av p' (lo+(l+r) / 2):=by simpa using h2
    exact Zgu ⟨rfl,(l+r) / 2+1,r,rfl,by lia,by omega,by omega,fun i b1 b2=>Zjw (g i (lo+(l+r) / 2) b1 (by lia) (by lia)) (by lia),a5⟩
  .rintro c st2 ⟨rfl,l,r,rfl,a1,a2,a3,a4,a5⟩
   exact⟨rfl,l,r,rfl,a1,by lia,a2,a4,a5⟩
  .rintro c st2 ⟨rfl,l,r,rfl,a1,a2,a3,g2,g3⟩
   have e:l=r:=by lia
   subst e
   dsimp only
   refine Zgt (yeh hs' fun st3 hs3=>?_)
   have hb:∀i,Av (Zym p' (lo+k) (lo+k - (lo+l))) i=if i=lo+l then Av p' (lo+k) else if lo+l<i/\i<=lo+k then Av p' (i - 1) else Av p' i:=fun i=>by
    unfold kk
    rw[zrh (by lia) (by lia),show lo+k - (lo+k - (lo+l))=lo+l by omega]
    split
    .rfl
    .split <;> rfl
   refine Zgu ⟨by lia,_,rfl,hs3,mv.bub (by lia) (by lia) hz,?_⟩
   intro i j hi0 hij hj
   rw[hb,hb]
   by_cases hi1:i=lo+l
   .rw[if_pos hi1]
    by_cases hj1:j=lo+l
    .rw[if_pos hj1];exact Zmy _
    .rw[if_neg hj1,if_pos ⟨by lia,by lia⟩]
     exact g3 (j - 1) (by lia) (by lia)
   .rw[if_neg hi1]
    by_cases hi2:lo+l<i/\i<=lo+k
    .rw[if_pos hi2]
     rw[if_neg (by lia),if_pos ⟨by lia,by lia⟩]
     exact g _ _ (by lia) (by lia) (by lia)
    .rw[if_neg hi2]
     have hil:i<lo+l:=by lia
     by_cases hj1:j=lo+l
     .rw[if_pos hj1];exact g2 i hi0 hil
     .rw[if_neg hj1]
      by_cases hj2:lo+l<j/\j<=lo+k
      .rw[if_pos hj2];exact g _ _ (by omega) (by lia) (by lia)
      .rw[if_neg hj2];exact g _ _ hi0 hij (by lia)
 .rintro c st' ⟨h0,p',rfl,hs',mv,g⟩
  exact⟨p',rfl,hs',mv,by rw[show max (max ok 1) m=m by lia] at g;exact g⟩
 .rintro c st' ⟨p',rfl,hs',mv,g⟩
  exact Zgu (q p' st' hs' mv g)
end
noncomputable def Runs(key:Nat->Int)(p:Az):Ai Nat (Nat×Nat)->Nat->Af Nat
 | [],lo,hi=>lo=hi
 | r::l,lo,hi=>r.1=lo/\0<r.2.1/\Seg key p lo (lo+r.2.1)/\Runs key p l (lo+r.2.1) hi
section
variable{key:Nat->Int}{p:Array Nat}
theorem Runs.len:∀{l:Ai Nat (Nat×Nat)} {lo hi:Nat},Runs key p l lo hi->lo+l.length<=hi
 | [],_,_,h=>by simp[Runs] at h;simp;lia
 | r::l,lo,hi,h=>by
  have:=Runs.len h.2.2.2
  have:=h.2.1
  simp;lia
theorem Runs.congr{p':Az}:∀{l:Ai Nat (Nat×Nat)} {lo hi:Nat},Runs key p l lo hi->(∀t,lo<=t->t<hi->p'.getD t 0=p.getD t 0)->Runs key p' l lo hi
 | [],_,_,h,_=>h
 | r::l,lo,hi,h,e=>by
  have hl:=h.2.2.2.len
  refine⟨h.1,h.2.1,fun s t h1 h2 h3=>?_,h.2.2.2.congr fun t h1 h2=>e t (by lia) h2⟩
  unfold kk
  rw[e s h1 (by lia),e t (by lia) (by lia)]
  exact h.2.2.1 s t h1 h2 h3
theorem Runs.push:∀{l:Ai Nat (Nat×Nat)} {lo hi m pw:Nat},Runs key p l lo hi->0<m->Seg key p hi (hi+m)->Runs key p (l++[(hi,m,pw)]) lo (hi+m)
 | [],lo,hi,m,pw,h,hm,hs=>by
  simp only[Runs] at h
  subst h
  exact⟨rfl,hm,hs,rfl⟩
 | r::l,lo,hi,m,pw,h,hm,hs=>⟨h.1,h.2.1,h.2.2.1,h.2.2.2.push hm hs⟩
theorem Runs.modify{f:Nat×Nat×Nat->Nat×Nat×Nat}(hf:∀r,(f r).1=r.1/\(f r).2.1=r.2.1):∀{l:Ai Nat (Nat×Nat)} {i lo hi:Nat},Runs key p l lo hi->Runs key p (l.modify i f) lo hi
 | [],i,lo,hi,h=>by cases i <;> simpa using h
 | r::l,0,lo,hi,h=>by
  rw[List.modify_zero_cons]
  simp only[Runs] at h ⊢
  rw[(hf r).1,(hf r).2]
  exact h
 | r::l,i+1,lo,hi,h=>by
  rw[List.modify_succ_cons]
  exact⟨h.1,h.2.1,h.2.2.1,h.2.2.2.modify hf⟩
theorem Runs.merge:∀{l:Ai Nat (Nat×Nat)} {i lo hi:Nat},Runs key p l lo hi->i+1<l.length-> ∃sa na pw sb nb pw2,Ak l (sa,na,pw)/\Ax l (i+1) (sb,nb,pw2)/\sb=sa+na/\0<na/\0<nb/\lo<=sa/\sb+nb<=hi/\Seg key p sa sb/\Seg key p sb (sb+nb) /\
  ∀p':Az,(∀t,t<sa\/sb+nb<=t->p'.getD t 0=p.getD t 0)->Seg key p' sa (sb+nb)->Runs key p' ((l.set i (sa,na+nb,pw)).eraseIdx (i+1)) lo hi
 | [],i,lo,hi,h,hi1=>by simp at hi1
 | [r],0,lo,hi,h,hi1=>by simp at hi1
 | (a1,a2,a3)::(b1,b2,b3)::l,0,lo,hi,h,hi1=>by
  obtain⟨e1,e2,e3,f1,f2,f3,f4⟩:=h
  dsimp only at e1 e2 e3 f1 f2 f3 f4
  have hl:=f4.len
  subst e1
  subst f1
  refine⟨a1,a2,a3,a1+a2,b2,b3,rfl,rfl,rfl,e2,f2,Ay,by lia,e3,f3,fun p' hp hs=>?_⟩
  show Runs key p' ((a1,a2+b2,a3)::l) a1 hi
  refine⟨rfl,by show 0<a2+b2;lia,?_,?_⟩
  .show Seg key p' a1 (a1+(a2+b2))
   rw[<- Zxa];exact hs
  .show Runs key p' l (a1+(a2+b2)) hi
   rw[<- Zxa]
   exact f4.congr fun t h1 h2=>hp t (.inr h1)
 | r::l,i+1,lo,hi,h,hi1=>by
  obtain⟨e1,e2,e3,e4⟩:=h
  obtain⟨sa,na,pw,sb,nb,pw2,g1,g2,g3,g4,g5,g6,g7,g8,g9,g10⟩:=e4.merge (i:=i) (by simpa using hi1)
  refine⟨sa,na,pw,sb,nb,pw2,by simpa using g1,by simpa using g2,g3,g4,g5,by lia,g7,g8,g9,fun p' hp hs=>?_⟩
  show Runs key p' (r::((l.set i (sa,na+nb,pw)).eraseIdx (i+1))) lo hi
  refine⟨e1,e2,fun s t h1 h2 h3=>?_,g10 p' hp hs⟩
  unfold kk
  rw[hp s (.inl (by lia)),hp t (.inl (by lia))]
  exact e3 s t h1 h2 h3
theorem Runs.whole{l:Ai Nat (Nat×Nat)}{hi:Nat}(h:Runs key p l 0 hi)(hl:l.length<=1):Seg key p 0 hi:=by
 match l,hl with
 | [],_=>simp only[Runs] at h;subst h;intro s t h1 h2 h3;lia
 | [r],_ =>
  obtain⟨e1,e2,e3,e4⟩:=h
  simp only[Runs] at e4
  subst e4
  exact e3
theorem zj1(pend:BW Nat (Nat×Nat))(i:Nat)(x:Nat×Nat×Nat):((pend.setIfInBounds i x).eraseIdxIfInBounds (i+1)).toList=(pend.toList.set i x).eraseIdx (i+1):=by
 simp
end
section
variable{prog:Zg8}{w:Zhy}{A:Zhk}{E:Zgi->Zgk->Prop}{s:Zgk}{κ:Zly}{it:Array Zmd}{n:Nat}{key:Nat->Int}
noncomputable def Now(κ:Zly)(it:Array Zmd)(key:Nat->Int)(p0:Az)(lo:Nat)(T:Az)(st:Zii)(len:Nat):Prop:=∃p pend,Sta κ it st p pend/\p.size=p0.size/\p.Perm p0/\Runs key p pend.toList 0 lo/\pend.size=len /\ ∀t,lo<=t->p.getD t 0=T.getD t 0
theorem ycv(hc:Cmp prog w A s κ it n key)(hn:0<n){p0:Az}(hp:Ent n p0){lo len i:Nat}{T:Az}{st:Zii}{Q:Bool->Af Zii}(h:Now κ it key p0 lo T st len)(hlo:lo<=p0.size)(hi:i+1<len)(q:∀st',Now κ it key p0 lo T st' (len - 1)->Q true st'):wpS (A3 w) A E s (Zze i) Q st:=by
 obtain⟨p,pend,hs,hz,hpm,hr,hlen,ht⟩:=h
 have hl:pend.toList.length=len:=by simpa using hlen
 obtain⟨sa,na,pw,sb,nb,pw2,g1,g2,g3,g4,g5,g6,g7,g8,g9,g10⟩:=hr.merge (i:=i) (by lia)
 refine at_w hc hn hs (hp.perm hpm hn) (by simpa using g1) (by simpa using g2) g3 g4 g5 (by lia) g8 g9 fun st' p' hs' z' pm' out sg=>q st' ⟨p',_,hs',z'.trans hz,pm'.trans hpm,?_,?_,fun t h1=>(out t (.inr (by lia))).trans (ht t h1)⟩
 .rw[zj1];exact g10 p' out sg
 .have:((pend.setIfInBounds i (sa,na+nb,pw)).eraseIdxIfInBounds (i+1)).toList.length=len - 1:=by
   rw[zj1,Zm0 (by simp;lia),Zqw,hl]
  rw[<- Zhg];exact this
theorem Now.pow{p0 T:Az}{lo len i:Nat}{st st5:Zii}{f:Nat×Nat×Nat->Nat×Nat×Nat}(hN:Now κ it key p0 lo T st len)(e5:st5=Zwo st ((Zje st).modify i f))(hf:∀r,(f r).1=r.1/\(f r).2.1=r.2.1):∃len',Now κ it key p0 lo T st5 len':=by
 obtain⟨p,pend,hs,z,pm,hr,e,t⟩:=hN
 refine⟨_,p,pend.modify i f,?_,z,pm,?_,rfl,t⟩
 .rw[e5]
  refine⟨hs.1,hs.2.1,?_,hs.2.2.2⟩
  show(Zje st).modify _ _=_
  rw[hs.2.2.1]
 .rw[Array.toList_modify]
  exact hr.modify hf
theorem yeu{c:Prop}[Decidable c]{a b m:Nat}(ha:a+1<m)(hb:b+1<m):(if c then a else b)+1<m:=by split <;> assumption
theorem ye7 (hc : Cmp prog w A s κ it n key) (hn : 0 < n) {p0 : Az} (hp : Ent n p0) {st : Zii} {Q : Unit -> Zii -> Prop} (hs : Sta κ it st p0 #[])
  (q:∀p' st' pend,Sta κ it st' p' pend->p'.size=p0.size->p'.Perm p0->Seg key p' 0 p0.size->Q () st'):wpS (A3 w) A E s sortRuns' Q st:=by
 rw[sortRuns'_eq]
 refine Zgt (Znt ?_)
 rw[show(Zoq st).size=p0.size from by rw[hs.2.1];simp]
 dsimp only
 refine Zgt (Zjx (Zh9 (I:=fun k c st'=>∃lo T len,c=(none,lo)/\k<=lo/\lo<=p0.size/\Now κ it key p0 lo T st' len)
  (Q:=fun c st'=>∃T len,c=(none,p0.size)/\Now κ it key p0 p0.size T st' len) ?_ ?_ ⟨0,p0,0,rfl,Ay,Zhr _,p0,#[],hs,rfl,Znp _,rfl,rfl,BF⟩) ?_)
 .rintro k c st1 _ hk ⟨lo, T, len, rfl, h1, h2, p1, pend, hs1, z1, pm1, hr1, hlen, ht1⟩
  dsimp only
  refine zbn Bi Bi
  .have:lo=p0.size:=by lia
   subst this
   exact Zgu ⟨T,len,rfl,p1,pend,hs1,z1,pm1,hr1,hlen,ht1⟩
  refine Zgt (ya0 hc hn hs1 (hp.perm pm1 hn) (by lia) (by lia) fun m p2 st2 hs2 mv2 m1 m2 sg2=>?_)
  dsimp only
  have hr2:Runs key p2 pend.toList 0 lo:=hr1.congr fun t _ h=>mv2.2.2 t (.inl h)
  have z2:p2.size=p0.size:=mv2.1.trans z1
  have pm2:p2.Perm p0:=mv2.2.1.trans pm1
  refine zbn (fun hmr=>?_) fun hmr=>?_
  .refine Zgt (Zpa (Zj1 ⟨rfl, ?_⟩))
   generalize hfc:min (p0.size - lo) (minRun' p0.size p0.size 0)=fc
   refine Zgt (yfs hc hn hs2 (hp.perm pm2 hn) m1 (by lia) (by lia) sg2 fun p3 st3 hs3 mv3 sg3=>?_)
   try dsimp only
   rw[if_neg (by simp)]
   have hr3:Runs key p3 pend.toList 0 lo:=hr2.congr fun t _ h=>mv3.2.2 t (.inl h)
   have z3:p3.size=p0.size:=mv3.1.trans z2
   have pm3:p3.Perm p0:=mv3.2.1.trans pm2
   have hm1:0<fc:=by lia
   have hm2:lo+fc<=p0.size:=by lia
   refine Zgt (Znt ?_)
   have fin:∀st5,Now κ it key p0 lo p3 st5 0\/(∃len',Now κ it key p0 lo p3 st5 len')-> ∀st6,st6=Zwo st5 ((Zje st5).push (lo,fc,0))-> ∃lo' T len,((none,lo+fc):Option Unit×Nat)=(none,lo')/\k+1<=lo'/\lo'<=p0.size/\Now κ it key p0 lo' T st6 len:=fun st5 hN5 st6 e6=>by
    obtain⟨len',p5,pend5,hs5,z5,pm5,hr5,e5,t5⟩:∃len',Now κ it key p0 lo p3 st5 len':=hN5.elim (fun h=>⟨_,h⟩) id
    refine⟨lo+fc,p5,pend5.size+1,rfl,by lia,hm2,p5,pend5.push (lo,fc,0),?_,z5,pm5,?_,by simp,BF⟩
    .rw[e6]
     refine⟨hs5.1,hs5.2.1,?_,hs5.2.2.2⟩
     show(Zje st5).push _=_
     rw[hs5.2.2.1]
    .rw[Znk]
     refine hr5.push hm1 fun s t a1 a2 a3=>?_
     unfold kk
     rw[t5 s a1,t5 t (by lia)]
     exact sg3 s t a1 a2 a3
   have hN:Now κ it key p0 lo p3 st3 len:=⟨p3,pend,hs3,z3,pm3,hr3,hlen,BF⟩
   cases hb:(Zje st3).back? with
   | none =>
    dsimp only
    exact Zgt (zgp fun st6 e6=>Zgu (fin st3 (.inr ⟨_,hN⟩) st6 e6))
   | some r =>
    obtain⟨s1,n1,pw1⟩:=r
    dsimp only
    refine Zgt (Zjx (Zh9 (I:=fun x c st'=>∃len,c=(none,())/\Now κ it key p0 lo p3 st' len)
     (Q:=fun c st'=>∃len,c=(none,())/\Now κ it key p0 lo p3 st' len) ?_ ?_ (Aw len hN)) ?_)
    .clear hN
     rintro x c st4 _ _ ⟨len,rfl,hN⟩
     try dsimp only
     refine Zgt (Znt ?_)
     have hsz:(Zje st4).size=len:=by
      obtain⟨p,pend,hs,_,_,_,e,_⟩:=hN
      rw[hs.2.2.1];exact e
     by_cases hgt:(Zje st4).size>1
     .rw[if_pos hgt]
      cases hb2:(Zje st4)[(Zje st4).size - 2]? with
      | none=>exact Zgu (Aw len hN)
      | some r2 =>
       obtain⟨x1,x2,x3⟩:=r2
       dsimp only
       refine zbn Bi Bi
       .exact Zgu (Aw len hN)
       .refine Zgt (ycv hc hn hp hN h2 (by lia) fun st5 hN5=>?_)
        rw[if_neg (by simp)]
        exact Zgu (Aw _ hN5)
     .rw[if_neg hgt]
      exact Zgu (Aw len hN)
    .rintro c st4 h
     exact h
    .rintro c st4 ⟨len,rfl,hN⟩
     dsimp only
     refine Zgt (zgp fun st5 e5=>?_)
     have hN5:=hN.pow e5 (fun r=>(AF rfl))
     exact Zgt (zgp fun st6 e6=>Zgu (fin st5 (.inr hN5) st6 e6))
  .have hm1 : 0 < m := by lia
   have hm2:lo+m<=p0.size:=by lia
   refine Zgt (Znt ?_)
   have fin:∀st5,Now κ it key p0 lo p2 st5 0\/(∃len',Now κ it key p0 lo p2 st5 len')-> ∀st6,st6=Zwo st5 ((Zje st5).push (lo,m,0))-> ∃lo' T len,((none,lo+m):Option Unit×Nat)=(none,lo')/\k+1<=lo'/\lo'<=p0.size/\Now κ it key p0 lo' T st6 len:=fun st5 hN5 st6 e6=>by
    obtain⟨len',p5,pend5,hs5,z5,pm5,hr5,e5,t5⟩:∃len',Now κ it key p0 lo p2 st5 len':=hN5.elim (fun h=>⟨_,h⟩) id
    refine⟨lo+m,p5,pend5.size+1,rfl,by lia,hm2,p5,pend5.push (lo,m,0),?_,z5,pm5,?_,by simp,BF⟩
    .rw[e6]
     refine⟨hs5.1,hs5.2.1,?_,hs5.2.2.2⟩
     show(Zje st5).push _=_
     rw[hs5.2.2.1]
    .rw[Znk]
     refine hr5.push hm1 fun s t a1 a2 a3=>?_
     unfold kk
     rw[t5 s a1,t5 t (by lia)]
     exact sg2 s t a1 a2 a3
   have hN:Now κ it key p0 lo p2 st2 len:=⟨p2,pend,hs2,z2,pm2,hr2,hlen,BF⟩
   cases hb:(Zje st2).back? with
   | none =>
    dsimp only
    exact Zgt (zgp fun st6 e6=>Zgu (fin st2 (.inr ⟨_,hN⟩) st6 e6))
   | some r =>
    obtain⟨s1,n1,pw1⟩:=r
    dsimp only
    refine Zgt (Zjx (Zh9 (I:=fun x c st'=>∃len,c=(none,())/\Now κ it key p0 lo p2 st' len)
     (Q:=fun c st'=>∃len,c=(none,())/\Now κ it key p0 lo p2 st' len) ?_ ?_ (Aw len hN)) ?_)
    .clear hN
     rintro x c st4 _ _ ⟨len,rfl,hN⟩
     try dsimp only
     refine Zgt (Znt ?_)
     have hsz:(Zje st4).size=len:=by
      obtain⟨p,pend,hs,_,_,_,e,_⟩:=hN
      rw[hs.2.2.1];exact e
     by_cases hgt:(Zje st4).size>1
     .rw[if_pos hgt]
      cases hb2:(Zje st4)[(Zje st4).size - 2]? with
      | none=>exact Zgu (Aw len hN)
      | some r2 =>
       obtain⟨x1,x2,x3⟩:=r2
       dsimp only
       refine zbn Bi Bi
       .exact Zgu (Aw len hN)
       .refine Zgt (ycv hc hn hp hN h2 (by lia) fun st5 hN5=>?_)
        rw[if_neg (by simp)]
        exact Zgu (Aw _ hN5)
     .rw[if_neg hgt]
      exact Zgu (Aw len hN)
    .rintro c st4 h
     exact h
    .rintro c st4 ⟨len,rfl,hN⟩
     dsimp only
     refine Zgt (zgp fun st5 e5=>?_)
     have hN5:=hN.pow e5 (fun r=>(AF rfl))
     exact Zgt (zgp fun st6 e6=>Zgu (fin st5 (.inr hN5) st6 e6))
 .rintro c st' ⟨lo,T,len,rfl,h1,h2,h⟩
  have:lo=p0.size:=by lia
  subst this
  exact(AM T len h)
 .rintro c st1 ⟨T,len,rfl,hN⟩
  dsimp only
  have hlen:len<=p0.size:=by
   obtain⟨p,pend,_,_,_,hr,e,_⟩:=hN
   have:=hr.len
   simp at this;lia
  refine Zgt (Zjx (Zh9 (I:=fun k c st'=>∃len,c=(none,())/\len<=p0.size - k/\Now κ it key p0 p0.size T st' len)
   (Q:=fun c st'=>∃len,c=(none,())/\len<=1/\Now κ it key p0 p0.size T st' len) ?_ ?_ ⟨len,rfl,by omega,hN⟩) ?_)
  .clear hN
   rintro k c st2 _ hk ⟨len,rfl,hl,hN⟩
   try dsimp only
   refine Zgt (Znt ?_)
   have hsz:(Zje st2).size=len:=by
    obtain⟨p,pend,hs,_,_,_,e,_⟩:=hN
    rw[hs.2.2.1];exact e
   refine zbn Bi Bi
   .exact Zgu ⟨len,rfl,by lia,hN⟩
   .refine Zgt (ycv hc hn hp hN Ay (yeu (by omega) (by lia)) fun st3 hN3=>?_)
    rw[if_neg (by simp)]
    exact Zgu ⟨len - 1,rfl,by lia,hN3⟩
  .rintro c st2 ⟨len,rfl,hl,hN⟩
   exact⟨len,rfl,by lia,hN⟩
  .rintro c st2 ⟨len,rfl,hl,p,pend,hs,hz,hpm,hr,e,_⟩
   dsimp only
   exact Zgu (q p st2 pend hs hz hpm (hr.whole (by simp;lia)))
end
section
variable{prog:Zg8}{w:Zhy}{A:Zhk}{s:Zgk}
theorem ztu{κ:Zly}{vs:Ar}{key:Nat->Int}(h2:2<=vs.length)
  (hk:∀(Q:Zly->Ah) (E:Zgi->Ah),Q κ s->An w A (Zzf vs.toArray) Q E s)
  (hlt:∀i j (C:Bool->Ah),i<vs.length->j<vs.length->C (AS (key i) (key j)) s->An w A (keyLt' κ (vs.getD i Zig) (vs.getD j Zig)) C (fun _ _=>False) s) :
  zub prog w A s vs (OutK key vs):=by
 refine⟨κ,hk,fun Q E hQ=>?_⟩
 have hc:Cmp prog w A s κ (vs.toArray.zip vs.toArray) vs.length key:=fun i j C hi hj h=>by
  rw[kat_item rfl,kat_item rfl]
  exact hlt i j C hi hj h
 have h0:Ent vs.length (Zsr (Zhi vs.length)):=fun i=>by
  rw[zao]
  by_cases hi:i<vs.length
  .simp[hi]
  .rw[Zgf,Zhu (by simpa using hi)];show 0<_;lia
 have hs:Sta κ (vs.toArray.zip vs.toArray) (Zq7 κ (vs.toArray.zip vs.toArray) #[] 7 none) (Zsr (Zhi vs.length)) #[]:=by
  refine(AM rfl ?_ rfl)
  have e:=kas_range (vs.toArray.zip vs.toArray)
  rw[show(vs.toArray.zip vs.toArray).size=vs.length by simp] at e
  exact e.symm
 have sz:(Zsr (Zhi vs.length)).size=vs.length:=by simp
 have run:=ye7 (E:=E) (Q:=fun _ st'=>Q st' s) hc (by lia) h0 hs fun p' st' pend hs' z' pm' sg'=>by
  have hout:=kat_snds rfl hs'.2.1
  rw[sz] at z' sg'
  refine hQ st' hs'.2.2.2 (by rw[hs'.2.1,Zl9,z']) ⟨p'.toList,?_,?_,?_⟩
  .have:=pm'.toList
   simpa using this
  .rw[hout]
  .rw[Zi8]
   intro i j hi hj hij
   have h:=sg' i j (Zhr _) (by lia) (by simpa[z'] using hj)
   unfold kk at h
   have e:∀m (hm:m<p'.toList.length),p'.getD m 0=p'.toList[m]:=fun m hm=>by
    have hm':m<p'.size:=by simpa using hm
    simp[Zlb,hm']
   rw[e i hi,e j hj] at h
   exact h
 exact Zif run (fun r s' h=>by obtain⟨rfl,h⟩:=h;exact h) fun _ _ e=>e
end
noncomputable def zu3(K:Zgh):Ao->Hp->Af VK:=fun vs H Q=>∃a xs ds,vs=[Au]/\SqL K H a xs/\AB H ds xs/\zfx ds /\
 ∀l (p:Ac),p.Perm (Zhi ds.length)->p.map (fun i=>Bv i)=ze9 ds->H l=none->Q (.ref l) (upd H l (.lst (p.map fun i=>xs.getD i .non)))
theorem Vals.pick{xs:Ao}{us:Ar}(r:Vals xs us):∀p:Ac,(∀i∈p,i<xs.length)->Vals (p.map fun i=>xs.getD i .non) (p.map fun i=>us.getD i Zig)
 | [],_=>.nil
 | i::p,h=>by
  have hi:=h i Zgz
  obtain⟨u,hu,ru⟩:=r.get (Zgg hi)
  refine .cons ?_ (Vals.pick r p fun j hj=>h j (Zgq _ hj))
  show RelV (xs.getD i .non) (us.getD i Zig)
  rw[Zgf,Zgg hi,Zgf,hu]
  exact ru
theorem Reps.pick{K:Zgh}{H:Hp}{ds:Ae}{xs:Ao}(r:AB H ds xs):∀p:Ac,(∀i∈p,i<ds.length)->AB H (p.map fun i=>Bv i) (p.map fun i=>xs.getD i .non)
 | [],_=>Reps.nil
 | i::p,h=>by
  have hi:=h i Zgz
  obtain⟨u,hu,ru⟩:=r.get' (Zgg hi)
  refine Reps.cons ?_ (Reps.pick r p fun j hj=>h j (Zgq _ hj))
  show Rep K H (Bv i) (xs.getD i .non)
  rw[Zgf,Zgg hi,Zgf,hu]
  exact ru
section
variable{X:Cx}{pins:List (Addr×Obj)}{σ:St}{H:Hp}{s:Zgk}
theorem FV.of{t:Ty}{d:D}{x:V}{u:Zgi}(ht:Ab (t.ok d))(r:Rep X.K H d x)(q:RelV x u):FV d u:=by
 cases t <;> cases d <;> simp[Ty.ok] at ht
 .rw[r.of_str] at q;exact q
 .rw[r.of_int] at q;exact q
theorem FVs.of:∀{ts:List Ty} {ds:Ae} {xs:Ao} {us:Ar},Ab (shOk ts ds)->Reps X.K H ds xs->Vals xs us->FVs ds us
 | [],ds,_,_,ht,r,q=>by
  cases ds <;> simp[shOk] at ht
  rw[Reps] at r;subst r;cases q;exact .nil
 | t::ts,ds,_,_,ht,r,q=>by
  cases ds with
  | nil=>simp[shOk] at ht
  | cons d ds =>
   simp only[shOk,Zhe] at ht
   rw[Reps] at r
   obtain⟨x,xs,rfl,r1,r2⟩:=r
   cases q with
   | cons q1 q2=>exact .cons (FV.of ht.1 r1 q1) (FVs.of ht.2 r2 q2)
noncomputable def TV(h:Heap)(es:Ae)(u:Zgi):Prop:=∃a o its n,u= Au/\A0 a o/\o.cls= .type "tuple" /\ o.data= .seq its n/\FVs es its.toList
theorem Inv.tv(I:Ag H s){ts:List Ty}{es:Ae}{x:V}{u:Zgi}(ht:Ab (shOk ts es))(r:Rep X.K H (.tup es) x)(q:RelV x u):TV s.heap es u:=by
 obtain⟨p,xs,rfl,sq,rs⟩:=r.of_tup
 cases q
 obtain⟨its,rv,⟨o,e,c,n,hd⟩,_⟩:=I.tuple sq
 exact⟨p,o,its.toArray,n,rfl,e,c,hd,by simpa using FVs.of ht rs rv⟩
theorem zqi{ds:Ae}{xs:Ao}{us:Ar}(rs:Reps X.K H ds xs)(rv:Vals xs us){i:Nat}(hi:i<us.length):∃x,Rep X.K H (Bv i) x/\RelV x (us.getD i Zig)/\Bv i∈ds:=by
 have l1:=rs.length
 have l2:=rv.length
 obtain⟨x,hx,r⟩:=rs.get' (Zgg (show i<ds.length by lia))
 obtain⟨u,hu,ru⟩:=rv.get hx
 refine⟨x,?_,?_,?_⟩
 .rw[Zgf,Zgg (show i<ds.length by lia)];exact r
 .rw[Zgf,hu];exact ru
 .rw[Zgf,Zgg (show i<ds.length by lia)];exact Zik _
theorem zp7{us:Ar}{v:Zgi}(h:v∈us):∃i,i<us.length/\v=us.getD i Zig:=by
 obtain⟨i,hi,e⟩:=Zte h
 exact⟨i,hi,by rw[Zgf,Zgg hi];exact e.symm⟩
noncomputable def Ty.tv:Ty->Zgi
 | .s=>.type "str"
 | .i=>.type "int"
noncomputable def ydx(prog:Zg8)(w:Zhy)(A:Zhk)(s:Zgk)(vs:Ar)(key:Nat->Int):Prop :=
 ∃κ,(∀(Q:Zly->Ah) (E:Zgi->Ah),Q κ s->An w A (Zzf vs.toArray) Q E s) /\
  ∀i j (C:Bool->Ah),i<vs.length->j<vs.length->C (AS (key i) (key j)) s->An w A (keyLt' κ (vs.getD i Zig) (vs.getD j Zig)) C (fun _ _=>False) s
theorem zuw {h' : Heap} {ds : Ae} {xs : Ao} {us : Ar} {A' : Zhk} (I : Ag H s) (rs : Reps X.K H ds xs) (rv : Vals xs us) (hal : zfx ds) (h2 : 2 <= us.length) (k : zg1 s.heap h') :
  ydx X.prog X.w A' { s with heap:=h' } us (rk ds):=by
 have l1:=rs.length
 have l2:=rv.length
 have flat:∀(t:Ty) (T0:Zgi),(∀d u,Ab (t.ok d)->FV d u->typeOf u=pure T0)->Ab (T0 != Zky "tuple")->Ab (T0 == T0)->(∀d∈ds,Ab (t.ok d))->ydx X.prog X.w A' { s with heap:=h' } us (rk ds):=fun t T0 hty hT1 hT2 ht=>by
  have fv:∀i,i<us.length->FV (Bv i) (us.getD i Zig)/\Ab (t.ok (Bv i)):=fun i hi=>by
   obtain⟨x,r,q,hm⟩:=zqi rs rv hi
   exact⟨FV.of (ht _ hm) r q,ht _ hm⟩
  refine⟨oneType',fun Q E q=>kas_kind h2 (T:=T0) (fun v hv=>?_) hT1 hT2 q,fun i j C hi hj hC=>?_⟩
  .obtain⟨i,hi,rfl⟩:=zp7 hv
   obtain⟨f,o⟩:=fv i hi
   rw[hty _ _ o f]
   exact .now
  .obtain⟨f1,o1⟩:=fv i hi
   obtain⟨f2,o2⟩:=fv j hj
   rw[keyLt'_oneType]
   refine zvk o1 o2 f1 f2 true ?_
   rw[ycw (by lia)] at hC
   have e:∀d:D,Ab (t.ok d)->d.ord=[d.fo]:=fun d hd=>by cases t <;> cases d <;> simp[Ty.ok] at hd <;> rfl
   rw[e _ o1,e _ o2] at hC
   have:AS (Bv i).fo (Bv j).fo=AS [(Bv i).fo] [(Bv j).fo]:=by
    rw[Ziq,decide_eq_true_eq,decide_eq_true_eq];exact(ye3 _ _).symm
   rw[this];exact hC
 rcases hal with ht | ht | ⟨t,ts,ht⟩
 .exact flat .s (.type "str") (fun d u hd f=>by cases d <;> simp[Ty.ok] at hd;obtain⟨t,rfl⟩:=f;rfl) (by decide) (by decide) ht
 .exact flat .i (.type "int") (fun d u hd f=>by cases d <;> simp[Ty.ok] at hd;obtain⟨t,rfl⟩:=f;rfl) (by decide) (by decide) ht
 .have tv : ∀ i, i < us.length -> ∃ es, Bv i = .tup es /\ shOk (t :: ts) es = true /\ TV h' es (us.getD i Zig) := fun i hi => by
   obtain⟨x,r,q,hm⟩:=zqi rs rv hi
   obtain⟨es,e,ho⟩:=ht _ hm
   rw[e] at r
   obtain⟨a,o,its,n,eu,ho',hc,hd,fv⟩:=I.tv ho r q
   exact⟨es,e,ho,a,o,its,n,eu,k a o ho',hc,hd,fv⟩
  obtain⟨T0,hT0,hb,hbb⟩:∃T0:Zgi,(T0=t.tv)/\Ab (T0 != Zky "tuple")/\Ab (T0 == T0):=⟨t.tv,rfl,by cases t <;> decide,by cases t <;> decide⟩
  have hfs : ∀ (l : Ar), (∀ v ∈ l, ∃ es, shOk (t :: ts) es = true /\ TV h' es v) -> ∃ fs, KatTups h' l fs /\ fs.length = l.length /\ ∀ f ∈ fs, typeOf f = pure T0 := by
   intro l
   induction l with
   | nil=>intro _;exact(AM [] KatTups.nil (by simp))
   | cons v l ih =>
    intro h
    obtain⟨fs,h1,h2,h3⟩:=ih fun u hu=>h u (Zgq _ hu)
    obtain⟨es,ho,a,o,its,n,rfl,hg,hc,hd,fv⟩:=h v Zgz
    cases es with
    | nil=>simp[shOk] at ho
    | cons d es =>
     simp only[shOk,Zhe] at ho
     cases hits:its.toList with
     | nil=>rw[hits] at fv;cases fv
     | cons f fr =>
      rw[hits] at fv
      cases fv with
      | cons fd _ =>
       have h0:Ax its 0 f:=by
        have:Ax its.toList 0 f:=by rw[hits];rfl
        simpa using this
       refine⟨f::fs,KatTups.cons hg hc hd h0 h1,by simp[h2],fun g hgm=>?_⟩
       rcases Zgp.mp hgm with rfl | hgm
       .cases t <;> cases d <;> simp[Ty.ok] at ho
        .obtain⟨t',rfl⟩:=fd;rw[hT0];rfl
        .obtain⟨t',rfl⟩:=fd;rw[hT0];rfl
       .exact h3 g hgm
  obtain⟨fs,hk1,hk2,hk3⟩:=hfs us fun v hv=>by
   obtain⟨i,hi,rfl⟩:=zp7 hv
   obtain⟨es,_,ho,tvv⟩:=tv i hi
   exact⟨es,ho,tvv⟩
  refine⟨tuples' (T0 != Zky "tuple"),fun Q E q=>kat_kind (s:={ s with heap:=h' }) (T:=T0) hk1 (by lia) (fun v hv=>?_) hbb q,fun i j C hi hj hC=>?_⟩
  .rw[hk3 v hv];exact .now
  .obtain⟨es,e1,o1,a,o,its,n,eu,hg,hc,hd,fv⟩:=tv i hi
   obtain⟨es',e1',o1',a',o',its',n',eu',hg',hc',hd',fv'⟩:=tv j hj
   rw[eu,eu']
   rw[ycw (by lia),e1,e1'] at hC
   have sz:∀{ts:List Ty} {es:Ae} {us:Ar},Ab (shOk ts es)->FVs es us->us.length=ts.length:=by
    intro ts
    induction ts with
    | nil=>intro es us h f;cases f with
     | nil=>rfl
     | cons _ _=>simp[shOk] at h
    | cons t ts ih=>intro es us h f;cases f with
     | nil=>simp[shOk] at h
     | cons _ f=>simp only[shOk,Zhe] at h;simp[ih h.2 f]
   have z1:=sz o1 fv
   have z2:=sz o1' fv'
   refine kat_lt (s:={ s with heap:=h' }) hg hd hg' hd' ?_
   rw[decide_eq_false (by simp at z1 z2;lia)]
   exact zq1 0 o1 o1' fv fv' hC
theorem zi5{h':Heap}{ds:Ae}{xs:Ao}{us:Ar}{A':Zhk}(I:Ag H s)(rs:Reps X.K H ds xs)(rv:Vals xs us)(hal:zfx ds)(h2:2<=us.length)(k:zg1 s.heap h') :
  zub X.prog X.w A' { s with heap:=h' } us (OutK (rk ds) us):=by
 obtain⟨κ,hk,hlt⟩:=zuw (A':=A') I rs rv hal h2 k
 exact ztu h2 hk hlt
theorem zkz{r:Nat->Int}{us:Ar}(h:us.length<2):OutK r us us.toArray:=by
 refine⟨Zhi us.length,Zth _,?_,?_⟩
 .match us,h with
  | [],_=>rfl
  | [v],_=>rfl
 .match us,h with
  | [],_=>simp
  | [v],_=>simp
theorem zp4:zdd X (.builtin "sorted") (zu3 X.K):=by
 intro pins s σ H xs us Q I r h
 obtain⟨a,vs,ds,rfl,hq,rs,hal,q⟩:=h
 obtain⟨u,rfl,ru⟩:=zj0 r
 cases ru
 obtain⟨its,rv,pl,hz⟩:=I.list hq
 have l1:=rs.length
 have l2:=rv.length
 refine zo9 (OutK (rk ds) its) pl.isList (by lia) (fun h2 h' k=>zi5 I rs rv hal h2 k) (fun h1=>?_) fun out c h' k hc hsz hO=>?_
 .exact zkz h1
 .obtain⟨p,hp,ho,hs⟩:=hO
  have hmem:∀i∈p,i<its.length:=fun i hi=>Zic.mp (hp.mem_iff.mp hi)
  have hpm:(p.map fun i=>Bv i).Perm ds:=by
   have h1:=hp.map (fun i=>ds.getD i D.non)
   have h2:(Zhi its.length).map (fun i=>ds.getD i D.non)=ds:=by
    rw[<- l2,<- l1]
    refine Zld fun i=>?_
    rw[Zgy]
    by_cases hi:i<ds.length
    .rw[Zj8 hi,Zgg hi]
     simp[Zgf,hi]
    .rw[Zhu (by simpa using hi),Zhu (by simpa using hi)];rfl
   rw[h2] at h1;exact h1
  have hso:(p.map fun i=>Bv i).Pairwise fun a b=>Ab (a.leB b):=by
   rw[Zkm]
   refine Zpg (fun {i j} hi hj h=>ye1 (by have:=hmem i hi;lia) (by have:=hmem j hj;lia) h) hs
  have eD:=zio hal hpm hso
  have hv:=rv.pick p (by rw[l2];exact hmem)
  rw[<- ho] at hv
  have hplen:p.length=its.length:=by rw[hp.length_eq,Znm]
  refine⟨.ref (AR 1),_,I.laid (t':=s.toks) k (Znv _) (show zdb X.prog X.w _ _ _ (.lst _) from⟨by rw[Zgn];lia,out.toList,c,hv,by simpa[Zqj] using hc⟩),rfl,q _ p (by rw[l1,l2];exact hp) eD (I.hok.fresh (Znv _))⟩
end
section
variable{K:Zgh}{G Hz L:Hp}{ss:List Sl}{t:TE}{ds:List D}
theorem zr8(a:EvL K G Hz L ss t ds)(hal:zfx ds):EvO K G Hz L ss (tCB (zu3 K) (zbb t tNil)) (ze9 ds):=fun F H σ Q S q =>
 a F H σ _ S fun p vs F' H' e sq r=>⟨p,vs,ds,rfl,sq,r.mono e.fh,hal,fun l pm hp hs hl=>by
  have hmem:∀i∈pm,i<ds.length:=fun i hi=>Zic.mp (hp.mem_iff.mp hi)
  have:=r.pick pm hmem
  rw[hs] at this
  exact q l _ F' _ (e.newO hl) (e.hh.free hl) (e.fh.free hl) zam this⟩
end
end L2
namespace L2
open PySem PySem.W PySem.Spec PyProof.Rows
noncomputable def cutD(xs:Ae)(lo hi:Bt):Ae:=(xs.drop (HT.sIx xs.length 0 lo)).take (HT.sIx xs.length xs.length hi - HT.sIx xs.length 0 lo)
theorem Reps.cut{K:Zgh}{H:Hp}{ds:Ae}{xs:Ao}(lo hi:Bt)(h:AB H ds xs):AB H (cutD ds lo hi) (cutV xs lo hi):=by
 unfold cutD cutV
 rw[<- h.length]
 exact(h.drop _).take _
section
variable{K:Zgh}{G Hz L:Hp}{ss:List Sl}{t ta tb:TE}{d:D}{ds:List D}
theorem zl9(a:EvL K G Hz L ss t ds):Ap K G L (tCB (fun xs H Q=>∃p ys,xs=[AO]/\(SqL K H p ys\/SqT K H p ys)/\Q (.int ys.length) H) (zbb t tNil)) (.int ds.length):=fun F H σ Q S q =>
 a F H σ _ S fun p vs F' H' e sq r=>⟨p,vs,rfl,.inl sq,q _ _ _ e (by rw[<- r.length];exact Rep.int)⟩
theorem yby(a:BM K G L t (.tup ds)):Ap K G L (tCB (fun xs H Q=>∃p ys,xs=[AO]/\(SqL K H p ys\/SqT K H p ys)/\Q (.int ys.length) H) (zbb t tNil)) (.int ds.length):=fun F H σ Q S q =>
 a F H σ _ S fun v F' H' e r=>by
  obtain⟨p,vs,rfl,sq,rs⟩:=r.of_tup
  exact⟨p,vs,rfl,.inr sq,q _ _ _ e (by rw[<- rs.length];exact Rep.int)⟩
theorem zw2{l:Ac}(a:A8 K G L t l)(hz:AL l.length):Ap K G L (tCB (fun xs H Q=>∃z:Str,xs=[.str z]/\AL z.length/\Q (.int z.length) H) (zbb t tNil)) (.int l.length):=fun F H σ Q S q =>
 a F H σ _ S fun v F' H' e r=>by
  rw[r.of_str]
  exact⟨T l,rfl,by rw[zbw];exact hz,q _ _ _ e (by rw[zbw];exact Rep.int)⟩
theorem zy8(a:EvL K G Hz L ss t ds):EvO K G Hz L ss (tCB (fun xs H Q=>∃p ys,xs=[AO]/\(SqL K H p ys\/SqT K H p ys) /\ ∀l,H l=none->Q (.ref l) (upd H l (.lst ys))) (zbb t tNil)) ds:=fun F H σ Q S q =>
 a F H σ _ S fun p vs F' H' e sq r=>⟨p,vs,rfl,.inl sq,fun l hl=>q l vs F' _ (e.newO hl) (e.hh.free hl) (e.fh.free hl) zam r⟩
noncomputable def EvP(K:Zgh)(G Hz L:Hp)(ss:List Sl)(t:TO)(o:Bt):Prop:=∀F H σ (Q:Bt->Af Hp),Sat K G Hz L F H σ ss->(∀F' H',Ext F H F' H'->Q o H')->t σ H Q
theorem zje:EvP K G Hz L ss zi8 none:=fun F H σ Q S q=>q _ _ (Ext.refl S.ext.fh)
theorem zdl{i:Int}(a:Bj K G L t i):EvP K G Hz L ss (zp0 t) (some i):=fun F H σ Q S q=>a F H σ _ S fun v F' H' e r=>⟨i,r.of_int,q _ _ e⟩
theorem zhl{tl th:TO}{lo hi:Bt}(a:EvL K G Hz L ss t ds)(b:EvP K G Hz L ss tl lo)(c:EvP K G Hz L ss th hi):EvO K G Hz L ss (tSl (rSlL K) t tl th) (cutD ds lo hi):=fun F H σ Q S q =>
 a F H σ _ S fun p vs F1 H1 e1 sq r=>b F1 H1 σ _ A9 fun F2 H2 e2=>c F2 H2 σ _ ((A9).ext2 e2) fun F3 H3 e3 =>
  ⟨p,vs,rfl,SqL.same e3.hh (SqL.same e2.hh sq),fun l hl=>q l _ F3 _ (((Bn).trans e3).newO hl) (((Bn).trans e3).hh.free hl) (((Bn).trans e3).fh.free hl) zam (((r.mono e2.gf).mono e3.gf).cut lo hi)⟩
theorem zz5{tl th:TO}{lo hi:Bt}{l:Ac}(a:A8 K G L t l)(b:EvP K G Hz L ss tl lo)(c:EvP K G Hz L ss th hi)(hz:AL l.length):Ap K G L (tSl rSlS t tl th) (.str (cutL l lo hi)):=fun F H σ Q S q =>
 a F H σ _ S fun v F1 H1 e1 r=>b F1 H1 σ _ A9 fun F2 H2 e2=>c F2 H2 σ _ ((A9).ext2 e2) fun F3 H3 e3 =>
  ⟨l,r.of_str,hz,q _ _ _ ((Bn).trans e3) (Rep.str fun c hc=>r.asc c (Zom (Zmn hc)))⟩
noncomputable def glue(z:Ac):AT->Ac
 | []=>[]
 | [x]=>x
 | x::y::r=>x++z++glue z (y::r)
end
theorem zws(z:Ac):∀ls:AT,Zqq (T z) (ls.map T)=T (glue z ls)
 | []=>rfl
 | [x]=>rfl
 | x::y::r=>by
  have ih:=zws z (y::r)
  rw[Zhc] at ih
  rw[Zhc,Zhc]
  show T x++T z++Zqq (T z) (T y::r.map T)=_
  rw[ih,ybk,ybk];rfl
theorem zk8{z:Ac}(hz:∀c∈z,c<128):∀{ls:AT},(∀l∈ls,∀c∈l,c<128)-> ∀c∈glue z ls,c<128
 | [],_,c,h=>by cases h
 | [x],hl,c,h=>hl x Zgz c h
 | x::y::r,hl,c,h=>by
  rw[glue] at h
  rcases Zhh.mp h with h | h
  .rcases Zhh.mp h with h | h
   .exact hl x Zgz c h
   .exact hz c h
  .exact zk8 hz (ls:=y::r) (fun l hm=>hl l (Zgq _ hm)) c h
theorem Reps.strs{K:Zgh}{H:Hp}:∀{ls:AT} {vs:Ao},AB H (ls.map D.str) vs->vs=(ls.map T).map V.str /\ ∀l∈ls,∀c∈l,c<128
 | [],vs,h=>by rw[Zpz,Reps] at h;subst h;exact⟨rfl,by simp⟩
 | l::ls,vs,h=>by
  rw[Zhc,Reps] at h
  obtain⟨x,xs,rfl,h1,h2⟩:=h
  obtain⟨e,ha⟩:=h2.strs
  refine⟨by rw[h1.of_str,e];rfl,fun m hm=>?_⟩
  rcases Zgp.mp hm with rfl | hm
  .exact h1.asc
  .exact ha m hm
section
variable{K:Zgh}{G Hz L:Hp}{ss:List Sl}{t ta tb:TE}{d:D}{ds:List D}
theorem zo7{z:Ac}{ls:AT}(a:A8 K G L ta z)(b:EvL K G Hz L ss t (ls.map D.str))(hz:(ls.map Zj7).sum+ls.length*z.length<=16777216):Ap K G L (tBM K "str" (ybq K) ta (zbb t tNil)) (.str (glue z ls)):=fun F H σ Q S q =>
 BK F H σ _ S (by
  rw[r1.of_str]
  refine⟨rfl,b F1 H1 σ _ A9 fun p vs F2 H2 e2 sq r2=>?_⟩
  obtain⟨rfl,ha⟩:=r2.strs
  refine⟨T z,p,ls.map T,rfl,rfl,sq,?_,?_⟩
  .rw[Zin,Zgn,zbw,show((fun x:Str=>x.length)∘T)=Zj7 from funext fun l=>zbw l];exact hz
  .rw[zws]
   exact q _ _ _ Bn (Rep.str (zk8 r1.asc ha)))
end
noncomputable def zd6(goes:Nat->Bool)(l:Ac):Ac:=((l.dropWhile goes).reverse.dropWhile goes).reverse
theorem zc1(g:Nat->Bool):∀l:Ac,l.drop (l.takeWhile g).length=l.dropWhile g
 | []=>rfl
 | x::l=>by
  rw[Zms,Zku]
  cases g x with
  | true=>simp only[if_true,Zg5,List.drop_succ_cons];exact zc1 g l
  | false=>rfl
theorem ycp(l y:Ac):Zrw (T l) (T y)=T (zd6 y.contains l):=by
 have ct:(T y).cps.contains=y.contains:=by funext c;simp[T]
 have key:Zq8 y.contains true true (T l)=T (zd6 y.contains l):=by
  unfold Zq8 PySem.stripLo PySem.stripHi
  simp only[if_true,ze5,zbw]
  rw[zc1]
  have h1:(l.takeWhile y.contains).length+(l.dropWhile y.contains).length=l.length:=by
   rw[<- Zhl,List.takeWhile_append_dropWhile]
  have e:Zn6 (T l) (l.takeWhile y.contains).length (l.length - ((l.dropWhile y.contains).reverse.takeWhile y.contains).length)=T ((l.drop (l.takeWhile y.contains).length).take (l.length - ((l.dropWhile y.contains).reverse.takeWhile y.contains).length - (l.takeWhile y.contains).length)):=by
   unfold Zn6
   congr 1
   apply Zkx.mp
   rw[Zlg]
   show Zmi (T l).cps.toList _ _=_
   rw[ze5]
  rw[e,zc1]
  congr 1
  unfold zd6
  have h2:=zc1 y.contains (l.dropWhile y.contains).reverse
  rw[<- h2]
  have h3:((l.dropWhile y.contains).reverse.takeWhile y.contains).length<=(l.dropWhile y.contains).length:=by
   have:=(List.takeWhile_sublist (p:=y.contains) (l:=(l.dropWhile y.contains).reverse)).length_le
   simpa using this
  rw[Zua,List.reverse_reverse]
  congr 1;omega
 unfold Zrw Txt.stripBy
 rw[ct]
 split
 .rename_i h
  rw[<- key]
  unfold stripSame at h
  simp only[Zhe,beq_iff_eq] at h
  unfold Zq8
  rw[h.2,h.1]
  unfold Zn6
  have:(T l).cps.extract 0 (T l).length=(T l).cps:=by
   show(T l).cps.extract 0 (T l).cps.size=_
   simp
  rw[this]
 .exact key
noncomputable def zwx:V->Ao->Hp->Af VK:=fun x vs H Q=>∃z y,x= .str z/\vs=[.str y]/\AL z.length/\Q (.str (Zrw z y)) H
section
variable{X:Cx}
theorem zj7:MtR X "str.strip" zwx:=by
 intro pins s σ H x xs v us Q I rx rs h
 obtain⟨z,y,rfl,rfl,hz,q⟩:=h
 obtain⟨t,rfl⟩:=rx
 obtain⟨u,rfl,ru⟩:=Vals.one rs
 obtain⟨u,rfl⟩:=ru
 exact SC.stripChars (fun t' k=>⟨.str _,H,I.tok _,(AF _),q⟩) hz
end
section
variable{K:Zgh}{G Hz L:Hp}{ss:List Sl}{t ta tb:TE}{d:D}{ds:List D}
theorem zmc{l y:Ac}(a:A8 K G L ta l)(b:A8 K G L t y)(hz:AL l.length):Ap K G L (tBM K "str" zwx ta (zbb t tNil)) (.str (zd6 y.contains l)):=fun F H σ Q S q =>
 BK F H σ _ S (by
  rw[r1.of_str]
  refine⟨rfl,b F1 H1 σ _ A9 fun v2 F2 H2 e2 r2=>?_⟩
  refine⟨T l,T y,rfl,by rw[r2.of_str],by rw[zbw];exact hz,?_⟩
  rw[ycp]
  refine q _ _ _ Bn (Rep.str fun c hc=>r1.asc c ?_)
  unfold zd6 at hc
  exact(Zsm _).subset (Zut.mp ((Zsm _).subset (Zut.mp hc))))
end
noncomputable def rAll(K:Zgh):Ao->Hp->Af VK:=fun xs H Q=>∃p,∃bs:List Bool,xs=[AO]/\SqL K H p (bs.map V.bl)/\Q (.bl (bs.all id)) H
section
variable{X:Cx}{prog:Zg8}{w:Zhy}{A:Zhk}{E:Zgi->Zgk->Prop}{s:Zgk}
theorem zxm{h':Heap}{o:Obj}{k:Nat}(hk:∀b x,b∉[s.heap.objs.size]->Aa ((s.heap.push o).get? b) x->AU b x):zg1 s.heap h':=fun b x e=>by
 refine hk b x (fun hm=>?_) (Zgl _ e)
 have h1:=Zgv e
 rw[Zg0.mp hm] at h1
 exact Zib _ h1
theorem zs3:∀{bs:List Bool} {us:Ar},Vals (bs.map V.bl) us->us=bs.map Znj
 | [],_,.nil=>rfl
 | b::bs,_,.cons r1 r2=>by rw[zs3 r2];cases r1;rfl
theorem zsn:∀bs:List Bool,((Zhi bs.length).all fun i=>(bs[i]?).getD true)=bs.all id:=fun bs=>by
 rw[Ziq,Zja,Zja]
 constructor
 .intro h b hb
  obtain⟨i,hi,e⟩:=Zte hb
  have:=h i (Zic.mpr hi)
  rw[Zgg hi,Zlj,e] at this
  exact this
 .intro h i hi
  have hi':=Zic.mp hi
  rw[Zgg hi',Zlj]
  exact h _ (Zik hi')
theorem zrj(hc:Ab X.calm):zdd X (.builtin "all") (rAll X.K):=by
 intro pins s σ H xs us Q I r h
 obtain⟨p,bs,rfl,hq,q⟩:=h
 obtain⟨u,rfl,ru⟩:=zj0 r
 cases ru
 obtain⟨its,rv,pl,_⟩:=I.list hq
 obtain rfl:=zs3 rv
 have hl:=pl.isList
 have hlt:p<s.heap.objs.size:=by obtain⟨_,e,_⟩:=hl;exact Zgv e
 refine call_all_walk (Zju hl ⟨s.heap.objs.size,[s.heap.objs.size,p],[s.heap.objs.size],(bs.map Znj).toArray.size,_,_,fun i=>(bs[i]?).getD true,rfl,
  Walks.list (A:=X.A.in1) (I.ok.hd hc) _ p (Zhb hlt) _,⟨(AM _ (Zgx _ rfl) rfl),hl.push _⟩,fun i v s' Q' E' hP hQ=>?_,fun h' tk hk=>?_⟩)
 .have hP':Ak (bs.map Znj) v:=by simpa using hP
  rw[Zgy] at hP'
  cases hb:bs[i]? with
  | none=>rw[hb] at hP';cases hP'
  | some b =>
   rw[hb] at hP'
   cases hP'
   simp only[hb,Zlj] at hQ
   exact Zjt hQ
 .have e:((Zhi (bs.map Znj).toArray.size).all fun i=>(bs[i]?).getD true)=bs.all id:=by
   rw[Zh2,Zgn];exact zsn bs
  rw[e]
  exact⟨.bl _,H,I.kept (zxm (k:=0) hk),rfl,q⟩
noncomputable def two(x y:Str)(t u:Tok):Array Zgi:=#[.str x t,.str y u]
theorem zqt{x y:Str}{t u:Tok}:∀(i:Nat) (v:Zgi),Ak (two x y t u) v-> ∃k,v= .str (if i=0 then x else y) k
 | 0,v,h=>⟨t,by simp[two] at h;simp[h.symm]⟩
 | 1,v,h=>⟨u,by simp[two] at h;simp[h.symm]⟩
 | i+2,v,h=>by simp[two] at h
theorem zln{x y:Str}{t u:Tok}{Q:Zgi->Ah}(hh:A.handled=none)
  (h:∀h' tk,zg1 s.heap h'->Q (if y.cps.toList<x.cps.toList then .str y u else .str x t) { s with heap:=h',toks:=tk }):An w A (call (.builtin "min") [.str x t,.str y u]) Q E s:=by
 have hT:(BD "tuple" (.seq (two x y t u))).IsTuple s.heap.objs.size (two x y t u):=⟨_,Zgx _ rfl,rfl,0,rfl⟩
 have hsz:(BD "tuple" (.seq (two x y t u))).objs.size=AR 1:=Zhj ..
 refine call_min_two (Zqf hT ?_)
 refine⟨_,[_,s.heap.objs.size],[_],_,_,_,fun i j=>AS (BN (i=0)) (BN (j=0)),rfl,Zwv (A:=A.in1) hh _ s.heap.objs.size (Zhb (by rw[Zhj];lia)) (two x y t u),⟨(AM _ (Zgx _ rfl) rfl),hT.push _⟩,fun c hc=>?_,by simp[two],?_,fun v h' tk hP hk=>?_⟩
 .show c<((s.heap.push _).push _).objs.size
  rw[Zhj,Zhj]
  simp only[Zgp,Zhf,or_false] at hc
  rcases hc with rfl | rfl
  .rw[Zhj];exact Zi1 _
  .exact Zkq (Zi1 _)
 .intro i j vi vj s' Q' E' hi hj hq
  obtain⟨k1,rfl⟩:=zqt i vi hi
  obtain⟨k2,rfl⟩:=zqt j vj hj
  exact Zwq (op:=.Lt) (Zj2 _ _ _) (Zj2 _ _ _) F.slot_str_lt F.entry_str_lt (F.args_str_lt_2 _ _) (gives_str_lt _ _ _ _) (fun e=>nomatch e) hq
 .have hold:zg1 s.heap h':=fun c o e=>by
   have h1:=Zgv e
   refine hk c o (fun hm=>?_) (Zgl _ (Zgl _ e))
   rw[Zg0.mp hm,Zhj] at h1;exact absurd (Zuq h1) (Zib _)
  have:=h h' tk hold
  have hsz2:(two x y t u).size - 1=1:=by simp[two]
  have hP':Ax (two x y t u) (Zo5 (fun i j=>AS (BN (i=0)) (BN (j=0))) 1) v:=by rw[<- hsz2];exact hP
  by_cases hyx:y.cps.toList<x.cps.toList
  .have e:Zo5 (fun i j=>AS (BN (i=0)) (BN (j=0))) 1=1:=by simp[Zo5,hyx]
   rw[e] at hP'
   rw[if_pos hyx] at this
   simp[two] at hP'
   rw[<- hP'];exact this
  .have e:Zo5 (fun i j=>AS (BN (i=0)) (BN (j=0))) 1=0:=by simp[Zo5,hyx]
   rw[e] at hP'
   rw[if_neg hyx] at this
   simp[two] at hP'
   rw[<- hP'];exact this
theorem zlc{x y:Str}{t u:Tok}{Q:Zgi->Ah}(hh:A.handled=none)
  (h:∀h' tk,zg1 s.heap h'->Q (if x.cps.toList<y.cps.toList then .str y u else .str x t) { s with heap:=h',toks:=tk }):An w A (call (.builtin "max") [.str x t,.str y u]) Q E s:=by
 have hT:(BD "tuple" (.seq (two x y t u))).IsTuple s.heap.objs.size (two x y t u):=⟨_,Zgx _ rfl,rfl,0,rfl⟩
 have hsz:(BD "tuple" (.seq (two x y t u))).objs.size=AR 1:=Zhj ..
 refine call_max_two (Zqf hT ?_)
 refine⟨_,[_,s.heap.objs.size],[_],_,_,_,fun i j=>AS (BN (j=0)) (BN (i=0)),rfl,Zwv (A:=A.in1) hh _ s.heap.objs.size (Zhb (by rw[Zhj];lia)) (two x y t u),⟨(AM _ (Zgx _ rfl) rfl),hT.push _⟩,fun c hc=>?_,by simp[two],?_,fun v h' tk hP hk=>?_⟩
 .show c<((s.heap.push _).push _).objs.size
  rw[Zhj,Zhj]
  simp only[Zgp,Zhf,or_false] at hc
  rcases hc with rfl | rfl
  .rw[Zhj];exact Zi1 _
  .exact Zkq (Zi1 _)
 .intro i j vi vj s' Q' E' hi hj hq
  obtain⟨k1,rfl⟩:=zqt i vi hi
  obtain⟨k2,rfl⟩:=zqt j vj hj
  exact Zwq (op:=.Gt) (Zj2 _ _ _) (Zj2 _ _ _) F.slot_str_gt F.entry_str_gt (F.args_str_gt_2 _ _) (gives_str_gt _ _ _ _) (fun e=>nomatch e) hq
 .have hold:zg1 s.heap h':=fun c o e=>by
   have h1:=Zgv e
   refine hk c o (fun hm=>?_) (Zgl _ (Zgl _ e))
   rw[Zg0.mp hm,Zhj] at h1;exact absurd (Zuq h1) (Zib _)
  have:=h h' tk hold
  have hsz2:(two x y t u).size - 1=1:=by simp[two]
  have hP':Ax (two x y t u) (Zo5 (fun i j=>AS (BN (j=0)) (BN (i=0))) 1) v:=by rw[<- hsz2];exact hP
  by_cases hyx:x.cps.toList<y.cps.toList
  .have e:Zo5 (fun i j=>AS (BN (j=0)) (BN (i=0))) 1=1:=by simp[Zo5,hyx]
   rw[e] at hP'
   rw[if_pos hyx] at this
   simp[two] at hP'
   rw[<- hP'];exact this
  .have e:Zo5 (fun i j=>AS (BN (j=0)) (BN (i=0))) 1=0:=by simp[Zo5,hyx]
   rw[e] at hP'
   rw[if_neg hyx] at this
   simp[two] at hP'
   rw[<- hP'];exact this
theorem zv2(hc:Ab X.calm):zdd X (.builtin "min") (fun xs H Q=>∃l m:Ac,xs=[.str (T l),.str (T m)]/\Q (.str (T (if m<l then m else l))) H):=by
 intro pins s σ H xs us Q I r h
 obtain⟨l,m,rfl,q⟩:=h
 obtain⟨u,w',rfl,⟨t,rfl⟩,⟨t',rfl⟩⟩:=zrr r
 refine zln (I.ok.hd hc) fun h' tk k=>⟨_,H,I.kept k,?_,q⟩
 rw[ze5,ze5]
 split <;> exact(AF _)
theorem zux(hc:Ab X.calm):zdd X (.builtin "max") (fun xs H Q=>∃l m:Ac,xs=[.str (T l),.str (T m)]/\Q (.str (T (if l<m then m else l))) H):=by
 intro pins s σ H xs us Q I r h
 obtain⟨l,m,rfl,q⟩:=h
 obtain⟨u,w',rfl,⟨t,rfl⟩,⟨t',rfl⟩⟩:=zrr r
 refine zlc (I.ok.hd hc) fun h' tk k=>⟨_,H,I.kept k,?_,q⟩
 rw[ze5,ze5]
 split <;> exact(AF _)
end
end L2
namespace L2
open PySem PySem.W PySem.Spec PyProof.Rows PySem.Calls
open PySem.MeetsSeq PySem.MeetsSeq2 PySem.MeetsSeq3
section
variable{K:Zgh}{G Hz L:Hp}{ss:List Sl}{t ta tb:TE}{d:D}{ds es:List D}
theorem Reps.bools{H:Hp}:∀{bs:List Bool} {vs:Ao},AB H (bs.map D.bl) vs->vs=bs.map V.bl
 | [],vs,h=>by rw[Zpz,Reps] at h;exact h
 | b::bs,vs,h=>by
  rw[Zhc,Reps] at h
  obtain⟨x,xs,rfl,h1,h2⟩:=h
  rw[h1.of_bl,h2.bools];rfl
theorem ydh{bs:List Bool}(a:EvL K G Hz L ss t (bs.map D.bl)):Ap K G L (tCB (rAll K) (zbb t tNil)) (.bl (bs.all id)):=fun F H σ Q S q =>
 a F H σ _ S fun p vs F1 H1 e1 sq r1=>⟨p,bs,rfl,by rw[r1.bools] at sq;exact sq,q _ _ _ e1 Rep.bl⟩
noncomputable def minL(l m:Ac):Ac:=if m<l then m else l
noncomputable def maxL(l m:Ac):Ac:=if l<m then m else l
theorem ych{l m:Ac}(a:A8 K G L ta l)(b:A8 K G L tb m):Ap K G L (tCB (fun xs H Q=>∃l m:Ac,xs=[.str (T l),.str (T m)]/\Q (.str (T (if m<l then m else l))) H) (zbb ta (zbb tb tNil))) (.str (minL l m)):=fun F H σ Q S q =>
 BK F H σ _ S (b F1 H1 σ _ A9 fun v2 F2 H2 e2 r2=>⟨l,m,by rw[r1.of_str,r2.of_str],q _ _ _ Bn (Rep.str (by unfold minL;split;exact r2.asc;exact r1.asc))⟩)
theorem ybv{l m:Ac}(a:A8 K G L ta l)(b:A8 K G L tb m):Ap K G L (tCB (fun xs H Q=>∃l m:Ac,xs=[.str (T l),.str (T m)]/\Q (.str (T (if l<m then m else l))) H) (zbb ta (zbb tb tNil))) (.str (maxL l m)):=fun F H σ Q S q =>
 BK F H σ _ S (b F1 H1 σ _ A9 fun v2 F2 H2 e2 r2=>⟨l,m,by rw[r1.of_str,r2.of_str],q _ _ _ Bn (Rep.str (by unfold maxL;split;exact r2.asc;exact r1.asc))⟩)
end
end L2
namespace L2
open PySem PySem.W PySem.Spec PyProof.Rows
noncomputable def slots(n:Nat)(ds:Ae):List Sl:=ds.map Sl.d++Zir (n - ds.length) .un
section
variable{K:Zgh}{H:Hp}{vs:List V}{Q:VK}{X:XK}{N:List Str}{t:TS}{pre:List D->Prop}
theorem zdp{G:Hp}{ds:Ae}(sm:Same G H)(r:AB G ds vs)(hN:vs.length<=N.length):Sat K G H G G H (start N vs) (slots N.length ds):=by
 have hl:=r.length
 have ads:∀(i:Nat) s,Ak (slots N.length ds) s->s.ads=[]:=fun i s hs=>by
  have hm:=Zgs hs
  unfold slots at hm
  rcases Zhh.mp hm with h | h
  .obtain⟨d,_,rfl⟩:=Zg4.mp h;rfl
  .rw[Zr1 h];rfl
 refine⟨Ext.refl sm,Same.refl _,?_,fun i s hs=>?_,fun i s hs=>by rw[ads i s hs];exact Zlm,fun i j s s' _ hs _ p hp=>by rw[ads i s hs] at hp;cases hp⟩
 .unfold start slots;simp;lia
 .by_cases hi:i<ds.length
  .have e:Ak (slots N.length ds) (.d ds[i]):=by
    unfold slots
    rw[Zih (by simpa using hi),Zgy,Zgg hi];rfl
   rw[e] at hs
   cases hs
   obtain⟨v,hv,rv⟩:=r.get' (Zgg hi)
   refine⟨v,?_,rv⟩
   unfold start
   rw[Zgf,Zih (by simp;lia),Zgy,hv];rfl
  .have hm:s= .un:=by
    unfold slots at hs
    rw[Zip (by simp;lia)] at hs
    exact Zr1 (Zgs hs)
   rw[hm];trivial
theorem yet{res:Ae->D}(h:SpD K pre res vs H Q X)(hN:vs.length<=N.length)(body:∀G ds,pre ds->RtD K G H Q (res ds)->Go K G H G (BL (Q .non H')) (slots N.length ds) t):t (BL (Q .non H')) (start N vs) H:=by
 obtain⟨G,ds,sm,r,hp,q⟩:=h
 exact body G ds hp (fun v F H' e r=>q v F H' e r) G H _ (zdp sm r hN)
theorem ye5{res:Ae->Ae}(h:SpO K pre res vs H Q X)(hN:vs.length<=N.length)(body:∀G ds,pre ds->RtO K G H Q (res ds)->Go K G H G (BL (Q .non H')) (slots N.length ds) t):t (BL (Q .non H')) (start N vs) H:=by
 obtain⟨G,ds,sm,r,hp,q⟩:=h
 exact body G ds hp (fun p ws F H' e h1 h2 h3 r=>q p ws F H' e h1 h2 h3 r) G H _ (zdp sm r hN)
theorem ztr{res:Ae->D}{n:Nat}(hpre:∀ds,pre ds->ds.length=n)(h:SpD K pre res vs H Q X):vs.length=n:=by
 obtain⟨G,ds,sm,r,hp,q⟩:=h
 rw[<- r.length];exact hpre ds hp
theorem zwj{res:Ae->Ae}{n:Nat}(hpre:∀ds,pre ds->ds.length=n)(h:SpO K pre res vs H Q X):vs.length=n:=by
 obtain⟨G,ds,sm,r,hp,q⟩:=h
 rw[<- r.length];exact hpre ds hp
end
section
variable{K:Zgh}{G Hz L:Hp}{ss:List Sl}{t ta tb:TE}{d:D}{ds es:List D}{i j:Int}
theorem zeo(a:Bj K G L ta i)(b:Bj K G L tb j)(h:0<j):Ap K G L (tOp (rI (fun _ j=>0<j) fun i j=>.int (i % j)) ta tb) (.int (i % j)):=zzj (C:=fun _ j=>0<j) (g:=fun i j=>i % j) a b h
theorem zed(a:Bj K G L ta i)(b:Bj K G L tb j)(h:CDiv i j):Ap K G L (tOp (rI CDiv fun i j=>.int (i / j)) ta tb) (.int (i / j)):=zzj (C:=CDiv) (g:=fun i j=>i / j) a b h
theorem yca(a:Bj K G L ta i)(b:Bj K G L tb j):Ap K G L (tOp (rI0 fun i j=>.bl (AS i j)) ta tb) (.bl (AS i j)):=zmb (g:=fun i j=>AS i j) a b
end
theorem zup(n d:Nat){a:Int}(h:0<=a):HT.sIx n d (some a)=min a.toNat n:=by
 show(if a<0 then (a+(n:Int)).toNat else min a.toNat n)=_
 rw[if_neg (by lia)]
theorem zog(m:Ae){b:Int}(h:0<=b):cutD m (some b) none=m.drop b.toNat:=by
 unfold cutD
 rw[zup _ _ h,show HT.sIx m.length m.length none=m.length from rfl,Zij (by rw[Zlo];lia)]
 by_cases hh:b.toNat<=m.length
 .rw[Zmx hh]
 .rw[Zny (by lia),Zu0,Zl7 (by lia)]
theorem zyo(m:Ae){a b:Int}(h:0<=a)(h2:a<=b):cutD m (some a) (some b)=(m.drop a.toNat).take (b.toNat - a.toNat):=by
 unfold cutD
 rw[zup _ _ h,zup _ _ (by lia)]
 by_cases h3:a.toNat<=m.length
 .rw[Zmx h3]
  by_cases h4:b.toNat<=m.length
  .rw[Zmx h4]
  .rw[Zny (by lia),Zij (by simp),Zij (by simp;lia)]
 .rw[Zl7 (as:=m) (i:=a.toNat) (by lia),Zl7 (by omega)];simp
theorem zq0{α β:Type}(xs:List α)(z:α)(p:α->Bool)(f:α->β):((Zhi xs.length).filter fun i=>p (xs.getD i z)).map (fun i=>f (xs.getD i z))=(xs.filter p).map f:=by
 have e:xs=(Zhi xs.length).map fun i=>xs.getD i z:=by
  refine Zld fun i=>?_
  rw[Zgy]
  by_cases hi:i<xs.length
  .rw[Zj8 hi,Zgg hi];simp[Zgf,hi]
  .rw[Zhu (by lia),Zhu (by simp;lia)];rfl
 conv=>rhs;rw[e]
 rw[List.filter_map,Zin]
 rfl
section
variable{K:Zgh}{G Hz L:Hp}{ss:List Sl}
theorem zp1{α:Type}(xs:List α)(enc:α->D)(p:α->Bool)(f:α->D){tl:TE}{g:TG}{tt:TT}{te:TE}{nt:Nat}{cs:Ac}(a:EvL K G Hz L ss tl (xs.map enc))(hk:GK nt g)(hc:cs.Nodup)(hz:xs.length<sizeLine)
  (hs:∀x∈xs,∃ss',Tg K G Hz L g (enc x) (lcSl nt cs ss) ss'/\EvT K G Hz L ss' tt (p x)/\(Ab (p x)->Ev K G Hz L ss' te (f x))) :
  EvO K G Hz L ss (tLC nt cs (zvu K tl) g tt te) ((xs.filter p).map f):=by
 cases xs with
 | nil =>
  have:=zis (p:=fun _=>true) (f:=fun _=>.non) (tt:=tt) (te:=te) (zq6 a) hk hc (by simpa using hz) (fun i hi=>by simp at hi)
  simpa using this
 | cons z zs =>
  have hl:((z::zs).map enc).length=(z::zs).length:=by simp
  have:=zis (p:=fun i=>p ((z::zs).getD i z)) (f:=fun i=>f ((z::zs).getD i z)) (tt:=tt) (te:=te) (zq6 a) hk hc (by rw[hl];exact hz) (fun i hi=>by
   rw[hl] at hi
   have hm:(z::zs).getD i z∈(z::zs):=by
    rw[Zgf,Zgg hi];exact Zik hi
   have e:((z::zs).map enc).getD i .non=enc ((z::zs).getD i z):=by
    rw[Zgf,Zgy,Zgf,Zgg hi];rfl
   rw[e]
   exact hs _ hm)
  rw[hl,zq0] at this
  exact this
theorem zl5:EvT K G Hz L ss zsb true:=fun F H σ Q S q=>q _ _ (Ext.refl S.ext.fh)
theorem zld{α:Type}(xs:List α)(enc:α->D)(f:α->D){tl:TE}{g:TG}{te:TE}{nt:Nat}{cs:Ac}(a:EvL K G Hz L ss tl (xs.map enc))(hk:GK nt g)(hc:cs.Nodup)(hz:xs.length<sizeLine)
  (hs:∀x∈xs,∃ss',Tg K G Hz L g (enc x) (lcSl nt cs ss) ss'/\Ev K G Hz L ss' te (f x)) :
  EvO K G Hz L ss (tLC nt cs (zvu K tl) g zsb te) (xs.map f):=by
 have:=zp1 xs enc (fun _=>true) f a hk hc hz (tt:=zsb) (te:=te) fun x hx=>by
  obtain⟨ss',h1,h2⟩:=hs x hx
  exact⟨ss',h1,zl5,fun _=>h2⟩
 rw[show xs.filter (fun _=>true)=xs from Ztg.mpr (by simp)] at this
 exact this
theorem zp5{α:Type}{z:Ac}{xs:List α}{g:α->Ac}{ta t:TE}(a:A8 K G L ta z)(b:EvL K G Hz L ss t (xs.map fun x=>D.str (g x)))(hz:((xs.map g).map Zj7).sum+xs.length*z.length<=16777216):Ap K G L (tBM K "str" (ybq K) ta (zbb t tNil)) (.str (glue z (xs.map g))):=by
 refine zo7 a ?_ (by rw[Zgn (f:=g)];exact hz)
 rw[Zin];exact b
theorem zs5{α:Type}{xs:List α}{g:α->Bool}{t:TE}(b:EvL K G Hz L ss t (xs.map fun x=>D.bl (g x))):Ap K G L (tCB (rAll K) (zbb t tNil)) (.bl (xs.all g)):=by
 have:=ydh (K:=K) (G:=G) (Hz:=Hz) (L:=L) (ss:=ss) (t:=t) (bs:=xs.map g) (by rw[Zin];exact b)
 rw[List.all_map] at this
 exact this
theorem zbv{x:Str}(ha:∀c∈x.cps.toList,c<128):Ap K G L (tC (.str x)) (.str x.cps.toList):=zau (by cases x;rfl) ha
end
theorem zp6:∀ls:AT,glue [] ls=ls.flatten
 | []=>rfl
 | [x]=>by simp[glue]
 | x::y::r=>by rw[glue,zp6 (y::r)];simp
theorem zxf{α:Type}(xs:List α)(g:α->Nat):glue [] (xs.map fun x=>[g x])=xs.map g:=by
 rw[zp6]
 induction xs with
 | nil=>rfl
 | cons x xs ih=>simp[ih]
end L2
namespace L2T
open PySem
theorem zlo(xs:Az)(hp:xs.toList.Pairwise (· < ·))(i k x y:Nat)(hik:i<k)(hx:Ak xs x)(hy:Ax xs k y):x<y:=by
 rw[<- Zg6] at hx hy
 obtain⟨hi',hx'⟩:=Zgo.mp hx
 obtain⟨hk',hy'⟩:=Zgo.mp hy
 have h:=Zi8.mp hp i k hi' hk' hik
 rw[hx',hy'] at h;exact h
theorem zyw(xs:Az)(j:Nat)(hp:xs.toList.Pairwise (· < ·)):∀(fuel lo hi:Nat),hi - lo<=fuel->lo<=hi->hi<=xs.size ->
  (∀i x,i<lo->Ak xs x->x<j)->(∀i x,hi<=i->Ak xs x->j<=x) ->
  (Zmj xs j fuel lo hi<=xs.size)/\(∀i x,i<Zmj xs j fuel lo hi->Ak xs x->x<j)/\(∀i x,Zmj xs j fuel lo hi<=i->Ak xs x->j<=x):=by
 intro fuel
 induction fuel with
 | zero =>
  intro lo hi hf hl hs h1 h2
  have:lo=hi:=by lia
  subst this
  exact⟨hs,h1,h2⟩
 | succ fuel ih =>
  intro lo hi hf hl hs h1 h2
  unfold Zmj
  by_cases hlt:lo<hi
  .rw[if_pos hlt]
   have hm:(lo+hi) / 2<xs.size:=by lia
   have hgm:Ax xs ((lo+hi) / 2) xs[(lo+hi) / 2]:=Zg7 hm
   have hgd:xs.getD ((lo+hi) / 2) j=xs[(lo+hi) / 2]:=by simp[Zlb,hm]
   have hmono:=zlo xs hp
   dsimp only
   rw[hgd]
   by_cases hc:xs[(lo+hi) / 2]<j
   .rw[if_pos hc]
    refine ih _ _ (by omega) (by lia) hs ?_ h2
    intro i x hi' hx
    by_cases he:i=(lo+hi) / 2
    .subst he;rw[hgm] at hx;cases hx;exact hc
    .have:=hmono i ((lo+hi) / 2) x _ (by lia) hx hgm;lia
   .rw[if_neg hc]
    refine ih _ _ (by omega) (by lia) (by lia) h1 ?_
    intro i x hi' hx
    by_cases he:i=(lo+hi) / 2
    .subst he;rw[hgm] at hx;cases hx;lia
    .have:=hmono ((lo+hi) / 2) i _ x (by lia) hgm hx;lia
  .rw[if_neg hlt]
   have:lo=hi:=by lia
   subst this
   exact⟨hs,h1,h2⟩
theorem zeu(xs:Az)(j:Nat)(hp:xs.toList.Pairwise (· < ·)) :
  Zhp xs j<=xs.size/\(∀i x,i<Zhp xs j->Ak xs x->x<j)/\(∀i x,Zhp xs j<=i->Ak xs x->j<=x):=by
 unfold Zhp
 exact zyw xs j hp xs.size 0 xs.size (by lia) (by lia) (by lia) (fun i x h=>by lia) (fun i x h hx=>by
  have:=(Zkb.mp hx).1;lia)
theorem zem(xs:Az)(j:Nat)(hp:xs.toList.Pairwise (· < ·)):Ax xs (Zhp xs j) j↔j∈xs.toList:=by
 obtain⟨h0,h1,h2⟩:=zeu xs j hp
 constructor
 .intro h;rw[<- Zg6] at h;exact Zgs h
 .intro h
  obtain⟨i,hi⟩:=Zht.mp h
  rw[Zg6] at hi
  rcases Zkh i (Zhp xs j) with hc | hc
  .have:=h1 i j hc hi;lia
  .have hib:=(Zkb.mp hi).1
   have hb:Zhp xs j<xs.size:=by lia
   have hg:Ax xs (Zhp xs j) xs[Zhp xs j]:=Zg7 hb
   have h3:=h2 _ _ Ay hg
   rcases Zkh (Zhp xs j) i with hd | hd
   .have:=zlo xs hp _ _ _ _ hd hg hi
    lia
   .have:i=Zhp xs j:=by lia
    rw[<- this];exact hi
theorem ziv(xs:Az)(j:Nat)(hp:xs.toList.Pairwise (· < ·)):Ab (Zrk xs j)↔j∈xs.toList:=by
 unfold Zrk
 rw[beq_iff_eq]
 exact zem xs j hp
theorem zxc(xs:Az)(i j:Nat)(hp:xs.toList.Pairwise (· < ·))(h:Ak xs j):Zhp xs j=i:=by
 have hm:=(zem xs j hp).mpr (by rw[<- Zg6] at h;exact Zgs h)
 rw[<- Zg6] at h hm
 obtain⟨hi,hx⟩:=Zgo.mp h
 obtain⟨hk,hy⟩:=Zgo.mp hm
 rcases Zpy (Zhp xs j) i with hc | hc | hc
 .have:=Zi8.mp hp _ _ hk hi hc;lia
 .exact hc
 .have:=Zi8.mp hp _ _ hi hk hc;lia
theorem za9{α:Type}(xs:Array α)(p:Nat)(x:α)(hp:p<=xs.size):(Zha xs p x).toList=xs.toList.take p++x::xs.toList.drop p:=by
 simp[Zha,Zlg,Zmi,Zij]
theorem zbi{α:Type}(xs:Array α)(p:Nat):(Zkr xs p).toList=xs.toList.take p++xs.toList.drop (p+1):=by
 simp[Zkr,Zlg,Zmi,Zij]
theorem zgn(xs:Az)(j:Nat)(hp:xs.toList.Pairwise (· < ·))(hj:j∉xs.toList) :
  (Zha xs (Zhp xs j) j).toList.Pairwise (· < ·):=by
 obtain⟨h0,h1,h2⟩:=zeu xs j hp
 rw[za9 _ _ _ h0,Zlh,Ztu]
 have ht:∀x∈xs.toList.take (Zhp xs j),x<j:=by
  intro x hx
  obtain⟨i,hi⟩:=Zht.mp hx
  rw[List.getElem?_take] at hi
  split at hi
  .rename_i hlt;exact h1 i x hlt (by rw[<- Zg6];exact hi)
  .cases hi
 have hd:∀x∈xs.toList.drop (Zhp xs j),j<x:=by
  intro x hx
  obtain⟨i,hi⟩:=Zht.mp hx
  rw[Zk2] at hi
  have:=h2 _ x (Zqo _ i) (by rw[<- Zg6];exact hi)
  have hne:x≠j:=fun e=>hj (e ▸ Zgs hi)
  lia
 refine⟨hp.sublist (Zpq _ _),⟨hd,hp.sublist (Zpu _ _)⟩,?_⟩
 intro x hx y hy
 rcases Zgp.mp hy with rfl | hy
 .exact ht x hx
 .have:=ht x hx;have:=hd y hy;lia
structure TOk(t:Zgm):Prop where
 pl:t.place.toList.Pairwise (· < ·)
 du:t.dummies.toList.Pairwise (· < ·)
 ple:∀j∈t.place.toList,j<=t.mask
 dle:∀j∈t.dummies.toList,j<=t.mask
 dis:∀j∈t.dummies.toList,j∉t.place.toList
 pow:∃k,t.mask+1=2 ^ (k+3)
 big:t.mask<=8191
theorem zf1{t:Zgm}(h:TOk t)(j i:Nat):t.slot j= .live i↔Ak t.place j:=by
 unfold Zt2
 dsimp only
 by_cases hc:Ax t.place (Zhp t.place j) j
 .rw[if_pos (by rw[beq_iff_eq];exact hc)]
  constructor
  .intro he;cases he;exact hc
  .intro hi;rw[zxc _ _ _ h.pl hi]
 .rw[if_neg (by rw[beq_iff_eq];exact hc)]
  constructor
  .intro he;split at he <;> cases he
  .intro hi;exact absurd ((zem _ _ h.pl).mpr (by rw[<- Zg6] at hi;exact Zgs hi)) hc
theorem zf6{t:Zgm}(h:TOk t)(j:Nat):t.slot j= .dummy↔j∈t.dummies.toList:=by
 unfold Zt2
 dsimp only
 by_cases hc:Ax t.place (Zhp t.place j) j
 .rw[if_pos (by rw[beq_iff_eq];exact hc)]
  constructor
  .intro he;cases he
  .intro hi;exact absurd ((zem _ _ h.pl).mp hc) (h.dis j hi)
 .rw[if_neg (by rw[beq_iff_eq];exact hc)]
  by_cases hd:Ab (Zrk t.dummies j)
  .rw[if_pos hd];exact⟨fun _=>(ziv _ _ h.du).mp hd,fun _=>rfl⟩
  .rw[if_neg hd];exact⟨fun he=>(by cases he),fun he=>absurd ((ziv _ _ h.du).mpr he) hd⟩
theorem zcw{t:Zgm}(h:TOk t)(j:Nat):t.slot j= .empty↔(j∉t.place.toList/\j∉t.dummies.toList):=by
 constructor
 .intro he
  refine⟨fun hm=>?_,fun hm=>?_⟩
  .obtain⟨i,hi⟩:=Zht.mp hm
   rw[Zg6] at hi
   rw[(zf1 h j i).mpr hi] at he;cases he
  .rw[(zf6 h j).mpr hm] at he;cases he
 .rintro⟨h1,h2⟩
  cases hs:t.slot j with
  | empty=>rfl
  | dummy=>exact absurd ((zf6 h j).mp hs) h2
  | live i =>
   have:=(zf1 h j i).mp hs
   rw[<- Zg6] at this
   exact absurd (Zgs this) h1
theorem zro:∀(n:Nat) (L:Ac),(∀x,x<n->x∈L)->n<=L.length:=by
 intro n
 induction n with
 | zero=>intro L _;exact Zhr _
 | succ n ih =>
  intro L h
  have hn:n∈L:=h n (by lia)
  have h1:=ih (L.erase n) (fun x hx=>(Zon (by lia)).mpr (h x (by lia)))
  have h2:=Znn hn
  have h3:0<L.length:=Znz hn
  lia
theorem zkx{t:Zgm}(h:TOk t)(hr:t.fill<=t.mask):∃e,e<=t.mask/\t.slot e= .empty:=by
 refine Zmp fun hc=>?_
 have hall:∀x,x<t.mask+1->x∈t.place.toList++t.dummies.toList:=by
  intro x hx
  refine Zmp fun hn=>hc ⟨x,by lia,(zcw h x).mpr ?_⟩
  rw[Zhh] at hn
  exact⟨fun a=>hn (.inl a),fun a=>hn (.inr a)⟩
 have:=zro _ _ hall
 simp only[Zqr,Zhl,Zhg] at this hr
 lia
noncomputable def lcg:Nat->Nat->Nat
 | 0,x=>x
 | n+1,x=>lcg n (5*x+1)
theorem zpq(m n x:Nat):lcg (m+n) x=lcg n (lcg m x):=by
 induction m generalizing x with
 | zero=>simp[lcg]
 | succ m ih=>rw[Nat.succ_add];exact ih _
theorem ybn:∀k,∃u v,∀x,lcg (2 ^ k) x=(1+2 ^ (k+2)*u)*x+2 ^ k*(2*v+1):=by
 intro k
 induction k with
 | zero=>exact⟨1,0,fun x=>by simp[lcg]⟩
 | succ k ih =>
  obtain⟨u,v,h⟩:=ih
  refine⟨u+2 ^ (k+1)*u*u,v+2 ^ k*u*(2*v+1),fun x=>?_⟩
  have e:2 ^ (k+1)=2 ^ k+2 ^ k:=by lia
  conv=>lhs;rw[e]
  rw[zpq,h,h]
  have e1:2 ^ (k+2)=4*2 ^ k:=by rw[Ziz,Ziz];lia
  have e2:2 ^ (k+1+2)=8*2 ^ k:=by rw[Ziz,Ziz,Ziz];lia
  rw[e1,e2,e]
  generalize 2 ^ k=a
  grind
theorem ycb:∀k x e,∃s,s<2 ^ k/\lcg s x % 2 ^ k=e % 2 ^ k:=by
 intro k
 induction k with
 | zero=>intro x e;exact⟨0,by simp,by simp[Nat.mod_one]⟩
 | succ k ih =>
  intro x e
  obtain⟨s,hs,he⟩:=ih x e
  have e2:2 ^ (k+1)=2*2 ^ k:=by lia
  have hpos:0<2 ^ k:=Zvq k
  by_cases hc:lcg s x % 2 ^ (k+1)=e % 2 ^ (k+1)
  .exact⟨s,by lia,hc⟩
  .refine⟨s+2 ^ k,by lia,?_⟩
   rw[zpq]
   obtain⟨u,v,h⟩:=ybn k
   rw[h]
   generalize lcg s x=y at *
   have h3:(1+2 ^ (k+2)*u)*y+2 ^ k*(2*v+1)=y+2 ^ k+2 ^ (k+1)*(2*u*y+v):=by
    have e1:2 ^ (k+2)=4*2 ^ k:=by rw[Ziz,Ziz];lia
    rw[e1,e2];generalize 2 ^ k=a;grind
   rw[h3,Zr0,e2]
   rw[e2] at hc
   generalize ha:2 ^ k=a at *
   -- y ≡ e mod a,not mod 2a
   have hy:=Zq9 y a
   have hE:=Zq9 e a
   rw[he] at hy
   generalize y / a=p at *
   generalize e / a=q at *
   generalize hr:e % a=r at *
   have hra:r<a:=by rw[<- hr];exact Znr _ hpos
   subst hy
   have h5:∀z,(r+a*z) % (2*a)=if z % 2=0 then r else r+a:=by
    intro z
    have hz:=Zq9 z 2
    have h6:r+a*z=r+a*(z % 2)+(2*a)*(z / 2):=by
     conv=>lhs;rw[<- hz]
     generalize z % 2=z1;generalize z / 2=z2;grind
    rw[h6,Zr0]
    rcases Zrn z with h7 | h7
    .rw[h7,if_pos rfl];simp;exact Znx (by lia)
    .rw[h7,if_neg (by lia)];simp;exact Znx (by lia)
   have h7:r+a*p+a=r+a*(p+1):=by grind
   rw[<- hE] at hc ⊢
   rw[h7,h5,h5]
   rw[h5,h5] at hc
   by_cases hp2:p % 2=0 <;> by_cases hq2:q % 2=0 <;> simp only[hp2,hq2,if_true,if_false] at hc <;>
    (have:(p+1) % 2=0\/(p+1) % 2=1:=Zrn _) <;> grind
end L2T
namespace L2T
open PySem SetTable
noncomputable def advM(mask:Nat)(p:Probe):Probe :=
 if p.more>0 then { p with j:=p.j+1,more:=p.more - 1 } else
 let (i,perturb):=leap mask p.i p.perturb
 { p with j:=i,more:=runEnd mask i - i,i,perturb }
theorem zdn(t:Zgm)(p:Probe):t.advance p=advM t.mask p:=rfl
noncomputable def stM(mask i perturb:Nat):Probe:={ j:=i,more:=runEnd mask i - i,i,perturb,dummy:=none }
noncomputable def prM(mask:Nat)(h:Int):Nat->Probe
 | 0=>stM mask (bits h % (mask+1)) (bits h)
 | n+1=>advM mask (prM mask h n)
noncomputable def posM(mask:Nat)(h:Int)(n:Nat):Nat:=(prM mask h n).j
noncomputable def lpM(mask:Nat)(h:Int):Nat->Nat×Nat
 | 0=>(bits h % (mask+1),bits h)
 | m+1=>leap mask (Bb h m).1 (Bb h m).2
noncomputable def lpS(mask:Nat)(h:Int)(m:Nat):Probe:=stM mask (Bb h m).1 (Bb h m).2
theorem yb6(mask:Nat):∀(r:Nat) (p:Probe) (F:Nat->Probe),(∀n,F (n+1)=advM mask (F n))->F 0=p->r<=p.more->F r={ p with j:=p.j+r,more:=p.more - r }:=by
 intro r
 induction r with
 | zero=>intro p F hF h0 hr;rw[h0];rfl
 | succ r ih =>
  intro p F hF h0 hr
  rw[hF,ih p F hF h0 (by lia)]
  unfold advM
  rw[if_pos (by show p.more - r>0;lia)]
  show({ p with j:=p.j+r+1,more:=p.more - r - 1 }:Probe)=_
  congr 1
theorem zv9(mask i:Nat):runEnd mask i - i<=9:=by unfold runEnd;split <;> lia
theorem zwn(mask:Nat)(h:Int)(n m:Nat)(hs:prM mask h n=lpS mask h m) :
  prM mask h (n+(runEnd mask (Bb h m).1 - (Bb h m).1)+1)=lpS mask h (m+1) /\
  ∀r,r<=runEnd mask (Bb h m).1 - (Bb h m).1->posM mask h (n+r)=(Bb h m).1+r:=by
 have hrun:=fun r hr=>yb6 mask r (lpS mask h m) (fun k=>prM mask h (n+k)) (fun k=>rfl) hs hr
 refine⟨?_,fun r hr=>?_⟩
 .show advM mask (prM mask h (n+(runEnd mask (Bb h m).1 - (Bb h m).1)))=_
  rw[hrun (runEnd mask (Bb h m).1 - (Bb h m).1) Ay]
  unfold advM
  rw[if_neg (by show ¬ (lpS mask h m).more - (runEnd mask (Bb h m).1 - (Bb h m).1)>0;show ¬ (runEnd mask (Bb h m).1 - (Bb h m).1) - (runEnd mask (Bb h m).1 - (Bb h m).1)>0;lia)]
  rfl
 .unfold posM
  rw[hrun r hr];rfl
theorem yas(mask:Nat)(h:Int):∀m,∃n,n<=10*m/\prM mask h n=lpS mask h m:=by
 intro m
 induction m with
 | zero=>exact⟨0,by lia,rfl⟩
 | succ m ih =>
  obtain⟨n,hn,he⟩:=ih
  have:=zv9 mask (Bb h m).1
  exact(AD (by lia) (zwn mask h n m he).1)
theorem ybx(h:Int):bits h<2 ^ 64:=by
 unfold bits
 have:h % (2 ^ 64:Int)<2 ^ 64:=Zhm _ (by decide)
 lia
theorem ydz(mask:Nat)(h:Int):∀m,(Bb h m).2=bits h / 32 ^ m:=by
 intro m
 induction m with
 | zero=>simp[lpM]
 | succ m ih=>show(Bb h m).2 / 32=_;rw[ih,Nat.div_div_eq_div_mul,Ziz]
theorem yaz(mask:Nat)(h:Int)(m:Nat)(hm:13<=m):(Bb h m).2=0:=by
 rw[ydz]
 have h1:=ybx h
 have h2:32 ^ 13<=32 ^ m:=Nat.pow_le_pow_right (by decide) hm
 exact Nat.div_eq_of_lt (by have:(32:Nat) ^ 13=2 ^ 65:=(by decide);lia)
theorem yf6(mask:Nat)(h:Int)(m:Nat):(Bb h m).1<mask+1:=by
 cases m with
 | zero=>exact Znr _ (by lia)
 | succ m=>exact Znr _ (by lia)
theorem yc4(mask:Nat)(h:Int):∀s,(Bb h (13+s)).1=lcg s (Bb h 13).1 % (mask+1):=by
 intro s
 induction s with
 | zero=>exact(Znx (yf6 mask h 13)).symm
 | succ s ih =>
  show((Bb h (13+s)).1*5+1+(Bb h (13+s)).2 / 32) % (mask+1)=_
  rw[yaz mask h (13+s) (by lia),ih,zpq]
  show _=(5*lcg s (Bb h 13).1+1) % (mask+1)
  generalize lcg s (lpM mask h 13).1=y
  simp[Nat.add_mod,Nat.mul_mod,Zx2]
theorem zzm(mask k:Nat)(hk:mask+1=2 ^ k)(h:Int)(e:Nat)(he:e<=mask):∃m,m<=13+mask/\(Bb h m).1=e:=by
 obtain⟨s,hs,hl⟩:=ycb k (Bb h 13).1 e
 refine⟨13+s,by lia,?_⟩
 rw[yc4,hk,hl,<- hk]
 exact Znx (by lia)
theorem ztm(mask k:Nat)(hk:mask+1=2 ^ k)(h:Int)(e:Nat)(he:e<=mask):∃n,n<10*turns mask/\posM mask h n=e:=by
 obtain⟨m,hm,hl⟩:=zzm mask k hk h e he
 obtain⟨n,hn,hp⟩:=yas mask h m
 refine⟨n,by unfold turns;lia,?_⟩
 unfold posM;rw[hp];exact hl
noncomputable def zpb(p q:Probe):Prop:=p.j=q.j/\p.more=q.more/\p.i=q.i/\p.perturb=q.perturb
theorem zls(mask:Nat){p q:Probe}(h:zpb p q):zpb (advM mask p) (advM mask q):=by
 obtain⟨h1,h2,h3,h4⟩:=h
 unfold advM
 rw[h2,h3,h4,h1]
 split
 .exact(AM rfl rfl rfl)
 .exact(AM rfl rfl rfl)
theorem zi1(mask:Nat)(p:Probe):(advM mask p).dummy=p.dummy:=by
 unfold advM;split <;> rfl
theorem zqz (t : Zgm) (hashAt : Nat -> Int) (h : Int) : ∀ (fuel : Nat) (p : Probe) (n : Nat), zpb p (prM t.mask h n) ->
    (∃N,n<=N/\N<n+fuel/\t.slot (Bw h N)= .empty) ->
    ∃m,n<=m/\(∀q,n<=q->q<m->t.slot (Bw h q) ≠ .empty /\ ∀i,t.slot (Bw h q)= .live i->hashAt i≠h) /\
      ∃d,(d=p.dummy \/ ∃q,n<=q/\q<m/\Aa d (Bw h q)/\t.slot (Bw h q)= .dummy) /\
      ((t.slot (Bw h m)= .empty/\Aa (probe.go t hashAt h fuel p) (.empty (Bw h m) d)) \/
       (∃i nx,t.slot (Bw h m)= .live i/\hashAt i=h/\Aa (probe.go t hashAt h fuel p) (.candidate (Bw h m) i nx)/\zpb nx (prM t.mask h (m+1))/\nx.dummy=d)):=by
  intro fuel
  induction fuel with
  | zero=>rintro p n hs ⟨N,h1,h2,_⟩;omega
  | succ fuel ih =>
    rintro p n hs ⟨N,h1,h2,h3⟩
    have hj:p.j=Bw h n:=hs.1
    unfold probe.go
    rw[hj]
    cases hsl:t.slot (posM t.mask h n) with
    | empty =>
      exact⟨n,Ay,fun q a b=>by lia,p.dummy,Be,.inl (AF hsl)⟩
    | dummy =>
      have hN:N≠n:=fun e=>by subst e;rw[hsl] at h3;cases h3
      have hs':zpb (t.advance { p with dummy:=some (Bw h n) }) (prM t.mask h (n+1)):=by
        rw[zdn];exact zls _ (p:={ p with dummy:=some (Bw h n) }) ⟨hs.1,hs.2.1,hs.2.2.1,hs.2.2.2⟩
      obtain⟨m,hm,hq,d,hd,hr⟩:=ih _ (n+1) hs' ⟨N,by lia,by lia,h3⟩
      refine⟨m,by lia,?_,d,?_,?_⟩
      · intro q a b
        rcases Zpl a with e | e
        · subst e;exact⟨(by rw[hsl];exact fun x=>(by cases x)),fun i hi=>by rw[hsl] at hi;cases hi⟩
        · exact hq q e b
      · rcases hd with hd | ⟨q,a,b,c,e⟩
        · refine .inr ⟨n,Ay,by lia,?_,hsl⟩
          rw[hd,zdn,zi1]
        · exact .inr ⟨q,by lia,b,c,e⟩
      · rw[hj] at hr;exact hr
    | live i =>
      dsimp only
      by_cases hh:hashAt i=h
      · refine⟨n,Ay,fun q a b=>by lia,p.dummy,Be,.inr ⟨i,t.advance p,hsl,hh,?_,?_,?_⟩⟩
        · rw[if_pos (by rw[hh];exact beq_self_eq_true h)]
        · rw[zdn];exact zls _ hs
        · rw[zdn,zi1]
      · have hN:N≠n:=fun e=>by subst e;rw[hsl] at h3;cases h3
        obtain⟨m,hm,hq,d,hd,hr⟩:=ih (t.advance p) (n+1) (by rw[zdn];exact zls _ hs) ⟨N,by lia,by lia,h3⟩
        refine⟨m,by lia,?_,d,?_,?_⟩
        · intro q a b
          rcases Zpl a with e | e
          · subst e;exact⟨(by rw[hsl];exact fun x=>(by cases x)),fun i' hi=>by rw[hsl] at hi;cases hi;exact hh⟩
          · exact hq q e b
        · rcases hd with hd | ⟨q,a,b,c,e⟩
          · exact .inl (by rw[hd,zdn,zi1])
          · exact .inr ⟨q,by lia,b,c,e⟩
        · rw[if_neg (by rw[beq_iff_eq];exact hh)];exact hr
noncomputable def zl0(t:Zgm)(h:Int)(j:Nat):Prop:=∃n,Bw h n=j /\ ∀m,m<n->t.slot (Bw h m) ≠ .empty
theorem zkw(mask k:Nat)(hk:mask+1=2 ^ k)(h:Int):∀n,posM mask h n<=mask:=by
 have key:∀n,(prM mask h n).j+(prM mask h n).more<=mask:=by
  intro n
  have hst:∀i p,i<mask+1->(stM mask i p).j+(stM mask i p).more<=mask:=by
   intro i p hi;show i+(runEnd mask i - i)<=mask;unfold runEnd;split <;> lia
  induction n with
  | zero=>exact hst _ _ (Znr _ (by lia))
  | succ n ih =>
   show(advM mask (prM mask h n)).j+(advM mask (prM mask h n)).more<=mask
   unfold advM
   split
   .show(prM mask h n).j+1+((prM mask h n).more - 1)<=mask;lia
   .exact hst _ (leap mask (prM mask h n).i (prM mask h n).perturb).2 (Znr _ (by lia))
 intro n
 have:=key n
 unfold posM;lia
structure SOk{α:Type}(t:Zgm)(es:List (Int×α)):Prop where
 ok:TOk t
 room:t.fill*5<t.mask*3
 size:t.place.size=es.length
 reach:∀c∈t.place.toList.zip es,zl0 t c.2.1 c.1
theorem zw3(mask:Nat)(owner:Array (Option Nat))(h:Int):∀(fuel m n:Nat),prM mask h n=lpS mask h m ->
  (∀q,q<n->owner.getD (posM mask h q) (some 0)≠none)->(∃M,m<=M/\M<m+fuel/\owner.getD (Bb h M).1 (some 0)=none) ->
  ∃j n',Aa (layClean.free mask owner fuel (Bb h m).1 (Bb h m).2) j/\posM mask h n'=j/\owner.getD j (some 0)=none /\ ∀q,q<n'->owner.getD (posM mask h q) (some 0)≠none:=by
 intro fuel
 induction fuel with
 | zero=>rintro m n hs hq ⟨M,a,b,c⟩;omega
 | succ fuel ih =>
  rintro m n hs hq ⟨M,a,b,c⟩
  obtain⟨hnx,hrun⟩:=zwn mask h n m hs
  unfold layClean.free
  cases hf:(Zhi (runEnd mask (lpM mask h m).1+1 - (lpM mask h m).1)).find? (fun k=>(owner.getD ((lpM mask h m).1+k) (some 0)).isNone) with
  | some k =>
   obtain⟨h1,h2,h3⟩:=List.find?_range_eq_some.mp hf
   rw[Zic] at h2
   dsimp only
   refine⟨_,n+k,rfl,hrun k (by lia),by simpa using h1,?_⟩
   intro q hqq
   rcases Zkh q n with hl | hl
   .exact hq q hl
   .have:=h3 (q - n) (by lia)
    have e:=hrun (q - n) (by omega)
    rw[show n+(q - n)=q by lia] at e
    rw[e]
    intro hc;rw[hc] at this;simp at this
  | none =>
   rw[Ztv] at hf
   have hocc:∀k,k<=runEnd mask (Bb h m).1 - (Bb h m).1->owner.getD ((Bb h m).1+k) (some 0)≠none:=by
    intro k hk hc
    have hle:(Bb h m).1<=runEnd mask (Bb h m).1:=by unfold runEnd;split <;> lia
    exact hf k (Zic.mpr (by lia)) (by rw[hc];rfl)
   have hM:M≠m:=fun e=>by subst e;exact hocc 0 (Zhr _) c
   dsimp only
   refine ih (m+1) _ hnx ?_ ⟨M,by lia,by lia,c⟩
   intro q hqq
   rcases Zkh q n with hl | hl
   .exact hq q hl
   .have e:=hrun (q - n) (by lia)
    rw[show n+(q - n)=q by lia] at e
    rw[e]
    exact hocc _ (by lia)
theorem zq3{α β:Type}{f g:α->Option β}:∀l:List α,(∀x∈l,f x=g x)->l.filterMap f=l.filterMap g:=by
 intro l
 induction l with
 | nil=>intro _;rfl
 | cons x l ih=>intro h;simp only[Zkt,h x (.head _),ih (fun y hy=>h y (.tail _ hy))]
theorem zzg{α:Type}:∀l:List α,(Zhi l.length).filterMap (fun i=>l[i]?)=l:=by
 intro l
 induction l with
 | nil=>rfl
 | cons x l ih =>
  rw[Zg5,List.range_succ_eq_map,Ziy (b:=x) (by rfl),Ztx]
  congr 1
noncomputable def zez(mask:Nat)(owner:Array (Option Nat)):Ai Nat Nat:=(Zhi (mask+1)).filterMap fun j=>(owner.getD j none).map (j,·)
theorem yel{α β:Type}[DecidableEq α](f f':α->Option β)(x:α)(v:β)(h0:f x=none)(h1:Aa (f' x) v)(h2:∀y,y≠x->f' y=f y) :
  ∀l:List α,l.Nodup->x∈l->(l.filterMap f').Perm (v::l.filterMap f):=by
 intro l
 induction l with
 | nil=>intro _ h;cases h
 | cons y l ih =>
  intro hn hx
  rw[Zid] at hn
  by_cases he:y=x
  .subst he
   rw[Ziy h1,Zlt h0]
   have:l.filterMap f'=l.filterMap f:=by
    refine zq3 _ fun z hz=>h2 z (fun e=>hn.1 (e ▸ hz))
   rw[this]
  .have hx':x∈l:=by rcases Zgp.mp hx with e | e;exact absurd e.symm he;exact e
   have hi:=ih hn.2 hx'
   cases hf:f y with
   | none=>rw[Zlt (by rw[h2 y he];exact hf),Zlt hf];exact hi
   | some b =>
    rw[Ziy (by rw[h2 y he];exact hf),Ziy hf]
    exact(hi.cons b).trans (Zp0 _ _ _)
theorem ydq{α β:Type}(f:α->Option β):∀l:List α,(∀x∈l,f x≠none)->(l.filterMap f).length=l.length:=by
 intro l
 induction l with
 | nil=>intro _;rfl
 | cons x l ih =>
  intro h
  cases hf:f x with
  | none=>exact absurd hf (h x (.head _))
  | some b=>rw[Ziy hf,Zg5,Zg5,ih (fun y hy=>h y (.tail _ hy))]
structure LInv(mask:Nat)(hs:List Int)(owner:Array (Option Nat)):Prop where
 size:owner.size=mask+1
 perm:((zez mask owner).map (·.2)).Perm (Zhi hs.length)
 reach:∀j i,owner.getD j none=some i-> ∃h,hs[i]? = some h /\ ∃n,posM mask h n=j /\ ∀q,q<n->owner.getD (posM mask h q) (some 0)≠none
theorem zih(owner:Array (Option Nat))(j k x:Nat)(d:Option Nat)(hj:j<owner.size):(owner.setIfInBounds j (some k)).getD x d=if x=j then some k else owner.getD x d:=by
 simp only[Zia,Zqe]
 by_cases h:x=j
 .subst h;simp[hj]
 .rw[if_neg (fun e=>h e.symm),if_neg h]
theorem zll(owner:Array (Option Nat))(j:Nat)(hj:j<owner.size):owner.getD j (some 0)=owner.getD j none:=by
 simp[Zlb,hj]
theorem zx7(mask k:Nat)(hk:mask+1=2 ^ k)(hs:List Int)(owner:Array (Option Nat))(h:Int)(inv:LInv mask hs owner)(hroom:hs.length<mask+1) :
  ∃j,Aa (layClean.free mask owner (turns mask) (bits h % (mask+1)) (bits h)) j/\LInv mask (hs++[h]) (owner.setIfInBounds j (some hs.length)):=by
 have hex:∃e,e<=mask/\owner.getD e none=none:=by
  refine Zmp fun hc=>?_
  have hl:=ydq (fun j=>(owner.getD j none).map (fun i=>(j,i))) (Zhi (mask+1)) (fun x hx hn=>hc ⟨x,by have:=Zic.mp hx;lia,by simpa using hn⟩)
  have hp:=inv.perm.length_eq
  rw[Zgn] at hp
  unfold zez at hp
  rw[hl] at hp
  simp at hp;lia
 obtain⟨e,he,hn⟩:=hex
 obtain⟨M,hM,hMe⟩:=zzm mask k hk h e he
 obtain⟨j,n',hf,hp,hj,hq⟩:=zw3 mask owner h (turns mask) 0 0 rfl (fun q hq=>by lia)
  ⟨M,by lia,by unfold turns;lia,by rw[hMe,zll _ _ (by rw[inv.size];lia)];exact hn⟩
 have hjm:j<=mask:=by rw[<- hp];exact zkw mask k hk h n'
 have hjs:j<owner.size:=by rw[inv.size];lia
 refine⟨j,hf,?_,?_,?_⟩
 .simp[inv.size]
 .have hone:(zez mask (owner.setIfInBounds j (some hs.length))).Perm ((j,hs.length)::zez mask owner):=by
   unfold zez
   refine yel _ _ j (j,hs.length) ?_ ?_ ?_ _ List.nodup_range (Zic.mpr (by lia))
   .rw[<- zll _ _ hjs,hj];rfl
   .rw[zih _ _ _ _ _ hjs,if_pos rfl];rfl
   .intro y hy;rw[zih _ _ _ _ _ hjs,if_neg hy]
  refine(hone.map _).trans ?_
  rw[Zhc,Zhl,Zsu,Zqt]
  exact((Zzr _ inv.perm)).trans (Zmg (l₁:=[hs.length]))
 .intro x i hx
  rw[zih _ _ _ _ _ hjs] at hx
  have hne:∀y,owner.getD y (some 0)≠none->(owner.setIfInBounds j (some hs.length)).getD y (some 0)≠none:=by
   intro y hy;rw[zih _ _ _ _ _ hjs];split
   .exact fun c=>by cases c
   .exact hy
  by_cases hxj:x=j
  .rw[if_pos hxj] at hx
   cases hx
   refine⟨h,by simp,n',by rw[hp,hxj],fun q hqq=>hne _ (hq q hqq)⟩
  .rw[if_neg hxj] at hx
   obtain⟨h',e1,n,e2,e3⟩:=inv.reach x i hx
   refine⟨h',?_,n,e2,fun q hqq=>hne _ (e3 q hqq)⟩
   rw[Zih (Zgo.mp e1).1];exact e1
theorem zy2(mask k:Nat)(hk:mask+1=2 ^ k):∀(hs done:List Int) (owner:Array (Option Nat)),LInv mask done owner->(done++hs).length<=mask ->
  ∃owner',Aa (hs.foldl (fun acc h=>do
    let (owner,k) <- acc
    let j <- layClean.free mask owner (turns mask) (bits h % (mask+1)) (bits h)
    pure (owner.setIfInBounds j (some k),k+1)) (some (owner,done.length))) (owner',(done++hs).length)/\LInv mask (done++hs) owner':=by
 intro hs
 induction hs with
 | nil=>intro done owner inv _;exact⟨owner,by simp,by simpa using inv⟩
 | cons h hs ih =>
  intro done owner inv hl
  obtain⟨j,hf,inv'⟩:=zx7 mask k hk done owner h inv (by simp at hl;lia)
  obtain⟨ow,h1,h2⟩:=ih (done++[h]) _ inv' (by simpa using hl)
  refine⟨ow,?_,by simpa using h2⟩
  rw[Zqx]
  simp only[Zsq,Ztt,hf,Zt4]
  rw[show(done++h::hs).length=(done++[h]++hs).length by simp,<- h1]
  simp
theorem zw1(mask k:Nat)(hk:mask+1=2 ^ k)(hs:Array Int)(hl:hs.size<=mask):∃owner,Aa (layClean mask hs) owner/\LInv mask hs.toList owner:=by
 obtain⟨ow,h1,h2⟩:=zy2 mask k hk hs.toList [] (Zu8 (mask+1) none) ⟨by simp,by
   have:zez mask (Zu8 (mask+1) none)=[]:=by
    unfold zez
    rw[List.filterMap_eq_nil_iff]
    intro x hx
    simp[Zia,Zru]
    split <;> simp
   rw[this];simp,fun j i h=>by
   simp[Zia,Zru] at h
   split at h <;> simp at h⟩ (by simpa using hl)
 refine⟨ow,?_,by simpa using h2⟩
 unfold layClean
 rw[<- Array.foldl_toList]
 rw[show(([]:List Int).length)=0 from rfl] at h1
 rw[h1];rfl
theorem zsy(g:Nat->Option Nat):∀l:Ac,((l.filterMap fun j=>(g j).map (j,·)).map (·.1)).Sublist l:=by
 intro l
 induction l with
 | nil=>exact Zx5
 | cons x l ih =>
  cases hg:g x with
  | none=>rw[Zlt (by rw[hg];rfl)];exact ih.cons x
  | some v=>rw[Ziy (b:=(x,v)) (by rw[hg];rfl)];exact ih.cons_cons x
theorem yff{α:Type}(g:Nat->Option α):∀L:Ai Nat Nat,(∀p∈L,g p.2≠none)-> ∀c∈(L.map (·.1)).zip ((L.map (·.2)).filterMap g),∃p∈L,c.1=p.1/\Aa (g p.2) c.2:=by
 intro L
 induction L with
 | nil=>intro _ c hc;simp at hc
 | cons p L ih =>
  intro h c hc
  cases hg:g p.2 with
  | none=>exact absurd hg (h p (.head _))
  | some v =>
   rw[Zhc,Zhc,Ziy hg,Zpc] at hc
   rcases Zgp.mp hc with e | e
   .exact⟨p,.head _,by rw[e],by rw[e];exact hg⟩
   .obtain⟨p',h1,h2⟩:=ih (fun q hq=>h q (.tail _ hq)) c e
    exact⟨p',.tail _ h1,h2⟩
theorem zuz{α:Type}(mask k:Nat)(hk:mask+1=2 ^ (k+3))(hb:mask<=8191)(finger moves:Nat)(led plain:Bool)(es:BW Int α)(hroom:es.size*5<mask*3) :
  ∃t order,Aa (laid mask finger moves led plain (es.map (·.1))) (t,order)/\t.mask=mask/\t.dummies= #[]/\t.led=led/\t.plain=plain/\t.finger=finger/\t.moves=moves /\
   order.toList.Perm (Zhi es.size)/\(order.filterMap (es[·]?)).toList.Perm es.toList/\(order.filterMap (es[·]?)).size=es.size/\SOk t (order.filterMap (es[·]?)).toList:=by
 obtain⟨ow,h1,inv⟩:=zw1 mask _ hk (es.map (·.1)) (by simp;lia)
 have hlen:(es.map (·.1)).toList.length=es.size:=by simp
 have hperm:=inv.perm
 rw[hlen] at hperm
 unfold laid
 rw[h1]
 have hL:(Zhi (mask+1)).filterMap (fun j=>(ow.getD j none).map (j,·))=zez mask ow:=rfl
 simp only[Zsq,Ztt,Zt4,hL]
 refine⟨_,_,rfl,rfl,rfl,rfl,rfl,rfl,rfl,hperm,?_⟩
 have hlist:((((zez mask ow).map (·.2)).toArray).filterMap (es[·]?)).toList=((zez mask ow).map (·.2)).filterMap (es[·]?):=by simp
 have hp2:((((zez mask ow).map (·.2)).toArray).filterMap (es[·]?)).toList.Perm es.toList:=by
  rw[hlist]
  refine(hperm.filterMap _).trans ?_
  have:(Zhi es.size).filterMap (fun i=>es[i]?)=es.toList:=by
   have h:=zzg es.toList
   rw[Zhg] at h
   rw[<- h]
   refine zq3 _ fun x _=>(Zg6 ..).symm ▸ ?_
   simp
  rw[this]
 refine⟨hp2,?_,?_⟩
 .rw[<- Zhg,hp2.length_eq,Zhg]
 .have hsub:=zsy (fun j=>ow.getD j none) (Zhi (mask+1))
  have htok:TOk { mask:=mask,place:=((zez mask ow).map (·.1)).toArray,dummies:=#[],finger:=finger,led:=led,moves:=moves,plain:=plain }:=by
   refine⟨?_,by simp,?_,by simp,by simp,⟨k,hk⟩,hb⟩
   .show(((zez mask ow).map (·.1)).toArray).toList.Pairwise (· < ·)
    exact Zm5 hsub List.pairwise_lt_range
   .intro j hj
    have:=hsub.subset hj
    rw[Zic] at this
    show j<=mask;lia
  have hmem:∀j,ow.getD j none≠none->j∈(zez mask ow).map (·.1):=by
   intro j hj
   have hjs:j<ow.size:=by
    refine Zva fun c=>hj ?_
    simp[Zlb,Zy7.mpr c]
   cases hg:ow.getD j none with
   | none=>exact absurd hg hj
   | some i=>exact Zg4.mpr ⟨(j,i),Zm4.mpr ⟨j,Zic.mpr (by rw[<- inv.size];exact hjs),by rw[hg];rfl⟩,rfl⟩
  have hlt:∀p∈zez mask ow,Aa (ow.getD p.1 none) p.2:=by
   intro p hp
   obtain⟨j,_,hj⟩:=Zm4.mp hp
   cases hg:ow.getD j none with
   | none=>rw[hg] at hj;cases hj
   | some i=>rw[hg] at hj;cases hj;exact hg
  have hin:∀p∈zez mask ow,p.2<es.size:=by
   intro p hp
   have:p.2∈(zez mask ow).map (·.2):=Zg4.mpr ⟨p,hp,rfl⟩
   exact Zic.mp (hperm.mem_iff.mp this)
  refine⟨htok,?_,?_,?_⟩
  .show(((zez mask ow).map (·.1)).toArray.size+0)*5<mask*3
   have:=hperm.length_eq
   simp at this ⊢
   rw[this];exact hroom
  .rw[hp2.length_eq]
   have:=hperm.length_eq
   simp at this ⊢
   exact this
  .intro c hc
   rw[hlist] at hc
   obtain⟨p,hp,e1,e2⟩:=yff (fun i=>es[i]?) (zez mask ow) (fun p hp=>by
    rw[Zg7 (hin p hp)];exact fun c=>by cases c) c hc
   obtain⟨h',a1,n,a2,a3⟩:=inv.reach p.1 p.2 (hlt p hp)
   have hh:h'=c.2.1:=by
    rw[Zp7,Zgy,Zg6,e2] at a1
    simpa using a1.symm
   subst hh
   refine⟨n,by rw[e1];exact a2,fun m hm hc=>?_⟩
   have:=(zcw htok _).mp hc
   refine this.1 (hmem _ ?_)
   have h3:=a3 m hm
   rwa [zll _ _ (by rw[inv.size];exact Nat.lt_succ_of_le (zkw mask _ hk _ _))] at h3
theorem zsg(t t':Zgm)(h1:t'.place=t.place)(h2:t'.dummies=t.dummies)(j:Nat):t'.slot j=t.slot j:=by
 unfold slot;rw[h1,h2]
theorem zf5{t t':Zgm}(hm:t'.mask=t.mask)(h:∀j,t.slot j ≠ .empty->t'.slot j ≠ .empty){x:Int}{j:Nat}(hr:zl0 t x j):zl0 t' x j:=by
 obtain⟨n,h1,h2⟩:=hr
 exact⟨n,by rw[hm];exact h1,fun m hm'=>by rw[hm];exact h _ (h2 m hm')⟩
theorem zjw{α:Type}{t t':Zgm}{es:Ai Int α}(h:SOk t es)(hm:t'.mask=t.mask)(h1:t'.place=t.place)(h2:t'.dummies=t.dummies):SOk t' es:=by
 obtain⟨⟨a1,a2,a3,a4,a5,a6,a7⟩,b,c,d⟩:=h
 refine⟨⟨by rw[h1];exact a1,by rw[h2];exact a2,by rw[h1,hm];exact a3,by rw[h2,hm];exact a4,by rw[h1,h2];exact a5,by rw[hm];exact a6,by rw[hm];exact a7⟩,?_,by rw[h1];exact c,?_⟩
 .unfold fill at *;rw[h1,h2,hm];exact b
 .rw[h1];intro x hx
  exact zf5 hm (fun j hj=>by rw[zsg t t' h1 h2];exact hj) (d x hx)
theorem znu{α:Type}(finger moves:Nat)(led:Bool):SOk (α:=α) (fresh finger moves led) []:=by
 refine⟨⟨by simp[Zkd],by simp[Zkd],by simp[Zkd],by simp[Zkd],by simp[Zkd],⟨0,by simp[Zkd]⟩,by simp[Zkd]⟩,by simp[Zkd,Zqr],by simp[Zkd],?_⟩
 intro c hc;simp at hc
theorem zoa(n:Nat):∀(fuel size:Nat),(∃k,size=2 ^ (k+3))->n<size*2 ^ fuel ->
  (∃k,sizeAbove.go n fuel size=2 ^ (k+3))/\n<sizeAbove.go n fuel size/\(sizeAbove.go n fuel size<=size\/sizeAbove.go n fuel size<=2*n):=by
 intro fuel
 induction fuel with
 | zero=>intro size hk hn;unfold sizeAbove.go;exact⟨hk,by simpa using hn,.inl Ay⟩
 | succ fuel ih =>
  intro size hk hn
  unfold sizeAbove.go
  by_cases hc:size<=n
  .rw[if_pos hc]
   obtain⟨k,hk⟩:=hk
   obtain⟨h1,h2,h3⟩:=ih (size*2) ⟨k+1,by rw[hk,Ziz,Ziz,Ziz,Ziz,Ziz,Ziz,Ziz]⟩ (by
    rw[Ziz] at hn;rw[Nat.mul_assoc,Zx2 2];exact hn)
   refine⟨h1,h2,.inr ?_⟩
   rcases h3 with h3 | h3 <;> omega
  .rw[if_neg hc]
   exact⟨hk,by lia,.inl Ay⟩
theorem zf0(n:Nat)(hn:n<=4095):(∃k,sizeAbove n - 1+1=2 ^ (k+3))/\n<=sizeAbove n - 1/\7<=sizeAbove n - 1/\sizeAbove n - 1<=8191/\sizeAbove n<=8192:=by
 obtain⟨⟨k,h1⟩,h2,h3⟩:=zoa n 64 8 ⟨0,by decide⟩ (Zt6 hn (by decide))
 have h1':sizeAbove n=2 ^ (k+3):=h1
 have h2':n<sizeAbove n:=h2
 have h3':sizeAbove n<=8\/sizeAbove n<=2*n:=h3
 have hk:8<=2 ^ (k+3):=by rw[Nat.pow_add];have:=Zvq k;lia
 refine⟨⟨k,by omega⟩,by omega,by omega,by omega,by omega⟩
theorem zi3{α:Type}(t:Zgm)(es:BW Int α)(wanted:Nat)(h1:2*es.size<=wanted)(h2:wanted<=4095) :
  ∃t' order,Aa (t.relaid (es.map (·.1)) wanted) (t',order)/\t'.dummies= #[]/\t'.mask=sizeAbove wanted - 1/\t'.led=t.led/\t'.plain=t.plain /\
   order.toList.Perm (Zhi es.size)/\(order.filterMap (es[·]?)).toList.Perm es.toList/\(order.filterMap (es[·]?)).size=es.size/\SOk t' (order.filterMap (es[·]?)).toList:=by
 obtain⟨⟨k,hk⟩,a,b,c,_⟩:=zf0 wanted h2
 obtain⟨t',order,e1,e2,e3,e4,e5,e6,e7,e8,e9,e10,e11⟩:=zuz (sizeAbove wanted - 1) k hk c t.finger (t.movedTo (sizeAbove wanted - 1)) t.led t.plain es (by lia)
 exact⟨t',order,e1,e3,e2,e4,e5,e8,e9,e10,e11⟩
theorem zna{α β:Type}:∀(p:Nat) (l:List α) (m:List β),(l.zip m).take p=(l.take p).zip (m.take p):=by
 intro p
 induction p with
 | zero=>intro l m;simp
 | succ p ih=>intro l m;cases l with
  | nil=>simp
  | cons a l=>cases m with
   | nil=>simp
   | cons b m=>simp[ih]
theorem zoh{α β:Type}:∀(p:Nat) (l:List α) (m:List β),(l.zip m).drop p=(l.drop p).zip (m.drop p):=by
 intro p
 induction p with
 | zero=>intro l m;simp
 | succ p ih=>intro l m;cases l with
  | nil=>simp
  | cons a l=>cases m with
   | nil=>simp
   | cons b m=>simp[ih]
theorem zr4{α β:Type}(p:Nat)(a:α)(b:β):∀(l:List α) (m:List β),l.length=m.length ->
  (l.take p++a::l.drop p).zip (m.take p++b::m.drop p)=(l.zip m).take p++(a,b)::(l.zip m).drop p:=by
 intro l m h
 rw[Zvb (by simp[h]),Zpc,<- zna,<- zoh]
theorem zte{α β:Type}(p:Nat):∀(l:List α) (m:List β),l.length=m.length ->
  (l.take p++l.drop (p+1)).zip (m.take p++m.drop (p+1))=(l.zip m).take p++(l.zip m).drop (p+1):=by
 intro l m h
 rw[Zvb (by simp[h]),<- zna,<- zoh]
theorem zba{α:Type}(p:Nat)(a:α)(l:List α):(l.take p++a::l.drop p).Perm (a::l):=by
 have h:(l.take p++a::l.drop p).Perm (a::(l.take p++l.drop p)):=Zus
 rw[Zjb] at h;exact h
theorem zhw(xs:Az)(i:Nat)(j:Nat)(hp:xs.toList.Pairwise (· < ·))(h:Ak xs j)(x:Nat):x∈(eraseAt xs i).toList↔x∈xs.toList/\x≠j:=by
 rw[zbi]
 rw[<- Zg6] at h
 obtain⟨hi,hx⟩:=Zgo.mp h
 have hsp:xs.toList=xs.toList.take i++j::xs.toList.drop (i+1):=by
  rw[<- hx,Zsk,Zjb]
 have hp':=hp
 rw[hsp,Zlh,Ztu] at hp'
 obtain⟨p1,⟨p2,p3⟩,p4⟩:=hp'
 rw[Zhh]
 constructor
 .rintro(h1 | h1)
  .have:=p4 x h1 j (.head _);exact⟨Zmn h1,by lia⟩
  .have:=p2 x h1;exact⟨Zom h1,by lia⟩
 .rintro⟨h1,h2⟩
  rw[hsp,Zhh] at h1
  rcases h1 with h1 | h1
  .exact .inl h1
  .rcases Zgp.mp h1 with e | e
   .exact absurd e h2
   .exact .inr e
theorem zzu{α:Type}(t:Zgm)(es:BW Int α)(h:Int)(x:α)(s:Nat)(ok:SOk t es.toList)(hs:t.slot s= .empty\/t.slot s= .dummy)(hm:s<=t.mask)(hr:zl0 t h s) :
  TOk (t.put s).1/\(t.put s).1.mask=t.mask/\(t.put s).1.place.size=(insertAt es (t.put s).2 (h,x)).size /\
  (∀c∈(t.put s).1.place.toList.zip (insertAt es (t.put s).2 (h,x)).toList,zl0 (t.put s).1 c.2.1 c.1) /\
  (t.put s).1.fill<=t.fill+1/\(t.slot s= .dummy->(t.put s).1.fill=t.fill)/\(insertAt es (t.put s).2 (h,x)).toList.Perm ((h,x)::es.toList) /\
  (t.put s).1.led=t.led/\(t.put s).1.plain=t.plain:=by
 obtain⟨⟨a1,a2,a3,a4,a5,a6,a7⟩,b,c,d⟩:=ok
 have tok:TOk t:=⟨a1,a2,a3,a4,a5,a6,a7⟩
 have hnp:s∉t.place.toList:=by
  rcases hs with hs | hs
  .exact((zcw tok s).mp hs).1
  .exact a5 s ((zf6 tok s).mp hs)
 have hb:=(zeu t.place s a1).1
 have hbe:below t.place s<=es.size:=by have:t.place.size=es.size:=(by simpa using c);lia
 have hd':∀y,y∈(if Ab (has t.dummies s) then eraseAt t.dummies (below t.dummies s) else t.dummies).toList↔y∈t.dummies.toList/\y≠s:=by
  intro y
  by_cases hh:Ab (has t.dummies s)
  .rw[if_pos hh]
   exact zhw t.dummies _ s a2 ((zem _ _ a2).mpr ((ziv _ _ a2).mp hh)) y
  .rw[if_neg hh]
   exact⟨fun hy=>⟨hy,fun e=>hh ((ziv _ _ a2).mpr (e ▸ hy))⟩,fun hy=>hy.1⟩
 have hpl:(t.put s).1.place.toList=t.place.toList.take (below t.place s)++s::t.place.toList.drop (below t.place s):=za9 _ _ _ hb
 have hmp:∀y,y∈(t.put s).1.place.toList↔y=s\/y∈t.place.toList:=by
  intro y;rw[hpl,(zba _ _ _).mem_iff,Zgp]
 have hmd:∀y,y∈(t.put s).1.dummies.toList↔y∈t.dummies.toList/\y≠s:=hd'
 have htok:TOk (t.put s).1:=by
  refine⟨zgn _ _ a1 hnp,?_,?_,?_,?_,a6,a7⟩
  .show(if Ab (has t.dummies s) then eraseAt t.dummies (below t.dummies s) else t.dummies).toList.Pairwise (· < ·)
   split
   .rw[zbi]
    refine Zm5 ?_ a2
    have:(t.dummies.toList.take (below t.dummies s)++t.dummies.toList.drop (below t.dummies s+1)).Sublist (t.dummies.toList.take (below t.dummies s)++t.dummies.toList.drop (below t.dummies s)) :=
     Zqy (Zn9 _) (by rw[<- Zor];exact Zpu _ _)
    rw[Zjb] at this;exact this
   .exact a2
  .intro j hj;rcases(hmp j).mp hj with e | e
   .rw[e];exact hm
   .exact a3 j e
  .intro j hj;exact a4 j ((hmd j).mp hj).1
  .intro j hj hc
   rcases(hmp j).mp hc with e | e
   .exact((hmd j).mp hj).2 e
   .exact a5 j ((hmd j).mp hj).1 e
 have hmono:∀j,t.slot j ≠ .empty->(t.put s).1.slot j ≠ .empty:=by
  intro j hj hc
  obtain⟨c1,c2⟩:=(zcw htok j).mp hc
  refine hj ((zcw tok j).mpr ⟨fun e=>c1 ((hmp j).mpr (.inr e)),fun e=>?_⟩)
  by_cases he:j=s
  .exact c1 ((hmp j).mpr (.inl he))
  .exact c2 ((hmd j).mpr ⟨e,he⟩)
 refine⟨htok,rfl,?_,?_,?_,?_,?_,rfl,rfl⟩
 .show(insertAt t.place (below t.place s) s).size=(insertAt es (below t.place s) (h,x)).size
  rw[<- Zhg,<- Zhg,za9 _ _ _ hb,za9 _ _ _ hbe,(zba _ _ _).length_eq,(zba _ _ _).length_eq]
  simpa using c
 .intro e he
  rw[hpl] at he
  have he':e∈(t.place.toList.take (below t.place s)++s::t.place.toList.drop (below t.place s)).zip (insertAt es (below t.place s) (h,x)).toList:=he
  rw[za9 _ _ _ hbe,zr4 _ _ _ _ _ (by simpa using c),(zba _ _ _).mem_iff,Zgp] at he'
  rcases he' with e1 | e1
  .rw[e1];exact zf5 (t:=t) (t':=(t.put s).1) rfl hmono hr
  .exact zf5 (t:=t) (t':=(t.put s).1) rfl hmono (d e e1)
 .show(insertAt t.place (below t.place s) s).size+(if Ab (has t.dummies s) then eraseAt t.dummies (below t.dummies s) else t.dummies).size<=t.fill+1
  have h1:(insertAt t.place (below t.place s) s).size=t.place.size+1:=by
   rw[<- Zhg,za9 _ _ _ hb,(zba _ _ _).length_eq];simp
  have h2:(if Ab (has t.dummies s) then eraseAt t.dummies (below t.dummies s) else t.dummies).size<=t.dummies.size:=by
   split
   .rw[<- Zhg,zbi];simp;omega
   .exact Ay
  unfold fill;lia
 .intro hdm
  show(insertAt t.place (below t.place s) s).size+(if Ab (has t.dummies s) then eraseAt t.dummies (below t.dummies s) else t.dummies).size=t.fill
  have h1:(insertAt t.place (below t.place s) s).size=t.place.size+1:=by
   rw[<- Zhg,za9 _ _ _ hb,(zba _ _ _).length_eq];simp
  have hin:=(zf6 tok s).mp hdm
  rw[if_pos ((ziv _ _ a2).mpr hin)]
  have hlt:=(Zkb.mp ((zem _ _ a2).mpr hin)).1
  have h2:(eraseAt t.dummies (below t.dummies s)).size+1=t.dummies.size:=by
   rw[<- Zhg,zbi];simp;lia
  unfold fill;lia
 .show(insertAt es (below t.place s) (h,x)).toList.Perm ((h,x)::es.toList)
  rw[za9 _ _ _ hbe];exact zba _ _ _
theorem yag{α:Type}(t:Zgm)(es:BW Int α)(i:Nat)(ok:SOk t es.toList)(hi:i<es.size):SOk (t.drop i) (eraseAt es i).toList/\(t.drop i).led=t.led/\(t.drop i).plain=t.plain:=by
 obtain⟨⟨a1,a2,a3,a4,a5,a6,a7⟩,b,c,d⟩:=ok
 have tok:TOk t:=⟨a1,a2,a3,a4,a5,a6,a7⟩
 have hsz:t.place.size=es.size:=by simpa using c
 have hip:i<t.place.size:=by lia
 have hg:Ak t.place t.place[i]:=Zg7 hip
 generalize t.place[i]=j at hg
 have hjp:j∈t.place.toList:=by rw[<- Zg6] at hg;exact Zgs hg
 have hjd:j∉t.dummies.toList:=fun e=>a5 j e hjp
 have hdr:t.drop i={ t with place:=eraseAt t.place i,dummies:=insertAt t.dummies (below t.dummies j) j }:=by unfold SetTable.drop;rw[hg]
 have hb:=(zeu t.dummies j a2).1
 have hmp:∀y,y∈(eraseAt t.place i).toList↔y∈t.place.toList/\y≠j:=zhw t.place i j a1 hg
 have hmd:∀y,y∈(insertAt t.dummies (below t.dummies j) j).toList↔y=j\/y∈t.dummies.toList:=by
  intro y;rw[za9 _ _ _ hb,(zba _ _ _).mem_iff,Zgp]
 rw[hdr]
 have htok:TOk { t with place:=eraseAt t.place i,dummies:=insertAt t.dummies (below t.dummies j) j }:=by
  refine⟨?_,zgn _ _ a2 hjd,?_,?_,?_,a6,a7⟩
  .show(eraseAt t.place i).toList.Pairwise (· < ·)
   rw[zbi]
   refine Zm5 ?_ a1
   have:(t.place.toList.take i++t.place.toList.drop (i+1)).Sublist (t.place.toList.take i++t.place.toList.drop i) :=
    Zqy (Zn9 _) (by rw[<- Zor];exact Zpu _ _)
   rw[Zjb] at this;exact this
  .intro y hy;exact a3 y ((hmp y).mp hy).1
  .intro y hy;rcases(hmd y).mp hy with e | e
   .rw[e];exact a3 j hjp
   .exact a4 y e
  .intro y hy hc
   rcases(hmd y).mp hy with e | e
   .exact((hmp y).mp hc).2 e
   .exact a5 y e ((hmp y).mp hc).1
 have hmono:∀y,t.slot y ≠ .empty->({ t with place:=eraseAt t.place i,dummies:=insertAt t.dummies (below t.dummies j) j }:Zgm).slot y ≠ .empty:=by
  intro y hy hc
  obtain⟨c1,c2⟩:=(zcw htok y).mp hc
  refine hy ((zcw tok y).mpr ⟨fun e=>?_,fun e=>c2 ((hmd y).mpr (.inr e))⟩)
  by_cases he:y=j
  .exact c2 ((hmd y).mpr (.inl he))
  .exact c1 ((hmp y).mpr ⟨e,he⟩)
 have h1:(eraseAt t.place i).size+1=t.place.size:=by
  rw[<- Zhg,zbi];simp;lia
 have h1':(eraseAt es i).size+1=es.size:=by
  rw[<- Zhg,zbi];simp;lia
 have h2:(insertAt t.dummies (below t.dummies j) j).size=t.dummies.size+1:=by
  rw[<- Zhg,za9 _ _ _ hb,(zba _ _ _).length_eq];simp
 refine(Aw ⟨htok,?_,?_,?_⟩ rfl)
 .show((eraseAt t.place i).size+(insertAt t.dummies (below t.dummies j) j).size)*5<t.mask*3
  unfold fill at b;lia
 .show(eraseAt t.place i).size=(eraseAt es i).toList.length
  rw[Zhg];lia
 .intro e he
  have he':e∈(eraseAt t.place i).toList.zip (eraseAt es i).toList:=he
  rw[zbi,zbi,zte _ _ _ (by simpa using c),Zhh] at he'
  refine zf5 (t:=t) (t':={ t with place:=eraseAt t.place i,dummies:=insertAt t.dummies (below t.dummies j) j }) rfl hmono (d e ?_)
  rcases he' with e1 | e1
  .exact Zmn e1
  .exact Zom e1
end L2T
namespace L2
open PySem PySem.Spec PyProof.Rows L2T
inductive SK where
 | one (k:Key)
 | many (ks:List Key)
 deriving DecidableEq
noncomputable def SK.flat:SK->Bool
 | .one _=>true
 | .many _=>false
section
variable(prog:Zg8)(w:Zhy)
noncomputable def SK.is(h:Heap):SK->Af Zgi
 | .one k,v=>Ab ((zar prog w).is k v)
 | .many ks,v=>∃a,v= Au/\Znb (zar prog w) h ks a
noncomputable def SK.hash:SK->Int
 | .one k=>(zar prog w).hash k
 | .many ks=>tupleKeyHash (zar prog w) ks
inductive Es(h:Heap):List SK->List (Int×Zgi)->Prop
 | nil:Es h [] []
 | cons {k:SK} {e:Int×Zgi} {ks:List SK} {es:List (Int×Zgi)}:e.1=k.hash prog w->k.is prog w h e.2->Es h ks es->Es h (k::ks) (e::es)
noncomputable def zet(h h':Heap):Prop:=∀b o,o.cls= .type "tuple" -> A0 b o->AU b o
noncomputable def led0:Bool:=! w.params.followText "set-order"
structure SetO(h:Heap)(o:Obj)(ks:List SK)(es:Array (Int×Zgi))(ep:Nat)(t:Zgm):Prop where
 ex:o.ExactSet
 data:o.data= .set es ep t
 tab:SOk t es.toList
 ent:Es prog w h ks es.toList
 nod:ks.Nodup
 small:ks.length<=1000
 led:t.led=led0 w
 kind:∃f,∀k∈ks,k.flat=f
noncomputable def SetE(h:Heap)(a:Addr)(ks:AN)(es:AA):Prop:=∃o ep t,A0 a o/\SetO prog w h o ks es ep t
end
section
variable{prog:Zg8}{w:Zhy}{h h':Heap}
theorem SK.is_mono{k:SK}{v:Zgi}(K:zet h h')(x:k.is prog w h v):k.is prog w h' v:=by
 cases k with
 | one k=>exact x
 | many ks =>
  obtain⟨a,rfl,o,its,n,e,c,d,i⟩:=x
  exact⟨a,rfl,o,its,n,K a o c e,c,d,i⟩
theorem Es.mono{ks:AN}{es:Ai Int Zgi}(K:zet h h')(x:Es prog w h ks es):Es prog w h' ks es:=by
 induction x with
 | nil=>exact .nil
 | cons a b _ ih=>exact .cons a (SK.is_mono K b) ih
theorem Es.length{ks:AN}{es:Ai Int Zgi}(x:Es prog w h ks es):ks.length=es.length:=by
 induction x with
 | nil=>rfl
 | cons a b _ ih=>simp[ih]
theorem Es.get{ks:AN}{es:Ai Int Zgi}(x:Es prog w h ks es):∀(i:Nat) (e:Int×Zgi),Ak es e-> ∃k,Ak ks k/\e.1=k.hash prog w/\k.is prog w h e.2:=by
 induction x with
 | nil=>intro i e he;simp at he
 | cons a b _ ih =>
  intro i e he
  cases i with
  | zero=>simp at he;subst he;exact⟨_,rfl,a,b⟩
  | succ i=>exact ih i e he
theorem Es.perm{ks:AN}{es es':Ai Int Zgi}(x:Es prog w h ks es)(p:es'.Perm es):∃ks',ks'.Perm ks/\Es prog w h ks' es':=by
 have p':=p.symm
 clear p
 induction p' generalizing ks with
 | nil=>exact⟨ks,.refl _,x⟩
 | cons e _ ih =>
  cases x with
  | cons a b y =>
   obtain⟨k2,q,z⟩:=ih y
   exact⟨_::k2,q.cons _,.cons a b z⟩
 | swap e f l =>
  cases x with
  | cons a b y=>cases y with
   | cons c d z=>exact⟨_::_::_,Zp0 _ _ _,.cons c d (.cons a b z)⟩
 | trans _ _ ih1 ih2 =>
  obtain⟨k1,q1,z1⟩:=ih1 x
  obtain⟨k2,q2,z2⟩:=ih2 z1
  exact⟨k2,q2.trans q1,z2⟩
theorem SetO.fits{o:Obj}{ks:AN}{es:AA}{ep:Nat}{t:Zgm}(S:SetO prog w h o ks es ep t):Ab (t.fits es.size):=by
 have h1:=S.tab.size
 have h2:=S.tab.room
 simp only[Zm9,Zhe,beq_iff_eq,decide_eq_true_eq]
 exact⟨by simpa using h1,by lia⟩
theorem SetO.mono{o:Obj}{ks:AN}{es:AA}{ep:Nat}{t:Zgm}(K:zet h h')(S:SetO prog w h o ks es ep t):SetO prog w h' o ks es ep t :=
 ⟨S.ex,S.data,S.tab,S.ent.mono K,S.nod,S.small,S.led,S.kind⟩
theorem zbx{a:Addr}{o:Obj}{es:AA}{ep:Nat}{t:Zgm}(ho:A0 a o)(hd:o.ExactSet)(hs:Zhq a h h'):zet h h':=by
 intro b u c e
 have hne:b≠a:=by
  rintro rfl
  rw[ho] at e;cases e
  rw[hd.1] at c;exact absurd c (by decide)
 exact(hs.2 b hne).trans e
end
theorem zqp(b:Addr):isSame (.ref b) (.ref b)=pure true:=by
 show(BC (b == b) (pure true:Sem Bool) _)=_
 rw[if_pos (beq_self_eq_true b)]
section
variable{prog:Zg8}{w:Zhy}{A:Zhk}{E:Zgi->Zgk->Prop}{s:Zgk}
theorem zcp{M:Zur}{a:Addr}{o:Obj}{ks:AN}{es:AA}{ep:Nat}{t:Zgm}{Q:AA×Nat×Zgm->Ah}
  (ho:AH a o) (S:SetO prog w s.heap o ks es ep t) (q:Q (es,ep,t) s):An w A (setState a) Q E s :=
 Zq2 ho S.data S.fits q
theorem zzn{ks:List Key}{v:Zgi}{a:Addr}{Q:Bool->Ah}(hk:Znb (zar prog w) s.heap ks a)(h:Q false s):An w A (Zn1 8 Au) Q E s:=by
 have hT:=hk.typeIs
 obtain⟨o,its,n,ho,_,hd,hi⟩:=hk
 unfold Zn1
 refine Zge (Zud hT ?_)
 show Zg1 _ _ ((BC ("tuple" == "tuple") (pure true) (isSubtype (.type "tuple") (.type "tuple"))) >>= _) Q E s
 refine Ba ?_
 show Zg1 _ _ (Zuh Au >>= _) Q E s
 refine Zge (Zjg ho hd ?_)
 show Zg1 _ _ (Zsy its _ _ >>= _) Q E s
 refine Zge ?_
 rw[<- Zkz]
 refine Zmw _ (fun rest r s'=>r.1=none/\s'=s /\ ∀v∈rest,Ab (Zpp v)) _ ?_ ?_ _ _ (Aw rfl hi.byValue)
 .rintro v rest r s' ⟨hr,rfl,hall⟩
  have hv:=hall v Zgz
  have e:Zn1 7 v=pure false:=by
   cases v <;> first | rfl | (simp[Zpp] at hv)
  show Zg1 _ _ (Zn1 7 v >>= _) _ _ _
  rw[e]
  refine Ba ?_
  simp only[Zgw,if_false]
  exact Zgj (Aw rfl (fun u hu'=>hall u (Zgq _ hu')))
 .rintro⟨r1,r2⟩ s' ⟨hr,rfl,_⟩
  simp only at hr
  subst hr
  exact Zgj h
theorem zzf{kk:List Key}{a:Addr}{Q:Bool->Ah}(hk:Znb (zar prog w) s.heap kk a)(h:Q false s) :
  ∀ys:Ar,(∀y∈ys,∃b ks,y= .ref b/\Znb (zar prog w) s.heap ks b)->An w A (Zwp Au ys) Q E s:=by
 intro ys hys
 unfold Zwp
 refine Zge ?_
 refine Zmw _ (fun rest r s'=>r.1=none/\s'=s /\ ∀y∈rest,∃b ks,y= .ref b/\Znb (zar prog w) s.heap ks b) _ ?_ ?_ _ _ (Aw rfl hys)
 .rintro y rest r s' ⟨hr,rfl,hall⟩
  obtain⟨b,ks,rfl,hb⟩:=hall y Zgz
  have hrest:∀y∈rest,∃b ks,y= .ref b/\Znb (zar prog w) s'.heap ks b:=fun y hy=>hall y (Zgq _ hy)
  dsimp only
  by_cases hab:Ab (a == b)
  .rw[if_pos (by rw[hab];rfl)]
   exact Zgj (Aw rfl hrest)
  .rw[if_neg (by rw[Zu7] at hab;rw[hab];simp[Zpp])]
   refine Zge (Zuf hk ?_)
   simp only[Zj3,Zgw,if_false]
   refine Zge (Zuf hb ?_)
   simp only[Zj3,Zgw,if_false]
   refine Zge (zzn (v:=.none) hk ?_)
   simp only[Zgw,if_false]
   refine Zge (zzn (v:=.none) hb ?_)
   simp only[Zgw,if_false]
   exact Zgj (Aw rfl hrest)
 .rintro⟨r1,r2⟩ s' ⟨hr,rfl,_⟩
  simp only at hr
  subst hr
  exact Zgj h
theorem zrc{a:Addr}{o:Obj}{ks:AN}{es:AA}{ep:Nat}{t:Zgm}{x:Zgi}{kk:List Key}{adding:Bool}{Q:SetFound->Ah}(hu:A.units<Zl2)
  (ho:AH a o) (S:SetO prog w s.heap o ks es ep t) (hk:∀k∈ks,Am k.flat) (hx:(SK.many kk).is prog w s.heap x)
  (found:∀i,Ak ks (.many kk)->Q (.there (if adding then none else some i)) s)
  (free:SK.many kk∉ks-> ∀sl wd,sl<=t.mask->zl0 t (Bx w (.many kk)) sl->(Ab wd->t.slot sl= .dummy)->(Am wd->t.slot sl= .empty)->Q (.free sl wd) s) :
  ∀(fuel n:Nat) (stand:Option SetTable.Probe),(stand=none->n=0) ->
   (∀p,Aa stand p->zpb p (prM t.mask (Bx w (.many kk)) n)/\(p.dummy=none \/ ∃q,q<n/\Aa p.dummy (Bw (Bx w (.many kk)) q)/\t.slot (Bw (Bx w (.many kk)) q)= .dummy)) ->
   (∀q,q<n->t.slot (Bw (Bx w (.many kk)) q) ≠ .empty /\ ∀i,t.slot (Bw (Bx w (.many kk)) q)= .live i->ks[i]? ≠ some (.many kk)) ->
   (∃N,n<=N/\N<n+fuel/\N<10*Zmq t.mask/\t.slot (Bw (Bx w (.many kk)) N)= .empty) ->
   An w A (Zzb a x (Bx w (.many kk)) adding fuel stand) Q E s:=by
 generalize hH:SK.hash prog w (.many kk)=hh at *
 have tok:=S.tab.ok
 obtain⟨kp,hpow⟩:=tok.pow
 obtain⟨ax,rfl,hax⟩:=hx
 have hgw:Am t.gaveWay:=by
  unfold SetTable.gaveWay
  rw[Ziz] at hpow
  rw[beq_eq_false_iff_ne];lia
 have hent:∀(i:Nat) (h:Int) (y:Zgi),Ak es (h,y)-> ∃(b:Addr) (k2:List Key),y=Zh3 b/\Znb (zar prog w) s.heap k2 b/\Ak ks (SK.many k2)/\h=Bx w (SK.many k2):=by
  intro i h y he
  obtain⟨k,h1,h2,h3⟩:=S.ent.get i (h,y) (by rw[Zg6];exact he)
  have hf:=hk k (Zgs h1)
  cases k with
  | one k=>simp[SK.flat] at hf
  | many k2=>obtain⟨b,rfl,hb⟩:=h3;exact⟨b,k2,rfl,hb,h1,h2⟩
 intro fuel
 induction fuel with
 | zero=>rintro n stand _ _ _ ⟨N,h1,h2,_⟩;lia
 | succ fuel ih =>
  rintro n stand hst hsp hq ⟨N,n1,n2,n3,n4⟩
  unfold Zzb
  refine Zge (zcp (M:=A3 w) ho S ?_)
  dsimp only
  rw[hgw]
  simp only[Zgw,if_false]
  have hstart:zpb (stand.getD (t.probeStart hh)) (prM t.mask hh n)/\((stand.getD (t.probeStart hh)).dummy=none \/ ∃q,q<n/\Aa (stand.getD (t.probeStart hh)).dummy (Bw hh q)/\t.slot (Bw hh q)= .dummy):=by
   cases stand with
   | none=>rw[hst rfl];exact(Bo (AM rfl rfl rfl) rfl)
   | some p=>exact hsp p rfl
  obtain⟨m,m1,m2,d,hd,hr⟩:=zqz t (fun i=>(es[i]?.map (·.1)).getD 0) hh (10*Zmq t.mask) _ n hstart.1 ⟨N,n1,by lia,n4⟩
  have hd':d=none \/ ∃q,q<m/\Aa d (Bw hh q)/\t.slot (Bw hh q)= .dummy:=by
   rcases hd with hd | ⟨q,q1,q2,q3,q4⟩
   .rcases hstart.2 with e | ⟨q,q1,q2,q3⟩
    .exact .inl (hd.trans e)
    .exact .inr ⟨q,by lia,hd.trans q2,q3⟩
   .exact .inr ⟨q,q2,q3,q4⟩
  have hne:∀q,q<m->t.slot (Bw hh q) ≠ .empty:=fun q hqm=>by
   rcases Zkh q n with hl | hl
   .exact(hq q hl).1
   .exact(m2 q hl hqm).1
  rcases hr with ⟨hemp,hr⟩ | ⟨i,nx,hlive,hhash,hr,hsn,hdn⟩
  ·-- an empty slot: it is not there
   have habs:SK.many kk∉ks:=by
    intro hin
    obtain⟨i,hi⟩:=Zht.mp hin
    have hil:i<ks.length:=(Zgo.mp hi).1
    have hie:i<es.size:=by have:=S.ent.length;simp at this;lia
    have hip:i<t.place.size:=by have:=S.tab.size;simp at this;lia
    have hpl:Ak t.place t.place[i]:=Zg7 hip
    have hes:Ak es es[i]:=Zg7 hie
    obtain⟨b,k2,hy,hb,hki,hhi⟩:=hent i es[i].1 es[i].2 hes
    have hkk:k2=kk:=by rw[hi] at hki;cases hki;rfl
    subst hkk
    have hreach:=S.tab.reach (t.place[i],es[i]) (by
     rw[Zht]
     refine⟨i,?_⟩
     rw[Zrq]
     exact⟨by rw[Zg6];exact hpl,by rw[Zg6];exact hes⟩)
    obtain⟨n',e1,e2⟩:=hreach
    dsimp only at e1 e2
    rw[hhi,hH] at e1 e2
    have hl:t.slot (Bw hh n')= .live i:=by rw[e1];exact(zf1 tok _ i).mpr hpl
    rcases Zpy n' m with c | c | c
    .rcases Zkh n' n with c2 | c2
     .exact(hq n' c2).2 i hl hi
     .refine(m2 n' c2 c).2 i hl ?_
      rw[hes];show es[i].1=hh;rw[hhi,hH]
    .subst c;rw[hl] at hemp;cases hemp
    .exact e2 m c hemp
   generalize hX:t.probe _ hh _=pX
   have hX2:=hX.symm.trans hr
   subst hX2
   rcases hd' with rfl | ⟨q,q1,rfl,q2⟩
   .exact Zgj (free habs _ false (zkw _ _ hpow hh m) (Aw m hne) (fun e=>by cases e) (fun _=>hemp))
   .dsimp only
    rw[q2]
    have:Am (adding&&(Zqm != Zqm)):=by cases adding <;> decide
    rw[this]
    simp only[Zgw,if_false]
    exact Zgj (free habs _ true (zkw _ _ hpow hh q) (Aw q (fun m' hm'=>hne m' (by lia))) (fun _=>q2) (fun e=>by cases e))
  .have hpl:=(zf1 tok _ i).mp hlive
   have hip:i<t.place.size:=(Zkb.mp hpl).1
   have hie:i<es.size:=by have:=S.tab.size;simp at this;lia
   have hes:Ak es es[i]:=Zg7 hie
   obtain⟨b,k2,hy,hb,hki,hhi⟩:=hent i es[i].1 es[i].2 hes
   generalize hX:t.probe _ hh _=pX
   have hX2:=hX.symm.trans hr
   subst hX2
   dsimp only
   have hall:∀y∈(es.filter (·.1 == hh)).toList.map (·.2),∃(b:Addr) (k3:List Key),y=Zh3 b/\Znb (zar prog w) s.heap k3 b:=by
    intro y hy
    obtain⟨e,he,rfl⟩:=Zg4.mp hy
    have he':=(Array.mem_filter.mp (Zoj.mp he)).1
    obtain⟨j,hj⟩:=Zht.mp (Zoj.mpr he')
    rw[Zg6] at hj
    obtain⟨b,k3,hy,hb,_⟩:=hent j e.1 e.2 hj
    exact⟨b,k3,hy,hb⟩
   by_cases hl:Ab t.led
   case' pos=>simp only[hl,Zj3,Zgw,if_false]
   case' neg =>
    rw[Zu7] at hl
    simp only[hl,Zrt,if_true]
    refine Zge (zzf hax ?_ _ hall)
    simp only[Zgw,if_false]
   all_goals
     rw[hes]
     dsimp only
     rw[hy]
     refine Zge (Zhx (wpAny_eqBool_tuple hu hb hax ?_))
     refine Zge (zcp (M:=A3 w) ho S ?_)
     dsimp only
     by_cases hkk:k2=kk
     .subst hkk
      have hQ:=found i hki
      rw[decide_eq_true rfl]
      cases adding with
      | true=>exact Zgj hQ
      | false =>
       have hsm:Aa (t.sameMemory t.moves t.mask) true:=by unfold Zr5;simp
       simp only[Znd,Zgw,if_false,hsm,if_true,hlive,hes,hy]
       have hself:=zqp b
       rw[hself]
       exact Ba (Ba (Zgj hQ))
     .rw[decide_eq_false hkk]
      have hsm:Aa (t.sameMemory t.moves t.mask) true:=by unfold Zr5;simp
      simp only[Bool.and_false,Zgw,if_false,hsm,if_true,hlive,hes,hy]
      have hself:=zqp b
      rw[hself]
      refine Ba (Ba ?_)
      have hmN:m<N:=by
       refine Zva fun c=>?_
       rcases Zpl c with e | e
       .rw[<- e,n4] at hlive;cases hlive
       .exact hne N e n4
      refine ih (m+1) (some nx) (fun e=>by cases e) (fun p hp=>?_) (fun q hqm=>?_) ⟨N,by lia,by lia,n3,n4⟩
      .cases hp
       refine⟨hsn,?_⟩
       rw[hdn]
       rcases hd' with e | ⟨q,q1,q2,q3⟩
       .exact .inl e
       .exact .inr ⟨q,by lia,q2,q3⟩
      .rcases Zkh q m with c | c
       .refine⟨hne q c,fun j hj hkj=>?_⟩
        rcases Zkh q n with c2 | c2
        .exact(hq q c2).2 j hj hkj
        .have hpj:=(zf1 tok _ j).mp hj
         have hjp:j<t.place.size:=(Zkb.mp hpj).1
         have hje:j<es.size:=by have:=S.tab.size;simp at this;lia
         have hej:Ax es j es[j]:=Zg7 hje
         obtain⟨_,k3,_,_,hkj',hhj⟩:=hent j es[j].1 es[j].2 hej
         rw[hkj] at hkj';cases hkj'
         refine(m2 q c2 c).2 j hj ?_
         rw[hej];show es[j].1=hh;rw[hhj,hH]
       .have:q=m:=by lia
        subst this
        refine⟨by rw[hlive];exact fun e=>(by cases e),fun j hj hkj=>?_⟩
        rw[hlive] at hj;cases hj
        rw[hki] at hkj;cases hkj;exact hkk rfl
end
section
variable{prog:Zg8}{w:Zhy}{h:Heap}
theorem zfn{a:Addr}{o:Obj}{es:AA}{ep:Nat}{t:Zgm}(ho:A0 a o)(hd:o.data= .set es ep t)(e1:AA)(t1:Zgm) :
  Aa ((h.update a (Zmr e1 t1)).get? a) { o with data:=.set e1 (ep+1) t1 }:=by
 have z:=Zjc (Zmr e1 t1) ho (by rw[putSet_of e1 t1 hd];rfl)
 rw[putSet_of e1 t1 hd] at z
 exact z
theorem Es.flats{ks:AN}{es:Ai Int Zgi}(x:Es prog w h ks es)(hf:∀k∈ks,Ab k.flat):ElemsOf (zar prog w) es:=by
 intro e he
 obtain⟨i,hi⟩:=Zht.mp he
 obtain⟨k,a,b,c⟩:=x.get i e hi
 have hk:=hf k (Zgs a)
 cases k with
 | many _=>simp[SK.flat] at hk
 | one k =>
  refine⟨⟨k,c,b⟩,?_⟩
  rcases za7 c with ⟨j,t,_,e2⟩ | ⟨y,t,_,e2⟩ <;> rw[e2] <;> rfl
theorem zmp{k:Key}{x:Zgi}(hx:SK.is prog w h (.one k) x):Ab x.scannable:=by
 rcases za7 hx with ⟨j,t,_,e2⟩ | ⟨y,t,_,e2⟩ <;> rw[e2] <;> rfl
theorem Es.idx{ks:AN}{es:Ai Int Zgi}(x:Es prog w h ks es)(hf:∀k∈ks,Ab k.flat)(k:Key) :
  (∀j,Aa (es.findIdx? (fun e=>(zar prog w).is k e.2)) j->Ax ks j (.one k))/\(es.findIdx? (fun e=>(zar prog w).is k e.2)=none->SK.one k∉ks):=by
 constructor
 .intro j hj
  obtain⟨h1,h2,_⟩:=List.findIdx?_eq_some_iff_getElem.mp hj
  obtain⟨k',a,b,c⟩:=x.get j es[j] (Zgg h1)
  have hk:=hf k' (Zgs a)
  cases k' with
  | many _=>simp[SK.flat] at hk
  | one k'=>rw[a,(zar prog w).inj _ _ _ c h2]
 .intro hn hin
  obtain⟨i,hi⟩:=Zht.mp hin
  have hil:i<es.length:=by rw[<- x.length];exact(Zgo.mp hi).1
  obtain⟨k',a,b,c⟩:=x.get i es[i] (Zgg hil)
  rw[hi] at a;cases a
  have:=List.findIdx?_eq_none_iff.mp hn es[i] (Zik hil)
  rw[show Ab ((zar prog w).is k es[i].2) from c] at this;cases this
theorem zuo{es:AA}{t:Zgm}(ok:SOk t es.toList)(hh:Int)(x:Zgi) :
  ∃sl wd,layNew t es hh x=(Zha es (AX).2 (hh,x),(AX).1,wd,false)/\sl<=t.mask/\zl0 t hh sl/\(Ab wd->t.slot sl= .dummy)/\(Am wd->t.slot sl= .empty):=by
 obtain⟨kp,hpow⟩:=ok.ok.pow
 obtain⟨e,he,hemp⟩:=zkx ok.ok (by have:=ok.room;lia)
 obtain⟨N,hN,hp⟩:=ztm t.mask _ hpow hh e he
 obtain⟨m,m1,m2,d,hd,hr⟩:=zqz t (fun _=>hh+1) hh (10*Zmq t.mask) (t.probeStart hh) 0 (AM rfl rfl rfl) ⟨N,Zhr _,by lia,by rw[hp];exact hemp⟩
 rcases hr with ⟨h1,h2⟩ | ⟨i,nx,_,h2,_⟩
 .have hfs:Aa (t.freeSlot hh) (d.getD (Bw hh m),d.isSome):=by
   unfold SetTable.freeSlot SetTable.probe
   rw[h2]
  have key:∃sl wd,Aa (t.freeSlot hh) (sl,wd)/\sl<=t.mask/\zl0 t hh sl/\(Ab wd->t.slot sl= .dummy)/\(Am wd->t.slot sl= .empty):=by
   rcases hd with hd | ⟨q,q1,q2,q3,q4⟩
   .have:d=none:=hd
    subst this
    exact⟨_,_,hfs,zkw _ _ hpow hh m,(Aw m (fun q hq=>(m2 q (Zhr _) hq).1)),(fun e=>by cases e),fun _=>h1⟩
   .subst q3
    exact⟨_,_,hfs,zkw _ _ hpow hh q,(Aw q (fun q' hq=>(m2 q' (Zhr _) (by lia)).1)),(fun _=>q4),(fun e=>by cases e)⟩
  obtain⟨sl,wd,f1,f2,f3,f4,f5⟩:=key
  refine⟨sl,wd,?_,f2,f3,f4,f5⟩
  have hs:t.slot sl= .empty\/t.slot sl= .dummy:=by cases wd with
   | true=>exact .inr (f4 rfl)
   | false=>exact .inl (f5 rfl)
  obtain⟨g1,g2,g3,g4,g5,_⟩:=zzu t es hh x sl ok hs f2 f3
  have hfit:Ab ((AX).1.fits (Zha es (AX).2 (hh,x)).size):=by
   simp only[Zm9,Zhe,beq_iff_eq,decide_eq_true_eq]
   refine⟨g3,?_⟩
   have:=ok.room
   rw[g2];lia
  unfold layNew
  rw[f1]
  show(_,(AX).1.orStandIn _,wd,!(AX).1.fits _)=_
  unfold SetTable.orStandIn
  have hfit':Ab ((AX).1.fits (Zha es (Zhp t.place sl) (hh,x)).size):=hfit
  rw[hfit'];rfl
 .lia
theorem zpj(t:Zgm)(es:AA)(wanted:Nat)(h1:2*es.size<=wanted)(h2:wanted<=4095) :
  ∃t' es',Ztm t es wanted=(es',t',false)/\t'.led=t.led/\t'.plain=t.plain/\es'.toList.Perm es.toList/\SOk t' es'.toList:=by
 obtain⟨t',order,e1,e2,e3,e4,e5,e6,e7,e8,e9⟩:=zi3 t es wanted h1 h2
 refine⟨t',_,?_,e4,e5,e7,e9⟩
 unfold Ztm
 rw[e1]
 dsimp only
 have c1:Ab (coversAll order es.size):=List.isPerm_iff.mpr e6
 have c2:Ab (t'.fits (order.filterMap (es[·]?)).size):=by
  simp only[Zm9,Zhe,beq_iff_eq,decide_eq_true_eq]
  exact⟨by rw[e9.size,Zhg],by have:=e9.room;lia⟩
 rw[c1,c2];rfl
end
section
variable{prog:Zg8}{w:Zhy}{A:Zhk}{E:Zgi->Zgk->Prop}{s:Zgk}
theorem zqg{t:Zgm}{es:Ai Int Zgi}(ok:SOk t es)(hh:Int):∃N,0<=N/\N<0+100000/\N<10*Zmq t.mask/\t.slot (Bw hh N)= .empty:=by
 obtain⟨kp,hpow⟩:=ok.ok.pow
 obtain⟨e,he,hemp⟩:=zkx ok.ok (by have:=ok.room;lia)
 obtain⟨N,hN,hp⟩:=ztm t.mask _ hpow hh e he
 have hb:=ok.ok.big
 refine⟨N,Zhr _,?_,hN,by rw[hp];exact hemp⟩
 unfold Zmq at hN;lia
theorem zk0{es:AA}{k:Key}{x:Zgi}{ks:AN}(hx:SK.is prog w s.heap (.one k) x)(ent:Es prog w s.heap ks es.toList)(hf:∀k∈ks,Ab k.flat)(hs:ks.length<=1000):Ab (byScan x es) :=
 byScan_of (knd:=zar prog w) (zmp hx) (by have:=ent.length;simp at this;unfold scanBound;lia) (ent.flats hf)
theorem zi6{es:AA}{a:Addr}:Am (byScan Au es):=rfl
theorem zzs{a:Addr}{o:Obj}{ks:AN}{es:AA}{ep:Nat}{t:Zgm}{x:Zgi}{k:SK}{Q:Option Nat->Ah}(hu:A.units<Zl2)
  (ho:AH a o) (S:SetO prog w s.heap o ks es ep t) (hk:∀k'∈ks,k'.flat=k.flat) (hx:k.is prog w s.heap x)
  (q:∀r:Option Nat,(∀i,Aa r i->Ak ks k)->(r=none->k∉ks)->Q r s):An w A (Zyg a x (k.hash prog w)) Q E s:=by
 unfold Zyg setFindIn
 refine Zge (zcp (M:=A3 w) ho S ?_)
 dsimp only
 cases k with
 | one k =>
  rw[zk0 hx S.ent hk S.small,if_pos rfl]
  refine Zge (Zj1 ?_)
  refine Zge (Zxh (knd:=zar prog w) hx ho S.data S.fits (S.ent.flats hk) ?_)
  obtain⟨i1,i2⟩:=S.ent.idx hk k
  cases hr:es.toList.findIdx? (fun e=>(zar prog w).is k e.2) with
  | none=>exact Zgj (q none (fun i e=>by cases e) fun _=>i2 hr)
  | some j=>exact Zgj (q (some (0+j)) (fun i e=>by cases e;rw[Zj4];exact i1 j hr) fun e=>by cases e)
 | many kk =>
  obtain⟨ax,rfl,hax⟩:=hx
  rw[zi6]
  simp only[Zgw,if_false]
  unfold setSearch
  refine Zge (zrc hu ho S hk (Aw ax hax) (fun i hi=>?_) (fun hn sl wd _ _ _ _=>?_) 100000 0 none (fun _=>rfl) (fun p hp=>by cases hp) (fun q hq=>by lia) (zqg S.tab _))
  .exact Zgj (q (some i) (fun j e=>by cases e;exact hi) fun e=>by cases e)
  .exact Zgj (q none (fun i e=>by cases e) fun _=>hn)
theorem yed{k:SK}{x:Zgi}{Q:Bool->Ah}(hx:k.is prog w s.heap x)(q:∀b,Q b s):An w A (Zvh 8 x) Q E s:=by
 cases k with
 | one k=>rw[Zuj 8 (zmp hx)];exact Zgj (q _)
 | many kk =>
  obtain⟨a,rfl,hk⟩:=hx
  have hT:=hk.typeIs
  obtain⟨o,its,n,ho,_,hd,hi⟩:=hk
  unfold Zvh
  refine Zge (Zne hT F.slot_tuple_hash.lookup ?_)
  show Zg1 _ _ (Zuh Au >>= _) Q E s
  refine Zge (Zjg ho hd ?_)
  show Zg1 _ _ (Zsy its _ _ >>= _) Q E s
  refine Zge ?_
  rw[<- Zkz]
  refine Zmw _ (fun rest r s'=>r.1=none/\s'=s /\ ∀v∈rest,Ab (Zpp v)/\Ab v.scannable) _ ?_ ?_ _ _ (Aw rfl ?_)
  .rintro v rest r s' ⟨hr,rfl,hall⟩
   have hv:=hall v Zgz
   show Zg1 _ _ (Zvh 7 v >>= _) _ _ _
   rw[Zuj 7 hv.2]
   refine Ba ?_
   cases plainKind v with
   | true =>
    simp only[Zj3,Zgw,if_false]
    exact Zgj (Aw rfl (fun u hu'=>hall u (Zgq _ hu')))
   | false =>
    simp only[Zrt,if_true]
    exact Zgj (Zgj (q false))
  .rintro⟨r1,r2⟩ s' ⟨hr,rfl,_⟩
   simp only at hr
   subst hr
   exact Zgj (q true)
  .intro v hv
   refine⟨hi.byValue v hv,?_⟩
   clear hd
   generalize its.toList=vs at hi hv
   induction hi with
   | nil=>cases hv
   | cons h1 _ ih =>
    rcases Zgp.mp hv with rfl | hv
    .rcases za7 h1 with ⟨j,t,_,e2⟩ | ⟨y,t,_,e2⟩ <;> rw[e2] <;> rfl
    .exact ih hv
end
section
variable{prog:Zg8}{w:Zhy}{h:Heap}
noncomputable def zbf(b:Bool)(t:Zgm):Zgm:=if b then t else { t with plain:=false }
theorem zff(b:Bool)(t:Zgm):(zbf b t).mask=t.mask:=by cases b <;> rfl
theorem zhd(b:Bool)(t:Zgm):(zbf b t).place=t.place:=by cases b <;> rfl
theorem zjj(b:Bool)(t:Zgm):(zbf b t).dummies=t.dummies:=by cases b <;> rfl
theorem zox(b:Bool)(t:Zgm):(zbf b t).led=t.led:=by cases b <;> rfl
theorem zhz(b:Bool)(t:Zgm):(zbf b t).fill=t.fill:=by cases b <;> rfl
theorem znn{o:Obj}{ks:AN}{es:AA}{ep:Nat}{t:Zgm}{x:Zgi}{k:SK}{sl:Nat}{wd:Bool}(S:SetO prog w h o ks es ep t)(hx:k.is prog w h x)
  (h1:sl<=t.mask) (h2:zl0 t (k.hash prog w) sl) (h3:Ab wd->t.slot sl= .dummy) (h4:Am wd->t.slot sl= .empty) (bv:Bool) :
  (Zha es (AX).2 (k.hash prog w,x)).size=es.size+1/\Ab ((zbf bv (AX).1).fits (Zha es (AX).2 (k.hash prog w,x)).size)/\(zbf bv (AX).1).led=led0 w /\
  (Zha es (AX).2 (k.hash prog w,x)).toList.Perm ((k.hash prog w,x)::es.toList)/\(∃k1,k1.Perm (k::ks)/\Es prog w h k1 (Zha es (AX).2 (k.hash prog w,x)).toList) /\
  ((Ab wd\/Am (zbf bv (AX).1).tooFull)->SOk (zbf bv (AX).1) (Zha es (AX).2 (k.hash prog w,x)).toList):=by
 have hs:t.slot sl= .empty\/t.slot sl= .dummy:=by cases wd with
  | true=>exact .inr (h3 rfl)
  | false=>exact .inl (h4 rfl)
 obtain⟨g1,g2,g3,g4,g5,g6,g7,g8,g9⟩:=zzu t es (k.hash prog w) x sl S.tab hs h1 h2
 have hroom:=S.tab.room
 have hsz:(Zha es (AX).2 (k.hash prog w,x)).size=es.size+1:=by
  have:=g7.length_eq;simpa using this
 refine⟨hsz,?_,?_,g7,?_,?_⟩
 .simp only[Zm9,Zhe,beq_iff_eq,decide_eq_true_eq]
  rw[zhd,zhz,zff]
  exact⟨g3,by rw[g2];lia⟩
 .rw[zox,g8];exact S.led
 .exact(Es.cons (e:=(k.hash prog w,x)) rfl hx S.ent).perm g7
 .intro hc
  refine zjw (t:=(AX).1) ⟨g1,?_,by rw[g3,Zhg],g4⟩ (zff ..) (zhd ..) (zjj ..)
  rcases hc with hc | hc
  .rw[g6 (h3 hc),g2];exact hroom
  .unfold SetTable.tooFull at hc
   rw[zhz,zff] at hc
   simpa using hc
theorem SetO.newk{o:Obj}{ks:AN}{es:AA}{ep:Nat}{t:Zgm}(S:SetO prog w h o ks es ep t){k:SK}(hk:∀k'∈ks,k'.flat=k.flat)(hn:k∉ks)(hr:ks.length+1<=1000)
  {h':Heap} {k1:AN} {e1:AA} {ep1:Nat} {t1:Zgm} (p:k1.Perm (k::ks)) (ok:SOk t1 e1.toList) (en:Es prog w h' k1 e1.toList) (hl:t1.led=led0 w) :
  SetO prog w h' { o with data:=.set e1 ep1 t1 } k1 e1 ep1 t1 :=
 ⟨S.ex,rfl,ok,en,p.nodup_iff.mpr (Zid.mpr ⟨hn,S.nod⟩),by rw[p.length_eq];simpa using hr,hl,k.flat,fun k' hk'=>by
  rcases Zgp.mp (p.mem_iff.mp hk') with rfl | e
  .rfl
  .exact hk k' e⟩
end
section
variable{prog:Zg8}{w:Zhy}{A:Zhk}{E:Zgi->Zgk->Prop}{s:Zgk}
theorem zbj{n:Nat}(h:n<=1001):AL n:=by rw[Zg2];lia
theorem zgl{n:Nat}(h:n<=4095):¬ Zsi n>sizeLine:=by
 obtain⟨_,_,_,_,h5⟩:=zf0 n h
 rw[Zg2];lia
theorem zcf{n:Nat}(h:n<=1000):2*n<=Zkc n/\Zkc n<=4095:=by
 unfold Zkc
 rw[if_neg (by lia)];lia
theorem yck {a : Addr} {o : Obj} {ks : AN} {es : Array (Int × Zgi)} {ep : Nat} {t : Zgm} {x : Zgi} {k : SK} {Q : Bool -> Zgk -> Prop} (hu : A.units < Zl2)
  (ho:AH a o) (S:SetO prog w s.heap o ks es ep t) (hk:∀k'∈ks,k'.flat=k.flat) (hx:k.is prog w s.heap x) (hr:ks.length+1<=1000)
  (q:∀h' k1 e1,Zhq a s.heap h'->AG w h' a k1 e1->k1.Perm (if k∈ks then ks else k::ks)->(∀e∈e1.toList,e∈es.toList\/e=(k.hash prog w,x))->BG (decide (k∉ks))) :
  An w A (Zri a x (k.hash prog w)) Q E s:=by
 have hlen:es.size=ks.length:=by have:=S.ent.length;simp at this;lia
 have old:k∈ks->Q false s:=fun hin=>by
  have:=q s.heap ks es (Zio _ _) ⟨o,ep,t,ho,S⟩ (by rw[if_pos hin]) (fun e he=>.inl he)
  rw[decide_eq_false (by simpa using hin)] at this
  exact this
 have new:k∉ks-> ∀h' e1 ep1 t1 k1,Zhq a s.heap h'->AU a { o with data:=.set e1 ep1 t1 }->k1.Perm (k::ks)->SOk t1 e1.toList->Es prog w s.heap k1 e1.toList->t1.led=led0 w->e1.toList.Perm ((k.hash prog w,x)::es.toList)->BG true:=fun hn h' e1 ep1 t1 k1 hs hg p ok en hl hp=>by
  have hK:zet s.heap h':=zbx (es:=es) (ep:=ep) (t:=t) ho S.ex hs
  have:=q h' k1 e1 hs ⟨_,ep1,t1,hg,S.newk hk hn hr p ok (en.mono hK) hl⟩ (by rw[if_neg hn];exact p) (fun e he=>by
   rcases Zgp.mp (hp.mem_iff.mp he) with z | z
   .exact .inr z
   .exact .inl z)
  rw[decide_eq_true hn] at this
  exact this
 unfold Zri Zyw
 refine Zhx (Zge (zcp (M:=A3 w) ho S ?_))
 dsimp only
 cases k with
 | one k =>
  rw[zk0 hx S.ent hk S.small,if_pos rfl]
  unfold setAddByScan
  refine Zge (Zge (Zj1 ?_))
  refine Zge (Zxh (knd:=zar prog w) hx ho S.data S.fits (S.ent.flats hk) ?_)
  obtain⟨i1,i2⟩:=S.ent.idx hk k
  cases hi:es.toList.findIdx? (fun e=>(zar prog w).is k e.2) with
  | some j=>exact Zgj (Zgj (old (Zgs (i1 j hi))))
  | none =>
   have hn:=i2 hi
   obtain⟨sl,wd,f1,f2,f3,f4,f5⟩:=zuo S.tab (Bx w (.one k)) x
   dsimp only
   rw[f1]
   refine Zge (Zgj (a:=()) ?_)
   dsimp only
   have fin:∀(gw:Bool->Sem Unit) (hgw:∀(s:Zgk) (Q:Unit->Ah),Q () s->An w A (gw false) Q E s) (bv:Bool),An w A ((do
     Zv2 a (Zha es (AX).2 (Bx w (.one k),x)) (zbf bv (AX).1)
     if Ab (!wd&&(zbf bv (AX).1).tooFull) then do
      gw (Ztm (zbf bv (AX).1) (Zha es (AX).2 (Bx w (.one k),x)) (Zkc (Zha es (AX).2 (Bx w (.one k),x)).size)).2.2
      Zv2 a (Ztm (zbf bv (AX).1) (Zha es (AX).2 (Bx w (.one k),x)) (Zkc (Zha es (AX).2 (Bx w (.one k),x)).size)).1
       (Ztm (zbf bv (AX).1) (Zha es (AX).2 (Bx w (.one k),x)) (Zkc (Zha es (AX).2 (Bx w (.one k),x)).size)).2.1
      pure (some true)
     else pure (some true))) (fun r s'=>An w A (match r with | some added=>pure added | none=>Zyw a x (Bx w (.one k)) 99999) Q E s') E s:=by
    intro gw hgw bv
    obtain⟨p1,p2,p3,p7,⟨k1,p4,p5⟩,p6⟩:=znn (bv:=bv) S (k:=.one k) hx f2 f3 f4 f5
    refine Zge (Zka ho S.data ?_ (zbj (by lia)))
    have g1:=zfn ho S.data (Zha es (AX).2 (Bx w (.one k),x)) (zbf bv (AX).1)
    have sb1:=Zh6 s.heap a (Zmr (Zha es (AX).2 (Bx w (.one k),x)) (zbf bv (AX).1))
    by_cases hc:Ab (!wd&&(zbf bv (AX).1).tooFull)
    .rw[if_pos hc]
     obtain⟨t2,e2,r1,r2,_,r4,r5⟩:=zpj (zbf bv (AX).1) (Zha es (AX).2 (Bx w (.one k),x)) (Zkc (Zha es (AX).2 (Bx w (.one k),x)).size)
      (zcf (by lia)).1 (zcf (by lia)).2
     rw[r1]
     refine Zge (hgw _ _ ?_)
     have z2:e2.size=es.size+1:=by rw[<- p1];have:=r4.length_eq;simpa using this
     refine Zge (Zka g1 rfl ?_ (zbj (by show e2.size<=1001;lia)))
     obtain⟨k2,q1,q2⟩:=p5.perm r4
     refine Zgj (Zgj (new hn _ e2 _ t2 k2 (sb1.trans (Zh6 _ a _)) (zfn g1 rfl e2 t2) (q1.trans p4) r5 q2 (by rw[r2];exact p3) (r4.trans p7)))
    .rw[if_neg hc]
     refine Zgj (Zgj (new hn _ _ _ _ k1 sb1 g1 p4 (p6 ?_) p5 p3 p7))
     cases wd with
     | true=>exact Be
     | false=>exact .inr (by simpa using hc)
   split
   .refine Zge (yed (k:=.one k) hx fun b=>?_)
    exact fin _ (fun _ _ q=>Zgj q) b
   .exact Ba (fin _ (fun _ _ q=>Zgj q) true)
 | many kk =>
  obtain⟨ax,rfl,hax⟩:=hx
  rw[zi6]
  simp only[Zgw,if_false]
  unfold setSearch
  refine Zge (zrc hu ho S hk (Aw ax hax) (fun i hi=>?_) (fun hn sl wd f2 f3 f4 f5=>?_) 100000 0 none (fun _=>rfl) (fun p hp=>by cases hp) (fun q hq=>by lia) (zqg S.tab _))
  .exact Zgj (old (Zgs hi))
  .dsimp only
   refine Zge (zcp (M:=A3 w) ho S ?_)
   dsimp only
   have fin:∀bv:Bool,An w A ((do
     Zv2 a (Zha es (AX).2 (Bx w (.many kk),.ref ax)) (zbf bv (AX).1)
     if Ab (!wd&&(zbf bv (AX).1).tooFull) then do
      Zv3 a (Zkc (es.size+1))
      pure true
     else pure true)) Q E s:=by
    intro bv
    obtain⟨p1,p2,p3,p7,⟨k1,p4,p5⟩,p6⟩:=znn (bv:=bv) S (k:=.many kk) (Aw ax hax) f2 f3 f4 f5
    refine Zge (Zka ho S.data ?_ (zbj (by lia)))
    have g1:=zfn ho S.data (Zha es (AX).2 (Bx w (.many kk),.ref ax)) (zbf bv (AX).1)
    have sb1:=Zh6 s.heap a (Zmr (Zha es (AX).2 (Bx w (.many kk),.ref ax)) (zbf bv (AX).1))
    by_cases hc:Ab (!wd&&(zbf bv (AX).1).tooFull)
    .rw[if_pos hc]
     obtain⟨t2,order,r1,_,_,r2,_,_,r4,r6,r5⟩:=zi3 (zbf bv (AX).1) (Zha es (AX).2 (Bx w (.many kk),.ref ax)) (Zkc (es.size+1))
      (by rw[p1];exact(zcf (by lia)).1) (zcf (by lia)).2
     unfold Zv3
     refine Zge (Zge (Zq2 g1 rfl p2 ?_))
     dsimp only
     rw[if_neg (zgl (zcf (by lia)).2)]
     rw[r1]
     refine Zge (Zh7 (fun h=>absurd h (by rw[r6];simp)) (fun _=>Zgj ?_))
     dsimp only
     refine Zka g1 rfl ?_ (zbj (by rw[r6,p1];lia))
     obtain⟨k2,q1,q2⟩:=p5.perm r4
     exact Zgj (new hn _ _ _ t2 k2 (sb1.trans (Zh6 _ a _)) (zfn g1 rfl _ t2) (q1.trans p4) r5 q2 (by rw[r2];exact p3) (r4.trans p7))
    .rw[if_neg hc]
     refine Zgj (new hn _ _ _ _ k1 sb1 g1 p4 (p6 ?_) p5 p3 p7)
     cases wd with
     | true=>exact Be
     | false=>exact .inr (by simpa using hc)
   split
   .refine Zge (yed (k:=.many kk) (Aw ax hax) fun b=>?_)
    exact fin b
   .exact Ba (fin true)
end
theorem zc3:Slot "set_iterator" "__next__" "set_iterator.__next__" :=
 .of (owner:="set_iterator") (n:="__next__") (by rw[Zyc,Zuk];kernel_rfl) (by decide +kernel) (by decide +kernel)
  (by decide +kernel) (by first | exact .inl (by decide +kernel) | exact .inr (by decide +kernel)) (by rw[Zyz];kernel_rfl)
theorem zlq:Bq (Zr3 Zyd "set_iterator.__next__") Zg9.«set_iterator.__next__»:=entryFor_of_tree (by kernel_rfl)
theorem zrl:Aa (Manifest.owners.lookup (String.ofList ['r','o','t','a','r','e','t','i','_','t','e','s'].reverse)) Manifest.sig_set_iterator:=by kernel_rfl
theorem znl(a:Zgi):Zv4 "set_iterator.__next__" ⟨[a],[]⟩:=by
 unfold Zv4
 rw[Zza (id:="set_iterator.__next__") (n:=['_','_','t','x','e','n','_','_']) (o:=['r','o','t','a','r','e','t','i','_','t','e','s']) (by kernel_rfl) zrl];kernel_rfl
theorem zh3:Slot "set_iterator" "__iter__" "set_iterator.__iter__" :=
 .of (owner:="set_iterator") (n:="__iter__") (by rw[Zyc,Zuk];kernel_rfl) (by decide +kernel) (by decide +kernel)
  (by decide +kernel) (by first | exact .inl (by decide +kernel) | exact .inr (by decide +kernel)) (by rw[Zyz];kernel_rfl)
theorem zl1:Bq (Zr3 Zyd "set_iterator.__iter__") Zg9.«dict_keyiterator.__iter__» :=
 Znu (id':="dict_keyiterator.__iter__") (by kernel_rfl) rfl (by decide +kernel) (by kernel_rfl)
theorem znj(a:Zgi):Zv4 "set_iterator.__iter__" ⟨[a],[]⟩:=by
 unfold Zv4
 rw[Zza (id:="set_iterator.__iter__") (n:=['_','_','r','e','t','i','_','_']) (o:=['r','o','t','a','r','e','t','i','_','t','e','s']) (by kernel_rfl) zrl];kernel_rfl
theorem zl6:Bq (Zr3 Zyd "set.__iter__") Zg9.«frozenset.__iter__» :=
 Znu (id':="frozenset.__iter__") (by kernel_rfl) rfl (by decide +kernel) (by kernel_rfl)
noncomputable def zc5(w:Zhy):Bool:=w.params.followText "set-order"
section
variable{prog:Zg8}{w:Zhy}{A:Zhk}{E:Zgi->Zgk->Prop}{s:Zgk}
theorem zhk{α:Type}{l:List α}{i:Nat}(h:i<l.length):(l[i]::l.eraseIdx i).Perm l:=by
 rw[Zpt]
 have e:(l.take i++l[i]::l.drop (i+1)).Perm (l[i]::(l.take i++l.drop (i+1))):=Zus
 rw[Zsk,Zjb] at e
 exact e.symm
theorem zyl{src:Source}{n:Nat}{Q:Nat->Ah}(hn:n≠0)(q:∀i d,i<n->Q i { s with drawn:=d }):An w A (choose src n) Q E s :=
 fun _ _ _=>⟨hn,q _ _ (Znr _ (Zt5 hn))⟩
theorem zzy{α:Type}:∀(n:Nat) (xs:List α) (s:Zgk) (Q:List α->Ah),xs.length<=n->(∀l d,l.Perm xs->Q l { s with drawn:=d })->An w A (drawOrder n xs) Q E s:=by
 intro n
 induction n with
 | zero =>
  intro xs s Q hl q
  have:xs=[]:=Zi9 (by lia)
  subst this
  exact Zgj (q [] s.drawn (.refl _))
 | succ n ih =>
  intro xs s Q hl q
  cases xs with
  | nil=>exact Zgj (q [] s.drawn (.refl _))
  | cons x xs =>
   unfold drawOrder
   refine Zge (zyl (by simp) fun i d hi=>?_)
   rw[Zgg hi]
   dsimp only
   refine Zge (ih _ _ _ ?_ fun l d' hp=>?_)
   .rw[Zm0 hi];simp at hl ⊢;omega
   .refine Zgj (q _ d' ?_)
    exact(hp.cons _).trans (zhk hi)
theorem yb2{α:Type}(next:Nat->Nat):∀(fuel k:Nat) (left:List α) (out:Array α),left.length<=fuel->(Zq5 next fuel k left out).toList.Perm (out.toList++left):=by
 intro fuel
 induction fuel with
 | zero =>
  intro k left out hl
  have:left=[]:=Zi9 (by lia)
  subst this
  unfold Zq5
  simp
 | succ fuel ih =>
  intro k left out hl
  unfold Zq5
  cases left with
  | nil=>simp
  | cons x l =>
   have hi:next k % (x::l).length<(x::l).length:=Znr _ (by simp)
   rw[Zgg hi]
   dsimp only
   refine(ih _ _ _ (by rw[Zm0 hi];lia)).trans ?_
   rw[Znk,Zis]
   exact Zra _ (zhk hi)
theorem zn6{α:Type}(next:Nat->Nat)(xs:Array α):(Zni next xs).toList.Perm xs.toList:=by
 unfold Zni
 exact(yb2 next xs.size 0 xs.toList #[] (by simp)).trans (by simp)
noncomputable def nextOf(w:Zhy)(a:Addr)(es:AA)(ep:Nat)(t:Zgm)(slot given:Nat):Option (Zgi×Nat) :=
 if zc5 w then ((Zni (w.params.setOrder a ep) es)[given]?).map fun e=>(e.2,slot) else
  match es[Zhp t.place slot]?,t.place[Zhp t.place slot]? with
  | some (_,x),some j=>some (x,j+1)
  | _,_=>none
structure SetL(w:Zhy)(o:Obj)(es:Array (Int×Zgi))(ep:Nat)(t:Zgm):Prop where
 data:o.data= .set es ep t
 tab:SOk t es.toList
 led:t.led=led0 w
theorem SetO.lite{o:Obj}{ks:AN}{h:Heap}{es:AA}{ep:Nat}{t:Zgm}(S:SetO prog w h o ks es ep t):SetL w o es ep t:=⟨S.data,S.tab,S.led⟩
theorem SetL.fits{o:Obj}{es:AA}{ep:Nat}{t:Zgm}(S:SetL w o es ep t):Ab (t.fits es.size):=by
 have h1:=S.tab.size
 have h2:=S.tab.room
 simp only[Zm9,Zhe,beq_iff_eq,decide_eq_true_eq]
 exact⟨by simpa using h1,by lia⟩
theorem zgb{a:Addr}{o:Obj}{es:AA}{ep:Nat}{t:Zgm}{Q:AA×Nat×Zgm->Ah}
  (ho:AH a o) (S:SetL w o es ep t) (q:Q (es,ep,t) s):An w A (setState a) Q E s:=Zq2 ho S.data S.fits q
theorem zqr{o:Obj}{es:AA}{ep:Nat}{t:Zgm}(S:SetL w o es ep t):t.led= ! zc5 w:=S.led
theorem zof{a:Addr}{o:Obj}{es:AA}{ep:Nat}{t:Zgm}{slot given:Nat}{Q:Option (Zgi×Nat)->Ah}(ho:AH a o)(S:SetL w o es ep t)
  (hd:Am (zc5 w)->Am (!t.plain&&decide (es.size>1))) (q:Q (nextOf w a es ep t slot given) s):An w A (setNext a slot given ep) Q E s:=by
 unfold setNext
 refine Zge (zgb ho S ?_)
 dsimp only
 unfold Zq4
 refine Zge (Zge (Zk3 (Zgj ?_)))
 show Zg1 _ _ (BC (zc5 w) _ _) Q E s
 unfold nextOf at q
 cases hb:zc5 w with
 | true =>
  rw[hb] at q
  simp only[if_true,bne_self_eq_false,Zgw,if_false]
  unfold setWalk
  refine Zge (Zge (zgb ho S ?_))
  dsimp only
  unfold Zq4
  refine Zge (Zge (Zk3 (Zgj ?_)))
  show Zg1 _ _ (BC (zc5 w) _ _) _ E s
  rw[hb,if_pos rfl]
  refine Zge (Zk3 (Zgj ?_))
  exact Zgj q
 | false =>
  rw[hb] at q
  simp only[Zgw,if_false]
  refine Zh7 (fun h=>absurd (show Ab (!t.plain&&decide (es.size>1)) from h) (by rw[hd hb];simp)) Bp
  have hld:=zqr S
  rw[hb] at hld
  exact Zge (Zh7 (fun h=>absurd h (by rw[hld];simp)) (fun _=>Zgj (Zgj q)))
noncomputable def zf3(h:Heap)(I a:Addr)(first:Zgi)(i n ep:Nat):Prop:=∃o,A0 I o/\o.cls= .type "set_iterator" /\ o.data= .fields #[first,.int i 0,Au,.int n 0,.int ep 0]
theorem zf3.typeIs{I a:Addr}{first:Zgi}{i n ep:Nat}(x:zf3 s.heap I a first i n ep):s.TypeIs (.ref I) "set_iterator" := let ⟨o,ho,hc,_⟩:=x;⟨o,ho,hc⟩
theorem zf3.at{h h':Heap}{I a:Addr}{first:Zgi}{i n ep:Nat}(x:zf3 h I a first i n ep)(k:∀o,A0 I o->AU I o):zf3 h' I a first i n ep:=let ⟨o,ho,r⟩:=x;⟨o,k o ho,r⟩
theorem zzk{h1:Heap}{Q:AY->Ah}{P:Zuo->Ah}(hh:A.handled=none)(q:∀h',(∀b o,Aa (h1.get? b) o->AU b o)->BG none) :
  An w A.in1 ((do Zzc (<- newExc (.type "StopIteration") []))) P (fun e s'=>An w A ((do if <- isInstance e (.type "StopIteration") then pure none else throw e)) Q E s') { s with heap:=h1 }:=by
 refine Zge ?_
 simp only[newExc,Zzd]
 refine Zge (Zjv ?_ (by size_fits))
 refine Zge (m:=Zpo _ _) (Zsb (a:=Zig) (by first | rfl | (simp only[Zpo];rfl)) ?_)
 refine Zjv ?_ (by size_fits)
 simp only[Zzc]
 refine Zge (Zy9 ?_)
 rw[show A.in1.handled=none from hh]
 refine Ba (wpAny_throw ?_)
 refine Zge (Zmv (T:="StopIteration") (b:=true) (AD (Zgx _ rfl) rfl) Zy0 ?_)
 exact Zgj (q _ fun b o e=>Zgl _ (Zgl _ e))
end
section
variable{prog:Zg8}{w:Zhy}{A:Zhk}{E:Zgi->Zgk->Prop}{s:Zgk}
theorem zg6{I a:Addr}{first:Zgi}{i n ep:Nat}{Q:AY->Ah}(hit:zf3 s.heap I a first i n ep)
  (h:Zg1 (A3 w) A.in1 (Zg9.«set_iterator.__next__» ⟨[.ref I],[]⟩) (fun fin s'=>∃r,fin= .done (.ret r)/\Q (some r) s')
   (fun e s'=>An w A ((do if <- isInstance e (.type "StopIteration") then pure none else throw e)) Q E s') s):An w A (Zok (.ref I)) Q E s:=by
 unfold Zok
 refine Zge (Zqh (Zk0 (name:=Zog "__next__") hit.typeIs zc3 (Zi3 zc3 hit.typeIs zlq (Zif h ?_ ?_) (znl _))))
 .rintro fin s' ⟨r,rfl,q⟩
  exact(Aw r (Zgj q))
 .intro e s' q
  exact q
theorem zmy{I a:Addr}{o:Obj}{es:AA}{ep:Nat}{t:Zgm}{slot i nx:Nat}{x:Zgi}{Q:AY->Ah}(hit:zf3 s.heap I a (.int slot 0) i es.size ep)
  (ho:AH a o) (S:SetL w o es ep t) (hd:Am (zc5 w)->Am (!t.plain&&decide (es.size>1))) (hn:Aa (nextOf w a es ep t slot i) (x,nx))
  (q:∀h',zf3 h' I a (.int nx 0) (i+1) es.size ep->Zhq I s.heap h'->BG (some x)):An w A (Zok (.ref I)) Q E s:=by
 refine zg6 hit ?_
 obtain⟨oi,hoi,hc,hdi⟩:=id hit
 unfold Zg9.«set_iterator.__next__»
 refine Ba ?_
 refine Zge (Zpn hoi hdi ?_)
 dsimp only
 refine Zge (Zke ho S.data S.fits ?_)
 rw[if_neg (by simp)]
 refine Zge (zof ho S hd ?_)
 simp only[Zj5]
 rw[hn]
 dsimp only
 refine Zge (Zk5 hoi hdi (by simp) ?_)
 have g1:Aa ((s.heap.update I (Zw9 (·.setIfInBounds 0 (Zkf nx)))).get? I) _:=Zjc _ hoi (Zk9 (Zi5 hdi _))
 have d1:=Zi5 hdi (·.setIfInBounds 0 (Zkf nx))
 refine Zge (Zk5 g1 d1 (by simp) ?_)
 refine Zgj (Aw x (q _ ⟨_,Zjc _ g1 (Zk9 (Zi5 d1 _)),?_,?_⟩ ((Zh6 ..).trans (Zh6 ..))))
 .exact(Znq ..).trans ((Znq ..).trans hc)
 .rw[Zi5 d1];simp[Zkf]
theorem zqv{I a:Addr}{o:Obj}{es:AA}{ep:Nat}{t:Zgm}{slot i:Nat}{Q:AY->Ah}(hh:A.handled=none)(hit:zf3 s.heap I a (.int slot 0) i es.size ep)
  (ho:AH a o) (S:SetL w o es ep t) (hd:Am (zc5 w)->Am (!t.plain&&decide (es.size>1))) (hn:nextOf w a es ep t slot i=none)
  (q:∀h',(∀b o,b≠I->AH b o->AU b o)->BG none):An w A (Zok (.ref I)) Q E s:=by
 refine zg6 hit ?_
 obtain⟨oi,hoi,hc,hdi⟩:=id hit
 unfold Zg9.«set_iterator.__next__»
 refine Ba ?_
 refine Zge (Zpn hoi hdi ?_)
 dsimp only
 refine Zge (Zke ho S.data S.fits ?_)
 rw[if_neg (by simp)]
 refine Zge (zof ho S hd ?_)
 simp only[Zj5]
 rw[hn]
 dsimp only
 refine Zge (Zk5 hoi hdi (by simp) ?_)
 exact zzk hh fun h' k=>q h' fun b o hb e=>k b o ((Ziv _ _ (Zh1 hb)).trans e)
noncomputable def zlw(h:Heap)(p:Addr)(pl:Ac):Prop:=∃o n,A0 p o/\o.data= .seq (pl.map fun(i:Nat)=>Zkf i).toArray n
theorem zst{I a p:Addr}{o:Obj}{es:AA}{ep:Nat}{t:Zgm}{i:Nat}{pl:Ac}{e:Int×Zgi}{j:Nat}{Q:AY->Ah}(hit:zf3 s.heap I a AO i es.size ep)
  (hp:zlw s.heap p pl) (ho:AH a o) (S:SetL w o es ep t) (hj:Ak pl j) (he:Ax es j e)
  (q:∀h',zf3 h' I a AO (i+1) es.size ep->Zhq I s.heap h'->BG (some e.2)):An w A (Zok (.ref I)) Q E s:=by
 refine zg6 hit ?_
 obtain⟨oi,hoi,hc,hdi⟩:=id hit
 obtain⟨op,np,hop,hdp⟩:=hp
 unfold Zg9.«set_iterator.__next__»
 refine Ba ?_
 refine Zge (Zpn hoi hdi ?_)
 dsimp only
 refine Zge (Zke ho S.data S.fits ?_)
 rw[if_neg (by simp)]
 refine Zge (Zjg hop hdp ?_)
 dsimp only
 have hpl:Ax (pl.map fun(i:Nat)=>Zkf i).toArray (i:Int).toNat (.int j 0):=by
  simp[hj,Zkf]
 rw[hpl]
 dsimp only
 unfold setNextDrawn
 refine Zge (Zge (zgb ho S ?_))
 simp only[Zj5,bne_self_eq_false,Zgw,if_false,he]
 refine Zgj ?_
 refine Zge (Zk5 hoi hdi (by simp) ?_)
 refine Zgj (Aw e.2 (q _ ⟨_,Zjc _ hoi (Zk9 (Zi5 hdi _)),?_,?_⟩ (Zh6 ..)))
 .exact(Znq ..).trans hc
 .rw[Zi5 hdi];simp[Zkf]
theorem zvm{I a p:Addr}{o:Obj}{es:AA}{ep:Nat}{t:Zgm}{i:Nat}{pl:Ac}{Q:AY->Ah}(hh:A.handled=none)(hit:zf3 s.heap I a AO i es.size ep)
  (hp:zlw s.heap p pl) (ho:AH a o) (S:SetL w o es ep t) (hj:pl[i]? = none)
  (q:∀h',(∀b o,b≠I->AH b o->AU b o)->BG none):An w A (Zok (.ref I)) Q E s:=by
 refine zg6 hit ?_
 obtain⟨oi,hoi,hc,hdi⟩:=id hit
 obtain⟨op,np,hop,hdp⟩:=hp
 unfold Zg9.«set_iterator.__next__»
 refine Ba ?_
 refine Zge (Zpn hoi hdi ?_)
 dsimp only
 refine Zge (Zke ho S.data S.fits ?_)
 rw[if_neg (by simp)]
 refine Zge (Zjg hop hdp ?_)
 dsimp only
 have hpl:(pl.map fun(i:Nat)=>Zkf i).toArray[(i:Int).toNat]? = none:=by
  simp at hj;simp[hj]
 rw[hpl]
 dsimp only
 refine Zge (Zk5 hoi hdi (by simp) ?_)
 have g1:Aa ((s.heap.update I (Zw9 (·.setIfInBounds 0 (Zkf 0)))).get? I) _:=Zjc _ hoi (Zk9 (Zi5 hdi _))
 have d1:=Zi5 hdi (·.setIfInBounds 0 (Zkf 0))
 refine Zge (Zk5 g1 d1 (by simp) ?_)
 exact zzk hh fun h' k=>q h' fun b o hb e=>k b o ((Ziv _ _ (Zh1 hb)).trans ((Ziv _ _ (Zh1 hb)).trans e))
theorem zze(xs:Az)(hp:xs.toList.Pairwise (· < ·))(j i:Nat)(hi:i<=xs.size)(h1:∀k x,k<i->Ax xs k x->x<j)(h2:∀k x,i<=k->Ax xs k x->j<=x):Zhp xs j=i:=by
 obtain⟨b0,b1,b2⟩:=zeu xs j hp
 rcases Zpy (Zhp xs j) i with c | c | c
 .have hg:Ax xs (Zhp xs j) (xs[Zhp xs j]'(by lia)):=Zg7 _
  have:=h1 _ _ c hg
  have:=b2 _ _ Ay hg
  lia
 .exact c
 .have hg:Ak xs (xs[i]'(by lia)):=Zg7 _
  have:=h2 _ _ Ay hg
  have:=b1 _ _ c hg
  lia
noncomputable def zhe(t:Zgm)(i:Nat):Nat:=if i=0 then 0 else t.place.getD (i - 1) 0+1
theorem yd6{a:Addr}{es:AA}{ep:Nat}{t:Zgm}(ok:SOk t es.toList)(hb:Am (zc5 w))(i:Nat)(hi:i<=es.size) :
  nextOf w a es ep t (zhe t i) i=(es[i]?).map fun e=>(e.2,zhe t (i+1)):=by
 have hsz:t.place.size=es.size:=by simpa using ok.size
 have hbel:Zhp t.place (zhe t i)=i:=by
  refine zze _ ok.ok.pl _ _ (by lia) (fun k x hk hx=>?_) (fun k x hk hx=>?_)
  .unfold zhe
   rw[if_neg (by lia)]
   have hl:i - 1<t.place.size:=by lia
   have hg:Ax t.place (i - 1) (t.place[i - 1]):=Zg7 hl
   have e:t.place.getD (i - 1) 0=t.place[i - 1]:=by simp[Zlb,hl]
   rw[e]
   rcases Zkh k (i - 1) with c | c
   .have:=zlo t.place ok.ok.pl k (i - 1) x _ c hx hg;lia
   .have:k=i - 1:=by lia
    subst this;rw[hg] at hx;cases hx;lia
  .unfold zhe
   split
   .lia
   .have hl:i - 1<t.place.size:=by lia
    have hg:Ax t.place (i - 1) (t.place[i - 1]):=Zg7 hl
    have e:t.place.getD (i - 1) 0=t.place[i - 1]:=by simp[Zlb,hl]
    rw[e]
    have:=zlo t.place ok.ok.pl (i - 1) k _ x (by lia) hg hx;lia
 unfold nextOf
 rw[hb,hbel]
 simp only[Zgw,if_false]
 by_cases hc:i<es.size
 .have h1:Ak es es[i]:=Zg7 hc
  have h2:Ak t.place (t.place[i]'(by lia)):=Zg7 _
  rw[h1,h2]
  show Aa (some (es[i].2,_)) (es[i].2,zhe t (i+1))
  unfold zhe
  rw[if_neg (by lia)]
  have e:t.place.getD (i+1 - 1) 0=t.place[i]'(by lia):=by
   have hl:i<t.place.size:=by lia
   simp[Zlb,hl]
  rw[e]
 .have h1:es[i]? = none:=Zr9 (by lia)
  rw[h1];rfl
end
noncomputable def zcu(h h':Heap):Prop:=∀b o,A0 b o->AU b o
theorem zcu.T{h h':Heap}(k:zcu h h'):zet h h':=fun b o _ e=>k b o e
section
variable{prog:Zg8}{w:Zhy}{A:Zhk}{E:Zgi->Zgk->Prop}{s:Zgk}
theorem zfr{I a:Addr}{first:Zgi}{i n ep:Nat}{Q:Zgi->Ah}(hit:zf3 s.heap I a first i n ep)(q:Q (.ref I) s):An w A (Zui (.ref I)) Q E s:=by
 refine Zwg hit.typeIs zh3 (Zi3 zh3 hit.typeIs zl1 ?_ (znj _))
 show Zg1 _ _ (ret (.ref I)) _ _ s
 exact Zgj ⟨_,rfl, "set_iterator", _,hit.typeIs,zc3.lookup,q⟩
noncomputable def zv4(prog:Zg8)(w:Zhy)(A:Zhk)(I a:Addr)(fp:List Addr)(vs:Ar)(St:Nat->Af Heap):Prop :=
 Zvj prog w A I fp [I] vs.length (fun i v=>Ak vs v) St
theorem yf4{a I:Addr}{o:Obj}{es:AA}{ep:Nat}{t:Zgm}(S:SetL w o es ep t)(hb:Ab (zc5 w))(hne:a≠I)(hh:A.handled=none) :
  zv4 prog w A I a [I,a] ((Zni (w.params.setOrder a ep) es).toList.map (·.2)) (fun i h=>zf3 h I a (.int (0:Nat) 0) i es.size ep/\A0 a o):=by
 have hn:∀i,nextOf w a es ep t 0 i=((((Zni (w.params.setOrder a ep) es).toList.map (·.2))[i]?).map fun v=>(v,0)):=fun i=>by
  unfold nextOf
  rw[hb,if_pos rfl,Zgy,Zg6,Option.map_map];rfl
 have hd:Am (zc5 w)->Am (!t.plain&&decide (es.size>1)):=fun e=>by rw[hb] at e;cases e
 refine⟨fun b hb=>by simp at hb;simp[hb],fun i h h' st k=>⟨st.1.at fun o e=>k I (by simp) o e,k a (by simp) o st.2⟩,fun i s Q E hi st q=>?_,fun s Q E st q=>?_,fun i s Q E st q=>zfr st.1 q⟩
 .refine zmy st.1 st.2 S hd (x:=((Zni (w.params.setOrder a ep) es).toList.map (·.2))[i]) (nx:=0) (by rw[hn,Zgg hi];rfl) fun h' it' sb=>?_
  exact q _ h' s.toks (Zgg hi) ⟨it',(sb.2 a hne).trans st.2⟩ fun b o hb e=>(sb.2 b (by simpa using hb)).trans e
 .refine zqv hh st.1 st.2 S hd (by rw[hn,Zhu (Zgr _)];rfl) fun h' k=>q h' s.toks fun b o hb e=>k b o (by simpa using hb) e
theorem yf8{a I:Addr}{o:Obj}{es:AA}{ep:Nat}{t:Zgm}(S:SetL w o es ep t)(hb:Am (zc5 w))(hd:Am (!t.plain&&decide (es.size>1)))(hne:a≠I)(hh:A.handled=none) :
  zv4 prog w A I a [I,a] (es.toList.map (·.2)) (fun i h=>zf3 h I a (.int (zhe t i) 0) i es.size ep/\A0 a o):=by
 have hl:(es.toList.map (·.2)).length=es.size:=by simp
 refine⟨fun b hb=>by simp at hb;simp[hb],fun i h h' st k=>⟨st.1.at fun o e=>k I (by simp) o e,k a (by simp) o st.2⟩,fun i s Q E hi st q=>?_,fun s Q E st q=>?_,fun i s Q E st q=>zfr st.1 q⟩
 .rw[hl] at hi
  have he:Ak es es[i]:=Zg7 hi
  refine zmy st.1 st.2 S (fun _=>hd) (x:=es[i].2) (nx:=zhe t (i+1)) (by rw[yd6 S.tab hb i (by lia),he];rfl) fun h' it' sb=>?_
  exact q _ h' s.toks (by rw[Zgy,Zg6,he];rfl) ⟨it',(sb.2 a hne).trans st.2⟩ fun b o hb e=>(sb.2 b (by simpa using hb)).trans e
 .rw[hl] at st
  refine zqv hh st.1 st.2 S (fun _=>hd) (by rw[yd6 S.tab hb _ (Zgr _),Zr9 (Zgr _)];rfl) fun h' k=>q h' s.toks fun b o hb e=>k b o (by simpa using hb) e
theorem yf3{a I p:Addr}{o:Obj}{es:AA}{ep:Nat}{t:Zgm}(S:SetL w o es ep t){pl:Ac}(hp:pl.Perm (Zhi es.size))(hne:a≠I)(hnp:p≠I)(hh:A.handled=none) :
  zv4 prog w A I a [I,a,p] (pl.map fun j=>(es.getD j (0,.none)).2) (fun i h=>zf3 h I a AO i es.size ep/\A0 a o/\zlw h p pl):=by
 refine⟨fun b hb=>by simp at hb;simp[hb],fun i h h' st k=>⟨st.1.at fun o e=>k I (by simp) o e,k a (by simp) o st.2.1,let ⟨op,n,e1,e2⟩:=st.2.2;⟨op,n,k p (by simp) op e1,e2⟩⟩,fun i s Q E hi st q=>?_,fun s Q E st q=>?_,fun i s Q E st q=>zfr st.1 q⟩
 .rw[Zgn] at hi
  have hj:Ak pl pl[i]:=Zgg hi
  have hjl:pl[i]<es.size:=Zic.mp (hp.mem_iff.mp (Zik hi))
  have he:Ax es pl[i] es[pl[i]]:=Zg7 hjl
  refine zst st.1 st.2.2 st.2.1 S hj he fun h' it' sb=>?_
  refine q _ h' s.toks ?_ ⟨it',(sb.2 a hne).trans st.2.1,?_⟩ fun b o hb e=>(sb.2 b (by simpa using hb)).trans e
  .rw[Zgy,hj]
   show some (es.getD pl[i] (0,.none)).2=_
   simp[Zlb,hjl]
  .obtain⟨op,n,e1,e2⟩:=st.2.2
   exact⟨op,n,(sb.2 p hnp).trans e1,e2⟩
 .rw[Zgn] at st
  refine zvm hh st.1 st.2.2 st.2.1 S (Zhu Ay) fun h' k=>q h' s.toks fun b o hb e=>k b o (by simpa using hb) e
theorem zpp{es:AA}{pl:Ac}(hp:pl.Perm (Zhi es.size)):(pl.map fun j=>(es.getD j (0,Zig)).2).Perm (es.toList.map (·.2)):=by
 refine(hp.map _).trans ?_
 have:(Zhi es.size).map (fun j=>(es.getD j (0,Zig)).2)=es.toList.map (·.2):=by
  refine Zld fun i=>?_
  rw[Zgy,Zgy]
  by_cases hi:i<es.size
  .rw[Zj8 hi,Zgg (by simpa using hi)];simp[Zlb,hi]
  .rw[Zhu (by simpa using hi),Zhu (by simpa using hi)];rfl
 rw[this]
theorem zbu{h:Heap}{o:Obj}:zcu h (h.push o):=fun b u e=>Zgl _ e
theorem ydj{a:Addr}{o:Obj}{ks:AN}{es:AA}{ep:Nat}{t:Zgm}{Q:Zgi->Ah}(ho:AH a o)(S0:SetO prog w s.heap o ks es ep t)
  (q:∀(h1:Heap) (d:Zp5) (I:Addr) (fp:List Addr) (vs:Ar),(∀A':Zhk,A'.handled=none-> ∃St,Zvj prog w A' I fp [I] vs.length (fun i v=>Ak vs v) St/\St 0 h1)->vs.Perm (es.toList.map (·.2))->zcu s.heap h1->s.heap.objs.size<=I->I<h1.objs.size->(∀b∈fp,b=a\/s.heap.objs.size<=b) ->
   Q (.ref I) { s with heap:=h1,drawn:=d }):An w A (Zui Au) Q E s:=by
 have S:=S0.lite
 have hT:s.TypeIs Au "set" := ⟨o,ho,S0.ex.1⟩
 have halt:a<s.heap.objs.size:=Zgv ho
 refine Zwg hT Zxe (Zi3 Zxe hT zl6 ?_ (F.args_set_iter_1 _))
 unfold Zg9.«frozenset.__iter__»
 refine Ba ?_
 unfold Zme
 refine Zge (Zge (Zke ho S.data S.fits (Zgj ?_)))
 unfold setDrawn
 refine Zge (Zge (zgb ho S ?_))
 dsimp only
 unfold Zq4
 refine Zge (Zge (Zk3 (Zgj ?_)))
 refine Zgj ?_
 show Zg1 _ _ (BC (! zc5 w&&(!t.plain&&decide (es.size>1))) _ _) _ _ s
 have hsm:es.size<=1000:=by have:=S0.small;have:=S0.ent.length;simp at this;lia
 by_cases hc:Ab (! zc5 w&&(!t.plain&&decide (es.size>1)))
 .rw[if_pos hc]
  refine Zge (zzy _ _ _ _ (by simp) fun pl d hp=>?_)
  unfold Zzd
  refine Zge (Zjv ?_ (by show AL (pl.map fun(i:Nat)=>Zkf i).length;rw[Zgn,hp.length_eq,Znm];exact zbj (by lia)))
  refine Zge (Zkv (Zgl _ ho) S.data S.fits ?_)
  unfold newFields
  refine Zge (Zjv (Zgj ⟨_,rfl, "set_iterator", _,(AD (Zgx _ rfl) rfl),zc3.lookup,?_⟩))
  show Q (.ref (BD "tuple" (.seq (pl.map fun(i:Nat)=>Zkf i).toArray)).objs.size) _
  have g1:Aa ((BD "tuple" (.seq (pl.map fun(i:Nat)=>Zkf i).toArray)).get? s.heap.objs.size) (Bl "tuple" (.seq (pl.map fun(i:Nat)=>Zkf i).toArray)):=Zgx _ rfl
  have k1:zcu s.heap (BD "tuple" (.seq (pl.map fun(i:Nat)=>Zkf i).toArray)):=zbu
  have z1:(BD "tuple" (.seq (pl.map fun(i:Nat)=>Zkf i).toArray)).objs.size=AR 1:=Zhj ..
  refine q _ d _ [(BD "tuple" (.seq (pl.map fun(i:Nat)=>Zkf i).toArray)).objs.size,a,s.heap.objs.size] _ (fun A' hh=>⟨_,yf3 (p:=s.heap.objs.size) S hp (by rw[z1];exact Zhb (Zkq halt)) (by rw[z1];exact Zhb (Zi1 _)) hh,
   (AM _ (Zgx _ rfl) (by simp[Zkf])),zbu _ _ (k1 _ _ ho),⟨_,0,zbu _ _ g1,rfl⟩⟩) (zpp hp) (fun b u e=>zbu _ _ (k1 _ _ e)) ?_ ?_ ?_
  .rw[z1];lia
  .exact Nat.lt_of_lt_of_eq (Zi1 _) (Zhj ..).symm
  .intro b hb
   simp only[Zgp,Zhf,or_false] at hb
   rcases hb with rfl | rfl | rfl
   .exact .inr (by rw[z1];lia)
   .exact Be
   .exact .inr Ay
 .rw[if_neg hc]
  refine Ba ?_
  refine Zge (Zkv ho S.data S.fits ?_)
  unfold newFields
  refine Zge (Zjv (Zgj ⟨_,rfl, "set_iterator", _,(AD (Zgx _ rfl) rfl),zc3.lookup,?_⟩))
  have it0:zf3 (BD "set_iterator" (.fields [Zkf 0,Zkf 0,Zh3 a,Zkf es.size,Zkf ep].toArray)) s.heap.objs.size a (.int (0:Nat) 0) 0 es.size ep :=
   (AM _ (Zgx _ rfl) (by simp[Zkf]))
  have hfp:∀b∈[s.heap.objs.size,a],b=a\/s.heap.objs.size<=b:=by
   intro b hb
   simp only[Zgp,Zhf,or_false] at hb
   rcases hb with rfl | rfl
   .exact .inr Ay
   .exact Be
  cases hb:zc5 w with
  | true =>
   exact q _ s.drawn _ [s.heap.objs.size,a] _ (fun A' hh=>⟨_,yf4 S hb (Zhb halt) hh,it0,zbu _ _ ho⟩) ((zn6 _ _).map _) zbu Ay (by rw[Zhj];exact Zi1 _) hfp
  | false =>
   rw[hb] at hc
   exact q _ s.drawn _ [s.heap.objs.size,a] _ (fun A' hh=>⟨_,yf8 S hb (by simpa using hc) (Zhb halt) hh,it0,zbu _ _ ho⟩) (.refl _) zbu Ay (by rw[Zhj];exact Zi1 _) hfp
theorem zsc:Zwm (.type "set") "__len__" = pure (some (.builtin "set.__len__")):=F.slot_set_len.lookup
theorem yez{a:Addr}{Q:Bool->Ah}(hT:s.TypeIs Au "set")(q:Q false s):An w A (Zox Au) Q E s:=by
 unfold Zox
 refine Zge (Zne hT zsc ?_)
 generalize hid:("set.__len__" : String)=id0
 wp_delta
 rw[show Aa (splitId id0) ("set", "__len__") from by subst hid;decide +kernel]
 subst hid
 refine Zge (Zmv (T:="set") (b:=true) hT Zrh ?_)
 refine Zh7 (fun e=>absurd e (by decide)) Bp
 refine Zh7 Bp (fun e=>absurd (by decide +kernel) e)
 exact Zge (Zud hT (Zgj q))
theorem zti{a:Addr}{o:Obj}{ks:AN}{es:AA}{ep:Nat}{t:Zgm}{Q:Ar->Ah}(hh:A.handled=none)(ho:AH a o)(S0:SetO prog w s.heap o ks es ep t)
  (q:∀(vs:Ar) (h':Heap) (d:Zp5) (tk:Nat),vs.Perm (es.toList.map (·.2))->zcu s.heap h'->s.heap.objs.size<h'.objs.size->Q vs { s with heap:=h',drawn:=d,toks:=tk }):An w A (collect Au) Q E s:=by
 have halt:a<s.heap.objs.size:=Zgv ho
 unfold collect
 refine Zge (Zys (Zli F.entry_proto_collect ?_))
 rw[Zle F.plain_proto_collect _]
 show Zg1 _ A.in1 (newList [] >>= fun l=>again (.builtin "list.__iadd__" ⟨[l,Au],[]⟩)) _ _ s
 refine Zge (Zjv ?_)
 refine Zgj ⟨Zqk Zvx _,Zli F.entry_list_iadd ?_⟩
 rw[Zle Zvx _]
 generalize hN:s.heap.push { cls:=.type "list", data:=.seq ([]:List Zgi).toArray }=hL
 have hLg:Aa (hL.get? s.heap.objs.size) (Bl "list" (.seq ([]:Ar).toArray)):=by rw[<- hN];exact Zgx _ rfl
 have hLs:hL.objs.size=AR 1:=by rw[<- hN,Zhj]
 have k0:zcu s.heap hL:=by rw[<- hN];exact zbu
 show Zg1 _ A.in1 (Zoy Bz Au Bz) _ _ _
 unfold Zoy
 refine Zge (Zud (T:="set") ⟨o,k0 a o ho,S0.ex.1⟩ ?_)
 have h1:Am (Zpm Bz Au):=by
  simp only[Zpm,beq_eq_false_iff_ne];exact Zla halt
 have h2:Am (Zky "set" == Zky "list"):=by decide
 have h3:Am (Zky "set" == Zky "tuple"):=by decide
 simp only[h1,h2,h3,Zr8,Zgw,if_false]
 refine Zge (ydj (s:={ s with heap:=hL }) (k0 a o ho) (S0.mono k0.T) fun h1 d I fp vs hW hvs k1 hI1 hI2 hfp=>?_)
 refine Zge (Zhx (yez ⟨o,k1 a o (k0 a o ho),S0.ex.1⟩ ?_))
 refine Zh7 Bp (fun e=>absurd (by decide +kernel) e)
 refine Zge (Zj1 ?_)
 refine Zge ?_
 show Zg1 _ A.in1 (updateSeq s.heap.objs.size (·.push .none) >>= fun _=>updateSeq s.heap.objs.size (·.pop)) _ _ _
 have hS1:=k1 _ _ hLg
 refine Zge (Zyb hS1 rfl ?_)
 have hS2:=Zjc (Zlv (·.push Zig)) hS1 rfl
 refine Zyb hS2 rfl ?_
 have hS3:=Zjc (Zlv (·.pop)) hS2 rfl
 generalize hG:(h1.update s.heap.objs.size (Zlv (·.push Zig))).update s.heap.objs.size (Zlv (·.pop))=h2 at hS3 ⊢
 have k2:∀b u,b≠s.heap.objs.size->Aa (h1.get? b) u->Aa (h2.get? b) u:=fun b u hb e=>by
  rw[<- hG];exact(Ziv _ _ (Zh1 hb)).trans ((Ziv _ _ (Zh1 hb)).trans e)
 have hSf:s.heap.objs.size∉fp:=fun hm=>by
  rcases hfp _ hm with e | e
  .rw[<- e] at halt;exact Zib _ halt
  .have e':hL.objs.size<=s.heap.objs.size:=e
   rw[hLs] at e';lia
 obtain⟨St,W,st0⟩:=hW A.in1 (by simp[hh])
 have st2:=W.frame 0 h1 h2 st0 fun b hb u e=>k2 b u (fun x=>hSf (x ▸ hb)) e
 refine Zgj ⟨Zqk F.plain_extend_loop _,codeAny_extend_loopS (A:=A) W.toS (by rw[hvs.length_eq];simp;exact zbj (by have:=S0.small;have:=S0.ent.length;simp at this;lia)) _ hSf _ vs.length 0 _ _ _ rfl (Zhr _) st2 hS3 (ItemsOf.nil _) fun s' acc c hm hS' hacc=>?_⟩
 show Zg1 _ A (load s.heap.objs.size >>= _) _ _ s'
 refine Zge (wpAny_load hS' ?_)
 have ev:acc.toList=vs:=by
  refine Zld fun i=>?_
  by_cases hi:i<acc.size
  .have e1:Ak acc acc[i]:=Zg7 hi
   rw[hacc.2 i _ e1,Zgg (by simpa using hi)];simp
  .rw[Zhu (by simpa using hi),Zhu (by have:=hacc.1;lia)]
 have es':=Moved.eq_with hm
 refine Zgj ?_
 show Q acc.toList s'
 rw[ev,es']
 refine q vs s'.heap d s'.toks hvs (fun b u e=>?_) (Zgv hS')
 have hb:=Zgv e
 have hb1:b≠s.heap.objs.size:=Zhb hb
 have hb2:b≠I:=fun x=>by
  have e':hL.objs.size<=I:=hI1
  rw[hLs,<- x] at e'
  exact Zib _ (Zx3 hb e')
 exact hm.heap b u (by simp[hb1,hb2]) (k2 b u hb1 (k1 b u (k0 b u e)))
end
section
variable{prog:Zg8}{w:Zhy}{A:Zhk}{E:Zgi->Zgk->Prop}{s:Zgk}
theorem ydb{k:SK}{x:Zgi}{Q:Int->Ah}(hu:A.units<Zl2)(hx:k.is prog w s.heap x)(q:∀tk,Q (k.hash prog w) { s with toks:=tk }):An w A (pyHash x) Q E s:=by
 cases k with
 | one k=>exact(zar prog w).pyHash hx (q _)
 | many kk=>obtain⟨a,rfl,hk⟩:=hx;exact wpAny_pyHash_tuple hu hk (q _)
structure Part(prog:Zg8)(w:Zhy)(k0:List SK)(items:Array Zgi)(i:Nat)(ks:List SK)(es:Array (Int×Zgi)):Prop where
 mem:∀k,k∈ks ↔ ∃j:Nat,j<i/\k0[j]? = some k
 len:ks.length<=i
 ent:∀e∈es.toList,∃j:Nat,items[j]? = some e.2
theorem zy1 {S I l : Addr} {items : Array Zgi} {k0 : AN} {f : Bool} {R : Zyn -> Zgk -> Prop} (hu : A.units + 1 < Zl2) (hh : A.handled = none) (hSI : S ≠ I) (hSl : S ≠ l) (hIl : l ≠ I)
  (hlen:k0.length=items.size) (hn:items.size<=1000) (hf:∀k∈k0,k.flat=f) :
  ∀(m i:Nat) (s:Zgk) (ks:AN) (es:AA),items.size - i=m->i<=items.size->s.heap.IsListIter I l i->s.heap.IsList l items->AG w s.heap S ks es->Part prog w k0 items i ks es ->
   (∀(j:Nat) (v:Zgi) (k:SK),Ax items j v->Ax k0 j k->k.is prog w s.heap v) ->
   (∀s' ks' es',(∀b o,b≠I->b≠S->AH b o->Aa (s'.heap.get? b) o)->(∃tk,s'={ s with heap:=s'.heap,toks:=tk })->AG w s'.heap S ks' es'->Part prog w k0 items items.size ks' es'->R (.ok (.ret .none)) s') ->
   Zo3 (A3 w) A (.builtin "set.update.loop" ⟨[.ref S,.ref I],[]⟩) R s:=by
 intro m
 induction m with
 | zero =>
  intro i s ks es hk hi hit hl hS hp hkey hR
  have hin:i=items.size:=by lia
  subst hin
  refine Zli Zs3 ?_
  rw[Zle Zn5 _]
  show Zg1 _ A.in1 (Zok (.ref I) >>= _) _ _ s
  refine Zge (Zoz (by simp[hh]) hit hl (by simp) fun h' he=>?_)
  show Zg1 _ A.in1 (ret Zig) _ _ _
  obtain⟨o,ep,t,ho,So⟩:=hS
  have kT:zet s.heap h':=fun b u c e=>he b u (fun z=>by
   obtain⟨oi,h1,h2,_⟩:=hit
   rw[z,h1] at e;cases e;rw[h2] at c;exact absurd c (by decide)) e
  exact Zgj (hR _ ks es (fun b u h1 _ e=>he b u h1 e) (AF s.toks) ⟨o,ep,t,he S o hSI ho,So.mono kT⟩ hp)
 | succ m ih =>
  intro i s ks es hk hi hit hl hS hp hkey hR
  have hlt:i<items.size:=by lia
  have hv:Ak items items[i]:=Zg7 hlt
  have hki:Ak k0 (k0[i]'(by lia)):=Zgg _
  have hx:=hkey i _ _ hv hki
  have hfi:=hf _ (Zgs hki)
  generalize k0[i]'(by lia)=k at hki hx hfi
  refine Zli Zs3 ?_
  rw[Zle Zn5 _]
  show Zg1 _ A.in1 (Zok (.ref I) >>= _) _ _ s
  refine Zge (Zop hit hl hv fun h1 hit1 sb1=>?_)
  have kT1:zet s.heap h1:=fun b u c e=>(sb1.2 b (fun z=>by
   obtain⟨oi,g1,g2,_⟩:=hit
   rw[z,g1] at e;cases e;rw[g2] at c;exact absurd c (by decide))).trans e
  obtain⟨o,ep,t,ho,So⟩:=hS
  have ho1:Aa (h1.get? S) o:=(sb1.2 S hSI).trans ho
  show Zg1 _ A.in1 (Zvg [items[i]] (setAdd S items[i]) >>= _) _ _ _
  refine Zge (Zhx ?_)
  unfold setAdd
  refine Zhx (Zge (ydb (by simp only[Zll];omega) (SK.is_mono kT1 hx) fun tk=>?_))
  have kin:∀k'∈ks,k'.flat=k.flat:=fun k' hk'=>by
   obtain⟨j,_,hj⟩:=(hp.mem k').mp hk'
   rw[hf _ (Zgs hj),hfi]
  refine yck (s:={ s with heap:=h1,toks:=tk }) (by simp only[Zll];omega) ho1 (So.mono kT1) kin (SK.is_mono kT1 hx) (by have:=hp.len;lia) fun h2 k2 e2 sb2 S2 p2 en2=>?_
  have hp2:Part prog w k0 items (i+1) k2 e2:=by
   refine⟨fun k'=>?_,?_,fun e he=>?_⟩
   .rw[p2.mem_iff]
    constructor
    .intro hm
     have hm':k'∈k::ks:=by
      split at hm
      .exact Zgq _ hm
      .exact hm
     rcases Zgp.mp hm' with e | e
     .exact⟨i,by lia,by rw[e];exact hki⟩
     .obtain⟨j,hj,hkj⟩:=(hp.mem k').mp e;exact⟨j,by lia,hkj⟩
    .rintro⟨j,hj,hkj⟩
     have hm':k'=k\/k'∈ks:=by
      rcases Zkh j i with c | c
      .exact .inr ((hp.mem k').mpr ⟨j,c,hkj⟩)
      .have:j=i:=by lia
       subst this;rw[hki] at hkj;cases hkj;exact Be
     split
     .rename_i hin
      rcases hm' with e | e
      .rw[e];exact hin
      .exact e
     .rcases hm' with e | e
      .rw[e];exact Zgz
      .exact Zgq _ e
   .rw[p2.length_eq]
    have:=hp.len
    split
    .lia
    .simp;omega
   .rcases en2 e he with z | z
    .exact hp.ent e z
    .exact⟨i,by rw[z];exact hv⟩
  have k12:zet h1 h2:=zbx (es:=es) (ep:=ep) (t:=t) ho1 So.ex sb2
  refine Zgj ⟨Zqk Zn5 _,ih (i+1) _ k2 e2 (by lia) hlt ?_ ?_ S2 hp2 (fun j v k' h3 h4=>SK.is_mono (fun b u c e=>k12 b u c (kT1 b u c e)) (hkey j v k' h3 h4)) fun s' k3 e3 kp ⟨tk',hs'⟩ S3 p3=>?_⟩
  .exact hit1.at fun u e=>(sb2.2 I (Zh1 hSI)).trans e
  .exact(hl.extBut sb1.extBut hIl).at fun u e=>(sb2.2 l (Zh1 hSl)).trans e
  .refine hR s' k3 e3 (fun b u h3 h4 e=>kp b u h3 h4 ((sb2.2 b h4).trans ((sb1.2 b h3).trans e))) ⟨tk',?_⟩ S3 p3
   rw[hs']
end
section
variable{prog:Zg8}{w:Zhy}{A:Zhk}{E:Zgi->Zgk->Prop}{s:Zgk}
theorem zxi{h:Heap}{a:Addr}{led:Bool}(hl:led=led0 w)(hg:A0 a { cls:=.type "set", dict:=none,data:=.set #[] 0 (.fresh 0 0 led) }):AG w h a [] (#[]) :=
 ⟨_,0,_,hg,(Aw rfl rfl),rfl,znu 0 0 led,.nil,Zlm,by simp,hl,true,fun k hk=>by cases hk⟩
theorem zv5(a:Zgi){Q1:Zgi->Ah}(h:Q1 Bz { s with heap:=s.heap.push { cls:=.type "set", dict:=none,data:=.set #[] 0 (.fresh 0 0 (led0 w)) } }) :
  Zo3 (A3 w) A (.call (.builtin "set.__new__") ⟨[.type "set", a],[]⟩) (wants Q1 E) s:=by
 refine Zse ?_
 show Zg1 _ A.in1 (do Zxk "set.__new__" ⟨[.type "set", a],[]⟩;again (.builtin "set.__new__" ⟨[.type "set", a],[]⟩)) _ _ s
 refine Zge (Zsb (F.newCall_set_1 a) (Zgj ⟨Zqk Zxf _,Zli F.entry_set_new ?_⟩))
 rw[Zle Zxf _]
 unfold Zg9.«set.__new__» Zu4
 have hsub:=Zrh
 obtain⟨hp,g,d,tk,os⟩:=s
 dsimp only
 wp_walk
 refine Zk3 (Zgj ?_)
 dsimp only
 simp only[newObj]
 refine Zge (wpAny_alloc (Zgj ?_))
 exact Zgj h
theorem zr1{l:Addr}{items:Array Zgi}{k0:AN}{f:Bool}{Q:Zgi->Ah}(hu:A.units+16<Zl2)(hh:A.handled=none)(hl:s.heap.IsList l items)(hlen:k0.length=items.size)(hn:items.size<=1000)(hf:∀k∈k0,k.flat=f)
  (hkey:∀(j:Nat) (v:Zgi) (k:SK),Ax items j v->Ax k0 j k->k.is prog w s.heap v)
  (q:∀h' tk ks es,zcu s.heap h'->AG w h' s.heap.objs.size ks es->Part prog w k0 items items.size ks es->Q Bz { s with heap:=h',toks:=tk }) :
  An w A (call (.type "set") [.ref l]) Q E s:=by
 obtain⟨c,tl,hmro⟩:=Zl1.mro
 have hmade:=Zl1.made
 have hsub:=Zl1.sub
 refine Zs7 (Zse ?_)
 show Zg1 _ _ (callAny (.type "set") _) _ _ _
 refine Zgj ⟨Zty _ (by decide +kernel),Zli Zvz ?_⟩
 rw[Zs5 (Zug "set" [.ref l] []) rfl]
 have h1:=Zl1.notType
 have h2:=Zl1.canCreate
 have hct:=F.typeCall_set_1 (.ref l)
 repeat (any_goals (first | assumption | wp_step))
 refine Zl3 (zv5 (.ref l) (E:=E) (Q1:=fun obj s1=>obj= Bz/\s1={ s with heap:=s.heap.push { cls:=.type "set", dict:=none,data:=.set #[] 0 (.fresh 0 0 (led0 w)) } }) (AF rfl)) fun r s1 hr=>?_
 cases r with
 | error e=>exact hr
 | ok fl =>
  cases fl with
  | ret obj =>
   obtain⟨rfl,rfl⟩:=hr
   generalize hN:s.heap.push { cls:=.type "set", dict:=none,data:=.set #[] 0 (.fresh 0 0 (led0 w)) }=hp1
   have hS:Aa (hp1.get? s.heap.objs.size) { cls:=.type "set", dict:=none,data:=.set #[] 0 (.fresh 0 0 (led0 w)) }:=by rw[<- hN];exact Zgx _ rfl
   have k1:zcu s.heap hp1:=by rw[<- hN];exact zbu
   have z1:hp1.objs.size=AR 1:=by rw[<- hN,Zhj]
   have hT:Zu9 { s with heap:=hp1 } Bz "set" := (AD hS rfl)
   have hli:=Zl1.init.lookup
   have hbi:=Zl1.init.bind Bz
   repeat (any_goals (first | assumption | wp_step))
   refine Zl3 (Zpj (R:=wants (fun r s2=>r= .none /\ ∃h' tk ks es,s2={ s with heap:=h',toks:=tk }/\zcu s.heap h'/\AG w h' s.heap.objs.size ks es/\Part prog w k0 items items.size ks es) E)
    Zl1.init.plain F.entry_set_init (check_set_init_1 hT ?_)) fun r2 s2 hr2=>?_
   .obtain⟨ol,hol,hcl,nl,hdl⟩:=id hl
    obtain⟨ocls,odict,odata,oslots⟩:=ol
    simp only at hcl hdl
    subst hcl;subst hdl
    have hol':=k1 _ _ hol
    have hsls:=F.sub_list_set
    have hslf:=F.sub_list_frozenset
    have hne:Am (Zky "list" == Zky "dict"):=by decide
    have hl1:hp1.IsList l items:=⟨_,hol',rfl,nl,rfl⟩
    unfold Zg9.«set.__init__» noKeywords Zlu
    generalize hPI:Zui=PI
    wp_walk
    subst hPI
    refine Zju hl1 ?_
    refine Zge (Zys ?_)
    have hlS:l<s.heap.objs.size:=Zgv hol
    have hIt:(hp1.push (Bl "list_iterator" (.fields #[.ref l,.int 0 0]))).IsListIter hp1.objs.size l 0:=(AM _ (Zgx _ rfl) rfl)
    refine zy1 (S:=s.heap.objs.size) (I:=hp1.objs.size) (l:=l) (items:=items) (k0:=k0) (f:=f) ?hu ?hh ?n1 ?n2 ?n3 hlen hn hf (items.size - 0) 0 _ [] #[] (by lia) (Zhr _) hIt (hl1.push _) (zxi rfl (zbu _ _ hS)) ⟨fun k=>⟨(fun h=>by cases h),(fun⟨j,hj,_⟩=>by lia)⟩,by simp,(fun e he=>by cases he)⟩ (fun j v k a b=>SK.is_mono (fun b u _ e=>zbu _ _ (k1 _ _ e)) (hkey j v k a b)) ?hR
    case hu=>simp only[Zll];lia
    case hh=>simp[hh]
    case n1=>rw[z1];exact Zhb (Zi1 _)
    case n2=>exact Zla hlS
    case n3=>rw[z1];exact Zhb (Zkq hlS)
    case hR =>
     intro s' ks' es' kp ⟨tk',hs'⟩ S' p'
     show Zg1 _ _ _ _ _ _
     refine Zgj ?_
     show Zg1 _ _ (ret Zig) _ _ _
     refine Zgj ⟨rfl,s'.heap,tk',ks',es',hs',fun b o e=>?_,S',p'⟩
     have hb:=Zgv e
     exact kp b o (by rw[z1];exact Zhb (Zkq hb)) (Zhb hb) (zbu _ _ (k1 _ _ e))
   .cases r2 with
    | error e=>exact hr2
    | ok fl2 =>
     cases fl2 with
     | ret r =>
      obtain⟨rfl,h',tk,ks,es,rfl,a1,a2,a3⟩:=hr2
      repeat (any_goals (first | assumption | wp_step))
      exact q _ _ _ _ a1 a2 a3
     | _=>exact hr2.elim
  | _=>exact hr.elim
end
section
variable{prog:Zg8}{w:Zhy}{A:Zhk}{E:Zgi->Zgk->Prop}{s:Zgk}
theorem zqf{Q:Bool->Ah}(q:Q (zc5 w) s):An w A Zq4 Q E s:=by
 unfold Zq4
 exact Zge (Zk3 (Zgj q))
theorem zha{a:Addr}{o:Obj}{es:AA}{ep:Nat}{t:Zgm}{Q:AA->Ah}(ho:AH a o)(S:SetL w o es ep t)
  (q:∀(e1:AA) (d:Zp5),e1.toList.Perm es.toList->Q e1 { s with drawn:=d }):An w A (setWalk a) Q E s:=by
 unfold setWalk
 refine Zge (zgb ho S ?_)
 dsimp only
 refine Zge (zqf ?_)
 cases hb:zc5 w with
 | true =>
  rw[if_pos rfl]
  refine Zge (Zk3 (Zgj ?_))
  exact q _ s.drawn (zn6 _ _)
 | false =>
  simp only[Zgw,if_false]
  refine Zh7 Bp Bp
  .refine Zge (zzy _ _ _ _ (by simp) fun l d hp=>Zgj (q l.toArray d (by simpa using hp)))
  .have hld:=zqr S
   rw[hb] at hld
   exact Zge (Zh7 (fun h=>absurd h (by rw[hld];simp)) (fun _=>Zgj (Zgj (q es s.drawn (.refl _)))))
theorem zv6{Q:Bool->Ah}(q:∀b,Q b s):∀sets:List Addr,(∀a∈sets,∃ks es,AG w s.heap a ks es)->An w A (setsQuiet sets) Q E s:=by
 intro sets hs
 unfold setsQuiet
 refine Zge ?_
 refine Zmw _ (fun rest r s'=>r.1=none/\s'=s /\ ∀a∈rest,∃ks es,AG w s.heap a ks es) _ ?_ ?_ _ _ (Aw rfl hs)
 .rintro a rest r s' ⟨hr,rfl,hall⟩
  obtain⟨ks,es,o,ep,t,ho,So⟩:=hall a Zgz
  have hrest:∀a∈rest,∃ks es,AG w s'.heap a ks es:=fun y hy=>hall y (Zgq _ hy)
  refine Zge (Zke ho So.data So.fits ?_)
  refine Zge ?_
  rw[<- Zkz]
  have hel:∀e∈es.toList,∃k,SK.is prog w s'.heap k e.2:=fun e he=>by
   obtain⟨i,hi⟩:=Zht.mp he
   obtain⟨k,_,_,c⟩:=So.ent.get i e hi
   exact⟨k,c⟩
  refine Zmw _ (fun rest r s1=>r.1=none/\s1=s' /\ ∀e∈rest,∃k,SK.is prog w s'.heap k e.2) _ ?_ ?_ _ _ (Aw rfl hel)
  .rintro⟨hv,x⟩ rest r s1 ⟨hr1,rfl,hall1⟩
   obtain⟨k,hk⟩:=hall1 _ Zgz
   have hrest1:∀e∈rest,∃k,SK.is prog w s1.heap k e.2:=fun y hy=>hall1 y (Zgq _ hy)
   cases k with
   | one k =>
    have:∀a,x ≠ Au:=fun a e=>by
     rcases za7 hk with ⟨j,t,_,e2⟩ | ⟨y,t,_,e2⟩ <;> (rw[show x=_ from e2] at e;cases e)
    cases x with
    | ref a=>exact absurd rfl (this a)
    | _=>exact Zgj (Aw rfl hrest1)
   | many kk =>
    obtain⟨b,e,hb⟩:=hk
    have e':x= .ref b:=e
    subst e'
    refine Zge (Zne hb.typeIs F.slot_tuple_eq.lookup ?_)
    rw[if_pos (by decide +kernel)]
    exact Zgj (Zgj (Zgj (q false)))
  .rintro⟨r1,r2⟩ s1 ⟨hr1,rfl,_⟩
   simp only at hr1
   subst hr1
   exact Zgj (Aw rfl hrest)
 .rintro⟨r1,r2⟩ s' ⟨hr,rfl,_⟩
  simp only at hr
  subst hr
  exact Zgj (q true)
theorem zpy {a f : Addr} {others : List Addr} {o : Obj} {ks kf : AN} {es ef : Array (Int × Zgi)} {ep : Nat} {t : Zgm} {Q : Array (Int × Zgi) -> Zgk -> Prop} (ho : Bq (s.heap.get? a) o) (S : SetO prog w s.heap o ks es ep t)
  (hoth:∀b∈others,∃k e,AG w s.heap b k e) (hf:AG w s.heap f kf ef)
  (q:∀(e1:AA) (h':Heap) (d:Zp5),e1.toList.Perm es.toList->Zhq f s.heap h'->AG w h' f kf ef->Q e1 { s with heap:=h',drawn:=d }) :
  An w A (Zoc a others (some f)) Q E s:=by
 unfold Zoc
 refine Zge (zcp (M:=A3 w) ho S ?_)
 dsimp only
 refine Zge (zqf ?_)
 refine Zh7 Bp Bp
 .exact zha ho S.lite fun e1 d hp=>q e1 s.heap d hp (Zio _ _) hf
 .refine Zge (zv6 (fun b=>?_) (a::others) fun b hb=>?_)
  .refine Zh7 Bp Bp
   .exact zha ho S.lite fun e1 d hp=>q e1 s.heap d hp (Zio _ _) hf
   .refine Zge (Zj1 ?_)
    obtain⟨of,epf,tf,hof,Sf⟩:=hf
    refine Zge (zcp (M:=A3 w) hof Sf ?_)
    dsimp only
    refine Zh7 Bp Bp
    .have hz:AL ef.size:=zbj (by have:=Sf.small;have:=Sf.ent.length;simp at this;lia)
     refine Zge (Zka hof Sf.data (Zgj ?_) hz)
     have sb:=Zh6 s.heap f (Zmr ef { tf with led:=tf.led&&t.led,plain:=tf.plain&&t.plain })
     refine q es _ s.drawn (.refl _) sb ⟨_,epf+1,{ tf with led:=tf.led&&t.led,plain:=tf.plain&&t.plain },zfn hof Sf.data _ _,?_⟩
     exact⟨Sf.ex,rfl,zjw Sf.tab rfl rfl rfl,Sf.ent.mono (zbx (es:=ef) (ep:=epf) (t:=tf) hof Sf.ex sb),Sf.nod,Sf.small,by
      show(tf.led&&t.led)=_
      rw[Sf.led,S.led];simp,Sf.kind⟩
    .exact Zgj (q es s.heap s.drawn (.refl _) (Zio _ _) ⟨of,epf,tf,hof,Sf⟩)
  .rcases Zgp.mp hb with rfl | hb
   .exact⟨ks,es,o,ep,t,ho,S⟩
   .exact hoth b hb
theorem zys{a:Addr}{others:List Addr}{o:Obj}{ks:AN}{es:AA}{ep:Nat}{t:Zgm}{Q:AA->Ah}(ho:AH a o)(S:SetO prog w s.heap o ks es ep t)
  (hoth:∀b∈others,∃k e,AG w s.heap b k e) (q:∀(e1:AA) (d:Zp5),e1.toList.Perm es.toList->Q e1 { s with drawn:=d }) :
  An w A (Zoc a others none) Q E s:=by
 unfold Zoc
 refine Zge (zcp (M:=A3 w) ho S ?_)
 dsimp only
 refine Zge (zqf ?_)
 refine Zh7 Bp Bp
 .exact zha ho S.lite fun e1 d hp=>q e1 d hp
 .refine Zge (zv6 (fun b=>?_) (a::others) fun b hb=>?_)
  .refine Zh7 Bp Bp
   .exact zha ho S.lite fun e1 d hp=>q e1 d hp
   .exact Zge (Zj1 (Zgj (q es s.drawn (.refl _))))
  .rcases Zgp.mp hb with rfl | hb
   .exact⟨ks,es,o,ep,t,ho,S⟩
   .exact hoth b hb
end
section
variable{prog:Zg8}{w:Zhy}{A:Zhk}{E:Zgi->Zgk->Prop}{s:Zgk}
theorem SetE.mono{h h':Heap}{a:Addr}{ks:AN}{es:AA}(x:AG w h a ks es)(g:∀o,A0 a o->AU a o)(K:zet h h'):AG w h' a ks es :=
 let ⟨o,ep,t,ho,S⟩:=x;⟨o,ep,t,g o ho,S.mono K⟩
theorem SetE.typeIs{a:Addr}{ks:AN}{es:AA}(x:AG w s.heap a ks es):s.TypeIs Au "set" := let ⟨o,_,_,ho,S⟩:=x;⟨o,ho,S.ex.1⟩
theorem SetE.keepT{h h':Heap}{a:Addr}{ks:AN}{es:AA}(x:AG w h a ks es)(sb:Zhq a h h'):zet h h' :=
 let ⟨_,ep,t,ho,S⟩:=x;zbx (es:=es) (ep:=ep) (t:=t) ho S.ex sb
theorem zk9{Q:Zgi->Ah}(q:AG w (s.heap.push { cls:=.type "set", dict:=none,data:=.set #[] 0 (.fresh 0 0 (led0 w)) }) s.heap.objs.size [] (#[])->Q Bz { s with heap:=s.heap.push { cls:=.type "set", dict:=none,data:=.set #[] 0 (.fresh 0 0 (led0 w)) } }) :
  An w A (newSet (.type "set")) Q E s:=by
 unfold newSet
 refine Zge (zqf ?_)
 dsimp only
 simp only[newObj]
 refine Zge (wpAny_alloc (Zgj (q ?_)))
 exact⟨_,0,_,Zgx _ rfl,(Aw rfl rfl),rfl,znu 0 0 _,.nil,Zlm,by simp,rfl,true,fun k hk=>by cases hk⟩
theorem zw8{a:Addr}{ks:AN}{es:AA}{Q:Zgi->Ah}(x:AG w s.heap a ks es)(q:Q (.type "set") s):An w A (Zoo a) Q E s:=by
 unfold Zoo
 exact Zge (Zmv x.typeIs Zrh (Zgj q))
theorem zkc{a:Addr}{ks:AN}{es:AA}{Q:Bool->Ah}(x:AG w s.heap a ks es)(q:Q true s):An w A (Zhw Au) Q E s:=by
 unfold Zhw
 exact Zge (Zmv x.typeIs Zrh (Zgj q))
theorem zhr{a:Addr}{ks:AN}{es:AA}{Q:Nat->Ah}(x:AG w s.heap a ks es)(q:Q es.size s):An w A (Zme a) Q E s:=by
 obtain⟨o,ep,t,ho,S⟩:=x
 unfold Zme
 exact Zge (Zke ho S.data S.fits (Zgj q))
structure Took(kb:List SK)(p:SK->Bool)(es0:List (Int×Zgi))(kd:List SK)(kr:List SK)(er:Array (Int×Zgi)):Prop where
 mem:∀k,k∈kr↔k∈kb\/(k∈kd/\p k=true)
 len:kr.length<=kb.length+kd.length
 ent:∀e∈er.toList,e∈es0
theorem zn7 {r : Addr} {ks kb : AN} {es0 : List (Int × Zgi)} {f : Bool} {p : SK -> Bool} {hp : Heap} (body : Int × Zgi -> Sem (ForInStep Unit)) (hf : ∀ k ∈ ks, k.flat = f) (hg : ∀ k ∈ kb, k.flat = f) (hn : kb.length + ks.length <= 1000)
  (hb:∀(e:Int×Zgi) (k:SK) (s:Zgk) (kr:AN) (er:AA) (Q:ForInStep Unit->Ah),k∈ks->e.1=k.hash prog w->k.is prog w s.heap e.2->AG w s.heap r kr er->(∀k'∈kr,k'.flat=k.flat)->kr.length+1<=1000 ->
   (∀b o,b≠r->Aa (hp.get? b) o->AH b o)->zet hp s.heap ->
   (∀h' k1 e1,Zhq r s.heap h'->AG w h' r k1 e1->(∀k',k'∈k1↔k'∈kr\/(k'=k/\Ab (p k)))->k1.length<=kr.length+1->(∀e'∈e1.toList,e'∈er.toList\/e'=e)->BG (.yield ())) ->
   An w A (body e) Q E s) :
  ∀(l:Ai Int Zgi) (kl kd:AN) (s:Zgk) (kr:AN) (er:AA) (Q:Unit->Ah),Es prog w hp kl l->(∀e∈l,e∈es0)->kd++kl=ks->zet hp s.heap->(∀b o,b≠r->Aa (hp.get? b) o->AH b o)->AG w s.heap r kr er->Took kb p es0 kd kr er ->
   (∀h' k1 e1,Zhq r s.heap h'->AG w h' r k1 e1->Took kb p es0 ks k1 e1->BG ()) ->
   An w A (Zsy l () fun e _=>body e) Q E s:=by
 intro l
 induction l with
 | nil =>
  intro kl kd s kr er Q x hin hks K Kb hr tk q
  cases x
  rw[Zh0] at hks;subst hks
  exact Zgj (q s.heap kr er (Zio _ _) hr tk)
 | cons e l ih =>
  intro kl kd s kr er Q x hin hks K Kb hr tk q
  cases x with
  | @cons k _ kl' _ h1 h2 x' =>
   rw[Zk8]
   have hkf:k.flat=f:=hf k (by rw[<- hks];simp)
   refine Zge (hb e k s kr er _ (by rw[<- hks];simp) h1 (SK.is_mono K h2) hr (fun k' hk'=>?_) ?_ Kb K fun h' k1 e1 sb S1 m1 l1 en1=>?_)
   .rw[hkf]
    rcases(tk.mem k').mp hk' with z | z
    .exact hg k' z
    .exact hf k' (by rw[<- hks];exact Zit _ z.1)
   .have:=tk.len
    have hl:ks.length=kd.length+(k::kl').length:=by rw[<- hks,Zhl]
    simp at hl;lia
   .have kT:=hr.keepT sb
    refine ih kl' (kd++[k]) { s with heap:=h' } k1 e1 Q x' (fun e' he'=>hin e' (Zgq _ he')) (by rw[<- hks];simp) (fun b o c z=>kT b o c (K b o c z)) (fun b o hb' z=>(sb.2 b hb').trans (Kb b o hb' z)) S1 ⟨fun k'=>?_,?_,fun e' he'=>?_⟩ fun h2 k2 e2 sb2 S2 t2=>q h2 k2 e2 (sb.trans sb2) S2 t2
    .rw[m1,tk.mem,Zhh,Zg0]
     constructor
     .rintro((c | ⟨a,b⟩) | ⟨rfl,b⟩)
      .exact .inl c
      .exact .inr ⟨.inl a,b⟩
      .exact .inr ⟨.inr rfl,b⟩
     .rintro(c | ⟨a | rfl,b⟩)
      .exact .inl (.inl c)
      .exact .inl (.inr ⟨a,b⟩)
      .exact .inr ⟨rfl,b⟩
    .have:=tk.len;simp;lia
    .rcases en1 e' he' with z | z
     .exact tk.ent e' z
     .rw[z];exact hin e Zgz
end
section
variable{prog:Zg8}{w:Zhy}{A:Zhk}{E:Zgi->Zgk->Prop}{s:Zgk}
theorem zqo{nm:String}{a:Addr}{o:Obj}{es:AA}{ep:Nat}{t:Zgm}{Q:Unit->Ah}(ho:AH a o)(S:SetL w o es ep t)(q:Q () s):An w A (Zjp nm a ep) Q E s:=by
 unfold Zjp
 refine Zge (Zkv ho S.data S.fits ?_)
 simp only[bne_self_eq_false,Zgw,if_false]
 exact Zgj q
theorem zz8{wk ak r:Addr}{kw ka:AN}{ew ea:AA}{nm:String}{ep:Nat}{ow:Obj}{tw:Zgm}{f:Bool}{Q:Unit->Ah}(body:Int×Zgi->Sem (ForInStep Unit))(neg:Bool)(hu:A.units<Zl2)
  (hbody:∀(h:Int) (x:Zgi) (s:Zgk) (Q:ForInStep Unit->Ah),
   An w A (Zyg ak x h) (fun rr s1 =>
    (Ab (rr.isSome != neg)->An w A (Zri r x h) (fun _ s2=>An w A (Zjp nm wk ep) (fun _ s3=>Q (.yield ()) s3) E s2) E s1) /\
    (Am (rr.isSome != neg)->An w A (Zjp nm wk ep) (fun _ s3=>Q (.yield ()) s3) E s1)) E s->An w A (body (h,x)) Q E s)
  (hw:AH wk ow) (Sw:SetO prog w s.heap ow kw ew ep tw) (xa:AG w s.heap ak ka ea) (xr:AG w s.heap r [] (#[])) (hwr:wk≠r) (har:ak≠r) (hfw:∀k∈kw,k.flat=f) (hfa:∀k∈ka,k.flat=f)
  (e1:AA) (he1:e1.toList.Perm ew.toList)
  (q:∀h' kr er,Zhq r s.heap h'->AG w h' r kr er->(∀k,k∈kr↔k∈kw/\Ab (AE k ka != neg))->(∀e∈er.toList,e∈ew.toList)->BG ()) :
  An w A (Zsy e1 () fun e _=>body e) Q E s:=by
 obtain⟨k1,p1,x1⟩:=Sw.ent.perm he1
 rw[<- Zkz]
 refine zn7 (r:=r) (ks:=k1) (kb:=[]) (es0:=ew.toList) (f:=f) (p:=fun k=>AE k ka != neg) (hp:=s.heap) body (fun k hk=>hfw k (p1.mem_iff.mp hk)) (fun k hk=>by cases hk) (by have:=p1.length_eq;have:=Sw.small;simp;lia) ?_ e1.toList k1 [] s [] #[] Q x1 (fun e he=>he1.mem_iff.mp he) (by simp) (fun _ _ _ e=>e) (fun _ _ _ e=>e) xr ⟨fun k=>by simp,by simp,fun e he=>by simp at he⟩ fun h' kr er sb S' tk=>q h' kr er sb S' (fun k=>by rw[tk.mem,p1.mem_iff];simp) tk.ent
 rintro⟨hh,x⟩ k s1 kr er Q1 hk0 h1 h2 S1 hk1 hr1 Kb K q1
 dsimp only at h1 h2
 subst h1
 have hin:k∈kw:=p1.mem_iff.mp hk0
 obtain⟨oa,epa,ta,hoa,Sa⟩:=xa
 have hoa1:=Kb ak oa har hoa
 have Sa1:=Sa.mono K
 have hw1:=Kb wk ow hwr hw
 refine hbody _ _ _ _ (zzs hu hoa1 Sa1 (fun k' hk'=>by rw[hfa k' hk',hfw k hin]) h2 fun rr f1 f2=>?_)
 have hrr:rr.isSome=AE k ka:=by
  cases rr with
  | none=>exact(decide_eq_false (f2 rfl)).symm
  | some i=>exact(decide_eq_true (Zgs (f1 i rfl))).symm
 rw[hrr]
 obtain⟨or,epr,tr,hor,Sr⟩:=id S1
 refine⟨fun hp=>?_,fun hp=>?_⟩
 .refine yck hu hor Sr hk1 h2 hr1 fun h' k2 e2 sb S2 p2 en2=>?_
  refine zqo ((sb.2 wk hwr).trans hw1) Sw.lite (q1 h' k2 e2 sb S2 (fun k'=>?_) ?_ en2)
  .rw[p2.mem_iff]
   split
   .rename_i hkr
    exact⟨.inl,fun z=>z.elim id fun z=>z.1 ▸ hkr⟩
   .rw[Zgp]
    exact⟨fun z=>z.elim (fun z=>.inr ⟨z,hp⟩) .inl,fun z=>z.elim .inr fun z=>.inl z.1⟩
  .rw[p2.length_eq];split <;> simp
 .refine zqo hw1 Sw.lite (q1 s1.heap kr er (Zio _ _) S1 (fun k'=>⟨.inl,fun z=>z.elim id fun z=>?_⟩) (by lia) fun e he=>.inl he)
  have h3:Ab (AE k ka != neg):=z.2
  rw[hp] at h3;cases h3
theorem yal {a b : Addr} {ka kb : AN} {ea eb : Array (Int × Zgi)} {f : Bool} {nm : String} {Q : Zgi -> Zgk -> Prop} (hu : A.units < Zl2) (hab : a ≠ b) (xa : AG w s.heap a ka ea) (xb : AG w s.heap b kb eb)
  (hfa:∀k∈ka,k.flat=f) (hfb:∀k∈kb,k.flat=f)
  (q:∀(h':Heap) (d:Zp5) (r:Addr) kr er,zcu s.heap h'->s.heap.objs.size<=r->AG w h' r kr er->(∀k,k∈kr↔k∈ka/\k∈kb)->(∀e∈er.toList,e∈ea.toList\/e∈eb.toList)->Q (.ref r) { s with heap:=h',drawn:=d }) :
  An w A (Zns nm a (.ref b)) Q E s:=by
 have hba:Am (Zh3 b == Zh3 a):=by
  rw[beq_eq_false_iff_ne];exact fun e=>by cases e;exact hab rfl
 unfold Zns
 rw[hba]
 simp only[Zgw,if_false]
 refine Zge (zw8 xa ?_)
 refine Zge (zk9 fun xr=>?_)
 generalize hN:s.heap.push { cls:=.type "set", dict:=none,data:=.set #[] 0 (.fresh 0 0 (led0 w)) }=h1 at xr ⊢
 have k1:zcu s.heap h1:=by rw[<- hN];exact zbu
 have xa1:AG w h1 a ka ea:=xa.mono (fun o e=>k1 a o e) k1.T
 have xb1:AG w h1 b kb eb:=xb.mono (fun o e=>k1 b o e) k1.T
 have hra:a≠s.heap.objs.size:=let ⟨_,_,_,ho,_⟩:=xa;Zhb (Zgv ho)
 have hrb:b≠s.heap.objs.size:=let ⟨_,_,_,ho,_⟩:=xb;Zhb (Zgv ho)
 refine Ba ?_
 refine Zge (Zhx ?_)
 refine Zge (zkc (s:={ s with heap:=h1 }) xb1 ?_)
 simp only[if_true]
 refine Ba ?_
 refine Zge (zhr (s:={ s with heap:=h1 }) xb1 ?_)
 refine Zge (zhr (s:={ s with heap:=h1 }) xa1 ?_)
 have fin : ∀ (wk ak : Addr) (kw kk : AN) (ew ek : Array (Int × Zgi)), AG w h1 wk kw ew -> AG w h1 ak kk ek -> wk ≠ s.heap.objs.size -> ak ≠ s.heap.objs.size -> (∀ k ∈ kw, k.flat = f) -> (∀ k ∈ kk, k.flat = f) ->
   (∀k,k∈kw/\k∈kk↔k∈ka/\k∈kb)->(∀e∈ew.toList,e∈ea.toList\/e∈eb.toList) ->
   An w A ((do
    let was <- setEpoch wk
    for (h,x) in <- Zoc wk [ak,s.heap.objs.size] (some s.heap.objs.size) do
     Zvg [x] do
      if (<- Zyg ak x h).isSome then
       let _ <- Zri s.heap.objs.size x h
     Zjp nm wk was)) (fun _ s'=>An w A (pure (Zh3 s.heap.objs.size)) Q E s') E { s with heap:=h1 }:=by
  intro wk ak kw kk ew ek xw xk hw hk f1 f2 hm he
  obtain⟨ow,epw,tw,how,Sw⟩:=id xw
  refine Zge (Zkv how Sw.data Sw.fits ?_)
  refine Zge (zpy how Sw (fun c hc=>?_) xr fun e1 h2 d p2 sb2 xr2=>?_)
  .simp only[Zgp,Zhf,or_false] at hc
   rcases hc with rfl | rfl
   .exact(AD _ xk)
   .exact(AD _ xr)
  .have kT:=xr.keepT sb2
   refine Zge (zz8 (s:={ s with heap:=h2,drawn:=d }) (wk:=wk) (ak:=ak) (nm:=nm) (ep:=epw) (f:=f) _ false hu ?_ ((sb2.2 wk hw).trans how) (Sw.mono kT) (xk.mono (fun o e=>(sb2.2 ak hk).trans e) kT) xr2 hw hk f1 f2 e1 p2 fun h3 kr er sb3 S3 m3 en3=>?_)
   .intro h x s1 Q1 hq
    refine Zge (Zhx (Zge (Zif hq (fun rr s2 hr=>?_) fun _ _ z=>z)))
    cases hrr:rr.isSome with
    | true =>
     rw[if_pos rfl]
     exact Zge (Zif (hr.1 (by rw[hrr];rfl)) (fun _ s3 z=>Zgj (Zge (Zif z (fun _ _ y=>Zgj y) fun _ _ y=>y))) fun _ _ z=>z)
    | false =>
     simp only[Zgw,if_false]
     exact Zgj (Zge (Zif (hr.2 (by rw[hrr];rfl)) (fun _ _ y=>Zgj y) fun _ _ y=>y))
   .refine Zgj (Zgj ?_)
    refine q h3 d _ kr er (fun b o e=>?_) Ay S3 (fun k=>?_) (fun e z=>he e (en3 e z))
    .have hb:b≠s.heap.objs.size:=Zhb (Zgv e)
     exact(sb3.2 b hb).trans ((sb2.2 b hb).trans (k1 b o e))
    .rw[m3,<- hm];simp
 split
 .exact fin a b ka kb ea eb xa1 xb1 hra hrb hfa hfb (fun k=>Zvw) (fun e h=>.inl h)
 .exact fin b a kb ka eb ea xb1 xa1 hrb hra hfb hfa (fun k=>And.comm) (fun e h=>.inr h)
end
section
variable{prog:Zg8}{w:Zhy}{A:Zhk}{E:Zgi->Zgk->Prop}{s:Zgk}
theorem zvj{r:Addr}{o:Obj}{ks:AN}{es:AA}{ep:Nat}{t:Zgm}{wanted:Nat}{Q:Unit->Ah}(ho:AH r o)(S:SetO prog w s.heap o ks es ep t)(h1:2*es.size<=wanted)(h2:wanted<=4095)
  (q:∀h' o1 k1 e1 ep1 t1,Zhq r s.heap h'->AU r o1->SetO prog w h' o1 k1 e1 ep1 t1->k1.Perm ks->e1.toList.Perm es.toList->t1.dummies= #[]->t1.mask=Zsi wanted - 1->BG ()):An w A (Zv3 r wanted) Q E s:=by
 obtain⟨t2,order,r1,r7,r8,r2,_,_,r4,r6,r5⟩:=zi3 t es wanted h1 h2
 have hz:es.size<=1000:=by have:=S.small;have:=S.ent.length;simp at this;lia
 unfold Zv3
 refine Zge (zcp (M:=A3 w) ho S ?_)
 dsimp only
 rw[if_neg (zgl h2)]
 rw[r1]
 refine Zge (Zh7 (fun h=>absurd h (by rw[r6];simp)) (fun _=>Zgj ?_))
 refine Zka ho S.data ?_ (zbj (by rw[r6];lia))
 obtain⟨k2,q1,q2⟩:=S.ent.perm r4
 have sb:=Zh6 s.heap r (Zmr (order.filterMap (es[·]?)) t2)
 have kT:zet s.heap _:=zbx (es:=es) (ep:=ep) (t:=t) ho S.ex sb
 refine q _ _ k2 _ (ep+1) t2 sb (zfn ho S.data _ t2) ⟨S.ex,rfl,r5,q2.mono kT,q1.nodup_iff.mpr S.nod,by rw[q1.length_eq];exact S.small,by rw[r2];exact S.led,?_⟩ q1 r4 r7 r8
 obtain⟨f,hf⟩:=S.kind
 exact⟨f,fun k hk=>hf k (q1.mem_iff.mp hk)⟩
theorem ydt{r:Addr}{o:Obj}{ks:AN}{es:AA}{ep:Nat}{t:Zgm}{more:Nat}{Q:Unit->Ah}(ho:AH r o)(S:SetO prog w s.heap o ks es ep t)(hm:0<more)(h2:es.size+more<=2000)
  (q:∀h' o1 k1 e1 ep1 t1,Zhq r s.heap h'->AU r o1->SetO prog w h' o1 k1 e1 ep1 t1->k1.Perm ks->e1.toList.Perm es.toList->more*5<t1.mask*3->BG ()):An w A (setRoomFor r more) Q E s:=by
 unfold setRoomFor
 refine Zge (zcp (M:=A3 w) ho S ?_)
 dsimp only
 unfold SetTable.roomFor
 have hsz:t.place.size=es.size:=by simpa using S.tab.size
 by_cases hc:(t.fill+more)*5 ≥ t.mask*3
 .rw[if_pos hc]
  dsimp only
  refine zvj ho S (by rw[hsz];lia) (by rw[hsz];lia) fun h' o1 k1 e1 ep1 t1 a b c d e f g=>q h' o1 k1 e1 ep1 t1 a b c d e ?_
  obtain⟨_,g2,_⟩:=zf0 ((t.place.size+more)*2) (by rw[hsz];lia)
  rw[g];rw[hsz] at g2 ⊢;lia
 .rw[if_neg hc]
  exact Zgj (q s.heap o ks es ep t (Zio _ _) ho S (.refl _) (.refl _) (by lia))
end
section
variable{prog:Zg8}{w:Zhy}{A:Zhk}{E:Zgi->Zgk->Prop}{s:Zgk}
theorem zw0{r o:Addr}{kr ko:AN}{er eo:AA}{oo:Obj}{epo:Nat}{to:Zgm}{f:Bool}{each:Sem Unit}{Q:Unit->Ah}(hu:A.units<Zl2)(hro:r≠o)(xr:AG w s.heap r kr er)
  (ho:AH o oo) (So:SetO prog w s.heap oo ko eo epo to) (hfr:∀k∈kr,k.flat=f) (hfo:∀k∈ko,k.flat=f) (hsz:kr.length+ko.length<=1000)
  (heach:∀(s':Zgk) (Q':Unit->Ah),Aa (s'.heap.get? o) oo->Q' () s'->An w A each Q' E s')
  (q:∀(h':Heap) (d:Zp5) k1 e1,Zhq r s.heap h'->AG w h' r k1 e1->(∀k,k∈k1↔k∈kr\/k∈ko)->(∀e∈e1.toList,e∈er.toList\/e∈eo.toList)->Q () { s with heap:=h',drawn:=d }) :
  An w A (setMerge r o each) Q E s:=by
 have hb:Am (r == o):=by rw[beq_eq_false_iff_ne];exact hro
 have hlo:eo.size=ko.length:=by have:=So.ent.length;simp at this;lia
 obtain⟨or,epr,tr,hor,Sr⟩:=id xr
 have hlr:er.size=kr.length:=by have:=Sr.ent.length;simp at this;lia
 unfold setMerge
 rw[hb]
 simp only[Zgw,if_false]
 refine Zge (zcp (M:=A3 w) ho So ?_)
 dsimp only
 refine Zh7 (fun hemp=>?_) (fun hne=>?_)
 .have h0:ko=[]:=by
   have:eo.size=0:=by simpa using hemp
   exact Zi9 (by lia)
  exact Zgj (q s.heap s.drawn kr er (Zio _ _) xr (fun k=>by rw[h0];simp) (fun e he=>.inl he))
 .have hpos:0<eo.size:=by
   refine Zt5 fun z=>hne ?_
   simpa using z
  refine Zge (ydt hor Sr hpos (by lia) fun h1 o1 k1 e1 ep1 t1 sb1 g1 S1 p1 pe1 hrm=>?_)
  have kT1:zet s.heap h1:=xr.keepT sb1
  have ho1:Aa (h1.get? o) oo:=(sb1.2 o (Zh1 hro)).trans ho
  refine Zge (zcp (M:=A3 w) (s:={ s with heap:=h1 }) g1 S1 ?_)
  dsimp only
  have hl1:e1.size=k1.length:=by have:=S1.ent.length;simp at this;lia
  have hz0:t1.fill=0->k1=[]:=fun z=>by
   have h3:t1.place.size=e1.size:=by simpa using S1.tab.size
   have h4:t1.place.size=0:=by unfold Zqr at z;lia
   exact Zi9 (by lia)
  have stored:∀(e2:AA) (t2:Zgm) (k2:AN),k1=[]->SOk t2 e2.toList->e2.toList.Perm eo.toList->k2.Perm ko->Es prog w s.heap k2 e2.toList->t2.led=led0 w ->
    An w A (Zv2 r e2 t2) Q E { s with heap:=h1 }:=fun e2 t2 k2 hk1 ok pe pk en hl=>by
   have hz:e2.size<=1000:=by have:=pe.length_eq;simp at this;lia
   refine Zka g1 S1.data ?_ (zbj (by lia))
   have sb2:=Zh6 h1 r (Zmr e2 t2)
   have kT2:zet h1 _:=zbx (es:=e1) (ep:=ep1) (t:=t1) g1 S1.ex sb2
   have hkr:kr=[]:=by
    have:=p1.length_eq;rw[hk1] at this;exact Zi9 (by simpa using this.symm)
   refine q _ s.drawn k2 e2 (sb1.trans sb2) ⟨_,ep1+1,t2,zfn g1 S1.data e2 t2,S1.ex,rfl,ok,(en.mono kT1).mono kT2,pk.nodup_iff.mpr So.nod,by rw[pk.length_eq];exact So.small,hl,f,fun k hk=>hfo k (pk.mem_iff.mp hk)⟩ (fun k=>?_) (fun e he=>.inr (pe.mem_iff.mp he))
   rw[pk.mem_iff,hkr];simp
  obtain⟨kp,hpow⟩:=S1.tab.ok.pow
  unfold SetTable.road
  by_cases hfill:t1.fill=0
  .have hk1:=hz0 hfill
   have hff:Am (t1.fill != 0):=by rw[hfill];rfl
   rw[hff]
   simp only[Zgw,if_false]
   by_cases hmk:Ab (t1.mask == to.mask&&to.dummies.isEmpty)
   .rw[if_pos hmk]
    refine stored eo { to with finger:=t1.finger,led:=t1.led&&to.led,moves:=t1.moves,plain:=t1.plain&&to.plain } ko hk1 (zjw So.tab rfl rfl rfl) (.refl _) (.refl _) So.ent ?_
    show(t1.led&&to.led)=_
    rw[S1.led,So.led];simp
   .rw[if_neg hmk]
    dsimp only
    obtain⟨t2,order,z1,z2,z3,z4,z5,z6,z7,z8,z9,z10,z11⟩:=zuz t1.mask kp hpow S1.tab.ok.big t1.finger t1.moves (t1.led&&to.led) (t1.plain&&to.plain) eo hrm
    rw[z1]
    refine Zge (Zh7 (fun h=>absurd h (by rw[z10];simp)) (fun _=>Zgj ?_))
    obtain⟨k2,pk,en⟩:=So.ent.perm z9
    exact stored _ t2 k2 hk1 z11 z9 pk en (by rw[z4,S1.led,So.led];simp)
  .have hff:Ab (t1.fill != 0):=by rw[bne_iff_ne];exact hfill
   rw[hff,if_pos rfl]
   dsimp only
   have xr1:AG w h1 r k1 e1:=⟨o1,ep1,t1,g1,S1⟩
   refine Zge (zpy (s:={ s with heap:=h1 }) ho1 (So.mono kT1) (fun c hc=>?_) xr1 fun e2 h2 d p2 sb2 xr2=>?_)
   .simp only[Zgp,Zhf,or_false] at hc
    subst hc;exact(AD _ xr1)
   .have kT2:zet h1 h2:=xr1.keepT sb2
    obtain⟨k2,pk,en⟩:=((So.ent.mono kT1).mono kT2).perm p2
    rw[<- Zkz]
    have hks:k1.length+k2.length<=1000:=by rw[p1.length_eq,pk.length_eq];exact hsz
    refine Zge (zn7 (r:=r) (ks:=k2) (kb:=k1) (es0:=er.toList++eo.toList) (f:=f) (p:=fun _=>true) (hp:=h2) _ (fun k hk=>hfo k (pk.mem_iff.mp hk)) (fun k hk=>hfr k (p1.mem_iff.mp hk)) hks ?_ e2.toList k2 [] { s with heap:=h2,drawn:=d } k1 e1 _ en (fun e he=>Zho _ (p2.mem_iff.mp he)) (by simp) (fun _ _ _ e=>e) (fun _ _ _ e=>e) xr2
     ⟨fun k=>by simp,by simp,fun e he=>Zit _ (pe1.mem_iff.mp he)⟩ fun h3 k3 e3 sb3 S3 tk=>Zgj (q h3 d k3 e3 ((sb1.trans sb2).trans sb3) S3 (fun k=>by rw[tk.mem,p1.mem_iff,pk.mem_iff];simp) (fun e he=>Zhh.mp (tk.ent e he))))
    rintro⟨hh,x⟩ k s1 kr' er' Q1 hk0 c1 c2 S4 hk1 hr1 Kb K q1
    dsimp only at c1 c2
    subst c1
    obtain⟨o4,ep4,t4,g4,T4⟩:=id S4
    refine Zge (Zhx (yck hu g4 T4 hk1 c2 hr1 fun h' k5 e5 sb5 S5 p5 en5=>?_))
    have hoo:AU o oo:=(sb5.2 o (Zh1 hro)).trans (Kb o oo (Zh1 hro) ((sb2.2 o (Zh1 hro)).trans ho1))
    refine Zge (heach _ _ hoo ?_)
    refine Zge (zgb (s:={ s1 with heap:=h' }) hoo So.lite ?_)
    simp only[bne_self_eq_false,Zgw,if_false]
    refine Zgj (q1 h' k5 e5 sb5 S5 (fun k'=>?_) ?_ en5)
    .rw[p5.mem_iff]
     split
     .rename_i hkr
      exact⟨.inl,fun z=>z.elim id fun z=>z.1 ▸ hkr⟩
     .rw[Zgp]
      exact⟨fun z=>z.elim (fun z=>.inr (AF z)) .inl,fun z=>z.elim .inr fun z=>.inl z.1⟩
    .rw[p5.length_eq];split <;> simp
theorem yab{a:Addr}{ka:AN}{ea:AA}{Q:Zgi->Ah}(hu:A.units<Zl2)(xa:AG w s.heap a ka ea)
  (q:∀(h':Heap) (d:Zp5) (r:Addr) k1 e1,zcu s.heap h'->s.heap.objs.size<=r->AG w h' r k1 e1->(∀k,k∈k1↔k∈ka)->(∀e∈e1.toList,e∈ea.toList)->Q (.ref r) { s with heap:=h',drawn:=d }) :
  An w A (Zmf a) Q E s:=by
 unfold Zmf
 refine Zge (zw8 xa ?_)
 refine Zge (zk9 fun xr=>?_)
 generalize hN:s.heap.push { cls:=.type "set", dict:=none,data:=.set #[] 0 (.fresh 0 0 (led0 w)) }=h1 at xr ⊢
 have k1:zcu s.heap h1:=by rw[<- hN];exact zbu
 obtain⟨oa,epa,ta,hoa,Sa⟩:=xa
 have hra:s.heap.objs.size≠a:=Zla (Zgv hoa)
 obtain⟨f,hf⟩:=Sa.kind
 refine Ba ?_
 refine Zge (zw0 (s:={ s with heap:=h1 }) (f:=f) hu hra xr (k1 a oa hoa) (Sa.mono k1.T) (fun k hk=>by cases hk) hf (by have:=Sa.small;simp;omega) (fun s' Q' _ h=>Zgj h) fun h2 d k2 e2 sb S2 m2 en2=>?_)
 refine Zgj (q h2 d _ k2 e2 (fun b o e=>(sb.2 b (Zhb (Zgv e))).trans (k1 b o e)) Ay S2 (fun k=>by rw[m2];simp) (fun e he=>by
  rcases en2 e he with z | z
  .simp at z
  .exact z))
end
section
variable{prog:Zg8}{w:Zhy}{A:Zhk}{E:Zgi->Zgk->Prop}{s:Zgk}
theorem Es.erase{h:Heap}{ks:AN}{es:Ai Int Zgi}(x:Es prog w h ks es):∀i,Es prog w h (ks.eraseIdx i) (es.eraseIdx i):=by
 induction x with
 | nil=>intro i;exact .nil
 | cons a b y ih =>
  intro i
  cases i with
  | zero=>exact y
  | succ i=>exact .cons a b (ih i)
theorem zuh{r:Addr}{o:Obj}{ks:AN}{es:AA}{ep:Nat}{t:Zgm}{x:Zgi}{k:SK}{Q:Bool->Ah}(hu:A.units<Zl2)
  (ho:AH r o) (S:SetO prog w s.heap o ks es ep t) (hk:∀k'∈ks,k'.flat=k.flat) (hx:k.is prog w s.heap x)
  (q:∀b h' k1 e1,Zhq r s.heap h'->AG w h' r k1 e1->(∀k',k'∈k1↔k'∈ks/\k'≠k)->(∀e∈e1.toList,e∈es.toList)->BG b) :
  An w A (Zxj r x (k.hash prog w)) Q E s:=by
 unfold Zxj
 refine Zge (zzs hu ho S hk hx fun rr f1 f2=>?_)
 cases rr with
 | none =>
  have hn:=f2 rfl
  exact Zgj (q false s.heap ks es (Zio _ _) ⟨o,ep,t,ho,S⟩ (fun k'=>⟨fun h=>⟨h,fun e=>hn (e ▸ h)⟩,fun h=>h.1⟩) (fun e he=>he))
 | some i =>
  have hi:=f1 i rfl
  have hil:i<ks.length:=(Zgo.mp hi).1
  have hlen:es.size=ks.length:=by have:=S.ent.length;simp at this;lia
  dsimp only
  refine Zge (zcp (M:=A3 w) ho S ?_)
  dsimp only
  obtain⟨d1,d2,d3⟩:=yag t es i S.tab (by lia)
  have hel:(Zkr es i).toList=es.toList.eraseIdx i:=by
   rw[zbi,Zpt]
  have hz:(Zkr es i).size<=1001:=by
   have:(Zkr es i).toList.length<=es.toList.length:=by rw[hel];exact List.length_eraseIdx_le ..
   have:=S.small
   simp at *;lia
  refine Zge (Zka ho S.data ?_ (zbj hz))
  refine Zge (wpAny_point ?_)
  have sb:=Zh6 s.heap r (Zmr (Zkr es i) (t.drop i))
  have kT:zet s.heap _:=zbx (es:=es) (ep:=ep) (t:=t) ho S.ex sb
  have hsub:(ks.eraseIdx i).Sublist ks:=Zsv ..
  refine Zgj (q true _ (ks.eraseIdx i) (Zkr es i) sb ⟨_,ep+1,t.drop i,zfn ho S.data _ _,S.ex,rfl,d1,?_,S.nod.sublist hsub,Zi6 hsub.length_le S.small,by rw[d2];exact S.led,?_⟩ (fun k'=>?_) (fun e he=>?_))
  .rw[hel];exact(S.ent.erase i).mono kT
  .obtain⟨f,hf⟩:=S.kind
   exact⟨f,fun k hk=>hf k (hsub.subset hk)⟩
  .obtain⟨hi1,hi2⟩:=Zgo.mp hi
   have hp:=zhk hi1
   rw[hi2] at hp
   have hnd:=hp.nodup_iff.mpr S.nod
   rw[Zid] at hnd
   constructor
   .intro h
    exact⟨hsub.subset h,fun e=>hnd.1 (e ▸ h)⟩
   .rintro⟨h1,h2⟩
    rcases Zgp.mp (hp.mem_iff.mpr h1) with e | e
    .exact absurd e h2
    .exact e
  .rw[hel] at he;exact(Zsv ..).subset he
theorem zxs{r:Addr}{kr0 ks:AN}{er0:AA}{f:Bool}{hp:Heap}(body:Int×Zgi->Sem (ForInStep Unit))(hf:∀k∈ks,k.flat=f)(hg:∀k∈kr0,k.flat=f)
  (hb:∀(e:Int×Zgi) (k:SK) (s:Zgk) (kr:AN) (er:AA) (Q:ForInStep Unit->Ah),e.1=k.hash prog w->k.is prog w s.heap e.2->AG w s.heap r kr er->(∀k'∈kr,k'.flat=k.flat) ->
   (∀b o,b≠r->Aa (hp.get? b) o->AH b o) ->
   (∀h' k1 e1,Zhq r s.heap h'->AG w h' r k1 e1->(∀k',k'∈k1↔k'∈kr/\k'≠k)->(∀e'∈e1.toList,e'∈er.toList)->BG (.yield ())) ->
   An w A (body e) Q E s) :
  ∀(l:Ai Int Zgi) (kl kd:AN) (s:Zgk) (kr:AN) (er:AA) (Q:Unit->Ah),Es prog w hp kl l->kd++kl=ks->zet hp s.heap->(∀b o,b≠r->Aa (hp.get? b) o->AH b o)->AG w s.heap r kr er ->
   (∀k,k∈kr↔k∈kr0/\k∉kd)->(∀e∈er.toList,e∈er0.toList) ->
   (∀h' k1 e1,Zhq r s.heap h'->AG w h' r k1 e1->(∀k,k∈k1↔k∈kr0/\k∉ks)->(∀e∈e1.toList,e∈er0.toList)->BG ()) ->
   An w A (Zsy l () fun e _=>body e) Q E s:=by
 intro l
 induction l with
 | nil =>
  intro kl kd s kr er Q x hks K Kb hr m en q
  cases x
  rw[Zh0] at hks;subst hks
  exact Zgj (q s.heap kr er (Zio _ _) hr m en)
 | cons e l ih =>
  intro kl kd s kr er Q x hks K Kb hr m en q
  cases x with
  | @cons k _ kl' _ h1 h2 x' =>
   rw[Zk8]
   have hkf:k.flat=f:=hf k (by rw[<- hks];simp)
   refine Zge (hb e k s kr er _ h1 (SK.is_mono K h2) hr (fun k' hk'=>by rw[hkf];exact hg k' ((m k').mp hk').1) Kb fun h' k1 e1 sb S1 m1 en1=>?_)
   have kT:=hr.keepT sb
   refine ih kl' (kd++[k]) { s with heap:=h' } k1 e1 Q x' (by rw[<- hks];simp) (fun b o c z=>kT b o c (K b o c z)) (fun b o hb' z=>(sb.2 b hb').trans (Kb b o hb' z)) S1 (fun k'=>?_) (fun e' he'=>en e' (en1 e' he')) fun h2 k2 e2 sb2 S2 m2 en2=>q h2 k2 e2 (sb.trans sb2) S2 m2 en2
   rw[m1,m,Zhh,Zg0,not_or]
   exact⟨fun⟨⟨a,b⟩,c⟩=>⟨a,b,c⟩,fun⟨a,b,c⟩=>⟨⟨a,b⟩,c⟩⟩
theorem yem{r:Addr}{ks:AN}{es:AA}{Q:Unit->Ah}(x:AG w s.heap r ks es)
  (q:∀h' k1 e1,Zhq r s.heap h'->AG w h' r k1 e1->k1.Perm ks->e1.toList.Perm es.toList->BG ()):An w A (setTidy r) Q E s:=by
 obtain⟨o,ep,t,ho,S⟩:=x
 have hlen:es.size<=1000:=by have:=S.ent.length;have:=S.small;simp at *;lia
 unfold setTidy
 refine Zge (zcp (M:=A3 w) ho S ?_)
 dsimp only
 refine Zh7 Bp Bp
 .exact zvj ho S (zcf hlen).1 (zcf hlen).2 fun h' o1 k1 e1 ep1 t1 sb g T p pe _ _=>q h' k1 e1 sb ⟨o1,ep1,t1,g,T⟩ p pe
 .exact Zgj (q s.heap ks es (Zio _ _) ⟨o,ep,t,ho,S⟩ (.refl _) (.refl _))
theorem zyg{r b:Addr}{kr kb:AN}{er eb:AA}{f:Bool}{nm:String}{Q:Unit->Ah}(hu:A.units<Zl2)(hrb:r≠b)(xr:AG w s.heap r kr er)(xb:AG w s.heap b kb eb)
  (hfr:∀k∈kr,k.flat=f) (hfb:∀k∈kb,k.flat=f) (hsz:¬ eb.size / 8>er.size)
  (q:∀(h':Heap) (d:Zp5) k1 e1,Zhq r s.heap h'->AG w h' r k1 e1->(∀k,k∈k1↔k∈kr/\k∉kb)->(∀e∈e1.toList,e∈er.toList)->Q () { s with heap:=h',drawn:=d }) :
  An w A (Znc nm r (.ref b)) Q E s:=by
 have hbr:Am (Zh3 b == Zh3 r):=by
  rw[beq_eq_false_iff_ne];exact fun e=>by cases e;exact hrb rfl
 unfold Znc
 rw[hbr]
 simp only[Zgw,if_false]
 refine Zge (zkc xb ?_)
 simp only[if_true]
 refine Ba ?_
 refine Zge (zhr xb ?_)
 refine Zge (zhr xr ?_)
 rw[if_neg hsz]
 obtain⟨ob,epb,tb,hob,Sb⟩:=id xb
 refine Zge (Zkv hob Sb.data Sb.fits ?_)
 refine Zge (Zhx ?_)
 refine Zge (zys hob Sb (fun c hc=>?_) fun e1 d p1=>?_)
 .simp only[Zgp,Zhf,or_false] at hc
  subst hc;exact(AD _ xr)
 .obtain⟨k1,pk,en⟩:=Sb.ent.perm p1
  rw[<- Zkz]
  refine Zge (zxs (r:=r) (ks:=k1) (kr0:=kr) (er0:=er) (f:=f) (hp:=s.heap) _ (fun k hk=>hfb k (pk.mem_iff.mp hk)) hfr ?_ e1.toList k1 [] { s with drawn:=d } kr er _ en (by simp) (fun _ _ _ e=>e) (fun _ _ _ e=>e) xr (fun k=>by simp) (fun e he=>he) fun h2 k2 e2 sb2 S2 m2 en2=>?_)
  .rintro⟨hh,x⟩ k s1 kr' er' Q1 c1 c2 S4 hk1 Kb q1
   dsimp only at c1 c2
   subst c1
   obtain⟨o4,ep4,t4,g4,T4⟩:=id S4
   refine Zge (Zhx (zuh hu g4 T4 hk1 c2 fun _ h' k5 e5 sb5 S5 m5 en5=>?_))
   refine Zge (zqo (s:={ s1 with heap:=h' }) ((sb5.2 b (Zh1 hrb)).trans (Kb b ob (Zh1 hrb) hob)) Sb.lite ?_)
   exact Zgj (q1 h' k5 e5 sb5 S5 m5 en5)
  .refine Zgj ?_
   refine yem (s:={ s with heap:=h2,drawn:=d }) S2 fun h3 k3 e3 sb3 S3 p3 pe3=>q h3 d k3 e3 (sb2.trans sb3) S3 (fun k=>by rw[p3.mem_iff,m2,pk.mem_iff]) (fun e he=>en2 e (pe3.mem_iff.mp he))
end
section
variable{prog:Zg8}{w:Zhy}{A:Zhk}{E:Zgi->Zgk->Prop}{s:Zgk}
theorem yd7{a b:Addr}{ka kb:AN}{ea eb:AA}{f:Bool}{nm:String}{Q:Zgi->Ah}(hu:A.units<Zl2)(hab:a≠b)(xa:AG w s.heap a ka ea)(xb:AG w s.heap b kb eb)
  (hfa:∀k∈ka,k.flat=f) (hfb:∀k∈kb,k.flat=f)
  (q:∀(h':Heap) (d:Zp5) (r:Addr) kr er,zcu s.heap h'->s.heap.objs.size<=r->AG w h' r kr er->(∀k,k∈kr↔k∈ka/\k∉kb)->(∀e∈er.toList,e∈ea.toList\/e∈eb.toList)->Q (.ref r) { s with heap:=h',drawn:=d }) :
  An w A (Zn0 nm a (.ref b)) Q E s:=by
 have hla:ea.size=ka.length:=let ⟨_,_,_,_,S⟩:=xa;by have:=S.ent.length;simp at this;lia
 unfold Zn0
 dsimp only
 refine Zge (zkc xb ?_)
 simp only[Zj3,Znd,Zgw,if_false,if_true]
 refine Ba ?_
 refine Zge (zhr xb ?_)
 refine Zge (zhr xa ?_)
 refine Zh7 (fun hbig=>?_) Bp
 .refine Zge (Zj1 ?_)
  refine Zge (yab hu xa fun h1 d1 r k1 e1 K1 hr S1 m1 en1=>?_)
  have hrb:r≠b:=fun e=>by
   obtain⟨_,_,_,ho,_⟩:=xb
   rw[<- e] at ho;exact Zib _ (Zhd (Zgv ho) hr)
  have xb1:AG w h1 b kb eb:=xb.mono (fun o e=>K1 b o e) K1.T
  have hl1:e1.size=ka.length:=by
   obtain⟨_,_,_,_,T1⟩:=S1
   obtain⟨_,_,_,_,Ta⟩:=xa
   have p:k1.Perm ka:=(Zlf T1.nod Ta.nod).mpr m1
   have:=T1.ent.length
   have:=p.length_eq
   simp at *;lia
  refine Ba ?_
  refine Zge (Zhx (zyg (s:={ s with heap:=h1,drawn:=d1 }) (f:=f) hu hrb S1 xb1 (fun k hk=>hfa k ((m1 k).mp hk)) hfb (by lia) fun h2 d2 k2 e2 sb2 S2 m2 en2=>?_))
  refine Zgj (q h2 d2 r k2 e2 (fun c o e=>(sb2.2 c (fun z=>?_)).trans (K1 c o e)) hr S2 (fun k=>by rw[m2,m1]) (fun e he=>.inl (en1 e (en2 e he))))
  rw[z] at e;exact Zib _ (Zhd (Zgv e) hr)
 .refine Zge (zw8 xa ?_)
  refine Zge (zk9 fun xr=>?_)
  generalize hN:s.heap.push { cls:=.type "set", dict:=none,data:=.set #[] 0 (.fresh 0 0 (led0 w)) }=h1 at xr ⊢
  have k1:zcu s.heap h1:=by rw[<- hN];exact zbu
  have xa1:AG w h1 a ka ea:=xa.mono (fun o e=>k1 a o e) k1.T
  have xb1:AG w h1 b kb eb:=xb.mono (fun o e=>k1 b o e) k1.T
  have hra:a≠s.heap.objs.size:=let ⟨_,_,_,ho,_⟩:=xa;Zhb (Zgv ho)
  have hrb:b≠s.heap.objs.size:=let ⟨_,_,_,ho,_⟩:=xb;Zhb (Zgv ho)
  refine Ba ?_
  obtain⟨oa,epa,ta,hoa,Sa⟩:=id xa1
  refine Zge (Zkv hoa Sa.data Sa.fits ?_)
  refine Zge (Zhx ?_)
  refine Zge (zpy (s:={ s with heap:=h1 }) hoa Sa (fun c hc=>?_) xr fun e1 h2 d p2 sb2 xr2=>?_)
  .simp only[Zgp,Zhf,or_false] at hc
   rcases hc with rfl | rfl
   .exact(AD _ xb1)
   .exact(AD _ xr)
  .have kT:=xr.keepT sb2
   refine Zge (zz8 (s:={ s with heap:=h2,drawn:=d }) (wk:=a) (ak:=b) (nm:=nm) (ep:=epa) (f:=f) _ true hu ?_ ((sb2.2 a hra).trans hoa) (Sa.mono kT) (xb1.mono (fun o e=>(sb2.2 b hrb).trans e) kT) xr2 hra hrb hfa hfb e1 p2 fun h3 kr er sb3 S3 m3 en3=>?_)
   .intro h x s1 Q1 hq
    refine Zge (Zhx (Zge (Zif hq (fun rr s2 hr=>Ba ?_) fun _ _ z=>z)))
    cases hrr:rr.isSome with
    | true =>
     simp only[Zj3,Zgw,if_false]
     exact Zgj (Zge (Zif (hr.2 (by rw[hrr];rfl)) (fun _ _ y=>Zgj y) fun _ _ y=>y))
    | false =>
     simp only[Zrt,if_true]
     exact Zge (Zif (hr.1 (by rw[hrr];rfl)) (fun _ s3 z=>Zgj (Zge (Zif z (fun _ _ y=>Zgj y) fun _ _ y=>y))) fun _ _ z=>z)
   .refine Zgj (Zgj ?_)
    refine q h3 d _ kr er (fun b o e=>?_) Ay S3 (fun k=>?_) (fun e z=>.inl (en3 e z))
    .have hb:b≠s.heap.objs.size:=Zhb (Zgv e)
     exact(sb3.2 b hb).trans ((sb2.2 b hb).trans (k1 b o e))
    .rw[m3];simp
theorem znb:Bq (Zr3 Zyd "set.__and__") Zg9.«frozenset.__and__»:=Znu (id':="frozenset.__and__") (by kernel_rfl) rfl (by decide +kernel) (by kernel_rfl)
theorem znw:Bq (Zr3 Zyd "set.__sub__") Zg9.«frozenset.__sub__»:=Znu (id':="frozenset.__sub__") (by kernel_rfl) rfl (by decide +kernel) (by kernel_rfl)
theorem zp2:Bq (Zr3 Zyd "set.__or__") Zg9.«frozenset.__or__»:=Znu (id':="frozenset.__or__") (by kernel_rfl) rfl (by decide +kernel) (by kernel_rfl)
end
section
variable{prog:Zg8}{w:Zhy}{A:Zhk}{E:Zgi->Zgk->Prop}{s:Zgk}
theorem yb9{a b:Addr}{ka kb:AN}{ea eb:AA}{f:Bool}{nm:String}{Q:Zgi->Ah}(hu:A.units<Zl2)(hab:a≠b)(xa:AG w s.heap a ka ea)(xb:AG w s.heap b kb eb)
  (hfa:∀k∈ka,k.flat=f) (hfb:∀k∈kb,k.flat=f) (hsz:ka.length+kb.length<=1000)
  (q:∀(h':Heap) (d:Zp5) (r:Addr) kr er,zcu s.heap h'->s.heap.objs.size<=r->AG w h' r kr er->(∀k,k∈kr↔k∈ka\/k∈kb)->(∀e∈er.toList,e∈ea.toList\/e∈eb.toList)->Q (.ref r) { s with heap:=h',drawn:=d }) :
  ∀(fn:String->Addr->Zgi->Sem Zgi),(fn nm a (.ref b)=(Zmf a >>= fun result=>BC (Zh3 b != Au) ((do Zvg [result] (Zlu nm (<- Zu6 result) (.ref b));return result)) (pure result)))->An w A (fn nm a (.ref b)) Q E s:=by
 intro fn hfn
 rw[hfn]
 have hba:Ab (Zh3 b != Zh3 a):=by
  rw[bne_iff_ne];exact fun e=>by cases e;exact hab rfl
 refine Zge (yab hu xa fun h1 d1 r k1 e1 K1 hr S1 m1 en1=>?_)
 have hrb:r≠b:=fun e=>by
  obtain⟨_,_,_,ho,_⟩:=xb
  rw[<- e] at ho;exact Zib _ (Zhd (Zgv ho) hr)
 have xb1:AG w h1 b kb eb:=xb.mono (fun o e=>K1 b o e) K1.T
 have hl1:k1.length=ka.length:=by
  obtain⟨_,_,_,_,T1⟩:=S1
  obtain⟨_,_,_,_,Ta⟩:=xa
  exact((Zlf T1.nod Ta.nod).mpr m1).length_eq
 rw[hba,if_pos rfl]
 refine Ba ?_
 refine Zge (Zhx ?_)
 unfold Zlu
 refine Zge (zkc (s:={ s with heap:=h1,drawn:=d1 }) xb1 ?_)
 rw[if_pos rfl]
 refine Ba ?_
 unfold Zu5
 obtain⟨ob,epb,tb,hob,Sb⟩:=id xb1
 refine Zge (Zkv hob Sb.data Sb.fits ?_)
 refine zw0 (s:={ s with heap:=h1,drawn:=d1 }) (f:=f) hu hrb S1 hob Sb (fun k hk=>hfa k ((m1 k).mp hk)) hfb (by lia) (fun s' Q' g h=>zqo g Sb.lite h) fun h2 d2 k2 e2 sb2 S2 m2 en2=>?_
 refine Zgj (q h2 d2 r k2 e2 (fun c o e=>(sb2.2 c (fun z=>?_)).trans (K1 c o e)) hr S2 (fun k=>by rw[m2,m1]) (fun e he=>(en2 e he).elim (fun z=>.inl (en1 e z)) .inr))
 rw[z] at e;exact Zib _ (Zhd (Zgv e) hr)
noncomputable def zqc(prog:Zg8)(w:Zhy)(s:Zgk)(ea eb:AA)(m:Af SK)(Q:Zgi->Ah):Prop :=
 ∀(h':Heap) (d:Zp5) (r:Addr) kr er,zcu s.heap h'->s.heap.objs.size<=r->AG w h' r kr er->(∀k,k∈kr↔m k)->(∀e∈er.toList,e∈ea.toList\/e∈eb.toList)->Q (.ref r) { s with heap:=h',drawn:=d }
theorem yf1{a b:Addr}{ka kb:AN}{ea eb:AA}{f:Bool}{Q:Zgi->Ah}(hu:A.units+8<Zl2)(hab:a≠b)(xa:AG w s.heap a ka ea)(xb:AG w s.heap b kb eb)
  (hfa:∀k∈ka,k.flat=f) (hfb:∀k∈kb,k.flat=f) (q:zqc prog w s ea eb (fun k=>k∈ka/\k∈kb) Q):An w A (Zk1 .BitAnd Au (.ref b)) Q E s:=by
 refine Zpv (op:=.BitAnd) xa.typeIs xb.typeIs F.fills_set_and Zx9 (Zi3 Zx9 xa.typeIs znb ?_ (F.args_set_and_2 _ _))
 show Zg1 _ _ (Zjl "__and__" _ >>= _) _ _ _
 unfold Zjl
 refine Zge (Ba (Zgj ?_))
 show Zg1 _ _ ((Zhw Au <&&> Zhw (.ref b)) >>= _) _ _ _
 refine Zge (Zge (zkc xa ?_))
 show Zg1 _ _ (Zhw (.ref b)) _ _ _
 refine zkc xb ?_
 simp only[Zj3,Zgw,if_false]
 refine Ba ?_
 refine Zge (yal (f:=f) (by simp only[Zll];lia) hab xa xb hfa hfb fun h' d r kr er K hr S m en=>Zgj ⟨_,rfl,fun e=>(by cases e),q h' d r kr er K hr S m en⟩)
theorem yfv{a b:Addr}{ka kb:AN}{ea eb:AA}{f:Bool}{Q:Zgi->Ah}(hu:A.units+8<Zl2)(hab:a≠b)(xa:AG w s.heap a ka ea)(xb:AG w s.heap b kb eb)
  (hfa:∀k∈ka,k.flat=f) (hfb:∀k∈kb,k.flat=f) (q:zqc prog w s ea eb (fun k=>k∈ka/\k∉kb) Q):An w A (Zk1 .Sub Au (.ref b)) Q E s:=by
 refine Zpv (op:=.Sub) xa.typeIs xb.typeIs F.fills_set_sub Zx8 (Zi3 Zx8 xa.typeIs znw ?_ (F.args_set_sub_2 _ _))
 show Zg1 _ _ (Zjl "__sub__" _ >>= _) _ _ _
 unfold Zjl
 refine Zge (Ba (Zgj ?_))
 show Zg1 _ _ ((Zhw Au <&&> Zhw (.ref b)) >>= _) _ _ _
 refine Zge (Zge (zkc xa ?_))
 show Zg1 _ _ (Zhw (.ref b)) _ _ _
 refine zkc xb ?_
 simp only[Zj3,Zgw,if_false]
 refine Ba ?_
 refine Zge (yd7 (f:=f) (by simp only[Zll];lia) hab xa xb hfa hfb fun h' d r kr er K hr S m en=>Zgj ⟨_,rfl,fun e=>(by cases e),q h' d r kr er K hr S m en⟩)
theorem or_w{a b:Addr}{ka kb:AN}{ea eb:AA}{f:Bool}{Q:Zgi->Ah}(hu:A.units+8<Zl2)(hab:a≠b)(xa:AG w s.heap a ka ea)(xb:AG w s.heap b kb eb)
  (hfa:∀k∈ka,k.flat=f) (hfb:∀k∈kb,k.flat=f) (hsz:ka.length+kb.length<=1000) (q:zqc prog w s ea eb (fun k=>k∈ka\/k∈kb) Q):An w A (Zk1 .BitOr Au (.ref b)) Q E s:=by
 refine Zpv (op:=.BitOr) xa.typeIs xb.typeIs F.fills_set_or Zyq (Zi3 Zyq xa.typeIs zp2 ?_ (F.args_set_or_2 _ _))
 show Zg1 _ _ (Zjl "__or__" _ >>= _) _ _ _
 unfold Zjl
 refine Zge (Ba (Zgj ?_))
 show Zg1 _ _ ((Zhw Au <&&> Zhw (.ref b)) >>= _) _ _ _
 refine Zge (Zge (zkc xa ?_))
 show Zg1 _ _ (Zhw (.ref b)) _ _ _
 refine zkc xb ?_
 simp only[Zj3,Zgw,if_false]
 refine Ba ?_
 refine Zge (yb9 (f:=f) (by simp only[Zll];lia) hab xa xb hfa hfb hsz (fun h' d r kr er K hr S m en=>Zgj ⟨_,rfl,fun e=>(by cases e),q h' d r kr er K hr S m en⟩) _ rfl)
end
noncomputable def D.kk:D->Key
 | .int i=>.inl i
 | .str l=>.inr (T l)
 | _=>.inl 0
noncomputable def D.fl:D->Bool
 | .int _=>true
 | .str _=>true
 | _=>false
noncomputable def D.sk:D->SK
 | .tup ds=>.many (ds.map D.kk)
 | d=>.one d.kk
noncomputable def D.hk:Bool->D->Bool
 | true,d=>d.fl
 | false,.tup ds=>ds.all D.fl
 | false,_=>false
theorem zzl{d e:D}(h1:Ab d.fl)(h2:Ab e.fl)(h:d.kk=e.kk):d=e:=by
 cases d <;> simp[D.fl] at h1 <;> cases e <;> simp[D.fl] at h2 <;> simp[D.kk] at h
 .rw[h]
 .rw[zvq] at h;rw[h]
theorem zsw:∀{ds es:Ae},Ab (ds.all D.fl)->Ab (es.all D.fl)->ds.map D.kk=es.map D.kk->ds=es
 | [],[],_,_,_=>rfl
 | [],_::_,_,_,h=>by simp at h
 | _::_,[],_,_,h=>by simp at h
 | d::ds,e::es,h1,h2,h=>by
  simp only[Zwb,Zhe] at h1 h2
  simp only[Zhc,Zjk] at h
  rw[zzl h1.1 h2.1 h.1,zsw h1.2 h2.2 h.2]
theorem ydg{f:Bool}{d e:D}(h1:Ab (d.hk f))(h2:Ab (e.hk f))(h:d.sk=e.sk):d=e:=by
 cases f with
 | true =>
  simp only[D.hk] at h1 h2
  have e1:d.sk= .one d.kk:=by cases d <;> first | rfl | simp[D.fl] at h1
  have e2:e.sk= .one e.kk:=by cases e <;> first | rfl | simp[D.fl] at h2
  rw[e1,e2] at h
  injection h with h
  exact zzl h1 h2 h
 | false =>
  cases d <;> simp[D.hk] at h1
  cases e <;> simp[D.hk] at h2
  simp[D.sk] at h
  rw[zsw (by simpa using h1) (by simpa using h2) h]
theorem zjc{f:Bool}{d:D}(h:Ab (d.hk f)):d.sk.flat=f:=by
 cases f with
 | true=>cases d <;> simp[D.hk,D.fl] at h <;> rfl
 | false=>cases d <;> simp[D.hk] at h;rfl
section
variable(P:Zg8)(w:Zhy)
noncomputable def znf(p:Addr)(ks:AN)(xs:Ao):HO:=.ext fun h=>∃o es ep t,A0 p o/\o.ExactSet/\SetL w o es ep t/\es.toList.map (·.1)=ks.map (SK.hash P w)/\Vals xs (es.toList.map (·.2))/\ks.Nodup/\ks.length<=1000
end
section
variable{X:Cx}{pins:List (Addr×Obj)}{σ:St}{H:Hp}{s:Zgk}
theorem Inv.drw(I:Ag H s)(d:Zp5):Ag H { s with drawn:=d }:=⟨I.ok,I.os,I.bare,I.base,I.loc,I.cell,I.free,I.freeC,I.pin,I.hok,I.len⟩
theorem yew{d:D}{x:V}{u:Zgi}(hf:Ab d.fl)(r:Rep X.K H d x)(q:RelV x u):Ab ((zar X.prog X.w).is d.kk u):=by
 cases d <;> simp[D.fl] at hf
 .rw[r.of_int] at q;obtain⟨t,rfl⟩:=q;exact ziz ..
 .rw[r.of_str] at q;obtain⟨t,rfl⟩:=q;exact ze8 ..
theorem zz3:∀{ds:Ae} {xs:Ao} {us:Ar},Ab (ds.all D.fl)->Reps X.K H ds xs->Vals xs us->ItemsAre (zar X.prog X.w) (ds.map D.kk) us
 | [],_,_,_,r,q=>by rw[Reps] at r;subst r;cases q;exact .nil
 | d::ds,_,_,hf,r,q=>by
  rw[Reps] at r
  obtain⟨x,xs,rfl,r1,r2⟩:=r
  simp only[Zwb,Zhe] at hf
  cases q with
  | cons q1 q2=>exact .cons (yew hf.1 r1 q1) (zz3 hf.2 r2 q2)
theorem Inv.sk(I:Ag H s){f:Bool}{d:D}{x:V}{u:Zgi}(hf:Ab (d.hk f))(r:Rep X.K H d x)(q:RelV x u):d.sk.is X.prog X.w s.heap u:=by
 cases f with
 | true =>
  have e1:d.sk= .one d.kk:=by cases d <;> first | rfl | simp[D.hk,D.fl] at hf
  rw[e1];exact yew (by simpa[D.hk] using hf) r q
 | false =>
  cases d <;> simp[D.hk] at hf
  rename_i ds
  obtain⟨p,xs,rfl,sq,rs⟩:=r.of_tup
  cases q
  obtain⟨its,rv,⟨o,e,c,n,hd⟩,_⟩:=I.tuple sq
  exact⟨p,rfl,o,its.toArray,n,e,c,hd,by simpa using zz3 (by simpa using hf) rs rv⟩
theorem yd8(I:Ag H s){f:Bool}:∀{ds:Ae} {xs:Ao} {es:Ai Int Zgi},(∀d∈ds,Ab (d.hk f))->Reps X.K H ds xs->Vals xs (es.map (·.2))->es.map (·.1)=(ds.map D.sk).map (SK.hash X.prog X.w)->Es X.prog X.w s.heap (ds.map D.sk) es
 | [],_,es,_,r,q,_=>by
  rw[Reps] at r;subst r
  cases es with
  | nil=>exact .nil
  | cons _ _=>cases q
 | d::ds,_,es,hf,r,q,hh=>by
  rw[Reps] at r
  obtain⟨x,xs,rfl,r1,r2⟩:=r
  cases es with
  | nil=>cases q
  | cons e es =>
   simp only[Zhc,Zjk] at hh
   cases q with
   | cons q1 q2=>exact .cons hh.1 (I.sk (hf d Zgz) r1 q1) (yd8 I (fun d' h=>hf d' (Zgq _ h)) r2 q2 hh.2)
theorem Inv.setE(I:Ag H s){f:Bool}{a:Addr}{ds:Ae}{xs:Ao}(e:Aa (H a) (znf X.prog X.w a (ds.map D.sk) xs))(hf:∀d∈ds,Ab (d.hk f))(r:Reps X.K H ds xs) :
  ∃es,SetE X.prog X.w s.heap a (ds.map D.sk) es/\Vals xs (es.toList.map (·.2)):=by
 obtain⟨⟨o,es,ep,t,ho,hx,S,hh,rv,hn,hl⟩,_,_⟩:=I.hok a _ e
 exact⟨es,⟨o,ep,t,ho,hx,S.data,S.tab,yd8 I hf r rv hh,hn,hl,S.led,f,fun k hk=>by
  obtain⟨d,hd,rfl⟩:=Zg4.mp hk
  exact zjc (hf d hd)⟩,rv⟩
noncomputable def Src(da:Ae)(xa:Ao)(db:Ae)(xb:Ao)(dr:Ae)(xr:Ao):Prop :=
 dr.length=xr.length /\ ∀(i:Nat) d x,Ak dr d->Ak xr x-> ∃j:Nat,(Ax da j d/\Ax xa j x)\/(Ax db j d/\Ax xb j x)
theorem Src.reps{K:Zgh}{F:Hp}{da db dr:Ae}{xa xb xr:Ao}(h:Src da xa db xb dr xr)(ra:AB F da xa)(rb:AB F db xb):AB F dr xr:=by
 obtain⟨hl,h⟩:=h
 induction dr generalizing xr with
 | nil=>cases xr with
  | nil=>exact Reps.nil
  | cons _ _=>simp at hl
 | cons d dr ih=>cases xr with
  | nil=>simp at hl
  | cons x xr =>
   refine Reps.cons ?_ (ih (by simpa using hl) fun i d' x' h1 h2=>h (i+1) d' x' h1 h2)
   obtain⟨j,⟨h1,h2⟩ | ⟨h1,h2⟩⟩:=h 0 d x rfl rfl
   .obtain⟨x',e,r⟩:=ra.get' h1
    rw[h2] at e;cases e;exact r
   .obtain⟨x',e,r⟩:=rb.get' h1
    rw[h2] at e;cases e;exact r
theorem Src.mem{da db dr:Ae}{xa xb xr:Ao}(h:Src da xa db xb dr xr){d:D}(hd:d∈dr):d∈da\/d∈db:=by
 obtain⟨i,hi⟩:=Zht.mp hd
 have hil:=(Zgo.mp hi).1
 obtain⟨j,⟨h1,_⟩ | ⟨h1,_⟩⟩:=h.2 i d (xr[i]'(by have:=h.1;lia)) hi (Zgg _)
 .exact .inl (Zgs h1)
 .exact .inr (Zgs h1)
theorem zz7{h:Heap}{k k':SK}{v:Zgi}(a:k.is X.prog X.w h v)(b:k'.is X.prog X.w h v)(hf:k.flat=k'.flat):k=k':=by
 cases k <;> cases k' <;> simp[SK.flat] at hf
 .exact congrArg _ ((zar X.prog X.w).inj _ _ _ a b)
 .obtain⟨u,e1,i1⟩:=a
  obtain⟨v,e2,i2⟩:=b
  rw[e1] at e2;cases e2
  exact congrArg _ (i1.inj i2)
theorem yep{h':Heap}{f:Bool}{da db:Ae}{xa xb:Ao}{ea eb:Ai Int Zgi}(K':zet s.heap h')(Ea:Es X.prog X.w s.heap (da.map D.sk) ea)(Eb:Es X.prog X.w s.heap (db.map D.sk) eb)(va:Vals xa (ea.map (·.2)))(vb:Vals xb (eb.map (·.2)))
  (hfa:∀d∈da,Ab (d.hk f)) (hfb:∀d∈db,Ab (d.hk f)):∀{kr:AN} {er:Ai Int Zgi},Es X.prog X.w h' kr er->(∀k∈kr,k.flat=f)->(∀e∈er,e∈ea\/e∈eb) ->
  ∃dr xr,dr.map D.sk=kr/\Vals xr (er.map (·.2))/\Src da xa db xb dr xr:=by
 intro kr er x
 induction x with
 | nil=>intro _ _;exact⟨[],[],rfl,.nil,rfl,fun i d x h=>by simp at h⟩
 | @cons k e kr er h1 h2 _ ih =>
  intro hk hin
  obtain⟨dr,xr,a,b,c⟩:=ih (fun k h=>hk k (Zgq _ h)) fun e h=>hin e (Zgq _ h)
  have pick:∀(dz:Ae) (xz:Ao) (ez:Ai Int Zgi),Es X.prog X.w s.heap (dz.map D.sk) ez->Vals xz (ez.map (·.2))->(∀d∈dz,Ab (d.hk f))->e∈ez-> ∃(j:Nat) (d:D) (x:V),Ax dz j d/\Ax xz j x/\d.sk=k/\RelV x e.2:=by
   intro dz xz ez E1 v1 hf1 hm
   obtain⟨j,hj⟩:=Zht.mp hm
   obtain⟨k',g1,g2,g3⟩:=E1.get j e hj
   rw[Zgy] at g1
   cases hd:dz[j]? with
   | none=>rw[hd] at g1;cases g1
   | some d =>
    rw[hd] at g1
    have g1':d.sk=k':=by simpa using g1
    have hjl:j<xz.length:=by
     have:=v1.length
     have:=(Zgo.mp hj).1
     simp at *;lia
    obtain⟨u,hu,ru⟩:=v1.get (Zgg hjl)
    rw[Zgy,hj] at hu
    have hu':e.2=u:=by simpa using hu
    refine⟨j,d,_,hd,Zgg hjl,?_,by rw[hu'];exact ru⟩
    rw[g1']
    refine zz7 (SK.is_mono K' g3) h2 ?_
    rw[<- g1',zjc (hf1 d (Zgs hd)),hk k Zgz]
  rcases hin e Zgz with hm | hm
  .obtain⟨j,d,y,p1,p2,p3,p4⟩:=pick da xa ea Ea va hfa hm
   refine⟨d::dr,y::xr,by rw[Zhc,p3,a],.cons p4 b,by simp[c.1],fun i d' x' q1 q2=>?_⟩
   cases i with
   | zero=>simp at q1 q2;subst q1;subst q2;exact(Bo j ⟨p1,p2⟩)
   | succ i=>exact c.2 i d' x' q1 q2
  .obtain⟨j,d,y,p1,p2,p3,p4⟩:=pick db xb eb Eb vb hfb hm
   refine⟨d::dr,y::xr,by rw[Zhc,p3,a],.cons p4 b,by simp[c.1],fun i d' x' q1 q2=>?_⟩
   cases i with
   | zero=>simp at q1 q2;subst q1;subst q2;exact⟨j,.inr ⟨p1,p2⟩⟩
   | succ i=>exact c.2 i d' x' q1 q2
theorem zri{h':Heap}{r:Addr}{H':Hp}{dr:Ae}{xr:Ao}{er:AA}(S:SetE X.prog X.w h' r (dr.map D.sk) er)(v:Vals xr (er.toList.map (·.2))):zdb X.prog X.w H' h' r (znf X.prog X.w r (dr.map D.sk) xr):=by
 obtain⟨o,ep,t,ho,S⟩:=S
 refine⟨⟨o,er,ep,t,ho,S.ex,S.lite,?_,v,S.nod,S.small⟩,⟨o,ho⟩,?_⟩
 .have:=S.ent
  generalize dr.map D.sk=kr at this
  generalize er.toList=el at this
  induction this with
  | nil=>rfl
  | cons a _ _ ih=>simp[a,ih]
 .rintro h1 h2 ⟨o,es,ep,t,ho,r⟩ k
  exact⟨o,es,ep,t,k o ho,r⟩
end
section
variable(P:Zg8)(w:Zhy)(K:Zgh)
noncomputable def zhy(f:Bool):Ao->Hp->Af VK:=fun vs H Q=>∃a xs ds,vs=[Au]/\SqL K H a xs/\AB H ds xs/\(∀d∈ds,Ab (d.hk f))/\ds.length<=1000 /\
 ∀r dr xr,H r=none->dr.Nodup->(∀d,d∈dr↔d∈ds)->Src ds xs [] [] dr xr->Q (.ref r) (upd H r (znf P w r (dr.map D.sk) xr))
noncomputable def ziq(f:Bool)(m:Ae->Ae->Af D):R2:=fun x y H Q=>∃a b da db xa xb,x= Au/\y= .ref b/\a≠b/\Aa (H a) (znf P w a (da.map D.sk) xa)/\Aa (H b) (znf P w b (db.map D.sk) xb) /\
 AB H da xa/\AB H db xb/\(∀d∈da,Ab (d.hk f))/\(∀d∈db,Ab (d.hk f))/\da.length+db.length<=1000 /\
 ∀r dr xr,H r=none->dr.Nodup->(∀d,d∈dr↔m da db d)->Src da xa db xb dr xr->Q (.ref r) (upd H r (znf P w r (dr.map D.sk) xr))
noncomputable def mAnd(da db:Ae)(d:D):Prop:=d∈da/\d∈db
noncomputable def mSub(da db:Ae)(d:D):Prop:=d∈da/\d∉db
noncomputable def mOr(da db:Ae)(d:D):Prop:=d∈da\/d∈db
end
theorem zh2{f:Bool}{ds:Ae}(hf:∀d∈ds,Ab (d.hk f)){d:D}(hd:Ab (d.hk f)):d.sk∈ds.map D.sk↔d∈ds:=by
 constructor
 .intro h
  obtain⟨e,he,h2⟩:=Zg4.mp h
  rw[<- ydg (hf e he) hd h2];exact he
 .exact fun h=>Zls h
theorem zrm{dr:Ae}(h:(dr.map D.sk).Nodup):dr.Nodup:=by
 unfold Zi7 at *
 rw[Zkm] at h
 exact h.imp fun a e=>a (congrArg _ e)
section
variable{X:Cx}
theorem zei{f:Bool}(hc:Ab X.calm)(hu:X.A.units+64<Zl2):zdd X (.type "set") (zhy X.prog X.w X.K f):=by
 intro pins s σ H vs us Q I r h
 obtain⟨a,xs,ds,rfl,hq,rs,hf,hl,q⟩:=h
 obtain⟨u,rfl,ru⟩:=zj0 r
 cases ru
 obtain⟨its,rv,pl,_⟩:=I.list hq
 have l1:=rs.length
 have l2:=rv.length
 have hk0:∀k∈ds.map D.sk,k.flat=f:=fun k hk=>by obtain⟨d,hd,rfl⟩:=Zg4.mp hk;exact zjc (hf d hd)
 have hkey:∀(j:Nat) (v:Zgi) (k:SK),Ax its.toArray j v->Ax (ds.map D.sk) j k->k.is X.prog X.w s.heap v:=fun j v k h1 h2=>by
  rw[Zgy] at h2
  cases hd:ds[j]? with
  | none=>rw[hd] at h2;cases h2
  | some d =>
   rw[hd] at h2
   have:d.sk=k:=by simpa using h2
   subst this
   obtain⟨x,hx,rx⟩:=rs.get' hd
   obtain⟨u,hu',ru⟩:=rv.get hx
   have h1':Ax its j v:=by simpa using h1
   rw[h1'] at hu';cases hu'
   exact I.sk (hf d (Zgs hd)) rx ru
 refine zr1 (k0:=ds.map D.sk) (f:=f) (by lia) (I.ok.hd hc) pl.isList (by simp;lia) (by simp;lia) hk0 hkey fun h' tk ks es K' S p=>?_
 have hex:∀(kr:AN) (el:Ai Int Zgi),Es X.prog X.w h' kr el->(∀k∈kr,k.flat=f)->(∀e∈el,∃j:Nat,Ax its.toArray j e.2)-> ∃dr xr,dr.map D.sk=kr/\Vals xr (el.map (·.2))/\Src ds xs [] [] dr xr:=by
  intro kr el en
  induction en with
  | nil=>intro _ _;exact⟨[],[],rfl,.nil,rfl,fun i d x h=>by simp at h⟩
  | @cons k e kr er g1 g2 _ ih =>
   intro hkk hent
   obtain⟨dr,xr,a1,b1,c1⟩:=ih (fun k h=>hkk k (Zgq _ h)) fun e h=>hent e (Zgq _ h)
   obtain⟨j,hj⟩:=hent e Zgz
   have hj':Ax its j e.2:=by simpa using hj
   have hjl:=(Zgo.mp hj').1
   have hjd:Ax ds j (ds[j]'(by lia)):=Zgg _
   obtain⟨x,hx,rx⟩:=rs.get' hjd
   obtain⟨u,hu',ru⟩:=rv.get hx
   rw[hj'] at hu';cases hu'
   have hdk:=hf _ (Zgs hjd)
   have hsk:(ds[j]'(by lia)).sk=k:=zz7 (SK.is_mono K'.T (I.sk hdk rx ru)) g2 (by rw[zjc hdk,hkk k Zgz])
   refine⟨_::dr,x::xr,by rw[Zhc,hsk,a1],.cons ru b1,by simp[c1.1],fun i d' x' q1 q2=>?_⟩
   cases i with
   | zero=>simp at q1 q2;subst q1;subst q2;exact(Bo j ⟨hjd,hx⟩)
   | succ i=>exact c1.2 i d' x' q1 q2
 obtain⟨dr,xr,e1,v1,src⟩:=hex ks es.toList (let ⟨_,_,_,_,T⟩:=S;T.ent) (fun k hk=>by
   obtain⟨j,_,hj⟩:=(p.mem k).mp hk
   exact hk0 k (Zgs hj)) p.ent
 subst e1
 have hnod:dr.Nodup:=by obtain⟨_,_,_,_,T⟩:=S;exact zrm T.nod
 have hdr:∀d∈dr,Ab (d.hk f):=fun d hd=>by
  rcases src.mem hd with z | z
  .exact hf d z
  .cases z
 refine⟨Bz,_,I.laid (t':=tk) K' Ay (zri S v1),rfl,q _ dr xr (I.hok.fresh Ay) hnod (fun d=>⟨fun h=>(src.mem h).elim id (fun z=>by cases z),Bi⟩) src⟩
 refine(zh2 hdr (hf d h)).mp ((p.mem d.sk).mpr ?_)
 obtain⟨j,hj⟩:=Zht.mp h
 exact⟨j,by have:=(Zgo.mp hj).1;simp;lia,by rw[Zgy,hj];rfl⟩
theorem zo2{op:Zzp}{f:Bool}{m:Ae->Ae->Af D}(mk:AN->AN->Af SK)
  (hm:∀(da db:Ae) (d:D),(∀d∈da,Ab (d.hk f))->(∀d∈db,Ab (d.hk f))->Ab (d.hk f)->(mk (da.map D.sk) (db.map D.sk) d.sk↔m da db d)) (hsub:∀da db d,m da db d->d∈da\/d∈db)
  (hw:∀(s:Zgk) (a b:Addr) (ka kb:AN) (ea eb:AA) (Q:Zgi->Ah),a≠b->SetE X.prog X.w s.heap a ka ea->SetE X.prog X.w s.heap b kb eb->(∀k∈ka,k.flat=f)->(∀k∈kb,k.flat=f)->ka.length+kb.length<=1000 ->
   zqc X.prog X.w s ea eb (mk ka kb) Q->AW X.w X.A (Zk1 op Au (.ref b)) Q X.xe s) (hmk:∀ka kb k,mk ka kb k->k∈ka\/k∈kb):OpR X (Zk1 op) (ziq X.prog X.w X.K f m):=by
 intro pins s σ H x y v u Q I rx ry h
 obtain⟨a,b,da,db,xa,xb,rfl,rfl,hab,ha,hb,ra,rb,hfa,hfb,hl,q⟩:=h
 cases rx
 cases ry
 obtain⟨ea,Sa,va⟩:=I.setE ha hfa ra
 obtain⟨eb,Sb,vb⟩:=I.setE hb hfb rb
 have fk:∀(dz:Ae),(∀d∈dz,Ab (d.hk f))-> ∀k∈dz.map D.sk,k.flat=f:=fun dz hz k hk=>by obtain⟨d,hd,rfl⟩:=Zg4.mp hk;exact zjc (hz d hd)
 refine hw s a b _ _ ea eb _ hab Sa Sb (fk da hfa) (fk db hfb) (by simpa using hl) fun h' d r kr er K' hr S mm en=>?_
 obtain⟨_,_,_,_,Ta⟩:=Sa
 obtain⟨_,_,_,_,Tb⟩:=Sb
 obtain⟨o,ep,t,ho,T⟩:=id S
 have hkr:∀k∈kr,k.flat=f:=fun k hk=>by
  rcases hmk _ _ _ ((mm k).mp hk) with z | z
  .exact fk da hfa k z
  .exact fk db hfb k z
 obtain⟨dr,xr,e1,v1,src⟩:=yep (f:=f) K'.T Ta.ent Tb.ent va vb hfa hfb T.ent hkr en
 subst e1
 have hdr:∀d∈dr,Ab (d.hk f):=fun d hd=>(src.mem hd).elim (hfa d) (hfb d)
 refine⟨.ref r,_,(I.laid (t':=s.toks) K' hr (zri S v1)).drw d,rfl,q r dr xr (I.hok.fresh hr) (zrm T.nod) (fun d=>⟨Bi,Bi⟩) src⟩
 .exact(hm da db d hfa hfb (hdr d h)).mp ((mm d.sk).mp (Zls h))
 .have hdk:Ab (d.hk f):=(hsub da db d h).elim (hfa d) (hfb d)
  exact(zh2 hdr hdk).mp ((mm d.sk).mpr ((hm da db d hfa hfb hdk).mpr h))
theorem yam{f:Bool}(hu:X.A.units+64<Zl2):OpR X (Zk1 .BitAnd) (ziq X.prog X.w X.K f mAnd) :=
 zo2 (fun ka kb k=>k∈ka/\k∈kb) (fun da db d h1 h2 h3=>by rw[zh2 h1 h3,zh2 h2 h3];rfl) (fun da db d h=>.inl h.1) (fun s a b ka kb ea eb Q hab Sa Sb ha hb _ q=>yf1 (f:=f) (by lia) hab Sa Sb ha hb q) fun ka kb k h=>.inl h.1
theorem ybl{f:Bool}(hu:X.A.units+64<Zl2):OpR X (Zk1 .Sub) (ziq X.prog X.w X.K f mSub) :=
 zo2 (fun ka kb k=>k∈ka/\k∉kb) (fun da db d h1 h2 h3=>by rw[zh2 h1 h3,zh2 h2 h3];rfl) (fun da db d h=>.inl h.1) (fun s a b ka kb ea eb Q hab Sa Sb ha hb _ q=>yfv (f:=f) (by lia) hab Sa Sb ha hb q) fun ka kb k h=>.inl h.1
theorem yc8{f:Bool}(hu:X.A.units+64<Zl2):OpR X (Zk1 .BitOr) (ziq X.prog X.w X.K f mOr) :=
 zo2 (fun ka kb k=>k∈ka\/k∈kb) (fun da db d h1 h2 h3=>by rw[zh2 h1 h3,zh2 h2 h3];rfl) (fun da db d h=>h) (fun s a b ka kb ea eb Q hab Sa Sb ha hb hl q=>or_w (f:=f) (by lia) hab Sa Sb ha hb hl q) fun ka kb k h=>h
end
end L2
namespace L2
open PySem PySem.W PyProof.Rows L2T
section
variable{prog:Zg8}{w:Zhy}{A:Zhk}{E:Zgi->Zgk->Prop}{s:Zgk}
theorem zm7{a:Addr}{o:Obj}{ks:AN}{es:AA}{ep:Nat}{t:Zgm}{Q:Zgi->Ah}(Out:Ar->Af (Array Zgi))(hh:A.handled=none)(ho:AH a o)(S:SetO prog w s.heap o ks es ep t)
  (hs:∀(vs:Ar) (h':Heap) (d:Zp5) (tk:Nat),vs.Perm (es.toList.map (·.2))->2<=vs.length->zg1 s.heap h'->zub prog w A.in1.in1 { s with heap:=h',drawn:=d,toks:=tk } vs (Out vs)) (h1:∀vs:Ar,vs.Perm (es.toList.map (·.2))->vs.length<2->Out vs vs.toArray)
  (h:∀(vs:Ar) out c h' (d:Zp5) (tk:Nat) (l:Addr),vs.Perm (es.toList.map (·.2))->zg1 s.heap h'->s.heap.objs.size<=l->AU l (Zqj "list" out c)->out.size=vs.length->Out vs out->Q (.ref l) { s with heap:=h',drawn:=d,toks:=tk }) :
  An w A (call (.builtin "sorted") [Au]) Q E s:=by
 refine Zrf kind_sorted plain_sorted entry_sorted (args_sorted1 _) ?_
 unfold Zg9.«sorted»
 refine Zge (m:=checkCount "sorted" 1 1 _) (Zgj ?_)
 refine Zge (zti (by simp[hh]) ho S fun vs g1 d tk hp K1 hlt=>?_)
 have hz:AL vs.length:=by
  have:=hp.length_eq
  have:=S.small
  have:=S.ent.length
  simp at *
  exact zbj (by lia)
 refine Zge (Ztk ?_ hz)
 dsimp only
 have hl:s.heap.objs.size<=g1.objs.size:=Zp9 hlt
 have hg:Aa ((g1.push (Bl "list" (.seq vs.toArray))).get? g1.objs.size) (Zqj "list" vs.toArray 0):=Zgx _ rfl
 have k2:zg1 s.heap (g1.push (Bl "list" (.seq vs.toArray))):=fun b u e=>Zgl _ (K1 b u e)
 have ne:∀b u,AH b u->b≠g1.objs.size:=fun b u e=>Zhb (Zgv (K1 b u e))
 refine Zge (Zhx (Zi3 Zyv (AD hg rfl) Zyk (zkv (s:={ s with heap:=g1.push (Bl "list" (.seq vs.toArray)),drawn:=d,toks:=tk }) (Out vs) hg hz
  (fun h2 h' k=>hs vs h' d tk hp h2 fun b u e=>k b u (ne b u e) (k2 b u e)) (h1 vs hp) fun out c h' k hc hsz hO=>(Aw _ ?_)) (Zy1 _)))
 exact Zgj (Aw _ (h vs out c h' d tk _ hp (fun b u e=>k b u (ne b u e) (k2 b u e)) hl hc hsz hO))
end
section
variable(P:Zg8)(w:Zhy)(K:Zgh)
noncomputable def zn3(f:Bool):Ao->Hp->Af VK:=fun vs H Q=>∃a xs ds,vs=[Au]/\Aa (H a) (znf P w a (ds.map D.sk) xs)/\AB H ds xs/\(∀d∈ds,Ab (d.hk f))/\zfx ds /\
 ∀l xr,H l=none->Src ds xs [] [] (ze9 ds) xr->Q (.ref l) (upd H l (.lst xr))
end
theorem zfx.perm{ds es:Ae}(h:zfx ds)(p:es.Perm ds):zfx es:=by
 rcases h with h | h | ⟨t,ts,h⟩
 .exact .inl fun d hd=>h d (p.mem_iff.mp hd)
 .exact .inr (.inl fun d hd=>h d (p.mem_iff.mp hd))
 .exact .inr (.inr ⟨t,ts,fun d hd=>h d (p.mem_iff.mp hd)⟩)
theorem zfx.sub{ds es:Ae}(h:zfx ds)(p:∀d∈es,d∈ds):zfx es:=by
 rcases h with h | h | ⟨t,ts,h⟩
 .exact .inl fun d hd=>h d (p d hd)
 .exact .inr (.inl fun d hd=>h d (p d hd))
 .exact .inr (.inr ⟨t,ts,fun d hd=>h d (p d hd)⟩)
theorem zgw{ds es:Ae}(h:zfx ds)(p:es.Perm ds):ze9 es=ze9 ds:=zio h ((zcl es).trans p) (zd5 es)
theorem Src.refl{ds:Ae}{xs:Ao}(h:ds.length=xs.length):Src ds xs [] [] ds xs:=⟨h,fun i d x h1 h2=>(Bo i ⟨h1,h2⟩)⟩
theorem zmx{us us':Ar}(p:us'.Perm us):∀{ds:Ae} {xs:Ao},ds.length=xs.length->Vals xs us-> ∃ds' xs',Vals xs' us'/\ds'.Perm ds/\Src ds xs [] [] ds' xs':=by
 have p':=p.symm
 clear p
 induction p' with
 | nil=>intro ds xs hl v;exact⟨ds,xs,v,.refl _,Src.refl hl⟩
 | cons e _ ih =>
  intro ds xs hl v
  cases v with
  | @cons x _ xs _ v1 v2 =>
   cases ds with
   | nil=>simp at hl
   | cons d ds =>
    obtain⟨d2,x2,a,b,c⟩:=ih (by simpa using hl) v2
    refine⟨d::d2,x::x2,.cons v1 a,b.cons _,by simp[c.1],fun i d' x' h1 h2=>?_⟩
    cases i with
    | zero=>simp at h1 h2;subst h1;subst h2;exact(Bo 0 (AF rfl))
    | succ i =>
     obtain⟨j,hj⟩:=c.2 i d' x' h1 h2
     exact⟨j+1,hj.elim (fun z=>.inl z) fun z=>by simp at z⟩
 | swap e f l =>
  intro ds xs hl v
  cases v with
  | @cons x _ xs _ v1 v2=>cases v2 with
   | @cons y _ xs _ v2 v3 =>
    match ds,hl with
    | d::d1::ds,hl =>
     refine⟨d1::d::ds,y::x::xs,.cons v2 (.cons v1 v3),Zp0 _ _ _,by simpa using hl,fun i d' x' h1 h2=>?_⟩
     match i with
     | 0=>simp at h1 h2;subst h1;subst h2;exact(Bo 1 (AF rfl))
     | 1=>simp at h1 h2;subst h1;subst h2;exact(Bo 0 (AF rfl))
     | i+2=>exact(Bo (i+2) ⟨h1,h2⟩)
 | trans _ _ ih1 ih2 =>
  intro ds xs hl v
  obtain⟨d1,x1,a1,b1,c1⟩:=ih1 hl v
  obtain⟨d2,x2,a2,b2,c2⟩:=ih2 c1.1 a1
  refine⟨d2,x2,a2,b2.trans b1,c2.1,fun i d' x' h1 h2=>?_⟩
  obtain⟨j,hj⟩:=c2.2 i d' x' h1 h2
  rcases hj with ⟨g1,g2⟩ | ⟨g1,_⟩
  .exact c1.2 j d' x' g1 g2
  .simp at g1
section
variable{X:Cx}
theorem zfy{f:Bool}(hc:Ab X.calm):zdd X (.builtin "sorted") (zn3 X.prog X.w X.K f):=by
 intro pins s σ H vs us Q I r h
 obtain⟨a,xs,ds,rfl,ha,rs,hf,hal,q⟩:=h
 obtain⟨u,rfl,ru⟩:=zj0 r
 cases ru
 obtain⟨es,⟨o,ep,t,ho,S⟩,v⟩:=I.setE ha hf rs
 refine zm7 (fun vs out=>∃ds' xs',Vals xs' vs/\ds'.Perm ds/\Src ds xs [] [] ds' xs'/\OutK (rk ds') vs out) (I.ok.hd hc) ho S (fun vs h' d tk hp h2 k=>?_) (fun vs hp h1=>?_) fun vs out c h' d tk l hp k hl hcell hsz hO=>?_
 .obtain⟨d2,x2,v2,p2,s2⟩:=zmx hp rs.length v
  obtain⟨κ,z1,z2⟩:=zi5 (A':=X.A.in1.in1) ((I.kept (h':=h') (t':=tk) k).drw d) (s2.reps rs Reps.nil) v2 (hal.perm p2) h2 (fun _ _ e=>e)
  exact⟨κ,z1,fun Q E hQ=>z2 Q E fun st' e1 e2 e3=>hQ st' e1 e2 ⟨d2,x2,v2,p2,s2,e3⟩⟩
 .obtain⟨d2,x2,v2,p2,s2⟩:=zmx hp rs.length v
  exact⟨d2,x2,v2,p2,s2,zkz h1⟩
 .obtain⟨d2,x2,v2,p2,s2,p,hpp,hout,hsort⟩:=hO
  have l1:=s2.1
  have l2:=v2.length
  have rs2:Reps X.K H d2 x2:=s2.reps rs Reps.nil
  have hmem:∀i∈p,i<vs.length:=fun i hi=>Zic.mp (hpp.mem_iff.mp hi)
  have hpm:(p.map fun i=>d2.getD i .non).Perm d2:=by
   have g1:=hpp.map (fun i=>d2.getD i D.non)
   have g2:(Zhi vs.length).map (fun i=>d2.getD i D.non)=d2:=by
    rw[<- l2,<- l1]
    refine Zld fun i=>?_
    rw[Zgy]
    by_cases hi:i<d2.length
    .rw[Zj8 hi,Zgg hi]
     simp[Zgf,hi]
    .rw[Zhu (by simpa using hi),Zhu (by simpa using hi)];rfl
   rw[g2] at g1;exact g1
  have hso:(p.map fun i=>d2.getD i .non).Pairwise fun a b=>Ab (a.leB b):=by
   rw[Zkm]
   exact Zpg (fun {i j} hi hj h=>ye1 (by have:=hmem i hi;lia) (by have:=hmem j hj;lia) h) hsort
  have eD:(p.map fun i=>d2.getD i .non)=ze9 ds:=zio hal (hpm.trans p2) hso
  have hv:=v2.pick p (by rw[l2];exact hmem)
  rw[<- hout] at hv
  have hplen:p.length=vs.length:=by rw[hpp.length_eq,Znm]
  have hz:x2.length<=1000:=by
   have:=p2.length_eq
   have:=S.small
   simp at *;lia
  refine⟨.ref l,_,(I.laid (t':=tk) (h':=h') k hl (show zdb X.prog X.w _ _ _ (.lst (p.map fun i=>x2.getD i .non)) from⟨by rw[Zgn,hplen,<- l2];exact zbj (by lia),out.toList,c,hv,by simpa[Zqj] using hcell⟩)).drw d,rfl,q l _ (I.hok.fresh hl) ⟨?_,fun i d' x' h1 h2=>?_⟩⟩
  .rw[<- eD];simp
  .rw[<- eD,Zgy] at h1
   rw[Zgy] at h2
   cases hp:p[i]? with
   | none=>rw[hp] at h1;cases h1
   | some j =>
    rw[hp] at h1 h2
    have hj:=hmem j (Zgs hp)
    have e1:Ax d2 j d':=by
     have:d2.getD j .non=d':=by simpa using h1
     rw[Zgf,Zgg (by lia)] at this
     rw[Zgg (by lia)];simpa using this
    have e2:Ax x2 j x':=by
     have:x2.getD j .non=x':=by simpa using h2
     rw[Zgf,Zgg (by lia)] at this
     rw[Zgg (by lia)];simpa using this
    obtain⟨j',hj'⟩:=s2.2 j d' x' e1 e2
    exact⟨j',hj'⟩
end
noncomputable def EvS(P:Zg8)(w:Zhy)(K:Zgh)(G Hz L:Hp)(ss:List Sl)(t:TE)(ds:Ae):Prop:=∀F H σ Q,Sat K G Hz L F H σ ss ->
 (∀p xs F' H' ds',Ext F H F' H'->H p=none->F' p=none->Aa (H' p) (znf P w p (ds'.map D.sk) xs)->AB F' ds' xs->ds'.Nodup->(∀d,d∈ds'↔d∈ds)->Q AO H')->t σ H Q
theorem zi7{α:Type}[DecidableEq α]:∀{a b:List α},a.Nodup->(∀x∈a,x∈b)->a.length<=b.length
 | [],_,_,_=>Zhr _
 | x::a,b,hn,h=>by
  rw[Zid] at hn
  have h1:=zi7 (b:=b.erase x) hn.2 fun y hy=>(Zon (show y≠x from fun e=>hn.1 (by rw[<- e];exact hy))).mpr (h y (Zgq _ hy))
  have hx:=h x Zgz
  have:=Znn hx
  have:=Znz hx
  simp;lia
section
variable{P:Zg8}{w:Zhy}{K:Zgh}{G Hz L:Hp}{ss:List Sl}{t ta tb:TE}{f:Bool}{ds da db dr:List D}
theorem zhs(a:EvL K G Hz L ss t ds)(hf:∀d∈ds,Ab (d.hk f))(hl:ds.length<=1000):EvS P w K G Hz L ss (tCB (zhy P w K f) (zbb t tNil)) ds:=fun F H σ Q S q =>
 a F H σ _ S fun p vs F' H' e sq r=>⟨p,vs,ds,rfl,sq,r.mono e.fh,hf,hl,fun l dr xr hl' hn hm src =>
  q l xr F' _ dr (e.newO hl') (e.hh.free hl') (e.fh.free hl') zam (src.reps r Reps.nil) hn hm⟩
theorem zuu{m:Ae->Ae->Af D}(hcong:∀a a' b b' d,(∀d,d∈a↔d∈a')->(∀d,d∈b↔d∈b')->(m a b d↔m a' b' d))(a:EvS P w K G Hz L ss ta da)(b:EvS P w K G Hz L ss tb db)(hfa:∀d∈da,Ab (d.hk f))(hfb:∀d∈db,Ab (d.hk f))
  (hl:da.length+db.length<=1000) (hm:∀d,d∈dr↔m da db d):EvS P w K G Hz L ss (tOp (ziq P w K f m) ta tb) dr:=fun F H σ Q S q =>
 a F H σ _ S fun p xs F1 H1 d1 e1 hp fp hp1 r1 n1 m1=>b F1 H1 σ _ A9 fun p2 xs2 F2 H2 d2 e2 hp2 fp2 hpp2 r2 n2 m2=>by
  have hne:p≠p2:=fun z=>by rw[<- z,hp1] at hp2;cases hp2
  have l1:=zi7 n1 fun x h=>(m1 x).mp h
  have l2:=zi7 n2 fun x h=>(m2 x).mp h
  refine⟨p,p2,d1,d2,xs,xs2,rfl,rfl,hne,e2.hh p _ hp1,hpp2,(r1.mono e2.gf).mono e2.fh,r2.mono e2.fh,fun d h=>hfa d ((m1 d).mp h),fun d h=>hfb d ((m2 d).mp h),by lia,fun r dr' xr hr hn hmm src=>?_⟩
  have e12:=Bn
  exact q r xr F2 _ dr' (e12.newO hr) (e12.hh.free hr) (e12.fh.free hr) zam (src.reps (r1.mono e2.gf) r2) hn fun d=>by rw[hmm,hm];exact hcong _ _ _ _ _ m1 m2
theorem ybz(a:EvS P w K G Hz L ss ta da)(b:EvS P w K G Hz L ss tb db)(hfa:∀d∈da,Ab (d.hk f))(hfb:∀d∈db,Ab (d.hk f))(hl:da.length+db.length<=1000)(hm:∀d,d∈dr↔d∈da/\d∈db):EvS P w K G Hz L ss (tOp (ziq P w K f mAnd) ta tb) dr :=
 zuu (m:=mAnd) (fun a a' b b' d h1 h2=>by unfold mAnd;rw[h1,h2]) a b hfa hfb hl hm
theorem ya7(a:EvS P w K G Hz L ss ta da)(b:EvS P w K G Hz L ss tb db)(hfa:∀d∈da,Ab (d.hk f))(hfb:∀d∈db,Ab (d.hk f))(hl:da.length+db.length<=1000)(hm:∀d,d∈dr↔d∈da/\d∉db):EvS P w K G Hz L ss (tOp (ziq P w K f mSub) ta tb) dr :=
 zuu (m:=mSub) (fun a a' b b' d h1 h2=>by unfold mSub;rw[h1,h2]) a b hfa hfb hl hm
theorem yes(a:EvS P w K G Hz L ss ta da)(b:EvS P w K G Hz L ss tb db)(hfa:∀d∈da,Ab (d.hk f))(hfb:∀d∈db,Ab (d.hk f))(hl:da.length+db.length<=1000)(hm:∀d,d∈dr↔d∈da\/d∈db):EvS P w K G Hz L ss (tOp (ziq P w K f mOr) ta tb) dr :=
 zuu (m:=mOr) (fun a a' b b' d h1 h2=>by unfold mOr;rw[h1,h2]) a b hfa hfb hl hm
theorem zgr(dd:Ae)(a:EvS P w K G Hz L ss t ds)(hf:∀d∈ds,Ab (d.hk f))(hal:zfx ds)(hn:dd.Nodup)(hm:∀d,d∈dd↔d∈ds):EvO K G Hz L ss (tCB (zn3 P w K f) (zbb t tNil)) (ze9 dd):=fun F H σ Q S q =>
 a F H σ _ S fun p xs F' H' d1 e hp fp hp1 r n1 m1=>⟨p,xs,d1,rfl,hp1,r.mono e.fh,fun d h=>hf d ((m1 d).mp h),hal.sub fun d h=>(m1 d).mp h,fun l xr hl src=>by
  have hp:dd.Perm d1:=(Zlf hn n1).mpr fun d=>by rw[hm,m1]
  rw[<- zgw (hal.sub fun d h=>(m1 d).mp h) hp] at src
  exact q l xr F' _ (e.newO hl) (e.hh.free hl) (e.fh.free hl) zam (src.reps r Reps.nil)⟩
end
noncomputable def ded:Ae->Ae
 | []=>[]
 | d::ds=>if d∈ds then ded ds else d::ded ds
theorem zgo{d:D}:∀{ds:Ae},d∈ded ds↔d∈ds
 | []=>Zvw
 | e::ds=>by
  unfold ded
  split
  .rw[zgo,Zgp]
   exact⟨.inr,fun h=>h.elim (fun z=>z ▸ by assumption) id⟩
  .rw[Zgp,Zgp,zgo]
theorem zfc:∀ds:Ae,(ded ds).Nodup
 | []=>Zlm
 | e::ds=>by
  unfold ded
  split
  .exact zfc ds
  .rw[Zid,zgo];exact⟨by assumption,zfc ds⟩
noncomputable def zo1(K:Zgh):R2:=fun x y H Q=>∃l b xs zs,x= .ref l/\y= .ref b/\SqL K H l xs/\SqL K H b zs/\AL (xs.length+zs.length) /\ ∀p,H p=none->Q AO (upd H p (.lst (xs++zs)))
theorem zmd{X:Cx}:OpR X (Zk1 .Add) (zo1 X.K):=by
 intro pins s σ H x y v u Q I rx ry h
 obtain⟨l,b,xs,zs,rfl,rfl,hl,hb,hz,q⟩:=h
 cases rx
 cases ry
 obtain⟨its,r,pl,_⟩:=I.list hl
 obtain⟨its2,r2,pl2,_⟩:=I.list hb
 have z1:=r.length
 have z2:=r2.length
 obtain⟨⟨cls,dd,data,sl⟩,ho,hc,n,hd⟩:=pl.isList
 obtain⟨⟨cls2,dd2,data2,sl2⟩,ho2,hc2,n2,hd2⟩:=pl2.isList
 dsimp only at hc hd hc2 hd2
 subst hc;subst hd;subst hc2;subst hd2
 refine concat_meets (AD ho rfl) (AD ho2 rfl) noFill_list_add seq_list_add PySem.F.slot_list_add PySem.F.entry_list_add (PySem.F.args_list_add_2 _ _) (list_addW l b its.toArray its2.toArray n n2 dd dd2 sl sl2 (by simp;lia)) ⟨ho,ho2,?_⟩
 have ea:its.toArray++its2.toArray=(its++its2).toArray:=by simp
 rw[ea]
 exact⟨.ref _,_,I.lnew (t':=s.toks) (r.append r2) (by rw[Zhl];omega),rfl,q _ I.fresh⟩
section
variable{K:Zgh}{G Hz L:Hp}{ss:List Sl}{ta tb:TE}{da db:List D}
theorem zlg(a:EvL K G Hz L ss ta da)(b:EvL K G Hz L ss tb db)(hz:AL (da.length+db.length)):EvO K G Hz L ss (tOp (zo1 K) ta tb) (da++db):=fun F H σ Q S q =>
 a F H σ _ S fun p vs F1 H1 e1 sq1 r1=>b F1 H1 σ _ A9 fun p2 vs2 F2 H2 e2 sq2 r2=>by
  have l1:=r1.length
  have l2:=r2.length
  refine⟨p,p2,vs,vs2,rfl,rfl,SqL.same e2.hh sq1,sq2,by lia,fun l hl=>?_⟩
  have e12:=Bn
  exact q l _ F2 _ (e12.newO hl) (e12.hh.free hl) (e12.fh.free hl) zam ((r1.mono e2.gf).append r2)
theorem zg3{d:D}{v:V}(r:∀H,Rep K H d v):Ap K G L (tC v) d:=fun F H σ Q S q=>q _ _ _ (Ext.refl S.ext.fh) (r _)
end
theorem zm5{K:Zgh}{H:Hp}:∀(ls:AT),(∀l∈ls,∀c∈l,c<128)->AB H (ls.map .str) (ls.map fun l=>.str (T l))
 | [],_=>Reps.nil
 | l::ls,h=>Reps.cons (Rep.str (h l Zgz)) (zm5 ls fun l' hl=>h l' (Zgq _ hl))
theorem zk2:∀{ls:AT} {us:Ar},ls.length=us.length->(∀(i:Nat) (l:Ac) (u:Zgi),Ak ls l->Ak us u-> ∃t,u= .str (T l) t)->Vals (ls.map fun l=>V.str (T l)) us
 | [],us,hl,_=>by cases us with
  | nil=>exact .nil
  | cons _ _=>simp at hl
 | l::ls,us,hl,h=>by cases us with
  | nil=>simp at hl
  | cons u us=>exact .cons (h 0 l u rfl rfl) (zk2 (by simpa using hl) fun i l' u' h1 h2=>h (i+1) l' u' h1 h2)
noncomputable def TupK(K:Zgh)(a:Addr)(ls:AT):Prop:=∀H,Rep K H (.tup (ls.map .str)) Au
theorem zgu{K:Zgh}{a:Addr}{o:Obj}{its:Array Zgi}{n:Nat}{ls:AT}(hk:Aa (K.lookup a) o)(hc:o.cls= .type "tuple")(hd:o.data= .seq its n)(hl:ls.length=its.size)(hs:ls.length<=1000)(ha:∀l∈ls,∀c∈l,c<128)
  (h:∀(i:Nat) (l:Ac) (u:Zgi),Ak ls l->Ak its.toList u-> ∃t,u= .str (T l) t):TupK K a ls:=fun H =>
 Rep.tup (.inr ⟨o,its,n,hk,hc,hd,by rw[<- hl];exact zbj (by lia),zk2 (by simpa using hl) h⟩) (zm5 ls ha) fun z=>by
  obtain⟨d,hd,hi⟩:=Zu1.mp z
  obtain⟨l,_,rfl⟩:=Zg4.mp hd
  cases hi
mutual
noncomputable def D.nl:D->Bool
 | .lst _=>false
 | .dct _ _=>false
 | .dctT _ _=>false
 | .ins _ _ _=>false
 | .tup a=>D.nls a
 | _=>true
noncomputable def D.nls:Ae->Bool
 | []=>true
 | a::x=>a.nl&&D.nls x
end
noncomputable def EvOO(K:Zgh)(G Hz L:Hp)(ss:List Sl)(t:TE)(dss:List Ae):Prop:=∀F H σ Q,Sat K G Hz L F H σ ss ->
 (∀p (qs:AJ Ae) F' H',Ext F H F' H'->H p=none->F' p=none->Aa (H' p) (.lst (qs.map fun q=>V.ref q.1))->(∀q∈qs,H q.1=none/\F' q.1=none /\ ∃vs,Aa (H' q.1) (.lst vs)/\AB F' q.2 vs)->(p::qs.map (·.1)).Nodup->qs.map (·.2)=dss->Q AO H')->t σ H Q
noncomputable def EvAO(K:Zgh)(G Hz L:Hp)(ss:List Sl)(t:TA)(dss:List Ae):Prop:=∀F H σ (Q:Ao->Af Hp),Sat K G Hz L F H σ ss ->
 (∀(qs:AJ Ae) F' H',Ext F H F' H'->(∀q∈qs,H q.1=none/\F' q.1=none /\ ∃vs,Aa (H' q.1) (.lst vs)/\AB F' q.2 vs)->(qs.map (·.1)).Nodup->qs.map (·.2)=dss->Q (qs.map fun q=>V.ref q.1) H')->t σ H Q
section
variable{K:Zgh}{G Hz L:Hp}{ss:List Sl}{i:Nat}{ta tk t1:TE}{t:TA}{d:D}{ds:List D}{dss:List (List D)}
theorem zxg:EvAO K G Hz L ss tNil []:=fun F H σ Q S q=>q [] F H (Ext.refl S.ext.fh) (fun _ h=>by cases h) Zlm rfl
theorem zg7(a:EvO K G Hz L ss ta ds)(b:EvAO K G Hz L ss t dss):EvAO K G Hz L ss (zbb ta t) (ds::dss):=fun F H σ Q S q =>
 a F H σ _ S fun p vs F1 H1 e1 hp fp hp1 r1=>b F1 H1 σ _ A9 fun qs F2 H2 e2 hq hn hm=>by
  refine q ((p,ds)::qs) F2 H2 Bn (fun z hz=>?_) ?_ (by rw[Zhc,hm])
  .rcases Zgp.mp hz with rfl | hz
   .exact⟨hp,(e2.no p _ hp1 trivial).trans fp,vs,e2.hh p _ hp1,r1.mono e2.gf⟩
   .obtain⟨z1,z2,z3⟩:=hq z hz
    exact⟨e1.hh.free z1,z2,z3⟩
  .rw[Zhc,Zid]
   refine⟨fun hin=>?_,hn⟩
   obtain⟨z,hz,e⟩:=Zg4.mp hin
   have:=(hq z hz).1
   rw[e,hp1] at this;cases this
theorem zyj(a:EvAO K G Hz L ss t dss)(hz:AL dss.length):EvOO K G Hz L ss (tLst t) dss:=fun F H σ Q S q =>
 a F H σ _ S fun qs F' H' e hq hn hm=>⟨by rw[Zgn,show qs.length=dss.length by rw[<- hm,Zgn]];exact hz,fun p hp=>by
  refine q p qs F' _ (e.newO hp) (e.hh.free hp) (e.fh.free hp) zam (fun z hz=>?_) ?_ hm
  .obtain⟨z1,z2,vs,z3,z4⟩:=hq z hz
   have:z.1≠p:=fun x=>by rw[x,hp] at z3;cases z3
   exact⟨z1,z2,vs,by rw[zal this];exact z3,z4⟩
  .rw[Zid]
   refine⟨fun hin=>?_,hn⟩
   obtain⟨z,hz,x⟩:=Zg4.mp hin
   obtain⟨_,_,vs,z3,_⟩:=hq z hz
   rw[x,hp] at z3;cases z3⟩
theorem Sat.getOO{F H:Hp}{σ:St}(S:Sat K G Hz L F H σ ss){p:Addr}{qs:AJ Ae}(hs:Ak ss (.oo p qs)):Ak σ (some AO)/\Hz p=none/\F p=none/\Aa (H p) (.lst (qs.map fun q=>V.ref q.1)) /\ ∀q∈qs,OwnL K Hz F H q.1 q.2:=by
 obtain⟨v,e,ew,r⟩:=S.get hs (by intro z;cases z)
 cases ew
 exact⟨e,r⟩
theorem Sat.setOO{F H:Hp}{σ:St}(S:Sat K G Hz L F H σ ss){qs:AJ Ae}{p:Addr}(h0:Hz p=none)(fp:F p=none)(hp:Aa (H p) (.lst (qs.map fun q=>V.ref q.1)))(hq:∀q∈qs,OwnL K Hz F H q.1 q.2)(hn:(p::qs.map (·.1)).Nodup)
  (hne:∀(j:Nat) s',j≠i->Ax ss j s'-> ∀z∈p::qs.map (·.1),z∉s'.ads):Sat K G Hz L F H (σ.set i (some AO)) (ss.set i (.oo p qs)) :=
 S.put S.ext S.fl (by simp) (fun j hj=>ze1 (Zh1 hj)) (fun hi=>by rw[zdh (by rw[S.len];exact hi)];exact⟨rfl,h0,fp,hp,hq⟩) hn (fun j s' hj h q hq'=>hne j s' hj h q hq') fun j s' _ h=>S.ok j s' h
theorem zxe{E:Ends}(a:EvOO K G Hz L ss ta dss)(h:∀p (qs:AJ Ae),qs.map (·.2)=dss->Nx K G Hz L E.nx (ss.set i (.oo p qs))):Go K G Hz L E ss (tAsg ta (zho i)):=fun F H σ S =>
 a F H σ _ S fun p qs F' H' e hp fp hp' hq hn hm=>by
  have S':=S.ext2 e
  have live:∀z,H z=none-> ∀(j:Nat) s',Ax ss j s'->z∉s'.ads:=fun z hz j s' hs hin=>(S.ok j s' hs).live hin hz
  refine h p qs hm F' H' _ (S'.setOO (S.ext.hh.free hp) fp hp' (fun q hqm=>?_) hn fun j s' _ hs z hz=>?_)
  .obtain⟨z1,z2,vs,z3,z4⟩:=hq q hqm
   exact⟨S.ext.hh.free z1,z2,vs,z3,z4⟩
  .rcases Zgp.mp hz with rfl | hz
   .exact live _ hp j s' hs
   .obtain⟨q,hqm,rfl⟩:=Zg4.mp hz
    exact live _ (hq q hqm).1 j s' hs
theorem Sat.writeOO{F H:Hp}{σ:St}(S:Sat K G Hz L F H σ ss){p q:Addr}{qs:AJ Ae}{j:Nat}{es:Ae}{vs:Ao}(hs:Ak ss (.oo p qs))(hj:Ax qs j (q,ds))(r:AB F es vs) :
  Sat K G Hz L F (upd H q (.lst vs)) σ (ss.set i (.oo p (qs.set j (q,es)))):=by
 obtain⟨e,h0,fp,hp,hq⟩:=S.getOO hs
 have hnd:=S.nd i _ hs
 have hmem:=Zgs hj
 obtain⟨q0,qf,ws,hqw,rq⟩:=hq _ hmem
 have hget:Aa (σ.getD i none) AO:=by rw[Zgf,e];rfl
 have hpq:p≠q:=by
  have:(p::qs.map (·.1)).Nodup:=hnd
  rw[Zid] at this
  exact fun z=>this.1 (z ▸ Zg4.mpr (AD hmem rfl))
 have hmapf:(qs.set j (q,es)).map (·.1)=qs.map (·.1):=by
  rw[Zst]
  refine Zld fun k=>?_
  by_cases hk:j=k
  .subst hk
   have hl:=(Zgo.mp hj).1
   rw[Zji (by simpa using hl),Zgy,hj];rfl
  .rw[Zj0 hk]
 have hmapr:(qs.set j (q,es)).map (fun z=>V.ref z.1)=qs.map fun z=>V.ref z.1:=by
  have:=congrArg (Zpf V.ref) hmapf
  rw[Zin,Zin] at this
  exact this
 have hdup:∀k z,Ax qs k z->k≠j->z.1≠q:=fun k z hk hkj hz=>by
  have hn2:(qs.map (·.1)).Nodup:=(Zid.mp hnd).2
  unfold Zi7 at hn2
  rw[Zi8] at hn2
  have hkl:=(Zgo.mp hk)
  have hjl:=(Zgo.mp hj)
  have e1:(qs.map (·.1))[k]'(by simpa using hkl.1)=q:=by rw[Zux,hkl.2];exact hz
  have e2:(qs.map (·.1))[j]'(by simpa using hjl.1)=q:=by rw[Zux,hjl.2]
  rcases Zkh k j with c | c
  .exact hn2 k j (by simpa using hkl.1) (by simpa using hjl.1) c (e1.trans e2.symm)
  .exact hn2 j k (by simpa using hjl.1) (by simpa using hkl.1) (by lia) (e2.trans e1.symm)
 refine S.put (S.ext.write qf q0) S.fl rfl BF Bp (by show(p::(qs.set j (q,es)).map (·.1)).Nodup;rw[hmapf];exact hnd) (fun k s' hk h z hz=>?_) fun k s' hk h=>(S.ok k s' h).updNe (S.ne i k _ s' (Zh1 hk) hs h q (by simp[Sl.ads];exact .inr ⟨_,hmem⟩))
 .rw[hget]
  refine⟨rfl,h0,fp,by rw[zal hpq,hmapr];exact hp,fun z hz=>?_⟩
  obtain⟨k,hk⟩:=Zht.mp hz
  by_cases hkj:j=k
  .subst hkj
   rw[Zji (Zgo.mp hj).1] at hk
   cases hk
   exact⟨q0,qf,vs,zam,r⟩
  .rw[Zj0 hkj] at hk
   exact(hq z (Zgs hk)).updNe (hdup k z hk (Zh1 hkj))
 .have hz':z∈p::(qs.set j (q,es)).map (·.1):=hz
  rw[hmapf] at hz'
  exact S.ne i k _ s' (Zh1 hk) hs h z hz'
theorem zom{E:Ends}{p q:Addr}{qs:AJ Ae}{j:Nat}(hs:Ak ss (.oo p qs))(b:Bj K G L tk j)(hj:Ax qs j (q,ds))(a:Ap K G L t1 d)(hz:ds.length<sizeLine)(h:Nx K G Hz L E.nx (ss.set i (.oo p (qs.set j (q,ds++[d]))))) :
  Go K G Hz L E ss (zum (tBM K "list" zor (tOp (rIxL K) (tVar i) tk) (zbb t1 tNil))):=fun F H σ S=>by
 obtain⟨e,h0,fp,hp,hq⟩:=S.getOO hs
 refine⟨AO,e,b F H σ _ S fun v F1 H1 e1 r1=>?_⟩
 have S1:=A9
 obtain⟨e2,_,fp2,hp2,hq2⟩:=S1.getOO hs
 have hm:=Zgs hj
 obtain⟨q0,qf,vs,hqv,rq⟩:=hq2 _ hm
 have hat:Aa (atI (qs.map fun q=>V.ref q.1) j) (.ref q):=zdt (by rw[Zgy,hj];rfl)
 refine⟨p,_,j,_,rfl,r1.of_int,SqL.of hp2,hat,.inl ⟨rfl,_,SqL.of hqv⟩,a F1 H1 σ _ S1 fun v' F' H' e' r'=>?_⟩
 have S':=S1.ext2 e'
 obtain⟨_,_,_,_,hq3⟩:=S'.getOO hs
 obtain⟨q01,qf1,vs1,hqv1,rq1⟩:=hq3 _ hm
 exact⟨q,vs1,v',rfl,rfl,hqv1,by rw[<- rq1.length];exact hz,h F' _ σ (S'.writeOO hs hj (rq1.snoc r'))⟩
theorem Sat.freezeOO{F H:Hp}{σ:St}(S:Sat K G Hz L F H σ ss){p:Addr}{qs:AJ Ae}(hs:Ak ss (.oo p qs)):∃F',Sat K G Hz L F' H σ (ss.set i (A4 (qs.map fun q=>.lst q.2))):=by
 obtain⟨e,h0,fp,hp,hq⟩:=S.getOO hs
 have hget:Aa (σ.getD i none) AO:=by rw[Zgf,e];rfl
 have off:∀b,b∈p::qs.map (·.1)->Hz b=none/\F b=none:=fun b hb=>by
  rcases Zgp.mp hb with rfl | hb
  .exact⟨h0,fp⟩
  .obtain⟨q,hqm,rfl⟩:=Zg4.mp hb
   exact⟨(hq q hqm).1,(hq q hqm).2.1⟩
 let F':Hp:=fun b=>if b∈p::qs.map (·.1) then H b else F b
 have fin:∀b,b∈p::qs.map (·.1)->F' b=H b:=fun b hb=>if_pos hb
 have fout:∀b,b∉p::qs.map (·.1)->F' b=F b:=fun b hb=>if_neg hb
 have ff:Same F F':=fun b o h=>by
  have:b∉p::qs.map (·.1):=fun hb=>by rw[(off b hb).2] at h;cases h
  rw[fout b this];exact h
 have fh:Same F' H:=fun b o h=>by
  by_cases hb:b∈p::qs.map (·.1)
  .rw[fin b hb] at h;exact h
  .rw[fout b hb] at h;exact S.ext.fh b o h
 have ex:Ext G Hz F' H:=⟨S.ext.gf.trans ff,fh,S.ext.hh,fun b o h n=>by
  have:b∉p::qs.map (·.1):=fun hb=>by rw[(off b hb).1] at h;cases h
  rw[fout b this];exact S.ext.no b o h n⟩
 refine⟨F',S.put ex (S.fl.trans ff) rfl BF Bp (by simp[Sl.ads]) (fun _ _ _ _ q hq=>by simp[Sl.ads] at hq) fun j s' hj h=>?_⟩
 .rw[hget]
  refine(Aw _ (Rep.lst (SqL.of ((fin p Zgz).trans hp)) ?_))
  have key:∀zs:AJ Ae,(∀z∈zs,z∈qs)->AB F' (zs.map fun q=>.lst q.2) (zs.map fun q=>V.ref q.1):=by
   intro zs
   induction zs with
   | nil=>intro _;exact Reps.nil
   | cons z zs ih =>
    intro hz
    obtain⟨_,_,vs,hv,r⟩:=hq z (hz z Zgz)
    exact Reps.cons (Rep.lst (SqL.of ((fin z.1 (Zgq _ (Zg4.mpr ⟨z,hz z Zgz,rfl⟩))).trans hv)) (r.mono ff)) (ih fun y hy=>hz y (Zgq _ hy))
  exact key qs fun z h=>h
 .have dis:∀b∈s'.ads,b∉p::qs.map (·.1):=fun b hb hb2=>S.ne i j _ s' (Zh1 hj) hs h b hb2 hb
  have own:∀{b:Addr} {xs:Ae},b∈s'.ads->OwnL K Hz F H b xs->OwnL K Hz F' H b xs:=fun hb ⟨a1,a2,vs,a3,a4⟩=>⟨a1,by rw[fout _ (dis _ hb)];exact a2,vs,a3,a4.mono ff⟩
  have ok:=S.ok j s' h
  cases s' with
  | un=>trivial
  | d x=>obtain⟨v,ev,r⟩:=ok;exact⟨v,ev,r.mono ff⟩
  | o b xs=>exact⟨ok.1,own (by simp[Sl.ads]) ok.2⟩
  | oo b zs =>
   obtain⟨a1,a2,a3,a4,a5⟩:=ok
   exact⟨a1,a2,by rw[fout b (dis b (by simp[Sl.ads]))];exact a3,a4,fun z hz=>own (by simp[Sl.ads];exact .inr ⟨_,hz⟩) (a5 z hz)⟩
  | g v as W =>
   obtain⟨a1,a2,a3,a4⟩:=ok
   refine⟨a1,fun b hb=>?_,a4 _ _ _ _ ff BF a3,a4⟩
   obtain⟨b1,b2,b3⟩:=a2 b hb
   exact⟨b1,by rw[fout b (dis b hb)];exact b2,b3⟩
theorem zpd{N:St->Af Hp}{p:Addr}{qs:AJ Ae}(hs:Ak ss (.oo p qs))(h:Nx K G Hz L N (ss.set i (A4 (qs.map fun q=>.lst q.2)))):Nx K G Hz L N ss:=fun F H σ S=>by
 obtain⟨F',S'⟩:=S.freezeOO hs
 exact h F' H σ S'
end
end L2
namespace L2
open PySem PySem.W PySem.Spec PyProof.Rows
noncomputable def SpR(K:Zgh)(pre:Af Ae)(R:Ae->Af Ae):Sp:=fun vs H Q _=>∃G ds,Same G H/\AB G ds vs/\pre ds /\ ∀rs,R ds rs-> ∀p ws G' H',Ext G H G' H'->H p=none->G' p=none->Aa (H' p) (.lst ws)->AB G' rs ws->Q AO H'
section
variable{K:Zgh}{H:Hp}{vs:List V}{Q:VK}{X:XK}{N:List Str}{t:TS}{pre:List D->Prop}{R:List D->List D->Prop}
theorem yfb(h:SpR K pre R vs H Q X)(hN:vs.length<=N.length)(body:∀G ds,pre ds->(∀rs,R ds rs->RtO K G H Q rs)->Go K G H G (BL (Q .non H')) (slots N.length ds) t):t (BL (Q .non H')) (start N vs) H:=by
 obtain⟨G,ds,sm,r,hp,q⟩:=h
 exact body G ds hp (fun rs hR p ws F H' e h1 h2 h3 r=>q rs hR p ws F H' e h1 h2 h3 r) G H _ (zdp sm r hN)
theorem zs8{n:Nat}(hpre:∀ds,pre ds->ds.length=n)(h:SpR K pre R vs H Q X):vs.length=n:=by
 obtain⟨G,ds,sm,r,hp,q⟩:=h
 rw[<- r.length];exact hpre ds hp
end
section
variable{prog:Zg8}{w:Zhy}{A:Zhk}{E:Zgi->Zgk->Prop}{s:Zgk}
theorem yfo{it l:Addr}{items:Array Zgi}(hne:l≠it):∀(n i:Nat) (s:Zgk) (Q:Ar->Ah),s.heap.IsListIter it l i->s.heap.IsList l items->i+n<=items.size ->
  (∀h',h'.IsListIter it l (i+n)->Zhq it s.heap h'->BG ((items.toList.drop i).take n))->An w A (draw (.ref it) n) Q E s:=by
 intro n
 induction n with
 | zero=>intro i s Q hi hl hn q;exact Zgj (by simpa using q s.heap hi (Zio _ _))
 | succ n ih =>
  intro i s Q hi hl hn q
  have hlt:i<items.size:=by lia
  show Zg1 _ _ (Zok (.ref it) >>= _) Q E s
  refine Zge (Zop hi hl (x:=items[i]) (by simp[hlt]) fun h1 hi1 sb1=>?_)
  refine Zge (Zhx (ih (i+1) _ _ hi1 (hl.extBut sb1.extBut hne) (by lia) fun h2 hi2 sb2=>Zgj ?_))
  have hd:items.toList.drop i=items[i]::items.toList.drop (i+1):=by simp[List.drop_eq_getElem_cons,hlt]
  have z:=q h2 (by rw[show i+(n+1)=i+1+n by lia];exact hi2) (sb1.trans sb2)
  rw[hd,Zou] at z
  exact z
theorem yah{l:Addr}{items:Array Zgi}{Q:Ar->Ah}(hh:A.handled=none)(hl:s.heap.IsList l items)
  (q:∀h',Zqz s.heap.objs.size s.heap h'->BG items.toList):An w A (unpackItems (.ref l) items.size none) Q E s:=by
 have hlt:l≠s.heap.objs.size:=by obtain⟨o,ho,_⟩:=hl;exact Zhb (Zgv ho)
 unfold unpackItems notIterableAtAll
 refine Zge (Zge (Zne hl.typeIs slot_list_iter.lookup (Zgj ?_)))
 simp only[Zgw,if_false]
 refine Zge (Zhx (Zju hl ?_))
 refine Zge (Zhx (yfo hlt items.size 0 _ _ (AM _ (Zgx _ rfl) rfl) (hl.push _) (by lia) fun h1 hi1 sb1=>?_))
 have hall:(items.toList.drop 0).take items.size=items.toList:=by
  rw[Zvu];exact Zij (by simp)
 rw[hall,if_neg (by simp)]
 refine Zge (Zhx (Zoz hh hi1 ((hl.push _).extBut sb1.extBut hlt) (by simp) fun h2 he2=>?_))
 simp only[Option.isSome_none,Zgw,if_false]
 exact Zgj (q h2 fun b o hb e=>he2 b o hb (sb1.extBut b o hb (Zgl _ e)))
end
noncomputable def yd5(K:Zgh)(n:Nat)(t:TGs):TG:=fun v σ H Q=>∃a xs,v= Au/\SqL K H a xs/\xs.length=n/\t xs σ H Q
theorem zwy{X:Cx}{pos:Pos}{es:List Expr}{k:Nat}{t:TGs}{n:Nat}(hc:Ab X.calm)(h:PGs X es t)
  (hn:(Zm8 es X.env).length=n:=by rfl) (hst:(Zm8 es X.env).findIdx? (·.1)=none:=by rfl):PG X (.Tuple es k pos) (yd5 X.K n t):=by
 intro pins s σ H v u Q I r hw
 obtain⟨a,xs,e1,hq,hl,hw⟩:=hw
 subst e1
 cases r
 obtain⟨its,rv,pl,hz⟩:=I.list hq
 rw[assign_Tuple]
 refine Zge (Zob ?_)
 unfold unpack
 rw[hn,hst,show n=its.toArray.size by simp[<- hl,rv.length]]
 refine Zge (Zhx (yah (I.ok.hd hc) pl.isList fun h' hx=>?_))
 have I1:Ag H { s with heap:=h' }:=I.kept (t':=s.toks) fun b o e=>hx b o (Zhb (Zgv e)) e
 exact h pins _ σ H xs _ Q I1 (by simpa using rv) hw
section
variable{K:Zgh}{G Hz L:Hp}{ss ss':List Sl}{t:TA}{ds r0:List D}{pre:List D->Prop}{R:List D->List D->Prop}{E:XK}{D0:Ends}
theorem zu8{g:TGs}{n:Nat}(hn:ds.length=n)(a:Tgs K G Hz L g ds ss ss'):Tg K G Hz L (yd5 K n g) (.lst ds) ss ss':=fun F H σ v Q S r q=>by
 obtain⟨p,xs,rfl,sq,rs⟩:=r.of_lst
 exact⟨p,xs,rfl,SqL.same S.ext.fh sq,by rw[<- rs.length];exact hn,a F H σ xs _ S rs q⟩
theorem zv3(a:EvAF K G Hz L ss t ds)(hp:pre ds)(hu:∀rs,R ds rs->rs=r0):EvO K G Hz L ss (zka (SpR K pre R) [] E t) r0:=fun F H σ Q S q =>
 a F H σ _ S fun vs F1 H1 e1 r1=>⟨F1,ds,e1.fh,by rw[Zh0];exact r1,hp,fun rs hR p ws G' H' e2 h1 h2 h3 r=>by
  rw[hu rs hR] at r
  exact q _ _ _ _ Bn (e1.hh.free h1) h2 h3 r⟩
theorem yaq(a:EvAF K G Hz L ss t ds)(hp:pre ds)(h:∀rs,R ds rs->RtO K G Hz D0.rt rs):Go K G Hz L D0 ss (tRet (zka (SpR K pre R) [] E t)):=fun F H σ S =>
 a F H σ _ S fun vs F1 H1 e1 r1=>⟨F1,ds,e1.fh,by rw[Zh0];exact r1,hp,fun rs hR p ws G' H' e2 h1 h2 h3 r =>
  h rs hR p ws G' H' ((S.ext.trans e1).trans e2) ((S.ext.trans e1).hh.free h1) h2 h3 r⟩
end
end L2
namespace L2
open PySem PySem.W PyProof.Rows L2T
section
variable{K:Zgh}{G Hz L:Hp}{ss:List Sl}{ta tb t:TE}
theorem zvv{ta:TA}{n:Int}(a:EvA K G Hz L ss ta [.int n])(hb : -(2 ^ 62)<=n/\n<2 ^ 62):EvI K G Hz L ss (ydi ta) n.toNat fun i=>.int (i:Int):=fun F H σ R S q =>
 a F H σ _ S fun vs F1 H1 e1 r1=>by
  rw[Reps] at r1
  obtain⟨x,r,rfl,rx,r1⟩:=r1
  rw[Reps] at r1
  subst r1
  rw[rx.of_int]
  refine⟨n,rfl,hb.1,hb.2,q F1 H1 _ e1 fun F2 H2 f1 h1 fh=>⟨fun i hi=>⟨hi,fun x H3 y=>?_⟩,Ay⟩⟩
  obtain⟨rfl,rfl⟩:=y
  refine⟨F2,Ext.refl fh,?_⟩
  have e:(0:Int)+(i:Int)=(i:Int):=by lia
  rw[e]
  exact Rep.int
theorem ybo{i j:Int}(a:Bj K G L ta i)(b:Bj K G L tb j):Ap K G L (tCB (fun xs H Q=>∃i j,xs=[.int i,.int j]/\Q (.int (if j>i then j else i)) H) (zbb ta (zbb tb tNil))) (.int (if j>i then j else i)):=fun F H σ Q S q =>
 BK F H σ _ S (b F1 H1 σ _ A9 fun v2 F2 H2 e2 r2=>by
  rw[r1.of_int,r2.of_int]
  exact(AM i j (q _ F2 H2 Bn Rep.int)))
theorem ya1{i j:Int}(a:Bj K G L ta i)(b:Bj K G L tb j):Ap K G L (tCB (fun xs H Q=>∃i j,xs=[.int i,.int j]/\Q (.int (if j<i then j else i)) H) (zbb ta (zbb tb tNil))) (.int (if j<i then j else i)):=fun F H σ Q S q =>
 BK F H σ _ S (b F1 H1 σ _ A9 fun v2 F2 H2 e2 r2=>by
  rw[r1.of_int,r2.of_int]
  exact(AM i j (q _ F2 H2 Bn Rep.int)))
theorem ydw{i j:Int}(a:Bj K G L ta i)(b:Bj K G L tb j):Ap K G L (tOp (rI0 fun i j=>.bl (AS j i)) ta tb) (.bl (AS j i)):=zmb (g:=fun i j=>AS j i) a b
theorem yf5{i j:Int}(a:Bj K G L ta i)(b:Bj K G L tb j):Ap K G L (tOp (rI0 fun i j=>.bl (decide (j<=i))) ta tb) (.bl (decide (j<=i))):=zmb (g:=fun i j=>decide (j<=i)) a b
end
end L2
namespace L2
open PySem PySem.W PySem.Spec PyProof.Rows
section
variable{K:Zgh}{G Hz L:Hp}{ss:List Sl}{t:TA}{ds:List D}{pre:List D->Prop}{R:List D->D->Prop}{E:XK}{D0:Ends}{ta tb te:TE}{i j:Int}
theorem yec(a:Bj K G L te i):Ap K G L (tUn (rU fun i=>.int (-i)) te) (.int (-i)):=fun F H σ Q S q =>
 BK F H σ _ S ⟨i,by rw[r1.of_int],q _ _ _ e1 Rep.int⟩
end
end L2
namespace L2
open PySem PySem.W PySem.Spec PyProof.Rows PySem.Builtin PySem.Builtin.Str PySem.StrLaws
noncomputable def posL(z:Nat):Nat->Ac->Ac
 | _,[]=>[]
 | a,x::l=>if x=z then a::posL z (a+1) l else posL z (a+1) l
theorem zt0(pre l:Ac)(z:Nat):subAt (T (pre++l)) (T [z]) pre.length=decide (Bq l.head? z):=by
 rw[Ziq,decide_eq_true_eq]
 have h:=subAt_one (T (pre++l)) z pre.length
 have e:(⟨#[z]⟩:Str)=T [z]:=rfl
 rw[e] at h
 have hc:(T (pre++l)).cps.toList=pre++l:=ze5 _
 rw[hc] at h
 have hl:(T (pre++l)).length=pre.length+l.length:=by rw[zbw,Zhl]
 have hz:(T [z]).length=1:=zbw _
 have hg:(pre++l)[pre.length]? = l.head?:=by
  rw[Zip Ay,Zx1];cases l <;> rfl
 rw[hg,hl,hz] at h
 constructor
 .intro hs
  by_cases hl0:l=[]
  .subst hl0
   exfalso
   unfold subAt at hs
   simp[T,Zum] at hs
  .have:1<=l.length:=by cases l with | nil=>exact absurd rfl hl0 | cons _ _=>simp
   exact h.mp ⟨by lia,hs⟩
 .intro hs
  exact(h.mpr hs).2
theorem zh9(z:Nat)(n:Nat):∀(l pre:Ac) (free:Nat) (acc:Az),free<=pre.length ->
  (Zsy (Zov pre.length (l.length+1)) (acc,free) (occBody (T (pre++l)) (T [z]) (pre.length+l.length) n)).run.fst.toList=acc.toList++(posL z pre.length l).take (n - acc.size)
 | [],pre,free,acc,hf=>by
  rw[Zhz,Zj4,Zqd,List.range'_zero,Zk8]
  unfold occBody
  rw[if_neg (by rintro⟨⟨_,h⟩,_⟩;rw[zbw] at h;simp at h;lia)]
  show acc.toList=_
  simp[posL]
 | x::l,pre,free,acc,hf=>by
  rw[Zg5,Zqd,Zk8]
  have hs:=zt0 pre (x::l) z
  have e2:pre++x::l=(pre++[x])++l:=by simp
  have e3:pre.length+(l.length+1)=(pre++[x]).length+l.length:=by simp;lia
  have e4:pre.length+1=(pre++[x]).length:=by simp
  have hz:(T [z]).length=1:=zbw _
  conv=>lhs;unfold occBody
  by_cases hx:x=z
  .have hs':Ab (subAt (T (pre++x::l)) (T [z]) pre.length):=by rw[hs];simp[hx]
   by_cases hn:acc.size<n
   .rw[if_pos ⟨⟨⟨hn,hf⟩,by rw[hz];lia⟩,hs'⟩]
    show(Zsy (Zov (pre.length+1) (l.length+1)) (acc.push pre.length,pre.length+(T [z]).length) (occBody (T (pre++x::l)) (T [z]) (pre.length+(l.length+1)) n)).run.fst.toList=_
    rw[e2,e3,e4,zh9 z n l (pre++[x]) _ _ (by rw[hz];simp)]
    rw[posL,if_pos hx,Znk,Array.size_push,<- e4]
    rw[show n - acc.size=(n - (acc.size+1))+1 by lia,Zou,Zis]
    rfl
   .rw[if_neg (by rintro⟨⟨⟨h,_⟩,_⟩,_⟩;exact hn h)]
    show(Zsy (Zov (pre.length+1) (l.length+1)) (acc,free) (occBody (T (pre++x::l)) (T [z]) (pre.length+(l.length+1)) n)).run.fst.toList=_
    rw[e2,e3,e4,zh9 z n l (pre++[x]) _ _ (by simp;lia),show n - acc.size=0 by lia]
    simp
  .have hs':¬ Ab (subAt (T (pre++x::l)) (T [z]) pre.length):=by rw[hs];simp[hx]
   rw[if_neg (by rintro⟨_,h⟩;exact hs' h)]
   show(Zsy (Zov (pre.length+1) (l.length+1)) (acc,free) (occBody (T (pre++x::l)) (T [z]) (pre.length+(l.length+1)) n)).run.fst.toList=_
   rw[e2,e3,e4,zh9 z n l (pre++[x]) _ _ (by simp;lia),posL,if_neg hx,<- e4]
theorem ycm(z n:Nat)(l:Ac):occurrences (T l) (T [z]) 0 (T l).length n=(posL z 0 l).take n:=by
 rw[occ_eq,zbw]
 have:=zh9 z n l [] 0 #[] Ay
 simpa using this
noncomputable def za4(z:Nat):Nat->Ac->AT
 | 0,l=>[l]
 | n+1,l=>match l.dropWhile (· != z) with
  | []=>[l]
  | _::b=>l.takeWhile (· != z)::za4 z n b
noncomputable def zrd(s:Str):Nat->Ac->Al
 | a,[]=>[strSub s a s.length]
 | a,p::r=>strSub s a p::zrd s (p+1) r
theorem zkt(s:Str):∀(ps:Ac) (a:Nat),(((a::ps.map (· + 1)).zip (ps++[s.length])).map fun(i,j)=>strSub s i j)=zrd s a ps
 | [],a=>rfl
 | p::r,a=>by
  show strSub s a p::_=strSub s a p::_
  rw[<- zkt s r (p+1)]
  rfl
theorem zi4(a b c:Ac):strSub (T (a++b++c)) a.length (a.length+b.length)=T b:=by
 unfold strSub T
 congr 1
 apply Zkx.mp
 simp[List.take_append]
theorem zqn{z:Nat}:∀{l:Ac} (a:Nat),z∉l->posL z a l=[]
 | [],_,_=>rfl
 | x::l,a,h=>by
  rw[posL,if_neg (fun e=>h (by simp[e])),zqn _ fun h'=>h (Zgq _ h')]
theorem zw6{z:Nat}:∀(l b:Ac) (a:Nat),z∉l->posL z a (l++z::b)=(a+l.length)::posL z (a+l.length+1) b
 | [],b,a,_=>by simp[posL]
 | x::l,b,a,h=>by
  rw[Znw,posL,if_neg (fun e=>h (by simp[e])),zw6 l b (a+1) fun h'=>h (Zgq _ h')]
  rw[Zg5,show a+1+l.length=a+(l.length+1) by lia]
theorem zej{z:Nat}:∀l:Ac,(l.dropWhile (· != z)=[]/\z∉l) \/ ∃b,l.dropWhile (· != z)=z::b/\l=l.takeWhile (· != z)++z::b/\z∉l.takeWhile (· != z)
 | []=>.inl ⟨rfl,by simp⟩
 | x::l=>by
  by_cases hx:x=z
  .subst hx;exact .inr ⟨l,by simp,by simp,by simp⟩
  .have e1:(x::l).dropWhile (· != z)=l.dropWhile (· != z):=by simp[Zku,hx]
   have e2:(x::l).takeWhile (· != z)=x::l.takeWhile (· != z):=by simp[Zms,hx]
   rw[e1,e2]
   rcases zej (z:=z) l with ⟨h1,h2⟩ | ⟨b,h1,h2,h3⟩
   .exact .inl ⟨h1,by simp[h2];exact fun e=>hx e.symm⟩
   .refine .inr ⟨b,h1,by rw[Znw,<- h2],?_⟩
    simp only[Zgp,not_or]
    exact⟨fun e=>hx e.symm,h3⟩
theorem zk5(z:Nat):∀(n:Nat) (pre l:Ac),zrd (T (pre++l)) pre.length ((posL z pre.length l).take n)=(za4 z n l).map T
 | 0,pre,l=>by
  have:=zi4 pre l []
  rw[Zh0] at this
  show[strSub (T (pre++l)) pre.length (T (pre++l)).length]=[T l]
  rw[zbw,Zhl,this]
 | n+1,pre,l=>by
  rcases zej (z:=z) l with ⟨h1,h2⟩ | ⟨b,h1,h2,h3⟩
  .rw[zqn _ h2,za4,h1]
   have:=zi4 pre l []
   rw[Zh0] at this
   show[strSub (T (pre++l)) pre.length (T (pre++l)).length]=[T l]
   rw[zbw,Zhl,this]
  .have e:za4 z (n+1) l=l.takeWhile (· != z)::za4 z n b:=by rw[za4,h1]
   rw[e]
   generalize l.takeWhile (· != z)=a at h2 h3
   subst h2
   rw[zw6 _ _ _ h3,Zou]
   show strSub _ pre.length (pre.length+a.length)::zrd _ (pre.length+a.length+1) _=T a::(za4 z n b).map T
   have e1:=zi4 pre a (z::b)
   rw[Zis] at e1
   rw[e1]
   congr 1
   have:=zk5 z n (pre++a++[z]) b
   have e2:pre++a++[z]++b=pre++(a++z::b):=by simp
   have e3:(pre++a++[z]).length=pre.length+a.length+1:=by simp;lia
   rw[e2,e3] at this
   exact this
theorem zja(z n:Nat)(l:Ac):partsBetween (T l) (occurrences (T l) (T [z]) 0 (T l).length n) (T [z]).length=(za4 z n l).map T:=by
 have e:=zkt (T l) ((posL z 0 l).take n) 0
 have h:=zk5 z n [] l
 rw[ycm,zbw]
 unfold partsBetween
 exact e.trans h
theorem zfa(z:Nat):∀n l,(za4 z n l).length<=n+1
 | 0,l=>Ay
 | n+1,l=>by
  unfold za4
  split
  .simp
  .rw[Zg5];have:=zfa z n ‹_›;lia
end L2
namespace L2
open PySem PySem.W PySem.Spec PyProof.Rows PySem.Builtin PySem.Builtin.Str
noncomputable def zu6:V->Ao->Hp->Af VK:=fun x vs H Q=>∃(l:Ac) (z:Nat) (k:Int),x= .str (T l)/\vs=[.str (T [z]),.int k]/\0<=k/\k<1000/\z<128/\(∀c∈l,c<128)/\AL l.length /\ ∀p,H p=none->Q AO (upd H p (.lst (((za4 z k.toNat l).map T).map V.str)))
theorem zre{l:Ac}(h:∀c∈l,c<128):Zjd (T l)=1:=by
 unfold Zjd
 rw[if_pos]
 rw[Array.all_eq_true_iff_forall_mem]
 intro c hc
 have:c∈l:=by simpa[T] using hc
 have:=h c this
 simp;lia
theorem ztx{X:Cx}:MtR X "str.split" zu6:=by
 intro pins s σ H x xs v us Q I rx rs h
 obtain⟨l,z,k,rfl,rfl,hk0,hk1,hz,hl,hlen,q⟩:=h
 obtain⟨t,rfl⟩:=rx
 obtain⟨u1,u2,rfl,⟨u,rfl⟩,⟨u',rfl⟩⟩:=zrr rs
 have hk:Am (decide (k< -(2 ^ 63:Int))||decide (k ≥ 2 ^ 63)):=by simp;lia
 have hlim:Zyh (T l) k=k.toNat:=by unfold Zyh;rw[if_neg (by lia)]
 have hpl:=zfa z k.toNat l
 have fin:∀(zs:Ai Str Tok) (m:Nat),zs.map (·.1)=(za4 z k.toNat l).map T ->
   EP X pins σ Q Bz { s with heap:=BD "list" (.seq (Zye zs).toArray),toks:=m }:=fun zs m e=>by
  have v1:=zjh zs
  rw[e] at v1
  exact⟨Bz,_,I.lnew v1 (by rw[Zgn,Zgn,Zg2];lia),rfl,q _ I.fresh⟩
 have hp:=zja z k.toNat l
 have k1:Zjd (T l)=1:=zre hl
 have k2:Zjd (T [z])=1:=zre (by intro c hc;rw[Zg0.mp hc];exact hz)
 cases h1:(decide ((T l).length<(T [z]).length)||decide (Zjd (T l)<Zjd (T [z])))
 .cases hf:(occurrences (T l) (T [z]) 0 (T l).length (Zyh (T l) k)).isEmpty
  .refine Zn3 Zjj (Zj2 _ _ _) Zlk (Zp3 _ _ _) (meets_str_split_sep_max (T l) (T [z]) k t u u' hk h1 (by rw[zbw];rfl) hf (by rw[zbw];exact hlen) (by rw[hlim,hp,Zgn,Zg2];lia)) ?_
   rw[strsFrom_eq]
   exact fin (numbered s.toks _) _ ((Zyy _ _).trans (by rw[hlim];exact hp))
  .refine Zn3 Zjj (Zj2 _ _ _) Zlk (Zp3 _ _ _) (meets_str_split_max_not_found (T l) (T [z]) k t u u' hk h1 (by rw[zbw];rfl) hf) (fin [(T l,t)] s.toks ?_)
   rw[<- hp,<- hlim]
   have:occurrences (T l) (T [z]) 0 (T l).length (Zyh (T l) k)=[]:=Zuw.mp hf
   rw[this]
   have:=zi4 [] l []
   simp only[Zmu,Zh0,Zhz,Zj4] at this
   show[T l]=[strSub (T l) 0 (T l).length]
   rw[zbw,this]
 .refine Zn3 Zjj (Zj2 _ _ _) Zlk (Zp3 _ _ _) (meets_str_split_max_cannot_occur (T l) (T [z]) k t u u' hk h1) (fin [(T l,t)] s.toks ?_)
  rw[k1,k2,zbw,zbw] at h1
  simp at h1
  subst h1
  cases k.toNat <;> rfl
theorem zj2{z c:Nat}:∀{n:Nat} {l p:Ac},p∈za4 z n l->c∈p->c∈l
 | 0,l,p,h,hc=>by rw[za4,Zg0] at h;subst h;exact hc
 | n+1,l,p,h,hc=>by
  rcases zej (z:=z) l with ⟨h1,h2⟩ | ⟨b,h1,h2,h3⟩
  .rw[za4,h1] at h
   have h:p∈[l]:=h
   rw[Zg0] at h;subst h;exact hc
  .rw[za4,h1] at h
   have h:p∈l.takeWhile (· != z)::za4 z n b:=h
   rw[h2]
   rcases Zgp.mp h with h | h
   .subst h;exact Zit _ hc
   .exact Zho _ (Zgq _ (zj2 h hc))
theorem zo3{z:Nat}{a b c:Ac}(ha:z∉a)(hb:z∉b):za4 z 2 (a++z::(b++z::c))=[a,b,c]:=by
 have tw:∀(x y:Ac),z∉x->(x++z::y).dropWhile (· != z)=z::y/\(x++z::y).takeWhile (· != z)=x:=by
  intro x y hx
  induction x with
  | nil=>simp
  | cons w x ih =>
   have hw:w≠z:=fun e=>hx (by simp[e])
   have:=ih fun h=>hx (Zgq _ h)
   rw[Znw,Zku,Zms]
   simp[hw,this]
 have s1:za4 z 2 (a++z::(b++z::c))=a::za4 z 1 (b++z::c):=by
  rw[za4,(tw a _ ha).1,(tw a _ ha).2]
 have s2:za4 z 1 (b++z::c)=b::za4 z 0 c:=by
  conv=>lhs;rw[za4,(tw b _ hb).1,(tw b _ hb).2]
 rw[s1,s2];rfl
section
variable{K:Zgh}{G Hz L:Hp}{ss:List Sl}{ta tb tc t1 t2 te:TE}{ds:List D}
theorem yb3{H:Hp}:∀{ls:AT},(∀l∈ls,∀c∈l,c<128)->AB H (ls.map D.str) ((ls.map T).map V.str)
 | [],_=>Reps.nil
 | l::ls,h=>Reps.cons (Rep.str (h l Zgz)) (yb3 fun m hm=>h m (Zgq _ hm))
theorem zrz{l:Ac}{z:Nat}{k:Int}(a:A8 K G L ta l)(b:A8 K G L t1 [z])(c:Bj K G L t2 k)(hk:0<=k/\k<1000)(hl:AL l.length):EvO K G Hz L ss (tBM K "str" zu6 ta (zbb t1 (zbb t2 tNil))) ((za4 z k.toNat l).map D.str):=fun F H σ Q S q =>
 BK F H σ _ S (by
  rw[r1.of_str]
  refine⟨rfl,b F1 H1 σ _ A9 fun v2 F2 H2 e2 r2=>c F2 H2 σ _ ((A9).ext2 e2) fun v3 F3 H3 e3 r3=>?_⟩
  have ha:=r1.asc
  have hz:=r2.asc
  rw[r2.of_str,r3.of_int]
  refine⟨l,z,k,rfl,rfl,hk.1,hk.2,hz z (by simp),ha,hl,fun p hp=>?_⟩
  have e:=(Bn).trans e3
  exact q p _ F3 _ (e.newO hp) (e.hh.free hp) (e.fh.free hp) zam (yb3 fun m hm c hc=>ha c (zj2 hm hc)))
theorem zsk(a:EvL K G Hz L ss te ds)(hz:AL ds.length):Ap K G L (tCB (fun xs H Q=>∃p ys,xs=[AO]/\((SqL K H p ys /\ ∀l,H l=none->Q (.ref l) (upd H l (.tup ys)))\/(SqT K H p ys/\Q AO H))) (zbb te tNil)) (.tup ds):=fun F H σ Q S q =>
 a F H σ _ S fun p vs F' H' e sq r=>(AM p vs (.inl ⟨sq,fun l hl=>by
  exact q _ _ _ (e.newF hl) (Rep.tupN (zam) (r.mono (Same.upd (e.fh.free hl))))⟩))
end
end L2
namespace L2
open PySem PySem.W PySem.Spec PyProof.Rows
noncomputable def SpG{α:Type}(K:Zgh)(pre:α->Af Ae)(res:α->D):Sp:=fun vs H Q _=>∃(G:Hp) (ds:Ae) (x:α),Same G H/\AB G ds vs/\pre x ds /\ ∀v G' H',Ext G H G' H'->Rep K G' (res x) v->Q v H'
section
variable{α:Type}{K:Zgh}{H:Hp}{vs:List V}{Q:VK}{X:XK}{N:List Str}{t:TS}{pre:α->List D->Prop}{res:α->D}
theorem yd9(h:SpG K pre res vs H Q X)(hN:vs.length<=N.length)(body:∀G ds x,pre x ds->RtD K G H Q (res x)->Go K G H G (BL (Q .non H')) (slots N.length ds) t):t (BL (Q .non H')) (start N vs) H:=by
 obtain⟨G,ds,x,sm,r,hp,q⟩:=h
 exact body G ds x hp (fun v F H' e r=>q v F H' e r) G H _ (zdp sm r hN)
theorem zwk{n:Nat}(hpre:∀x ds,pre x ds->ds.length=n)(h:SpG K pre res vs H Q X):vs.length=n:=by
 obtain⟨G,ds,x,sm,r,hp,q⟩:=h
 rw[<- r.length];exact hpre x ds hp
end
section
variable{X:Cx}
noncomputable def rLeS:R2:=fun x y H Q=>∃i j,x= .str i/\y= .str j/\Q (.bl (! AS j.cps.toList i.cps.toList)) H
theorem zod:OpR X (Zjz .LtE) rLeS:=by
 intro pins s σ H x y v u Q I rx ry h
 obtain⟨i,j,rfl,rfl,q⟩:=h
 obtain⟨t,rfl⟩:=rx
 obtain⟨t',rfl⟩:=ry
 exact compareOp_gives (op:=.LtE) (Zj2 s i t) (Zj2 s j t') F.slot_str_le F.entry_str_le (F.args_str_le_2 _ _) (gives_str_le i j t t') (fun e=>nomatch e) (zbg I q rfl)
end
section
variable{α:Type}{K:Zgh}{G Hz L:Hp}{ss:List Sl}{ta tb tc te:TE}{t:TA}{ds:List D}{E:XK}{pre:α->List D->Prop}{res:α->D}
theorem zq9(x:α)(a:EvAF K G Hz L ss t ds)(hp:pre x ds):Ap K G L (zka (SpG K pre res) [] E t) (res x):=fun F H σ Q S q =>
 a F H σ _ S fun vs F1 H1 e1 r1=>⟨F1,ds,x,e1.fh,by rw[Zh0];exact r1,hp,fun v G' H' e2 r=>q _ _ _ Bn r⟩
theorem znt{i j k:Int}(a:Bj K G L ta i)(b:Bj K G L tb j)(c:Bj K G L tc k):Ap K G L (zq8 (rI0 fun i j=>.bl (decide (i<=j))) (rI0 fun i j=>.bl (decide (i<=j))) ta tb tc) (.bl (decide (i<=j)&&decide (j<=k))):=fun F H σ Q S q =>
 BK F H σ _ S (b F1 H1 σ _ A9 fun v2 F2 H2 e2 r2=>by
  rw[r1.of_int,r2.of_int]
  refine⟨i,j,rfl,rfl,_,rfl,?_⟩
  by_cases h:i<=j
  .rw[if_pos (decide_eq_true h)]
   refine c F2 H2 σ _ ((A9).ext2 e2) fun v3 F3 H3 e3 r3=>?_
   rw[r3.of_int]
   refine⟨j,k,rfl,rfl,q _ F3 H3 ((Bn).trans e3) ?_⟩
   rw[decide_eq_true h,Zph];exact Rep.bl
  .rw[if_neg (by rw[decide_eq_false h];decide)]
   refine q _ F2 H2 Bn ?_
   rw[decide_eq_false h,Znd];exact Rep.bl)
theorem ztl{i j k:Ac}(a:A8 K G L ta i)(b:A8 K G L tb j)(c:A8 K G L tc k):Ap K G L (zq8 rLeS rLeS ta tb tc) (.bl (! AS j i && ! AS k j)):=fun F H σ Q S q =>
 BK F H σ _ S (b F1 H1 σ _ A9 fun v2 F2 H2 e2 r2=>by
  rw[r1.of_str,r2.of_str]
  refine⟨T i,T j,rfl,rfl,_,rfl,?_⟩
  rw[ze5,ze5]
  by_cases h:j<i
  .rw[if_neg (by rw[decide_eq_true h];decide)]
   refine q _ F2 H2 Bn ?_
   rw[decide_eq_true h];exact Rep.bl
  .rw[if_pos (by rw[decide_eq_false h];rfl)]
   refine c F2 H2 σ _ ((A9).ext2 e2) fun v3 F3 H3 e3 r3=>?_
   rw[r3.of_str]
   refine⟨T j,T k,rfl,rfl,q _ F3 H3 ((Bn).trans e3) ?_⟩
   rw[decide_eq_false h,ze5,ze5];exact Rep.bl)
theorem ev_ord{c:Nat}(a:A8 K G L te [c]):Ap K G L (tCB (fun xs H Q=>∃x:Str,xs=[.str x]/\x.length=1/\Q (.int (x.cps.getD 0 0:Nat)) H) (zbb te tNil)) (.int c):=fun F H σ Q S q =>
 BK F H σ _ S ⟨T [c],by rw[r1.of_str],zbw _,q _ _ _ e1 Rep.int⟩
theorem yfe{c:Nat}{l:Ac}(a:A8 K G L ta [c])(b:A8 K G L tb l):Ap K G L (tOp (fun x y H Q=>∃i j,x= .str i/\y= .str j/\Q (.bl (!(Zp6 j i 0 j.length 1).isEmpty)) H) ta tb) (.bl (AE c l)):=fun F H σ Q S q =>
 BK F H σ _ S (b F1 H1 σ _ A9 fun v2 F2 H2 e2 r2=>by
  rw[r1.of_str,r2.of_str]
  refine⟨T [c],T l,rfl,rfl,?_⟩
  have:=StrLaws.found_one (T l) c
  rw[ze5] at this
  rw[show T [c]=⟨#[c]⟩ from rfl,this]
  exact q _ F2 H2 Bn Rep.bl)
end
section
variable{K:Zgh}{G Hz L:Hp}{ss:List Sl}
theorem zit(l:Ac)(f:Nat->D){tl:TE}{g:TG}{te:TE}{nt:Nat}{cs:Ac}(a:A8 K G L tl l)(hk:GK nt g)(hc:cs.Nodup)(hz:l.length<sizeLine)
  (hs:∀c∈l,∃ss',Tg K G Hz L g (.str [c]) (lcSl nt cs ss) ss'/\Ev K G Hz L ss' te (f c)) :
  EvO K G Hz L ss (tLC nt cs (iStr tl) g zsb te) (l.map f):=by
 have:=zis (p:=fun _=>true) (f:=fun i=>f (l.getD i 0)) (tt:=zsb) (te:=te) (yau a) hk hc hz (fun i hi=>by
  have hm:l.getD i 0∈l:=by rw[Zgf,Zgg hi];exact Zik hi
  obtain⟨ss',h1,h2⟩:=hs _ hm
  exact⟨ss',h1,zl5,fun _=>h2⟩)
 have e:=zq0 l 0 (fun _=>true) f
 rw[show l.filter (fun _=>true)=l from Ztg.mpr (by simp)] at e
 rw[<- e];exact this
end
theorem zpc{a b:D}(ha:Ab a.isK)(hb:Ab b.isK)(h:a.key=b.key):a=b:=by
 cases a <;> cases b <;> simp[D.isK,D.key] at * <;> first | exact h | exact zvq.mp h
theorem zlx{K:Zgh}{H:Hp}{d:D}{v:V}(hk:Ab d.isK)(r:Rep K H d v):v=kV d.key:=by
 cases d <;> simp[D.isK] at hk
 .exact r.of_int
 .exact r.of_str
noncomputable abbrev DD:=Ai D D
noncomputable def valD(kvs:DD)(k:D):Option D:=(kvs.find? fun kv=>AC kv.1 k).map (·.2)
noncomputable def putD(kvs:DD)(k d:D):DD:=BC (kvs.any fun kv=>AC kv.1 k) (kvs.map (fun kv=>if kv.1=k then (kv.1,d) else kv)) (kvs++[(k,d)])
inductive Dks(K:Zgh)(F:Hp):DD->List (Key×V)->Prop
 | nil:Dks K F [] []
 | cons {k d:D} {v:V} {kvs:DD} {xs:List (Key×V)} (hk:k.isK=true) (hr:Rep K F k (kV k.key)) (r:Rep K F d v) (t:Dks K F kvs xs):Dks K F ((k,d)::kvs) ((k.key,v)::xs)
section
variable{K:Zgh}{F F':Hp}{kvs:DD}{xs:List (Key×V)}
theorem Dks.mono(h:Dks K F kvs xs)(s:Same F F'):Dks K F' kvs xs:=by
 induction h with
 | nil=>exact .nil
 | cons hk hr r t ih=>exact .cons hk (hr.mono s) (r.mono s) ih
theorem Dks.length(h:Dks K F kvs xs):kvs.length=xs.length:=by
 induction h with
 | nil=>rfl
 | cons hk hr r t ih=>simp[ih]
theorem zy9{k:D}(hk:Ab k.isK):Ab k.flat:=by cases k <;> simp[D.isK] at hk <;> rfl
theorem yai{K:Zgh}{H F:Hp}{k:D}{v:V}(hk:Ab k.isK)(r:Rep K H k v):Rep K F k (kV k.key):=by
 rw[<- zlx hk r];exact r.flat (zy9 hk)
theorem Dks.val(h:Dks K F kvs xs){k:D}(hk:Ab k.isK):(valD kvs k=none/\valV xs k.key=none) \/ ∃d v,Aa (valD kvs k) d/\Aa (valV xs k.key) v/\Rep K F d v:=by
 induction h with
 | nil=>exact .inl (AF rfl)
 | @cons k' d v kvs xs hk' hr' r t ih =>
  by_cases e:k'=k
  .subst e
   exact .inr ⟨d,v,by simp[valD],by simp[valV],r⟩
  .have e2:k'.key≠k.key:=fun z=>e (zpc hk' hk z)
   have h1:valD ((k',d)::kvs) k=valD kvs k:=by simp[valD,Zjf,e]
   have h2:valV ((k'.key,v)::xs) k.key=valV xs k.key:=by simp[valV,Zjf,e2]
   rw[h1,h2];exact ih
theorem Dks.any(h:Dks K F kvs xs){k:D}(hk:Ab k.isK):(kvs.any fun kv=>AC kv.1 k)=xs.any fun kv=>AC kv.1 k.key:=by
 induction h with
 | nil=>rfl
 | @cons k' d v kvs xs hk' hr' r t ih =>
  rw[Zl0,Zl0,ih]
  congr 1
  by_cases e:k'=k
  .subst e;simp
  .have e2:k'.key≠k.key:=fun z=>e (zpc hk' hk z)
   rw[decide_eq_false e,decide_eq_false e2]
theorem Dks.snoc(h:Dks K F kvs xs){k d:D}{v:V}(hk:Ab k.isK)(hr:Rep K F k (kV k.key))(r:Rep K F d v):Dks K F (kvs++[(k,d)]) (xs++[(k.key,v)]):=by
 induction h with
 | nil=>exact .cons hk hr r .nil
 | cons hk' hr' r' t ih=>exact .cons hk' hr' r' ih
theorem Dks.put(h:Dks K F kvs xs){k d:D}{v:V}(hk:Ab k.isK)(hr:Rep K F k (kV k.key))(r:Rep K F d v):Dks K F (putD kvs k d) (putK xs k.key v):=by
 unfold putD putK
 rw[h.any hk]
 by_cases hc:Ab (xs.any fun kv=>AC kv.1 k.key)
 .rw[if_pos hc,if_pos hc]
  clear hc
  induction h with
  | nil=>exact .nil
  | @cons k' d' v' kvs xs hk' hr' r' t ih =>
   rw[Zhc,Zhc]
   by_cases e:k'=k
   .subst e;rw[if_pos rfl,if_pos rfl];exact .cons hk' hr' r ih
   .have e2:k'.key≠k.key:=fun z=>e (zpc hk' hk z)
    rw[if_neg e,if_neg e2];exact .cons hk' hr' r' ih
 .rw[if_neg hc,if_neg hc];exact h.snoc hk hr r
end
theorem zdg(kvs:DD)(k d:D):(putD kvs k d).length<=kvs.length+1:=by
 unfold putD;split <;> simp
end L2
namespace L2
open PySem PySem.Spec PyProof.Rows
theorem zy7(kvs:DD)(k d k':D):valD (putD kvs k d) k'=if k'=k then some d else valD kvs k':=by
 have hm:∀{kvs:DD},¬ k'=k->(kvs.map fun kv=>if kv.1=k then (kv.1,d) else kv).find? (fun kv=>AC kv.1 k')=kvs.find? fun kv=>AC kv.1 k':=fun {kvs} hk=>by
  induction kvs with
  | nil=>rfl
  | cons q kvs ih =>
   rw[Zhc,Zjf,Zjf,ih]
   by_cases c:q.1=k
   .rw[if_pos c]
    have:¬ q.1=k':=fun z=>hk (z.symm.trans c)
    rw[decide_eq_false this]
   .rw[if_neg c]
 unfold valD putD
 by_cases h:Ab (kvs.any fun kv=>AC kv.1 k)
 .rw[if_pos h]
  by_cases hk:k'=k
  .subst hk
   rw[if_pos rfl]
   clear hm
   induction kvs with
   | nil=>cases h
   | cons q kvs ih =>
    rw[Zhc,Zjf]
    by_cases c:q.1=k'
    .rw[if_pos c,decide_eq_true c];rfl
    .rw[if_neg c,decide_eq_false c]
     rw[Zl0,decide_eq_false c,Zwe] at h
     exact ih h
  .rw[if_neg hk,hm hk]
 .rw[if_neg h,List.find?_append]
  by_cases hk:k'=k
  .subst hk
   rw[if_pos rfl]
   have:kvs.find? (fun kv=>AC kv.1 k')=none:=by
    rw[Ztv]
    intro x hx z
    exact h (Zu1.mpr ⟨x,hx,z⟩)
   rw[this]
   simp
  .rw[if_neg hk]
   cases kvs.find? fun kv=>decide (kv.1=k') with
   | some q=>rfl
   | none=>simp[Zh1 hk]
end L2
namespace L2
open PySem PySem.W PySem.Spec PyProof.Rows
noncomputable abbrev KQ:=Ai D (Addr×Ae)
end L2
namespace L2
open PySem PySem.Spec PyProof.Rows
end L2
namespace L2
open PySem PySem.W PySem.Spec PyProof.Rows
end L2
namespace L2
open PySem PySem.Spec PyProof.Rows
section
variable{X:Cx}{e:Expr}{ta:TA}{elts:List Expr}{kk:Nat}{tp p pos:Pos}
theorem zr7{body:List Stmt}{h₀:Zzs}{hs:List Zzs}{t:TS}(hx:X.xe=fun _ _=>False)(hb:PSs X body t):PS X (.Try body (h₀::hs) [] [] pos) t:=by
 intro pins s σ H D I h
 refine wpAny_Try_except (Zif (hb pins s σ H D I h) (fun f s1 q=>?_) fun e s1 z=>?_)
 .cases f with
  | next=>exact Zng q
  | _=>exact q
 .rw[hx] at z;exact z.elim
end
open AutoSeq1 (wpAny_loadPart')
theorem zkm(a b:Zgi):checkTypeCall "enumerate" ⟨[a],[("start", b)]⟩=pure ():=by kernel_rfl
theorem zmg(a b:Zgi):Zxk "enumerate.__new__" ⟨[.type "enumerate", a],[("start", b)]⟩=pure ():=by kernel_rfl
theorem zot(l:Addr)(items:Array Zgi)(n:Nat)(dct:Option Addr)(sl:Array AY)(m:Int)(hfit:Ab (Zi2 m))(t:Tok) :
  Meets (Zg9.«enumerate.__new__» ⟨[.type "enumerate", .ref l],[("start", .int m t)]⟩) (fun _ R s=>AH l { cls:=.type "list", dict:=dct,data:=.seq items n,slots:=sl } /\
   R (.ok (.ret (.ref (BD "list_iterator" (.fields #[.ref l,.int 0 0])).objs.size)))
    { s with heap:=(BD "list_iterator" (.fields #[.ref l,.int 0 0])).push (Bl "enumerate" (.fields #[.none,.bool false,Bz,Zkf m,.none,.none])) }) :=
 .of_wp fun prog w A R s h=>by
  obtain⟨hp,g,d,tk,os⟩:=s
  obtain⟨hl,h⟩:=h
  have hsub:=sub_enumerate;have hL:Zx7 (Zso ⟨hp,g,d,tk,os⟩) l items:=⟨_,hl,rfl,n,rfl⟩
  wp_walk using Zkw hl
  refine wpAny_stack_any fun st=>Zgj ?_
  split
  .rename_i c _ _ _ _ _
   cases (c == Zky "enumerate") <;> (wp_walk using Zkw hl,Zju hL;simp only[hfit,Zj3,Zgw,if_false];wp_walk using Zkw hl,Zju hL;exact(Aw _ h))
  .wp_walk using Zkw hl,Zju hL
   simp only[hfit,Zj3,Zgw,if_false]
   wp_walk using Zkw hl,Zju hL
   exact(Aw _ h)
noncomputable abbrev zrp(h:Heap)(l:Addr)(m:Int):Heap:=(h.push (Bl "list_iterator" (.fields #[.ref l,.int 0 0]))).push (Bl "enumerate" (.fields #[.none,.bool false,.ref h.objs.size,Zkf m,.none,.none]))
theorem zki(a b c:Zgi):Zv4 "object.__init__" ⟨[a,b],[("start", c)]⟩:=by unfold Zv4;kernel_rfl
theorem zr6(obj a c:Zgi):Meets (Zg9.«object.__init__» ⟨[obj,a],[("start", c)]⟩) (fun _ R s=>s.TypeIs obj "enumerate" /\ R (.ok (.ret .none)) s):=by
 refine Meets.of_wp fun prog w A R s hs=>?_
 obtain⟨hT,hq⟩:=hs
 have hl:=Zp2.init.lookup;have hm:=Zp2.made
 have hne:Ab (some "enumerate.__new__" != some "object.__new__"):=by decide
 repeat (any_goals (first | assumption | wp_step))
 exact(Aw _ hq)
section
variable{prog:Zg8}{w:Zhy}{A:Zhk}{E:Zgi->Zgk->Prop}{s:Zgk}
theorem zvd{l:Addr}{items:Array Zgi}{m:Int}{t:Tok}{Q:Zgi->Ah}(hfit:Ab (Zi2 m))(hL:s.heap.IsList l items)
  (h:∀h',IsEnum h' (AR 1) s.heap.objs.size m .none->h'.IsListIter s.heap.objs.size l 0->h'.objs.size=AR 2 ->
   (∀b o,AH b o->AU b o)->BG (.ref (AR 1))) :
  An w A (call (.type "enumerate") [.ref l] [("start", .int m t)]) Q E s:=by
 obtain⟨⟨c,dct,dt,sl⟩,hl,hc,n,hd⟩:=hL
 replace hc:c= .type "list" := hc;replace hd:dt= .seq items n:=hd
 subst hc hd
 have ft:=Zp2
 obtain⟨c,tl,hmro⟩:=ft.mro
 have hmade:=ft.made;have hsub:=ft.sub;have hct:=zkm (.ref l) (.int m t)
 refine Zs7 (Zse ?_)
 show Zg1 _ _ (callAny (.type "enumerate") _) _ _ _
 refine Zgj ⟨Zty _ (by decide +kernel),Zli Zvz ?_⟩
 rw[Zs5 (Zug "enumerate" [.ref l] _) (units_type_call_type "enumerate" [.ref l] _)]
 have h1:=ft.notType;have h2:=ft.canCreate
 repeat (any_goals (first | assumption | wp_step))
 have hz:(BD "list_iterator" (.fields #[.ref l,.int 0 0])).objs.size=AR 1:=Zhj ..
 have he:IsEnum ((BD "list_iterator" (.fields #[.ref l,.int 0 0])).push
   (Bl "enumerate" (.fields #[.none,.bool false,Bz,Zkf m,.none,.none]))) (AR 1) s.heap.objs.size m .none:=by
  have:=Zgx (BD "list_iterator" (.fields #[.ref l,.int 0 0]))
   (o:=(Bl "enumerate" (.fields #[.none,.bool false,Bz,Zkf m,.none,.none]))) rfl
  rw[hz] at this;exact this
 have hu:=h _ he (AM _ (Zgl _ (Zgx _ rfl)) rfl) (by rw[Zhj,hz]) fun b o x=>Zgl _ (Zgl _ x)
 have hT:Zu9 { s with heap:=zrp s.heap l m } (.ref (AR 1)) "enumerate" := (AD he rfl)
 have hm:=zot l items n dct sl m hfit t prog w A.in1 (fun r s'=>r= .ok (.ret (.ref (AR 1)))/\s'={ s with heap:=zrp s.heap l m }) s ⟨hl,by rw[hz],rfl⟩
 refine Zl3 (Zpj (R:=fun r s'=>r= .ok (.ret (.ref (AR 1)))/\s'={ s with heap:=zrp s.heap l m }) ft.plain F.entry_enumerate_new (Zsb (zmg _ _) hm)) fun r s₁ hr=>?_
 obtain⟨rfl,rfl⟩:=hr
 have hli:=ft.init.lookup;have hbi:=ft.init.bind (.ref (AR 1))
 show Zg1 _ _ _ _ _ _
 repeat (any_goals (first | assumption | wp_step))
 have hm2:=zr6 (.ref (AR 1)) (.ref l) (.int m t) prog w A.in1 (fun r s'=>r= .ok (.ret .none)/\s'={ s with heap:=zrp s.heap l m }) { s with heap:=zrp s.heap l m } (Aw hT rfl)
 refine Zl3 (Zpj (R:=fun r s'=>r= .ok (.ret .none)/\s'={ s with heap:=zrp s.heap l m }) ft.init.plain F.entry_object_init (ft.init.check _ _ _ _ _ _ _ _ hT (zki _ _ _) hm2)) fun r₂ s₂ hr₂=>?_
 obtain⟨rfl,rfl⟩:=hr₂
 show Zg1 _ _ _ _ _ _
 repeat (any_goals (first | assumption | wp_step))
end
theorem zjo{prog:Zg8}{w:Zhy}{A:Zhk}{it:Addr}{fp:List Addr}{n:Nat}{P:Nat->Af Zgi}{St:Nat->Af Heap}(m:Nat)(D:Zsn prog w A it fp n P St) :
  Zsn prog w A it fp (n+m) (fun i v=>P (i - m) v) (fun i h=>m<=i/\St (i - m) h) where
 live:=fun i h st=>D.live _ _ st.2
 frame:=fun i h h' st k=>⟨st.1,D.frame _ _ _ st.2 k⟩
 item:=fun i s Q E hi st hQ=>D.item (i - m) s Q E (by omega) st.2 fun x h' tk a b c=>hQ x h' tk a ⟨by lia,by rw[show i+1 - m=(i - m)+1 by have:=st.1;lia];exact b⟩ c
 done:=fun s Q E st hE=>D.done s Q E (by simpa using st.2) hE
noncomputable def IteN(K:Zgh)(m:Nat)(a:Addr):It :=
 ⟨fun i H=>∃xs x,SqL K H a xs/\Ak xs x,fun i H x H'=>∃T0 vs,x= .ref T0/\H T0=none/\H'=upd H T0 (.tup vs) /\ ∀xs,SqL K H a xs-> ∃y,Ak xs y/\vs=[.int ((i+m:Nat):Int),y],fun i H=>∃xs,SqL K H a xs/\xs.length=i⟩
theorem zru{P:Zg8}{w:Zhy}{K:Zgh}{elts:List Expr}{kk:Nat}{tp:Pos}(m:Nat)(a it e:Addr)(hae:a≠e)(hai:a≠it)(hei:e≠it) :
  Turn P w K (.Tuple elts kk tp) (IteN K m a) [e,it] e (fun i h=>(∃old,IsEnum h e it ((i+m:Nat):Int) old)/\h.IsListIter it a i) where
 mem:=by simp
 obj:=fun i h st b hb=>by
  obtain⟨⟨old,ho⟩,oi,hoi,_,hdi⟩:=st
  rcases Zgp.mp hb with rfl | hb
  .exact(AD ho (fun v z=>by cases z))
  .rw[Zg0.mp hb]
   exact⟨oi,hoi,fun v z=>by rw[hdi] at z;cases z⟩
 keep:=fun i h h' st k=>⟨let ⟨old,ho⟩:=st.1;⟨old,k e (by simp) _ ho⟩,st.2.at fun o x=>k it (by simp) o x⟩
 item:=by
  intro X hP hw hK hc i pins s σ H E I hf st hg
  subst hP hw hK
  obtain⟨xs,x,hq,hx⟩:=hg
  obtain⟨its,rv,p,hz⟩:=I.list hq
  obtain⟨u,hu,ru⟩:=rv.get hx
  have hil:i<its.length:=(Zgo.mp hu).1
  have W0:=Zs8 (A:=X.A) (zjo m (Zrs (prog:=X.prog) (w:=X.w) (A:=X.A.in1) (show X.A.in1.handled=none from I.ok.hd hc) it a hai its.toArray)) e hei (by simp[hei,Zh1 hae]) (by simp)
  refine W0.item (i+m) s _ _ (by simpa using hil) ⟨st.1,Zvr _ _,by rw[Zt7];exact⟨st.2,p.isList⟩⟩ fun T0 vals h1 tk hp hle ht mid kk=>?_
  obtain⟨t,v,hv,rfl⟩:=hp
  have hv:Ak its v:=by simpa using hv
  rw[hu] at hv;cases hv
  have fresh:H T0=none:=I.hok.fresh hle
  have I1:Ag (upd H T0 (.tup [.int ((i+m:Nat):Int),x])) { s with heap:=h1,toks:=tk }:=I.turnsT (wr:=[e,it]) hf kk hle ht (.cons (AF t) (.cons ru .nil)) (by rw[Zg2];simp)
  refine(Aw (.ref T0) (W0.go elts _ tp (i+m) T0 _ _ _ mid fun h2 st2 k2=>?_))
  have hlt:∀b∈[e,it],b≠T0:=fun b hb z=>by
   obtain⟨⟨old,ho⟩,oi,hoi,_,hdi⟩:=st
   rcases Zgp.mp hb with rfl | hb
   .exact absurd (Zhd (Zgv ho) (z ▸ hle)) (Zib _)
   .rw[Zg0.mp hb] at z
    exact absurd (Zhd (Zgv hoi) (z ▸ hle)) (Zib _)
  have hf1:∀b∈[e,it],FpOk X pins (upd H T0 (.tup [.int ((i+m:Nat):Int),x])) b:=fun b hb=>⟨by rw[zal (hlt b hb)];exact(hf b hb).1,(hf b hb).2⟩
  exact⟨.ref T0,_,I1.turns (t':=tk) hf1 k2,rfl,⟨T0,_,rfl,fresh,rfl,fun ys hy=>⟨x,by rw[I.list_inj hy hq];exact hx,rfl⟩⟩,⟨by rw[show i+1+m=i+m+1 by omega];exact st2.1,by have:=st2.2.2.1;rw[show i+m+1 - m=i+1 by omega] at this;exact this⟩,fun b hb=>by rw[zal (hlt b hb)];exact(hf b hb).1⟩
 done:=by
  intro X hP hw hK hc i pins s σ H E I hf st hg
  subst hP hw hK
  obtain⟨xs,hq,hx⟩:=hg
  obtain⟨its,rv,p,hz⟩:=I.list hq
  have hl:=rv.length
  have hs:its.toArray.size=i:=by simp;lia
  have W0:=Zs8 (A:=X.A) (zjo m (Zrs (prog:=X.prog) (w:=X.w) (A:=X.A.in1) (show X.A.in1.handled=none from I.ok.hd hc) it a hai its.toArray)) e hei (by simp[hei,Zh1 hae]) (by simp)
  rw[hs] at W0
  exact W0.done s _ _ ⟨st.1,Zvr _ _,by rw[Zt7];exact⟨st.2,p.isList⟩⟩ fun h1 tk kk=>⟨rfl,I.turns (wr:=[e,it]) hf kk⟩
 self:=fun A i s Q E st h=>Zwh st.1.choose_spec h
section
variable{M:Zur}{A:Zhk}{E:Zgi->Zgk->Prop}{s:Zgk}{env:Env}
theorem zjk{pos:Pos}{T:String}{e:Expr}{rest:List Expr}{kws:List Zoi}{Q:Zgi->Ah}
  (h:Zg1 M A (Zyf (Zlw pos (Zh5 (e::rest) env))) (fun vs s₁=>Zg1 M A (evalAll ((Zmc pos (Zkg kws env)).map (·.2)))
   (fun kvs s₂=>Zg1 M A (call (.type T) vs (((Zmc pos (Zkg kws env)).filterMap (·.1)).zip kvs)) Q E s₂) E s₁) E s)
  (he:Zlw pos (Zh5 (e::rest) env)=(false,eval e env)::Zlw pos (Zh5 rest env)) (hplain:Am ((Zlw pos (Zh5 (e::rest) env)).any (·.1)))
  (hall:Ab ((Zmc pos (Zkg kws env)).all (·.1.isSome))) (hkw:Am ((Zmc pos (Zkg kws env)).any (·.1.isNone))) :
  Zg1 M A (Zzl pos (.type T) [] (Zlw pos (Zh5 (e::rest) env)) (Zmc pos (Zkg kws env))) Q E s:=by
 have h2:Zg1 M A (evalArgs (.type T) true (Zlw pos (Zh5 (e::rest) env)) (Zmc pos (Zkg kws env))) (fun a s₁=>Zg1 M A (call (.type T) ([]++a.pos) a.kw) Q E s₁) E s:=by
  rw[he] at h ⊢
  exact evalArgs_kwB hall h
 unfold Zzl
 refine Zge (Zhx (Zif h2 (fun a s₁ h₁=>Zge (Zob ?_)) fun _ _ x=>x))
 simp only[hplain,hkw,Zr8];refine Ba ?_
 exact Zge (Zif h₁ (fun r s₂ hr=>Zge (Zhx (wpAny_point (Zgj hr)))) fun _ _ x=>x)
end
section
variable{X:Cx}{e ke:Expr}{ta:TA}{elts:List Expr}{kk:Nat}{tp p pos kp:Pos}
noncomputable def iEnN(K:Zgh)(ta:TA)(te:TE):TI:=fun σ H R=>ta σ H fun vs H1=>te σ H1 fun z H2=>∃a m,vs=[Au]/\z= .int (m:Nat)/\Ab (Zi2 m)/\(∃xs,SqL K H2 a xs)/\R (IteN K m a) H2
theorem zqq{te:TE}(hg:Gl X "enumerate")(hm:X.mg "enumerate" = none)(hA:PA X [e] ta)(hk:PE X ke te)(hs:Zh5 [e] X.env=[(false,Bh e)]:=by rfl) :
  PI X (.Tuple elts kk tp) (.Call (.Name "enumerate" p) [e] [⟨some "start", ke,kp⟩] pos) (iEnN X.K ta te):=by
 intro pins s σ H R I h
 refine Zmb (zmn I hg hm boot_enumerate ?_)
 refine zjk (rest:=[]) (thn (hA pos pins s σ H _ I h) fun us s1 hz9=>?_) (by rw[hs];rfl) (by rw[hs];rfl) rfl rfl
 obtain⟨vs,H1,I1,r1,q1⟩:=hz9
 refine thn (ya9 hk yeq pos pins s1 σ H1 (fun zs H2=>match zs with
  | [z]=>∃a m,vs=[Au]/\z= .int (m:Nat)/\Ab (Zi2 m)/\(∃xs,SqL X.K H2 a xs)/\R (IteN X.K m a) H2
  | _=>False) I1 q1) fun ws s2 ⟨zs,H2,I2,r2,q2⟩=>?_
 match zs,q2 with
 | [z],⟨a,m,e1,e3,hfit,hl,q⟩ =>
 subst e1 e3
 obtain⟨w',rfl,rw'⟩:=zj0 r2
 obtain⟨t,rfl⟩:=rw'
 obtain⟨u,rfl,ru⟩:=zj0 r1
 cases ru
 obtain⟨xs,hq⟩:=hl
 obtain⟨its,rv,p,hz⟩:=I2.list hq
 refine zvd hfit p.isList fun h1 hen hit hsz hk=>?_
 have I3:Ag H2 { s2 with heap:=h1 }:=I2.kept (t':=s2.toks) hk
 refine Zwh hen ?_
 have hlt:a<s2.heap.objs.size:=by obtain⟨o,ho,_⟩:=p.isList;exact Zgv ho
 refine⟨s2.heap.objs.size+1,[s2.heap.objs.size+1,s2.heap.objs.size],_,_,H2,rfl,I3,zru m a s2.heap.objs.size (s2.heap.objs.size+1) (Zhb (Zkq hlt)) (Zhb hlt) (Nat.succ_ne_self _),⟨⟨_,by rw[Zj4];exact hen⟩,hit⟩,fun b hb=>?_,q⟩
 rcases Zgp.mp hb with rfl | hb
 .exact I2.fpOk (Znv _) (I2.hok.fresh (Znv _))
 .rw[Zg0.mp hb]
  exact I2.fpOk Ay (I2.hok.fresh Ay)
end
end L2
namespace L2
open PySem PySem.Spec PyProof.Rows PySem.Builtin PySem.Builtin.Str
section
variable{X:Cx}
noncomputable def zpa:V->Ao->Hp->Af VK:=fun x vs H Q=>∃(l:Ac) (z:Nat),x= .str (T l)/\vs=[.str (T [z])]/\Q (.bl (decide (Bq l.head? z))) H
theorem zy3(l:Ac)(z:Nat):Zv5 (T l) (T [z])=decide (Bq l.head? z):=by
 have h:=zt0 [] l z
 rw[Zmu,Zhz] at h
 unfold Zv5
 rw[h,zbw,zbw]
 cases l with
 | nil=>rfl
 | cons x l=>simp
theorem zmf:MtR X "str.startswith" zpa:=by
 intro pins s σ H x xs v us Q I rx rs h
 obtain⟨l,z,rfl,rfl,q⟩:=h
 obtain⟨t,rfl⟩:=rx
 obtain⟨u,rfl,ru⟩:=Vals.one rs
 obtain⟨u,rfl⟩:=ru
 refine SC.startswith ⟨.bl (decide (Bq l.head? z)),H,I,?_,q⟩
 rw[zy3];rfl
noncomputable def zni(K:Zgh):V->Ao->Hp->Af VK:=fun x vs H Q=>∃z p ys,x= .str z/\vs=[AO]/\SqT K H p (ys.map V.str)/\z.length<=16/\(ys.map (·.length)).sum+ys.length<=1048576/\Q (.str (Zqq z ys)) H
theorem zx0:MtR X "str.join" (zni X.K):=by
 intro pins s σ H x xs v us Q I rx rs h
 obtain⟨z,p,ys,rfl,rfl,hl,hz,hw,q⟩:=h
 obtain⟨t,rfl⟩:=rx
 obtain⟨u,rfl,ru⟩:=Vals.one rs
 cases ru
 obtain⟨its,r,pl,_⟩:=I.tuple hl
 refine join_tupleW pl (ys:=ys) (by simpa using zjq r) hz hw fun t' k=>⟨.str _,H,I.tok _,⟨_,by show _=Zo6 (Zqq z ys) t';rw[<- Zry];rfl⟩,q⟩
end
noncomputable def zct(z:Nat)(l:Ac):AT:=za4 z (l.length+1) l
theorem zxj{z:Nat}{l:Ac}(hz:z<128)(hl:∀c∈l,c<128):Zpk (T l) (T [z])=(zct z l).map T:=by
 have hp:=zja z (l.length+1) l
 have k1:strKind (T l)=1:=zre hl
 have k2:strKind (T [z])=1:=zre (by intro c hc;rw[Zg0.mp hc];exact hz)
 unfold Zpk zct
 rw[zbw] at hp ⊢
 split
 .rename_i h
  rw[k1,k2,zbw] at h
  simp at h
  subst h
  rfl
 .split
  .rename_i h2 h
   rw[<- hp]
   have e:occurrences (T l) (T [z]) 0 l.length (l.length+1)=[]:=Zuw.mp h
   rw[e]
   have:=zi4 [] l []
   simp only[Zmu,Zh0,Zhz,Zj4] at this
   show[T l]=[strSub (T l) 0 (T l).length]
   rw[zbw,this]
  .exact hp
theorem zrv{z n:Nat}:∀{l:Ac},z∉l->za4 z n l=[l]:=fun {l} h=>by
 cases n with
 | zero=>rfl
 | succ n =>
  rcases zej (z:=z) l with ⟨h1,_⟩ | ⟨b,_,h2,_⟩
  .rw[za4,h1]
  .exact absurd (by rw[h2];simp) h
theorem zoy{z n:Nat}{a b:Ac}(ha:z∉a):za4 z (n+1) (a++z::b)=a::za4 z n b:=by
 have tw:(a++z::b).dropWhile (· != z)=z::b/\(a++z::b).takeWhile (· != z)=a:=by
  induction a with
  | nil=>simp
  | cons w x ih =>
   have hw:w≠z:=fun e=>ha (by simp[e])
   have:=ih fun h=>ha (Zgq _ h)
   rw[Znw,Zku,Zms]
   simp[hw,this]
 rw[za4,tw.1,tw.2]
theorem zga{z:Nat}:∀{ps:AT} {n:Nat},ps≠[]->(∀p∈ps,z∉p)->ps.length<=n+1->za4 z n (glue [z] ps)=ps
 | [],_,h,_,_=>absurd rfl h
 | [p],n,_,hz,_=>by
  have:glue [z] [p]=p:=rfl
  rw[this];exact zrv (hz p (by simp))
 | p::q::r,0,_,_,hn=>by simp at hn
 | p::q::r,n+1,_,hz,hn=>by
  have:glue [z] (p::q::r)=p++z::glue [z] (q::r):=by simp[glue]
  rw[this,zoy (hz p (by simp)),zga (by simp) (fun x hx=>hz x (Zgq _ hx)) (by simpa using hn)]
section
variable{K:Zgh}{G Hz L:Hp}{ss:List Sl}{ta tb tc t t1 t2 te:TE}{ds:List D}{E:Ends}
theorem zuc{l:Ac}{z:Nat}(a:A8 K G L ta l)(b:A8 K G L t [z]):Ap K G L (tBM K "str" zpa ta (zbb t tNil)) (.bl (decide (Bq l.head? z))):=fun F H σ Q S q =>
 BK F H σ _ S (by
  rw[r1.of_str]
  refine⟨rfl,b F1 H1 σ _ A9 fun v2 F2 H2 e2 r2=>?_⟩
  exact⟨l,z,rfl,by rw[r2.of_str],q _ _ _ Bn Rep.bl⟩)
theorem zhp{l:Ac}{z:Nat}(a:A8 K G L ta l)(b:A8 K G L t [z])(hl:AL (l.length+2)):EvO K G Hz L ss (tBM K "str" zz1 ta (zbb t tNil)) ((zct z l).map D.str):=fun F H σ Q S q =>
 BK F H σ _ S (by
  rw[r1.of_str]
  refine⟨rfl,b F1 H1 σ _ A9 fun v2 F2 H2 e2 r2=>?_⟩
  have ha:=r1.asc
  have hz:=r2.asc
  rw[r2.of_str]
  refine⟨T l,T [z],rfl,rfl,by rw[zbw];rfl,by rw[zbw];exact hl,fun p hp=>?_⟩
  rw[zxj (hz z (by simp)) ha]
  have e:=Bn
  exact q p _ F2 _ (e.newO hp) (e.hh.free hp) (e.fh.free hp) zam (yb3 fun m hm c hc=>ha c (zj2 hm hc)))
theorem zyi{z:Ac}{ls:AT}(a:A8 K G L ta z)(b:Ap K G L t (.tup (ls.map D.str)))(hz:z.length<=16)(hw:(ls.map Zj7).sum+ls.length<=1048576):Ap K G L (tBM K "str" (zni K) ta (zbb t tNil)) (.str (glue z ls)):=fun F H σ Q S q =>
 BK F H σ _ S (by
  rw[r1.of_str]
  refine⟨rfl,b F1 H1 σ _ A9 fun v2 F2 H2 e2 r2=>?_⟩
  obtain⟨p,vs,rfl,sq,rs⟩:=r2.of_tup
  obtain⟨rfl,ha⟩:=rs.strs
  refine⟨T z,p,ls.map T,rfl,rfl,SqT.same e2.fh sq,by rw[zbw];exact hz,?_,?_⟩
  .rw[Zin,Zgn,show((fun x:Str=>x.length)∘T)=Zj7 from funext fun l=>zbw l];exact hw
  .rw[zws]
   exact q _ _ _ Bn (Rep.str (zk8 r1.asc ha)))
theorem ztp{tl:TE}(a:Ap K G L tl (.lst ds)):EvI K G Hz L ss (iEnN K (zbb tl tNil) (tC (.int 1))) ds.length fun i=>.tup [.int ((i+1:Nat):Int),Bv i]:=fun F H σ R S q =>
 BK F H σ _ S (by
  obtain⟨p,vs,rfl,sq,rs⟩:=r1.of_lst
  refine⟨p,1,rfl,rfl,by decide,⟨vs,SqL.same e1.fh sq⟩,q F1 H1 _ e1 fun F2 H2 f1 h1 fh=>?_⟩
  have rp:Rep K F2 (.lst ds) AO:=r1.mono f1
  obtain⟨ws,sq2,rs2⟩:=rp.itl fh
  have hlen:=rs2.length
  refine⟨fun i hi=>⟨⟨ws,ws[i]'(by lia),sq2,Zgg _⟩,fun x H3 y=>?_⟩,⟨ws,sq2,by lia⟩⟩
  obtain⟨T0,us,rfl,hf,rfl,y⟩:=y
  obtain⟨w,hx,rfl⟩:=y ws sq2
  obtain⟨dx,hdx,rx⟩:=rs2.get hx
  have e3:Ext F2 H2 (upd F2 T0 (.tup [.int ((i+1:Nat):Int),w])) (upd H2 T0 (.tup [.int ((i+1:Nat):Int),w])):=(Ext.refl fh).newF hf
  refine(AD e3 ?_)
  show Rep K _ (.tup [.int ((i+1:Nat):Int),Bv i]) _
  rw[Zgf,hdx]
  exact Rep.tupN (zam) (Reps.cons Rep.int (Reps.cons (rx.mono e3.gf) Reps.nil)))
end
noncomputable def SpGO{α:Type}(K:Zgh)(pre:α->Af Ae)(res:α->Ae):Sp:=fun vs H Q _=>∃(G:Hp) (ds:Ae) (x:α),Same G H/\AB G ds vs/\pre x ds /\
 ∀p ws G' H',Ext G H G' H'->H p=none->G' p=none->Aa (H' p) (.lst ws)->AB G' (res x) ws->Q AO H'
section
variable{α:Type}{K:Zgh}{H:Hp}{vs:List V}{Q:VK}{X:XK}{N:List Str}{t:TS}{pre:α->List D->Prop}{res:α->List D}
theorem ybc(h:SpGO K pre res vs H Q X)(hN:vs.length<=N.length)(body:∀G ds x,pre x ds->RtO K G H Q (res x)->Go K G H G (BL (Q .non H')) (slots N.length ds) t):t (BL (Q .non H')) (start N vs) H:=by
 obtain⟨G,ds,x,sm,r,hp,q⟩:=h
 exact body G ds x hp (fun p ws F H' e h1 h2 h3 h4=>q p ws F H' e h1 h2 h3 h4) G H _ (zdp sm r hN)
theorem zqe{n:Nat}(hpre:∀x ds,pre x ds->ds.length=n)(h:SpGO K pre res vs H Q X):vs.length=n:=by
 obtain⟨G,ds,x,sm,r,hp,q⟩:=h
 rw[<- r.length];exact hpre x ds hp
end
section
variable{α:Type}{K:Zgh}{G Hz L:Hp}{ss:List Sl}{t:TA}{ds:List D}{E:XK}{pre:α->List D->Prop}{res:α->List D}
theorem zk3(x:α)(a:EvAF K G Hz L ss t ds)(hp:pre x ds):EvO K G Hz L ss (zka (SpGO K pre res) [] E t) (res x):=fun F H σ Q S q =>
 a F H σ _ S fun vs F1 H1 e1 r1=>⟨F1,ds,x,e1.fh,by rw[Zh0];exact r1,hp,fun p ws G' H' e2 h1 h2 h3 r=>q _ _ _ _ Bn (e1.hh.free h1) h2 h3 r⟩
end
end L2
namespace L2
open PySem PySem.W PySem.Spec PyProof.Rows
structure ITell(K:Zgh)(C:Addr):Prop where
 ha:findIn K (.ref C) "__class__" = some (some (.builtin "object.__class__"))
 hn:specialIn K (.builtin "object.__class__") "__get__" = some (some (.builtin "getset_descriptor.__get__"))
 tk:takesIn K (.builtin "object.__class__")=some true
 hm:mroIn K C (.type "object")=some true
noncomputable def delS(H:Hp)(as:List Addr):Hp:=fun b=>if b∈as then none else H b
theorem zu1{H:Hp}{as:List Addr}{b:Addr}{o:HO}(h:Aa (delS H as b) o):b∉as/\Aa (H b) o:=by
 unfold delS at h
 by_cases z:b∈as
 .rw[if_pos z] at h;cases h
 .rw[if_neg z] at h;exact⟨z,h⟩
theorem zw9{H:Hp}{as:List Addr}{b:Addr}(h:b∉as):delS H as b=H b:=by unfold delS;rw[if_neg h]
structure Dsk where
 x:Addr
 dx:Addr
 b:Addr
 r:Addr
noncomputable def Dsk.as(a:Dsk):List Addr:=[a.x,a.dx,a.b,a.r]
noncomputable def kW(K:Zgh)(C:Addr)(n1 n2:Str)(a:Dsk)(kvs:DD):Hp->Af Hp:=fun F H=>Aa (H a.x) (.ins C a.dx [(n1,.ref a.b),(n2,.ref a.r)])/\Aa (H a.dx) (.own a.x)/\(∃xs,Aa (H a.b) (.dK xs)/\Dks K F kvs xs)/\Aa (H a.r) (.lst [])
noncomputable def ksl(K:Zgh)(C:Addr)(n1 n2:Str)(a:Dsk)(kvs:DD):Sl:=.g (.ref a.x) a.as (kW K C n1 n2 a kvs)
theorem zpu(K:Zgh)(C:Addr)(n1 n2:Str)(a:Dsk)(kvs:DD):Stab a.as (kW K C n1 n2 a kvs):=fun F1 H1 F2 H2 sf hh ⟨h1,h2,⟨xs,h3,dk⟩,h4⟩ =>
 ⟨by rw[hh a.x (by simp[Dsk.as])];exact h1,by rw[hh a.dx (by simp[Dsk.as])];exact h2,⟨xs,by rw[hh a.b (by simp[Dsk.as])];exact h3,dk.mono sf⟩,by rw[hh a.r (by simp[Dsk.as])];exact h4⟩
theorem zon{K:Zgh}{C:Addr}{n1 n2:Str}{a:Dsk}{kvs:DD}{F H:Hp}(h:kW K C n1 n2 a kvs F H):∀q∈a.as,∃o,Aa (H q) o/\NT o:=by
 obtain⟨h1,h2,⟨xs,h3,_⟩,h4⟩:=h
 intro q hq
 simp only[Dsk.as,Zgp,Zhf,or_false] at hq
 rcases hq with rfl | rfl | rfl | rfl
 .exact(AD h1 trivial)
 .exact(AD h2 trivial)
 .exact(AD h3 trivial)
 .exact(AD h4 trivial)
noncomputable def SpK{α:Type}(K:Zgh)(C:Addr)(n1 n2:Str)(pre:α->DD->Af Ae)(res:α->DD->D)(new:α->DD->DD):Sp:=fun vs H Q _=>∃G a kvs ds ws z,Same G H/\vs= .ref a.x::ws/\a.as.Nodup/\(∀q∈a.as,G q=none)/\kW K C n1 n2 a kvs G H/\AB G ds ws/\pre z kvs ds /\
 ∀v G' H',Ext G (delS H a.as) G' H'->(∀q∈a.as,G' q=none)->kW K C n1 n2 a (new z kvs) G' H'->Rep K G' (res z kvs) v->Q v H'
noncomputable def zvh(C:Addr)(n1 n2:Str):Sp:=fun vs H Q _=>∃(x dx:Addr),vs=[.ref x]/\Aa (H x) (.ins C dx [])/\Aa (H dx) (.own x) /\ ∀b r H',H b=none->H r=none->b≠r->Aa (H' x) (.ins C dx [(n1,.ref b),(n2,.ref r)])->Aa (H' b) (.dK [])->Aa (H' r) (.lst [])->(∀c,c≠x->c≠b->c≠r->H' c=H c)->Q .non H'
noncomputable def RtK(K:Zgh)(C:Addr)(n1 n2:Str)(G Hz:Hp)(rt:VK)(a:Dsk)(kvs:DD)(d:D):Prop:=∀v F H,Ext G Hz F H->(∀q∈a.as,F q=none)->kW K C n1 n2 a kvs F H->Rep K F d v->rt v H
noncomputable def EvY(K:Zgh)(G Hz L:Hp)(ss:List Sl)(t:TE)(d:D)(ss':List Sl):Prop:=∀F H σ Q,Sat K G Hz L F H σ ss->(∀v F' H',Same F F'->Sat K G Hz L F' H' σ ss'->Rep K F' d v->Q v H')->t σ H Q
section
variable{K:Zgh}{G Hz L F H:Hp}{ss:List Sl}{σ:St}{C:Addr}{n1 n2:Str}{a:Dsk}{kvs:DD}{ds:List D}{ws:List V}{i:Nat}
theorem Sat.getK(S:Sat K G Hz L F H σ ss)(hs:Ak ss (ksl K C n1 n2 a kvs)):Ak σ (some (.ref a.x))/\a.as.Nodup/\(∀q∈a.as,Hz q=none/\F q=none)/\kW K C n1 n2 a kvs F H:=by
 obtain⟨v,e,ew,ha,hw,st⟩:=S.get hs (by intro z;cases z)
 cases ew
 exact⟨e,S.nd i _ hs,fun q hq=>⟨(ha q hq).1,(ha q hq).2.1⟩,hw⟩
theorem SlOk.ext3{F' H':Hp}{ov:Option V}{s:Sl}{as:List Addr}(h:SlOk K Hz F H ov s)(e:Ext F (delS H as) F' H')(dj:∀p∈s.ads,p∉as):SlOk K Hz F' H' ov s:=by
 have key:∀p o,p∉as->Aa (H p) o->NT o->Aa (H' p) o/\F' p=F p:=fun p o hp h n=>by
  have h2:Aa (delS H as p) o:=by rw[zw9 hp];exact h
  exact⟨e.hh p o h2,e.no p o h2 n⟩
 cases s with
 | un=>trivial
 | d x=>obtain⟨v,ev,r⟩:=h;exact⟨v,ev,r.mono e.gf⟩
 | o p xs =>
  obtain⟨ev,h0,fp,vs,hp,r⟩:=h
  obtain⟨k1,k2⟩:=key p _ (dj p (by simp[Sl.ads])) hp trivial
  exact⟨ev,h0,k2.trans fp,vs,k1,r.mono e.gf⟩
 | oo p qs =>
  obtain⟨ev,h0,fp,hp,hq⟩:=h
  obtain⟨k1,k2⟩:=key p _ (dj p (by simp[Sl.ads])) hp trivial
  refine⟨ev,h0,k2.trans fp,k1,fun q hm=>?_⟩
  obtain⟨h0,fp,vs,hp,r⟩:=hq q hm
  obtain⟨k1,k2⟩:=key q.1 _ (dj q.1 (by simp only[Sl.ads,Zgp,Zg4];exact .inr ⟨q,hm,rfl⟩)) hp trivial
  exact⟨h0,k2.trans fp,vs,k1,r.mono e.gf⟩
 | g v as' W =>
  obtain⟨ev,ha,hw,st⟩:=h
  refine⟨ev,fun q hm=>?_,st _ _ _ _ e.gf (fun q hm=>?_) hw,st⟩
  .obtain⟨h0,fp,o,ho,n⟩:=ha q hm
   obtain⟨k1,k2⟩:=key q o (dj q hm) ho n
   exact⟨h0,k2.trans fp,o,k1,n⟩
  .obtain⟨h0,fp,o,ho,n⟩:=ha q hm
   rw[ho];exact(key q o (dj q hm) ho n).1
theorem Sat.writeK{F' H':Hp}{kvs':DD}(S:Sat K G Hz L F H σ ss)(hs:Ak ss (ksl K C n1 n2 a kvs))(ex:Ext F (delS H a.as) F' H')(hn:∀q∈a.as,F' q=none)(hw:kW K C n1 n2 a kvs' F' H'):Sat K G Hz L F' H' σ (ss.set i (ksl K C n1 n2 a kvs')):=by
 obtain⟨e,nd,h0,_⟩:=S.getK hs
 have hget:Aa (σ.getD i none) (.ref a.x):=by rw[Zgf,e];rfl
 have out:∀b o,Aa (Hz b) o->Aa (delS H a.as b) o:=fun b o hb=>by
  rw[zw9 fun z=>by rw[(h0 b z).1] at hb;cases hb];exact S.ext.hh b o hb
 refine S.put ⟨S.ext.gf.trans ex.gf,ex.fh,fun b o hb=>ex.hh b o (out b o hb),fun b o hb n=>(ex.no b o (out b o hb) n).trans (S.ext.no b o hb n)⟩ (S.fl.trans ex.gf) rfl BF Bp nd (fun j s' hj h q hq=>?_) fun j s' hj h=>(S.ok j s' h).ext3 ex fun p hp hq=>S.ne i j _ s' (Zh1 hj) hs h p hq hp
 .rw[hget]
  exact⟨rfl,fun q hq=>by obtain⟨o,ho,n⟩:=zon hw q hq;exact⟨(h0 q hq).1,hn q hq,o,ho,n⟩,hw,zpu K C n1 n2 a kvs'⟩
 .exact S.ne i j _ s' (Zh1 hj) hs h q hq
theorem Sat.consG{s:Sl}{ov:Option V}(S:Sat K G Hz L F H σ ss)(h:SlOk K Hz F H ov s)(nd:s.ads.Nodup)(ha:∀t∈ss,t.ads=[]):Sat K G Hz L F H (ov::σ) (s::ss):=by
 refine⟨S.ext,S.fl,by simp[S.len],fun i t ht=>?_,fun i t ht=>?_,fun i j t u hij ht hu p hp hq=>?_⟩
 .cases i with
  | zero=>cases ht;exact h
  | succ i=>exact S.ok i t ht
 .cases i with
  | zero=>cases ht;exact nd
  | succ i=>exact S.nd i t ht
 .cases i with
  | zero =>
   cases j with
   | zero=>exact absurd rfl hij
   | succ j=>rw[ha u (Zgs hu)] at hq;cases hq
  | succ i=>rw[ha t (Zgs ht)] at hp;cases hp
theorem zkp{n:Nat}{ds:Ae}:∀s∈slots n ds,s= .un \/ ∃d,s= .d d:=fun s hs=>by
 unfold slots at hs
 rcases Zhh.mp hs with h | h
 .obtain⟨d,_,rfl⟩:=Zg4.mp h;exact .inr (AF d)
 .exact .inl (Zpd.mp h).2
theorem zrw{N:Al}(sm:Same G H)(nd:a.as.Nodup)(hg:∀q∈a.as,G q=none)(hw:kW K C n1 n2 a kvs G H)(r:AB G ds ws)(hN:ws.length+1<=N.length):Sat K G (delS H a.as) G G H (start N (.ref a.x::ws)) (ksl K C n1 n2 a kvs::slots (N.length - 1) ds):=by
 cases N with
 | nil=>simp at hN
 | cons n N =>
  have S:=zdp (N:=N) sm r (by simpa using hN)
  have e:start (n::N) (.ref a.x::ws)=some (.ref a.x)::start N ws:=by
   unfold start;simp
  rw[e,show(n::N).length - 1=N.length by simp]
  have S2:Sat K G (delS H a.as) G G H (start N ws) (slots N.length ds):=by
   refine⟨⟨Same.refl _,sm,fun b o hb=>(zu1 hb).2,fun _ _ _ _=>rfl⟩,S.fl,S.len,fun i t ht=>?_,S.nd,S.ne⟩
   have h:=S.ok i t ht
   rcases zkp t (Zgs ht) with rfl | ⟨d,rfl⟩
   .trivial
   .exact h
  refine S2.consG ⟨rfl,fun q hq=>?_,hw,zpu K C n1 n2 a kvs⟩ nd fun t ht=>?_
  .obtain⟨o,ho,n⟩:=zon hw q hq
   exact⟨by unfold delS;rw[if_pos hq],hg q hq,o,ho,n⟩
  .rcases zkp t ht with rfl | ⟨d,rfl⟩ <;> rfl
variable{vs:List V}{Q:VK}{X:XK}{N:List Str}{t:TS}{α:Type}{pre:α->DD->List D->Prop}{res:α->DD->D}{new:α->DD->DD}
theorem zfj{n:Nat}(hpre:∀z kvs ds,pre z kvs ds->ds.length+1=n)(h:SpK K C n1 n2 pre res new vs H Q X):vs.length=n:=by
 obtain⟨G,a,kvs,ds,ws,z,sm,rfl,nd,hg,hw,r,hp,q⟩:=h
 rw[Zg5,<- r.length];exact hpre z kvs ds hp
theorem zqy(h:SpK K C n1 n2 pre res new vs H Q X)(hN:vs.length<=N.length)(body:∀G Hz a kvs ds z,pre z kvs ds->RtK K C n1 n2 G Hz Q a (new z kvs) (res z kvs)->Go K G Hz G (BL (Q .non H')) (ksl K C n1 n2 a kvs::slots (N.length - 1) ds) t) :
  t (BL (Q .non H')) (start N vs) H:=by
 obtain⟨G,a,kvs,ds,ws,z,sm,rfl,nd,hg,hw,r,hp,q⟩:=h
 exact body G (delS H a.as) a kvs ds z hp (fun v F H' e hn hw r=>q v F H' e hn hw r) G H _ (zrw sm nd hg hw r (by simpa using hN))
end
section
variable{K:Zgh}{G Hz L:Hp}{ss s1 s2:List Sl}{C:Addr}{n1 n2 m:Str}{a:Dsk}{kvs:DD}{ds:List D}{d k:D}{i:Nat}{te ta tb ty tv:TE}{t:TA}{X:XK}{E:Ends}{u u':TS}{α:Type}{pre:α->DD->List D->Prop}{res:α->DD->D}{new:α->DD->DD}
theorem zhh(a:Ap K G L te d):EvY K G Hz L ss te d ss:=fun F H σ Q S q=>a F H σ Q S fun v F' H' e r=>q v F' H' e.gf (S.ext2 e) r
theorem zgz(z:α)(hs:Ak ss (ksl K C n1 n2 a kvs))(hm:([(n1,V.ref a.b),(n2,V.ref a.r)]:Ai Str V).lookup m=none)(e:EvAF K G Hz L ss t ds)(hp:pre z kvs ds):EvY K G Hz L ss (ycn C m (SpK K C n1 n2 pre res new) [] X (tVar i) t) (res z kvs) (ss.set i (ksl K C n1 n2 a (new z kvs))):=fun F H σ Q S q=>by
 obtain⟨e0,_,_,hw⟩:=S.getK hs
 refine⟨_,e0,a.x,a.dx,_,rfl,hw.1,hm,e F H σ _ S fun vs F1 H1 e1 r1=>?_⟩
 have S1:=A9
 obtain⟨_,nd,hn,hw1⟩:=S1.getK hs
 exact⟨F1,a,kvs,ds,vs,z,e1.fh,by rw[Zh0],nd,fun q hq=>(hn q hq).2,hw1,r1,hp,fun v G' H' ex hn' hw' r=>q v G' H' (e1.gf.trans ex.gf) (S1.writeK hs ex hn' hw') r⟩
theorem zjy{l m:Ac}(a:EvY K G Hz L ss ta (.str l) s1)(b:EvY K G Hz L s1 tb (.str m) s2):EvY K G Hz L ss (tOp rNe ta tb) (.bl (! AC l m)) s2:=fun F H σ Q S q =>
 a F H σ _ S fun x F1 H1 f1 S1 r1=>b F1 H1 σ _ S1 fun y F2 H2 f2 S2 r2=>by
  rw[r1.of_str,r2.of_str];exact⟨rfl,by rw[zmj];exact q _ F2 H2 (f1.trans f2) S2 Rep.bl⟩
theorem zn2{b:Bool}(a:EvY K G Hz L ss te (.bl b) s1)(h1:Ab b->Go K G Hz L E s1 u)(h2:Am b->Go K G Hz L E s1 u'):Go K G Hz L E ss (tIfS (zx1 te) u u'):=fun F H σ S =>
 a F H σ _ S fun x F1 H1 f1 S1 r1=>by
  rw[r1.of_bl]
  refine(Aw b ?_)
  cases b with
  | true=>exact iteT (h1 rfl F1 H1 σ S1)
  | false=>exact iteF (h2 rfl F1 H1 σ S1)
theorem zp8(a:EvY K G Hz L ss te d s1)(h:Nx K G Hz L E.nx s1):Go K G Hz L E ss (zum te):=fun F H σ S=>a F H σ _ S fun v F1 H1 f1 S1 r1=>h F1 H1 σ S1
theorem zjd(e:EvY K G Hz L ss te d s1)(hs:Ak s1 (ksl K C n1 n2 a kvs))(q:RtK K C n1 n2 G Hz E.rt a kvs d):Go K G Hz L E ss (tRet te):=fun F H σ S=>e F H σ _ S fun v F1 H1 f1 S1 r1=>by
 obtain⟨_,_,hn,hw⟩:=S1.getK hs
 exact q v F1 H1 S1.ext (fun z hz=>(hn z hz).2) hw r1
theorem ycf{rt:VK}(hs:Ak ss (ksl K C n1 n2 a kvs))(q:RtK K C n1 n2 G Hz rt a kvs .non):Nx K G Hz L (fun _ H'=>rt .non H') ss:=fun F H σ S=>by
 obtain⟨_,_,hn,hw⟩:=S.getK hs
 exact q .non F H S.ext (fun z hz=>(hn z hz).2) hw Rep.non
theorem zmh(hs:Ak ss (ksl K C n1 n2 a kvs))(c:Cls K C)(n:zen K C n1)(b:BM K G L ty k)(hk:Ab k.isK)(hv:Aa (valD kvs k) d):Ap K G L (yeo (tFld K (tVar i) n1) ty) d:=fun F H σ Q S q=>by
 obtain⟨e,_,_,hw⟩:=S.getK hs
 refine⟨_,e,a.x,C,a.dx,_,.ref a.b,rfl,hw.1,c,n,by simp,b F H σ _ S fun v F1 H1 e1 r1=>?_⟩
 obtain⟨_,_,_,_,_,⟨xs,hp,dk⟩,_⟩:=(A9).getK hs
 rcases dk.val hk with ⟨h1,_⟩ | ⟨d',w,h1,h2,rw'⟩
 .rw[h1] at hv;cases hv
 .rw[h1] at hv;cases hv
  refine⟨a.b,w,rfl,?_,q w F1 H1 e1 rw'⟩
  rw[zlx hk r1,<- h2]
  exact DGet.k hp
theorem zug(hs:Ak ss (ksl K C n1 n2 a kvs))(c:Cls K C)(n:zen K C n1)(b:BM K G L ty k)(hk:Ab k.isK):Ap K G L (zs0 ty (tFld K (tVar i) n1)) (.bl (!(valD kvs k).isSome)):=fun F H σ Q S q =>
 b F H σ _ S fun v F1 H1 e1 r1=>by
  obtain⟨e,_,_,h1,_,⟨xs,hp,dk⟩,_⟩:=(A9).getK hs
  refine⟨_,e,a.x,C,a.dx,_,.ref a.b,rfl,h1,c,n,by simp,a.b,valV xs k.key,rfl,by rw[zlx hk r1];exact DGet.k hp,q _ F1 H1 e1 ?_⟩
  have:(valV xs k.key).isSome=(valD kvs k).isSome:=by
   rcases dk.val hk with ⟨h1,h2⟩ | ⟨d',w,h1,h2,_⟩ <;> rw[h1,h2] <;> rfl
  rw[this];exact Rep.bl
theorem yad(e:EvY K G Hz L ss tv d s1)(hs:Ak s1 (ksl K C n1 n2 a kvs))(c:Cls K C)(n:zen K C n1)(b:EvB K G Hz L s1 ty k)(hk:Ab k.isK)(hz:kvs.length<sizeLine)(h:Nx K G Hz L E.nx (s1.set i (ksl K C n1 n2 a (putD kvs k d)))):Go K G Hz L E ss (yc9 (tFld K (tVar i) n1) ty tv):=fun F H σ S =>
 e F H σ _ S fun v F1 H1 f1 S1 r1=>by
  obtain⟨e0,_,_,hw⟩:=S1.getK hs
  refine⟨_,e0,a.x,C,a.dx,_,.ref a.b,rfl,hw.1,c,n,by simp,b F1 H1 σ _ S1 fun w F2 H2 e2 r2=>?_⟩
  have S2:=S1.ext2 e2
  obtain⟨_,nd,hn,h1,h2,⟨xs,hp,dk⟩,h4⟩:=S2.getK hs
  have fb:=(hn a.b (by simp[Dsk.as])).2
  simp only[Dsk.as,Zid,Zgp,Zhf,or_false,not_or] at nd
  refine⟨a.b,_,rfl,by rw[zlx hk r2];exact DPut.k (v:=v) hp (by rw[<- dk.length];exact hz),h F2 _ σ (S2.writeK hs ⟨Same.refl _,fun c o hc=>?_,fun c o hc=>?_,fun _ _ _ _=>rfl⟩ (fun q hq=>(hn q hq).2) ⟨?_,?_,(AD zam (dk.put hk (yai hk r2) (r1.mono e2.gf))),?_⟩)⟩
  .rw[zal fun z=>by rw[z,fb] at hc;cases hc];exact S2.ext.fh c o hc
  .obtain⟨z1,z2⟩:=zu1 hc
   rw[zal fun z=>z1 (by rw[z];simp[Dsk.as])];exact z2
  .rw[zal nd.1.2.1];exact h1
  .rw[zal nd.2.1.1];exact h2
  .rw[zal fun z=>nd.2.2.1 z.symm];exact h4
theorem zop(h:∀a,Nx K G Hz L E.nx (ss.set i (ksl K C n1 n2 a []))):Go K G Hz L E ss (tAsg (yc0 C (zvh C n1 n2) [] X tNil) (zho i)):=fun F H σ S x dx hx hdx hne=>by
 refine⟨x,dx,rfl,zam,by rw[zal hne];exact zam,fun b r H' hb hr hbr h1 h2 h3 h4=>⟨rfl,?_⟩⟩
 have bx:b≠x:=fun z=>by rw[z,zam] at hb;cases hb
 have rx:r≠x:=fun z=>by rw[z,zam] at hr;cases hr
 rw[zal bx] at hb
 rw[zal rx] at hr
 have bd:b≠dx:=fun z=>by rw[z,zam] at hb;cases hb
 have rd:r≠dx:=fun z=>by rw[z,zam] at hr;cases hr
 rw[zal bd] at hb
 rw[zal rd] at hr
 have hd:Aa (H' dx) (.own x):=by rw[h4 dx hne (Zh1 bd) (Zh1 rd),zal hne];exact zam
 have old:∀c o,Aa (H c) o->Aa (H' c) o:=fun c o hc=>by
  have c1:c≠x:=fun z=>by rw[z,hx] at hc;cases hc
  have c2:c≠dx:=fun z=>by rw[z,hdx] at hc;cases hc
  rw[h4 c c1 (fun z=>by rw[z,hb] at hc;cases hc) (fun z=>by rw[z,hr] at hc;cases hc),zal c1,zal c2];exact hc
 have e:Ext F H F H':=⟨Same.refl _,S.ext.fh.trans old,old,fun _ _ _ _=>rfl⟩
 have S':=S.ext2 e
 let a:Dsk:=⟨x,dx,b,r⟩
 have fr:∀q∈a.as,H q=none:=fun q hq=>by
  simp only[a,Dsk.as,Zgp,Zhf,or_false] at hq
  rcases hq with rfl | rfl | rfl | rfl <;> assumption
 have hw:kW K C n1 n2 a [] F H':=⟨h1,hd,⟨[],h2,.nil⟩,h3⟩
 refine h a F H' _ (S'.put S'.ext S'.fl (by simp) (fun j hj=>ze1 (Zh1 hj)) (fun hi=>?_) ?_ (fun j s' hj hs q hq hin=>(S.ok j s' hs).live hin (fr q hq)) fun j s' hj hs=>S'.ok j s' hs)
 .rw[zdh (by rw[S.len];exact hi)]
  exact⟨rfl,fun q hq=>by obtain⟨o,ho,n⟩:=zon hw q hq;exact⟨S.ext.hh.free (fr q hq),S.ext.fh.free (fr q hq),o,ho,n⟩,hw,zpu K C n1 n2 a []⟩
 .show[x,dx,b,r].Nodup
  simp only[Zid,Zgp,Zhf,or_false,not_or,Zlm,not_false_eq_true,and_true]
  exact⟨⟨Zh1 hne,Zh1 bx,Zh1 rx⟩,⟨Zh1 bd,Zh1 rd⟩,hbr⟩
end
noncomputable def DctK(P:Zg8)(w:Zhy)(K:Zgh)(q:Addr)(kvs:Ai Key V):Prop:=Am (q == Zk6) /\ ∃o es ep vs,Aa (Zj6 q K) o/\o.ExactDict/\o.data= .dict es ep/\KeysOf (zar P w) es/\Pairs (zar P w) es.toList vs/\(vs.map (·.1)).Nodup/\KV kvs vs
theorem DctK.dict{P:Zg8}{w:Zhy}{K:Zgh}{q:Addr}{kvs:Ai Key V}{h:Heap}(d:DctK P w K q kvs)(k:K.In h):∃vs,KV kvs vs/\h.DictOf (zar P w) q vs:=by
 obtain⟨_,o,es,ep,vs,h1,h2,h3,h4,h5,h6,h7⟩:=d
 exact⟨vs,h7,o,es,ep,k q o h1,h2,h3,h4,h5,h6⟩
noncomputable def zxu(kvs:Ai Key V)(ty:TE):TE:=fun σ H Q=>ty σ H fun y H1=>∃k v,y=kV k/\Aa (valV kvs k) v/\Q v H1
noncomputable def zp3(kvs:Ai Key V)(ty:TE):TE:=fun σ H Q=>ty σ H fun y H1=>∃k,y=kV k/\Q (.bl (!(valV kvs k).isSome)) H1
section
variable{X:Cx}{o i:Expr}{pos:Pos}{ty:TE}{q:Addr}{kvs:List (Key×V)}
theorem zph(hD:DctK X.prog X.w X.K q kvs)(ho:PE X o (tC (.ref q)))(hi:PE X i ty)(hs:NoSl i):PE X (.Subscript o i pos) (zxu kvs ty):=by
 intro pins s σ H Q I h
 refine zue Zqn.lookup hs (thn (ho pins s σ H (fun x H1=>x= .ref q/\zxu kvs ty σ H1 Q) I ⟨rfl,h⟩) fun u s1 ⟨x,H1,I1,rx,ex,q1⟩=>thn (hi pins s1 σ H1 _ I1 q1) fun iv s2 hz9=>?_)
 obtain⟨y,H2,I2,ry,k,v,ey,hv,q2⟩:=hz9
 subst ex ey
 obtain rfl:u=Zh3 q:=rx
 obtain⟨vs,rel,dd⟩:=hD.dict I2.kIn
 obtain⟨w',hw,rw'⟩:=RelO.some_of (v:=v) (o:=Zq3 vs k) (by rw[<- hv];exact rel.val k)
 exact⟨dd.typeIs,Zxi (zsq ry) dd.mapOf hw ⟨v,H2,I2.tok _,rw',q2⟩⟩
theorem zwp(hD:DctK X.prog X.w X.K q kvs)(hi:PE X i ty)(ho:PE X o (tC (.ref q))):PC X .NotIn i o (zp3 kvs ty):=by
 intro pins s σ H Q I h
 refine thn (hi pins s σ H _ I h) fun iv s1 ⟨y,H1,I1,ry,k,ey,q1⟩=>thn (ho pins s1 σ H1 (fun x H2=>x= .ref q/\Q (.bl (!(valV kvs k).isSome)) H2) I1 ⟨rfl,q1⟩) fun u s2 hz9=>?_
 obtain⟨x,H2,I2,rx,ex,q2⟩:=hz9
 subst ex ey
 obtain rfl:u=Zh3 q:=rx
 obtain⟨vs,rel,dd⟩:=hD.dict I2.kIn
 refine Zyt (zsq ry) hD.1 dd.mapOf ?_
 rw[<- (rel.val k).isSome_eq]
 exact⟨.bl (!(valV kvs k).isSome),H2,I2.tok _,rfl,q2⟩
end
section
variable{K:Zgh}{G Hz L:Hp}{ss:List Sl}{ty:TE}{kvs:List (Key×V)}{l:List Nat}{d:D}{v:V}
theorem yaw(b:A8 K G L ty l)(hv:Aa (valV kvs (.inr (T l))) v)(r:∀H,Rep K H d v):Ap K G L (zxu kvs ty) d:=fun F H σ Q S q=>b F H σ _ S fun y F1 H1 e1 r1=>by
 rw[r1.of_str]
 exact⟨.inr (T l),v,rfl,hv,q v F1 H1 e1 (r F1)⟩
theorem zv0(b:A8 K G L ty l):Ap K G L (zp3 kvs ty) (.bl (!(valV kvs (.inr (T l))).isSome)):=fun F H σ Q S q=>b F H σ _ S fun y F1 H1 e1 r1=>by
 rw[r1.of_str]
 exact(Aw (.inr (T l)) (q _ F1 H1 e1 Rep.bl))
end
end L2
namespace L2
open PySem PySem.Spec PyProof.Rows
section
variable{X:Cx}
noncomputable def tNo:TS:=fun _ _ _=>False
theorem zu9{st:List Stmt}:PSs X st tNo:=fun _ _ _ _ _ _ h=>h.elim
noncomputable def zxl:R2:=fun x y H Q=>∃z n,x= .str z/\y= .int n/\MulOk z n/\Q (.str (Zvl z n)) H
theorem zxa:OpR X (Zk1 .Mult) zxl:=by
 intro pins s σ H x y v u Q I rx ry h
 obtain⟨z,n,rfl,rfl,hz,q⟩:=h
 obtain⟨t,rfl⟩:=rx
 obtain⟨t',rfl⟩:=ry
 exact SB.mul hz fun t' tk=>⟨.str (Zvl z n),H,I.tok _,(AF _),q⟩
end
theorem zqb(l:Ac):∀(k:Nat) (acc:Ac),(Zir k l.toArray).foldl (· ++ ·) acc.toArray=(acc++(Zir k l).flatten).toArray
 | 0,acc=>by simp
 | k+1,acc=>by
  rw[Zmt,Zqx,Zmt,Zt9,<- Zis]
  have:acc.toArray++l.toArray=(acc++l).toArray:=by simp
  rw[this];exact zqb l k (acc++l)
theorem yfz(l:Ac)(n:Nat):Zvl (T l) (n:Int)=T (Zir n l).flatten:=by
 unfold Zvl
 by_cases h:(n:Int)<1
 .have:n=0:=by lia
  subst this;rw[if_pos h];rfl
 .rw[if_neg h]
  by_cases h2:Ab ((n:Int) == 1||(T l).length == 0)
  .rw[if_pos h2]
   rw[Zq1,beq_iff_eq,beq_iff_eq,zbw] at h2
   rcases h2 with h2 | h2
   .have:n=1:=by lia
    subst this;simp
   .have:l=[]:=List.length_eq_zero_iff.mp h2
    subst this
    have:(Zir n ([]:Ac)).flatten=[]:=by simp
    rw[this]
  .rw[if_neg h2]
   have e:=zqb l n []
   rw[Zmu] at e
   show(⟨(Zir (n:Int).toNat l.toArray).foldl (· ++ ·) #[]⟩:Str)=⟨_⟩
   rw[Zj5]
   exact congrArg Str.mk e
theorem yfh{l:Ac}{n:Nat}(hl:l.length<=1000)(hn:n<=1000):MulOk (T l) (n:Int):=by
 have hm:l.length*n<=1000*1000:=Nat.mul_le_mul hl hn
 refine⟨?_,fun h1 _=>?_,fun _ _=>?_⟩
 .rw[Zs4]
  exact⟨decide_eq_false (by lia),decide_eq_false (by lia)⟩
 .rw[zbw]
  have:(l.length:Int)<=(2 ^ 63 - 1) / (n:Int):=by
   rw[Int.le_ediv_iff_mul_le (by omega)]
   have:((l.length*n:Nat):Int)<=1000*1000:=by exact_mod_cast hm
   rw[Int.natCast_mul] at this
   lia
  lia
 .rw[zbw,Zj5]
  unfold Zyr
  exact decide_eq_false (by rw[Zg2];lia)
section
variable{K:Zgh}{G Hz L:Hp}{ss:List Sl}{ta tb:TE}
theorem zwu{l:Ac}{n:Nat}(a:A8 K G L ta l)(b:Bj K G L tb n)(hl:l.length<=1000)(hn:n<=1000):Ap K G L (tOp zxl ta tb) (.str (Zir n l).flatten) :=
 BT (.str (T (Zir n l).flatten)) a b ⟨T l,n,r1.of_str,r2.of_int,yfh hl hn,by rw[yfz];exact q⟩ (fun _ _ _ _ r1 _=>Rep.str fun c hc=>by
  obtain⟨l',hl',hc'⟩:=Zuu.mp hc
  rw[(Zpd.mp hl').2] at hc'
  exact r1.asc c hc')
end
end L2
namespace L2
open PySem PySem.W PySem.Spec PyProof.Rows
end L2
namespace L2
open PySem PySem.W PySem.Spec PyProof.Rows PySem.Calls Builtin Builtin.ObjectAttr Builtin.Getset_descriptor
structure XTell(K:Zgh)(C:Addr):Prop where
 ga:findIn K (.ref C) "__getattribute__" = some (some (.builtin "BaseException.__getattribute__"))
 gt:findIn K (.ref C) "__getattr__" = some none
 mb:mroIn K C (.type "BaseException")=some true
 fc:findIn K (.ref C) "__class__" = some (some (.builtin "object.__class__"))
 sp:specialIn K (.builtin "object.__class__") "__get__" = some (some (.builtin "getset_descriptor.__get__"))
 tk:takesIn K (.builtin "object.__class__")=some true
 mo:mroIn K C (.type "object")=some true
 dc:hasDictIn K C=true
end L2
namespace L2
open PySem PySem.W PyProof.Rows
end L2
namespace L2
open PySem PySem.W PySem.Spec PyProof.Rows
noncomputable abbrev QS:=AJ Ae
section
variable{K:Zgh}{G Hz L:Hp}{ss:List Sl}{i:Nat}{p:Addr}{kqs:KQ}{kvs:DD}{qs:QS}{E:Ends}{D0:XK}{t:TA}{te ta td:TE}{d:D}{ds:List D}{dss:List (List D)}{pre:List D->Prop}{res:List D->List (List D)}
mutual
noncomputable def D.nm:D->Bool
 | .lst _=>false
 | .dct ks vs=>D.nms ks&&D.nms vs
 | .dctT _ _=>false
 | .ins _ _ _=>false
 | .tup a=>D.nms a
 | _=>true
noncomputable def D.nms:Ae->Bool
 | []=>true
 | a::x=>a.nm&&D.nms x
end
noncomputable def cut(F:Hp)(as:List Addr):Hp:=fun b=>if b∈as then none else F b
end
end L2
namespace L2
open PySem PySem.Spec PyProof.Rows
theorem zjn{M:Zur}{Γ:_root_.PySem.Ctx}{p:Pos}{t:Sem Zuo}{fs:List Frame}{s s':Zgk}{e:End}(h:_root_.PySem.Runs M Γ p t fs s e s'):s.toks<=s'.toks:=by
 induction h <;> first | exact Ay | assumption | lia | (simp only[Zrj] at *;lia) | (dsimp at *;omega)
theorem zsa{M:Zur}{Γ:_root_.PySem.Ctx}{p:Pos}{g:Nat}{r:Resume}{s s':Zgk}{res:GenResult}(h:Wakes M Γ p g r s res s'):s.toks<=s'.toks:=by
 unfold Wakes at h
 cases hg:s.gens[g]? with
 | none=>simp only[hg] at h
 | some gs =>
  simp only[hg] at h
  cases gs with
  | fresh c =>
   cases r with
   | send v =>
    by_cases hv:v= .none
    .subst hv
     obtain⟨e1,s1,h1,_,_,rfl⟩:=h
     have:=zjn h1
     simpa[Zrj] using this
    .have h2:res= .justStarted/\s'=s:=by cases v <;> first | exact absurd rfl hv | exact h
     rw[h2.2];exact Ay
   | throw x=>obtain⟨_,rfl⟩:=h;exact Ay
  | suspended k0 _ c0 p0 fs _ =>
   obtain⟨e1,s1,h1,_,_,rfl⟩:=h
   have:=zjn h1
   simpa[Zrj] using this
  | running=>obtain⟨_,rfl⟩:=h;exact Ay
  | finished=>obtain⟨_,rfl⟩:=h;exact Ay
theorem ya8{α:Type}{M:Zur}{Γ:_root_.PySem.Ctx}{Q:α->Pos->Ah}{E:Zgi->Pos->Ah}{n:Nat}(t:Sem α):∀(p:Pos) (s:Zgk),n<=s.toks->Sem.wp M Γ t Q E p s ->
  Sem.wp M Γ t (fun a p' s'=>Q a p' s'/\n<=s'.toks) (fun e p' s'=>E e p' s'/\n<=s'.toks) p s:=by
 induction t with
 | pure x=>exact fun p s hn h=>⟨h,hn⟩
 | raise v=>exact fun p s hn h=>⟨h,hn⟩
 | unsupported | finish | yield | fork | await | register=>exact fun p s hn h=>h
 | rule _ k ih | «at» _ k ih | alloc _ k ih | loadIfAlive _ k ih | point _ k ih | ask k ih | os _ _ k ih | handled _ k ih | newGen _ k ih | stack k ih | thread k ih=>exact fun p s hn h=>ih _ _ _ hn h
 | fresh k ih=>exact fun p s hn h=>ih _ _ _ (Nat.le_succ_of_le hn) h
 | load a _ k ih | genState a k ih=>exact fun p s hn ⟨o,ho,h⟩=>⟨o,ho,ih _ _ _ hn h⟩
 | update a _ f k ih | choose _ _ k ih=>exact fun p s hn ⟨ha,h⟩=>⟨ha,ih _ _ _ hn h⟩
 | call c h g l k ih=>exact fun p s hn ⟨r,s1,h1,h2⟩=>⟨r,s1,h1,ih r p s1 (Zi6 hn (zjn h1)) h2⟩
 | resume g r l k ih=>exact fun p s hn ⟨res,s1,hw,h⟩=>⟨res,s1,hw,ih _ _ _ (Zi6 hn (zsa hw)) h⟩
theorem thnT{α:Type}{t:Sem α}{Q Q':α->Ah}{M:Zur}{A:Zhk}{E:Zgi->Ah}{s:Zgk}{n:Nat}(hn:n<=s.toks)(h:Zg1 M A t Q E s)(hQ:∀a s',n<=s'.toks->Q a s'->Q' a s'):Zg1 M A t Q' E s:=fun Γ p hΓ =>
 Sem.wp_mono M Γ t (fun a _ s' ⟨h1,h2⟩=>hQ a s' h2 h1) (fun e _ s' ⟨h1,_⟩=>h1) p s (ya8 t p s hn (h Γ p hΓ))
section
variable(X:Cx)
noncomputable def PET(e:Expr)(t:TE):Prop :=
 ∀(pins:AJ Obj) (s:Zgk) (σ:St) (H:Hp) (Q:VK),Ag H s->1<=s.toks->t σ H Q->AW X.w X.A (Bh e) (EP X pins σ Q) X.xe s
noncomputable def PST(st:Stmt)(t:TS):Prop :=
 ∀(pins:AJ Obj) (s:Zgk) (σ:St) (H:Hp) (D:Ends),Ag H s->1<=s.toks->t D σ H->AW X.w X.A (exec st X.env) (SP X pins D) X.xe s
noncomputable def PSsT(st:List Stmt)(t:TS):Prop :=
 ∀(pins:AJ Obj) (s:Zgk) (σ:St) (H:Hp) (D:Ends),Ag H s->1<=s.toks->t D σ H->AW X.w X.A (execs st X.env) (SP X pins D) X.xe s
noncomputable def PSB(st:Stmt)(t:TS):Prop :=
 ∀(pins:AJ Obj) (s:Zgk) (σ:St) (H:Hp) (D:Ends),Ag H s->t D σ H->AW X.w X.A (exec st X.env) (fun f s'=>SP X pins D f s'/\1<=s'.toks) X.xe s
end
section
variable{X:Cx}{st:Stmt}{rest:List Stmt}{t u:TS}{a b e o:Expr}{es:List Expr}{ta tb te to:TE}{tr:TA}{pos:Pos}
theorem zt7(h1:PSB X st t)(h2:PSsT X rest u):PSs X (st::rest) (tSeq t u):=by
 intro pins s σ H D I h
 refine Zlx (thn (h1 pins s σ H { D with nx:=u D } I h) fun f s1 hz9=>?_)
 obtain⟨q,ht⟩:=hz9
 cases f with
 | next =>
  obtain⟨σ',H',I',q⟩:=q
  exact h2 pins s1 σ' H' D I' ht q
 | ret v=>exact q
 | brk=>exact q
 | cont=>exact q
theorem zes(h1:PS X st t)(h2:PSsT X rest u):PSsT X (st::rest) (tSeq t u):=by
 intro pins s σ H D I hs h
 refine Zlx (thnT hs (h1 pins s σ H { D with nx:=u D } I h) fun f s1 ht q=>?_)
 cases f with
 | next =>
  obtain⟨σ',H',I',q⟩:=q
  exact h2 pins s1 σ' H' D I' ht q
 | ret v=>exact q
 | brk=>exact q
 | cont=>exact q
theorem zvf(h1:PST X st t)(h2:PSs X rest u):PSsT X (st::rest) (tSeq t u):=by
 intro pins s σ H D I hs h
 refine Zlx (thn (h1 pins s σ H { D with nx:=u D } I hs h) fun f s1 q=>?_)
 cases f with
 | next =>
  obtain⟨σ',H',I',q⟩:=q
  exact h2 pins s1 σ' H' D I' q
 | ret v=>exact q
 | brk=>exact q
 | cont=>exact q
theorem ybb{i:Nat}{x c:Str}{j:Nat}{p2 pos':Pos}(hN:X.N.Nodup)(hi:Ak X.N x)(hx:Loc X.env.scope x)(hs:Zo0 (.Constant (.str c) j p2) (some (.Name x pos')) pos.line X.env=pure false:=by rfl)(hf:Ab (X.fn x)\/Aa (X.env.scope.names.lookup x) .local:=by first | exact Be | exact .inr rfl | assumption) :
  PSB X (.Assign [.Name x pos'] (.Constant (.str c) j p2) pos) (tAsg (tC (.str c)) (zho i)):=by
 intro pins s σ H D I h
 refine Zwl (Zm1 ?_) hs
 refine thnT (n:=1) (Nat.succ_le_succ (Zhr _)) (zl2 (I.tok _) hN hi hx (show RelV (.str c) _ from(AF _)) (fun s2 I2=>(⟨_,H,I2,h⟩:SP X pins D .next s2)) hf) fun f s' ht q=>⟨q,ht⟩
noncomputable def yd4(c d:Str)(to:TE):TE:=fun σ H Q=>to σ H fun x H1=>∃z,x= .str z/\z.length<=1048576/\Q (.str (Ztp z c d)) H1
theorem zy5{c d:Str}{j1 j2:Nat}{p1 p2 apos cpos:Pos}(ho:PE X o to)(hcd:Am (c == d))(hd:d.length<=14)
  (hbase:Zm3 o "replace" X.env (Bh o)=Bh o:=by rfl)
  (hfew:Ab ((Zlw cpos (Zh5 [.Constant (.str c) j1 p1,.Constant (.str d) j2 p2] X.env)).all (fun x=>! x.1)&&(Zmc cpos (Zkg [] X.env)).all (fun x=>x.1.isSome)
   && AS (([.Constant (.str c) j1 p1,.Constant (.str d) j2 p2]:List Expr).length+([]:List Zoi).length+(if ([]:List Zoi).isEmpty then 0 else 1)) 30):=by rfl)
  (hline:Ab (apos.endLine == cpos.line):=by rfl)
  (hs:Zh5 [.Constant (.str c) j1 p1,.Constant (.str d) j2 p2] X.env=[(false,Bh (.Constant (.str c) j1 p1)),(false,Bh (.Constant (.str d) j2 p2))]:=by rfl) :
  PET X (.Call (.Attribute o "replace" apos) [.Constant (.str c) j1 p1,.Constant (.str d) j2 p2] [] cpos) (yd4 c d to):=by
 intro pins s σ H Q I hs1 h
 refine Zt0 hbase hfew hline rfl (thnT hs1 (ho pins s σ H _ I h) fun v s1 ht hz9=>?_)
 obtain⟨x,H1,I1,r1,z,hx,hz,q1⟩:=hz9
 subst hx
 obtain⟨tk,rfl⟩:=r1
 refine⟨"str", "str.replace", PySem.F.plainAttrs_str,PySem.F.slot_str_replace,PySem.F.type_str_replace,Zj2 _ _ _,(fun _ e=>nomatch e),?_⟩
 rw[hs]
 refine Zr7 rfl (Zsx ?_)
 show Zg1 _ _ (Zyf [(false,Bh (.Constant (.str c) j1 p1)),(false,Bh (.Constant (.str d) j2 p2))]) _ _ s1
 refine Zo9 (Zm1 (Zo9 (Zm1 ?_)))
 refine Ztz ?_
 exact SC.replaceW (u:=s1.toks) (v:=s1.toks+1) (Zla ht) (Nat.succ_ne_zero _) (Zhb (Zi1 _)) hcd hz hd fun t' k=>⟨.str _,H1,I1.tok _,(AF _),q1⟩
end
end L2
namespace L2
open PySem PySem.W PySem.Spec PyProof.Rows
structure CMeth(K:Zgh)(C:Addr)(m:Str)(f:Addr):Prop where
 ga:specialIn K (.ref C) "__getattribute__" = some (some (.builtin "type.__getattribute__"))
 rd:readsIn K C (.type "type")=true
 fc:findCls K (.ref C) (.type "type") m=some (.val (.ref f))
 kp:keepIn K (.ref f)=true
inductive Dkt(K:Zgh)(F:Hp):DD->List (List Key×V)->Prop
 | nil:Dkt K F [] []
 | cons {k d:D} {v:V} {kvs:DD} {xs:List (List Key×V)} (hk:k.isT=true) (r:Rep K F d v) (t:Dkt K F kvs xs):Dkt K F ((k,d)::kvs) ((k.tkey,v)::xs)
section
variable{K:Zgh}{G Hz L:Hp}{ss:List Sl}{C:Addr}{ta tb:TE}{ns:List Str}{vs:List D}{d:D}
theorem ydp{u:TT}{b:Bool}(a:EvT K G Hz L ss u b)(h1:Ab b->Ap K G L ta d)(h2:Am b->Ap K G L tb d):Ap K G L (tIf u ta tb) d:=fun F H σ Q S q=>a F H σ _ S fun F' H' e=>by
 cases b with
 | false=>exact iteF (h2 rfl _ _ _ _ (S.ext2 e) fun v F'' H'' e' r=>q _ _ _ (e.trans e') r)
 | true=>exact iteT (h1 rfl _ _ _ _ (S.ext2 e) fun v F'' H'' e' r=>q _ _ _ (e.trans e') r)
end
section
variable{X:Cx}{st:Stmt}{t u:TS}{a b e:Expr}{ta tb te:TE}{pos:Pos}
theorem ycd{op:Zzp}{r:R2}(ho:OpR X (Zk1 op) r)(ha:PET X a ta)(hb:PE X b tb):PET X (.BinOp a op b pos) (tOp r ta tb):=by
 intro pins s σ H Q I hs h
 refine wpAny_BinOp (thn (ha pins s σ H _ I hs h) fun v s1 hz9=>?_)
 obtain⟨x,H1,I1,r1,q1⟩:=hz9
 refine thn (hb pins s1 σ H1 _ I1 q1) fun u s2 hz9=>?_
 obtain⟨y,H2,I2,r2,q2⟩:=hz9
 exact ho pins s2 σ H2 x y v u Q I2 r1 r2 q2
theorem yay(he:PET X e te):PST X (.Return (some e) pos) (tRet te):=by
 intro pins s σ H D I hs h
 exact Zwj (thn (he pins s σ H _ I hs h) fun v s1 ⟨x,H1,I1,r1,q1⟩=>⟨x,σ,H1,I1,r1,q1⟩)
theorem zx2(h1:PST X st t):PSsT X [st] t:=by
 intro pins s σ H D I hs h
 refine Zlx (thn (h1 pins s σ H D I hs h) fun f s1 q=>?_)
 cases f with
 | next=>exact Zng q
 | ret v=>exact q
 | brk=>exact q
 | cont=>exact q
theorem yfl{c:Expr}{a b:List Stmt}{tc:TT}(hc:PT X c tc)(ha:PSsT X a t)(hb:PSs X b u):PST X (.If c a b pos) (tIfS tc t u):=by
 intro pins s σ H D I hs h
 refine wpAny_If (thnT hs (hc pins s σ H _ I h) fun d s1 ht hz9=>?_)
 obtain⟨H1,I1,q1⟩:=hz9
 cases d with
 | true=>exact ha pins s1 σ H1 D I1 ht q1
 | false=>exact hb pins s1 σ H1 D I1 q1
end
section
variable{K:Zgh}{G Hz L:Hp}{ss:List Sl}{E:Ends}{tl to ta:TE}
theorem zu0{g:TG}{tb:TS}(l:Ac)(I:Nat->Af (List Sl))(a:A8 K G L tl l)(h0:I 0 ss)
  (hs:∀k c ss,Ax l k c->I k ss-> ∃ss',Tg K G Hz L g (.str [c]) ss ss' /\ ∀N,(∀ss,I (k+1) ss->Nx K G Hz L N ss)->Go K G Hz L { E with nx:=N,ct:=N,bk:=E.nx } ss' tb)
  (hd:∀ss,I l.length ss->Nx K G Hz L E.nx ss):Go K G Hz L E ss (tFor (iStr tl) g tb):=fun F H σ S =>
 BK F H σ _ S (by
  have ha:=r1.asc
  rw[r1.of_str]
  refine(Aw (T l) ?_)
  refine⟨fun i m σ' H'=>m=l.length - i/\i<=l.length/\At K G Hz L (I i) σ' H',⟨_,rfl,Zhr _,ss,F1,A9,h0⟩,?_⟩
  rintro i m σ' H' ⟨rfl,hi,ss1,F2,S2,h2⟩
  by_cases hlt:i<l.length
  .refine .inr ⟨by show i<_;rw[ze5];exact hlt,fun σ'' H''=>At K G Hz L (I (i+1)) σ'' H'',fun σ'' H'' h=>⟨l.length - (i+1),by omega,rfl,hlt,h⟩,fun x H'' y=>?_⟩
   obtain⟨rfl,c,hc,rfl⟩:=y
   rw[ze5] at hc
   obtain⟨ss',tg,go⟩:=hs i c ss1 hc h2
   exact tg F2 _ σ' _ _ S2 (Rep.str fun c' h'=>by rw[Zg0.mp h'];exact ha c (Zgs hc)) fun σ3 S3=>go _ (fun ss h=>zxn h) F2 _ σ3 S3
  .have e:i=l.length:=by omega
   subst e
   exact .inl ⟨by show _<=_;rw[ze5];exact Zgr _,hd ss1 h2 F2 H' σ' S2⟩)
theorem ztf{l m:Ac}(a:A8 K G L to l)(b:A8 K G L ta m):Ap K G L (tBM K "str" yej to (zbb ta tNil)) (.int (Zqp (T l) (T m))):=fun F H σ Q S q =>
 a F H σ _ S fun x F1 H1 e1 r1=>by
  rw[r1.of_str]
  refine⟨rfl,b F1 H1 σ _ A9 fun y F2 H2 e2 r2=>?_⟩
  .rw[r2.of_str]
   exact⟨T l,T m,rfl,rfl,q _ F2 H2 Bn Rep.int⟩
theorem zzc{c d:Str}{l m:Ac}(a:A8 K G L ta l)(hl:l.length<=100000)(h:Ztp (T l) c d=T m)(hm:∀c∈m,c<128):Ap K G L (yd4 c d ta) (.str m):=fun F H σ Q S q =>
 BK F H σ _ S (by
  rw[r1.of_str]
  refine⟨T l,rfl,by rw[zbw];omega,?_⟩
  rw[h]
  exact q _ _ _ e1 (Rep.str hm))
end
end L2
namespace L2
open PySem PySem.Spec PyProof.Rows
section
variable{prog:Zg8}{w:Zhy}{A:Zhk}{E:Zgi->Zgk->Prop}{s:Zgk}
theorem zhm{it l:Addr}{i:Nat}{items}{x:Zgi}{Q:Zgi->Ah}(hit:s.heap.IsTupleIter it l i)(hl:s.heap.IsTuple l items)(hx:Ak items x)
  (hQ:∀h',h'.IsTupleIter it l (i+1)->Zhq it s.heap h'->BG x):An w A (Zil (.ref it)) Q E s:=by
 obtain⟨o,ho,hc,hd⟩:=id hit
 obtain⟨ol,hol,_,nl,hdl⟩:=hl
 unfold Zil
 refine Zge (Zk0 (name:=Zog "__next__") hit.typeIs Zln (Zi3 Zln hit.typeIs Zr2 ?_ (Zrr _)))
 show Zg1 _ _ (Zwr (.ref it) 0 >>= _) _ _ s
 refine Zge (Zko ho hd (x:=.ref l) rfl ?_)
 show Zg1 _ _ (BC (Zh3 l == Zig) _ _) _ _ s
 rw[if_neg (show ¬ (Ab (Zh3 l == Zig)) from Zhs)]
 show Zg1 _ _ (Zwr (.ref it) 1 >>= _) _ _ s
 refine Zge (Zko ho hd (x:=.int i 0) rfl ?_)
 show Zg1 _ _ (Zuh (.ref l) >>= _) _ _ s
 refine Zge (Zjg hol hdl ?_)
 simp only[Zj5,hx]
 refine Zge (Zk5 ho hd (by simp) (Zgj (Aw x (Zgj (hQ _ ?_ (Zh6 ..))))))
 exact⟨_,Zjc _ ho (Zk9 (Zi5 hd _)),(Znq ..).trans hc,by rw[Zi5 hd];simp[Zkf]⟩
theorem zh6{it l:Addr}{i:Nat}{items}{Q:Zgi->Ah}(hh:A.handled=none)(hit:s.heap.IsTupleIter it l i)(hl:s.heap.IsTuple l items)(hx:items[i]? = none)
  (hE:∀h' e,Zqz it s.heap h'->(∃o,AU e o/\o.cls= .type "StopIteration")->E (.ref e) { s with heap:=h' }):An w A (Zil (.ref it)) Q E s:=by
 obtain⟨o,ho,hc,hd⟩:=id hit
 obtain⟨ol,hol,_,nl,hdl⟩:=hl
 unfold Zil
 refine Zge (Zk0 (name:=Zog "__next__") hit.typeIs Zln (Zi3 Zln hit.typeIs Zr2 ?_ (Zrr _)))
 show Zg1 _ _ (Zwr (.ref it) 0 >>= _) _ _ s
 refine Zge (Zko ho hd (x:=.ref l) rfl ?_)
 show Zg1 _ _ (BC (Zh3 l == Zig) _ _) _ _ s
 rw[if_neg (show ¬ (Ab (Zh3 l == Zig)) from Zhs)]
 show Zg1 _ _ (Zwr (.ref it) 1 >>= _) _ _ s
 refine Zge (Zko ho hd (x:=.int i 0) rfl ?_)
 show Zg1 _ _ (Zuh (.ref l) >>= _) _ _ s
 refine Zge (Zjg hol hdl ?_)
 simp only[Zj5,hx]
 refine Zge (Zj1 (Zge (Zk5 ho hd (by simp) ?_)))
 show Zg1 _ _ (newExc (.type "StopIteration") [] >>= _) _ _ _
 refine Zge ?_
 simp only[newExc,Zzd]
 refine Zge (Zjv ?_ (by size_fits))
 refine Zge (m:=Zpo _ _) (Zsb (a:=Zig) (by first | rfl | (simp only[Zpo];rfl)) ?_)
 refine Zjv ?_ (by size_fits)
 simp only[Zzc]
 refine Zge (Zy9 ?_)
 first | rw[show A.in1.handled=none from hh] | rw[hh]
 refine Ba (wpAny_throw ?_)
 exact hE _ _ (((Zh6 ..).extBut.push _).push _) (AD (Zgx _ rfl) rfl)
end
theorem ziu{prog:Zg8}{w:Zhy}{A:Zhk}(hh:A.handled=none)(it l:Addr)(hne:l≠it)(items:Array Zgi) :
  Zsn prog w A it [it,l] items.size (fun i v=>Ak items v) (fun i h=>h.IsTupleIter it l i/\h.IsTuple l items) where
 live:=fun _ _ st=>let ⟨o,ho,_⟩:=st.1;⟨o,ho⟩
 frame:=fun _ _ _ st hk=>⟨st.1.at fun o e=>hk it (by simp) o e,let ⟨o,ho,r⟩:=st.2;⟨o,hk l (by simp) o ho,r⟩⟩
 item:=fun i s Q E hi st hQ=>by
  refine zhm st.1 st.2 (x:=items[i]) (by simp[hi]) fun h' hit' hs'=>?_
  exact hQ _ h' s.toks (by simp[hi]) ⟨hit',st.2.extBut hs'.extBut hne⟩ hs'
 done:=fun s Q E st hE=>zh6 hh st.1 st.2 (by simp) hE
noncomputable abbrev zt1(h:Heap)(l1:Addr):Heap:=h.push (Bl "list_iterator" (.fields #[.ref l1,.int 0 0]))
noncomputable abbrev zt2(h:Heap)(l1 l2:Addr):Heap:=(zt1 h l1).push (Bl "tuple_iterator" (.fields #[.ref l2,.int 0 0]))
noncomputable abbrev zt3(h:Heap)(l1 l2:Addr):Heap:=(zt2 h l1 l2).push (Bl "tuple" (.seq #[.ref h.objs.size,.ref (zt1 h l1).objs.size]))
noncomputable abbrev zt4(h:Heap)(l1 l2:Addr):Heap:=(zt3 h l1 l2).push (Bl "tuple" (.seq #[.none,.none]))
noncomputable abbrev zt5(h:Heap)(l1 l2:Addr):Heap:=(zt4 h l1 l2).push (Bl "zip" (.fields #[.none,.bool false,.bool false,.ref (zt2 h l1 l2).objs.size,.ref (zt3 h l1 l2).objs.size]))
theorem ziy(l1 l2:Addr)(xs ys:Array Zgi):Meets (Zg9.«zip.__new__» ⟨[.type "zip", .ref l1,.ref l2],[]⟩) (fun _ R s=>s.heap.IsList l1 xs/\s.heap.IsTuple l2 ys/\R (.ok (.ret (.ref (zt4 s.heap l1 l2).objs.size))) { s with heap:=zt5 s.heap l1 l2 }) :=
 .of_wp fun prog w A R s h=>by
  obtain⟨hp,g,d,tk,os⟩:=s;obtain⟨hl1,hl2,h⟩:=h
  have hsub:=sub_zip
  have hL1:Zx7 (Zso ⟨hp,g,d,tk,os⟩) l1 xs:=hl1
  have hL2:Heap.IsTuple (Zso ⟨hp.push (Bl "list_iterator" (.fields #[.ref l1,.int 0 0])),g,d,tk,os⟩) l2 ys:=Zx6 hl2 _
  wp_walk using Zju hL1,Zqf hL2
  exact(Aw _ h)
section
variable{prog:Zg8}{w:Zhy}{A:Zhk}{E:Zgi->Zgk->Prop}{s:Zgk}
theorem zpg{l1 l2:Addr}{xs ys:Array Zgi}{Q:Zgi->Ah}(hl1:s.heap.IsList l1 xs)(hl2:s.heap.IsTuple l2 ys)
  (h:∀h',Zrb h' (AR 4) (AR 2) (AR 3) .none->Zmm h' (AR 2) Bz (.ref (AR 1)) ->
   Zmm h' (AR 3) .none .none->h'.IsListIter s.heap.objs.size l1 0->h'.IsTupleIter (AR 1) l2 0->h'.objs.size=AR 5 ->
   (∀c o,AH c o->AU c o)->BG (.ref (AR 4))) :
  An w A (call (.type "zip") [.ref l1,.ref l2]) Q E s:=by
 refine callType_new F.called_zip (by decide) (F.typeCall_zip_2 _ _) (F.newCall_zip_2 _ _) (fun obj=>F.args_object_init_3 obj _ _) F.entry_zip_new (ziy l1 l2 xs ys) ⟨hl1,hl2,?_⟩
 have z1:(zt1 s.heap l1).objs.size=AR 1:=Zhj ..
 have z2:(zt2 s.heap l1 l2).objs.size=AR 2:=by rw[Zhj,z1]
 have z3:(zt3 s.heap l1 l2).objs.size=AR 3:=by rw[Zhj,z2]
 have z4:(zt4 s.heap l1 l2).objs.size=AR 4:=by rw[Zhj,z3]
 have z5:(zt5 s.heap l1 l2).objs.size=AR 5:=by rw[Zhj,z4]
 have g5:Aa ((zt5 s.heap l1 l2).get? (zt4 s.heap l1 l2).objs.size) _:=Zgx _ rfl
 have g4:Aa ((zt5 s.heap l1 l2).get? (zt3 s.heap l1 l2).objs.size) _:=Zgl _ (Zgx _ rfl)
 have g3:Aa ((zt5 s.heap l1 l2).get? (zt2 s.heap l1 l2).objs.size) _:=Zgl _ (Zgl _ (Zgx _ rfl))
 have g2:Aa ((zt5 s.heap l1 l2).get? (zt1 s.heap l1).objs.size) _:=Zgl _ (Zgl _ (Zgl _ (Zgx _ rfl)))
 have g1:Aa ((zt5 s.heap l1 l2).get? s.heap.objs.size) _:=Zgl _ (Zgl _ (Zgl _ (Zgl _ (Zgx _ rfl))))
 show _/\_
 rw[z2,z3,z4] at g5
 rw[z1,z2] at g3
 rw[z3] at g4
 rw[z1] at g2
 rw[z4]
 exact⟨(AD g5 rfl),h _ g5 g3 g4 (AM _ g1 rfl) (AM _ g2 rfl) z5 fun c o x=>Zgl _ (Zgl _ (Zgl _ (Zgl _ (Zgl _ x))))⟩
end
noncomputable def Itzt(K:Zgh)(a b:Addr):It :=
  ⟨fun i H=>∃xs ys x y,SqL K H a xs/\SqT K H b ys/\Ak xs x/\Ak ys y,
   fun i H x H'=>∃T0 vs,x= .ref T0/\H T0=none/\H'=upd H T0 (.tup vs) /\ ∀xs ys,SqL K H a xs->SqT K H b ys-> ∃u v,Ak xs u/\Ak ys v/\vs=[u,v],
   fun i H=>∃xs ys,SqL K H a xs/\SqT K H b ys/\min xs.length ys.length=i⟩
theorem zs1{P:Zg8}{w:Zhy}{K:Zgh}{elts:List Expr}{kk:Nat}{tp:Pos}(z TI TO i1 i2 a b:Addr)(D0:ZipAp z TI TO i1 i2 [i1,a] [i2,b])(ha:a≠i1)(hb:b≠i2)(ta:a≠TI)(tb:b≠TI) :
  Turn P w K (.Tuple elts kk tp) (Itzt K a b) [z,TI,TO,i1,i2] z (fun i h=>Zrb h z TI TO .none/\Zmm h TI (.ref i1) (.ref i2)/\(∃c d,Zmm h TO c d)/\h.IsListIter i1 a i/\h.IsTupleIter i2 b i) where
 mem:=by simp
 obj:=fun i h st c hc=>by
  obtain⟨s1,s2,⟨c1,d1,s3⟩,⟨o4,s4,_,e4⟩,⟨o5,s5,_,e5⟩⟩:=st
  simp only[Zgp,Zhf,or_false] at hc
  rcases hc with rfl | rfl | rfl | rfl | rfl
  .exact(AD s1 (fun v q=>by cases q))
  .exact(AD s2 (fun v q=>by cases q))
  .exact(AD s3 (fun v q=>by cases q))
  .exact⟨o4,s4,fun v q=>by rw[e4] at q;cases q⟩
  .exact⟨o5,s5,fun v q=>by rw[e5] at q;cases q⟩
 keep:=fun i h h' st k=>by
  obtain⟨s1,s2,⟨c1,d1,s3⟩,s4,s5⟩:=st
  exact⟨k z (by simp) _ s1,k TI (by simp) _ s2,⟨c1,d1,k TO (by simp) _ s3⟩,s4.at fun o x=>k i1 (by simp) o x,s5.at fun o x=>k i2 (by simp) o x⟩
 item:=by
  intro X hP hw hK hc i pins s σ H E I hf st hg
  subst hP hw hK
  obtain⟨xs,ys,x,y,hq,hr,hx,hy⟩:=hg
  obtain⟨its,rv,p,hz⟩:=I.list hq
  obtain⟨jts,rv2,p2,hz2⟩:=I.tuple hr
  obtain⟨u,hu,ru⟩:=rv.get hx
  obtain⟨u2,hu2,ru2⟩:=rv2.get hy
  have hil:i<its.length:=(Zgo.mp hu).1
  have hil2:i<jts.length:=(Zgo.mp hu2).1
  have hhd:X.A.in1.handled=none:=I.ok.hd hc
  have W0:=zjv (prog:=X.prog) (w:=X.w) (A:=X.A) (Zrs hhd i1 a ha its.toArray) (ziu hhd i2 b hb jts.toArray) D0 (by simp[D0.TIi1.symm,ta]) (by simp[D0.TIi2.symm,tb])
  obtain⟨s1,s2,s3,s4,s5⟩:=st
  refine W0.item i s _ _ (by simp;lia) ⟨s1,s2,s3,⟨s4,p.isList⟩,⟨s5,p2⟩⟩ fun T0 vals h1 tk hp hle ht mid kk=>?_
  obtain⟨v,v2,hv,hv2,rfl⟩:=hp
  have hv:Ak its v:=by simpa using hv
  have hv2:Ak jts v2:=by simpa using hv2
  rw[hu] at hv;cases hv
  rw[hu2] at hv2;cases hv2
  have fresh:H T0=none:=I.hok.fresh hle
  have hfw:∀c∈[z,TO,i1,i2],FpOk X pins H c:=fun c hc=>hf c (by simp only[Zgp,Zhf,or_false] at hc ⊢;rcases hc with h | h | h | h <;> simp[h])
  have I1:Ag (upd H T0 (.tup [x,y])) { s with heap:=h1,toks:=tk }:=I.turnsT (wr:=[z,TO,i1,i2]) hfw kk hle ht (.cons ru (.cons ru2 .nil)) (by rw[Zg2];simp)
  refine(Aw (.ref T0) (W0.go elts _ tp i T0 _ _ _ mid fun h2 st2 k2=>?_))
  have hlt:∀c∈[z,TI,TO,i1,i2],c≠T0:=fun c hc q=>by
   have old:∃o,AH c o:=by
    obtain⟨c1,d1,s3⟩:=s3
    obtain⟨o4,s4,_⟩:=s4
    obtain⟨o5,s5,_⟩:=s5
    simp only[Zgp,Zhf,or_false] at hc
    rcases hc with rfl | rfl | rfl | rfl | rfl
    .exact⟨_,s1⟩
    .exact⟨_,s2⟩
    .exact⟨_,s3⟩
    .exact⟨_,s4⟩
    .exact⟨_,s5⟩
   obtain⟨o,ho⟩:=old
   exact absurd (Zhd (Zgv ho) (q ▸ hle)) (Zib _)
  have hf1:∀c∈[z,TO,i1,i2],FpOk X pins (upd H T0 (.tup [x,y])) c:=fun c hc=>⟨by rw[zal (hlt c (by simp only[Zgp,Zhf,or_false] at hc ⊢;rcases hc with h | h | h | h <;> simp[h]))];exact(hfw c hc).1,(hfw c hc).2⟩
  exact⟨.ref T0,_,I1.turns (t':=tk) hf1 k2,rfl,⟨T0,_,rfl,fresh,rfl,fun ys1 ys2 g1 g2=>⟨x,y,by rw[I.list_inj g1 hq];exact hx,by rw[I.tuple_inj g2 hr];exact hy,rfl⟩⟩,⟨st2.1,st2.2.1,st2.2.2.1,st2.2.2.2.1.1,st2.2.2.2.2.1⟩,fun c hc=>by rw[zal (hlt c hc)];exact(hf c hc).1⟩
 done:=by
  intro X hP hw hK hc i pins s σ H E I hf st hg
  subst hP hw hK
  obtain⟨xs,ys,hq,hr,hx⟩:=hg
  obtain⟨its,rv,p,hz⟩:=I.list hq
  obtain⟨jts,rv2,p2,hz2⟩:=I.tuple hr
  have hl:=rv.length
  have hl2:=rv2.length
  have hhd:X.A.in1.handled=none:=I.ok.hd hc
  have W0:=zjv (prog:=X.prog) (w:=X.w) (A:=X.A) (Zrs hhd i1 a ha its.toArray) (ziu hhd i2 b hb jts.toArray) D0 (by simp[D0.TIi1.symm,ta]) (by simp[D0.TIi2.symm,tb])
  have hs:min its.toArray.size jts.toArray.size=i:=by simp;lia
  rw[hs] at W0
  obtain⟨s1,s2,s3,s4,s5⟩:=st
  have hfw:∀c∈[z,TO,i1,i2],FpOk X pins H c:=fun c hc=>hf c (by simp only[Zgp,Zhf,or_false] at hc ⊢;rcases hc with h | h | h | h <;> simp[h])
  exact W0.done s _ _ ⟨s1,s2,s3,⟨s4,p.isList⟩,⟨s5,p2⟩⟩ fun h1 tk kk=>⟨rfl,I.turns (wr:=[z,TO,i1,i2]) hfw kk⟩
 self:=fun A i s Q E st h=>Zrv st.1 h
section
variable{X:Cx}{e:Expr}{ta:TA}{elts:List Expr}{kk:Nat}{tp p pos:Pos}
noncomputable def yei(K:Zgh)(ta:TA):TI:=fun σ H R=>ta σ H fun vs H1=>∃a b,vs=[Au,.ref b]/\(∃xs,SqL K H1 a xs)/\(∃ys,SqT K H1 b ys)/\R (Itzt K a b) H1
theorem zm3{e2:Expr}(hg:Gl X "zip")(hm:X.mg "zip" = none)(hA:PA X [e,e2] ta)(hs:Zh5 [e,e2] X.env=(false,Bh e)::Zh5 [e2] X.env:=by rfl)(hp:Am ((Zlw pos (Zh5 [e2] X.env)).any (·.1)):=by rfl) :
  PI X (.Tuple elts kk tp) (.Call (.Name "zip" p) [e,e2] [] pos) (yei X.K ta):=by
 intro pins s σ H R I h
 refine Call_ (zmn I hg hm Zup (Zl8 (thn (hA pos pins s σ H _ I h) fun us s1 hz9=>?_) hs hp))
 obtain⟨vs,H1,I1,r1,q1⟩:=hz9
 obtain⟨a,b,rfl,⟨xs,hq⟩,⟨ys,hr⟩,q⟩:=q1
 obtain⟨u,u2,rfl,ru,ru2⟩:=zrr r1
 cases ru
 cases ru2
 obtain⟨its,rv,p,hz⟩:=I1.list hq
 obtain⟨jts,rv2,p2,hz2⟩:=I1.tuple hr
 refine zpg p.isList p2 fun h1 hzp hTI hTO hi1 hi2 hsz hk=>?_
 have I2:Ag H1 { s1 with heap:=h1 }:=I1.kept (t':=s1.toks) hk
 refine Zrv hzp ?_
 have hlt:a<s1.heap.objs.size:=by obtain⟨o,ho,_⟩:=p.isList;exact Zgv ho
 have hlt2:b<s1.heap.objs.size:=by obtain⟨o,ho,_⟩:=p2;exact Zgv ho
 have n0:∀c,c<s1.heap.objs.size-> ∀k:Nat,c≠s1.heap.objs.size+k:=fun c h k z=>absurd (z ▸ h) (Zy7.mpr (Zqo _ k))
 have ne:∀a b:Nat,a≠b->s1.heap.objs.size+a≠s1.heap.objs.size+b:=fun a b h z=>h (Nat.add_left_cancel z)
 have n1:∀b:Nat,0≠b->s1.heap.objs.size≠s1.heap.objs.size+b:=fun b h=>ne 0 b h
 have ap:ZipAp (s1.heap.objs.size+4) (s1.heap.objs.size+2) (s1.heap.objs.size+3) s1.heap.objs.size (s1.heap.objs.size+1) [s1.heap.objs.size,a] [s1.heap.objs.size+1,b]:=by
  refine⟨ne 2 4 (by decide),ne 3 4 (by decide),n1 4 (by decide),ne 1 4 (by decide),ne 2 3 (by decide),(n1 2 (by decide)).symm,ne 2 1 (by decide),(n1 3 (by decide)).symm,ne 3 1 (by decide),n1 1 (by decide),by simp,by simp,fun c hc=>?_,fun c hc=>?_⟩
  .rcases Zgp.mp hc with rfl | hc
   .exact⟨n1 4 (by decide),n1 3 (by decide),n1 1 (by decide)⟩
   .rw[Zg0.mp hc];exact⟨n0 a hlt 4,n0 a hlt 3,n0 a hlt 1⟩
  .rcases Zgp.mp hc with rfl | hc
   .exact⟨ne 1 4 (by decide),ne 1 3 (by decide),(n1 1 (by decide)).symm⟩
   .rw[Zg0.mp hc];exact⟨n0 b hlt2 4,n0 b hlt2 3,n0 b hlt2 0⟩
 refine⟨s1.heap.objs.size+4,[s1.heap.objs.size+4,s1.heap.objs.size+2,s1.heap.objs.size+3,s1.heap.objs.size,s1.heap.objs.size+1],_,_,H1,rfl,I2,zs1 _ _ _ _ _ a b ap (n0 a hlt 0) (n0 b hlt2 1) (n0 a hlt 2) (n0 b hlt2 2),⟨hzp,hTI,(AD _ hTO),hi1,hi2⟩,fun c hc=>?_,q⟩
 have hcs:s1.heap.objs.size<=c:=by
  simp only[Zgp,Zhf,or_false] at hc
  rcases hc with rfl | rfl | rfl | rfl | rfl <;> first | exact Ay | exact Zqo _ _
 exact I1.fpOk hcs (I1.hok.fresh hcs)
end
end L2
namespace L2
open PySem PySem.W PyProof.Rows
end L2
namespace L2
open PySem PySem.W PySem.Spec PyProof.Rows
end L2
namespace L2
open PySem PySem.W PyProof.Rows
section
variable{X:Cx}{pins:List (Addr×Obj)}{σ:St}{H:Hp}{s:Zgk}{A':Zhk}
noncomputable def D.hd:D->D
 | .tup (h::_)=>h
 | d=>d
end
end L2
namespace L2
open PySem PySem.W PySem.Spec PyProof.Rows
structure DE(h:Heap)(d:Addr)(es:Array Zu3)(ep:Nat):Prop where
 ob:∃o,h.get? d=some o/\o.ExactDict/\o.data= .dict es ep
end L2
namespace L2
open PySem PySem.Spec PyProof.Rows
end L2
namespace L2
open PySem PySem.W PySem.Spec PyProof.Rows
noncomputable def ItF(K:Zgh)(J:It)(F':Hp)(n:Nat)(y:Nat->D):Prop:=∀F2 H2,Same F' F2->Same F2 H2 ->
 (∀i,i<n->J.go i H2 /\ ∀x H3,J.yld i H2 x H3-> ∃F3,Ext F2 H2 F3 H3/\Rep K F3 (y i) x)/\J.stop n H2
noncomputable def EvF(K:Zgh)(G Hz L:Hp)(ss:List Sl)(wi:TI)(n:Nat)(y:Nat->D):Prop:=∀F H σ R,Sat K G Hz L F H σ ss->(∀F' H' J,Ext F H F' H'->ItF K J F' n y->R J H')->wi σ H R
section
variable{K:Zgh}{G Hz L:Hp}{ss:List Sl}{i j:Nat}{p b:Addr}{kvs:DD}{E:Ends}{ty td tv tx:TE}{t:TS}{k d z:D}{ds:List D}{wi:TI}{n:Nat}{y:Nat->D}
theorem zos{g:TG}{tb:TS}(I:Nat->Af (List Sl))(a:EvF K G Hz L ss wi n y)(h0:I 0 ss)
  (hs:∀L' k ss,Same L L'->k<n->I k ss-> ∃ss',Tg K G Hz L' g (y k) ss ss' /\ ∀N,(∀ss,I (k+1) ss->Nx K G Hz L' N ss)->Go K G Hz L' { E with nx:=N,ct:=N,bk:=E.nx } ss' tb)
  (hd:∀ss,I n ss->Nx K G Hz L E.nx ss):Go K G Hz L E ss (tFor wi g tb):=fun F H σ S =>
 a F H σ _ S fun F1 H1 J e1 it=>by
  refine⟨fun i m σ' H'=>m=n - i/\i<=n/\At K G Hz F1 (I i) σ' H',⟨_,rfl,Zhr _,ss,F1,(A9).raise,h0⟩,?_⟩
  rintro i m σ' H' ⟨rfl,hi,ss1,F2,S2,h2⟩
  obtain⟨it1,it2⟩:=it F2 H' S2.fl S2.ext.fh
  by_cases hlt:i<n
  .obtain⟨go,yl⟩:=it1 i hlt
   refine .inr ⟨go,fun σ'' H''=>At K G Hz F1 (I (i+1)) σ'' H'',fun σ'' H'' h=>⟨n - (i+1),by omega,rfl,hlt,h⟩,fun x H'' yx=>?_⟩
   obtain⟨F3,e3,rx⟩:=yl x H'' yx
   obtain⟨ss',tg,go⟩:=hs F1 i ss1 (S.fl.trans e1.gf) hlt h2
   exact tg F3 _ σ' x _ (S2.ext2 e3) rx fun σ3 S3=>go _ (fun ss h=>zxn h) F3 _ σ3 S3
  .have e:i=n:=by omega
   subst e
   exact .inl ⟨it2,hd ss1 h2 F2 H' σ' (S2.lower (S.fl.trans e1.gf))⟩
end
end L2
namespace L2
open PySem PySem.Spec PyProof.Rows
section
variable{K:Zgh}{G Hz L:Hp}{ss:List Sl}{ta tb te tl:TE}{ds es:List D}
theorem zra(a:Ap K G L ta (.lst ds))(b:Ap K G L tb (.tup es)):EvF K G Hz L ss (yei K (zbb ta (zbb tb tNil))) (min ds.length es.length) fun i=>.tup [Bv i,es.getD i .non]:=fun F H σ R S q =>
 a F H σ _ S fun v F0 H0 e0 r0=>b F0 H0 σ _ (S.ext2 e0) fun v2 F1 H1 e1 r2=>by
  have r1:=r0.mono e1.gf
  obtain⟨p,vs,rfl,sq,rs⟩:=r1.of_lst
  obtain⟨p2,vs2,rfl,sqb,rsb⟩:=r2.of_tup
  refine⟨p,p2,rfl,⟨vs,SqL.same e1.fh sq⟩,⟨vs2,SqT.same e1.fh sqb⟩,q F1 H1 _ (e0.trans e1) fun F2 H2 f1 fh=>?_⟩
  obtain⟨ws,sq2,rs2⟩:=(r1.mono f1).itl fh
  obtain⟨p2',ws2,e2,sq22,rs22⟩:=(r2.mono f1).of_tup
  cases e2
  have sq22:=SqT.same fh sq22
  have l1:=rs2.length
  have l2:=rs22.length
  refine⟨fun i hi=>⟨⟨ws,ws2,ws[i]'(by omega),ws2[i]'(by omega),sq2,sq22,Zgg _,Zgg _⟩,fun x H3 y=>?_⟩,⟨ws,ws2,sq2,sq22,by omega⟩⟩
  obtain⟨T0,us,rfl,hf,rfl,y⟩:=y
  obtain⟨w,w2,hx,hx2,rfl⟩:=y ws ws2 sq2 sq22
  obtain⟨dx,hdx,rx⟩:=rs2.get hx
  obtain⟨dx2,hdx2,rx2⟩:=rs22.get hx2
  have e3:Ext F2 H2 (upd F2 T0 (.tup [w,w2])) (upd H2 T0 (.tup [w,w2])):=(Ext.refl fh).newF hf
  refine(AD e3 ?_)
  show Rep K _ (.tup [Bv i,es.getD i .non]) _
  rw[Zgf,Zgf,hdx,hdx2]
  exact Rep.tupN zam (Reps.cons (rx.mono e3.gf) (Reps.cons (rx2.mono e3.gf) Reps.nil))
theorem ztv{m:Nat}(a:Ap K G L tl (.lst ds))(b:Ap K G L te (.int m))(hm:Ab (Zi2 m)):EvF K G Hz L ss (iEnN K (zbb tl tNil) te) ds.length fun i=>.tup [.int ((i+m:Nat):Int),Bv i]:=fun F H σ R S q =>
 BK F H σ _ S (b F1 H1 σ _ A9 fun v0 F1' H1' e1' r0=>by
  obtain⟨p,vs,rfl,sq,rs⟩:=r1.of_lst
  rw[r0.of_int]
  refine⟨p,m,rfl,rfl,hm,⟨vs,SqL.same e1'.hh (SqL.same e1.fh sq)⟩,q F1' H1' _ (e1.trans e1') fun F2 H2 f1 fh=>?_⟩
  have rp:Rep K F2 (.lst ds) AO:=(r1.mono e1'.gf).mono f1
  obtain⟨ws,sq2,rs2⟩:=rp.itl fh
  have hlen:=rs2.length
  refine⟨fun i hi=>⟨⟨ws,ws[i]'(by lia),sq2,Zgg _⟩,fun x H3 y=>?_⟩,⟨ws,sq2,by lia⟩⟩
  obtain⟨T0,us,rfl,hf,rfl,y⟩:=y
  obtain⟨w,hx,rfl⟩:=y ws sq2
  obtain⟨dx,hdx,rx⟩:=rs2.get hx
  have e3:Ext F2 H2 (upd F2 T0 (.tup [.int ((i+m:Nat):Int),w])) (upd H2 T0 (.tup [.int ((i+m:Nat):Int),w])):=(Ext.refl fh).newF hf
  refine(AD e3 ?_)
  show Rep K _ (.tup [.int ((i+m:Nat):Int),Bv i]) _
  rw[Zgf,hdx]
  exact Rep.tupN (zam) (Reps.cons Rep.int (Reps.cons (rx.mono e3.gf) Reps.nil)))
end
theorem yct{P:Zg8}{w:Zhy}{K:Zgh}{q:Addr}{ep:Nat}(rows:Ai Str (Tok×Addr))(hl:Aa (Zj6 q K) ⟨.type "dict", none,.dict (rows.map fun r=>(⟨keyH w (.inr r.1),.str r.1 r.2.1,.ref r.2.2⟩:Zu3)).toArray ep,#[]⟩)(hq:Am (q == Zk6))(hn:(rows.map (·.1)).Nodup):DctK P w K q (rows.map fun r=>(.inr r.1,V.ref r.2.2)):=by
 refine⟨hq,_,_,_,rows.map fun r=>(.inr r.1,Zh3 r.2.2),hl,(Aw rfl rfl),rfl,fun e he=>?_,?_,?_,?_⟩
 .obtain⟨r,hr,rfl⟩:=Zg4.mp (List.mem_toArray.mp he)
  exact⟨.inr r.1,ze8 P w r.1 r.2.1,rfl⟩
 .show Pairs _ (Zpf _ rows) _
  clear hl hn
  induction rows with
  | nil=>exact .nil
  | cons r rows ih=>exact .cons (ze8 P w r.1 r.2.1) rfl ih
 .rw[Zin]
  have:(rows.map fun r=>(Zof r.1:Key))=(rows.map (·.1)).map Zof:=by rw[Zin];rfl
  show(rows.map fun r=>(Zof r.1:Key)).Nodup
  rw[this]
  exact Zxb _ (fun a b h z=>h (Zvm z)) hn
 .clear hl hn
  induction rows with
  | nil=>exact .nil
  | cons r rows ih=>exact .cons (AF rfl) ih
end L2
namespace My
open PySem L2 PyProof.Rows
noncomputable def yft(acc:Ac)(c:Nat):Ac:=if c≠32\/(acc≠[]/\acc.getLast? ≠ some 32) then acc++[lo1 c] else acc
noncomputable def trim(r:Ac):Ac:=if r≠[]/\Bq r.getLast? 32 then r.dropLast else r
noncomputable def plain(l:Ac):Ac:=trim (l.foldl yft [])
noncomputable def yfw:AT->Ac
 | []=>[]
 | [p]=>p
 | p::q::r=>p++32::yfw (q::r)
noncomputable def ygc(acc:Ac)(c:Nat):Ac:=if c≠32\/(acc≠[]/\acc.getLast? ≠ some 32) then acc++[c] else acc
noncomputable def yga(acc:Ac):Prop:=acc=[]\/Bq acc.getLast? 32
noncomputable def up:Ac:=(Zhi 26).map (65 + ·)
noncomputable def dn:Ac:=(Zhi 26).map (97 + ·)
end My
namespace My
open PySem L2 PyProof.Rows
structure Asc(n:Nat)(l:List Nat):Prop where
 lt:∀c∈l,c<128
 len:l.length<=n
end My
namespace My
open PySem L2 PyProof.Rows
noncomputable def sV(c:Nat):V:=.str (T [c])
end My
namespace My
open PySem L2 PyProof.Rows
noncomputable def cpl:Ac->Ac->Nat
 | a::x,b::y=>if a=b then cpl x y+1 else 0
 | _,_=>0
noncomputable def yfx(F S:Ac):Bool:=AC (F.drop 1) (S.drop 1)||AC (F.drop 1) S||AC F (S.drop 1)
noncomputable def near(p q:Ac):Bool:=yfx (p.drop (cpl p q)) (q.drop (cpl p q))
theorem yb5(n d:Nat){a:Int}(h:0<=a):HT.sIx n d (some a)=min a.toNat n:=by
 show(if a<0 then (a+(n:Int)).toNat else min a.toNat n)=_
 rw[if_neg (by lia)]
theorem zsx(m:Ac){b:Int}(h:0<=b):cutL m (some b) none=m.drop b.toNat:=by
 unfold cutL
 have e2:HT.sIx m.length m.length none=m.length:=rfl
 rw[yb5 _ _ h,e2,Zij (by rw[Zlo];lia)]
 by_cases hh:b.toNat<=m.length
 .rw[Zmx hh]
 .rw[Zny (by lia),Zu0,Zl7 (by lia)]
end My
namespace My
open PySem L2 PyProof.Rows
noncomputable def ygf(F S:Ac):Prop:=F=S\/F.drop 1=S\/F=S.drop 1\/F.drop 1=S.drop 1
noncomputable def frm(a b:Ac):D:=.tup [.str a,.str b]
noncomputable def ye6(p:Ac)(k:Nat):Ae:=[frm (p.take k) (p.drop k),frm (p.take k) (p.drop (k+1))]
noncomputable def zz2(p:Ac):Ae:=(Zhi (p.length+1)).flatMap (ye6 p)
noncomputable def yfn(p q:Ac):Ae:=(ded (zz2 p)).filter fun d=>AE d (zz2 q)
end My
namespace L2
open PySem PySem.W PyProof.Rows
section
variable{X:Cx}{pins:List (Addr×Obj)}{σ:St}{H:Hp}{s:Zgk}{l I0 S:Addr}{xs:List V}{ks:List D}{q:Addr}{J:Hp->Prop}{R:Zyn->Zgk->Prop}{lt:Nat->Nat->Bool}
noncomputable def ItAt(o:Obj)(l:Addr)(j:Nat):Prop:=o.cls= .type "list_iterator" /\ o.data= .fields #[.ref l,.int (j:Int) 0]
end
end L2
namespace L2
open PySem PySem.W PySem.Spec PyProof.Rows PySem.Calls
open PySem.MeetsSeq PySem.MeetsSeq2 PySem.MeetsSeq3
open AutoSeq1 (wpAny_loadPart')
inductive LexC(prog:Zg8)(w:Zhy)(A:Zhk)(s:Zgk):List Zgi->List Zgi->Bool->Prop
 | nil:LexC prog w A s [] [] false
 | eq {u v:Zgi} {us vs:List Zgi} {r:Bool} (h:∀(E:Zgi->Zgk->Prop) (Q:Bool->Zgk->Prop),Q true s->Zg1 (Zg3 prog w) A (eqBool u v) Q E s) (t:LexC prog w A s us vs r):LexC prog w A s (u::us) (v::vs) r
 | ne {u v:Zgi} {us vs:List Zgi} {r:Bool} (h:∀(E:Zgi->Zgk->Prop) (Q:Bool->Zgk->Prop),Q false s->Zg1 (Zg3 prog w) A (eqBool u v) Q E s) (g:∀(E:Zgi->Zgk->Prop) (Q:Zgi->Zgk->Prop),Q (.bool r) s->Zg1 (Zg3 prog w) A (richCompare .Lt u v) Q E s):LexC prog w A s (u::us) (v::vs) r
noncomputable def keyD(a b:Int)(xs:List Int):D:=.tup [.int a,.int b,.lst (xs.map .int)]
noncomputable def ygb(X:Cx)(N:Al)(qual:Str)(scope:Scope)(f c':Addr)(cl:Ai Str Addr)(A:Zhk)(s:Zgk)(H:Hp):Cx where
 prog:=X.prog
 w:=X.w
 K:=X.K
 mg:=X.mg
 base:=X.base
 A:=A.deeper (envX qual scope s.heap.objs.size f (.ref c') cl)
 N:=N
 s₀:=s
 Hz:=H
 env:=envX qual scope s.heap.objs.size f (.ref c') cl
 outer:=X.stack
 stack:=envX qual scope s.heap.objs.size f (.ref c') cl::X.stack
 ex:=[]
 calm:=true
 fn:=fun _=>false
 pn:=[]
 xe:=fun _ _=>False
noncomputable def ygg(H:Hp)(c' P:Addr)(q:Str):Prop:=∃oc vs t,Aa (H c') (.frz oc (.own P))/\oc.data= .fields vs/\Ax vs 1 (.str q t)
end L2
namespace L2
open PySem PySem.W PyProof.Rows PySem.Spec PySem.Calls
noncomputable def one(f:V->Af Hp):Ao->Af Hp
 | [v],H=>f v H
 | _,_=>False
noncomputable def ygd(K:Zgh):Ao->Hp->Af VK:=fun vs H Q=>∃a ns,vs=[Au]/\SqL K H a (ns.map V.int)/\ns≠[] /\ ∀m,m∈ns->(∀n∈ns,n<=m)->Q (.int m) H
noncomputable def yge(K:Zgh)(ta tk:TE):TE:=fun σ H Q=>ta σ H fun v H1=>tk σ H1 fun dv H2=>∃(a:Addr) (ns:List Int) (d:Int),v= Au/\dv= .int d/\SqL K H2 a (ns.map V.int)/\(∀m,m∈ns->(∀n∈ns,n<=m)->Q (.int m) H2)/\(ns=[]->Q (.int d) H2)
end L2
namespace L2
open PySem PySem.W PySem.Spec PyProof.Rows PySem.Calls
noncomputable def kI(ks:Ai Int (Int×List Int))(i:Nat):List Int:=match ks[i]? with
 | some k=>k.1::k.2.1::k.2.2
 | none=>[]
noncomputable def yf9(K:Zgh)(P:Addr)(pos:Pos)(q:Str)(i:Nat)(te ta:TE):TE:=fun σ H Q=>ta σ H fun v H1=>∃a xs vy ks n,v= Au/\SqL K H1 a xs/\Ak σ (some vy)/\Aa (H1 P) (.tab #[] pos q)/\0<xs.length/\ks.length=xs.length/\(∀k∈ks,k.2.2.length=n) /\
 (∀(j:Nat) x k H',Ax xs j x->Ax ks j k->Same H1 H'->te [some x,some vy] H' (fun y H2=>Same H' H2/\Rep K H2 (keyD k.1 k.2.1 k.2.2) y)) /\
 (∀(j:Nat) x H',Ax xs j x->(∀m,m<xs.length-> ¬ kI ks m<kI ks j/\(m<j->kI ks j<kI ks m))->Same H1 H'->Q x H')
end L2
namespace L2
open PySem PySem.W PySem.Spec PyProof.Rows
structure LamAt(base:Heap)(mg:Str->Option Zgi)(fl:Zj9)(T:Addr):Prop where
 ex:∃c,fl.code= .ref c/\CodeHd base c T
 bt:base.BuiltinsAt mg T
end L2
namespace L2
open PySem PySem.Spec PyProof.Rows
noncomputable abbrev HasT(H:Hp)(T:Addr)(pos:Pos)(q:Str):Prop:=Aa (H T) (.tab #[] pos q)
noncomputable def SpDT(K:Zgh)(T:Addr)(pos:Pos)(q:Str)(pre:Af Ae)(res:Ae->D):Sp:=fun vs H Q _=>∃G ds,Same G H/\HasT G T pos q/\AB G ds vs/\pre ds /\ ∀v G' H',Ext G H G' H'->Rep K G' (res ds) v->Q v H'
noncomputable def RtPO(K:Zgh)(G Hz:Hp)(rt:VK)(l:Int)(ds:Ae):Prop:=∀a p vs F H,Ext G Hz F H->Hz p=none->F p=none->Aa (F a) (.tup [.int l,AO])->Aa (H p) (.lst vs)->AB F ds vs->rt Au H
noncomputable def SpPT(K:Zgh)(T:Addr)(pos:Pos)(q:Str)(pre:Af Ae)(res:Ae->Int×Ae):Sp:=fun vs H Q _=>∃G ds,Same G H/\HasT G T pos q/\AB G ds vs/\pre ds/\RtPO K G H Q (res ds).1 (res ds).2
structure FX(K:Zgh)(mg:Str->Option Zgi)(n:Str)(s:Stmt)(ps:List Str)(f:Addr)(d:Zj9):Prop where
 F:Fun K n n s f d
 B:zev K d ps []
 M:mg n=some (.ref f)
noncomputable def Bd(n:Str)(s:Stmt)(ps:Al):Prop:=∀(kV doc pm:Zgi) (an:Option Addr) (cdv ct:Zgi) (us:Ar),us.length=ps.length->Zm2 (Zix n n (zcj s) (zbp s) (zad s) .none kV doc pm an cdv ct) ⟨us,[]⟩=pure (ps.zip us)
theorem fx_mk{K:Zgh}{h:Heap}{mg:Str->AY}{n:Str}{s:Stmt}{ps:Al}{g:Addr}{oc kV doc pm cdv ct:Zgi}{od an:Option Addr}{osl:Array AY}(X:K.In h)(G:h.Ns Zkp mg)(b:Bd n s ps)(a:Aa (PySem.W.nsIn K Zkp n) (some (.ref g)))
  (l:Aa (K.lookup g) ⟨oc,od,.func (Zix n n (zcj s) (zbp s) (zad s) .none kV doc pm an cdv ct),osl⟩) (c:Ab (Zn8 K cdv n)) (k:Ab (Zl4 K (.ref g))):FX K mg n s ps g (Zix n n (zcj s) (zbp s) (zad s) .none kV doc pm an cdv ct) :=
 ⟨fun_mk l c k,(fun_mk l c k).binds b,PySem.W.mg_of X G a⟩
theorem FX.bt{K:Zgh}{mg:Str->AY}{n x:Str}{s:Stmt}{f:Addr}{d:Zj9}(b:Bd n s [x])(z:FX K mg n s [x] f d)(t:Zgk)(v:Zgi):Zrg t d ⟨[v],[]⟩ [(x,v)]:=by
 obtain⟨oc,od,kV,dc,pm,an,cdv,ct,osl,rfl,l,_⟩:=z.F.ex
 exact .of_eq (b kV dc pm an cdv ct [v] rfl)
theorem zce{N P:Al}{sc:Scope}(h:Ab (decide (sc.kind= .function)&&(!sc.isCoroutine&&(!sc.isGenerator&&(decide N.Nodup&&(AC (N.take P.length) P&&(P.all (fun x=>decide (Aa (sc.names.lookup x) .local\/Aa (sc.names.lookup x) .cell))&&sc.names.all fun y=>decide (y.2 ≠ .free)))))))):FnScope N P sc:=by
 simp only[Zhe,decide_eq_true_eq,Zuc,Zja] at h
 exact⟨h.1,h.2.1,h.2.2.1,h.2.2.2.1,h.2.2.2.2.1,h.2.2.2.2.2.1,h.2.2.2.2.2.2⟩
section
variable{X:Cx}{pos:Pos}{i:Nat}{x:Str}
theorem pgn(i:Nat)(hN:X.N.Nodup)(hi:Ak X.N x:=by rfl)(hx:Loc X.env.scope x:=by exact Zlq rfl)(hf:Ab (X.fn x)\/Aa (X.env.scope.names.lookup x) .local:=by first | exact Be | exact .inr rfl | assumption):PG X (.Name x pos) (zho i):=zb9 hN hi hx hf
theorem psn(i:Nat){e:Expr}{te:TE}{pos':Pos}(hN:X.N.Nodup)(he:PE X e te)(hi:Ak X.N x:=by rfl)(hx:Loc X.env.scope x:=by exact Zlq rfl)(hs:Zo0 e (some (.Name x pos')) pos.line X.env=pure false:=by rfl)(hf:Ab (X.fn x)\/Aa (X.env.scope.names.lookup x) .local:=by first | exact Be | exact .inr rfl | assumption):PS X (.Assign [.Name x pos'] e pos) (tAsg te (zho i)):=zwr hN hi hx he hs hf
theorem pcX{k kk:Nat}{f:Addr}{fd:Zj9}{ps:Al}{sp:Sp}{e:Expr}{es:List Expr}{t:TA}{p:Pos}{st:Stmt}(F:FnOk X.prog X.w X.K X.mg X.base CX0 k f fd ps sp)(hr:Room kk X.A)(z:FX X.K X.mg x st ps f fd)(ha:PA X (e::es) t)(hle:k<=kk:=by decide)(hg:Gl X x:=by rfl)(hdb:Am (x == ("__debug__" : Str)):=by decide)(he:Zh5 (e::es) X.env=(false,Bh e)::Zh5 es X.env:=by rfl)(hpl:Am ((Zlw pos (Zh5 es X.env)).any (·.1)):=by rfl):PE X (.Call (.Name x p) (e::es) [] pos) (zka sp [] E0 t) :=
 ycl F (hr.mono hle) hg z.M z.F.kp z.B .nil zkg ha hdb he hpl
end
section
variable{P:Zg8}{w:Zhy}{K:Zgh}{mg:Str->Option Zgi}{base:Heap}{x qual:Str}{st:Stmt}{f:Addr}{fd:Zj9}{N ps:List Str}{k:Nat}
theorem zuf{sc:Scope}(S:FnScope N ps sc):ps.length<=N.length:=by
 have:=congrArg Zj7 S.pre
 rw[Zmk] at this
 omega
theorem okD{pre:Af Ae}{res:Ae->D}(F:Fun K x qual st f fd)(S:Bf N ps st)(hl:∀ds,pre ds->ds.length=ps.length)
  (hb:BX Env (Room k (A.deeper (Zol qual (zad st) s.heap.objs.size f cdv))-> ∃t,PSs (cxOf CX0 P w K mg base N qual (zad st) f cdv A outer s H E).nox (zbp st) t /\ ∀G ds,pre ds->RtD K G H Q (res ds)->Go K G H G (BL (Q .non H')) (slots N.length ds) t)):FnOk P w K mg base CX0 (k+1) f fd ps (SpD K pre res) :=
 F.ok S (fun vs H Q E h=>ztr hl h) fun cdv A outer s H vs Q E hr h=>let ⟨t,p,b⟩:=hb cdv A outer s H Q E hr;⟨t,p,yet h (by rw[ztr hl h];exact zuf S) b⟩
theorem okO{pre:Af Ae}{res:Ae->Ae}(F:Fun K x qual st f fd)(S:Bf N ps st)(hl:∀ds,pre ds->ds.length=ps.length)
  (hb:BX Env (Room k (A.deeper (Zol qual (zad st) s.heap.objs.size f cdv))-> ∃t,PSs (cxOf CX0 P w K mg base N qual (zad st) f cdv A outer s H E).nox (zbp st) t /\ ∀G ds,pre ds->RtO K G H Q (res ds)->Go K G H G (BL (Q .non H')) (slots N.length ds) t)):FnOk P w K mg base CX0 (k+1) f fd ps (SpO K pre res) :=
 F.ok S (fun vs H Q E h=>zwj hl h) fun cdv A outer s H vs Q E hr h=>let ⟨t,p,b⟩:=hb cdv A outer s H Q E hr;⟨t,p,ye5 h (by rw[zwj hl h];exact zuf S) b⟩
theorem okR{pre:Af Ae}{R:Ae->Af Ae}(F:Fun K x qual st f fd)(S:Bf N ps st)(hl:∀ds,pre ds->ds.length=ps.length)
  (hb:BX Env (Room k (A.deeper (Zol qual (zad st) s.heap.objs.size f cdv))-> ∃t,PSs (cxOf CX0 P w K mg base N qual (zad st) f cdv A outer s H E).nox (zbp st) t /\ ∀G ds,pre ds->(∀rs,R ds rs->RtO K G H Q rs)->Go K G H G (BL (Q .non H')) (slots N.length ds) t)):FnOk P w K mg base CX0 (k+1) f fd ps (SpR K pre R) :=
 F.ok S (fun vs H Q E h=>zs8 hl h) fun cdv A outer s H vs Q E hr h=>let ⟨t,p,b⟩:=hb cdv A outer s H Q E hr;⟨t,p,yfb h (by rw[zs8 hl h];exact zuf S) b⟩
theorem okG{α:Type}{pre:α->Af Ae}{res:α->D}(F:Fun K x qual st f fd)(S:Bf N ps st)(hl:∀q ds,pre q ds->ds.length=ps.length)
  (hb:BX Env (Room k (A.deeper (Zol qual (zad st) s.heap.objs.size f cdv))-> ∃t,PSs (cxOf CX0 P w K mg base N qual (zad st) f cdv A outer s H E).nox (zbp st) t /\ ∀G ds q,pre q ds->RtD K G H Q (res q)->Go K G H G (BL (Q .non H')) (slots N.length ds) t)):FnOk P w K mg base CX0 (k+1) f fd ps (SpG K pre res) :=
 F.ok S (fun vs H Q E h=>zwk hl h) fun cdv A outer s H vs Q E hr h=>let ⟨t,p,b⟩:=hb cdv A outer s H Q E hr;⟨t,p,yd9 h (by rw[zwk hl h];exact zuf S) b⟩
theorem okGO{α:Type}{pre:α->Af Ae}{res:α->Ae}(F:Fun K x qual st f fd)(S:Bf N ps st)(hl:∀q ds,pre q ds->ds.length=ps.length)
  (hb:BX Env (Room k (A.deeper (Zol qual (zad st) s.heap.objs.size f cdv))-> ∃t,PSs (cxOf CX0 P w K mg base N qual (zad st) f cdv A outer s H E).nox (zbp st) t /\ ∀G ds q,pre q ds->RtO K G H Q (res q)->Go K G H G (BL (Q .non H')) (slots N.length ds) t)):FnOk P w K mg base CX0 (k+1) f fd ps (SpGO K pre res) :=
 F.ok S (fun vs H Q E h=>zqe hl h) fun cdv A outer s H vs Q E hr h=>let ⟨t,p,b⟩:=hb cdv A outer s H Q E hr;⟨t,p,ybc h (by rw[zqe hl h];exact zuf S) b⟩
end
end L2
namespace L2
open PySem PySem.W PySem.Spec PyProof.Rows
end L2
namespace My
open PySem L2 PyProof.Rows
noncomputable def top(i:Nat):Stmt:=Zvn.main.body.getD i (.Pass ⟨0,0,0,0⟩)
noncomputable abbrev zd4:Stmt:=top 69
noncomputable abbrev zc8:Al:=["base", "sides"]
theorem zb5:Bf ["base", "sides", "kept", "told", "side"] zc8 zd4:=Br
noncomputable abbrev zic:Stmt:=top 70
noncomputable abbrev zhf:Al:=["base", "one", "other"]
theorem zud:Bf ["base", "one", "other"] zhf zic:=Br
noncomputable abbrev zel:Stmt:=top 116
noncomputable abbrev zfk:Al:=["_law_books"]
theorem zep:Bf ["_law_books", "_law_base", "_law_due_here", "_law_side"] zfk zel:=Br
noncomputable abbrev zfg:Stmt:=top 15
noncomputable abbrev zef:Al:=["text"]
theorem zsf:Bf ["text"] zef zfg:=Br
noncomputable abbrev zg8:Stmt:=top 16
noncomputable abbrev zfv:Al:=["sign"]
theorem zrx:Bf ["sign"] zfv zg8:=Br
noncomputable abbrev zfz:Stmt:=top 17
noncomputable abbrev zfp:Al:=["text"]
theorem zrt:Bf ["text"] zfp zfz:=Br
noncomputable abbrev zex:Stmt:=top 18
noncomputable abbrev zcv:Al:=["one", "field", "other"]
theorem znk:Bf ["one", "field", "other"] zcv zex:=Br
noncomputable abbrev zrg:Stmt:=top 19
noncomputable abbrev zoe:Al:=["facts"]
theorem yav:Bf ["facts"] zoe zrg:=Br
noncomputable abbrev zc0:Stmt:=top 62
noncomputable abbrev zcc:Al:=["row"]
theorem zjr:Bf ["row"] zcc zc0:=Br
noncomputable abbrev zd1:Stmt:=top 63
noncomputable abbrev zdw:Al:=["text"]
theorem zhx:Bf ["text", "rows"] zdw zd1:=Br
noncomputable abbrev zg0:Stmt:=top 64
noncomputable abbrev zfl:Al:=["row"]
theorem zku:Bf ["row", "words"] zfl zg0:=Br
noncomputable abbrev zcs:Stmt:=top 65
noncomputable abbrev zb1:Al:=["number", "row"]
theorem zh5:Bf ["number", "row"] zb1 zcs:=Br
noncomputable abbrev zd3:Stmt:=top 66
noncomputable abbrev zdq:Al:=["text"]
theorem zno:Bf ["text"] zdq zd3:=Br
noncomputable abbrev zdu:Stmt:=top 67
noncomputable abbrev zdr:Al:=["book"]
theorem zmt:Bf ["book"] zdr zdu:=Br
noncomputable abbrev zey:Stmt:=top 97
noncomputable abbrev zd0:Al:=["word", "form"]
theorem zms:Bf ["word", "form"] zd0 zey:=Br
noncomputable abbrev zgd:Stmt:=top 98
noncomputable abbrev zdo:Al:=["row"]
theorem ze4:Bf ["row", "words", "word", "form"] zdo zgd:=Br
noncomputable abbrev zbt:Stmt:=top 99
noncomputable abbrev za3:Al:=["rows", "last"]
theorem zb0:Bf ["rows", "last", "number", "row"] za3 zbt:=Br
noncomputable abbrev zdj:Stmt:=top 101
noncomputable abbrev zcr:Al:=["rows"]
theorem zkk:Bf ["rows"] zcr zdj:=Br
noncomputable def zuv(i j:Nat):Stmt:=match top i with
 | .ClassDef _ _ _ b _ _ _ _ _ _ _=>b.getD j (.Pass ⟨0,0,0,0⟩)
 | s=>s
noncomputable abbrev Zar:Stmt:=zuv 106 0
noncomputable abbrev zo6:Al:=["self"]
theorem zmk:Bf ["self"] zo6 Zar:=Br
noncomputable abbrev Zav:Stmt:=zuv 106 1
noncomputable abbrev zss:Al:=["self", "text"]
theorem zgq:Bf ["self", "text", "rows", "words"] zss Zav:=Br
noncomputable abbrev Zad:Stmt:=zuv 106 2
noncomputable abbrev zgx:Al:=["self", "words"]
theorem zb7:Bf ["self", "words", "word", "form"] zgx Zad:=Br
noncomputable abbrev Zam:Stmt:=zuv 106 3
noncomputable abbrev zl8:Al:=["self", "words"]
theorem zgm:Bf ["self", "words", "book"] zl8 Zam:=Br
noncomputable abbrev Zae:Stmt:=zuv 106 4
noncomputable abbrev zgs:Al:=["self", "words", "rows"]
theorem zgj:Bf ["self", "words", "rows", "book"] zgs Zae:=Br
noncomputable abbrev zdk:Stmt:=top 108
noncomputable abbrev zcq:Al:=["_law_script", "_law_k"]
theorem zkj:Bf ["_law_script", "_law_k"] zcq zdk:=Br
noncomputable abbrev zf4:Stmt:=top 109
noncomputable abbrev zdm:Al:=["_law_cell", "_law_k"]
theorem zgv:Bf ["_law_cell", "_law_k", "_law_many", "_law_at"] zdm zf4:=Br
noncomputable abbrev zeg:Stmt:=top 110
noncomputable abbrev zeh:Al:=["_law_shape", "_law_cell"]
theorem zb4:Bf ["_law_shape", "_law_cell", "_law_base", "_law_turned", "_law_sign", "_law_at", "_law_way"] zeh zeg:=Br
noncomputable abbrev ze6:Stmt:=top 111
noncomputable abbrev zdv:Al:=["_law_sign"]
theorem zh1:Bf ["_law_sign", "_law_at"] zdv ze6:=Br
noncomputable abbrev zgf:Stmt:=top 112
noncomputable abbrev zee:Al:=["_law_shape", "_law_many", "_law_cell"]
theorem zcy:Bf ["_law_shape", "_law_many", "_law_cell", "_law_i", "_law_way", "_law_j", "_law_field"] zee zgf:=Br
noncomputable abbrev zf8:Stmt:=top 113
noncomputable abbrev zeq:Al:=["_law_facts"]
theorem zgy:Bf ["_law_facts", "_law_book_here", "_law_fact_here"] zeq zf8:=Br
noncomputable abbrev zd2:Stmt:=top 115
noncomputable abbrev zdz:Al:=["_law_book_here"]
theorem zng:Bf ["_law_book_here"] zdz zd2:=Br
noncomputable abbrev zrq:Stmt:=top 117
noncomputable abbrev zty:Al:=["_law_script"]
theorem zcd:Bf ["_law_script", "_law_shape", "_law_many", "_law_books", "_law_cell", "_law_k", "_law_names", "_law_desk", "_law_base", "_law_one", "_law_other", "_law_third", "_law_orders", "_law_new", "_law_left", "_law_right", "_law_due_here", "_law_name"] zty zrq:=Br
set_option genInjectivity false in
set_option genSizeOf false in
structure Ad where
 (Zaa Zb7 Zbk Zap Zao Zbm Zdg Zcy Zca Zcv Zcx Zbd Zd8 Za1 Zbt Zc2 Zat Zb3 Zbs Zbv Zbq Zah Za8 Zay Za6 Zac Zan Zaf Zbc Zbn Zcc Zby Zcg Zci Zbu Ze2:Addr)
 (Zeu Zdq Zdr Zet:Zgi)
 (Zbl Zdh Zcw Zb9 Zc1 Zc0 Zbe Zd7 Za0 Zb1 Zcz Zau Zb4 Zbx Zbz Zbr Zai Zbb Zaw Za7 Zab Zal Zag Zba Zbp Zch Zb2 Zce Zcf Zbw Zeg:Zj9)
structure Tx(K:Zgh)(mg:Str->Option Zgi)(ad0:Ad):Prop where
 Zff:mg "Desk" = some (.ref ad0.Zaa)
 Zaj:Cls K ad0.Zaa
 Zer:Mk K ad0.Zaa ad0.Zay
 Zaz:Meth K ad0.Zaa "say" ad0.Za6
 Zak:zen K ad0.Zaa "books"
 Zc4:zen K ad0.Zaa "rules"
 Za2:Meth K ad0.Zaa "refuse_names" ad0.Zac
 Zcl:Meth K ad0.Zaa "answer" ad0.Zan
 Za4:Meth K ad0.Zaa "changed_book" ad0.Zaf
 Zec:mg "ASKING" = some (.ref ad0.Zb7)
 Zdv:TupK K ad0.Zb7 [[115,104,111,119],[103,114,111,117,112,115],[108,111,115,115],[116,111,108,100]]
 Zdy:mg "FIELDS" = some (.ref ad0.Zbk)
 Zd1:TupK K ad0.Zbk [[110,97,109,101],[102,111,114,109,101,114],[119,97,121],[100,97,121],[109,97,114,107]]
 Zc3:mg "PAIR_FIELDS" = some (.ref ad0.Zap)
 Zc5:TupK K ad0.Zap [[115,97,109,101],[97,112,97,114,116]]
 Zc8:mg "TAKING_ROWS" = some (.ref ad0.Zao)
 Zb5:TupK K ad0.Zao [[98,111,111,107],[114,117,108,101,115],[114,105,103,104,116]]
 Zd6:mg "LETTERS" = some ad0.Zeu
 Zf8:RelV (.str (T [97,98,99,100,101,102,103,104,105,106,107,108,109,110,111,112,113,114,115,116,117,118,119,120,121,122])) ad0.Zeu
 Zcm:mg "LONGEST_NAME" = some ad0.Zdq
 Zep:RelV (.int 12) ad0.Zdq
 Zck:mg "LONGEST_TEXT" = some ad0.Zdr
 Zes:RelV (.int 40) ad0.Zdr
 Zd5:mg "NO_SIGN" = some ad0.Zet
 Zf2:RelV (.int 37) ad0.Zet
 Zcd:FX K mg "poured_all" zd4 zc8 ad0.Zbm ad0.Zbl
 Zdt:FX K mg "poured" zic zhf ad0.Zdg ad0.Zdh
 Zdj:FX K mg "_law_due" zel zfk ad0.Zcy ad0.Zcw
 Zb8:FX K mg "is_name" zfg zef ad0.Zca ad0.Zb9
 Zdk:FX K mg "is_sign" zg8 zfv ad0.Zcv ad0.Zc1
 Zdi:FX K mg "is_text" zfz zfp ad0.Zcx ad0.Zc0
 Zcp:FX K mg "pair_fact" zex zcv ad0.Zbd ad0.Zbe
 Zeh:FX K mg "tidy" zrg zoe ad0.Zd8 ad0.Zd7
 Zbo:FX K mg "is_passed_by" zc0 zcc ad0.Za1 ad0.Za0
 Zcq:FX K mg "told_rows" zd1 zdw ad0.Zbt ad0.Zb1
 Zdn:FX K mg "fact_of" zg0 zfl ad0.Zc2 ad0.Zcz
 Zbj:FX K mg "numbered_fact" zcs zb1 ad0.Zat ad0.Zau
 Zcr:FX K mg "read_book" zd3 zdq ad0.Zb3 ad0.Zb4
 Zct:FX K mg "show_book" zdu zdr ad0.Zbs ad0.Zbx
 Zco:FX K mg "fits_form" zey zd0 ad0.Zbv ad0.Zbz
 Zdd:FX K mg "order_of" zgd zdo ad0.Zbq ad0.Zbr
 Zaq:FX K mg "refuse_rows_behind" zbt za3 ad0.Zah ad0.Zai
 Zb6:FX K mg "rows_behind" zdj zcr ad0.Za8 ad0.Zbb
 Zdp:Fun K "__init__" "Desk.__init__" Zar ad0.Zay ad0.Zaw
 Zdo:zev K ad0.Zaw ["self"] []
 Zd0:Fun K "say" "Desk.say" Zav ad0.Za6 ad0.Za7
 Za3:zev K ad0.Za7 ["self", "text"] []
 Zbg:Fun K "refuse_names" "Desk.refuse_names" Zad ad0.Zac ad0.Zab
 Zbi:zev K ad0.Zab ["self", "words"] []
 Zc6:Fun K "answer" "Desk.answer" Zam ad0.Zan ad0.Zal
 Zc7:zev K ad0.Zal ["self", "words"] []
 Zbh:Fun K "changed_book" "Desk.changed_book" Zae ad0.Zaf ad0.Zag
 Zbf:zev K ad0.Zag ["self", "words", "rows"] []
 Za9:FX K mg "_law_cell_at" zdk zcq ad0.Zbc ad0.Zba
 Za5:FX K mg "_law_card" zf4 zdm ad0.Zbn ad0.Zbp
 Zde:FX K mg "_law_text" zeg zeh ad0.Zcc ad0.Zch
 Zb0:FX K mg "_law_great" ze6 zdv ad0.Zby ad0.Zb2
 Zc9:FX K mg "_law_fact" zgf zee ad0.Zcg ad0.Zce
 Zcb:FX K mg "_law_book" zf8 zeq ad0.Zci ad0.Zcf
 Zax:FX K mg "_law_shown" zd2 zdz ad0.Zbu ad0.Zbw
 Zee:FX K mg "law" zrq zty ad0.Ze2 ad0.Zeg
 Ze4:mg "all" = none
 Zcu:mg "enumerate" = none
 Zd4:mg "isinstance" = none
 Zdc:mg "len" = none
 Zfb:mg "list" = none
 Ze3:mg "max" = none
 Ze1:mg "min" = none
 Zfx:mg "ord" = none
 Zdf:mg "range" = none
 Zef:mg "reversed" = none
 Zdl:mg "set" = none
 Zcn:mg "sorted" = none
 Zgb:mg "str" = none
 Zeq:mg "tuple" = none
 Ze0:mg "zip" = none
section
variable{P:Zg8}{w:Zhy}{K:Zgh}{mg:Str->Option Zgi}{base:Heap}{ad0:Ad}
noncomputable def zo4(ds:Ae):Prop:=∃(ns:List Int) (k:Int),ds=[.lst (ns.map .int),.int k]/\0<=k
noncomputable def zfb:Ae->D
 | [.lst xs,.int k]=>xs.getD k.toNat (.int 0)
 | _=>.non
theorem zkn(Z:Tx K mg ad0):FnOk P w K mg base CX0 1 ad0.Zbc ad0.Zba zcq (SpD K zo4 zfb):=by
 refine okD Z.Za9.F zkj (by rintro ds ⟨ns,k,rfl,_⟩;rfl) (By _ (zah (zcn (zat yac (pv 1) (zbl zc7 (by rfl) Z.Zdc Zql (AV 0)) (zbh _)) (A2 (A1 (A7 _ K) (pv 0) (pv 1))) za0)
   (A2 zaj)) BJ)
 obtain⟨ns,k,rfl,hk⟩:=hp
 have ll:(ns.map D.int).length=ns.length:=by simp
 refine zan (zcg (zap (zmb (g:=fun i j=>AS i j) Aq (zl9 (Aj).l).b)) (fun hb=>?_) (fun hb=>?_))
 .simp only[decide_eq_true_eq] at hb
  have hk2:k.toNat<ns.length:=by omega
  refine zbs (zay (d:=.int (ns.getD k.toNat 0)) (Aj).l Aq ?_) ?_
  .have:=zdt (xs:=ns.map D.int) (j:=k.toNat) (v:=D.int (ns.getD k.toNat 0)) (by rw[Zgy,Zgf];simp[hk2])
   rw[show((k.toNat:Nat):Int)=k by omega] at this
   exact this
  .have e:zfb [D.lst (ns.map D.int),D.int k]= .int (ns.getD k.toNat 0):=by
    simp[zfb,Zgf,Zgy,hk2]
   rw[e] at rt;exact rt
 .simp only[decide_eq_false_iff_not] at hb
  have e:zfb [D.lst (ns.map D.int),D.int k]= .int 0:=by
   simp[zfb,Zgf,Zgy,show ns[k.toNat]? = none from Zhu (by omega)]
  rw[e] at rt
  refine za5 ?_
  ((try dsimp only);refine AQ)
  exact zbs zag rt
theorem small{n:Nat}(h:n<=1000):AL n:=by rw[Zg2];omega
theorem zma{α:Type}(xs:List α)(z:α)(x:Int){n:Int}(hn:(xs.length:Int)=n)(h0:0<n):Aa (atI xs (x % n)) (xs.getD (x % n).toNat z):=by
 have h1:=Zhv x (show n≠0 by omega)
 have h2:=Zhm x h0
 have:=zdt (xs:=xs) (j:=(x % n).toNat) (v:=xs.getD (x % n).toNat z) (by rw[Zgf,Zgg (by omega)];rfl)
 rw[show(((x % n).toNat:Nat):Int)=x % n by omega] at this
 exact this
noncomputable def lets:Ac:=(BA "abcdefghijklmnopqrstuvwxyz")
theorem zq4:lets.length=26:=by decide +kernel
theorem zpz:∀c∈lets,c<128:=by decide +kernel
noncomputable def zne(x:Int):Nat:=lets.getD (x % 26).toNat 0
theorem ycj(x:Int):Aa (atI lets (x % 26)) (zne x):=zma lets 0 x (by rw[zq4];rfl) (by decide)
noncomputable def zy4:Ac:=((Zhi 95).map (· + 32)).filter (· != 37)
noncomputable def flds:AT:=[[110,97,109,101],[102,111,114,109,101,114],[119,97,121],[100,97,121],[109,97,114,107]]
noncomputable def prs:AT:=[[115,97,109,101],[97,112,97,114,116]]
noncomputable def za8(n:Ac):Prop:=1<=n.length/\n.length<=12 /\ ∀c∈n,c∈lets
noncomputable instance(n:Ac):Decidable (za8 n):=by unfold za8;exact inferInstance
noncomputable def znh(t:Ac):Prop:=1<=t.length/\t.length<=40/\t=zd6 [32].contains t /\ ∀c∈t,c∈zy4
noncomputable def preS(ds:Ae):Prop:=∃l,ds=[.str l]/\l.length<=1000
noncomputable def zlb(l:Ac):Bool:=(decide ((1:Int)<=(l.length:Int))&&decide ((l.length:Int)<=12))&&l.all fun c=>AE c lets
noncomputable def zfd:Ae->D
 | [.str l]=>.bl (zlb l)
 | _=>.non
theorem zk1(Z:Tx K mg ad0):FnOk P w K mg base CX0 1 ad0.Zca ad0.Zb9 zef (SpD K preS zfd):=by
 refine okD Z.Zb8.F zsf (by rintro ds ⟨c,rfl,_⟩;rfl) (By _ (A2 (zt6 (zqu zya zya zaj (zbl zhu (by rfl) Z.Zdc Zql (AV 0)) (zcz (by rfl) Z.Zcm Z.Zep)) (zrk (zbl (zrj rfl) (by rfl) Z.Ze4 boot_all (AI (znd rfl (LcOk.of (Nx:=(["text"]:Al)) (sc:=zad zfg) (N':=(["sign"]:Al)) (nt:=1) (cs:=[]) rfl rfl (by decide +kernel)) (zqd (pv 0)) (fun _ _ _ _=>(BR 0 (Zi7 (["sign"]:Al)) rfl (Zlq rfl))) (fun _ _ _ _=>zd7) (fun _ _ _ _=>(ziw ztd (pv 0) (zcz (by rfl) Z.Zd6 Z.Zf8) (by with_unfolding_all rfl))))))))) BJ)
 obtain⟨l,rfl,hl⟩:=hp
 have rt:RtD K G H Q (.bl (zlb l)):=rt
 have hz:AL l.length:=small hl
 exact zbs (ztz (znt zag.b (zw2 Aq hz).b zag.b) fun _=>zs5 (xs:=l) (g:=fun c=>AE c lets) (EvO.l (zit l (fun c=>.bl (AE c lets)) Aq (zch (by decide)) (by decide) (by rw[Zg2];omega) fun c hc=>(AD zav (yfe Aq (zau (l:=lets) (by decide +kernel) zpz).b))))) rt
theorem zn1{l:Ac}(h:za8 l):Ab (zlb l):=by
 unfold zlb
 obtain⟨h1,h2,h3⟩:=h
 rw[decide_eq_true (show(1:Int)<=(l.length:Int) by omega),decide_eq_true (show(l.length:Int)<=12 by omega)]
 simp only[Zph,Zja,decide_eq_true_eq]
 exact h3
noncomputable def preC(ds:Ae):Prop:=∃c:Nat,ds=[.str [c]]
noncomputable def zpx(c:Nat):Bool:=(! AS [c] [32] && ! AS [126] [c]) && ! AC (c:Int) 37
noncomputable def zwl:Ae->D
 | [.str [c]]=>.bl (zpx c)
 | _=>.non
theorem zse(Z:Tx K mg ad0):FnOk P w K mg base CX0 1 ad0.Zcv ad0.Zc1 zfv (SpD K preC zwl):=by
 refine okD Z.Zdk.F zrx (by rintro ds ⟨c,rfl⟩;rfl) (By _ (A2 (zt6 (zqu zod zod zak (pv 0) zak) (zrk (ziw zly (zbl zye (by rfl) Z.Zfx boot_ord (AV 0)) (zcz (by rfl) Z.Zd5 Z.Zf2) (zbh _))))) BJ)
 obtain⟨c,rfl⟩:=hp
 have rt:RtD K G H Q (.bl (zpx c)):=rt
 exact zbs (ztz (ztl (A5 [32]).b Aq (A5 [126]).b) fun _=>zzx (ev_ord Aq).b zag.b) rt
theorem ztb:∀c∈zy4,Ab (zpx c):=by decide +kernel
noncomputable def zl3(l:Ac):Bool:=(decide ((1:Int)<=(l.length:Int))&&decide ((l.length:Int)<=40))&&(AC l (zd6 [32].contains l)&&l.all fun c=>zpx c)
noncomputable def zps:Ae->D
 | [.str l]=>.bl (zl3 l)
 | _=>.non
theorem zsr(Z:Tx K mg ad0):FnOk P w K mg base CX0 2 ad0.Zcx ad0.Zc0 zfp (SpD K preS zps):=by
 have Zf0:=zse (P:=P) (w:=w) (base:=base) Z
 refine okD Z.Zdi.F zrt (by rintro ds ⟨c,rfl,_⟩;rfl) (By _ (zah (zcn (zql (zym zya zya zaj (zbl zhu (by rfl) Z.Zdc Zql (AV 0)) (zcz (by rfl) Z.Zck Z.Zes))) (A2 zow) za0)
   (A2 (zt6 (ziw zgh (pv 0) (zf2 Zie Zre Zrd zj7 (pv 0) (AI zak)) (zbh _)) (zrk (zbl (zrj rfl) (by rfl) Z.Ze4 boot_all (AI (znd rfl (LcOk.of (Nx:=(["text"]:Al)) (sc:=zad zfz) (N':=(["sign"]:Al)) (nt:=1) (cs:=[]) rfl rfl (by decide +kernel)) (zqd (pv 0)) (fun _ _ _ _=>(BR 0 (Zi7 (["sign"]:Al)) rfl (Zlq rfl))) (fun _ _ _ _=>zd7) (fun _ _ _ _=>(pcX Zf0 hr Z.Zdk (AV 0)))))))))) BJ)
 obtain⟨l,rfl,hl⟩:=hp
 have rt:RtD K G H Q (.bl (zl3 l)):=rt
 have hz:AL l.length:=small hl
 refine zan (zcg (zme (zap (znt zag.b (zw2 Aq hz).b zag.b))) (fun hb=>?_) (fun hb=>?_))
 .have e:Am (zl3 l):=by
   unfold zl3
   rw[Zuc] at hb
   rw[hb,Znd]
  rw[e] at rt
  exact zbs ydr rt
 .refine za5 ?_
  ((try dsimp only);refine AQ)
  have e:zl3 l=(AC l (zd6 [32].contains l)&&l.all fun c=>zpx c):=by
   unfold zl3
   rw[Bool.not_eq_false'] at hb
   rw[hb,Zph]
  rw[e] at rt
  exact zbs (ztz (zhc Aq (zmc Aq (A5 [32]).b hz).b) fun _=>zs5 (xs:=l) (g:=fun c=>zpx c) (EvO.l (zit l (fun c=>.bl (zpx c)) Aq (zch (by decide)) (by decide) (by rw[Zg2];omega) fun c hc=>(AD zav (zbq (pre:=preC) (res:=zwl) (zab Aj zaf) (AF c)))))) rt
theorem zt9{l:Ac}(h:znh l):Ab (zl3 l):=by
 unfold zl3
 obtain⟨h1,h2,h3,h4⟩:=h
 rw[decide_eq_true (show(1:Int)<=(l.length:Int) by omega),decide_eq_true (show(l.length:Int)<=40 by omega),decide_eq_true h3]
 simp only[Zph,Zja]
 exact fun c hc=>ztb c (h4 c hc)
noncomputable def ycx(ds:Ae):Prop:=∃a f b,ds=[.str a,.str f,.str b]
noncomputable def zzh:Ae->D
 | [.str a,.str f,.str b]=>.tup [.str (minL a b),.str f,.str (maxL a b)]
 | _=>.non
theorem zoi(Z:Tx K mg ad0):FnOk P w K mg base CX0 1 ad0.Zbd ad0.Zbe zcv (SpD K ycx zzh):=by
 refine okD Z.Zcp.F znk (by rintro ds ⟨a,f,b,rfl⟩;rfl) (By _ (A2 (zob (zaa (zbl (zv2 rfl) (by rfl) Z.Ze1 boot_min (zaa (pv 0) (AV 2))) (zaa (pv 1) (AI (zbl (zux rfl) (by rfl) Z.Ze3 boot_max (zaa (pv 0) (AV 2)))))))) BJ)
 obtain⟨a,f,b,rfl⟩:=hp
 exact zbs (zm4 (Bc (ych Aq Aq) Aj (zab (ybv Aq Aq) zaf)) (small (by simp))) rt
noncomputable abbrev Row:=Ac×Ac×Ac
noncomputable def rowL(x:Row):Ac:=x.1++32::(x.2.1++32::x.2.2)
noncomputable def zg9(x:Row):Prop:=za8 x.1/\((x.2.1∈flds/\znh x.2.2)\/(x.2.1∈prs/\za8 x.2.2/\x.1≠x.2.2))
noncomputable def yd0(x:Row)(ds:Ae):Prop:=ds=[.str (rowL x)]/\zg9 x
noncomputable def zkf(x:Row):D:=if x.2.1∈prs then .tup [.str (minL x.1 x.2.2),.str x.2.1,.str (maxL x.1 x.2.2)] else .tup [.str x.1,.str x.2.1,.str x.2.2]
theorem zvx:∀f∈flds,f∉prs:=by decide +kernel
theorem zn0:∀f∈prs,f∉flds:=by decide +kernel
theorem zml:∀f∈flds++prs,32∉f/\f.length<=6:=by decide +kernel
theorem ybw:32∉lets:=by decide +kernel
theorem zyz{f:Ac}{ls:AT}:AE (D.str f) (ls.map D.str)=AE f ls:=by
 congr 1
 rw[Zg4]
 apply propext
 exact⟨fun⟨g,hg,e⟩=>by injection e with e;rw[<- e];exact hg,fun h=>⟨f,h,rfl⟩⟩
theorem zsh(Z:Tx K mg ad0):FnOk P w K mg base CX0 3 ad0.Zc2 ad0.Zcz zfl (SpG K yd0 zkf):=by
 have Zdm:FnOk P w K mg base CX0 2 ad0.Zca ad0.Zb9 zef (SpD K preS zfd):=(zk1 Z).mono (by decide)
 have Zf4:=zsr (P:=P) (w:=w) (base:=base) Z
 have Zfo:FnOk P w K mg base CX0 2 ad0.Zbd ad0.Zbe zcv (SpD K ycx zzh):=(zoi Z).mono (by decide)
 refine okG Z.Zdn.F zku (by rintro x ds ⟨rfl,_⟩;rfl) (By _ (zah (psn 1 zku.nd (zf2 Zie Zjj Zoa ztx (pv 0) (zaa zak (AI zaj))))
   (zah (zcn (PW.pt (ybe (zat yac (zbl zc7 (by rfl) Z.Zdc Zql (AV 1)) zaj (zbh _)) (zvl (zql (zmu (pcX Zdm hr Z.Zb8 (AI (A1 (A7 _ K) (pv 1) zaj)))))))) (zai zgg) za0)
   (zah (zcn (PW.pt (zi0 (zat (show OpR _ _ (rInD K false) from zjm hr.units) (A1 (A7 _ K) (pv 1) zaj) (zcz (v:=.ref ad0.Zbk) (by rfl) Z.Zdy rfl) (by with_unfolding_all rfl)) (zjx (zmu (pcX Zf4 hr Z.Zdi (AI (A1 (A7 _ K) (pv 1) zaj))))))) (A2 (zc9 zle (by rfl) Z.Zeq boot_tuple (AV 1))) za0)
   (zah (zcn (PW.pt (zi0 (zat (show OpR _ _ (rInD K false) from zjm hr.units) (A1 (A7 _ K) (pv 1) zaj) (zcz (v:=.ref ad0.Zap) (by rfl) Z.Zc3 rfl) (by with_unfolding_all rfl)) (zi0 (zmu (pcX Zdm hr Z.Zb8 (AI (A1 (A7 _ K) (pv 1) zaj)))) (zjx (zat zly (A1 (A7 _ K) (pv 1) zaj) (A1 (A7 _ K) (pv 1) zaj) (zbh _)))))) (A2 (pcX Zfo hr Z.Zcp (zaa (A1 (A7 _ K) (pv 1) zaj) (zaa (A1 (A7 _ K) (pv 1) zaj) (AI (A1 (A7 _ K) (pv 1) zaj)))))) za0)
   (zai zgg))))) (fun G ds x hp rt=>?_))
 obtain⟨rfl,hx⟩:=hp
 obtain⟨c,f,t⟩:=x
 unfold rowL
 obtain⟨hc,hft⟩:=hx
 dsimp only at hc hft rt ⊢
 have hfm:f∈flds++prs:=by
  rcases hft with h | h
  .exact Zit _ h.1
  .exact Zho _ h.1
 obtain⟨hf32,hfl⟩:=zml f hfm
 have hc32:32∉c:=fun h=>ybw (hc.2.2 _ h)
 have htl:t.length<=40:=by
  rcases hft with h | h
  .exact h.2.2.1
  .have:=h.2.1.2.1;omega
 have hcl:=hc.2.1
 have sp:=zo3 (z:=32) (c:=t) hc32 hf32
 refine zan (zci (ds:=[.str c,.str f,.str t]) (by
  have e:[D.str c,.str f,.str t]=(za4 32 (2:Int).toNat (c++32::(f++32::t))).map D.str:=by
   rw[show(2:Int).toNat=2 from rfl,sp];rfl
  rw[e]
  exact zrz Aq (A5 [32]).b zag.b ⟨by decide,by decide⟩ (by simp[Zg2];omega)) fun p=>zc4 (i:=1) rfl ?_)
 ((try dsimp only);refine AQ)
 have callN:zfd [.str c]= .bl true:=by show D.bl (zlb c)=_;rw[zn1 hc]
 refine zan (zcg (b:=(AS (([D.str c,D.str f,D.str t].length:Nat):Int) 3 || !true)) (zvr (zap (yca (zl9 (Aj).l).b zag.b)) fun _=>zme (zul (by
  rw[<- callN]
  exact zbq (pre:=preS) (res:=zfd) (zab (zay (Aj).l zag.b rfl) zaf) (Aw c (by omega))))) (fun hb=>by simp at hb) Bp)
 refine za5 ?_
 ((try dsimp only);refine AQ)
 have inT:∀{ls:AT} {k:Addr} (h:TupK K k ls) {L0:Hp} {ss:List Sl} (hs:Ax ss 1 (A4 [.str c,.str f,.str t])),Ev K G H L0 ss (tOp (rInD K false) (tOp (rIxL K) (tVar 1) (tC (.int 1))) (tC (.ref k))) (.bl (AE f ls)):=fun {ls k} h {L0 ss} hs=>by
  rw[<- zyz]
  exact zw5 (zay (zac hs).l zag.b rfl).b (zg3 h).b rfl (D.nbs_map (fun _=>rfl) ls) (by simp[D.dep])
 rcases hft with ⟨h1,h2⟩ | ⟨h1,h2,h3⟩
 .have callT:zps [.str t]= .bl true:=by show D.bl (zl3 t)=_;rw[zt9 h2]
  refine zan (zcg (b:=(AE f flds&&true)) (zfu (zap (inT Z.Zd1 rfl)) fun _=>zul (by
   rw[<- callT]
   exact zbq (pre:=preS) (res:=zps) (zab (zay (Aj).l zag.b rfl) zaf) (Aw t (by omega)))) Bp (fun hb=>by rw[decide_eq_true h1] at hb;cases hb))
  have e:zkf (c,f,t)= .tup [.str c,.str f,.str t]:=by unfold zkf;rw[if_neg (zvx f h1)]
  rw[e] at rt
  exact zbs (zsk (Aj).l (small (by simp))) rt
 .refine zan (zcg (b:=(AE f flds&&true)) (zfu (zap (inT Z.Zd1 rfl)) fun hb=>by rw[decide_eq_false (zn0 f h1)] at hb;cases hb) (fun hb=>by rw[decide_eq_false (zn0 f h1)] at hb;cases hb) Bp)
  refine za5 ?_
  ((try dsimp only);refine AQ)
  have callN2:zfd [.str t]= .bl true:=by show D.bl (zlb t)=_;rw[zn1 h2]
  refine zan (zcg (b:=(AE f prs&&(true && ! AC c t))) (zfu (zap (inT Z.Zc5 rfl)) fun _=>zfu (zul (by
   rw[<- callN2]
   exact zbq (pre:=preS) (res:=zfd) (zab (zay (Aj).l zag.b rfl) zaf) (Aw t (by omega)))) fun _=>zap (zzo (zay (Aj).l zag.b rfl).b (zay (Aj).l zag.b rfl).b)) Bp (fun hb=>by rw[decide_eq_true h1,decide_eq_false h3] at hb;cases hb))
  have e:zkf (c,f,t)=zzh [.str c,.str f,.str t]:=by unfold zkf;rw[if_pos h1];rfl
  rw[e] at rt
  exact zbs (zbq (pre:=ycx) (res:=zzh) (Bc (zay (Aj).l zag.b rfl) (zay (Aj).l zag.b rfl) (zab (zay (Aj).l zag.b rfl) zaf)) ⟨c,f,t,rfl⟩) rt
noncomputable def S(x:Str):D:=.str x.cps.toList
noncomputable def ydy:Ae:=[S "same", S "apart"]
noncomputable def ycy:Ae:=[S "name", S "former", S "way", S "day", S "mark"]
noncomputable abbrev Fct:=Ac×Ac×Ac
noncomputable def encF(f:Fct):D:=.tup [.str f.1,.str f.2.1,.str f.2.2]
noncomputable def unF:D->Fct
 | .tup [.str a,.str b,.str c]=>(a,b,c)
 | _=>([],[],[])
theorem zdc(fs:As):(fs.map encF).map unF=fs:=by
 rw[Zin,show(unF∘encF)=id from rfl,Ztc]
theorem zig{f g:Fct}(h:encF f=encF g):f=g:=congrArg unF h
theorem zcx{fs:As}{f:Fct}:encF f∈fs.map encF↔f∈fs :=
 ⟨fun h=>by obtain⟨g,hg,e⟩:=Zg4.mp h;rw[<- zig e];exact hg,fun h=>Zls h⟩
theorem zui{fs:As}(h:fs.Nodup):(fs.map encF).Nodup:=by
 unfold Zi7 at *
 rw[Zkm]
 exact h.imp fun a e=>a (zig e)
theorem alF(fs:As):zfx (fs.map encF):=.inr (.inr ⟨.s,[.s,.s],fun d hd=>by
 obtain⟨f,_,rfl⟩:=Zg4.mp hd;exact(Aw _ rfl)⟩)
theorem hkF(fs:As):∀d∈fs.map encF,Ab (d.hk false):=by
 intro d hd;obtain⟨f,_,rfl⟩:=Zg4.mp hd;rfl
theorem nbF(f:Fct):Ab (encF f).nb:=rfl
theorem dpF(f:Fct):(encF f).dep<=1:=by show(D.deps [.str f.1,.str f.2.1,.str f.2.2])+1<=1;simp[D.deps,D.dep]
theorem zzr{ds:Ae}{fs:As}(h:∀d∈ds,d∈fs.map encF):(ds.map unF).map encF=ds:=by
 rw[Zin]
 conv=>rhs;rw[<- Ztc ds]
 exact Zow fun d hd=>by obtain⟨f,_,rfl⟩:=Zg4.mp (h d hd);rfl
noncomputable def Bk(b:As):Prop:=b.Nodup/\ze9 (b.map encF)=b.map encF
theorem zsm(ds:Ae)(h:zfx ds):ze9 (ze9 ds)=ze9 ds:=zgw h (zcl ds)
noncomputable def mkB(fs:As):As:=(ze9 (fs.map encF)).map unF
theorem zlk(fs:As):(mkB fs).map encF=ze9 (fs.map encF):=zzr fun d hd=>(zcl _).mem_iff.mp hd
theorem zdy(fs:As)(f:Fct):f∈mkB fs↔f∈fs:=by rw[<- zcx,zlk,(zcl _).mem_iff,zcx]
theorem zv7(fs:As):(mkB fs).length=fs.length:=by unfold mkB;rw[Zgn,(zcl _).length_eq,Zgn]
theorem zg2{fs:As}(h:fs.Nodup):Bk (mkB fs):=by
 refine⟨?_,?_⟩
 .have:((mkB fs).map encF).Nodup:=by rw[zlk];exact(zcl _).nodup_iff.mpr (zui h)
  unfold Zi7 at *
  rw[Zkm] at this
  exact this.imp fun a e=>a (congrArg encF e)
 .rw[zlk,zsm _ (alF fs)]
theorem Bk.ext{a b:As}(ha:Bk a)(hb:Bk b)(h:∀f,f∈a↔f∈b):a=b:=by
 have p:(a.map encF).Perm (b.map encF):=((Zlf ha.1 hb.1).mpr h).map _
 have:=zgw (alF b) p
 rw[ha.2,hb.2] at this
 have:=congrArg (Zpf unF) this
 rwa [zdc,zdc] at this
theorem zge(fs:As):ze9 (fs.map encF)=(mkB fs).map encF:=(zlk fs).symm
noncomputable def zyb(K:Zgh):Sp:=fun vs H Q _=>∃(a:Addr) (ns:List Int),vs=[Au]/\SqL K H a (ns.map V.int)/\ns.length<=63 /\ ∀H',Q (.bl true) H'
theorem znx{K:Zgh}{H:Hp}:∀ns:List Int,AB H (ns.map D.int) (ns.map V.int)
 | []=>Reps.nil
 | n::ns=>Reps.cons Rep.int (znx ns)
noncomputable def dedF(fs:As):As:=(ded (fs.map encF)).map unF
theorem zie(fs:As):(dedF fs).map encF=ded (fs.map encF):=zzr fun d hd=>zgo.mp hd
theorem zdi(fs:As)(f:Fct):f∈dedF fs↔f∈fs:=by rw[<- zcx,zie,zgo,zcx]
theorem zd8(fs:As):(dedF fs).Nodup:=by
 have:((dedF fs).map encF).Nodup:=by rw[zie];exact zfc _
 unfold Zi7 at *
 rw[Zkm] at this
 exact this.imp fun a e=>a (congrArg encF e)
noncomputable def bkD(b:As):D:=.lst (b.map encF)
theorem zjl{a b:As}(h:bkD a=bkD b):a=b:=by
 injection h with h
 have:=congrArg (Zpf unF) h
 rwa [zdc,zdc] at this
theorem zq7:∀{a b:List As},a.map bkD=b.map bkD->a=b
 | [],[],_=>rfl
 | [],_::_,h=>by simp at h
 | _::_,[],h=>by simp at h
 | x::a,y::b,h=>by
  simp only[Zhc,Zjk] at h
  rw[zjl h.1,zq7 h.2]
noncomputable def zuj(ds:Ae):Prop:=∃fs:As,ds=[bkD fs]/\fs.length<=500
noncomputable def zoo:Ae->Ae
 | [.lst b]=>(Bu (b.map unF)).map encF
 | _=>[]
theorem zj5(b:As):zoo [bkD b]=(Bu b).map encF:=by
 show(Bu ((b.map encF).map unF)).map encF=_
 rw[zdc]
theorem ya2(Z:Tx K mg ad0):FnOk P w K mg base CX0 1 ad0.Zd8 ad0.Zd7 zoe (SpO K zuj zoo):=by
 refine okO Z.Zeh.F yav (by rintro ds ⟨c,rfl,_⟩;rfl) (By _ (A2 (zbl (show zdd _ _ (zn3 P w K false) from zfy rfl) (by rfl) Z.Zcn Zsg (AI (zc9 (show zdd _ _ (zhy P w K false) from zei rfl hr.units) (by rfl) Z.Zdl Zr4 (AV 0))))) BJ)
 obtain⟨fs,rfl,hf⟩:=hp
 rw[zj5,<- zge,zie] at rt
 exact zir (zgr (ded (fs.map encF)) (zhs (Aj).l (hkF fs) (by rw[Zgn];omega)) (hkF fs) (alF fs) (zfc _) fun d=>zgo) rt
noncomputable def zke(l:Ac):Bool:=AC (zd6 [32].contains l) []||decide (Bq l.head? 35)
noncomputable def preL(ds:Ae):Prop:=∃l,ds=[.str l]/\l.length<=1000000
noncomputable def zwf:Ae->D
 | [.str l]=>.bl (zke l)
 | _=>.non
theorem zj6(Z:Tx K mg ad0):FnOk P w K mg base CX0 1 ad0.Za1 ad0.Za0 zcc (SpD K preL zwf):=by
 refine okD Z.Zbo.F zjr (by rintro ds ⟨c,rfl,_⟩;rfl) (By _ (A2 (yfy (ziw zgh (zf2 Zie Zre Zrd zj7 (pv 0) (AI zak)) zak (zbh _)) (zrk (zf2 Zie F.slot_str_startswith F.type_str_startswith (show MtR _ _ zpa from zmf) (pv 0) (AI zak))))) BJ)
 obtain⟨l,rfl,hl⟩:=hp
 have rt:RtD K G H Q (.bl (zke l)):=rt
 exact zbs (yf2 (zhc (zmc Aq (A5 [32]).b (by rw[Zg2];omega)).b (A5 []).b) fun _=>zuc Aq (A5 [35]).b) rt
noncomputable def lnAt(l:Ac)(i:Nat):Ac:=(zct 10 l).getD i []
noncomputable def zmi(l:Ac):Ac:=(Zhi (zct 10 l).length).filter fun i=>! zke (lnAt l i)
noncomputable def numD(l:Ac)(i:Nat):D:=.tup [.int ((i+1:Nat):Int),.str (lnAt l i)]
noncomputable def zw4:Ae->Ae
 | [.str l]=>(zmi l).map (numD l)
 | _=>[]
theorem zhj{z:Nat}:∀{n:Nat} {l p:Ac},p∈za4 z n l->p.length<=l.length
 | 0,l,p,h=>by rw[za4,Zg0] at h;subst h;exact Zgr _
 | n+1,l,p,h=>by
  rcases zej (z:=z) l with ⟨h1,h2⟩ | ⟨b,h1,h2,h3⟩
  .rw[za4,h1] at h
   have h:p∈[l]:=h
   rw[Zg0] at h;subst h;exact Ay
  .rw[za4,h1] at h
   have h:p∈l.takeWhile (· != z)::za4 z n b:=h
   have hl:=congrArg Zj7 h2
   rw[Zhl,Zg5] at hl
   rcases Zgp.mp h with h | h
   .subst h;omega
   .have:=zhj h;omega
theorem zol(Z:Tx K mg ad0):FnOk P w K mg base CX0 2 ad0.Zbt ad0.Zb1 zdw (SpO K preL zw4):=by
 have Zem:=zj6 (P:=P) (w:=w) (base:=base) Z
 refine okO Z.Zcq.F zhx (by rintro ds ⟨c,rfl,_⟩;rfl) (By _ (zah (psn 1 zhx.nd (zf2 Zie Zjj Zoa zlf (pv 0) (AI zak)))
   (A2 (znd rfl (LcOk.of (Nx:=(["text", "rows"]:Al)) (sc:=zad zd1) (N':=(["number", "row"]:Al)) (nt:=2) (cs:=[]) rfl rfl (by decide +kernel)) (zqq (by rfl) Z.Zcu (AV 1) zaj) (fun _ _ _ _=>(show PG _ _ (gTup K 2 _) from zkq rfl (zbd (BR 0 (Zi7 (["number", "row"]:Al)) rfl (Zlq rfl)) (zbd (BR 1 (Zi7 (["number", "row"]:Al)) rfl (Zlq rfl)) zft)))) (fun _ _ _ _=>(zk7 (zql (zmu (pcX Zem hr Z.Zbo (AV 1)))))) (fun _ _ _ _=>(zob (zaa (pv 0) (AV 1))))))) BJ)
 obtain⟨l,rfl,hl⟩:=hp
 refine zan (zci (zhp Aq (A5 [10]).b (by rw[Zg2];omega)) fun p=>zc4 (i:=1) rfl ?_)
 ((try dsimp only);refine AQ)
 have hsl:(zct 10 l).length<=l.length+2:=zfa 10 _ l
 refine zir (ds:=(zmi l).map (numD l)) ?_ rt
 have hn:((zct 10 l).map D.str).length=(zct 10 l).length:=Zgn ..
 unfold zmi
 rw[<- hn]
 refine zis (fun i=>! zke (lnAt l i)) (numD l) (ztp (ds:=(zct 10 l).map D.str) Aj) (zu5 (ze2 (zch (by decide)) (ze2 (zch (by decide)) zpi))) (by decide) (by rw[Zgn,Zg2];omega) fun i hi=>?_
 rw[Zgn] at hi
 have eg:((zct 10 l).map D.str).getD i .non= .str (lnAt l i):=by
  unfold lnAt
  rw[Zgf,Zgf,Zgy,Zgg hi];rfl
 have hm:lnAt l i∈zct 10 l:=by
  unfold lnAt
  rw[Zgf,Zgg hi];exact Zik _
 rw[eg]
 exact⟨_,zkr rfl (zbc zav (zbc zav zfe)),zme (zul (zbq (pre:=preL) (res:=zwf) (zab Aj zaf) (Aw _ (by have:=zhj hm;omega)))),fun _=>zm4 (Bc Aj Aj zaf) (small (by simp))⟩
noncomputable def yde(x:Row)(ds:Ae):Prop:=∃n:Int,ds=[.int n,.str (rowL x)]/\zg9 x
theorem zh7(Z:Tx K mg ad0):FnOk P w K mg base CX0 4 ad0.Zat ad0.Zau zb1 (SpG K yde zkf):=by
 have Zf3:=zsh (P:=P) (w:=w) (base:=base) Z
 refine okG Z.Zbj.F zh5 (by rintro x ds ⟨n,rfl,_⟩;rfl) (By _ (zai (zr7 rfl (A2 (pcX Zf3 hr Z.Zdn (AV 1))))) (fun G ds x hp rt=>?_))
 obtain⟨n,rfl,hx⟩:=hp
 exact zbs (zq9 (pre:=yd0) (res:=zkf) x (zab Aj zaf) ⟨rfl,hx⟩) rt
noncomputable abbrev Ln:=Ac×Option Row
noncomputable def LnOk(p:Ln):Prop:=10∉p.1/\p.1.length<=100/\match p.2 with
 | none=>Ab (zke p.1)
 | some x=>p.1=rowL x/\zg9 x
noncomputable def foF(x:Row):Fct:=if x.2.1∈prs then (minL x.1 x.2.2,x.2.1,maxL x.1 x.2.2) else x
theorem zvg(x:Row):zkf x=encF (foF x):=by
 unfold zkf foF
 split <;> rfl
noncomputable def zb3(ls:List Ln):As:=ls.filterMap fun p=>p.2.map foF
noncomputable def txtOf(ls:List Ln):Ac:=glue [10] (ls.map (·.1))
noncomputable def yee(ls:List Ln)(ds:Ae):Prop:=ds=[.str (txtOf ls)]/\ls≠[]/\ls.length<=400 /\ ∀p∈ls,LnOk p
noncomputable def ya5(ls:List Ln):Ae:=(Bu (zb3 ls)).map encF
theorem zx3{x:Row}(h:zg9 x):∃c t,rowL x=c::t/\c∈lets:=by
 obtain⟨⟨h1,_,h3⟩,_⟩:=h
 unfold rowL
 cases hx:x.1 with
 | nil=>rw[hx] at h1;simp at h1
 | cons c t=>exact(AM c _ (h3 c (by rw[hx];simp)))
theorem zrs{c:Nat}{t:Ac}(h:c≠32):zd6 [32].contains (c::t)≠[]:=by
 unfold zd6
 have e:(c::t).dropWhile [32].contains=c::t:=by
  rw[Zku]
  simp[h]
 rw[e]
 intro z
 have z:=List.reverse_eq_nil_iff.mp z
 have:c∈(c::t).reverse:=by simp
 have hs:∀l:Ac,l.dropWhile [32].contains=[]-> ∀x∈l,x=32:=fun l=>by
  induction l with
  | nil=>intro _ x hx;cases hx
  | cons a l ih =>
   intro hl x hx
   rw[Zku] at hl
   split at hl
   .rename_i ha
    rcases Zgp.mp hx with rfl | hx
    .simpa using ha
    .exact ih hl x hx
   .cases hl
 exact h (hs _ z c this)
theorem zxq{x:Row}(h:zg9 x):Am (zke (rowL x)):=by
 obtain⟨c,t,e,hc⟩:=zx3 h
 have hc2:c≠32/\c≠35:=(show ∀c∈lets,c≠32/\c≠35 by decide +kernel) c hc
 unfold zke
 rw[e,decide_eq_false (zrs hc2.1)]
 simp[hc2.2]
theorem zks{ls:AT}{n:Nat}(h:∀l∈ls,l.length<=n):(ls.map Zj7).sum<=n*ls.length:=by
 induction ls with
 | nil=>simp
 | cons a l ih =>
  have h1:=h a Zgz
  have h2:=ih fun x hx=>h x (Zgq _ hx)
  simp only[Zhc,Zr6,Zg5]
  rw[Zyo];omega
theorem zid(z:Ac):∀ls:AT,(glue z ls).length<=(ls.map Zj7).sum+z.length*ls.length
 | []=>by simp[glue]
 | [a]=>by simp[glue]
 | a::b::r=>by
  have:=zid z (b::r)
  simp only[glue,Zhl,Zhc,Zr6,Zg5,Zyo,Nat.mul_one] at this ⊢
  omega
theorem zts{ls:List Ln}(h:∀p∈ls,LnOk p)(hl:ls.length<=400):(txtOf ls).length<=100000:=by
 unfold txtOf
 have h1:=zid [10] (ls.map (·.1))
 have h2:=zks (ls:=ls.map (·.1)) (n:=100) (by intro l hm;obtain⟨p,hp,rfl⟩:=Zg4.mp hm;exact(h p hp).2.1)
 simp only[Zgn,Zg5,Zhz] at h1 h2
 omega
theorem zwc{ls:List Ln}(h:∀p∈ls,LnOk p)(h0:ls≠[]):zct 10 (txtOf ls)=ls.map (·.1):=by
 unfold zct txtOf
 refine zga (by simpa using h0) (by intro q hq;obtain⟨p,hp,rfl⟩:=Zg4.mp hq;exact(h p hp).1) ?_
 have:∀qs:AT,qs.length<=(glue [10] qs).length+1:=fun qs=>by
  induction qs with
  | nil=>simp
  | cons a r ih =>
   cases r with
   | nil=>simp
   | cons b r=>simp only[glue,Zhl,Zg5,Zhz] at ih ⊢;omega
 have:=this (ls.map (·.1))
 omega
theorem zm2(Z:Tx K mg ad0):FnOk P w K mg base CX0 5 ad0.Zb3 ad0.Zb4 zdq (SpGO K yee ya5):=by
 have Zgd:=ya2 (P:=P) (w:=w) (base:=base) Z
 have Zfk:=zol (P:=P) (w:=w) (base:=base) Z
 have Zed:=zh7 (P:=P) (w:=w) (base:=base) Z
 refine okGO Z.Zcr.F zno (by rintro x ds ⟨rfl,_⟩;rfl) (By _ (A2 (pcX Zgd hr Z.Zeh (AI (znd rfl (LcOk.of (Nx:=(["text"]:Al)) (sc:=zad zd3) (N':=(["number", "row"]:Al)) (nt:=2) (cs:=[]) rfl rfl (by decide +kernel)) (zda (pcX Zfk hr Z.Zcq (AV 0))) (fun _ _ _ _=>(show PG _ _ (gTup K 2 _) from zkq rfl (zbd (BR 0 (Zi7 (["number", "row"]:Al)) rfl (Zlq rfl)) (zbd (BR 1 (Zi7 (["number", "row"]:Al)) rfl (Zlq rfl)) zft)))) (fun _ _ _ _=>zd7) (fun _ _ _ _=>(pcX Zed hr Z.Zbj (zaa (pv 0) (AV 1)))))))) (fun G ds ls hp rt=>?_))
 obtain⟨rfl,h0,hl,hok⟩:=hp
 have hsp:=zwc hok h0
 have htl:=zts hok hl
 generalize txtOf ls=tx at hsp htl
 have hln:∀i (hi:i<ls.length),lnAt tx i=(ls[i]).1:=fun i hi=>by
  unfold lnAt
  rw[hsp,Zgf,Zgy,Zgg hi];rfl
 have hmem:∀i∈zmi tx,∃x:Row,lnAt tx i=rowL x/\zg9 x/\Aa (ls.getD i ([],none)).2 x:=fun i hi=>by
  unfold zmi at hi
  obtain⟨h1,h2⟩:=Zjq.mp hi
  rw[Zic,hsp,Zgn] at h1
  rw[hln i h1] at h2 ⊢
  have ho:=hok _ (Zik h1)
  rw[Zgf,Zgg h1]
  show ∃x:Row,ls[i].1=rowL x/\zg9 x/\Aa ls[i].2 x
  obtain⟨_,_,ho⟩:=ho
  cases e:ls[i].2 with
  | none =>
   rw[e] at ho
   have ho:Ab (zke ls[i].1):=ho
   rw[ho] at h2;cases h2
  | some x =>
   rw[e] at ho
   have ho:ls[i].1=rowL x/\zg9 x:=ho
   exact⟨x,ho.1,ho.2,rfl⟩
 let rw':Nat->Row:=fun i=>((ls.getD i ([],none)).2).getD ([],[],[])
 have hfs:(zmi tx).map (fun i=>foF (rw' i))=zb3 ls:=by
  have key:∀(ms:List Ln) (off:Nat),(∀p∈ms,LnOk p)->(∀j,j<ms.length->ls[off+j]? = ms[j]?)->off+ms.length=ls.length->((Zov off ms.length).filter fun i=>! zke (lnAt tx i)).map (fun i=>foF (rw' i))=zb3 ms:=by
   intro ms
   induction ms with
   | nil=>intro off _ _ _;rfl
   | cons p ms ih =>
    intro off hms hat hlen
    have h1:=ih (off+1) (fun q hq=>hms q (Zgq _ hq)) (fun j hj=>by rw[show off+1+j=off+(j+1) by omega,hat (j+1) (by simpa using hj)];rfl) (by simp at hlen ⊢;omega)
    have hp:=hms p Zgz
    have hat0:Ax ls off p:=by have:=hat 0 (by simp);simpa using this
    have hoff:off<ls.length:=(Zgo.mp hat0).1
    have e0:ls[off]=p:=by rw[Zgg hoff] at hat0;exact Zim hat0
    have el:lnAt tx off=p.1:=by rw[hln off hoff,e0]
    have er:rw' off=p.2.getD ([],[],[]):=by show((ls.getD off ([],none)).2).getD _=_;rw[Zgf,hat0];rfl
    rw[Zg5,Zqd,Zml]
    obtain⟨_,_,hp⟩:=hp
    cases e:p.2 with
    | none =>
     rw[e] at hp
     have hp:Ab (zke p.1):=hp
     rw[if_neg (by rw[el,hp];decide),h1]
     unfold zb3
     rw[Zkt,e];rfl
    | some x =>
     rw[e] at hp
     have hp:p.1=rowL x/\zg9 x:=hp
     rw[if_pos (by rw[el,hp.1,zxq hp.2];rfl),Zhc,h1,er,e]
     unfold zb3
     rw[Zkt,e];rfl
  unfold zmi
  rw[hsp,Zgn,List.range_eq_range']
  exact key ls 0 hok (fun j hj=>by rw[Zj4]) (by omega)
 have hrl:(zb3 ls).length<=400:=by
  unfold zb3
  have:=List.length_filterMap_le (fun p:Ln=>p.2.map foF) ls
  omega
 have htn:(zmi tx).length<=400:=by rw[<- hfs,Zgn] at hrl;exact hrl
 show Go _ _ _ _ _ _ _
 have rt:RtO K G H Q ((Bu (zb3 ls)).map encF):=rt
 rw[<- zj5] at rt
 refine zir (zhb (pre:=zuj) (res:=zoo) (zab (EvO.ev ?_) zaf) (Aw (zb3 ls) (by omega))) rt
 rw[<- hfs,Zin]
 refine zld (zmi tx) (numD tx) _ (EvO.l (zhb (pre:=preL) (res:=zw4) (zab Aj zaf) (Aw tx (by omega)))) (zu5 (ze2 (zch (by decide)) (ze2 (zch (by decide)) zpi))) (by decide) (by rw[Zg2];omega) fun i hi=>?_
 obtain⟨x,e1,e2,e3⟩:=hmem i hi
 refine(AD (zkr rfl (zbc zav (zbc zav zfe))) ?_)
 have er:rw' i=x:=by show((ls.getD i ([],none)).2).getD _=x;rw[e3];rfl
 show Ev _ _ _ _ _ _ (encF (foF (rw' i)))
 rw[er,<- zvg]
 refine zq9 (pre:=yde) (res:=zkf) x (Bc Aj (by rw[<- e1];exact zac rfl) zaf) (Aw _ e2)
noncomputable def rowF(x:Fct):Ac:=glue [32] [x.1,x.2.1,x.2.2]
theorem zpw(x:Fct):rowF x=rowL x:=by unfold rowF rowL;simp[glue]
noncomputable def zec(b:As):Ac:=glue [10] (b.map rowF)
noncomputable def yfg(ds:Ae):Prop:=∃b:As,ds=[bkD b]/\b.length<=200 /\ ∀x∈b,(rowF x).length<=100
noncomputable def zoq:Ae->D
 | [.lst b]=>.str (zec (b.map unF))
 | _=>.non
theorem zfi(b:As):zoq [bkD b]= .str (zec b):=by
 show D.str (zec ((b.map encF).map unF))=_
 rw[zdc]
theorem zzi(x:Fct):x.1.length+x.2.1.length+x.2.2.length<=(rowF x).length:=by
 rw[zpw];unfold rowL;simp;omega
theorem ye0{K:Zgh}{G Hz L:Hp}{ss:List Sl}{t:TE}{x:Fct}(a:Ap K G L t (encF x))(h:(rowF x).length<=100):Ap K G L (tBM K "str" (zni K) (tC (.str " ")) (zbb t tNil)) (.str (rowF x)):=by
 have:=zzi x
 exact zyi (ls:=[x.1,x.2.1,x.2.2]) (A5 [32]).b a (by decide) (by simp;omega)
theorem zv1{b:As}(h1:b.length<=200)(h2:∀x∈b,(rowF x).length<=100):((b.map rowF).map Zj7).sum+b.length*[10].length<=16777216:=by
 have:=zks (ls:=b.map rowF) (n:=100) (by intro l hm;obtain⟨p,hp,rfl⟩:=Zg4.mp hm;exact h2 p hp)
 simp only[Zgn,Zg5,Zhz] at this ⊢
 omega
theorem zm0(Z:Tx K mg ad0):FnOk P w K mg base CX0 1 ad0.Zbs ad0.Zbx zdr (SpD K yfg zoq):=by
 refine okD Z.Zct.F zmt (by rintro ds ⟨c,rfl,_⟩;rfl) (By _ (A2 (zf2 Zie Zm7 Zm6 zla zak (AI (znd rfl (LcOk.of (Nx:=(["book"]:Al)) (sc:=zad zdu) (N':=(["fact"]:Al)) (nt:=1) (cs:=[]) rfl rfl (by decide +kernel)) (zda (pv 0)) (fun _ _ _ _=>(BR 0 (Zi7 (["fact"]:Al)) rfl (Zlq rfl))) (fun _ _ _ _=>zd7) (fun _ _ _ _=>(show PE _ _ (tBM K "str" (zni K) _ _) from zf2 Zie Zm7 Zm6 (show MtR _ _ (zni K) from zx0) zak (AV 0))))))) BJ)
 obtain⟨b,rfl,hb,hr⟩:=hp
 rw[zfi] at rt
 exact zbs (zp5 (xs:=b) (g:=rowF) (A5 [10]).b (EvO.l (zld b encF (fun x=>.str (rowF x)) (Aj).l (zch (by decide)) (by decide) (by rw[Zg2];omega) fun x hx=>(AD zav (ye0 Aj (hr x hx))))) (zv1 hb hr)) rt
noncomputable def Pour(base:As)(sides:List As)(f:Fct):Prop:=(f∈base /\ ∀s∈sides,f∈s)\/(f∉base /\ ∃s∈sides,f∈s)
noncomputable def yeb(ds:Ae):Prop:=∃(base:As) (sides:List As),ds=[bkD base,.lst (sides.map bkD)]/\Bk base/\base.length<=63/\sides.flatten.length<=700 /\ ∀s∈sides,s.length<=400
noncomputable def ye4(ds:Ae)(rs:Ae):Prop:=∀base sides,ds=[bkD base,.lst (sides.map bkD)]-> ∃b,rs=b.map encF/\Bk b /\ ∀f,f∈b↔Pour base sides f
theorem zwh(ss:List As)(k:Nat):(ss.take k).flatten.length<=ss.flatten.length:=by
 conv=>rhs;rw[<- Zjb k ss,Ztf,Zhl]
 omega
theorem zlp(Z:Tx K mg ad0):FnOk P w K mg base CX0 1 ad0.Zbm ad0.Zbl zc8 (SpR K yeb ye4):=by
 refine okR Z.Zcd.F zb5 (by rintro ds ⟨c,d,rfl,_⟩;rfl) (By _ (zah (psn 2 zb5.nd (zc9 zoc (by rfl) Z.Zfb boot_list (AV 0)))
   (zah (psn 3 zb5.nd (zb2 zae))
   (zah (zek Ziw rfl (zda (pv 1)) (pgn 4 zb5.nd) (zah (psn 2 zb5.nd (zbl (show zdd _ _ (zn3 P w K false) from zfy rfl) (by rfl) Z.Zcn Zsg (AI (zax (show OpR _ _ (ziq P w K false mAnd) from yam hr.units) (zc9 (show zdd _ _ (zhy P w K false) from zei rfl hr.units) (by rfl) Z.Zdl Zr4 (AV 2)) (zc9 (show zdd _ _ (zhy P w K false) from zei rfl hr.units) (by rfl) Z.Zdl Zr4 (AV 4))))))
   (zai (psn 3 zb5.nd (zax (show OpR _ _ (zo1 K) from zmd) (pv 3) (pv 4))))))
   (A2 (zbl (show zdd _ _ (zn3 P w K false) from zfy rfl) (by rfl) Z.Zcn Zsg (AI (zax (show OpR _ _ (ziq P w K false mOr) from yc8 hr.units) (zc9 (show zdd _ _ (zhy P w K false) from zei rfl hr.units) (by rfl) Z.Zdl Zr4 (AV 2)) (zax (show OpR _ _ (ziq P w K false mSub) from ybl hr.units) (zc9 (show zdd _ _ (zhy P w K false) from zei rfl hr.units) (by rfl) Z.Zdl Zr4 (AV 3)) (zc9 (show zdd _ _ (zhy P w K false) from zei rfl hr.units) (by rfl) Z.Zdl Zr4 (AV 0)))))))))) BJ)
 obtain⟨bs,sd,rfl,hB,hbl,hsl,hs⟩:=hp
 refine zan (zci (zy8 (Aj).l) fun p=>?_)
 ((try dsimp only);refine AQ)
 refine zan (zci (zbr zaf (small (by decide))) fun p2=>?_)
 ((try dsimp only);refine AQ)
 refine zan (zky bkD sd (fun k ss=>∃(kp:As) (pk pt:Addr) (v4:Sl),ss=[.d (bkD bs),A4 (sd.map bkD),.o pk (kp.map encF),.o pt ((sd.take k).flatten.map encF),v4]/\kp.Nodup/\kp.length<=63 /\ ∀f,f∈kp↔f∈bs /\ ∀s∈sd.take k,f∈s) Aj ⟨bs,p,p2,.un,rfl,hB.1,hbl,by simp⟩ ?_ ?_)
 .rintro L' k sx ss hL hk ⟨kp,pk,pt,v4,rfl,hkn,hkl,hkm⟩
  refine(AD zav (fun N hN=>?_))
  have hsx:sx∈sd:=Zgs hk
  have hsxl:=hs sx hsx
  have ek:ze9 ((kp.filter fun f=>AE f sx).map encF)=(mkB (kp.filter fun f=>AE f sx)).map encF:=zge _
  have hfn:(kp.filter fun f=>AE f sx).Nodup:=hkn.sublist List.filter_sublist
  refine zan (zci (ds:=(mkB (kp.filter fun f=>AE f sx)).map encF) (by
   rw[<- ek]
   refine zgr (ds:=(kp.filter fun f=>AE f sx).map encF) _ (ybz (zhs (zde rfl) (hkF kp) (by rw[Zgn];omega)) (zhs (Aj).l (hkF sx) (by rw[Zgn];omega)) (hkF kp) (hkF sx) (by rw[Zgn,Zgn];omega) fun d=>?_) (hkF _) (alF _) (zui hfn) fun d=>Zvw
   constructor
   .intro hd
    obtain⟨f,hf,rfl⟩:=Zg4.mp hd
    obtain⟨h1,h2⟩:=Zjq.mp hf
    exact⟨zcx.mpr h1,zcx.mpr (of_decide_eq_true h2)⟩
   .rintro⟨h1,h2⟩
    obtain⟨f,hf,rfl⟩:=Zg4.mp h1
    exact zcx.mpr (Zjq.mpr ⟨hf,decide_eq_true (zcx.mp h2)⟩)) fun pk'=>?_)
  ((try dsimp only);refine AQ)
  have htl:(sd.take k).flatten.length<=63*12:=by
   have h1:=zwh sd k
   omega
  refine zci (ds:=((sd.take (k+1)).flatten).map encF) ?_ fun pt'=>hN _ ⟨mkB (kp.filter fun f=>AE f sx),pk',pt',.d (bkD sx),rfl,(zg2 hfn).1,?_,fun f=>?_⟩
  .have e:((sd.take (k+1)).flatten).map encF=(sd.take k).flatten.map encF++sx.map encF:=by
    rw[Zjm,hk,Ztf,Zkn];simp
   rw[e]
   exact zlg (zde rfl) (Aj).l (by rw[Zgn,Zgn,Zg2];omega)
  .rw[zv7]
   have:=Zmh (fun f=>AE f sx) kp
   omega
  .rw[zdy,Zjq,hkm,Zjm,hk]
   constructor
   .rintro⟨⟨h1,h2⟩,h3⟩
    refine⟨h1,fun s hs'=>?_⟩
    rcases Zhh.mp hs' with z | z
    .exact h2 s z
    .simp at z;rw[z];exact of_decide_eq_true h3
   .rintro⟨h1,h2⟩
    exact⟨⟨h1,fun s hs'=>h2 s (Zit _ hs')⟩,decide_eq_true (h2 sx (Zho _ (by simp)))⟩
 .rintro ss ⟨kp,pk,pt,v4,rfl,hkn,hkl,hkm⟩
  ((try dsimp only);refine AQ)
  rw[Zqc] at hkm ⊢
  have htl2:sd.flatten.length<=756:=by omega
  let fin:As:=kp++sd.flatten.filter fun f=>decide (f∉bs)
  have hfl:(sd.flatten.filter fun f=>decide (f∉bs)).length<=756:=Zi6 (Zmh ..) htl2
  refine zir (ds:=(Bu fin).map encF) ?_ (rt _ fun b2 s2 he=>?_)
  .rw[<- zge,zie]
   refine zgr (ds:=fin.map encF) _ (yes (da:=kp.map encF) (db:=(sd.flatten.filter fun f=>decide (f∉bs)).map encF) (zhs (zde rfl) (hkF kp) (by rw[Zgn];omega)) (ya7 (zhs (zde rfl) (hkF _) (by rw[Zgn];omega)) (zhs (Aj).l (hkF bs) (by rw[Zgn];omega)) (hkF _) (hkF bs) (by rw[Zgn,Zgn];omega) fun d=>?_) (hkF kp) (hkF _) (by rw[Zgn,Zgn];omega) fun d=>?_) (hkF _) (alF _) (zfc _) fun d=>zgo
   .constructor
    .intro hd
     obtain⟨f,hf,rfl⟩:=Zg4.mp hd
     obtain⟨h1,h2⟩:=Zjq.mp hf
     exact⟨zcx.mpr h1,fun h=>(of_decide_eq_true h2) (zcx.mp h)⟩
    .rintro⟨h1,h2⟩
     obtain⟨f,hf,rfl⟩:=Zg4.mp h1
     exact zcx.mpr (Zjq.mpr ⟨hf,decide_eq_true fun h=>h2 (zcx.mpr h)⟩)
   .show d∈fin.map encF↔_
    rw[Zkn,Zhh]
  .simp only[Zjk,D.lst.injEq,and_true] at he
   obtain⟨he1,he2⟩:=he
   have e1:=zjl he1
   have e2:=zq7 he2
   subst e1;subst e2
   refine⟨_,rfl,zg2 (zd8 _),fun f=>?_⟩
   rw[zdy,zdi,Zhh,hkm,Zjq,Zuu]
   unfold Pour
   constructor
   .rintro(z | ⟨⟨s,h1,h2⟩,h3⟩)
    .exact .inl z
    .exact .inr ⟨of_decide_eq_true h3,s,h1,h2⟩
   .rintro(z | ⟨h3,s,h1,h2⟩)
    .exact .inl z
    .exact .inr ⟨⟨s,h1,h2⟩,decide_eq_true h3⟩
noncomputable def preP(ds:Ae):Prop:=∃base one other:As,ds=[bkD base,bkD one,bkD other]/\Bk base/\base.length<=63/\one.length<=350/\other.length<=350
noncomputable def relP(ds:Ae)(rs:Ae):Prop:=∀base one other,ds=[bkD base,bkD one,bkD other]-> ∃b,rs=b.map encF/\Bk b /\ ∀f,f∈b↔Pour base [one,other] f
theorem zva(Z:Tx K mg ad0):FnOk P w K mg base CX0 2 ad0.Zdg ad0.Zdh zhf (SpR K preP relP):=by
 have Ze6:=zlp (P:=P) (w:=w) (base:=base) Z
 refine okR Z.Zdt.F zud (by rintro ds ⟨c,d,e,rfl,_⟩;rfl) (By _ (A2 (pcX Ze6 hr Z.Zcd (zaa (pv 0) (AI (zb2 (zaa (pv 1) (AV 2))))))) BJ)
 obtain⟨bs,one,other,rfl,hB,h1,h2,h3⟩:=hp
 refine yaq (ds:=[bkD bs,.lst ([one,other].map bkD)]) (pre:=yeb) (R:=ye4) (Bc Aj (EvO.ev (zbr (Bc Aj Aj zaf) (small (by simp)))) zaf) ⟨bs,[one,other],rfl,hB,h1,by simp;omega,by simp;omega⟩ fun rs hR=>rt rs fun b2 o2 t2 he=>?_
 simp only[Zjk,and_true] at he
 obtain⟨e1,e2,e3⟩:=he
 have e1:=zjl e1
 have e2:=zjl e2
 have e3:=zjl e3
 subst e1;subst e2;subst e3
 exact hR _ _ rfl
noncomputable def cmany(c:Int):Nat:=(1+c % 12).toNat
noncomputable def catQ(c:Int):Nat:=(c / 12 % (1+c % 12)).toNat
theorem zmq(c:Int):1<=cmany c/\cmany c<=12/\catQ c<cmany c:=by
 unfold cmany catQ
 have h0:=Zhv c (show(12:Int)≠0 by decide)
 have h1:=Zhm c (show(0:Int)<12 by decide)
 have h2:=Zhv (c / 12) (show(1+c % 12:Int)≠0 by omega)
 have h3:=Zhm (c / 12) (show(0:Int)<1+c % 12 by omega)
 omega
noncomputable def cardQ(c:Int)(k:Nat):Ac:=Zir (catQ c) 113++[97+k]++Zir (cmany c - 1 - catQ c) 113
theorem zhg(n c:Nat):(Zir n [c]).flatten=Zir n c:=by
 induction n with
 | zero=>rfl
 | succ n ih=>rw[Zmt,Zt9,ih,Zmt];rfl
theorem ze0(c:Int){k:Nat}(h:k<10):za8 (cardQ c k):=by
 have r:=zmq c
 unfold cardQ
 refine⟨by simp;omega,by simp;omega,fun x hx=>?_⟩
 have hl:∀k:Nat,k<26->97+k∈lets:=by decide +kernel
 simp only[Zhh,Zg0,Zpd] at hx
 rcases hx with (hx | rfl) | hx
 .rw[hx.2];exact hl 16 (by decide)
 .exact hl k (by omega)
 .rw[hx.2];exact hl 16 (by decide)
theorem zny(c:Int){j k:Nat}(h:cardQ c j=cardQ c k):j=k:=by
 unfold cardQ at h
 have h:=List.append_inj_left h (by simp)
 have h:=List.append_inj_right h rfl
 have:97+j=97+k:=by injection h
 omega
noncomputable def zsz(ds:Ae):Prop:=∃(c:Int) (k:Nat),ds=[.int c,.int (k:Int)]/\k<10
noncomputable def zs2:Ae->D
 | [.int c,.int k]=>.str (cardQ c k.toNat)
 | _=>.non
noncomputable def ltT:Ac:=(BA "abcdefghij")
theorem yd2:ltT=(Zhi 10).map (97 + ·):=by decide +kernel
theorem zjs(Z:Tx K mg ad0):FnOk P w K mg base CX0 1 ad0.Zbn ad0.Zbp zdm (SpD K zsz zs2):=by
 refine okD Z.Za5.F zgv (by rintro ds ⟨c,k,rfl,_⟩;rfl) (By _ (zah (psn 2 zgv.nd (zax zi9 zaj (zax zer (pv 0) zaj)))
   (zah (psn 3 zgv.nd (zax zer (zax zeb (pv 0) zaj) (pv 2)))
   (A2 (zax zaq (zax zaq (zax (show OpR _ _ zxl from zxa) zak (pv 3)) (A1 zqm zak (pv 1))) (zax (show OpR _ _ zxl from zxa) zak (zax zsv (zax zsv (pv 2) zaj) (pv 3))))))) BJ)
 obtain⟨c,k,rfl,hk⟩:=hp
 have rt:RtD K G H Q (.str (cardQ c k)):=rt
 have r:=zmq c
 have h0:=Zhv c (show(12:Int)≠0 by decide)
 have h2:=Zhv (c / 12) (show(1+c % 12:Int)≠0 by omega)
 refine zan (zco (d:=.int (cmany c:Int)) (by rw[show(cmany c:Int)=1+c % 12 by unfold cmany;omega];exact zjg zag.b (zeo Aq zag.b (by decide)).b) ?_)
 ((try dsimp only);refine AQ)
 refine zan (zco (d:=.int (catQ c:Int)) (by
  rw[show(catQ c:Int)=c / 12 % (cmany c:Int) by rw[show(cmany c:Int)=1+c % 12 by unfold cmany;omega];unfold catQ;omega]
  exact zeo (zed Aq zag.b ⟨by decide,by decide⟩).b Aq (by omega)) ?_)
 ((try dsimp only);refine AQ)
 have at10:Aa (atI ltT (k:Int)) (97+k):=zdt (by rw[yd2,Zgy,Zj8 hk];rfl)
 unfold cardQ at rt
 generalize cmany c=m at r rt
 generalize catQ c=a at r rt
 rw[<- zhg,<- zhg] at rt
 refine zbs (zbo (zbo (zwu (l:=[113]) (A5 [113]).b Aq (by decide) (by omega)).b (zp9 (l:=ltT) (zbv (by decide +kernel)).b Aq (small (by decide +kernel)) at10).b ?_).b (zwu (n:=m - 1 - a) (l:=[113]) (A5 [113]).b (Ev.b (by
  rw[show((m - 1 - a:Nat):Int)=(m:Int) - 1 - (a:Int) by omega]
  exact zus (zus Aq zag.b).b Aq)) (by decide) (by omega)).b ?_) rt
 .rw[zhg,Zjr,Zg2];simp;omega
 .rw[zhg,zhg,Zhl,Zjr,Zjr,Zg2];simp;omega
theorem zvy:∀c,c<128->Zqp (T lets) (T [c])=if 97<=c/\c<=122 then (c:Int) - 97 else -1:=by decide +kernel
noncomputable def ninL:Ac:=(BA "abcdefghi")
theorem zwe:∀c,c<128->Zqp (T ninL) (T [c])=if 97<=c/\c<=105 then (c:Int) - 97 else -1:=by decide +kernel
noncomputable def upsL:Ac:=(BA "ABCDEFGHIJKLMNOPQRSTUVWXYZ")
theorem ybs:upsL=(Zhi 26).map (65 + ·):=by decide +kernel
theorem ya4:lets=(Zhi 26).map (97 + ·):=by decide +kernel
theorem zvc(x:Int):zne x=97+(x % 26).toNat:=by
 have h0:=Zhv x (show(26:Int)≠0 by decide)
 have h1:=Zhm x (show(0:Int)<26 by decide)
 unfold zne
 rw[ya4,Zgf,Zgy,Zj8 (by omega)]
 rfl
noncomputable def zfw(c:Nat):Nat:=if 97<=c/\c<=122 then c - 32 else c
noncomputable def yb8(ds:Ae):Prop:=∃c:Nat,ds=[.str [c]]/\c<128
noncomputable def yba:Ae->D
 | [.str [c]]=>.str [zfw c]
 | _=>.non
theorem zmr(Z:Tx K mg ad0):FnOk P w K mg base CX0 1 ad0.Zby ad0.Zb2 zdv (SpD K yb8 yba):=by
 refine okD Z.Zb0.F zh1 (by rintro ds ⟨c,rfl,_⟩;rfl) (By _ (zah (psn 1 zh1.nd (zf2 Zie Zxd Zxc zua zak (AV 0)))
   (zah (zcn (zat yac (pv 1) zaj (zbh _)) (A2 (pv 0)) za0)
   (A2 (A1 zqm zak (pv 1))))) BJ)
 obtain⟨c,rfl,hc⟩:=hp
 have rt:RtD K G H Q (.str [zfw c]):=rt
 refine zan (zco (d:=.int (Zqp (T lets) (T [c]))) (ztf (l:=lets) (zbv zpz).b Aq) ?_)
 ((try dsimp only);refine AQ)
 rw[zvy c hc]
 unfold zfw at rt
 by_cases hu:97<=c/\c<=122
 .rw[if_pos hu] at rt ⊢
  refine zan (zcg (zap (yca Aq zag.b)) (fun h=>by have:=of_decide_eq_true h;omega) (fun _=>za5 ?_))
  ((try dsimp only);refine AQ)
  refine zbs (zp9 (l:=upsL) (zbv (by decide +kernel)).b Aq (small (by decide +kernel)) ?_) rt
  rw[show(c:Int) - 97=((c - 97:Nat):Int) by omega]
  exact zdt (by rw[ybs,Zgy,Zj8 (by omega)];show Aa (some (65+(c - 97))) (c - 32);congr 1;omega)
 .rw[if_neg hu] at rt ⊢
  refine zan (zcg (zap (yca Aq zag.b)) (fun _=>zbs Aj rt) (fun h=>by have:=of_decide_eq_false h;omega))
noncomputable def bases:AT:=[[97],[98,101],[99,97,98],[100,101,97,32,102,105,99]]
noncomputable def trn(s c:Nat):Nat:=if 97<=c/\c<=105 then 97+(c - 97+s) % 26 else c
noncomputable def trip(t:Ac):Ac:=t.flatMap fun c=>if c=32 then [32,32,32] else [c]
noncomputable def txW(w:Nat)(t:Ac):Ac:=match w with
 | 1=>t.map zfw
 | 2=>t++[46]
 | 3=>35::t.drop 1
 | 4=>t++[32,40,120,41]
 | 5=>trip t++[32,121]
 | 6=>zfw (t.getD 0 0)::t.drop 1
 | _=>t
noncomputable def tuN(b s:Nat):Ac:=(bases.getD b []).map (trn s)
noncomputable def txN(b s w:Nat):Ac:=txW w (tuN b s)
noncomputable def txB(t:Ac):Bool:=decide (1<=t.length)&&(decide (t.length<=15)&&(AC t (zd6 [32].contains t)&&t.all fun c=>AE c zy4))
theorem ydn{t:Ac}(h:Ab (txB t)):znh t/\t.length<=15:=by
 unfold txB at h
 simp only[Zhe,decide_eq_true_eq,Zja] at h
 obtain⟨h1,h2,h3,h4⟩:=h
 exact⟨⟨h1,by omega,h3,h4⟩,h2⟩
theorem yb1:Ab ((Zhi 4).all fun b=>(Zhi 26).all fun s=>(Zhi 8).all fun w=>txB (txN b s w)):=by decide +kernel
theorem ye2(b:Nat)(hb:b<4)(s:Nat)(hs:s<26)(w:Nat)(hw:w<8):znh (txN b s w)/\(txN b s w).length<=15:=by
 have h:=yb1
 rw[Zja] at h
 have h:=h b (Zic.mpr hb)
 rw[Zja] at h
 have h:=h s (Zic.mpr hs)
 rw[Zja] at h
 exact ydn (h w (Zic.mpr hw))
theorem yea:∀b,b<4-> ∀s,s<26->Ztp (T (tuN b s)) (T [32]) (T [32,32,32])=T (trip (tuN b s))/\(tuN b s).length<=7/\1<=(tuN b s).length/\(∀c∈tuN b s,c<128)/\(trip (tuN b s)).length<=21:=by decide +kernel
theorem ybf:∀b,b<4->(bases.getD b []).length<=7 /\ ∀c∈bases.getD b [],c<128:=by decide +kernel
noncomputable def shiftQ(sh:Int):Nat:=(sh / 144 % 26).toNat
noncomputable def yex(ds:Ae):Prop:=∃sh c:Int,ds=[.int sh,.int c]
noncomputable def yc1:Ae->D
 | [.int sh,.int c]=>.str (txN (c % 4).toNat (shiftQ sh) (c / 4 % 8).toNat)
 | _=>.non
theorem zoz(Z:Tx K mg ad0):FnOk P w K mg base CX0 2 ad0.Zcc ad0.Zch zeh (SpD K yex yc1):=by
 have Zea:=zmr (P:=P) (w:=w) (base:=base) Z
 refine okD Z.Zde.F zb4 (by rintro ds ⟨c,k,rfl⟩;rfl) (By _ (zah (psn 2 zb4.nd (A1 (A7 _ K) (zb2 (zaa zak (zaa zak (zaa zak (AI zak))))) (zax zer (pv 1) zaj)))
   (zt7 (ybb (i:=3) zb4.nd rfl (Zlq rfl))
   (zes (zek Ziw rfl (zqd (pv 2)) (pgn 4 zb4.nd) (zah (psn 5 zb4.nd (zf2 Zie Zxd Zxc zua zak (AV 4)))
   (zah (zcn (zat yf0 (pv 5) zaj (zbh _)) (zai (psn 4 zb4.nd (A1 zqm zak (zax zer (zax zi9 (pv 5) (zax zeb (pv 0) zaj)) zaj)))) za0)
   (zai (psn 3 zb4.nd (zax zaq (pv 3) (pv 4)))))))
   (zes (psn 6 zb4.nd (zax zer (zax zeb (pv 1) zaj) zaj))
   (zes (zcn (zat zgh (pv 6) zaj (zbh _)) (A2 (zf2 Zie Zm7 Zm6 zla zak (AI (znd rfl (LcOk.of (Nx:=(["_law_shape", "_law_cell", "_law_base", "_law_turned", "_law_sign", "_law_at", "_law_way"]:Al)) (sc:=zad zeg) (N':=(["_law_sign"]:Al)) (nt:=1) (cs:=[]) rfl rfl (by decide +kernel)) (zqd (pv 3)) (fun _ _ _ _=>(BR 0 (Zi7 (["_law_sign"]:Al)) rfl (Zlq rfl))) (fun _ _ _ _=>zd7) (fun _ _ _ _=>(pcX Zea hr Z.Zb0 (AV 0))))))) za0)
   (zes (zcn (zat zgh (pv 6) zaj (zbh _)) (A2 (zax zaq (pv 3) zak)) za0)
   (zes (zcn (zat zgh (pv 6) zaj (zbh _)) (A2 (zax zaq zak (zea zzt (pv 3) (ze7 zaj) zgt))) za0)
   (zes (zcn (zat zgh (pv 6) zaj (zbh _)) (A2 (zax zaq (pv 3) zak)) za0)
   (zvf (yfl (zat zgh (pv 6) zaj (zbh _)) (zx2 (yay (ycd zaq (zy5 (pv 3) (by decide +kernel) (by decide +kernel)) zak))) za0)
   (zah (zcn (zat zgh (pv 6) zaj (zbh _)) (A2 (zax zaq (pcX Zea hr Z.Zb0 (AI (A1 zqm (pv 3) zaj))) (zea zzt (pv 3) (ze7 zaj) zgt))) za0)
   (A2 (pv 3)))))))))))) BJ)
 obtain⟨sh,c,rfl⟩:=hp
 have rt:RtD K G H Q (.str (txN (c % 4).toNat (shiftQ sh) (c / 4 % 8).toNat)):=rt
 have h0:=Zhv c (show(4:Int)≠0 by decide)
 have h1:=Zhm c (show(0:Int)<4 by decide)
 have h2:=Zhv (c / 4) (show(8:Int)≠0 by decide)
 have h3:=Zhm (c / 4) (show(0:Int)<8 by decide)
 have hs:shiftQ sh<26:=by
  have:=Zhv (sh / 144) (show(26:Int)≠0 by decide)
  have:=Zhm (sh / 144) (show(0:Int)<26 by decide)
  unfold shiftQ;omega
 have hb4:(c % 4).toNat<4:=by omega
 have hbo:=ybf _ hb4
 have hto:=yea _ hb4 _ hs
 have hat:=zma (bases.map D.str) .non c (n:=4) rfl (by decide)
 have e0:(bases.map D.str).getD (c % 4).toNat .non= .str (bases.getD (c % 4).toNat []):=by
  rw[Zgf,Zgf,Zgy,Zgg (show(c % 4).toNat<bases.length by show _<4;omega)]
  rfl
 rw[e0] at hat
 unfold txN at rt
 have hlet:∀ch:Nat,97<=ch->zne ((ch:Int) - 97+sh / 144)=97+(ch - 97+shiftQ sh) % 26:=fun ch h=>by
  rw[zvc]
  unfold shiftQ
  omega
 unfold tuN at rt hto
 generalize bases.getD (c % 4).toNat []=b at hat hbo hto rt
 generalize shiftQ sh=s0 at hs hto rt hlet
 refine zan (zco (d:=.str b) (zay (ds:=bases.map D.str) (EvO.l (zbr (Bc BH BH (Bc BH BH zaf)) (small (by decide)))) (zeo Aq zag.b (by decide)).b hat) ?_)
 ((try dsimp only);refine AQ)
 refine zan (zco (d:=.str []) (A5 []) ?_)
 ((try dsimp only);refine AQ)
 refine zan (zu0 b (fun k ss=>∃v4 v5:Sl,ss=[.d (.int sh),.d (.int c),.d (.str b),.d (.str ((b.take k).map (trn s0))),v4,v5,.un]) Aq ⟨.un,.un,rfl⟩ ?_ ?_)
 .rintro k ch ss hk ⟨v4,v5,rfl⟩
  refine(AD zav (fun N hN=>?_))
  have hkl:=(Zgo.mp hk).1
  have hch:=hbo.2 ch (Zgs hk)
  have et:(b.take (k+1)).map (trn s0)=(b.take k).map (trn s0)++[trn s0 ch]:=by rw[Zjm,hk,Zkn];rfl
  refine zan (zco (d:=.int (Zqp (T ninL) (T [ch]))) (ztf (l:=ninL) (zbv (by decide +kernel)).b Aq) ?_)
  ((try dsimp only);refine AQ)
  rw[zwe ch hch]
  refine zwa (fun ss=>∃v5:Sl,ss=[.d (.int sh),.d (.int c),.d (.str b),.d (.str ((b.take k).map (trn s0))),.d (.str [trn s0 ch]),v5,.un]) (fun N2 hN2=>zcg (zap (yf5 Aq zag.b)) Bi Bi) ?_
  .by_cases hu:97<=ch/\ch<=105
   .rw[if_pos hu]
    have e:trn s0 ch=zne ((ch:Int) - 97+sh / 144):=by unfold trn;rw[if_pos hu,hlet ch hu.1]
    rw[e] at hN2
    exact zco (zp9 (l:=lets) (zbv zpz).b (zeo (zjg Aq (zed Aq zag.b ⟨by decide,by decide⟩).b).b zag.b (by decide)).b (small (by rw[zq4];decide)) (ycj _)) (hN2 _ (AF _))
   .rw[if_neg hu] at h
    cases of_decide_eq_true h
  .by_cases hu:97<=ch/\ch<=105
   .rw[if_pos hu] at h
    have:=of_decide_eq_false h;omega
   .have e:trn s0 ch=ch:=by unfold trn;rw[if_neg hu]
    rw[e] at hN2
    exact za5 (hN2 _ (AF _))
  rintro ss ⟨v5,rfl⟩
  refine zco (d:=.str ((b.take (k+1)).map (trn s0))) (by rw[et];exact zbo (zac rfl).b (zac rfl).b (by rw[Zgn,Zmk,Zg2];simp;omega)) (hN _ (AD _ rfl))
 rintro ss ⟨v4,v5,rfl⟩
 rw[Zqc]
 generalize b.map (trn s0)=t at hto rt
 ((try dsimp only);refine AQ)
 obtain⟨hrp,tl,tl1,tlt,trl⟩:=hto
 have tz:AL t.length:=by rw[Zg2];omega
 refine zan (zco (d:=.int (c / 4 % 8)) (zeo (zed Aq zag.b ⟨by decide,by decide⟩).b zag.b (by decide)) ?_)
 ((try dsimp only);refine AQ)
 generalize c / 4 % 8=wy at h2 h3 rt
 have c1:cutL t (some 1) none=t.drop 1:=zsx _ (by decide)
 refine zan (zcg (zap (zhv Aq zag.b)) Bi (fun h1=>za5 ?_))
 .have hw:wy=1:=of_decide_eq_true h
  subst hw
  have rt:RtD K G H Q (.str (t.map zfw)):=rt
  rw[<- zxf] at rt
  exact zbs (zp5 (xs:=t) (z:=[]) (g:=fun c=>[zfw c]) (A5 []).b (EvO.l (zit t (fun c=>.str [zfw c]) Aq (zch (by decide)) (by decide) (by rw[Zg2];omega) fun ch hch=>(AD zav (zbq (pre:=yb8) (res:=yba) (ds:=[.str [ch]]) (zab Aj zaf) (Aw ch (tlt ch hch)))))) (by
   rw[Zin,show(Zj7∘fun c=>[zfw c])=fun _=>1 from rfl,List.map_const',List.sum_replicate_nat];simp;omega)) rt
 ((try dsimp only);refine AQ)
 refine zan (zcg (zap (zhv Aq zag.b)) Bi (fun h2'=>za5 ?_))
 .have hw:wy=2:=of_decide_eq_true h
  subst hw
  exact zbs (zbo (m:=[46]) Aq (A5 [46]).b (by rw[Zg2];simp;omega)) rt
 ((try dsimp only);refine AQ)
 refine zan (zcg (zap (zhv Aq zag.b)) Bi (fun h3'=>za5 ?_))
 .have hw:wy=3:=of_decide_eq_true h
  subst hw
  have rt:RtD K G H Q (.str ([35]++t.drop 1)):=rt
  rw[<- c1] at rt
  exact zbs (zbo (l:=[35]) (A5 [35]).b (zz5 Aq (zdl zag.b) zje tz).b (by rw[c1,Zlo,Zg2];simp;omega)) rt
 ((try dsimp only);refine AQ)
 refine zan (zcg (zap (zhv Aq zag.b)) Bi (fun h4'=>za5 ?_))
 .have hw:wy=4:=of_decide_eq_true h
  subst hw
  exact zbs (zbo (m:=[32,40,120,41]) Aq (A5 [32,40,120,41]).b (by rw[Zg2];simp;omega)) rt
 ((try dsimp only);refine AQ)
 refine zan (zcg (zap (zhv Aq zag.b)) Bi (fun h5'=>za5 ?_))
 .have hw:wy=5:=of_decide_eq_true h
  subst hw
  have hlt:∀c∈trip t,c<128:=fun x hx=>by
   unfold trip at hx
   obtain⟨y,hy,hx⟩:=List.mem_flatMap.mp hx
   have:=tlt y hy
   split at hx
   .simp only[Zgp,Zhf,or_false] at hx;omega
   .rw[Zg0.mp hx];exact this
  exact zbs (zbo (l:=trip t) (m:=[32,121]) (zzc (m:=trip t) Aq (by omega) (by rw[show(" " : Str)=T [32] by decide +kernel,show("   " : Str)=T [32,32,32] by decide +kernel];exact hrp) hlt).b (A5 [32,121]).b (by rw[Zg2];simp;omega)) rt
 ((try dsimp only);refine AQ)
 refine zan (zcg (zap (zhv Aq zag.b)) Bi (fun h6'=>za5 ?_))
 .have hw:wy=6:=of_decide_eq_true h
  subst hw
  have rt:RtD K G H Q (.str ([zfw (t.getD 0 0)]++t.drop 1)):=rt
  rw[<- c1] at rt
  have a0:Aa (atI t 0) (t.getD 0 0):=zdt (j:=0) (by rw[Zgg (by omega),Zgf,Zgg (by omega)];rfl)
  have l0:t.getD 0 0<128:=tlt _ (by rw[Zgf,Zgg (by omega)];exact Zik _)
  generalize t.getD 0 0=ch at a0 l0 rt
  exact zbs (zbo (l:=[zfw ch]) (zbq (pre:=yb8) (res:=yba) (ds:=[.str [ch]]) (zab (zp9 Aq zag.b tz a0) zaf) (Aw ch l0)).b (zz5 Aq (zdl zag.b) zje tz).b (by rw[c1,Zlo,Zg2];simp;omega)) rt
 ((try dsimp only);refine AQ)
 have hw:wy=0\/wy=7:=by
  have:=of_decide_eq_false h1;have:=of_decide_eq_false h2';have:=of_decide_eq_false h3';have:=of_decide_eq_false h4';have:=of_decide_eq_false h5';have:=of_decide_eq_false h6'
  omega
 rcases hw with rfl | rfl <;> exact zbs Aj rt
theorem md2{x m:Int}(h0:0<=x)(hm:0<m)(h1:x<2*m):(x<m/\x % m=x)\/(m<=x/\x % m=x - m):=by
 have e:=Int.mul_ediv_add_emod x m
 have a:=Zhv x (show m≠0 by omega)
 have b:=Zhm x hm
 have q0:0<=x / m:=Int.ediv_nonneg h0 (by omega)
 have q1:x / m<2:=Int.ediv_lt_of_lt_mul hm h1
 rcases(by omega:x / m=0\/x / m=1) with q | q <;> rw[q] at e
 .exact .inl ⟨by omega,by omega⟩
 .exact .inr ⟨by omega,by omega⟩
theorem ye8(r x y:Ac){a b:Nat}(h:a<b):r++a::x<r++b::y:=by
 induction r with
 | nil=>exact Zjs.mpr (.inl h)
 | cons c r ih=>exact Zjs.mpr (.inr ⟨rfl,ih⟩)
theorem zyd(c:Int){j k:Nat}(h:j<k):cardQ c j<cardQ c k:=by
 unfold cardQ
 rw[Zis,Zis]
 exact ye8 _ _ _ (by omega)
theorem zto(c:Int){j k:Nat}(h:j<k):minL (cardQ c j) (cardQ c k)=cardQ c j/\maxL (cardQ c j) (cardQ c k)=cardQ c k:=by
 have l:=zyd c h
 have n:¬ cardQ c k<cardQ c j:=fun z=>Zrp _ (Zv9 l z)
 unfold minL maxL
 exact⟨if_neg n,if_pos l⟩
noncomputable def fwL:AT:=[(BA "name"),(BA "former"),(BA "way"),(BA "day"),(BA "mark"),(BA "name")]
noncomputable def pwQ:AT:=[(BA "same"),(BA "apart")]
noncomputable def txtQ(sh c:Int):Ac:=txN (c % 4).toNat (shiftQ sh) (c / 4 % 8).toNat
noncomputable def jQ(m c:Int):Int:=(c % m+1+c / 80 % (m - 1)) % m
noncomputable def zg5(sh m c:Int):Fct :=
 if 5<c / 10 % 8/\1<m then (cardQ sh (min (c % m) (jQ m c)).toNat,pwQ.getD (c / 800 % 2).toNat [],cardQ sh (max (c % m) (jQ m c)).toNat)
 else (cardQ sh (c % m).toNat,fwL.getD (c / 10 % 8 % 6).toNat [],txtQ sh (c / 80))
theorem yap(sh c:Int):znh (txtQ sh c)/\(txtQ sh c).length<=15:=by
 have:=Zhv c (show(4:Int)≠0 by decide)
 have:=Zhm c (show(0:Int)<4 by decide)
 have:=Zhv (c / 4) (show(8:Int)≠0 by decide)
 have:=Zhm (c / 4) (show(0:Int)<8 by decide)
 have:=Zhv (sh / 144) (show(26:Int)≠0 by decide)
 have:=Zhm (sh / 144) (show(0:Int)<26 by decide)
 exact ye2 _ (by omega) _ (by unfold shiftQ;omega) _ (by omega)
theorem zzv{m c:Int}(hm:1<m):0<=c % m/\c % m<m/\0<=jQ m c/\jQ m c<m/\jQ m c≠c % m:=by
 have a:=Zhv c (show m≠0 by omega)
 have b:=Zhm c (show 0<m by omega)
 have d:=Zhv (c / 80) (show m - 1≠0 by omega)
 have e:=Zhm (c / 80) (show 0<m - 1 by omega)
 have f:=md2 (x:=c % m+1+c / 80 % (m - 1)) (m:=m) (by omega) (by omega) (by omega)
 unfold jQ
 omega
theorem zx9(sh:Int){m c:Int}(h1:1<=m)(h6:m<=6):zg9 (zg5 sh m c)/\foF (zg5 sh m c)=zg5 sh m c/\(zg5 sh m c).2.2.length<=15:=by
 have hp:∀w∈pwQ,w∈prs:=by decide +kernel
 have hf:∀w∈fwL,w∈flds:=by decide +kernel
 have hn:∀w∈flds,w∉prs:=by decide +kernel
 unfold zg5
 split
 .rename_i h
  have r:=zzv (c:=c) h.2
  have hpw:pwQ.getD (c / 800 % 2).toNat []∈prs:=by
   have:=Zhv (c / 800) (show(2:Int)≠0 by decide)
   have:=Zhm (c / 800) (show(0:Int)<2 by decide)
   refine hp _ ?_
   rw[Zgf,Zgg (by show _<2;omega)]
   exact Zik _
  generalize pwQ.getD (c / 800 % 2).toNat []=pw at hpw
  have lt:(min (c % m) (jQ m c)).toNat<(max (c % m) (jQ m c)).toNat:=by omega
  have ok1:=ze0 sh (k:=(min (c % m) (jQ m c)).toNat) (by omega)
  have ok2:=ze0 sh (k:=(max (c % m) (jQ m c)).toNat) (by omega)
  have mm:=zto sh lt
  have ne:cardQ sh (min (c % m) (jQ m c)).toNat≠cardQ sh (max (c % m) (jQ m c)).toNat:=fun z=>by have:=zny sh z;omega
  refine⟨⟨ok1,.inr ⟨hpw,ok2,ne⟩⟩,?_,by have:=ok2.2.1;show(cardQ sh _).length<=15;omega⟩
  unfold foF
  rw[if_pos hpw]
  show(minL _ _,_,maxL _ _)=_
  rw[mm.1,mm.2]
 .have hfw:fwL.getD (c / 10 % 8 % 6).toNat []∈flds:=by
   have:=Zhv (c / 10 % 8) (show(6:Int)≠0 by decide)
   have:=Zhm (c / 10 % 8) (show(0:Int)<6 by decide)
   refine hf _ ?_
   rw[Zgf,Zgg (by show _<6;omega)]
   exact Zik _
  have a:=Zhv c (show m≠0 by omega)
  have b:=Zhm c (show 0<m by omega)
  have t:=yap sh (c / 80)
  exact⟨(Bo (ze0 sh (by omega)) ⟨hfw,t.1⟩),if_neg (hn _ hfw),t.2⟩
noncomputable def yfk(ds:Ae):Prop:=∃sh m c:Int,ds=[.int sh,.int m,.int c]/\1<=m/\m<=6
noncomputable def yc7:Ae->D
 | [.int sh,.int m,.int c]=>encF (zg5 sh m c)
 | _=>.non
theorem zpo(Z:Tx K mg ad0):FnOk P w K mg base CX0 3 ad0.Zcg ad0.Zce zee (SpD K yfk yc7):=by
 have Zcj:FnOk P w K mg base CX0 2 ad0.Zbn ad0.Zbp zdm (SpD K zsz zs2):=(zjs Z).mono (by decide)
 have Zfv:=zoz (P:=P) (w:=w) (base:=base) Z
 refine okD Z.Zc9.F zcy (by rintro ds ⟨c,k,d,rfl,_⟩;rfl) (By _ (zah (psn 3 zcy.nd (zax zer (pv 2) (pv 1)))
   (zah (psn 4 zcy.nd (zax zer (zax zeb (pv 2) zaj) zaj))
   (zah (zcn (PW.pt (zi0 (zat yc3 (pv 4) zaj (zbh _)) (zjx (zat yc3 (pv 1) zaj (zbh _))))) (zah (psn 5 zcy.nd (zax zer (zax zi9 (zax zi9 (pv 3) zaj) (zax zer (zax zeb (pv 2) zaj) (zax zsv (pv 1) zaj))) (pv 1)))
   (zah (psn 6 zcy.nd (A1 (A7 _ K) (zb2 (zaa zak (AI zak))) (zax zer (zax zeb (pv 2) zaj) zaj)))
   (A2 (zob (zaa (pcX Zcj hr Z.Za5 (zaa (pv 0) (AI (zbl (zvb rfl) (by rfl) Z.Ze1 boot_min (zaa (pv 3) (AV 5)))))) (zaa (pv 6) (AI (pcX Zcj hr Z.Za5 (zaa (pv 0) (AI (zbl (zs9 rfl) (by rfl) Z.Ze3 boot_max (zaa (pv 3) (AV 5))))))))))))) za0)
   (zah (psn 6 zcy.nd (A1 (A7 _ K) (zb2 (zaa zak (zaa zak (zaa zak (zaa zak (zaa zak (AI zak))))))) (zax zer (pv 4) zaj)))
   (A2 (zob (zaa (pcX Zcj hr Z.Za5 (zaa (pv 0) (AV 3))) (zaa (pv 6) (AI (pcX Zfv hr Z.Zde (zaa (pv 0) (AI (zax zeb (pv 2) zaj))))))))))))) BJ)
 obtain⟨sh,m,c,rfl,h1,h6⟩:=hp
 have rt:RtD K G H Q (encF (zg5 sh m c)):=rt
 have a:=Zhv c (show m≠0 by omega)
 have b:=Zhm c (show 0<m by omega)
 have card:∀{X0:XK} {L0:Hp} {ss:List Sl} {t0 t1:TE} {i:Int},Ev K G H L0 ss t0 (.int sh)->Ev K G H L0 ss t1 (.int i)->0<=i->i<10->Ev K G H L0 ss (zka (SpD K zsz zs2) [] X0 (zbb t0 (zbb t1 tNil))) (.str (cardQ sh i.toNat)):=fun {X0 L0 ss t0 t1 i} e0 e1 g0 g1 =>
  zbq (pre:=zsz) (res:=zs2) (ds:=[.int sh,.int i]) (Bc e0 e1 zaf) ⟨sh,i.toNat,by rw[show((i.toNat:Nat):Int)=i by omega],by omega⟩
 refine zan (zco (zeo Aq Aq (by omega)) ?_)
 ((try dsimp only);refine AQ)
 refine zan (zco (zeo (zed Aq zag.b ⟨by decide,by decide⟩).b zag.b (by decide)) ?_)
 ((try dsimp only);refine AQ)
 refine zan (zcg (b:=AS 5 (c / 10 % 8)&&AS 1 m) (zfu (zap (ydw Aq zag.b)) fun _=>zap (ydw Aq zag.b)) (fun hb=>?_) (fun hb=>za5 ?_))
 .rw[Zhe,decide_eq_true_eq,decide_eq_true_eq] at hb
  have r:=zzv (c:=c) hb.2
  unfold zg5 at rt
  rw[if_pos hb,show min (c % m) (jQ m c)=if jQ m c<c % m then jQ m c else c % m by split <;> omega,show max (c % m) (jQ m c)=if jQ m c>c % m then jQ m c else c % m by split <;> omega] at rt
  refine zan (zco (d:=.int (jQ m c)) (zeo (zjg (zjg Aq zag.b).b (zeo (zed Aq zag.b ⟨by decide,by decide⟩).b (zus Aq zag.b).b (by omega)).b).b Aq (by omega)) ?_)
  ((try dsimp only);refine AQ)
  have hat:=zma (pwQ.map D.str) .non (c / 800) (n:=2) rfl (by decide)
  have e0:(pwQ.map D.str).getD (c / 800 % 2).toNat .non= .str (pwQ.getD (c / 800 % 2).toNat []):=by
   have:=Zhv (c / 800) (show(2:Int)≠0 by decide)
   have:=Zhm (c / 800) (show(0:Int)<2 by decide)
   rw[Zgf,Zgf,Zgy,Zgg (show(c / 800 % 2).toNat<pwQ.length by show _<2;omega)]
   rfl
  rw[e0] at hat
  refine zan (zco (d:=.str (pwQ.getD (c / 800 % 2).toNat [])) (zay (ds:=pwQ.map D.str) (EvO.l (zbr (Bc BH BH zaf) (small (by decide)))) (zeo (zed Aq zag.b ⟨by decide,by decide⟩).b zag.b (by decide)).b hat) ?_)
  ((try dsimp only);refine AQ)
  exact zbs (zm4 (Bc (card (i:=if jQ m c<c % m then jQ m c else c % m) Aj (ya1 Aq Aq) (by split <;> omega) (by split <;> omega)) Aj (zab (card (i:=if jQ m c>c % m then jQ m c else c % m) Aj (ybo Aq Aq) (by split <;> omega) (by split <;> omega)) zaf)) (small (by simp))) rt
 ((try dsimp only);refine AQ)
 have hb':¬ (5<c / 10 % 8/\1<m):=by
  rintro⟨p,q⟩
  rw[decide_eq_true p,decide_eq_true q] at hb;cases hb
 unfold zg5 at rt
 rw[if_neg hb'] at rt
 have hat:=zma (fwL.map D.str) .non (c / 10 % 8) (n:=6) rfl (by decide)
 have e0:(fwL.map D.str).getD (c / 10 % 8 % 6).toNat .non= .str (fwL.getD (c / 10 % 8 % 6).toNat []):=by
  have:=Zhv (c / 10 % 8) (show(6:Int)≠0 by decide)
  have:=Zhm (c / 10 % 8) (show(0:Int)<6 by decide)
  rw[Zgf,Zgf,Zgy,Zgg (show(c / 10 % 8 % 6).toNat<fwL.length by show _<6;omega)]
  rfl
 rw[e0] at hat
 refine zan (zco (d:=.str (fwL.getD (c / 10 % 8 % 6).toNat [])) (zay (ds:=fwL.map D.str) (EvO.l (zbr (Bc BH BH (Bc BH BH (Bc BH BH zaf))) (small (by decide)))) (zeo Aq zag.b (by decide)).b hat) ?_)
 ((try dsimp only);refine AQ)
 exact zbs (zm4 (Bc (card Aj Aj (by omega) (by omega)) Aj (zab (zbq (pre:=yex) (res:=yc1) (ds:=[.int sh,.int (c / 80)]) (Bc Aj (zed Aq zag.b ⟨by decide,by decide⟩) zaf) (AD _ rfl)) zaf)) (small (by simp))) rt
theorem leF{x y:Fct}(h1:Ab ((encF x).leB (encF y)))(h2:Ab ((encF y).leB (encF x))):x=y:=by
 have h:=zuq (alF [x,y]) (a:=encF x) (b:=encF y) (by simp) (by simp) (Zuv (of_decide_eq_true h1) (of_decide_eq_true h2))
 exact zig h
structure Adj(xs:List Fct)(k:Nat)(acc:List Fct):Prop where
 sub:acc.Sublist (xs.take k)
 mem:∀x∈xs.take k,x∈acc
 nd:acc.Nodup
 last:acc.getLast? = (xs.take k).getLast?
section
variable{xs acc:List Fct}{k:Nat}{x:Fct}
theorem take_last?(hk:Ax xs k x):Bq (xs.take (k+1)).getLast? x:=by
 rw[Zjm,hk];simp
theorem Adj.new(h:Adj xs k acc)(hs:(xs.map encF).Pairwise fun a b=>Ab (a.leB b))(hk:Ax xs k x)(hn:acc.getLast? ≠ some x):Adj xs (k+1) (acc++[x]):=by
 have e:xs.take (k+1)=xs.take k++[x]:=by rw[Zjm,hk];rfl
 have hx:x∉acc:=fun hx=>by
  have h1:=h.sub.mem hx
  rw[h.last] at hn
  have ne:xs.take k≠[]:=fun z=>by rw[z] at h1;cases h1
  rw[Zjy ne] at hn
  have hp:=hs.sublist ((Zpq (k+1) xs).map encF)
  rw[Zkm,e,Zlh] at hp
  have l1:=hp.2.2 _ (List.getLast_mem ne) x (by simp)
  have l2:Ab ((encF x).leB (encF ((xs.take k).getLast ne)))\/x=(xs.take k).getLast ne:=by
   have hq:=hp.1
   rw[<- List.dropLast_concat_getLast ne] at hq h1
   rcases Zhh.mp h1 with z | z
   .exact .inl ((Zlh.mp hq).2.2 x z _ (by simp))
   .exact .inr (Zg0.mp z)
  rcases l2 with l2 | l2
  .exact hn (by rw[leF l2 l1])
  .exact hn (by rw[<- l2])
 refine⟨by rw[e];exact h.sub.append (Zn9 _),fun y hy=>?_,?_,by rw[take_last? hk];simp⟩
 .rw[e] at hy
  rcases Zhh.mp hy with z | z
  .exact Zit _ (h.mem y z)
  .exact Zho _ z
 .rw[List.nodup_append]
  exact⟨h.nd,by simp,fun a ha b hb z=>by rw[Zg0.mp hb] at z;rw[z] at ha;exact hx ha⟩
theorem Adj.old(h:Adj xs k acc)(hk:Ax xs k x)(hn:Bq acc.getLast? x):Adj xs (k+1) acc:=by
 have e:xs.take (k+1)=xs.take k++[x]:=by rw[Zjm,hk];rfl
 refine⟨by rw[e];exact h.sub.trans (List.sublist_append_left _ _),fun y hy=>?_,h.nd,by rw[take_last? hk];exact hn⟩
 rw[e] at hy
 rcases Zhh.mp hy with z | z
 .exact h.mem y z
 .rw[Zg0.mp z];exact List.mem_of_getLast? hn
end
theorem Adj.fin{fs acc:As}(h:Adj (mkB fs) (mkB fs).length acc):acc=Bu fs:=by
 obtain⟨h1,h2,h3,_⟩:=h
 rw[Zqc] at h1 h2
 have hs:(acc.map encF).Pairwise fun a b=>Ab (a.leB b):=by
  have:=zd5 (fs.map encF)
  rw[zge] at this
  exact this.sublist (h1.map encF)
 refine Bk.ext ⟨h3,(zio (alF acc) (Zth _) hs).symm⟩ (zg2 (zd8 _)) fun f=>?_
 rw[zdy,zdi,<- zdy fs f]
 exact⟨fun z=>h1.mem z,fun z=>h2 f z⟩
noncomputable def yax(ds:Ae):Prop:=∃fs:As,ds=[bkD fs]/\fs.length<=400
noncomputable def zyp:Ae->Ae
 | [.lst b]=>(Bu (b.map unF)).map encF
 | _=>[]
theorem zji(b:As):zyp [bkD b]=(Bu b).map encF:=by
 show(Bu ((b.map encF).map unF)).map encF=_
 rw[zdc]
theorem zjt(Z:Tx K mg ad0):FnOk P w K mg base CX0 1 ad0.Zci ad0.Zcf zeq (SpO K yax zyp):=by
 refine okO Z.Zcb.F zgy (by rintro ds ⟨c,rfl,_⟩;rfl) (By _ (zah (psn 1 zgy.nd (zb2 zae))
   (zah (zek Ziw rfl (zda (zbl (show zdd _ _ (zu3 K) from zp4) (by rfl) Z.Zcn Zsg (AV 0))) (pgn 2 zgy.nd) (zai (zcn (PW.pt (ybe (zat zgh (zbl zc7 (by rfl) Z.Zdc Zql (AV 1)) zaj (zbh _)) (zvl (zat (show OpR _ _ (rNeD K) from yc6 hr.units) (A1 (A7 _ K) (pv 1) (yfp ydf zaj)) (pv 2) (zbh _))))) (zai (zlt (zf2 Zvy Zp1 Zvc zix (pv 1) (AV 2)))) za0)))
   (A2 (pv 1)))) BJ)
 obtain⟨fs,rfl,hl⟩:=hp
 rw[zji] at rt
 have hs:=zd5 (fs.map encF)
 rw[zge] at hs
 have hml:=zv7 fs
 refine zan (zci (zbr zaf (small (by decide))) fun p=>?_)
 ((try dsimp only);refine AQ)
 refine zan (zky encF (mkB fs) (fun k ss=>∃(acc:As) (v2:Sl),ss=[.d (bkD fs),.o p (acc.map encF),v2]/\Adj (mkB fs) k acc) (EvO.ev (by rw[<- zge];exact zr8 (zac rfl).l (alF fs))) (AM [] .un ⟨by simp,(by intro x hx;cases hx),Zlm,rfl⟩) ?_ ?_)
 .rintro L' k x ss hL hk ⟨acc,v2,rfl,ha⟩
  refine(AD zav (fun N hN=>?_))
  have hal:acc.length<=400:=by have:=ha.sub.length_le;rw[Zmk] at this;omega
  have hlm:((acc.map encF).length:Int)=acc.length:=by simp
  let lastF:Fct:=acc.getLastD ([],[],[])
  refine zcg (b:=AC (acc.length:Int) 0 || ! AC (encF lastF) (encF x)) (zvr (zap (zhv (Ev.b (by rw[<- hlm];exact zl9 (zde rfl))) zag.b)) fun hb=>?_) (fun hb=>?_) (fun hb=>?_)
  .have h0:acc≠[]:=fun z=>by rw[z] at hb;simp at hb
   have hat:Aa (atI (acc.map encF) (-1)) (encF lastF):=by
    have hlp:=Ztd.mpr h0
    unfold atI ixN
    rw[Zgn]
    have:¬ (0:Int)<= -1:=by decide
    simp only[this,if_false]
    rw[if_pos (by omega)]
    show(acc.map encF)[((-1:Int)+acc.length).toNat]? = _
    rw[Zgy,show((-1:Int)+acc.length).toNat=acc.length - 1 by omega,<- List.getLast?_eq_getElem?,Zjy h0]
    show Aa (some (encF _)) (encF (acc.getLastD _))
    rw[Zna,Zjy h0];rfl
   exact zap (yfj (d1:=encF lastF) (d2:=encF x) (zay (zde rfl) (yec zag.b).b hat).b Aq (nbF _) (nbF _) (by have:=dpF lastF;omega))
  .refine zw7 (d:=encF x) rfl Aj (by rw[Zgn,Zg2];omega) (hN _ ⟨acc++[x],_,by rw[Zkn];rfl,ha.new hs hk fun z=>?_⟩)
   have h0:acc≠[]:=fun y=>by rw[y] at z;cases z
   have hlp:=Ztd.mpr h0
   have e:lastF=x:=by show acc.getLastD _=x;rw[Zna,z];rfl
   rw[e,decide_eq_true rfl,decide_eq_false (by omega)] at hb
   cases hb
  .rw[Zs4] at hb
   have h0:acc≠[]:=fun z=>by rw[z] at hb;simp at hb
   have e:encF lastF=encF x:=by have:=hb.2;simpa using this
   have e:=zig e
   refine za5 (hN _ (AM acc _ (ha.old hk ?_)))
   rw[<- e,Zjy h0]
   show Aa (some _) (acc.getLastD _)
   rw[Zna,Zjy h0];rfl
 rintro ss ⟨acc,v2,rfl,ha⟩
 ((try dsimp only);refine AQ)
 rw[ha.fin]
 exact zsu (i:=1) rfl rt
noncomputable def zth(ds:Ae):Prop:=∃b:As,ds=[bkD b]/\b.length<=200 /\ ∀x∈b,(rowF x).length<=100
theorem zmv(Z:Tx K mg ad0):FnOk P w K mg base CX0 1 ad0.Zbu ad0.Zbw zdz (SpD K zth zoq):=by
 refine okD Z.Zax.F zng (by rintro ds ⟨c,rfl,_⟩;rfl) (By _ (A2 (zf2 Zie Zm7 Zm6 zla zak (AI (znd rfl (LcOk.of (Nx:=(["_law_book_here"]:Al)) (sc:=zad zd2) (N':=(["_law_card_here", "_law_field", "_law_text_here"]:Al)) (nt:=3) (cs:=[]) rfl rfl (by decide +kernel)) (zda (pv 0)) (fun _ _ _ _=>(show PG _ _ (gTup K 3 _) from zkq rfl (zbd (BR 0 (Zi7 (["_law_card_here", "_law_field", "_law_text_here"]:Al)) rfl (Zlq rfl)) (zbd (BR 1 (Zi7 (["_law_card_here", "_law_field", "_law_text_here"]:Al)) rfl (Zlq rfl)) (zbd (BR 2 (Zi7 (["_law_card_here", "_law_field", "_law_text_here"]:Al)) rfl (Zlq rfl)) zft))))) (fun _ _ _ _=>zd7) (fun _ _ _ _=>(zax zaq (zax zaq (zax zaq (zax zaq (pv 0) zak) (pv 1)) zak) (pv 2))))))) BJ)
 obtain⟨b,rfl,hl,hx⟩:=hp
 rw[zfi] at rt
 unfold zec at rt
 have hsum:=zks (ls:=b.map rowF) (n:=100) (by intro l hm;obtain⟨p,hp,rfl⟩:=Zg4.mp hm;exact hx p hp)
 rw[Zgn] at hsum
 refine zbs (zo7 (z:=[10]) (ls:=b.map rowF) (A5 [10]).b ?_ (by rw[Zgn];simp only[Zg5,Zhz];omega)) rt
 rw[Zin]
 refine EvO.l (zld b encF (fun f=>.str (rowF f)) (Aj).l (zu5 (ze2 (zch (by decide)) (ze2 (zch (by decide)) (ze2 (zch (by decide)) zpi)))) (by decide) (by rw[Zg2];omega) fun f hf=>(AD (zkr rfl (zbc zav (zbc zav (zbc zav zfe)))) ?_))
 have hr:=hx f hf
 have e:rowF f=f.1++[32]++f.2.1++[32]++f.2.2:=by unfold rowF;simp[glue]
 rw[e] at hr ⊢
 simp only[Zhl,Zg5,Zhz] at hr
 exact BS (BS (BS (BS Aq (A5 [32]).b).b Aq).b (A5 [32]).b).b Aq
theorem zu7{x:Row}(h:zg9 x):(rowL x).length<=61:=by
 obtain⟨h1,h2⟩:=h
 have h3:=h1.2.1
 have h4:x.2.1∈flds++prs:=by
  rcases h2 with h | h
  .exact Zit _ h.1
  .exact Zho _ h.1
 have h5:=(zml _ h4).2
 have h6:x.2.2.length<=40:=by
  rcases h2 with h | h
  .exact h.2.2.1
  .have:=h.2.1.2.1;omega
 unfold rowL
 simp;omega
theorem zyx{x:Row}(h:zg9 x):10∉rowL x:=by
 obtain⟨h1,h2⟩:=h
 have hl:10∉lets:=by decide +kernel
 have hs:10∉zy4:=by decide +kernel
 have hw:∀f∈flds++prs,10∉f:=by decide +kernel
 have h4:x.2.1∈flds++prs:=by
  rcases h2 with h | h
  .exact Zit _ h.1
  .exact Zho _ h.1
 unfold rowL
 intro z
 simp only[Zhh,Zgp] at z
 rcases z with z | z | z | z | z
 .exact hl (h1.2.2 _ z)
 .cases z
 .exact hw _ h4 z
 .cases z
 .rcases h2 with h | h
  .exact hs (h.2.2.2.2 _ z)
  .exact hl (h.2.1.2.2 _ z)
theorem ydc{x:Row}(h:zg9 x):LnOk (rowL x,some x):=(AM (zyx h) (by have:=zu7 h;show(rowL x).length<=100;omega) h)
noncomputable def FOk(f:Fct):Prop:=zg9 f/\foF f=f
noncomputable def zbe:Ac:=(BA "book")
noncomputable def newW:Ac:=(BA "new")
noncomputable def zby:Ac:=(BA "show")
noncomputable def zbz:Ac:=(BA "pour")
noncomputable def zcm(k:Ac):Option AT:=if k=zbe then some [newW] else if k=zby then some [zbe] else if k=zbz then some [newW,zbe,zbe,zbe] else none
structure FormsK(P:Zg8)(w:Zhy)(K:Zgh)(mg:Str->Option Zgi)(q:Addr)(kvs:List (Key×V)):Prop where
 m:mg "FORMS" = some (.ref q)
 d:DctK P w K q kvs
 f:∀k fs,zcm k=some fs-> ∃a,valV kvs (.inr (T k))=some (.ref a) /\ ∀H,Rep K H (.tup (fs.map D.str)) (.ref a)
theorem zxd{K:Zgh}{kvs:Ai Key V}(h_book:∃a,Aa (valV kvs (.inr (T zbe))) Au/\TupK K a [newW])(h_show:∃a,Aa (valV kvs (.inr (T zby))) Au/\TupK K a [zbe])(h_pour:∃a,Aa (valV kvs (.inr (T zbz))) Au/\TupK K a [newW,zbe,zbe,zbe])(k:Ac)(fs:AT)(h:Aa (zcm k) fs):∃a,Aa (valV kvs (.inr (T k))) Au /\ ∀H,Rep K H (.tup (fs.map D.str)) Au:=by
 unfold zcm at h
 split at h
 .rename_i e;cases h;subst e;exact h_book
 .split at h
  .rename_i e;cases h;subst e;exact h_show
  .split at h
   .rename_i e;cases h;subst e;exact h_pour
   .cases h
theorem yev{l:Ac}(h:za8 l):Ab (zlb l):=by
 obtain⟨h1,h2,h3⟩:=h
 unfold zlb
 rw[Zhe,Zhe,Zja]
 exact⟨⟨decide_eq_true (by omega),decide_eq_true (by omega)⟩,fun c hc=>decide_eq_true (h3 c hc)⟩
noncomputable def yd1(ds:Ae):Prop:=∃l f:Ac,ds=[.str l,.str f]/\za8 l/\f≠(BA "field")
theorem zm9(Z:Tx K mg ad0):FnOk P w K mg base CX0 2 ad0.Zbv ad0.Zbz zd0 (SpD K yd1 fun _=>.bl true):=by
 have Zdm:=zk1 (P:=P) (w:=w) (base:=base) Z
 refine okD Z.Zco.F zms (by rintro ds ⟨c,k,rfl,_⟩;rfl) (By _ (A2 (zyr (zat zgh (pv 1) zak (zbh _)) (ziw (show OpR _ _ (rInD K false) from zjm hr.units) (pv 0) (zcz (v:=.ref ad0.Zbk) (by rfl) Z.Zdy rfl) (by with_unfolding_all rfl)) (pcX Zdm hr Z.Zb8 (AV 0)))) BJ)
 obtain⟨l,f,rfl,hn,hf⟩:=hp
 refine zbs (ydp (zap (zhc Aq (BH).b)) (fun hb=>absurd (of_decide_eq_true hb) hf) Bp) rt
 have e:zfd [.str l]= .bl true:=by show D.bl (zlb l)=_;rw[yev hn]
 rw[<- e]
 exact zbq (pre:=preS) (res:=zfd) (zab Aj zaf) (Aw l (by have:=hn.2.1;omega))
noncomputable def zh4(q:Ac×AT):Prop:=(∃fs,Aa (zcm q.1) fs/\q.2.length=fs.length) /\ ∀n∈q.2,za8 n
noncomputable def ordW(q:Ac×AT):AT:=q.1::q.2
noncomputable def ycq(q:Ac×AT)(ds:Ae):Prop:=ds=[.str (glue [32] (ordW q))]/\zh4 q
noncomputable def zou(q:Ac×AT):Ae:=(ordW q).map D.str
theorem zia{k:Ac}{fs:AT}(h:Aa (zcm k) fs):fs.length<=4/\32∉k/\10∉k/\k.length<=4/\(∀c∈k,c<128)/\(∀f∈fs,f≠(BA "field"))/\1<=fs.length:=by
 unfold zcm at h
 split at h
 .rename_i e;cases h;subst e;decide +kernel
 .split at h
  .rename_i e;cases h;subst e;decide +kernel
  .split at h
   .rename_i e;cases h;subst e;decide +kernel
   .cases h
theorem ltsN:32∉lets/\10∉lets:=by decide +kernel
theorem zvz{q:Ac×AT}(h:zh4 q):zct 32 (glue [32] (ordW q))=ordW q:=by
 obtain⟨⟨fs,hf,hl⟩,hn⟩:=h
 have r:=zia hf
 unfold zct
 refine zga (by simp[ordW]) (fun x hx=>?_) ?_
 .rcases Zgp.mp hx with rfl | hx
  .exact r.2.1
  .exact fun z=>ltsN.1 ((hn x hx).2.2 _ z)
 .have:∀qs:AT,qs.length<=(glue [32] qs).length+1:=fun qs=>by
   induction qs with
   | nil=>simp
   | cons a r ih =>
    cases r with
    | nil=>simp
    | cons b r=>simp only[glue,Zhl,Zg5,Zhz] at ih ⊢;omega
  have:=this (ordW q)
  omega
theorem ztt{q:Ac×AT}(h:zh4 q):(glue [32] (ordW q)).length<=100/\(ordW q).length<=5:=by
 obtain⟨⟨fs,hf,hl⟩,hn⟩:=h
 have r:=zia hf
 have h1:=zid [32] (ordW q)
 have h2:=zks (ls:=ordW q) (n:=12) (by
  intro l hm
  rcases Zgp.mp hm with rfl | hm
  .omega
  .exact(hn l hm).2.1)
 unfold ordW at *
 simp only[Zg5,Zhz] at h1 h2 ⊢
 omega
theorem zo5{P:Zg8}{w:Zhy}{K:Zgh}{mg:Str->AY}{q:Addr}{kvs:Ai Key V}{k:Ac}{fs:AT}(ZF:FormsK P w K mg q kvs)(h:Aa (zcm k) fs){G Hz L:Hp}{ss:List Sl}{ty:TE}(b:A8 K G L ty k):Ap K G L (zxu kvs ty) (.tup (fs.map D.str)):=by
 obtain⟨a,hv,r⟩:=ZF.f _ _ h
 exact yaw b hv r
theorem ya3{P:Zg8}{w:Zhy}{K:Zgh}{mg:Str->AY}{q:Addr}{kvs:Ai Key V}{k:Ac}{fs:AT}(ZF:FormsK P w K mg q kvs)(h:Aa (zcm k) fs){G Hz L:Hp}{ss:List Sl}{ty:TE}(b:A8 K G L ty k):Ap K G L (zp3 kvs ty) (.bl false):=by
 obtain⟨a,hv,r⟩:=ZF.f _ _ h
 have:=zv0 (kvs:=kvs) b
 rw[hv] at this
 exact this
theorem zc6(ls:AT)(k:Nat)(h:k<ls.length):(ls.map D.str).getD k .non= .str (ls.getD k []):=by
 rw[Zgf,Zgf,Zgy,Zgg h];rfl
theorem zo0(ls:AT)(k:Nat)(h:k<ls.length):ls.getD k []∈ls:=by
 rw[Zgf,Zgg h];exact Zik _
theorem cut1(x:D)(xs:Ae):cutD (x::xs) (some 1) none=xs:=zog (x::xs) (by decide)
theorem zpr(Z:Tx K mg ad0){q:Addr}{kvs:Ai Key V}(ZF:FormsK P w K mg q kvs):FnOk P w K mg base CX0 3 ad0.Zbq ad0.Zbr zdo (SpGO K ycq zou):=by
 have Zfm:=zm9 (P:=P) (w:=w) (base:=base) Z
 refine okGO Z.Zdd.F ze4 (by rintro x ds ⟨rfl,_⟩;rfl) (By _ (zah (psn 1 ze4.nd (zf2 Zie Zjj Zoa zlf (pv 0) (AI zak)))
   (zah (zcn (PW.pt (ybe (zz6 (zwp ZF.d (A1 (A7 _ K) (pv 1) zaj) (zcz (v:=.ref _) (by rfl) ZF.m rfl)) (by with_unfolding_all rfl)) (zvl (zat zly (zbl zc7 (by rfl) Z.Zdc Zql (AV 1)) (zax zi9 (zbl zc7 (by rfl) Z.Zdc Zql (AI (zph ZF.d (zcz (v:=.ref _) (by rfl) ZF.m rfl) (A1 (A7 _ K) (pv 1) zaj) BF))) zaj) (zbh _))))) (zai zgg) za0)
   (zah (zek Ziw rfl (zm3 (by rfl) Z.Ze0 (zaa (zea zhq (pv 1) (ze7 zaj) zgt) (AI (zph ZF.d (zcz (v:=.ref _) (by rfl) ZF.m rfl) (A1 (A7 _ K) (pv 1) zaj) BF)))) (zkq rfl (zbd (pgn 2 ze4.nd) (zbd (pgn 3 ze4.nd) zft))) (zai (zcn (zql (zmu (pcX Zfm hr Z.Zco (zaa (pv 2) (AV 3))))) (zai zgg) za0)))
   (A2 (pv 1))))) (fun G ds o hp rt=>?_))
 obtain⟨rfl,ho⟩:=hp
 have hsp:=zvz ho
 have hln:=ztt ho
 obtain⟨⟨fs,hf,hl⟩,hn⟩:=id ho
 have r:=zia hf
 have rt:RtO K G H Q ((ordW o).map D.str):=rt
 rw[<- hsp] at rt
 refine zan (zci (zhp Aq (A5 [32]).b (by rw[Zg2];omega)) fun p=>?_)
 ((try dsimp only);refine AQ)
 rw[hsp] at rt ⊢
 obtain⟨wd,as⟩:=o
 have hf:Aa (zcm wd) fs:=hf
 have hl:as.length=fs.length:=hl
 have at0:Aa (atI ((ordW (wd,as)).map D.str) 0) (.str wd):=zdt (j:=0) rfl
 refine zan (zcg (b:=false || ! AC (((ordW (wd,as)).map D.str).length:Int) ((((fs.map D.str).length:Nat):Int)+1)) (zvr (zap (ya3 ZF hf (zay (zde rfl) zag.b at0).b)) fun _=>zap (zzx (zl9 (zde rfl)).b (zjg (yby (zo5 ZF hf (zay (zde rfl) zag.b at0).b).b).b zag.b).b)) (fun hb=>?_) fun hb=>?_)
 .simp[hl,ordW] at hb
 refine za5 ?_
 ((try dsimp only);refine AQ)
 refine zan (zos (fun _ ss=>Ax ss 1 (.o p ((ordW (wd,as)).map D.str))/\ss.length=4) (zra (EvO.ev (zhl (lo:=some 1) (hi:=none) (zde rfl) (zdl zag.b) zje)) (zo5 ZF hf (zay (zde rfl) zag.b at0).b)) (AF rfl) (fun L' k ss _ hk hI=>?_) fun ss hI=>?_)
 .obtain⟨h1,h2⟩:=hI
  rw[show(ordW (wd,as)).map D.str= .str wd::as.map D.str from rfl,cut1] at hk ⊢
  rw[Zgn,Zgn] at hk
  match ss,h2 with
  | [s0,s1,s2,s3],_ =>
   cases h1
   refine(AD (zkr rfl (zbc zav (zbc zav zfe))) (fun N hN=>?_))
   have e1:(as.map D.str).getD k .non= .str (as.getD k []):=zc6 as k (by omega)
   have e2:(fs.map D.str).getD k .non= .str (fs.getD k []):=zc6 fs k (by omega)
   rw[e1,e2]
   refine zcg (b:=!true) (zme (zul (zbq (pre:=yd1) (res:=fun _=>.bl true) (Bc Aj Aj zaf) ⟨_,_,rfl,hn _ (zo0 as k (by omega)),r.2.2.2.2.2.1 _ (zo0 fs k (by omega))⟩))) (fun hb=>by cases hb) fun _=>za5 (hN _ (AF rfl))
 ·((try dsimp only);refine AQ)
  exact zsu hI.1 rt
noncomputable def ycu(r:Ac):Prop:=zd6 [32].contains r=[]/\r.length<=1000
noncomputable def zyt(ds:Ae):Prop:=∃(rs:AT) (n:Nat),ds=[.lst (rs.map D.str),.int n]/\n<=10 /\ ∀r∈rs.drop n,ycu r
theorem zfm(Z:Tx K mg ad0):FnOk P w K mg base CX0 1 ad0.Zah ad0.Zai za3 (SpD K zyt fun _=>.non):=by
 refine okD Z.Zaq.F zb0 (by rintro ds ⟨c,n,rfl,_⟩;rfl) (By _ (zai (zek Ziw rfl (zqq (by rfl) Z.Zcu (AI (zea zhq (pv 0) (ze7 (pv 1)) zgt)) (zax zi9 (pv 1) zaj)) (zkq rfl (zbd (pgn 2 zb0.nd) (zbd (pgn 3 zb0.nd) zft))) (zai (zcn (zat zly (zf2 Zie Zre Zrd zj7 (pv 3) (AI zak)) zak (zbh _)) (zai zgg) za0)))) BJ)
 obtain⟨rs,n,rfl,hn,hb⟩:=hp
 have ec:cutD (rs.map D.str) (some (n:Int)) none=(rs.drop n).map D.str:=by
  rw[zog _ (by omega),Zj5,Zmo]
 have es:EvO K G H G (slots 4 [.lst (rs.map D.str),.int n]) (tSl (rSlL K) (tVar 0) (zp0 (tVar 1)) zi8) ((rs.drop n).map D.str):=by
  rw[<- ec];exact zhl (lo:=some (n:Int)) (hi:=none) (Aj).l (zdl Aq) zje
 refine zos (fun _ ss=>ss.length=4) (ztv (m:=n+1) es.ev (show Ev K G H G _ _ (.int ((n:Int)+1)) from zjg Aq zag.b) ?_) rfl (fun L' k ss _ hk hI=>?_) fun ss hI F H σ S=>rt .non F H S.ext Rep.non
 .unfold Zi2
  rw[Zhe]
  exact⟨decide_eq_true (by omega),decide_eq_true (by omega)⟩
 .match ss,hI with
  | [s0,s1,s2,s3],_ =>
   refine(AD (zkr rfl (zbc zav (zbc zav zfe))) (fun N hN=>?_))
   rw[Zgn] at hk
   rw[zc6 _ k hk]
   have hB:=hb _ (zo0 _ k hk)
   refine zcg (b:=! AC (zd6 [32].contains ((rs.drop n).getD k [])) []) (zap (zzo (zmc Aq (A5 [32]).b (by rw[Zg2];have:=hB.2;omega)).b (A5 []).b)) (fun hb=>?_) fun _=>za5 (hN _ rfl)
   rw[decide_eq_true hB.1] at hb;cases hb
noncomputable def ycz(ds:Ae):Prop:=∃(r:Ac) (rs:AT),ds=[.lst ((r::rs).map D.str)]/\rs.length<=400 /\ ∀l∈rs,l.length<=100
noncomputable def unSt:D->Ac
 | .str l=>l
 | _=>[]
noncomputable def ycs:Ae->D
 | [.lst (_::rs)]=>.str (glue [10] ([]::rs.map unSt))
 | _=>.non
theorem zm6(r:Ac)(rs:AT):ycs [.lst ((r::rs).map D.str)]= .str (glue [10] ([]::rs)):=by
 show D.str (glue [10] ([]::(rs.map D.str).map unSt))=_
 rw[Zin,show unSt∘D.str=id from funext fun _=>rfl,Ztc]
theorem zkh(Z:Tx K mg ad0):FnOk P w K mg base CX0 1 ad0.Za8 ad0.Zbb zcr (SpD K ycz ycs):=by
 refine okD Z.Zb6.F zkk (by rintro ds ⟨c,n,rfl,_⟩;rfl) (By _ (A2 (zf2 Zie Zm7 Zm6 zla zak (AI (zax (show OpR _ _ (zo1 K) from zmd) (zb2 (AI zak)) (zea zhq (pv 0) (ze7 zaj) zgt))))) BJ)
 obtain⟨r,rs,rfl,hn,hb⟩:=hp
 rw[zm6] at rt
 have es:EvO K G H G (slots 1 [.lst ((r::rs).map D.str)]) (tSl (rSlL K) (tVar 0) (zp0 (tC (.int 1))) zi8) (rs.map D.str):=by
  rw[<- cut1 (.str r) (rs.map D.str)];exact zhl (lo:=some 1) (hi:=none) (Aj).l (zdl zag.b) zje
 refine zbs (zo7 (ls:=[]::rs) (A5 [10]).b (EvO.l (zlg (EvO.l (zbr (zab (A5 []) zaf) (small (by simp)))) es.l ?_)) ?_) rt
 .simp only[Zgn,Zg5,Zhz];rw[Zg2];omega
 .have:=zks hb
  simp only[Zhc,Zr6,Zg5,Zhz]
  omega
noncomputable def NmOk(q:Ac×AT)(kvs:DD):Prop:=∀fs,Aa (zcm q.1) fs-> ∀k,k<fs.length->fs.getD k []=zbe->Ab (Bm kvs (q.2.getD k [])).isSome
noncomputable def zx5(q:Ac×AT)(kvs:DD)(ds:Ae):Prop:=ds=[.lst ((ordW q).map D.str)]/\zh4 q/\NmOk q kvs
theorem zgk(Z:Tx K mg ad0){q:Addr}{kvs:Ai Key V}(ZF:FormsK P w K mg q kvs):FnOk P w K mg base CX0 1 ad0.Zac ad0.Zab ["self", "words"] (SpK K ad0.Zaa "books" "rules" zx5 (fun _ _=>.non) fun _ kvs=>kvs):=by
 refine Z.Zbg.ok zb7 (fun vs H Q E h=>zfj (n:=2) (by rintro z kvs ds ⟨rfl,_⟩;rfl) h) (fun cdv A outer s H vs Q E hr h=>(AD (zai (zek Ziw rfl (zm3 (by rfl) Z.Ze0 (zaa (zea zhq (pv 1) (ze7 zaj) zgt) (AI (zph ZF.d (zcz (v:=.ref _) (by rfl) ZF.m rfl) (A1 (A7 _ K) (pv 1) zaj) BF)))) (zkq rfl (zbd (pgn 2 zb7.nd) (zbd (pgn 3 zb7.nd) zft))) (zai (zcn (PW.pt (zi0 (zat zgh (pv 3) zak (zbh _)) (zjx (zz6 (ztg (zsl hr) (pv 2) (zko (pv 0) (by rfl))) (by with_unfolding_all rfl))))) (zai zgg) za0)))) ?_))
 refine zqy h (by rw[zfj (n:=2) (by rintro z kvs ds ⟨rfl,_⟩;rfl) h];decide) fun G Hz a dd ds o hp rt=>?_
 obtain⟨rfl,ho,hnm⟩:=hp
 obtain⟨⟨fs,hf,hl⟩,hn⟩:=id ho
 have hnm:=hnm fs hf
 obtain⟨wd,as⟩:=o
 have hf:Aa (zcm wd) fs:=hf
 have hl:as.length=fs.length:=hl
 have at0:Aa (atI ((ordW (wd,as)).map D.str) 0) (.str wd):=zdt (j:=0) rfl
 refine zos (fun _ ss=>Ax ss 0 (ksl K ad0.Zaa "books" "rules" a dd)/\ss.length=4) (zra (EvO.ev (zhl (lo:=some 1) (hi:=none) (Aj).l (zdl zag.b) zje)) (zo5 ZF hf (zay (Aj).l zag.b at0).b)) (AF rfl) (fun L' k ss _ hk hI=>?_) fun ss hI=>ycf hI.1 rt
 obtain⟨h1,h2⟩:=hI
 rw[show(ordW (wd,as)).map D.str= .str wd::as.map D.str from rfl,cut1] at hk ⊢
 rw[Zgn,Zgn] at hk
 match ss,h2 with
 | [s0,s1,s2,s3],_ =>
  cases h1
  refine(AD (zkr rfl (zbc zav (zbc zav zfe))) (fun N hN=>?_))
  rw[zc6 as k (by omega),zc6 fs k (by omega)]
  refine zcg (b:=AC (fs.getD k []) zbe && !(Bm dd (as.getD k [])).isSome) (zfu (zap (zhc Aq (BH).b)) fun _=>zap (zug rfl Z.Zaj Z.Zak Aq rfl)) (fun hb=>?_) fun _=>za5 (hN _ (AF rfl))
  rw[Zhe] at hb
  rw[hnm k (by omega) (of_decide_eq_true hb.1)] at hb
  exact absurd hb.2 (by decide)
noncomputable def ShOk(b:As):Prop:=b.length<=200 /\ ∀x∈b,(rowF x).length<=100
noncomputable def ybh(x:Ac×As)(kvs:DD)(ds:Ae):Prop:=ds=[.lst [.str zby,.str x.1]]/\Aa (Bm kvs x.1) (bkD x.2)/\ShOk x.2
theorem zkb(Z:Tx K mg ad0):FnOk P w K mg base CX0 2 ad0.Zan ad0.Zal ["self", "words"] (SpK K ad0.Zaa "books" "rules" ybh (fun x _=>.str (zec x.2)) fun _ kvs=>kvs):=by
 have Zfn:=zm0 (P:=P) (w:=w) (base:=base) Z
 refine Z.Zc6.ok zgm (fun vs H Q E h=>zfj (n:=2) (by rintro z kvs ds ⟨rfl,_⟩;rfl) h) (fun cdv A outer s H vs Q E hr h=>(AD (zah (psn 2 zgm.nd (zlu (zsl hr) (zko (pv 0) (by rfl)) (A1 (A7 _ K) (pv 1) zaj) BF))
   (zah (zcn (zat zgh (A1 (A7 _ K) (pv 1) zaj) zak (zbh _)) (A2 (pcX Zfn hr Z.Zct (AV 2))) za0)
   zu9)) ?_))
 refine zqy h (by rw[zfj (n:=2) (by rintro z kvs ds ⟨rfl,_⟩;rfl) h];decide) fun G Hz a dd ds o hp rt=>?_
 obtain⟨rfl,hv,hs⟩:=hp
 refine zan (zco (zmh rfl Z.Zaj Z.Zak (zay (d:=.str o.1) (Aj).l zag.b rfl).b rfl hv) ?_)
 ((try dsimp only);refine AQ)
 refine zan (zcg (b:=AC zby zby) (zap (zhc (zay (d:=.str zby) (Aj).l zag.b rfl).b (BH).b)) Bp fun hb=>absurd hb (by simp))
 refine zjd (i:=0) (zhh ?_) rfl rt
 rw[<- zfi]
 exact zbq (pre:=yfg) (res:=zoq) (zab Aj zaf) (Aw o.2 hs)
noncomputable def ShB(b:As):Prop:=Bk b/\b.length<=63
noncomputable def bkAt(kvs:DD)(n:Ac):As:=match Bm kvs n with
 | some (.lst b)=>b.map unF
 | _=>[]
theorem zhn{kvs:DD}{n:Ac}{b:As}(h:Aa (Bm kvs n) (bkD b)):bkAt kvs n=b:=by
 unfold bkAt
 rw[h]
 exact zdc b
noncomputable def za1(b l r:As):As:=Bu ((b++l++r).filter fun f=>if f∈b then AE f l&&AE f r else true)
theorem zc2(b l r:As)(f:Fct):f∈za1 b l r↔Pour b [l,r] f:=by
 unfold za1 Pour
 rw[zdy,zdi,Zjq]
 by_cases h:f∈b <;> simp[h]
theorem zf7(b l r:As):Bk (za1 b l r):=zg2 (zd8 _)
noncomputable abbrev Odr:=(Ac×AT)×List Ln
noncomputable def nmO(z:Odr):Ac:=z.1.2.getD 0 []
noncomputable def BkO(z:Odr):Prop:=∃n,za8 n/\z.1=(zbe,[n])/\z.2.length<=300 /\ ∀p∈z.2,LnOk p
noncomputable def PoO(z:Odr)(kvs:DD):Prop:=∃n1 n2 n3 n4 b l r,za8 n1/\za8 n2/\za8 n3/\za8 n4/\z=((zbz,[n1,n2,n3,n4]),[])/\Aa (Bm kvs n2) (bkD b)/\Aa (Bm kvs n3) (bkD l)/\Aa (Bm kvs n4) (bkD r)/\ShB b/\ShB l/\ShB r
noncomputable def cbB(z:Odr)(kvs:DD):As:=if z.1.1=zbe then Bu (zb3 z.2) else za1 (bkAt kvs (z.1.2.getD 1 [])) (bkAt kvs (z.1.2.getD 2 [])) (bkAt kvs (z.1.2.getD 3 []))
theorem zpt:¬ zbe=zbz /\ ¬ zbz=zbe /\ ¬ zby=zbe /\ ¬ zby=zbz /\ ¬ zbe=zby /\ ¬ zbz=zby:=by decide +kernel
noncomputable def yek(z:Odr)(kvs:DD)(ds:Ae):Prop:=ds=[.lst ((ordW z.1).map D.str),.lst ((glue [32] (ordW z.1)::z.2.map (·.1)).map D.str)]/\(BkO z\/PoO z kvs)
theorem zgi(Z:Tx K mg ad0):FnOk P w K mg base CX0 6 ad0.Zaf ad0.Zag ["self", "words", "rows"] (SpK K ad0.Zaa "books" "rules" yek (fun z kvs=>bkD (cbB z kvs)) fun _ kvs=>kvs):=by
 have Zfj:=zm2 (P:=P) (w:=w) (base:=base) Z
 have Zez:=zkh (P:=P) (w:=w) (base:=base) Z
 have Zga:=zva (P:=P) (w:=w) (base:=base) Z
 refine Z.Zbh.ok zgj (fun vs H Q E h=>zfj (n:=3) (by rintro z kvs ds ⟨rfl,_⟩;rfl) h) (fun cdv A outer s H vs Q E hr h=>(AD (zah (zcn (zat zgh (A1 (A7 _ K) (pv 1) zaj) zak (zbh _)) (A2 (pcX Zfj hr Z.Zcr (AI (pcX Zez hr Z.Zb6 (AV 2))))) za0)
   (zah (zcn (zat zgh (A1 (A7 _ K) (pv 1) zaj) zak (zbh _)) (A2 (pcX Zga hr Z.Zdt (zaa (zlu (zsl hr) (zko (pv 0) (by rfl)) (A1 (A7 _ K) (pv 1) zaj) BF) (zaa (zlu (zsl hr) (zko (pv 0) (by rfl)) (A1 (A7 _ K) (pv 1) zaj) BF) (AI (zlu (zsl hr) (zko (pv 0) (by rfl)) (A1 (A7 _ K) (pv 1) zaj) BF)))))) za0)
   zu9)) ?_))
 refine zqy h (by rw[zfj (n:=3) (by rintro z kvs ds ⟨rfl,_⟩;rfl) h];decide) fun G Hz a dd ds o hp rt=>?_
 obtain⟨rfl,hz⟩:=hp
 rcases hz with ⟨n,hn,e,hl,hk⟩ | ⟨n1,n2,n3,n4,b,l,r,_,_,_,_,rfl,v2,v3,v4,s2,s3,s4⟩
 .have ec:cbB o dd=Bu (zb3 o.2):=by unfold cbB;rw[e,if_pos rfl]
  rw[ec] at rt
  rw[show(ordW o.1).map D.str=[.str zbe,.str n] by rw[e];rfl]
  refine zan (zcg (b:=AC zbe zbe) (zap (zhc (zay (d:=.str zbe) (Aj).l zag.b rfl).b (BH).b)) Bp fun hb=>absurd hb (by simp))
  refine zjd (i:=0) (zhh (EvO.ev ?_)) rfl rt
  have e2:ya5 (([],none)::o.2)=(Bu (zb3 o.2)).map encF:=rfl
  rw[<- e2]
  refine zk3 (pre:=yee) (res:=ya5) (([],none)::o.2) (zab (zbq (pre:=ycz) (res:=ycs) (zab Aj zaf) ⟨_,_,rfl,?_,?_⟩) zaf) ⟨?_,by simp,?_,?_⟩
  .rw[Zgn];omega
  .intro l hm;obtain⟨p,hp,rfl⟩:=Zg4.mp hm;exact(hk p hp).2.1
  .rw[zm6];rfl
  .rw[Zg5];omega
  .intro p hp
   rcases Zgp.mp hp with rfl | hp
   .exact⟨by simp,by simp,by decide +kernel⟩
   .exact hk p hp
 .have ec:cbB ((zbz,[n1,n2,n3,n4]),[]) dd=za1 b l r:=by
   unfold cbB
   rw[if_neg zpt.2.1]
   show za1 (bkAt dd n2) (bkAt dd n3) (bkAt dd n4)=_
   rw[zhn v2,zhn v3,zhn v4]
  rw[ec] at rt
  rw[show(ordW ((zbz,[n1,n2,n3,n4]),([]:List Ln)).1).map D.str=[.str zbz,.str n1,.str n2,.str n3,.str n4] from rfl]
  refine zan (zcg (b:=AC zbz zbe) (zap (zhc (zay (d:=.str zbz) (Aj).l zag.b rfl).b (BH).b)) (fun hb=>absurd (of_decide_eq_true hb) zpt.2.1) fun _=>za5 ?_)
  ((try dsimp only);refine AQ)
  refine zan (zcg (b:=AC zbz zbz) (zap (zhc (zay (d:=.str zbz) (Aj).l zag.b rfl).b (BH).b)) Bp fun hb=>absurd hb (by simp))
  refine zjd (i:=0) (zhh (EvO.ev (ds:=(za1 b l r).map encF) ?_)) rfl rt
  refine zv3 (pre:=preP) (R:=relP) (Bc (zmh (i:=0) rfl Z.Zaj Z.Zak (zay (d:=.str n2) (Aj).l zag.b rfl).b rfl v2) (zmh (i:=0) rfl Z.Zaj Z.Zak (zay (d:=.str n3) (Aj).l zag.b rfl).b rfl v3) (zab (zmh (i:=0) rfl Z.Zaj Z.Zak (zay (d:=.str n4) (Aj).l zag.b rfl).b rfl v4) zaf)) ⟨b,l,r,rfl,s2.1,s2.2,by have:=s3.2;omega,by have:=s4.2;omega⟩ fun rs hR=>?_
  obtain⟨b',rfl,hb',hm⟩:=hR _ _ _ rfl
  rw[Bk.ext hb' (zf7 b l r) fun f=>(hm f).trans (zc2 b l r f).symm]
theorem zm8(Z:Tx K mg ad0):FnOk P w K mg base CX0 1 ad0.Zay ad0.Zaw ["self"] (zvh ad0.Zaa "books" "rules"):=by
 refine Z.Zdp.ok zmk (fun vs H Q E h=>by obtain⟨x,dx,rfl,_⟩:=h;rfl) (fun cdv A outer s H vs Q E hr h=>(AD (zah (zzp (pv 0) zyf (by rfl))
   (zai (zzp (pv 0) (zb2 zae) (by rfl)))) ?_))
 obtain⟨x,dx,rfl,hx,hd,q⟩:=h
 intro b hb
 have bx:x≠b:=fun z=>by rw[z,hb] at hx;cases hx
 refine⟨_,rfl,x,ad0.Zaa,dx,[],rfl,(zal bx).trans hx,Z.Zaj,Z.Zak,by decide,?_⟩
 refine⟨Zhr _,fun r hr=>?_⟩
 have rx:x≠r:=fun z=>by rw[z,zam] at hr;cases hr
 rw[zal (Zh1 rx)] at hr
 have rb:r≠b:=fun z=>by rw[z,zam] at hr;cases hr
 rw[zal rb] at hr
 refine⟨_,rfl,x,ad0.Zaa,dx,[("books", .ref b)],rfl,(zal rx).trans zam,Z.Zaj,Z.Zc4,(show 1<1000 by decide),?_⟩
 refine q b r _ hb hr (Zh1 rb) zam ?_ ?_ fun c c1 c2 c3=>?_
 .rw[zal (Zh1 bx),zal (Zh1 rb),zal (Zh1 bx)];exact zam
 .rw[zal (Zh1 rx)];exact zam
 .rw[zal c1,zal c3,zal c1,zal c2]
theorem znr{m n1 n2:Str}{u v:V}(h1:Am (m == n1))(h2:Am (m == n2)):([(n1,u),(n2,v)]:Ai Str V).lookup m=none:=by simp only[Zj6,h1,h2]
theorem zyy{z:Nat}{ps:AT}(h0:ps≠[])(h:∀p∈ps,z∉p):zct z (glue [z] ps)=ps:=by
 unfold zct
 refine zga h0 h ?_
 have:∀qs:AT,qs.length<=(glue [z] qs).length+1:=fun qs=>by
  induction qs with
  | nil=>simp
  | cons a r ih =>
   cases r with
   | nil=>simp
   | cons b r=>simp only[glue,Zhl,Zg5,Zhz] at ih ⊢;omega
 have:=this ps
 omega
noncomputable def txtO(z:Odr):Ac:=glue [10] (glue [32] (ordW z.1)::z.2.map (·.1))
theorem zxr{q:Ac×AT}(h:zh4 q):10∉glue [32] (ordW q):=by
 obtain⟨⟨fs,hf,hl⟩,hn⟩:=h
 have r:=zia hf
 intro z
 have key:∀ls:AT,(∀l∈ls,10∉l)->10∉glue [32] ls:=fun ls=>by
  induction ls with
  | nil=>intro _ z;cases z
  | cons a l ih =>
   intro h z
   cases l with
   | nil=>exact h a (by simp) z
   | cons b l =>
    simp only[glue,Zhh] at z
    rcases z with (z | z) | z
    .exact h a (by simp) z
    .revert z;decide
    .exact ih (fun x hx=>h x (Zgq _ hx)) z
 refine key _ (fun l hl=>?_) z
 rcases Zgp.mp hl with rfl | hl
 .exact r.2.2.1
 .exact fun z=>ltsN.2 ((hn l hl).2.2 _ z)
noncomputable def LnS(ls:List Ln):Prop:=ls.length<=300 /\ ∀p∈ls,10∉p.1/\p.1.length<=100
theorem zr5{z:Odr}(h:zh4 z.1)(hl:LnS z.2):zct 10 (txtO z)=glue [32] (ordW z.1)::z.2.map (·.1):=by
 refine zyy (by simp) fun p hp=>?_
 rcases Zgp.mp hp with rfl | hp
 .exact zxr h
 .obtain⟨q,hq,rfl⟩:=Zg4.mp hp;exact(hl.2 q hq).1
theorem zxv{z:Odr}(h:zh4 z.1)(hl:LnS z.2):(txtO z).length<=100000:=by
 unfold txtO
 have h1:=zid [10] (glue [32] (ordW z.1)::z.2.map (·.1))
 have h2:=zks (ls:=glue [32] (ordW z.1)::z.2.map (·.1)) (n:=100) (by
  intro l hm
  rcases Zgp.mp hm with rfl | hm
  .exact(ztt h).1
  .obtain⟨q,hq,rfl⟩:=Zg4.mp hm;exact(hl.2 q hq).2)
 have h3:=hl.1
 simp only[Zgn,Zg5,Zhz] at h1 h2
 omega
theorem zxy{n:Ac}(h:za8 n):zh4 (zbe,[n]):=⟨⟨[newW],show zcm zbe=_ by decide +kernel,rfl⟩,fun x hx=>by rw[Zg0.mp hx];exact h⟩
theorem zxw{n:Ac}(h:za8 n):zh4 (zby,[n]):=⟨⟨[zbe],show zcm zby=_ by decide +kernel,rfl⟩,fun x hx=>by rw[Zg0.mp hx];exact h⟩
theorem yat(n:Ac)(kvs:DD):NmOk (zbe,[n]) kvs:=by
 intro fs hf k hk hb
 have e:Aa (zcm zbe) [newW]:=by decide +kernel
 have hf:Aa (zcm zbe) fs:=hf
 rw[e] at hf;cases hf
 obtain rfl:k=0:=by simpa using hk
 exact absurd hb (by decide +kernel)
theorem ybg{n:Ac}{kvs:DD}(h:Ab (Bm kvs n).isSome):NmOk (zby,[n]) kvs:=by
 intro fs hf k hk hb
 have e:Aa (zcm zby) [zbe]:=by decide +kernel
 have hf:Aa (zcm zby) fs:=hf
 rw[e] at hf;cases hf
 obtain rfl:k=0:=by simpa using hk
 exact h
noncomputable def SwO(z:Odr)(kvs:DD):Prop:=∃n b,za8 n/\z.1=(zby,[n])/\(∀p∈z.2,ycu p.1)/\Aa (Bm kvs n) (bkD b)/\ShOk b
noncomputable def znv(z:Odr)(kvs:DD)(ds:Ae):Prop:=ds=[.str (txtO z)]/\LnS z.2/\kvs.length<1000/\((BkO z\/PoO z kvs)\/SwO z kvs)
noncomputable def okW:Ac:=(BA "ok")
noncomputable def zi2(z:Odr)(kvs:DD):D:=if z.1.1=zby then zoq [(Bm kvs (nmO z)).getD .non] else .str okW
noncomputable def zju(z:Odr)(kvs:DD):DD:=if z.1.1=zby then kvs else BE kvs (nmO z) (cbB z kvs)
noncomputable def TKR:Ae:=[("book" : Str), "rules", "right"].map fun x=>.str x.cps.toList
noncomputable def ASK:Ae:=[("show" : Str), "groups", "loss", "told"].map fun x=>.str x.cps.toList
theorem tkB:D.str zbe∈TKR:=Zg4.mpr ⟨"book", by decide +kernel,rfl⟩
theorem askS:D.str zby∈ASK:=Zg4.mpr ⟨"show", by decide +kernel,rfl⟩
theorem ntk{w:Ac}(h:w∉[("book" : Str), "rules", "right"].map fun x=>x.cps.toList):D.str w∉TKR:=fun z=>by
 obtain⟨x,hx,e⟩:=Zg4.mp z
 exact h (Zg4.mpr ⟨x,hx,D.str.inj e⟩)
theorem nask{w:Ac}(h:w∉[("show" : Str), "groups", "loss", "told"].map fun x=>x.cps.toList):D.str w∉ASK:=fun z=>by
 obtain⟨x,hx,e⟩:=Zg4.mp z
 exact h (Zg4.mpr ⟨x,hx,D.str.inj e⟩)
theorem zyk{a b c d:Ac}(h1:za8 a)(h2:za8 b)(h3:za8 c)(h4:za8 d):zh4 (zbz,[a,b,c,d]):=⟨⟨[newW,zbe,zbe,zbe],show zcm zbz=_ by decide +kernel,rfl⟩,fun x hx=>by
 simp only[Zgp,Zhf,or_false] at hx
 rcases hx with rfl | rfl | rfl | rfl <;> assumption⟩
theorem yaj{a b c d:Ac}{kvs:DD}(h2:Ab (Bm kvs b).isSome)(h3:Ab (Bm kvs c).isSome)(h4:Ab (Bm kvs d).isSome):NmOk (zbz,[a,b,c,d]) kvs:=by
 intro fs hf k hk hb
 have e:Aa (zcm zbz) [newW,zbe,zbe,zbe]:=by decide +kernel
 have hf:Aa (zcm zbz) fs:=hf
 rw[e] at hf;cases hf
 rcases k with _ | _ | _ | _ | k
 .exact absurd hb (by decide +kernel)
 .exact h2
 .exact h3
 .exact h4
 .exact absurd (show k+4<4 from hk) (by omega)
theorem yaa{z:Odr}{kvs:DD}(h:BkO z\/PoO z kvs):zh4 z.1/\NmOk z.1 kvs /\ ¬ z.1.1=zby /\ ∃n r,z.1=(z.1.1,n::r)/\D.str z.1.1∉ASK /\ ¬ z.1.1=(BA "rules")/\nmO z=n:=by
 rcases h with ⟨n,hn,e,_⟩ | ⟨n1,n2,n3,n4,b,l,r,h1,h2,h3,h4,rfl,v2,v3,v4,_⟩
 .unfold nmO
  rw[e]
  exact⟨zxy hn,yat n kvs,zpt.2.2.2.2.1,n,[],rfl,nask (w:=zbe) (by decide +kernel),(by decide +kernel:¬ zbe=_),rfl⟩
 .exact⟨zyk h1 h2 h3 h4,yaj (by rw[v2];rfl) (by rw[v3];rfl) (by rw[v4];rfl),zpt.2.2.2.2.2,n1,_,rfl,nask (w:=zbz) (by decide +kernel),(by decide +kernel:¬ zbz=_),rfl⟩
theorem ybt{z:Odr}{kvs:DD}(h:¬ z.1.1=zby):zi2 z kvs= .str okW/\zju z kvs=BE kvs (nmO z) (cbB z kvs):=⟨if_neg h,if_neg h⟩
theorem ztk{z:Odr}{kvs:DD}{b:As}(h:z.1.1=zby)(hv:Aa (Bm kvs (nmO z)) (bkD b)):zi2 z kvs= .str (zec b)/\zju z kvs=kvs:=by
 unfold zi2 zju
 rw[h,hv]
 exact⟨(if_pos rfl).trans (zfi b),if_pos rfl⟩
theorem zpv(Z:Tx K mg ad0){q:Addr}{kvs:Ai Key V}(ZF:FormsK P w K mg q kvs):FnOk P w K mg base CX0 7 ad0.Za6 ad0.Za7 ["self", "text"] (SpK K ad0.Zaa "books" "rules" znv zi2 zju):=by
 have Zfr:FnOk P w K mg base CX0 6 ad0.Zbq ad0.Zbr zdo (SpGO K ycq zou):=(zpr Z ZF).mono (by decide)
 have Zdu:FnOk P w K mg base CX0 6 ad0.Zah ad0.Zai za3 (SpD K zyt fun _=>.non):=(zfm Z).mono (by decide)
 have Zda:FnOk P w K mg base CX0 6 ad0.Zac ad0.Zab ["self", "words"] (SpK K ad0.Zaa "books" "rules" zx5 (fun _ _=>.non) fun _ kvs=>kvs):=(zgk Z ZF).mono (by decide)
 have Zd3:FnOk P w K mg base CX0 6 ad0.Zan ad0.Zal ["self", "words"] (SpK K ad0.Zaa "books" "rules" ybh (fun x _=>.str (zec x.2)) fun _ kvs=>kvs):=(zkb Z).mono (by decide)
 have Zdb:=zgi (P:=P) (w:=w) (base:=base) Z
 refine Z.Zd0.ok zgq (fun vs H Q E h=>zfj (n:=2) (by rintro z kvs ds ⟨rfl,_⟩;rfl) h) (fun cdv A outer s H vs Q E hr h=>(AD (zah (psn 2 zgq.nd (zf2 Zie Zjj Zoa zlf (pv 1) (AI zak)))
   (zah (psn 3 zgq.nd (pcX Zfr hr Z.Zdd (AI (A1 (A7 _ K) (pv 2) zaj))))
   (zah (zcn (zat (show OpR _ _ (rInD K true) from zmo hr.units) (A1 (A7 _ K) (pv 3) zaj) (zcz (v:=.ref ad0.Zao) (by rfl) Z.Zc8 rfl) (by with_unfolding_all rfl)) (zai (zlt (pcX Zdu hr Z.Zaq (zaa (pv 2) (AI zaj))))) za0)
   (zah (zlt (zfs (C:=ad0.Zaa) (pv 0) Z.Zaj Z.Za2 Zda (hr.mono (by decide)) Z.Zbi .nil zkg (AV 3)))
   (zah (zcn (zat (show OpR _ _ (rInD K false) from zjm hr.units) (A1 (A7 _ K) (pv 3) zaj) (zcz (v:=.ref ad0.Zb7) (by rfl) Z.Zec rfl) (by with_unfolding_all rfl)) (A2 (zfs (C:=ad0.Zaa) (pv 0) Z.Zaj Z.Zcl Zd3 (hr.mono (by decide)) Z.Zc7 .nil zkg (AV 3))) za0)
   (zah (zcn (zat zgh (A1 (A7 _ K) (pv 3) zaj) zak (zbh _)) zu9 (zai (ybu (zsl hr) (zko (pv 0) (by rfl)) (A1 (A7 _ K) (pv 3) zaj) (zfs (C:=ad0.Zaa) (pv 0) Z.Zaj Z.Za4 Zdb (hr.mono (by decide)) Z.Zbf .nil zkg (zaa (pv 3) (AV 2))) rfl)))
   (A2 zak))))))) ?_))
 refine zqy h (by rw[zfj (n:=2) (by rintro z kvs ds ⟨rfl,_⟩;rfl) h];decide) fun G Hz a dd ds z hp rt=>?_
 obtain⟨rfl,hl,hd,hz⟩:=hp
 have ho:zh4 z.1:=by
  rcases hz with hz | ⟨n,b,hn,e,_⟩
  .exact(yaa hz).1
  .rw[e];exact zxw hn
 have hsp:=zr5 ho hl
 have htl:=zxv ho hl
 generalize txtO z=tx at hsp htl
 refine zan (zci (zhp Aq (A5 [10]).b (by rw[Zg2];omega)) fun p=>zc4 (i:=2) rfl ?_)
 ((try dsimp only);refine AQ)
 rw[hsp]
 refine zan (zci (zk3 (pre:=ycq) (res:=zou) z.1 (zab (zay (d:=.str (glue [32] (ordW z.1))) (Aj).l zag.b (zdt (j:=0) rfl)) zaf) ⟨rfl,ho⟩) fun p=>zc4 (i:=3) rfl ?_)
 ((try dsimp only);refine AQ)
 rcases hz with hz | ⟨n,b,hn,e,hb,hv,hs⟩
 .obtain⟨_,hnm,hsh,n,r,e,hA,hR,hN⟩:=yaa hz
  obtain⟨e1,e2⟩:=ybt (kvs:=dd) hsh
  rw[e1,e2,hN] at rt
  have eo:zou z.1= .str z.1.1 :: .str n::r.map D.str:=by unfold zou ordW;rw[e];rfl
  rw[eo]
  have a0:∀{xs:Ae} {y:D},Aa (atI (y::xs) 0) y:=zdt (j:=0) rfl
  have a1:∀{xs:Ae} {x y:D},Aa (atI (x::y::xs) 1) y:=zdt (j:=1) rfl
  have bl:¬ D.str z.1.1∈TKR-> ∀q∈z.2,ycu q.1:=fun h q hq=>by
   rcases hz with ⟨n,hn,e,_⟩ | ⟨n1,n2,n3,n4,b,l,r,h1,h2,h3,h4,rfl,_⟩
   .rw[e] at h;exact absurd tkB h
   .cases hq
  refine zwa (fun ss=>ss=[ksl K ad0.Zaa "books" "rules" a dd,.d (.str tx),A4 ((glue [32] (ordW z.1)::z.2.map (·.1)).map D.str),A4 (.str z.1.1 :: .str n::r.map D.str)]) (fun N hN=>?_) ?_
  .refine zcg (b:=! AE (D.str z.1.1) TKR) (zap (zns (zay (d:=.str z.1.1) (Aj).l zag.b a0).b (zg3 Z.Zb5).b rfl (by decide +kernel) (by simp[D.dep]))) (fun hb=>?_) fun _=>za5 (hN _ rfl)
   refine zwq (Ev.b (zbq (pre:=zyt) (res:=fun _=>.non) (Bc Aj zag zaf) ⟨glue [32] (ordW z.1)::z.2.map (·.1),1,rfl,by decide,fun r hr=>?_⟩)) (hN _ rfl)
   obtain⟨q,hq,rfl⟩:=Zg4.mp (show r∈z.2.map (·.1) from hr)
   exact bl (fun h=>by rw[decide_eq_true h] at hb;cases hb) q hq
  rintro ss rfl
  refine zan (zp8 (zgz (i:=0) (pre:=zx5) (res:=fun _ _=>.non) (new:=fun _ kvs=>kvs) z.1 rfl (znr (by decide +kernel) (by decide +kernel)) (zab Aj zaf) ⟨by rw[<- eo];rfl,ho,hnm⟩) ?_)
  ((try dsimp only);refine AQ)
  refine zan (zcg (b:=AE (D.str z.1.1) ASK) (zap (zw5 (zay (d:=.str z.1.1) (Aj).l zag.b a0).b (zg3 Z.Zdv).b rfl (by decide +kernel) (by simp[D.dep]))) (fun hb=>absurd (of_decide_eq_true hb) hA) fun _=>za5 ?_)
  ((try dsimp only);refine AQ)
  refine zan (zcg (b:=AC z.1.1 (BA "rules")) (zap (zhc (zay (d:=.str z.1.1) (Aj).l zag.b a0).b (BH).b)) (fun hb=>absurd (of_decide_eq_true hb) hR) Bp)
  refine yad (i:=0) (zgz (i:=0) (pre:=yek) (res:=fun z kvs=>bkD (cbB z kvs)) (new:=fun _ kvs=>kvs) z rfl (znr (by decide +kernel) (by decide +kernel)) (Bc Aj Aj zaf) ⟨by rw[<- eo];rfl,hz⟩) rfl Z.Zaj Z.Zak (zay (d:=.str n) (Aj).l zag.b a1).b rfl (by rw[Zg2];omega) ?_
  ((try dsimp only);refine AQ)
  exact zjd (i:=0) (zhh BH) rfl rt
 .have en:nmO z=n:=by unfold nmO;rw[e];rfl
  obtain⟨e1,e2⟩:=ztk (z:=z) (kvs:=dd) (b:=b) (by rw[e]) (by rw[en];exact hv)
  rw[e1,e2] at rt
  rw[show zou z.1=[.str zby,.str n] by unfold zou;rw[e];rfl]
  refine zan (zcg (b:=! AE (D.str zby) TKR) (zap (zns (zay (d:=.str zby) (Aj).l zag.b rfl).b (zg3 Z.Zb5).b rfl (by decide +kernel) (by simp[D.dep]))) Bp fun hb=>by rw[decide_eq_false (ntk (by decide +kernel))] at hb;cases hb)
  refine zwq (Ev.b (zbq (pre:=zyt) (res:=fun _=>.non) (Bc Aj zag zaf) ⟨glue [32] (ordW z.1)::z.2.map (·.1),1,rfl,by decide,fun r hr=>?_⟩)) ?_
  .obtain⟨q,hq,rfl⟩:=Zg4.mp (show r∈z.2.map (·.1) from hr);exact hb q hq
  ((try dsimp only);refine AQ)
  refine zan (zp8 (zgz (i:=0) (pre:=zx5) (res:=fun _ _=>.non) (new:=fun _ kvs=>kvs) z.1 rfl (znr (by decide +kernel) (by decide +kernel)) (zab Aj zaf) ⟨by rw[e];rfl,ho,by rw[e];exact ybg (by rw[hv];rfl)⟩) ?_)
  ((try dsimp only);refine AQ)
  refine zan (zcg (b:=AE (D.str zby) ASK) (zap (zw5 (zay (d:=.str zby) (Aj).l zag.b rfl).b (zg3 Z.Zdv).b rfl (by decide +kernel) (by simp[D.dep]))) Bp fun hb=>by rw[decide_eq_true askS] at hb;cases hb)
  exact zjd (i:=0) (zgz (i:=0) (pre:=ybh) (res:=fun x _=>.str (zec x.2)) (new:=fun _ kvs=>kvs) (n,b) rfl (znr (by decide +kernel) (by decide +kernel)) (zab Aj zaf) ⟨rfl,hv,hs⟩) rfl rt
noncomputable def dueQ(b0 b1 b2 b3:As):As:=(b0.filter fun f=>AE f b1&&(AE f b2&&AE f b3))++([b1,b2,b3].flatMap fun s=>s.filter fun f=>! AE f b0)
theorem zin(b0 b1 b2 b3:As)(f:Fct):f∈dueQ b0 b1 b2 b3↔Pour b0 [b1,b2,b3] f:=by
 unfold dueQ Pour
 by_cases h:f∈b0 <;> simp[h]
noncomputable def yfi(ds:Ae):Prop:=∃b0 b1 b2 b3:As,ds=[.lst [bkD b0,bkD b1,bkD b2,bkD b3]]/\b0.length<=60/\b1.length<=60/\b2.length<=60/\b3.length<=60
noncomputable def ybr:Ae->Ae
 | [.lst [.lst a,.lst b,.lst c,.lst d]]=>(Bu (dueQ (a.map unF) (b.map unF) (c.map unF) (d.map unF))).map encF
 | _=>[]
theorem zmm(b0 b1 b2 b3:As):ybr [.lst [bkD b0,bkD b1,bkD b2,bkD b3]]=(Bu (dueQ b0 b1 b2 b3)).map encF:=by
 show(Bu (dueQ ((b0.map encF).map unF) ((b1.map encF).map unF) ((b2.map encF).map unF) ((b3.map encF).map unF))).map encF=_
 rw[zdc,zdc,zdc,zdc]
theorem zt8(f:Fct)(b:As):AE (encF f) (b.map encF)=AE f b:=decide_eq_decide.mpr zcx
theorem zsp(Z:Tx K mg ad0):FnOk P w K mg base CX0 2 ad0.Zcy ad0.Zcw zfk (SpO K yfi ybr):=by
 have Zdw:=zjt (P:=P) (w:=w) (base:=base) Z
 refine okO Z.Zdj.F zep (by rintro ds ⟨a,b,c,d,rfl,_⟩;rfl) (By _ (zah (zwr (i:=1) zep.nd rfl (Zv7 rfl) (A1 (A7 _ K) (pv 0) zaj))
   (zah (zlv (i:=2) zep.nd rfl (Zlq rfl) rfl (LcOk.of (Nx:=(["_law_books", "_law_base", "_law_due_here", "_law_side"]:Al)) (sc:=zad zel) (N':=(["_law_fact_here", "_law_books"]:Al)) (nt:=1) (cs:=[0]) rfl rfl (by decide +kernel)) (zda (pv 1)) (fun _ _ _ _=>(BR 0 (Zi7 (["_law_fact_here", "_law_books"]:Al)) rfl (Zlq rfl))) (fun _ _ _ _=>(zk7 (PW.pt (zi0 (zat (show OpR _ _ (rInD K false) from zjm hr.units) (pv 0) (A1 (A7 _ K) (pv 1) zaj) (by with_unfolding_all rfl)) (zi0 (zat (show OpR _ _ (rInD K false) from zjm hr.units) (pv 0) (A1 (A7 _ K) (pv 1) zaj) (by with_unfolding_all rfl)) (zjx (zat (show OpR _ _ (rInD K false) from zjm hr.units) (pv 0) (A1 (A7 _ K) (pv 1) zaj) (by with_unfolding_all rfl)))))))) (fun _ _ _ _=>(pv 0)))
   (zah (zek Ziw rfl (zda (zea zhq (pv 0) (ze7 zaj) zgt)) (pgn 3 zep.nd) (zai (psn 2 zep.nd (zax (show OpR _ _ (zo1 K) from zmd) (pv 2) (znd rfl (LcOk.of (Nx:=(["_law_books", "_law_base", "_law_due_here", "_law_side"]:Al)) (sc:=zad zel) (N':=(["_law_fact_here", "_law_base"]:Al)) (nt:=1) (cs:=[1]) rfl rfl (by decide +kernel)) (zda (pv 3)) (fun _ _ _ _=>(BR 0 (Zi7 (["_law_fact_here", "_law_base"]:Al)) rfl (Zlq rfl))) (fun _ _ _ _=>(zk7 (zat (show OpR _ _ (rInD K true) from zmo hr.units) (pv 0) (pv 1) (by with_unfolding_all rfl)))) (fun _ _ _ _=>(pv 0)))))))
   (A2 (pcX Zdw hr Z.Zcb (AV 2)))))) BJ)
 obtain⟨b0,b1,b2,b3,rfl,l0,l1,l2,l3⟩:=hp
 rw[zmm] at rt
 have inB:∀{L0:Hp} {ss:List Sl} {ta tb:TE} {f:Fct} {b:As},Ev K G H L0 ss ta (encF f)->Ev K G H L0 ss tb (bkD b)->Ev K G H L0 ss (tOp (rInD K false) ta tb) (.bl (AE f b)):=fun {L0 ss ta tb f b} x y=>by
  rw[<- zt8]
  exact ydk x.b y.b (nbF _) (D.nbs_map nbF _) (by have:=dpF f;omega)
 have ninB:∀{L0:Hp} {ss:List Sl} {ta tb:TE} {f:Fct} {b:As},Ev K G H L0 ss ta (encF f)->Ev K G H L0 ss tb (bkD b)->Ev K G H L0 ss (tOp (rInD K true) ta tb) (.bl (! AE f b)):=fun {L0 ss ta tb f b} x y=>by
  rw[<- zt8]
  exact zwi x.b y.b (nbF _) (D.nbs_map nbF _) (by have:=dpF f;omega)
 refine zan (zco (d:=bkD b0) (zay (Aj).l zag.b rfl) ?_)
 ((try dsimp only);refine AQ)
 refine zan (zci (ds:=(b0.filter fun f=>AE f b1&&(AE f b2&&AE f b3)).map encF) (zp1 b0 encF (fun f=>AE f b1&&(AE f b2&&AE f b3)) encF (Aj).l (zch (by decide)) (by decide) (by rw[Zg2];omega) fun f hf=>⟨_,zav,zfu (zap (inB Aj (zay (Aj).l zag.b rfl))) fun _=>zfu (zap (inB Aj (zay (Aj).l zag.b rfl))) fun _=>zap (inB Aj (zay (Aj).l zag.b rfl)),fun _=>Aj⟩) fun p=>?_)
 ((try dsimp only);refine AQ)
 have hfl:=Zmh (fun f=>AE f b1&&(AE f b2&&AE f b3)) b0
 generalize hq:(b0.filter fun f=>decide (f∈b1)&&(decide (f∈b2)&&decide (f∈b3)))=q0 at hfl
 have es:EvO K G H G [A4 [bkD b0,bkD b1,bkD b2,bkD b3],.d (bkD b0),.o p (q0.map encF),.un] (tSl (rSlL K) (tVar 0) (zp0 (tC (.int 1))) zi8) ([b1,b2,b3].map bkD):=by
  rw[show[b1,b2,b3].map bkD=cutD [bkD b0,bkD b1,bkD b2,bkD b3] (some 1) none from(cut1 _ _).symm]
  exact zhl (lo:=some 1) (hi:=none) (Aj).l (zdl zag.b) zje
 refine zan (zky bkD [b1,b2,b3] (fun k ss=>∃(pk:Addr) (v3:Sl),ss=[A4 [bkD b0,bkD b1,bkD b2,bkD b3],.d (bkD b0),.o pk ((q0++([b1,b2,b3].take k).flatMap fun s=>s.filter fun f=>! AE f b0).map encF),v3]/\(q0++([b1,b2,b3].take k).flatMap fun s=>s.filter fun f=>! AE f b0).length<=60+60*k) es.ev ⟨p,.un,by rw[show[b1,b2,b3].take 0=[] from rfl,Zuz,Zh0];rfl,by rw[show[b1,b2,b3].take 0=[] from rfl,Zuz,Zh0];omega⟩ ?_ ?_)
 .rintro L' k sx ss hL hk ⟨pk,v3,rfl,hlen⟩
  refine(AD zav (fun N hN=>?_))
  have hk3:k<3:=by have:=(Zgo.mp hk).1;simpa using this
  have hsx:sx∈[b1,b2,b3]:=Zgs hk
  have hsl:sx.length<=60:=by simp only[Zgp,Zhf,or_false] at hsx;rcases hsx with rfl | rfl | rfl <;> assumption
  have e:q0++(([b1,b2,b3].take (k+1)).flatMap fun s=>s.filter fun f=>! AE f b0)=(q0++([b1,b2,b3].take k).flatMap fun s=>s.filter fun f=>! AE f b0)++sx.filter fun f=>! AE f b0:=by
   rw[Zjm,hk,List.flatMap_append];simp
  have hf2:=Zmh (fun f=>! AE f b0) sx
  refine zci (ds:=(q0++(([b1,b2,b3].take (k+1)).flatMap fun s=>s.filter fun f=>! AE f b0)).map encF) ?_ fun pt'=>hN _ (AM pt' _ (by rw[e,Zhl];omega))
  have e2:=congrArg (Zpf encF) e
  rw[Zkn (l₁:=q0++([b1,b2,b3].take k).flatMap fun s=>s.filter fun f=>! AE f b0)] at e2
  rw[e2]
  refine zlg (da:=(q0++([b1,b2,b3].take k).flatMap fun s=>s.filter fun f=>! AE f b0).map encF) (db:=(sx.filter fun f=>! AE f b0).map encF) (zde rfl) ?_ ?_
  rotate_left
  .rw[Zgn,Zgn,Zg2];omega
  exact(EvO.l (zp1 sx encF (fun f=>! AE f b0) encF (Aj).l (zch (by decide)) (by decide) (by rw[Zg2];omega) fun f hf=>⟨_,zav,zap (ninB Aj Aj),fun _=>Aj⟩))
 .rintro ss ⟨pk,v3,rfl,hlen⟩
  refine zc4 (i:=2) rfl ?_
  ((try dsimp only);refine AQ)
  have e:q0++(([b1,b2,b3].take [b1,b2,b3].length).flatMap fun s=>s.filter fun f=>! AE f b0)=dueQ b0 b1 b2 b3:=by rw[<- hq];rfl
  rw[e] at hlen ⊢
  rw[<- zji] at rt
  exact zir (zhb (pre:=yax) (res:=zyp) (zab Aj zaf) (Aw _ (by simp at hlen;omega))) rt
theorem yco{α:Type}[DecidableEq α]{a b:List α}(h:a.Nodup)(hs:∀x∈a,x∈b):a.length<=b.length:=by
 induction a generalizing b with
 | nil=>exact Zhr _
 | cons x a ih =>
  obtain⟨h1,h2⟩:=Zid.mp h
  have:=ih (b:=b.erase x) h2 fun y hy=>(Zon (fun(e:y=x)=>h1 (e ▸ hy))).mpr (hs y (Zgq _ hy))
  rw[Znn (hs x Zgz)] at this
  have hp:=Znz (hs x Zgz)
  rw[Zg5];omega
noncomputable def InU(U b:As):Prop:=Bk b /\ ∀f∈b,f∈U
theorem InU.len{U b:As}(h:InU U b):b.length<=U.length:=yco h.1.1 h.2
theorem InU.shb{U b:As}(h:InU U b)(hU:U.length<=50):ShB b:=⟨h.1,by have:=h.len;omega⟩
theorem InU.pour{U b l r:As}(h1:InU U b)(h2:InU U l)(h3:InU U r):InU U (za1 b l r):=by
 refine⟨zf7 b l r,fun f hf=>?_⟩
 rcases(zc2 b l r f).mp hf with ⟨h,_⟩ | ⟨_,s,hs,h⟩
 .exact h1.2 f h
 .simp only[Zgp,Zhf,or_false] at hs
  rcases hs with rfl | rfl
  .exact h2.2 f h
  .exact h3.2 f h
theorem InU.mk{U c:As}(h:∀f∈c,f∈U):InU U (Bu c):=⟨zg2 (zd8 _),fun f hf=>h f (by rw[zdy,zdi] at hf;exact hf)⟩
theorem InU.sho{U b:As}(h:InU U b)(hU:U.length<=50)(ho:∀f∈U,FOk f):ShOk b:=by
 refine⟨by have:=h.len;omega,fun x hx=>?_⟩
 rw[zpw]
 have:=zu7 (ho x (h.2 x hx)).1
 omega
theorem ybi{b:As}(h:Bk b):Bu b=b:=Bk.ext (zg2 (zd8 _)) h fun f=>by rw[zdy,zdi]
noncomputable def lnsB(b:As):List Ln:=b.map fun f=>(rowL f,some f)
theorem zxh(b:As):txtOf (lnsB b)=zec b:=by
 unfold txtOf lnsB zec
 rw[Zin]
 exact congrArg _ (Zow fun f _=>(zpw f).symm)
theorem zvs{b:As}(h:∀f∈b,FOk f):∀p∈lnsB b,LnOk p:=fun p hp=>by
 obtain⟨f,hf,rfl⟩:=Zg4.mp hp;exact ydc (h f hf).1
theorem zry{b:As}(h:∀f∈b,FOk f):zb3 (lnsB b)=b:=by
 unfold zb3 lnsB
 rw[Ztx]
 induction b with
 | nil=>rfl
 | cons f b ih =>
  rw[Ziy (b:=f) (by show some (foF f)=some f;rw[(h f (by simp)).2]),ih fun g hg=>h g (Zgq _ hg)]
theorem zb8(c:Int){k x:Nat}(h:97+k≠x):cardQ c k≠[x]:=fun z=>by
 have:97+k∈cardQ c k:=by unfold cardQ;simp
 rw[z,Zg0] at this
 exact h this
noncomputable def lnE(ls:List Ln):List Ln:=if ls=[] then [([],none)] else ls
theorem yan(ls:List Ln):glue [10] ((lnE ls).map (·.1))=txtOf ls:=by
 unfold lnE txtOf
 split
 .rename_i h;rw[h];rfl
 .rfl
theorem yc2(ls:List Ln):(lnE ls).map (·.1)≠[]:=by
 unfold lnE
 split
 .simp
 .simpa
theorem yda{ls:List Ln}(h:∀p∈ls,LnOk p):∀p∈lnE ls,LnOk p:=by
 unfold lnE
 split
 .intro p hp;rw[Zg0.mp hp];exact⟨by simp,by simp,by decide +kernel⟩
 .exact h
theorem zs6(ls:List Ln):zb3 (lnE ls)=zb3 ls:=by
 unfold lnE
 split
 .rename_i h;rw[h];rfl
 .rfl
theorem zwg(z a:Ac){r:AT}(h:r≠[]):glue z (a::r)=a++z++glue z r:=by
 cases r with
 | nil=>exact absurd rfl h
 | cons b r=>rfl
theorem zpk:(∀c∈zbe++[32],c<128) /\ ∀c∈zby++[32],c<128:=by decide +kernel
theorem zwd(wd n:Ac)(ls:List Ln):txtO ((wd,[n]),lnE ls)=wd++[32]++n++[10]++txtOf ls:=by
 unfold txtO ordW
 rw[zwg [10] _ (yc2 ls),yan]
 rfl
theorem zn8(wd n:Ac):txtO ((wd,[n]),[])=wd++[32]++n:=rfl
noncomputable abbrev zyu:R2:=fun x y H Q=>∃i j,x= .str i/\y= .str j/\AL (i.length+j.length)/\Q (.str (i++j)) H
section
variable{G Hz L:Hp}{ss:List Sl}{t t1 t2:TE}
theorem ev_ord(wd:Str)(w0:Ac)(e0:wd.cps.toList=w0++[32])(h0:∀c∈w0++[32],c<128)(hl:w0.length<=10){n:Ac}(hn:za8 n)(a:Ap K G L t1 (.str n)):Ap K G L (tOp zyu (tC (.str wd)) t1) (.str (txtO ((w0,[n]),[]))):=by
 rw[zn8]
 have h:=hn.2.1
 exact zbo (l:=w0++[32]) (zau (by rw[<- e0];cases wd;rfl) h0).b a.b (by rw[Zg2];simp;omega)
theorem ya6(wd:Str)(w0:Ac)(e0:wd.cps.toList=w0++[32])(h0:∀c∈w0++[32],c<128)(hl:w0.length<=10){n:Ac}(hn:za8 n){ls:List Ln}(hls:(txtOf ls).length<=100000)(a:Ap K G L t1 (.str n))(b:Ap K G L t2 (.str (txtOf ls))):Ap K G L (tOp zyu (tOp zyu (tOp zyu (tC (.str wd)) t1) (tC (.str "\n"))) t2) (.str (txtO ((w0,[n]),lnE ls))):=by
 rw[zwd]
 have h:=hn.2.1
 have h1:=ev_ord wd w0 e0 h0 hl hn a
 rw[zn8] at h1
 exact BS (BS h1.b (A5 [10]).b).b b.b
end
theorem zwz(a b c d:Ac):txtO ((zbz,[a,b,c,d]),[])=zbz++[32]++a++[32]++b++[32]++c++[32]++d:=by
 unfold txtO ordW
 simp[glue]
theorem zwo{b:As}(hb:Bk b)(hl:b.length<=63)(ho:∀f∈b,FOk f){n:Ac}(hn:za8 n)(dd:DD)(hd:dd.length<1000):znv ((zbe,[n]),lnE (lnsB b)) dd [.str (txtO ((zbe,[n]),lnE (lnsB b)))]/\zi2 ((zbe,[n]),lnE (lnsB b)) dd= .str okW/\zju ((zbe,[n]),lnE (lnsB b)) dd=BE dd n b:=by
 have h1:=yda (zvs ho)
 have h2:(lnE (lnsB b)).length<=300:=by unfold lnE;split <;> simp[lnsB];omega
 have hB:BkO ((zbe,[n]),lnE (lnsB b)):=⟨n,hn,rfl,h2,h1⟩
 obtain⟨q1,q2⟩:=ybt (z:=((zbe,[n]),lnE (lnsB b))) (kvs:=dd) zpt.2.2.2.2.1
 refine⟨⟨rfl,⟨h2,fun p hp=>⟨(h1 p hp).1,(h1 p hp).2.1⟩⟩,hd,.inl (.inl hB)⟩,q1,q2.trans ?_⟩
 have:cbB ((zbe,[n]),lnE (lnsB b)) dd=b:=by
  unfold cbB
  rw[if_pos rfl]
  show Bu (zb3 (lnE (lnsB b)))=b
  rw[zs6,zry ho,ybi hb]
 rw[this];rfl
theorem zds{n1 n2 n3 n4:Ac}{b l r:As}{dd:DD}(h1:za8 n1)(h2:za8 n2)(h3:za8 n3)(h4:za8 n4)(v2:Aa (Bm dd n2) (bkD b))(v3:Aa (Bm dd n3) (bkD l))(v4:Aa (Bm dd n4) (bkD r))(s2:ShB b)(s3:ShB l)(s4:ShB r)(hd:dd.length<1000):znv ((zbz,[n1,n2,n3,n4]),[]) dd [.str (txtO ((zbz,[n1,n2,n3,n4]),[]))]/\zi2 ((zbz,[n1,n2,n3,n4]),[]) dd= .str okW/\zju ((zbz,[n1,n2,n3,n4]),[]) dd=BE dd n1 (za1 b l r):=by
 have hP:PoO ((zbz,[n1,n2,n3,n4]),[]) dd:=⟨n1,n2,n3,n4,b,l,r,h1,h2,h3,h4,rfl,v2,v3,v4,s2,s3,s4⟩
 obtain⟨q1,q2⟩:=ybt (z:=((zbz,[n1,n2,n3,n4]),[])) (kvs:=dd) zpt.2.2.2.2.2
 refine⟨⟨rfl,⟨Zhr _,fun p hp=>by cases hp⟩,hd,.inl (.inr hP)⟩,q1,q2.trans ?_⟩
 have:cbB ((zbz,[n1,n2,n3,n4]),[]) dd=za1 b l r:=by
  unfold cbB
  rw[if_neg zpt.2.1]
  show za1 (bkAt dd n2) (bkAt dd n3) (bkAt dd n4)=_
  rw[zhn v2,zhn v3,zhn v4]
 rw[this];rfl
theorem zj4{n:Ac}(hn:za8 n){b:As}(hb:ShOk b){dd:DD}(hd:dd.length<1000)(hv:Aa (Bm dd n) (bkD b)):znv ((zby,[n]),[]) dd [.str (txtO ((zby,[n]),[]))]/\zi2 ((zby,[n]),[]) dd= .str (zec b)/\zju ((zby,[n]),[]) dd=dd :=
 ⟨⟨rfl,⟨Zhr _,fun p hp=>by cases hp⟩,hd,.inr ⟨n,b,hn,rfl,(fun p hp=>by cases hp),hv,hb⟩⟩,ztk (z:=((zby,[n]),[])) rfl hv⟩
theorem zqj(b o t h:As):za1 b (za1 b o t) h=Bu (dueQ b o t h):=Bk.ext (zf7 _ _ _) (zg2 (zd8 _)) fun f=>by
 rw[zc2,zdy,zdi,zin]
 unfold Pour
 simp only[Zgp,Zhf,or_false,forall_eq_or_imp,forall_eq,exists_eq_or_imp,exists_eq_left,zc2,Pour]
 by_cases f∈b <;> simp[*,or_assoc,and_assoc]
theorem yen(b o t h:As):za1 b o (za1 b h t)=Bu (dueQ b o t h):=Bk.ext (zf7 _ _ _) (zg2 (zd8 _)) fun f=>by
 rw[zc2,zdy,zdi,zin]
 unfold Pour
 simp only[Zgp,Zhf,or_false,forall_eq_or_imp,forall_eq,exists_eq_or_imp,exists_eq_left,zc2,Pour]
 by_cases f∈b <;> simp[*,or_comm,and_comm,or_assoc,and_assoc,or_left_comm,and_left_comm]
theorem ye9(b o t h:As):za1 b (Bu (dueQ b o t h)) t=Bu (dueQ b o t h):=Bk.ext (zf7 _ _ _) (zg2 (zd8 _)) fun f=>by
 rw[zc2,zdy,zdi,zin]
 unfold Pour
 simp only[Zgp,Zhf,or_false,forall_eq_or_imp,forall_eq,exists_eq_or_imp,exists_eq_left,zdy,zdi,zin,Pour]
 by_cases h1:f∈b <;> by_cases h2:f∈o <;> by_cases h3:f∈t <;> by_cases h4:f∈h <;> simp[*]
theorem zz9{b t:As}(ht:Bk t):za1 b b t=t:=Bk.ext (zf7 _ _ _) ht fun f=>by
 rw[zc2]
 unfold Pour
 by_cases h1:f∈b <;> by_cases h3:f∈t <;> simp[*]
noncomputable def encO(o:Ac×Ac×Ac):D:=.lst [.str o.1,.str o.2.1,.str o.2.2]
noncomputable def ordQ(n0 n1 n2 n3:Ac):Ai Ac (Ac×Ac):=[([120],n1,n2),([120],[120],n3),([121],n3,n2),([121],n1,[121]),([122],[121],n2),([119],n0,n3),(n0,n0,n0)]
theorem vput{kvs:DD}{a b:Ac}{d:D}:Bm (putD kvs (.str b) d) a=if a=b then some d else Bm kvs a:=by
 rw[zy7]
 by_cases h:a=b
 .rw[if_pos h,if_pos (by rw[h])]
 .rw[if_neg h,if_neg fun z=>h (D.str.inj z)]
noncomputable def wsT:List Int:=[1,2,4,8]
theorem yfm(Z:Tx K mg ad0){q:Addr}{kvs:Ai Key V}(ZF:FormsK P w K mg q kvs):FnOk P w K mg base CX0 21 ad0.Ze2 ad0.Zeg zty (zyb K):=by
 have Zd2:=zkn (P:=P) (w:=w) (base:=base) Z
 have Zcj:=zjs (P:=P) (w:=w) (base:=base) Z
 have Zfz:=zpo (P:=P) (w:=w) (base:=base) Z
 have Zdw:=zjt (P:=P) (w:=w) (base:=base) Z
 have Zcs:=zmv (P:=P) (w:=w) (base:=base) Z
 have Zf5:=zsp (P:=P) (w:=w) (base:=base) Z
 have Zd9:=zm8 (P:=P) (w:=w) (base:=base) Z
 have Zas:=zpv (P:=P) (w:=w) (base:=base) Z ZF
 refine Z.Zee.F.ok zcd (fun vs H Q E h=>by obtain⟨a,ns,rfl,_⟩:=h;rfl) (fun cdv A outer s H vs Q E hr h=>(AD (zah (zwr (i:=1) zcd.nd rfl (Zv7 rfl) (pcX Zd2 hr Z.Za9 (zaa (pv 0) (AI zaj))))
   (zah (psn 2 zcd.nd (zax zi9 zaj (zax zer (pcX Zd2 hr Z.Za9 (zaa (pv 0) (AI zaj))) zaj)))
   (zah (psn 3 zcd.nd (zb2 (zaa (zb2 zae) (zaa (zb2 zae) (zaa (zb2 zae) (AI (zb2 zae)))))))
   (zah (zek Ziw rfl (zda (zea zhq (pv 0) (ze7 zaj) (ze7 zaj))) (pgn 4 zcd.nd) (zai (zek Ziw rfl (zg4 (by rfl) Z.Zdf (AI zaj)) (pgn 5 zcd.nd) (zai (zcn (zat zgh (zax zer (zax zeb (pv 4) (A1 (show IxR _ (rIxT K) from yc5) (zob (zaa zaj (zaa zaj (zaa zaj (AI zaj))))) (pv 5))) zaj) zaj (zbh _)) (zai (zlt (zf2 Zvy Zp1 Zvc zix (A1 (A7 _ K) (pv 3) (pv 5)) (AI (pcX Zfz hr Z.Zc9 (zaa (pv 1) (zaa (pv 2) (AI (zax zeb (pv 4) zaj))))))))) za0)))))
   (zah (zlv (i:=3) zcd.nd rfl (Zlq rfl) rfl (LcOk.of (Nx:=(["_law_script", "_law_shape", "_law_many", "_law_books", "_law_cell", "_law_k", "_law_names", "_law_desk", "_law_base", "_law_one", "_law_other", "_law_third", "_law_orders", "_law_new", "_law_left", "_law_right", "_law_due_here", "_law_name"]:Al)) (sc:=zad zrq) (N':=(["_law_book_here"]:Al)) (nt:=1) (cs:=[]) rfl rfl (by decide +kernel)) (zda (pv 3)) (fun _ _ _ _=>(BR 0 (Zi7 (["_law_book_here"]:Al)) rfl (Zlq rfl))) (fun _ _ _ _=>zd7) (fun _ _ _ _=>(pcX Zdw hr Z.Zcb (AV 0))))
   (zah (zlv (i:=6) zcd.nd rfl (Zlq rfl) rfl (LcOk.of (Nx:=(["_law_script", "_law_shape", "_law_many", "_law_books", "_law_cell", "_law_k", "_law_names", "_law_desk", "_law_base", "_law_one", "_law_other", "_law_third", "_law_orders", "_law_new", "_law_left", "_law_right", "_law_due_here", "_law_name"]:Al)) (sc:=zad zrq) (N':=(["_law_k", "_law_shape"]:Al)) (nt:=1) (cs:=[1]) rfl rfl (by decide +kernel)) (zg4 (by rfl) Z.Zdf (AI zaj)) (fun _ _ _ _=>(BR 0 (Zi7 (["_law_k", "_law_shape"]:Al)) rfl (Zlq rfl))) (fun _ _ _ _=>zd7) (fun _ _ _ _=>(pcX Zcj hr Z.Za5 (zaa (zax zeb (pv 1) zaj) (AV 0)))))
   (zah (psn 7 zcd.nd (zx8 Z.Zer Zd9 (hr.mono (by decide)) (by rfl) Z.Zff Z.Zdo .nil zkg))
   (zah (zek Ziw rfl (zg4 (by rfl) Z.Zdf (AI zaj)) (pgn 5 zcd.nd) (zai (zcn (zat zly (zfs (C:=ad0.Zaa) (pv 7) Z.Zaj Z.Zaz Zas (hr.mono (by decide)) Z.Za3 .nil zkg (AI (zax zaq (zax zaq (zax zaq zak (A1 (A7 _ K) (pv 6) (pv 5))) zak) (pcX Zcs hr Z.Zax (AI (A1 (A7 _ K) (pv 3) (pv 5))))))) zak (zbh _)) (A2 zow) za0)))
   (zah (yey (pv 6) (zwy rfl (zbd (pgn 8 zcd.nd) (zbd (pgn 9 zcd.nd) (zbd (pgn 10 zcd.nd) (zbd (pgn 11 zcd.nd) zft))))))
   (zah (psn 12 zcd.nd (zb2 (zaa (zb2 (zaa zak (zaa (pv 9) (AV 10)))) (zaa (zb2 (zaa zak (zaa zak (AV 11)))) (zaa (zb2 (zaa zak (zaa (pv 11) (AV 10)))) (zaa (zb2 (zaa zak (zaa (pv 9) (AI zak)))) (AI (zb2 (zaa zak (zaa zak (AV 10)))))))))))
   (zah (zek Ziw rfl (zda (zax (show OpR _ _ (zo1 K) from zmd) (pv 12) (zb2 (zaa (zb2 (zaa zak (zaa (pv 8) (AV 11)))) (AI (zb2 (zaa (pv 8) (zaa (pv 8) (AV 8))))))))) (zwy rfl (zbd (pgn 13 zcd.nd) (zbd (pgn 14 zcd.nd) (zbd (pgn 15 zcd.nd) zft)))) (zai (zcn (zat zly (zfs (C:=ad0.Zaa) (pv 7) Z.Zaj Z.Zaz Zas (hr.mono (by decide)) Z.Za3 .nil zkg (AI (zax zaq (zax zaq (zax zaq (zax zaq (zax zaq (zax zaq (zax zaq zak (pv 13)) zak) (pv 8)) zak) (pv 14)) zak) (pv 15)))) zak (zbh _)) (A2 zow) za0)))
   (zah (psn 16 zcd.nd (pcX Zcs hr Z.Zax (AI (pcX Zf5 hr Z.Zdj (AV 3)))))
   (zah (zek Ziw rfl (zda (zb2 (zaa zak (zaa zak (AI zak))))) (pgn 17 zcd.nd) (zai (zcn (zat zly (zfs (C:=ad0.Zaa) (pv 7) Z.Zaj Z.Zaz Zas (hr.mono (by decide)) Z.Za3 .nil zkg (AI (zax zaq zak (pv 17)))) (pv 16) (zbh _)) (A2 zow) za0)))
   (zah (zcn (zat zly (zfs (C:=ad0.Zaa) (pv 7) Z.Zaj Z.Zaz Zas (hr.mono (by decide)) Z.Za3 .nil zkg (AI zak)) (pcX Zcs hr Z.Zax (AI (A1 (A7 _ K) (pv 3) zaj))) (zbh _)) (A2 zow) za0)
   (zah (zek Ziw rfl (zg4 (by rfl) Z.Zdf (AI zaj)) (pgn 5 zcd.nd) (zai (zcn (zat zly (zfs (C:=ad0.Zaa) (pv 7) Z.Zaj Z.Zaz Zas (hr.mono (by decide)) Z.Za3 .nil zkg (AI (zax zaq zak (A1 (A7 _ K) (pv 6) (pv 5))))) (pcX Zcs hr Z.Zax (AI (A1 (A7 _ K) (pv 3) (pv 5)))) (zbh _)) (A2 zow) za0)))
   (A2 zow)))))))))))))))) ?_))
 obtain⟨a,ns,rfl,sq,hl,hQ⟩:=h
 have r:AB H [.lst (ns.map .int)] [Au]:=Reps.cons (Rep.lst sq (znx ns)) Reps.nil
 have rt:RtD K H H Q (.bl true):=fun v F H' e r=>by rw[r.of_bl];exact hQ H'
 refine(?_:Go K H H H _ (slots 18 [.lst (ns.map .int)]) _) H H _ (zdp (Same.refl H) r (by simp))
 have cell:∀k:Int,∃i,zfb [.lst (ns.map .int),.int k]= .int i:=fun k=>by
  show ∃i,(ns.map D.int).getD k.toNat (.int 0)= .int i
  rw[Zgf,Zgy]
  cases ns[k.toNat]? <;> exact(AF _)
 obtain⟨i0,ei0⟩:=cell 0
 obtain⟨i1,ei1⟩:=cell 1
 refine zan (zco (d:=.int i0) (by rw[<- ei0];exact zbq (pre:=zo4) (res:=zfb) (Bc Aj zag zaf) (AM ns 0 (by omega))) ?_)
 ((try dsimp only);refine AQ)
 have m0:=Zhv i1 (show(6:Int)≠0 by decide)
 have m1:=Zhm i1 (show(0:Int)<6 by decide)
 refine zan (zco (d:=.int (1+i1 % 6)) (zjg zag.b (zeo (Ev.b (by rw[<- ei1];exact zbq (pre:=zo4) (res:=zfb) (Bc Aj zag zaf) (AM ns 1 (by omega)))) zag.b (by decide)).b) ?_)
 ((try dsimp only);refine AQ)
 refine zan (zxe (i:=3) (dss:=[[],[],[],[]]) (zyj (zg7 (zbr zaf (small (by decide))) (zg7 (zbr zaf (small (by decide))) (zg7 (zbr zaf (small (by decide))) (zg7 (zbr zaf (small (by decide))) zxg)))) (small (by decide))) fun p qs hq=>?_)
 ((try dsimp only);refine AQ)
 generalize hxs:(ns.drop 2).take 50=xs
 have hxl:xs.length<=50:=by rw[<- hxs];simp;omega
 let U:As:=xs.map fun c=>zg5 i0 (1+i1 % 6) (c / 16)
 have hUl:U.length<=50:=by show(Zpf _ _).length<=50;rw[Zgn];exact hxl
 have hUo:∀f∈U,FOk f:=fun f hf=>by
  obtain⟨c,_,rfl⟩:=Zg4.mp hf
  have:=zx9 i0 (m:=1+i1 % 6) (c:=c / 16) (by omega) (by omega)
  exact⟨this.1,this.2.1⟩
 have hUm:∀c∈xs,zg5 i0 (1+i1 % 6) (c / 16)∈U:=fun c hc=>Zg4.mpr ⟨c,hc,rfl⟩
 have exs:cutD (ns.map D.int) (some 2) (some 52)=xs.map D.int:=by
  rw[zyo _ (by decide) (by decide),<- hxs,Zpe,Zmo];rfl
 have src:∀{ss:List Sl},Ax ss 0 (A4 (ns.map .int))->Ev K H H H ss (tSl (rSlL K) (tVar 0) (zp0 (tC (.int 2))) (zp0 (tC (.int 52)))) (.lst (xs.map D.int)):=fun h=>by
  rw[<- exs]
  exact(zhl (zac h).l (zdl zag.b) (zdl zag.b)).ev
 generalize U=U at hUl hUo hUm
 refine zan (zky D.int xs (fun k ss=>∃(qs:AJ Ae) (bs:List As) (v4 v5:Sl),ss=[A4 (ns.map .int),.d (.int i0),.d (.int (1+i1 % 6)),.oo p qs,v4,v5,.un,.un,.un,.un,.un,.un,.un,.un,.un,.un,.un,.un]/\qs.map (·.2)=bs.map (·.map encF)/\bs.length=4 /\ ∀b∈bs,b.length<=k /\ ∀f∈b,f∈U) (src rfl) ⟨qs,[[],[],[],[]],.un,.un,rfl,hq,rfl,by simp⟩ ?_ ?_)
 .rintro L' k c ss hL hk ⟨qs,bs,v4,v5,rfl,hqb,hb3,hbs⟩
  refine(AD zav (fun N hN=>?_))
  have hk63:k<50:=by have:=(Zgo.mp hk).1;omega
  have hcU:=hUm c (Zgs hk)
  refine zli (n:=4) (fun j ss=>∃(qs:AJ Ae) (bs:List As) (v5:Sl),ss=[A4 (ns.map .int),.d (.int i0),.d (.int (1+i1 % 6)),.oo p qs,.d (.int c),v5,.un,.un,.un,.un,.un,.un,.un,.un,.un,.un,.un,.un]/\qs.map (·.2)=bs.map (·.map encF)/\bs.length=4 /\ ∀(i:Nat) (b:As),Ak bs b->(b.length<=if i<j then k+1 else k) /\ ∀f∈b,f∈U) (zib zag.b zlm) ⟨by decide,by decide⟩ ⟨qs,bs,v5,rfl,hqb,hb3,fun i b hi=>by simpa using hbs b (Zgs hi)⟩ ?_ ?_ (fun _ _ _ h=>h)
  .rintro j ss hj ⟨qs,bs,v5,rfl,hqb,hb3,hbs⟩ N2 hN2
   have hj3:j<4:=by omega
   have hql:qs.length=4:=by have:=congrArg Zj7 hqb;simpa[hb3] using this
   have hqj:Ax qs j (qs[j]'(by omega)):=Zgg _
   have hbj:Ax bs j (bs[j]'(by omega)):=Zgg _
   have hqd:(qs[j]'(by omega)).2=(bs[j]'(by omega)).map encF:=by
    have:=congrArg (fun l=>l[j]?) hqb
    simp only[Zgy,hqj,hbj] at this
    simpa using this
   generalize hqq:qs[j]'(by omega)=qj at *
   generalize hbb:bs[j]'(by omega)=bj at *
   obtain⟨qa,qd⟩:=qj
   dsimp only at hqd
   subst hqd
   have hbok:=hbs j bj hbj
   rw[if_neg (Zib _)] at hbok
   have hws:Aa (atI (wsT.map D.int) (j:Int)) (.int (wsT.getD j 0)):=by
    have:j=0\/j=1\/j=2\/j=3:=by omega
    rcases this with rfl | rfl | rfl | rfl <;> rfl
   have hwp:0<wsT.getD j 0/\wsT.getD j 0<17:=by
    have:j=0\/j=1\/j=2\/j=3:=by omega
    rcases this with rfl | rfl | rfl | rfl <;> decide
   refine zcg (b:=AC (c / wsT.getD j 0 % 2) 1) (zap (zhv (zeo (zed Aq (ydo (ds:=wsT.map D.int) (zm4 (Bc zag zag (Bc zag zag zaf)) (small (by decide))) Aq hws).b ⟨by omega,by omega⟩).b zag.b (by decide)).b zag.b)) (fun hb=>?_) (fun hb=>?_)
   .refine zom (i:=3) (d:=encF (zg5 i0 (1+i1 % 6) (c / 16))) rfl Aq hqj (zbq (pre:=yfk) (res:=yc7) (Bc Aj Aj (zab (zed Aq zag.b ⟨by decide,by decide⟩) zaf)) ⟨i0,1+i1 % 6,c / 16,rfl,by omega,by omega⟩) (by rw[Zgn,Zg2];omega) (hN2 _ ⟨qs.set j (qa,bj.map encF++[encF (zg5 i0 (1+i1 % 6) (c / 16))]),bs.set j (bj++[zg5 i0 (1+i1 % 6) (c / 16)]),.d (.int j),rfl,?_,by simpa using hb3,fun i b hi=>?_⟩)
    .rw[Zst,Zst,hqb,Zkn];rfl
    .by_cases hij:j=i
     .subst hij
      rw[Zji (by omega)] at hi
      cases hi
      rw[if_pos (by omega)]
      refine⟨by simp;omega,fun f hf=>?_⟩
      rcases Zhh.mp hf with hf | hf
      .exact hbok.2 f hf
      .rw[Zg0.mp hf];exact hcU
     .rw[Zj0 hij] at hi
      have:=hbs i b hi
      refine⟨?_,this.2⟩
      have h2:=this.1
      split at h2 <;> split <;> omega
   .refine za5 (hN2 _ ⟨qs,bs,.d (.int j),rfl,hqb,hb3,fun i b hi=>?_⟩)
    have:=hbs i b hi
    refine⟨?_,this.2⟩
    have h2:=this.1
    split at h2 <;> split <;> omega
  .rintro ss ⟨qs,bs,v5,rfl,hqb,hb3,hbs⟩
   refine hN _ ⟨qs,bs,_,v5,rfl,hqb,hb3,fun b hb=>?_⟩
   obtain⟨i,hi⟩:=Zht.mp hb
   have:=hbs i b hi
   refine⟨?_,this.2⟩
   have h2:=this.1
   split at h2 <;> omega
 rintro ss ⟨qs,bs,v4,v5,rfl,hqb,hb3,hbs⟩
 refine zpd (i:=3) rfl ?_
 ((try dsimp only);refine AQ)
 have eq:qs.map (fun q=>D.lst q.2)=bs.map bkD:=by
  have:=congrArg (Zpf D.lst) hqb
  rw[Zin,Zin] at this
  exact this
 rw[eq]
 refine zan (zci (ds:=(bs.map fun b=>Bu b).map bkD) (by
  rw[Zin]
  refine zld bs bkD _ (Aj).l (zch (by decide)) (by decide) (by rw[Zg2];omega) fun b hb=>(AD zav ?_)
  show Ev K H H H _ _ (.lst ((Bu b).map encF))
  rw[<- zji]
  exact EvO.ev (zhb (pre:=yax) (res:=zyp) (zab Aj zaf) (Aw b (by have:=(hbs b hb).1;omega)))) fun p3=>zc4 (i:=3) rfl ?_)
 ((try dsimp only);refine AQ)
 have hBs:∀b∈bs.map fun b=>Bu b,InU U b:=fun b hb=>by
  obtain⟨c,hc,rfl⟩:=Zg4.mp hb
  exact InU.mk (hbs c hc).2
 have hB4:(bs.map fun b=>Bu b).length=4:=by rw[Zgn];exact hb3
 generalize (bs.map fun b=>mkB (dedF b))=Bs at hBs hB4
 match Bs,hB4 with
 | [b0,b1,b2,b3],_ =>
 have u0:=hBs b0 (by simp)
 have u1:=hBs b1 (by simp)
 have u2:=hBs b2 (by simp)
 have u3:=hBs b3 (by simp)
 clear hBs hbs hqb hb3 eq
 refine zan (zci (ds:=[cardQ (i0 / 7) 0,cardQ (i0 / 7) 1,cardQ (i0 / 7) 2,cardQ (i0 / 7) 3].map D.str) (by
  refine zis (n:=4) (fun _=>true) (fun k=>.str (cardQ (i0 / 7) k)) (zvv (n:=4) (zib zag.b zlm) ⟨by decide,by decide⟩) (zch (by decide)) (by decide) (by rw[Zg2];decide) fun k hk=>⟨_,zav,zl5,Bp⟩
  exact zbq (pre:=zsz) (res:=zs2) (ds:=[.int (i0 / 7),.int k]) (Bc (zed Aq zag.b ⟨by decide,by decide⟩) Aj zaf) (AM _ k (by omega))) fun p6=>zc4 (i:=6) rfl ?_)
 ((try dsimp only);refine AQ)
 have hn0:=ze0 (i0 / 7) (k:=0) (by decide)
 have hn1:=ze0 (i0 / 7) (k:=1) (by decide)
 have hn2:=ze0 (i0 / 7) (k:=2) (by decide)
 have hn3:=ze0 (i0 / 7) (k:=3) (by decide)
 have nij:∀i j,i≠j->cardQ (i0 / 7) i≠cardQ (i0 / 7) j:=fun i j h z=>h (zny _ z)
 refine zan (zop (i:=7) fun dk=>?_)
 ((try dsimp only);refine AQ)
 show Go K H H H _ [A4 (ns.map .int),.d (.int i0),.d (.int (1+i1 % 6)),A4 [bkD b0,bkD b1,bkD b2,bkD b3],v4,v5,A4 [.str (cardQ (i0 / 7) 0),.str (cardQ (i0 / 7) 1),.str (cardQ (i0 / 7) 2),.str (cardQ (i0 / 7) 3)],ksl K ad0.Zaa "books" "rules" dk [],.un,.un,.un,.un,.un,.un,.un,.un,.un,.un] _
 have nf:∀{u v:V},([("books", u),("rules", v)]:Ai Str V).lookup ("say" : Str)=none:=znr (by decide +kernel) (by decide +kernel)
 have sayX:∀{X0:XK} {L0:Hp} {ss:List Sl} {ta:TE} {z:Odr} {dd dd':DD} {l:Ac},znv z dd [.str (txtO z)]/\zi2 z dd= .str l/\zju z dd=dd'->Ax ss 7 (ksl K ad0.Zaa "books" "rules" dk dd)->Ev K H H L0 ss ta (.str (txtO z))->EvY K H H L0 ss (ycn ad0.Zaa "say" (SpK K ad0.Zaa "books" "rules" znv zi2 zju) [] X0 (tVar 7) (zbb ta tNil)) (.str l) (ss.set 7 (ksl K ad0.Zaa "books" "rules" dk dd')):=fun {X0 L0 ss ta z dd dd' l} h hs a=>by
  obtain⟨q1,q2,q3⟩:=h
  have:=zgz (X:=X0) (pre:=znv) (res:=zi2) (new:=zju) z hs nf (zab a zaf) q1
  rw[q2,q3] at this
  exact this
 have ekB:(BA "book ")=zbe++[32]:=by decide +kernel
 have ekS:(BA "show ")=zby++[32]:=by decide +kernel
 have ekP:(BA "pour ")=zbz++[32]:=by decide +kernel
 have lB:zbe.length<=10:=by decide +kernel
 have lS:zby.length<=10:=by decide +kernel
 have x0:=BO (i0 / 7) 0 120
 have x1:=BO (i0 / 7) 1 120
 have x2:=BO (i0 / 7) 2 120
 have x3:=BO (i0 / 7) 3 120
 have y0:=BO (i0 / 7) 0 121
 have y1:=BO (i0 / 7) 1 121
 have y2:=BO (i0 / 7) 2 121
 have y3:=BO (i0 / 7) 3 121
 have z0:=BO (i0 / 7) 0 122
 have z1:=BO (i0 / 7) 1 122
 have z2:=BO (i0 / 7) 2 122
 have z3:=BO (i0 / 7) 3 122
 have w0:=BO (i0 / 7) 0 119
 have w1:=BO (i0 / 7) 1 119
 have w2:=BO (i0 / 7) 2 119
 have w3:=BO (i0 / 7) 3 119
 have n01:=nij 0 1 (by decide)
 have n02:=nij 0 2 (by decide)
 have n03:=nij 0 3 (by decide)
 have n12:=nij 1 2 (by decide)
 have n13:=nij 1 3 (by decide)
 have n23:=nij 2 3 (by decide)
 clear nij
 generalize cardQ (i0 / 7) 0=n0 at *
 generalize cardQ (i0 / 7) 1=n1 at *
 generalize cardQ (i0 / 7) 2=n2 at *
 generalize cardQ (i0 / 7) 3=n3 at *
 have nmx:∀x:Nat,x∈lets->za8 [x]:=fun x h=>⟨by simp,by simp,fun c hc=>by rw[Zg0.mp hc];exact h⟩
 have hx:=nmx 120 (by decide +kernel)
 have hy:=nmx 121 (by decide +kernel)
 have hz:=nmx 122 (by decide +kernel)
 have hw:=nmx 119 (by decide +kernel)
 let nm:Nat->Ac:=fun k=>[n0,n1,n2,n3].getD k []
 let B:Nat->As:=fun k=>[b0,b1,b2,b3].getD k []
 let e0:DD:=AZ (AZ [] n0 b0 n1 b1) n2 b2 n3 b3
 let dA:Nat->DD:=fun k=>[[],BE [] n0 b0,AZ [] n0 b0 n1 b1,AZ (BE [] n0 b0) n1 b1 n2 b2,e0].getD k []
 have k4:∀{k:Nat},k<4->k=0\/k=1\/k=2\/k=3:=fun h=>by omega
 have hnm:∀k:Nat,k<4->za8 (nm k):=fun k h=>by rcases k4 h with rfl | rfl | rfl | rfl <;> assumption
 have hBu:∀k:Nat,k<4->InU U (B k):=fun k h=>by rcases k4 h with rfl | rfl | rfl | rfl <;> assumption
 have atN:∀k:Nat,k<4->Aa (atI [D.str n0,.str n1,.str n2,.str n3] (k:Int)) (.str (nm k)):=fun k h=>by rcases k4 h with rfl | rfl | rfl | rfl <;> rfl
 have atB:∀k:Nat,k<4->Aa (atI [bkD b0,bkD b1,bkD b2,bkD b3] (k:Int)) (bkD (B k)):=fun k h=>by rcases k4 h with rfl | rfl | rfl | rfl <;> rfl
 have dS:∀k:Nat,k<4->BE (dA k) (nm k) (B k)=dA (k+1):=fun k h=>by rcases k4 h with rfl | rfl | rfl | rfl <;> rfl
 have dL:∀k:Nat,k<5->(dA k).length<1000:=fun k h=>by
  have a1:=zdg [] (.str n0) (bkD b0)
  have a2:=zdg (BE [] n0 b0) (.str n1) (bkD b1)
  have a3:=zdg (AZ [] n0 b0 n1 b1) (.str n2) (bkD b2)
  have a4:=zdg (AZ (BE [] n0 b0) n1 b1 n2 b2) (.str n3) (bkD b3)
  rw[Zhz] at a1
  rcases(by omega:k=0\/k=1\/k=2\/k=3\/k=4) with rfl | rfl | rfl | rfl | rfl
  .exact(by decide:(0:Nat)<1000)
  .exact(by omega:(BE [] n0 b0).length<1000)
  .exact(by omega:(AZ [] n0 b0 n1 b1).length<1000)
  .exact(by omega:(AZ (BE [] n0 b0) n1 b1 n2 b2).length<1000)
  .exact(by omega:(AZ (AZ [] n0 b0 n1 b1) n2 b2 n3 b3).length<1000)
 have shown:∀{X0:XK} {L0:Hp} {ss:List Sl} {t0:TE} {b:As},InU U b->Ev K H H L0 ss t0 (bkD b)->Ev K H H L0 ss (zka (SpD K zth zoq) [] X0 (zbb t0 tNil)) (.str (zec b)):=fun {X0 L0 ss t0 b} h a=>by
  rw[<- zfi]
  exact zbq (pre:=zth) (res:=zoq) (zab a zaf) (Aw b (h.sho hUl hUo))
 refine zan (zli (n:=4) (fun k ss=>∃v5:Sl,ss=[A4 (ns.map .int),.d (.int i0),.d (.int (1+i1 % 6)),A4 [bkD b0,bkD b1,bkD b2,bkD b3],v4,v5,A4 [.str n0,.str n1,.str n2,.str n3],ksl K ad0.Zaa "books" "rules" dk (dA k),.un,.un,.un,.un,.un,.un,.un,.un,.un,.un]) (zib zag.b zlm) ⟨by decide,by decide⟩ (AF v5) ?_ ?_ (fun _ _ _ h=>h))
 .rintro k ss hk ⟨v5',rfl⟩ N hN
  have hk4:k<4:=by omega
  have hu:=hBu k hk4
  have hul:=hu.len
  have ho:∀f∈B k,FOk f:=fun f hf=>hUo f (hu.2 f hf)
  have h53:=zwo hu.1 (by omega) ho (hnm k hk4) (dA k) (dL k (by omega))
  rw[dS k hk4] at h53
  refine zn2 (b:=! AC okW okW) (zjy (sayX h53 rfl (ya6 "book " zbe ekB zpk.1 lB (hnm k hk4) (zts (zvs ho) (by unfold lnsB;rw[Zgn];omega)) (zay (Aj).l Aq (atN k hk4)) ?_)) (zhh BH)) (fun hb=>by simp at hb) fun _=>za5 (hN _ (AF _))
  rw[zxh]
  exact shown hu (zay (Aj).l Aq (atB k hk4))
 rintro ss ⟨v5',rfl⟩
 ((try dsimp only);refine AQ)
 refine zan (yd3 (d:=.lst [.str n0,.str n1,.str n2,.str n3]) Aj (zu8 rfl (zbc zav (zbc zav (zbc zav (zbc zav zfe))))) ?_)
 ((try dsimp only);refine AQ)
 show Go K H H H _ [A4 (ns.map .int),.d (.int i0),.d (.int (1+i1 % 6)),A4 [bkD b0,bkD b1,bkD b2,bkD b3],v4,v5',A4 [.str n0,.str n1,.str n2,.str n3],ksl K ad0.Zaa "books" "rules" dk e0,.d (.str n0),.d (.str n1),.d (.str n2),.d (.str n3),.un,.un,.un,.un,.un,.un] _
 have ud:InU U (Bu (dueQ b0 b1 b2 b3)):=by
  have h:=u0.pour (u0.pour u1 u2) u3
  rw[zqj] at h;exact h
 have a4:e0.length<=4:=by
  have a1:=zdg [] (.str n0) (bkD b0)
  have a2:=zdg (BE [] n0 b0) (.str n1) (bkD b1)
  have a3:=zdg (AZ [] n0 b0 n1 b1) (.str n2) (bkD b2)
  have a4:=zdg (AZ (BE [] n0 b0) n1 b1 n2 b2) (.str n3) (bkD b3)
  rw[Zhz] at a1
  exact(by omega:(AZ (AZ [] n0 b0 n1 b1) n2 b2 n3 b3).length<=4)
 have xy:¬ ([120]:Ac)=[121]:=by decide
 have xz:¬ ([120]:Ac)=[122]:=by decide
 have xw:¬ ([120]:Ac)=[119]:=by decide
 have yz:¬ ([121]:Ac)=[122]:=by decide
 have yw:¬ ([121]:Ac)=[119]:=by decide
 have zw:¬ ([122]:Ac)=[119]:=by decide
 have g0:Aa (Bm e0 n0) (bkD b0):=by show valD (putD (putD (putD (putD [] _ _) _ _) _ _) _ _) _=_;simp[vput,n01,n02,n03]
 have g1:Aa (Bm e0 n1) (bkD b1):=by show valD (putD (putD (putD (putD [] _ _) _ _) _ _) _ _) _=_;simp[vput,n12,n13]
 have g2:Aa (Bm e0 n2) (bkD b2):=by show valD (putD (putD (putD (putD [] _ _) _ _) _ _) _ _) _=_;simp[vput,n23]
 have g3:Aa (Bm e0 n3) (bkD b3):=by show valD (putD (putD (putD (putD [] _ _) _ _) _ _) _ _) _=_;simp[vput]
 generalize e0=e0 at a4 g0 g1 g2 g3
 generalize hdu:mkB (dedF (dueQ b0 b1 b2 b3))=due at ud
 obtain⟨es,hes⟩:∃es:List DD,es=[e0,BE e0 [120] (za1 b0 b1 b2),AZ e0 [120] (za1 b0 b1 b2) [120] due,AZ (BE e0 [120] (za1 b0 b1 b2)) [120] due [121] (za1 b0 b3 b2),AZ (AZ e0 [120] (za1 b0 b1 b2) [120] due) [121] (za1 b0 b3 b2) [121] due,AZ (AZ (BE e0 [120] (za1 b0 b1 b2)) [120] due [121] (za1 b0 b3 b2)) [121] due [122] due,AZ (AZ (AZ e0 [120] (za1 b0 b1 b2) [120] due) [121] (za1 b0 b3 b2) [121] due) [122] due [119] b3,AZ (AZ (AZ (BE e0 [120] (za1 b0 b1 b2)) [120] due [121] (za1 b0 b3 b2)) [121] due [122] due) [119] b3 n0 b0]:=(AF _)
 have hlen:∀k,k<8->(es.getD k []).length<=4+k:=fun k hk=>by
  subst hes
  have P:∀{d:DD} {n:Nat} {k v:D},d.length<=n->(putD d k v).length<=n+1:=fun {d n k v} h=>by have:=zdg d k v;omega
  rcases(by omega:k=0\/k=1\/k=2\/k=3\/k=4\/k=5\/k=6\/k=7) with rfl | rfl | rfl | rfl | rfl | rfl | rfl | rfl
  .exact a4
  .exact P a4
  .exact P (P a4)
  .exact P (P (P a4))
  .exact P (P (P (P a4)))
  .exact P (P (P (P (P a4))))
  .exact P (P (P (P (P (P a4)))))
  .exact P (P (P (P (P (P (P a4))))))
 have step:∀(k:Nat) (o:Ac×Ac×Ac),Ax (ordQ n0 n1 n2 n3) k o->za8 o.1/\za8 o.2.1/\za8 o.2.2/\znv ((zbz,[o.1,n0,o.2.1,o.2.2]),[]) (es.getD k []) [.str (txtO ((zbz,[o.1,n0,o.2.1,o.2.2]),[]))]/\zi2 ((zbz,[o.1,n0,o.2.1,o.2.2]),[]) (es.getD k [])= .str okW/\zju ((zbz,[o.1,n0,o.2.1,o.2.2]),[]) (es.getD k [])=es.getD (k+1) []:=fun k o ho=>by
  have hk:k<7:=(Zgo.mp ho).1
  have hl:=hlen k (by omega)
  have s0:=u0.shb hUl
  have s1:=u1.shb hUl
  have s2:=u2.shb hUl
  have s3:=u3.shb hUl
  have sd:=ud.shb hUl
  have sA:=(u0.pour u1 u2).shb hUl
  have sC:=(u0.pour u3 u2).shb hUl
  have p1:za1 b0 (za1 b0 b1 b2) b3=due:=(zqj b0 b1 b2 b3).trans hdu
  have p3:za1 b0 b1 (za1 b0 b3 b2)=due:=(yen b0 b1 b2 b3).trans hdu
  have p4:za1 b0 due b2=due:=by rw[<- hdu];exact ye9 b0 b1 b2 b3
  have p5:za1 b0 b0 b3=b3:=zz9 u3.1
  have p6:za1 b0 b0 b0=b0:=zz9 u0.1
  subst hes
  rcases(by omega:k=0\/k=1\/k=2\/k=3\/k=4\/k=5\/k=6) with rfl | rfl | rfl | rfl | rfl | rfl | rfl <;> cases ho
  .exact⟨hx,hn1,hn2,zds hx hn0 hn1 hn2 g0 g1 g2 s0 s1 s2 (by omega)⟩
  .refine⟨hx,hx,hn3,?_⟩
   have:=zds (dd:=BE e0 [120] (za1 b0 b1 b2)) (b:=b0) (l:=(za1 b0 b1 b2)) (r:=b3) hx hn0 hx hn3 (by simp[vput,x0,x1,x2,x3,y0,y1,y2,y3,z0,z1,z2,z3,w0,w1,w2,w3,n01,n02,n03,n12,n13,n23,g0,g1,g2,g3]) (by simp[vput,x0,x1,x2,x3,y0,y1,y2,y3,z0,z1,z2,z3,w0,w1,w2,w3,n01,n02,n03,n12,n13,n23,g0,g1,g2,g3]) (by simp[vput,x0,x1,x2,x3,y0,y1,y2,y3,z0,z1,z2,z3,w0,w1,w2,w3,n01,n02,n03,n12,n13,n23,g0,g1,g2,g3]) s0 sA s3 (by have:(putD e0 (.str [120]) (bkD (za1 b0 b1 b2))).length<=4+1:=hl;omega)
   rw[p1] at this;exact this
  .refine⟨hy,hn3,hn2,?_⟩
   have:=zds (dd:=AZ e0 [120] (za1 b0 b1 b2) [120] due) (b:=b0) (l:=b3) (r:=b2) hy hn0 hn3 hn2 (by simp[vput,x0,x1,x2,x3,y0,y1,y2,y3,z0,z1,z2,z3,w0,w1,w2,w3,n01,n02,n03,n12,n13,n23,g0,g1,g2,g3]) (by simp[vput,x0,x1,x2,x3,y0,y1,y2,y3,z0,z1,z2,z3,w0,w1,w2,w3,n01,n02,n03,n12,n13,n23,g0,g1,g2,g3]) (by simp[vput,x0,x1,x2,x3,y0,y1,y2,y3,z0,z1,z2,z3,w0,w1,w2,w3,n01,n02,n03,n12,n13,n23,g0,g1,g2,g3]) s0 s3 s2 (by have:(AZ e0 [120] (za1 b0 b1 b2) [120] due).length<=4+2:=hl;omega)
   exact this
  .refine⟨hy,hn1,hy,?_⟩
   have:=zds (dd:=AZ (BE e0 [120] (za1 b0 b1 b2)) [120] due [121] (za1 b0 b3 b2)) (b:=b0) (l:=b1) (r:=(za1 b0 b3 b2)) hy hn0 hn1 hy (by simp[vput,x0,x1,x2,x3,y0,y1,y2,y3,z0,z1,z2,z3,w0,w1,w2,w3,n01,n02,n03,n12,n13,n23,g0,g1,g2,g3]) (by simp[vput,x0,x1,x2,x3,y0,y1,y2,y3,z0,z1,z2,z3,w0,w1,w2,w3,n01,n02,n03,n12,n13,n23,g0,g1,g2,g3]) (by simp[vput,x0,x1,x2,x3,y0,y1,y2,y3,z0,z1,z2,z3,w0,w1,w2,w3,n01,n02,n03,n12,n13,n23,g0,g1,g2,g3]) s0 s1 sC (by have:(AZ (BE e0 [120] (za1 b0 b1 b2)) [120] due [121] (za1 b0 b3 b2)).length<=4+3:=hl;omega)
   rw[p3] at this;exact this
  .refine⟨hz,hy,hn2,?_⟩
   have:=zds (dd:=AZ (AZ e0 [120] (za1 b0 b1 b2) [120] due) [121] (za1 b0 b3 b2) [121] due) (b:=b0) (l:=due) (r:=b2) hz hn0 hy hn2 (by simp[vput,x0,x1,x2,x3,y0,y1,y2,y3,z0,z1,z2,z3,w0,w1,w2,w3,n01,n02,n03,n12,n13,n23,g0,g1,g2,g3]) (by simp[vput,x0,x1,x2,x3,y0,y1,y2,y3,z0,z1,z2,z3,w0,w1,w2,w3,n01,n02,n03,n12,n13,n23,g0,g1,g2,g3]) (by simp[vput,x0,x1,x2,x3,y0,y1,y2,y3,z0,z1,z2,z3,w0,w1,w2,w3,n01,n02,n03,n12,n13,n23,g0,g1,g2,g3]) s0 sd s2 (by have:(AZ (AZ e0 [120] (za1 b0 b1 b2) [120] due) [121] (za1 b0 b3 b2) [121] due).length<=4+4:=hl;omega)
   rw[p4] at this;exact this
  .refine⟨hw,hn0,hn3,?_⟩
   have:=zds (dd:=AZ (AZ (BE e0 [120] (za1 b0 b1 b2)) [120] due [121] (za1 b0 b3 b2)) [121] due [122] due) (b:=b0) (l:=b0) (r:=b3) hw hn0 hn0 hn3 (by simp[vput,x0,x1,x2,x3,y0,y1,y2,y3,z0,z1,z2,z3,w0,w1,w2,w3,n01,n02,n03,n12,n13,n23,g0,g1,g2,g3]) (by simp[vput,x0,x1,x2,x3,y0,y1,y2,y3,z0,z1,z2,z3,w0,w1,w2,w3,n01,n02,n03,n12,n13,n23,g0,g1,g2,g3]) (by simp[vput,x0,x1,x2,x3,y0,y1,y2,y3,z0,z1,z2,z3,w0,w1,w2,w3,n01,n02,n03,n12,n13,n23,g0,g1,g2,g3]) s0 s0 s3 (by have:(AZ (AZ (BE e0 [120] (za1 b0 b1 b2)) [120] due [121] (za1 b0 b3 b2)) [121] due [122] due).length<=4+5:=hl;omega)
   rw[p5] at this;exact this
  .refine⟨hn0,hn0,hn0,?_⟩
   have:=zds (dd:=AZ (AZ (AZ e0 [120] (za1 b0 b1 b2) [120] due) [121] (za1 b0 b3 b2) [121] due) [122] due [119] b3) (b:=b0) (l:=b0) (r:=b0) hn0 hn0 hn0 hn0 (by simp[vput,x0,x1,x2,x3,y0,y1,y2,y3,z0,z1,z2,z3,w0,w1,w2,w3,n01,n02,n03,n12,n13,n23,g0,g1,g2,g3]) (by simp[vput,x0,x1,x2,x3,y0,y1,y2,y3,z0,z1,z2,z3,w0,w1,w2,w3,n01,n02,n03,n12,n13,n23,g0,g1,g2,g3]) (by simp[vput,x0,x1,x2,x3,y0,y1,y2,y3,z0,z1,z2,z3,w0,w1,w2,w3,n01,n02,n03,n12,n13,n23,g0,g1,g2,g3]) s0 s0 s0 (by have:(AZ (AZ (AZ e0 [120] (za1 b0 b1 b2) [120] due) [121] (za1 b0 b3 b2) [121] due) [122] due [119] b3).length<=4+6:=hl;omega)
   rw[p6] at this;exact this
 have eO:∀{a b c:Ac},encO (a,b,c)= .lst [.str a,.str b,.str c]:=rfl
 refine zan (zci (ds:=((ordQ n0 n1 n2 n3).take 5).map encO) (zbr (Bc (EvO.ev (zbr (Bc (A5 [120]) Aj (zab Aj zaf)) (small (by simp)))) (EvO.ev (zbr (Bc (A5 [120]) (A5 [120]) (zab Aj zaf)) (small (by simp)))) (Bc (EvO.ev (zbr (Bc (A5 [121]) Aj (zab Aj zaf)) (small (by simp)))) (EvO.ev (zbr (Bc (A5 [121]) Aj (zab (A5 [121]) zaf)) (small (by simp)))) (zab (EvO.ev (zbr (Bc (A5 [122]) (A5 [121]) (zab Aj zaf)) (small (by simp)))) zaf))) (small (show(5:Nat)<=1000 by decide))) fun p12=>zc4 (i:=12) rfl ?_)
 ((try dsimp only);refine AQ)
 have gE:es.getD 0 []=e0:=by rw[hes];rfl
 have l12:∀{n:Ac},za8 n->n.length<=12:=fun h=>h.2.1
 have src7:Ev K H H H [A4 (ns.map .int),.d (.int i0),.d (.int (1+i1 % 6)),A4 [bkD b0,bkD b1,bkD b2,bkD b3],v4,v5',A4 [.str n0,.str n1,.str n2,.str n3],ksl K ad0.Zaa "books" "rules" dk e0,.d (.str n0),.d (.str n1),.d (.str n2),.d (.str n3),A4 (((ordQ n0 n1 n2 n3).take 5).map encO),.un,.un,.un,.un,.un] (tOp (zo1 K) (tVar 12) (tLst (zbb (tLst (zbb (tC (.str "w")) (zbb (tVar 8) (zbb (tVar 11) tNil)))) (zbb (tLst (zbb (tVar 8) (zbb (tVar 8) (zbb (tVar 8) tNil)))) tNil)))) (.lst ((ordQ n0 n1 n2 n3).map encO)):=by
  refine EvO.ev (ds:=((ordQ n0 n1 n2 n3).take 5).map encO++[encO ([119],n0,n3),encO (n0,n0,n0)]) ?_
  exact zlg (Aj).l (EvO.l (zbr (Bc (EvO.ev (zbr (Bc (A5 [119]) Aj (zab Aj zaf)) (small (by simp)))) (EvO.ev (zbr (Bc Aj Aj (zab Aj zaf)) (small (by simp)))) zaf) (small (by simp)))) (by rw[Zg2];exact(by decide:(5+2:Nat)<=16777216))
 refine zan (zky encO (ordQ n0 n1 n2 n3) (fun k ss=>∃v13 v14 v15:Sl,ss=[A4 (ns.map .int),.d (.int i0),.d (.int (1+i1 % 6)),A4 [bkD b0,bkD b1,bkD b2,bkD b3],v4,v5',A4 [.str n0,.str n1,.str n2,.str n3],ksl K ad0.Zaa "books" "rules" dk (es.getD k []),.d (.str n0),.d (.str n1),.d (.str n2),.d (.str n3),A4 (((ordQ n0 n1 n2 n3).take 5).map encO),v13,v14,v15,.un,.un]) src7 ⟨.un,.un,.un,by rw[gE];rfl⟩ ?_ ?_)
 .rintro L' k o ss hL hk ⟨v13,v14,v15,rfl⟩
  refine(AD (zu8 (ds:=[.str o.1,.str o.2.1,.str o.2.2]) rfl (zbc zav (zbc zav (zbc zav zfe)))) (fun N hN=>?_))
  obtain⟨q1,q2,q3,q4⟩:=step k o hk
  have q1:=l12 q1
  have q2:=l12 q2
  have q3:=l12 q3
  have q0:=l12 hn0
  have lP:zbz.length<=10:=by decide +kernel
  refine zn2 (b:=! AC okW okW) (zjy (sayX q4 rfl ?_) (zhh BH)) (fun hb=>by simp at hb) fun _=>za5 (hN _ ⟨_,_,_,rfl⟩)
  rw[zwz]
  have S1:∀{L0:Hp} {ss:List Sl},EvB K H H L0 ss (tC (.str " ")) (.str [32]):=(A5 [32]).b
  exact BS (BS (BS (BS (BS (BS (zbo (l:=zbz++[32]) (zau (by rw[<- ekP];rfl) (by decide +kernel)).b Aq (by rw[Zg2];simp;omega)).b S1).b Aq).b S1).b Aq).b S1).b Aq
 rintro ss ⟨v13,v14,v15,rfl⟩
 ((try dsimp only);refine AQ)
 have hl7:=hlen 7 (by decide)
 have E7:es.getD 7 []=AZ (AZ (AZ (BE e0 [120] (za1 b0 b1 b2)) [120] due [121] (za1 b0 b3 b2)) [121] due [122] due) [119] b3 n0 b0:=by rw[hes];rfl
 have r0:Aa (Bm (es.getD 7 []) n0) (bkD b0):=by rw[E7];simp[vput,x0,x1,x2,x3,y0,y1,y2,y3,z0,z1,z2,z3,w0,w1,w2,w3,n01,n02,n03,n12,n13,n23,g0,g1,g2,g3,n01.symm,n02.symm,n03.symm,n12.symm,n13.symm,n23.symm,x0.symm,x1.symm,x2.symm,x3.symm,y0.symm,y1.symm,y2.symm,y3.symm,z0.symm,z1.symm,z2.symm,z3.symm,w0.symm,w1.symm,w2.symm,w3.symm]
 have r1:Aa (Bm (es.getD 7 []) n1) (bkD b1):=by rw[E7];simp[vput,x0,x1,x2,x3,y0,y1,y2,y3,z0,z1,z2,z3,w0,w1,w2,w3,n01,n02,n03,n12,n13,n23,g0,g1,g2,g3,n01.symm,n02.symm,n03.symm,n12.symm,n13.symm,n23.symm,x0.symm,x1.symm,x2.symm,x3.symm,y0.symm,y1.symm,y2.symm,y3.symm,z0.symm,z1.symm,z2.symm,z3.symm,w0.symm,w1.symm,w2.symm,w3.symm]
 have r2:Aa (Bm (es.getD 7 []) n2) (bkD b2):=by rw[E7];simp[vput,x0,x1,x2,x3,y0,y1,y2,y3,z0,z1,z2,z3,w0,w1,w2,w3,n01,n02,n03,n12,n13,n23,g0,g1,g2,g3,n01.symm,n02.symm,n03.symm,n12.symm,n13.symm,n23.symm,x0.symm,x1.symm,x2.symm,x3.symm,y0.symm,y1.symm,y2.symm,y3.symm,z0.symm,z1.symm,z2.symm,z3.symm,w0.symm,w1.symm,w2.symm,w3.symm]
 have r3:Aa (Bm (es.getD 7 []) n3) (bkD b3):=by rw[E7];simp[vput,x0,x1,x2,x3,y0,y1,y2,y3,z0,z1,z2,z3,w0,w1,w2,w3,n01,n02,n03,n12,n13,n23,g0,g1,g2,g3,n01.symm,n02.symm,n03.symm,n12.symm,n13.symm,n23.symm,x0.symm,x1.symm,x2.symm,x3.symm,y0.symm,y1.symm,y2.symm,y3.symm,z0.symm,z1.symm,z2.symm,z3.symm,w0.symm,w1.symm,w2.symm,w3.symm]
 have rx:Aa (Bm (es.getD 7 []) [120]) (bkD due):=by rw[E7];simp[vput,x0,x1,x2,x3,y0,y1,y2,y3,z0,z1,z2,z3,w0,w1,w2,w3,n01,n02,n03,n12,n13,n23,g0,g1,g2,g3,n01.symm,n02.symm,n03.symm,n12.symm,n13.symm,n23.symm,x0.symm,x1.symm,x2.symm,x3.symm,y0.symm,y1.symm,y2.symm,y3.symm,z0.symm,z1.symm,z2.symm,z3.symm,w0.symm,w1.symm,w2.symm,w3.symm]
 have ry:Aa (Bm (es.getD 7 []) [121]) (bkD due):=by rw[E7];simp[vput,x0,x1,x2,x3,y0,y1,y2,y3,z0,z1,z2,z3,w0,w1,w2,w3,n01,n02,n03,n12,n13,n23,g0,g1,g2,g3,n01.symm,n02.symm,n03.symm,n12.symm,n13.symm,n23.symm,x0.symm,x1.symm,x2.symm,x3.symm,y0.symm,y1.symm,y2.symm,y3.symm,z0.symm,z1.symm,z2.symm,z3.symm,w0.symm,w1.symm,w2.symm,w3.symm]
 have rz:Aa (Bm (es.getD 7 []) [122]) (bkD due):=by rw[E7];simp[vput,x0,x1,x2,x3,y0,y1,y2,y3,z0,z1,z2,z3,w0,w1,w2,w3,n01,n02,n03,n12,n13,n23,g0,g1,g2,g3,n01.symm,n02.symm,n03.symm,n12.symm,n13.symm,n23.symm,x0.symm,x1.symm,x2.symm,x3.symm,y0.symm,y1.symm,y2.symm,y3.symm,z0.symm,z1.symm,z2.symm,z3.symm,w0.symm,w1.symm,w2.symm,w3.symm]
 have rw':Aa (Bm (es.getD 7 []) [119]) (bkD b3):=by rw[E7];simp[vput,x0,x1,x2,x3,y0,y1,y2,y3,z0,z1,z2,z3,w0,w1,w2,w3,n01,n02,n03,n12,n13,n23,g0,g1,g2,g3,n01.symm,n02.symm,n03.symm,n12.symm,n13.symm,n23.symm,x0.symm,x1.symm,x2.symm,x3.symm,y0.symm,y1.symm,y2.symm,y3.symm,z0.symm,z1.symm,z2.symm,z3.symm,w0.symm,w1.symm,w2.symm,w3.symm]
 show Go K H H H _ [A4 (ns.map .int),.d (.int i0),.d (.int (1+i1 % 6)),A4 [bkD b0,bkD b1,bkD b2,bkD b3],v4,v5',A4 [.str n0,.str n1,.str n2,.str n3],ksl K ad0.Zaa "books" "rules" dk (es.getD 7 []),.d (.str n0),.d (.str n1),.d (.str n2),.d (.str n3),A4 (((ordQ n0 n1 n2 n3).take 5).map encO),v13,v14,v15,.un,.un] _
 generalize es.getD 7 []=e7 at *
 have de:e7.length<1000:=by omega
 refine zan (zco (d:=.str (zec due)) (shown ud (EvO.ev (by
  rw[<- hdu,<- zmm]
  have:=u0.len
  have:=u1.len
  have:=u2.len
  have:=u3.len
  exact zhb (pre:=yfi) (res:=ybr) (zab Aj zaf) ⟨b0,b1,b2,b3,rfl,by omega,by omega,by omega,by omega⟩))) ?_)
 ((try dsimp only);refine AQ)
 refine zan (zky D.str [[120],[121],[122]] (fun k ss=>∃v17:Sl,ss=[A4 (ns.map .int),.d (.int i0),.d (.int (1+i1 % 6)),A4 [bkD b0,bkD b1,bkD b2,bkD b3],v4,v5',A4 [.str n0,.str n1,.str n2,.str n3],ksl K ad0.Zaa "books" "rules" dk e7,.d (.str n0),.d (.str n1),.d (.str n2),.d (.str n3),A4 (((ordQ n0 n1 n2 n3).take 5).map encO),v13,v14,v15,.d (.str (zec due)),v17]) (EvO.ev (zbr (Bc (A5 [120]) (A5 [121]) (zab (A5 [122]) zaf)) (small (by simp)))) (AF _) ?_ ?_)
 .rintro L' k x ss hL hk ⟨v17,rfl⟩
  refine(AD zav (fun N hN=>?_))
  have hxm:x∈[[120],[121],[122]]:=Zgs hk
  have hv:za8 x/\Aa (Bm e7 x) (bkD due):=by
   simp only[Zgp,Zhf,or_false] at hxm
   rcases hxm with rfl | rfl | rfl
   .exact⟨hx,rx⟩
   .exact⟨hy,ry⟩
   .exact⟨hz,rz⟩
  exact zn2 (b:=! AC (zec due) (zec due)) (zjy (sayX (zj4 hv.1 (ud.sho hUl hUo) de hv.2) rfl (ev_ord "show " zby ekS zpk.2 lS hv.1 Aj)) (zhh Aj)) (fun hb=>by simp at hb) fun _=>za5 (hN _ (AF _))
 rintro ss ⟨v17,rfl⟩
 ((try dsimp only);refine AQ)
 refine zan (zn2 (b:=! AC (zec b3) (zec b3)) (zjy (sayX (zj4 hw (u3.sho hUl hUo) de rw') rfl (zau (l:=txtO ((zby,[[119]]),[])) (by decide +kernel) (by decide +kernel))) (zhh (shown u3 (zay (Aj).l zag.b rfl)))) (fun hb=>by simp at hb) fun _=>za5 ?_)
 ((try dsimp only);refine AQ)
 refine zan (zli (n:=4) (fun k ss=>∃v5 v17:Sl,ss=[A4 (ns.map .int),.d (.int i0),.d (.int (1+i1 % 6)),A4 [bkD b0,bkD b1,bkD b2,bkD b3],v4,v5,A4 [.str n0,.str n1,.str n2,.str n3],ksl K ad0.Zaa "books" "rules" dk e7,.d (.str n0),.d (.str n1),.d (.str n2),.d (.str n3),A4 (((ordQ n0 n1 n2 n3).take 5).map encO),v13,v14,v15,.d (.str (zec due)),v17]) (zib zag.b zlm) ⟨by decide,by decide⟩ (AD _ rfl) ?_ ?_ (fun _ _ _ h=>h))
 .rintro k ss hk ⟨v5'',v17',rfl⟩ N hN
  have hk4:k<4:=by omega
  have hv:Aa (Bm e7 (nm k)) (bkD (B k)):=by rcases k4 hk4 with rfl | rfl | rfl | rfl <;> assumption
  have hu:=hBu k hk4
  exact zn2 (b:=! AC (zec (B k)) (zec (B k))) (zjy (sayX (zj4 (hnm k hk4) (hu.sho hUl hUo) de hv) rfl (ev_ord "show " zby ekS zpk.2 lS (hnm k hk4) (zay (Aj).l Aq (atN k hk4)))) (zhh (shown hu (zay (Aj).l Aq (atB k hk4))))) (fun hb=>by simp at hb) fun _=>za5 (hN _ (AD _ rfl))
 rintro ss ⟨v5'',v17',rfl⟩
 ((try dsimp only);refine AQ)
 exact zbs ydr rt
end
theorem lb1{n:Str}{s:Stmt}{ps:Al}(hp:ps.length=1)(h:∀(kV doc pm:Zgi) (an:Option Addr) (cdv ct a0:Zgi),Zm2 (Zix n n (zcj s) (zbp s) (zad s) .none kV doc pm an cdv ct) ⟨[a0],[]⟩=pure (ps.zip [a0])):Bd n s ps:=fun kV doc pm an cdv ct us hl=>match us,hl.trans hp with
 | [a0],_=>h kV doc pm an cdv ct a0
theorem lb2{n:Str}{s:Stmt}{ps:Al}(hp:ps.length=2)(h:∀(kV doc pm:Zgi) (an:Option Addr) (cdv ct a0 a1:Zgi),Zm2 (Zix n n (zcj s) (zbp s) (zad s) .none kV doc pm an cdv ct) ⟨[a0,a1],[]⟩=pure (ps.zip [a0,a1])):Bd n s ps:=fun kV doc pm an cdv ct us hl=>match us,hl.trans hp with
 | [a0,a1],_=>h kV doc pm an cdv ct a0 a1
theorem lb3{n:Str}{s:Stmt}{ps:Al}(hp:ps.length=3)(h:∀(kV doc pm:Zgi) (an:Option Addr) (cdv ct a0 a1 a2:Zgi),Zm2 (Zix n n (zcj s) (zbp s) (zad s) .none kV doc pm an cdv ct) ⟨[a0,a1,a2],[]⟩=pure (ps.zip [a0,a1,a2])):Bd n s ps:=fun kV doc pm an cdv ct us hl=>match us,hl.trans hp with
 | [a0,a1,a2],_=>h kV doc pm an cdv ct a0 a1 a2
theorem Zev:Bd "poured_all" zd4 zc8:=lb2 rfl fun _ _ _ _ _ _ _ _=>rfl
theorem Zf6:Bd "poured" zic zhf:=lb3 rfl fun _ _ _ _ _ _ _ _ _=>rfl
theorem Zfy:Bd "_law_due" zel zfk:=lb1 rfl BP
theorem Zfw:Bd "is_name" zfg zef:=lb1 rfl BP
theorem Zfs:Bd "is_sign" zg8 zfv:=lb1 rfl BP
theorem Zft:Bd "is_text" zfz zfp:=lb1 rfl BP
theorem Zfe:Bd "pair_fact" zex zcv:=lb3 rfl fun _ _ _ _ _ _ _ _ _=>rfl
theorem Zgc:Bd "tidy" zrg zoe:=lb1 rfl BP
theorem Zei:Bd "is_passed_by" zc0 zcc:=lb1 rfl BP
theorem Zfd:Bd "told_rows" zd1 zdw:=lb1 rfl BP
theorem Zfu:Bd "fact_of" zg0 zfl:=lb1 rfl BP
theorem Zeb:Bd "numbered_fact" zcs zb1:=lb2 rfl fun _ _ _ _ _ _ _ _=>rfl
theorem Ze7:Bd "read_book" zd3 zdq:=lb1 rfl BP
theorem Zfc:Bd "show_book" zdu zdr:=lb1 rfl BP
theorem Ze5:Bd "fits_form" zey zd0:=lb2 rfl fun _ _ _ _ _ _ _ _=>rfl
theorem Zfq:Bd "order_of" zgd zdo:=lb1 rfl BP
theorem Zds:Bd "refuse_rows_behind" zbt za3:=lb2 rfl fun _ _ _ _ _ _ _ _=>rfl
theorem Zek:Bd "rows_behind" zdj zcr:=lb1 rfl BP
theorem Ze8(kV doc pm:Zgi)(an:Option Addr)(cdv ct:Zgi)(us:Ar)(hl:us.length=(["self"]:Al).length):Zm2 (Zix "__init__" "Desk.__init__" (zcj Zar) (zbp Zar) (zad Zar) .none kV doc pm an cdv ct) ⟨us,[]⟩=pure ((["self"]:Al).zip us):=match us,hl with
 | [_],_=>rfl
theorem Zfp(kV doc pm:Zgi)(an:Option Addr)(cdv ct:Zgi)(us:Ar)(hl:us.length=(["self", "text"]:Al).length):Zm2 (Zix "say" "Desk.say" (zcj Zav) (zbp Zav) (zad Zav) .none kV doc pm an cdv ct) ⟨us,[]⟩=pure ((["self", "text"]:Al).zip us):=match us,hl with
 | [_,_],_=>rfl
theorem Zdz(kV doc pm:Zgi)(an:Option Addr)(cdv ct:Zgi)(us:Ar)(hl:us.length=(["self", "words"]:Al).length):Zm2 (Zix "refuse_names" "Desk.refuse_names" (zcj Zad) (zbp Zad) (zad Zad) .none kV doc pm an cdv ct) ⟨us,[]⟩=pure ((["self", "words"]:Al).zip us):=match us,hl with
 | [_,_],_=>rfl
theorem Zej(kV doc pm:Zgi)(an:Option Addr)(cdv ct:Zgi)(us:Ar)(hl:us.length=(["self", "words"]:Al).length):Zm2 (Zix "answer" "Desk.answer" (zcj Zam) (zbp Zam) (zad Zam) .none kV doc pm an cdv ct) ⟨us,[]⟩=pure ((["self", "words"]:Al).zip us):=match us,hl with
 | [_,_],_=>rfl
theorem Zdx(kV doc pm:Zgi)(an:Option Addr)(cdv ct:Zgi)(us:Ar)(hl:us.length=(["self", "words", "rows"]:Al).length):Zm2 (Zix "changed_book" "Desk.changed_book" (zcj Zae) (zbp Zae) (zad Zae) .none kV doc pm an cdv ct) ⟨us,[]⟩=pure ((["self", "words", "rows"]:Al).zip us):=match us,hl with
 | [_,_,_],_=>rfl
theorem Zel:Bd "_law_cell_at" zdk zcq:=lb2 rfl fun _ _ _ _ _ _ _ _=>rfl
theorem Zfg:Bd "_law_card" zf4 zdm:=lb2 rfl fun _ _ _ _ _ _ _ _=>rfl
theorem Zfi:Bd "_law_text" zeg zeh:=lb2 rfl fun _ _ _ _ _ _ _ _=>rfl
theorem Ze9:Bd "_law_great" ze6 zdv:=lb1 rfl BP
theorem Zfh:Bd "_law_fact" zgf zee:=lb3 rfl fun _ _ _ _ _ _ _ _ _=>rfl
theorem Zfl:Bd "_law_book" zf8 zeq:=lb1 rfl BP
theorem Zfa:Bd "_law_shown" zd2 zdz:=lb1 rfl BP
theorem Zf7:Bd "law" zrq zty:=lb1 rfl BP
theorem all_mk{l:Zpx}{w:Zhy}{K:Zgh}{mg:Str->AY}{fa Zaa Zb7 Zbk Zap Zao Zbm Zdg Zcy Zca Zcv Zcx Zbd Zd8 Za1 Zbt Zc2 Zat Zb3 Zbs Zbv Zbq Zah Za8 Zay Za6 Zac Zan Zaf Zbc Zbn Zcc Zby Zcg Zci Zbu Ze2:Addr}{t_LETTERS t_LONGEST_NAME t_LONGEST_TEXT t_NO_SIGN:Tok}{Zbl Zdh Zcw Zb9 Zc1 Zc0 Zbe Zd7 Za0 Zb1 Zcz Zau Zb4 Zbx Zbz Zbr Zai Zbb Zaw Za7 Zab Zal Zag Zba Zbp Zch Zb2 Zce Zcf Zbw Zeg:Zj9}(hfa:Bq (mg "law") (.ref fa))(Zff:Bq (mg "Desk") (.ref Zaa))(Zaj:Cls K Zaa)(Zer:Mk K Zaa Zay)(Zaz:Meth K Zaa "say" Za6)(Zak:zen K Zaa "books")(Zc4:zen K Zaa "rules")(Za2:Meth K Zaa "refuse_names" Zac)(Zcl:Meth K Zaa "answer" Zan)(Za4:Meth K Zaa "changed_book" Zaf)(Zec:Bq (mg "ASKING") (.ref Zb7))(Zdv:TupK K Zb7 [[115,104,111,119],[103,114,111,117,112,115],[108,111,115,115],[116,111,108,100]])(Zdy:Bq (mg "FIELDS") (.ref Zbk))(Zd1:TupK K Zbk [[110,97,109,101],[102,111,114,109,101,114],[119,97,121],[100,97,121],[109,97,114,107]])(Zc3:Bq (mg "PAIR_FIELDS") (.ref Zap))(Zc5:TupK K Zap [[115,97,109,101],[97,112,97,114,116]])(Zc8:Bq (mg "TAKING_ROWS") (.ref Zao))(Zb5:TupK K Zao [[98,111,111,107],[114,117,108,101,115],[114,105,103,104,116]])(Zd6:Bq (mg "LETTERS") (.str (T [97,98,99,100,101,102,103,104,105,106,107,108,109,110,111,112,113,114,115,116,117,118,119,120,121,122]) t_LETTERS))(Zcm:Bq (mg "LONGEST_NAME") (.int 12 t_LONGEST_NAME))(Zck:Bq (mg "LONGEST_TEXT") (.int 40 t_LONGEST_TEXT))(Zd5:Bq (mg "NO_SIGN") (.int 37 t_NO_SIGN))(Zcd:FX K mg "poured_all" zd4 zc8 Zbm Zbl)(Zdt:FX K mg "poured" zic zhf Zdg Zdh)(Zdj:FX K mg "_law_due" zel zfk Zcy Zcw)(Zb8:FX K mg "is_name" zfg zef Zca Zb9)(Zdk:FX K mg "is_sign" zg8 zfv Zcv Zc1)(Zdi:FX K mg "is_text" zfz zfp Zcx Zc0)(Zcp:FX K mg "pair_fact" zex zcv Zbd Zbe)(Zeh:FX K mg "tidy" zrg zoe Zd8 Zd7)(Zbo:FX K mg "is_passed_by" zc0 zcc Za1 Za0)(Zcq:FX K mg "told_rows" zd1 zdw Zbt Zb1)(Zdn:FX K mg "fact_of" zg0 zfl Zc2 Zcz)(Zbj:FX K mg "numbered_fact" zcs zb1 Zat Zau)(Zcr:FX K mg "read_book" zd3 zdq Zb3 Zb4)(Zct:FX K mg "show_book" zdu zdr Zbs Zbx)(Zco:FX K mg "fits_form" zey zd0 Zbv Zbz)(Zdd:FX K mg "order_of" zgd zdo Zbq Zbr)(Zaq:FX K mg "refuse_rows_behind" zbt za3 Zah Zai)(Zb6:FX K mg "rows_behind" zdj zcr Za8 Zbb)(Zdp:Fun K "__init__" "Desk.__init__" Zar Zay Zaw)(Zdo:zev K Zaw ["self"] [])(Zd0:Fun K "say" "Desk.say" Zav Za6 Za7)(Za3:zev K Za7 ["self", "text"] [])(Zbg:Fun K "refuse_names" "Desk.refuse_names" Zad Zac Zab)(Zbi:zev K Zab ["self", "words"] [])(Zc6:Fun K "answer" "Desk.answer" Zam Zan Zal)(Zc7:zev K Zal ["self", "words"] [])(Zbh:Fun K "changed_book" "Desk.changed_book" Zae Zaf Zag)(Zbf:zev K Zag ["self", "words", "rows"] [])(Za9:FX K mg "_law_cell_at" zdk zcq Zbc Zba)(Za5:FX K mg "_law_card" zf4 zdm Zbn Zbp)(Zde:FX K mg "_law_text" zeg zeh Zcc Zch)(Zb0:FX K mg "_law_great" ze6 zdv Zby Zb2)(Zc9:FX K mg "_law_fact" zgf zee Zcg Zce)(Zcb:FX K mg "_law_book" zf8 zeq Zci Zcf)(Zax:FX K mg "_law_shown" zd2 zdz Zbu Zbw)(Zee:FX K mg "law" zrq zty Ze2 Zeg)(Ze4:mg "all" = none)(Zcu:mg "enumerate" = none)(Zd4:mg "isinstance" = none)(Zdc:mg "len" = none)(Zfb:mg "list" = none)(Ze3:mg "max" = none)(Ze1:mg "min" = none)(Zfx:mg "ord" = none)(Zdf:mg "range" = none)(Zef:mg "reversed" = none)(Zdl:mg "set" = none)(Zcn:mg "sorted" = none)(Zgb:mg "str" = none)(Zeq:mg "tuple" = none)(Ze0:mg "zip" = none){q_F:Addr}{kv_F:Ai Key V}(ZF:FormsK l.prog w K mg q_F kv_F) :
  ∃fd:Zj9,(∀(s:Zgk) (v:Zgi),Zrg s fd ⟨[v],[]⟩ [("_law_script", v)]) /\ ∀base:Heap,K.In base->base.Ns Zkp mg->FnOk l.prog w K mg base CX0 21 fa fd ["_law_script"] (zyb K):=by
 have e:=hfa.symm.trans Zee.M
 cases e
 exact(AD (Zee.bt Zf7) (fun base _ _=>yfm (ad0:=⟨Zaa,Zb7,Zbk,Zap,Zao,Zbm,Zdg,Zcy,Zca,Zcv,Zcx,Zbd,Zd8,Za1,Zbt,Zc2,Zat,Zb3,Zbs,Zbv,Zbq,Zah,Za8,Zay,Za6,Zac,Zan,Zaf,Zbc,Zbn,Zcc,Zby,Zcg,Zci,Zbu,_,_,_,_,_,Zbl,Zdh,Zcw,Zb9,Zc1,Zc0,Zbe,Zd7,Za0,Zb1,Zcz,Zau,Zb4,Zbx,Zbz,Zbr,Zai,Zbb,Zaw,Za7,Zab,Zal,Zag,Zba,Zbp,Zch,Zb2,Zce,Zcf,Zbw,Zeg⟩) ⟨Zff,Zaj,Zer,Zaz,Zak,Zc4,Za2,Zcl,Za4,Zec,Zdv,Zdy,Zd1,Zc3,Zc5,Zc8,Zb5,Zd6,(AF _),Zcm,(AF _),Zck,(AF _),Zd5,(AF _),Zcd,Zdt,Zdj,Zb8,Zdk,Zdi,Zcp,Zeh,Zbo,Zcq,Zdn,Zbj,Zcr,Zct,Zco,Zdd,Zaq,Zb6,Zdp,Zdo,Zd0,Za3,Zbg,Zbi,Zc6,Zc7,Zbh,Zbf,Za9,Za5,Zde,Zb0,Zc9,Zcb,Zax,Zee,Ze4,Zcu,Zd4,Zdc,Zfb,Ze3,Ze1,Zfx,Zdf,Zef,Zdl,Zcn,Zgb,Zeq,Ze0⟩ ZF))
theorem Zf9{K:Zgh}{q_ASKING:Addr}{od_ASKING:Option Addr}{nn_ASKING:Nat}{sl_ASKING:Array AY}{t0_ASKING t1_ASKING t2_ASKING t3_ASKING:Tok}(l_ASKING:Aa (K.lookup q_ASKING) ⟨.type "tuple", od_ASKING,.seq #[.str (T [115,104,111,119]) t0_ASKING,.str (T [103,114,111,117,112,115]) t1_ASKING,.str (T [108,111,115,115]) t2_ASKING,.str (T [116,111,108,100]) t3_ASKING] nn_ASKING,sl_ASKING⟩):TupK K q_ASKING [[115,104,111,119],[103,114,111,117,112,115],[108,111,115,115],[116,111,108,100]]:=zgu l_ASKING rfl rfl rfl (by decide) (by decide) (fun i l u h1 h2=>by rcases i with _ | _ | _ | _ | i <;> simp at h1 h2 <;> (subst h1;subst h2;exact(AF _)))
theorem Zf1{K:Zgh}{q_FIELDS:Addr}{od_FIELDS:Option Addr}{nn_FIELDS:Nat}{sl_FIELDS:Array AY}{t0_FIELDS t1_FIELDS t2_FIELDS t3_FIELDS t4_FIELDS:Tok}(l_FIELDS:Aa (K.lookup q_FIELDS) ⟨.type "tuple", od_FIELDS,.seq #[.str (T [110,97,109,101]) t0_FIELDS,.str (T [102,111,114,109,101,114]) t1_FIELDS,.str (T [119,97,121]) t2_FIELDS,.str (T [100,97,121]) t3_FIELDS,.str (T [109,97,114,107]) t4_FIELDS] nn_FIELDS,sl_FIELDS⟩):TupK K q_FIELDS [[110,97,109,101],[102,111,114,109,101,114],[119,97,121],[100,97,121],[109,97,114,107]]:=zgu l_FIELDS rfl rfl rfl (by decide) (by decide) (fun i l u h1 h2=>by rcases i with _ | _ | _ | _ | _ | i <;> simp at h1 h2 <;> (subst h1;subst h2;exact(AF _)))
theorem Zen{K:Zgh}{q_PAIR_FIELDS:Addr}{od_PAIR_FIELDS:Option Addr}{nn_PAIR_FIELDS:Nat}{sl_PAIR_FIELDS:Array AY}{t0_PAIR_FIELDS t1_PAIR_FIELDS:Tok}(l_PAIR_FIELDS:Aa (K.lookup q_PAIR_FIELDS) ⟨.type "tuple", od_PAIR_FIELDS,.seq #[.str (T [115,97,109,101]) t0_PAIR_FIELDS,.str (T [97,112,97,114,116]) t1_PAIR_FIELDS] nn_PAIR_FIELDS,sl_PAIR_FIELDS⟩):TupK K q_PAIR_FIELDS [[115,97,109,101],[97,112,97,114,116]]:=zgu l_PAIR_FIELDS rfl rfl rfl (by decide) (by decide) (fun i l u h1 h2=>by rcases i with _ | _ | i <;> simp at h1 h2 <;> (subst h1;subst h2;exact(AF _)))
theorem Zeo{K:Zgh}{q_TAKING_ROWS:Addr}{od_TAKING_ROWS:Option Addr}{nn_TAKING_ROWS:Nat}{sl_TAKING_ROWS:Array AY}{t0_TAKING_ROWS t1_TAKING_ROWS t2_TAKING_ROWS:Tok}(l_TAKING_ROWS:Aa (K.lookup q_TAKING_ROWS) ⟨.type "tuple", od_TAKING_ROWS,.seq #[.str (T [98,111,111,107]) t0_TAKING_ROWS,.str (T [114,117,108,101,115]) t1_TAKING_ROWS,.str (T [114,105,103,104,116]) t2_TAKING_ROWS] nn_TAKING_ROWS,sl_TAKING_ROWS⟩):TupK K q_TAKING_ROWS [[98,111,111,107],[114,117,108,101,115],[114,105,103,104,116]]:=zgu l_TAKING_ROWS rfl rfl rfl (by decide) (by decide) (fun i l u h1 h2=>by rcases i with _ | _ | _ | i <;> simp at h1 h2 <;> (subst h1;subst h2;exact(AF _)))
theorem Zey{K:Zgh}{q:Addr}{od:Option Addr}{nn:Nat}{sl:Array AY}{t0:Tok}(l:Aa (K.lookup q) ⟨.type "tuple", od,.seq #[.str (T [110,101,119]) t0] nn,sl⟩):TupK K q [[110,101,119]]:=zgu l rfl rfl rfl (by decide) (by decide) (fun i l u h1 h2=>by rcases i with _ | i <;> simp at h1 h2 <;> (subst h1;subst h2;exact⟨_,rfl⟩))
theorem Zex{K:Zgh}{q:Addr}{od:Option Addr}{nn:Nat}{sl:Array AY}{t0:Tok}(l:Aa (K.lookup q) ⟨.type "tuple", od,.seq #[.str (T [98,111,111,107]) t0] nn,sl⟩):TupK K q [[98,111,111,107]]:=zgu l rfl rfl rfl (by decide) (by decide) (fun i l u h1 h2=>by rcases i with _ | i <;> simp at h1 h2 <;> (subst h1;subst h2;exact⟨_,rfl⟩))
theorem Zew{K:Zgh}{q:Addr}{od:Option Addr}{nn:Nat}{sl:Array AY}{t0 t1 t2 t3:Tok}(l:Aa (K.lookup q) ⟨.type "tuple", od,.seq #[.str (T [110,101,119]) t0,.str (T [98,111,111,107]) t1,.str (T [98,111,111,107]) t2,.str (T [98,111,111,107]) t3] nn,sl⟩):TupK K q [[110,101,119],[98,111,111,107],[98,111,111,107],[98,111,111,107]]:=zgu l rfl rfl rfl (by decide) (by decide) (fun i l u h1 h2=>by rcases i with _ | _ | _ | _ | i <;> simp at h1 h2 <;> (subst h1;subst h2;exact(AF _)))
theorem fk_FORMS{P:Zg8}{w:Zhy}{K:Zgh}{mg:Str->AY}{q:Addr}{ep:Nat}{t0 t1 t2 t3 t4 t5 t6 t7 t8 t9 t10:Tok}{b0 b1 b2 b3 b4 b5 b6 b7 b8 b9 b10:Addr}(a:Bq (mg "FORMS") (.ref q))(l:Aa (K.lookup q) ⟨.type "dict", none,.dict #[⟨keyH w (.inr (T [98,111,111,107])),.str (T [98,111,111,107]) t0,.ref b0⟩,⟨keyH w (.inr (T [114,117,108,101,115])),.str (T [114,117,108,101,115]) t1,.ref b1⟩,⟨keyH w (.inr (T [115,104,111,119])),.str (T [115,104,111,119]) t2,.ref b2⟩,⟨keyH w (.inr (T [112,111,117,114])),.str (T [112,111,117,114]) t3,.ref b3⟩,⟨keyH w (.inr (T [103,114,111,117,112,115])),.str (T [103,114,111,117,112,115]) t4,.ref b4⟩,⟨keyH w (.inr (T [108,111,115,115])),.str (T [108,111,115,115]) t5,.ref b5⟩,⟨keyH w (.inr (T [116,111,108,100])),.str (T [116,111,108,100]) t6,.ref b6⟩,⟨keyH w (.inr (T [104,111,108,100])),.str (T [104,111,108,100]) t7,.ref b7⟩,⟨keyH w (.inr (T [112,97,114,116])),.str (T [112,97,114,116]) t8,.ref b8⟩,⟨keyH w (.inr (T [102,114,101,101])),.str (T [102,114,101,101]) t9,.ref b9⟩,⟨keyH w (.inr (T [114,105,103,104,116])),.str (T [114,105,103,104,116]) t10,.ref b10⟩] ep,#[]⟩)(hq:Am (q == Zk6))(k_book:TupK K b0 [[110,101,119]])(k_show:TupK K b2 [[98,111,111,107]])(k_pour:TupK K b3 [[110,101,119],[98,111,111,107],[98,111,111,107],[98,111,111,107]]):FormsK P w K mg q [(.inr (T [98,111,111,107]),.ref b0),(.inr (T [114,117,108,101,115]),.ref b1),(.inr (T [115,104,111,119]),.ref b2),(.inr (T [112,111,117,114]),.ref b3),(.inr (T [103,114,111,117,112,115]),.ref b4),(.inr (T [108,111,115,115]),.ref b5),(.inr (T [116,111,108,100]),.ref b6),(.inr (T [104,111,108,100]),.ref b7),(.inr (T [112,97,114,116]),.ref b8),(.inr (T [102,114,101,101]),.ref b9),(.inr (T [114,105,103,104,116]),.ref b10)] :=
 ⟨a,yct [(T [98,111,111,107],t0,b0),(T [114,117,108,101,115],t1,b1),(T [115,104,111,119],t2,b2),(T [112,111,117,114],t3,b3),(T [103,114,111,117,112,115],t4,b4),(T [108,111,115,115],t5,b5),(T [116,111,108,100],t6,b6),(T [104,111,108,100],t7,b7),(T [112,97,114,116],t8,b8),(T [102,114,101,101],t9,b9),(T [114,105,103,104,116],t10,b10)] l hq (show([T [98,111,111,107],T [114,117,108,101,115],T [115,104,111,119],T [112,111,117,114],T [103,114,111,117,112,115],T [108,111,115,115],T [116,111,108,100],T [104,111,108,100],T [112,97,114,116],T [102,114,101,101],T [114,105,103,104,116]]:Al).Nodup by decide +kernel),zxd (h_book:=(Aw b0 k_book)) (h_show:=(Aw b2 k_show)) (h_pour:=(Aw b3 k_pour))⟩
theorem walk{l:Zpx}{q:Zg8}{loose:Al}{XP:(Str->AY)->Af Heap}{YP:Zhy->Af Heap}{d:DefRec}{K:Params->Zgh}(hn:Aa l.most 63)(hdf:d.params.defaults=[])
  (hY:∀(w:Zhy) (h:Heap),YP w h->(K w.params).In h)
  (F:∀(w:Zhy) (mg:Str->AY) (fa:Addr) (h:Heap),(K w.params).In h->h.Ns Zkp mg->Aa (mg d.name) (.ref fa) ->
   ∃fd:Zj9,(∀(s:Zgk) (u:Zgi),Zrg s fd ⟨[u],[]⟩ [("_law_script", u)]) /\ ∀base:Heap,(K w.params).In base->base.Ns Zkp mg->FnOk l.prog w (K w.params) mg base CX0 21 fa fd ["_law_script"] (zyb (K w.params))) :
  Zun q loose XP YP l.row.toRowW d [] (fun f vs=>Ztq f vs) :=
 L2.walk_of (n:=63) (k:=21) (x:="_law_script") (CX:=fun _=>CX0) (sp:=fun w=>zyb (K w.params)) hn (by decide) hdf ⟨rfl,by decide,by decide,rfl⟩ hY F (fun _ _ a ns hl _ hS=>⟨a,ns,rfl,hS,hl,fun _=>rfl⟩) fun _ _ _ _ _ z=>z
end My
namespace PySem.W.Fast
noncomputable def tw7820020059108547855:Unit:=()
noncomputable def tw15933983883067194322:Unit:=()
noncomputable def tw16175647955908409502:Unit:=()
noncomputable def tw6319433265644593074:Unit:=()
noncomputable def tw1857953344213138502:Unit:=()
noncomputable def tw12272585531411318176:Unit:=()
noncomputable def tw4566786345173337482:Unit:=()
noncomputable def tw10412107530325123264:Unit:=()
noncomputable def tw9163209065981084294:Unit:=()
noncomputable def tw459227774829814225:Unit:=()
noncomputable def tw14575201413325231565:Unit:=()
noncomputable def tw12249622621699687045:Unit:=()
noncomputable def tw9984182756714806699:Unit:=()
noncomputable def tw14526940411343889727:Unit:=()
noncomputable def tw15020582050434596286:Unit:=()
noncomputable def tw7267942435144946091:Unit:=()
noncomputable def tw6500930937892233492:Unit:=()
noncomputable def tw1581218552128224568:Unit:=()
noncomputable def tw2730648106779064185:Unit:=()
noncomputable def tw13243095964074467551:Unit:=()
noncomputable def tw18087965060834351923:Unit:=()
noncomputable def tw1132167645351883993:Unit:=()
noncomputable def tw12590117103430663174:Unit:=()
noncomputable def tw14732196414208481430:Unit:=()
noncomputable def tw4826661739062784361:Unit:=()
noncomputable def tw5712670661361037460:Unit:=()
noncomputable def tw5921063217652892953:Unit:=()
noncomputable def tw13992538127855371191:Unit:=()
noncomputable def tw6684128779408545050:Unit:=()
noncomputable def tw18269755007857672783:Unit:=()
noncomputable def tw8077062628470045955:Unit:=()
noncomputable def tw571693806773632249:Unit:=()
noncomputable def tw3418395749697172714:Unit:=()
noncomputable def tw14575798987038240692:Unit:=()
noncomputable def tw538234426271197731:Unit:=()
noncomputable def tw2049021593926314051:Unit:=()
noncomputable def tw17018738712257260318:Unit:=()
noncomputable def tw6591032623745681299:Unit:=()
noncomputable def tw14500659382978123861:Unit:=()
noncomputable def tw17954241620190112956:Unit:=()
noncomputable def tw14355548362309506797:Unit:=()
noncomputable def tw14979238665720586020:Unit:=()
noncomputable def tw13824254663991635862:Unit:=()
noncomputable def tw16779926906287964407:Unit:=()
noncomputable def tw11396118205029905702:Unit:=()
noncomputable def tw16290181776727404515:Unit:=()
noncomputable def tw1335568557348296712:Unit:=()
noncomputable def tw12170698424327218394:Unit:=()
noncomputable def tw1920967189744848830:Unit:=()
noncomputable def tw2307936140023906945:Unit:=()
noncomputable def tw614164562880859214:Unit:=()
noncomputable def tw14667658844004147862:Unit:=()
noncomputable def tw4215936666440497100:Unit:=()
noncomputable def tw7315696288596027621:Unit:=()
noncomputable def tw14541262457390202373:Unit:=()
noncomputable def tw5191500087330714456:Unit:=()
noncomputable def tw16417165212712335521:Unit:=()
noncomputable def tw15167423580429630565:Unit:=()
noncomputable def tw13490190024145078314:Unit:=()
noncomputable def tw4646033341114383720:Unit:=()
noncomputable def tw12541689564032517428:Unit:=()
noncomputable def tw9139364437744994128:Unit:=()
noncomputable def tw4397753361623341395:Unit:=()
noncomputable def tw13062721175271077554:Unit:=()
noncomputable def tw17954149583363700294:Unit:=()
noncomputable def tw14065863468371133406:Unit:=()
noncomputable def tw12009610439486894415:Unit:=()
noncomputable def tw11280361397003249739:Unit:=()
noncomputable def tw234976383097714816:Unit:=()
noncomputable def tw18025060784120368569:Unit:=()
noncomputable def tw15132036690019301947:Unit:=()
noncomputable def tw11732006540386734449:Unit:=()
noncomputable def tw18156095253013395323:Unit:=()
noncomputable def tw3744337711846712180:Unit:=()
noncomputable def tw15226064162368116533:Unit:=()
noncomputable def tw17421728756066386459:Unit:=()
noncomputable def tw9590019546385088680:Unit:=()
noncomputable def tw8035148248410086944:Unit:=()
noncomputable def tw14714361817592441301:Unit:=()
noncomputable def tw1520583276581609920:Unit:=()
noncomputable def tw15297690959913186628:Unit:=()
noncomputable def tw13778404691389305678:Unit:=()
noncomputable def tw14723185041617425458:Unit:=()
noncomputable def tw2474977116713652621:Unit:=()
noncomputable def tw13343874450690092455:Unit:=()
noncomputable def tw16258246210410703200:Unit:=()
noncomputable def tw1220557890515942285:Unit:=()
noncomputable def tw4426212804731534200:Unit:=()
noncomputable def tw5990002707525273974:Unit:=()
noncomputable def tw17154263508302641506:Unit:=()
noncomputable def tw4286991181822128909:Unit:=()
noncomputable def tw3286421124947396433:Unit:=()
noncomputable def tw15962628873377901969:Unit:=()
noncomputable def tw8603929135838155493:Unit:=()
noncomputable def tw17146463559996475749:Unit:=()
noncomputable def tw3395980002217261315:Unit:=()
noncomputable def tw16145569487507196532:Unit:=()
noncomputable def tw6839037782090490584:Unit:=()
noncomputable def tw11062658098610315359:Unit:=()
noncomputable def tw553857656234300960:Unit:=()
noncomputable def tw1596657153888067952:Unit:=()
noncomputable def tw14907628464546354752:Unit:=()
noncomputable def tw3038927752737778127:Unit:=()
noncomputable def tw1957798034799631732:Unit:=()
noncomputable def tw3844463532552887139:Unit:=()
noncomputable def tw5589922082750144465:Unit:=()
noncomputable def tw6941309780351526110:Unit:=()
noncomputable def tw9381499231363724199:Unit:=()
noncomputable def tw12122946236929995502:Unit:=()
noncomputable def tw11572146739359703215:Unit:=()
noncomputable def tw2798213452769732386:Unit:=()
noncomputable def tw1847966410629503281:Unit:=()
noncomputable def tw3147992386341386054:Unit:=()
noncomputable def tw11933066636834434542:Unit:=()
noncomputable def tw15362382606261682782:Unit:=()
noncomputable def tw14329343625672511300:Unit:=()
noncomputable def tw4710063797639448190:Unit:=()
noncomputable def tw6219994709266086503:Unit:=()
noncomputable def tw15004399172759497649:Unit:=()
noncomputable def tw2953366596016630628:Unit:=()
noncomputable def tw12072065026069134633:Unit:=()
noncomputable def tw13790311336576143332:Unit:=()
noncomputable def tw3586615525402293463:Unit:=()
noncomputable def tw9608197376847370066:Unit:=()
noncomputable def tw9380042384939059205:Unit:=()
noncomputable def tw1690137331255539330:Unit:=()
noncomputable def tw16937792955154208786:Unit:=()
noncomputable def tw843489894980533603:Unit:=()
noncomputable def tw50933568767367161:Unit:=()
noncomputable def tw12530498592788628767:Unit:=()
noncomputable def tw10393863818925289179:Unit:=()
noncomputable def tw4584873606818271405:Unit:=()
noncomputable def tw3070398472130577808:Unit:=()
noncomputable def tw10906167238251776935:Unit:=()
noncomputable def tw10486594474687180039:Unit:=()
noncomputable def tw1613382040270712775:Unit:=()
noncomputable def tw13533608102820145548:Unit:=()
noncomputable def tw16609267571860843816:Unit:=()
noncomputable def tw14237963461036812559:Unit:=()
noncomputable def tw13717036628764712056:Unit:=()
noncomputable def tw14011408532998877695:Unit:=()
noncomputable def tw5004354466144370222:Unit:=()
noncomputable def tw14889953712215959060:Unit:=()
noncomputable def tw8492850565893772660:Unit:=()
noncomputable def tw16871976887973107967:Unit:=()
noncomputable def tw2689328143392510113:Unit:=()
noncomputable def tw17593886384859779744:Unit:=()
noncomputable def tw8621476736698858355:Unit:=()
noncomputable def tw4983356186226253680:Unit:=()
noncomputable def tw586846722074810001:Unit:=()
noncomputable def tw14804523143056190657:Unit:=()
noncomputable def tw2721111922618329388:Unit:=()
noncomputable def tw7065744010994495088:Unit:=()
noncomputable def tw4551648360944049613:Unit:=()
noncomputable def tw15648559729598860873:Unit:=()
noncomputable def tw11461926138244598153:Unit:=()
noncomputable def tw7056930194208546303:Unit:=()
noncomputable def tw11941635873411907054:Unit:=()
noncomputable def tw6038307608130480547:Unit:=()
noncomputable def tw11167391099675221125:Unit:=()
noncomputable def tw376061418386604824:Unit:=()
noncomputable def tw12532987892637900663:Unit:=()
noncomputable def tw7807290126181025897:Unit:=()
noncomputable def tw5044877907067058074:Unit:=()
noncomputable def tw8368829716005031143:Unit:=()
noncomputable def tw979484315109090021:Unit:=()
noncomputable def tw352257624019785127:Unit:=()
noncomputable def tw74504461131664138:Unit:=()
noncomputable def tw143435894965531795:Unit:=()
noncomputable def tw11429989057113915294:Unit:=()
noncomputable def tw4454164115041287866:Unit:=()
noncomputable def tw2396944310506946757:Unit:=()
noncomputable def tw4230998715618745418:Unit:=()
noncomputable def tw13011970795225446443:Unit:=()
noncomputable def tw15030969607804753605:Unit:=()
noncomputable def tw15906876075302166013:Unit:=()
noncomputable def tw17338301898016045039:Unit:=()
noncomputable def tw4154286517552674809:Unit:=()
noncomputable def tw17598982492407544771:Unit:=()
noncomputable def tw11560028879877150622:Unit:=()
noncomputable def tw9613714580930836371:Unit:=()
noncomputable def tw3308196446910816201:Unit:=()
noncomputable def tw13445439549426922061:Unit:=()
noncomputable def tw6581870535610514717:Unit:=()
noncomputable def tw1559463165899160592:Unit:=()
noncomputable def tw17893665202341432096:Unit:=()
noncomputable def tw14304055662778780588:Unit:=()
noncomputable def tw14267036615712620878:Unit:=()
noncomputable def tw4851494408822098227:Unit:=()
noncomputable def tw8278012854130869508:Unit:=()
noncomputable def tw12260751369125924630:Unit:=()
noncomputable def tw14831668357105233558:Unit:=()
noncomputable def tw14595447589204796004:Unit:=()
noncomputable def tw8200653742538164708:Unit:=()
noncomputable def tw15074443803120282777:Unit:=()
noncomputable def tw15658354301758229418:Unit:=()
noncomputable def tw12903333762524521783:Unit:=()
noncomputable def tw11227680550222310966:Unit:=()
noncomputable def tw5755855392552404655:Unit:=()
noncomputable def tw11278112373274026193:Unit:=()
noncomputable def tw9258463540300365696:Unit:=()
noncomputable def tw13689111064776296102:Unit:=()
noncomputable def tw17532095106125421952:Unit:=()
noncomputable def tw7005618984940924552:Unit:=()
noncomputable def tw2544306583341600427:Unit:=()
noncomputable def tw7569438527076247760:Unit:=()
noncomputable def tw8156961634451484317:Unit:=()
noncomputable def tw9768538305236276162:Unit:=()
noncomputable def tw5339223624635617206:Unit:=()
noncomputable def tw3868459937249971619:Unit:=()
noncomputable def tw1916387268261734735:Unit:=()
noncomputable def tw11038493154985859962:Unit:=()
noncomputable def tw13840661263742438160:Unit:=()
noncomputable def tw17608107077321666532:Unit:=()
noncomputable def tw15845533020166802837:Unit:=()
noncomputable def tw8611274093400025697:Unit:=()
noncomputable def tw5814946581160143510:Unit:=()
noncomputable def tw11008529382505098042:Unit:=()
noncomputable def tw6803817114378434738:Unit:=()
noncomputable def tw16855703281393307780:Unit:=()
noncomputable def tw3174416255390566375:Unit:=()
noncomputable def tw5984830821456396831:Unit:=()
noncomputable def tw13106255424415402348:Unit:=()
noncomputable def tw15364811421680128221:Unit:=()
noncomputable def tw11906513084721988630:Unit:=()
noncomputable def tw4569786018391288097:Unit:=()
noncomputable def tw17549996879918538852:Unit:=()
noncomputable def tw5092067105050001776:Unit:=()
noncomputable def tw3274942967677372470:Unit:=()
noncomputable def tw3251429781317055833:Unit:=()
noncomputable def tw5266149267792790449:Unit:=()
noncomputable def tw2303080427137692972:Unit:=()
noncomputable def tw4746800477442274270:Unit:=()
noncomputable def tw6051741814658075511:Unit:=()
noncomputable def tw16821799345518239181:Unit:=()
noncomputable def tw8460534492554342777:Unit:=()
noncomputable def tw5556567524718917533:Unit:=()
end PySem.W.Fast
open PySem PySem.W PyProof.Rows
set_option maxRecDepth 100000 in
set_option maxHeartbeats 0 in
theorem PySem.Challenge.cw_folk_k53_whole_poured_at_a_desk_holds : PySem.Challenge.rw_folk_k53_whole_poured_at_a_desk.Holds := by
 w_on;o_law;k_head;(case hw=>w_witness2)
 k_fill
 refine My.walk (l:=Zl5) rfl rfl (fun w h Y=>PySem.W.km_in_of Y) ?F
 case F =>
  intro w mg fa h KX G hmg
  refine' My.all_mk hmg (mg_of KX G ?a_Desk) ⟨?cl0_Desk,?cl1_Desk,?cl2_Desk,?cl3_Desk⟩ ⟨?mk_Desk,?me_Desk_init,?mf18,?mc_Desk⟩ ⟨?me_Desk_say,?mf19,?k19⟩ ((show Zi4 _ _ _=some none from ?na_Desk_books)) ((show Zi4 _ _ _=some none from ?na_Desk_rules)) ⟨?me_Desk_refuse_names,?mf20,?k20⟩ ⟨?me_Desk_answer,?mf21,?k21⟩ ⟨?me_Desk_changed_book,?mf22,?k22⟩ (mg_of KX G ?a_ASKING) (My.Zf9 ?l_ASKING) (mg_of KX G ?a_FIELDS) (My.Zf1 ?l_FIELDS) (mg_of KX G ?a_PAIR_FIELDS) (My.Zen ?l_PAIR_FIELDS) (mg_of KX G ?a_TAKING_ROWS) (My.Zeo ?l_TAKING_ROWS) (mg_of KX G ?a_LETTERS) (mg_of KX G ?a_LONGEST_NAME) (mg_of KX G ?a_LONGEST_TEXT) (mg_of KX G ?a_NO_SIGN) (L2.fx_mk KX G My.Zev ?a0 ?l0 ?c0 ?k0) (L2.fx_mk KX G My.Zf6 ?a1 ?l1 ?c1 ?k1) (L2.fx_mk KX G My.Zfy ?a2 ?l2 ?c2 ?k2) (L2.fx_mk KX G My.Zfw ?a3 ?l3 ?c3 ?k3) (L2.fx_mk KX G My.Zfs ?a4 ?l4 ?c4 ?k4) (L2.fx_mk KX G My.Zft ?a5 ?l5 ?c5 ?k5) (L2.fx_mk KX G My.Zfe ?a6 ?l6 ?c6 ?k6) (L2.fx_mk KX G My.Zgc ?a7 ?l7 ?c7 ?k7) (L2.fx_mk KX G My.Zei ?a8 ?l8 ?c8 ?k8) (L2.fx_mk KX G My.Zfd ?a9 ?l9 ?c9 ?k9) (L2.fx_mk KX G My.Zfu ?a10 ?l10 ?c10 ?k10) (L2.fx_mk KX G My.Zeb ?a11 ?l11 ?c11 ?k11) (L2.fx_mk KX G My.Ze7 ?a12 ?l12 ?c12 ?k12) (L2.fx_mk KX G My.Zfc ?a13 ?l13 ?c13 ?k13) (L2.fx_mk KX G My.Ze5 ?a14 ?l14 ?c14 ?k14) (L2.fx_mk KX G My.Zfq ?a15 ?l15 ?c15 ?k15) (L2.fx_mk KX G My.Zds ?a16 ?l16 ?c16 ?k16) (L2.fx_mk KX G My.Zek ?a17 ?l17 ?c17 ?k17) (L2.fun_mk (st:=My.Zar) ?l18 ?c18 ?k18) ((L2.fun_mk (st:=My.Zar) ?l18 ?c18 ?k18).binds My.Ze8) (L2.fun_mk (st:=My.Zav) ?l19 ?c19 ?k19) ((L2.fun_mk (st:=My.Zav) ?l19 ?c19 ?k19).binds My.Zfp) (L2.fun_mk (st:=My.Zad) ?l20 ?c20 ?k20) ((L2.fun_mk (st:=My.Zad) ?l20 ?c20 ?k20).binds My.Zdz) (L2.fun_mk (st:=My.Zam) ?l21 ?c21 ?k21) ((L2.fun_mk (st:=My.Zam) ?l21 ?c21 ?k21).binds My.Zej) (L2.fun_mk (st:=My.Zae) ?l22 ?c22 ?k22) ((L2.fun_mk (st:=My.Zae) ?l22 ?c22 ?k22).binds My.Zdx) (L2.fx_mk KX G My.Zel ?a23 ?l23 ?c23 ?k23) (L2.fx_mk KX G My.Zfg ?a24 ?l24 ?c24 ?k24) (L2.fx_mk KX G My.Zfi ?a25 ?l25 ?c25 ?k25) (L2.fx_mk KX G My.Ze9 ?a26 ?l26 ?c26 ?k26) (L2.fx_mk KX G My.Zfh ?a27 ?l27 ?c27 ?k27) (L2.fx_mk KX G My.Zfl ?a28 ?l28 ?c28 ?k28) (L2.fx_mk KX G My.Zfa ?a29 ?l29 ?c29 ?k29) (L2.fx_mk KX G My.Zf7 ?a30 ?l30 ?c30 ?k30) (mg_none_of KX G ?y_all) (mg_none_of KX G ?y_enumerate) (mg_none_of KX G ?y_isinstance) (mg_none_of KX G ?y_len) (mg_none_of KX G ?y_list) (mg_none_of KX G ?y_max) (mg_none_of KX G ?y_min) (mg_none_of KX G ?y_ord) (mg_none_of KX G ?y_range) (mg_none_of KX G ?y_reversed) (mg_none_of KX G ?y_set) (mg_none_of KX G ?y_sorted) (mg_none_of KX G ?y_str) (mg_none_of KX G ?y_tuple) (mg_none_of KX G ?y_zip) (My.fk_FORMS (mg_of KX G ?a_FORMS) ?l_FORMS ?hq_FORMS (My.Zey ?l_FORMS_book) (My.Zex ?l_FORMS_show) (My.Zew ?l_FORMS_pour))
  (case a_FORMS | a_Desk | me_Desk_init | me_Desk_say | me_Desk_refuse_names | me_Desk_answer | me_Desk_changed_book | a_ASKING | a_FIELDS | a_PAIR_FIELDS | a_TAKING_ROWS | a_LETTERS | a_LONGEST_NAME | a_LONGEST_TEXT | a_NO_SIGN | a0 | l0 | c0 | k0 | a1 | l1 | c1 | k1 | a2 | l2 | c2 | k2 | a3 | l3 | c3 | k3 | a4 | l4 | c4 | k4 | a5 | l5 | c5 | k5 | a6 | l6 | c6 | k6 | a7 | l7 | c7 | k7 | a8 | l8 | c8 | k8 | a9 | l9 | c9 | k9 | a10 | l10 | c10 | k10 | a11 | l11 | c11 | k11 | a12 | l12 | c12 | k12 | a13 | l13 | c13 | k13 | a14 | l14 | c14 | k14 | a15 | l15 | c15 | k15 | a16 | l16 | c16 | k16 | a17 | l17 | c17 | k17 | l18 | c18 | k18 | mf18 | l19 | c19 | k19 | mf19 | l20 | c20 | k20 | mf20 | l21 | c21 | k21 | mf21 | l22 | c22 | k22 | mf22 | a23 | l23 | c23 | k23 | a24 | l24 | c24 | k24 | a25 | l25 | c25 | k25 | a26 | l26 | c26 | k26 | a27 | l27 | c27 | k27 | a28 | l28 | c28 | k28 | a29 | l29 | c29 | k29 | a30 | l30 | c30 | k30 | l_FORMS | l_FORMS_book | l_FORMS_show | l_FORMS_pour=>k_is)
  (case hq_FORMS=>rfl)
  (case cl0_Desk | cl1_Desk | cl2_Desk | cl3_Desk | mk_Desk | mc_Desk | na_Desk_books | na_Desk_rules | l_ASKING | l_FIELDS | l_PAIR_FIELDS | l_TAKING_ROWS | y_all | y_enumerate | y_isinstance | y_len | y_list | y_max | y_min | y_ord | y_range | y_reversed | y_set | y_sorted | y_str | y_tuple | y_zip=>k_is)
