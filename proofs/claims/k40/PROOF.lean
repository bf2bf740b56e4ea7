import PyProof.Rows.All
import Wide.All
import OpenK.AllK
import Wide.FinOn
import Lean
import PyProof.EqAt
import PyProof.EqKinds
import PyProof.TupleCall
import KE.KSortTup
import KE.KSortKey
import KE.KMinKey
import PySem.SetTable
import KE.KDictList
import PyProof.Rows.SeqMore
import PyProof.StrLawsIn
import PyProof.MeetsStr3
import PyProof.Rows.StrSplitMax
import KE.KLam
import KE.KDictLaws
import PyProof.Rows.CallKwBuiltin
import PyProof.ZipIter
import PyProof.Rows.ZipGen
import PyProof.Rows.StrWeight2
import KE.KTryMore
import PyProof.Rows.TopTwo
import PyProof.ExcBaseAll.ValueError
import KE.RegKIsAll
import KE.RegKTryMore
import PyProof.ExcAttrAll.ValueError
import PyProof.ExcInit
import KE.KDictSum
import PyProof.Rows.StrDouble
import OpenK.KCls
import PyProof.Rows.FStr
import PyProof.Rows.FStrParts
import PyProof.InstStoreFacts
import OpenK.KMake
import PyProof.Logic
import PyProof.Rows.StrJoinMade
import PyProof.ReprRoads
import PyProof.ReprLen
import PyProof.StrLawsRepr
import PyProof.Rows.SetFrom
import KE.KItemsList
import KE.KPairComp
import KE.KDictOf
import PyProof.Rows.SumAny
import PySem.Challenge.RW_folk_k40_whole_papers_walked
open Array renaming length_toList → Zkm, mem_toList_iff → Zou, getElem?_toList → Zrn, append_assoc → Zr3
open Bool renaming and_eq_true → Ziq, false_ne_true → Zi8, not_eq_true' → Zje, eq_iff_iff → Zjg, true_and → Zjl, not_eq_false' → Zj3, and_true → Zkl, or_eq_false_iff → Zlo, or_eq_true → Zl2, false_or → Zms, false_eq_true → Zmt, not_false → Zm3, false_and → Znt, and_false → Znu, not_true → Zpg, and_assoc → Zqw, true_or → Zuj, or_true → Zuk
open Classical renaming choose_spec → Zqo, typeDecidableEq → Zv4
open Decidable renaming byContradiction → Zl5
open False renaming elim → Zmo
open ForInStep renaming yield → Zlk
open Iff renaming rfl → Zrm
open Int renaming le_refl → Zll, toNat_natCast → Zm2, zero_add → Zm8, emod_nonneg → Znm, emod_lt_of_pos → Zns, add_zero → Zos, add_mul → Zqn, ofNat → Zta, mul_nonneg → Zto, add_assoc → Zuf, le_of_eq → Zu5, mul_one → Zvi
open List renaming getD_eq_getElem?_getD → Zh8, getElem?_eq_getElem → Zh9, length_map → Zia, mem_singleton → Zic, range → Zid, getElem?_map → Zie, getElem?_eq_some_iff → Zif, mem_append_right → Zig, mem_of_getElem? → Zii, mem_cons_of_mem → Zij, map_cons → Zik, mem_cons_self → Zil, mem_append → Zin, mem_filter → Zip, map_append → Zir, length_append → Zis, mem_map → Zit, mem_cons → Ziy, mem_append_left → Ziz, take_add_one → Zi0, mem_range → Zi2, take_length → Zi3, all_eq_true → Zi7, size_toArray → Zi9, map_map → Zja, length_take → Zjc, map_congr_left → Zjf, append_nil → Zji, getElem?_append_right → Zjq, Nodup → Zjt, cons_lt_cons_iff → Zjv, nodup_append → Zjw, find?_cons → Zjy, getElem?_eq_none → Zjz, getElem?_append_left → Zj1, length_filter_le → Zj5, nodup_cons → Zj6, length_cons → Zj7, getElem?_set_self → Zj8, idxOf_lt_length_iff → Zkb, getElem?_range → Zkd, foldl_cons → Zke, lookup_cons → Zkf, foldl_append → Zkg, all_cons → Zkh, getElem_idxOf → Zki, filter_nil → Zkj, mem_map_of_mem → Zko, filter_eq_self → Zkp, length_range → Zks, filter_cons_of_pos → Zkw, filter_cons_of_neg → Zkx, filter_append → Zky, pairwise_iff_getElem → Zk3, map_nil → Zk4, getElem_mem → Zla, any_eq_true → Zlb, getElem?_set_ne → Zlc, length_pos_iff → Zlg, ext_getElem? → Zlp, filter_sublist → Zlr, any_cons → Zls, range_succ → Zl0, all_append → Zl1, mem_of_mem_take → Zma, nodup_nil → Zmf, lt_irrefl → Zmg, not_mem_nil → Zmj, getElem_map → Zmk, map_id → Zmm, getElem_of_mem → Zmn, getElem?_replicate → Zmr, filter_congr → Zmx, mem_iff_getElem? → Zm4, length_singleton → Zm5, length_replicate → Zm6, length_drop → Znb, filter_cons → Znc, cons_append → Znd, idxOf_cons → Znj, zip_cons_cons → Znp, map_singleton → Znq, drop_eq_getElem_cons → Znr, pairwise_map → Zn0, find?_range_eq_some → Zn1, append_assoc → Zn2, all_eq_false → Zn3, getElem_inj → Zoc, filter_map → Zok, all_nil → Zol, replicate → Zoz, filterMap_cons → Zo2, getElem?_drop → Zpe, reverse_cons → Zpk, nodup_range → Zpr, drop_length → Zps, of_mem_zip → Zp3, not_lt → Zp4, lookup → Zp5, length_set → Zp6, length → Zp7, forIn_cons → Zp8, filter → Zp9, count_cons → Zqa, nodup_iff_pairwise_ne → Zql, getLast?_eq_getElem? → Zqu, getLast?_eq_getLast → Zq2, find?_range_eq_none → Zq3, eq_of_mem_replicate → Zq4, set → Zq8, map_take → Zq9, length_eq_zero_iff → Zra, not_of_lt_findIdx → Zrj, filter_eq_nil_iff → Zrk, singleton_append → Zrq, eq_nil_or_concat → Zrr, reverse_reverse → Zrw, count_cons_self → Zrx, lt_of_le_of_lt → Zr2, ne_nil_of_mem → Zsc, mem_filterMap → Zsd, getElem_range → Zse, count_eq_zero → Zsf, append_of_mem → Zsg, take_sublist → Zsk, idxOf_append → Zsl, nil_append → Zs1, foldr_cons → Zs2, map → Ztm, lt_trans → Ztn, all → Zv3
open List.Nodup renaming sublist → Zmh
open List.Pairwise renaming sublist → Zuc, nil → Zud, imp_of_mem → Zue
open List.Sublist renaming map → Zow
open List.cons renaming injEq → Zn8
open MonadExcept renaming tryCatch → Zn9
open Nat renaming le_refl → Zio, lt_of_lt_of_le → Zi5, ne_of_lt → Zi6, le_trans → Zjb, lt_irrefl → Zjh, zero_le → Zjn, not_lt_zero → Zjo, lt_trans → Zlj, le_of_lt → Zl4, lt_trichotomy → Zl8, le_antisymm → Znl, lt_succ_iff_lt_or_eq → Zn7, ne_of_gt → Zop, lt_or_ge → Zoq, le_of_eq → Zor, pow_le_pow_right → Zoy, le_succ → Zo8, lt_succ_of_lt → Zpn, min_eq_right → Zpz, lt_succ_self → Zp0, min_eq_left → Zqk, sub_self → Zrv, add_le_add_right → Zr1, max_eq_right → Zs0, max_eq_left → Zs9, mul_le_mul → Ztl, succ_mul → Zu4, le_zero → Zvh, max_le → Zvq
open Ne renaming symm → Zju
open Option renaming isSome_iff_exists → Zka, map_eq_some_iff → Zlx, getD_some → Zn6, map_some → Zoe, isSome_map → Zpd, getD_none → Zsb, none → Ztk
open Option.some renaming inj → Zj9
open Or renaming inl → Zld, inr → Ztj
open PUnit renaming unit → Zqt
open Prod renaming snd → Zth, fst → Zv1, ext → Zv2
open Prod.mk renaming injEq → Zm7
open PyProof.Rows renaming callWith_type1 → Zkn, boot_isinstance → Zlv, seqObj → Zmu, envOfC → Znh, get?_update_seq → Zo5, step_dedup → Zo9, AllBare → Zpq, boot_list → Zpx, boot_abs → Zpy, boot_max → Zq5, IntsAre → Zrl, subscriptTail → Zr6, boot_all → Zr8, subscriptTail_builtinR → Zsi, boot_min → Ztf, boot_range → Ztz, Subscript_ → Zt3, callWith_builtin1 → Zu3, boot_int → Zvx
open PyProof.Rows.Boot renaming zip → Zsx
open PySem renaming wpAny_bind → Zib, Shared → Zih, wpAny_pure → Ziu, sizeLine_eq → Ziv, Spec → Zi4, wpAny → Zjd, Program → Zjj, PassesOwn → Zjm, NameKind → Zjp, Around → Zjs, model → Zjx, Builtin → Zj0, starEach → Zj2, wpAny_loadPart' → Zj4, World → Zkq, wpAny_truthy_bool → Zkt, mem_of_lookup → Zk2, wpAny_mono → Zk5, mainGlobals → Zk6, wpAny_tryCatch → Zk7, boot_len → Zk8, FuncData → Zk9, compareOp → Zle, sysModules → Zlh, plainId_quiet → Zlm, PyData → Zln, wpAny_dictEntries → Zlt, codeAny_builtin → Zlu, Builtin → Zl3, tupleKind_room_in1 → Zl6, wpAny_passesOwn → Zmb, wpAny_letGo → Zmc, tupleKind → Zmd, wpAny_holding → Zmi, call_meetsIn → Zmv, wpAny_updateSeq → Zmy, wpAny_setField_rec → Zmz, wpAny_Call_Name_kw → Zm0, wpAny_newObj_type → Zne, wpAny_seqItems → Znf, wpAny_typeNameOfWhole_itemiter → Zng, bootBuiltins → Zni, behindInMarks → Zno, sliceBounds → Znv, richCompare → Znw, DictEntry → Zny, bindArgs → Zob, wpAny_pyIter_list → Zof, foldedSetIterable → Zog, keywordEach → Zom, cLine → Zon, attributeBase → Zoo, backTo → Zov, wpAny_isOneOf_itemiter → Zox, wpAny_execs_nil → Zo3, letOwnedTupleGo → Zo4, codeAny → Zo6, closureFor → Zpa, binaryOp → Zpb, assignEach → Zpc, IsItemIter → Zpf, wpAny_standAt → Zpu, seqItems? → Zpv, pyNext → Zpw, typeIs_int → Zqc, richCompare_gives → Zqd, builtinsNs → Zqe, Keyword → Zqm, BindsTo → Zqp, wpAny_call_entry → Zqx, backToKw → Zq6, SetTable → Zq7, wpAny_specialOf → Zrb, wpAny_of_eq → Zrc, wpAny_field → Zrd, wpAny_dictEpoch → Zre, valueAt → Zrf, swapsWith → Zrg, subscripted → Zrh, callerA → Zri, Arguments → Zrp, recursionLimit → Zrs, evalArgs_none → Zrt, wpAny_callSpecial?_slot → Zr4, wpAny_Call_method0_late → Zr5, getItem → Zr7, call → Zr9, IsItemIterOut → Zsh, wpAny_notOrdered_dict → Zsq, wpAny_isTrue_Compare1 → Zsr, updateSeq → Zss, codeAny_mono → Zst, assign → Zsu, wpAny_newFunctionEnv → Zsy, holding → Zs3, atKey → Zs4, CmpOp → Ztc, wpAny_evalAll_cons → Ztd, cellOf → Zte, wpAny_pyIter_enum → Ztq, wpAny_evalAll_nil → Ztr, wpAny_assign_Name → Zts, wpAny_Name → Ztt, wpAny_Call_method → Ztu, typeIs_str → Ztv, slot_list_getitem → Ztw, entryOfKey → Ztx, call_meets → Zty, bindL → Zt0, bindC → Zt1, wpAny_pyIter_zip → Zul, wpAny_isInstance → Zum, wpAny_execs_cons → Zun, wpAny_Dict_empty → Zuo, rawInt → Zvd, cellsFrom → Zve, Walks → Zvf, wpAny_Compare1 → Zvk, firstArgMember → Zvl, wpAny_newList → Zvr, intBits_le_64 → Zvs, evalPart_none → Zvt, comprehension → Zvu, compEnvC → Zvv, call_list_seq → Zvw, ReadsAll → Zvy, Reads → Zvz
open PySem.Around renaming under_plainId → Zku, frames_deeper → Zro
open PySem.Builtin.Builtins renaming bindParams → Zlq
open PySem.Builtin.Dict renaming entriesForEmpty → Zo0, updateFrom → Zpl, mergeDict → Zpp, showsAll → Zpt, quietEq → Zp2, selfAndRest → Zu8, readDirectly → Zu9, pendingCount → Zva, noArgs → Zvb, merge → Zvc
open PySem.Builtin.Dict_items renaming pairFromOwner → Znz, ownsTuple → Zod, ownedTupleIsFree → Zsm, ownedTupleFields → Zsn, newIterator → Zso, dictOf → Zsp
open PySem.Builtin.Range renaming rangeSize → Zl9, small → Zp1
open PySem.Builtin.Tuple renaming tupleHashOf → Zuh, tupleCompareSizes → Zui
open PySem.Calls renaming callWith_builtin → Zly, spliced_cons → Znn, evalArgs_plain → Zot, spliced_nil → Zph, Name_function_global → Zqb
open PySem.Challenge renaming rw_folk_k40_whole_papers_walked → Zm1, pw_folk_k40_whole_papers_walked → Zs6
open PySem.Draws renaming list → Zu7
open PySem.EqMixed renaming ne_str_int → Zt4, ne_str_bool → Zt5, ne_int_str → Zt6, ne_bool_str → Zt7, eq_str_int → Zt8, eq_str_bool → Zt9, eq_int_str → Zua, eq_bool_str → Zub
open PySem.EqNone renaming ne_str_none → Zup, ne_none_str → Zuq, ne_none_none → Zur, ne_none_int → Zus, ne_none_bool → Zut, ne_int_none → Zuu, ne_bool_none → Zuv, eq_str_none → Zuw, eq_none_str → Zux, eq_none_none → Zuy, eq_none_int → Zuz, eq_none_bool → Zu0, eq_int_none → Zu1, eq_bool_none → Zu2
open PySem.F renaming plainAttrs_list → Zjr, slot_list_append → Zkc, type_list_append → Zkk, plain_min_loop → Zk0, plain_max_loop → Zk1, slot_dict_get → Zli, slot_dict_itemiterator_next → Zme, entry_dict_get → Zmq, type_list_index → Zm9, slot_list_index → Zna, plainAttrs_dict → Znx, entry_min_loop → Zn4, entry_max_loop → Zn5, slot_dict_items_iter → Zpj, slot_dict_items → Zqh, args_dict_get_3 → Zqi, args_dict_get_2 → Zqj, type_dict_get → Zqz, slot_tuple_lt → Zq0, slot_dict_len → Zq1, plainAttrs_dict → Ztb, slot_list_pop → Zug
open PySem.Heap renaming get?_push_of_some → Zim, lt_size → Ziw, get?_push_size → Zi1, SameBut → Zpo, size_push → Zqv
open PySem.Heap.DictOf renaming new → Zvj
open PySem.Heap.IsSliceOf renaming new → Ztp
open PySem.Heap.SameBut renaming update → Zkz, refl → Zu6
open PySem.IsL renaming update → Zv0
open PySem.NameKind renaming free → Zjk, cell → Zml
open PySem.Obj renaming mapSeq → Zlf, data_mapDictKeys → Zr0
open PySem.Paired renaming length → Zqs, snoc → Zti
open PySem.PassesOwn renaming never → Zix
open PySem.PyData renaming eqv → Zlz, canLay0 → Zmw, eqvAll → Zo1, canLayAll0 → Zrz, depthAll → Zsj, strOk → Zs7, depth → Zs8
open PySem.SeqAt renaming list_indexAt → Zvg
open PySem.SeqAt.EqAt renaming str_str → Zvm, str_int → Zvn, int_str → Zvo, int_int → Zvp
open PySem.Shared renaming TypeIs → Zsz
open PySem.Str renaming ofString → Zmp
open PySem.Value renaming ref → Zkr, int → Zlw, bool → Zoi, none → Zqq, str → Zsv, isStrOf → Zs5, isInt → Zt2
open PySem.W renaming Frag → Zh7, fnOf → Zkv, keepIn → Zl7, findIn → Znk, codeIn → Zoj, methodObj → Zo7, OpenLaw → Zpm, cellsFrom_some → Zqr, isFn → Zqy, specialIn → Zru, instObj → Zsa, WalkO → Zsw
open PySem.Walks renaming list → Zoh
open PySem.WalksT renaming enumerateD → Zry, zip2 → Ztg
open Sum renaming inr → Zqf, inl → Zqg
open ToString renaming toString → Zoa
open True renaming intro → Zpi
set_option Elab.async false
set_option linter.all false
set_option maxRecDepth 100000
set_option maxHeartbeats 8000000
set_option genSizeOf false
set_option bootstrap.genMatcherCode false
noncomputable section
namespace L2
open PySem PySem.Spec PyProof.Rows
noncomputable abbrev Key:=Sum Int Str
noncomputable def zvd:Key->Value->Bool
 | .inl k,v=>Zt2 k v
 | .inr x,v=>Zs5 x v
noncomputable def keyH(w:Zkq):Key->Int
 | .inl k=>hashInt k
 | .inr x=>hashStr w x
theorem zck:∀{k:Key} {v:Value},zvd k v=true->(∃i t,k=Zqg i/\v=Zlw i t)\/(∃x t,k=Zqf x/\v=Zsv x t)
 | .inl i,v,h=>by
  obtain⟨t,e⟩:=Value.isInt_shape (k:=i) (v:=v) h
  exact .inl ⟨i,t,rfl,e⟩
 | .inr x,v,h=>by
  obtain⟨t,e⟩:=Value.isStrOf_shape (x:=x) (v:=v) h
  exact .inr ⟨x,t,rfl,e⟩
theorem zw2(i:Int)(t:Tok):zvd (.inl i) (.int i t)=true:=by simp[zvd,Zt2]
theorem zyd(x:Str)(t:Tok):zvd (.inr x) (.str x t)=true:=by simp[zvd,Zs5]
theorem yh0(a b:Int):decide ((Zqg a:Key)=Zqg b)=(a == b):=by
 by_cases e:a=b
 .subst e;simp
 .have h:¬ (Zqg a:Key)=Zqg b:=fun q=>e (Sum.inl.inj q)
  rw[decide_eq_false h]
  exact(beq_eq_false_iff_ne.mpr e).symm
theorem yhs(a b:Str):decide ((Zqf a:Key)=Zqf b)=decide (a=b):=by
 by_cases e:a=b
 .subst e;simp
 .have h:¬ (Zqf a:Key)=Zqf b:=fun q=>e (Sum.inr.inj q)
  rw[decide_eq_false h,decide_eq_false e]
theorem ygw(a:Int)(b:Str):decide ((Zqg a:Key)=Zqf b)=false:=decide_eq_false (fun q=>nomatch q)
theorem yib(a:Str)(b:Int):decide ((Zqf a:Key)=Zqg b)=false:=decide_eq_false (fun q=>nomatch q)
noncomputable def zbh(prog:Zjj)(w:Zkq):PySem.KeyKind prog w Key where
 is:=zvd
 hash:=keyH w
 inj:=fun v a b ha hb=>by
  rcases zck ha with ⟨i,t,rfl,rfl⟩ | ⟨x,t,rfl,rfl⟩
  .rcases zck hb with ⟨j,u,rfl,e⟩ | ⟨y,u,rfl,e⟩
   .injection e with e1 _;rw[e1]
   .exact nomatch e
  .rcases zck hb with ⟨j,u,rfl,e⟩ | ⟨y,u,rfl,e⟩
   .exact nomatch e
   .injection e with e1 _;rw[e1]
 byValue:=fun k v h=>by
  rcases zck h with ⟨i,t,rfl,rfl⟩ | ⟨x,t,rfl,rfl⟩ <;> rfl
 pyHash:=fun hv h=>by
  rcases zck hv with ⟨i,t,rfl,rfl⟩ | ⟨x,t,rfl,rfl⟩
  .exact wpAny_pyHash_int h
  .exact wpAny_pyHash_str h
 eqBool:=fun hu hv h=>by
  rcases zck hu with ⟨i,t,rfl,rfl⟩ | ⟨x,t,rfl,rfl⟩
  .rcases zck hv with ⟨j,u,rfl,rfl⟩ | ⟨y,u,rfl,rfl⟩
   .rw[yh0] at h;exact wpAny_eqBool_int h
   .rw[ygw] at h;exact Zvo i t y u _ _ _ _ h
  .rcases zck hv with ⟨j,u,rfl,rfl⟩ | ⟨y,u,rfl,rfl⟩
   .rw[yib] at h;exact Zvn x t j u _ _ _ _ h
   .rw[yhs] at h;exact wpAny_eqBool_str h
 «strs»:=fun k x t v h=>by
  rcases zck h with ⟨i,u,rfl,e⟩ | ⟨y,u,rfl,e⟩
  .exact nomatch e
  .injection e with e1 _
   subst e1
   cases v <;> rfl
theorem zrw(prog:Zjj)(w:Zkq)(i:Int)(t:Tok):(zbh prog w).is (.inl i) (.int i t)=true:=zw2 i t
theorem zr7(prog:Zjj)(w:Zkq)(x:Str)(t:Tok):(zbh prog w).is (.inr x) (.str x t)=true:=zyd x t
inductive V where
 | non | bl (b:Bool) | int (i:Int) | str (x:Str) | byt (b:Array UInt8) | flt (b:UInt64) | ref (a:Addr) | ty (n:String)
 deriving DecidableEq
noncomputable def RelV:V->Value->Prop
 | .non,u=>u=Zqq
 | .bl b,u=>u=Zoi b
 | .int i,u=>∃t,u=Zlw i t
 | .str x,u=>∃t,u=Zsv x t
 | .byt b,u=>∃t,u=Value.bytes b t
 | .flt b,u=>∃t,u=Value.float b t
 | .ref a,u=>u=Zkr a
 | .ty n,u=>u=Value.type n
noncomputable abbrev Vals:List V->List Value->Prop:=Paired RelV
theorem Vals.length{xs:List V}{us:List Value}(r:Vals xs us):xs.length=us.length:=Zqs r
theorem Vals.get:∀{xs:List V} {us:List Value} {i:Nat} {x:V},Vals xs us->xs[i]? = some x-> ∃u,us[i]? = some u/\RelV x u
 | _,_,_,_,.nil,e=>by simp at e
 | _,_,0,_,.cons r _,e=>by simp at e;subst e;exact⟨_,rfl,r⟩
 | _,_,i+1,x,.cons _ t,e=>by
  obtain⟨u,h1,h2⟩:=Vals.get (i:=i) (x:=x) t (by simpa using e)
  exact⟨u,by simpa using h1,h2⟩
theorem Vals.append:∀{xs ys:List V} {us ws:List Value},Vals xs us->Vals ys ws->Vals (xs++ys) (us++ws)
 | _,_,_,_,.nil,s=>s
 | _,_,_,_,.cons r t,s=>.cons r (Vals.append t s)
theorem Vals.take:∀{xs:List V} {us:List Value} (n:Nat),Vals xs us->Vals (xs.take n) (us.take n)
 | _,_,0,_=>.nil
 | _,_,_+1,.nil=>.nil
 | _,_,n+1,.cons r t=>.cons r (Vals.take n t)
theorem Vals.drop:∀{xs:List V} {us:List Value} (n:Nat),Vals xs us->Vals (xs.drop n) (us.drop n)
 | _,_,0,r=>r
 | _,_,_+1,.nil=>.nil
 | _,_,n+1,.cons _ t=>Vals.drop n t
noncomputable def RelO:Option V->Option Value->Prop
 | some v,some u=>RelV v u
 | none,none=>True
 | _,_=>False
noncomputable def KV{κ:Type}:List (κ×V)->List (κ×Value)->Prop:=Paired fun(p:κ×V) (q:κ×Value)=>p.1=q.1/\RelV p.2 q.2
noncomputable def kV:Key->V
 | .inl i=>.int i
 | .inr x=>.str x
inductive HO where
 /-- a list -/
 | lst (xs:List V)
 /-- a tuple (never changes) -/
 | tup (xs:List V)
 /-- a dict whose keys are ints and texts;one whose keys are tuples of ints and texts (the empty one is both) -/
 | dK (kvs:List (Key×V)) | dT (kvs:List (List Key×V))
 /-- a set of ints: its members,its size -/
 | set (S:Int->Bool) (n:Nat)
 /-- an instance of the class at C,its dict at dx,its attributes -/
 | ins (C dx:Addr) (fs:List (Str×V))
 /-- the dict of the instance at x -/
 | own (x:Addr)
 /-- the dict of an exception -/
 | xd (fs:List (Str×V))
 /-- a bound method,f of x -/
 | met (f x:Addr)
 /-- a range object lo,lo+1,.. below hi -/
 | rng (lo hi:Int)
 /-- a thing that is known to the object (the script;a dict while a loop walks it): read,never written while it is so -/
 | frz (o:Obj) (u:HO)
 /-- a code object's table -/
 | tbl (ps:Array Value)
 /-- any other thing,by what is true of its one object (a def of one's own: SetO a S n:=HO.ext fun h=>..) -/
 | ext (φ:Heap->Prop)
 | tab (ps:Array Value) (pos:Pos) (q:Str)
noncomputable abbrev Hp:=Addr->Option HO
noncomputable def upd(H:Hp)(a:Addr)(o:HO):Hp:=fun b=>if b=a then some o else H b
theorem zam{H:Hp}{a:Addr}{o:HO}:upd H a o a=some o:=by unfold upd;rw[if_pos rfl]
theorem zav{H:Hp}{a b:Addr}{o:HO}(h:b≠a):upd H a o b=H b:=by unfold upd;rw[if_neg h]
theorem yis{H:Hp}{a b:Addr}{o u:HO}(h:H a=some o)(h':H b=some u)(d:o≠u):a≠b:=by
 intro e;subst e;rw[h] at h';exact d (Zj9 h')
theorem zba{H:Hp}{a b:Addr}{o:HO}(h:H a=some o)(h':H b=none):a≠b:=by
 intro e;subst e;rw[h] at h';cases h'
section
variable(P:Zjj)(w:Zkq)
noncomputable def zet(H:Hp)(h:Heap)(a:Addr):HO->Prop
 | .lst xs=>xs.length<=sizeLine /\ ∃(its:List Value) (n:Nat),Vals xs its/\h.get? a=some { cls:=.type "list", data:=.seq its.toArray n }
 | .tup xs=>xs.length<=sizeLine /\ ∃its:List Value,Vals xs its/\IsTup h a its.toArray
 | .dK kvs=>kvs.length<=sizeLine/\(a == Zlh)=false /\ ∃vs,KV kvs vs/\h.DictOf (zbh P w) a vs
 | .dT kvs=>kvs.length<=sizeLine/\(a == Zlh)=false /\ ∃xs:List (List Key×Addr×Value),
   Paired (fun(p:List Key×V) (q:List Key×Addr×Value)=>p.1=q.1/\H q.2.1=some (.tup (p.1.map kV))/\RelV p.2 q.2.2) kvs xs /\
   ∃o es ep,h.get? a=some o/\o.ExactDict/\o.data= .dict es ep/\es.toList=xs.map (Ztx (Zmd (zbh P w)))/\(xs.map (·.1)).Nodup
 | .set S n=>h.SetOf (intKind P w) a S n
 | .ins C dx fs=>H dx=some (.own a)/\fs.length<=1000/\dx≠a/\h.get? a=some (Zsa C dx) /\
   ∃mA,h.Ns1 dx mA/\(∀f,RelO (fs.lookup f) (mA f))/\PySem.Within mA (fs.map (·.1))
 | .own _=>∃o,h.get? a=some o
 | .xd fs=>∃mA,h.Ns1 a mA /\ ∀f,RelO (fs.lookup f) (mA f)
 | .rng lo hi=>∃t u v,h.get? a=some { cls:=.type "range", data:=.fields #[.int lo t,.int hi u,.int 1 v] }
 | .frz o u=>h.get? a=some o/\zet H h a u
 | .tbl ps=>h.get? a=some { cls:=.none,data:=.fields ps }
 | .met f x=>h.get? a=some (Zo7 (.ref f) (.ref x))
 | .ext φ=>φ h/\(∃o,h.get? a=some o) /\ ∀h1 h2:Heap,φ h1->(∀o,h1.get? a=some o->h2.get? a=some o)->φ h2
 | .tab ps pos q=>∃more:Array Value,h.get? a=some { cls:=.none,data:=.fields (ps++more) }/\TriplesOk (ps++more).toList/\(codeAmong pos (ps++more).toList=none \/ ∃c' oc vs t,codeAmong pos (ps++more).toList=some (.ref c')/\H c'=some (.frz oc (.own a))/\oc.data= .fields vs/\vs[1]? = some (.str q t))
noncomputable def HOk(H:Hp)(h:Heap):Prop:=∀a o,H a=some o->zet P w H h a o
end
section
variable{P:Zjj}{w:Zkq}{H H':Hp}{h h':Heap}{a:Addr}{o:HO}
theorem zet.lt(x:zet P w H h a o):a<h.objs.size:=by
 cases o with
 | lst xs=>obtain⟨_,_,_,_,e⟩:=x;exact Ziw e
 | tup xs=>obtain⟨_,_,_,p⟩:=x;exact p.lt
 | dK kvs=>obtain⟨_,_,_,_,o,_,_,e,_⟩:=x;exact Ziw e
 | dT kvs=>obtain⟨_,_,_,_,o,_,_,e,_⟩:=x;exact Ziw e
 | set S n=>obtain⟨o,_,_,_,e,_⟩:=x;exact Ziw e
 | ins C dx fs=>obtain⟨_,_,_,e,_⟩:=x;exact Ziw e
 | own y=>obtain⟨_,e⟩:=x;exact Ziw e
 | xd fs=>obtain⟨_,⟨_,_,_,e,_⟩,_⟩:=x;exact Ziw e
 | rng lo hi=>obtain⟨_,_,_,e⟩:=x;exact Ziw e
 | frz ob u=>obtain⟨e,_⟩:=x;exact Ziw e
 | tbl ps=>exact Ziw (show h.get? a=some _ from x)
 | met f y=>exact Ziw (show h.get? a=some _ from x)
 | ext φ=>obtain⟨_,⟨_,e⟩,_⟩:=x;exact Ziw e
 | tab ps pos q=>obtain⟨_,e,_⟩:=x;exact Ziw e
theorem Paired.mapP{α β:Type}{F G:α->β->Prop}:∀{l₁:List α} {l₂:List β},Paired F l₁ l₂->(∀a b,F a b->G a b)->Paired G l₁ l₂
 | _,_,.nil,_=>.nil
 | _,_,.cons r t,f=>.cons (f _ _ r) (Paired.mapP t f)
theorem zet.stay(x:zet P w H h a o)(k:∀b u,(b=a\/H b=some (.own a))->h.get? b=some u->h'.get? b=some u)
  (ho:∀b,H b=some (.own a)->H' b=some (.own a)) (ht:∀b xs,H b=some (.tup xs)->H' b=some (.tup xs))
  (hf:∀b o u,H b=some (.frz o u)->H' b=some (.frz o u):=by first | exact fun _ _ _ q=>q | exact fun c _ _ q=>(zav (zba q (by assumption))).trans q | exact fun c _ _ r=>(zav (fun z=>by rw[<- z,r] at mu;exact mu)).trans r):zet P w H' h' a o:=by
 induction o with
 | lst xs=>obtain⟨z,its,n,r,e⟩:=x;exact⟨z,its,n,r,k _ _ (.inl rfl) e⟩
 | tup xs=>obtain⟨z,its,r,ob,e,c⟩:=x;exact⟨z,its,r,ob,k _ _ (.inl rfl) e,c⟩
 | dK kvs=>obtain⟨z,y,vs,r,ob,es,ep,e,c⟩:=x;exact⟨z,y,vs,r,ob,es,ep,k _ _ (.inl rfl) e,c⟩
 | dT kvs =>
  obtain⟨z,y,xs,r,ob,es,ep,e,c⟩:=x
  exact⟨z,y,xs,Paired.mapP r fun p q z=>⟨z.1,ht _ _ z.2.1,z.2.2⟩,ob,es,ep,k _ _ (.inl rfl) e,c⟩
 | set S n=>obtain⟨ob,es,ep,t,e,c⟩:=x;exact⟨ob,es,ep,t,k _ _ (.inl rfl) e,c⟩
 | ins C dx fs =>
  obtain⟨d,z,ne,e,mA,⟨od,es,ep,e2,c⟩,r⟩:=x
  exact⟨ho _ d,z,ne,k _ _ (.inl rfl) e,mA,⟨od,es,ep,k _ _ (.inr d) e2,c⟩,r⟩
 | own y=>obtain⟨ob,e⟩:=x;exact⟨ob,k _ _ (.inl rfl) e⟩
 | xd fs=>obtain⟨mA,⟨od,es,ep,e,c⟩,r⟩:=x;exact⟨mA,⟨od,es,ep,k _ _ (.inl rfl) e,c⟩,r⟩
 | rng lo hi=>obtain⟨t,u,v,e⟩:=x;exact⟨t,u,v,k _ _ (.inl rfl) e⟩
 | frz ob u ih=>obtain⟨e,q⟩:=x;exact⟨k _ _ (.inl rfl) e,ih q⟩
 | tbl ps =>
  have e:h.get? a=some { cls:=.none,data:=.fields ps }:=x
  show h'.get? a=some { cls:=.none,data:=.fields ps }
  exact k a _ (.inl rfl) e
 | met f y =>
  have e:h.get? a=some (Zo7 (.ref f) (.ref y)):=x
  show h'.get? a=some (Zo7 (.ref f) (.ref y))
  exact k a _ (.inl rfl) e
 | ext φ=>obtain⟨p,⟨o,e⟩,st⟩:=x;exact⟨st _ _ p fun o q=>k _ _ (.inl rfl) q,⟨o,k _ _ (.inl rfl) e⟩,st⟩
 | tab ps pos q =>
  obtain⟨m,e,t,r⟩:=x
  exact⟨m,k _ _ (.inl rfl) e,t,r.imp id fun⟨c',oc,vs,t2,e1,e2,q1,q2⟩=>⟨c',oc,vs,t2,e1,hf _ _ _ e2,q1,q2⟩⟩
theorem HOk.lt(x:HOk P w H h)(e:H a=some o):a<h.objs.size:=(x a o e).lt
theorem HOk.fresh(x:HOk P w H h)(e:h.objs.size<=a):H a=none:=by
 cases q:H a with
 | none=>rfl
 | some u=>exact absurd (Zi5 (x.lt q) e) (Zjh _)
theorem HOk.kept(x:HOk P w H h)(k:∀b u,h.get? b=some u->h'.get? b=some u):HOk P w H h':=fun a o e =>
 (x a o e).stay (fun b u _ q=>k b u q) (fun _ q=>q) fun _ _ q=>q
theorem HOk.laid(x:HOk P w H h)(k:∀b u,h.get? b=some u->h'.get? b=some u)(hp:h.objs.size<=a)(new:zet P w (upd H a o) h' a o):HOk P w (upd H a o) h':=fun b u e=>by
 have hn:=x.fresh hp
 by_cases hb:b=a
 .subst hb;rw[zam] at e;cases e;exact new
 .rw[zav hb] at e
  exact(x b u e).stay (fun c v _ q=>k c v q) (fun c q=>by rw[zav (zba q hn)];exact q) fun c xs q=>by rw[zav (zba q hn)];exact q
end
noncomputable def Rd(H:Hp)(a:Addr)(u:HO):Prop:=H a=some u \/ ∃o,H a=some (.frz o u)
theorem Rd.ok{P:Zjj}{w:Zkq}{H:Hp}{h:Heap}{a:Addr}{u:HO}(r:Rd H a u)(x:HOk P w H h):zet P w H h a u:=by
 rcases r with r | ⟨o,r⟩
 .exact x a u r
 .obtain⟨_,q⟩:=x a _ r
  exact q
noncomputable def Mut:Option HO->Prop
 | some (.lst _)=>True
 | some (.dK _)=>True
 | some (.dT _)=>True
 | some (.set _ _)=>True
 | some (.ins _ _ _)=>True
 | some (.ext _)=>True
 | _=>False
section
variable{P:Zjj}{w:Zkq}{H:Hp}{h h':Heap}{x e:Addr}{o':HO}
theorem HOk.write(ok:HOk P w H h)(mu:Mut (H x))(he:e=x\/H e=some (.own x))(k:∀b u,b≠e->h.get? b=some u->h'.get? b=some u)(heo:∃u,h'.get? e=some u)
  (new:zet P w (upd H x o') h' x o'):HOk P w (upd H x o') h':=fun b u q=>by
 have nown:∀c y,H c=some (.own y)->c≠x:=fun c y r z=>by subst z;rw[r] at mu;exact mu
 have ntup:∀c xs,H c=some (.tup xs)->c≠x:=fun c xs r z=>by subst z;rw[r] at mu;exact mu
 by_cases hb:b=x
 .subst hb;rw[zam] at q;cases q;exact new
 .rw[zav hb] at q
  by_cases hbe:b=e
  .have q':H b=some (.own x):=by
    rcases he with z | z
    .exact absurd (hbe.trans z) hb
    .rw[hbe];exact z
   rw[q] at q';cases q'
   obtain⟨v,hv⟩:=heo
   exact⟨v,by rw[hbe];exact hv⟩
  .refine(ok b u q).stay (fun c v hc r=>k c v ?_ r) (fun c r=>by rw[zav (nown c b r)];exact r) fun c xs r=>by rw[zav (ntup c xs r)];exact r
   rcases hc with rfl | hc
   .exact hbe
   .rintro rfl
    rcases he with z | z
    .exact nown c b hc z
    .rw[hc] at z;cases z;exact hb rfl
end
structure Un(fs ex:List Addr)(H H':Hp)(h h':Heap):Prop where
 keep:∀b o,h.get? b=some o->H b=none->b∉fs->b∉ex->h'.get? b=some o
 slot:∀b o,h.get? b=some o->H b=none->b∈fs->b∉ex-> ∃sl,h'.get? b=some { o with slots:=sl }
 free:∀b o,h.get? b=some o->H b=none->b∉ex->H' b=none
 there:∀b o,h.get? b=some o->b∉ex-> ∃o',h'.get? b=some o'
 tups:∀b xs,H b=some (.tup xs)->H' b=some (.tup xs)
 frzs:∀b o u,H b=some (.frz o u)->H' b=some (.frz o u)
 tbls:∀b ps,H b=some (.tbl ps)-> ∃more,H' b=some (.tbl (ps++more))
section
variable{fs fs' ex ex':List Addr}{H H1 H2:Hp}{h h1 h2 h':Heap}{a x e:Addr}{o:HO}
theorem Un.any(u:Un fs ex H H1 h h1){b:Addr}{ob:Obj}(q:h.get? b=some ob)(n:H b=none)(hx:b∉ex):∃sl,h1.get? b=some { ob with slots:=sl }:=by
 by_cases hb:b∈fs
 .exact u.slot b ob q n hb hx
 .exact⟨ob.slots,u.keep b ob q n hb hx⟩
theorem Un.kept(k:∀b u,h.get? b=some u->h'.get? b=some u):Un fs ex H H h h' :=
 ⟨fun b ob q _ _ _=>k b ob q,fun b ob q _ _ _=>⟨ob.slots,k b ob q⟩,fun _ _ _ n _=>n,fun b ob q _=>⟨ob,k b ob q⟩,fun _ _ q=>q,fun _ _ _ q=>q,fun _ ps q=>⟨#[],by rw[q];simp⟩⟩
theorem Un.refl:Un fs ex H H h h:=Un.kept fun _ _ q=>q
theorem Un.laid(k:∀b u,h.get? b=some u->h'.get? b=some u)(hp:h.objs.size<=a)(hn:H a=none):Un fs ex H (upd H a o) h h' where
 keep:=fun b u q _ _ _=>k b u q
 slot:=fun b u q _ _ _=>⟨u.slots,k b u q⟩
 free:=fun b u q n _=>by rw[zav (Zi6 (Zi5 (Ziw q) hp))];exact n
 there:=fun b u q _=>⟨u,k b u q⟩
 tups:=fun b xs q=>by rw[zav (zba q hn)];exact q
 frzs:=fun b u xs q=>by rw[zav (zba q hn)];exact q
 tbls:=fun b ps q=>⟨#[],by rw[zav (zba q hn),q];simp⟩
theorem Un.write(mu:Mut (H x))(he:e=x\/H e=some (.own x))(k:∀b u,b≠e->h.get? b=some u->h'.get? b=some u)(heo:∃u,h'.get? e=some u):Un fs ex H (upd H x o) h h':=by
 have hx:∀b,H b=none->b≠x:=fun b n z=>by subst z;rw[n] at mu;exact mu
 have hb:∀b,H b=none->b≠e:=fun b n z=>by
  subst z
  rcases he with r | r
  .exact hx b n r
  .rw[n] at r;cases r
 have hm:∀b u,H b=some u-> ¬ Mut (some u)->b≠x:=fun b u q nm z=>by subst z;rw[q] at mu;exact nm mu
 refine⟨fun b u q n _ _=>k b u (hb b n) q,fun b u q n _ _=>⟨u.slots,k b u (hb b n) q⟩,fun b u q n _=>by rw[zav (hx b n)];exact n,fun b u q _=>?_,
  fun b xs q=>by rw[zav (hm b _ q fun z=>z)];exact q,fun b u xs q=>by rw[zav (hm b _ q fun z=>z)];exact q,fun b ps q=>⟨#[],by rw[zav (hm b _ q fun z=>z),q];simp⟩⟩
 by_cases hbe:b=e
 .subst hbe;exact heo
 .exact⟨u,k b u hbe q⟩
end
noncomputable def trk(h:Heap)(H:Hp):List Addr:=(Zid h.objs.size).filter fun a=>(H a).isSome
noncomputable def hidT(h:Heap)(H:Hp):Heap:=PySem.W.hideAll h (trk h H)
theorem zyl(h:Heap)(H:Hp):(hidT h H).objs.size=h.objs.size:=PySem.W.hideAll_size _ _
theorem zl7{h:Heap}{H:Hp}{b:Addr}{o:Obj}(e:h.get? b=some o)(n:H b=none):(hidT h H).get? b=some o :=
 PySem.W.hideAll_get _ e fun hm=>by
  have q:(H b).isSome=true:=(Zip.mp hm).2
  rw[n] at q;simp at q
theorem yez{h:Heap}{H:Hp}{b:Addr}{o:Obj}(e:(hidT h H).get? b=some o):h.get? b=some o/\H b=none:=by
 have e':h.get? b=some o:=PySem.W.of_hideAll (trk h H) e
 refine⟨e',?_⟩
 cases q:H b with
 | none=>rfl
 | some x =>
  have hm:b∈trk h H:=Zip.mpr ⟨Zi2.mpr (Ziw e'),by simp[q]⟩
  have z:(hidT h H).get? b=none:=PySem.W.hideAll_none (trk h H) hm
  rw[z] at e;cases e
noncomputable def yfy(g h:Heap)(L:Addr):List (Addr×Obj):=(Zid h.objs.size).filterMap fun a=>if a=L\/(g.get? a).isSome=true then none else (h.get? a).map fun o=>(a,o)
noncomputable def rest(g h:Heap)(L d:Addr):List (Addr×Obj):=(yfy g h L).filter fun p=>decide (p.1≠d)
structure Mod(K:Zh7)(mg:Str->Option Value)(base:Heap):Prop where
 kin:K.In base
 glob:base.Ns Zk6 mg
 blt:∃mb,base.Ns Zqe mb /\ ∀x:Str,x ≠ "__name__" -> mb x=Zni x
 nolimit:base.NoLimit
structure Cx where
 prog:Zjj
 w:Zkq
 K:Zh7
 mg:Str->Option Value
 base:Heap
 A:Zjs
 N:List Str
 s₀:Zih
 Hz:Hp
 env:Env
 outer:List Env
 stack:List Env
 ex:List Addr
 fn:Str->Bool
 calm:Bool
 pn:List (Addr×Obj)
 xe:Value->Zih->Prop
noncomputable def frs(l:List Env):List Addr:=l.filterMap (·.frame)
noncomputable abbrev Cx.fs(X:Cx):List Addr:=frs X.outer
noncomputable def Vis(sc:Scope)(x:Str):Prop:=sc.names.lookup x=some .local\/sc.names.lookup x=some .cell\/sc.names.lookup x=some .free
noncomputable def Loc(sc:Scope)(x:Str):Prop:=sc.names.lookup x=some .local\/sc.names.lookup x=some .cell
noncomputable def Look(env:Env)(h:Heap)(m:Str->Option Value)(x:Str)(u:Value):Prop :=
 (env.kindOf x=some .local/\m x=some u)\/((env.kindOf x=some .cell\/env.kindOf x=some .free) /\ ∃c,env.cells.lookup x=some c/\h.IsCell c (some u))
structure Cx.Ok(X:Cx):Prop where
 mod:Mod X.K X.mg X.base
 kind:X.env.scope.kind= .function
 glob:X.env.globals=Zk6
 blt:X.env.builtins=Zqe
 above:X.s₀.heap.objs.size<=X.env.locals
 inj:∀x y c,X.env.cells.lookup x=some c->X.env.cells.lookup y=some c->x=y
 has:∀x,(X.env.kindOf x=some .cell\/X.env.kindOf x=some .free)-> ∃c,X.env.cells.lookup x=some c
 cab:∀x c,X.fn x=true->X.env.cells.lookup x=some c->X.s₀.heap.objs.size<=c
 hd:X.calm=true->X.A.handled=none
 frames:X.A.frames=some X.stack
 stk:X.stack=X.outer\/(X.stack=X.env::X.outer/\X.env.frame=some X.env.locals)
 exf:∀b∈X.ex,b≠X.env.locals /\ ∀x c,X.env.cells.lookup x=some c->c≠b
 bs:∀b o,X.base.get? b=some o->X.s₀.heap.get? b=some o/\X.Hz b=none
 bsz:X.base.objs.size<=X.s₀.heap.objs.size
 noex:∀b o,X.base.get? b=some o->b∉X.ex
 exfs:∀b∈X.ex,b∉X.fs
 funs:X.s₀.heap.FunFrames X.base X.outer
 frf:∀b∈X.fs,X.Hz b=none
structure Inv(X:Cx)(pins:List (Addr×Obj))(O:List (Option V))(H:Hp)(s:Zih):Prop where
 ok:X.Ok
 os:s.os=X.s₀.os
 bare:Zpq s.gens
 base:Un X.fs X.ex X.Hz H X.s₀.heap s.heap
 loc:∃m,s.heap.Ns X.env.locals m /\ ∀(i:Nat) (x:Str) (v:V),X.N[i]? = some x->O[i]? = some (some v)->Vis X.env.scope x-> ∃u,RelV v u/\Look X.env s.heap m x u
 cell:∀x c,X.env.cells.lookup x=some c-> ∃v,s.heap.IsCell c v
 free:H X.env.locals=none
 freeC:∀x c,X.env.cells.lookup x=some c->H c=none
 pin:∀p∈X.pn++pins,s.heap.get? p.1=some p.2/\H p.1=none/\p.1≠X.env.locals/\p.1∉X.fs /\ ∀v,p.2.data ≠ .cell v
 hok:HOk X.prog X.w H s.heap
 len:O.length=X.N.length
section
variable{X:Cx}{pins:List (Addr×Obj)}{O:List (Option V)}{H H':Hp}{s:Zih}{h':Heap}
theorem Cx.Ok.nofr(ok:X.Ok){b:Addr}{o:Obj}(e:X.base.get? b=some o):b∉X.fs:=fun hb=>by
 have:=(ok.funs.mem hb).1
 rw[e] at this;cases this
theorem Inv.bs(I:Inv X pins O H s):∀b o,X.base.get? b=some o->s.heap.get? b=some o/\H b=none:=fun b o e =>
 ⟨I.base.keep b o (I.ok.bs b o e).1 (I.ok.bs b o e).2 (I.ok.nofr e) (I.ok.noex b o e),I.base.free b o (I.ok.bs b o e).1 (I.ok.bs b o e).2 (I.ok.noex b o e)⟩
theorem Inv.bk(I:Inv X pins O H s):∀b o,X.base.get? b=some o->s.heap.get? b=some o:=fun b o e=>(I.bs b o e).1
theorem Inv.mod(I:Inv X pins O H s):Mod X.K X.mg X.base:=I.ok.mod
theorem Inv.kIn(I:Inv X pins O H s):X.K.In s.heap:=I.ok.mod.kin.keeps I.bk
theorem Inv.nolimit(I:Inv X pins O H s):s.heap.NoLimit:=I.ok.mod.nolimit.keeps I.bk
theorem Inv.fr(I:Inv X pins O H s):∃m,Fr X.base X.env.locals s.heap m :=
 let ⟨m,hn,_⟩:=I.loc
 ⟨m,hn,I.bk,Zjb I.ok.bsz I.ok.above⟩
theorem Inv.lt(I:Inv X pins O H s):X.env.locals<s.heap.objs.size:=let ⟨_,hn,_⟩:=I.loc;hn.lt
theorem Inv.sz(I:Inv X pins O H s):X.s₀.heap.objs.size<=s.heap.objs.size:=Zjb I.ok.above (Zl4 I.lt)
theorem Inv.nofs(I:Inv X pins O H s){a:Addr}(h:s.heap.objs.size<=a):a∉X.fs:=fun hb=>by
 obtain⟨_,o,ho,_⟩:=I.ok.funs.mem hb
 exact absurd (Zi5 (Ziw ho) (Zjb I.sz h)) (Zjh _)
theorem Inv.cne(I:Inv X pins O H s):∀x c,X.env.cells.lookup x=some c->c≠X.env.locals:=fun x c e z=>by
 obtain⟨v,o,ho,hd⟩:=I.cell x c e
 obtain⟨m,⟨o',es,ep,ho',hd',_⟩,_⟩:=I.loc
 rw[z,ho'] at ho;cases ho;rw[hd'] at hd;cases hd
theorem Inv.funs(I:Inv X pins O H s):s.heap.FunFrames X.base X.outer:=by
 have all:∀(l:List Env),(∀b∈frs l,b∈X.fs)->X.s₀.heap.FunFrames X.base l->s.heap.FunFrames X.base l:=by
  intro l
  induction l with
  | nil=>intro _ _;trivial
  | cons env r ih =>
   intro hs hl
   obtain⟨hk,⟨L,o,hf,hn,ho,hd⟩,hr⟩:=hl
   have hL:L∈X.fs:=hs L (by unfold frs;rw[Zo2,hf];exact Zil)
   obtain⟨sl,e⟩:=I.base.slot L o ho (I.ok.frf L hL) hL fun z=>I.ok.exfs L z hL
   exact⟨hk,⟨L,_,hf,hn,e,hd⟩,ih (fun b hb=>hs b (by unfold frs;rw[Zo2,hf];exact Zij _ hb)) hr⟩
 exact all X.outer (fun _ hb=>hb) I.ok.funs
theorem Inv.stack(I:Inv X pins O H s):s.heap.FunFrames X.base X.stack:=by
 rcases I.ok.stk with e | ⟨e,hf⟩
 .rw[e];exact I.funs
 .rw[e]
  obtain⟨m,hn,_⟩:=I.loc
  refine .cons (by rw[I.ok.kind];decide) hf hn ?_ I.funs
  exact Heap.get?_none_of_le (Zjb I.ok.bsz I.ok.above)
theorem Inv.stkSub(I:Inv X pins O H s):∀b∈frs X.stack,b∈X.env.locals::X.fs:=fun b hb=>by
 rcases I.ok.stk with e | ⟨e,hf⟩
 .rw[e] at hb;exact Zij _ hb
 .rw[e] at hb
  unfold frs at hb
  rw[Zo2,hf] at hb
  exact hb
theorem Inv.stkFree(I:Inv X pins O H s):∀b∈frs X.stack,H b=none:=fun b hb=>by
 rcases Ziy.mp (I.stkSub b hb) with e | hb
 .rw[e];exact I.free
 .obtain⟨_,o,ho,_⟩:=I.ok.funs.mem hb
  exact I.base.free b o ho (I.ok.frf b hb) fun z=>I.ok.exfs b z hb
theorem Inv.step{g':Array GenState}{t':Nat}{d':Drawn}{ch:List Addr}(I:Inv X pins O H s)
  (hch:∀b∈ch,(b∈X.ex\/X.s₀.heap.objs.size<=b)/\b≠X.env.locals/\(∀x c,X.env.cells.lookup x=some c->c≠b) /\ ∀p∈X.pn++pins,p.1≠b)
  (keep:∀b o,b≠X.env.locals->b∉X.fs->b∉ch->s.heap.get? b=some o->H b=none->h'.get? b=some o)
  (slot:∀b o,b≠X.env.locals->b∈X.fs->b∉ch->s.heap.get? b=some o->H b=none-> ∃sl,h'.get? b=some { o with slots:=sl }) (free:∀b o,b∉ch->s.heap.get? b=some o->H b=none->H' b=none)
  (there:∀b o,b∉ch->s.heap.get? b=some o-> ∃o',h'.get? b=some o')
  (tups:∀b xs,H b=some (.tup xs)->H' b=some (.tup xs)) (frzs:∀b o u,H b=some (.frz o u)->H' b=some (.frz o u)) (tbls:∀b ps,H b=some (.tbl ps)-> ∃more,H' b=some (.tbl (ps++more)))
  (ns:∀m,s.heap.Ns X.env.locals m->h'.Ns X.env.locals m) (hok:HOk X.prog X.w H' h') (hg:Zpq g') :
  Inv X pins O H' { s with heap:=h',gens:=g',drawn:=d',toks:=t' }:=by
 have neL:∀b o,X.s₀.heap.get? b=some o->b≠X.env.locals:=fun b o e=>Zi6 (Zi5 (Ziw e) I.ok.above)
 have neC:∀b o,X.s₀.heap.get? b=some o->b∉X.ex->b∉ch:=fun b o e hx hb=>by
  rcases(hch b hb).1 with z | z
  .exact hx z
  .exact absurd (Zi5 (Ziw e) z) (Zjh _)
 have cellK:∀x c,X.env.cells.lookup x=some c-> ∀v,s.heap.IsCell c v->h'.IsCell c v:=fun x c e v ⟨o,ho,hd⟩=>by
  have nch:c∉ch:=fun z=>(hch c z).2.2.1 x c e rfl
  by_cases hc:c∈X.fs
  .obtain⟨sl,q⟩:=slot c o (I.cne x c e) hc nch ho (I.freeC x c e)
   exact⟨_,q,hd⟩
  .exact⟨o,keep c o (I.cne x c e) hc nch ho (I.freeC x c e),hd⟩
 refine⟨I.ok,I.os,hg,⟨fun b o e n hb hx=>?_,fun b o e n hb hx=>?_,fun b o e n hx=>?_,fun b o e hx=>?_,fun b xs e=>tups b xs (I.base.tups b xs e),fun b o xs e=>frzs b o xs (I.base.frzs b o xs e),fun b ps e=>?_⟩,?_,fun x c e=>?_,?_,fun x c e=>?_,fun p hp=>?_,hok,I.len⟩
 .exact keep b o (neL b o e) hb (neC b o e hx) (I.base.keep b o e n hb hx) (I.base.free b o e n hx)
 .obtain⟨sl,e1⟩:=I.base.slot b o e n hb hx
  obtain⟨sl',e2⟩:=slot b _ (neL b o e) hb (neC b o e hx) e1 (I.base.free b o e n hx)
  exact⟨sl',e2⟩
 .obtain⟨o',e1⟩:=I.base.there b o e hx
  exact free b o' (neC b o e hx) e1 (I.base.free b o e n hx)
 .obtain⟨o',e1⟩:=I.base.there b o e hx
  exact there b o' (neC b o e hx) e1
 .obtain⟨m1,e1⟩:=I.base.tbls b ps e
  obtain⟨m2,e2⟩:=tbls b _ e1
  exact⟨m1++m2,by rw[e2,Zr3]⟩
 .obtain⟨m,hn,hl⟩:=I.loc
  refine⟨m,ns m hn,fun i x v e1 e2 e3=>?_⟩
  obtain⟨u,r,l⟩:=hl i x v e1 e2 e3
  refine⟨u,r,?_⟩
  rcases l with l | ⟨k,c,e,z⟩
  .exact .inl l
  .exact .inr ⟨k,c,e,cellK x c e _ z⟩
 .obtain⟨v,z⟩:=I.cell x c e
  exact⟨v,cellK x c e v z⟩
 .obtain⟨m,⟨o,_,_,ho,_⟩,_⟩:=I.loc
  exact free _ o (fun z=>(hch _ z).2.1 rfl) ho I.free
 .obtain⟨v,o,ho,hd⟩:=I.cell x c e
  exact free c o (fun z=>(hch c z).2.2.1 x c e rfl) ho (I.freeC x c e)
 .obtain⟨e,n,ne,nf,d⟩:=I.pin p hp
  have nch:p.1∉ch:=fun z=>(hch p.1 z).2.2.2 p hp rfl
  exact⟨keep p.1 p.2 ne nf nch e n,free p.1 p.2 nch e n,ne,nf,d⟩
theorem Inv.un{t':Nat}(I:Inv X pins O H s)(u:Un X.fs [] H H' s.heap h')(hok:HOk X.prog X.w H' h'):Inv X pins O H' { s with heap:=h',toks:=t' }:=by
 obtain⟨m,⟨o,es,ep,ho,r⟩,_⟩:=id I.loc
 obtain⟨sl,hL⟩:=u.any ho I.free (by simp)
 exact I.step (g':=s.gens) (d':=s.drawn) (ch:=[]) (fun _ z=>nomatch z) (fun b o _ hb _ e n=>u.keep b o e n hb (by simp)) (fun b o _ hb _ e n=>u.slot b o e n hb (by simp)) (fun b o _ e n=>u.free b o e n (by simp)) (fun b o _ e=>u.there b o e (by simp)) u.tups u.frzs u.tbls (fun m' hm=>by
  obtain⟨o',es',ep',ho',r'⟩:=hm
  rw[ho] at ho';cases ho'
  exact⟨_,es',ep',hL,r'⟩) hok I.bare
theorem Inv.call{g':Array GenState}{t':Nat}{d':Drawn}{ch:List Addr}(I:Inv X pins O H s)(u:Un (frs X.stack) ch H H' s.heap h')(hok:HOk X.prog X.w H' h')(hg:Zpq g')
  (hch:∀b∈ch,(b∈X.ex\/X.s₀.heap.objs.size<=b)/\b≠X.env.locals/\(∀x c,X.env.cells.lookup x=some c->c≠b) /\ ∀p∈X.pn++pins,p.1≠b) :
  Inv X pins O H' { s with heap:=h',gens:=g',drawn:=d',toks:=t' }:=by
 obtain⟨m,⟨o,es,ep,ho,r⟩,_⟩:=id I.loc
 obtain⟨sl,hL⟩:=u.any ho I.free fun z=>(hch _ z).2.1 rfl
 exact I.step (ch:=ch) hch (fun b o hL hb hc e n=>u.keep b o e n (fun z=>(Ziy.mp (I.stkSub b z)).elim hL hb) hc) (fun b o _ _ hc e n=>u.any e n hc) (fun b o hc e n=>u.free b o e n hc) (fun b o hc e=>u.there b o e hc) u.tups u.frzs u.tbls (fun m' hm=>by
  obtain⟨o',es',ep',ho',r'⟩:=hm
  rw[ho] at ho';cases ho'
  exact⟨_,es',ep',hL,r'⟩) hok hg
theorem Inv.turned{t':Nat}{it:Addr}(I:Inv X pins O H s)(k:∀b o,b≠it->s.heap.get? b=some o->h'.get? b=some o)(hn:H it=none)(hL:it≠X.env.locals)
  (h1:it∈X.ex\/X.s₀.heap.objs.size<=it) (h2:∀x c,X.env.cells.lookup x=some c->c≠it) (h3:∀p∈X.pn++pins,p.1≠it):Inv X pins O H { s with heap:=h',toks:=t' }:=by
 have nit:∀b u,H b=some u->b≠it:=fun b u e z=>by rw[z,hn] at e;cases e
 refine I.step (g':=s.gens) (d':=s.drawn) (ch:=[it]) (fun b hb=>?_) (fun b o _ _ hc e _=>k b o (fun z=>hc (by simp[z])) e) (fun b o _ _ hc e _=>⟨o.slots,k b o (fun z=>hc (by simp[z])) e⟩) (fun _ _ _ _ n=>n)
  (fun b o hc e=>⟨o,k b o (fun z=>hc (by simp[z])) e⟩) (fun _ _ e=>e) (fun _ _ _ e=>e) (fun b ps e=>⟨#[],by rw[e];simp⟩) (fun m hm=>?_) (fun b u e=>?_) I.bare
 .have e:b=it:=by simpa using hb
  subst e
  exact⟨h1,hL,h2,h3⟩
 .obtain⟨o,es,ep,ho,r⟩:=hm
  exact⟨o,es,ep,k _ o (Zju hL) ho,r⟩
 .refine(I.hok b u e).stay (fun c v hc q=>k c v ?_ q) (fun _ q=>q) fun _ _ q=>q
  rcases hc with z | z
  .rw[z];exact nit b u e
  .exact nit c _ z
theorem Inv.tok(I:Inv X pins O H s)(t:Nat):Inv X pins O H { s with toks:=t }:=I.un (h':=s.heap) (t':=t) Un.refl I.hok
theorem Inv.kept{t':Nat}(I:Inv X pins O H s)(k:∀b u,s.heap.get? b=some u->h'.get? b=some u):Inv X pins O H { s with heap:=h',toks:=t' }:=I.un (Un.kept k) (I.hok.kept k)
theorem Inv.laid{a:Addr}{o:HO}{t':Nat}(I:Inv X pins O H s)(k:∀b u,s.heap.get? b=some u->h'.get? b=some u)(hp:s.heap.objs.size<=a)(new:zet X.prog X.w (upd H a o) h' a o) :
  Inv X pins O (upd H a o) { s with heap:=h',toks:=t' }:=I.un (Un.laid k hp (I.hok.fresh hp)) (I.hok.laid k hp new)
theorem Inv.write{x e:Addr}{o:HO}{t':Nat}(I:Inv X pins O H s)(mu:Mut (H x))(he:e=x\/H e=some (.own x))(k:∀b u,b≠e->s.heap.get? b=some u->h'.get? b=some u)(heo:∃u,h'.get? e=some u)
  (new:zet X.prog X.w (upd H x o) h' x o):Inv X pins O (upd H x o) { s with heap:=h',toks:=t' }:=I.un (Un.write mu he k heo) (I.hok.write mu he k heo new)
theorem Inv.weak{O':List (Option V)}(I:Inv X pins O H s)(hl:O'.length=O.length)(w:∀(i:Nat) v,O'[i]? = some (some v)->O[i]? = some (some v)):Inv X pins O' H s :=
 ⟨I.ok,I.os,I.bare,I.base,let ⟨m,hn,hl'⟩:=I.loc;⟨m,hn,fun i x v e1 e2 e3=>hl' i x v e1 (w i v e2) e3⟩,I.cell,I.free,I.freeC,I.pin,I.hok,hl.trans I.len⟩
theorem Inv.pins_of{pins':List (Addr×Obj)}(I:Inv X pins O H s)(h:∀p∈pins',s.heap.get? p.1=some p.2/\H p.1=none/\p.1≠X.env.locals/\p.1∉X.fs /\ ∀v,p.2.data ≠ .cell v):Inv X pins' O H s :=
 ⟨I.ok,I.os,I.bare,I.base,I.loc,I.cell,I.free,I.freeC,fun p hp=>(Zin.mp hp).elim (fun z=>I.pin p (Ziz _ z)) (h p),I.hok,I.len⟩
theorem zuv{N:List Str}(hN:N.Nodup){i j:Nat}{x:Str}(a:N[i]? = some x)(b:N[j]? = some x):i=j:=by
 obtain⟨h1,e1⟩:=Zif.mp a
 obtain⟨h2,e2⟩:=Zif.mp b
 exact(Zoc hN).mp (e1.trans e2.symm)
theorem zrc{M:Model}{A:Zjs}{E:Value->Zih->Prop}{i:Nat}{x:Str}{v:V}{u:Value}{Q:Unit->Zih->Prop}(I:Inv X pins O H s)(hN:X.N.Nodup)(hi:X.N[i]? = some x)(hx:Loc X.env.scope x)(r:RelV v u)
  (h:∀s',Inv X pins (O.set i (some v)) H s'->(∃a,Zpo a s.heap s'.heap/\(a=X.env.locals\/X.env.cells.lookup x=some a))->Q () s') (hf:X.fn x=true\/X.env.scope.names.lookup x=some .local:=by first | exact .inl rfl | exact .inr rfl | assumption):Zjd M A (storeName X.env x u) Q E s:=by
 obtain⟨m,hn,hl⟩:=id I.loc
 have hcls:(X.env.scope.kind == .class||(X.env.scope.kind == .module&&X.env.locals != X.env.globals))=false:=by rw[I.ok.kind];rfl
 have hiσ:i<O.length:=by rw[I.len];exact(Zif.mp hi).1
 have cne:=I.cne
 have tracked:∀{a:Addr} {h':Heap},(∃o,s.heap.get? a=some o/\H a=none)->Zpo a s.heap h'->HOk X.prog X.w H h':=fun {a h'} ha hs b ob e=>by
  obtain⟨_,_,hfree⟩:=ha
  refine(I.hok b ob e).stay (fun c w' hc q=>(hs.2 c ?_).trans q) (fun _ q=>q) fun _ _ q=>q
  rintro rfl
  rcases hc with rfl | hc
  .rw[hfree] at e;cases e
  .rw[hfree] at hc;cases hc
 rcases hx with hk | hk
 .refine wpAny_storeName_local hk hn (fun h' hn' hs=>?_) hcls
  obtain⟨oL,_,_,hoL,_⟩:=id hn
  refine h _ ⟨I.ok,I.os,I.bare,⟨fun b o e n hb hx=>?_,fun b o e n hb hx=>?_,I.base.free,fun b o e hx=>?_,I.base.tups,I.base.frzs,I.base.tbls⟩,⟨_,hn',fun j y v' e1 e2 e3=>?_⟩,fun y c e=>?_,I.free,I.freeC,fun p hp=>?_,tracked ⟨oL,hoL,I.free⟩ hs,by simpa using I.len⟩ ⟨_,hs,.inl rfl⟩
  .exact(hs.2 b (Zi6 (Zi5 (Ziw e) I.ok.above))).trans (I.base.keep b o e n hb hx)
  .obtain⟨sl,e1⟩:=I.base.slot b o e n hb hx
   exact⟨sl,(hs.2 b (Zi6 (Zi5 (Ziw e) I.ok.above))).trans e1⟩
  .obtain⟨o',e1⟩:=I.base.there b o e hx
   exact⟨o',(hs.2 b (Zi6 (Zi5 (Ziw e) I.ok.above))).trans e1⟩
  .by_cases hj:j=i
   .subst hj
    rw[hi] at e1;cases e1
    rw[Zj8 hiσ] at e2
    cases e2
    exact⟨u,r,.inl ⟨hk,by simp⟩⟩
   .rw[Zlc (Zju hj)] at e2
    obtain⟨u',r',q⟩:=hl j y v' e1 e2 e3
    refine⟨u',r',?_⟩
    rcases q with ⟨k,e⟩ | ⟨k,c,e,z⟩
    .refine .inl ⟨k,?_⟩
     have:y≠x:=fun e=>hj (zuv hN e1 (e ▸ hi))
     simp[this,e]
    .exact .inr ⟨k,c,e,z.sameBut hs (cne y c e)⟩
  .obtain⟨w',z⟩:=I.cell y c e
   exact⟨w',z.sameBut hs (cne y c e)⟩
  .obtain⟨e,n,ne,nf,d⟩:=I.pin p hp
   exact⟨(hs.2 p.1 ne).trans e,n,ne,nf,d⟩
 .have hfn:X.fn x=true:=by
   rcases hf with z | z
   .exact z
   .rw[z] at hk;cases hk
  obtain⟨c,hc⟩:=I.ok.has x (.inl hk)
  obtain⟨w',z⟩:=I.cell x c hc
  refine wpAny_storeName_cell I.ok.kind hk hc z (fun h' hc' hs=>?_)
  obtain⟨oc,hoc,hocd⟩:=id z
  refine h { s with heap:=h' } ⟨I.ok,I.os,I.bare,⟨fun b o e n hb hx=>?_,fun b o e n hb hx=>?_,I.base.free,fun b o e hx=>?_,I.base.tups,I.base.frzs,I.base.tbls⟩,⟨m,hn.sameBut hs (Zju (cne x c hc)),fun j y v' e1 e2 e3=>?_⟩,fun y c' e=>?_,I.free,I.freeC,fun p hp=>?_,tracked ⟨oc,hoc,I.freeC x c hc⟩ hs,by simpa using I.len⟩ ⟨c,hs,.inr hc⟩
  .exact(hs.2 b (Zi6 (Zi5 (Ziw e) (I.ok.cab x c hfn hc)))).trans (I.base.keep b o e n hb hx)
  .obtain⟨sl,e1⟩:=I.base.slot b o e n hb hx
   exact⟨sl,(hs.2 b (Zi6 (Zi5 (Ziw e) (I.ok.cab x c hfn hc)))).trans e1⟩
  .obtain⟨o',e1⟩:=I.base.there b o e hx
   exact⟨o',(hs.2 b (Zi6 (Zi5 (Ziw e) (I.ok.cab x c hfn hc)))).trans e1⟩
  .by_cases hj:j=i
   .subst hj
    rw[hi] at e1;cases e1
    rw[Zj8 hiσ] at e2
    cases e2
    exact⟨u,r,.inr ⟨.inl hk,c,hc,hc'⟩⟩
   .rw[Zlc (Zju hj)] at e2
    obtain⟨u',r',q⟩:=hl j y v' e1 e2 e3
    refine⟨u',r',?_⟩
    rcases q with q | ⟨k,c',e,z'⟩
    .exact .inl q
    .refine .inr ⟨k,c',e,z'.sameBut hs ?_⟩
     rintro rfl
     exact hj (zuv hN e1 (I.ok.inj _ _ _ e hc ▸ hi))
  .by_cases hcc:c'=c
   .subst hcc;exact⟨_,hc'⟩
   .obtain⟨w2,z2⟩:=I.cell y c' e
    exact⟨w2,z2.sameBut hs hcc⟩
  .obtain⟨e,n,ne,nf,d⟩:=I.pin p hp
   refine⟨(hs.2 p.1 ?_).trans e,n,ne,nf,d⟩
   intro q
   rw[q,hoc] at e
   have q':oc=p.2:=Zj9 e
   exact d w' (by rw[<- q'];exact hocd)
theorem zub{M:Model}{A:Zjs}{E:Value->Zih->Prop}{i:Nat}{x:Str}{v:V}{u:Value}{Q:Unit->Zih->Prop}(I:Inv X pins O H s)(hN:X.N.Nodup)(hi:X.N[i]? = some x)(hx:Loc X.env.scope x)(r:RelV v u)
  (h:∀s',Inv X pins (O.set i (some v)) H s'->Q () s') (hf:X.fn x=true\/X.env.scope.names.lookup x=some .local:=by first | exact .inl rfl | exact .inr rfl | assumption):Zjd M A (storeName X.env x u) Q E s :=
 zrc I hN hi hx r (fun s' I' _=>h s' I') hf
theorem Inv.call'{s':Zih}{ch:List Addr}(I:Inv X pins O H s)(ho:s'.os=s.os)(u:Un (frs X.stack) ch H H' s.heap s'.heap)(hok:HOk X.prog X.w H' s'.heap)(hg:Zpq s'.gens)
  (hch:∀b∈ch,(b∈X.ex\/X.s₀.heap.objs.size<=b)/\b≠X.env.locals/\(∀x c,X.env.cells.lookup x=some c->c≠b) /\ ∀p∈X.pn++pins,p.1≠b):Inv X pins O H' s':=by
 obtain⟨h',g',d',t',o'⟩:=s'
 have e:o'=s.os:=ho
 subst e
 exact I.call (g':=g') (t':=t') (d':=d') u hok hg hch
end
noncomputable abbrev XK:=Value->Option Addr->Hp->Prop
noncomputable abbrev St:=List (Option V)
noncomputable abbrev VK:=V->Hp->Prop
noncomputable abbrev TE:=St->Hp->VK->Prop
noncomputable abbrev TT:=St->Hp->(Bool->Hp->Prop)->Prop
noncomputable abbrev TA:=St->Hp->(List V->Hp->Prop)->Prop
structure Ends where
 nx:St->Hp->Prop
 rt:VK
 bk:St->Hp->Prop:=fun _ _=>False
 ct:St->Hp->Prop:=fun _ _=>False
noncomputable abbrev TS:=Ends->St->Hp->Prop
noncomputable def EP(X:Cx)(pins:List (Addr×Obj))(O:St)(Q:VK)(u:Value)(s':Zih):Prop:=∃v H',Inv X pins O H' s'/\RelV v u/\Q v H'
noncomputable def TP(X:Cx)(pins:List (Addr×Obj))(O:St)(Q:Bool->Hp->Prop)(b:Bool)(s':Zih):Prop:=∃H',Inv X pins O H' s'/\Q b H'
noncomputable def AP(X:Cx)(pins:List (Addr×Obj))(O:St)(Q:List V->Hp->Prop)(us:List Value)(s':Zih):Prop:=∃vs H',Inv X pins O H' s'/\Vals vs us/\Q vs H'
noncomputable def SP(X:Cx)(pins:List (Addr×Obj))(D:Ends)(f:Flow)(s':Zih):Prop :=
 match f with
 | .next=>∃O' H',Inv X pins O' H' s'/\D.nx O' H'
 | .brk=>∃O' H',Inv X pins O' H' s'/\D.bk O' H'
 | .cont=>∃O' H',Inv X pins O' H' s'/\D.ct O' H'
 | .ret u=>∃v O' H',Inv X pins O' H' s'/\RelV v u/\D.rt v H'
noncomputable def PE(X:Cx)(e:Expr)(t:TE):Prop :=
 ∀(pins:List (Addr×Obj)) (s:Zih) (O:St) (H:Hp) (Q:VK),Inv X pins O H s->t O H Q->Zjd (Zjx X.prog X.w) X.A (eval e X.env) (EP X pins O Q) X.xe s
noncomputable def PT(X:Cx)(e:Expr)(t:TT):Prop :=
 ∀(pins:List (Addr×Obj)) (s:Zih) (O:St) (H:Hp) (Q:Bool->Hp->Prop),Inv X pins O H s->t O H Q->Zjd (Zjx X.prog X.w) X.A (isTrue e X.env (eval e X.env)) (TP X pins O Q) X.xe s
noncomputable def PW(X:Cx)(e:Expr)(t:TT):Prop :=
 ∀(whole:Sem Value) (pins:List (Addr×Obj)) (s:Zih) (O:St) (H:Hp) (Q:Bool->Hp->Prop),Inv X pins O H s->t O H Q->Zjd (Zjx X.prog X.w) X.A (isTrue e X.env whole) (TP X pins O Q) X.xe s
theorem PW.pt{X:Cx}{e:Expr}{t:TT}(h:PW X e t):PT X e t:=h _
noncomputable def PA(X:Cx)(es:List Expr)(t:TA):Prop :=
 ∀(pos:Pos) (pins:List (Addr×Obj)) (s:Zih) (O:St) (H:Hp) (Q:List V->Hp->Prop),Inv X pins O H s->t O H Q->Zjd (Zjx X.prog X.w) X.A (spliced (Zov pos (Zj2 es X.env))) (AP X pins O Q) X.xe s
noncomputable def PS(X:Cx)(st:Stmt)(t:TS):Prop :=
 ∀(pins:List (Addr×Obj)) (s:Zih) (O:St) (H:Hp) (D:Ends),Inv X pins O H s->t D O H->Zjd (Zjx X.prog X.w) X.A (exec st X.env) (SP X pins D) X.xe s
noncomputable def PSs(X:Cx)(st:List Stmt)(t:TS):Prop :=
 ∀(pins:List (Addr×Obj)) (s:Zih) (O:St) (H:Hp) (D:Ends),Inv X pins O H s->t D O H->Zjd (Zjx X.prog X.w) X.A (execs st X.env) (SP X pins D) X.xe s
theorem thn{α:Type}{t:Sem α}{Q Q':α->Zih->Prop}{M:Model}{A:Zjs}{E:Value->Zih->Prop}{s:Zih}(h:Zjd M A t Q E s)(hQ:∀a s,Q a s->Q' a s):Zjd M A t Q' E s:=Zk5 h hQ fun _ _ x=>x
section
variable{X:Cx}
noncomputable def tVar(i:Nat):TE:=fun O H Q=>∃v,O[i]? = some (some v)/\Q v H
noncomputable def tC(v:V):TE:=fun _ H Q=>Q v H
theorem ygt{i:Nat}{x:Str}{pos:Pos}(hN:X.N[i]? = some x)(hv:Vis X.env.scope x)(hd:(x == ("__debug__" : Str))=false:=by decide)(hcd:(x == ("__classdict__" : Str))=false:=by decide):PE X (.Name x pos) (tVar i):=by
 intro pins s O H Q I h
 obtain⟨v,e,h⟩:=h
 obtain⟨m,hn,hl⟩:=I.loc
 obtain⟨u,r,l⟩:=hl i x v hN e hv
 have fin:EP X pins O Q u s:=⟨v,H,I,r,h⟩
 rcases l with ⟨hk,hm⟩ | ⟨hk,c,hc,hcell⟩
 .exact Ztt (wpAny_loadName_local I.ok.kind hk hn hm fin) hd
 .rcases hk with hk | hk
  .exact Ztt (wpAny_loadName_cell I.ok.kind hk hc hcell fin) hd
  .exact Ztt (wpAny_loadName_free I.ok.kind hk hc hcell fin hcd) hd
theorem zai{i j pos}:PE X (.Constant (.int i) j pos) (tC (.int i)):=fun _ _ _ H _ I h=>wpAny_Constant_int ⟨.int i,H,I.tok _,⟨_,rfl⟩,h⟩
theorem zd5{b j pos}:PE X (.Constant (.bool b) j pos) (tC (.bl b)):=fun _ _ _ H _ I h=>Constant_bool ⟨.bl b,H,I,rfl,h⟩
theorem zfx{x j pos}:PE X (.Constant (.str x) j pos) (tC (.str x)):=fun _ _ _ H _ I h=>Calls.Constant_str ⟨.str x,H,I.tok _,⟨_,rfl⟩,h⟩
noncomputable def Gl(X:Cx)(x:Str):Prop:=X.env.kindOf x=some .globalImplicit
theorem zxz{E:Value->Zih->Prop}{pins:List (Addr×Obj)}{s:Zih}{O:St}{H:Hp}{x:Str}{u:Value}{pos:Pos}{Q:Value->Zih->Prop}(I:Inv X pins O H s)(hg:Gl X x)(hm:X.mg x=some u)(h:Q u s)
  (hd:(x == ("__debug__" : Str))=false:=by decide):Zjd (Zjx X.prog X.w) X.A (eval (.Name x pos) X.env) Q E s :=
 Zqb I.ok.kind hg (Calls.loadGlobal_global (by rw[I.ok.glob];exact I.mod.glob.keeps I.bk) hm h) hd
theorem zjk{E:Value->Zih->Prop}{pins:List (Addr×Obj)}{s:Zih}{O:St}{H:Hp}{x:Str}{u:Value}{pos:Pos}{Q:Value->Zih->Prop}(I:Inv X pins O H s)(hg:Gl X x)(hm:X.mg x=none)(hv:Zni x=some u)(h:Q u s)
  (hn:x ≠ "__name__" := by decide) (hd:(x == ("__debug__" : Str))=false:=by decide):Zjd (Zjx X.prog X.w) X.A (eval (.Name x pos) X.env) Q E s:=by
 obtain⟨mb,h1,h2⟩:=I.mod.blt
 exact Zqb I.ok.kind hg (Calls.loadGlobal_builtin (by rw[I.ok.glob];exact I.mod.glob.keeps I.bk) hm (by rw[I.ok.blt];exact h1.keeps I.bk) ((h2 x hn).trans hv) h) hd
theorem zgm{x:Str}{v:V}{u:Value}{pos:Pos}(hg:Gl X x)(hm:X.mg x=some u)(r:RelV v u)(hd:(x == ("__debug__" : Str))=false:=by decide):PE X (.Name x pos) (tC v) :=
 fun _ _ _ H _ I h=>zxz I hg hm ⟨v,H,I,r,h⟩ hd
theorem zik{x:Str}{v:V}{u:Value}{pos:Pos}(hg:Gl X x)(hm:X.mg x=none)(hv:Zni x=some u)(r:RelV v u)(hn:x ≠ "__name__" := by decide)(hd:(x == ("__debug__" : Str))=false:=by decide):PE X (.Name x pos) (tC v) :=
 fun _ _ _ H _ I h=>zjk I hg hm hv ⟨v,H,I,r,h⟩ hn hd
variable{a b:Expr}{ta tb:TE}{pos:Pos}
noncomputable def PC(X:Cx)(op:Ztc)(a b:Expr)(t:TE):Prop :=
 ∀(pins:List (Addr×Obj)) (s:Zih) (O:St) (H:Hp) (Q:VK),Inv X pins O H s->t O H Q ->
  Zjd (Zjx X.prog X.w) X.A (eval a X.env) (fun v s₁=>Zjd (Zjx X.prog X.w) X.A (eval b X.env) (fun u s₂=>Zjd (Zjx X.prog X.w) X.A (Zle op v u) (EP X pins O Q) X.xe s₂) X.xe s₁) X.xe s
noncomputable def tB(t:TE):TT:=fun O H Q=>t O H fun x H1=>∃c,x= .bl c/\Q c H1
theorem ycx{op:Ztc}{t:TE}(h:PC X op a b t)(h1:Zno op b=false:=by first | exact nobehind _ (by decide) (by decide) | rfl):PE X (.Compare a [op] [b] pos) t:=fun pins s O H Q I hw=>Zvk (h pins s O H Q I hw) h1
theorem zje{op:Ztc}{t:TE}(h:PC X op a b t)(h1:Zno op b=false:=by first | exact nobehind _ (by decide) (by decide) | rfl):PT X (.Compare a [op] [b] pos) (tB t):=by
 intro pins s O H Q I hw
 refine Zsr (thn (h pins s O H _ I hw) fun v s1 h1=>thn h1 fun u s2 h2=>thn h2 fun c s3 hz9=>?_) h1
 obtain⟨x,H1,I1,r1,q1⟩:=hz9
 obtain⟨d,rfl,q⟩:=q1
 cases r1
 exact Zkt ⟨H1,I1,q⟩
theorem zc2{e:Expr}{t:TE}(h:PE X e t)(he:∀whole,isTrue e X.env whole=(do let v <- whole;standAt e.pos;Zs3 [v] (truthy v)):=by intro _;rfl):PT X e (tB t):=by
 intro pins s O H Q I hw
 refine isTrue_plain (thn (h pins s O H _ I hw) fun v s1 hz9=>?_) (he _)
 obtain⟨x,H1,I1,r1,q1⟩:=hz9
 obtain⟨d,rfl,q⟩:=q1
 cases r1
 exact Zkt ⟨H1,I1,q⟩
variable{tA tB':TT}{rest:List Expr}
noncomputable def tAnd(t u:TT):TT:=fun O H Q=>t O H fun c H1=>if c=true then u O H1 Q else Q false H1
noncomputable def tOr(t u:TT):TT:=fun O H Q=>t O H fun c H1=>if c=true then Q true H1 else u O H1 Q
noncomputable def tNot(t:TT):TT:=fun O H Q=>t O H fun c H1=>Q (!c) H1
theorem zgi(ha:PT X a tA):PW X (.BoolOp .And [a] pos) tA:=by
 intro wh pins s O H Q I h
 refine isTrue_and (thn (ha pins s O H Q I h) fun c s1 e=>?_)
 cases c with
 | true=>exact isTrue_and_nil e
 | false=>exact e
theorem zh0(ha:PT X a tA):PW X (.BoolOp .Or [a] pos) tA:=by
 intro wh pins s O H Q I h
 refine isTrue_or (thn (ha pins s O H Q I h) fun c s1 e=>?_)
 cases c with
 | false=>exact isTrue_or_nil e
 | true=>exact e
theorem zjm(ha:PT X a tA)(hb:PW X (.BoolOp .And (b::rest) pos) tB'):PW X (.BoolOp .And (a::b::rest) pos) (tAnd tA tB'):=by
 intro wh pins s O H Q I h
 refine isTrue_and (thn (ha pins s O H _ I h) fun c s1 hz9=>?_)
 obtain⟨H1,I1,q1⟩:=hz9
 cases c with
 | true=>exact hb wh pins s1 O H1 Q I1 q1
 | false=>exact⟨H1,I1,q1⟩
theorem zhi(ha:PT X a tA)(hb:PW X (.BoolOp .Or (b::rest) pos) tB'):PW X (.BoolOp .Or (a::b::rest) pos) (tOr tA tB'):=by
 intro wh pins s O H Q I h
 refine isTrue_or (thn (ha pins s O H _ I h) fun c s1 hz9=>?_)
 obtain⟨H1,I1,q1⟩:=hz9
 cases c with
 | true=>exact⟨H1,I1,q1⟩
 | false=>exact hb wh pins s1 O H1 Q I1 q1
theorem zd6(ha:PT X a tA):PT X (.UnaryOp .Not a pos) (tNot tA):=by
 intro pins s O H Q I h
 exact isTrue_not (ha pins s O H (fun c H1=>Q (!c) H1) I h)
noncomputable def yh3(ta tb:TE):TE:=fun O H Q=>ta O H fun x H1=>∃c,x= .bl c/\if c=true then tb O H1 Q else Q (.bl false) H1
noncomputable def tOrV(ta tb:TE):TE:=fun O H Q=>ta O H fun x H1=>∃c,x= .bl c/\if c=true then Q (.bl true) H1 else tb O H1 Q
noncomputable def yid(ta:TE):TE:=fun O H Q=>ta O H fun x H1=>∃c,x= .bl c/\Q (.bl (!c)) H1
theorem zeu{op}{t:TE}(h:PE X a t):PE X (.BoolOp op [a] pos) t:=fun pins s O H Q I hw=>BoolOp_one (h pins s O H Q I hw)
theorem zd7(ha:PE X a ta)(hb:PE X (.BoolOp .And (b::rest) pos) tb):PE X (.BoolOp .And (a::b::rest) pos) (yh3 ta tb):=by
 intro pins s O H Q I h
 refine BoolOp_and (thn (ha pins s O H _ I h) fun v s1 hz9=>?_)
 obtain⟨x,H1,I1,r1,q1⟩:=hz9
 obtain⟨c,rfl,q1⟩:=q1
 cases r1
 refine Zkt ?_
 cases c with
 | true=>exact hb pins s1 O H1 Q I1 q1
 | false=>exact⟨.bl false,H1,I1,rfl,q1⟩
theorem ybf(ha:PE X a ta)(hb:PE X (.BoolOp .Or (b::rest) pos) tb):PE X (.BoolOp .Or (a::b::rest) pos) (tOrV ta tb):=by
 intro pins s O H Q I h
 refine BoolOp_or (thn (ha pins s O H _ I h) fun v s1 hz9=>?_)
 obtain⟨x,H1,I1,r1,q1⟩:=hz9
 obtain⟨c,rfl,q1⟩:=q1
 cases r1
 refine Zkt ?_
 cases c with
 | false=>exact hb pins s1 O H1 Q I1 q1
 | true=>exact⟨.bl true,H1,I1,rfl,q1⟩
theorem ycw(ha:PE X a ta):PE X (.UnaryOp .Not a pos) (yid ta):=by
 intro pins s O H Q I h
 refine UnaryOp_ (thn (ha pins s O H _ I h) fun v s1 hz9=>?_)
 obtain⟨x,H1,I1,r1,q1⟩:=hz9
 obtain⟨c,rfl,q1⟩:=q1
 cases r1
 exact not_of (Zkt ⟨.bl (!c),H1,I1,rfl,q1⟩)
noncomputable def tIf(t:TT)(ta tb:TE):TE:=fun O H Q=>t O H fun c H1=>if c=true then ta O H1 Q else tb O H1 Q
theorem zur{c:Expr}(hc:PT X c tA)(ha:PE X a ta)(hb:PE X b tb):PE X (.IfExp c a b pos) (tIf tA ta tb):=by
 intro pins s O H Q I h
 refine wpAny_IfExp (thn (hc pins s O H _ I h) fun d s1 hz9=>?_)
 obtain⟨H1,I1,q1⟩:=hz9
 cases d with
 | true=>exact ha pins s1 O H1 Q I1 q1
 | false=>exact hb pins s1 O H1 Q I1 q1
end
noncomputable def SqL(K:Zh7)(H:Hp)(a:Addr)(xs:List V):Prop :=
 Rd H a (.lst xs) \/
  ∃(o:Obj) (its:Array Value) (n:Nat),K.lookup a=some o/\o.cls= .type "list" /\ o.dict=none/\o.data= .seq its n/\its.size<=sizeLine/\Vals xs its.toList
noncomputable def SqT(K:Zh7)(H:Hp)(a:Addr)(xs:List V):Prop :=
 Rd H a (.tup xs) \/
  ∃(o:Obj) (its:Array Value) (n:Nat),K.lookup a=some o/\o.cls= .type "tuple" /\ o.data= .seq its n/\its.size<=sizeLine/\Vals xs its.toList
noncomputable def absV:Value->Option V
 | .none=>some .non
 | .bool b=>some (.bl b)
 | .int i _=>some (.int i)
 | .str x _=>some (.str x)
 | .bytes b _=>some (.byt b)
 | .float b _=>some (.flt b)
 | .ref a=>some (.ref a)
 | .type n=>some (.ty n)
 | _=>none
theorem RelV.abs{x:V}{u:Value}(r:RelV x u):absV u=some x:=by
 cases x with
 | non=>cases r;rfl
 | bl _=>cases r;rfl
 | int _=>obtain⟨t,rfl⟩:=r;rfl
 | str _=>obtain⟨t,rfl⟩:=r;rfl
 | byt _=>obtain⟨t,rfl⟩:=r;rfl
 | flt _=>obtain⟨t,rfl⟩:=r;rfl
 | ref _=>cases r;rfl
 | ty _=>cases r;rfl
theorem RelV.inj{x y:V}{u:Value}(r:RelV x u)(q:RelV y u):x=y:=Zj9 (r.abs.symm.trans q.abs)
theorem Vals.inj:∀{xs ys:List V} {us:List Value},Vals xs us->Vals ys us->xs=ys
 | _,_,_,.nil,.nil=>rfl
 | _,_,_,.cons r t,.cons r' t'=>by rw[r.inj r',Vals.inj t t']
section
variable{X:Cx}{pins:List (Addr×Obj)}{O:St}{H:Hp}{s:Zih}{a:Addr}{xs ys:List V}
theorem SqL.of{K:Zh7}(h:H a=some (.lst xs)):SqL K H a xs:=.inl (.inl h)
theorem SqT.of{K:Zh7}(h:H a=some (.tup xs)):SqT K H a xs:=.inl (.inl h)
theorem Inv.list(I:Inv X pins O H s)(h:SqL X.K H a xs):∃its:List Value,Vals xs its/\PlainL s.heap a its.toArray/\xs.length<=sizeLine:=by
 rcases h with h | ⟨o,its,n,hk,hc,hd,hs,hz,r⟩
 .obtain⟨z,its,n,r,e⟩:=h.ok I.hok
  exact⟨its,r,⟨_,n,e,rfl,rfl,rfl⟩,z⟩
 .refine⟨its.toList,r,⟨o,n,I.kIn a o hk,hc,hd,by simpa using hs⟩,?_⟩
  have e:=r.length
  simp only[Zkm] at e
  omega
theorem Inv.tuple(I:Inv X pins O H s)(h:SqT X.K H a xs):∃its:List Value,Vals xs its/\IsTup s.heap a its.toArray/\xs.length<=sizeLine:=by
 rcases h with h | ⟨o,its,n,hk,hc,hs,hz,r⟩
 .obtain⟨z,its,r,p⟩:=h.ok I.hok
  exact⟨its,r,p,z⟩
 .refine⟨its.toList,r,⟨o,I.kIn a o hk,hc,n,by simpa using hs⟩,?_⟩
  have e:=r.length
  simp only[Zkm] at e
  omega
theorem Inv.list_inj(I:Inv X pins O H s)(h:SqL X.K H a xs)(h':SqL X.K H a ys):xs=ys:=by
 obtain⟨its,r,⟨o,n,e,_,_,d⟩,_⟩:=I.list h
 obtain⟨its',r',⟨o',n',e',_,_,d'⟩,_⟩:=I.list h'
 rw[e] at e';cases e'
 rw[d] at d'
 injection d' with d1 _
 have:its=its':=by simpa using congrArg Array.toList d1
 subst this
 exact r.inj r'
end
noncomputable abbrev Cx.wish(X:Cx)(E:Value->Zih->Prop):Cx:={ X with xe:=E }
noncomputable abbrev Cx.nox(X:Cx):Cx:=X.wish fun _ _=>False
theorem Cx.Ok.wish{X:Cx}(ok:X.Ok)(E:Value->Zih->Prop):(X.wish E).Ok :=
 ⟨ok.mod,ok.kind,ok.glob,ok.blt,ok.above,ok.inj,ok.has,ok.cab,ok.hd,ok.frames,ok.stk,ok.exf,ok.bs,ok.bsz,ok.noex,ok.exfs,ok.funs,ok.frf⟩
theorem Cx.Ok.unwish{X:Cx}{E:Value->Zih->Prop}(ok:(X.wish E).Ok):X.Ok :=
 ⟨ok.mod,ok.kind,ok.glob,ok.blt,ok.above,ok.inj,ok.has,ok.cab,ok.hd,ok.frames,ok.stk,ok.exf,ok.bs,ok.bsz,ok.noex,ok.exfs,ok.funs,ok.frf⟩
section
variable{X:Cx}{pins:List (Addr×Obj)}{O:St}{H:Hp}{s:Zih}{E:Value->Zih->Prop}
theorem Inv.wish(I:Inv X pins O H s)(E:Value->Zih->Prop):Inv (X.wish E) pins O H s:=⟨I.ok.wish E,I.os,I.bare,I.base,I.loc,I.cell,I.free,I.freeC,I.pin,I.hok,I.len⟩
theorem Inv.unwish(I:Inv (X.wish E) pins O H s):Inv X pins O H s:=⟨I.ok.unwish,I.os,I.bare,I.base,I.loc,I.cell,I.free,I.freeC,I.pin,I.hok,I.len⟩
theorem SP.unwish{D:Ends}{f:Flow}{s':Zih}(h:SP (X.wish E) pins D f s'):SP X pins D f s':=by
 cases f with
 | next=>obtain⟨O',H',I,q⟩:=h;exact⟨O',H',I.unwish,q⟩
 | brk=>obtain⟨O',H',I,q⟩:=h;exact⟨O',H',I.unwish,q⟩
 | cont=>obtain⟨O',H',I,q⟩:=h;exact⟨O',H',I.unwish,q⟩
 | ret u=>obtain⟨v,O',H',I,r,q⟩:=h;exact⟨v,O',H',I.unwish,r,q⟩
theorem PSs.nox{st:List Stmt}{t:TS}(h:PSs X.nox st t):PSs X st t:=fun pins s O H D I hw =>
 Zk5 (h pins s O H D (I.wish _) hw) (fun _ _ q=>q.unwish) fun _ _ z=>Zmo z
end
section
variable{X:Cx}{st:Stmt}{rest:List Stmt}{t u:TS}{e:Expr}{te:TE}{pos:Pos}
noncomputable def yh5:TS:=fun D O H=>D.nx O H
noncomputable def tSeq(t u:TS):TS:=fun D O H=>t { D with nx:=u D } O H
theorem zax:PSs X [] yh5:=fun _ _ O H _ I h=>Zo3 ⟨O,H,I,h⟩
theorem zad(h1:PS X st t)(h2:PSs X rest u):PSs X (st::rest) (tSeq t u):=by
 intro pins s O H D I h
 refine Zun (thn (h1 pins s O H { D with nx:=u D } I h) fun f s1 q=>?_)
 cases f with
 | next =>
  obtain⟨O',H',I',q⟩:=q
  exact h2 pins s1 O' H' D I' q
 | ret v=>exact q
 | brk=>exact q
 | cont=>exact q
theorem zag(h1:PS X st t):PSs X [st] t:=by
 intro pins s O H D I h
 refine Zun (thn (h1 pins s O H D I h) fun f s1 q=>?_)
 cases f with
 | next=>exact Zo3 q
 | ret v=>exact q
 | brk=>exact q
 | cont=>exact q
theorem Inv.quiet{pins:List (Addr×Obj)}{O:St}{H:Hp}{s:Zih}(I:Inv X pins O H s):interactive X.env=false:=by simp[interactive,I.ok.kind]
noncomputable def zz0(te:TE):TS:=fun D O H=>te O H fun _ H1=>D.nx O H1
theorem zgj(he:PE X e te)(hs:Zrg e none pos.line X.env=pure false:=by rfl):PS X (.Expr e pos) (zz0 te):=by
 intro pins s O H D I h
 exact wpAny_Expr_any (thn (he pins s O H _ I h) fun v s1 ⟨x,H1,I1,r1,q1⟩=>⟨O,H1,I1,q1⟩) I.quiet hs
noncomputable def tRet(te:TE):TS:=fun D O H=>te O H D.rt
theorem zas(he:PE X e te):PS X (.Return (some e) pos) (tRet te):=by
 intro pins s O H D I h
 exact wpAny_Return_some (thn (he pins s O H _ I h) fun v s1 ⟨x,H1,I1,r1,q1⟩=>⟨x,O,H1,I1,r1,q1⟩)
noncomputable def tIfS(c:TT)(t u:TS):TS:=fun D O H=>c O H fun b H1=>if b=true then t D O H1 else u D O H1
theorem zbt{c:Expr}{a b:List Stmt}{tc:TT}(hc:PT X c tc)(ha:PSs X a t)(hb:PSs X b u):PS X (.If c a b pos) (tIfS tc t u):=by
 intro pins s O H D I h
 refine wpAny_If (thn (hc pins s O H _ I h) fun d s1 hz9=>?_)
 obtain⟨H1,I1,q1⟩:=hz9
 cases d with
 | true=>exact ha pins s1 O H1 D I1 q1
 | false=>exact hb pins s1 O H1 D I1 q1
noncomputable def yhw:TS:=fun _ _ _=>False
theorem zuc:PS X st yhw:=fun _ _ _ _ _ _ h=>h.elim
end
noncomputable abbrev TG:=V->St->Hp->(St->Hp->Prop)->Prop
noncomputable abbrev TGs:=List V->St->Hp->(St->Hp->Prop)->Prop
noncomputable def PG(X:Cx)(target:Expr)(t:TG):Prop :=
 ∀(pins:List (Addr×Obj)) (s:Zih) (O:St) (H:Hp) (v:V) (u:Value) (Q:St->Hp->Prop),Inv X pins O H s->RelV v u->t v O H Q ->
  Zjd (Zjx X.prog X.w) X.A (Zsu target X.env u) (fun _ s'=>∃O' H',Inv X pins O' H' s'/\Q O' H') X.xe s
noncomputable def PGs(X:Cx)(ts:List Expr)(t:TGs):Prop :=
 ∀(pins:List (Addr×Obj)) (s:Zih) (O:St) (H:Hp) (vs:List V) (us:List Value) (Q:St->Hp->Prop),Inv X pins O H s->Vals vs us->t vs O H Q ->
  Zjd (Zjx X.prog X.w) X.A (assignInOrder ((Zpc ts X.env).map (·.2)) us) (fun _ s'=>∃O' H',Inv X pins O' H' s'/\Q O' H') X.xe s
section
variable{X:Cx}{pos:Pos}
noncomputable def zfw(i:Nat):TG:=fun v O H Q=>Q (O.set i (some v)) H
theorem zbj{i:Nat}{x:Str}(hN:X.N.Nodup)(hi:X.N[i]? = some x)(hx:Loc X.env.scope x)(hf:X.fn x=true\/X.env.scope.names.lookup x=some .local:=by first | exact .inl rfl | exact .inr rfl | assumption):PG X (.Name x pos) (zfw i):=by
 intro pins s O H v u Q I r h
 exact Zts (zub I hN hi hx r (fun s' I'=>⟨_,H,I',h⟩) hf)
noncomputable def gNil:TGs:=fun vs O H Q=>vs=[]/\Q O H
noncomputable def zwh(t:TG)(u:TGs):TGs:=fun vs O H Q=>∃v r,vs=v::r/\t v O H fun O' H'=>u r O' H' Q
theorem zbv:PGs X [] gNil:=by
 intro pins s O H vs us Q I r h
 obtain⟨e,h⟩:=h
 subst e
 cases r
 exact assignInOrder_nil ⟨O,H,I,h⟩
theorem zaq{e:Expr}{es:List Expr}{t:TG}{u:TGs}(h1:PG X e t)(h2:PGs X es u)
  (hs:(Zpc (e::es) X.env).map (·.2)=Zsu e X.env::(Zpc es X.env).map (·.2):=by rfl):PGs X (e::es) (zwh t u):=by
 intro pins s O H vs us Q I r h
 obtain⟨v,vr,e1,h⟩:=h
 subst e1
 cases r with
 | cons r rr =>
  rw[hs]
  refine assignInOrder_cons (thn (h1 pins s O H _ _ _ I r h) fun _ s1 hz9=>?_)
  obtain⟨O1,H1,I1,q1⟩:=hz9
  exact h2 pins s1 O1 H1 _ _ Q I1 rr q1
noncomputable def gTup(K:Zh7)(n:Nat)(t:TGs):TG:=fun v O H Q=>∃a xs,v= .ref a/\SqT K H a xs/\xs.length=n/\t xs O H Q
theorem zcp{es:List Expr}{k:Nat}{t:TGs}{n:Nat}(hc:X.calm=true)(h:PGs X es t)
  (hn:(Zpc es X.env).length=n:=by rfl) (hst:(Zpc es X.env).findIdx? (·.1)=none:=by rfl):PG X (.Tuple es k pos) (gTup X.K n t):=by
 intro pins s O H v u Q I r hw
 obtain⟨a,xs,e1,hq,hl,hw⟩:=hw
 subst e1
 cases r
 obtain⟨its,rv,ht,hz⟩:=I.tuple hq
 refine assign_Tuple_tuple (I.ok.hd hc) ht (by simp[hn,<- hl,rv.length]) hst fun h' hx=>?_
 have I1:Inv X pins O H { s with heap:=h' }:=I.kept (t':=s.toks) fun b o e=>hx b o (Zi6 (Ziw e)) e
 exact h pins _ O H xs _ Q I1 (by simpa using rv) hw
noncomputable def tAsg(te:TE)(g:TG):TS:=fun D O H=>te O H fun x H1=>g x O H1 D.nx
theorem yde{tg e:Expr}{te:TE}{g:TG}(he:PE X e te)(hg:PG X tg g)(hs:swapsWithSole [tg] e pos.line X.env=pure false:=by rfl)(hw:swappedStores [tg] e X.env=pure none:=by rfl)
  (h1:(Zpc [tg] X.env).map (·.2)=[Zsu tg X.env]:=by rfl):PS X (.Assign [tg] e pos) (tAsg te g):=by
 intro pins s O H D I h
 refine wpAny_Assign_stores (thn (he pins s O H _ I h) fun v s1 hz9=>?_) hs hw
 obtain⟨x,H1,I1,r1,q1⟩:=hz9
 rw[h1]
 exact thn (hg pins s1 O H1 x v _ I1 r1 q1) fun _ s2 q=>q
theorem zwl{i:Nat}{x:Str}{e:Expr}{te:TE}{pos':Pos}(hN:X.N.Nodup)(hi:X.N[i]? = some x)(hx:Loc X.env.scope x)(he:PE X e te)(hs:Zrg e (some (.Name x pos')) pos.line X.env=pure false:=by rfl)(hf:X.fn x=true\/X.env.scope.names.lookup x=some .local:=by first | exact .inl rfl | exact .inr rfl | assumption) :
  PS X (.Assign [.Name x pos'] e pos) (tAsg te (zfw i)):=by
 intro pins s O H D I h
 refine wpAny_Assign_Name (thn (he pins s O H _ I h) fun v s1 hz9=>?_) hs
 obtain⟨y,H1,I1,r1,q1⟩:=hz9
 exact zub I1 hN hi hx r1 (fun s2 I2=>⟨_,H1,I2,q1⟩) hf
end
section
variable{X:Cx}{pos:Pos}
noncomputable def ycv(c:TT)(tb:TS):TS:=fun D O H=>∃W:Nat->St->Hp->Prop,(∃m,W m O H) /\ ∀m O H,W m O H ->
 c O H fun b H1=>if b=true then ∃N:St->Hp->Prop,(∀O' H',N O' H'-> ∃m',m'<m/\W m' O' H')/\tb { D with nx:=N,ct:=N,bk:=D.nx } O H1 else D.nx O H1
theorem yaq{c:Expr}{body:List Stmt}{tc:TT}{tb:TS}(hp:Zjm (Zjx X.prog X.w) X.A X.env X.xe)(hc:PT X c tc)(hb:PSs X body tb):PS X (.While c body [] pos) (ycv tc tb):=by
 intro pins s O H D I h
 obtain⟨W,⟨m0,w0⟩,turn⟩:=h
 refine wpAny_While (codeAny_whileLoop (fun n s'=>∃O' H',Inv X pins O' H' s'/\W n O' H') ?_ m0 ⟨O,H,I,w0⟩)
 rintro n s1 ⟨O1,H1,I1,w1⟩
 refine Zmb hp (thn (hc pins s1 O1 H1 _ I1 (turn n O1 H1 w1)) fun b s2 hz9=>?_)
 obtain⟨H2,I2,q2⟩:=hz9
 cases b with
 | true =>
  obtain⟨N,hN,q2⟩:=q2
  rw[if_pos rfl]
  refine Zmb hp (thn (hb pins s2 O1 H2 _ I2 q2) fun f s3 q3=>?_)
  cases f with
  | next =>
   obtain⟨O3,H3,I3,n3⟩:=q3
   obtain⟨m',hm,w3⟩:=hN O3 H3 n3
   exact⟨m',hm,O3,H3,I3,w3⟩
  | cont =>
   obtain⟨O3,H3,I3,n3⟩:=q3
   obtain⟨m',hm,w3⟩:=hN O3 H3 n3
   exact⟨m',hm,O3,H3,I3,w3⟩
  | brk=>exact q3
  | ret v=>exact q3
 | false =>
  rw[if_neg Zi8]
  exact Zo3 ⟨O1,H2,I2,q2⟩
end
structure It where
 go:Nat->Hp->Prop
 yld:Nat->Hp->V->Hp->Prop
 stop:Nat->Hp->Prop
noncomputable def FpOk(X:Cx)(pins:List (Addr×Obj))(H:Hp)(b:Addr):Prop :=
 H b=none/\b≠X.env.locals/\b∉X.fs/\(b∈X.ex\/X.s₀.heap.objs.size<=b)/\(∀x c,X.env.cells.lookup x=some c->c≠b) /\ ∀p∈X.pn++pins,p.1≠b
theorem Inv.fpOk{X:Cx}{pins:List (Addr×Obj)}{O:St}{H H':Hp}{s:Zih}{b:Addr}(I:Inv X pins O H s)(hb:s.heap.objs.size<=b)(hn:H' b=none):FpOk X pins H' b:=by
 refine⟨hn,Zop (Zi5 I.lt hb),I.nofs hb,.inr (Zjb I.sz hb),fun x c e z=>?_,fun p hp z=>?_⟩
 .obtain⟨v,q⟩:=I.cell x c e
  exact absurd (Zi5 q.lt (by rw[z];exact hb)) (Zjh _)
 .exact absurd (Zi5 (Ziw (I.pin p hp).1) (by rw[z];exact hb)) (Zjh _)
structure Turn(P:Zjj)(w:Zkq)(K:Zh7)(tg:Expr)(J:It)(fp:List Addr)(it:Addr)(tn:Nat->Heap->Prop):Prop where
 mem:it∈fp
 obj:∀i h,tn i h-> ∀b∈fp,∃o,h.get? b=some o /\ ∀v,o.data ≠ .cell v
 keep:∀i h h',tn i h->(∀b∈fp,∀o,h.get? b=some o->h'.get? b=some o)->tn i h'
 item:∀(X:Cx),X.prog=P->X.w=w->X.K=K->X.calm=true-> ∀(i:Nat) (pins:List (Addr×Obj)) (s:Zih) (O:St) (H:Hp) (E:Value->Zih->Prop),Inv X pins O H s->(∀b∈fp,FpOk X pins H b)->tn i s.heap->J.go i H ->
  Zjd (Zjx P w) X.A (Zpw (.ref it)) (fun r s1=>∃u,r=some u /\
   Zjd (Zjx P w) X.A (Zo4 tg (.ref it) u) (fun _ s2=>∃x H',Inv X pins O H' s2/\RelV x u/\J.yld i H x H'/\tn (i+1) s2.heap /\ ∀b∈fp,H' b=none) E s1) E s
 done:∀(X:Cx),X.prog=P->X.w=w->X.K=K->X.calm=true-> ∀(i:Nat) (pins:List (Addr×Obj)) (s:Zih) (O:St) (H:Hp) (E:Value->Zih->Prop),Inv X pins O H s->(∀b∈fp,FpOk X pins H b)->tn i s.heap->J.stop i H ->
  Zjd (Zjx P w) X.A (Zpw (.ref it)) (fun r s1=>r=none/\Inv X pins O H s1) E s
 self:∀(A:Zjs) (i:Nat) (s:Zih) (Q:Value->Zih->Prop) (E:Value->Zih->Prop),tn i s.heap->Q (.ref it) s->Zjd (Zjx P w) A (pyIter (.ref it)) Q E s
noncomputable abbrev TI:=St->Hp->(It->Hp->Prop)->Prop
noncomputable def PIE(X:Cx)(pins:List (Addr×Obj))(O:St)(tg:Expr)(R:It->Hp->Prop)(itv:Value)(s2:Zih):Prop :=
 ∃(it:Addr) (fp:List Addr) (tn:Nat->Heap->Prop) (J:It) (H':Hp),itv= .ref it/\Inv X pins O H' s2/\Turn X.prog X.w X.K tg J fp it tn/\tn 0 s2.heap/\(∀b∈fp,FpOk X pins H' b)/\R J H'
noncomputable def PI(X:Cx)(tg iter:Expr)(wi:TI):Prop :=
 ∀(pins:List (Addr×Obj)) (s:Zih) (O:St) (H:Hp) (R:It->Hp->Prop),Inv X pins O H s->wi O H R ->
  Zjd (Zjx X.prog X.w) X.A (eval iter X.env) (fun v s1=>Zjd (Zjx X.prog X.w) X.A (pyIter v) (PIE X pins O tg R) X.xe s1) X.xe s
theorem yg3 {M : Model} {A : Zjs} {E : Value -> Zih -> Prop} {s : Zih} {tg : Expr} {it : Addr} {u : Value} {o : Obj} {n : String} {vs : Array Value} {Q : Unit -> Zih -> Prop} (ho : s.heap.get? it = some o) (hc : o.cls = .type n) (hd : o.data = .fields vs)
    (hn:["enumerate", "zip", "dict_itemiterator", "dict_reverseitemiterator", "odict_iterator", "itertools.zip_longest", "itertools.pairwise"].contains n=false) (hQ:Q () s):Zjd M A (Zo4 tg (.ref it) u) Q E s:=by
  unfold Zo4
  cases tg <;> first
    | exact Ziu hQ
    | (cases u <;> first
        | exact Ziu hQ
        | (refine Zib (wpAny_load ho ?_)
           rw[hc,hd]
           show Zjd M A (if (["enumerate", "zip", "dict_itemiterator", "dict_reverseitemiterator", "odict_iterator", "itertools.zip_longest", "itertools.pairwise"].contains n&&vs[0]? == some (Zvd _))=true then _ else _) Q E s
           rw[if_neg (by intro h;rw[hn,Znt] at h;cases h)]
           exact Ziu hQ))
noncomputable def Itl(K:Zh7)(a:Addr):It :=
 ⟨fun i H=>∃xs x,SqL K H a xs/\xs[i]? = some x,fun i H x H'=>H'=H /\ ∀xs,SqL K H a xs->xs[i]? = some x,fun i H=>∃xs,SqL K H a xs/\xs.length<=i⟩
noncomputable def Itr(lo:Int)(n:Nat):It:=⟨fun i _=>i<n,fun i H x H'=>H'=H/\x= .int (lo+i),fun i _=>n<=i⟩
theorem zx2{P:Zjj}{w:Zkq}{K:Zh7}{tg:Expr}(a it:Addr):Turn P w K tg (Itl K a) [it] it (fun i h=>h.IsListIter it a i) where
 mem:=by simp
 obj:=fun i h st b hb=>by
  have e:b=it:=by simpa using hb
  subst e
  obtain⟨o,e,c,d⟩:=st
  exact⟨o,e,fun v z=>by rw[d] at z;cases z⟩
 keep:=fun i h h' st k=>st.at fun o e=>k it (by simp) o e
 item:=by
  intro X hP hw hK hc i pins s O H E I hf st hg
  subst hP hw hK
  obtain⟨xs,x,hq,hx⟩:=hg
  obtain⟨its,rv,p,hz⟩:=I.list hq
  obtain⟨u,hu,ru⟩:=rv.get hx
  obtain⟨f0,f1,f2,f3,f4,f5⟩:=hf it (by simp)
  refine wpAny_pyNext_list_item st p.isList (x:=u) (by simpa using hu) fun h' st' sb=>?_
  have I1:Inv X pins O H { s with heap:=h' }:=I.turned (t':=s.toks) (fun b o hb e=>(sb.2 b hb).trans e) f0 f1 f3 f4 f5
  obtain⟨o,e,c,d⟩:=id st'
  exact⟨u,rfl,yg3 (s:={ s with heap:=h' }) e c d (by decide) ⟨x,H,I1,ru,⟨rfl,fun ys hy=>by rw[I.list_inj hy hq];exact hx⟩,st',fun b hb=>(hf b hb).1⟩⟩
 done:=by
  intro X hP hw hK hc i pins s O H E I hf st hg
  subst hP hw hK
  obtain⟨xs,hq,hx⟩:=hg
  obtain⟨its,rv,p,hz⟩:=I.list hq
  obtain⟨f0,f1,f2,f3,f4,f5⟩:=hf it (by simp)
  have hl:=rv.length
  exact wpAny_pyNext_list_end (I.ok.hd hc) st p.isList (by simp;omega) fun h' eb=>⟨rfl,I.turned (t':=s.toks) (fun b o hb e=>eb b o hb e) f0 f1 f3 f4 f5⟩
 self:=fun _ _ _ _ _ st h=>wpAny_pyIter_listiter st h
theorem zv4{P:Zjj}{w:Zkq}{K:Zh7}{tg:Expr}(it:Addr)(lo:Int)(n:Nat):Turn P w K tg (Itr lo n) [it] it (fun i h=>IsRangeIter h it (lo+(i:Nat)*1) ((n:Int) - (i:Nat)) 1) where
 mem:=by simp
 obj:=fun i h st b hb=>by
  have e:b=it:=by simpa using hb
  subst e
  exact⟨_,st,fun v z=>by
   have z':Data.fields _=Data.cell v:=z
   cases z'⟩
 keep:=fun i h h' st k=>k it (by simp) _ st
 item:=by
  intro X hP hw hK hc i pins s O H E I hf st hg
  subst hP hw hK
  obtain⟨f0,f1,f2,f3,f4,f5⟩:=hf it (by simp)
  have W:=Walks.range (prog:=X.prog) (w:=X.w) (I.ok.hd hc) it lo 1 n
  refine W.item i s _ _ hg st fun v h' tk hv st' kk=>?_
  obtain⟨t,rfl⟩:=hv
  have I1:Inv X pins O H { s with heap:=h',toks:=tk }:=I.turned (fun b o hb e=>kk b o (by simpa using hb) e) f0 f1 f3 f4 f5
  refine⟨_,rfl,yg3 (s:={ s with heap:=h',toks:=tk }) (n:="range_iterator") st' rfl rfl (by decide) ⟨.int (lo+i),H,I1,⟨t,?_⟩,⟨rfl,rfl⟩,st',fun b hb=>(hf b hb).1⟩⟩
  rw[Zvi]
 done:=by
  intro X hP hw hK hc i pins s O H E I hf st hg
  subst hP hw hK
  obtain⟨f0,f1,f2,f3,f4,f5⟩:=hf it (by simp)
  exact wpAny_pyNext_range_end (I.ok.hd hc) st (by have:n<=i:=hg;omega) fun h' eb=>⟨rfl,I.turned (t':=s.toks) (fun b o hb e=>eb b o hb e) f0 f1 f3 f4 f5⟩
 self:=fun _ _ _ _ _ st h=>wpAny_pyIter_rangeiter st h
section
variable{X:Cx}{tg:Expr}
noncomputable def zs8(K:Zh7)(tl:TE):TI:=fun O H R=>tl O H fun x H1=>∃a,x= .ref a/\(∃xs,SqL K H1 a xs)/\R (Itl K a) H1
theorem za6{l:Expr}{tl:TE}(hl:PE X l tl):PI X tg l (zs8 X.K tl):=by
 intro pins s O H R I h
 refine thn (hl pins s O H _ I h) fun v s1 hz9=>?_
 obtain⟨x,H1,I1,r1,q1⟩:=hz9
 obtain⟨a,e,⟨xs,hq⟩,q⟩:=q1
 subst e
 cases r1
 obtain⟨its,rv,p,hz⟩:=I1.list hq
 refine Zof p.isList ?_
 refine⟨s1.heap.objs.size,[s1.heap.objs.size],_,_,H1,rfl,I1.kept (t':=s1.toks) fun b o e=>Zim _ e,zx2 a _,⟨_,Zi1 _ rfl,rfl,rfl⟩,fun b hb=>?_,q⟩
 have e:b=s1.heap.objs.size:=by simpa using hb
 subst e
 exact I1.fpOk (Zio _) (I1.hok.fresh (Zio _))
theorem zti{pins:List (Addr×Obj)}{O:St}{H:Hp}{s:Zih}{R:It->Hp->Prop}{E:Value->Zih->Prop}{lo hi:Int}{t u v:Tok}{tk:Nat}(I:Inv X pins O H s)(h1 : -(2 ^ 62)<=lo)(h2:lo<2 ^ 62)(h3 : -(2 ^ 62)<=hi)(h4:hi<2 ^ 62)
  (q:R (Itr lo (hi - lo).toNat) H):Zjd (Zjx X.prog X.w) X.A (pyIter (.ref s.heap.objs.size)) (PIE X pins O tg R) E { s with heap:=s.heap.push { cls:=.type "range", data:=.fields #[.int lo t,.int hi u,.int 1 v] },toks:=tk }:=by
 refine wpAny_pyIter_range (IsRange.new ..) (small_one h1 h2 h3 h4) ?_
 have I1:Inv X pins O H { s with heap:=s.heap.push { cls:=.type "range", data:=.fields #[.int lo t,.int hi u,.int 1 v] },toks:=tk }:=I.kept fun b o e=>Zim _ e
 refine⟨(s.heap.push { cls:=.type "range", data:=.fields #[.int lo t,.int hi u,.int 1 v] }).objs.size,[(s.heap.push { cls:=.type "range", data:=.fields #[.int lo t,.int hi u,.int 1 v] }).objs.size],_,_,H,rfl,
  I1.kept (t':=tk) fun b o e=>Zim _ e,zv4 _ lo (hi - lo).toNat,?_,fun b hb=>?_,q⟩
 .have e1:lo+((0:Nat):Int)*1=lo:=by simp
  have e2:(((hi - lo).toNat:Nat):Int) - ((0:Nat):Int)=Zl9 lo hi 1:=by rw[rangeSize_one];split <;> omega
  show IsRangeIter _ _ (lo+((0:Nat):Int)*1) ((((hi - lo).toNat:Nat):Int) - ((0:Nat):Int)) 1
  rw[e1,e2]
  exact Zi1 _ rfl
 .have e:b=(s.heap.push { cls:=.type "range", data:=.fields #[.int lo t,.int hi u,.int 1 v] }).objs.size:=by simpa using hb
  subst e
  exact I1.fpOk (Zio _) (I1.hok.fresh (Zio _))
noncomputable def ygs(ta:TA):TI:=fun O H R=>ta O H fun vs H1=>∃j:Int,vs=[.int j] /\ -(2 ^ 62)<=j/\j<2 ^ 62/\R (Itr 0 j.toNat) H1
noncomputable def yhl(ta:TA):TI:=fun O H R=>ta O H fun vs H1=>∃i j:Int,vs=[.int i,.int j]/\(-(2 ^ 62)<=i/\i<2 ^ 62 /\ -(2 ^ 62)<=j/\j<2 ^ 62)/\R (Itr i (j - i).toNat) H1
theorem zg4{a:Expr}{ta:TA}{p pos:Pos}(hg:Gl X "range")(hm:X.mg "range" = none)(ha:PA X [a] ta)(hs:Zj2 [a] X.env=[(false,eval a X.env)]:=by rfl):PI X tg (.Call (.Name "range" p) [a] [] pos) (ygs ta):=by
 intro pins s O H R I h
 refine Call_ (zjk I hg hm Ztz (Zkn (thn (ha pos pins s O H _ I h) fun us s1 hz9=>?_) hs rfl))
 obtain⟨vs,H1,I1,r1,q1⟩:=hz9
 obtain⟨j,e,q1,q2,q⟩:=q1
 subst e
 cases r1 with
 | cons r rr =>
  cases rr
  obtain⟨t,rfl⟩:=r
  exact call_range_1 (zti I1 (by omega) (by omega) q1 q2 (by simpa using q))
theorem zxy{a b:Expr}{ta:TA}{p pos:Pos}(hg:Gl X "range")(hm:X.mg "range" = none)(ha:PA X [a,b] ta)(hs:Zj2 [a,b] X.env=[(false,eval a X.env),(false,eval b X.env)]:=by rfl)(hs2:Zj2 [b] X.env=[(false,eval b X.env)]:=by rfl) :
  PI X tg (.Call (.Name "range" p) [a,b] [] pos) (yhl ta):=by
 intro pins s O H R I h
 refine Call_ (zjk I hg hm Ztz (Zkn (thn (ha pos pins s O H _ I h) fun us s1 hz9=>?_) (by rw[hs,hs2]) (by rw[hs2];rfl)))
 obtain⟨vs,H1,I1,r1,q1⟩:=hz9
 obtain⟨i,j,e,⟨q1,q2,q3,q4⟩,q⟩:=q1
 subst e
 cases r1 with
 | cons r rr =>
  cases rr with
  | cons r' rr =>
   cases rr
   obtain⟨t,rfl⟩:=r
   obtain⟨t',rfl⟩:=r'
   exact call_range_2 (zti I1 q1 q2 q3 q4 q)
noncomputable def tFor(wi:TI)(g:TG)(tb:TS):TS:=fun D O H=>wi O H fun J H1=>∃W:Nat->Nat->St->Hp->Prop,(∃m,W 0 m O H1) /\ ∀i m O H,W i m O H ->
 (J.stop i H/\D.nx O H)\/(J.go i H /\ ∃N:St->Hp->Prop,(∀O' H',N O' H'-> ∃m',m'<m/\W (i+1) m' O' H') /\ ∀x H',J.yld i H x H'->g x O H' fun O2 H2=>tb { D with nx:=N,ct:=N,bk:=D.nx } O2 H2)
noncomputable def zqm(fp:List Addr)(h:Heap):List (Addr×Obj):=fp.filterMap fun b=>(h.get? b).map fun o=>(b,o)
theorem zi1{fp:List Addr}{h:Heap}{b:Addr}{o:Obj}(hb:b∈fp)(e:h.get? b=some o):(b,o)∈zqm fp h:=Zsd.mpr ⟨b,hb,by rw[e];rfl⟩
theorem zws{fp:List Addr}{h:Heap}{p:Addr×Obj}(hp:p∈zqm fp h):p.1∈fp/\h.get? p.1=some p.2:=by
 obtain⟨b,hb,e⟩:=Zsd.mp hp
 cases q:h.get? b with
 | none=>rw[q] at e;cases e
 | some o =>
  rw[q] at e
  have e':(b,o)=p:=Zj9 e
  subst e'
  exact⟨hb,q⟩
theorem Inv.pinned{pins:List (Addr×Obj)}{O:St}{H:Hp}{s:Zih}{fp:List Addr}(I:Inv X pins O H s)(hf:∀b∈fp,FpOk X pins H b)(ho:∀b∈fp,∃o,s.heap.get? b=some o /\ ∀v,o.data ≠ .cell v):Inv X (pins++zqm fp s.heap) O H s :=
 I.pins_of fun p hp=>(Zin.mp hp).elim (fun z=>I.pin p (Zig _ z)) fun z=>by
  obtain⟨hb,e⟩:=zws z
  obtain⟨f0,f1,f2,_⟩:=hf p.1 hb
  obtain⟨o,e',d⟩:=ho p.1 hb
  rw[e] at e';cases e'
  exact⟨e,f0,f1,f2,d⟩
theorem Inv.unpinned{pins pl:List (Addr×Obj)}{O:St}{H:Hp}{s:Zih}(I:Inv X (pins++pl) O H s):Inv X pins O H s:=I.pins_of fun p hp=>I.pin p (Zig _ (Ziz _ hp))
theorem zbn{iter:Expr}{body:List Stmt}{wi:TI}{g:TG}{tb:TS}{pos:Pos}(hp:Zjm (Zjx X.prog X.w) X.A X.env X.xe)(hc:X.calm=true)(hi:PI X tg iter wi)(hg:PG X tg g)(hb:PSs X body tb)
  (hs:∀x,Zog iter X.env x=pure x:=by intro _;rfl):PS X (.For tg iter body [] pos) (tFor wi g tb):=by
 intro pins s O H D I h
 refine wpAny_For (thn (hi pins s O H _ I h) fun v s1 h1=>thn h1 fun itv s2 h2=>?_) hs
 obtain⟨it,fp,tn,J,H2,e,I2,T,st2,f2,W,⟨m0,w0⟩,turn⟩:=h2
 subst e
 -- what stays true of the iterator's objects through the loop
 have stat:∀{H':Hp},(∀b∈fp,H' b=none)-> ∀b∈fp,FpOk X pins H' b:=fun hn b hb=>⟨hn b hb,(f2 b hb).2⟩
 refine codeAny_forLoop_any (fun n s'=>∃i O' H',Inv X pins O' H' s'/\tn i s'.heap/\(∀b∈fp,H' b=none)/\W i n O' H') ?_ m0 ⟨0,O,H2,I2,st2,fun b hb=>(f2 b hb).1,w0⟩
 rintro n s3 ⟨i,O3,H3,I3,st3,fr3,w3⟩
 rcases turn i n O3 H3 w3 with ⟨stop,qn⟩ | ⟨go,N,hN,step⟩
 .refine Zmb hp (thn (T.done X rfl rfl rfl hc i pins s3 O3 H3 X.xe I3 (stat fr3) st3 stop) fun r s4 hz9=>?_)
  obtain⟨hr,I4⟩:=hz9
  subst hr
  exact Zo3 ⟨O3,H3,I4,qn⟩
 .refine Zmb hp (thn (T.item X rfl rfl rfl hc i pins s3 O3 H3 X.xe I3 (stat fr3) st3 go) fun r s4 hz9=>?_)
  obtain⟨u,hr,h4⟩:=hz9
  subst hr
  refine Zmb hp (thn h4 fun _ s5 hz9=>?_)
  obtain⟨x,H5,I5,r5,y5,st5,fr5⟩:=hz9
  have I5':=I5.pinned (stat fr5) (T.obj _ _ st5)
  refine Zmb hp (thn (hg _ s5 O3 H5 x u _ I5' r5 (step x H5 y5)) fun _ s6 hz9=>?_)
  obtain⟨O6,H6,I6,q6⟩:=hz9
  refine Zmb hp (thn (hb _ s6 O6 H6 _ I6 q6) fun f s7 q7=>?_)
  have again:∀{O7:St} {H7:Hp},Inv X (pins++zqm fp s5.heap) O7 H7 s7->N O7 H7-> ∃m,m<n /\ ∃i O' H',Inv X pins O' H' s7/\tn i s7.heap/\(∀b∈fp,H' b=none)/\W i m O' H':=fun {O7 H7} I7 n7=>by
   obtain⟨m',hm,w7⟩:=hN O7 H7 n7
   refine⟨m',hm,i+1,O7,H7,I7.unpinned,T.keep _ _ _ st5 fun b hb o e=>(I7.pin (b,o) (Zig _ (Zig _ (zi1 hb e)))).1,fun b hb=>?_,w7⟩
   obtain⟨o,e,d⟩:=T.obj _ _ st5 b hb
   exact(I7.pin (b,o) (Zig _ (Zig _ (zi1 hb e)))).2.1
  cases f with
  | next=>obtain⟨O7,H7,I7,n7⟩:=q7;exact again I7 n7
  | cont=>obtain⟨O7,H7,I7,n7⟩:=q7;exact again I7 n7
  | brk=>obtain⟨O7,H7,I7,q7⟩:=q7;exact⟨O7,H7,I7.unpinned,q7⟩
  | ret v=>obtain⟨x7,O7,H7,I7,r7,q7⟩:=q7;exact⟨x7,O7,H7,I7.unpinned,r7,q7⟩
end
noncomputable abbrev R2:=V->V->Hp->VK->Prop
noncomputable def OpR(X:Cx)(f:Value->Value->Sem Value)(r:R2):Prop :=
 ∀(pins:List (Addr×Obj)) (s:Zih) (O:St) (H:Hp) (x y:V) (v u:Value) (Q:VK),Inv X pins O H s->RelV x v->RelV y u->r x y H Q ->
  Zjd (Zjx X.prog X.w) X.A (f v u) (EP X pins O Q) X.xe s
noncomputable def UnR(X:Cx)(f:Value->Sem Value)(r:V->Hp->VK->Prop):Prop :=
 ∀(pins:List (Addr×Obj)) (s:Zih) (O:St) (H:Hp) (x:V) (v:Value) (Q:VK),Inv X pins O H s->RelV x v->r x H Q ->
  Zjd (Zjx X.prog X.w) X.A (f v) (EP X pins O Q) X.xe s
noncomputable def zcm(X:Cx)(f:Value)(r:List V->Hp->VK->Prop):Prop :=
 ∀(pins:List (Addr×Obj)) (s:Zih) (O:St) (H:Hp) (xs:List V) (us:List Value) (Q:VK),Inv X pins O H s->Vals xs us->r xs H Q ->
  Zjd (Zjx X.prog X.w) X.A (call f us) (EP X pins O Q) X.xe s
noncomputable def tOp(r:R2)(ta tb:TE):TE:=fun O H Q=>ta O H fun x H1=>tb O H1 fun y H2=>r x y H2 Q
noncomputable def tUn(r:V->Hp->VK->Prop)(ta:TE):TE:=fun O H Q=>ta O H fun x H1=>r x H1 Q
noncomputable def rI(C:Int->Int->Prop)(g:Int->Int->V):R2:=fun x y H Q=>∃i j,x= .int i/\y= .int j/\C i j/\Q (g i j) H
noncomputable def rI0(g:Int->Int->V):R2:=fun x y H Q=>∃i j,x= .int i/\y= .int j/\Q (g i j) H
noncomputable def rU(g:Int->V):V->Hp->VK->Prop:=fun x H Q=>∃i,x= .int i/\Q (g i) H
section
variable{X:Cx}{a b c:Expr}{ta tb tc:TE}{pos:Pos}
theorem binT(ha:PE X a ta)(hb:PE X b tb){pins:List (Addr×Obj)}{s:Zih}{O:St}{H:Hp}{R:V->V->Hp->Prop}(I:Inv X pins O H s)
  (h:ta O H fun x H1=>tb O H1 fun y H2=>R x y H2) {Q:Value->Zih->Prop} {f:Value->Value->Sem Value}
  (hf:∀v u s2 x y H2,Inv X pins O H2 s2->RelV x v->RelV y u->R x y H2->Zjd (Zjx X.prog X.w) X.A (f v u) Q X.xe s2) :
  Zjd (Zjx X.prog X.w) X.A (eval a X.env) (fun v s₁=>Zjd (Zjx X.prog X.w) X.A (eval b X.env) (fun u s₂=>Zjd (Zjx X.prog X.w) X.A (f v u) Q X.xe s₂) X.xe s₁) X.xe s:=by
 refine thn (ha pins s O H _ I h) fun v s1 hz9=>?_
 obtain⟨x,H1,I1,r1,q1⟩:=hz9
 refine thn (hb pins s1 O H1 _ I1 q1) fun u s2 hz9=>?_
 obtain⟨y,H2,I2,r2,q2⟩:=hz9
 exact hf v u s2 x y H2 I2 r1 r2 q2
theorem zbr{op:Operator}{r:R2}(ho:OpR X (Zpb op) r)(ha:PE X a ta)(hb:PE X b tb):PE X (.BinOp a op b pos) (tOp r ta tb):=by
 intro pins s O H Q I h
 exact wpAny_BinOp (binT ha hb I h fun v u s2 x y H2 I2 rx ry q=>ho pins s2 O H2 x y v u Q I2 rx ry q)
theorem zob{op:UnaryOp}{r:V->Hp->VK->Prop}(ho:UnR X (unaryOp op) r)(ha:PE X a ta):PE X (.UnaryOp op a pos) (tUn r ta):=by
 intro pins s O H Q I h
 exact UnaryOp_ (thn (ha pins s O H _ I h) fun v s1 ⟨x,H1,I1,r1,q1⟩=>ho pins s1 O H1 x v Q I1 r1 q1)
theorem opI{f:Value->Value->Sem Value}{C:Int->Int->Prop}{g:Int->Int->Int}
  (rule:∀(i j:Int) (t u:Tok) (s:Zih) (Q:Value->Zih->Prop) (E:Value->Zih->Prop),C i j->Q (.int (g i j) s.toks) { s with toks:=s.toks+1 }->Zjd (Zjx X.prog X.w) X.A (f (.int i t) (.int j u)) Q E s) :
  OpR X f (rI C fun i j=>.int (g i j)):=by
 intro pins s O H x y v u Q I rx ry h
 obtain⟨i,j,rfl,rfl,hc,q⟩:=h
 obtain⟨t,rfl⟩:=rx
 obtain⟨t',rfl⟩:=ry
 exact rule i j t t' s _ _ hc ⟨.int (g i j),H,I.tok _,⟨_,rfl⟩,q⟩
theorem opI0{f:Value->Value->Sem Value}{g:Int->Int->Int}
  (rule:∀(i j:Int) (t u:Tok) (s:Zih) (Q:Value->Zih->Prop) (E:Value->Zih->Prop),Q (.int (g i j) s.toks) { s with toks:=s.toks+1 }->Zjd (Zjx X.prog X.w) X.A (f (.int i t) (.int j u)) Q E s) :
  OpR X f (rI0 fun i j=>.int (g i j)):=by
 intro pins s O H x y v u Q I rx ry h
 obtain⟨i,j,rfl,rfl,q⟩:=h
 obtain⟨t,rfl⟩:=rx
 obtain⟨t',rfl⟩:=ry
 exact rule i j t t' s _ _ ⟨.int (g i j),H,I.tok _,⟨_,rfl⟩,q⟩
theorem opB0{f:Value->Value->Sem Value}{g:Int->Int->Bool}
  (rule:∀(i j:Int) (t u:Tok) (s:Zih) (Q:Value->Zih->Prop) (E:Value->Zih->Prop),Q (.bool (g i j)) s->Zjd (Zjx X.prog X.w) X.A (f (.int i t) (.int j u)) Q E s) :
  OpR X f (rI0 fun i j=>.bl (g i j)):=by
 intro pins s O H x y v u Q I rx ry h
 obtain⟨i,j,rfl,rfl,q⟩:=h
 obtain⟨t,rfl⟩:=rx
 obtain⟨t',rfl⟩:=ry
 exact rule i j t t' s _ _ ⟨.bl (g i j),H,I,rfl,q⟩
noncomputable def CDiv(i j:Int):Prop:=0<j/\j<1073741824
noncomputable def CPow(i j:Int):Prop:=0<=j/\j<=1000000/\i.natAbs<2 ^ 64
noncomputable def CMul(i j:Int):Prop:=(-(2 ^ 64)<i/\i<2 ^ 64)\/(-(2 ^ 64)<j/\j<2 ^ 64)
theorem CMul.ok{i j:Int}(h:CMul i j):IntMulOk i j:=by
 rcases h with ⟨h1,h2⟩ | ⟨h1,h2⟩
 .exact .of_left (Zvs h1 h2)
 .exact .of_right (Zvs h1 h2)
theorem zc1:OpR X (Zpb .Add) (rI0 fun i j=>.int (i+j)):=opI0 fun _ _ _ _ _ _ _ q=>add_int q
theorem ydi:OpR X (Zpb .Sub) (rI0 fun i j=>.int (i - j)):=opI0 fun _ _ _ _ _ _ _ q=>sub_int q
theorem yif:OpR X (Zpb .Mult) (rI CMul fun i j=>.int (i*j)):=opI fun _ _ _ _ _ _ _ hc q=>mul_int q hc.ok
theorem znt:OpR X (Zpb .FloorDiv) (rI CDiv fun i j=>.int (i / j)):=opI fun i j _ _ _ _ _ hc q=>by
 have h1:(0:Int)<j:=hc.1
 have h2:j<1073741824:=hc.2
 exact floordiv_int (by omega) (by rw[Int.fdiv_eq_ediv_of_nonneg i (by omega)];exact q) (.inl (PyProof.noPylong_small (by omega)))
theorem zjd:OpR X (Zpb .Mod) (rI (fun _ j=>0<j) fun i j=>.int (i % j)):=opI fun i j _ _ _ _ _ hc q=>by
 have h1:(0:Int)<j:=hc
 exact mod_int' (by omega) (by rw[Int.fmod_eq_emod_of_nonneg i (by omega)];exact q)
theorem yh2:OpR X (Zpb .Pow) (rI CPow fun i j=>.int (i ^ j.toNat)):=opI fun _ _ _ _ _ _ _ hc q=>pow_int_small hc.1 hc.2.1 hc.2.2 q
theorem unI{f:Value->Sem Value}{g:Int->Int}
  (rule:∀(i:Int) (t:Tok) (s:Zih) (Q:Value->Zih->Prop) (E:Value->Zih->Prop),Q (.int (g i) s.toks) { s with toks:=s.toks+1 }->Zjd (Zjx X.prog X.w) X.A (f (.int i t)) Q E s) :
  UnR X f (rU fun i=>.int (g i)):=by
 intro pins s O H x v Q I rx h
 obtain⟨i,rfl,q⟩:=h
 obtain⟨t,rfl⟩:=rx
 exact rule i t s _ _ ⟨.int (g i),H,I.tok _,⟨_,rfl⟩,q⟩
theorem zjf:UnR X (unaryOp .USub) (rU fun i=>.int (-i)):=unI fun _ _ _ _ _ q=>neg_int q
end
noncomputable def scal:V->V->Bool
 | .non,.non=>true | .non,.int _=>true | .int _,.non=>true | .non,.bl _=>true | .bl _,.non=>true | .non,.str _=>true | .str _,.non=>true
 | .int _,.int _=>true | .bl _,.bl _=>true | .str _,.str _=>true | .byt _,.byt _=>true
 | .int _,.str _=>true | .str _,.int _=>true | .bl _,.str _=>true | .str _,.bl _=>true
 | _,_=>false
noncomputable def rEq:R2:=fun x y H Q=>scal x y=true/\Q (.bl (decide (x=y))) H
noncomputable def rNe:R2:=fun x y H Q=>scal x y=true/\Q (.bl (!decide (x=y))) H
theorem zx7{i j:Int}:decide (V.int i=V.int j)=(i == j):=by
 rw[Zjg]
 simp
theorem ycu{i j:Bool}:decide (V.bl i=V.bl j)=(i == j):=by
 rw[Zjg]
 simp
theorem zy1{i j:Str}:decide (V.str i=V.str j)=(i == j):=by
 rw[Zjg]
 simp
theorem zwv{i j:Array UInt8}:decide (V.byt i=V.byt j)=(i.toList == j.toList):=by
 rw[Zjg]
 cases i
 cases j
 simp
section
variable{X:Cx}{a b c:Expr}{ta tb tc:TE}{pos:Pos}
theorem zb5{pins:List (Addr×Obj)}{O:St}{H:Hp}{s:Zih}{Q:VK}{k k':Bool}(I:Inv X pins O H s)(q:Q (.bl k) H)(e:k=k'):EP X pins O Q (.bool k') s:=by
 subst e
 exact⟨.bl k,H,I,rfl,q⟩
theorem zd4:OpR X (Zle .Eq) rEq:=by
 intro pins s O H x y v u Q I rx ry h
 obtain⟨hs,q⟩:=h
 cases x with
 | non =>
  cases rx
  cases y with
  | non=>cases ry;exact Zuy (zb5 I q (by simp))
  | bl j=>cases ry;exact Zu0 (zb5 I q (by simp))
  | int j=>obtain⟨t',rfl⟩:=ry;exact Zuz (zb5 I q (by simp))
  | str j=>obtain⟨t',rfl⟩:=ry;exact Zux (zb5 I q (by simp))
  | _=>exact absurd (show false=true from hs) Zi8
 | bl i =>
  cases rx
  cases y with
  | non=>cases ry;exact Zu2 (zb5 I q (by simp))
  | bl j=>cases ry;exact eq_bool (zb5 I q ycu)
  | str j=>obtain⟨t',rfl⟩:=ry;exact Zub (zb5 I q (by simp))
  | _=>exact absurd (show false=true from hs) Zi8
 | int i =>
  obtain⟨t,rfl⟩:=rx
  cases y with
  | non=>cases ry;exact Zu1 (zb5 I q (by simp))
  | int j=>obtain⟨t',rfl⟩:=ry;exact eq_int (zb5 I q zx7)
  | str j=>obtain⟨t',rfl⟩:=ry;exact Zua (zb5 I q (by simp))
  | _=>exact absurd (show false=true from hs) Zi8
 | str i =>
  obtain⟨t,rfl⟩:=rx
  cases y with
  | non=>cases ry;exact Zuw (zb5 I q (by simp))
  | bl j=>cases ry;exact Zt9 (zb5 I q (by simp))
  | int j=>obtain⟨t',rfl⟩:=ry;exact Zt8 (zb5 I q (by simp))
  | str j=>obtain⟨t',rfl⟩:=ry;exact eq_str (zb5 I q zy1)
  | _=>exact absurd (show false=true from hs) Zi8
 | byt i =>
  obtain⟨t,rfl⟩:=rx
  cases y with
  | byt j=>obtain⟨t',rfl⟩:=ry;exact PySem.W.eq_bytes (zb5 I q zwv)
  | _=>exact absurd (show false=true from hs) Zi8
 | _=>cases y <;> exact absurd (show false=true from hs) Zi8
theorem zn9:OpR X (Zle .NotEq) rNe:=by
 intro pins s O H x y v u Q I rx ry h
 obtain⟨hs,q⟩:=h
 cases x with
 | non =>
  cases rx
  cases y with
  | non=>cases ry;exact Zur (zb5 I q (by simp))
  | bl j=>cases ry;exact Zut (zb5 I q (by simp))
  | int j=>obtain⟨t',rfl⟩:=ry;exact Zus (zb5 I q (by simp))
  | str j=>obtain⟨t',rfl⟩:=ry;exact Zuq (zb5 I q (by simp))
  | _=>exact absurd (show false=true from hs) Zi8
 | bl i =>
  cases rx
  cases y with
  | non=>cases ry;exact Zuv (zb5 I q (by simp))
  | bl j=>cases ry;exact ne_bool (zb5 I q (congrArg not ycu))
  | str j=>obtain⟨t',rfl⟩:=ry;exact Zt7 (zb5 I q (by simp))
  | _=>exact absurd (show false=true from hs) Zi8
 | int i =>
  obtain⟨t,rfl⟩:=rx
  cases y with
  | non=>cases ry;exact Zuu (zb5 I q (by simp))
  | int j=>obtain⟨t',rfl⟩:=ry;exact ne_int (zb5 I q (congrArg not zx7))
  | str j=>obtain⟨t',rfl⟩:=ry;exact Zt6 (zb5 I q (by simp))
  | _=>exact absurd (show false=true from hs) Zi8
 | str i =>
  obtain⟨t,rfl⟩:=rx
  cases y with
  | non=>cases ry;exact Zup (zb5 I q (by simp))
  | bl j=>cases ry;exact Zt5 (zb5 I q (by simp))
  | int j=>obtain⟨t',rfl⟩:=ry;exact Zt4 (zb5 I q (by simp))
  | str j=>obtain⟨t',rfl⟩:=ry;exact ne_str (zb5 I q (congrArg not zy1))
  | _=>exact absurd (show false=true from hs) Zi8
 | byt i =>
  obtain⟨t,rfl⟩:=rx
  cases y with
  | byt j=>obtain⟨t',rfl⟩:=ry;exact PySem.W.ne_bytes (zb5 I q (congrArg not zwv))
  | _=>exact absurd (show false=true from hs) Zi8
 | _=>cases y <;> exact absurd (show false=true from hs) Zi8
theorem zkp:OpR X (Zle .Lt) (rI0 fun i j=>.bl (decide (i<j))):=opB0 fun _ _ _ _ _ _ _ q=>lt_int q
theorem zvh:OpR X (Zle .LtE) (rI0 fun i j=>.bl (decide (i<=j))):=opB0 fun _ _ _ _ _ _ _ q=>le_int q
theorem zlf:OpR X (Zle .Gt) (rI0 fun i j=>.bl (decide (j<i))):=opB0 fun _ _ _ _ _ _ _ q=>gt_int q
theorem zvu:OpR X (Zle .GtE) (rI0 fun i j=>.bl (decide (j<=i))):=opB0 fun _ _ _ _ _ _ _ q=>ge_int q
theorem zau(b:Expr){op:Ztc}(h:op ≠ .In:=by decide)(h2:op ≠ .NotIn:=by decide):Zno op b=false:=by
 have e1:(op == CmpOp.In)=false:=by cases op <;> first | rfl | exact absurd rfl h
 have e2:(op == CmpOp.NotIn)=false:=by cases op <;> first | rfl | exact absurd rfl h2
 cases b <;> simp[Zno,e1,e2]
theorem zbc{op:Ztc}{r:R2}(ho:OpR X (Zle op) r)(ha:PE X a ta)(hb:PE X b tb)(hm:Zno op b=false):PE X (.Compare a [op] [b] pos) (tOp r ta tb):=by
 intro pins s O H Q I h
 exact Zvk (binT ha hb I h fun v u s2 x y H2 I2 rx ry q=>ho pins s2 O H2 x y v u Q I2 rx ry q) hm
noncomputable def ygm(t:TE):TT:=fun O H Q=>t O H fun x H'=>∃k,x= .bl k/\Q k H'
theorem zaw{op:Ztc}{r:R2}(ho:OpR X (Zle op) r)(ha:PE X a ta)(hb:PE X b tb)(hm:Zno op b=false):PT X (.Compare a [op] [b] pos) (ygm (tOp r ta tb)):=by
 intro pins s O H Q I h
 refine Zsr (thn (ha pins s O H _ I h) fun v s1 ⟨x,H1,I1,r1,q1⟩=>thn (hb pins s1 O H1 _ I1 q1) fun u s2 ⟨y,H2,I2,r2,q2⟩ =>
  thn (ho pins s2 O H2 x y v u _ I2 r1 r2 q2) fun c s3 ⟨z,H3,I3,r3,k,e,q3⟩=>?_) hm
 subst e
 cases r3
 exact Zkt ⟨H3,I3,q3⟩
noncomputable def ycr(r r':R2)(ta tb tc:TE):TE:=fun O H Q=>ta O H fun x H1=>tb O H1 fun y H2=>r x y H2 fun z H3=>∃k,z= .bl k /\
 (if k=true then tc O H3 fun w' H4=>r' y w' H4 Q else Q (.bl false) H3)
theorem yb1{op op':Ztc}{r r':R2}(ho:OpR X (Zle op) r)(ho':OpR X (Zle op') r')(ha:PE X a ta)(hb:PE X b tb)(hc:PE X c tc)
  (hm:lastMarks [op,op'] [b,c]=false:=by with_unfolding_all rfl):PE X (.Compare a [op,op'] [b,c] pos) (ycr r r' ta tb tc):=by
 intro pins s O H Q I h
 refine Compare_chain (thn (ha pins s O H _ I h) fun v s1 ⟨x,H1,I1,r1,q1⟩=>chain_link (thn (hb pins s1 O H1 _ I1 q1) fun u s2 ⟨y,H2,I2,r2,q2⟩ =>
  thn (ho pins s2 O H2 x y v u _ I2 r1 r2 q2) fun d s3 ⟨z,H3,I3,r3,k,e,q3⟩=>?_)) hm
 subst e
 cases r3
 refine Zkt ?_
 cases k with
 | false=>exact ite_ff ⟨.bl false,H3,I3,rfl,q3⟩
 | true=>exact ite_tt (chain_last (thn (hc pins s3 O H3 _ I3 q3) fun w' s4 ⟨z',H4,I4,r4,q4⟩=>ho' pins s4 O H4 y z' u w' Q I4 r2 r4 q4))
theorem zxt:(sizeLine:Nat)<2 ^ 63:=by rw[Ziv];decide
theorem zht{x:V}{us:List Value}(r:Vals [x] us):∃u,us=[u]/\RelV x u:=by
 cases r with
 | cons r1 r2=>cases r2;exact⟨_,rfl,r1⟩
theorem zq2{x y:V}{us:List Value}(r:Vals [x,y] us):∃u w',us=[u,w']/\RelV x u/\RelV y w':=by
 cases r with
 | cons r1 r2 =>
  cases r2 with
  | cons r3 r4=>cases r4;exact⟨_,_,rfl,r1,r3⟩
theorem zhp:zcm X (.builtin "abs") (fun xs H Q=>∃i,xs=[.int i]/\Q (.int (if i<0 then -i else i)) H):=by
 intro pins s O H xs us Q I r h
 obtain⟨i,rfl,q⟩:=h
 obtain⟨u,rfl,t,rfl⟩:=zht r
 exact call_abs_int fun u tk=>⟨.int (if i<0 then -i else i),H,I.tok _,⟨_,rfl⟩,q⟩
theorem zj5(hc:X.calm=true):zcm X (.builtin "max") (fun xs H Q=>∃i j,xs=[.int i,.int j]/\Q (.int (if j>i then j else i)) H):=by
 intro pins s O H xs us Q I r h
 obtain⟨i,j,rfl,q⟩:=h
 obtain⟨u,w',rfl,⟨t,rfl⟩,⟨t',rfl⟩⟩:=zq2 r
 refine max_two_ints (I.ok.hd hc) fun h' tk k=>⟨_,H,I.kept k,?_,q⟩
 by_cases hj:j>i
 .rw[if_pos hj,if_pos hj];exact⟨_,rfl⟩
 .rw[if_neg hj,if_neg hj];exact⟨_,rfl⟩
theorem zmp(hc:X.calm=true):zcm X (.builtin "min") (fun xs H Q=>∃i j,xs=[.int i,.int j]/\Q (.int (if j<i then j else i)) H):=by
 intro pins s O H xs us Q I r h
 obtain⟨i,j,rfl,q⟩:=h
 obtain⟨u,w',rfl,⟨t,rfl⟩,⟨t',rfl⟩⟩:=zq2 r
 refine min_two_ints (I.ok.hd hc) fun h' tk k=>⟨_,H,I.kept k,?_,q⟩
 by_cases hj:j<i
 .rw[if_pos hj,if_pos hj];exact⟨_,rfl⟩
 .rw[if_neg hj,if_neg hj];exact⟨_,rfl⟩
theorem zzv:zcm X (.type "int") (fun xs H Q=>(∃i,xs=[.int i]/\Q (.int i) H) \/ ∃k,xs=[.bl k]/\Q (.int (if k then 1 else 0)) H):=by
 intro pins s O H xs us Q I r h
 rcases h with ⟨i,rfl,q⟩ | ⟨k,rfl,q⟩
 .obtain⟨u,rfl,t,rfl⟩:=zht r
  exact call_int_int ⟨.int i,H,I,⟨_,rfl⟩,q⟩
 .obtain⟨u,rfl,r1⟩:=zht r
  cases r1
  exact call_int_bool ⟨.int (if k then 1 else 0),H,I.tok _,⟨_,rfl⟩,q⟩
end
structure ObjM(h:Heap)(x dx C:Addr)(mA:Str->Option Value):Prop where
 obj:h.get? x=some (Zsa C dx)
 ns:h.Ns1 dx mA
 ne:dx≠x
section
variable{prog:Zjj}{w:Zkq}{A:Zjs}{E:Value->Zih->Prop}{s:Zih}{K:Zh7}{x dx C f:Addr}{mA:Str->Option Value}{name:Str}{v:Value}
end
theorem RelO.some_of{v:V}{o:Option Value}(r:RelO (some v) o):∃u,o=some u/\RelV v u:=by
 cases o with
 | none=>exact(show False from r).elim
 | some u=>exact⟨u,rfl,r⟩
structure Cls(K:Zh7)(C:Addr):Prop where
 pg:PySem.W.plainGet K C Str.empty=true
 hd:PySem.W.hasDictIn K C=true
 po:PySem.W.plainOver K C=true
 sa:Znk K (.ref C) "__setattr__" = some (some (.builtin "object.__setattr__"))
structure Con(K:Zh7)(C:Addr)(f:Str)(v:V)(u:Value):Prop where
 at_:Znk K (.ref C) f=some (some u)
 rel:RelV v u
 get:Zru K u "__get__" = some none
 cp:PySem.W.copiedNames.contains f=false
structure Meth(K:Zh7)(C:Addr)(m:Str)(f:Addr):Prop where
 at_:Znk K (.ref C) m=some (some (.ref f))
 fn:Zqy K (.ref f)=true
 kp:Zl7 K (.ref f)=true
section
variable{X:Cx}{pins:List (Addr×Obj)}{O:St}{H:Hp}{s:Zih}{a C dx:Addr}{fs:List (Str×V)}{f:Str}{v:V}{A:Zjs}{E:Value->Zih->Prop}
end
section
variable{X:Cx}{pins:List (Addr×Obj)}{O:St}{H:Hp}{s:Zih}{A:Zjs}{E:Value->Zih->Prop}{Q:Value->Zih->Prop}{c:Value}{b:Bool}
inductive TyOf(K:Zh7)(H:Hp):V->Value->Prop where
 | non:TyOf K H .non (.type "NoneType")
 | bl (x:Bool):TyOf K H (.bl x) (.type "bool")
 | int (i:Int):TyOf K H (.int i) (.type "int")
 | str (x:Str):TyOf K H (.str x) (.type "str")
 | flt (x:UInt64):TyOf K H (.flt x) (.type "float")
 | lst {a:Addr} {xs:List V} (e:H a=some (.lst xs)):TyOf K H (.ref a) (.type "list")
 | frz {a:Addr} {o:Obj} {xs:List V} (e:H a=some (.frz o (.lst xs))):TyOf K H (.ref a) (.type "list")
 | tup {a:Addr} {xs:List V} (e:H a=some (.tup xs)):TyOf K H (.ref a) (.type "tuple")
 | dK {a:Addr} {kvs:List (Key×V)} (e:H a=some (.dK kvs)):TyOf K H (.ref a) (.type "dict")
 | dT {a:Addr} {kvs:List (List Key×V)} (e:H a=some (.dT kvs)):TyOf K H (.ref a) (.type "dict")
 | ins {a C dx:Addr} {fs:List (Str×V)} (e:H a=some (.ins C dx fs)) (cl:Cls K C) (ha:Znk K (.ref C) "__class__" = some (some (.builtin "object.__class__")))
   (hn:Zru K (.builtin "object.__class__") "__get__" = some (some (.builtin "getset_descriptor.__get__"))) (htk:PySem.W.takesIn K (.builtin "object.__class__")=some true)
   (hm:PySem.W.mroIn K C (.type "object")=some true):TyOf K H (.ref a) (.ref C)
end
structure Room(k:Nat)(A:Zjs):Prop where
 hd:A.handled=none
 dp:A.depth+3*k+5<Zrs
 un:A.units+16*k+200<Zon
 gd:A.guards=some []
theorem Room.mono{j k:Nat}{A:Zjs}(r:Room k A)(h:j<=k):Room j A:=⟨r.hd,by have:=r.dp;omega,by have:=r.un;omega,r.gd⟩
theorem Room.deeper{k:Nat}{A:Zjs}(r:Room (k+1) A)(env:Env):Room k (A.deeper env) :=
 ⟨r.hd,by have:=r.dp;show A.depth+1+3*k+5<_;omega,by have:=r.un;show A.units+3+16*k+200<_;omega,r.gd⟩
theorem Room.in1{k:Nat}{A:Zjs}(r:Room (k+1) A):Room k A.in1 :=
 ⟨r.hd,by have:=r.dp;show A.depth+3*k+5<_;omega,by have:=r.un;show A.units+1+16*k+200<_;omega,r.gd⟩
theorem Room.depth{k:Nat}{A:Zjs}(r:Room k A):A.depth<Zrs:=by have:=r.dp;omega
theorem Room.units{k:Nat}{A:Zjs}(r:Room k A):A.units+64<Zon:=by have:=r.un;omega
noncomputable def tNil:TA:=fun _ H Q=>Q [] H
noncomputable def za7(ta:TE)(tr:TA):TA:=fun O H Q=>ta O H fun x H1=>tr O H1 fun xs H2=>Q (x::xs) H2
section
variable{X:Cx}{e:Expr}{es:List Expr}{te:TE}{t:TA}{pos:Pos}
theorem zae:PA X [] tNil:=fun _ _ _ _ H Q I h=>Zph ⟨[],H,I,.nil,h⟩
theorem zab(ha:PE X e te)(hr:PA X es t)(hs:Zj2 (e::es) X.env=(false,eval e X.env)::Zj2 es X.env:=by rfl):PA X (e::es) (za7 te t):=by
 intro pos pins s O H Q I h
 rw[hs]
 show Zjd _ _ (spliced ((false,eval e X.env)::Zov pos (Zj2 es X.env))) _ _ s
 refine Znn (thn (ha pins s O H _ I h) fun u s1 hz9=>?_)
 obtain⟨x,H1,I1,r1,q1⟩:=hz9
 refine thn (hr pos pins s1 O H1 _ I1 q1) fun us s2 hz9=>?_
 obtain⟨xs,H2,I2,r2,q2⟩:=hz9
 exact⟨x::xs,H2,I2,.cons r1 r2,q2⟩
noncomputable def tTup(t:TA):TE:=fun O H Q=>t O H fun xs H1=>xs.length<=sizeLine /\ ∀p,H1 p=none->Q (.ref p) (upd H1 p (.tup xs))
noncomputable def tLst(t:TA):TE:=fun O H Q=>t O H fun xs H1=>xs.length<=sizeLine /\ ∀p,H1 p=none->Q (.ref p) (upd H1 p (.lst xs))
theorem zbz{x1}(h:PA X es t):PE X (.Tuple es x1 pos) (tTup t):=by
 intro pins s O H Q I hq
 refine wpAny_Tuple_spliced (thn (h pos pins s O H _ I hq) fun us s1 ⟨xs,H1,I1,r,z,q⟩=>⟨by rw[<- r.length];exact z,?_⟩)
 have hf:H1 s1.heap.objs.size=none:=I1.hok.fresh (Zio _)
 refine⟨.ref s1.heap.objs.size,upd H1 s1.heap.objs.size (.tup xs),I1.laid (t':=s1.toks) (fun b u e=>Zim _ e) (Zio _) ?_,rfl,q _ hf⟩
 exact⟨z,us,r,⟨_,Zi1 _ rfl,rfl,_,rfl⟩⟩
theorem zca(h:PA X es t):PE X (.List es pos) (tLst t):=by
 intro pins s O H Q I hq
 refine wpAny_List_spliced (thn (h pos pins s O H _ I hq) fun us s1 ⟨xs,H1,I1,r,z,q⟩=>⟨by rw[<- r.length];exact z,?_⟩)
 have hf:H1 s1.heap.objs.size=none:=I1.hok.fresh (Zio _)
 refine⟨.ref s1.heap.objs.size,upd H1 s1.heap.objs.size (.lst xs),I1.laid (t':=s1.toks) (fun b u e=>Zim _ e) (Zio _) ?_,rfl,q _ hf⟩
 exact⟨z,us,0,r,Zi1 _ rfl⟩
end
noncomputable abbrev Sp:=List V->Hp->VK->XK->Prop
noncomputable abbrev CXT:=List Env->Hp->Zih->XK->Value->Zih->Prop
structure Env0(P:Zjj)(w:Zkq)(K:Zh7)(mg:Str->Option Value)(base:Heap)(A:Zjs)(outer:List Env)(s:Zih)(H:Hp):Prop where
 frames:A.frames=some outer
 mod:Mod K mg base
 bs:∀b o,base.get? b=some o->s.heap.get? b=some o/\H b=none
 bsz:base.objs.size<=s.heap.objs.size
 funs:s.heap.FunFrames base outer
 frf:∀b∈frs outer,H b=none
 hok:HOk P w H s.heap
 bare:Zpq s.gens
noncomputable def CE(outer:List Env)(P:Zjj)(w:Zkq)(H:Hp)(s:Zih)(Q:VK)(u:Value)(s':Zih):Prop :=
 ∃v H',s'.os=s.os/\Zpq s'.gens/\Un (frs outer) [] H H' s.heap s'.heap/\HOk P w H' s'.heap/\RelV v u/\Q v H'
noncomputable def CR(CX:CXT)(outer:List Env)(P:Zjj)(w:Zkq)(H:Hp)(s:Zih)(Q:VK)(E:XK)(r:Result)(s':Zih):Prop :=
 match r with
 | .ok (.ret u)=>CE outer P w H s Q u s'
 | .ok _=>False
 | .error e=>CX outer H s E e s'
structure FnOk(P:Zjj)(w:Zkq)(K:Zh7)(mg:Str->Option Value)(base:Heap)(CX:CXT)(k:Nat)(f:Addr)(fd:Zk9)(ps:List Str)(sp:Sp):Prop where
 len:∀vs H Q E,sp vs H Q E->vs.length=ps.length
 run:∀(A:Zjs) (outer:List Env) (s:Zih) (H:Hp) (args:Args) (us:List Value) (vs:List V) (Q:VK) (E:XK),Room k A->Env0 P w K mg base A outer s H->Zqp s fd args (ps.zip us)->Vals vs us->sp vs H Q E ->
  Zo6 (Zjx P w) A (.call (.ref f) args) (CR CX outer P w H s Q E) s
section
variable{X:Cx}{pins:List (Addr×Obj)}{O:St}{H:Hp}{s s':Zih}
theorem Inv.env0(I:Inv X pins O H s):Env0 X.prog X.w X.K X.mg X.base X.A X.stack s H :=
 ⟨I.ok.frames,I.ok.mod,I.bs,Zjb I.ok.bsz I.sz,I.stack,I.stkFree,I.hok,I.bare⟩
theorem Inv.after{Q:VK}{u:Value}(I:Inv X pins O H s)(h:CE X.stack X.prog X.w H s Q u s'):EP X pins O Q u s':=by
 obtain⟨v,H',os,bare,un,hok,r,q⟩:=h
 obtain⟨hh,g,d,t,os'⟩:=s'
 obtain rfl:os'=s.os:=os
 exact⟨v,H',I.call (h':=hh) (g':=g) (d':=d) (t':=t) (ch:=[]) un hok bare (fun b z=>absurd z (by simp)),r,q⟩
end
noncomputable def ze7(sp:Sp)(dvs:List V)(E:XK)(t:TA):TE:=fun O H Q=>t O H fun vs H1=>sp (vs++dvs) H1 Q E
noncomputable def zvq(K:Zh7)(fd:Zk9)(ps:List Str)(ds:List Value):Prop :=
 ∀(s:Zih) (us:List Value),K.In s.heap->(us++ds).length=ps.length->Zqp s fd ⟨us,[]⟩ (ps.zip (us++ds))
theorem zvq.all{K:Zh7}{fd:Zk9}{ps:List Str}(h:∀us:List Value,us.length=ps.length->Zob fd ⟨us,[]⟩=pure (ps.zip us)):zvq K fd ps []:=fun s us _ hl=>by
 rw[Zji] at hl ⊢
 exact .of_eq (h us hl)
noncomputable def zwi(CX:CXT)(X:Cx)(E:XK):Prop:=∀(pins:List (Addr×Obj)) (O:St) (H:Hp) (s:Zih) (e:Value) (s':Zih),Inv X pins O H s->CX X.stack H s E e s'->X.xe e s'
section
variable{X:Cx}{CX:CXT}{k:Nat}{f C:Addr}{fd:Zk9}{ps:List Str}{sp:Sp}{dvs:List V}{ds:List Value}{E:XK}{x m:Str}{p pos apos:Pos}{e o:Expr}{es:List Expr}{ta:TE}{t:TA}
theorem yg9{pins:List (Addr×Obj)}{O:St}{H:Hp}{s:Zih}{Q:VK}{us:List Value}{vs:List V}(F:FnOk X.prog X.w X.K X.mg X.base CX k f fd ps sp)(hr:Room k X.A)(hb:zvq X.K fd ps ds)(hd:Vals dvs ds)(hx:zwi CX X E)
  (I:Inv X pins O H s) (r:Vals vs us) (h:sp (vs++dvs) H Q E):Zjd (Zjx X.prog X.w) X.A (call (.ref f) us) (EP X pins O Q) X.xe s:=by
 have r2:Vals (vs++dvs) (us++ds):=r.append hd
 have hl:(us++ds).length=ps.length:=by rw[<- r2.length];exact F.len _ _ _ _ h
 refine wpAny_call (Zst (F.run X.A X.stack s H ⟨us,[]⟩ (us++ds) (vs++dvs) Q E hr I.env0 (hb s us I.kIn hl) r2 h) fun r s' hq=>?_)
 cases r with
 | error e=>exact hx pins O H s e s' I hq
 | ok fl =>
  cases fl with
  | ret u=>exact I.after hq
  | next=>exact Zmo hq
  | brk=>exact Zmo hq
  | cont=>exact Zmo hq
theorem yey(F:FnOk X.prog X.w X.K X.mg X.base CX k f fd ps sp)(hr:Room k X.A)(hg:Gl X x)(hm:X.mg x=some (.ref f))(hk:Zl7 X.K (.ref f)=true)(hb:zvq X.K fd ps ds)(hd:Vals dvs ds)(hx:zwi CX X E)
  (ha:PA X (e::es) t) (hdb:(x == ("__debug__" : Str))=false:=by decide) (he:Zj2 (e::es) X.env=(false,eval e X.env)::Zj2 es X.env:=by rfl) (hpl:(Zov pos (Zj2 es X.env)).any (·.1)=false:=by rfl) :
  PE X (.Call (.Name x p) (e::es) [] pos) (ze7 sp dvs E t):=by
 intro pins s O H Q I h
 refine Zm0 (zxz I hg hm ?_ hdb)
 refine PySem.W.callWith_K (h₀:=X.base) I.ok.mod.kin hk (thn (ha pos pins s O H _ I h) fun us s1 ⟨vs,H1,I1,r,q⟩=>⟨I1.kIn,?_⟩) he hpl
 exact yg9 F hr hb hd hx I1 r q
structure Mk(K:Zh7)(C f:Addr):Prop where
 makes:PySem.W.makesIn K C=true
 init:Znk K (.ref C) "__init__" = some (some (.ref f))
 fn:Zqy K (.ref f)=true
 kp:Zl7 K (.ref C)=true
end
noncomputable def PK(X:Cx)(kws:List Zqm)(t:TA):Prop :=
 ∀(pos:Pos) (pins:List (Addr×Obj)) (s:Zih) (O:St) (H:Hp) (Q:List V->Hp->Prop),Inv X pins O H s->t O H Q->Zjd (Zjx X.prog X.w) X.A (evalAll ((Zq6 pos (Zom kws X.env)).map (·.2))) (AP X pins O Q) X.xe s
section
variable{X:Cx}{CX:CXT}{k:Nat}{f C:Addr}{fd:Zk9}{ps ks:List Str}{sp:Sp}{E:XK}{x m:Str}{p pos apos kpos:Pos}{e o:Expr}{es:List Expr}{kws:List Zqm}{te ta:TE}{t tk:TA}{nm:Option Str}
theorem yhq:PK X [] tNil:=fun _ _ _ _ H Q I h=>Ztr ⟨[],H,I,.nil,h⟩
theorem yfu(ha:PE X e te)(hr:PK X kws t):PK X (⟨nm,e,kpos⟩::kws) (za7 te t):=by
 intro pos pins s O H Q I h
 show Zjd _ _ (evalAll ((do let v <- eval e X.env;standAt pos;pure v)::(Zq6 pos (Zom kws X.env)).map (·.2))) _ _ s
 refine Ztd (Zib (thn (ha pins s O H _ I h) fun u s1 ⟨x,H1,I1,r1,q1⟩=>Zib (Zpu (Ziu ?_))))
 refine thn (hr pos pins s1 O H1 _ I1 q1) fun us s2 hz9=>?_
 obtain⟨xs,H2,I2,r2,q2⟩:=hz9
 exact⟨x::xs,H2,I2,.cons r1 r2,q2⟩
structure KBinds(K:Zh7)(fd:Zk9)(ps ks:List Str)(g:List Value->List Value->List Value)(gV:List V->List V->List V):Prop where
 to:∀(s:Zih) (us ws:List Value),K.In s.heap->(g us ws).length=ps.length->Zqp s fd ⟨us,ks.zip ws⟩ (ps.zip (g us ws))
 rel:∀{vs:List V} {us:List Value} {zs:List V} {ws:List Value},Vals vs us->Vals zs ws->Vals (gV vs zs) (g us ws)
variable{g:List Value->List Value->List Value}{gV:List V->List V->List V}
end
structure FnScope(N P:List Str)(sc:Scope):Prop where
 kind:sc.kind= .function
 co:sc.isCoroutine=false
 gen:sc.isGenerator=false
 nd:N.Nodup
 pre:N.take P.length=P
 par:∀x∈P,sc.names.lookup x=some .local\/sc.names.lookup x=some .cell
 nofree:∀y∈sc.names,y.2 ≠ .free
theorem zqx{kindOf:Str->Option Zjp}{x:Str}:∀{binds:List (Str×Value)} {m:Str->Option Value},(∀v,(x,v)∉binds)->Zt0 kindOf binds m x=m x
 | [],_,_=>rfl
 | (n,v)::r,m,h=>by
  unfold Zt0
  rw[zqx fun w hw=>h w (Zij _ hw)]
  split
  .have:x≠n:=by rintro rfl;exact h v Zil
   simp[this]
  .rfl
theorem zq3{kindOf:Str->Option Zjp}{x:Str}:∀{binds:List (Str×Value)} {m:Str->Option Value},(∀v,(x,v)∉binds)->Zt1 kindOf binds m x=m x
 | [],_,_=>rfl
 | (n,v)::r,m,h=>by
  unfold Zt1
  rw[zq3 fun w hw=>h w (Zij _ hw)]
  split
  .rfl
  .have:x≠n:=by rintro rfl;exact h v Zil
   simp[this]
theorem zrj{kindOf:Str->Option Zjp}{x:Str}{v:Value}:∀{P:List Str} {vs:List Value} {i:Nat} {m:Str->Option Value},P.Nodup->P[i]? = some x->vs[i]? = some v->kindOf x=some .local ->
  Zt0 kindOf (P.zip vs) m x=some v
 | [],_,_,_,_,h,_,_=>by simp at h
 | _::_,[],_,_,_,_,h,_=>by simp at h
 | p::P,w::vs,0,m,nd,h1,h2,hk=>by
  simp at h1 h2;subst h1;subst h2
  show Zt0 kindOf ((p,w)::P.zip vs) m p=_
  unfold Zt0
  rw[zqx fun v hv=>(Zj6.mp nd).1 (Zp3 hv).1,if_pos hk]
  simp
 | p::P,w::vs,i+1,m,nd,h1,h2,hk=>by
  show Zt0 kindOf ((p,w)::P.zip vs) m x=_
  unfold Zt0
  exact zrj (i:=i) (Zj6.mp nd).2 (by simpa using h1) (by simpa using h2) hk
theorem zrd{kindOf:Str->Option Zjp}{x:Str}{v:Value}:∀{P:List Str} {vs:List Value} {i:Nat} {m:Str->Option Value},P.Nodup->P[i]? = some x->vs[i]? = some v->kindOf x≠some .local ->
  Zt1 kindOf (P.zip vs) m x=some v
 | [],_,_,_,_,h,_,_=>by simp at h
 | _::_,[],_,_,_,_,h,_=>by simp at h
 | p::P,w::vs,0,m,nd,h1,h2,hk=>by
  simp at h1 h2;subst h1;subst h2
  show Zt1 kindOf ((p,w)::P.zip vs) m p=_
  unfold Zt1
  rw[zq3 fun v hv=>(Zj6.mp nd).1 (Zp3 hv).1,if_neg hk]
  simp
 | p::P,w::vs,i+1,m,nd,h1,h2,hk=>by
  show Zt1 kindOf ((p,w)::P.zip vs) m x=_
  unfold Zt1
  exact zrd (i:=i) (Zj6.mp nd).2 (by simpa using h1) (by simpa using h2) hk
noncomputable def zfe(N:List Str)(vs:List V):St:=vs.map some++Zoz (N.length - vs.length) none
noncomputable def cxOf(CX:CXT)(P:Zjj)(w:Zkq)(K:Zh7)(mg:Str->Option Value)(base:Heap)(N:List Str)(qual:Str)(scope:Scope)(f:Addr)(cd:Value)(A:Zjs)(outer:List Env)(s:Zih)(H:Hp)(E:XK):Cx where
 prog:=P
 w:=w
 K:=K
 mg:=mg
 base:=base
 A:=A.deeper (Znh qual scope s.heap.objs.size f cd)
 N:=N
 s₀:=s
 Hz:=H
 env:=Znh qual scope s.heap.objs.size f cd
 outer:=outer
 stack:=Znh qual scope s.heap.objs.size f cd::outer
 ex:=[]
 calm:=true
 fn:=fun _=>true
 pn:=[]
 xe:=fun e s'=>Zjd (Zjx P w) (A.deeper (Znh qual scope s.heap.objs.size f cd)) (leaving (Znh qual scope s.heap.objs.size f cd) e) (fun _ s''=>CX outer H s E e s'') (fun e' s''=>CX outer H s E e' s'') s'
theorem zug{sc:Scope}{n:Nat}{x:Str}(h:sc.names.lookup x=some .cell):∃c,(Zve n sc.names []).lookup x=some c:=by
 have q:=Zqr sc.names n [] (.inl h)
 exact Zka.mp q
theorem zwu{CX:CXT}{P:Zjj}{w:Zkq}{K:Zh7}{mg:Str->Option Value}{base:Heap}{N ps:List Str}{qual:Str}{scope:Scope}{f:Addr}{cd:Value}{A:Zjs}{outer:List Env}{s s1:Zih}{H:Hp}{E:XK}{us:List Value}{vs:List V}
  (S:FnScope N ps scope) (hd:A.handled=none) (e0:Env0 P w K mg base A outer s H) (hl:vs.length=ps.length) (r:Vals vs us)
  (x:InCallC s s.heap.objs.size (Zt0 (Znh qual scope s.heap.objs.size f cd).kindOf (ps.zip us) fun _=>none) (Zve (s.heap.objs.size+1) scope.names []) (Zt1 (Znh qual scope s.heap.objs.size f cd).kindOf (ps.zip us) fun _=>none) s1) :
  Inv (cxOf CX P w K mg base N qual scope f cd A outer s H E) [] (zfe N vs) H s1:=by
 have hpl:ps.length<=N.length:=by have:=congrArg Zp7 S.pre;rw[Zjc] at this;omega
 obtain⟨h1,tk,rfl,hk⟩:=x.done
 have noA:∀b:Addr,b∉(cxOf CX P w K mg base N qual scope f cd A outer s H E).ex:=fun b z=>absurd (show b∈([]:List Addr) from z) (by simp)
 refine⟨⟨e0.mod,S.kind,rfl,rfl,Zio _,fun y z c h1 h2=>?_,fun y hy=>?_,fun y c _ h=>?_,fun _=>hd,Zro e0.frames,.inr ⟨rfl,rfl⟩,fun b z=>absurd z (noA b),e0.bs,e0.bsz,fun b _ _=>noA b,fun b z=>absurd z (noA b),e0.funs,e0.frf⟩,
  rfl,e0.bare,Un.kept hk,⟨_,x.toInCall.ns,fun i y v h1 h2 h3=>?_⟩,fun y c h=>⟨_,x.cell y c h⟩,e0.hok.fresh (Zio _),fun y c h=>?_,fun p hp=>absurd (show p∈([]:List (Addr×Obj)) from hp) (by simp),e0.hok.kept hk,?_⟩
 .exact name_of_addr x.apart (Zk2 h1) (Zk2 h2)
 .have hy:scope.names.lookup y=some .cell\/scope.names.lookup y=some .free:=hy
  rcases hy with hy | hy
  .exact zug hy
  .exact absurd rfl (S.nofree _ (Zk2 hy))
 .exact Zl4 (x.above y c (Zk2 h))
 .have hi:i<vs.length:=by
   unfold zfe at h2
   by_cases hi:i<vs.length
   .exact hi
   .rw[Zjq (by simpa using hi)] at h2
    rw[Zmr] at h2
    split at h2 <;> cases h2
  have ha:vs[i]? = some v:=by
   unfold zfe at h2
   rw[Zj1 (by simpa using hi),Zie] at h2
   cases e:vs[i]? with
   | none=>rw[e] at h2;cases h2
   | some a=>rw[e] at h2;cases h2;rfl
  obtain⟨u,hu,rv⟩:=r.get ha
  have hp:ps[i]? = some y:=by
   rw[<- S.pre,List.getElem?_take_of_lt (by omega)];exact h1
  have ndP:ps.Nodup:=by rw[<- S.pre];exact S.nd.sublist (Zsk _ _)
  refine⟨u,rv,?_⟩
  rcases S.par y (Zii hp) with k | k
  .exact .inl ⟨k,zrj ndP hp hu k⟩
  .obtain⟨c,e⟩:=zug (n:=s.heap.objs.size+1) k
   refine .inr ⟨.inl k,c,e,?_⟩
   have q:=x.cell y c e
   rw[zrd ndP hp hu (by show scope.names.lookup y≠_;rw[k];decide)] at q
   exact q
 .exact e0.hok.fresh (Zl4 (x.above y c (Zk2 h)))
 .unfold zfe
  show _=N.length
  rw[Zis,Zia,Zm6]
  omega
theorem yg4{CX:CXT}{P:Zjj}{w:Zkq}{K:Zh7}{mg:Str->Option Value}{base:Heap}{k:Nat}{f:Addr}{name qual:Str}{params:Zrp}{body:List Stmt}{scope:Scope}{dV kV doc pm cdv ct oc:Value}{an od:Option Addr}
  {osl:Array (Option Value)} {N ps:List Str} {sp:Sp} (lk:K.lookup f=some ⟨oc,od,.func (Zkv name qual params body scope dV kV doc pm an cdv ct),osl⟩) (hcd:Zoj K cdv qual=true) (S:FnScope N ps scope)
  (len:∀vs H Q E,sp vs H Q E->vs.length=ps.length)
  (hbody:∀(A:Zjs) (outer:List Env) (s:Zih) (H:Hp) (vs:List V) (Q:VK) (E:XK),Room k (A.deeper (Znh qual scope s.heap.objs.size f cdv))->sp vs H Q E ->
   ∃t,PSs (cxOf CX P w K mg base N qual scope f cdv A outer s H E) body t/\t { nx:=fun _ H'=>Q .non H',rt:=Q } (zfe N vs) H) :
  FnOk P w K mg base CX (k+1) f (Zkv name qual params body scope dV kV doc pm an cdv ct) ps sp:=by
 refine⟨len,fun A outer s H args us vs Q E hr e0 hb r hsp=>?_⟩
 have hl:=len _ _ _ _ hsp
 have KX:K.In s.heap:=e0.mod.kin.keeps fun b o e=>(e0.bs b o e).1
 have lim:s.heap.NoLimit:=e0.mod.nolimit.keeps fun b o e=>(e0.bs b o e).1
 have hkind:∀y∈ps.zip us,scope.names.lookup y.1=some .local\/(scope.names.lookup y.1=some .cell/\((Zve (s.heap.objs.size+1) scope.names []).lookup y.1).isSome=true):=fun⟨n,v⟩ hy=>by
  rcases S.par n (Zp3 hy).1 with q | q
  .exact .inl q
  .exact .inr ⟨q,Zqr _ _ _ (.inl q)⟩
 refine codeAny_call_function hr.depth (KX _ _ lk) rfl S.co S.gen rfl (PySem.W.codeRec_of KX hcd) (hb _ _ _ _ ?_)
 refine wpAny_newFunctionEnv_cells S.kind hkind fun env he s1 x=>?_
 subst he
 refine⟨lim.keeps x.toInCall.keep,codeAny_func ?_⟩
 obtain⟨t,ht,hq⟩:=hbody A outer s H vs Q E (hr.deeper _) hsp
 have I:Inv (cxOf CX P w K mg base N qual scope f cdv A outer s H E) [] (zfe N vs) H s1:=zwu S hr.hd e0 hl r x
 refine Zk5 (ht [] s1 (zfe N vs) H _ I hq) (fun fl s' hs=>?_) fun e s' hs=>hs
 have fin:∀{O':St} {H':Hp} {v:V} {u:Value},Inv (cxOf CX P w K mg base N qual scope f cdv A outer s H E) [] O' H' s'->RelV v u->Q v H'->CE outer P w H s Q u s' :=
  fun {O' H' v u} J rv q=>⟨v,H',J.os,J.bare,J.base,J.hok,rv,q⟩
 cases fl with
 | ret u =>
  obtain⟨v,O',H',J,rv,q⟩:=hs
  exact fin J rv q
 | next =>
  obtain⟨O',H',J,q⟩:=hs
  exact fin (v:=V.non) (u:=Zqq) J rfl q
 | brk =>
  obtain⟨_,_,_,q⟩:=hs
  exact Zmo q
 | cont =>
  obtain⟨_,_,_,q⟩:=hs
  exact Zmo q
section
variable{X:Cx}{x:Str}{p pos:Pos}{e:Expr}{es:List Expr}{t:TA}{id T:String}{r:List V->Hp->VK->Prop}
noncomputable def tCB(r:List V->Hp->VK->Prop)(t:TA):TE:=fun O H Q=>t O H fun vs H1=>r vs H1 Q
theorem zat(hc:zcm X (.builtin id) r)(hg:Gl X x)(hm:X.mg x=none)(hv:Zni x=some (.builtin id))(ha:PA X (e::es) t)(hn:x ≠ "__name__" := by decide)(hdb:(x == ("__debug__" : Str))=false:=by decide)
  (he:Zj2 (e::es) X.env=(false,eval e X.env)::Zj2 es X.env:=by rfl) (hpl:(Zov pos (Zj2 es X.env)).any (·.1)=false:=by rfl):PE X (.Call (.Name x p) (e::es) [] pos) (tCB r t):=by
 intro pins s O H Q I h
 refine Zm0 (zjk I hg hm hv ?_ hn hdb)
 exact Zu3 (thn (ha pos pins s O H _ I h) fun us s1 ⟨vs,H1,I1,r1,q1⟩=>hc pins s1 O H1 vs us Q I1 r1 q1) he hpl
theorem zde(hc:zcm X (.type T) r)(hg:Gl X x)(hm:X.mg x=none)(hv:Zni x=some (.type T))(ha:PA X (e::es) t)(hn:x ≠ "__name__" := by decide)(hdb:(x == ("__debug__" : Str))=false:=by decide)
  (he:Zj2 (e::es) X.env=(false,eval e X.env)::Zj2 es X.env:=by rfl) (hpl:(Zov pos (Zj2 es X.env)).any (·.1)=false:=by rfl):PE X (.Call (.Name x p) (e::es) [] pos) (tCB r t):=by
 intro pins s O H Q I h
 refine Zm0 (zjk I hg hm hv ?_ hn hdb)
 exact Zkn (thn (ha pos pins s O H _ I h) fun us s1 ⟨vs,H1,I1,r1,q1⟩=>hc pins s1 O H1 vs us Q I1 r1 q1) he hpl
end
end L2
namespace HT
open PySem PyProof.Rows
section
open PySem.SeqAt
open PySem.AutoSeq1 (wpAny_loadPart')
open PySem.MeetsSeq PySem.MeetsSeq2 PySem.MeetsSeq3
end
section
variable{prog:Zjj}{w:Zkq}{A:Zjs}{E:Value->Zih->Prop}{s:Zih}
noncomputable def sIx(n d:Nat):Option Int->Nat
 | none=>d
 | some v=>if v<0 then (v+(n:Int)).toNat else min v.toNat n
end
end HT
namespace L2
open PySem PySem.Spec PyProof.Rows
noncomputable abbrev TO:=St->Hp->(Option Int->Hp->Prop)->Prop
noncomputable def PO(X:Cx)(e:Option Expr)(t:TO):Prop :=
 ∀(pins:List (Addr×Obj)) (s:Zih) (O:St) (H:Hp) (Q:Option Int->Hp->Prop),Inv X pins O H s->t O H Q ->
  Zjd (Zjx X.prog X.w) X.A (evalPart e X.env) (fun u s'=>∃o H',Inv X pins O H' s'/\IsPart u o/\Q o H') X.xe s
noncomputable def zxa:TO:=fun _ H Q=>Q none H
noncomputable def yh8(t:TE):TO:=fun O H Q=>t O H fun x H1=>∃i,x= .int i/\Q (some i) H1
theorem zv6{ns:List Int}:∀{us:List Value},Vals (ns.map V.int) us->Zrl us ns:=by
 induction ns with
 | nil=>intro us r;rw[Zk4] at r;cases r;exact .nil
 | cons n ns ih =>
  intro us r
  rw[Zik] at r
  cases r with
  | cons r1 r2 =>
   obtain⟨t,e⟩:=r1
   subst e
   exact .cons n t (ih r2)
section
variable{X:Cx}{e:Expr}{te:TE}{lo hi:Option Expr}{tl th:TO}{pos p2:Pos}
theorem zz3:PO X none zxa:=by
 intro pins s O H Q I h
 rw[Zvt]
 exact Ziu ⟨none,H,I,.none,h⟩
theorem zwp(h:PE X e te):PO X (some e) (yh8 te):=by
 intro pins s O H Q I hw
 rw[evalPart_some]
 refine thn (h pins s O H _ I hw) fun u s1 hz9=>?_
 obtain⟨x,H1,I1,r1,q1⟩:=hz9
 obtain⟨i,rfl,q⟩:=q1
 obtain⟨t,rfl⟩:=r1
 exact⟨some i,H1,I1,.int i t,q⟩
noncomputable def SlR(X:Cx)(r:V->Option Int->Option Int->Hp->VK->Prop):Prop :=
 ∀(pins:List (Addr×Obj)) (s:Zih) (O:St) (H:Hp) (x:V) (v vl vu:Value) (lo hi:Option Int) (sl:Addr) (Q:VK),Inv X pins O H s->RelV x v->s.heap.IsSliceOf sl vl vu .none->IsPart vl lo->IsPart vu hi->r x lo hi H Q ->
  ∃T id,typeLookup (.type T) "__getitem__" = pure (some (.builtin id))/\s.TypeIs v T/\Zjd (Zjx X.prog X.w) X.A (Zr7 v (.ref sl)) (EP X pins O Q) X.xe s
noncomputable def tSl(r:V->Option Int->Option Int->Hp->VK->Prop)(te:TE)(tl th:TO):TE:=fun O H Q=>te O H fun x H1=>tl O H1 fun l H2=>th O H2 fun u H3=>r x l u H3 Q
theorem ztm{r:V->Option Int->Option Int->Hp->VK->Prop}(hr:SlR X r)(he:PE X e te)(hl:PO X lo tl)(hu:PO X hi th):PE X (.Subscript e (.Slice lo hi none p2) pos) (tSl r te tl th):=by
 intro pins s O H Q I h
 refine Zt3 (thn (he pins s O H _ I h) fun v s1 hz9=>?_)
 obtain⟨x,H1,I1,r1,q1⟩:=hz9
 refine wpAny_Slice (thn (hl pins s1 O H1 _ I1 q1) fun vl s2 ⟨l,H2,I2,pl,q2⟩=>thn (hu pins s2 O H2 _ I2 q2) fun vu s3 hz9=>?_)
 obtain⟨u,H3,I3,pu,q3⟩:=hz9
 rw[Zvt]
 refine Ziu ?_
 have I4:Inv X pins O H3 { s3 with heap:=s3.heap.push { cls:=.type "slice", data:=.fields #[vl,vu,.none] } }:=I3.kept (t':=s3.toks) fun b ob q=>Zim _ q
 obtain⟨T,id,hT,ht,hg⟩:=hr pins { s3 with heap:=s3.heap.push { cls:=.type "slice", data:=.fields #[vl,vu,.none] } } O H3 x v vl vu l u s3.heap.objs.size Q I4 r1 (Ztp ..) pl pu q3
 show Zjd (Zjx X.prog X.w) X.A (Zr6 e (.Slice lo hi none p2) v (.ref s3.heap.objs.size)) (EP X pins O Q) X.xe { s3 with heap:=s3.heap.push { cls:=.type "slice", data:=.fields #[vl,vu,.none] } }
 exact tail_any (ops:=[.ref s3.heap.objs.size,v]) ht hT hg (by with_unfolding_all rfl)
noncomputable def cutV(xs:List V)(lo hi:Option Int):List V:=(xs.drop (HT.sIx xs.length 0 lo)).take (HT.sIx xs.length xs.length hi - HT.sIx xs.length 0 lo)
theorem zsk(xs:List V)(lo hi:Option Int):(cutV xs lo hi).length<=xs.length:=by
 unfold cutV
 rw[Zjc,Znb]
 omega
end
noncomputable def ixN(n:Nat)(i:Int):Option Nat:=if 0<=i then (if i<n then some i.toNat else none) else if -(n:Int)<=i then some (i+n).toNat else none
noncomputable def atI{α:Type}(xs:List α)(i:Int):Option α:=(ixN xs.length i).bind fun j=>xs[j]?
theorem yfo{n:Nat}{i:Int}{j:Nat}(h:ixN n i=some j):seqIndex? i n=some j/\j<n /\ -(n:Int)<=i/\i<n:=by
 unfold ixN at h
 by_cases h0:0<=i
 .rw[if_pos h0] at h
  by_cases h1:i<n
  .rw[if_pos h1] at h
   have e:i.toNat=j:=Zj9 h
   exact⟨by rw[seqIndex_of h0 h1,e],by omega,by omega,h1⟩
  .rw[if_neg h1] at h;cases h
 .rw[if_neg h0] at h
  by_cases h1 : -(n:Int)<=i
  .rw[if_pos h1] at h
   have e:(i+n).toNat=j:=Zj9 h
   exact⟨by rw[seqIndex_neg (by omega) h1,e],by omega,h1,by omega⟩
  .rw[if_neg h1] at h;cases h
theorem zzl{α:Type}{xs:List α}{i:Int}{v:α}(h:atI xs i=some v):∃j,seqIndex? i xs.length=some j/\xs[j]? = some v/\j<xs.length /\ -(xs.length:Int)<=i/\i<xs.length:=by
 unfold atI at h
 cases e:ixN xs.length i with
 | none=>rw[e] at h;cases h
 | some j =>
  rw[e] at h
  obtain⟨h1,h2,h3,h4⟩:=yfo e
  exact⟨j,h1,h,h2,h3,h4⟩
theorem zk2{α:Type}{xs:List α}{j:Nat}{v:α}(h:xs[j]? = some v):atI xs (j:Int)=some v:=by
 have hj:j<xs.length:=(Zif.mp h).1
 have e:ixN xs.length (j:Int)=some j:=by
  unfold ixN
  rw[if_pos (by omega),if_pos (by omega)];simp
 unfold atI;rw[e];exact h
noncomputable def yfr(b:Expr):Prop:=∀o i,Zrh b false o i=operate [o,i] (Zr7 o i)
noncomputable def IxR(X:Cx)(r:R2):Prop :=
 ∀(value slice:Expr) (pins:List (Addr×Obj)) (s:Zih) (O:St) (H:Hp) (x y:V) (v u:Value) (Q:VK),Inv X pins O H s->RelV x v->RelV y u->r x y H Q ->
  Zrh slice false v u=operate [v,u] (Zr7 v u)->Zjd (Zjx X.prog X.w) X.A (Zr6 value slice v u) (EP X pins O Q) X.xe s
noncomputable def MtR(X:Cx)(id:String)(r:V->List V->Hp->VK->Prop):Prop :=
 ∀(pins:List (Addr×Obj)) (s:Zih) (O:St) (H:Hp) (x:V) (xs:List V) (v:Value) (us:List Value) (Q:VK),Inv X pins O H s->RelV x v->Vals xs us->r x xs H Q ->
  Zjd (Zjx X.prog X.w) X.A (call (.builtin id) (v::us)) (EP X pins O Q) X.xe s
section
variable{X:Cx}{a b:Expr}{ta tb:TE}{pos:Pos}
theorem za4{r:R2}(hr:IxR X r)(ha:PE X a ta)(hb:PE X b tb)(hs:yfr b):PE X (.Subscript a b pos) (tOp r ta tb):=by
 intro pins s O H Q I h
 exact Zt3 (binT ha hb I h fun v u s2 x y H2 I2 rx ry q=>hr a b pins s2 O H2 x y v u Q I2 rx ry q (hs _ _))
noncomputable def rIxL(K:Zh7):R2:=fun x y H Q=>∃p xs i v,x= .ref p/\y= .int i/\SqL K H p xs/\atI xs i=some v/\Q v H
noncomputable def rIxT(K:Zh7):R2:=fun x y H Q=>∃p xs i v,x= .ref p/\y= .int i/\SqT K H p xs/\atI xs i=some v/\Q v H
theorem zbk:IxR X (rIxL X.K):=by
 intro value slice pins s O H x y v u Q I rx ry h hs
 obtain⟨p,xs,i,z,rfl,rfl,hq,he,q⟩:=h
 cases rx
 obtain⟨t,rfl⟩:=ry
 obtain⟨its,r,pl,hz⟩:=I.list hq
 obtain⟨j,h1,h2,h3,h4,h5⟩:=zzl he
 obtain⟨w,ew,rw'⟩:=r.get h2
 have hl:=r.length
 have hn:=zxt
 have fin:EP X pins O Q w s:=⟨z,H,I,rw',q⟩
 by_cases h0:0<=i
 .have hj:i.toNat=j:=by
   rw[seqIndex_of h0 h5] at h1
   exact Zj9 h1
  exact item_listR pl.isList h0 (by omega) (by rw[hj];simpa using ew) fin hs
 .have hj:(i+(its.toArray.size:Int)).toNat=j:=by
   rw[seqIndex_neg (by omega) h4] at h1
   rw[Zi9,<- hl]
   exact Zj9 h1
  exact Zsi (x:=w) pl.isList.typeIs slot_list_getitem.lookup
   (wpAny_getItem_list_neg (Q:=fun r s'=>r=w/\EP X pins O Q r s') pl.isList (by omega) (by rw[Zi9] <;> omega) (by omega) (by rw[hj];simpa using ew) ⟨rfl,fin⟩) hs
theorem za5:IxR X (rIxT X.K):=by
 intro value slice pins s O H x y v u Q I rx ry h hs
 obtain⟨p,xs,i,z,rfl,rfl,hq,he,q⟩:=h
 cases rx
 obtain⟨t,rfl⟩:=ry
 obtain⟨its,r,pl,hz⟩:=I.tuple hq
 obtain⟨j,h1,h2,h3,h4,h5⟩:=zzl he
 obtain⟨w,ew,rw'⟩:=r.get h2
 have hl:=r.length
 have hn:=zxt
 have fin:EP X pins O Q w s:=⟨z,H,I,rw',q⟩
 exact Zsi (x:=w) pl.typeIs slot_tuple_getitem.lookup
  (getItem_tuple (j:=j) (Q:=fun r s'=>r=w/\EP X pins O Q r s') pl (by omega) (by omega) (by rw[Zi9,<- hl];exact h1) (by simpa using ew) ⟨rfl,fin⟩) hs
theorem zqz(lo hi:Option Int)(n:Nat):(Znv lo hi none n).1=((HT.sIx n 0 lo:Nat):Int)/\(Znv lo hi none n).2.1=((HT.sIx n n hi:Nat):Int)/\(Znv lo hi none n).2.2=1:=by
 refine⟨?_,?_,rfl⟩
 .cases lo with
  | none=>simp[Znv,HT.sIx]
  | some i =>
   simp only[Znv,HT.sIx,Zsb,show(1:Int)>0 by decide,if_true]
   by_cases h:i<0
   .simp only[h,if_true] <;> omega
   .simp only[h,if_false] <;> omega
 .cases hi with
  | none=>simp[Znv,HT.sIx]
  | some i =>
   simp only[Znv,HT.sIx,Zsb,show(1:Int)>0 by decide,if_true]
   by_cases h:i<0
   .simp only[h,if_true] <;> omega
   .simp only[h,if_false] <;> omega
theorem zo9(its:List Value)(lo hi:Option Int):slicePick its.toArray lo hi none=((its.drop (HT.sIx its.length 0 lo)).take (HT.sIx its.length its.length hi - HT.sIx its.length 0 lo)).toArray:=by
 obtain⟨h1,h2,h3⟩:=zqz lo hi its.toArray.size
 unfold slicePick
 rw[h1,h2,h3]
 simp only[sliceRange_one,pick_run,Zi9] <;> rfl
noncomputable def rSlL(K:Zh7):V->Option Int->Option Int->Hp->VK->Prop:=fun x lo hi H Q=>∃a xs,x= .ref a/\SqL K H a xs /\ ∀p,H p=none->Q (.ref p) (upd H p (.lst (cutV xs lo hi)))
theorem zye:SlR X (rSlL X.K):=by
 intro pins s O H x v vl vu lo hi sl Q I rx hs pl pu h
 obtain⟨a,xs,rfl,hx,q⟩:=h
 cases rx
 obtain⟨its,r,ht,hz⟩:=I.list hx
 have hlen:=r.length
 refine⟨"list", _,slot_list_getitem.lookup,ht.isList.typeIs,?_⟩
 refine wpAny_getItem_list_slice ht.isList hs pl pu .none (by simp) ?_ (by rw[Zi9] <;> omega)
 rw[zo9,<- hlen]
 refine⟨.ref s.heap.objs.size,_,I.laid (t':=s.toks) (o:=.lst (cutV xs lo hi)) (fun b ob q=>Zim _ q) (Zio _) ?_,rfl,q _ (I.hok.fresh (Zio _))⟩
 exact⟨Zjb (zsk xs lo hi) hz,_,0,(r.drop (HT.sIx xs.length 0 lo)).take (HT.sIx xs.length xs.length hi - HT.sIx xs.length 0 lo),Zi1 _ rfl⟩
theorem zay:zcm X (.builtin "len") (fun xs H Q=>∃p ys,xs=[.ref p]/\(SqL X.K H p ys\/SqT X.K H p ys)/\Q (.int ys.length) H):=by
 intro pins s O H xs us Q I r h
 obtain⟨p,ys,rfl,hq,q⟩:=h
 obtain⟨u,rfl,rx⟩:=zht r
 cases rx
 have hn:=zxt
 rcases hq with hq | hq
 .obtain⟨its,r',pl,hz⟩:=I.list hq
  have hlen:=r'.length
  exact Calls.call_len_list pl.isList (by simp only[Zi9] <;> omega) ⟨.int ys.length,H,I.tok _,⟨s.toks+1,by rw[Zi9,hlen]⟩,q⟩
 .obtain⟨its,r',pl,hz⟩:=I.tuple hq
  have hlen:=r'.length
  exact len_tuple pl (by simp only[Zi9] <;> omega) ⟨.int ys.length,H,I.tok _,⟨s.toks+1,by rw[Zi9,hlen]⟩,q⟩
theorem zlr:zcm X (.type "list") (fun xs H Q=>∃p ys,xs=[.ref p]/\(SqL X.K H p ys\/SqT X.K H p ys) /\ ∀l,H l=none->Q (.ref l) (upd H l (.lst ys))):=by
 intro pins s O H xs us Q I r h
 obtain⟨p,ys,rfl,hq,q⟩:=h
 obtain⟨u,rfl,rx⟩:=zht r
 cases rx
 have fin:∀(its:List Value),Vals ys its->ys.length<=sizeLine-> ∀(h':Heap) (c':Nat),(∀b o',s.heap.get? b=some o'->h'.get? b=some o') ->
   h'.get? s.heap.objs.size=some { cls:=.type "list", dict:=none,data:=.seq its.toArray c',slots:=#[] }->EP X pins O Q (.ref s.heap.objs.size) { s with heap:=h' }:=fun its r' hz h' c' kp e =>
  ⟨.ref s.heap.objs.size,_,I.laid (t':=s.toks) kp (Zio _) (show zet X.prog X.w _ h' _ (.lst ys) from⟨hz,its,c',r',e⟩),rfl,q _ (I.hok.fresh (Zio _))⟩
 rcases hq with hq | hq
 .obtain⟨its,r',pl,hz⟩:=I.list hq
  have hlen:=r'.length
  obtain⟨o,ho,hc,n,hd⟩:=pl.isList
  exact Zvw p (.inl rfl) ho hc hd (fun h' c' kp e=>fin its r' hz h' c' kp e) (by simp only[Zi9] <;> omega)
 .obtain⟨its,r',pl,hz⟩:=I.tuple hq
  have hlen:=r'.length
  obtain⟨o,ho,hc,n,hd⟩:=pl
  exact Zvw p (.inr rfl) ho hc hd (fun h' c' kp e=>fin its r' hz h' c' kp e) (by simp only[Zi9] <;> omega)
noncomputable def tyV(K:Zh7)(T:String)(x:V)(H:Hp):Prop:=match x with
 | .str _=>T = "str"
 | .int _=>T = "int"
 | .ref p=>(T = "list" /\ ∃xs,SqL K H p xs)\/(T = "tuple" /\ ∃o,K.lookup p=some o/\o.cls= .type "tuple" /\ o.dict=none) \/
   (T = "dict" /\ ((∃kvs,H p=some (.dK kvs)) \/ ∃kvs,H p=some (.dT kvs)))\/(T = "set" /\ ∃S n,H p=some (.set S n))
 | _=>False
theorem ydg{pins:List (Addr×Obj)}{O:St}{H:Hp}{s:Zih}{T:String}{x:V}{v:Value}(I:Inv X pins O H s)(r:RelV x v)(ty:tyV X.K T x H) :
  s.TypeIs v T /\ ∀a,v= .ref a-> ∃ob,s.heap.get? a=some ob/\ob.dict=none:=by
 cases x with
 | str z =>
  obtain⟨t,rfl⟩:=r
  cases (show T = "str" from ty)
  exact⟨Ztv s z t,fun _ e=>nomatch e⟩
 | int i =>
  obtain⟨t,rfl⟩:=r
  cases (show T = "int" from ty)
  exact⟨Zqc s i t,fun _ e=>nomatch e⟩
 | ref p =>
  cases r
  rcases ty with ⟨rfl,xs,hq⟩ | ⟨rfl,o,hk,hc,hd⟩ | ⟨rfl,hk⟩ | ⟨rfl,S,n,hk⟩
  .obtain⟨its,_,pl,_⟩:=I.list hq
   refine⟨pl.isList.typeIs,fun a e=>?_⟩
   cases e
   obtain⟨o,n,e,c,hd,_⟩:=pl
   exact⟨o,e,hd⟩
  .refine⟨⟨o,I.kIn p o hk,hc⟩,fun a e=>?_⟩
   cases e
   exact⟨o,I.kIn _ o hk,hd⟩
  .have z:∃o,s.heap.get? p=some o/\o.ExactDict:=by
    rcases hk with ⟨kvs,hk⟩ | ⟨kvs,hk⟩
    .obtain⟨_,_,_,_,o,_,_,e,ex,_⟩:=I.hok p _ hk
     exact⟨o,e,ex⟩
    .obtain⟨_,_,_,_,o,_,_,e,ex,_⟩:=I.hok p _ hk
     exact⟨o,e,ex⟩
   obtain⟨o,e,ex⟩:=z
   refine⟨⟨o,e,ex.1⟩,fun a e2=>?_⟩
   cases e2
   exact⟨o,e,ex.2.1⟩
  .obtain⟨o,_,_,_,e,ex,_⟩:=I.hok p _ hk
   refine⟨⟨o,e,ex.1⟩,fun a e2=>?_⟩
   cases e2
   exact⟨o,e,ex.2.1⟩
 | _=>exact Zmo ty
noncomputable def tBM0(K:Zh7)(T:String)(r:V->List V->Hp->VK->Prop)(to:TE):TE:=fun O H Q=>to O H fun x H1=>tyV K T x H1/\r x [] H1 Q
noncomputable def tBM(K:Zh7)(T:String)(r:V->List V->Hp->VK->Prop)(to:TE)(t:TA):TE:=fun O H Q=>to O H fun x H1=>tyV K T x H1/\t O H1 fun xs H2=>r x xs H2 Q
variable{o e:Expr}{es:List Expr}{to:TE}{t:TA}{name:Str}{apos cpos:Pos}{T id:String}{r:V->List V->Hp->VK->Prop}
theorem ycz(pa:PlainAttrs T)(slot:Slot T name id)(hty:typeOf (.builtin id)=pure (.type "method_descriptor"))(hm:MtR X id r)(ho:PE X o to)
  (hbase:Zoo o name X.env (eval o X.env)=eval o X.env:=by rfl) (hline:(apos.endLine == cpos.line)=true:=by rfl):PE X (.Call (.Attribute o name apos) [] [] cpos) (tBM0 X.K T r to):=by
 intro pins s O H Q I h
 refine Zr5 hbase hline (thn (ho pins s O H _ I h) fun v s1 hz9=>?_)
 obtain⟨x,H1,I1,r1,ty,q1⟩:=hz9
 obtain⟨h1,h2⟩:=ydg I1 r1 ty
 exact⟨T,id,pa,slot,hty,h1,h2,Zly rfl (Zrt (hm pins s1 O H1 x [] v [] Q I1 r1 .nil q1))⟩
theorem zjc(pa:PlainAttrs T)(slot:Slot T name id)(hty:typeOf (.builtin id)=pure (.type "method_descriptor"))(hm:MtR X id r)(ho:PE X o to)(ha:PA X (e::es) t)
  (hbase:Zoo o name X.env (eval o X.env)=eval o X.env:=by rfl)
  (hfew:((Zov cpos (Zj2 (e::es) X.env)).all (fun x=>!x.1)&&(Zq6 cpos (Zom [] X.env)).all (fun x=>x.1.isSome)
   && decide ((e::es).length+([]:List Zqm).length+(if ([]:List Zqm).isEmpty then 0 else 1)<30))=true:=by rfl)
  (hline:(apos.endLine == cpos.line)=true:=by rfl) (hs:Zj2 (e::es) X.env=(false,eval e X.env)::Zj2 es X.env:=by rfl) (hplain:(Zov cpos (Zj2 es X.env)).any (·.1)=false:=by rfl) :
  PE X (.Call (.Attribute o name apos) (e::es) [] cpos) (tBM X.K T r to t):=by
 intro pins s O H Q I h
 refine wpAny_Call_method_late hbase hfew hline rfl (thn (ho pins s O H _ I h) fun v s1 hz9=>?_)
 obtain⟨x,H1,I1,r1,ty,q1⟩:=hz9
 obtain⟨h1,h2⟩:=ydg I1 r1 ty
 refine⟨T,id,pa,slot,hty,h1,h2,?_⟩
 have hA:=ha cpos pins s1 O H1 _ I1 q1
 rw[hs] at hA ⊢
 refine Zly (by show(false||(Zov cpos (Zj2 es X.env)).any (·.1))=false;rw[hplain] <;> rfl) (Zot ?_)
 refine thn hA fun us s2 hz9=>?_
 obtain⟨vs,H2,I2,r2,q2⟩:=hz9
 exact hm pins s2 O H2 x vs v us Q I2 r1 r2 q2
end
noncomputable def MtM(X:Cx)(id:String)(r:V->List V->Hp->VK->Prop):Prop :=
 ∀(pins:List (Addr×Obj)) (s:Zih) (O:St) (H:Hp) (x:V) (xs:List V) (v:Value) (us:List Value) (Q:VK),Inv X pins O H s->RelV x v->Vals xs us->r x xs H Q ->
  Zjd (Zjx X.prog X.w) X.A (call (.builtin id) (v::us)) (EP X pins O Q) X.xe s
theorem Vals.one:∀{x:V} {us:List Value},Vals [x] us-> ∃u,us=[u]/\RelV x u
 | _,_,.cons r .nil=>⟨_,rfl,r⟩
theorem Vals.zero:∀{us:List Value},Vals [] us->us=[]
 | _,.nil=>rfl
theorem Vals.dropLast{xs:List V}{us:List Value}(h:Vals xs us):Vals xs.dropLast us.dropLast:=by
 induction h with
 | nil=>exact .nil
 | cons r t ih =>
  cases t with
  | nil=>exact .nil
  | cons q t'=>exact .cons r ih
theorem zv7{α:Type}(l:List α):l.eraseIdx (l.length - 1)=l.dropLast:=by
 induction l with
 | nil=>rfl
 | cons a r ih =>
  cases r with
  | nil=>rfl
  | cons b r =>
   have e:(a::b::r).length - 1=((b::r).length - 1)+1:=by
    have h1:(a::b::r).length=r.length+2:=rfl
    have h2:(b::r).length=r.length+1:=rfl
    omega
   rw[e,List.eraseIdx_cons_succ,ih]
   all_goals rfl
section
variable{X:Cx}{pins:List (Addr×Obj)}{O:St}{H:Hp}{s:Zih}{l b:Addr}{xs ys zs:List V}
theorem Inv.lset{its its':List Value}{n:Nat}{f:Array Value->Array Value}{t':Nat}(I:Inv X pins O H s)(hH:H l=some (.lst xs))
  (e:s.heap.get? l=some { cls:=.type "list", data:=.seq its.toArray n }) (hf:f its.toArray=its'.toArray) (hv:Vals ys its') (hz:ys.length<=sizeLine) :
  Inv X pins O (upd H l (.lst ys)) { s with heap:=s.heap.update l (Zlf f),toks:=t' }:=by
 have q:=Zv0 e f
 rw[hf] at q
 refine I.write (x:=l) (e:=l) (by rw[hH];exact trivial) (.inl rfl) (fun b' u hb hu=>(Heap.get?_update_other s.heap (Zlf f) (Zju hb)).trans hu) ⟨_,q⟩ ?_
 exact⟨hz,its',_,hv,q⟩
theorem Inv.lnew{its:List Value}{t':Nat}(I:Inv X pins O H s)(hv:Vals ys its)(hz:ys.length<=sizeLine) :
  Inv X pins O (upd H s.heap.objs.size (.lst ys)) { s with heap:=s.heap.push { cls:=.type "list", data:=.seq its.toArray },toks:=t' } :=
 I.laid (fun _ _ q=>Zim _ q) (Zio _) ⟨hz,its,0,hv,Zi1 _ rfl⟩
theorem Inv.fresh(I:Inv X pins O H s):H s.heap.objs.size=none:=I.hok.fresh (Zio _)
theorem Inv.lstM(I:Inv X pins O H s)(hH:H l=some (.lst xs)):xs.length<=sizeLine /\ ∃(its:List Value) (n:Nat),Vals xs its/\xs.length=its.length/\s.heap.get? l=some { cls:=.type "list", data:=.seq its.toArray n }:=by
 obtain⟨z,its,n,r,e⟩:=I.hok l _ hH
 exact⟨z,its,n,r,r.length,e⟩
end
section
variable{X:Cx}
noncomputable def zm0:V->List V->Hp->VK->Prop:=fun x vs H Q=>∃l xs y,x= .ref l/\vs=[y]/\H l=some (.lst xs)/\xs.length<sizeLine/\Q .non (upd H l (.lst (xs++[y])))
theorem zcr:MtM X "list.append" zm0:=by
 intro pins s O H x vs v us Q I rx rv h
 obtain⟨l,xs,y,rfl,rfl,hH,hz,q⟩:=h
 cases rx
 obtain⟨u,rfl,ru⟩:=rv.one
 obtain⟨z,its,n,r,hl,e⟩:=I.lstM hH
 refine Zty Zkc ⟨_,e,rfl⟩ F.entry_list_append (F.args_list_append_2 _ _) (PySem.list_append l its.toArray n u (by rw[Zi9];omega)) ⟨e,?_⟩
 refine⟨.non,_,I.lset (its':=its++[u]) hH e (by simp) (r.append (.cons ru .nil)) ?_,rfl,q⟩
 rw[Zis,Zm5]
 omega
noncomputable def rPop:V->List V->Hp->VK->Prop:=fun x vs H Q=>∃l xs y,x= .ref l/\vs=[]/\H l=some (.lst xs)/\xs[xs.length - 1]? = some y/\Q y (upd H l (.lst xs.dropLast))
theorem yhi:MtM X "list.pop" rPop:=by
 intro pins s O H x vs v us Q I rx rv h
 obtain⟨l,xs,y,rfl,rfl,hH,hy,q⟩:=h
 cases rx
 have hus:=rv.zero
 subst hus
 obtain⟨z,its,n,r,hl,e⟩:=I.lstM hH
 obtain⟨u,hu,ru⟩:=r.get hy
 have hy':its.toArray[its.toArray.size - 1]? = some u:=by
  show its.toArray[its.length - 1]? = some u
  rw[<- Zrn,<- hl]
  exact hu
 refine Zty Zug ⟨_,e,rfl⟩ F.entry_list_pop (F.args_list_pop_1 _) (MeetsSeq.list_pop_last l its.toArray n u hy' (by rw[Zi9];omega)) ⟨e,?_⟩
 refine⟨y,_,I.lset (its':=its.dropLast) hH e ?_ r.dropLast ?_,ru,q⟩
 .show its.toArray.eraseIdxIfInBounds (its.toArray.size - 1)=its.dropLast.toArray
  rw[Zi9,List.eraseIdxIfInBounds_toArray,zv7]
 .rw[List.length_dropLast]
  omega
end
end L2
namespace Att
open PySem PySem.W PySem.Calls PyProof.Rows
theorem zmo{P:Params}{h:Heap}:∀(ns:List Int) (vs:List Value),WellAll P h vs (ns.map WData.int)->Zrl vs ns:=by
 intro ns
 induction ns with
 | nil =>
  intro vs w
  rw[Zk4] at w
  cases w
  exact .nil
 | cons n ns ih =>
  intro vs w
  rw[Zik] at w
  cases w with
  | cons a b =>
   cases a
   exact .cons _ _ (ih _ b)
theorem zya{l:OpenLaw}{n:Nat}(hn:l.most=some n){P:Params}{h:Heap}{args:List WData}{vals:List Value}
  (hpre:l.row.toRowW.claim.pre args=true) (hwl:WellAll P h vals args) :
  ∃a vs ns,vals=[Zkr a]/\args=[WData.list (ns.map WData.int)]/\h.get? a=some { cls:=.type "list", data:=.seq vs.toArray }/\Zrl vs ns/\ns.length<=n:=by
 have hsh:WShape.hasAll [] args [.list .int]=true:=(pre_splitW hpre).1
 have hc:l.pre.holds [] { args:=args }=true:=(pre_splitW hpre).2
 obtain⟨d,r,rfl,h1,h2⟩:=hasAllW_cons hsh
 obtain rfl:=hasAllW_nil h2
 obtain⟨xs,rfl,h3⟩:=hasW_list h1
 obtain⟨ns,rfl⟩:=items_int h3
 have hlen:ns.length<=n:=by
  unfold OpenLaw.pre at hc
  have h4:(WTm.not (.lt (.lit (.int (n:Int))) (.len (.arg 0)))).holds [] { args:=[.list (ns.map .int)] }=true:=by
   have h4:=(holds_andW hc).1
   rw[hn] at h4
   exact h4
  have h5:=condW_of h4 (w_not (w_lt w_lit (w_len_list (w_arg rfl))))
  rw[Zia] at h5
  refine Nat.le_of_not_lt fun q=>?_
  have q':(n:Int)<((ns.length:Nat):Int):=by omega
  first
   | (rw[decide_eq_true q'] at h5;exact absurd h5 (by decide))
   | (simp at h5;omega)
 cases hwl with
 | cons w1 w2 =>
  cases w2
  cases w1 with
  | list ho hall=>exact⟨_,_,ns,rfl,rfl,ho,zmo ns _ hall,hlen⟩
theorem zz1(l:OpenLaw)(args:List WData):l.row.toRowW.claim.post args (.bool true) args=true :=
 postW_of (r:=l.row.toRowW) (X:=(true == true))
  (show WShape.has [] (.bool true) .bool=true by first | rfl | decide | simp[WShape.has,WShape.arms,WShape.armsAll])
  (show(WTm.eq .res (.lit (.bool true))).value [] { args:=args,res:=some (.bool true),after:=args }=some (.bool (true == true)) from w_eq_bool (w_res rfl) w_lit) rfl
theorem attach_call{l:OpenLaw}{n:Nat}{q:Zjj}{loose:List Str}{XP:(Str->Option Value)->Heap->Prop}{YP:Zkq->Heap->Prop}{d:DefRec}
  (hn:l.most=some n) (hdf:d.params.defaults=[])
  (call:∀(w:Zkq) (s₀ s₁:Zih) (mg mb:Str->Option Value) (fa:Addr) (o:Obj) (pm cd doc:Value) (a:Addr) (vs:List Value) (ns:List Int),
   Ground q loose [] XP w s₀ mg mb s₁.heap->YP w s₁.heap ->
   s₁.heap.get? fa=some o->o.data= .func (docDef d.name d.params d.body d.scope pm cd doc)->s₁.heap.CodeRec cd d.name->mg d.name=some (.ref fa) ->
   s₁.heap.get? a=some { cls:=.type "list", data:=.seq vs.toArray }->Zrl vs ns->ns.length<=n->s₁.gens= #[] ->
   Zo6 (Zjx l.prog w) Zri (.call (.ref fa) ⟨[.ref a],[]⟩) (fun r s'=>r= .ok (.ret (.bool true))/\OldK s₁.heap s'.heap/\s'.os=s₁.os/\Zpq s'.gens) s₁) :
  WalkO q loose XP YP l.row.toRowW d [] (fun f vs=>Zr9 f vs):=by
 intro w s₀ s₁ mg mb G Y fa o pm cd doc dV kV ho hd hcd hD hmg hg args vals as hpre hlay hrd hwl hlo
 obtain rfl:dV= .none:=Dflts.none hD hdf
 obtain rfl:kV= .none:=Dflts.noKw hD
 obtain⟨a,vs,ns,rfl,rfl,hobj,hints,hlen⟩:=zya hn hpre hwl
 refine enter_call (Zst (call w s₀ s₁ mg mb fa o pm cd doc a vs ns G Y ho (fd_plain hd) hcd hmg hobj hints hlen hg) fun r s' hq=>?_)
 obtain⟨rfl,h2,h3,h4⟩:=hq
 exact⟨.inl ⟨.bool true,.bool true,[],rfl,fun _=>rfl,.bool true,zz1 l _,fun _=>⟨Zud,fun _ hm=>(nomatch hm)⟩⟩,h2,h3,h4⟩
section
variable{prog:Zjj}{w:Zkq}{A:Zjs}{E:Value->Zih->Prop}{s:Zih}{K:Frag}
end
end Att
namespace L2
open PySem PySem.Spec PyProof.Rows
theorem zq1:∀{vs:List Value} {ns:List Int},Zrl vs ns->Vals (ns.map V.int) vs
 | _,_,.nil=>.nil
 | _,_,.cons n t h=>.cons ⟨t,rfl⟩ (zq1 h)
noncomputable def zez(s:Stmt):Zrp:=match s with
 | .FunctionDef _ a _ _ _ _ _ _ _ _=>a
 | _=>{ posonlyargs:=[],args:=[],vararg:=none,kwonlyargs:=[],kw_defaults:=[],kwarg:=none,defaults:=[] }
noncomputable def zb4(s:Stmt):List Stmt:=match s with
 | .FunctionDef _ _ b _ _ _ _ _ _ _=>b
 | _=>[]
noncomputable def zah(s:Stmt):Scope:=match s with
 | .FunctionDef _ _ _ _ _ _ sc _ _ _=>sc
 | _=>{ kind:=.function,names:=[],isGenerator:=false,isCoroutine:=false }
noncomputable abbrev CX0:CXT:=fun _ _ _ _ _ _=>False
noncomputable abbrev E0:XK:=fun _ _ _=>False
theorem yi1{X:Cx}:zwi CX0 X E0:=fun _ _ _ _ _ _ _ h=>h.elim
structure Fun(K:Zh7)(x qual:Str)(st:Stmt)(f:Addr)(fd:Zk9):Prop where
 ex:∃(oc:Value) (od:Option Addr) (kV doc pm:Value) (an:Option Addr) (cdv ct:Value) (osl:Array (Option Value)),
  fd=Zkv x qual (zez st) (zb4 st) (zah st) .none kV doc pm an cdv ct/\K.lookup f=some ⟨oc,od,.func fd,osl⟩/\Zoj K cdv qual=true
 kp:Zl7 K (.ref f)=true
section
variable{P:Zjj}{w:Zkq}{K:Zh7}{mg:Str->Option Value}{base:Heap}
theorem Fun.ok{x qual:Str}{st:Stmt}{f:Addr}{fd:Zk9}{N ps:List Str}{k:Nat}{sp:Sp}(F:Fun K x qual st f fd)(S:FnScope N ps (zah st))(len:∀vs H Q E,sp vs H Q E->vs.length=ps.length)
  (hbody:∀(cdv:Value) (A:Zjs) (outer:List Env) (s:Zih) (H:Hp) (vs:List V) (Q:VK) (E:XK),Room k (A.deeper (Znh qual (zah st) s.heap.objs.size f cdv))->sp vs H Q E ->
   ∃t,PSs (cxOf CX0 P w K mg base N qual (zah st) f cdv A outer s H E).nox (zb4 st) t/\t { nx:=fun _ H'=>Q .non H',rt:=Q } (zfe N vs) H):FnOk P w K mg base CX0 (k+1) f fd ps sp:=by
 obtain⟨oc,od,kV,doc,pm,an,cdv,ct,osl,rfl,lk,hcd⟩:=F.ex
 refine yg4 lk hcd S len fun A outer s H vs Q E hr hsp=>?_
 obtain⟨t,h,q⟩:=hbody cdv A outer s H vs Q E hr hsp
 exact⟨t,h.nox,q⟩
theorem Fun.binds{x qual:Str}{st:Stmt}{f:Addr}{fd:Zk9}{ps:List Str}(F:Fun K x qual st f fd)
  (h:∀(kV doc pm:Value) (an:Option Addr) (cdv ct:Value) (us:List Value),us.length=ps.length->Zob (Zkv x qual (zez st) (zb4 st) (zah st) .none kV doc pm an cdv ct) ⟨us,[]⟩=pure (ps.zip us)):zvq K fd ps []:=by
 obtain⟨oc,od,kV,doc,pm,an,cdv,ct,osl,rfl,lk,hcd⟩:=F.ex
 exact .all (h kV doc pm an cdv ct)
theorem ycp{x qual:Str}{st:Stmt}{f:Addr}{oc:Value}{od an:Option Addr}{osl:Array (Option Value)}{kV doc pm cdv ct:Value}(l:K.lookup f=some ⟨oc,od,.func (Zkv x qual (zez st) (zb4 st) (zah st) .none kV doc pm an cdv ct),osl⟩)
  (c:Zoj K cdv qual=true) (k:Zl7 K (.ref f)=true):Fun K x qual st f (Zkv x qual (zez st) (zb4 st) (zah st) .none kV doc pm an cdv ct):=⟨⟨oc,od,kV,doc,pm,an,cdv,ct,osl,rfl,l,c⟩,k⟩
end
theorem zbl{A:Zjs}{k:Nat}(hr:Room k A):A.units+1<Zon:=Nat.lt_of_le_of_lt (Nat.add_le_add_left (by decide:1<=64) _) hr.units
section
variable{X:Cx}
theorem pv(i:Nat){x:Str}{pos:Pos}(hN:X.N[i]? = some x:=by rfl)(hv:Vis X.env.scope x:=by first | exact Zld rfl | exact Ztj (Zld rfl) | exact Ztj (Ztj rfl))(hd:(x == ("__debug__" : Str))=false:=by decide)
  (hcd:(x == ("__classdict__" : Str))=false:=by decide):PE X (.Name x pos) (tVar i):=ygt hN hv hd hcd
end
theorem iteF{A B:Prop}(h:B):if false=true then A else B:=by
 rw[if_neg Zi8]
 exact h
theorem iteT{A B:Prop}(h:A):if true=true then A else B:=by
 rw[if_pos rfl]
 exact h
noncomputable def Same(H H':Hp):Prop:=∀b o,H b=some o->H' b=some o
theorem Same.refl(H:Hp):Same H H:=fun _ _ h=>h
theorem Same.trans{H H1 H2:Hp}(a:Same H H1)(b:Same H1 H2):Same H H2:=fun c o h=>b c o (a c o h)
theorem Same.free{H H':Hp}(e:Same H H'){l:Addr}(h:H' l=Ztk):H l=Ztk:=by
 cases q:H l with
 | none=>rfl
 | some o =>
  rw[e l o q] at h
  cases h
theorem Same.seq{K:Zh7}{H H':Hp}{a:Addr}{xs:List V}(e:Same H H')(h:SqL K H a xs):SqL K H' a xs:=by
 rcases h with (h | ⟨o,h⟩) | h
 .exact .inl (.inl (e _ _ h))
 .exact .inl (.inr ⟨o,e _ _ h⟩)
 .exact .inr h
end L2
namespace L2
open PySem PySem.Spec PyProof.Rows PySem.Builtin PySem.Builtin.Str
noncomputable def T(l:List Nat):Str:=⟨l.toArray⟩
theorem yhb(l:List Nat):(T l).cps.toList=l:=by simp[T]
theorem zw7{a b:List Nat}:T a=T b↔a=b:=by
 constructor
 .intro h
  have:=congrArg (fun x:Str=>x.cps.toList) h
  simpa[T] using this
 .rintro rfl;rfl
theorem yba(a b:List Nat):decide ((V.str (T a))=V.str (T b))=decide (a=b):=by
 by_cases h:a=b
 .subst h;simp
 .rw[decide_eq_false h,decide_eq_false]
  intro q;injection q with q;exact h (zw7.mp q)
end L2
namespace L2
open PySem PySem.Spec PyProof.Rows
noncomputable def clos(cells:List (Str×Addr)):List (Str×Zjp)->List (Str×Addr)->List (Str×Addr)
 | [],acc=>acc
 | (n,k)::r,acc=>if k == .free then (match cells.lookup n with | some c=>clos cells r ((n,c)::acc) | none=>clos cells r acc) else clos cells r acc
theorem zmf{cells:List (Str×Addr)}:∀(names:List (Str×Zjp)) (acc:List (Str×Addr)),(∀x c,acc.lookup x=some c->cells.lookup x=some c)-> ∀x c,(clos cells names acc).lookup x=some c->cells.lookup x=some c
 | [],_,h=>h
 | (n,k)::r,acc,h=>by
  intro x c
  unfold clos
  split
  .cases e:cells.lookup n with
   | none=>exact zmf r acc h x c
   | some d =>
    refine zmf r _ (fun y z hy=>?_) x c
    rw[Zkf] at hy
    cases q:y == n with
    | true =>
     rw[q] at hy
     have:y=n:=by simpa using q
     subst this
     simpa[e] using hy
    | false=>rw[q] at hy;exact h y z hy
  .exact zmf r acc h x c
theorem zl6{cells:List (Str×Addr)}:∀(names:List (Str×Zjp)) (acc:List (Str×Addr)) (x:Str),(acc.lookup x).isSome=true->((clos cells names acc).lookup x).isSome=true
 | [],_,_,h=>h
 | (n,k)::r,acc,x,h=>by
  unfold clos
  split
  .cases e:cells.lookup n with
   | none=>exact zl6 r acc x h
   | some d =>
    refine zl6 r _ x ?_
    rw[Zkf]
    cases q:x == n with
    | true=>rfl
    | false=>exact h
  .exact zl6 r acc x h
theorem zme{cells:List (Str×Addr)}:∀(names:List (Str×Zjp)) (acc:List (Str×Addr)) (x:Str),(x,Zjk)∈names->(cells.lookup x).isSome=true->((clos cells names acc).lookup x).isSome=true
 | (n,k)::r,acc,x,hm,hs=>by
  unfold clos
  rcases Ziy.mp hm with e | hm
  .cases e
   simp only[beq_self_eq_true,if_true]
   obtain⟨c,hc⟩:=Zka.mp hs
   rw[hc]
   refine zl6 r _ _ ?_
   simp[Zkf]
  .split
   .cases e:cells.lookup n with
    | none=>exact zme r acc x hm hs
    | some d=>exact zme r _ x hm hs
   .exact zme r acc x hm hs
theorem zvi{scope:Scope}{env:Env}(h:∀x,(x,Zjk)∈scope.names->(env.cells.lookup x).isSome=true):Zpa scope env=pure (clos env.cells scope.names []):=by
 have gen:∀(names:List (Str×Zjp)) (acc:List (Str×Addr)),(∀x,(x,Zjk)∈names->(env.cells.lookup x).isSome=true) ->
   (forIn names acc (fun(p:Str×Zjp) (r:List (Str×Addr))=>(if p.2 == Zjk then (do let c <- Zte env p.1;pure (Zlk ((p.1,c)::r))) else pure (Zlk r):Sem (ForInStep (List (Str×Addr))))))=pure (clos env.cells names acc):=by
  intro names
  induction names with
  | nil=>intro acc _;rfl
  | cons p r ih =>
   obtain⟨n,k⟩:=p
   intro acc hh
   rw[Zp8]
   unfold clos
   cases hk:k == Zjk with
   | false =>
    simp only[hk,Zmt,if_false]
    exact ih acc fun x hx=>hh x (Zij _ hx)
   | true =>
    have hk':k= .free:=by simpa using hk
    subst hk'
    obtain⟨c,hc⟩:=Zka.mp (hh n Zil)
    have e:Zte env n=pure c:=by unfold Zte;rw[hc]
    simp only[beq_self_eq_true,if_true,e,hc]
    exact ih _ fun x hx=>hh x (Zij _ hx)
 exact(congrArg (fun(m:Sem (List (Str×Addr)))=>m >>= fun cs=>pure cs) (gen scope.names [] h)).trans rfl
noncomputable def lcS(nt:Nat)(cs:List Nat)(O:St):St:=Zoz nt none++cs.map fun i=>(O[i]?).getD none
noncomputable def lcCx(X:Cx)(N':List Str)(scope:Scope)(s:Zih)(H:Hp)(C:Addr)(fp:List Addr):Cx :=
 { X with N:=N',s₀:=s,Hz:=H,env:=Zvv scope (clos X.env.cells scope.names []) C X.env,outer:=X.stack,stack:=X.stack,ex:=fp,fn:=fun _=>false,pn:=[],xe:=fun _ _=>False }
noncomputable def lcOk(Nx:List Str)(sc scope:Scope)(N':List Str)(nt:Nat)(cs:List Nat):Bool :=
 decide (scope.kind= .function)&&(scope.names.all fun p=>match p.2 with
  | .cell=>false
  | .local=>decide (scope.names.lookup p.1=some .local)
  | .free=>decide (sc.names.lookup p.1=some .cell)||decide (sc.names.lookup p.1=some .free)
  | _=>true)&&decide (N'.length=nt+cs.length)&&(((N'.drop nt).zip cs).all fun p=>decide (Nx[p.2]? = some p.1)&&decide (scope.names.lookup p.1=some .free)&&(decide (sc.names.lookup p.1=some .cell)||decide (sc.names.lookup p.1=some .free)))
structure LcOk(X:Cx)(scope:Scope)(N':List Str)(nt:Nat)(cs:List Nat):Prop where
 kind:scope.kind= .function
 nocell:∀y∈scope.names,y.2 ≠ .cell
 loc:∀y∈scope.names,y.2= .local->scope.names.lookup y.1=some .local
 fr:∀x,(x,Zjk)∈scope.names->X.env.kindOf x=some .cell\/X.env.kindOf x=some .free
 len:N'.length=nt+cs.length
 cap:∀j i,cs[j]? = some i-> ∃x,N'[nt+j]? = some x/\X.N[i]? = some x/\scope.names.lookup x=some .free/\Vis X.env.scope x/\X.env.kindOf x≠some .local
theorem LcOk.of{X:Cx}{scope:Scope}{N':List Str}{nt:Nat}{cs:List Nat}{Nx:List Str}{sc:Scope}(hN:X.N=Nx)(hs:X.env.scope=sc)(h:lcOk Nx sc scope N' nt cs=true):LcOk X scope N' nt cs:=by
 subst hN hs
 unfold lcOk at h
 simp only[Ziq,decide_eq_true_eq,Zi7] at h
 obtain⟨⟨⟨h1,h2⟩,h3⟩,h4⟩:=h
 refine⟨h1,fun y hy e=>?_,fun y hy e=>?_,fun x hx=>?_,h3,fun j i e=>?_⟩
 .have:=h2 y hy;rw[e] at this;exact Zi8 this
 .have:=h2 y hy;rw[e] at this;exact of_decide_eq_true this
 .have:=h2 _ hx
  simp only[Zl2,decide_eq_true_eq] at this
  exact this
 .have hj:j<cs.length:=(Zif.mp e).1
  have hd:(N'.drop nt).length=cs.length:=by rw[Znb,h3];lia
  have hx:(N'.drop nt)[j]? = some ((N'.drop nt)[j]'(by lia)):=by simp[hd,hj]
  generalize (N'.drop nt)[j]'(by lia)=x at hx
  have hz:(x,i)∈(N'.drop nt).zip cs:=by
   refine Zii (i:=j) ?_
   rw[List.getElem?_zip_eq_some]
   exact⟨hx,e⟩
  have q:=h4 _ hz
  simp only[Ziq,Zl2,decide_eq_true_eq] at q
  refine⟨x,by rw[Zpe] at hx;exact hx,q.1.1,q.1.2,?_,fun z=>?_⟩
  .exact q.2.elim (fun z=>.inr (.inl z)) fun z=>.inr (.inr z)
  .have z':X.env.scope.names.lookup x=some .local:=z
   rcases q.2 with y | y <;> · rw[z'] at y;cases y
theorem zlm{env:Env}:∀{names:List (Str×Zjp)} {x:Str},names.lookup x=some .free ->
  (names.map fun(n,k)=>if (k == Zjk&&env.scope.kind == .function&&env.kindOf n == some .cell) then (n,Zml) else (n,k)).lookup x=some .cell \/
  (names.map fun(n,k)=>if (k == Zjk&&env.scope.kind == .function&&env.kindOf n == some .cell) then (n,Zml) else (n,k)).lookup x=some .free
 | [],_,h=>by simp at h
 | (n,k)::r,x,h=>by
  have ih:=@zlm env r x
  show Zp5 x ((if (k == Zjk&&env.scope.kind == .function&&env.kindOf n == some .cell)=true then (n,Zml) else (n,k))::_)=_\/Zp5 x ((if (k == Zjk&&env.scope.kind == .function&&env.kindOf n == some .cell)=true then (n,Zml) else (n,k))::_)=_
  cases hx:x == n with
  | true =>
   simp only[Zkf,hx] at h
   cases h
   by_cases hc:(Zjk == Zjk&&env.scope.kind == .function&&env.kindOf n == some .cell)=true
   .rw[if_pos hc];left;simp only[Zkf,hx]
   .rw[if_neg hc];right;simp only[Zkf,hx]
  | false =>
   simp only[Zkf,hx] at h
   by_cases hc:(k == Zjk&&env.scope.kind == .function&&env.kindOf n == some .cell)=true
   .rw[if_pos hc];simp only[Zkf,hx];exact ih h
   .rw[if_neg hc];simp only[Zkf,hx];exact ih h
theorem zh3{env:Env}:∀{names:List (Str×Zjp)} {x:Str} {q:Zjp},(∀y∈names,y.2 ≠ .cell)->(q= .cell\/q= .free) ->
  (names.map fun(n,k)=>if (k == Zjk&&env.scope.kind == .function&&env.kindOf n == some .cell) then (n,Zml) else (n,k)).lookup x=some q->(x,Zjk)∈names
 | [],_,_,_,_,h=>by simp at h
 | (n,k)::r,x,q,hn,hq,h=>by
  have ih:=@zh3 env r x q (fun y hy=>hn y (Zij _ hy)) hq
  have h':Zp5 x ((if (k == Zjk&&env.scope.kind == .function&&env.kindOf n == some .cell)=true then (n,Zml) else (n,k))::(r.map fun(n,k)=>if (k == Zjk&&env.scope.kind == .function&&env.kindOf n == some .cell) then (n,Zml) else (n,k)))=some q:=h
  cases hx:x == n with
  | true =>
   have e:x=n:=by simpa using hx
   subst e
   by_cases hc:(k == Zjk&&env.scope.kind == .function&&env.kindOf x == some .cell)=true
   .simp only[Ziq,beq_iff_eq] at hc
    rw[hc.1.1];exact Zil
   .rw[if_neg hc] at h'
    simp only[Zkf,beq_self_eq_true] at h'
    cases h'
    rcases hq with rfl | rfl
    .exact absurd rfl (hn (x,.cell) Zil)
    .exact Zil
  | false =>
   refine Zij _ (ih ?_)
   by_cases hc:(k == Zjk&&env.scope.kind == .function&&env.kindOf n == some .cell)=true
   .rw[if_pos hc] at h';simp only[Zkf,hx] at h';exact h'
   .rw[if_neg hc] at h';simp only[Zkf,hx] at h';exact h'
section
variable{X:Cx}{pins:List (Addr×Obj)}{O:St}{H:Hp}{s s':Zih}{scope:Scope}{N':List Str}{nt:Nat}{cs:List Nat}{C:Addr}{fp:List Addr}{h':Heap}{t':Nat}
theorem yag(I:Inv X pins O H s)(L:LcOk X scope N' nt cs)(hf:∀b∈fp,FpOk X pins H b)(hC:s.heap.objs.size<=C)(k:∀b u,s.heap.get? b=some u->h'.get? b=some u)(hns:h'.Ns C fun _=>none)(fpo:∀b∈fp,b<s.heap.objs.size) :
  Inv (lcCx X N' scope s H C fp) [] (lcS nt cs O) H { s with heap:=h',toks:=t' }:=by
 have hfree:H C=none:=I.hok.fresh hC
 have csub:∀x c,(clos X.env.cells scope.names []).lookup x=some c->X.env.cells.lookup x=some c:=zmf _ _ fun x c h=>by simp at h
 have chas:∀x,(x,Zjk)∈scope.names->((clos X.env.cells scope.names []).lookup x).isSome=true:=fun x hx=>by
  refine zme _ _ x hx ?_
  obtain⟨c,e⟩:=I.ok.has x (L.fr x hx)
  rw[e];rfl
 have I4:Inv X pins O H { s with heap:=h',toks:=t' }:=I.kept k
 refine⟨⟨I.ok.mod,L.kind,I.ok.glob,I.ok.blt,hC,fun x y c h1 h2=>I.ok.inj x y c (csub x c h1) (csub y c h2),fun x hx=>?_,fun x c hx=>(nomatch hx),I.ok.hd,I.ok.frames,.inl rfl,fun b hb=>⟨?_,fun x c e=>?_⟩,I.bs,Zjb I.ok.bsz I.sz,fun b o e hb=>?_,fun b hb=>?_,I.stack,I.stkFree⟩,
  rfl,I.bare,Un.kept k,⟨_,hns,fun i x v e1 e2 e3=>?_⟩,fun x c e=>?_,hfree,fun x c e=>I.freeC x c (csub x c e),fun p hp=>absurd (show p∈([]:List (Addr×Obj)) from hp) (by simp),I4.hok,?_⟩
 .have hx':(x,Zjk)∈scope.names:=by
   rcases hx with hx | hx
   .exact zh3 (env:=X.env) L.nocell (.inl rfl) hx
   .exact zh3 (env:=X.env) L.nocell (.inr rfl) hx
  exact Zka.mp (chas x hx')
 .exact Zi6 (Zi5 (fpo b hb) hC)
 .exact(hf b hb).2.2.2.2.1 x c (csub x c e)
 .obtain⟨f0,f1,f2,f3,_⟩:=hf b hb
  rcases f3 with z | z
  .exact I.ok.noex b o e z
  .exact absurd (Zi5 (Ziw e) (Zjb I.ok.bsz z)) (Zjh _)
 .obtain⟨f0,f1,f2,f3,_⟩:=hf b hb
  intro z
  rcases Ziy.mp (I.stkSub b z) with q | q
  .exact f1 q
  .exact f2 q
 ·-- a captured name
  have e2':(lcS nt cs O)[i]? = some (some v):=e2
  unfold lcS at e2'
  by_cases hi:i<nt
  .rw[Zj1 (by simpa using hi),Zmr] at e2'
   split at e2' <;> cases e2'
  .rw[Zjq (by simpa using hi),Zm6,Zie] at e2'
   cases ej:cs[i - nt]? with
   | none=>rw[ej] at e2';cases e2'
   | some j =>
    rw[ej] at e2'
    have e2'':(O[j]?).getD none=some v:=Zj9 e2'
    have hσ:O[j]? = some (some v):=by
     cases q:O[j]? with
     | none=>rw[q] at e2'';cases e2''
     | some z=>rw[q] at e2'';exact congrArg some e2''
    obtain⟨y,y1,y2,y3,y4,y5⟩:=L.cap _ _ ej
    have hxy:x=y:=by
     have e1':N'[i]? = some x:=e1
     rw[show nt+(i - nt)=i by lia,e1'] at y1
     exact Zj9 y1
    subst hxy
    obtain⟨m,hn,hl⟩:=I4.loc
    obtain⟨u,r,l⟩:=hl j x v y2 hσ y4
    refine⟨u,r,.inr ⟨zlm (env:=X.env) y3,?_⟩⟩
    rcases l with ⟨l,_⟩ | ⟨_,c,hc,hcell⟩
    .exact absurd l y5
    .refine⟨c,?_,hcell⟩
     obtain⟨d,hd⟩:=Zka.mp (chas x (Zk2 y3))
     have:=csub x d hd
     rw[hc] at this
     cases this
     exact hd
 .exact I4.cell x c (csub x c e)
 .show(lcS nt cs O).length=N'.length
  unfold lcS
  rw[L.len];simp
theorem ya2{O2:St}{H2:Hp}(I:Inv X pins O H s)(hf:∀b∈fp,FpOk X pins H b)(J:Inv (lcCx X N' scope s H C fp) [] O2 H2 s'):Inv X pins O H2 s' :=
 I.call' (ch:=fp) J.os J.base J.hok J.bare fun b hb=>by
  obtain⟨f0,f1,f2,f3,f4,f5⟩:=hf b hb
  exact⟨f3,f1,f4,f5⟩
end
noncomputable def PIfs(X:Cx)(ifs:List Expr)(t:TT):Prop :=
 ∀(pins:List (Addr×Obj)) (s:Zih) (O:St) (H:Hp) (Q:Bool->Hp->Prop),Inv X pins O H s->t O H Q ->
  Zjd (Zjx X.prog X.w) X.A (forIn ifs true fun c r=>if r=true then do let ok <- isTrue c X.env (eval c X.env);pure (Zlk ok) else pure (Zlk r)) (TP X pins O Q) X.xe s
noncomputable def zsr:TT:=fun _ H Q=>Q true H
theorem zd1{X:Cx}:PIfs X [] zsr:=fun _ _ _ H _ I h=>wpAny_tests_nil ⟨H,I,h⟩
theorem zix{X:Cx}{c:Expr}{t:TT}(h:PT X c t):PIfs X [c] t:=fun pins s O H Q I hq=>wpAny_tests_one (h pins s O H Q I hq)
noncomputable def LCG(nt:Nat)(cs:List Nat)(g:TG)(tt:TT)(te:TE)(O:St)(Q:VK)(J:It)(H1:Hp):Prop:=∀l,H1 l=none-> ∃W:Nat->Nat->Hp->Prop,(∃m,W 0 m (upd H1 l (.lst []))) /\ ∀i m H2,W i m H2 ->
 (J.stop i H2/\Q (.ref l) H2)\/(J.go i H2 /\ ∃N:Hp->Prop,(∀H',N H'-> ∃m',m'<m/\W (i+1) m' H') /\ ∀x H3,J.yld i H2 x H3->g x (lcS nt cs O) H3 fun O2 H4 =>
  (O2.length=nt+cs.length/\O2.drop nt=(lcS nt cs O).drop nt)/\tt O2 H4 fun b H5=>if b=true then te O2 H5 fun y H6=>∃xs,H6 l=some (.lst xs)/\xs.length<sizeLine/\N (upd H6 l (.lst (xs++[y]))) else N H5)
noncomputable def tLC(nt:Nat)(cs:List Nat)(wi:TI)(g:TG)(tt:TT)(te:TE):TE:=fun O H Q=>wi O H fun J H1=>LCG nt cs g tt te O Q J H1
theorem yfi {prog : Zjj} {w : Zkq} {A : Zjs} {R : Result -> Zih -> Prop} {s : Zih} {elt target iter : Expr} {ifs : List Expr} {scope : Scope} {pos : Pos} {it acc : Value} {env : Env} (I : Nat -> Zih -> Prop)
  (turn:∀n s,I n s->Zjd (Zjx prog w) A (Zpw it) (fun r s₁=>match r with
   | none=>R (.ok .next) s₁
   | some v=>Zjd (Zjx prog w) A (Zo4 target it v) (fun _ s₁'=>Zjd (Zjx prog w) A (Zsu target env v) (fun _ s₂ =>
     Zjd (Zjx prog w) A (forIn ifs true fun c r=>if r=true then do let ok <- isTrue c env (eval c env);pure (Zlk ok) else pure (Zlk r)) (fun ok s₃ =>
      if ok=true then Zjd (Zjx prog w) A (eval elt env) (fun x s₄ =>
       Zjd (Zjx prog w) A (call (.builtin "list.append") [acc,x]) (fun _ s₅=>∃m,m<n/\I m s₅) (fun _ _=>False) s₄) (fun _ _=>False) s₃
      else ∃m,m<n/\I m s₃) (fun _ _=>False) s₂) (fun _ _=>False) s₁') (fun _ _=>False) s₁) (fun _ _=>False) s)
  (n:Nat) (h:I n s):Zo6 (Zjx prog w) A (.compLoop (.ListComp elt [⟨target,iter,ifs,0⟩] scope pos) 0 it acc env) R s:=by
 refine codeAny_loop rfl I (fun n s hI=>?_) n h
 show Zjd _ A ((compTurn (.ListComp elt [⟨target,iter,ifs,0⟩] scope pos) 0 it acc env).onRaise (fun x=>do noteFrame x env;theTreesLotGoes x)) _ _ s
 refine wpAny_noted ?_
 rw[compTurn_list]
 refine Zib (Zpu (Zib (Zk5 (turn n s hI) (fun r s₁ h₁=>?_) fun _ _ h'=>h'.elim)))
 cases r with
 | none=>exact Ziu h₁
 | some v =>
  refine Zib (Zk5 h₁ (fun _ s₁' h₁'=>?_) fun _ _ h'=>h'.elim)
  refine Zib (Zk5 h₁' (fun _ s₂ h₂=>Zib (Zk5 h₂ (fun ok s₃ h₃=>?_) fun _ _ h'=>h'.elim)) fun _ _ h'=>h'.elim)
  cases ok with
  | false=>exact Ziu ⟨rfl,h₃⟩
  | true =>
   exact Zib (Zib (Zk5 h₃ (fun x s₄ h₄=>Zib (Zk5 h₄ (fun _ s₅ h₅=>Ziu (Ziu ⟨rfl,h₅⟩)) fun _ _ h'=>h'.elim)) fun _ _ h'=>h'.elim))
section
variable{X:Cx}{elt target iter:Expr}{ifs:List Expr}{scope:Scope}{pos:Pos}{N':List Str}{nt:Nat}{cs:List Nat}{wi:TI}{g:TG}{tt:TT}{te:TE}
theorem zz2{use:Option (Value->Sem Unit)}{QQ:Value->Zih->Prop}{p2:Pos}(hc:X.calm=true)(L:LcOk X scope N' nt cs)(hi:PI X target iter wi)
  (hg:∀s H C fp,PG (lcCx X N' scope s H C fp) target g) (ht:∀s H C fp,PIfs (lcCx X N' scope s H C fp) ifs tt) (he:∀s H C fp,PE (lcCx X N' scope s H C fp) elt te)
  {pins:List (Addr×Obj)} {s:Zih} {O:St} {H:Hp} {Q:VK} (I:Inv X pins O H s) (h:tLC nt cs wi g tt te O H Q)
  (fin:∀(l:Addr) (H':Hp) (s':Zih) (C:Addr),Inv X pins O H' s'->FpOk X pins H' C->(∃m,s'.heap.Ns C m)->Q (.ref l) H'->compPost (Zjx X.prog X.w) X.A X.xe use QQ (.ref l) C (.ok .next) s')
  (hs:∀x,Zog iter X.env x=pure x:=by intro _;rfl) :
  Zjd (Zjx X.prog X.w) X.A (Zvu (.ListComp elt [⟨target,iter,ifs,0⟩] scope pos) scope X.env p2 (newList []) false (eval iter X.env) use) QQ X.xe s:=by
 have hcl:Zpa scope X.env=pure (clos X.env.cells scope.names []):=zvi fun x hx=>by
  obtain⟨c,e⟩:=I.ok.has x (L.fr x hx)
  rw[e];rfl
 refine wpAny_comprehension_free (env:=X.env) rfl hs hcl L.kind L.loc (thn (hi pins s O H _ I h) fun v s1 h1=>thn h1 fun itv s2 h2=>?_)
 obtain⟨it,fp,tn,J,H1,e,I2,T,st2,f2,R⟩:=h2
 subst e
 refine Zne ?_
 have hv:Vals [] ([]:List Value):=.nil
 have I3:=I2.lnew (t':=s2.toks) hv (Zjn _)
 have hfr:H1 s2.heap.objs.size=none:=I2.fresh
 have ne3:∀b∈fp,b≠s2.heap.objs.size:=fun b hb z=>by
  obtain⟨o,e,_⟩:=T.obj _ _ st2 b hb
  have:=Ziw e
  rw[z] at this
  exact Zjh _ this
 have f3:∀b∈fp,FpOk X pins (upd H1 s2.heap.objs.size (.lst [])) b:=fun b hb=>⟨by rw[zav (ne3 b hb)];exact(f2 b hb).1,(f2 b hb).2⟩
 obtain⟨W,⟨m0,w0⟩,turn⟩:=R _ hfr
 refine Zsy L.nocell (by intro y hy;simp at hy) (fun h4 hns hsb=>?_) L.kind
 dsimp only at hns hsb ⊢
 generalize hH3:s2.heap.push { cls:=.type "list", dict:=none,data:=.seq ([]:List Value).toArray }=h3 at hns hsb I3 ⊢
 have hsz3:h3.objs.size=s2.heap.objs.size+1:=by rw[<- hH3,Zqv]
 have up4:∀b u,h3.get? b=some u->h4.get? b=some u:=fun b u e=>hsb.extBut b u (Zi6 (Ziw e)) (Zim _ e)
 have fpo:∀b∈fp,b<h3.objs.size:=fun b hb=>by
  obtain⟨o,e,_⟩:=T.obj _ _ st2 b hb
  exact Zi5 (Ziw e) (by rw[hsz3];exact Zo8 _)
 have up3:∀b u,s2.heap.get? b=some u->h3.get? b=some u:=fun b u e=>hH3 ▸ Zim _ e
 have J4:Inv (lcCx X N' scope { s2 with heap:=h3 } (upd H1 s2.heap.objs.size (.lst [])) h3.objs.size fp) [] (lcS nt cs O) (upd H1 s2.heap.objs.size (.lst [])) { s2 with heap:=h4,toks:=s2.toks+([]:List (Str×Value)).length } :=
  yag (t':=s2.toks+([]:List (Str×Value)).length) I3 L f3 (Zio _) up4 (by simpa using hns) fpo
 have st4:tn 0 h4:=T.keep _ _ _ st2 fun b hb o e=>up4 b o (up3 b o e)
 generalize hs3:({ s2 with heap:=h3 }:Zih)=s3 at I3 J4
 generalize hX':lcCx X N' scope s3 (upd H1 s2.heap.objs.size (.lst [])) h3.objs.size fp=X' at J4
 have hg':PG X' target g:=hX' ▸ hg _ _ _ _
 have ht':PIfs X' ifs tt:=hX' ▸ ht _ _ _ _
 have he':PE X' elt te:=hX' ▸ he _ _ _ _
 have stat:∀{H':Hp},(∀b∈fp,H' b=none)-> ∀b∈fp,FpOk X' [] H' b:=fun hn b hb=>by
  subst hX'
  refine⟨hn b hb,Zi6 (fpo b hb),J4.ok.exfs b hb,.inl hb,(J4.ok.exf b hb).2,fun p hp=>absurd (show p∈([]:List (Addr×Obj)) from hp) (by simp)⟩
 have loop : Zo6 (Zjx X.prog X.w) X.A (.compLoop (.ListComp elt [⟨target, iter, ifs, 0⟩] scope pos) 0 (.ref it) (.ref s2.heap.objs.size) (Zvv scope (clos X.env.cells scope.names []) h3.objs.size X.env))
   (compPost (Zjx X.prog X.w) X.A X.xe use QQ (.ref s2.heap.objs.size) h3.objs.size) { s2 with heap:=h4,toks:=s2.toks+([]:List (Str×Value)).length }:=by
  have eA:X'.A=X.A:=by subst hX';rfl
  have eP:X'.prog=X.prog:=by subst hX';rfl
  have eW:X'.w=X.w:=by subst hX';rfl
  have eK:X'.K=X.K:=by subst hX';rfl
  have eC:X'.calm=true:=by subst hX';exact hc
  have eE:X'.env=Zvv scope (clos X.env.cells scope.names []) h3.objs.size X.env:=by subst hX';rfl
  have eX:X'.xe=fun _ _=>False:=by subst hX';rfl
  refine yfi (fun n s'=>∃i H',Inv X' [] (lcS nt cs O) H' s'/\tn i s'.heap/\(∀b∈fp,H' b=none)/\W i n H') ?_ m0 ⟨0,_,J4,st4,fun b hb=>(f3 b hb).1,w0⟩
  rintro n s5 ⟨i,H5,J5,st5,fr5,w5⟩
  rcases turn i n H5 w5 with ⟨stop,qn⟩ | ⟨go,N,hN,step⟩
  .have d:=T.done X' eP eW eK eC i [] s5 (lcS nt cs O) H5 (fun _ _=>False) J5 (stat fr5) st5 stop
   rw[eA] at d
   refine thn d fun r s6 hz9=>?_
   obtain⟨hr,J6⟩:=hz9
   subst hr
   have I6:Inv X pins O H5 s6:=by subst hX';subst hs3;exact ya2 I3 f3 J6
   refine fin _ H5 s6 h3.objs.size I6 ?_ ?_ qn
   .have hn:H5 h3.objs.size=none:=by subst hX';exact J6.free
    subst hs3
    exact I3.fpOk (Zio _) hn
   .obtain⟨m,hm,_⟩:=J6.loc
    subst hX'
    exact⟨m,hm⟩
  .have d:=T.item X' eP eW eK eC i [] s5 (lcS nt cs O) H5 (fun _ _=>False) J5 (stat fr5) st5 go
   rw[eA] at d
   refine thn d fun r s6 hz9=>?_
   obtain⟨u,hr,h6⟩:=hz9
   subst hr
   refine thn h6 fun _ s7 hz9=>?_
   obtain⟨x,H7,J7,r7,y7,st7,fr7⟩:=hz9
   have J7':=J7.pinned (stat fr7) (T.obj _ _ st7)
   have a:=hg' _ s7 (lcS nt cs O) H7 x u _ J7' r7 (step x H7 y7)
   rw[eA,eP,eW,eE,eX] at a
   refine thn a fun _ s8 ⟨O8,H8,J8,⟨e8,d8⟩,q8⟩=>?_
   have b:=ht' _ s8 O8 H8 _ J8 q8
   rw[eA,eP,eW,eE,eX] at b
   have again:∀{s9:Zih} {H9:Hp},Inv X' ([]++zqm fp s7.heap) O8 H9 s9->N H9-> ∃m,m<n /\ ∃i H',Inv X' [] (lcS nt cs O) H' s9/\tn i s9.heap/\(∀b∈fp,H' b=none)/\W i m H':=fun {s9 H9} J9 n9=>by
    obtain⟨m',hm,w9⟩:=hN H9 n9
    refine⟨m',hm,i+1,H9,?_,T.keep _ _ _ st7 fun b hb o e=>(J9.pin (b,o) (Zig _ (Zig _ (zi1 hb e)))).1,fun b hb=>?_,w9⟩
    .refine J9.unpinned.weak ?_ fun j v ej=>?_
     .rw[e8];unfold lcS;simp
     .by_cases hj:j<nt
      .unfold lcS at ej
       rw[Zj1 (by simpa using hj),Zmr] at ej
       split at ej <;> cases ej
      .have z:=congrArg (fun l:St=>l[j - nt]?) d8
       simp only[Zpe] at z
       rw[show nt+(j - nt)=j by omega] at z
       rw[z];exact ej
    .obtain⟨o,e,_⟩:=T.obj _ _ st7 b hb
     exact(J9.pin (b,o) (Zig _ (Zig _ (zi1 hb e)))).2.1
   refine thn b fun ok s9 hz9=>?_
   obtain⟨H9,J9,q9⟩:=hz9
   cases ok with
   | false =>
    rw[if_neg Zi8] at q9 ⊢
    exact again J9 q9
   | true =>
    rw[if_pos rfl] at q9 ⊢
    have c:=he' _ s9 O8 H9 _ J9 q9
    rw[eA,eP,eW,eE,eX] at c
    refine thn c fun y sA hz9=>?_
    obtain⟨vy,HA,JA,ry,xs,hl,hz,nA⟩:=hz9
    have ap:=zcr (X:=X') _ sA O8 HA (.ref s2.heap.objs.size) [vy] (.ref s2.heap.objs.size) [y] (fun _ H'=>N H') JA rfl (.cons ry .nil) ⟨_,xs,vy,rfl,rfl,hl,hz,nA⟩
    rw[eA,eP,eW,eX] at ap
    refine thn ap fun _ sB hz9=>?_
    obtain⟨_,HB,JB,_,nB⟩:=hz9
    exact again JB nB
 exact codeAny_compStart_list loop (T.self X.A 0 _ _ _ st4 loop)
theorem zly(hc:X.calm=true)(L:LcOk X scope N' nt cs)(hi:PI X target iter wi)
  (hg:∀s H C fp,PG (lcCx X N' scope s H C fp) target g) (ht:∀s H C fp,PIfs (lcCx X N' scope s H C fp) ifs tt) (he:∀s H C fp,PE (lcCx X N' scope s H C fp) elt te)
  (hs:∀x,Zog iter X.env x=pure x:=by intro _;rfl):PE X (.ListComp elt [⟨target,iter,ifs,0⟩] scope pos) (tLC nt cs wi g tt te):=by
 intro pins s O H Q I h
 rw[eval_ListComp]
 refine zz2 (use:=none) hc L hi hg ht he I h (fun l H' s' C I' f ⟨m,hm⟩ q=>⟨m,hm,fun h' hs'=>?_⟩) hs
 obtain⟨f0,f1,f2,f3,f4,f5⟩:=f
 exact⟨.ref l,H',I'.turned (t':=s'.toks) (fun b o hb e=>hs'.extBut b o hb e) f0 f1 f3 f4 f5,rfl,q⟩
theorem zkq{i:Nat}{y:Str}{py spos:Pos}(hN:X.N.Nodup)(hy:X.N[i]? = some y)(hx:Loc X.env.scope y)(hc:X.calm=true)(L:LcOk X scope N' nt cs)(hi:PI X target iter wi)
  (hg:∀s H C fp,PG (lcCx X N' scope s H C fp) target g) (ht:∀s H C fp,PIfs (lcCx X N' scope s H C fp) ifs tt) (he:∀s H C fp,PE (lcCx X N' scope s H C fp) elt te)
  (hsw:Zrg (.ListComp elt [⟨target,iter,ifs,0⟩] scope pos) (some (.Name y py)) spos.line X.env=pure true:=by rfl)
  (hs:∀x,Zog iter X.env x=pure x:=by intro _;rfl) (hf:X.fn y=true\/X.env.scope.names.lookup y=some .local:=by first | exact .inl rfl | exact .inr rfl | assumption) :
  PS X (.Assign [.Name y py] (.ListComp elt [⟨target,iter,ifs,0⟩] scope pos) spos) (tAsg (tLC nt cs wi g tt te) (zfw i)):=by
 intro pins s O H D I h
 rw[exec_Assign_Name_used _ _ _ _ hsw]
 refine Zib (Zpu (Zib ?_))
 show Zjd _ X.A (do let _ <- Zvu (.ListComp elt [⟨target,iter,ifs,0⟩] scope pos) scope X.env _ (newList []) false (eval iter X.env) (some (Zsu (.Name y py) X.env))) _ _ s
 refine Zib (thn (zz2 (QQ:=fun _ s'=>SP X pins D .next s') (use:=some (Zsu (.Name y py) X.env)) hc L hi hg ht he I h (fun l H' s' C I' f hm q=>?_) hs) (fun _ s' hq=>Ziu (Ziu hq)))
 show Zjd _ X.A (Zsu (.Name y py) X.env (.ref l)) _ _ _
 refine Zts (zrc I' hN hy hx (v:=.ref l) rfl (fun s2 I2 hz9=>?_) hf)
 obtain⟨a,hsb,ha⟩:=hz9
 obtain⟨m,hm⟩:=hm
 obtain⟨f0,f1,f2,f3,f4,f5⟩:=f
 have hCa:C≠a:=by
  rcases ha with rfl | ha
  .exact f1
  .exact fun z=>f4 y a ha z.symm
 refine⟨m,hm.sameBut hsb hCa,fun h' hs'=>?_⟩
 exact⟨_,H',I2.turned (t':=s2.toks) (fun b o hb e=>hs'.extBut b o hb e) f0 f1 f3 f4 f5,q⟩
end
section
variable{X:Cx}{a b:Expr}{ta tb:TE}{pos:Pos}
theorem zhz:zcm X (.builtin "isinstance") (fun xs H Q=>∃x,xs=[.int x,.ty "int"]/\Q (.bl true) H):=by
 intro pins s O H xs us Q I r h
 obtain⟨x,rfl,q⟩:=h
 obtain⟨u,v,rfl,⟨t,rfl⟩,rfl⟩:=zq2 r
 exact IsiPair.int_int ⟨.bl true,H,I,rfl,q⟩
theorem zhf:zcm X (.builtin "isinstance") (fun xs H Q=>∃x,xs=[.int x,.ty "bool"]/\Q (.bl false) H):=by
 intro pins s O H xs us Q I r h
 obtain⟨x,rfl,q⟩:=h
 obtain⟨u,v,rfl,⟨t,rfl⟩,rfl⟩:=zq2 r
 exact IsiPair.int_bool ⟨.bl false,H,I.tok _,rfl,q⟩
theorem zf3:zcm X (.builtin "isinstance") (fun xs H Q=>∃p ys,xs=[.ref p,.ty "list"]/\SqL X.K H p ys/\Q (.bl true) H):=by
 intro pins s O H xs us Q I r h
 obtain⟨p,ys,rfl,hq,q⟩:=h
 obtain⟨u,v,rfl,rfl,rfl⟩:=zq2 r
 obtain⟨its,_,pl,_⟩:=I.list hq
 obtain⟨o,n,e,c,hd,_⟩:=pl
 exact IsiPair.list_list e c ⟨.bl true,H,I,rfl,q⟩
theorem zga:zcm X (.builtin "isinstance") (fun xs H Q=>∃p ys,xs=[.ref p,.ty "tuple"]/\SqT X.K H p ys/\Q (.bl true) H):=by
 intro pins s O H xs us Q I r h
 obtain⟨p,ys,rfl,hq,q⟩:=h
 obtain⟨u,v,rfl,rfl,rfl⟩:=zq2 r
 obtain⟨its,_,⟨o,e,c,_⟩,_⟩:=I.tuple hq
 exact IsiPair.tuple_tuple e c ⟨.bl true,H,I,rfl,q⟩
end
theorem SqL.same{K:Zh7}{H H':Hp}{a:Addr}{xs:List V}(e:Same H H')(h:SqL K H a xs):SqL K H' a xs:=e.seq h
theorem SqT.same{K:Zh7}{H H':Hp}{a:Addr}{xs:List V}(e:Same H H')(h:SqT K H a xs):SqT K H' a xs:=by
 rcases h with (h | ⟨o,h⟩) | h
 .exact .inl (.inl (e _ _ h))
 .exact .inl (.inr ⟨o,e _ _ h⟩)
 .exact .inr h
theorem Same.upd{H:Hp}{l:Addr}{o:HO}(h:H l=none):Same H (upd H l o):=fun b u e=>by rw[zav (zba e h)];exact e
end L2
namespace L2
open PySem
end L2
namespace L2
open PySem PySem.Spec PyProof.Rows
section
variable{X:Cx}{pins:List (Addr×Obj)}{O:St}{H:Hp}{s:Zih}{h':Heap}{t':Nat}{wr:List Addr}
theorem Inv.turns(I:Inv X pins O H s)(hf:∀b∈wr,FpOk X pins H b)(k:∀b o,b∉wr->s.heap.get? b=some o->h'.get? b=some o):Inv X pins O H { s with heap:=h',toks:=t' }:=by
 have nw:∀b u,H b=some u->b∉wr:=fun b u e z=>by have:=(hf b z).1;rw[e] at this;cases this
 have nL:X.env.locals∉wr:=fun z=>(hf _ z).2.1 rfl
 refine I.step (g':=s.gens) (d':=s.drawn) (ch:=wr) (fun b hb=>?_) (fun b o _ _ hc e _=>k b o hc e) (fun b o _ _ hc e _=>⟨o.slots,k b o hc e⟩) (fun _ _ _ _ n=>n)
  (fun b o hc e=>⟨o,k b o hc e⟩) (fun _ _ e=>e) (fun _ _ _ e=>e) (fun b ps e=>⟨#[],by rw[e];simp⟩) (fun m hm=>?_) (fun b u e=>?_) I.bare
 .obtain⟨f0,f1,f2,f3,f4,f5⟩:=hf b hb
  exact⟨f3,f1,f4,f5⟩
 .obtain⟨o,es,ep,ho,r⟩:=hm
  exact⟨o,es,ep,k _ o nL ho,r⟩
 .refine(I.hok b u e).stay (fun c v hc q=>k c v ?_ q) (fun _ q=>q) fun _ _ q=>q
  rcases hc with z | z
  .rw[z];exact nw b u e
  .exact nw c _ z
theorem Inv.turnsT(I:Inv X pins O H s){T0:Addr}{vs:List V}{vals:Array Value}(hf:∀b∈wr,FpOk X pins H b)(k:∀b o,b∉wr->s.heap.get? b=some o->h'.get? b=some o)(hT:s.heap.objs.size<=T0)(ht:h'.IsTuple T0 vals)(hv:Vals vs vals.toList)
  (hz:vs.length<=sizeLine):Inv X pins O (upd H T0 (.tup vs)) { s with heap:=h',toks:=t' }:=by
 have nw:∀b u,H b=some u->b∉wr:=fun b u e z=>by have:=(hf b z).1;rw[e] at this;cases this
 have nL:X.env.locals∉wr:=fun z=>(hf _ z).2.1 rfl
 have fresh:H T0=none:=I.hok.fresh hT
 have ne:∀b o,s.heap.get? b=some o->b≠T0:=fun b o e=>Zi6 (Zi5 (Ziw e) hT)
 refine I.step (g':=s.gens) (d':=s.drawn) (ch:=wr) (fun b hb=>?_) (fun b o _ _ hc e _=>k b o hc e) (fun b o _ _ hc e _=>⟨o.slots,k b o hc e⟩) (fun b o _ e n=>by rw[zav (ne b o e)];exact n)
  (fun b o hc e=>⟨o,k b o hc e⟩) (fun b xs e=>by rw[zav (zba e fresh)];exact e) (fun b o u e=>by rw[zav (zba e fresh)];exact e) (fun b ps e=>⟨#[],by rw[zav (zba e fresh),e];simp⟩) (fun m hm=>?_) (fun b u e=>?_) I.bare
 .obtain⟨f0,f1,f2,f3,f4,f5⟩:=hf b hb
  exact⟨f3,f1,f4,f5⟩
 .obtain⟨o,es,ep,ho,r⟩:=hm
  exact⟨o,es,ep,k _ o nL ho,r⟩
 .by_cases hb:b=T0
  .subst hb
   rw[zam] at e
   cases e
   have ht2:h'.IsTuple b vals.toList.toArray:=by simpa using ht
   exact⟨hz,vals.toList,hv,ht2⟩
  .rw[zav hb] at e
   refine(I.hok b u e).stay (fun c v hc q=>k c v ?_ q) (fun c q=>by rw[zav (zba q fresh)];exact q) fun c xs q=>by rw[zav (zba q fresh)];exact q
   rcases hc with z | z
   .rw[z];exact nw b u e
   .exact nw c _ z
end
noncomputable def RngO(r:Addr)(a b c:Int):HO:=.ext fun h=>∃t u v,IsRange h r a b c t u v
section
variable{X:Cx}{pins:List (Addr×Obj)}{O:St}{H:Hp}{s:Zih}
theorem Inv.rng{a b c:Int}{t u v:Tok}{t':Nat}(I:Inv X pins O H s):Inv X pins O (upd H s.heap.objs.size (RngO s.heap.objs.size a b c)) { s with heap:=s.heap.push { cls:=.type "range", data:=.fields #[.int a t,.int b u,.int c v] },toks:=t' } :=
 I.laid (fun _ _ q=>Zim _ q) (Zio _) ⟨⟨t,u,v,Zi1 _ rfl⟩,⟨_,Zi1 _ rfl⟩,fun h1 h2 ⟨t1,u1,v1,z⟩ k=>⟨t1,u1,v1,k _ z⟩⟩
end
section
variable{X:Cx}{e1 e2 e3:Expr}{ta:TA}{p pos:Pos}{tg:Expr}
noncomputable def yhe(ta:TA):TE:=fun O H Q=>ta O H fun vs H1=>∃j:Int,vs=[.int j] /\ ∀r,H1 r=none->Q (.ref r) (upd H1 r (RngO r 0 j 1))
theorem zyg(hg:Gl X "range")(hm:X.mg "range" = none)(ha:PA X [e1] ta)(hs:Zj2 [e1] X.env=[(false,eval e1 X.env)]:=by rfl):PE X (.Call (.Name "range" p) [e1] [] pos) (yhe ta):=by
 intro pins s O H Q I h
 refine Call_ (zjk I hg hm Ztz (Zkn (thn (ha pos pins s O H _ I h) fun us s1 hz9=>?_) hs rfl))
 obtain⟨vs,H1,I1,r1,q1⟩:=hz9
 obtain⟨j,rfl,q⟩:=q1
 obtain⟨u,rfl,ru⟩:=zht r1
 obtain⟨t,rfl⟩:=ru
 exact call_range_1 ⟨.ref s1.heap.objs.size,_,I1.rng,rfl,q _ I1.fresh⟩
theorem zpc(hc:X.calm=true):zcm X (.type "list") (fun xs H Q=>∃r a b c n,xs=[.ref r]/\H r=some (RngO r a b c)/\Zp1 a b c=true/\Zl9 a b c=((n:Nat):Int)/\n<=1048576 /\ ∀l,H l=none->Q (.ref l) (upd H l (.lst ((Zid n).map fun(i:Nat)=>.int (a+(i:Int)*c))))):=by
 intro pins s O H xs us Q I r h
 obtain⟨rr,a,b,c,n,rfl,hr,hsm,hn,hle,q⟩:=h
 obtain⟨u,rfl,ru⟩:=zht r
 cases ru
 obtain⟨⟨t,u,v,hR⟩,_,_⟩:=I.hok rr _ hr
 refine call_list_range (I.ok.hd hc) hR hsm hn (Zjb hle (by decide)) fun h' tk acc k hk hl hit=>?_
 have hv:Vals ((Zid n).map fun(i:Nat)=>V.int (a+(i:Int)*c)) acc.toList:=by
  obtain⟨hsz,hit⟩:=hit
  have gen:∀(m:Nat) (l:List Value),l.length=m->(∀(i:Nat) v,l[i]? = some v-> ∃t,v=Zlw (a+(i:Int)*c) t)->Vals ((Zid m).map fun(i:Nat)=>V.int (a+(i:Int)*c)) l:=by
   intro m
   induction m with
   | zero=>intro l hl _;have:=List.eq_nil_of_length_eq_zero hl;subst this;exact .nil
   | succ m ih =>
    intro l hl hi
    obtain⟨l',x,rfl⟩:∃l' x,l=l'++[x]:=by
     cases e:l.getLast? with
     | none=>have:=List.getLast?_eq_none_iff.mp e;subst this;cases hl
     | some x=>obtain⟨l',e'⟩:=List.getLast?_eq_some_iff.mp e;exact⟨l',x,e'⟩
    have hl':l'.length=m:=by simpa using hl
    rw[Zl0,Zir]
    refine Vals.append (ih l' hl' fun i v hv=>hi i v ?_) (.cons ?_ .nil)
    .rw[Zj1 (Zif.mp hv).1];exact hv
    .obtain⟨t,e⟩:=hi m x (by rw[<- hl'];simp)
     exact⟨t,e⟩
  exact gen n acc.toList (by simpa using hsz) fun i v hv=>by
   have:acc[i]? = some v:=by simpa using hv
   obtain⟨t,e⟩:=hit i v this
   exact⟨t,e⟩
 have hz:((Zid n).map fun(i:Nat)=>V.int (a+(i:Int)*c)).length<=sizeLine:=by rw[Zia,Zks,Ziv];lia
 exact⟨.ref s.heap.objs.size,_,I.laid hk (Zio _) (show zet X.prog X.w _ _ _ (.lst _) from⟨hz,acc.toList,k,hv,by simpa using hl⟩),rfl,q _ I.fresh⟩
end
end L2
namespace L2
open PySem
end L2
namespace L2
open PySem PySem.Spec PyProof.Rows
structure ZipAp(z TI TO i1 i2:Addr)(fp1 fp2:List Addr):Prop where
 TIz:TI≠z
 TOz:TO≠z
 i1z:i1≠z
 i2z:i2≠z
 TITO:TI≠TO
 TIi1:TI≠i1
 TIi2:TI≠i2
 TOi1:TO≠i1
 TOi2:TO≠i2
 i12:i1≠i2
 m1:i1∈fp1
 m2:i2∈fp2
 f1:∀b∈fp1,b≠z/\b≠TO/\b≠i2
 f2:∀b∈fp2,b≠z/\b≠TO/\b≠i1
end L2
namespace L2
open PySem
end L2
namespace L2
open PySem PySem.Spec PyProof.Rows
inductive D where
 | non | bl (b:Bool) | int (i:Int) | str (l:List Nat) | lst (xs:List D) | tup (xs:List D) | dct (ks vs:List D) | dctT (ks vs:List D) | ins (C:Addr) (ns:List Str) (vs:List D)
noncomputable instance:Inhabited D:=⟨.non⟩
noncomputable instance:DecidableEq D:=Zv4 D
mutual
noncomputable def D.dep:D->Nat
 | .lst a=>D.deps a+1
 | .tup a=>D.deps a+1
 | _=>0
noncomputable def D.deps:List D->Nat
 | []=>0
 | a::x=>max a.dep (D.deps x)
end
mutual
noncomputable def D.nb:D->Bool
 | .bl _=>false
 | .dct _ _=>false
 | .dctT _ _=>false
 | .ins _ _ _=>false
 | .lst a=>D.nbs a
 | .tup a=>D.nbs a
 | _=>true
noncomputable def D.nbs:List D->Bool
 | []=>true
 | a::x=>a.nb&&D.nbs x
end
noncomputable def D.isK:D->Bool
 | .int _=>true | .str _=>true | _=>false
noncomputable def D.key:D->Key
 | .int i=>.inl i | .str l=>.inr (T l) | _=>.inl 0
noncomputable def D.isT:D->Bool
 | .tup l=>l.all D.isK | _=>false
noncomputable def D.tkey:D->List Key
 | .tup l=>l.map D.key | _=>[]
noncomputable def D.isInt:D->Bool
 | .int _=>true
 | _=>false
noncomputable def zgv(ds:List D):Bool:=ds.any D.isInt
section
variable(K:Zh7)(H:Hp)
mutual
noncomputable def Rep:D->V->Prop
 | .non,v=>v= .non
 | .bl b,v=>v= .bl b
 | .int i,v=>v= .int i
 | .str l,v=>v= .str (T l) /\ ∀c∈l,c<128
 | .lst ds,v=>∃p xs,v= .ref p/\SqL K H p xs/\Reps ds xs
 | .tup ds,v=>∃p xs,v= .ref p/\SqT K H p xs/\Reps ds xs/\(zgv ds=true->H p=some (.tup xs))
 | .dct ks vs,v=>∃p kv,v= .ref p/\H p=some (.dK kv)/\Reps ks (kv.map fun q=>kV q.1)/\Reps vs (kv.map fun q=>q.2)
 | .dctT ks vs,v=>∃p kv,v= .ref p/\(∃o,H p=some (.frz o (.dT kv)))/\(ks.all D.isT=true/\(kv.map fun q=>q.1)=ks.map D.tkey)/\Reps vs (kv.map fun q=>q.2)
 | .ins C ns vs,v=>∃x dx fs,v= .ref x/\H x=some (.ins C dx fs)/\H dx=some (.own x)/\fs.map (fun q=>q.1)=ns/\Reps vs (fs.map fun q=>q.2)
noncomputable def Reps:List D->List V->Prop
 | [],xs=>xs=[]
 | d::ds,xs=>∃x r,xs=x::r/\Rep d x/\Reps ds r
end
end
section
variable{K:Zh7}{H H':Hp}
mutual
theorem Rep.mono(s:Same H H'):∀{d:D} {v:V},Rep K H d v->Rep K H' d v
 | .non,_,h=>by simpa[Rep] using h
 | .bl _,_,h=>by simpa[Rep] using h
 | .int _,_,h=>by simpa[Rep] using h
 | .str _,_,h=>by simpa[Rep] using h
 | .lst ds,_,h=>by
  rw[Rep] at h ⊢
  obtain⟨p,xs,e,q,r⟩:=h
  exact⟨p,xs,e,SqL.same s q,Reps.mono s r⟩
 | .tup ds,_,h=>by
  rw[Rep] at h ⊢
  obtain⟨p,xs,e,q,r,t⟩:=h
  exact⟨p,xs,e,SqT.same s q,Reps.mono s r,fun z=>s _ _ (t z)⟩
 | .dct ks vs,_,h=>by
  rw[Rep] at h ⊢
  obtain⟨p,kv,e,q,r1,r2⟩:=h
  exact⟨p,kv,e,s _ _ q,Reps.mono s r1,Reps.mono s r2⟩
 | .dctT ks vs,_,h=>by
  rw[Rep] at h ⊢
  obtain⟨p,kv,e,⟨o,q⟩,r1,r2⟩:=h
  exact⟨p,kv,e,⟨o,s _ _ q⟩,r1,Reps.mono s r2⟩
 | .ins C ns vs,_,h=>by
  rw[Rep] at h ⊢
  obtain⟨x,dx,fs,e,q1,q2,hn,r⟩:=h
  exact⟨x,dx,fs,e,s _ _ q1,s _ _ q2,hn,Reps.mono s r⟩
theorem Reps.mono(s:Same H H'):∀{ds:List D} {xs:List V},Reps K H ds xs->Reps K H' ds xs
 | [],_,h=>by simpa[Reps] using h
 | d::ds,_,h=>by
  rw[Reps] at h ⊢
  obtain⟨x,r,e,a,b⟩:=h
  exact⟨x,r,e,Rep.mono s a,Reps.mono s b⟩
end
theorem Reps.nil:Reps K H [] []:=by rw[Reps]
theorem Reps.cons{d:D}{ds:List D}{x:V}{xs:List V}(a:Rep K H d x)(b:Reps K H ds xs):Reps K H (d::ds) (x::xs):=by rw[Reps];exact⟨x,xs,rfl,a,b⟩
theorem Reps.length:∀{ds:List D} {xs:List V},Reps K H ds xs->ds.length=xs.length
 | [],_,h=>by rw[Reps] at h;subst h;rfl
 | d::ds,_,h=>by
  rw[Reps] at h
  obtain⟨x,r,rfl,_,b⟩:=h
  simp[b.length]
theorem Reps.get:∀{ds:List D} {xs:List V} {i:Nat} {x:V},Reps K H ds xs->xs[i]? = some x-> ∃d,ds[i]? = some d/\Rep K H d x
 | [],_,_,_,h,e=>by rw[Reps] at h;subst h;simp at e
 | d::ds,_,0,_,h,e=>by
  rw[Reps] at h
  obtain⟨y,r,rfl,a,_⟩:=h
  cases e
  exact⟨d,rfl,a⟩
 | d::ds,_,i+1,_,h,e=>by
  rw[Reps] at h
  obtain⟨y,r,rfl,_,b⟩:=h
  exact Reps.get (i:=i) b e
theorem Reps.get':∀{ds:List D} {xs:List V} {i:Nat} {d:D},Reps K H ds xs->ds[i]? = some d-> ∃x,xs[i]? = some x/\Rep K H d x:=fun {ds xs i d} h e=>by
 have hl:=h.length
 have hi:=(Zif.mp e).1
 obtain⟨d',e',r⟩:=h.get (i:=i) (x:=xs[i]'(by lia)) (Zh9 _)
 rw[e] at e';cases e'
 exact⟨_,Zh9 _,r⟩
theorem Reps.append:∀{ds es:List D} {xs ys:List V},Reps K H ds xs->Reps K H es ys->Reps K H (ds++es) (xs++ys)
 | [],_,_,_,h,h2=>by rw[Reps] at h;subst h;exact h2
 | d::ds,_,_,_,h,h2=>by
  rw[Reps] at h
  obtain⟨y,r,rfl,a,b⟩:=h
  exact Reps.cons a (Reps.append b h2)
theorem Reps.snoc{ds:List D}{xs:List V}{d:D}{x:V}(h:Reps K H ds xs)(a:Rep K H d x):Reps K H (ds++[d]) (xs++[x]):=h.append (.cons a .nil)
theorem Reps.drop:∀(n:Nat) {ds:List D} {xs:List V},Reps K H ds xs->Reps K H (ds.drop n) (xs.drop n)
 | 0,_,_,h=>h
 | n+1,[],_,h=>by rw[Reps] at h;subst h;exact Reps.nil
 | n+1,d::ds,_,h=>by
  rw[Reps] at h
  obtain⟨y,r,rfl,_,b⟩:=h
  exact Reps.drop n b
theorem Reps.take:∀(n:Nat) {ds:List D} {xs:List V},Reps K H ds xs->Reps K H (ds.take n) (xs.take n)
 | 0,_,_,h=>Reps.nil
 | n+1,[],_,h=>by rw[Reps] at h;subst h;exact Reps.nil
 | n+1,d::ds,_,h=>by
  rw[Reps] at h
  obtain⟨y,r,rfl,a,b⟩:=h
  exact Reps.cons a (Reps.take n b)
theorem Rep.lst{ds:List D}{p:Addr}{xs:List V}(q:SqL K H p xs)(r:Reps K H ds xs):Rep K H (.lst ds) (.ref p):=by rw[Rep];exact⟨p,xs,rfl,q,r⟩
theorem Rep.tup{ds:List D}{p:Addr}{xs:List V}(q:SqT K H p xs)(r:Reps K H ds xs)(t:zgv ds=true->H p=some (.tup xs)):Rep K H (.tup ds) (.ref p):=by rw[Rep];exact⟨p,xs,rfl,q,r,t⟩
theorem Rep.tupN{ds:List D}{p:Addr}{xs:List V}(q:H p=some (.tup xs))(r:Reps K H ds xs):Rep K H (.tup ds) (.ref p):=Rep.tup (SqT.of q) r fun _=>q
theorem Rep.int{i:Int}:Rep K H (.int i) (.int i):=by rw[Rep]
theorem Rep.bl{b:Bool}:Rep K H (.bl b) (.bl b):=by rw[Rep]
theorem Rep.str{l:List Nat}(h:∀c∈l,c<128):Rep K H (.str l) (.str (T l)):=by rw[Rep];exact⟨rfl,h⟩
theorem Rep.non:Rep K H .non .non:=by rw[Rep]
theorem Rep.of_int{i:Int}{v:V}(h:Rep K H (.int i) v):v= .int i:=by rw[Rep] at h;exact h
theorem Rep.of_bl{b:Bool}{v:V}(h:Rep K H (.bl b) v):v= .bl b:=by rw[Rep] at h;exact h
theorem Rep.of_str{l:List Nat}{v:V}(h:Rep K H (.str l) v):v= .str (T l):=by rw[Rep] at h;exact h.1
theorem Rep.asc{l:List Nat}{v:V}(h:Rep K H (.str l) v):∀c∈l,c<128:=by rw[Rep] at h;exact h.2
theorem Rep.of_non{v:V}(h:Rep K H .non v):v= .non:=by rw[Rep] at h;exact h
theorem Rep.of_lst{ds:List D}{v:V}(h:Rep K H (.lst ds) v):∃p xs,v= .ref p/\SqL K H p xs/\Reps K H ds xs:=by rw[Rep] at h;exact h
theorem Rep.of_tup{ds:List D}{v:V}(h:Rep K H (.tup ds) v):∃p xs,v= .ref p/\SqT K H p xs/\Reps K H ds xs:=by rw[Rep] at h;obtain⟨p,xs,e,q,r,_⟩:=h;exact⟨p,xs,e,q,r⟩
theorem Rep.trk{ds:List D}{v:V}(h:Rep K H (.tup ds) v)(z:zgv ds=true):∃p xs,v= .ref p/\H p=some (.tup xs)/\Reps K H ds xs:=by rw[Rep] at h;obtain⟨p,xs,e,_,r,t⟩:=h;exact⟨p,xs,e,t z,r⟩
theorem Reps.ints{p:Addr}:∀(ns:List Int),Reps K H (ns.map D.int) (ns.map V.int)
 | []=>Reps.nil
 | n::ns=>Reps.cons Rep.int (Reps.ints (p:=p) ns)
end
noncomputable def NT:HO->Prop
 | .tup _=>False
 | _=>True
structure Ext(G Hz F H:Hp):Prop where
 gf:Same G F
 fh:Same F H
 hh:Same Hz H
 no:∀b o,Hz b=some o->NT o->F b=G b
theorem Ext.refl{G H:Hp}(s:Same G H):Ext G H G H:=⟨Same.refl _,s,Same.refl _,fun _ _ _ _=>rfl⟩
theorem Ext.trans{G H F1 H1 F2 H2:Hp}(a:Ext G H F1 H1)(b:Ext F1 H1 F2 H2):Ext G H F2 H2 :=
 ⟨a.gf.trans b.gf,b.fh,a.hh.trans b.hh,fun c o e n=>(b.no c o (a.hh c o e) n).trans (a.no c o e n)⟩
theorem Ext.newF{G Hz F H:Hp}(x:Ext G Hz F H){p:Addr}{o:HO}(hp:H p=none):Ext G Hz (upd F p o) (upd H p o):=by
 have fp:F p=none:=x.fh.free hp
 refine⟨x.gf.trans (Same.upd fp),fun b u e=>?_,x.hh.trans (Same.upd hp),fun b u e n=>?_⟩
 .by_cases hb:b=p
  .subst hb;rw[zam] at e ⊢;exact e
  .rw[zav hb] at e ⊢;exact x.fh b u e
 .have hb:b≠p:=fun z=>by subst z;have:=x.hh b u e;rw[hp] at this;cases this
  rw[zav hb];exact x.no b u e n
theorem Ext.newO{G Hz F H:Hp}(x:Ext G Hz F H){p:Addr}{o:HO}(hp:H p=none):Ext G Hz F (upd H p o) :=
 ⟨x.gf,x.fh.trans (Same.upd hp),x.hh.trans (Same.upd hp),x.no⟩
theorem Ext.write{G Hz F H:Hp}(x:Ext G Hz F H){p:Addr}{o:HO}(fp:F p=none)(hp:Hz p=none):Ext G Hz F (upd H p o) :=
 ⟨x.gf,fun b u e=>by rw[zav (zba e fp)];exact x.fh b u e,fun b u e=>by rw[zav (zba e hp)];exact x.hh b u e,x.no⟩
theorem Ext.freeze{G Hz F H:Hp}(x:Ext G Hz F H){p:Addr}{o:HO}(fp:F p=none)(hp:Hz p=none)(e:H p=some o):Ext G Hz (upd F p o) H:=by
 refine⟨x.gf.trans (Same.upd fp),fun b u q=>?_,x.hh,fun b u q n=>?_⟩
 .by_cases hb:b=p
  .subst hb;rw[zam] at q;cases q;exact e
  .rw[zav hb] at q;exact x.fh b u q
 .rw[zav (zba q hp)];exact x.no b u q n
inductive Sl where
 | un | d (x:D) | o (p:Addr) (xs:List D) | oo (p:Addr) (qs:List (Addr×List D)) | g (v:V) (as:List Addr) (W:Hp->Hp->Prop)
noncomputable def Sl.ads:Sl->List Addr
 | .un=>[] | .d _=>[] | .o p _=>[p] | .oo p qs=>p::qs.map (·.1) | .g _ as _=>as
noncomputable def OwnL(K:Zh7)(Hz F H:Hp)(p:Addr)(xs:List D):Prop:=Hz p=none/\F p=none /\ ∃vs,H p=some (.lst vs)/\Reps K F xs vs
noncomputable def Stab(as:List Addr)(W:Hp->Hp->Prop):Prop:=∀F1 H1 F2 H2:Hp,Same F1 F2->(∀a∈as,H2 a=H1 a)->W F1 H1->W F2 H2
noncomputable def SlOk(K:Zh7)(Hz F H:Hp)(ov:Option V):Sl->Prop
 | .un=>True
 | .d x=>∃v,ov=some v/\Rep K F x v
 | .o p xs=>ov=some (.ref p)/\OwnL K Hz F H p xs
 | .oo p qs=>ov=some (.ref p)/\Hz p=none/\F p=none/\H p=some (.lst (qs.map fun q=>V.ref q.1)) /\ ∀q∈qs,OwnL K Hz F H q.1 q.2
 | .g v as W=>ov=some v/\(∀a∈as,Hz a=none/\F a=none /\ ∃o,H a=some o/\NT o)/\W F H/\Stab as W
structure Sat(K:Zh7)(G Hz L F H:Hp)(O:St)(ss:List Sl):Prop where
 ext:Ext G Hz F H
 fl:Same L F
 len:O.length=ss.length
 ok:∀(i:Nat) s,ss[i]? = some s->SlOk K Hz F H (O.getD i none) s
 nd:∀(i:Nat) s,ss[i]? = some s->s.ads.Nodup
 ne:∀(i j:Nat) s s',i≠j->ss[i]? = some s->ss[j]? = some s'-> ∀p∈s.ads,p∉s'.ads
section
variable{K:Zh7}{Hz F H F' H':Hp}
theorem OwnL.ext2{p:Addr}{xs:List D}(h:OwnL K Hz F H p xs)(e:Ext F H F' H'):OwnL K Hz F' H' p xs:=by
 obtain⟨h0,fp,vs,hp,r⟩:=h
 exact⟨h0,(e.no p _ hp trivial).trans fp,vs,e.hh p _ hp,r.mono e.gf⟩
theorem SlOk.ext2{ov:Option V}{s:Sl}(h:SlOk K Hz F H ov s)(e:Ext F H F' H'):SlOk K Hz F' H' ov s:=by
 cases s with
 | un=>trivial
 | d x=>obtain⟨v,ev,r⟩:=h;exact⟨v,ev,r.mono e.gf⟩
 | o p xs=>exact⟨h.1,h.2.ext2 e⟩
 | oo p qs =>
  obtain⟨ev,h0,fp,hp,hq⟩:=h
  exact⟨ev,h0,(e.no p _ hp trivial).trans fp,e.hh p _ hp,fun q hm=>(hq q hm).ext2 e⟩
 | g v as W =>
  obtain⟨ev,ha,hw,st⟩:=h
  refine⟨ev,fun a hm=>?_,st _ _ _ _ e.gf (fun a hm=>?_) hw,st⟩
  .obtain⟨h0,fa,o,ho,nt⟩:=ha a hm
   exact⟨h0,(e.no a _ ho nt).trans fa,o,e.hh a _ ho,nt⟩
  .obtain⟨h0,fa,o,ho,nt⟩:=ha a hm
   rw[e.hh a _ ho,ho]
theorem OwnL.updNe{p a:Addr}{o:HO}{xs:List D}(h:OwnL K Hz F H p xs)(hn:p≠a):OwnL K Hz F (upd H a o) p xs:=by
 obtain⟨h0,fp,vs,hp,r⟩:=h
 exact⟨h0,fp,vs,by rw[zav hn];exact hp,r⟩
theorem SlOk.updNe{ov:Option V}{s:Sl}{a:Addr}{o:HO}(h:SlOk K Hz F H ov s)(hn:a∉s.ads):SlOk K Hz F (upd H a o) ov s:=by
 cases s with
 | un=>trivial
 | d x=>exact h
 | o p xs=>exact⟨h.1,h.2.updNe fun z=>hn (by simp[Sl.ads,z])⟩
 | oo p qs =>
  obtain⟨ev,h0,fp,hp,hq⟩:=h
  refine⟨ev,h0,fp,by rw[zav fun z=>hn (by simp[Sl.ads,z])];exact hp,fun q hm=>(hq q hm).updNe fun z=>hn ?_⟩
  rw[<- z]
  exact Zij _ (Zko hm)
 | g v as W =>
  obtain⟨ev,ha,hw,st⟩:=h
  have hne:∀b∈as,b≠a:=fun b hm z=>hn (by rw[<- z];exact hm)
  refine⟨ev,fun b hm=>?_,st _ _ _ _ (Same.refl _) (fun b hm=>zav (hne b hm)) hw,st⟩
  obtain⟨h0,fa,x,ho,nt⟩:=ha b hm
  exact⟨h0,fa,x,by rw[zav (hne b hm)];exact ho,nt⟩
theorem OwnL.frz{p a:Addr}{o:HO}{xs:List D}(h:OwnL K Hz F H p xs)(fa:F a=none)(hn:p≠a):OwnL K Hz (upd F a o) H p xs:=by
 obtain⟨h0,fp,vs,hp,r⟩:=h
 exact⟨h0,by rw[zav hn];exact fp,vs,hp,r.mono (Same.upd fa)⟩
theorem SlOk.frz{ov:Option V}{s:Sl}{a:Addr}{o:HO}(h:SlOk K Hz F H ov s)(fa:F a=none)(hn:a∉s.ads):SlOk K Hz (upd F a o) H ov s:=by
 cases s with
 | un=>trivial
 | d x=>obtain⟨v,ev,r⟩:=h;exact⟨v,ev,r.mono (Same.upd fa)⟩
 | o p xs=>exact⟨h.1,h.2.frz fa fun z=>hn (by simp[Sl.ads,z])⟩
 | oo p qs =>
  obtain⟨ev,h0,fp,hp,hq⟩:=h
  refine⟨ev,h0,by rw[zav fun z=>hn (by simp[Sl.ads,z])];exact fp,hp,fun q hm=>(hq q hm).frz fa fun z=>hn ?_⟩
  rw[<- z]
  exact Zij _ (Zko hm)
 | g v as W =>
  obtain⟨ev,ha,hw,st⟩:=h
  have hne:∀b∈as,b≠a:=fun b hm z=>hn (by rw[<- z];exact hm)
  refine⟨ev,fun b hm=>?_,st _ _ _ _ (Same.upd fa) (fun _ _=>rfl) hw,st⟩
  obtain⟨h0,fb,x,ho,nt⟩:=ha b hm
  exact⟨h0,by rw[zav (hne b hm)];exact fb,x,ho,nt⟩
theorem SlOk.live{ov:Option V}{s:Sl}(h:SlOk K Hz F H ov s){p:Addr}(hp:p∈s.ads):H p≠none:=by
 cases s with
 | un=>simp[Sl.ads] at hp
 | d x=>simp[Sl.ads] at hp
 | o q xs =>
  obtain⟨_,_,_,vs,hq,_⟩:=h
  simp[Sl.ads] at hp;subst hp;rw[hq];simp
 | oo q qs =>
  obtain⟨ev,h0,fp,hq,hqs⟩:=h
  rcases Ziy.mp hp with rfl | hp
  .rw[hq];simp
  .obtain⟨r,hr,rfl⟩:=Zit.mp hp
   obtain⟨_,_,vs,hv,_⟩:=hqs r hr
   rw[hv];simp
 | g v as W =>
  obtain⟨ev,ha,hw,st⟩:=h
  obtain⟨_,_,x,ho,_⟩:=ha p hp
  rw[ho];simp
end
section
variable{K:Zh7}{G Hz L F H F' H':Hp}{O:St}{ss:List Sl}
theorem Sat.ext2(S:Sat K G Hz L F H O ss)(e:Ext F H F' H'):Sat K G Hz L F' H' O ss :=
 ⟨S.ext.trans e,S.fl.trans e.gf,S.len,fun i s hs=>(S.ok i s hs).ext2 e,S.nd,S.ne⟩
theorem Sat.get(S:Sat K G Hz L F H O ss){i:Nat}{s:Sl}(hs:ss[i]? = some s)(hn:s ≠ .un):∃v,O[i]? = some (some v)/\SlOk K Hz F H (some v) s:=by
 have hi:i<O.length:=by rw[S.len];exact(Zif.mp hs).1
 have:=S.ok i s hs
 rw[Zh8,Zh9 hi] at this
 simp only[Zn6] at this
 cases hv:O[i] with
 | none =>
  rw[hv] at this
  cases s with
  | un=>exact absurd rfl hn
  | d x=>obtain⟨v,ev,_⟩:=this;cases ev
  | o p xs=>obtain⟨ev,_⟩:=this;cases ev
  | oo p qs=>obtain⟨ev,_⟩:=this;cases ev
  | g v as W=>obtain⟨ev,_⟩:=this;cases ev
 | some v =>
  rw[hv] at this
  exact⟨v,by rw[Zh9 hi,hv],this⟩
theorem Sat.getD(S:Sat K G Hz L F H O ss){i:Nat}{x:D}(hs:ss[i]? = some (.d x)):∃v,O[i]? = some (some v)/\Rep K F x v:=by
 obtain⟨v,e,w,ew,r⟩:=S.get hs (by intro z;cases z)
 cases ew
 exact⟨v,e,r⟩
theorem Sat.getO(S:Sat K G Hz L F H O ss){i:Nat}{p:Addr}{xs:List D}(hs:ss[i]? = some (.o p xs)):O[i]? = some (some (.ref p))/\OwnL K Hz F H p xs:=by
 obtain⟨v,e,ew,r⟩:=S.get hs (by intro z;cases z)
 cases ew
 exact⟨e,r⟩
theorem zb9{O:St}{i:Nat}{v:Option V}(h:i<O.length):(O.set i v).getD i none=v:=by
 rw[Zh8,Zj8 h];rfl
theorem zcj{O:St}{i j:Nat}{v:Option V}(h:i≠j):(O.set i v).getD j none=O.getD j none:=by
 rw[Zh8,Zlc h,Zh8]
theorem zh4{i j:Nat}{s t:Sl}(h:(ss.set i s)[j]? = some t):(i=j/\t=s/\i<ss.length)\/(i≠j/\ss[j]? = some t):=by
 by_cases hj:i=j
 .subst hj
  have hi:=(Zif.mp h).1
  rw[Zp6] at hi
  rw[Zj8 hi] at h
  exact .inl ⟨rfl,(Zj9 h).symm,hi⟩
 .rw[Zlc hj] at h;exact .inr ⟨hj,h⟩
theorem Sat.put{O':St}(S:Sat K G Hz L F H O ss){i:Nat}{s:Sl}(ex:Ext G Hz F' H')(fl:Same L F')(hl:O'.length=O.length)(hσ:∀j,j≠i->O'.getD j none=O.getD j none)(hi:i<ss.length->SlOk K Hz F' H' (O'.getD i none) s)
  (nd:s.ads.Nodup) (dj:∀(j:Nat) s',j≠i->ss[j]? = some s'-> ∀p∈s.ads,p∉s'.ads) (st:∀(j:Nat) s',j≠i->ss[j]? = some s'->SlOk K Hz F' H' (O.getD j none) s'):Sat K G Hz L F' H' O' (ss.set i s):=by
 refine⟨ex,fl,by rw[Zp6,hl,S.len],fun j t ht=>?_,fun j t ht=>?_,fun j k t u hjk ht hu=>?_⟩
 .rcases zh4 ht with ⟨rfl,rfl,hlt⟩ | ⟨hj,ht⟩
  .exact hi hlt
  .rw[hσ j (Zju hj)];exact st j t (Zju hj) ht
 .rcases zh4 ht with ⟨rfl,rfl,_⟩ | ⟨hj,ht⟩
  .exact nd
  .exact S.nd j t ht
 .rcases zh4 ht with ⟨rfl,rfl,_⟩ | ⟨hj,ht'⟩
  .rcases zh4 hu with ⟨rfl,rfl,_⟩ | ⟨hk,hu'⟩
   .exact absurd rfl hjk
   .exact dj k u (Zju hk) hu'
  .rcases zh4 hu with ⟨rfl,rfl,_⟩ | ⟨hk,hu'⟩
   .exact fun p hp hp'=>dj j t (Zju hj) ht' p hp' hp
   .exact S.ne j k t u hjk ht' hu'
theorem Sat.setD(S:Sat K G Hz L F H O ss){i:Nat}{x:D}{v:V}(r:Rep K F x v):Sat K G Hz L F H (O.set i (some v)) (ss.set i (.d x)) :=
 S.put S.ext S.fl (by simp) (fun j hj=>zcj (Zju hj)) (fun hi=>by rw[zb9 (by rw[S.len];exact hi)];exact⟨v,rfl,r⟩) (by simp[Sl.ads]) (fun _ _ _ _ p hp=>by simp[Sl.ads] at hp) fun j s' _ h=>S.ok j s' h
theorem Sat.setO(S:Sat K G Hz L F H O ss){i:Nat}{xs:List D}{p:Addr}(r:OwnL K Hz F H p xs)(hne:∀(j:Nat) s',j≠i->ss[j]? = some s'->p∉s'.ads):Sat K G Hz L F H (O.set i (some (.ref p))) (ss.set i (.o p xs)) :=
 S.put S.ext S.fl (by simp) (fun j hj=>zcj (Zju hj)) (fun hi=>by rw[zb9 (by rw[S.len];exact hi)];exact⟨rfl,r⟩) (by simp[Sl.ads]) (fun j s' hj h q hq=>by simp[Sl.ads] at hq;subst hq;exact hne j s' hj h) fun j s' _ h=>S.ok j s' h
theorem Sat.write(S:Sat K G Hz L F H O ss){i:Nat}{xs ys:List D}{p:Addr}{vs:List V}(hs:ss[i]? = some (.o p xs))(r:Reps K F ys vs):Sat K G Hz L F (upd H p (.lst vs)) O (ss.set i (.o p ys)):=by
 obtain⟨e,h0,fp,ws,hp,_⟩:=S.getO hs
 have hget:O.getD i none=some (.ref p):=by rw[Zh8,e];rfl
 refine S.put (S.ext.write fp h0) S.fl rfl (fun _ _=>rfl) (fun _=>by rw[hget];exact⟨rfl,h0,fp,vs,zam,r⟩) (by simp[Sl.ads]) (fun j s' hj h q hq=>?_) fun j s' hj h=>(S.ok j s' h).updNe (S.ne i j _ s' (Zju hj) hs h p (by simp[Sl.ads]))
 simp[Sl.ads] at hq;subst hq
 exact S.ne i j _ s' (Zju hj) hs h q (by simp[Sl.ads])
theorem Sat.freeze(S:Sat K G Hz L F H O ss){i:Nat}{p:Addr}{xs:List D}(hs:ss[i]? = some (.o p xs)):∃F',Sat K G Hz L F' H O (ss.set i (.d (.lst xs))):=by
 obtain⟨e,h0,fp,vs,hp,r⟩:=S.getO hs
 have hget:O.getD i none=some (.ref p):=by rw[Zh8,e];rfl
 exact⟨upd F p (.lst vs),S.put (S.ext.freeze fp h0 hp) (S.fl.trans (Same.upd fp)) rfl (fun _ _=>rfl) (fun _=>by rw[hget];exact⟨_,rfl,Rep.lst (SqL.of zam) (r.mono (Same.upd fp))⟩) (by simp[Sl.ads]) (fun _ _ _ _ q hq=>by simp[Sl.ads] at hq)
  fun j s' hj h=>(S.ok j s' h).frz fp (S.ne i j _ s' (Zju hj) hs h p (by simp[Sl.ads]))⟩
theorem Sat.raise(S:Sat K G Hz L F H O ss):Sat K G Hz F F H O ss:=⟨S.ext,Same.refl _,S.len,S.ok,S.nd,S.ne⟩
theorem Sat.lower{L':Hp}(S:Sat K G Hz L' F H O ss)(h:Same L L'):Sat K G Hz L F H O ss:=⟨S.ext,h.trans S.fl,S.len,S.ok,S.nd,S.ne⟩
end
section
variable(K:Zh7)(G Hz L:Hp)(ss:List Sl)
noncomputable def Ev(t:TE)(d:D):Prop:=∀F H O Q,Sat K G Hz L F H O ss->(∀v F' H',Ext F H F' H'->Rep K F' d v->Q v H')->t O H Q
noncomputable def EvO(t:TE)(ds:List D):Prop:=∀F H O Q,Sat K G Hz L F H O ss->(∀p vs F' H',Ext F H F' H'->H p=none->F' p=none->H' p=some (.lst vs)->Reps K F' ds vs->Q (.ref p) H')->t O H Q
noncomputable def EvL(t:TE)(ds:List D):Prop:=∀F H O Q,Sat K G Hz L F H O ss->(∀p vs F' H',Ext F H F' H'->SqL K H' p vs->Reps K F' ds vs->Q (.ref p) H')->t O H Q
noncomputable def EvB(t:TE)(d:D):Prop:=∀F H O Q,Sat K G Hz L F H O ss->(∀v F' H',Ext F H F' H'->Rep K H' d v->Q v H')->t O H Q
noncomputable def EvT(t:TT)(b:Bool):Prop:=∀F H O (Q:Bool->Hp->Prop),Sat K G Hz L F H O ss->(∀F' H',Ext F H F' H'->Q b H')->t O H Q
noncomputable def EvA(t:TA)(ds:List D):Prop:=∀F H O (Q:List V->Hp->Prop),Sat K G Hz L F H O ss->(∀vs F' H',Ext F H F' H'->Reps K H' ds vs->Q vs H')->t O H Q
noncomputable def EvAF(t:TA)(ds:List D):Prop:=∀F H O (Q:List V->Hp->Prop),Sat K G Hz L F H O ss->(∀vs F' H',Ext F H F' H'->Reps K F' ds vs->Q vs H')->t O H Q
end
section
variable{K:Zh7}{G Hz L:Hp}{ss:List Sl}{t ta tb:TE}{d d1 d2:D}{ds es:List D}
theorem EvO.ev(h:EvO K G Hz L ss t ds):Ev K G Hz L ss t (.lst ds):=fun F H O Q S q=>h F H O Q S fun p vs F' H' e hp fp hp' r=>q _ _ _ (e.freeze fp hp hp') (Rep.lst (SqL.of zam) (r.mono (Same.upd fp)))
theorem EvO.l(h:EvO K G Hz L ss t ds):EvL K G Hz L ss t ds:=fun F H O Q S q=>h F H O Q S fun p vs F' H' e hp fp hp' r=>q _ _ _ _ e (SqL.of hp') r
theorem Ev.l(h:Ev K G Hz L ss t (.lst ds)):EvL K G Hz L ss t ds:=fun F H O Q S q=>h F H O Q S fun v F' H' e r=>by
 obtain⟨p,xs,rfl,sq,rs⟩:=r.of_lst
 exact q _ _ _ _ e (SqL.same e.fh sq) rs
theorem Ev.b(h:Ev K G Hz L ss t d):EvB K G Hz L ss t d:=fun F H O Q S q=>h F H O Q S fun v F' H' e r=>q _ _ _ e (r.mono e.fh)
theorem EvL.b(h:EvL K G Hz L ss t ds):EvB K G Hz L ss t (.lst ds):=fun F H O Q S q=>h F H O Q S fun p vs F' H' e sq r=>q _ _ _ e (Rep.lst sq (r.mono e.fh))
theorem zaa{i:Nat}(hs:ss[i]? = some (.d d)):Ev K G Hz L ss (tVar i) d:=fun F H O Q S q=>by
 obtain⟨v,e,r⟩:=S.getD hs
 exact⟨v,e,q _ _ _ (Ext.refl S.ext.fh) r⟩
theorem zo5{i:Nat}{p:Addr}(hs:ss[i]? = some (.o p ds)):EvL K G Hz L ss (tVar i) ds:=fun F H O Q S q=>by
 obtain⟨e,h0,fp,vs,hp,r⟩:=S.getO hs
 exact⟨.ref p,e,q _ _ _ _ (Ext.refl S.ext.fh) (SqL.of hp) r⟩
theorem zaj{i:Int}:Ev K G Hz L ss (tC (.int i)) (.int i):=fun F H O Q S q=>q _ _ _ (Ext.refl S.ext.fh) Rep.int
theorem zfv{b:Bool}:Ev K G Hz L ss (tC (.bl b)) (.bl b):=fun F H O Q S q=>q _ _ _ (Ext.refl S.ext.fh) Rep.bl
theorem zbw{x:Str}{l:List Nat}(h:x=T l)(ha:∀c∈l,c<128):Ev K G Hz L ss (tC (.str x)) (.str l):=fun F H O Q S q=>by subst h;exact q _ _ _ (Ext.refl S.ext.fh) (Rep.str ha)
theorem zf9{r:R2}{w:V}(a:EvB K G Hz L ss ta d1)(b:EvB K G Hz L ss tb d2)(hr:∀H x y (Q:VK),Rep K H d1 x->Rep K H d2 y->Q w H->r x y H Q)(hw:∀F H x y,Rep K H d1 x->Rep K H d2 y->Rep K F d w):Ev K G Hz L ss (tOp r ta tb) d:=fun F H O Q S q =>
 a F H O _ S fun x F1 H1 e1 r1=>b F1 H1 O _ (S.ext2 e1) fun y F2 H2 e2 r2=>hr H2 x y Q (r1.mono e2.hh) r2 (q _ _ _ (e1.trans e2) (hw _ _ _ _ (r1.mono e2.hh) r2))
theorem zc3{i j:Int}(a:EvB K G Hz L ss ta (.int i))(b:EvB K G Hz L ss tb (.int j)):Ev K G Hz L ss (tOp (rI0 fun i j=>.int (i+j)) ta tb) (.int (i+j)) :=
 zf9 a b (fun H x y Q r1 r2 q=>⟨i,j,r1.of_int,r2.of_int,q⟩) fun _ _ _ _ _ _=>Rep.int
theorem yda{i j:Int}(a:EvB K G Hz L ss ta (.int i))(b:EvB K G Hz L ss tb (.int j)):Ev K G Hz L ss (tOp (rI0 fun i j=>.int (i - j)) ta tb) (.int (i - j)) :=
 zf9 a b (fun H x y Q r1 r2 q=>⟨i,j,r1.of_int,r2.of_int,q⟩) fun _ _ _ _ _ _=>Rep.int
theorem zt4{C:Int->Int->Prop}{g:Int->Int->Int}{i j:Int}(a:EvB K G Hz L ss ta (.int i))(b:EvB K G Hz L ss tb (.int j))(hC:C i j):Ev K G Hz L ss (tOp (rI C fun i j=>.int (g i j)) ta tb) (.int (g i j)) :=
 zf9 a b (fun H x y Q r1 r2 q=>⟨i,j,r1.of_int,r2.of_int,hC,q⟩) fun _ _ _ _ _ _=>Rep.int
theorem zm4{g:Int->Int->Bool}{i j:Int}(a:EvB K G Hz L ss ta (.int i))(b:EvB K G Hz L ss tb (.int j)):Ev K G Hz L ss (tOp (rI0 fun i j=>.bl (g i j)) ta tb) (.bl (g i j)) :=
 zf9 a b (fun H x y Q r1 r2 q=>⟨i,j,r1.of_int,r2.of_int,q⟩) fun _ _ _ _ _ _=>Rep.bl
theorem zgb{i j:Int}(a:EvB K G Hz L ss ta (.int i))(b:EvB K G Hz L ss tb (.int j)):Ev K G Hz L ss (tOp rEq ta tb) (.bl (decide (i=j))) :=
 zf9 (w:=.bl (decide (i=j))) a b (fun H x y Q r1 r2 q=>by rw[r1.of_int,r2.of_int];exact⟨rfl,by simpa using q⟩) fun _ _ _ _ _ _=>Rep.bl
theorem zol{i j:Int}(a:EvB K G Hz L ss ta (.int i))(b:EvB K G Hz L ss tb (.int j)):Ev K G Hz L ss (tOp rNe ta tb) (.bl (!decide (i=j))) :=
 zf9 (w:=.bl (!decide (i=j))) a b (fun H x y Q r1 r2 q=>by rw[r1.of_int,r2.of_int];exact⟨rfl,by simpa using q⟩) fun _ _ _ _ _ _=>Rep.bl
theorem zdd{l m:List Nat}(a:EvB K G Hz L ss ta (.str l))(b:EvB K G Hz L ss tb (.str m)):Ev K G Hz L ss (tOp rEq ta tb) (.bl (decide (l=m))) :=
 zf9 (w:=.bl (decide (l=m))) a b (fun H x y Q r1 r2 q=>by rw[r1.of_str,r2.of_str];exact⟨rfl,by rw[yba];exact q⟩) fun _ _ _ _ _ _=>Rep.bl
theorem ydj{l m:Bool}(a:EvB K G Hz L ss ta (.bl l))(b:EvB K G Hz L ss tb (.bl m)):Ev K G Hz L ss (tOp rEq ta tb) (.bl (decide (l=m))) :=
 zf9 (w:=.bl (decide (l=m))) a b (fun H x y Q r1 r2 q=>by rw[r1.of_bl,r2.of_bl];exact⟨rfl,by simpa using q⟩) fun _ _ _ _ _ _=>Rep.bl
theorem ztt{l m:Bool}(a:EvB K G Hz L ss ta (.bl l))(b:EvB K G Hz L ss tb (.bl m)):Ev K G Hz L ss (tOp rNe ta tb) (.bl (!decide (l=m))) :=
 zf9 (w:=.bl (!decide (l=m))) a b (fun H x y Q r1 r2 q=>by rw[r1.of_bl,r2.of_bl];exact⟨rfl,by simpa using q⟩) fun _ _ _ _ _ _=>Rep.bl
theorem Reps.atI{H:Hp}{ds:List D}{vs:List V}{i:Int}{d:D}(r:Reps K H ds vs)(h:L2.atI ds i=some d):∃v,L2.atI vs i=some v/\Rep K H d v:=by
 unfold L2.atI at h ⊢
 rw[r.length] at h
 cases hx:ixN vs.length i with
 | none=>rw[hx] at h;cases h
 | some j=>rw[hx] at h;exact r.get' h
theorem zdr{i:Int}(a:EvL K G Hz L ss ta ds)(b:EvB K G Hz L ss tb (.int i))(hc:atI ds i=some d):Ev K G Hz L ss (tOp (rIxL K) ta tb) d:=fun F H O Q S q =>
 a F H O _ S fun p vs F1 H1 e1 sq r1=>b F1 H1 O _ (S.ext2 e1) fun y F2 H2 e2 r2=>by
  obtain⟨v,hv,rv⟩:=r1.atI hc
  exact⟨p,vs,i,v,rfl,r2.of_int,SqL.same e2.hh sq,hv,q _ _ _ (e1.trans e2) (rv.mono e2.gf)⟩
theorem za0{i:Int}(a:Ev K G Hz L ss ta (.tup ds))(b:EvB K G Hz L ss tb (.int i))(hc:atI ds i=some d):Ev K G Hz L ss (tOp (rIxT K) ta tb) d:=fun F H O Q S q =>
 a F H O _ S fun x F1 H1 e1 r1=>b F1 H1 O _ (S.ext2 e1) fun y F2 H2 e2 r2=>by
  obtain⟨p,vs,rfl,sq,rs⟩:=r1.of_tup
  obtain⟨v,hv,rv⟩:=rs.atI hc
  exact⟨p,vs,i,v,rfl,r2.of_int,SqT.same (e1.fh.trans e2.hh) sq,hv,q _ _ _ (e1.trans e2) (rv.mono e2.gf)⟩
theorem zfh:EvA K G Hz L ss tNil []:=fun F H O Q S q=>q _ _ _ (Ext.refl S.ext.fh) Reps.nil
theorem zbm{t:TA}(a:EvB K G Hz L ss ta d)(b:EvA K G Hz L ss t ds):EvA K G Hz L ss (za7 ta t) (d::ds):=fun F H O Q S q =>
 a F H O _ S fun x F1 H1 e1 r1=>b F1 H1 O _ (S.ext2 e1) fun vs F2 H2 e2 r2=>q _ _ _ (e1.trans e2) (Reps.cons (r1.mono e2.hh) r2)
theorem zaf:EvAF K G Hz L ss tNil []:=fun F H O Q S q=>q _ _ _ (Ext.refl S.ext.fh) Reps.nil
theorem zac{t:TA}(a:Ev K G Hz L ss ta d)(b:EvAF K G Hz L ss t ds):EvAF K G Hz L ss (za7 ta t) (d::ds):=fun F H O Q S q =>
 a F H O _ S fun x F1 H1 e1 r1=>b F1 H1 O _ (S.ext2 e1) fun vs F2 H2 e2 r2=>q _ _ _ (e1.trans e2) (Reps.cons (r1.mono e2.gf) r2)
theorem zcd{t:TA}(a:EvAF K G Hz L ss t ds)(hz:ds.length<=sizeLine):Ev K G Hz L ss (tTup t) (.tup ds):=fun F H O Q S q =>
 a F H O _ S fun vs F1 H1 e1 r1=>⟨by rw[<- r1.length];exact hz,fun p hp=>q _ _ _ (e1.newF hp) (Rep.tupN (zam) (r1.mono (Same.upd (e1.fh.free hp))))⟩
theorem zbs{t:TA}(a:EvAF K G Hz L ss t ds)(hz:ds.length<=sizeLine):EvO K G Hz L ss (tLst t) ds:=fun F H O Q S q =>
 a F H O _ S fun vs F1 H1 e1 r1=>⟨by rw[<- r1.length];exact hz,fun p hp=>q p vs F1 _ (e1.newO hp) (e1.hh.free hp) (e1.fh.free hp) zam r1⟩
theorem zal{b:Bool}(a:Ev K G Hz L ss t (.bl b)):EvT K G Hz L ss (ygm t) b:=fun F H O Q S q=>a F H O _ S fun v F' H' e r=>⟨b,r.of_bl,q _ _ e⟩
theorem ze9{b:Bool}(a:Ev K G Hz L ss t (.bl b)):EvT K G Hz L ss (tB t) b:=fun F H O Q S q=>a F H O _ S fun v F' H' e r=>⟨b,r.of_bl,q _ _ e⟩
theorem zcf{u:TT}{b:Bool}(a:EvT K G Hz L ss u b):EvT K G Hz L ss (tNot u) (!b):=fun F H O Q S q=>a F H O _ S fun F' H' e=>q _ _ e
theorem zgn{u v:TT}{b c:Bool}(a:EvT K G Hz L ss u b)(h:b=true->EvT K G Hz L ss v c):EvT K G Hz L ss (tAnd u v) (b&&c):=fun F H O Q S q=>a F H O _ S fun F' H' e=>by
 cases b with
 | false=>exact iteF (q _ _ e)
 | true=>exact iteT (h rfl _ _ _ _ (S.ext2 e) fun F'' H'' e'=>q _ _ (e.trans e'))
theorem zcx{u v:TT}{b c:Bool}(a:EvT K G Hz L ss u b)(h:b=false->EvT K G Hz L ss v c):EvT K G Hz L ss (tOr u v) (b||c):=fun F H O Q S q=>a F H O _ S fun F' H' e=>by
 cases b with
 | true=>exact iteT (q _ _ e)
 | false=>exact iteF (h rfl _ _ _ _ (S.ext2 e) fun F'' H'' e'=>q _ _ (e.trans e'))
theorem zew{b c:Bool}(a:Ev K G Hz L ss ta (.bl b))(h:b=true->Ev K G Hz L ss tb (.bl c)):Ev K G Hz L ss (yh3 ta tb) (.bl (b&&c)):=fun F H O Q S q=>a F H O _ S fun v F' H' e r=>by
 refine⟨b,r.of_bl,?_⟩
 cases b with
 | false=>exact iteF (q _ _ _ e Rep.bl)
 | true=>exact iteT (h rfl _ _ _ _ (S.ext2 e) fun v F'' H'' e' r'=>q _ _ _ (e.trans e') r')
theorem yav{b c:Bool}(a:Ev K G Hz L ss ta (.bl b))(h:b=false->Ev K G Hz L ss tb (.bl c)):Ev K G Hz L ss (tOrV ta tb) (.bl (b||c)):=fun F H O Q S q=>a F H O _ S fun v F' H' e r=>by
 refine⟨b,r.of_bl,?_⟩
 cases b with
 | true=>exact iteT (q _ _ _ e Rep.bl)
 | false=>exact iteF (h rfl _ _ _ _ (S.ext2 e) fun v F'' H'' e' r'=>q _ _ _ (e.trans e') r')
theorem yco{b:Bool}(a:Ev K G Hz L ss ta (.bl b)):Ev K G Hz L ss (yid ta) (.bl (!b)):=fun F H O Q S q=>a F H O _ S fun v F' H' e r=>⟨b,r.of_bl,q _ _ _ e Rep.bl⟩
theorem ygy{u:TT}{b:Bool}(a:EvT K G Hz L ss u b)(h1:b=true->Ev K G Hz L ss ta d)(h2:b=false->Ev K G Hz L ss tb d):Ev K G Hz L ss (tIf u ta tb) d:=fun F H O Q S q=>a F H O _ S fun F' H' e=>by
 cases b with
 | true=>exact iteT (h1 rfl _ _ _ _ (S.ext2 e) fun v F'' H'' e' r'=>q _ _ _ (e.trans e') r')
 | false=>exact iteF (h2 rfl _ _ _ _ (S.ext2 e) fun v F'' H'' e' r'=>q _ _ _ (e.trans e') r')
end
noncomputable def SpD(K:Zh7)(pre:List D->Prop)(res:List D->D):Sp:=fun vs H Q _=>∃G ds,Same G H/\Reps K G ds vs/\pre ds /\ ∀v G' H',Ext G H G' H'->Rep K G' (res ds) v->Q v H'
noncomputable def SpO(K:Zh7)(pre:List D->Prop)(res:List D->List D):Sp:=fun vs H Q _=>∃G ds,Same G H/\Reps K G ds vs/\pre ds /\ ∀p ws G' H',Ext G H G' H'->H p=none->G' p=none->H' p=some (.lst ws)->Reps K G' (res ds) ws->Q (.ref p) H'
noncomputable def D.flat:D->Bool
 | .lst _=>false | .tup _=>false | .dct _ _=>false | .dctT _ _=>false | .ins _ _ _=>false | _=>true
theorem Rep.flat{K:Zh7}{H H':Hp}{d:D}{v:V}(f:d.flat=true)(r:Rep K H d v):Rep K H' d v:=by
 cases d with
 | lst _=>cases f
 | tup _=>cases f
 | dct _ _=>cases f
 | dctT _ _=>cases f
 | ins _ _ _=>cases f
 | non=>rw[r.of_non];exact Rep.non
 | bl b=>rw[r.of_bl];exact Rep.bl
 | int i=>rw[r.of_int];exact Rep.int
 | str l=>rw[r.of_str];exact Rep.str r.asc
section
variable{K:Zh7}{G Hz L:Hp}{ss:List Sl}{t:TA}{ds:List D}{pre:List D->Prop}{E:XK}
theorem zbq{res:List D->D}(a:EvAF K G Hz L ss t ds)(hp:pre ds):Ev K G Hz L ss (ze7 (SpD K pre res) [] E t) (res ds):=fun F H O Q S q =>
 a F H O _ S fun vs F1 H1 e1 r1=>⟨F1,ds,e1.fh,by rw[Zji];exact r1,hp,fun v G' H' e2 r=>q _ _ _ (e1.trans e2) r⟩
theorem ziu{res:List D->List D}(a:EvAF K G Hz L ss t ds)(hp:pre ds):EvO K G Hz L ss (ze7 (SpO K pre res) [] E t) (res ds):=fun F H O Q S q =>
 a F H O _ S fun vs F1 H1 e1 r1=>⟨F1,ds,e1.fh,by rw[Zji];exact r1,hp,fun p ws G' H' e2 h1 h2 h3 r=>q _ _ _ _ (e1.trans e2) (e1.hh.free h1) h2 h3 r⟩
theorem yaj{res:List D->D}(a:EvA K G Hz L ss t ds)(hp:pre ds)(hf:(res ds).flat=true):Ev K G Hz L ss (ze7 (SpD K pre res) [] E t) (res ds):=fun F H O Q S q =>
 a F H O _ S fun vs F1 H1 e1 r1=>⟨H1,ds,Same.refl _,by rw[Zji];exact r1,hp,fun v G' H' e2 r=>q v F1 H' (e1.trans ⟨Same.refl _,e1.fh.trans e2.hh,e2.hh,fun _ _ _ _=>rfl⟩) (r.flat hf)⟩
end
section
variable(K:Zh7)(G Hz L:Hp)
noncomputable def Nx(P:St->Hp->Prop)(ss:List Sl):Prop:=∀F H O,Sat K G Hz L F H O ss->P O H
noncomputable def Go(E:Ends)(ss:List Sl)(t:TS):Prop:=∀F H O,Sat K G Hz L F H O ss->t E O H
noncomputable def Tg(g:TG)(d:D)(ss ss':List Sl):Prop:=∀F H O v (Q:St->Hp->Prop),Sat K G Hz L F H O ss->Rep K F d v->(∀O' , Sat K G Hz L F H O' ss'->Q O' H)->g v O H Q
noncomputable def Tgs(g:TGs)(ds:List D)(ss ss':List Sl):Prop:=∀F H O vs (Q:St->Hp->Prop),Sat K G Hz L F H O ss->Reps K F ds vs->(∀O' , Sat K G Hz L F H O' ss'->Q O' H)->g vs O H Q
noncomputable def At(I:List Sl->Prop):St->Hp->Prop:=fun O H=>∃ss F,Sat K G Hz L F H O ss/\I ss
end
noncomputable def RtD(K:Zh7)(G Hz:Hp)(rt:VK)(d:D):Prop:=∀v F H,Ext G Hz F H->Rep K F d v->rt v H
noncomputable def RtO(K:Zh7)(G Hz:Hp)(rt:VK)(ds:List D):Prop:=∀p vs F H,Ext G Hz F H->Hz p=none->F p=none->H p=some (.lst vs)->Reps K F ds vs->rt (.ref p) H
section
variable{K:Zh7}{G Hz L:Hp}{ss ss':List Sl}{E:Ends}{t u:TS}{te:TE}{d:D}{ds:List D}{P:St->Hp->Prop}
theorem zak(h:Go K G Hz L { E with nx:=u E } ss t):Go K G Hz L E ss (tSeq t u):=h
theorem za3{i:Nat}(a:Ev K G Hz L ss te d)(h:Nx K G Hz L E.nx (ss.set i (.d d))):Go K G Hz L E ss (tAsg te (zfw i)):=fun F H O S=>a F H O _ S fun v F' H' e r=>h F' H' _ ((S.ext2 e).setD r)
theorem Sat.notin{F H:Hp}{O:St}{p:Addr}(S:Sat K G Hz L F H O ss)(hp:H p=none)(j:Nat)(s:Sl)(h:ss[j]? = some s):p∉s.ads:=fun z=>(S.ok j s h).live z hp
theorem Sat.newO{F H F' H':Hp}{O:St}{p:Addr}{vs:List V}{i:Nat}(S:Sat K G Hz L F H O ss)(e:Ext F H F' H')(hp:H p=none)(fp:F' p=none)(hp':H' p=some (.lst vs))(r:Reps K F' ds vs):Sat K G Hz L F' H' (O.set i (some (.ref p))) (ss.set i (.o p ds)) :=
 (S.ext2 e).setO ⟨S.ext.hh.free hp,fp,vs,hp',r⟩ fun j s _ h=>S.notin hp j s h
theorem zey{i:Nat}(a:EvO K G Hz L ss te ds)(h:∀p,Nx K G Hz L E.nx (ss.set i (.o p ds))):Go K G Hz L E ss (tAsg te (zfw i)):=fun F H O S=>a F H O _ S fun p vs F' H' e hp fp hp' r=>h p F' H' _ (S.newO e hp fp hp' r)
theorem ygz{g:TG}(a:Ev K G Hz L ss te d)(hg:Tg K G Hz L g d ss ss')(h:Nx K G Hz L E.nx ss'):Go K G Hz L E ss (tAsg te g):=fun F H O S=>a F H O _ S fun v F' H' e r=>hg F' H' O v _ (S.ext2 e) r fun O' S'=>h F' H' O' S'
theorem zbd{c:TT}{b:Bool}(a:EvT K G Hz L ss c b)(h1:b=true->Go K G Hz L E ss t)(h2:b=false->Go K G Hz L E ss u):Go K G Hz L E ss (tIfS c t u):=fun F H O S=>a F H O _ S fun F' H' e=>by
 cases b with
 | true=>exact iteT (h1 rfl F' H' O (S.ext2 e))
 | false=>exact iteF (h2 rfl F' H' O (S.ext2 e))
theorem za1(h:Nx K G Hz L E.nx ss):Go K G Hz L E ss yh5:=h
theorem za2(a:Ev K G Hz L ss te d)(h:RtD K G Hz E.rt d):Go K G Hz L E ss (tRet te):=fun F H O S=>a F H O _ S fun v F' H' e r=>h v F' H' (S.ext.trans e) r
theorem zia(a:EvO K G Hz L ss te ds)(h:RtO K G Hz E.rt ds):Go K G Hz L E ss (tRet te):=fun F H O S=>a F H O _ S fun p vs F' H' e hp fp hp' r=>h p vs F' H' (S.ext.trans e) (S.ext.hh.free hp) fp hp' r
theorem zxq{i:Nat}{p:Addr}(hs:ss[i]? = some (.o p ds))(h:RtO K G Hz E.rt ds):Go K G Hz L E ss (tRet (tVar i)):=fun F H O S=>by
 obtain⟨e,h0,fp,vs,hp,r⟩:=S.getO hs
 exact⟨.ref p,e,h p vs F H S.ext h0 fp hp r⟩
theorem zgt{i:Nat}{p:Addr}(hs:ss[i]? = some (.o p ds))(h:Nx K G Hz L P (ss.set i (.d (.lst ds)))):Nx K G Hz L P ss:=fun F H O S=>by
 obtain⟨F',S'⟩:=S.freeze hs
 exact h F' H O S'
theorem zap(h:Go K G Hz L E ss t):Nx K G Hz L (t E) ss:=h
theorem zvw{I:List Sl->Prop}(h:I ss):Nx K G Hz L (At K G Hz L I) ss:=fun F H O S=>⟨ss,F,S,h⟩
theorem zs7(I:List Sl->Prop)(h1:∀N:St->Hp->Prop,(∀ss,I ss->Nx K G Hz L N ss)->Go K G Hz L { E with nx:=N } ss t)(h2:∀ss,I ss->Go K G Hz L E ss u):Go K G Hz L E ss (tSeq t u):=h1 _ h2
theorem zan{i:Nat}:Tg K G Hz L (zfw i) d ss (ss.set i (.d d)):=fun F H O v Q S r q=>q _ (S.setD r)
theorem zb6:Tgs K G Hz L gNil [] ss ss:=fun F H O vs Q S r q=>by
 rw[Reps] at r
 exact⟨r,q _ S⟩
theorem zar{g:TG}{gs:TGs}{ss1 ss2:List Sl}(a:Tg K G Hz L g d ss ss1)(b:Tgs K G Hz L gs ds ss1 ss2):Tgs K G Hz L (zwh g gs) (d::ds) ss ss2:=fun F H O vs Q S r q=>by
 rw[Reps] at r
 obtain⟨x,xs,rfl,r1,r2⟩:=r
 exact⟨x,xs,rfl,a F H O x _ S r1 fun O' S'=>b F H O' xs _ S' r2 q⟩
theorem zcy{g:TGs}{n:Nat}(hn:ds.length=n)(a:Tgs K G Hz L g ds ss ss'):Tg K G Hz L (gTup K n g) (.tup ds) ss ss':=fun F H O v Q S r q=>by
 obtain⟨p,xs,rfl,sq,rs⟩:=r.of_tup
 exact⟨p,xs,rfl,SqT.same S.ext.fh sq,by rw[<- rs.length];exact hn,a F H O xs _ S rs q⟩
theorem zfk{i:Nat}{p:Addr}{t1:TE}(hs:ss[i]? = some (.o p ds))(a:Ev K G Hz L ss t1 d)(hz:ds.length<sizeLine)(h:Nx K G Hz L E.nx (ss.set i (.o p (ds++[d])))) :
  Go K G Hz L E ss (zz0 (tBM K "list" zm0 (tVar i) (za7 t1 tNil))):=fun F H O S=>by
 obtain⟨e,h0,fp,vs,hp,r⟩:=S.getO hs
 refine⟨.ref p,e,.inl ⟨rfl,_,SqL.of hp⟩,a F H O _ S fun v F' H' e' r'=>?_⟩
 have S':=S.ext2 e'
 obtain⟨e2,h02,fp2,vs',hp2,r2⟩:=S'.getO hs
 exact⟨p,vs',v,rfl,rfl,hp2,by rw[<- r2.length];exact hz,h F' _ O (S'.write hs (r2.snoc r'))⟩
theorem Rep.itl{F H:Hp}{p:Addr}(h:Same F H)(r:Rep K F (.lst ds) (.ref p)):∃vs,SqL K H p vs/\Reps K F ds vs:=by
 obtain⟨q,xs,e,sq,rs⟩:=r.of_lst
 cases e
 exact⟨xs,SqL.same h sq,rs⟩
theorem zcs{tl:TE}{g:TG}{tb:TS}{α:Type}(enc:α->D)(xs:List α)(I:Nat->List Sl->Prop)(a:Ev K G Hz L ss tl (.lst (xs.map enc)))(h0:I 0 ss)
  (hs:∀L' k x ss,Same L L'->xs[k]? = some x->I k ss-> ∃ss',Tg K G Hz L' g (enc x) ss ss' /\ ∀N,(∀ss,I (k+1) ss->Nx K G Hz L' N ss)->Go K G Hz L' { E with nx:=N,ct:=N,bk:=E.nx } ss' tb)
  (hd:∀ss,I xs.length ss->Nx K G Hz L E.nx ss):Go K G Hz L E ss (tFor (zs8 K tl) g tb):=fun F H O S =>
 a F H O _ S fun v F1 H1 e1 r1=>by
  obtain⟨p,vs,rfl,sq,rs⟩:=r1.of_lst
  refine⟨p,rfl,⟨vs,SqL.same e1.fh sq⟩,?_⟩
  refine⟨fun i m O' H'=>m=xs.length - i/\i<=xs.length/\At K G Hz F1 (I i) O' H',⟨_,rfl,Zjn _,ss,F1,(S.ext2 e1).raise,h0⟩,?_⟩
  rintro i m O' H' ⟨rfl,hi,ss1,F2,S2,h2⟩
  have rp:Rep K F2 (.lst (xs.map enc)) (.ref p):=r1.mono S2.fl
  obtain⟨ws,sq2,rs2⟩:=rp.itl S2.ext.fh
  have hlen:ws.length=xs.length:=by rw[<- rs2.length,Zia]
  by_cases hlt:i<xs.length
  .refine .inr ⟨⟨ws,ws[i]'(by lia),sq2,Zh9 _⟩,fun O'' H''=>At K G Hz F1 (I (i+1)) O'' H'',fun O'' H'' h=>⟨xs.length - (i+1),by lia,rfl,hlt,h⟩,fun x H'' y=>?_⟩
   obtain⟨rfl,y⟩:=y
   have hx:=y ws sq2
   obtain⟨dx,hdx,rx⟩:=rs2.get hx
   rw[Zie,Zh9 hlt] at hdx
   cases hdx
   obtain⟨ss',tg,go⟩:=hs F1 i _ ss1 (S.fl.trans e1.gf) (Zh9 hlt) h2
   exact tg F2 _ O' x _ S2 rx fun O3 S3=>go _ (fun ss h=>zvw h) F2 _ O3 S3
  .have e:i=xs.length:=by lia
   subst e
   exact .inl ⟨⟨ws,sq2,by lia⟩,hd ss1 h2 F2 H' O' (S2.lower (S.fl.trans e1.gf))⟩
theorem zmg{ta:TA}{j:Nat}{tb:TS}{n:Int}(I:Nat->List Sl->Prop)(a:EvA K G Hz L ss ta [.int n])(hb : -(2 ^ 62)<=n/\n<2 ^ 62)(h0:I 0 ss)
  (hs:∀(k:Nat) ss,(k:Int)<n->I k ss-> ∀N,(∀ss,I (k+1) ss->Nx K G Hz L N ss)->Go K G Hz L { E with nx:=N,ct:=N,bk:=E.nx } (ss.set j (.d (.int (k:Int)))) tb)
  (hd:∀ss,I n.toNat ss->Nx K G Hz L E.nx ss) {ti:TI} (hti:∀O H R,(ta O H fun vs H1=>∃m:Int,vs=[.int m] /\ -(2 ^ 62)<=m/\m<2 ^ 62/\R (Itr 0 m.toNat) H1)->ti O H R):Go K G Hz L E ss (tFor ti (zfw j) tb):=fun F H O S=>by
 refine hti O H _ (a F H O _ S fun vs F1 H1 e1 r1=>?_)
 rw[Reps] at r1
 obtain⟨x,r,rfl,rx,r1⟩:=r1
 rw[Reps] at r1
 subst r1
 rw[rx.of_int]
 refine⟨n,rfl,hb.1,hb.2,fun i m O' H'=>m=n.toNat - i/\i<=n.toNat/\At K G Hz L (I i) O' H',⟨_,rfl,Zjn _,ss,F1,S.ext2 e1,h0⟩,?_⟩
 rintro i m O' H' ⟨rfl,hi,ss1,F2,S2,h2⟩
 by_cases hlt:i<n.toNat
 .refine .inr ⟨hlt,fun O'' H''=>At K G Hz L (I (i+1)) O'' H'',fun O'' H'' h=>⟨n.toNat - (i+1),by lia,rfl,hlt,h⟩,fun x H'' y=>?_⟩
  obtain⟨rfl,rfl⟩:=y
  refine hs i ss1 (by omega) h2 _ (fun ss h=>zvw h) F2 _ _ ?_
  have e:(0:Int)+(i:Int)=(i:Int):=by lia
  rw[e]
  exact S2.setD Rep.int
 .have e:i=n.toNat:=by lia
  subst e
  exact .inl ⟨Zio _,hd ss1 h2 F2 H' O' S2⟩
end
mutual
noncomputable def D.toP:D->Zln
 | .non=>.none
 | .bl b=>.bool b
 | .int i=>.int i
 | .str l=>.str (T l)
 | .lst a=>.list (D.toPs a)
 | .tup a=>.tuple (D.toPs a)
 | .dct _ _=>.none
 | .dctT _ _=>.none
 | .ins _ _ _=>.none
noncomputable def D.toPs:List D->List Zln
 | []=>[]
 | a::x=>a.toP::D.toPs x
end
mutual
theorem D.toP_depth:∀d:D,d.toP.depth=d.dep
 | .non=>rfl
 | .bl _=>rfl
 | .int _=>rfl
 | .str _=>rfl
 | .lst a=>by simp[D.toP,Zs8,D.dep,D.toPs_depth a]
 | .tup a=>by simp[D.toP,Zs8,D.dep,D.toPs_depth a]
 | .dct _ _=>rfl
 | .dctT _ _=>rfl
 | .ins _ _ _=>rfl
theorem D.toPs_depth:∀a:List D,Zsj (D.toPs a)=D.deps a
 | []=>rfl
 | d::a=>by simp[D.toPs,Zsj,D.deps,D.toP_depth d,D.toPs_depth a]
end
mutual
theorem D.eqv:∀d e:D,d.nb=true->e.nb=true->Zlz d.toP e.toP=decide (d=e)
 | .non,e,_,h2=>by cases e <;> simp[D.toP,Zlz,D.nb] at h2 ⊢
 | .bl _,_,h1,_=>by simp[D.nb] at h1
 | .dct _ _,_,h1,_=>by simp[D.nb] at h1
 | .dctT _ _,_,h1,_=>by simp[D.nb] at h1
 | .ins _ _ _,_,h1,_=>by simp[D.nb] at h1
 | .int i,e,_,h2=>by
  cases e <;> simp[D.toP,Zlz,D.nb] at h2 ⊢
  exact Bool.beq_eq_decide_eq _ _
 | .str l,e,_,h2=>by
  cases e <;> simp[D.toP,Zlz,D.nb] at h2 ⊢
  rename_i m
  rw[Zjg];simp[zw7]
 | .lst a,e,h1,h2=>by
  cases e with
  | lst b =>
   simp only[D.nb] at h1 h2
   simp only[D.toP,Zlz,D.lst.injEq]
   exact D.eqvs a b h1 h2
  | _=>simp[D.toP,Zlz,D.nb] at h2 ⊢
 | .tup a,e,h1,h2=>by
  cases e with
  | tup b =>
   simp only[D.nb] at h1 h2
   simp only[D.toP,Zlz,D.tup.injEq]
   exact D.eqvs a b h1 h2
  | _=>simp[D.toP,Zlz,D.nb] at h2 ⊢
theorem D.eqvs:∀a b:List D,D.nbs a=true->D.nbs b=true->Zo1 (D.toPs a) (D.toPs b)=decide (a=b)
 | [],b,_,_=>by cases b <;> simp[D.toPs,Zo1]
 | d::a,b,h1,h2=>by
  cases b with
  | nil=>simp[D.toPs,Zo1]
  | cons e b =>
   simp only[D.nbs,Ziq] at h1 h2
   simp only[D.toPs,Zo1,D.eqv d e h1.1 h2.1,D.eqvs a b h1.2 h2.2,Zn8]
   by_cases x:d=e <;> by_cases y:a=b <;> simp[x,y]
end
section
variable{X:Cx}{pins:List (Addr×Obj)}{O:St}{H:Hp}{s:Zih}
theorem ydp{l:List Nat}(h:∀c∈l,c<128):Zs7 (T l)=true:=by
 unfold Zs7 T
 simp
 intro c hc
 have:=h c hc
 lia
mutual
theorem Inv.reads(I:Inv X pins O H s):∀{d:D} {v:V} {u:Value},d.nb=true->Rep X.K H d v->RelV v u->(∃as,Zvz s.heap u d.toP as)/\d.toP.canLay0=true
 | .non,_,_,_,r,q=>by rw[r.of_non] at q;cases q;exact⟨⟨_,Reads.none⟩,rfl⟩
 | .bl b,_,_,n,_,_=>by simp[D.nb] at n
 | .dct _ _,_,_,n,_,_=>by simp[D.nb] at n
 | .dctT _ _,_,_,n,_,_=>by simp[D.nb] at n
 | .ins _ _ _,_,_,n,_,_=>by simp[D.nb] at n
 | .int i,_,_,_,r,q=>by rw[r.of_int] at q;obtain⟨t,rfl⟩:=q;exact⟨⟨_,Reads.int i t⟩,rfl⟩
 | .str l,_,_,_,r,q=>by
  have ha:=r.asc
  rw[r.of_str] at q;obtain⟨t,rfl⟩:=q
  exact⟨⟨_,Reads.str _ t⟩,ydp ha⟩
 | .lst ds,_,_,nn,r,q=>by
  obtain⟨p,xs,rfl,sq,rs⟩:=r.of_lst
  cases q
  obtain⟨its,rv,⟨o,n,e,c,_,hd⟩,_⟩:=I.list sq
  obtain⟨⟨as,ra⟩,hc⟩:=I.readsAll (by simpa[D.nb] using nn) rs rv
  exact⟨⟨_,Reads.list e c hd (by simpa using ra)⟩,by simpa[D.toP,Zmw] using hc⟩
 | .tup ds,_,_,nn,r,q=>by
  obtain⟨p,xs,rfl,sq,rs⟩:=r.of_tup
  cases q
  obtain⟨its,rv,⟨o,e,c,n,hd⟩,_⟩:=I.tuple sq
  obtain⟨⟨as,ra⟩,hc⟩:=I.readsAll (by simpa[D.nb] using nn) rs rv
  exact⟨⟨_,Reads.tuple e c hd (by simpa using ra)⟩,by simpa[D.toP,Zmw] using hc⟩
theorem Inv.readsAll(I:Inv X pins O H s):∀{ds:List D} {vs:List V} {us:List Value},D.nbs ds=true->Reps X.K H ds vs->Vals vs us->(∃as,Zvy s.heap us (D.toPs ds) as)/\Zrz (D.toPs ds)=true
 | [],_,_,_,r,q=>by
  rw[Reps] at r;subst r
  cases q
  exact⟨⟨_,ReadsAll.nil⟩,rfl⟩
 | d::ds,_,_,n,r,q=>by
  simp only[D.nbs,Ziq] at n
  rw[Reps] at r
  obtain⟨x,xs,rfl,r1,r2⟩:=r
  cases q with
  | cons q1 q2 =>
   obtain⟨⟨as,a⟩,hc⟩:=I.reads n.1 r1 q1
   obtain⟨⟨bs,b⟩,hc2⟩:=I.readsAll n.2 r2 q2
   exact⟨⟨_,ReadsAll.cons a b⟩,by simp[D.toPs,Zrz,hc,hc2]⟩
end
end
noncomputable def rEqD(K:Zh7):R2:=fun x y H Q=>∃d e,Rep K H d x/\Rep K H e y/\d.nb=true/\e.nb=true/\d.dep<=60/\Q (.bl (decide (d=e))) H
noncomputable def rNeD(K:Zh7):R2:=fun x y H Q=>∃d e,Rep K H d x/\Rep K H e y/\d.nb=true/\e.nb=true/\d.dep<=60/\Q (.bl (!decide (d=e))) H
section
variable{X:Cx}
theorem ztl(hu:X.A.units+64<Zon):OpR X (Zle .Eq) (rEqD X.K):=by
 intro pins s O H x y v u Q I rx ry h
 obtain⟨d,e,r1,r2,n1,n2,hd,q⟩:=h
 obtain⟨⟨as,a⟩,c1⟩:=I.reads n1 r1 rx
 obtain⟨⟨bs,b⟩,c2⟩:=I.reads n2 r2 ry
 have h1:=D.toP_depth d
 refine SeqAt.compareEq_reads a b c1 c2 (by lia) ?_
 rw[D.eqv d e n1 n2]
 exact⟨.bl _,H,I,rfl,q⟩
theorem ydb(hu:X.A.units+64<Zon):OpR X (Zle .NotEq) (rNeD X.K):=by
 intro pins s O H x y v u Q I rx ry h
 obtain⟨d,e,r1,r2,n1,n2,hd,q⟩:=h
 obtain⟨⟨as,a⟩,c1⟩:=I.reads n1 r1 rx
 obtain⟨⟨bs,b⟩,c2⟩:=I.reads n2 r2 ry
 have h1:=D.toP_depth d
 refine SeqAt.compareNe_reads a b c1 c2 (by lia) ?_
 rw[D.eqv d e n1 n2]
 exact⟨.bl _,H,I,rfl,q⟩
theorem zpe(d:D)(hd:d.nb=true):∀ds:List D,D.nbs ds=true->((D.toPs ds).any fun y=>Zlz y d.toP)=decide (d∈ds)
 | [],_=>by simp[D.toPs]
 | e::ds,h=>by
  simp only[D.nbs,Ziq] at h
  rw[D.toPs,Zls,zpe d hd ds h.2,D.eqv e d h.1 hd]
  by_cases x:e=d
  .subst x;simp
  .have:¬ d=e:=fun z=>x z.symm
   simp[x,this]
noncomputable def rInD(K:Zh7)(neg:Bool):R2:=fun x y H Q=>∃d ds,Rep K H d x/\(Rep K H (.lst ds) y\/Rep K H (.tup ds) y)/\d.nb=true/\D.nbs ds=true/\d.dep<=60/\Q (.bl (if neg then !decide (d∈ds) else decide (d∈ds))) H
theorem zwj(hu:X.A.units+64<Zon):OpR X (Zle .In) (rInD X.K false):=by
 intro pins s O H x y v u Q I rx ry h
 obtain⟨d,ds,r1,r2,n1,n2,hd,q⟩:=h
 obtain⟨⟨as,a⟩,c1⟩:=I.reads n1 r1 rx
 have h1:=D.toP_depth d
 have fin:EP X pins O Q (.bool ((D.toPs ds).any fun y=>Zlz y d.toP)) s:=by rw[zpe d n1 ds n2];exact⟨.bl _,H,I,rfl,q⟩
 rcases r2 with r2 | r2
 .obtain⟨⟨bs,b⟩,c2⟩:=I.reads (by simpa[D.nb] using n2) r2 ry
  rw[D.toP] at b c2
  exact SeqAt.in_list_reads b a (by simpa[Zmw] using c2) c1 (by lia) fin
 .obtain⟨⟨bs,b⟩,c2⟩:=I.reads (by simpa[D.nb] using n2) r2 ry
  rw[D.toP] at b c2
  exact SeqAt.in_tuple_reads b a (by simpa[Zmw] using c2) c1 (by lia) fin
theorem zrg(hu:X.A.units+64<Zon):OpR X (Zle .NotIn) (rInD X.K true):=by
 intro pins s O H x y v u Q I rx ry h
 obtain⟨d,ds,r1,r2,n1,n2,hd,q⟩:=h
 obtain⟨⟨as,a⟩,c1⟩:=I.reads n1 r1 rx
 have h1:=D.toP_depth d
 have fin:EP X pins O Q (.bool (!(D.toPs ds).any fun y=>Zlz y d.toP)) s:=by rw[zpe d n1 ds n2];exact⟨.bl _,H,I,rfl,q⟩
 rcases r2 with r2 | r2
 .obtain⟨⟨bs,b⟩,c2⟩:=I.reads (by simpa[D.nb] using n2) r2 ry
  rw[D.toP] at b c2
  exact SeqAt.notIn_list_reads b a (by simpa[Zmw] using c2) c1 (by lia) fin
 .obtain⟨⟨bs,b⟩,c2⟩:=I.reads (by simpa[D.nb] using n2) r2 ry
  rw[D.toP] at b c2
  exact SeqAt.notIn_tuple_reads b a (by simpa[Zmw] using c2) c1 (by lia) fin
end
section
variable{K:Zh7}{G Hz L:Hp}{ss:List Sl}{t ta tb:TE}{d d1 d2:D}{ds es:List D}
theorem zu8(a:EvB K G Hz L ss ta d1)(b:EvB K G Hz L ss tb d2)(n1:d1.nb=true)(n2:d2.nb=true)(hd:d1.dep<=60):Ev K G Hz L ss (tOp (rEqD K) ta tb) (.bl (decide (d1=d2))) :=
 zf9 (w:=.bl (decide (d1=d2))) a b (fun H x y Q r1 r2 q=>⟨d1,d2,r1,r2,n1,n2,hd,q⟩) fun _ _ _ _ _ _=>Rep.bl
theorem yhc(a:EvB K G Hz L ss ta d1)(b:EvB K G Hz L ss tb d2)(n1:d1.nb=true)(n2:d2.nb=true)(hd:d1.dep<=60):Ev K G Hz L ss (tOp (rNeD K) ta tb) (.bl (!decide (d1=d2))) :=
 zf9 (w:=.bl (!decide (d1=d2))) a b (fun H x y Q r1 r2 q=>⟨d1,d2,r1,r2,n1,n2,hd,q⟩) fun _ _ _ _ _ _=>Rep.bl
theorem ygk(a:EvB K G Hz L ss ta d)(b:EvB K G Hz L ss tb (.lst ds))(n1:d.nb=true)(n2:D.nbs ds=true)(hd:d.dep<=60):Ev K G Hz L ss (tOp (rInD K false) ta tb) (.bl (decide (d∈ds))) :=
 zf9 (w:=.bl (decide (d∈ds))) a b (fun H x y Q r1 r2 q=>⟨d,ds,r1,.inl r2,n1,n2,hd,q⟩) fun _ _ _ _ _ _=>Rep.bl
theorem zy9(a:EvB K G Hz L ss ta d)(b:EvB K G Hz L ss tb (.lst ds))(n1:d.nb=true)(n2:D.nbs ds=true)(hd:d.dep<=60):Ev K G Hz L ss (tOp (rInD K true) ta tb) (.bl (!decide (d∈ds))) :=
 zf9 (w:=.bl (!decide (d∈ds))) a b (fun H x y Q r1 r2 q=>⟨d,ds,r1,.inl r2,n1,n2,hd,q⟩) fun _ _ _ _ _ _=>Rep.bl
theorem zm3(a:EvB K G Hz L ss ta d)(b:EvB K G Hz L ss tb (.tup ds))(n1:d.nb=true)(n2:D.nbs ds=true)(hd:d.dep<=60):Ev K G Hz L ss (tOp (rInD K true) ta tb) (.bl (!decide (d∈ds))) :=
 zf9 (w:=.bl (!decide (d∈ds))) a b (fun H x y Q r1 r2 q=>⟨d,ds,r1,.inr r2,n1,n2,hd,q⟩) fun _ _ _ _ _ _=>Rep.bl
end
theorem D.nbs_map{α:Type}{enc:α->D}(h:∀x,(enc x).nb=true):∀xs:List α,D.nbs (xs.map enc)=true
 | []=>rfl
 | x::xs=>by simp[D.nbs,h x,D.nbs_map h xs]
theorem D.deps_map{α:Type}{enc:α->D}{n:Nat}(h:∀x,(enc x).dep<=n):∀xs:List α,D.deps (xs.map enc)<=n
 | []=>Zjn _
 | x::xs=>by
  have h1:=h x
  have h2:=D.deps_map h xs
  simp only[Zik,D.deps];lia
theorem D.nb_lst{ds:List D}:(D.lst ds).nb=D.nbs ds:=by rw[D.nb]
theorem D.dep_lst{ds:List D}:(D.lst ds).dep=D.deps ds+1:=by rw[D.dep]
noncomputable def ItOk(K:Zh7)(J:It)(F' H':Hp)(n:Nat)(y:Nat->D):Prop:=∀F2 H2,Same F' F2->Same H' H2->Same F2 H2 ->
 (∀i,i<n->J.go i H2 /\ ∀x H3,J.yld i H2 x H3-> ∃F3,Ext F2 H2 F3 H3/\Rep K F3 (y i) x)/\J.stop n H2
noncomputable def EvI(K:Zh7)(G Hz L:Hp)(ss:List Sl)(wi:TI)(n:Nat)(y:Nat->D):Prop:=∀F H O R,Sat K G Hz L F H O ss->(∀F' H' J,Ext F H F' H'->ItOk K J F' H' n y->R J H')->wi O H R
section
variable{K:Zh7}{G Hz L:Hp}{ss:List Sl}
theorem zuw{tl:TE}{ds:List D}(a:EvL K G Hz L ss tl ds):EvI K G Hz L ss (zs8 K tl) ds.length fun i=>ds.getD i .non:=fun F H O R S q =>
 a F H O _ S fun p vs F' H' e sq r=>⟨p,rfl,⟨vs,sq⟩,q F' H' _ e fun F2 H2 f1 h1 fh=>by
  have sq2:=SqL.same h1 sq
  have hl:=r.length
  refine⟨fun i hi=>⟨⟨vs,vs[i]'(by lia),sq2,Zh9 _⟩,fun x H3 y=>?_⟩,⟨vs,sq2,by lia⟩⟩
  obtain⟨rfl,y⟩:=y
  obtain⟨d,hd,rd⟩:=r.get (y vs sq2)
  refine⟨F2,Ext.refl fh,?_⟩
  show Rep K F2 (ds.getD i D.non) x
  rw[Zh8,hd]
  exact rd.mono f1⟩
noncomputable def lcSl(nt:Nat)(cs:List Nat)(ss:List Sl):List Sl:=Zoz nt .un++cs.map fun i=>ss.getD i .un
theorem Sat.lc{F H:Hp}{O:St}{nt:Nat}{cs:List Nat}(S:Sat K G Hz L F H O ss)(hc:cs.Nodup):Sat K G Hz L F H (lcS nt cs O) (lcSl nt cs ss):=by
 have cut:∀(i:Nat) s,(lcSl nt cs ss)[i]? = some s->s= .un \/ ∃j,nt<=i/\cs[i - nt]? = some j/\ss[j]? = some s:=by
  intro i s h
  unfold lcSl at h
  by_cases hi:i<nt
  .rw[Zj1 (by simpa using hi),Zmr,if_pos hi] at h
   exact .inl (Zj9 h).symm
  .rw[Zjq (by simpa using hi),Zm6,Zie] at h
   cases hj:cs[i - nt]? with
   | none=>rw[hj] at h;cases h
   | some j =>
    rw[hj] at h
    have h:ss.getD j .un=s:=Zj9 h
    rw[Zh8] at h
    cases hs:ss[j]? with
    | none=>rw[hs] at h;exact .inl h.symm
    | some s'=>rw[hs] at h;exact .inr ⟨j,by lia,rfl,by rw[hs];exact congrArg some h⟩
 have val:∀(i j:Nat),nt<=i->cs[i - nt]? = some j->(lcS nt cs O).getD i none=O.getD j none:=by
  intro i j hi hj
  unfold lcS
  rw[Zh8,Zjq (by simpa using hi),Zm6,Zie,hj]
  simp[Zh8]
 refine⟨S.ext,S.fl,by unfold lcS lcSl;simp,fun i s h=>?_,fun i s h=>?_,fun i j s s' hij h h' p hp=>?_⟩
 .rcases cut i s h with rfl | ⟨j,hi,hj,hs⟩
  .trivial
  .rw[val i j hi hj];exact S.ok j s hs
 .rcases cut i s h with rfl | ⟨j,hi,hj,hs⟩
  .simp[Sl.ads]
  .exact S.nd j s hs
 .rcases cut i s h with rfl | ⟨k,hi,hk,hs⟩
  .simp[Sl.ads] at hp
  .rcases cut j s' h' with rfl | ⟨m,hj,hm,hs'⟩
   .simp[Sl.ads]
   .have:k≠m:=fun z=>by
     subst z
     obtain⟨l1,e1⟩:=Zif.mp hk
     obtain⟨l2,e2⟩:=Zif.mp hm
     have:=(Zoc hc).mp (e1.trans e2.symm)
     lia
    exact S.ne k m s s' this hs hs' p hp
noncomputable def GK(nt:Nat)(g:TG):Prop:=∀v O H (Q Q':St->Hp->Prop),(∀O' H',Q O' H'->O'.length=O.length->O'.drop nt=O.drop nt->Q' O' H')->g v O H Q->g v O H Q'
noncomputable def GKs(nt:Nat)(g:TGs):Prop:=∀v O H (Q Q':St->Hp->Prop),(∀O' H',Q O' H'->O'.length=O.length->O'.drop nt=O.drop nt->Q' O' H')->g v O H Q->g v O H Q'
theorem zbu{nt i:Nat}(h:i<nt):GK nt (zfw i):=fun v O H Q Q' f q=>f _ _ q (by simp) (by rw[List.drop_set_of_lt h])
theorem zle{nt:Nat}:GKs nt gNil:=fun v O H Q Q' f q=>⟨q.1,f _ _ q.2 rfl rfl⟩
theorem zcq{nt:Nat}{g:TG}{gs:TGs}(a:GK nt g)(b:GKs nt gs):GKs nt (zwh g gs):=fun vs O H Q Q' f q=>by
 obtain⟨v,r,e,q⟩:=q
 exact⟨v,r,e,a v O H _ _ (fun O' H' q1 l1 d1=>b r O' H' Q Q' (fun O'' H'' q2 l2 d2=>f _ _ q2 (l2.trans l1) (d2.trans d1)) q1) q⟩
theorem zod{nt n:Nat}{gs:TGs}(b:GKs nt gs):GK nt (gTup K n gs):=fun v O H Q Q' f q=>by
 obtain⟨a,xs,e,sq,hn,q⟩:=q
 exact⟨a,xs,e,sq,hn,b xs O H Q Q' f q⟩
theorem zk1{wi:TI}{g:TG}{tt:TT}{te:TE}{nt:Nat}{cs:List Nat}{n:Nat}{y:Nat->D}(p:Nat->Bool)(f:Nat->D)(a:EvI K G Hz L ss wi n y)(hk:GK nt g)(hc:cs.Nodup)(hz:n<sizeLine)
  (hs:∀i,i<n-> ∃ss',Tg K G Hz L g (y i) (lcSl nt cs ss) ss'/\EvT K G Hz L ss' tt (p i)/\(p i=true->Ev K G Hz L ss' te (f i))) :
  EvO K G Hz L ss (tLC nt cs wi g tt te) (((Zid n).filter p).map f):=fun F H O Q S q =>
 a F H O _ S fun F1 H1 J e1 it=>by
  intro l hl
  have S1:=S.ext2 e1
  refine⟨fun i m H2=>m=n - i/\i<=n /\ ∃F2 vs,Ext F1 H1 F2 H2/\F2 l=none/\H2 l=some (.lst vs)/\Reps K F2 (((Zid i).filter p).map f) vs/\vs.length<=i,
   ⟨n,by lia,Zjn _,F1,[],(Ext.refl e1.fh).newO hl,e1.fh.free hl,zam,Reps.nil,Zio _⟩,?_⟩
  rintro i m H2 ⟨rfl,hi,F2,vs,e2,fl,hl2,rs,hvs⟩
  obtain⟨it1,it2⟩:=it F2 H2 e2.gf e2.hh e2.fh
  by_cases hlt:i<n
  .obtain⟨go,yl⟩:=it1 i hlt
   refine .inr ⟨go,fun H'=>∃F2 vs,Ext F1 H1 F2 H'/\F2 l=none/\H' l=some (.lst vs)/\Reps K F2 (((Zid (i+1)).filter p).map f) vs/\vs.length<=i+1,fun H' h=>⟨n - (i+1),by omega,rfl,hlt,h⟩,fun x H3 yx=>?_⟩
   obtain⟨F3,e3,rx⟩:=yl x H3 yx
   obtain⟨ss',tg,evt,ev⟩:=hs i hlt
   have S3:=((S1.ext2 e2).ext2 e3).lc (nt:=nt) hc
   have hl3:H3 l=some (.lst vs):=e3.hh l _ hl2
   have fl3:F3 l=none:=(e3.no l _ hl2 trivial).trans fl
   have base:=tg F3 H3 (lcS nt cs O) x (fun O2 H4=>H4=H3/\Sat K G Hz L F3 H3 O2 ss') S3 rx fun O' S'=>⟨rfl,S'⟩
   have fin:∀O2,Sat K G Hz L F3 H3 O2 ss'->tt O2 H3 fun b H5=>if b=true then te O2 H5 fun y H6=>∃xs,H6 l=some (.lst xs)/\xs.length<sizeLine/\(∃F2 vs,Ext F1 H1 F2 (upd H6 l (.lst (xs++[y])))/\F2 l=none/\(upd H6 l (.lst (xs++[y]))) l=some (.lst vs)/\Reps K F2 (((Zid (i+1)).filter p).map f) vs/\vs.length<=i+1) else ∃F2 vs,Ext F1 H1 F2 H5/\F2 l=none/\H5 l=some (.lst vs)/\Reps K F2 (((Zid (i+1)).filter p).map f) vs/\vs.length<=i+1:=fun O2 S2=>by
    refine evt F3 H3 O2 _ S2 fun F5 H5 e5=>?_
    have S5:=S2.ext2 e5
    have hl5:H5 l=some (.lst vs):=e5.hh l _ hl3
    have fl5:F5 l=none:=(e5.no l _ hl3 trivial).trans fl3
    have gf:Same F2 F5:=e3.gf.trans e5.gf
    cases hp:p i with
    | false =>
     refine iteF ⟨F5,vs,(e2.trans e3).trans e5,fl5,hl5,?_,by lia⟩
     rw[Zl0,Zky,Znc,hp]
     simpa using rs.mono gf
    | true =>
     refine iteT (ev hp F5 H5 O2 _ S5 fun v F6 H6 e6 rv=>?_)
     have hl6:H6 l=some (.lst vs):=e6.hh l _ hl5
     have fl6:F6 l=none:=(e6.no l _ hl5 trivial).trans fl5
     refine⟨vs,hl6,by lia,F6,vs++[v],(((e2.trans e3).trans e5).trans e6).write fl6 hl,fl6,zam,?_,by simp;omega⟩
     rw[Zl0,Zky,Znc,hp,if_pos rfl,Zir]
     exact(rs.mono (gf.trans e6.gf)).snoc rv
   refine hk x (lcS nt cs O) H3 _ _ (fun O2 H4 h l1 d1=>?_) base
   obtain⟨rfl,S2⟩:=h
   exact⟨⟨by rw[l1];unfold lcS;simp,d1⟩,fin O2 S2⟩
  .have e:i=n:=by lia
   subst e
   exact .inl ⟨it2,q l vs F2 H2 (e1.trans e2) (e1.hh.free hl) fl hl2 rs⟩
end
end L2
namespace L2
open PySem PySem.W PyProof.Rows
section
variable(key:Nat->Int)
noncomputable def kk(p:Array Nat)(i:Nat):Int:=key (p.getD i 0)
variable{key}
end
section
variable{prog:Zjj}{w:Zkq}{A:Zjs}{E:Value->Zih->Prop}{s:Zih}
noncomputable def yiq(h h':Heap):Prop:=∀b o,h.get? b=some o->h'.get? b=some o
end
noncomputable def D.fo:D->List Int
 | .str l=>l.map Zta
 | .int i=>[i]
 | _=>[]
inductive Ty where | s | i
noncomputable def Ty.ok:Ty->D->Bool
 | .s,.str _=>true
 | .i,.int _=>true
 | _,_=>false
theorem yan(l m:List Nat):l<m↔l.map Zta<m.map Zta:=by
 induction l generalizing m with
 | nil=>cases m <;> simp
 | cons a l ih=>cases m with
  | nil=>simp
  | cons b m =>
   simp only[Zik,Zjv,ih m,Int.ofNat_eq_natCast]
   constructor
   .rintro(h | ⟨h,x⟩)
    .exact .inl (by lia)
    .exact .inr ⟨by lia,x⟩
   .rintro(h | ⟨h,x⟩)
    .exact .inl (by lia)
    .exact .inr ⟨by lia,x⟩
section
variable{prog:Zjj}{w:Zkq}{A:Zjs}{E:Value->Zih->Prop}{s:Zih}
noncomputable def FV:D->Value->Prop
 | .str l,u=>∃t,u= .str (T l) t
 | .int i,u=>∃t,u= .int i t
 | _,_=>False
theorem zna{t:Ty}{d e:D}{u v:Value}(h1:t.ok d=true)(h2:t.ok e=true)(ru:FV d u)(rv:FV e v){Q:Bool->Zih->Prop}(q:Q (decide (d=e)) s):Zjd (Zjx prog w) A (eqBool u v) Q E s:=by
 cases t <;> cases d <;> simp[Ty.ok] at h1 <;> cases e <;> simp[Ty.ok] at h2
 .obtain⟨t,rfl⟩:=ru
  obtain⟨t',rfl⟩:=rv
  refine Zvm _ _ _ _ prog w E Q ?_
  rename_i l m
  have:(T l == T m)=decide (D.str l=D.str m):=by
   rw[Zjg];simp[zw7]
  rw[this];exact q
 .obtain⟨t,rfl⟩:=ru
  obtain⟨t',rfl⟩:=rv
  refine Zvp _ _ _ _ prog w E Q ?_
  rename_i i j
  have:(i == j)=decide (D.int i=D.int j):=by
   rw[Zjg];simp
  rw[this];exact q
inductive FVs:List D->List Value->Prop
 | nil:FVs [] []
 | cons {d ds u us}:FV d u->FVs ds us->FVs (d::ds) (u::us)
end
structure MI(R:Nat->Nat->Prop)(ua ub o:List Nat)(i j:Nat):Prop where
 hi:i<=ua.length
 hj:j<=ub.length
 pw:o.Pairwise R
 pa:∀x∈o,∀y∈ua.drop i,R x y
 pb:∀x∈o,∀y∈ub.drop j,R x y
 pm:o.Perm (ua.take i++ub.take j)
section
variable{X:Cx}{pins:List (Addr×Obj)}{O:St}{H:Hp}{s:Zih}
noncomputable def Ty.tv:Ty->Value
 | .s=>.type "str"
 | .i=>.type "int"
end
end L2
namespace L2
open PySem PySem.W PySem.Spec PyProof.Rows
noncomputable def cutD(xs:List D)(lo hi:Option Int):List D:=(xs.drop (HT.sIx xs.length 0 lo)).take (HT.sIx xs.length xs.length hi - HT.sIx xs.length 0 lo)
theorem Reps.cut{K:Zh7}{H:Hp}{ds:List D}{xs:List V}(lo hi:Option Int)(h:Reps K H ds xs):Reps K H (cutD ds lo hi) (cutV xs lo hi):=by
 unfold cutD cutV
 rw[<- h.length]
 exact(h.drop _).take _
section
variable{K:Zh7}{G Hz L:Hp}{ss:List Sl}{t ta tb:TE}{d:D}{ds:List D}
theorem zea(a:EvL K G Hz L ss t ds):Ev K G Hz L ss (tCB (fun xs H Q=>∃p ys,xs=[.ref p]/\(SqL K H p ys\/SqT K H p ys)/\Q (.int ys.length) H) (za7 t tNil)) (.int ds.length):=fun F H O Q S q =>
 a F H O _ S fun p vs F' H' e sq r=>⟨p,vs,rfl,.inl sq,q _ _ _ e (by rw[<- r.length];exact Rep.int)⟩
theorem zjq(a:EvB K G Hz L ss t (.tup ds)):Ev K G Hz L ss (tCB (fun xs H Q=>∃p ys,xs=[.ref p]/\(SqL K H p ys\/SqT K H p ys)/\Q (.int ys.length) H) (za7 t tNil)) (.int ds.length):=fun F H O Q S q =>
 a F H O _ S fun v F' H' e r=>by
  obtain⟨p,vs,rfl,sq,rs⟩:=r.of_tup
  exact⟨p,vs,rfl,.inr sq,q _ _ _ e (by rw[<- rs.length];exact Rep.int)⟩
theorem ztn(a:EvL K G Hz L ss t ds):EvO K G Hz L ss (tCB (fun xs H Q=>∃p ys,xs=[.ref p]/\(SqL K H p ys\/SqT K H p ys) /\ ∀l,H l=none->Q (.ref l) (upd H l (.lst ys))) (za7 t tNil)) ds:=fun F H O Q S q =>
 a F H O _ S fun p vs F' H' e sq r=>⟨p,vs,rfl,.inl sq,fun l hl=>q l vs F' _ (e.newO hl) (e.hh.free hl) (e.fh.free hl) zam r⟩
noncomputable def EvP(K:Zh7)(G Hz L:Hp)(ss:List Sl)(t:TO)(o:Option Int):Prop:=∀F H O (Q:Option Int->Hp->Prop),Sat K G Hz L F H O ss->(∀F' H',Ext F H F' H'->Q o H')->t O H Q
theorem yc3:EvP K G Hz L ss zxa none:=fun F H O Q S q=>q _ _ (Ext.refl S.ext.fh)
theorem zu6{i:Int}(a:EvB K G Hz L ss t (.int i)):EvP K G Hz L ss (yh8 t) (some i):=fun F H O Q S q=>a F H O _ S fun v F' H' e r=>⟨i,r.of_int,q _ _ e⟩
theorem zx1{tl th:TO}{lo hi:Option Int}(a:EvL K G Hz L ss t ds)(b:EvP K G Hz L ss tl lo)(c:EvP K G Hz L ss th hi):EvO K G Hz L ss (tSl (rSlL K) t tl th) (cutD ds lo hi):=fun F H O Q S q =>
 a F H O _ S fun p vs F1 H1 e1 sq r=>b F1 H1 O _ (S.ext2 e1) fun F2 H2 e2=>c F2 H2 O _ ((S.ext2 e1).ext2 e2) fun F3 H3 e3 =>
  ⟨p,vs,rfl,SqL.same e3.hh (SqL.same e2.hh sq),fun l hl=>q l _ F3 _ (((e1.trans e2).trans e3).newO hl) (((e1.trans e2).trans e3).hh.free hl) (((e1.trans e2).trans e3).fh.free hl) zam (((r.mono e2.gf).mono e3.gf).cut lo hi)⟩
end
section
variable{K:Zh7}{G Hz L:Hp}{ss:List Sl}{t ta tb:TE}{d:D}{ds:List D}
theorem yc9(a:EvL K G Hz L ss t ds):Ev K G Hz L ss (tCB (fun xs H Q=>∃p ys,xs=[.ref p,.ty "list"]/\SqL K H p ys/\Q (.bl true) H) (za7 t (za7 (tC (.ty "list")) tNil))) (.bl true):=fun F H O Q S q =>
 a F H O _ S fun p vs F1 H1 e1 sq r1=>⟨p,vs,rfl,sq,q _ _ _ e1 Rep.bl⟩
theorem zt7(a:EvB K G Hz L ss t (.tup ds)):Ev K G Hz L ss (tCB (fun xs H Q=>∃p ys,xs=[.ref p,.ty "tuple"]/\SqT K H p ys/\Q (.bl true) H) (za7 t (za7 (tC (.ty "tuple")) tNil))) (.bl true):=fun F H O Q S q =>
 a F H O _ S fun v F1 H1 e1 r1=>by
  obtain⟨p,vs,rfl,sq,_⟩:=r1.of_tup
  exact⟨p,vs,rfl,sq,q _ _ _ e1 Rep.bl⟩
end
noncomputable def rAll(K:Zh7):List V->Hp->VK->Prop:=fun xs H Q=>∃p,∃bs:List Bool,xs=[.ref p]/\SqL K H p (bs.map V.bl)/\Q (.bl (bs.all id)) H
section
variable{X:Cx}{prog:Zjj}{w:Zkq}{A:Zjs}{E:Value->Zih->Prop}{s:Zih}
theorem yam{h':Heap}{o:Obj}{k:Nat}(hk:∀b x,b∉[s.heap.objs.size]->(s.heap.push o).get? b=some x->h'.get? b=some x):yiq s.heap h':=fun b x e=>by
 refine hk b x (fun hm=>?_) (Zim _ e)
 have h1:=Ziw e
 rw[Zic.mp hm] at h1
 exact Zjh _ h1
theorem zy7:∀{bs:List Bool} {us:List Value},Vals (bs.map V.bl) us->us=bs.map Zoi
 | [],_,.nil=>rfl
 | b::bs,_,.cons r1 r2=>by rw[zy7 r2];cases r1;rfl
theorem zv5:∀bs:List Bool,((Zid bs.length).all fun i=>(bs[i]?).getD true)=bs.all id:=fun bs=>by
 rw[Zjg,Zi7,Zi7]
 constructor
 .intro h b hb
  obtain⟨i,hi,e⟩:=Zmn hb
  have:=h i (Zi2.mpr hi)
  rw[Zh9 hi,Zn6,e] at this
  exact this
 .intro h i hi
  have hi':=Zi2.mp hi
  rw[Zh9 hi',Zn6]
  exact h _ (Zla hi')
theorem zke(hc:X.calm=true):zcm X (.builtin "all") (rAll X.K):=by
 intro pins s O H xs us Q I r h
 obtain⟨p,bs,rfl,hq,q⟩:=h
 obtain⟨u,rfl,ru⟩:=zht r
 cases ru
 obtain⟨its,rv,pl,_⟩:=I.list hq
 obtain rfl:=zy7 rv
 have hl:=pl.isList
 have hlt:p<s.heap.objs.size:=by obtain⟨_,e,_⟩:=hl;exact Ziw e
 refine call_all_walk (Zof hl ⟨s.heap.objs.size,[s.heap.objs.size,p],[s.heap.objs.size],(bs.map Zoi).toArray.size,_,_,fun i=>(bs[i]?).getD true,rfl,
  Zoh (A:=X.A.in1) (I.ok.hd hc) _ p (Zi6 hlt) _,⟨⟨_,Zi1 _ rfl,rfl,rfl⟩,hl.push _⟩,fun i v s' Q' E' hP hQ=>?_,fun h' tk hk=>?_⟩)
 .have hP':(bs.map Zoi)[i]? = some v:=by simpa using hP
  rw[Zie] at hP'
  cases hb:bs[i]? with
  | none=>rw[hb] at hP';cases hP'
  | some b =>
   rw[hb] at hP'
   cases hP'
   simp only[hb,Zn6] at hQ
   exact Zkt hQ
 .have e:((Zid (bs.map Zoi).toArray.size).all fun i=>(bs[i]?).getD true)=bs.all id:=by
   rw[Zi9,Zia];exact zv5 bs
  rw[e]
  exact⟨.bl _,H,I.kept (yam (k:=0) hk),rfl,q⟩
end
end L2
namespace L2
open PySem PySem.W PySem.Spec PyProof.Rows PySem.Calls
open PySem.MeetsSeq PySem.MeetsSeq2 PySem.MeetsSeq3
theorem zm9{t:Ty}{d e:D}{u v:Value}(h1:t.ok d=true)(h2:t.ok e=true)(ru:FV d u)(rv:FV e v){prog:Zjj}{w:Zkq}{A:Zjs}{E:Value->Zih->Prop}{s:Zih}{Q:Value->Zih->Prop}(q:Q (.bool (decide (d.fo<e.fo))) s) :
  Zjd (Zjx prog w) A (Znw .Lt u v) Q E s:=by
 cases t <;> cases d <;> simp[Ty.ok] at h1 <;> cases e <;> simp[Ty.ok] at h2
 .obtain⟨t,rfl⟩:=ru
  obtain⟨t',rfl⟩:=rv
  rename_i l m
  have ee:decide ((T l).cps.toList<(T m).cps.toList)=decide ((D.str l).fo<(D.str m).fo):=by
   rw[yhb,yhb,Zjg,decide_eq_true_eq,decide_eq_true_eq]
   exact yan l m
  rw[<- ee] at q
  exact Zqd (op:=.Lt) (Ztv _ _ _) (Ztv _ _ _) F.slot_str_lt F.entry_str_lt (F.args_str_lt_2 _ _) (gives_str_lt _ _ _ _) (fun e=>nomatch e) q
 .obtain⟨t,rfl⟩:=ru
  obtain⟨t',rfl⟩:=rv
  rename_i i j
  have ee:decide (i<j)=decide ((D.int i).fo<(D.int j).fo):=by
   rw[Zjg]
   simp[D.fo,Zjv]
  rw[<- ee] at q
  exact Zqd (op:=.Lt) (Zqc _ _ _) (Zqc _ _ _) F.slot_int_lt F.entry_int_lt (F.args_int_lt_2 _ _) (gives_int_lt _ _ _ _) (fun e=>nomatch e) q
section
variable{K:Zh7}{G Hz L:Hp}{ss:List Sl}{t ta tb:TE}{d:D}{ds es:List D}
theorem Reps.bools{H:Hp}:∀{bs:List Bool} {vs:List V},Reps K H (bs.map D.bl) vs->vs=bs.map V.bl
 | [],vs,h=>by rw[Zk4,Reps] at h;exact h
 | b::bs,vs,h=>by
  rw[Zik,Reps] at h
  obtain⟨x,xs,rfl,h1,h2⟩:=h
  rw[h1.of_bl,h2.bools];rfl
theorem yie{bs:List Bool}(a:EvL K G Hz L ss t (bs.map D.bl)):Ev K G Hz L ss (tCB (rAll K) (za7 t tNil)) (.bl (bs.all id)):=fun F H O Q S q =>
 a F H O _ S fun p vs F1 H1 e1 sq r1=>⟨p,bs,rfl,by rw[r1.bools] at sq;exact sq,q _ _ _ e1 Rep.bl⟩
end
end L2
namespace L2
open PySem PySem.W PyProof.Rows
section
variable{X:Cx}{pins pl:List (Addr×Obj)}{O:St}{H:Hp}{s:Zih}{h':Heap}{t':Nat}
theorem Inv.reset{b:Addr}{o o':Obj}(I:Inv X (pins++(b,o)::pl) O H s)(fb:FpOk X pins H b)(hne:∀q∈pl,q.1≠b)(hs:∀c u,c≠b->s.heap.get? c=some u->h'.get? c=some u)(hb:h'.get? b=some o')(hd:∀v,o'.data ≠ .cell v) :
  Inv X (pins++(b,o')::pl) O H { s with heap:=h',toks:=t' }:=by
 obtain⟨f0,f1,f2,f3,f4,f5⟩:=fb
 have I1:Inv X pins O H { s with heap:=h',toks:=t' }:=I.unpinned.turned hs f0 f1 f3 f4 f5
 refine I1.pins_of fun p hp=>?_
 rcases Zin.mp hp with hp | hp
 .exact I1.pin p (Zig _ hp)
 .rcases Ziy.mp hp with rfl | hp
  .exact⟨hb,f0,f1,f2,hd⟩
  .obtain⟨e,n,ne,nf,d⟩:=I.pin p (Zig _ (Zig _ (Zij _ hp)))
   exact⟨hs _ _ (hne p hp) e,n,ne,nf,d⟩
variable{A':Zjs}{a kS:Addr}{e1:Nat}{us:List Value}{ks:List D}{f:Value}{J:Hp->Prop}{P:PySem.Fin->Zih->Prop}{E:Value->Zih->Prop}
end
section
variable{X:Cx}{pins:List (Addr×Obj)}{O:St}{H:Hp}{s:Zih}{l I0 S:Addr}{xs:List V}{ks:List D}{q:Addr}{J:Hp->Prop}{R:Result->Zih->Prop}{lt:Nat->Nat->Bool}
noncomputable def ItAt(o:Obj)(l:Addr)(j:Nat):Prop:=o.cls= .type "list_iterator" /\ o.data= .fields #[.ref l,.int (j:Int) 0]
theorem zzd(hh:X.A.handled=none)(hlI:l≠I0)(hSI:S≠I0)(fpS:∀H':Hp,H' S=none->FpOk X pins H' S)(fpI:∀H':Hp,H' I0=none->FpOk X pins H' I0)(hJl:∀H',J H'->SqL X.K H' l xs)(hkl:ks.length=xs.length)
  (turn:∀(i:Nat) x u k H' s' pl,xs[i]? = some x->ks[i]? = some k->RelV x u->Inv X (pins++pl) O H' s'->J H' ->
   Zjd (Zjx X.prog X.w) X.A.in1 (call (.ref q) [u]) (fun v s''=>∃y H'',Inv X (pins++pl) O H'' s''/\J H''/\Same H' H''/\RelV y v/\Rep X.K H'' k y) (fun _ _=>False) s')
  (hlt:∀(i j:Nat) k k' H' s' pl y z u v (C:Value->Zih->Prop),ks[i]? = some k->ks[j]? = some k'->Inv X (pins++pl) O H' s'->Rep X.K H' k y->RelV y u->Rep X.K H' k' z->RelV z v->C (.bool (lt i j)) s' ->
   Zjd (Zjx X.prog X.w) X.A.in1 (Znw .Lt u v) C (fun _ _=>False) s')
  (tr:∀a b c:Nat,lt a b=true->lt c b=false->lt a c=true) (asy:∀a b:Nat,lt a b=true->lt b a=false)
  (hR:∀(i:Nat) x v H' s',xs[i]? = some x->RelV x v->(∀j,j<xs.length->lt j i=false/\(j<i->lt i j=true))->Inv X pins O H' s'->J H'->R (.ok (.ret v)) s') :
  ∀(r j i:Nat) (H:Hp) (s:Zih) (xb y:V) (vb kb:Value) (kd:D) (c:Nat) (oI:Obj),xs.length - (j+1)=r->j+1<=xs.length->Inv X (pins++[(S,Zmu "list" #[vb,kb] c),(I0,oI)]) O H s->J H->ItAt oI l (j+1) ->
   xs[i]? = some xb->RelV xb vb->ks[i]? = some kd->RelV y kb->Rep X.K H kd y->i<=j->(∀j',j'<=j->lt j' i=false/\(j'<i->lt i j'=true)) ->
   Zo6 (Zjx X.prog X.w) X.A (.builtin "min.loop" ⟨[.ref I0,.ref q,.ref S],[]⟩) R s:=by
 have hname:(Zoa "min" ++ Zoa ".loop" : String) = "min.loop" := by decide
 intro r
 induction r with
 | zero =>
  intro j i H s xb y vb kb kd c oI hr hj I hJ hit hxb rxb hkd rkb rpb hij hbest
  have hin:j+1=xs.length:=by omega
  have nS:=I.pin (S,Zmu "list" #[vb,kb] c) (Zig _ (Zig _ (.head _)))
  have nI:=I.pin (I0,oI) (Zig _ (Zig _ (.tail _ (.head _))))
  obtain⟨us,rv,pl,hz⟩:=I.list (hJl H hJ)
  have hul:=rv.length
  have W:=Zoh (prog:=X.prog) (w:=X.w) (A:=X.A.in1) hh I0 l hlI us.toArray
  have hsz:us.toArray.size=us.length:=Zi9 ..
  refine Zlu Zn4 ?_
  rw[Zku Zk0 _]
  show Zjd _ X.A.in1 (Zpv (.ref S) >>= _) _ _ _
  refine Zib (Znf nS.1 rfl ?_)
  show Zjd _ X.A.in1 (Zn9 (Zpw (.ref I0)) _ >>= _) _ _ _
  refine Zib (Zk7 (W.done _ _ _ ⟨by rw[hsz,<- hul,<- hin];exact⟨oI,nI.1,hit.1,hit.2⟩,pl.isList⟩ fun h' tk' hk'=>?_))
  have hS':=hk' S _ (by simpa using hSI) nS.1
  have fI:=fpI H nI.2.1
  have fS:=fpS H nS.2.1
  have I1:Inv X pins O H { s with heap:=h',toks:=tk' }:=I.unpinned.turned (fun b o hb q=>hk' b o (by simpa using hb) q) fI.1 fI.2.1 fI.2.2.2.1 fI.2.2.2.2.1 fI.2.2.2.2.2
  have s1:=Zkz h' S (Zlf fun _=>(#[]:Array Value))
  show Zjd _ X.A.in1 (Zss S (fun _=>#[]) >>= _) _ _ _
  refine Zib ?_
  refine Zmy hS' rfl (Zib (Zmc (Ziu ?_)))
  have I2:Inv X pins O H { s with heap:=h'.update S (Zlf fun _=>(#[]:Array Value)),toks:=tk' }:=I1.turned (t':=tk') (fun b o hb q=>(s1.2 b hb).trans q) fS.1 fS.2.1 fS.2.2.2.1 fS.2.2.2.2.1 fS.2.2.2.2.2
  exact hR i xb vb H _ hxb rxb (fun j' hj'=>hbest j' (by omega)) I2 hJ
 | succ r ih =>
  intro j i H s xb y vb kb kd c oI hr hj I hJ hit hxb rxb hkd rkb rpb hij hbest
  have hlt2:j+1<xs.length:=by omega
  have nS:=I.pin (S,Zmu "list" #[vb,kb] c) (Zig _ (Zig _ (.head _)))
  have nI:=I.pin (I0,oI) (Zig _ (Zig _ (.tail _ (.head _))))
  obtain⟨us,rv,pl,hz⟩:=I.list (hJl H hJ)
  have hul:=rv.length
  have W:=Zoh (prog:=X.prog) (w:=X.w) (A:=X.A.in1) hh I0 l hlI us.toArray
  have hsz:us.toArray.size=us.length:=Zi9 ..
  refine Zlu Zn4 ?_
  rw[Zku Zk0 _]
  show Zjd _ X.A.in1 (Zpv (.ref S) >>= _) _ _ _
  refine Zib (Znf nS.1 rfl ?_)
  show Zjd _ X.A.in1 (Zn9 (Zpw (.ref I0)) _ >>= _) _ _ _
  refine Zib (Zk7 (W.item (j+1) _ _ _ (by rw[hsz];omega) ⟨⟨oI,nI.1,hit.1,hit.2⟩,pl.isList⟩ fun v h' tk' hP hst' hk'=>?_))
  have hv:us[j+1]? = some v:=by simpa using hP
  obtain⟨oI',hoI',hoc,hod⟩:=id hst'.1
  obtain⟨x,hx,rx⟩:∃x,xs[j+1]? = some x/\RelV x v:=by
   obtain⟨u',hu',ru'⟩:=rv.get (Zh9 hlt2)
   rw[hv] at hu';cases hu'
   exact⟨_,Zh9 hlt2,ru'⟩
  obtain⟨k,hk⟩:∃k,ks[j+1]? = some k:=⟨_,Zh9 (by omega)⟩
  have Ip:Inv X (pins++(I0,oI)::[(S,Zmu "list" #[vb,kb] c)]) O H s:=I.pins_of fun p hp=>I.pin p (Zig _ (by
   rcases Zin.mp hp with hp | hp
   .exact Ziz _ hp
   .refine Zig _ ?_
    rcases Ziy.mp hp with rfl | hp
    .exact .tail _ (.head _)
    .rw[Zic.mp hp];exact .head _))
  have Iq:Inv X (pins++(I0,oI')::[(S,Zmu "list" #[vb,kb] c)]) O H { s with heap:=h',toks:=tk' }:=Ip.reset (fpI H nI.2.1) (fun q hq=>by rw[Zic.mp hq];exact hSI) (fun b o hb q=>hk' b o (by simpa using hb) q) hoI' (fun v z=>by rw[hod] at z;cases z)
  have I1:Inv X (pins++[(S,Zmu "list" #[vb,kb] c),(I0,oI')]) O H { s with heap:=h',toks:=tk' }:=Iq.pins_of fun p hp=>Iq.pin p (Zig _ (by
   rcases Zin.mp hp with hp | hp
   .exact Ziz _ hp
   .refine Zig _ ?_
    rcases Ziy.mp hp with rfl | hp
    .exact .tail _ (.head _)
    .rw[Zic.mp hp];exact .head _))
  show Zjd _ X.A.in1 (Zn9 (Zs3 [v] (call (.ref q) [v])) _ >>= _) _ _ _
  refine Zib (Zk7 (Zmi (Zk5 (turn (j+1) x v k H _ _ hx hk rx I1 hJ) (fun kv s2 he=>?_) fun _ _ hF=>hF.elim)))
  obtain⟨y2,H2,I2,hJ2,hsame,ry2,rp2⟩:=he
  have nS2:=I2.pin (S,Zmu "list" #[vb,kb] c) (Zig _ (Zig _ (.head _)))
  have nI2:=I2.pin (I0,oI') (Zig _ (Zig _ (.tail _ (.head _))))
  show Zjd _ X.A.in1 (Zn9 (Zs3 [v,kv] (Znw .Lt kv kb >>= _)) _ >>= _) _ _ _
  refine Zib (Zk7 (Zmi (Zib (Zk5 (hlt (j+1) i k kd H2 s2 _ y2 y kv kb (fun z s3=>z= .bool (lt (j+1) i)/\s3=s2) hk hkd I2 rp2 ry2 (rpb.mono hsame) rkb ⟨rfl,rfl⟩) (fun z s3 hz=>?_) fun _ _ hF=>hF.elim))))
  obtain⟨rfl,rfl⟩:=hz
  refine Zib (Zmi (Zkt ?_))
  refine Zib (Zmc (Ziu ?_))
  by_cases hb':lt (j+1) i=true
  .have s1:=Zkz s3.heap S (Zlf fun _=>#[v,kv])
   obtain⟨c2,hc2⟩:∃c2,(s3.heap.update S (Zlf fun _=>#[v,kv])).get? S=some (Zmu "list" #[v,kv] c2):=⟨_,Zo5 nS2.1 fun _=>#[v,kv]⟩
   simp only[hb',if_true]
   refine Zib ?_
   refine Zmy nS2.1 rfl (Zib (Zmc ?_))
   rw[hname]
   have I3:Inv X (pins++[(S,Zmu "list" #[v,kv] c2),(I0,oI')]) O H2 { s3 with heap:=s3.heap.update S (Zlf fun _=>#[v,kv]) }:=I2.reset (t':=s3.toks) (fpS H2 nS2.2.1) (fun q hq=>by rw[Zic.mp hq];exact Zju hSI) (fun c u hc q=>(s1.2 c hc).trans q) hc2 (fun v z=>by cases z)
   refine Ziu ⟨Zlm Zk0 _,ih (j+1) (j+1) H2 _ x y2 v kv k c2 oI' (by omega) hlt2 I3 hJ2 ⟨hoc,hod⟩ hx rx hk ry2 rp2 (Zio _) fun j' hj'=>?_⟩
   by_cases e:j'=j+1
   .subst e
    refine⟨?_,fun h=>absurd h (Zjh _)⟩
    cases hq:lt (j+1) (j+1) with
    | false=>rfl
    | true=>have:=asy _ _ hq;rw[hq] at this;cases this
   .have h1:=tr (j+1) i j' hb' (hbest j' (by omega)).1
    exact⟨asy _ _ h1,fun _=>h1⟩
  .have hb2:lt (j+1) i=false:=by simpa using hb'
   simp only[hb2,Zmt,if_false]
   refine Zib (Zmc ?_)
   rw[hname]
   refine Ziu ⟨Zlm Zk0 _,ih (j+1) i H2 _ xb y vb kb kd c oI' (by omega) hlt2 I2 hJ2 ⟨hoc,hod⟩ hxb rxb hkd rkb (rpb.mono hsame) (by omega) fun j' hj'=>?_⟩
   by_cases e:j'=j+1
   .subst e
    exact⟨hb2,fun h=>absurd h (by omega)⟩
   .exact hbest j' (by omega)
theorem zxw{QQ:Value->Zih->Prop}{E:Value->Zih->Prop}(hc:X.calm=true)(I:Inv X pins O H s)(hJ:J H)(hJl:∀H',J H'->SqL X.K H' l xs)(hkl:ks.length=xs.length)(hne:0<xs.length)
  (turn:∀(i:Nat) x u k H' s' pl,xs[i]? = some x->ks[i]? = some k->RelV x u->Inv X (pins++pl) O H' s'->J H' ->
   Zjd (Zjx X.prog X.w) X.A.in1 (call (.ref q) [u]) (fun v s''=>∃y H'',Inv X (pins++pl) O H'' s''/\J H''/\Same H' H''/\RelV y v/\Rep X.K H'' k y) (fun _ _=>False) s')
  (hlt:∀(i j:Nat) k k' H' s' pl y z u v (C:Value->Zih->Prop),ks[i]? = some k->ks[j]? = some k'->Inv X (pins++pl) O H' s'->Rep X.K H' k y->RelV y u->Rep X.K H' k' z->RelV z v->C (.bool (lt i j)) s' ->
   Zjd (Zjx X.prog X.w) X.A.in1 (Znw .Lt u v) C (fun _ _=>False) s')
  (tr:∀a b c:Nat,lt a b=true->lt c b=false->lt a c=true) (asy:∀a b:Nat,lt a b=true->lt b a=false)
  (hQ:∀(i:Nat) x v H' s',xs[i]? = some x->RelV x v->(∀j,j<xs.length->lt j i=false/\(j<i->lt i j=true))->Inv X pins O H' s'->J H'->QQ v s') :
  Zjd (Zjx X.prog X.w) X.A (call (.builtin "min") [.ref l] [(Zmp "key", .ref q)]) QQ E s:=by
 have hname:(Zoa "min" ++ Zoa ".loop" : String) = "min.loop" := by decide
 have hh:X.A.handled=none:=I.ok.hd hc
 obtain⟨us0,rv0,pl0,hz0⟩:=I.list (hJl H hJ)
 have hls:=pl0.isList
 obtain⟨ol,hol,_⟩:=id hls
 have hll:l<s.heap.objs.size:=Ziw hol
 refine kmk_tree PySem.F.kind_min PySem.F.plain_min PySem.F.entry_min (kmk_min_key _ _) ?_
 show Zjd _ X.A.in1 (Zlq "min" ["key", "default"] 0 ⟨[],[(Zmp "key", .ref q)]⟩ >>= _) _ _ s
 refine Zib (Zrc (show Zlq "min" ["key", "default"] 0 ⟨[],[(Zmp "key", .ref q)]⟩=pure [some (.ref q),none] from rfl) ?_)
 refine Zib (Ziu ?_)
 refine Zib (Zof hls ?_)
 refine Zib (Zvr ?_ (Zjn _))
 rw[hname]
 have hS:(s.heap.push { cls:=.type "list_iterator", data:=.fields #[.ref l,.int 0 0] }).objs.size=s.heap.objs.size+1:=size_push' ..
 have hlI:l≠s.heap.objs.size:=Zi6 hll
 have hSI:(s.heap.push { cls:=.type "list_iterator", data:=.fields #[.ref l,.int 0 0] }).objs.size≠s.heap.objs.size:=by rw[hS];exact Zop (Zp0 _)
 have fpI:∀H':Hp,H' s.heap.objs.size=none->FpOk X pins H' s.heap.objs.size:=fun H' hn=>I.fpOk (Zio _) hn
 have fpS:∀H':Hp,H' (s.heap.push { cls:=.type "list_iterator", data:=.fields #[.ref l,.int 0 0] }).objs.size=none->FpOk X pins H' (s.heap.push { cls:=.type "list_iterator", data:=.fields #[.ref l,.int 0 0] }).objs.size:=fun H' hn=>I.fpOk (by rw[hS];exact Zo8 _) hn
 have gI:((s.heap.push { cls:=.type "list_iterator", data:=.fields #[.ref l,.int 0 0] }).push (Zmu "list" #[] 0)).get? s.heap.objs.size=some { cls:=.type "list_iterator", data:=.fields #[.ref l,.int 0 0] } :=
  Zim _ (Zi1 _ rfl)
 have gS:((s.heap.push { cls:=.type "list_iterator", data:=.fields #[.ref l,.int 0 0] }).push (Zmu "list" #[] 0)).get? (s.heap.push { cls:=.type "list_iterator", data:=.fields #[.ref l,.int 0 0] }).objs.size=some (Zmu "list" #[] 0):=Zi1 _ rfl
 have I1:Inv X pins O H { s with heap:=(s.heap.push { cls:=.type "list_iterator", data:=.fields #[.ref l,.int 0 0] }).push (Zmu "list" #[] 0) }:=I.kept (t':=s.toks) fun b o e=>Zim _ (Zim _ e)
 generalize (s.heap.push { cls:=.type "list_iterator", data:=.fields #[.ref l,.int 0 0] }).objs.size=S at *
 refine Ziu ⟨Zlm Zk0 _,?_⟩
 have hIn:H s.heap.objs.size=none:=I.hok.fresh (Zio _)
 have hSn:H S=none:=I.hok.fresh (by rw[hS];exact Zo8 _)
 generalize s.heap.objs.size=I0 at *
 obtain⟨us,rv,pl,hz⟩:=I1.list (hJl H hJ)
 have hul:=rv.length
 have W:=Zoh (prog:=X.prog) (w:=X.w) (A:=X.A.in1) hh I0 l hlI us.toArray
 have hsz:us.toArray.size=us.length:=Zi9 ..
 refine Zlu Zn4 ?_
 rw[Zku Zk0 _]
 show Zjd _ X.A.in1 (Zpv (.ref S) >>= _) _ _ _
 refine Zib (Znf gS rfl ?_)
 show Zjd _ X.A.in1 (Zn9 (Zpw (.ref I0)) _ >>= _) _ _ _
 refine Zib (Zk7 (W.item 0 _ _ _ (by rw[hsz];omega) ⟨⟨_,gI,rfl,rfl⟩,pl.isList⟩ fun v h' tk' hP hst' hk'=>?_))
 have hv:us[0]? = some v:=by simpa using hP
 obtain⟨oI',hoI',hoc,hod⟩:=id hst'.1
 obtain⟨x,hx,rx⟩:∃x,xs[0]? = some x/\RelV x v:=by
  obtain⟨u',hu',ru'⟩:=rv.get (Zh9 hne)
  rw[hv] at hu';cases hu'
  exact⟨_,Zh9 hne,ru'⟩
 obtain⟨k,hk⟩:∃k,ks[0]? = some k:=⟨_,Zh9 (by omega)⟩
 have fI:=fpI H hIn
 have fS:=fpS H hSn
 have I2:Inv X pins O H { s with heap:=h',toks:=tk' }:=I1.turned (fun b o hb q=>hk' b o (by simpa using hb) q) fI.1 fI.2.1 fI.2.2.2.1 fI.2.2.2.2.1 fI.2.2.2.2.2
 have I3:Inv X (pins++[(S,Zmu "list" #[] 0),(I0,oI')]) O H { s with heap:=h',toks:=tk' }:=I2.pins_of fun p hp=>by
  rcases Zin.mp hp with hp | hp
  .exact I2.pin p (Zig _ hp)
  .rcases Ziy.mp hp with rfl | hp
   .exact⟨hk' S _ (by simpa using hSI) gS,fS.1,fS.2.1,fS.2.2.1,fun v z=>by cases z⟩
   .rw[Zic.mp hp]
    exact⟨hoI',fI.1,fI.2.1,fI.2.2.1,fun v z=>by rw[hod] at z;cases z⟩
 show Zjd _ X.A.in1 (Zn9 (Zs3 [v] (call (.ref q) [v])) _ >>= _) _ _ _
 refine Zib (Zk7 (Zmi (Zk5 (turn 0 x v k H _ _ hx hk rx I3 hJ) (fun kv s2 he=>?_) fun _ _ hF=>hF.elim)))
 obtain⟨y2,H2,I4,hJ2,hsame,ry2,rp2⟩:=he
 have nS2:=I4.pin (S,Zmu "list" #[] 0) (Zig _ (Zig _ (.head _)))
 have s1:=Zkz s2.heap S (Zlf fun _=>#[v,kv])
 obtain⟨c2,hc2⟩:∃c2,(s2.heap.update S (Zlf fun _=>#[v,kv])).get? S=some (Zmu "list" #[v,kv] c2):=⟨_,Zo5 nS2.1 fun _=>#[v,kv]⟩
 show Zjd _ X.A.in1 (Zss S (fun _=>#[v,kv]) >>= _) _ _ _
 refine Zib ?_
 refine Zmy nS2.1 rfl ?_
 rw[hname]
 have I5:Inv X (pins++[(S,Zmu "list" #[v,kv] c2),(I0,oI')]) O H2 { s2 with heap:=s2.heap.update S (Zlf fun _=>#[v,kv]) }:=I4.reset (t':=s2.toks) (fpS H2 nS2.2.1) (fun q hq=>by rw[Zic.mp hq];exact Zju hSI) (fun c u hc q=>(s1.2 c hc).trans q) hc2 (fun v z=>by cases z)
 refine Ziu ⟨Zlm Zk0 _,zzd hh hlI hSI fpS fpI hJl hkl turn hlt tr asy (fun i x v H' s' h1 h2 h3 h4 h5=>hQ i x v H' s' h1 h2 h3 h4 h5) _ 0 0 H2 _ x y2 v kv k c2 oI' rfl hne I5 hJ2 ⟨hoc,hod⟩ hx rx hk ry2 rp2 (Zio _) fun j' hj'=>?_⟩
 have e:j'=0:=by omega
 subst e
 refine⟨?_,fun h=>absurd h (Zjh _)⟩
 cases hq:lt 0 0 with
 | false=>rfl
 | true=>have:=asy _ _ hq;rw[hq] at this;cases this
end
end L2
namespace L2
open PySem PySem.W PySem.Spec PyProof.Rows PySem.Calls
open PySem.MeetsSeq PySem.MeetsSeq2 PySem.MeetsSeq3
open AutoSeq1 (wpAny_loadPart')
theorem zjv{x y:Int}{xs ys:List Int}:decide (x::xs<y::ys)=if x=y then decide (xs<ys) else decide (x<y):=by
 by_cases h:x=y
 .subst h
  rw[if_pos rfl,Zjg]
  simp only[decide_eq_true_eq,Zjv]
  exact⟨fun h=>h.elim (fun z=>absurd z (Int.lt_irrefl _)) fun z=>z.2,fun h=>.inr ⟨trivial,h⟩⟩
 .rw[if_neg h,Zjg]
  simp only[decide_eq_true_eq,Zjv]
  exact⟨fun z=>z.elim id fun z=>absurd z.1 h,fun z=>.inl z⟩
theorem zwt(x y:Int):decide ((D.int x).fo<(D.int y).fo)=decide (x<y):=by
 rw[Zjg]
 simp[D.fo,Zjv]
theorem yfw(l b:Addr)(items items2:Array Value)(n n2:Nat)(dd dd2:Option Addr)(sl sl2:Array (Option Value))(xs ys:List Int)(h1:∀(i:Nat) (x:Int),xs[i]? = some x-> ∃t,items[i]? = some (Zlw x t))(h2:∀(i:Nat) (x:Int),ys[i]? = some x-> ∃t,items2[i]? = some (Zlw x t))
  (z1:items.size=xs.length) (z2:items2.size=ys.length) (hsz:xs.length=ys.length) (k:Nat) :
  ∀i:Nat,xs.length - i=k->Meets (Zj0.«list.__eq__.loop» ⟨[.ref l,.ref b,Zvd i,Zvd 0],[]⟩)
   (fun _ R s=>s.heap.get? l=some { cls:=.type "list", dict:=dd,data:=.seq items n,slots:=sl }/\s.heap.get? b=some { cls:=.type "list", dict:=dd2,data:=.seq items2 n2,slots:=sl2 } /\
    R (.ok (.ret (.bool (decide (xs.drop i<ys.drop i))))) s):=by
 induction k with
 | zero =>
  intro i hk prog w A R s h
  obtain⟨hp,g,d,tk,os⟩:=s;obtain⟨hl,hb,h⟩:=h
  wp_walk using Zj4 hl,Zj4 hb
  have hi1:items[((i:Nat):Int).toNat]? = none:=by simp;omega
  have hi2:items2[((i:Nat):Int).toNat]? = none:=by simp;omega
  have hd:xs.drop i=[]:=by simp;omega
  have hd2:ys.drop i=[]:=by simp;omega
  rw[hd,hd2] at h
  rw[hi1,hi2]
  wp_walk using Zj4 hl,Zj4 hb
  show R (.ok (.ret (.bool (decide (items.size<items2.size))))) _
  rw[decide_eq_false (show ¬ items.size<items2.size by omega)]
  simpa using h
 | succ k ih =>
  intro i hk prog w A R s h
  obtain⟨hp,g,d,tk,os⟩:=s;obtain⟨hl,hb,h⟩:=h
  wp_walk using Zj4 hl,Zj4 hb
  have hlt:i<xs.length:=by omega
  have hlt2:i<ys.length:=by omega
  obtain⟨t1,e1⟩:=h1 i xs[i] (Zh9 hlt)
  obtain⟨t2,e2⟩:=h2 i ys[i] (Zh9 hlt2)
  have hi1:items[((i:Nat):Int).toNat]? = some (.int xs[i] t1):=by simpa using e1
  have hi2:items2[((i:Nat):Int).toNat]? = some (.int ys[i] t2):=by simpa using e2
  have hc:((i:Int)+1)=((i+1:Nat):Int):=by push_cast;rfl
  rw[Znr hlt,Znr hlt2,zjv] at h
  rw[hi1,hi2]
  refine Zib (zna (t:=.i) (d:=.int xs[i]) (e:=.int ys[i]) rfl rfl ⟨t1,rfl⟩ ⟨t2,rfl⟩ ?_)
  by_cases he:xs[i]=ys[i]
  .rw[if_pos he] at h
   rw[decide_eq_true (show D.int xs[i]=D.int ys[i] by rw[he])]
   wp_walk
   rw[hc]
   exact⟨Zlm plain_eq_loop _,Zlu entry_eq_loop (by
    rw[Zku plain_eq_loop _]
    exact ih (i+1) (by omega) prog w A R _ ⟨hl,hb,h⟩)⟩
  .rw[if_neg he] at h
   rw[decide_eq_false (show ¬ D.int xs[i]=D.int ys[i] from fun z=>he (by injection z))]
   wp_walk using Zj4 hl,Zj4 hb
   rw[hi1,hi2]
   refine Zib (zm9 (t:=.i) (d:=.int xs[i]) (e:=.int ys[i]) rfl rfl ⟨t1,rfl⟩ ⟨t2,rfl⟩ ?_)
   rw[zwt]
   wp_walk
   simpa using h
theorem yeq(l b:Addr)(items items2:Array Value)(n n2:Nat)(dd dd2:Option Addr)(sl sl2:Array (Option Value))(xs ys:List Int)(h1:∀(i:Nat) (x:Int),xs[i]? = some x-> ∃t,items[i]? = some (Zlw x t))(h2:∀(i:Nat) (x:Int),ys[i]? = some x-> ∃t,items2[i]? = some (Zlw x t))
  (z1:items.size=xs.length) (z2:items2.size=ys.length) (hsz:xs.length=ys.length) :
  Meets (Zj0.«list.__lt__» ⟨[.ref l,.ref b],[]⟩)
   (fun _ R s=>s.heap.get? l=some { cls:=.type "list", dict:=dd,data:=.seq items n,slots:=sl }/\s.heap.get? b=some { cls:=.type "list", dict:=dd2,data:=.seq items2 n2,slots:=sl2 } /\
    R (.ok (.ret (.bool (decide (xs<ys))))) s):=by
 intro prog w A R s h
 obtain⟨hp,g,d,tk,os⟩:=s;obtain⟨hl,hb,h⟩:=h
 have f3:=AutoSeq1.sub_list_list
 wp_walk using Zj4 hl,Zj4 hb
 exact⟨Zlm plain_eq_loop _,Zlu entry_eq_loop (by
  rw[Zku plain_eq_loop _]
  exact yfw l b items items2 n n2 dd dd2 sl sl2 xs ys h1 h2 z1 z2 hsz _ 0 rfl prog w A R _ ⟨hl,hb,by simpa using h⟩)⟩
inductive LexC(prog:Zjj)(w:Zkq)(A:Zjs)(s:Zih):List Value->List Value->Bool->Prop
 | nil:LexC prog w A s [] [] false
 | eq {u v:Value} {us vs:List Value} {r:Bool} (h:∀(E:Value->Zih->Prop) (Q:Bool->Zih->Prop),Q true s->Zjd (Zjx prog w) A (eqBool u v) Q E s) (t:LexC prog w A s us vs r):LexC prog w A s (u::us) (v::vs) r
 | ne {u v:Value} {us vs:List Value} {r:Bool} (h:∀(E:Value->Zih->Prop) (Q:Bool->Zih->Prop),Q false s->Zjd (Zjx prog w) A (eqBool u v) Q E s) (g:∀(E:Value->Zih->Prop) (Q:Value->Zih->Prop),Q (.bool r) s->Zjd (Zjx prog w) A (Znw .Lt u v) Q E s):LexC prog w A s (u::us) (v::vs) r
theorem zqg(prog:Zjj)(w:Zkq)(l b:Addr)(items items2:Array Value)(n n2:Nat)(dd dd2:Option Addr)(sl sl2:Array (Option Value))(hsz:items.size=items2.size)(r:Bool) :
  MeetsIn prog w (Zj0.«tuple.__lt__» ⟨[.ref l,.ref b],[]⟩)
   (fun A R s=>s.heap.get? l=some { cls:=.type "tuple", dict:=dd,data:=.seq items n,slots:=sl }/\s.heap.get? b=some { cls:=.type "tuple", dict:=dd2,data:=.seq items2 n2,slots:=sl2 } /\
    LexC prog w A.in1 s items.toList items2.toList r/\R (.ok (.ret (.bool r))) s) :=
 .of_wp fun A R s h=>by
  obtain⟨hp,g,d,tk,os⟩:=s;obtain⟨hl,hb,hx,h⟩:=h
  have f2:=AutoSeq1.sub_tuple_tuple
  wp_walk using Zj4 hl,Zj4 hb,wpAny_forIn_list _ (fun rest b s'=>b.1=none/\s'=⟨hp,g,d,tk,os⟩ /\ ∃(vs ws:List Value),rest=vs.zip ws/\LexC prog w A.in1 ⟨hp,g,d,tk,os⟩ vs ws r) _
  case turn =>
   rintro⟨y,x⟩ rest b s' ⟨hb',rfl,vs,ws,hz,hc⟩
   cases hc with
   | nil=>cases hz
   | eq he ht =>
    rw[Znp] at hz
    injection hz with hyx hrest
    injection hyx with hy hx
    subst hy hx
    refine Zib (he _ _ ?_)
    wp_walk
    exact⟨rfl,rfl,_,_,hrest,ht⟩
   | ne he hg =>
    rw[Znp] at hz
    injection hz with hyx hrest
    injection hyx with hy hx
    subst hy hx
    refine Zib (he _ _ ?_)
    refine Zib (wpAny_rule ?_)
    refine Zib (hg _ _ ?_)
    wp_walk
    exact⟨_,rfl,by simpa using h⟩
  case fin =>
   rintro⟨b1,b2⟩ s' ⟨hb',rfl,vs,ws,hz,hc⟩
   simp only at hb'
   subst hb'
   cases hc with
   | nil =>
    wp_walk
    exact⟨_,rfl,by
     have hd:decide (items.size<items2.size)=false:=decide_eq_false (by omega)
     simpa[Zui,hd] using h⟩
   | eq he ht=>rw[Znp] at hz;cases hz
   | ne he hg=>rw[Znp] at hz;cases hz
  case h =>
   exact⟨rfl,rfl,items.toList,items2.toList,rfl,hx⟩
end L2
namespace L2
open PySem PySem.W PySem.Spec PyProof.Rows
noncomputable def slots(n:Nat)(ds:List D):List Sl:=ds.map Sl.d++Zoz (n - ds.length) .un
section
variable{K:Zh7}{H:Hp}{vs:List V}{Q:VK}{X:XK}{N:List Str}{t:TS}{pre:List D->Prop}
theorem zce{G:Hp}{ds:List D}(sm:Same G H)(r:Reps K G ds vs)(hN:vs.length<=N.length):Sat K G H G G H (zfe N vs) (slots N.length ds):=by
 have hl:=r.length
 have ads:∀(i:Nat) s,(slots N.length ds)[i]? = some s->s.ads=[]:=fun i s hs=>by
  have hm:=Zii hs
  unfold slots at hm
  rcases Zin.mp hm with h | h
  .obtain⟨d,_,rfl⟩:=Zit.mp h;rfl
  .rw[Zq4 h];rfl
 refine⟨Ext.refl sm,Same.refl _,?_,fun i s hs=>?_,fun i s hs=>by rw[ads i s hs];exact Zmf,fun i j s s' _ hs _ p hp=>by rw[ads i s hs] at hp;cases hp⟩
 .unfold zfe slots;simp;lia
 .by_cases hi:i<ds.length
  .have e:(slots N.length ds)[i]? = some (.d ds[i]):=by
    unfold slots
    rw[Zj1 (by simpa using hi),Zie,Zh9 hi];rfl
   rw[e] at hs
   cases hs
   obtain⟨v,hv,rv⟩:=r.get' (Zh9 hi)
   refine⟨v,?_,rv⟩
   unfold zfe
   rw[Zh8,Zj1 (by simp;lia),Zie,hv];rfl
  .have hm:s= .un:=by
    unfold slots at hs
    rw[Zjq (by simp;lia)] at hs
    exact Zq4 (Zii hs)
   rw[hm];trivial
theorem yim{res:List D->D}(h:SpD K pre res vs H Q X)(hN:vs.length<=N.length)(body:∀G ds,pre ds->RtD K G H Q (res ds)->Go K G H G { nx:=fun _ H'=>Q .non H',rt:=Q } (slots N.length ds) t):t { nx:=fun _ H'=>Q .non H',rt:=Q } (zfe N vs) H:=by
 obtain⟨G,ds,sm,r,hp,q⟩:=h
 exact body G ds hp (fun v F H' e r=>q v F H' e r) G H _ (zce sm r hN)
theorem ygv{res:List D->List D}(h:SpO K pre res vs H Q X)(hN:vs.length<=N.length)(body:∀G ds,pre ds->RtO K G H Q (res ds)->Go K G H G { nx:=fun _ H'=>Q .non H',rt:=Q } (slots N.length ds) t):t { nx:=fun _ H'=>Q .non H',rt:=Q } (zfe N vs) H:=by
 obtain⟨G,ds,sm,r,hp,q⟩:=h
 exact body G ds hp (fun p ws F H' e h1 h2 h3 r=>q p ws F H' e h1 h2 h3 r) G H _ (zce sm r hN)
theorem zyk{res:List D->D}{n:Nat}(hpre:∀ds,pre ds->ds.length=n)(h:SpD K pre res vs H Q X):vs.length=n:=by
 obtain⟨G,ds,sm,r,hp,q⟩:=h
 rw[<- r.length];exact hpre ds hp
theorem zx3{res:List D->List D}{n:Nat}(hpre:∀ds,pre ds->ds.length=n)(h:SpO K pre res vs H Q X):vs.length=n:=by
 obtain⟨G,ds,sm,r,hp,q⟩:=h
 rw[<- r.length];exact hpre ds hp
end
section
variable{K:Zh7}{G Hz L:Hp}{ss:List Sl}{t ta tb:TE}{d:D}{ds es:List D}{i j:Int}
theorem zjg(a:EvB K G Hz L ss ta (.int i))(b:EvB K G Hz L ss tb (.int j))(h:0<j):Ev K G Hz L ss (tOp (rI (fun _ j=>0<j) fun i j=>.int (i % j)) ta tb) (.int (i % j)):=zt4 (C:=fun _ j=>0<j) (g:=fun i j=>i % j) a b h
theorem yik(a:EvB K G Hz L ss ta (.int i))(b:EvB K G Hz L ss tb (.int j))(h:CMul i j):Ev K G Hz L ss (tOp (rI CMul fun i j=>.int (i*j)) ta tb) (.int (i*j)):=zt4 (C:=CMul) (g:=fun i j=>i*j) a b h
theorem znb(a:EvB K G Hz L ss ta (.int i))(b:EvB K G Hz L ss tb (.int j))(h:CDiv i j):Ev K G Hz L ss (tOp (rI CDiv fun i j=>.int (i / j)) ta tb) (.int (i / j)):=zt4 (C:=CDiv) (g:=fun i j=>i / j) a b h
theorem zkx(a:EvB K G Hz L ss ta (.int i))(b:EvB K G Hz L ss tb (.int j)):Ev K G Hz L ss (tOp (rI0 fun i j=>.bl (decide (i<j))) ta tb) (.bl (decide (i<j))):=zm4 (g:=fun i j=>decide (i<j)) a b
end
theorem yc6(n d:Nat){a:Int}(h:0<=a):HT.sIx n d (some a)=min a.toNat n:=by
 show(if a<0 then (a+(n:Int)).toNat else min a.toNat n)=_
 rw[if_neg (by lia)]
theorem ydz(m:List D){a:Int}(h:0<=a):cutD m none (some a)=m.take a.toNat:=by
 unfold cutD
 rw[yc6 _ _ h,show HT.sIx m.length 0 none=0 from rfl,List.drop_zero,Nat.sub_zero,<- List.take_eq_take_min]
theorem zzi(m:List D){b:Int}(h:0<=b):cutD m (some b) none=m.drop b.toNat:=by
 unfold cutD
 rw[yc6 _ _ h,show HT.sIx m.length m.length none=m.length from rfl,List.take_of_length_le (by rw[Znb];lia)]
 by_cases hh:b.toNat<=m.length
 .rw[Zqk hh]
 .rw[Zpz (by lia),Zps,List.drop_eq_nil_of_le (by lia)]
theorem ybh{α β:Type}(xs:List α)(z:α)(p:α->Bool)(f:α->β):((Zid xs.length).filter fun i=>p (xs.getD i z)).map (fun i=>f (xs.getD i z))=(xs.filter p).map f:=by
 have e:xs=(Zid xs.length).map fun i=>xs.getD i z:=by
  refine Zlp fun i=>?_
  rw[Zie]
  by_cases hi:i<xs.length
  .rw[Zkd hi,Zh9 hi];simp[Zh8,hi]
  .rw[Zjz (by lia),Zjz (by simp;lia)];rfl
 conv=>rhs;rw[e]
 rw[Zok,Zja]
 rfl
section
variable{K:Zh7}{G Hz L:Hp}{ss:List Sl}
theorem zgg{α:Type}(xs:List α)(enc:α->D)(p:α->Bool)(f:α->D){tl:TE}{g:TG}{tt:TT}{te:TE}{nt:Nat}{cs:List Nat}(a:EvL K G Hz L ss tl (xs.map enc))(hk:GK nt g)(hc:cs.Nodup)(hz:xs.length<sizeLine)
  (hs:∀x∈xs,∃ss',Tg K G Hz L g (enc x) (lcSl nt cs ss) ss'/\EvT K G Hz L ss' tt (p x)/\(p x=true->Ev K G Hz L ss' te (f x))) :
  EvO K G Hz L ss (tLC nt cs (zs8 K tl) g tt te) ((xs.filter p).map f):=by
 cases xs with
 | nil =>
  have:=zk1 (p:=fun _=>true) (f:=fun _=>.non) (tt:=tt) (te:=te) (zuw a) hk hc (by simpa using hz) (fun i hi=>by simp at hi)
  simpa using this
 | cons z zs =>
  have hl:((z::zs).map enc).length=(z::zs).length:=by simp
  have:=zk1 (p:=fun i=>p ((z::zs).getD i z)) (f:=fun i=>f ((z::zs).getD i z)) (tt:=tt) (te:=te) (zuw a) hk hc (by rw[hl];exact hz) (fun i hi=>by
   rw[hl] at hi
   have hm:(z::zs).getD i z∈(z::zs):=by
    rw[Zh8,Zh9 hi];exact Zla hi
   have e:((z::zs).map enc).getD i .non=enc ((z::zs).getD i z):=by
    rw[Zh8,Zie,Zh8,Zh9 hi];rfl
   rw[e]
   exact hs _ hm)
  rw[hl,ybh] at this
  exact this
theorem zf8:EvT K G Hz L ss zsr true:=fun F H O Q S q=>q _ _ (Ext.refl S.ext.fh)
theorem zr6{α:Type}(xs:List α)(enc:α->D)(f:α->D){tl:TE}{g:TG}{te:TE}{nt:Nat}{cs:List Nat}(a:EvL K G Hz L ss tl (xs.map enc))(hk:GK nt g)(hc:cs.Nodup)(hz:xs.length<sizeLine)
  (hs:∀x∈xs,∃ss',Tg K G Hz L g (enc x) (lcSl nt cs ss) ss'/\Ev K G Hz L ss' te (f x)) :
  EvO K G Hz L ss (tLC nt cs (zs8 K tl) g zsr te) (xs.map f):=by
 have:=zgg xs enc (fun _=>true) f a hk hc hz (tt:=zsr) (te:=te) fun x hx=>by
  obtain⟨ss',h1,h2⟩:=hs x hx
  exact⟨ss',h1,zf8,fun _=>h2⟩
 rw[show xs.filter (fun _=>true)=xs from Zkp.mpr (by simp)] at this
 exact this
theorem zm8{α:Type}{xs:List α}{g:α->Bool}{t:TE}(b:EvL K G Hz L ss t (xs.map fun x=>D.bl (g x))):Ev K G Hz L ss (tCB (rAll K) (za7 t tNil)) (.bl (xs.all g)):=by
 have:=yie (K:=K) (G:=G) (Hz:=Hz) (L:=L) (ss:=ss) (t:=t) (bs:=xs.map g) (by rw[Zja];exact b)
 rw[List.all_map] at this
 exact this
end
end L2
namespace L2T
open PySem
structure TOk(t:Zq7):Prop where
 pl:t.place.toList.Pairwise (· < ·)
 du:t.dummies.toList.Pairwise (· < ·)
 ple:∀j∈t.place.toList,j<=t.mask
 dle:∀j∈t.dummies.toList,j<=t.mask
 dis:∀j∈t.dummies.toList,j∉t.place.toList
 pow:∃k,t.mask+1=2 ^ (k+3)
 big:t.mask<=8191
end L2T
namespace L2T
open PySem SetTable
noncomputable def advM(mask:Nat)(p:Probe):Probe :=
 if p.more>0 then { p with j:=p.j+1,more:=p.more - 1 } else
 let (i,perturb):=leap mask p.i p.perturb
 { p with j:=i,more:=runEnd mask i - i,i,perturb }
noncomputable def stM(mask i perturb:Nat):Probe:={ j:=i,more:=runEnd mask i - i,i,perturb,dummy:=none }
noncomputable def prM(mask:Nat)(h:Int):Nat->Probe
 | 0=>stM mask (bits h % (mask+1)) (bits h)
 | n+1=>advM mask (prM mask h n)
noncomputable def posM(mask:Nat)(h:Int)(n:Nat):Nat:=(prM mask h n).j
noncomputable def yit(t:Zq7)(h:Int)(j:Nat):Prop:=∃n,posM t.mask h n=j /\ ∀m,m<n->t.slot (posM t.mask h m) ≠ .empty
structure SOk{α:Type}(t:Zq7)(es:List (Int×α)):Prop where
 ok:TOk t
 room:t.fill*5<t.mask*3
 size:t.place.size=es.length
 reach:∀c∈t.place.toList.zip es,yit t c.2.1 c.1
noncomputable def yi2(mask:Nat)(owner:Array (Option Nat)):List (Nat×Nat):=(Zid (mask+1)).filterMap fun j=>(owner.getD j none).map (j,·)
structure LInv(mask:Nat)(hs:List Int)(owner:Array (Option Nat)):Prop where
 size:owner.size=mask+1
 perm:((yi2 mask owner).map (·.2)).Perm (Zid hs.length)
 reach:∀j i,owner.getD j none=some i-> ∃h,hs[i]? = some h /\ ∃n,posM mask h n=j /\ ∀q,q<n->owner.getD (posM mask h q) (some 0)≠none
end L2T
namespace L2
open PySem PySem.Spec PyProof.Rows L2T
inductive SK where
 | one (k:Key)
 | many (ks:List Key)
 deriving DecidableEq
noncomputable def SK.flat:SK->Bool
 | .one _=>true
 | .many _=>false
section
variable(prog:Zjj)(w:Zkq)
noncomputable def SK.is(h:Heap):SK->Value->Prop
 | .one k,v=>(zbh prog w).is k v=true
 | .many ks,v=>∃a,v= .ref a/\IsTupleKey (zbh prog w) h ks a
noncomputable def SK.hash:SK->Int
 | .one k=>(zbh prog w).hash k
 | .many ks=>tupleKeyHash (zbh prog w) ks
inductive Es(h:Heap):List SK->List (Int×Value)->Prop
 | nil:Es h [] []
 | cons {k:SK} {e:Int×Value} {ks:List SK} {es:List (Int×Value)}:e.1=k.hash prog w->k.is prog w h e.2->Es h ks es->Es h (k::ks) (e::es)
noncomputable def led0:Bool:=!w.params.followText "set-order"
structure SetO(h:Heap)(o:Obj)(ks:List SK)(es:Array (Int×Value))(ep:Nat)(t:Zq7):Prop where
 ex:o.ExactSet
 data:o.data= .set es ep t
 tab:SOk t es.toList
 ent:Es prog w h ks es.toList
 nod:ks.Nodup
 small:ks.length<=1000
 led:t.led=led0 w
 kind:∃f,∀k∈ks,k.flat=f
end
section
variable{prog:Zjj}{w:Zkq}{A:Zjs}{E:Value->Zih->Prop}{s:Zih}
theorem zvs{n:Nat}(h:n<=1001):n<=sizeLine:=by rw[Ziv];lia
end
section
variable{prog:Zjj}{w:Zkq}{A:Zjs}{E:Value->Zih->Prop}{s:Zih}
structure SetL(w:Zkq)(o:Obj)(es:Array (Int×Value))(ep:Nat)(t:Zq7):Prop where
 data:o.data= .set es ep t
 tab:SOk t es.toList
 led:t.led=led0 w
end
section
variable{prog:Zjj}{w:Zkq}{A:Zjs}{E:Value->Zih->Prop}{s:Zih}
structure Part(prog:Zjj)(w:Zkq)(k0:List SK)(items:Array Value)(i:Nat)(ks:List SK)(es:Array (Int×Value)):Prop where
 mem:∀k,k∈ks ↔ ∃j:Nat,j<i/\k0[j]? = some k
 len:ks.length<=i
 ent:∀e∈es.toList,∃j:Nat,items[j]? = some e.2
end
section
variable{prog:Zjj}{w:Zkq}{A:Zjs}{E:Value->Zih->Prop}{s:Zih}
structure Took(kb:List SK)(p:SK->Bool)(es0:List (Int×Value))(kd:List SK)(kr:List SK)(er:Array (Int×Value)):Prop where
 mem:∀k,k∈kr↔k∈kb\/(k∈kd/\p k=true)
 len:kr.length<=kb.length+kd.length
 ent:∀e∈er.toList,e∈es0
end
noncomputable def D.kk:D->Key
 | .int i=>.inl i
 | .str l=>.inr (T l)
 | _=>.inl 0
noncomputable def D.fl:D->Bool
 | .int _=>true
 | .str _=>true
 | _=>false
noncomputable def D.hk:Bool->D->Bool
 | true,d=>d.fl
 | false,.tup ds=>ds.all D.fl
 | false,_=>false
end L2
namespace L2
open PySem PySem.W PyProof.Rows L2T
noncomputable def zky(K:Zh7):R2:=fun x y H Q=>∃l b xs zs,x= .ref l/\y= .ref b/\SqL K H l xs/\SqL K H b zs/\xs.length+zs.length<=sizeLine /\ ∀p,H p=none->Q (.ref p) (upd H p (.lst (xs++zs)))
theorem zgk{X:Cx}:OpR X (Zpb .Add) (zky X.K):=by
 intro pins s O H x y v u Q I rx ry h
 obtain⟨l,b,xs,zs,rfl,rfl,hl,hb,hz,q⟩:=h
 cases rx
 cases ry
 obtain⟨its,r,pl,_⟩:=I.list hl
 obtain⟨its2,r2,pl2,_⟩:=I.list hb
 have z1:=r.length
 have z2:=r2.length
 obtain⟨⟨cls,dd,data,sl⟩,ho,hc,n,hd⟩:=pl.isList
 obtain⟨⟨cls2,dd2,data2,sl2⟩,ho2,hc2,n2,hd2⟩:=pl2.isList
 dsimp only at hc hd hc2 hd2
 subst hc;subst hd;subst hc2;subst hd2
 refine concat_meets ⟨_,ho,rfl⟩ ⟨_,ho2,rfl⟩ noFill_list_add seq_list_add PySem.F.slot_list_add PySem.F.entry_list_add (PySem.F.args_list_add_2 _ _) (list_addW l b its.toArray its2.toArray n n2 dd dd2 sl sl2 (by simp;lia)) ⟨ho,ho2,?_⟩
 have ea:its.toArray++its2.toArray=(its++its2).toArray:=by simp
 rw[ea]
 exact⟨.ref _,_,I.lnew (t':=s.toks) (r.append r2) (by rw[Zis];omega),rfl,q _ I.fresh⟩
section
variable{K:Zh7}{G Hz L:Hp}{ss:List Sl}{ta tb:TE}{da db:List D}
theorem zjs(a:EvL K G Hz L ss ta da)(b:EvL K G Hz L ss tb db)(hz:da.length+db.length<=sizeLine):EvO K G Hz L ss (tOp (zky K) ta tb) (da++db):=fun F H O Q S q =>
 a F H O _ S fun p vs F1 H1 e1 sq1 r1=>b F1 H1 O _ (S.ext2 e1) fun p2 vs2 F2 H2 e2 sq2 r2=>by
  have l1:=r1.length
  have l2:=r2.length
  refine⟨p,p2,vs,vs2,rfl,rfl,SqL.same e2.hh sq1,sq2,by lia,fun l hl=>?_⟩
  have e12:=e1.trans e2
  exact q l _ F2 _ (e12.newO hl) (e12.hh.free hl) (e12.fh.free hl) zam ((r1.mono e2.gf).append r2)
theorem zi0{d:D}{v:V}(r:∀H,Rep K H d v):Ev K G Hz L ss (tC v) d:=fun F H O Q S q=>q _ _ _ (Ext.refl S.ext.fh) (r _)
end
end L2
namespace L2
open PySem PySem.W PySem.Spec PyProof.Rows
noncomputable def SpR(K:Zh7)(pre:List D->Prop)(R:List D->List D->Prop):Sp:=fun vs H Q _=>∃G ds,Same G H/\Reps K G ds vs/\pre ds /\ ∀rs,R ds rs-> ∀p ws G' H',Ext G H G' H'->H p=none->G' p=none->H' p=some (.lst ws)->Reps K G' rs ws->Q (.ref p) H'
section
variable{K:Zh7}{H:Hp}{vs:List V}{Q:VK}{X:XK}{N:List Str}{t:TS}{pre:List D->Prop}{R:List D->List D->Prop}
theorem yho(h:SpR K pre R vs H Q X)(hN:vs.length<=N.length)(body:∀G ds,pre ds->(∀rs,R ds rs->RtO K G H Q rs)->Go K G H G { nx:=fun _ H'=>Q .non H',rt:=Q } (slots N.length ds) t):t { nx:=fun _ H'=>Q .non H',rt:=Q } (zfe N vs) H:=by
 obtain⟨G,ds,sm,r,hp,q⟩:=h
 exact body G ds hp (fun rs hR p ws F H' e h1 h2 h3 r=>q rs hR p ws F H' e h1 h2 h3 r) G H _ (zce sm r hN)
theorem zxd{n:Nat}(hpre:∀ds,pre ds->ds.length=n)(h:SpR K pre R vs H Q X):vs.length=n:=by
 obtain⟨G,ds,sm,r,hp,q⟩:=h
 rw[<- r.length];exact hpre ds hp
end
section
variable{K:Zh7}{G Hz L:Hp}{ss:List Sl}{t:TA}{ds:List D}{pre:List D->Prop}{R:List D->List D->Prop}{E:XK}{D0:Ends}
theorem yeo{g:TG}(a:EvAF K G Hz L ss t ds)(hp:pre ds)(h:∀rs,R ds rs-> ∃ss',Tg K G Hz L g (.lst rs) ss ss'/\Nx K G Hz L D0.nx ss'):Go K G Hz L D0 ss (tAsg (ze7 (SpR K pre R) [] E t) g):=fun F H O S =>
 a F H O _ S fun vs F1 H1 e1 r1=>⟨F1,ds,e1.fh,by rw[Zji];exact r1,hp,fun rs hR p ws G' H' e2 h1 h2 h3 r=>by
  obtain⟨ss',tg,nx⟩:=h rs hR
  have e:=(e1.trans e2).freeze h2 (e1.hh.free h1) h3
  exact tg _ H' O _ _ (S.ext2 e) (Rep.lst (SqL.of zam) (r.mono (Same.upd h2))) fun O' S'=>nx _ H' O' S'⟩
end
end L2
namespace L2
open PySem PySem.W PyProof.Rows L2T
section
variable{K:Zh7}{G Hz L:Hp}{ss:List Sl}{ta tb t:TE}
theorem zqp{ta:TA}{n:Int}(a:EvA K G Hz L ss ta [.int n])(hb : -(2 ^ 62)<=n/\n<2 ^ 62):EvI K G Hz L ss (ygs ta) n.toNat fun i=>.int (i:Int):=fun F H O R S q =>
 a F H O _ S fun vs F1 H1 e1 r1=>by
  rw[Reps] at r1
  obtain⟨x,r,rfl,rx,r1⟩:=r1
  rw[Reps] at r1
  subst r1
  rw[rx.of_int]
  refine⟨n,rfl,hb.1,hb.2,q F1 H1 _ e1 fun F2 H2 f1 h1 fh=>⟨fun i hi=>⟨hi,fun x H3 y=>?_⟩,Zio _⟩⟩
  obtain⟨rfl,rfl⟩:=y
  refine⟨F2,Ext.refl fh,?_⟩
  have e:(0:Int)+(i:Int)=(i:Int):=by lia
  rw[e]
  exact Rep.int
theorem zpr{i j:Int}(a:EvB K G Hz L ss ta (.int i))(b:EvB K G Hz L ss tb (.int j)):Ev K G Hz L ss (tCB (fun xs H Q=>∃i j,xs=[.int i,.int j]/\Q (.int (if j>i then j else i)) H) (za7 ta (za7 tb tNil))) (.int (if j>i then j else i)):=fun F H O Q S q =>
 a F H O _ S fun v F1 H1 e1 r1=>b F1 H1 O _ (S.ext2 e1) fun v2 F2 H2 e2 r2=>by
  rw[r1.of_int,r2.of_int]
  exact⟨i,j,rfl,q _ F2 H2 (e1.trans e2) Rep.int⟩
theorem zr9{i j:Int}(a:EvB K G Hz L ss ta (.int i))(b:EvB K G Hz L ss tb (.int j)):Ev K G Hz L ss (tCB (fun xs H Q=>∃i j,xs=[.int i,.int j]/\Q (.int (if j<i then j else i)) H) (za7 ta (za7 tb tNil))) (.int (if j<i then j else i)):=fun F H O Q S q =>
 a F H O _ S fun v F1 H1 e1 r1=>b F1 H1 O _ (S.ext2 e1) fun v2 F2 H2 e2 r2=>by
  rw[r1.of_int,r2.of_int]
  exact⟨i,j,rfl,q _ F2 H2 (e1.trans e2) Rep.int⟩
theorem zk7{i j:Int}(a:EvB K G Hz L ss ta (.int i))(b:EvB K G Hz L ss tb (.int j)):Ev K G Hz L ss (tOp (rI0 fun i j=>.bl (decide (j<i))) ta tb) (.bl (decide (j<i))):=zm4 (g:=fun i j=>decide (j<i)) a b
theorem zyz{i j:Int}(a:EvB K G Hz L ss ta (.int i))(b:EvB K G Hz L ss tb (.int j)):Ev K G Hz L ss (tOp (rI0 fun i j=>.bl (decide (i<=j))) ta tb) (.bl (decide (i<=j))):=zm4 (g:=fun i j=>decide (i<=j)) a b
theorem zv0{i j:Int}(a:EvB K G Hz L ss ta (.int i))(b:EvB K G Hz L ss tb (.int j)):Ev K G Hz L ss (tOp (rI0 fun i j=>.bl (decide (j<=i))) ta tb) (.bl (decide (j<=i))):=zm4 (g:=fun i j=>decide (j<=i)) a b
end
end L2
namespace L2
open PySem PySem.W PySem.Spec PyProof.Rows
noncomputable def SpRD(K:Zh7)(pre:List D->Prop)(R:List D->D->Prop):Sp:=fun vs H Q _=>∃G ds,Same G H/\Reps K G ds vs/\pre ds /\ ∀r,R ds r-> ∀v G' H',Ext G H G' H'->Rep K G' r v->Q v H'
section
variable{K:Zh7}{H:Hp}{vs:List V}{Q:VK}{X:XK}{N:List Str}{t:TS}{pre:List D->Prop}{R:List D->D->Prop}
theorem ye3(h:SpRD K pre R vs H Q X)(hN:vs.length<=N.length)(body:∀G ds,pre ds->(∀r,R ds r->RtD K G H Q r)->Go K G H G { nx:=fun _ H'=>Q .non H',rt:=Q } (slots N.length ds) t):t { nx:=fun _ H'=>Q .non H',rt:=Q } (zfe N vs) H:=by
 obtain⟨G,ds,sm,r,hp,q⟩:=h
 exact body G ds hp (fun rs hR v F H' e r=>q rs hR v F H' e r) G H _ (zce sm r hN)
theorem zue{n:Nat}(hpre:∀ds,pre ds->ds.length=n)(h:SpRD K pre R vs H Q X):vs.length=n:=by
 obtain⟨G,ds,sm,r,hp,q⟩:=h
 rw[<- r.length];exact hpre ds hp
end
section
variable{K:Zh7}{G Hz L:Hp}{ss:List Sl}{t:TA}{ds:List D}{pre:List D->Prop}{R:List D->D->Prop}{E:XK}{D0:Ends}{ta tb te:TE}{i j:Int}
theorem ya6{g:TG}(a:EvAF K G Hz L ss t ds)(hp:pre ds)(h:∀r,R ds r-> ∃ss',Tg K G Hz L g r ss ss'/\Nx K G Hz L D0.nx ss'):Go K G Hz L D0 ss (tAsg (ze7 (SpRD K pre R) [] E t) g):=fun F H O S =>
 a F H O _ S fun vs F1 H1 e1 r1=>⟨F1,ds,e1.fh,by rw[Zji];exact r1,hp,fun r hR v G' H' e2 rr=>by
  obtain⟨ss',tg,nx⟩:=h r hR
  exact tg _ H' O _ _ (S.ext2 (e1.trans e2)) rr fun O' S'=>nx _ H' O' S'⟩
theorem ydh(a:EvB K G Hz L ss te (.int i)):Ev K G Hz L ss (tCB (fun xs H Q=>∃x,xs=[.int x,.ty "int"]/\Q (.bl true) H) (za7 te (za7 (tC (.ty "int")) tNil))) (.bl true):=fun F H O Q S q =>
 a F H O _ S fun v F1 H1 e1 r1=>⟨i,by rw[r1.of_int],q _ _ _ e1 Rep.bl⟩
theorem zxv(a:EvB K G Hz L ss te (.int i)):Ev K G Hz L ss (tCB (fun xs H Q=>∃x,xs=[.int x,.ty "bool"]/\Q (.bl false) H) (za7 te (za7 (tC (.ty "bool")) tNil))) (.bl false):=fun F H O Q S q =>
 a F H O _ S fun v F1 H1 e1 r1=>⟨i,by rw[r1.of_int],q _ _ _ e1 Rep.bl⟩
theorem zjx(a:EvB K G Hz L ss te (.int i)):Ev K G Hz L ss (tCB (fun xs H Q=>∃i,xs=[.int i]/\Q (.int (if i<0 then -i else i)) H) (za7 te tNil)) (.int (if i<0 then -i else i)):=fun F H O Q S q =>
 a F H O _ S fun v F1 H1 e1 r1=>⟨i,by rw[r1.of_int],q _ _ _ e1 Rep.int⟩
theorem zj8(a:EvB K G Hz L ss te (.int i)):Ev K G Hz L ss (tUn (rU fun i=>.int (-i)) te) (.int (-i)):=fun F H O Q S q =>
 a F H O _ S fun v F1 H1 e1 r1=>⟨i,by rw[r1.of_int],q _ _ _ e1 Rep.int⟩
theorem yhj(a:EvB K G Hz L ss ta (.int i))(b:EvB K G Hz L ss tb (.int j))(h:CPow i j):Ev K G Hz L ss (tOp (rI CPow fun i j=>.int (i ^ j.toNat)) ta tb) (.int (i ^ j.toNat)):=zt4 (C:=CPow) (g:=fun i j=>i ^ j.toNat) a b h
theorem zy2{ta:TA}{x:Nat}{tb:TS}{m n:Int}(I:Nat->List Sl->Prop)(a:EvA K G Hz L ss ta [.int m,.int n])(hm : -(2 ^ 62)<=m/\m<2 ^ 62)(hb : -(2 ^ 62)<=n/\n<2 ^ 62)(h0:I 0 ss)
  (hs:∀(k:Nat) ss,m+(k:Int)<n->I k ss-> ∀N,(∀ss,I (k+1) ss->Nx K G Hz L N ss)->Go K G Hz L { D0 with nx:=N,ct:=N,bk:=D0.nx } (ss.set x (.d (.int (m+(k:Int))))) tb)
  (hd:∀ss,I (n - m).toNat ss->Nx K G Hz L D0.nx ss):Go K G Hz L D0 ss (tFor (yhl ta) (zfw x) tb):=fun F H O S=>by
 refine(a F H O _ S fun vs F1 H1 e1 r1=>?_)
 rw[Reps] at r1
 obtain⟨v1,r,rfl,rx,r1⟩:=r1
 rw[Reps] at r1
 obtain⟨v2,r,rfl,rx2,r1⟩:=r1
 rw[Reps] at r1
 subst r1
 rw[rx.of_int,rx2.of_int]
 refine⟨m,n,rfl,⟨hm.1,hm.2,hb.1,hb.2⟩,fun i k O' H'=>k=(n - m).toNat - i/\i<=(n - m).toNat/\At K G Hz L (I i) O' H',⟨_,rfl,Zjn _,ss,F1,S.ext2 e1,h0⟩,?_⟩
 rintro i k O' H' ⟨rfl,hi,ss1,F2,S2,h2⟩
 by_cases hlt:i<(n - m).toNat
 .refine .inr ⟨hlt,fun O'' H''=>At K G Hz L (I (i+1)) O'' H'',fun O'' H'' h=>⟨(n - m).toNat - (i+1),by omega,rfl,hlt,h⟩,fun x H'' y=>?_⟩
  obtain⟨rfl,rfl⟩:=y
  exact hs i ss1 (by omega) h2 _ (fun ss h=>zvw h) F2 _ _ (S2.setD Rep.int)
 .have e:i=(n - m).toNat:=by lia
  subst e
  exact .inl ⟨Zio _,hd ss1 h2 F2 H' O' S2⟩
end
end L2
namespace L2
open PySem PySem.W PySem.Spec PyProof.Rows PySem.Builtin PySem.Builtin.Str PySem.StrLaws
end L2
namespace L2
open PySem PySem.W PySem.Spec PyProof.Rows PySem.Builtin PySem.Builtin.Str
end L2
namespace L2
open PySem PySem.W PySem.Spec PyProof.Rows
noncomputable def SpG{α:Type}(K:Zh7)(pre:α->List D->Prop)(res:α->D):Sp:=fun vs H Q _=>∃(G:Hp) (ds:List D) (x:α),Same G H/\Reps K G ds vs/\pre x ds /\ ∀v G' H',Ext G H G' H'->Rep K G' (res x) v->Q v H'
section
variable{α:Type}{K:Zh7}{H:Hp}{vs:List V}{Q:VK}{X:XK}{N:List Str}{t:TS}{pre:α->List D->Prop}{res:α->D}
theorem yia(h:SpG K pre res vs H Q X)(hN:vs.length<=N.length)(body:∀G ds x,pre x ds->RtD K G H Q (res x)->Go K G H G { nx:=fun _ H'=>Q .non H',rt:=Q } (slots N.length ds) t):t { nx:=fun _ H'=>Q .non H',rt:=Q } (zfe N vs) H:=by
 obtain⟨G,ds,x,sm,r,hp,q⟩:=h
 exact body G ds x hp (fun v F H' e r=>q v F H' e r) G H _ (zce sm r hN)
theorem zyq{n:Nat}(hpre:∀x ds,pre x ds->ds.length=n)(h:SpG K pre res vs H Q X):vs.length=n:=by
 obtain⟨G,ds,x,sm,r,hp,q⟩:=h
 rw[<- r.length];exact hpre x ds hp
end
section
variable{α:Type}{K:Zh7}{G Hz L:Hp}{ss:List Sl}{ta tb tc te:TE}{t:TA}{ds:List D}{E:XK}{pre:α->List D->Prop}{res:α->D}
theorem zbe(x:α)(a:EvAF K G Hz L ss t ds)(hp:pre x ds):Ev K G Hz L ss (ze7 (SpG K pre res) [] E t) (res x):=fun F H O Q S q =>
 a F H O _ S fun vs F1 H1 e1 r1=>⟨F1,ds,x,e1.fh,by rw[Zji];exact r1,hp,fun v G' H' e2 r=>q _ _ _ (e1.trans e2) r⟩
theorem yea{b:Bool}(a:EvB K G Hz L ss te (.bl b)):Ev K G Hz L ss (tCB (fun xs H Q=>(∃i,xs=[.int i]/\Q (.int i) H) \/ ∃k:Bool,xs=[.bl k]/\Q (.int (if k then 1 else 0)) H) (za7 te tNil)) (.int (if b then 1 else 0)):=fun F H O Q S q =>
 a F H O _ S fun v F1 H1 e1 r1=>.inr ⟨b,by rw[r1.of_bl],q _ _ _ e1 Rep.int⟩
end
end L2
namespace L2
open PySem PySem.W PyProof.Rows
section
variable{X:Cx}{pins:List (Addr×Obj)}{O:St}{H:Hp}{s:Zih}{A':Zjs}
theorem Inv.eqAt(I:Inv X pins O H s){d e:D}{x y:V}{u v:Value}(r1:Rep X.K H d x)(rx:RelV x u)(r2:Rep X.K H e y)(ry:RelV y v)(n1:d.nb=true)(n2:e.nb=true)(hd:d.dep<=60)(hu:A'.units+64<Zon):SeqAt.EqAt A' s u v (decide (d=e)):=by
 obtain⟨⟨as,a⟩,c1⟩:=I.reads n1 r1 rx
 obtain⟨⟨bs,b⟩,c2⟩:=I.reads n2 r2 ry
 have h1:=D.toP_depth d
 have:=SeqAt.eqAt_reads d.toP e.toP A' s u v as bs a b c1 c2 (by lia)
 rw[D.eqv d e n1 n2] at this
 exact this
noncomputable def D.hd:D->D
 | .tup (h::_)=>h
 | d=>d
end
end L2
namespace L2
open PySem PySem.W PySem.Spec PyProof.Rows PySem.Calls
noncomputable def keyD(a b:Int)(xs:List Int):D:=.tup [.int a,.int b,.lst (xs.map .int)]
section
variable{X:Cx}{pins:List (Addr×Obj)}{O:St}{H:Hp}{s:Zih}{A':Zjs}
theorem zrs{us:List Value}:∀{xs:List Int},Vals (xs.map V.int) us-> ∀(i:Nat) (x:Int),xs[i]? = some x-> ∃t,us.toArray[i]? = some (Zlw x t):=fun {xs} r i x h=>by
 obtain⟨u,hu,ru⟩:=r.get (i:=i) (x:=V.int x) (by rw[Zie,h];rfl)
 obtain⟨t,rfl⟩:=ru
 exact⟨t,by simpa using hu⟩
theorem zkr{F:Hp}:∀{ns:List Int} {vs:List V},Reps X.K F (ns.map D.int) vs->vs=ns.map V.int
 | [],vs,r=>by rw[Zk4,Reps] at r;exact r
 | n::ns,vs,r=>by
  rw[Zik,Reps] at r
  obtain⟨v,ws,rfl,h1,h2⟩:=r
  rw[h1.of_int,zkr h2];rfl
theorem znq:∀{xs ys:List Int},xs.map D.int=ys.map D.int->xs=ys
 | [],[],_=>rfl
 | [],_::_,h=>by simp at h
 | _::_,[],h=>by simp at h
 | x::xs,y::ys,h=>by
  rw[Zik,Zik] at h
  injection h with h1 h2
  injection h1 with h1
  rw[h1,znq h2]
theorem Inv.key(I:Inv X pins O H s){a b:Int}{xs:List Int}{y:V}{u:Value}(r:Rep X.K H (keyD a b xs) y)(ry:RelV y u) :
  ∃p o its n t1 t2 q y3,u= .ref p/\s.heap.get? p=some o/\o.cls= .type "tuple" /\ o.data= .seq its n/\its.toList=[Zlw a t1,Zlw b t2,Zkr q]/\Rep X.K H (.lst (xs.map .int)) y3/\RelV y3 (.ref q) /\
   ∃ol us m,s.heap.get? q=some ol/\ol.cls= .type "list" /\ ol.data= .seq us m/\us.size=xs.length /\ ∀(i:Nat) (x:Int),xs[i]? = some x-> ∃t,us[i]? = some (Zlw x t):=by
 obtain⟨p,vs,rfl,sq,rs⟩:=r.of_tup
 cases ry
 obtain⟨its,rv,⟨o,e,c,n,hd⟩,_⟩:=I.tuple sq
 rw[Reps] at rs
 obtain⟨x1,vs,rfl,r1,rs⟩:=rs
 rw[Reps] at rs
 obtain⟨x2,vs,rfl,r2,rs⟩:=rs
 rw[Reps] at rs
 obtain⟨x3,vs,rfl,r3,rs⟩:=rs
 rw[Reps] at rs
 subst rs
 have e1:=r1.of_int
 have e2:=r2.of_int
 subst e1 e2
 obtain⟨q,ws,rfl,sq3,rs3⟩:=id r3.of_lst
 have ew:=zkr rs3
 subst ew
 cases rv with
 | cons a1 rv=>cases rv with
  | cons a2 rv=>cases rv with
   | cons a3 rv =>
    cases rv
    obtain⟨t1,rfl⟩:=a1
    obtain⟨t2,rfl⟩:=a2
    cases a3
    obtain⟨us,rv2,⟨ol,m,e3,c3,_,d3⟩,_⟩:=I.list sq3
    have hl:=rv2.length
    rw[Zia] at hl
    exact⟨p,o,_,n,t1,t2,q,.ref q,rfl,e,c,hd,rfl,r3,rfl,ol,us.toArray,m,e3,c3,d3,by simp[hl],zrs rv2⟩
theorem ygi (I : Inv X pins O H s) {a b a' b' : Int} {xs ys : List Int} {y z : V} {u v : Value} {C : Value -> Zih -> Prop} {E : Value -> Zih -> Prop} (r1 : Rep X.K H (keyD a b xs) y) (ry : RelV y u) (r2 : Rep X.K H (keyD a' b' ys) z) (rz : RelV z v) (hl : xs.length = ys.length) (hu : A'.units + 70 < Zon)
  (hC:C (.bool (decide (a::b::xs<a'::b'::ys))) s):Zjd (Zjx X.prog X.w) A' (Znw .Lt u v) C E s:=by
 obtain⟨p,⟨cls,dd,data,sl⟩,its,n,t1,t2,q,y3,rfl,ho,hc,hd,hits,r3,ry3,⟨clsl,ddl,datal,sll⟩,us,m,hq,hcl,hdl,hus,hui⟩:=I.key r1 ry
 obtain⟨p',⟨cls',dd',data',sl'⟩,its',n',t1',t2',q',y3',rfl,ho',hc',hd',hits',r3',ry3',⟨clsl',ddl',datal',sll'⟩,us',m',hq',hcl',hdl',hus',hui'⟩:=I.key r2 rz
 simp only at hc hd hc' hd' hcl hdl hcl' hdl'
 subst hc hd hc' hd' hcl hdl hcl' hdl'
 have z1:its.size=3:=by rw[<- Zkm,hits];rfl
 have z2:its'.size=3:=by rw[<- Zkm,hits'];rfl
 have hlex:LexC X.prog X.w A'.in1 s its.toList its'.toList (decide (a::b::xs<a'::b'::ys)):=by
  rw[hits,hits',zjv]
  by_cases ha:a=a'
  .rw[if_pos ha,zjv]
   refine .eq (fun E Q hQ=>zna (t:=.i) (d:=.int a) (e:=.int a') rfl rfl ⟨t1,rfl⟩ ⟨t1',rfl⟩ (by rw[decide_eq_true (show D.int a=D.int a' by rw[ha])];exact hQ)) ?_
   by_cases hb:b=b'
   .rw[if_pos hb]
    refine .eq (fun E Q hQ=>zna (t:=.i) (d:=.int b) (e:=.int b') rfl rfl ⟨t2,rfl⟩ ⟨t2',rfl⟩ (by rw[decide_eq_true (show D.int b=D.int b' by rw[hb])];exact hQ)) ?_
    have nb:∀zs:List Int,(D.lst (zs.map .int)).nb=true:=fun zs=>by rw[D.nb_lst];exact D.nbs_map (fun _=>rfl) zs
    have dp:(D.lst (xs.map .int)).dep<=60:=by rw[D.dep_lst];have:=D.deps_map (enc:=D.int) (n:=0) (fun _=>Zio _) xs;omega
    have heq:=I.eqAt (A':=A'.in1) r3 ry3 r3' ry3' (nb xs) (nb ys) dp (by show A'.units+1+64<_;omega)
    by_cases hx:xs=ys
    .subst hx
     rw[decide_eq_false (Zmg _)]
     rw[decide_eq_true rfl] at heq
     exact .eq (fun E Q hQ=>heq _ _ _ _ hQ) .nil
    .rw[decide_eq_false (fun z=>hx (by
      injection z with z
      exact znq z))] at heq
     refine .ne (fun E Q hQ=>heq _ _ _ _ hQ) fun E Q hQ=>?_
     exact richCompare_meets_room (op:=.Lt) ⟨_,hq,rfl⟩ ⟨_,hq',rfl⟩ PySem.F.slot_list_lt PySem.F.entry_list_lt (PySem.F.args_list_lt_2 _ _) (yeq q q' us us' m m' ddl ddl' sll sll' xs ys hui hui' hus hus' hl) ⟨hq,hq',(fun z=>nomatch z),hQ⟩ (by show A'.units+1<_;omega)
   .rw[if_neg hb]
    refine .ne (fun E Q hQ=>zna (t:=.i) (d:=.int b) (e:=.int b') rfl rfl ⟨t2,rfl⟩ ⟨t2',rfl⟩ (by rw[decide_eq_false (show ¬ D.int b=D.int b' from fun z=>hb (by injection z))];exact hQ)) fun E Q hQ=>zm9 (t:=.i) (d:=.int b) (e:=.int b') rfl rfl ⟨t2,rfl⟩ ⟨t2',rfl⟩ (by rw[zwt];exact hQ)
  .rw[if_neg ha]
   refine .ne (fun E Q hQ=>zna (t:=.i) (d:=.int a) (e:=.int a') rfl rfl ⟨t1,rfl⟩ ⟨t1',rfl⟩ (by rw[decide_eq_false (show ¬ D.int a=D.int a' from fun z=>ha (by injection z))];exact hQ)) fun E Q hQ=>zm9 (t:=.i) (d:=.int a) (e:=.int a') rfl rfl ⟨t1,rfl⟩ ⟨t1',rfl⟩ (by rw[zwt];exact hQ)
 exact wpAny_richCompare_same_room ⟨_,ho,rfl⟩ ⟨_,ho',rfl⟩ Zq0 (Zmv Zq0 ⟨_,ho,rfl⟩ PySem.F.entry_tuple_lt (PySem.F.args_tuple_lt_2 _ _) (zqg X.prog X.w p p' its its' n n' dd dd' sl sl' (by omega) _) ⟨ho,ho',hlex,(fun z=>nomatch z),hC⟩) (by omega)
end
noncomputable def zve(X:Cx)(N:List Str)(qual:Str)(scope:Scope)(f c':Addr)(cl:List (Str×Addr))(A:Zjs)(s:Zih)(H:Hp):Cx where
 prog:=X.prog
 w:=X.w
 K:=X.K
 mg:=X.mg
 base:=X.base
 A:=A.deeper (envX qual scope s.heap.objs.size f (.ref c') cl)
 N:=N
 s₀:=s
 Hz:=H
 env:=envX qual scope s.heap.objs.size f (.ref c') cl
 outer:=X.stack
 stack:=envX qual scope s.heap.objs.size f (.ref c') cl::X.stack
 ex:=[]
 calm:=true
 fn:=fun _=>false
 pn:=[]
 xe:=fun _ _=>False
section
variable{X:Cx}{pins:List (Addr×Obj)}{O:St}{H:Hp}{s:Zih}{A':Zjs}
theorem ye8(I:Inv X pins O H s)(hA:A'.frames=some X.stack)(hd:A'.handled=none)(hroom:A'.depth<Zrs){f c' cc:Addr}{qual:Str}{params:Zrp}{body:Expr}{scope:Scope}{pm ctv:Value}{x y:Str}{u uy:Value}{v vy:V}{te:TE}{Q:VK}
  (ho:s.heap.get? f=some (kla_obj "<lambda>" qual params body scope [(y,cc)] pm c' ctv)) (hcd:s.heap.CodeRec (.ref c') qual) (hcc:X.env.cells.lookup y=some cc) (hcell:s.heap.IsCell cc (some uy)) (ry:RelV vy uy) (ru:RelV v u)
  (hbind:Zob (kla_fn "<lambda>" qual params body scope [(y,cc)] pm (.ref c') ctv) ⟨[u],[]⟩=pure [(x,u)]) (hx:scope.names.lookup x=some .local) (hy:scope.names.lookup y=some .free) (hnc:∀z∈scope.names,z.2 ≠ .cell) (hfr:∀z,scope.names.lookup z=some .free->z=y)
  (hco:scope.isCoroutine=false) (hgen:scope.isGenerator=false) (hk:scope.kind= .function)
  (he:PE (zve X [x,y] qual scope f c' [(y,cc)] A' s H) body te) (h:te [some v,some vy] H Q) :
  Zjd (Zjx X.prog X.w) A' (call (.ref f) [u]) (fun r s'=>CE X.stack X.prog X.w H s Q r s') (fun _ _=>False) s:=by
 have e0:=I.env0
 refine wpAny_call (kla_callFunE hroom ho rfl hco hgen rfl hcd ?_)
 rw[hbind]
 refine Ziu (Zsy hnc (fun z hz=>by rw[Zic.mp hz];exact hx) (fun h₁ hns hsb=>⟨I.nolimit.fresh _ hsb,?_⟩) hk)
 show Zo6 _ _ (.expr body (envX qual scope s.heap.objs.size f (.ref c') [(y,cc)])) _ _
 have hk₁:∀b o,s.heap.get? b=some o->h₁.get? b=some o:=fun b o e=>hsb.extBut b o (Zi6 (Ziw e)) (Zim _ e)
 have look1:∀{z:Str} {c:Addr},([(y,cc)]:List (Str×Addr)).lookup z=some c->z=y/\c=cc:=fun {z c} e=>by
  by_cases hz:z=y
  .subst hz;simp at e;exact⟨rfl,e.symm⟩
  .have:(z == y)=false:=by simpa using hz
   simp[Zp5,this] at e
 have noA:∀b:Addr,b∉(zve X [x,y] qual scope f c' [(y,cc)] A' s H).ex:=fun b z=>absurd (show b∈([]:List Addr) from z) (by simp)
 have J:Inv (zve X [x,y] qual scope f c' [(y,cc)] A' s H) [] [some v,some vy] H { s with heap:=h₁,toks:=s.toks+[(x,u)].length }:=by
  refine⟨⟨e0.mod,hk,rfl,rfl,Zio _,fun z1 z2 c q1 q2=>?_,fun z hz=>?_,(fun z c q _=>by cases q),fun _=>hd,Zro hA,.inr ⟨rfl,rfl⟩,fun b z=>absurd z (noA b),e0.bs,e0.bsz,fun b _ _=>noA b,fun b z=>absurd z (noA b),e0.funs,e0.frf⟩,
   rfl,e0.bare,Un.kept hk₁,⟨_,hns,fun i z v' q1 q2 q3=>?_⟩,fun z c q=>?_,e0.hok.fresh (Zio _),fun z c q=>?_,fun p hp=>absurd (show p∈([]:List (Addr×Obj)) from hp) (by simp),e0.hok.kept hk₁,rfl⟩
  .rw[(look1 q1).1,(look1 q2).1]
  .have hz:scope.names.lookup z=some .cell\/scope.names.lookup z=some .free:=hz
   rcases hz with hz | hz
   .exact absurd rfl (hnc _ (Zk2 hz))
   .rw[hfr z hz];exact⟨cc,by simp[zve]⟩
  .match i,q1,q2 with
   | 0,q1,q2 =>
    cases q1;cases q2
    exact⟨u,ru,.inl ⟨hx,by simp⟩⟩
   | 1,q1,q2 =>
    cases q1;cases q2
    obtain⟨o,e1,e2⟩:=hcell
    exact⟨uy,ry,.inr ⟨.inr hy,cc,by simp[zve],⟨o,hk₁ _ _ e1,e2⟩⟩⟩
   | n+2,q1,q2=>cases q2
  .obtain⟨rfl,rfl⟩:=look1 q
   obtain⟨o,e1,e2⟩:=hcell
   exact⟨_,⟨o,hk₁ _ _ e1,e2⟩⟩
  .obtain⟨rfl,rfl⟩:=look1 q
   exact I.freeC _ _ hcc
 exact kla_codeExpr (Zk5 (he [] _ _ _ _ J h) (fun r s' hs=>by
  obtain⟨y',H',J',r',q'⟩:=hs
  exact⟨y',H',J'.os,J'.bare,J'.base,J'.hok,r',q'⟩) fun _ _ z=>z.elim)
end
noncomputable def zwe(H:Hp)(c' P:Addr)(q:Str):Prop:=∃oc vs t,H c'=some (.frz oc (.own P))/\oc.data= .fields vs/\vs[1]? = some (.str q t)
theorem zwe.same{H H':Hp}{c' P:Addr}{q:Str}(x:zwe H c' P q)(h:Same H H'):zwe H' c' P q:=by
 obtain⟨oc,vs,t,a,b⟩:=x
 exact⟨oc,vs,t,h _ _ a,b⟩
theorem zwe.rec{P:Zjj}{w:Zkq}{H:Hp}{h:Heap}{c' T:Addr}{q:Str}(x:zwe H c' T q)(ok:HOk P w H h):h.CodeRec (.ref c') q:=by
 obtain⟨oc,vs,t,a,b,c⟩:=x
 exact⟨c',oc,vs,t,rfl,(ok _ _ a).1,b,c⟩
section
variable{X:Cx}{pins:List (Addr×Obj)}{O:St}{H:Hp}{s:Zih}{A':Zjs}{P c:Addr}{pos:Pos}
theorem yb0 {E : Value -> Zih -> Prop} {Q : Value -> Zih -> Prop} {params : Zrp} {body : Expr} {scope : Scope} {clos : List (Str × Addr)} (I : Inv X pins O H s) (hT : H P = some (.tab #[] pos (X.env.qual ++ "<lambda>"))) (C : CodeHd X.base c P) (hb : X.base.BuiltinsAt X.mg P) (hcode : X.env.code = .ref c)
  (hdef:defaultsOf params X.env=([],[])) (hcl:Zpa scope X.env=pure clos)
  (h:∀f c' ctv H' s',Inv X (pins++[(f,kla_obj "<lambda>" (X.env.qual ++ "<lambda>") params body scope clos ((X.mg "__name__").getD .none) c' ctv)]) O H' s'->Same H H'->zwe H' c' P (X.env.qual ++ "<lambda>")->Q (.ref f) s') :
  Zjd (Zjx X.prog X.w) A' (eval (.Lambda params body scope pos) X.env) Q E s:=by
 have hns:s.heap.Ns Zk6 X.mg:=I.mod.glob.keeps I.bk
 have hgP:Zk6≠P:=fun z=>by
  obtain⟨o,es,ep,e,_⟩:=I.mod.glob
  rw[<- z,(I.bs _ _ e).2] at hT;cases hT
 have hLP:X.env.locals≠P:=fun z=>by rw[<- z,I.free] at hT;cases hT
 have hb':s.heap.BuiltinsAt X.mg P:=by
  obtain⟨bm,o,b1,b2,b3,b4,b5,b6⟩:=hb
  exact⟨bm,o,b1,b2,b3,b4,I.bk _ _ b5,b6⟩
 have C':=C.keeps I.bk
 obtain⟨more,hP,ht,hc⟩:=I.hok _ _ hT
 refine kla_eval hdef ?_
 have pin1:∀{H':Hp} {s':Zih} {o:Obj},Inv X pins O H' { s' with heap:=s'.heap.push o }->(∀v,o.data ≠ .cell v)->o.isFreed=false->s.heap.objs.size<=s'.heap.objs.size->H' s'.heap.objs.size=none->Inv X (pins++[(s'.heap.objs.size,o)]) O H' { s' with heap:=s'.heap.push o }:=fun {H' s' o} J hd hfr hsz hn=>by
  refine J.pins_of fun p hp=>?_
  rcases Zin.mp hp with hp | hp
  .exact J.pin p (Zig _ hp)
  .rw[Zic.mp hp]
   have f:=I.fpOk (H':=H') hsz hn
   exact⟨Zi1 _ hfr,f.1,f.2.1,f.2.2.1,hd⟩
 rcases hc with hc | ⟨c',oc,vs,t,hc,hf,d1,d2⟩
 .refine kla_makeFunction hcl I.ok.glob hns hcode C' hP ht hc hgP hb' fun c' ctv h' tk hx hge hlt hrec htb => ?_
  obtain⟨c2,oc,vs,t,e2,hoc,d1,d2⟩:=hrec
  cases e2
  have fc:H c'=none:=I.hok.fresh hge
  have ncP:c'≠P:=fun z=>by rw[<- z,fc] at hT;cases hT
  have sm:Same H (upd H c' (.frz oc (.own P))):=fun b o q=>by rw[zav (zba q fc)];exact q
  have kp:∀(o2:Obj) b o,b≠P->s.heap.get? b=some o->(h'.push o2).get? b=some o:=fun o2 b o hb e=>Zim _ (hx b o hb e)
  have hsz:s.heap.objs.size<=h'.objs.size:=Zjb hge (Zl4 hlt)
  have I2:∀o2:Obj,Inv X pins O (upd H c' (.frz oc (.own P))) { s with heap:=h'.push o2,toks:=tk }:=fun o2=>by
   refine I.step (g':=s.gens) (d':=s.drawn) (ch:=[]) (fun _ z=>nomatch z) (fun b o _ _ _ e n=>kp o2 b o (fun z=>by rw[z,hT] at n;cases n) e) (fun b o _ _ _ e n=>⟨o.slots,kp o2 b o (fun z=>by rw[z,hT] at n;cases n) e⟩)
    (fun b o _ e n=>by rw[zav (Zi6 (Zi5 (Ziw e) hge))];exact n) (fun b o _ e=>?_) (fun b xs q=>sm _ _ q) (fun b o u q=>sm _ _ q) (fun b ps q=>⟨#[],by rw[sm _ _ q];simp⟩) (fun m hm=>?_) (fun b u q=>?_) I.bare
   .by_cases hb:b=P
    .rw[hb];exact⟨_,Zim _ htb⟩
    .exact⟨o,kp o2 b o hb e⟩
   .obtain⟨o,es,ep,ho,r⟩:=hm
    exact⟨o,es,ep,kp o2 _ o hLP ho,r⟩
   .by_cases hb:b=c'
    .subst hb
     rw[zam] at q;cases q
     exact⟨Zim _ hoc,_,Zim _ hoc⟩
    .rw[zav hb] at q
     by_cases hp:b=P
     .subst hp
      rw[hT] at q;cases q
      refine⟨more ++ #[Zvd pos.line,Zvd pos.col,.ref c'],?_,?_,.inr ⟨c',oc,vs,t,?_,zam,d1,d2⟩⟩
      .have:=Zim o2 htb
       rw[Zr3] at this
       exact this
      .have:=TriplesOk_snoc pos.line pos.col (.ref c') _ ht
       simpa using this
      .have:=codeAmong_snoc (c:=.ref c') _ ht hc
       simpa using this
     .refine(I.hok b u q).stay (fun d v hd r=>kp o2 d v (fun z=>?_) r) (fun d r=>sm _ _ r) (fun d xs r=>sm _ _ r) (fun d o u r=>sm _ _ r)
      rcases hd with hd | hd
      .exact hp (hd.symm.trans z)
      .rw[z,hT] at hd;cases hd
  refine h h'.objs.size c' ctv _ _ (pin1 (s':={ s with heap:=h',toks:=tk }) (I2 _) (fun v z=>by cases z) rfl hsz ?_) sm ⟨oc,vs,t,zam,d1,d2⟩
  show upd H c' _ h'.objs.size=none
  rw[zav (Zop hlt)]
  exact I.hok.fresh hsz
 .refine kla_makeFunctionHit hcl I.ok.glob hns hcode C' hP ht hc hb' fun ctv h' tk hk hsz=>?_
  exact h h'.objs.size c' ctv _ _ (pin1 (s':={ s with heap:=h',toks:=tk }) (I.kept (t':=tk) fun b o e=>Zim _ (hk b o e)) (fun v z=>by cases z) rfl hsz (I.hok.fresh hsz)) (Same.refl _) ⟨oc,vs,t,hf,d1,d2⟩
end
end L2
namespace L2
open PySem PySem.W PyProof.Rows PySem.Spec PySem.Calls
noncomputable def one(f:V->Hp->Prop):List V->Hp->Prop
 | [v],H=>f v H
 | _,_=>False
theorem zwm{f:V->Hp->Prop}:∀{vs:List V} {H:Hp},one f vs H-> ∃v,vs=[v]/\f v H
 | [v],_,h=>⟨v,rfl,h⟩
 | [],_,h=>h.elim
 | _::_::_,_,h=>h.elim
section
variable{prog:Zjj}{w:Zkq}{A:Zjs}{R:Result->Zih->Prop}{l I0 S:Addr}{vs:Array Value}{ns:List Int}{kw:List (Str×Value)}
theorem yai(hh:A.handled=none)(hlI:l≠I0)(hSI:S≠I0)(hlS:l≠S)(hv:∀(i:Nat) (v:Value),vs[i]? = some v-> ∃x t,ns[i]? = some x/\v= .int x t)(hsz:vs.size=ns.length) :
  ∀(r j:Nat) (s:Zih) (m:Int) (t:Tok) (c:Nat),ns.length - (j+1)=r->j+1<=ns.length->s.heap.IsListIter I0 l (j+1)->s.heap.IsList l vs->s.heap.get? S=some (Zmu "list" #[.int m t,.int m t] c) ->
   m∈ns->(∀n∈ns.take (j+1),n<=m) ->
   (∀(m':Int) (t':Tok) (h':Heap) (tk:Nat),m'∈ns->(∀n∈ns,n<=m')->(∀b o,b≠I0->b≠S->s.heap.get? b=some o->h'.get? b=some o)->R (.ok (.ret (.int m' t'))) { s with heap:=h',toks:=tk }) ->
   Zo6 (Zjx prog w) A (.builtin "max.loop" ⟨[.ref I0,.none,.ref S],kw⟩) R s:=by
 have hname:(Zoa "max" ++ Zoa ".loop" : String) = "max.loop" := by decide
 have W:=Zoh (prog:=prog) (w:=w) (A:=A.in1) hh I0 l hlI vs
 intro r
 induction r with
 | zero =>
  intro j s m t c hr hj hit hl hS hm hb hR
  have hin:j+1=ns.length:=by omega
  refine Zlu Zn5 ?_
  rw[Zku Zk1 _]
  show Zjd _ A.in1 (Zpv (.ref S) >>= _) _ _ _
  refine Zib (Znf hS rfl ?_)
  show Zjd _ A.in1 (Zn9 (Zpw (.ref I0)) _ >>= _) _ _ _
  refine Zib (Zk7 (W.done _ _ _ ⟨by rw[hsz,<- hin];exact hit,hl⟩ fun h' tk' hk'=>?_))
  have hS':=hk' S _ (by simpa using hSI) hS
  have s1:=Zkz h' S (Zlf fun _=>(#[]:Array Value))
  show Zjd _ A.in1 (Zss S (fun _=>#[]) >>= _) _ _ _
  refine Zib (Zmy hS' rfl (Zib (Zmc (Ziu ?_))))
  exact hR m t _ tk' hm (fun n hn=>hb n (by rw[hin,Zi3];exact hn)) fun b o h1 h2 e=>(s1.2 b h2).trans (hk' b o (by simpa using h1) e)
 | succ r ih =>
  intro j s m t c hr hj hit hl hS hm hb hR
  have hlt2:j+1<ns.length:=by omega
  refine Zlu Zn5 ?_
  rw[Zku Zk1 _]
  show Zjd _ A.in1 (Zpv (.ref S) >>= _) _ _ _
  refine Zib (Znf hS rfl ?_)
  show Zjd _ A.in1 (Zn9 (Zpw (.ref I0)) _ >>= _) _ _ _
  refine Zib (Zk7 (W.item (j+1) _ _ _ (by rw[hsz];omega) ⟨hit,hl⟩ fun v h' tk' hP hst' hk'=>?_))
  obtain⟨x,t2,hx,rfl⟩:=hv (j+1) v (by simpa using hP)
  have hS':=hk' S _ (by simpa using hSI) hS
  have tk1:ns.take (j+1+1)=ns.take (j+1)++[x]:=by rw[Zi0,hx];rfl
  show Zjd _ A.in1 (pure (Zlw x t2) >>= _) _ _ _
  refine Zib (Ziu ?_)
  show Zjd _ A.in1 (Zn9 (Zs3 [.int x t2,.int x t2] (Znw .Gt (.int x t2) (.int m t) >>= _)) _ >>= _) _ _ _
  refine Zib (Zk7 (Zmi (Zib (Zqd (op:=.Gt) (Zqc _ _ t2) (Zqc _ _ t) PySem.F.slot_int_gt PySem.F.entry_int_gt (PySem.F.args_int_gt_2 _ _) (gives_int_gt _ _ t2 t) (fun x=>nomatch x) ?_))))
  refine Zib (Zmi (Zkt ?_))
  refine Zib (Zmc (Ziu ?_))
  by_cases hb':x>m
  .have s1:=Zkz h' S (Zlf fun _=>#[.int x t2,.int x t2])
   obtain⟨c2,hc2⟩:∃c2,(h'.update S (Zlf fun _=>#[.int x t2,.int x t2])).get? S=some (Zmu "list" #[.int x t2,.int x t2] c2):=⟨_,Zo5 hS' fun _=>#[.int x t2,.int x t2]⟩
   simp only[hb',decide_true,if_true]
   refine Zib ?_
   refine Zmy hS' rfl (Zib (Zmc ?_))
   rw[hname]
   refine Ziu ⟨Zlm Zk1 _,ih (j+1) _ x t2 c2 (by omega) hlt2 ?_ ?_ hc2 (Zii hx) (fun n hn=>?_) fun m' t' h'' tk q1 q2 q3=>?_⟩
   .obtain⟨o,e,q⟩:=hst'.1
    exact⟨o,(s1.2 _ (Zju hSI)).trans e,q⟩
   .obtain⟨o,e,q⟩:=hst'.2
    exact⟨o,(s1.2 _ hlS).trans e,q⟩
   .rw[tk1] at hn
    rcases Zin.mp hn with z | z
    .exact Int.le_trans (hb n z) (Int.le_of_lt hb')
    .rw[Zic.mp z];exact Zll _
   .exact hR m' t' h'' tk q1 q2 fun b o h1 h2 e=>q3 b o h1 h2 ((s1.2 b h2).trans (hk' b o (by simpa using h1) e))
  .simp only[hb',decide_false,Zmt,if_false]
   refine Zib (Zmc ?_)
   rw[hname]
   refine Ziu ⟨Zlm Zk1 _,ih (j+1) _ m t c (by omega) hlt2 hst'.1 hst'.2 hS' hm (fun n hn=>?_) fun m' t' h'' tk q1 q2 q3=>?_⟩
   .rw[tk1] at hn
    rcases Zin.mp hn with z | z
    .exact hb n z
    .rw[Zic.mp z];omega
   .exact hR m' t' h'' tk q1 q2 fun b o h1 h2 e=>q3 b o h1 h2 (hk' b o (by simpa using h1) e)
theorem zy0{s:Zih}{c:Nat}(hh:A.handled=none)(hlI:l≠I0)(hSI:S≠I0)(hlS:l≠S)(hv:∀(i:Nat) (v:Value),vs[i]? = some v-> ∃x t,ns[i]? = some x/\v= .int x t)(hsz:vs.size=ns.length)(hit:s.heap.IsListIter I0 l 0)(hl:s.heap.IsList l vs)(hS:s.heap.get? S=some (Zmu "list" #[] c))
  (hR:∀(m':Int) (t':Tok) (h':Heap) (tk:Nat),m'∈ns->(∀n∈ns,n<=m')->(∀b o,b≠I0->b≠S->s.heap.get? b=some o->h'.get? b=some o)->R (.ok (.ret (.int m' t'))) { s with heap:=h',toks:=tk })
  (hD:ns=[]-> ∃k d r,kw=(k,d)::r /\ ∀(h':Heap) (tk:Nat),(∀b o,b≠I0->b≠S->s.heap.get? b=some o->h'.get? b=some o)->R (.ok (.ret d)) { s with heap:=h',toks:=tk }) :
  Zo6 (Zjx prog w) A (.builtin "max.loop" ⟨[.ref I0,.none,.ref S],kw⟩) R s:=by
 have hname:(Zoa "max" ++ Zoa ".loop" : String) = "max.loop" := by decide
 have W:=Zoh (prog:=prog) (w:=w) (A:=A.in1) hh I0 l hlI vs
 refine Zlu Zn5 ?_
 rw[Zku Zk1 _]
 show Zjd _ A.in1 (Zpv (.ref S) >>= _) _ _ _
 refine Zib (Znf hS rfl ?_)
 show Zjd _ A.in1 (Zn9 (Zpw (.ref I0)) _ >>= _) _ _ _
 by_cases hn:ns=[]
 .obtain⟨k,d,r,rfl,hd⟩:=hD hn
  refine Zib (Zk7 (W.done _ _ _ ⟨by rw[hsz,hn];exact hit,hl⟩ fun h' tk' hk'=>?_))
  show Zjd _ A.in1 (do rule _;ret d) _ _ _
  exact Zib (wpAny_rule (Ziu (hd h' tk' fun b o h1 h2 e=>hk' b o (by simpa using h1) e)))
 .have hpos:0<ns.length:=Zlg.mpr hn
  refine Zib (Zk7 (W.item 0 _ _ _ (by rw[hsz];exact hpos) ⟨hit,hl⟩ fun v h' tk' hP hst' hk'=>?_))
  obtain⟨x,t2,hx,rfl⟩:=hv 0 v (by simpa using hP)
  have hS':=hk' S _ (by simpa using hSI) hS
  show Zjd _ A.in1 (pure (Zlw x t2) >>= _) _ _ _
  refine Zib (Ziu ?_)
  have s1:=Zkz h' S (Zlf fun _=>#[.int x t2,.int x t2])
  obtain⟨c2,hc2⟩:∃c2,(h'.update S (Zlf fun _=>#[.int x t2,.int x t2])).get? S=some (Zmu "list" #[.int x t2,.int x t2] c2):=⟨_,Zo5 hS' fun _=>#[.int x t2,.int x t2]⟩
  show Zjd _ A.in1 (Zss S (fun _=>#[.int x t2,.int x t2]) >>= _) _ _ _
  refine Zib (Zmy hS' rfl ?_)
  rw[hname]
  refine Ziu ⟨Zlm Zk1 _,yai hh hlI hSI hlS hv hsz _ 0 _ x t2 c2 rfl hpos ?_ ?_ hc2 (Zii hx) (fun n hn=>?_) fun m' t' h'' tk q1 q2 q3=>?_⟩
  .obtain⟨o,e,q⟩:=hst'.1
   exact⟨o,(s1.2 _ (Zju hSI)).trans e,q⟩
  .obtain⟨o,e,q⟩:=hst'.2
   exact⟨o,(s1.2 _ hlS).trans e,q⟩
  .rw[Zi0,hx] at hn
   have:n=x:=by simpa using hn
   rw[this];exact Zll _
  .exact hR m' t' h'' tk q1 q2 fun b o h1 h2 e=>q3 b o h1 h2 ((s1.2 b h2).trans (hk' b o (by simpa using h1) e))
end
noncomputable def yfe(K:Zh7):List V->Hp->VK->Prop:=fun vs H Q=>∃a ns,vs=[.ref a]/\SqL K H a (ns.map V.int)/\ns≠[] /\ ∀m,m∈ns->(∀n∈ns,n<=m)->Q (.int m) H
noncomputable def yg2(K:Zh7)(ta tk:TE):TE:=fun O H Q=>ta O H fun v H1=>tk O H1 fun dv H2=>∃(a:Addr) (ns:List Int) (d:Int),v= .ref a/\dv= .int d/\SqL K H2 a (ns.map V.int)/\(∀m,m∈ns->(∀n∈ns,n<=m)->Q (.int m) H2)/\(ns=[]->Q (.int d) H2)
section
variable{X:Cx}{pins:List (Addr×Obj)}{O:St}{H:Hp}{s:Zih}
theorem zyb{us:List Value}:∀{ns:List Int},Vals (ns.map V.int) us-> ∀(i:Nat) (v:Value),us.toArray[i]? = some v-> ∃x t,ns[i]? = some x/\v= .int x t:=fun {ns} r i v h=>by
 have hl:=r.length
 rw[Zia] at hl
 have h':us[i]? = some v:=by simpa using h
 have hi:i<ns.length:=by rw[hl];exact(Zif.mp h').1
 obtain⟨u,hu,ru⟩:=r.get (i:=i) (x:=V.int ns[i]) (by rw[Zie,Zh9 hi];rfl)
 obtain⟨t,rfl⟩:=ru
 rw[h'] at hu
 cases hu
 exact⟨_,t,Zh9 hi,rfl⟩
theorem zxn{A:Zjs}{l:Addr}{ns:List Int}{QQ:Value->Zih->Prop}{E:Value->Zih->Prop}{kw:List (Str×Value)}{dv:Option Value}(hh:A.handled=none)(I:Inv X pins O H s)(sq:SqL X.K H l (ns.map V.int))
  (harg:argsOk "max" ⟨[.ref l],kw⟩) (hbp:Zlq "max" ["key", "default"] 0 ⟨[],kw⟩=pure [none,dv])
  (hQ:∀m t s',m∈ns->(∀n∈ns,n<=m)->Inv X pins O H s'->QQ (.int m t) s') (hD:ns=[]-> ∃d,dv=some d /\ ∀s',Inv X pins O H s'->QQ d s') :
  Zjd (Zjx X.prog X.w) A (call (.builtin "max") [.ref l] kw) QQ E s:=by
 have hname:(Zoa "max" ++ Zoa ".loop" : String) = "max.loop" := by decide
 obtain⟨us0,rv0,pl0,hz0⟩:=I.list sq
 have hls:=pl0.isList
 obtain⟨ol,hol,_⟩:=id hls
 have hll:l<s.heap.objs.size:=Ziw hol
 refine kmk_tree PySem.F.kind_max PySem.F.plain_max PySem.F.entry_max harg ?_
 show Zjd _ A.in1 (Zlq "max" ["key", "default"] 0 ⟨[],kw⟩ >>= _) _ _ s
 refine Zib (Zrc hbp ?_)
 refine Zib (Ziu ?_)
 refine Zib (Zof hls ?_)
 refine Zib (Zvr ?_ (Zjn _))
 rw[hname]
 have hS:(s.heap.push { cls:=.type "list_iterator", data:=.fields #[.ref l,.int 0 0] }).objs.size=s.heap.objs.size+1:=size_push' ..
 have old:∀{h':Heap},(∀b o,b≠s.heap.objs.size->b≠(s.heap.push { cls:=.type "list_iterator", data:=.fields #[.ref l,.int 0 0] }).objs.size->((s.heap.push { cls:=.type "list_iterator", data:=.fields #[.ref l,.int 0 0] }).push (Zmu "list" #[] 0)).get? b=some o->h'.get? b=some o)-> ∀b o,s.heap.get? b=some o->h'.get? b=some o:=fun k b o e =>
  k b o (Zi6 (Ziw e)) (by rw[hS];exact Zi6 (Zpn (Ziw e))) (Zim _ (Zim _ e))
 have hl2:=rv0.length
 rw[Zia] at hl2
 refine Ziu ⟨Zlm Zk1 _,zy0 (vs:=us0.toArray) (ns:=ns) (c:=0) hh (Zi6 hll) (by rw[hS];exact Zop (Zp0 _)) (by rw[hS];exact Zi6 (Zpn hll)) (zyb rv0) (by rw[Zi9,hl2]) ⟨_,Zim _ (Zi1 _ rfl),rfl,rfl⟩ ((hls.push _).push _) (Zi1 _ rfl) (fun m t h' tk q1 q2 q3=>?_) fun hn=>?_⟩
 .exact hQ m t _ q1 q2 (I.kept (t':=tk) (old q3))
 .obtain⟨d,rfl,hd⟩:=hD hn
  exact⟨"default", d,[],rfl,fun h' tk q3=>hd _ (I.kept (t':=tk) (old q3))⟩
theorem zzh(hc:X.calm=true):zcm X (.builtin "max") (yfe X.K):=by
 intro pins s O H xs us Q I r h
 obtain⟨a,ns,rfl,sq,hne,q⟩:=h
 obtain⟨u,rfl,ru⟩:=zht r
 cases ru
 exact zxn (dv:=none) (I.ok.hd hc) I sq (PySem.F.args_max1 _) rfl (fun m t s' h1 h2 J=>⟨.int m,H,J,⟨t,rfl⟩,q m h1 h2⟩) fun z=>absurd z hne
theorem yaf(a v:Value):argsOk "max" ⟨[a],[(Zmp "default", v)]⟩:=by unfold argsOk;kernel_rfl
theorem zxx{e ke:Expr}{ta tk:TE}{p pos kp:Pos}(hc:X.calm=true)(hg:Gl X "max")(hm:X.mg "max" = none)(ha:PE X e ta)(hk:PE X ke tk)(hs:Zj2 [e] X.env=[(false,eval e X.env)]:=by rfl):PE X (.Call (.Name "max" p) [e] [⟨some "default", ke,kp⟩] pos) (yg2 X.K ta tk):=by
 intro pins s O H Q I h
 refine Zm0 (zjk I hg hm Zq5 ?_)
 refine callWith_kw (rest:=[]) (thn (zab ha zae hs pos pins s O H (one fun v H1=>tk O H1 fun dv H2=>∃(a:Addr) (ns:List Int) (d:Int),v= .ref a/\dv= .int d/\SqL X.K H2 a (ns.map V.int)/\(∀m,m∈ns->(∀n∈ns,n<=m)->Q (.int m) H2)/\(ns=[]->Q (.int d) H2)) I (by exact h)) fun us s1 hz9=>?_) (by rw[hs];rfl) (by rw[hs];rfl)
 obtain⟨vs,H1,I1,r1,q0⟩:=hz9
 obtain⟨v,rfl,q1⟩:=zwm q0
 obtain⟨u,rfl,ru⟩:=zht r1
 refine thn (yfu hk yhq pos pins s1 O H1 (one fun dv H2=>∃(a:Addr) (ns:List Int) (d:Int),v= .ref a/\dv= .int d/\SqL X.K H2 a (ns.map V.int)/\(∀m,m∈ns->(∀n∈ns,n<=m)->Q (.int m) H2)/\(ns=[]->Q (.int d) H2)) I1 (by exact q1)) fun ws s2 hz9=>?_
 obtain⟨zs,H2,I2,r2,q2⟩:=hz9
 obtain⟨dv,rfl,a,ns,d,rfl,rfl,sq,f1,f2⟩:=zwm q2
 obtain⟨w',rfl,t,rfl⟩:=zht r2
 cases ru
 exact zxn (dv:=some (.int d t)) (I2.ok.hd hc) I2 sq (yaf _ _) rfl (fun m t s' h1 h2 J=>⟨.int m,H2,J,⟨t,rfl⟩,f1 m h1 h2⟩) fun z=>⟨_,rfl,fun s' J=>⟨.int d,H2,J,⟨t,rfl⟩,f2 z⟩⟩
end
end L2
namespace L2
open PySem PySem.W PySem.Spec PyProof.Rows PySem.Calls
noncomputable def kI(ks:List (Int×Int×List Int))(i:Nat):List Int:=match ks[i]? with
 | some k=>k.1::k.2.1::k.2.2
 | none=>[]
theorem ycj{ks:List (Int×Int×List Int)}{i:Nat}{k:Int×Int×List Int}(h:ks[i]? = some k):kI ks i=k.1::k.2.1::k.2.2:=by unfold kI;rw[h]
theorem yfm{a b c:List Int}(h:a<b)(h2:¬ c<b):a<c:=by
 by_cases q:a<c
 .exact q
 .exact absurd (Zr2 (Zp4.mp q) h) h2
theorem yap{a b:List Int}(h:a<b):¬ b<a:=fun q=>Zmg _ (Ztn h q)
noncomputable def ygo(K:Zh7)(P:Addr)(pos:Pos)(q:Str)(i:Nat)(te ta:TE):TE:=fun O H Q=>ta O H fun v H1=>∃a xs vy ks n,v= .ref a/\SqL K H1 a xs/\O[i]? = some (some vy)/\H1 P=some (.tab #[] pos q)/\0<xs.length/\ks.length=xs.length/\(∀k∈ks,k.2.2.length=n) /\
 (∀(j:Nat) x k H',xs[j]? = some x->ks[j]? = some k->Same H1 H'->te [some x,some vy] H' (fun y H2=>Same H' H2/\Rep K H2 (keyD k.1 k.2.1 k.2.2) y)) /\
 (∀(j:Nat) x H',xs[j]? = some x->(∀m,m<xs.length-> ¬ kI ks m<kI ks j/\(m<j->kI ks j<kI ks m))->Same H1 H'->Q x H')
section
variable{X:Cx}{P c:Addr}
theorem zw6{k:Nat}{e body:Expr}{ta te:TE}{x y q:Str}{i:Nat}{params:Zrp}{scope:Scope}{p pos lp kp:Pos}(hc:X.calm=true)(hr:Room (k+2) X.A)(hg:Gl X "min")(hm:X.mg "min" = none)(ha:PE X e ta)(C:CodeHd X.base c P)(hb:X.base.BuiltinsAt X.mg P)(hcode:X.env.code= .ref c)
  (hq:X.env.qual ++ "<lambda>" = q) (hi:X.N[i]? = some y) (hky:X.env.scope.names.lookup y=some .cell)
  (hbind:∀(pm cv ctv u:Value) (cc:Addr),Zob (kla_fn "<lambda>" q params body scope [(y,cc)] pm cv ctv) ⟨[u],[]⟩=pure [(x,u)]) (hx:scope.names.lookup x=some .local) (hy:scope.names.lookup y=some .free) (hnc:∀z∈scope.names,z.2 ≠ .cell) (hfr:∀z,scope.names.lookup z=some .free->z=y)
  (hco:scope.isCoroutine=false) (hgen:scope.isGenerator=false) (hk:scope.kind= .function) (hdef:defaultsOf params X.env=([],[]))
  (hcl:∀cc:Addr,X.env.cells.lookup y=some cc->Zpa scope X.env=pure [(y,cc)])
  (he:∀f c' cc s H,Room k (X.A.in1.deeper (envX q scope s.heap.objs.size f (.ref c') [(y,cc)]))->PE (zve X [x,y] q scope f c' [(y,cc)] X.A.in1 s H) body te)
  (hs:Zj2 [e] X.env=[(false,eval e X.env)]:=by rfl):PE X (.Call (.Name "min" p) [e] [⟨some "key", .Lambda params body scope lp,kp⟩] pos) (ygo X.K P lp q i te ta):=by
 intro pins s O H Q I h
 subst hq
 refine Zm0 (zjk I hg hm Ztf ?_)
 refine callWith_kw (rest:=[]) (thn (zab ha zae hs pos pins s O H (one fun v H1=>∃(a:Addr) (xs:List V) (vy:V) (ks:List (Int×Int×List Int)) (n:Nat),v= .ref a/\SqL X.K H1 a xs/\O[i]? = some (some vy)/\H1 P=some (.tab #[] lp (X.env.qual ++ "<lambda>"))/\0<xs.length/\ks.length=xs.length/\(∀k∈ks,k.2.2.length=n) /\
  (∀(j:Nat) x k H',xs[j]? = some x->ks[j]? = some k->Same H1 H'->te [some x,some vy] H' (fun y H2=>Same H' H2/\Rep X.K H2 (keyD k.1 k.2.1 k.2.2) y)) /\
  (∀(j:Nat) x H',xs[j]? = some x->(∀m,m<xs.length-> ¬ kI ks m<kI ks j/\(m<j->kI ks j<kI ks m))->Same H1 H'->Q x H')) I (by exact h)) fun us s1 ⟨vs,H1,I1,r1,q0⟩=>?_) (by rw[hs];rfl) (by rw[hs];rfl)
 obtain⟨v,rfl,a,xs,vy,ks,n,rfl,sq,hσ,hT,hne,hkl,hkn,turn,fin⟩:=zwm q0
 obtain⟨u,rfl,ru⟩:=zht r1
 cases ru
 obtain⟨cc,hcc⟩:=I1.ok.has y (.inl hky)
 have hA:X.A.in1.frames=some X.stack:=I1.ok.frames
 have hd:X.A.in1.handled=none:=I1.ok.hd hc
 show Zjd _ _ (evalAll ((do let v <- eval (.Lambda params body scope lp) X.env;standAt pos;pure v)::(Zq6 pos (Zom [] X.env)).map (·.2))) _ _ s1
 refine Ztd (Zib (yb0 I1 hT C hb hcode hdef (hcl cc hcc) fun f c' ctv H2 s2 J sm ck=>Zib (Zpu (Ziu (Ztr ?_)))))
 show Zjd _ _ (call (.builtin "min") [.ref a] [(Zmp "key", .ref f)]) _ _ s2
 refine zxw (J:=Same H2) (ks:=ks.map fun k=>keyD k.1 k.2.1 k.2.2) (lt:=fun i j=>decide (kI ks i<kI ks j)) hc J (Same.refl _) (fun H' z=>SqL.same z (SqL.same sm sq)) (by rw[Zia];exact hkl) hne ?_ ?_ (fun a b c h1 h2=>decide_eq_true (yfm (of_decide_eq_true h1) (of_decide_eq_false h2))) (fun a b h1=>decide_eq_false (yap (of_decide_eq_true h1))) ?_
 .intro j x' u k H' s' pl hx' hk' ru I' hJ
  rw[Zie] at hk'
  obtain⟨k0,hk0,rfl⟩:=Zlx.mp hk'
  obtain⟨uy,ry,hcell⟩:∃uy,RelV vy uy/\s'.heap.IsCell cc (some uy):=by
   obtain⟨m,_,hl⟩:=I'.loc
   obtain⟨uy,ry,l⟩:=hl i y vy hi hσ (.inr (.inl hky))
   refine⟨uy,ry,?_⟩
   rcases l with ⟨l,_⟩ | ⟨_,c2,e2,z⟩
   .have l:X.env.scope.names.lookup y=some .local:=l
    rw[hky] at l;cases l
   .rw[hcc] at e2;cases e2;exact z
  have ho:=(I'.pin _ (Zig _ (Ziz _ (Zig _ (.head _))))).1
  refine Zk5 (ye8 I' hA hd hr.in1.depth ho ((ck.same hJ).rec I'.hok) hcc hcell ry ru (hbind _ _ _ _ _) hx hy hnc hfr hco hgen hk (he _ _ _ _ _ (hr.in1.deeper _)) (turn j x' k0 H' hx' hk0 (sm.trans hJ))) (fun v s'' hz=>?_) fun _ _ z=>z
  obtain⟨y',H'',os,bare,un,hok,r,z1,z2⟩:=hz
  exact⟨y',H'',I'.call' (ch:=[]) os un hok bare (fun _ z=>nomatch z),hJ.trans z1,z1,r,z2⟩
 .intro j m k k' H' s' pl y1 z1 u v C' hj hm' I' r1 rr1 r2 rr2 hC
  rw[Zie] at hj hm'
  obtain⟨k1,hk1,rfl⟩:=Zlx.mp hj
  obtain⟨k2,hk2,rfl⟩:=Zlx.mp hm'
  rw[ycj hk1,ycj hk2] at hC
  refine ygi I' r1 rr1 r2 rr2 ?_ ?_ hC
  .rw[hkn _ (Zii hk1),hkn _ (Zii hk2)]
  .have:=hr.in1.un;omega
 .intro j x' v H' s' hx' rx hb' I' hJ
  exact⟨x',H',I'.unpinned,rx,fin j x' H' hx' (fun m hm'=>⟨of_decide_eq_false (hb' m hm').1,fun z=>of_decide_eq_true ((hb' m hm').2 z)⟩) (sm.trans hJ)⟩
end
end L2
namespace L2
open PySem PySem.W PySem.Spec PyProof.Rows
structure LamAt(base:Heap)(mg:Str->Option Value)(fl:Zk9)(T:Addr):Prop where
 ex:∃c,fl.code= .ref c/\CodeHd base c T
 bt:base.BuiltinsAt mg T
theorem zqo{P:Zjj}{w:Zkq}{H:Hp}{h:Heap}{T:Addr}{pos:Pos}{q:Str}(e:h.get? T=some (tabObj #[])):zet P w H h T (.tab #[] pos q):=⟨#[],e,trivial,.inl rfl⟩
theorem zxp{P:Zjj}{w:Zkq}{K:Zh7}{mg mb:Str->Option Value}{CX:CXT}{k:Nat}{fa a T c:Addr}{fd fl:Zk9}{x q:Str}{pos:Pos}{sp:Sp}{s₁:Zih}{vs:List Value}{ns:List Int}
  (KX:K.In s₁.heap) (hns:s₁.heap.Ns Zk6 mg) (hb:s₁.heap.Ns Zqe mb) (hbb:∀y:Str,y ≠ "__name__" -> mb y=Zni y) (hlim:s₁.heap.NoLimit) (hg:s₁.gens= #[])
  (ha:s₁.heap.get? a=some { cls:=.type "list", data:=.seq vs.toArray }) (hi:Zrl vs ns) (hl:ns.length<=sizeLine) (hr:Room k Zri)
  (hfl:fl.code= .ref c) (hC:CodeHd s₁.heap c T) (hT:s₁.heap.get? T=some (tabObj #[])) (hno:noTabs K=true) (hB:s₁.heap.BuiltinsAt mg T)
  (F:∀base:Heap,K.In base->base.Ns Zk6 mg->LamAt base mg fl T->FnOk P w K mg base CX k fa fd [x] sp) (hbind:∀(s:Zih) (u:Value),Zqp s fd ⟨[u],[]⟩ [(x,u)])
  (hsp:∀H:Hp,SqL K H a (ns.map V.int)->H T=some (.tab #[] pos q)->sp [.ref a] H (fun v H'=>v= .bl true/\H' T=some (.tab #[] pos q)) fun _ _ _=>False)
  (hCX:∀H e s',CX [] H s₁ (fun _ _ _=>False) e s'->False) :
  Zo6 (Zjx P w) Zri (.call (.ref fa) ⟨[.ref a],[]⟩) (fun r s'=>r= .ok (.ret (.bool true))/\OldK s₁.heap s'.heap/\s'.os=s₁.os/\Zpq s'.gens) s₁:=by
 have rv:=zq1 hi
 have lenV:=hi.length
 have hKT:K.lookup T=none:=by
  cases z:K.lookup T with
  | none=>rfl
  | some o =>
   have e:=KX T o z
   rw[hT] at e
   cases e
   exact absurd (Zi7.mp hno _ (mem_of_lookupK z)) Zi8
 have haT:a≠T:=fun z=>by rw[z,hT] at ha;cases ha
 -- from a tracked part: the table,and perhaps the script
 have core : ∀ H : Hp, (∀ b u, H b = some u -> (b = T /\ u = .tab #[] pos q) \/ (b = a /\ K.lookup a = none /\ ∃ o xs, u = .frz o (.lst xs))) -> H T = some (.tab #[] pos q) -> SqL K H a (ns.map V.int) -> HOk P w H s₁.heap ->
   Zo6 (Zjx P w) Zri (.call (.ref fa) ⟨[.ref a],[]⟩) (fun r s'=>r= .ok (.ret (.bool true))/\OldK s₁.heap s'.heap/\s'.os=s₁.os/\Zpq s'.gens) s₁:=by
  intro H hO hHT hS hok
  have out:∀{b:Addr} {o:Obj},s₁.heap.get? b=some o->(∀its,o.data ≠ .fields its\/o.cls ≠ .none)->(∀its n,o.data ≠ .seq its n)->H b=none:=fun {b o} e h1 h2=>by
   cases z:H b with
   | none=>rfl
   | some u =>
    rcases hO b u z with ⟨rfl,_⟩ | ⟨rfl,_⟩
    .rw[hT] at e;cases e
     exact(h1 #[]).elim (fun z=>absurd rfl z) fun z=>absurd rfl z
    .rw[ha] at e;cases e
     exact absurd rfl (h2 _ _)
  have nsK:∀{b:Addr} {m:Str->Option Value},s₁.heap.Ns b m->(hidT s₁.heap H).Ns b m:=fun {b m} ⟨o,es,ep,e,d,r⟩=>⟨o,es,ep,zl7 e (out e (fun _=>.inl (by rw[d];nofun)) fun _ _=>by rw[d];nofun),d,r⟩
  have hKb:K.In (hidT s₁.heap H):=fun b o e=>zl7 (KX b o e) (by
   cases z:H b with
   | none=>rfl
   | some u =>
    rcases hO b u z with ⟨rfl,_⟩ | ⟨rfl,n,_⟩
    .rw[hKT] at e;cases e
    .rw[n] at e;cases e)
  have hM:Mod K mg (hidT s₁.heap H):=⟨hKb,nsK hns,⟨mb,nsK hb,hbb⟩,let ⟨mc,h1,h2⟩:=hlim;⟨mc,nsK h1,h2⟩⟩
  have e0:Env0 P w K mg (hidT s₁.heap H) Zri [] s₁ H:=⟨rfl,hM,fun b o e=>yez e,Zor (zyl _ _),trivial,fun b hb=>absurd (show b∈([]:List Addr) from hb) (by simp),hok,.of_eq hg⟩
  have hL:LamAt (hidT s₁.heap H) mg fl T:=by
   refine⟨⟨c,hfl,?_⟩,?_⟩
   .obtain⟨o,vs',file,tf,flags,tg,inF,text,tt,e1,r1,r2,r⟩:=hC
    exact⟨o,vs',file,tf,flags,tg,inF,text,tt,zl7 e1 (out e1 (fun _=>.inr (by rw[r1];nofun)) fun _ _=>by rw[r2];nofun),r1,r2,r⟩
   .obtain⟨bm,o,a1,a2,a3,a4,e,r1,r2,r3⟩:=hB
    exact⟨bm,o,a1,a2,a3,a4,zl7 e (out e (fun _=>.inl (by rw[r3];nofun)) fun _ _=>by rw[r3];nofun),r1,r2,r3⟩
  refine Zst ((F _ hKb (nsK hns) hL).run Zri [] s₁ H ⟨[.ref a],[]⟩ [.ref a] [.ref a] _ _ hr e0 (hbind s₁ (.ref a)) (.cons rfl .nil) (hsp H hS hHT)) fun r s' h=>?_
  cases r with
  | error e=>exact(hCX H e s' h).elim
  | ok fl =>
   cases fl with
   | next=>exact Zmo h
   | brk=>exact Zmo h
   | cont=>exact Zmo h
   | ret u =>
    obtain⟨v,H',os,bare,un,hok',r',q1,q2⟩:=h
    subst q1
    obtain rfl:u=Zoi true:=r'
    obtain⟨more,hT',_⟩:=hok' T _ q2
    have step:∀b o,s₁.heap.get? b=some o->b≠T->s'.heap.get? b=some o:=fun b o e hb=>by
     cases z:H b with
     | none=>exact un.keep b o e z (by intro z;exact absurd (show b∈([]:List Addr) from z) (by simp)) (by simp)
     | some u =>
      rcases hO b u z with ⟨h1,_⟩ | ⟨_,_,ob,xs,rfl⟩
      .exact absurd h1 hb
      .have z2:=un.frzs b ob _ z
       obtain⟨e1,_⟩:=hok b _ z
       obtain⟨e2,_⟩:=hok' b _ z2
       rw[e] at e1;cases e1
       exact e2
    refine⟨rfl,⟨fun b o e=>?_,fun b o e=>?_⟩,os,bare⟩
    .by_cases hb:b=T
     .subst hb
      rw[hT] at e;cases e
      exact .inr (.inl ⟨(hC.tab hT).isCodeTable,rfl,#[],more,rfl,hT'⟩)
     .exact .inl (step b o e hb)
    .by_cases hb:b=T
     .subst hb
      exact⟨_,hT'⟩
     .exact⟨o,step b o e hb⟩
 cases hk:K.lookup a with
 | some o =>
  have e:=KX a o hk
  rw[ha] at e
  cases e
  refine core (fun b=>if b=T then some (.tab #[] pos q) else none) (fun b u z=>?_) (if_pos rfl) (.inr ⟨_,vs.toArray,_,hk,rfl,rfl,rfl,by rw[Zi9,lenV];exact hl,by simpa using rv⟩) fun b u z=>?_
  .by_cases hb:b=T
   .have z':=(if_pos hb).symm.trans z
    cases z'
    exact .inl ⟨hb,rfl⟩
   .have z':=(if_neg hb).symm.trans z
    cases z'
  .by_cases hb:b=T
   .have z':=(if_pos hb).symm.trans z
    cases z'
    subst hb
    exact zqo hT
   .have z':=(if_neg hb).symm.trans z
    cases z'
 | none =>
  refine core (fun b=>if b=T then some (.tab #[] pos q) else if b=a then some (.frz { cls:=.type "list", data:=.seq vs.toArray } (.lst (ns.map V.int))) else none) (fun b u z=>?_) (if_pos rfl) (.inl (.inr ⟨{ cls:=.type "list", data:=.seq vs.toArray },(if_neg haT).trans (if_pos rfl)⟩)) fun b u z=>?_
  .by_cases hb:b=T
   .have z':=(if_pos hb).symm.trans z
    cases z'
    exact .inl ⟨hb,rfl⟩
   .have z':=(if_neg hb).symm.trans z
    by_cases hb2:b=a
    .have z'':=(if_pos hb2).symm.trans z'
     cases z''
     exact .inr ⟨hb2,hk,_,_,rfl⟩
    .have z'':=(if_neg hb2).symm.trans z'
     cases z''
  .by_cases hb:b=T
   .have z':=(if_pos hb).symm.trans z
    cases z'
    subst hb
    exact zqo hT
   .have z':=(if_neg hb).symm.trans z
    by_cases hb2:b=a
    .have z'':=(if_pos hb2).symm.trans z'
     cases z''
     subst hb2
     exact⟨ha,by rw[Zia];exact hl,vs,_,rv,ha⟩
    .have z'':=(if_neg hb2).symm.trans z'
     cases z''
theorem zpd{h:Heap}{mg:Str->Option Value}{T:Addr}(hT:h.get? T=some (tabObj #[]))(hns:h.Ns Zk6 mg)(hB:∃bm ob,mg "__builtins__" = some (.ref bm)/\bm≠Zqe/\h.get? bm=some ob/\ob.cls= .type "module" /\ ob.dict=some Zqe/\ob.data= .plain):h.BuiltinsAt mg T:=by
 obtain⟨bm,ob,a1,a2,e,r1,r2,r3⟩:=hB
 refine⟨bm,ob,a1,a2,fun z=>?_,fun z=>?_,e,r1,r2,r3⟩
 .obtain⟨o,es,ep,e2,d,_⟩:=hns
  rw[z,e2] at e;cases e
  rw[r3] at d;cases d
 .rw[z,hT] at e;cases e
  cases r3
theorem walk_ofT{l:Zpm}{n k:Nat}{q:Zjj}{loose:List Str}{XP:(Str->Option Value)->Heap->Prop}{YP:Zkq->Heap->Prop}{d:DefRec}{K:Params->Zh7}{CX:CXT}{sp:Zh7->Addr->Sp}{x nm lq:Str}{pos:Pos}
  (hn:l.most=some n) (hn2:n<=sizeLine) (hdf:d.params.defaults=[]) (hr:Room k Zri)
  (hY:∀(w:Zkq) (h:Heap),YP w h->(K w.params).In h)
  (hrec:((recsOf q).find? fun e=>e.name == nm).isSome=true) (hno:∀p,noTabs (K p)=true)
  (F:∀(w:Zkq) (mg:Str->Option Value) (fa:Addr) (h:Heap),(K w.params).In h->h.Ns Zk6 mg->mg d.name=some (.ref fa) ->
   ∃fd fl:Zk9,(∀(s:Zih) (u:Value),Zqp s fd ⟨[u],[]⟩ [(x,u)])/\(∃g oc od osl,mg nm=some (.ref g)/\(K w.params).lookup g=some ⟨oc,od,.func fl,osl⟩) /\
    ∀(base:Heap) (T:Addr),(K w.params).In base->base.Ns Zk6 mg->LamAt base mg fl T->FnOk l.prog w (K w.params) mg base CX k fa fd [x] (sp (K w.params) T))
  (hsp:∀(K:Zh7) (H:Hp) (a T:Addr) (ns:List Int),ns.length<=n->SqL K H a (ns.map V.int)->H T=some (.tab #[] pos lq)->sp K T [.ref a] H (fun v H'=>v= .bl true/\H' T=some (.tab #[] pos lq)) fun _ _ _=>False)
  (hCX:∀(H:Hp) (s:Zih) (e:Value) (s':Zih),CX [] H s (fun _ _ _=>False) e s'->False) :
  Zsw q loose XP YP l.row.toRowW d [] (fun f vs=>Zr9 f vs):=by
 refine Att.attach_call hn hdf fun w s₀ s₁ mg mb fa o pm cd doc a vs ns G Y ho hd hcd hmg hobj hints hlen hg=>?_
 have KX:=hY w _ Y
 obtain⟨fd,fl,hb,⟨g,oc,od,osl,hm,hlk⟩,hF⟩:=F w mg fa _ KX G.T.g hmg
 obtain⟨e,he⟩:=Zka.mp hrec
 have hen:e.name=nm:=beq_iff_eq.mp (List.find?_some (p:=fun e:DefRec=>e.name == nm) he)
 obtain⟨a',o',fd',c,T,h1,h2,h3,h4,h5,h6⟩:=G.T.tab e (List.mem_of_find?_eq_some he)
 rw[hen,hm] at h1
 cases h1
 have e2:=KX _ _ hlk
 rw[h2] at e2
 cases e2
 have h3':fl=fd':=by injection h3
 subst h3'
 have hC:=CodeHd.of h5 h6
 exact zxp (pos:=pos) (q:=lq) KX G.T.g G.T.b G.T.builtins G.T.nolimit hg hobj hints (Zjb hlen hn2) hr h4 hC h6.2 (hno _) (zpd h6.2 G.T.g G.T.bmain) (fun base h1 h2 h3=>hF base T h1 h2 h3) hb (fun H hS hHT=>hsp _ H a T ns hlen hS hHT) fun H e s'=>hCX H s₁ e s'
theorem Fun.okC{P:Zjj}{w:Zkq}{K:Zh7}{mg:Str->Option Value}{base:Heap}{x qual:Str}{st:Stmt}{f:Addr}{fd:Zk9}{N ps:List Str}{k:Nat}{sp:Sp}(F:Fun K x qual st f fd)(S:FnScope N ps (zah st))(len:∀vs H Q E,sp vs H Q E->vs.length=ps.length)
  (hbody:∀(cdv:Value) (A:Zjs) (outer:List Env) (s:Zih) (H:Hp) (vs:List V) (Q:VK) (E:XK),fd.code=cdv->Room k (A.deeper (Znh qual (zah st) s.heap.objs.size f cdv))->sp vs H Q E ->
   ∃t,PSs (cxOf CX0 P w K mg base N qual (zah st) f cdv A outer s H E).nox (zb4 st) t/\t { nx:=fun _ H'=>Q .non H',rt:=Q } (zfe N vs) H):FnOk P w K mg base CX0 (k+1) f fd ps sp:=by
 obtain⟨oc,od,kV,doc,pm,an,cdv,ct,osl,rfl,lk,hcd⟩:=F.ex
 refine yg4 lk hcd S len fun A outer s H vs Q E hr hsp=>?_
 obtain⟨t,h,q⟩:=hbody cdv A outer s H vs Q E rfl hr hsp
 exact⟨t,h.nox,q⟩
theorem yb2{names:List (Str×Zjp)}{y:Str}(hf:names.filter (fun n=>n.2 == .free)=[(y,.free)]):∀z,names.lookup z=some .free->z=y:=fun z hz=>by
 have hm:=Zk2 hz
 have:(z,Zjk)∈names.filter (fun n=>n.2 == .free):=Zip.mpr ⟨hm,rfl⟩
 rw[hf] at this
 have:=Zic.mp this
 injection this
theorem yd3{env:Env}{cc:Addr}:∀(names:List (Str×Zjp)) (acc:List (Str×Addr)),(∀x∈names,x.2= .free->env.cells.lookup x.1=some cc) ->
  (forIn (m:=Sem) names acc fun x r=>do
   let cs:=r
   if (x.2 == .free)=true then do
    let a <- Zte env x.1
    let cs:=(x.1,a)::cs
    pure Zqt
    pure (Zlk cs)
   else do
    pure Zqt
    pure (Zlk cs))=pure (((names.filter fun n=>n.2 == .free).map fun n=>(n.1,cc)).reverse++acc):=by
 intro names
 induction names with
 | nil=>intro acc _;rfl
 | cons x names ih =>
  intro acc h
  rw[Zp8]
  have ih':=fun acc=>ih acc fun z hz=>h z (Zij _ hz)
  cases hx:(x.2 == Zjk) with
  | true =>
   have:=h x Zil (by simpa using hx)
   have hco:Zte env x.1=pure cc:=by unfold Zte;rw[this]
   simp only[hx,hco,if_true,Znc,Zik,Zpk,Zn2,Zrq]
   simpa using ih' _
  | false =>
   simp only[hx,Znc]
   simpa using ih' acc
theorem yaa{scope:Scope}{env:Env}{y:Str}{cc:Addr}(hf:scope.names.filter (fun n=>n.2 == .free)=[(y,.free)])(hc:env.cells.lookup y=some cc):Zpa scope env=pure [(y,cc)]:=by
 have h:=yd3 (env:=env) (cc:=cc) scope.names [] fun x hx hk=>by
  have:x∈scope.names.filter (fun n=>n.2 == .free):=Zip.mpr ⟨hx,by rw[hk];rfl⟩
  rw[hf] at this
  rw[Zic.mp this];exact hc
 rw[hf] at h
 unfold Zpa
 refine(bind_congr (fun _=>rfl)).trans ?_
 rotate_left
 exact(congrArg (· >>= fun r=>pure r) h).trans rfl
end L2
namespace L2
open PySem PySem.Spec PyProof.Rows
noncomputable abbrev HasT(H:Hp)(T:Addr)(pos:Pos)(q:Str):Prop:=H T=some (.tab #[] pos q)
noncomputable def SpDT(K:Zh7)(T:Addr)(pos:Pos)(q:Str)(pre:List D->Prop)(res:List D->D):Sp:=fun vs H Q _=>∃G ds,Same G H/\HasT G T pos q/\Reps K G ds vs/\pre ds /\ ∀v G' H',Ext G H G' H'->Rep K G' (res ds) v->Q v H'
noncomputable def RtPO(K:Zh7)(G Hz:Hp)(rt:VK)(l:Int)(ds:List D):Prop:=∀a p vs F H,Ext G Hz F H->Hz p=none->F p=none->F a=some (.tup [.int l,.ref p])->H p=some (.lst vs)->Reps K F ds vs->rt (.ref a) H
noncomputable def SpPT(K:Zh7)(T:Addr)(pos:Pos)(q:Str)(pre:List D->Prop)(res:List D->Int×List D):Sp:=fun vs H Q _=>∃G ds,Same G H/\HasT G T pos q/\Reps K G ds vs/\pre ds/\RtPO K G H Q (res ds).1 (res ds).2
section
variable{K:Zh7}{G Hz L:Hp}{ss:List Sl}{t:TA}{ta te tb:TE}{ds:List D}{d:D}{pre:List D->Prop}{E:XK}{T:Addr}{pos:Pos}{q:Str}
theorem ya5{res:List D->D}(hT:HasT G T pos q)(a:EvAF K G Hz L ss t ds)(hp:pre ds):Ev K G Hz L ss (ze7 (SpDT K T pos q pre res) [] E t) (res ds):=fun F H O Q S k =>
 a F H O _ S fun vs F1 H1 e1 r1=>⟨F1,ds,e1.fh,(S.ext.trans e1).gf _ _ hT,by rw[Zji];exact r1,hp,fun v G' H' e2 r=>k _ _ _ (e1.trans e2) r⟩
theorem zzz{res:List D->Int×List D}(hT:HasT G T pos q)(a:EvAF K G Hz L ss t ds)(hp:pre ds):Ev K G Hz L ss (ze7 (SpPT K T pos q pre res) [] E t) (.tup [.int (res ds).1,.lst (res ds).2]):=fun F H O Q S k =>
 a F H O _ S fun vs F1 H1 e1 r1=>⟨F1,ds,e1.fh,(S.ext.trans e1).gf _ _ hT,by rw[Zji];exact r1,hp,fun a' p ws G' H' e2 h1 h2 h3 h4 r=>by
  have hne:a'≠p:=fun z=>by rw[z,h2] at h3;cases h3
  refine k (.ref a') (upd G' p (.lst ws)) H' (e1.trans (e2.freeze h2 h1 h4)) (Rep.tupN ?_ (Reps.cons Rep.int (Reps.cons (Rep.lst (SqL.of zam) (r.mono (Same.upd h2))) Reps.nil)))
  rw[zav hne];exact h3⟩
theorem yfz{vs:List V}{H:Hp}{Q:VK}{X:XK}{N:List Str}{ts:TS}{res:List D->D}(h:SpDT K T pos q pre res vs H Q X)(hN:vs.length<=N.length)(body:∀G ds,HasT G T pos q->pre ds->RtD K G H Q (res ds)->Go K G H G { nx:=fun _ H'=>Q .non H',rt:=Q } (slots N.length ds) ts):ts { nx:=fun _ H'=>Q .non H',rt:=Q } (zfe N vs) H:=by
 obtain⟨G,ds,sm,hT,r,hp,q⟩:=h
 exact body G ds hT hp (fun v F H' e r=>q v F H' e r) G H _ (zce sm r hN)
theorem yd7{vs:List V}{H:Hp}{Q:VK}{X:XK}{N:List Str}{ts:TS}{res:List D->Int×List D}(h:SpPT K T pos q pre res vs H Q X)(hN:vs.length<=N.length)(body:∀G ds,HasT G T pos q->pre ds->RtPO K G H Q (res ds).1 (res ds).2->Go K G H G { nx:=fun _ H'=>Q .non H',rt:=Q } (slots N.length ds) ts):ts { nx:=fun _ H'=>Q .non H',rt:=Q } (zfe N vs) H:=by
 obtain⟨G,ds,sm,hT,r,hp,q⟩:=h
 exact body G ds hT hp q G H _ (zce sm r hN)
theorem zud{vs:List V}{H:Hp}{Q:VK}{X:XK}{res:List D->D}{n:Nat}(hpre:∀ds,pre ds->ds.length=n)(h:SpDT K T pos q pre res vs H Q X):vs.length=n:=by
 obtain⟨G,ds,sm,hT,r,hp,q⟩:=h
 rw[<- r.length];exact hpre ds hp
theorem ztx{vs:List V}{H:Hp}{Q:VK}{X:XK}{res:List D->Int×List D}{n:Nat}(hpre:∀ds,pre ds->ds.length=n)(h:SpPT K T pos q pre res vs H Q X):vs.length=n:=by
 obtain⟨G,ds,sm,hT,r,hp,q⟩:=h
 rw[<- r.length];exact hpre ds hp
theorem ycc{Es:Ends}{i:Nat}{p:Addr}{l:Int}(hs:ss[i]? = some (.o p ds))(a:Ev K G Hz L ss ta (.int l))(h:RtPO K G Hz Es.rt l ds):Go K G Hz L Es ss (tRet (tTup (za7 ta (za7 (tVar i) tNil)))):=fun F H O S =>
 a F H O _ S fun v F1 H1 e1 r1=>by
  have e:=r1.of_int
  subst e
  obtain⟨e2,h0,fp,vs,hp,r⟩:=(S.ext2 e1).getO hs
  refine⟨_,e2,zvs (by simp),fun x hx=>?_⟩
  have hne:p≠x:=fun z=>by rw[z,hx] at hp;cases hp
  exact h x p vs _ _ ((S.ext.trans e1).newF hx) h0 (by rw[zav hne];exact fp) zam (by rw[zav hne];exact hp) (r.mono (Same.upd (e1.fh.free hx)))
theorem zgf{F:Hp}:∀{ns:List Int} {vs:List V},Reps K F (ns.map D.int) vs->vs=ns.map V.int
 | [],vs,r=>by rw[Zk4,Reps] at r;exact r
 | n::ns,vs,r=>by
  rw[Zik,Reps] at r
  obtain⟨v,ws,rfl,h1,h2⟩:=r
  rw[h1.of_int,zgf h2];rfl
theorem yfg{F H:Hp}{d1 d2:D}{x y:V}(sm:Same F H)(r1:Rep K F d1 x)(r2:Rep K F d2 y):Sat K F H F F H [some x,some y] [.d d1,.d d2]:=by
 have:=zce (N:=["a", "b"]) sm (Reps.cons r1 (Reps.cons r2 Reps.nil)) (Zio _)
 exact this
theorem zy5{α:Type}{i:Nat}{dy:D}(enc:α->D)(xs:List α)(key:α->Int×Int×List Int)(n:Nat)(a:EvL K G Hz L ss ta (xs.map enc))(hi:ss[i]? = some (.d dy))(hT:HasT G T pos q)(hne:xs≠[])(hn:∀x∈xs,(key x).2.2.length=n)
  (he:∀F H,∀x∈xs,Ev K F H F [.d (enc x),.d dy] te (keyD (key x).1 (key x).2.1 (key x).2.2))
  (hd:∀x∈xs,(∀y∈xs,¬ ((key y).1::(key y).2.1::(key y).2.2)<((key x).1::(key x).2.1::(key x).2.2))->enc x=d):Ev K G Hz L ss (ygo K T pos q i te ta) d:=fun F H O Q S k =>
 a F H O _ S fun p vs F1 H1 e1 sq rs=>by
  obtain⟨vy,hσ,ry⟩:=(S.ext2 e1).getD hi
  have hl:vs.length=xs.length:=by rw[<- rs.length,Zia]
  have at_:∀{j:Nat} {v:V},vs[j]? = some v-> ∃x,xs[j]? = some x/\Rep K F1 (enc x) v:=fun {j v} hv=>by
   obtain⟨d',hd',r⟩:=rs.get hv
   rw[Zie] at hd'
   obtain⟨x,hx,rfl⟩:=Zlx.mp hd'
   exact⟨x,hx,r⟩
  refine⟨p,vs,vy,xs.map key,n,rfl,sq,hσ,(S.ext.trans e1).fh _ _ ((S.ext.trans e1).gf _ _ hT),by rw[hl];exact Zlg.mpr hne,by rw[Zia,hl],fun z hz=>?_,fun j v z H' hv hz sm=>?_,fun j v H' hv hm sm=>?_⟩
  .obtain⟨x,hx,rfl⟩:=Zit.mp hz
   exact hn x hx
  .obtain⟨x,hx,r⟩:=at_ hv
   rw[Zie,hx] at hz
   cases hz
   exact he F1 H' x (Zii hx) F1 H' _ _ (yfg (e1.fh.trans sm) r ry) fun y F2 H2 e2 r2=>⟨e2.hh,r2.mono e2.fh⟩
  .obtain⟨x,hx,r⟩:=at_ hv
   have e:enc x=d:=hd x (Zii hx) fun y hy=>by
    obtain⟨m,hm',hy'⟩:=Zmn hy
    have h1:=(hm m (by omega)).1
    rw[ycj (k:=key y) (by rw[Zie,Zh9 hm',hy'];rfl),ycj (k:=key x) (by rw[Zie,hx];rfl)] at h1
    exact h1
   rw[e] at r
   exact k v F1 H' (e1.trans ⟨Same.refl _,e1.fh.trans sm,sm,fun _ _ _ _=>rfl⟩) r
theorem ztp{ns:List Int}{m m':Int}(h1:m∈ns)(h2:∀n∈ns,n<=m)(h3:m'∈ns)(h4:∀n∈ns,n<=m'):m'=m:=Int.le_antisymm (h2 _ h3) (h4 _ h1)
theorem yei{ns:List Int}{m:Int}(a:EvL K G Hz L ss ta (ns.map .int))(hm:m∈ns)(hge:∀n∈ns,n<=m):Ev K G Hz L ss (tCB (yfe K) (za7 ta tNil)) (.int m):=fun F H O Q S k =>
 a F H O _ S fun p vs F' H' e sq rs=>by
  have ev:=zgf rs
  subst ev
  exact⟨p,ns,rfl,sq,(fun z=>by rw[z] at hm;cases hm),fun m' h3 h4=>by rw[ztp hm hge h3 h4];exact k _ _ _ e Rep.int⟩
theorem zxc{ns:List Int}{m d0:Int}(a:EvL K G Hz L ss ta (ns.map .int))(b:Ev K G Hz L ss tb (.int d0))(h:(ns=[]/\m=d0)\/(m∈ns /\ ∀n∈ns,n<=m)):Ev K G Hz L ss (yg2 K ta tb) (.int m):=fun F H O Q S k =>
 a F H O _ S fun p vs F' H' e sq rs=>by
  have ev:=zgf rs
  subst ev
  refine b F' H' O _ (S.ext2 e) fun v F2 H2 e2 r2=>?_
  refine⟨p,ns,d0,rfl,r2.of_int,SqL.same e2.hh sq,fun m' h3 h4=>?_,fun hn=>?_⟩
  .rcases h with ⟨rfl,_⟩ | ⟨h1,h2⟩
   .cases h3
   .rw[ztp h1 h2 h3 h4];exact k _ _ _ (e.trans e2) Rep.int
  .rcases h with ⟨_,rfl⟩ | ⟨h1,h2⟩
   .exact k _ _ _ (e.trans e2) Rep.int
   .rw[hn] at h1;cases h1
end
section
variable{κ:Type}[DecidableEq κ]
noncomputable def valV(kvs:List (κ×V))(k:κ):Option V:=(kvs.find? fun kv=>decide (kv.1=k)).map (·.2)
noncomputable def putK(kvs:List (κ×V))(k:κ)(v:V):List (κ×V) :=
 if (kvs.any fun kv=>decide (kv.1=k))=true then kvs.map (fun kv=>if kv.1=k then (kv.1,v) else kv) else kvs++[(k,v)]
theorem zpy{p:κ×V}{r:List (κ×V)}{k:κ}(e:p.1=k):valV (p::r) k=some p.2:=by simp[valV,Zjy,e]
theorem zox{p:κ×V}{r:List (κ×V)}{k:κ}(e:¬ p.1=k):valV (p::r) k=valV r k:=by simp[valV,Zjy,e]
theorem zp1(k:κ):∀kvs:List (κ×V),(kvs.any fun kv=>decide (kv.1=k))=(valV kvs k).isSome
 | []=>rfl
 | p::r=>by
  rw[Zls]
  by_cases e:p.1=k
  .simp only[zpy e,decide_eq_true e,Zuj,Option.isSome_some]
  .rw[zox e,decide_eq_false e,Zms];exact zp1 k r
theorem zjp(kvs:List (κ×V))(k:κ)(v:V):(putK kvs k v).length<=kvs.length+1:=by
 unfold putK
 split
 .rw[Zia];omega
 .rw[Zis,Zj7,List.length_nil];omega
theorem yca{kvs:List (κ×V)}{k:κ}(v:V)(h:valV kvs k=none):putK kvs k v=kvs++[(k,v)]:=by
 unfold putK
 rw[zp1,h]
 exact if_neg (by decide)
theorem RelO.isSome_eq{o:Option V}{u:Option Value}(r:RelO o u):o.isSome=u.isSome:=by
 cases o with
 | none=>cases u with
  | none=>rfl
  | some _=>exact(show False from r).elim
 | some _=>cases u with
  | none=>exact(show False from r).elim
  | some _=>rfl
theorem RelO.getD{o:Option V}{u:Option Value}{d:V}{d':Value}(r:RelO o u)(rd:RelV d d'):RelV (o.getD d) (u.getD d'):=by
 cases o with
 | none=>cases u with
  | none=>exact rd
  | some _=>exact(show False from r).elim
 | some _=>cases u with
  | none=>exact(show False from r).elim
  | some _=>exact r
theorem KV.val{kvs:List (κ×V)}{vs:List (κ×Value)}(r:KV kvs vs)(k:κ):RelO (valV kvs k) (Zrf vs k):=by
 unfold KV at r
 induction r with
 | nil=>exact Zpi
 | @cons p q ps qs h t ih =>
  obtain⟨h1,h2⟩:=h
  by_cases e:p.1=k
  .have e':q.1=k:=h1.symm.trans e
   have b:Zrf (q::qs) k=some q.2:=by simp[Zrf,Zjy,e']
   rw[zpy e,b];exact h2
  .have e':¬ q.1=k:=fun z=>e (h1.trans z)
   have b:Zrf (q::qs) k=Zrf qs k:=by simp[Zrf,Zjy,e']
   rw[zox e,b];exact ih
theorem KV.any{kvs:List (κ×V)}{vs:List (κ×Value)}(r:KV kvs vs)(k:κ):(kvs.any fun kv=>decide (kv.1=k))=vs.any fun kv=>decide (kv.1=k):=by
 unfold KV at r
 induction r with
 | nil=>rfl
 | cons h t ih=>rw[Zls,Zls,ih,h.1]
theorem KV.repl{kvs:List (κ×V)}{vs:List (κ×Value)}(r:KV kvs vs)(k:κ){y:V}{u:Value}(ry:RelV y u) :
  KV (kvs.map fun kv=>if kv.1=k then (kv.1,y) else kv) (vs.map fun kv=>if kv.1=k then (kv.1,u) else kv):=by
 unfold KV at r ⊢
 induction r with
 | nil=>exact .nil
 | @cons p q ps qs h t ih =>
  rw[Zik,Zik]
  refine .cons ?_ ih
  obtain⟨h1,h2⟩:=h
  by_cases e:p.1=k
  .rw[if_pos e,if_pos (h1.symm.trans e)];exact⟨h1,ry⟩
  .rw[if_neg e,if_neg (fun z=>e (h1.trans z))];exact⟨h1,h2⟩
theorem KV.put{kvs:List (κ×V)}{vs:List (κ×Value)}(r:KV kvs vs)(k:κ){y:V}{u:Value}(ry:RelV y u):KV (putK kvs k y) (stored vs k u):=by
 unfold putK stored
 rw[r.any k]
 by_cases e:(vs.any fun kv=>decide (kv.1=k))=true
 .rw[if_pos e,if_pos e];exact r.repl k ry
 .rw[if_neg e,if_neg e];exact Zti r ⟨rfl,ry⟩
theorem KV.length{kvs:List (κ×V)}{vs:List (κ×Value)}(r:KV kvs vs):kvs.length=vs.length:=Zqs r
end
theorem zqi{P:Zjj}{w:Zkq}{k:Key}{u:Value}(r:RelV (kV k) u):(zbh P w).is k u=true:=by
 cases k with
 | inl i=>obtain⟨t,e⟩:=(show ∃t,u=Zlw i t from r);subst e;exact zrw P w i t
 | inr x=>obtain⟨t,e⟩:=(show ∃t,u=Zsv x t from r);subst e;exact zr7 P w x t
theorem zrm{P:Zjj}{w:Zkq}:∀{ks:List Key} {us:List Value},Vals (ks.map kV) us->ItemsAre (zbh P w) ks us
 | [],_,r=>by rw[Zk4] at r;cases r;exact .nil
 | k::ks,_,r=>by
  rw[Zik] at r
  cases r with
  | cons h t=>exact .cons (zqi h) (zrm t)
noncomputable abbrev KT(H:Hp):List (List Key×V)->List (List Key×Addr×Value)->Prop:=Paired fun p q=>p.1=q.1/\H q.2.1=some (.tup (p.1.map kV))/\RelV p.2 q.2.2
theorem KT.val{H:Hp}{kvs:List (List Key×V)}{xs:List (List Key×Addr×Value)}(r:KT H kvs xs)(k:List Key):RelO (valV kvs k) ((Zs4 xs k).map (·.2)):=by
 induction r with
 | nil=>exact Zpi
 | @cons p q ps qs h t ih =>
  obtain⟨h1,_,h2⟩:=h
  by_cases e:p.1=k
  .have e':q.1=k:=h1.symm.trans e
   have b:Zs4 (q::qs) k=some q.2:=by simp[Zs4,Zjy,e']
   rw[zpy e,b];exact h2
  .have e':¬ q.1=k:=fun z=>e (h1.trans z)
   have b:Zs4 (q::qs) k=Zs4 qs k:=by simp[Zs4,Zjy,e']
   rw[zox e,b];exact ih
theorem KT.repl{H:Hp}{kvs:List (List Key×V)}{xs:List (List Key×Addr×Value)}(r:KT H kvs xs)(k:List Key){y:V}{u:Value}(ry:RelV y u) :
  KT H (kvs.map fun kv=>if kv.1=k then (kv.1,y) else kv) (xs.map (putAt k u)):=by
 induction r with
 | nil=>exact .nil
 | @cons p q ps qs h t ih =>
  rw[Zik,Zik]
  refine .cons ?_ ih
  obtain⟨h1,h2,h3⟩:=h
  unfold putAt
  by_cases e:p.1=k
  .rw[if_pos e,if_pos (h1.symm.trans e)];exact⟨h1,h2,ry⟩
  .rw[if_neg e,if_neg (fun z=>e (h1.trans z))];exact⟨h1,h2,h3⟩
theorem KT.put{H:Hp}{kvs:List (List Key×V)}{xs:List (List Key×Addr×Value)}(r:KT H kvs xs)(k:List Key){b:Addr}{y:V}{u:Value}(hb:H b=some (.tup (k.map kV)))(ry:RelV y u) :
  KT H (putK kvs k y) (storedH xs k b u):=by
 have e:(kvs.any fun kv=>decide (kv.1=k))=(Zs4 xs k).isSome:=by
  rw[zp1,(r.val k).isSome_eq,Zpd]
 unfold putK storedH
 rw[e]
 by_cases q:(Zs4 xs k).isSome=true
 .rw[if_pos q,if_pos q];exact r.repl k ry
 .rw[if_neg q,if_neg q];exact Zti r ⟨rfl,hb,ry⟩
theorem KT.keeps{H H':Hp}{kvs:List (List Key×V)}{xs:List (List Key×Addr×Value)}(r:KT H kvs xs)(ht:∀b ys,H b=some (.tup ys)->H' b=some (.tup ys)):KT H' kvs xs :=
 Paired.mapP r fun _ _ z=>⟨z.1,ht _ _ z.2.1,z.2.2⟩
section
variable{P:Zjj}{w:Zkq}{H:Hp}{h:Heap}{a:Addr}
theorem yii{u:HO}(ok:HOk P w H h)(e:Rd H a u):zet P w H h a u:=e.ok ok
theorem zpw{kvs:List (Key×V)}(ok:HOk P w H h)(e:Rd H a (.dK kvs)):kvs.length<=sizeLine/\(a == Zlh)=false /\ ∃vs,KV kvs vs/\h.DictOf (zbh P w) a vs :=
 show zet P w H h a (.dK kvs) from yii ok e
theorem yao{kvs:List (Key×V)}(ok:HOk P w H h)(e:H a=some (.dK kvs)):kvs.length<=sizeLine/\(a == Zlh)=false /\ ∃vs,KV kvs vs/\h.DictOf (zbh P w) a vs:=zpw ok (.inl e)
theorem zm5{ks:List Key}(ok:HOk P w H h)(e:H a=some (.tup (ks.map kV))):(Zmd (zbh P w)).is h ks a:=by
 obtain⟨_,its,r,o,h1,h2,n,h3⟩:=(show zet P w H h a (.tup (ks.map kV)) from ok a _ e)
 exact⟨o,its.toArray,n,h1,h2,h3,by simpa using zrm r⟩
theorem zpz{kvs:List (List Key×V)}(ok:HOk P w H h)(e:Rd H a (.dT kvs)):kvs.length<=sizeLine/\(a == Zlh)=false /\
  ∃xs,KT H kvs xs/\h.DictOfH (Zmd (zbh P w)) a xs:=by
 obtain⟨z,y,xs,r,o,es,ep,h1,h2,h3,h4,h5⟩:=(show zet P w H h a (.dT kvs) from yii ok e)
 refine⟨z,y,xs,r,o,es,ep,h1,h2,h3,h4,fun x hx=>?_,h5⟩
 have all:∀{l:List (List Key×V)} {m:List (List Key×Addr×Value)},KT H l m-> ∀x∈m,(Zmd (zbh P w)).is h x.1 x.2.1:=by
  intro l m q
  induction q with
  | nil=>intro x hx;exact nomatch hx
  | @cons p q ps qs hq t ih =>
   intro x hx
   rcases Ziy.mp hx with e | hx
   .subst e
    exact zm5 ok (by rw[<- hq.1];exact hq.2.1)
   .exact ih x hx
 exact all r x hx
theorem yir{kvs:List (List Key×V)}(ok:HOk P w H h)(e:H a=some (.dT kvs)):kvs.length<=sizeLine/\(a == Zlh)=false /\
  ∃xs,KT H kvs xs/\h.DictOfH (Zmd (zbh P w)) a xs:=zpz ok (.inl e)
end
noncomputable def DGet(H:Hp)(a:Addr)(y:V)(r:Option V):Prop :=
 (∃kvs k,Rd H a (.dK kvs)/\y=kV k/\r=valV kvs k) \/ ∃kvs k b,Rd H a (.dT kvs)/\y= .ref b/\H b=some (.tup (k.map kV))/\r=valV kvs k
noncomputable def DPut(H:Hp)(a:Addr)(y v:V)(H':Hp):Prop :=
 (∃kvs k,H a=some (.dK kvs)/\y=kV k/\kvs.length<sizeLine/\H'=upd H a (.dK (putK kvs k v))) \/
 ∃kvs k b,H a=some (.dT kvs)/\y= .ref b/\H b=some (.tup (k.map kV))/\kvs.length<sizeLine/\H'=upd H a (.dT (putK kvs k v))
theorem DGet.k{H:Hp}{a:Addr}{kvs:List (Key×V)}{k:Key}(e:H a=some (.dK kvs)):DGet H a (kV k) (valV kvs k):=.inl ⟨kvs,k,.inl e,rfl,rfl⟩
theorem DGet.t{H:Hp}{a b:Addr}{kvs:List (List Key×V)}{k:List Key}(e:H a=some (.dT kvs))(eb:H b=some (.tup (k.map kV))):DGet H a (.ref b) (valV kvs k):=.inr ⟨kvs,k,b,.inl e,rfl,eb,rfl⟩
theorem DPut.k{H:Hp}{a:Addr}{kvs:List (Key×V)}{k:Key}{v:V}(e:H a=some (.dK kvs))(hl:kvs.length<sizeLine):DPut H a (kV k) v (upd H a (.dK (putK kvs k v))):=.inl ⟨kvs,k,e,rfl,hl,rfl⟩
theorem DPut.t{H:Hp}{a b:Addr}{kvs:List (List Key×V)}{k:List Key}{v:V}(e:H a=some (.dT kvs))(eb:H b=some (.tup (k.map kV)))(hl:kvs.length<sizeLine) :
  DPut H a (.ref b) v (upd H a (.dT (putK kvs k v))):=.inr ⟨kvs,k,b,e,rfl,eb,hl,rfl⟩
section
variable{X:Cx}{pins:List (Addr×Obj)}{O:St}{H:Hp}{s:Zih}{a:Addr}{y v:V}{u r:Value}{o:Option V}{A:Zjs}{E:Value->Zih->Prop}
theorem Inv.big(I:Inv X pins O H s):Zlh<s.heap.objs.size:=by
 have h:Zk6<s.heap.objs.size:=(I.mod.glob.keeps I.bk).lt
 exact Zlj (by decide) h
theorem zzn{Q:Value->Zih->Prop}(hu:A.units+1<Zon)(I:Inv X pins O H s)(g:DGet H a y (some v))(ry:RelV y u)(h:∀w' s',Inv X pins O H s'->RelV v w'->Q w' s') :
  Zjd (Zjx X.prog X.w) A (Zr7 (.ref a) u) Q E s:=by
 rcases g with ⟨kvs,k,e,ey,l⟩ | ⟨kvs,k,b,e,ey,eb,l⟩
 .subst ey
  obtain⟨z,hd,vs,rel,dd⟩:=zpw I.hok e
  obtain⟨w',hw,rw'⟩:=RelO.some_of (v:=v) (o:=Zrf vs k) (by rw[l];exact rel.val k)
  exact wpAny_getItem_of (zqi ry) dd.mapOf hw (h w' _ (I.tok _) rw')
 .subst ey
  cases (show u=Zkr b from ry)
  obtain⟨z,hd,xs,rel,dd⟩:=zpz I.hok e
  obtain⟨w',hw,rw'⟩:=RelO.some_of (v:=v) (o:=(Zs4 xs k).map (·.2)) (by rw[l];exact rel.val k)
  obtain⟨p,hp,hp2⟩:=Zlx.mp hw
  refine wpAny_getItem_heap (Zl6 hu) (zm5 I.hok eb) dd hp ?_
  rw[hp2]
  exact h w' _ (I.tok _) rw'
theorem Zh6{Q:Value->Zih->Prop}(hu:A.units+1<Zon)(I:Inv X pins O H s)(g:DGet H a y o)(ry:RelV y u)(h:∀s',Inv X pins O H s'->Q (.bool o.isSome) s') :
  Zjd (Zjx X.prog X.w) A (Zle .In u (.ref a)) Q E s:=by
 rcases g with ⟨kvs,k,e,ey,l⟩ | ⟨kvs,k,b,e,ey,eb,l⟩
 .subst ey
  obtain⟨z,hd,vs,rel,dd⟩:=zpw I.hok e
  refine wpAny_in_of (zqi ry) hd dd.mapOf ?_
  rw[<- (rel.val k).isSome_eq,<- l]
  exact h _ (I.tok _)
 .subst ey
  cases (show u=Zkr b from ry)
  obtain⟨z,hd,xs,rel,dd⟩:=zpz I.hok e
  refine wpAny_in_heap (Zl6 hu) (zm5 I.hok eb) hd dd ?_
  have q:=(rel.val k).isSome_eq
  rw[Zpd] at q
  rw[<- q,<- l]
  exact h _ (I.tok _)
theorem yem{Q:Value->Zih->Prop}(hu:A.units+1<Zon)(I:Inv X pins O H s)(g:DGet H a y o)(ry:RelV y u)(h:∀s',Inv X pins O H s'->Q (.bool (!o.isSome)) s') :
  Zjd (Zjx X.prog X.w) A (Zle .NotIn u (.ref a)) Q E s:=by
 rcases g with ⟨kvs,k,e,ey,l⟩ | ⟨kvs,k,b,e,ey,eb,l⟩
 .subst ey
  obtain⟨z,hd,vs,rel,dd⟩:=zpw I.hok e
  refine wpAny_notIn_of (zqi ry) hd dd.mapOf ?_
  rw[<- (rel.val k).isSome_eq,<- l]
  exact h _ (I.tok _)
 .subst ey
  cases (show u=Zkr b from ry)
  obtain⟨z,hd,xs,rel,dd⟩:=zpz I.hok e
  refine wpAny_notIn_heap (Zl6 hu) (zm5 I.hok eb) hd dd ?_
  have q:=(rel.val k).isSome_eq
  rw[Zpd] at q
  rw[<- q,<- l]
  exact h _ (I.tok _)
theorem zs0{h':Heap}{t':Nat}{ob:HO}(I:Inv X pins O H s)(mu:Mut (H a))(hs:Zpo a s.heap h')(he:∃q,h'.get? a=some q)(new:zet X.prog X.w (upd H a ob) h' a ob) :
  Inv X pins O (upd H a ob) { s with heap:=h',toks:=t' } :=
 I.write (x:=a) (e:=a) mu (.inl rfl) (fun b q hb z=>(hs.2 b hb).trans z) he new
theorem ydd{P:Zjj}{w:Zkq}{H':Hp}{h':Heap}{kvs:List (Key×V)}{vs:List (Key×Value)}(z:kvs.length<=sizeLine)(hd:(a == Zlh)=false)(rel:KV kvs vs)(dd:h'.DictOf (zbh P w) a vs) :
  zet P w H' h' a (.dK kvs):=⟨z,hd,vs,rel,dd⟩
theorem zxl{H':Hp}{Q:Unit->Zih->Prop}(hu:A.units+1<Zon)(I:Inv X pins O H s)(g:DPut H a y v H')(ry:RelV y u)(rv:RelV v r)(h:∀s',Inv X pins O H' s'->Q () s') :
  Zjd (Zjx X.prog X.w) A (setItem (.ref a) u r) Q E s:=by
 rcases g with ⟨kvs,k,e,ey,l,eH⟩ | ⟨kvs,k,b,e,ey,eb,l,eH⟩
 .subst ey eH
  obtain⟨z,hd,vs,rel,dd⟩:=yao I.hok e
  have hz:vs.length<=sizeLine:=by rw[<- rel.length];exact z
  have hl:(putK kvs k v).length<=sizeLine:=by have:=zjp kvs k v;omega
  refine wpAny_setItem_pairs (hsz:=hz) (zqi ry) dd fun h' dd' hs=>h _ ?_
  have he:∃q,h'.get? a=some q:=let ⟨q,_,_,hq,_⟩:=dd';⟨q,hq⟩
  exact zs0 I (by rw[e];exact Zpi) hs he (ydd hl hd (rel.put k rv) dd')
 .subst ey eH
  cases (show u=Zkr b from ry)
  obtain⟨z,hd,xs,rel,dd⟩:=yir I.hok e
  have hz:xs.length<=sizeLine:=by rw[<- Zqs rel];exact z
  have hl:(putK kvs k v).length<=sizeLine:=by have:=zjp kvs k v;omega
  refine wpAny_setItem_heap (hsz:=hz) (Zl6 hu) (zm5 I.hok eb) dd fun h' dd' hs=>h _ ?_
  obtain⟨q,es,ep,hq,h2,h3,h4,_,h5⟩:=dd'
  refine zs0 I (by rw[e];exact Zpi) hs ⟨q,hq⟩ ⟨hl,hd,_,(rel.put k eb rv).keeps fun c ys ec=>?_,q,es,ep,hq,h2,h3,h4,h5⟩
  rw[zav (yis ec e (fun z=>nomatch z))]
  exact ec
end
section
variable{X:Cx}{pins:List (Addr×Obj)}{O:St}{H:Hp}{s:Zih}{a:Addr}{kvs:List (Key×V)}{k:Key}{u:Value}{A:Zjs}{E:Value->Zih->Prop}
theorem yi0{Q:Value->Zih->Prop}(I:Inv X pins O H s)(e:Rd H a (.dK kvs))(h:∀t s',Inv X pins O H s'->Q (.int kvs.length t) s'):Zjd (Zjx X.prog X.w) A (call (.builtin "len") [.ref a]) Q E s:=by
 obtain⟨z,hd,vs,rel,dd⟩:=zpw I.hok e
 refine call_len_dict hd dd (by rw[<- rel.length];rw[Ziv] at z;omega) ?_
 rw[<- rel.length]
 exact h _ _ (I.tok _)
end
noncomputable def NoSl(i:Expr):Prop:=∀ov iv,Zrh i false ov iv=operate [ov,iv] (Zr7 ov iv)
theorem yeg{prog:Zjj}{w:Zkq}{A:Zjs}{E:Value->Zih->Prop}{s:Zih}{env:Env}{value slice:Expr}{pos:Pos}{T id:String}{Q:Value->Zih->Prop}
  (hl:typeLookup (.type T) "__getitem__" = pure (some (.builtin id))) (hs:NoSl slice)
  (h:Zjd (Zjx prog w) A (eval value env) (fun o s₁=>Zjd (Zjx prog w) A (eval slice env) (fun i s₂=>s₂.TypeIs o T/\Zjd (Zjx prog w) A (Zr7 o i) Q E s₂) E s₁) E s) :
  Zjd (Zjx prog w) A (eval (.Subscript value slice pos) env) Q E s:=by
 refine Zt3 (Zk5 h (fun o s₁ h₁=>Zk5 h₁ (fun i s₂ h₂=>?_) fun _ _ x=>x) fun _ _ x=>x)
 obtain⟨hT,h₂⟩:=h₂
 unfold Zr6
 refine Zib ?_
 rw[getitemInPython_of_ne hT.not_modules]
 refine Zib (Zrb hT hl ?_)
 have fin:Zjd (Zjx prog w) A (Zrh slice false o i) (fun r s₃=>Zjd (Zjx prog w) A (letTemporaryGo value o r >>= fun _=>pure r) Q E s₃) E s₂:=by
  rw[hs o i]
  exact wpAny_operating (Zk5 h₂ (fun r s₃ h₃=>Zib (wpAny_letTemporaryGo (Ziu h₃))) fun _ _ x=>x)
 first
  | exact Ziu (Zib fin)
  | exact Zib (Ziu (Zib fin))
  | exact Zib fin
theorem zrv{X:Cx}{pins:List (Addr×Obj)}{O:St}{H:Hp}{s:Zih}{a:Addr}{y:V}{o:Option V}(I:Inv X pins O H s)(g:DGet H a y o):s.TypeIs (.ref a) "dict" := by
 rcases g with ⟨kvs,k,e,_,_⟩ | ⟨kvs,k,b,e,_,_,_⟩
 .obtain⟨_,_,vs,_,dd⟩:=zpw I.hok e
  exact dd.typeIs
 .obtain⟨_,_,xs,_,dd⟩:=zpz I.hok e
  exact dd.typeIs
noncomputable def zwa(td ty:TE):TE:=fun O H Q=>td O H fun x H1=>ty O H1 fun y H2=>∃a v,x= .ref a/\DGet H2 a y (some v)/\Q v H2
noncomputable def tDIn(ty td:TE):TE:=fun O H Q=>ty O H fun y H1=>td O H1 fun x H2=>∃a o,x= .ref a/\DGet H2 a y o/\Q (.bl o.isSome) H2
noncomputable def zmh(ty td:TE):TE:=fun O H Q=>ty O H fun y H1=>td O H1 fun x H2=>∃a o,x= .ref a/\DGet H2 a y o/\Q (.bl (!o.isSome)) H2
noncomputable def yf4(td ty tv:TE):TS:=fun D O H=>tv O H fun v H1=>td O H1 fun x H2=>ty O H2 fun y H3=>∃a H4,x= .ref a/\DPut H3 a y v H4/\D.nx O H4
section
variable{X:Cx}{o i e value:Expr}{pos pos' tpos:Pos}{td ty tv:TE}
theorem zc4(hu:X.A.units+1<Zon)(ho:PE X o td)(hi:PE X i ty)(hs:NoSl i):PE X (.Subscript o i pos) (zwa td ty):=by
 intro pins s O H Q I h
 refine yeg PySem.F.slot_dict_getitem.lookup hs (thn (ho pins s O H _ I h) fun u s1 ⟨x,H1,I1,rx,q1⟩=>thn (hi pins s1 O H1 _ I1 q1) fun iv s2 hz9=>?_)
 obtain⟨y,H2,I2,ry,a,v,ex,g,q2⟩:=hz9
 subst ex
 obtain rfl:u=Zkr a:=rx
 exact⟨zrv I2 g,zzn hu I2 g ry fun w' s3 I3 rw'=>⟨v,H2,I3,rw',q2⟩⟩
theorem zoh(hu:X.A.units+1<Zon)(hi:PE X i ty)(ho:PE X o td):PC X .In i o (tDIn ty td):=by
 intro pins s O H Q I h
 refine thn (hi pins s O H _ I h) fun iv s1 ⟨y,H1,I1,ry,q1⟩=>thn (ho pins s1 O H1 _ I1 q1) fun u s2 hz9=>?_
 obtain⟨x,H2,I2,rx,a,ov,ex,g,q2⟩:=hz9
 subst ex
 obtain rfl:u=Zkr a:=rx
 exact Zh6 hu I2 g ry fun s3 I3=>⟨.bl ov.isSome,H2,I3,rfl,q2⟩
theorem zgy(hu:X.A.units+1<Zon)(hi:PE X i ty)(ho:PE X o td):PC X .NotIn i o (zmh ty td):=by
 intro pins s O H Q I h
 refine thn (hi pins s O H _ I h) fun iv s1 ⟨y,H1,I1,ry,q1⟩=>thn (ho pins s1 O H1 _ I1 q1) fun u s2 hz9=>?_
 obtain⟨x,H2,I2,rx,a,ov,ex,g,q2⟩:=hz9
 subst ex
 obtain rfl:u=Zkr a:=rx
 exact yem hu I2 g ry fun s3 I3=>⟨.bl (!ov.isSome),H2,I3,rfl,q2⟩
theorem zdy(hu:X.A.units+1<Zon)(ho:PE X o td)(hi:PE X i ty)(hv:PE X value tv)(hs:Zrg value (some (.Subscript o i pos')) pos.line X.env=pure false) :
  PS X (.Assign [.Subscript o i pos'] value pos) (yf4 td ty tv):=by
 intro pins s O H D I h
 refine wpAny_Assign_Subscript (thn (hv pins s O H _ I h) fun r s1 ⟨v,H1,I1,rv,q1⟩=>thn (ho pins s1 O H1 _ I1 q1) fun u s2 ⟨x,H2,I2,rx,q2⟩=>thn (hi pins s2 O H2 _ I2 q2) fun iv s3 hz9=>?_) hs
 obtain⟨y,H3,I3,ry,a,H4,ex,g,q3⟩:=hz9
 subst ex
 obtain rfl:u=Zkr a:=rx
 exact zxl hu I3 g ry rv fun s4 I4=>⟨O,H4,I4,q3⟩
end
theorem ybk{P:Zjj}{w:Zkq}{H:Hp}(h:Heap)(hb:Zlh<h.objs.size):zet P w H (h.push { cls:=.type "dict", data:=.dict #[] }) h.objs.size (.dK []) :=
 ⟨Zjn _,beq_eq_false_iff_ne.mpr (Zju (Zi6 hb)),[],.nil,Zvj h⟩
theorem ya3{P:Zjj}{w:Zkq}{H:Hp}(h:Heap)(hb:Zlh<h.objs.size):zet P w H (h.push { cls:=.type "dict", data:=.dict #[] }) h.objs.size (.dT []) :=
 ⟨Zjn _,beq_eq_false_iff_ne.mpr (Zju (Zi6 hb)),[],.nil,_,#[],0,Zi1 _ rfl,⟨rfl,rfl,rfl⟩,rfl,rfl,Zmf⟩
noncomputable def zyu:TE:=fun _ H Q=>∀p,H p=none->Q (.ref p) (upd H p (.dK []))
noncomputable def ydm:TE:=fun _ H Q=>∀p,H p=none->Q (.ref p) (upd H p (.dT []))
section
variable{X:Cx}{pos:Pos}
theorem zmd:PE X (.Dict [] [] pos) zyu:=fun pins s O H Q I h =>
 Zuo ⟨.ref s.heap.objs.size,_,I.laid (a:=s.heap.objs.size) (o:=.dK []) (t':=s.toks) (fun _ _ q=>Zim _ q) (Zio _) (ybk s.heap I.big),rfl,h _ (I.hok.fresh (Zio _))⟩
theorem zhl:PE X (.Dict [] [] pos) ydm:=fun pins s O H Q I h =>
 Zuo ⟨.ref s.heap.objs.size,_,I.laid (a:=s.heap.objs.size) (o:=.dT []) (t':=s.toks) (fun _ _ q=>Zim _ q) (Zio _) (ya3 s.heap I.big),rfl,h _ (I.hok.fresh (Zio _))⟩
end
structure M1(X:Cx)(o:Expr)(m:Str)(apos:Pos)(e:Expr)(cpos:Pos):Prop where
 base:Zoo o m X.env (eval o X.env)=eval o X.env
 few:((Zov cpos (Zj2 [e] X.env)).all (fun x=>!x.1)&&(Zq6 cpos (Zom [] X.env)).all (fun x=>x.1.isSome)
  && decide (([e]:List Expr).length+([]:List Zqm).length+(if ([]:List Zqm).isEmpty then 0 else 1)<30))=true
 line:(apos.endLine == cpos.line)=true
 trees:Zov cpos (Zj2 [e] X.env)=[(false,eval e X.env)]
structure M2(X:Cx)(o:Expr)(m:Str)(apos:Pos)(e f:Expr)(cpos:Pos):Prop where
 base:Zoo o m X.env (eval o X.env)=eval o X.env
 few:((Zov cpos (Zj2 [e,f] X.env)).all (fun x=>!x.1)&&(Zq6 cpos (Zom [] X.env)).all (fun x=>x.1.isSome)
  && decide (([e,f]:List Expr).length+([]:List Zqm).length+(if ([]:List Zqm).isEmpty then 0 else 1)<30))=true
 line:(apos.endLine == cpos.line)=true
 trees:Zov cpos (Zj2 [e,f] X.env)=[(false,eval e X.env),(false,eval f X.env)]
noncomputable def IsD(H:Hp)(a:Addr):Prop:=(∃kvs,Rd H a (.dK kvs)) \/ ∃kvs,Rd H a (.dT kvs)
theorem zyn{X:Cx}{pins:List (Addr×Obj)}{O:St}{H:Hp}{s:Zih}{a:Addr}(I:Inv X pins O H s)(d:IsD H a) :
  s.TypeIs (.ref a) "dict" /\ (∀b,Zkr a= .ref b-> ∃ob,s.heap.get? b=some ob/\ob.dict=none)/\(a == Zlh)=false:=by
 rcases d with ⟨kvs,e⟩ | ⟨kvs,e⟩
 .obtain⟨_,hd,vs,_,dd⟩:=zpw I.hok e
  refine⟨dd.typeIs,fun b q=>?_,hd⟩
  cases q
  obtain⟨ob,_,_,h1,h2,_⟩:=dd
  exact⟨ob,h1,h2.2.1⟩
 .obtain⟨_,hd,xs,_,dd⟩:=zpz I.hok e
  refine⟨dd.typeIs,fun b q=>?_,hd⟩
  cases q
  obtain⟨ob,_,_,h1,h2,_⟩:=dd
  exact⟨ob,h1,h2.2.1⟩
section
variable{X:Cx}{pins:List (Addr×Obj)}{O:St}{H:Hp}{s:Zih}{a:Addr}{y d:V}{u r:Value}{o:Option V}{A:Zjs}{E:Value->Zih->Prop}
theorem yij{Q:Value->Zih->Prop}(hu:A.units+1<Zon)(I:Inv X pins O H s)(g:DGet H a y o)(ry:RelV y u)(h:∀w' s',Inv X pins O H s'->RelV (o.getD .non) w'->Q w' s') :
  Zjd (Zjx X.prog X.w) A (call (.builtin "dict.get") [.ref a,u]) Q E s:=by
 rcases g with ⟨kvs,k,e,ey,l⟩ | ⟨kvs,k,b,e,ey,eb,l⟩
 .subst ey
  obtain⟨z,hd,vs,rel,dd⟩:=zpw I.hok e
  refine Zmv Zli dd.typeIs Zmq (Zqj _ _) (meets_dict_get (zbh X.prog X.w) a (zqi ry) hd) ⟨_,dd.mapOf,h _ _ (I.tok _) ?_⟩
  rw[l]
  exact(rel.val k).getD rfl
 .subst ey
  cases (show u=Zkr b from ry)
  obtain⟨z,hd,xs,rel,dd⟩:=zpz I.hok e
  refine Zmv Zli dd.typeIs Zmq (Zqj _ _) (meetsH_dict_get (Zmd (zbh X.prog X.w)) a b hd) ⟨Zl6 hu,k,xs,zm5 I.hok eb,dd,h _ _ (I.tok _) ?_⟩
  rw[l]
  exact(rel.val k).getD rfl
theorem yg8{Q:Value->Zih->Prop}(hu:A.units+1<Zon)(I:Inv X pins O H s)(g:DGet H a y o)(ry:RelV y u)(rd:RelV d r)(h:∀w' s',Inv X pins O H s'->RelV (o.getD d) w'->Q w' s') :
  Zjd (Zjx X.prog X.w) A (call (.builtin "dict.get") [.ref a,u,r]) Q E s:=by
 rcases g with ⟨kvs,k,e,ey,l⟩ | ⟨kvs,k,b,e,ey,eb,l⟩
 .subst ey
  obtain⟨z,hd,vs,rel,dd⟩:=zpw I.hok e
  refine Zmv Zli dd.typeIs Zmq (Zqi _ _ _) (meets_dict_get_default (zbh X.prog X.w) a (zqi ry) hd r) ⟨_,dd.mapOf,h _ _ (I.tok _) ?_⟩
  rw[l]
  exact(rel.val k).getD rd
 .subst ey
  cases (show u=Zkr b from ry)
  obtain⟨z,hd,xs,rel,dd⟩:=zpz I.hok e
  refine Zmv Zli dd.typeIs Zmq (Zqi _ _ _) (meetsH_dict_get_default (Zmd (zbh X.prog X.w)) a b hd r) ⟨Zl6 hu,k,xs,zm5 I.hok eb,dd,h _ _ (I.tok _) ?_⟩
  rw[l]
  exact(rel.val k).getD rd
end
noncomputable def zuk(td ty:TE):TE:=fun O H Q=>td O H fun x H1=>∃a,x= .ref a/\IsD H1 a/\ty O H1 fun y H2=>∃o,DGet H2 a y o/\Q (o.getD .non) H2
noncomputable def ztr(td ty tx:TE):TE:=fun O H Q=>td O H fun x H1=>∃a,x= .ref a/\IsD H1 a/\ty O H1 fun y H2=>tx O H2 fun z H3=>∃o,DGet H3 a y o/\Q (o.getD z) H3
section
variable{X:Cx}{o e f:Expr}{apos cpos:Pos}{td ty tx:TE}
theorem zl5(hu:X.A.units+1<Zon)(ho:PE X o td)(he:PE X e ty)(m:M1 X o "get" apos e cpos):PE X (.Call (.Attribute o "get" apos) [e] [] cpos) (zuk td ty):=by
 intro pins s O H Q I h
 refine Ztu m.base m.few m.line Znx Zli Zqz (thn (ho pins s O H _ I h) fun u s1 hz9=>?_)
 obtain⟨x,H1,I1,rx,a,ex,d,q1⟩:=hz9
 subst ex
 obtain rfl:u=Zkr a:=rx
 obtain⟨t1,t2,_⟩:=zyn I1 d
 refine⟨t1,t2,?_⟩
 rw[m.trees]
 refine Zly rfl (Zot (Znn (thn (he pins s1 O H1 _ I1 q1) fun iv s2 ⟨y,H2,I2,ry,ov,g,q2⟩=>Zph ?_)))
 exact yij hu I2 g ry fun w' s3 I3 rw'=>⟨_,H2,I3,rw',q2⟩
theorem zgd(hu:X.A.units+1<Zon)(ho:PE X o td)(he:PE X e ty)(hf:PE X f tx)(m:M2 X o "get" apos e f cpos):PE X (.Call (.Attribute o "get" apos) [e,f] [] cpos) (ztr td ty tx):=by
 intro pins s O H Q I h
 refine Ztu m.base m.few m.line Znx Zli Zqz (thn (ho pins s O H _ I h) fun u s1 hz9=>?_)
 obtain⟨x,H1,I1,rx,a,ex,d,q1⟩:=hz9
 subst ex
 obtain rfl:u=Zkr a:=rx
 obtain⟨t1,t2,_⟩:=zyn I1 d
 refine⟨t1,t2,?_⟩
 rw[m.trees]
 refine Zly rfl (Zot (Znn (thn (he pins s1 O H1 _ I1 q1) fun iv s2 ⟨y,H2,I2,ry,q2⟩ =>
  Znn (thn (hf pins s2 O H2 _ I2 q2) fun fv s3 ⟨z,H3,I3,rz,ov,g,q3⟩=>Zph ?_))))
 exact yg8 hu I3 g ry rz fun w' s4 I4 rw'=>⟨_,H3,I4,rw',q3⟩
end
end L2
namespace L2
open PySem PySem.W PySem.Spec PyProof.Rows
theorem znr{a b:D}(ha:a.isK=true)(hb:b.isK=true)(h:a.key=b.key):a=b:=by
 cases a <;> cases b <;> simp[D.isK,D.key] at * <;> first | exact h | exact zw7.mp h
theorem zlg{K:Zh7}{H:Hp}{d:D}{v:V}(hk:d.isK=true)(r:Rep K H d v):v=kV d.key:=by
 cases d <;> simp[D.isK] at hk
 .exact r.of_int
 .exact r.of_str
noncomputable abbrev DD:=List (D×D)
noncomputable def valD(kvs:DD)(k:D):Option D:=(kvs.find? fun kv=>decide (kv.1=k)).map (·.2)
noncomputable def putD(kvs:DD)(k d:D):DD:=if (kvs.any fun kv=>decide (kv.1=k))=true then kvs.map (fun kv=>if kv.1=k then (kv.1,d) else kv) else kvs++[(k,d)]
inductive Dks(K:Zh7)(F:Hp):DD->List (Key×V)->Prop
 | nil:Dks K F [] []
 | cons {k d:D} {v:V} {kvs:DD} {xs:List (Key×V)} (hk:k.isK=true) (hr:Rep K F k (kV k.key)) (r:Rep K F d v) (t:Dks K F kvs xs):Dks K F ((k,d)::kvs) ((k.key,v)::xs)
section
variable{K:Zh7}{F F':Hp}{kvs:DD}{xs:List (Key×V)}
theorem Dks.mono(h:Dks K F kvs xs)(s:Same F F'):Dks K F' kvs xs:=by
 induction h with
 | nil=>exact .nil
 | cons hk hr r t ih=>exact .cons hk (hr.mono s) (r.mono s) ih
theorem Dks.length(h:Dks K F kvs xs):kvs.length=xs.length:=by
 induction h with
 | nil=>rfl
 | cons hk hr r t ih=>simp[ih]
theorem yb7{k:D}(hk:k.isK=true):k.flat=true:=by cases k <;> simp[D.isK] at hk <;> rfl
theorem zw1{K:Zh7}{H F:Hp}{k:D}{v:V}(hk:k.isK=true)(r:Rep K H k v):Rep K F k (kV k.key):=by
 rw[<- zlg hk r];exact r.flat (yb7 hk)
theorem Dks.val(h:Dks K F kvs xs){k:D}(hk:k.isK=true):(valD kvs k=none/\valV xs k.key=none) \/ ∃d v,valD kvs k=some d/\valV xs k.key=some v/\Rep K F d v:=by
 induction h with
 | nil=>exact .inl ⟨rfl,rfl⟩
 | @cons k' d v kvs xs hk' hr' r t ih =>
  by_cases e:k'=k
  .subst e
   exact .inr ⟨d,v,by simp[valD],by simp[valV],r⟩
  .have e2:k'.key≠k.key:=fun z=>e (znr hk' hk z)
   have h1:valD ((k',d)::kvs) k=valD kvs k:=by simp[valD,Zjy,e]
   have h2:valV ((k'.key,v)::xs) k.key=valV xs k.key:=by simp[valV,Zjy,e2]
   rw[h1,h2];exact ih
theorem Dks.any(h:Dks K F kvs xs){k:D}(hk:k.isK=true):(kvs.any fun kv=>decide (kv.1=k))=xs.any fun kv=>decide (kv.1=k.key):=by
 induction h with
 | nil=>rfl
 | @cons k' d v kvs xs hk' hr' r t ih =>
  rw[Zls,Zls,ih]
  congr 1
  by_cases e:k'=k
  .subst e;simp
  .have e2:k'.key≠k.key:=fun z=>e (znr hk' hk z)
   rw[decide_eq_false e,decide_eq_false e2]
theorem Dks.snoc(h:Dks K F kvs xs){k d:D}{v:V}(hk:k.isK=true)(hr:Rep K F k (kV k.key))(r:Rep K F d v):Dks K F (kvs++[(k,d)]) (xs++[(k.key,v)]):=by
 induction h with
 | nil=>exact .cons hk hr r .nil
 | cons hk' hr' r' t ih=>exact .cons hk' hr' r' ih
theorem Dks.put(h:Dks K F kvs xs){k d:D}{v:V}(hk:k.isK=true)(hr:Rep K F k (kV k.key))(r:Rep K F d v):Dks K F (putD kvs k d) (putK xs k.key v):=by
 unfold putD putK
 rw[h.any hk]
 by_cases hc:(xs.any fun kv=>decide (kv.1=k.key))=true
 .rw[if_pos hc,if_pos hc]
  clear hc
  induction h with
  | nil=>exact .nil
  | @cons k' d' v' kvs xs hk' hr' r' t ih =>
   rw[Zik,Zik]
   by_cases e:k'=k
   .subst e;rw[if_pos rfl,if_pos rfl];exact .cons hk' hr' r ih
   .have e2:k'.key≠k.key:=fun z=>e (znr hk' hk z)
    rw[if_neg e,if_neg e2];exact .cons hk' hr' r' ih
 .rw[if_neg hc,if_neg hc];exact h.snoc hk hr r
end
theorem ycd(kvs:DD)(k d:D):(putD kvs k d).length<=kvs.length+1:=by
 unfold putD;split <;> simp
noncomputable def dW(K:Zh7)(p:Addr)(kvs:DD):Hp->Hp->Prop:=fun F H=>∃xs,H p=some (.dK xs)/\Dks K F kvs xs
noncomputable def dsl(K:Zh7)(p:Addr)(kvs:DD):Sl:=.g (.ref p) [p] (dW K p kvs)
theorem ztb(K:Zh7)(p:Addr)(kvs:DD):Stab [p] (dW K p kvs):=fun F1 H1 F2 H2 sf hh ⟨xs,h1,h2⟩=>⟨xs,by rw[hh p (by simp)];exact h1,h2.mono sf⟩
section
variable{K:Zh7}{G Hz L:Hp}{ss:List Sl}{i:Nat}{p:Addr}{kvs:DD}{E:Ends}{ty td tv tx:TE}{k d z:D}
theorem Sat.getM{F H:Hp}{O:St}(S:Sat K G Hz L F H O ss)(hs:ss[i]? = some (dsl K p kvs)):O[i]? = some (some (.ref p))/\Hz p=none/\F p=none /\ ∃xs,H p=some (.dK xs)/\Dks K F kvs xs:=by
 obtain⟨v,e,ew,ha,hw,st⟩:=S.get hs (by intro z;cases z)
 cases ew
 obtain⟨h0,fp,_⟩:=ha p (by simp)
 exact⟨e,h0,fp,hw⟩
theorem Sat.writeM{F H:Hp}{O:St}{kvs':DD}{xs:List (Key×V)}(S:Sat K G Hz L F H O ss)(hs:ss[i]? = some (dsl K p kvs))(r:Dks K F kvs' xs):Sat K G Hz L F (upd H p (.dK xs)) O (ss.set i (dsl K p kvs')):=by
 obtain⟨e,h0,fp,ys,hp,_⟩:=S.getM hs
 have hget:O.getD i none=some (.ref p):=by rw[Zh8,e];rfl
 refine S.put (S.ext.write fp h0) S.fl rfl (fun _ _=>rfl) (fun _=>?_) (by simp[dsl,Sl.ads]) (fun j s' hj h q hq=>?_) fun j s' hj h=>(S.ok j s' h).updNe (S.ne i j _ s' (Zju hj) hs h p (by simp[dsl,Sl.ads]))
 .rw[hget]
  exact⟨rfl,fun a ha=>by rw[Zic.mp ha];exact⟨h0,fp,_,zam,trivial⟩,⟨xs,zam,r⟩,ztb K p kvs'⟩
 .have:q=p:=by simpa[dsl,Sl.ads] using hq
  subst this
  exact S.ne i j _ s' (Zju hj) hs h q (by simp[dsl,Sl.ads])
theorem zsj(h:∀p,Nx K G Hz L E.nx (ss.set i (dsl K p []))):Go K G Hz L E ss (tAsg zyu (zfw i)):=fun F H O S p hp=>by
 have e:=(Ext.refl S.ext.fh).newO (o:=.dK []) hp
 have S':=S.ext2 e
 refine h p F _ _ (S'.put S'.ext S'.fl (by simp) (fun j hj=>zcj (Zju hj)) (fun hi=>?_) (by simp[dsl,Sl.ads]) (fun j s' hj hs q hq=>?_) fun j s' hj hs=>S'.ok j s' hs)
 .rw[zb9 (by rw[S.len];exact hi)]
  exact⟨rfl,fun a ha=>by rw[Zic.mp ha];exact⟨S.ext.hh.free hp,S.ext.fh.free hp,_,zam,trivial⟩,⟨[],zam,.nil⟩,ztb K p []⟩
 .have:q=p:=by simpa[dsl,Sl.ads] using hq
  subst this
  exact fun hin=>(S.ok j s' hs).live hin hp
theorem zfj(hs:ss[i]? = some (dsl K p kvs))(b:EvB K G Hz L ss ty k)(hk:k.isK=true)(hv:valD kvs k=some d):Ev K G Hz L ss (zwa (tVar i) ty) d:=fun F H O Q S q=>by
 obtain⟨e,_⟩:=S.getM hs
 refine⟨_,e,b F H O _ S fun v F1 H1 e1 r1=>?_⟩
 obtain⟨_,_,_,xs,hp,dk⟩:=(S.ext2 e1).getM hs
 rcases dk.val hk with ⟨h1,_⟩ | ⟨d',w,h1,h2,rw'⟩
 .rw[h1] at hv;cases hv
 .rw[h1] at hv;cases hv
  refine⟨p,w,rfl,?_,q w F1 H1 e1 rw'⟩
  rw[zlg hk r1,<- h2]
  exact DGet.k hp
theorem ztg(hs:ss[i]? = some (dsl K p kvs))(b:EvB K G Hz L ss ty k)(hk:k.isK=true):Ev K G Hz L ss (tDIn ty (tVar i)) (.bl (valD kvs k).isSome):=fun F H O Q S q =>
 b F H O _ S fun v F1 H1 e1 r1=>by
  obtain⟨e,_,_,xs,hp,dk⟩:=(S.ext2 e1).getM hs
  refine⟨_,e,p,valV xs k.key,rfl,by rw[zlg hk r1];exact DGet.k hp,q _ F1 H1 e1 ?_⟩
  have:(valV xs k.key).isSome=(valD kvs k).isSome:=by
   rcases dk.val hk with ⟨h1,h2⟩ | ⟨d',w,h1,h2,_⟩ <;> rw[h1,h2] <;> rfl
  rw[this];exact Rep.bl
theorem zp4(hs:ss[i]? = some (dsl K p kvs))(a:Ev K G Hz L ss tv d)(b:EvB K G Hz L ss ty k)(hk:k.isK=true)(hz:kvs.length<sizeLine)(h:Nx K G Hz L E.nx (ss.set i (dsl K p (putD kvs k d)))):Go K G Hz L E ss (yf4 (tVar i) ty tv):=fun F H O S =>
 a F H O _ S fun v F1 H1 e1 r1=>by
  have S1:=S.ext2 e1
  obtain⟨e,_⟩:=S1.getM hs
  refine⟨_,e,b F1 H1 O _ S1 fun w F2 H2 e2 r2=>?_⟩
  have S2:=S1.ext2 e2
  obtain⟨_,_,_,xs,hp,dk⟩:=S2.getM hs
  refine⟨p,_,rfl,by rw[zlg hk r2];exact DPut.k (v:=v) hp (by rw[<- dk.length];exact hz),h F2 _ O (S2.writeM hs (dk.put hk (zw1 hk r2) (r1.mono e2.gf)))⟩
end
end L2
namespace L2
open PySem PySem.Spec PyProof.Rows
section
variable{X:Cx}
noncomputable def zzw:V->List V->Hp->VK->Prop:=fun x vs H Q=>∃a kvs k z,x= .ref a/\vs=[kV k,z]/\H a=some (.dK kvs)/\kvs.length<sizeLine/\(∀v,valV kvs k=some v->Q v H)/\(valV kvs k=none->Q z (upd H a (.dK (putK kvs k z))))
theorem zo8:MtR X "dict.setdefault" zzw:=by
 intro pins s O H x xs v us Q I rx rs h
 obtain⟨a,kvs,k,z,rfl,rfl,e,hl,q1,q2⟩:=h
 obtain rfl:v=Zkr a:=rx
 obtain⟨u1,u2,rfl,ry,rz⟩:=zq2 rs
 obtain⟨hz,hd,vs,rel,dd⟩:=yao I.hok e
 have hzz:vs.length<=sizeLine:=by rw[<- rel.length];exact hz
 refine Zmv PySem.F.slot_dict_setdefault dd.typeIs PySem.F.entry_dict_setdefault (PySem.F.args_dict_setdefault_3 _ _ _) (kt_meets_setdefault (zbh X.prog X.w) a (zqi ry) hd u2) ⟨vs,dd,hzz,fun v' hv=>?_,fun hn h' dd' hs=>?_⟩
 .have r:=rel.val k
  rw[hv] at r
  cases hk:valV kvs k with
  | none=>rw[hk] at r;exact r.elim
  | some w'=>rw[hk] at r;exact⟨w',H,I.tok _,r,q1 w' hk⟩
 .have hk:valV kvs k=none:=by
   have r:=rel.val k
   rw[hn] at r
   cases hk:valV kvs k with
   | none=>rfl
   | some w'=>rw[hk] at r;exact r.elim
  have hl2:(putK kvs k z).length<=sizeLine:=by have:=zjp kvs k z;lia
  have he:∃q,h'.get? a=some q:=let ⟨q,_,_,hq,_⟩:=dd';⟨q,hq⟩
  exact⟨z,_,zs0 I (by rw[e];exact Zpi) hs he (ydd hl2 hd (rel.put k rz) dd'),rz,q2 hk⟩
noncomputable def yby(r d:Addr):HO:=.ext fun h=>h.IsValuesView r d
noncomputable def zzs:V->List V->Hp->VK->Prop:=fun x vs H Q=>∃d kvs,x= .ref d/\vs=[]/\H d=some (.dK kvs) /\ ∀r,H r=none->Q (.ref r) (upd H r (yby r d))
theorem zz4:MtR X "dict.values" zzs:=by
 intro pins s O H x xs v us Q I rx rs h
 obtain⟨d,kvs,rfl,rfl,e,q⟩:=h
 obtain rfl:v=Zkr d:=rx
 cases rs
 obtain⟨hz,hd,vs,rel,dd⟩:=yao I.hok e
 refine Zmv PySem.F.slot_dict_values dd.typeIs PySem.F.entry_dict_values (PySem.F.args_dict_values_1 _) (meets_dict_values (zbh X.prog X.w) d hd) ⟨⟨vs,dd⟩,?_⟩
 have I2:Inv X pins O (upd H s.heap.objs.size (yby s.heap.objs.size d)) { s with heap:=s.heap.push { cls:=.type "dict_values", data:=.fields #[.ref d] } } :=
  I.laid (t':=s.toks) (fun _ _ q=>Zim _ q) (Zio _) ⟨⟨_,Zi1 _ rfl,rfl,rfl⟩,⟨_,Zi1 _ rfl⟩,fun h1 h2 ⟨o,ho,r⟩ k=>⟨o,k _ ho,r⟩⟩
 exact⟨.ref s.heap.objs.size,_,I2,rfl,q _ I.fresh⟩
theorem KV.snds{κ:Type}[DecidableEq κ]{kvs:List (κ×V)}{vs:List (κ×Value)}(r:KV kvs vs):Vals (kvs.map (·.2)) (vs.map (·.2)):=by
 induction r with
 | nil=>exact .nil
 | cons h t ih=>exact .cons h.2 ih
theorem zoc(hc:X.calm=true):zcm X (.type "list") (fun xs H Q=>∃r d kvs,xs=[.ref r]/\H r=some (yby r d)/\H d=some (.dK kvs) /\ ∀l,H l=none->Q (.ref l) (upd H l (.lst (kvs.map (·.2))))):=by
 intro pins s O H xs us Q I rs h
 obtain⟨r,d,kvs,rfl,hr,e,q⟩:=h
 obtain⟨u,rfl,ru⟩:=zht rs
 cases ru
 obtain⟨hz,hd,vs,rel,dd⟩:=yao I.hok e
 obtain⟨ep,da⟩:=dd.dictAt
 obtain⟨hv,_,_⟩:=I.hok r _ hr
 have hzz:vs.length<=sizeLine:=by rw[<- rel.length];exact hz
 refine PySem.W.kdl_call (PySem.W.kdl_values (kvs:=vs) (d:=d) (r:=r) (ep:=ep)) (I.ok.hd hc) ⟨hv,da⟩ hzz fun h' tk acc c' hk hD hacc=>?_
 have hacc2:acc.toList=vs.map (·.2):=PySem.W.kdl_vals_eq acc.toList (by rw[Zkm];exact hacc.1) fun j v hj=>hacc.2 j v (by rw[<- Zrn];exact hj)
 have hval:Vals (kvs.map (·.2)) acc.toList:=by rw[hacc2];exact rel.snds
 exact⟨.ref s.heap.objs.size,_,I.laid hk (Zio _) (show zet X.prog X.w _ _ _ (.lst _) from⟨by rw[Zia];exact hz,acc.toList,c',hval,by simpa using hD⟩),rfl,q _ I.fresh⟩
end
end L2
namespace L2
open PySem PySem.W PySem.Spec PyProof.Rows
theorem SlOk.live2{K:Zh7}{Hz F H:Hp}{ov:Option V}{s:Sl}(h:SlOk K Hz F H ov s){p:Addr}(hp:p∈s.ads):∃o,H p=some o/\NT o:=by
 cases s with
 | un=>simp[Sl.ads] at hp
 | d x=>simp[Sl.ads] at hp
 | o q xs =>
  obtain⟨_,_,_,vs,hq,_⟩:=h
  simp[Sl.ads] at hp;subst hp;exact⟨_,hq,trivial⟩
 | oo q qs =>
  obtain⟨ev,h0,fp,hq,hqs⟩:=h
  rcases Ziy.mp hp with rfl | hp
  .exact⟨_,hq,trivial⟩
  .obtain⟨r,hr,rfl⟩:=Zit.mp hp
   obtain⟨_,_,vs,hv,_⟩:=hqs r hr
   exact⟨_,hv,trivial⟩
 | g v as W =>
  obtain⟨ev,ha,hw,st⟩:=h
  obtain⟨_,_,x,ho⟩:=ha p hp
  exact⟨x,ho⟩
noncomputable abbrev KQ:=List (D×Addr×List D)
noncomputable def dat(q:D×Addr×List D):D×List D:=(q.1,q.2.2)
noncomputable def raw(q:D×Addr×List D):Key×V:=(q.1.key,.ref q.2.1)
noncomputable def appD:List (D×List D)->D->D->List (D×List D)
 | [],k,d=>[(k,[d])]
 | kv::r,k,d=>if kv.1=k then (kv.1,kv.2++[d])::r else kv::appD r k d
theorem zyr{kqs:KQ}{k:D}(hk:k.isK=true)(hks:∀q∈kqs,q.1.isK=true):(valV (kqs.map raw) k.key=none /\ ∀d,appD (kqs.map dat) k d=kqs.map dat++[(k,[d])]) \/
  ∃j a ds,kqs[j]? = some (k,a,ds)/\valV (kqs.map raw) k.key=some (.ref a) /\ ∀d,(kqs.set j (k,a,ds++[d])).map dat=appD (kqs.map dat) k d:=by
 induction kqs with
 | nil=>exact .inl ⟨rfl,fun _=>rfl⟩
 | cons q r ih =>
  obtain⟨k',a',ds'⟩:=q
  by_cases e:k'=k
  .subst e
   refine .inr ⟨0,a',ds',rfl,by simp[valV,raw],fun d=>?_⟩
   show(k',ds'++[d])::r.map dat=appD ((k',ds')::r.map dat) k' d
   rw[appD,if_pos rfl]
  .have e2:k'.key≠k.key:=fun z=>e (znr (hks _ Zil) hk z)
   have hv:valV (((k',a',ds')::r).map raw) k.key=valV (r.map raw) k.key:=by simp[valV,raw,Zjy,e2]
   have ha:∀d,appD (((k',a',ds')::r).map dat) k d=(k',ds')::appD (r.map dat) k d:=fun d=>by
    show appD ((k',ds')::r.map dat) k d=_
    rw[appD,if_neg e]
   rw[hv]
   rcases ih fun q hq=>hks q (Zij _ hq) with ⟨h1,h2⟩ | ⟨j,a,ds,h1,h2,h3⟩
   .exact .inl ⟨h1,fun d=>by rw[ha,h2];rfl⟩
   .refine .inr ⟨j+1,a,ds,h1,h2,fun d=>?_⟩
    rw[ha,<- h3];rfl
noncomputable def lW(K:Zh7)(p:Addr)(kqs:KQ):Hp->Hp->Prop:=fun F H=>H p=some (.dK (kqs.map raw)) /\ ∀q∈kqs,q.1.isK=true/\Rep K F q.1 (kV q.1.key) /\ ∃vs,H q.2.1=some (.lst vs)/\Reps K F q.2.2 vs
noncomputable def dls(K:Zh7)(p:Addr)(kqs:KQ):Sl:=.g (.ref p) (p::kqs.map (·.2.1)) (lW K p kqs)
theorem zsu(K:Zh7)(p:Addr)(kqs:KQ):Stab (p::kqs.map (·.2.1)) (lW K p kqs):=fun F1 H1 F2 H2 sf hh ⟨h1,h2⟩ =>
 ⟨by rw[hh p (by simp)];exact h1,fun q hq=>by
  obtain⟨a,kr,vs,b,c⟩:=h2 q hq
  exact⟨a,kr.mono sf,vs,by rw[hh q.2.1 (Zij _ (Zko hq))];exact b,c.mono sf⟩⟩
section
variable{K:Zh7}{G Hz L:Hp}{ss:List Sl}{i:Nat}{p:Addr}{kqs:KQ}{E:Ends}{tk tv:TE}{k d:D}
theorem Sat.getL{F H:Hp}{O:St}(S:Sat K G Hz L F H O ss)(hs:ss[i]? = some (dls K p kqs)):O[i]? = some (some (.ref p))/\(∀a∈p::kqs.map (·.2.1),Hz a=none/\F a=none)/\lW K p kqs F H:=by
 obtain⟨v,e,ew,ha,hw,st⟩:=S.get hs (by intro z;cases z)
 cases ew
 exact⟨e,fun a h=>⟨(ha a h).1,(ha a h).2.1⟩,hw⟩
theorem ybb(h:∀p,Nx K G Hz L E.nx (ss.set i (dls K p []))):Go K G Hz L E ss (tAsg zyu (zfw i)):=fun F H O S p hp=>by
 have e:=(Ext.refl S.ext.fh).newO (o:=.dK []) hp
 have S':=S.ext2 e
 refine h p F _ _ (S'.put S'.ext S'.fl (by simp) (fun j hj=>zcj (Zju hj)) (fun hi=>?_) (by simp[dls,Sl.ads]) (fun j s' hj hs q hq=>?_) fun j s' hj hs=>S'.ok j s' hs)
 .rw[zb9 (by rw[S.len];exact hi)]
  exact⟨rfl,fun a ha=>by rw[Zic.mp ha];exact⟨S.ext.hh.free hp,S.ext.fh.free hp,_,zam,trivial⟩,⟨zam,fun _ h=>by cases h⟩,zsu K p []⟩
 .have:q=p:=by simpa[dls,Sl.ads] using hq
  subst this
  exact fun hin=>(S.ok j s' hs).live hin hp
theorem ybx{α:Type}{xs:List α}{i:Nat}{x:α}(h:xs[i]? = some x):xs.set i x=xs:=by
 refine Zlp fun n=>?_
 by_cases hn:i=n
 .subst hn;rw[Zj8 (Zif.mp h).1,h]
 .rw[Zlc hn]
theorem Sat.appL{F H:Hp}{O:St}(S:Sat K G Hz L F H O ss){j:Nat}{a:Addr}{ds es:List D}{vs:List V}(hs:ss[i]? = some (dls K p kqs))(hj:kqs[j]? = some (k,a,ds))(r:Reps K F es vs) :
  Sat K G Hz L F (upd H a (.lst vs)) O (ss.set i (dls K p (kqs.set j (k,a,es)))):=by
 obtain⟨e,hoff,hp,hq⟩:=S.getL hs
 have hget:O.getD i none=some (.ref p):=by rw[Zh8,e];rfl
 have hnd:(p::kqs.map (·.2.1)).Nodup:=S.nd i _ hs
 have hm:=Zii hj
 have ham:a∈p::kqs.map (·.2.1):=Zij _ (Zit.mpr ⟨_,hm,rfl⟩)
 obtain⟨a0,af⟩:=hoff a ham
 have hpa:p≠a:=fun z=>(Zj6.mp hnd).1 (z ▸ Zit.mpr ⟨_,hm,rfl⟩)
 have mset:∀{β:Type} (f:D×Addr×List D->β),f (k,a,es)=f (k,a,ds)->(kqs.set j (k,a,es)).map f=kqs.map f:=fun {β} f hf=>by
  rw[List.map_set]
  refine Zlp fun n=>?_
  by_cases hn:j=n
  .subst hn
   rw[Zj8 (by rw[Zia];exact(Zif.mp hj).1),Zie,hj,hf];rfl
  .rw[Zlc hn]
 have hads:(dls K p (kqs.set j (k,a,es))).ads=p::kqs.map (·.2.1):=by show p::(kqs.set j (k,a,es)).map (·.2.1)=_;rw[mset (·.2.1) rfl]
 have hdup:∀n z,kqs[n]? = some z->n≠j->z.2.1≠a:=fun n z hn hnj hz=>by
  have h2:(kqs.map (·.2.1)).Nodup:=(Zj6.mp hnd).2
  unfold Zjt at h2
  rw[Zk3] at h2
  have hnl:=(Zif.mp hn)
  have hjl:=(Zif.mp hj)
  have e1:(kqs.map (·.2.1))[n]'(by simpa using hnl.1)=a:=by rw[Zmk,hnl.2];exact hz
  have e2:(kqs.map (·.2.1))[j]'(by simpa using hjl.1)=a:=by rw[Zmk,hjl.2]
  rcases Zoq n j with c | c
  .exact h2 n j (by simpa using hnl.1) (by simpa using hjl.1) c (e1.trans e2.symm)
  .exact h2 j n (by simpa using hjl.1) (by simpa using hnl.1) (by lia) (e2.trans e1.symm)
 refine S.put (S.ext.write af a0) S.fl rfl (fun _ _=>rfl) (fun _=>?_) (by rw[hads];exact hnd) (fun n s' hn h z hz=>?_) fun n s' hn h=>(S.ok n s' h).updNe (S.ne i n _ s' (Zju hn) hs h a ham)
 .rw[hget]
  refine⟨rfl,fun b hb=>?_,⟨by rw[zav hpa,mset raw rfl];exact hp,fun z hz=>?_⟩,zsu _ _ _⟩
  .have hb:b∈p::(kqs.set j (k,a,es)).map (·.2.1):=hb
   rw[mset (·.2.1) rfl] at hb
   obtain⟨b0,bf⟩:=hoff b hb
   refine⟨b0,bf,?_⟩
   by_cases hba:b=a
   .subst hba;exact⟨_,zam,trivial⟩
   .rw[zav hba]
    exact(S.ok i _ hs).live2 (p:=b) hb
  .obtain⟨n,hn⟩:=Zm4.mp hz
   by_cases hnj:j=n
   .subst hnj
    rw[Zj8 (Zif.mp hj).1] at hn
    cases hn
    exact⟨(hq _ hm).1,(hq _ hm).2.1,vs,zam,r⟩
   .rw[Zlc hnj] at hn
    obtain⟨z1,kr,ws,z2,z3⟩:=hq z (Zii hn)
    exact⟨z1,kr,ws,by rw[zav (hdup n z hn (Zju hnj))];exact z2,z3⟩
 .have hz:z∈(dls K p (kqs.set j (k,a,es))).ads:=hz
  rw[hads] at hz
  exact S.ne i n _ s' (Zju hn) hs h z hz
theorem Sat.keyL{F H:Hp}{O:St}(S:Sat K G Hz L F H O ss){l:Addr}(hs:ss[i]? = some (dls K p kqs))(hk:k.isK=true)(kr:Rep K F k (kV k.key))(hl:H l=none) :
  Sat K G Hz L F (upd (upd H l (.lst [])) p (.dK ((kqs++[(k,l,[])]).map raw))) O (ss.set i (dls K p (kqs++[(k,l,[])]))):=by
 have S2:=S.ext2 ((Ext.refl S.ext.fh).newO (o:=.lst []) hl)
 obtain⟨e,hoff,hp,hq⟩:=S2.getL hs
 have hget:O.getD i none=some (.ref p):=by rw[Zh8,e];rfl
 have hnd:(p::kqs.map (·.2.1)).Nodup:=S.nd i _ hs
 obtain⟨p0,pf⟩:=hoff p Zil
 have hnl:∀b∈p::kqs.map (·.2.1),b≠l:=fun b hb z=>(S.ok i _ hs).live (p:=b) hb (z ▸ hl)
 have hpl:p≠l:=hnl p Zil
 have hads:(dls K p (kqs++[(k,l,[])])).ads=(p::kqs.map (·.2.1))++[l]:=by show p::Ztm (fun q:D×Addr×List D=>q.2.1) (kqs++[(k,l,[])])=_;rw[Zir];rfl
 refine S2.put (S2.ext.write pf p0) S2.fl rfl (fun _ _=>rfl) (fun _=>?_) ?_ (fun n s' hn h z hz=>?_) fun n s' hn h=>(S2.ok n s' h).updNe (S2.ne i n _ s' (Zju hn) hs h p Zil)
 .rw[hget]
  refine⟨rfl,fun b hb=>?_,⟨zam,fun z hz=>?_⟩,zsu _ _ _⟩
  .have hb:b∈(dls K p (kqs++[(k,l,[])])).ads:=hb
   rw[hads] at hb
   rcases Zin.mp hb with hb | hb
   .obtain⟨b0,bf⟩:=hoff b hb
    refine⟨b0,bf,?_⟩
    by_cases hbp:b=p
    .subst hbp;exact⟨_,zam,trivial⟩
    .rw[zav hbp]
     exact(S2.ok i _ hs).live2 (p:=b) hb
   .rw[Zic.mp hb]
    exact⟨S.ext.hh.free hl,S.ext.fh.free hl,HO.lst [],by rw[zav (Zju hpl)];exact zam,trivial⟩
  .rcases Zin.mp hz with hz | hz
   .obtain⟨z1,zr,ws,z2,z3⟩:=hq z hz
    have hzp:z.2.1≠p:=fun e=>(Zj6.mp hnd).1 (e ▸ Zko hz)
    exact⟨z1,zr,ws,by rw[zav hzp];exact z2,z3⟩
   .rw[Zic.mp hz]
    exact⟨hk,kr,[],by rw[zav (Zju hpl)];exact zam,Reps.nil⟩
 .rw[hads]
  exact Zjw.mpr ⟨hnd,by simp,fun x hx y hy e=>by rw[Zic.mp hy] at e;exact hnl x hx e⟩
 .have hz:z∈(dls K p (kqs++[(k,l,[])])).ads:=hz
  rw[hads] at hz
  rcases Zin.mp hz with hz | hz
  .exact S.ne i n _ s' (Zju hn) hs h z hz
  .rw[Zic.mp hz]
   exact fun hin=>(S.ok n s' h).live hin hl
theorem yfp(hs:ss[i]? = some (dls K p kqs))(b:EvB K G Hz L ss tk k)(hk:k.isK=true)(a:∀kqs',Ev K G Hz L (ss.set i (dls K p kqs')) tv d)(hz:kqs.length<sizeLine)(hz2:∀q∈kqs,q.2.2.length<sizeLine)
  (h:∀kqs',kqs'.map dat=appD (kqs.map dat) k d->Nx K G Hz L E.nx (ss.set i (dls K p kqs'))) :
  Go K G Hz L E ss (zz0 (tBM K "list" zm0 (tBM K "dict" zzw (tVar i) (za7 tk (za7 (tLst tNil) tNil))) (za7 tv tNil))):=fun F H O S=>by
 obtain⟨e,hoff,hp,hq⟩:=S.getL hs
 have hks:∀q∈kqs,q.1.isK=true:=fun q hm=>(hq q hm).1
 have hil:i<ss.length:=(Zif.mp hs).1
 refine⟨.ref p,e,.inr (.inr (.inl ⟨rfl,.inl ⟨_,hp⟩⟩)),b F H O _ S fun v F1 H1 e1 r1=>⟨Zjn _,fun l hl=>?_⟩⟩
 have S1:=S.ext2 e1
 have S2:=S1.ext2 ((Ext.refl S1.ext.fh).newO (o:=.lst []) hl)
 obtain⟨_,_,hp2,hq2⟩:=S2.getL hs
 refine⟨p,kqs.map raw,k.key,.ref l,rfl,by rw[zlg hk r1],hp2,by rw[Zia];exact hz,fun v' hv'=>?_,fun hn=>?_⟩
 .rcases zyr hk hks with ⟨h1,_⟩ | ⟨j,q,ds,h1,h2,h3⟩
  .rw[h1] at hv';cases hv'
  .rw[h2] at hv';cases hv'
   obtain⟨_,_,ws,hw,_⟩:=hq2 _ (Zii h1)
   have es:ss.set i (dls K p kqs)=ss:=ybx hs
   have S2':Sat K G Hz L F1 (upd H1 l (.lst [])) O (ss.set i (dls K p kqs)):=by rw[es];exact S2
   refine⟨.inl ⟨rfl,_,SqL.of hw⟩,a kqs F1 _ O _ S2' fun w F3 H3 e3 r3=>?_⟩
   have S3:=S2.ext2 e3
   obtain⟨_,_,_,hq3⟩:=S3.getL hs
   obtain⟨_,_,ws3,hw3,rs3⟩:=hq3 _ (Zii h1)
   refine⟨q,ws3,w,rfl,rfl,hw3,by rw[<- rs3.length];exact hz2 _ (Zii h1),h _ (h3 d) F3 _ O (S3.appL hs h1 (rs3.snoc r3))⟩
 .rcases zyr hk hks with ⟨h1,h2⟩ | ⟨j,q,ds,h1,h2,h3⟩
  .have S4:=S1.keyL (k:=k) hs hk (zw1 hk r1) hl
   have eput:putK (kqs.map raw) k.key (.ref l)=(kqs++[(k,l,[])]).map raw:=by rw[yca _ hn,Zir];rfl
   rw[eput]
   have hs4:(ss.set i (dls K p (kqs++[(k,l,[])])))[i]? = some (dls K p (kqs++[(k,l,[])])):=Zj8 hil
   obtain⟨_,_,_,hq4⟩:=S4.getL hs4
   have hj:(kqs++[(k,l,([]:List D))])[kqs.length]? = some (k,l,[]):=by rw[Zjq (Zio _),Zrv];rfl
   obtain⟨_,_,ws,hw,_⟩:=hq4 _ (Zii hj)
   refine⟨.inl ⟨rfl,_,SqL.of hw⟩,a _ F1 _ O _ S4 fun w F3 H3 e3 r3=>?_⟩
   have S5:=S4.ext2 e3
   obtain⟨_,_,_,hq5⟩:=S5.getL hs4
   obtain⟨_,_,ws5,hw5,rs5⟩:=hq5 _ (Zii hj)
   have S6:=S5.appL hs4 hj (rs5.snoc r3)
   rw[List.set_set] at S6
   refine⟨l,ws5,w,rfl,rfl,hw5,by rw[<- rs5.length];show 0<_;rw[Ziv];decide,h _ ?_ F3 _ O S6⟩
   rw[h2,List.set_append_right _ _ (Zio _),Zrv,Zir]
   rfl
  .rw[h2] at hn;cases hn
end
end L2
namespace L2
open PySem PySem.Spec PyProof.Rows
noncomputable def Ite(K:Zh7)(a:Addr):It :=
 ⟨fun i H=>∃xs x,SqL K H a xs/\xs[i]? = some x,fun i H x H'=>∃T0 vs,x= .ref T0/\H T0=none/\H'=upd H T0 (.tup vs) /\ ∀xs,SqL K H a xs-> ∃y,xs[i]? = some y/\vs=[.int i,y],fun i H=>∃xs,SqL K H a xs/\xs.length=i⟩
theorem zvo{P:Zjj}{w:Zkq}{K:Zh7}{elts:List Expr}{kk:Nat}{tp:Pos}(a it e:Addr)(hae:a≠e)(hai:a≠it)(hei:e≠it) :
  Turn P w K (.Tuple elts kk tp) (Ite K a) [e,it] e (fun i h=>(∃old,IsEnum h e it i old)/\h.IsListIter it a i) where
 mem:=by simp
 obj:=fun i h st b hb=>by
  obtain⟨⟨old,ho⟩,oi,hoi,_,hdi⟩:=st
  rcases Ziy.mp hb with rfl | hb
  .exact⟨_,ho,fun v z=>by cases z⟩
  .rw[Zic.mp hb]
   exact⟨oi,hoi,fun v z=>by rw[hdi] at z;cases z⟩
 keep:=fun i h h' st k=>⟨let ⟨old,ho⟩:=st.1;⟨old,k e (by simp) _ ho⟩,st.2.at fun o x=>k it (by simp) o x⟩
 item:=by
  intro X hP hw hK hc i pins s O H E I hf st hg
  subst hP hw hK
  obtain⟨xs,x,hq,hx⟩:=hg
  obtain⟨its,rv,p,hz⟩:=I.list hq
  obtain⟨u,hu,ru⟩:=rv.get hx
  have hil:i<its.length:=(Zif.mp hu).1
  have W0:=Zry (A:=X.A) (Zu7 (prog:=X.prog) (w:=X.w) (A:=X.A.in1) (show X.A.in1.handled=none from I.ok.hd hc) it a hai its.toArray) e hei (by simp[hei,Zju hae]) (by simp)
  refine W0.item i s _ _ (by simpa using hil) ⟨st.1,st.2,p.isList⟩ fun T0 vals h1 tk hp hle ht mid kk=>?_
  obtain⟨t,v,hv,rfl⟩:=hp
  have hv:its[i]? = some v:=by simpa using hv
  rw[hu] at hv;cases hv
  have fresh:H T0=none:=I.hok.fresh hle
  have I1:Inv X pins O (upd H T0 (.tup [.int i,x])) { s with heap:=h1,toks:=tk }:=I.turnsT (wr:=[e,it]) hf kk hle ht (.cons ⟨t,rfl⟩ (.cons ru .nil)) (by rw[Ziv];simp)
  refine⟨.ref T0,rfl,W0.go elts _ tp i T0 _ _ _ mid fun h2 st2 k2=>?_⟩
  have hlt:∀b∈[e,it],b≠T0:=fun b hb z=>by
   obtain⟨⟨old,ho⟩,oi,hoi,_,hdi⟩:=st
   rcases Ziy.mp hb with rfl | hb
   .exact absurd (Zi5 (Ziw ho) (z ▸ hle)) (Zjh _)
   .rw[Zic.mp hb] at z
    exact absurd (Zi5 (Ziw hoi) (z ▸ hle)) (Zjh _)
  have hf1:∀b∈[e,it],FpOk X pins (upd H T0 (.tup [.int i,x])) b:=fun b hb=>⟨by rw[zav (hlt b hb)];exact(hf b hb).1,(hf b hb).2⟩
  exact⟨.ref T0,_,I1.turns (t':=tk) hf1 k2,rfl,⟨T0,_,rfl,fresh,rfl,fun ys hy=>⟨x,by rw[I.list_inj hy hq];exact hx,rfl⟩⟩,⟨st2.1,st2.2.1⟩,fun b hb=>by rw[zav (hlt b hb)];exact(hf b hb).1⟩
 done:=by
  intro X hP hw hK hc i pins s O H E I hf st hg
  subst hP hw hK
  obtain⟨xs,hq,hx⟩:=hg
  obtain⟨its,rv,p,hz⟩:=I.list hq
  have hl:=rv.length
  have hs:its.toArray.size=i:=by simp;lia
  have W0:=Zry (A:=X.A) (Zu7 (prog:=X.prog) (w:=X.w) (A:=X.A.in1) (show X.A.in1.handled=none from I.ok.hd hc) it a hai its.toArray) e hei (by simp[hei,Zju hae]) (by simp)
  rw[hs] at W0
  exact W0.done s _ _ ⟨st.1,st.2,p.isList⟩ fun h1 tk kk=>⟨rfl,I.turns (wr:=[e,it]) hf kk⟩
 self:=fun A i s Q E st h=>Ztq st.1.choose_spec h
section
variable{X:Cx}{e:Expr}{ta:TA}{elts:List Expr}{kk:Nat}{tp p pos:Pos}
noncomputable def iEnL(K:Zh7)(ta:TA):TI:=fun O H R=>ta O H fun vs H1=>∃a,vs=[.ref a]/\(∃xs,SqL K H1 a xs)/\R (Ite K a) H1
theorem zif(hg:Gl X "enumerate")(hm:X.mg "enumerate" = none)(hA:PA X [e] ta)(hs:Zj2 [e] X.env=[(false,eval e X.env)]:=by rfl) :
  PI X (.Tuple elts kk tp) (.Call (.Name "enumerate" p) [e] [] pos) (iEnL X.K ta):=by
 intro pins s O H R I h
 refine Call_ (zjk I hg hm boot_enumerate (Zkn (thn (hA pos pins s O H _ I h) fun us s1 hz9=>?_) hs rfl))
 obtain⟨vs,H1,I1,r1,q1⟩:=hz9
 obtain⟨a,rfl,⟨xs,hq⟩,q⟩:=q1
 obtain⟨u,rfl,ru⟩:=zht r1
 cases ru
 obtain⟨its,rv,p,hz⟩:=I1.list hq
 refine call_enumerate_list p.isList fun h1 hen hit hsz hk=>?_
 have I2:Inv X pins O H1 { s1 with heap:=h1 }:=I1.kept (t':=s1.toks) hk
 refine Ztq hen ?_
 have hlt:a<s1.heap.objs.size:=by obtain⟨o,ho,_⟩:=p.isList;exact Ziw ho
 refine⟨s1.heap.objs.size+1,[s1.heap.objs.size+1,s1.heap.objs.size],_,_,H1,rfl,I2,zvo a s1.heap.objs.size (s1.heap.objs.size+1) (Zi6 (Zpn hlt)) (Zi6 hlt) (Nat.succ_ne_self _),⟨⟨_,hen⟩,hit⟩,fun b hb=>?_,q⟩
 rcases Ziy.mp hb with rfl | hb
 .exact I1.fpOk (Zo8 _) (I1.hok.fresh (Zo8 _))
 .rw[Zic.mp hb]
  exact I1.fpOk (Zio _) (I1.hok.fresh (Zio _))
noncomputable def ziq(K:Zh7):V->List V->Hp->VK->Prop:=fun x vs H Q=>∃(a:Addr) (ns:List Int) (k:Int),x= .ref a/\vs=[.int k]/\SqL K H a (ns.map .int)/\k∈ns/\Q (.int (ns.idxOf k:Nat)) H
theorem ztz:∀{ns:List Int} {its:List Value},Vals (ns.map V.int) its->Zrl its ns
 | [],_,h=>by cases h;exact .nil
 | n::ns,_,h=>by
  cases h with
  | cons a b =>
   obtain⟨t,rfl⟩:=a
   exact .cons n t (ztz b)
theorem zj2:MtR X "list.index" (ziq X.K):=by
 intro pins s O H x xs v us Q I rx rs h
 obtain⟨a,ns,k,rfl,rfl,hq,hk,q⟩:=h
 cases rx
 obtain⟨u,rfl,ru⟩:=zht rs
 obtain⟨t,rfl⟩:=ru
 obtain⟨its,rv,⟨o,n,ho,hc,hd,hdd⟩,hz⟩:=I.list hq
 obtain⟨cls,dd,data,sl⟩:=o
 simp only at hc hd hdd
 subst hc hd hdd
 have hi:=ztz rv
 have hlen:=hi.length
 have hj:ns.idxOf k<ns.length:=Zkb.mpr hk
 rw[Zia] at hz
 have hz2:ns.length<=16777216:=by rw[<- Ziv];exact hz
 refine Zty PySem.F.slot_list_index ⟨_,ho,rfl⟩ PySem.F.entry_list_index (PySem.F.args_list_index_2 _ _)
  (Zvg a its.toArray n _ sl (.int k t) (isInt k) (ns.idxOf k) (by simpa[hlen] using hj) (by lia) ?_ ?_) ⟨ho,fun y hy=>(eq_isInt k t hi y (by simpa using hy)).at _ _,⟨.int (ns.idxOf k:Nat),H,I.tok _,⟨_,rfl⟩,q⟩⟩
 .show isInt k its[ns.idxOf k]=true
  rw[isInt_at k hi _ (by lia) hj]
  simpa using Zki hj
 .intro j hjs hlt
  show isInt k its[j]=false
  rw[isInt_at k hi j (by simpa using hjs) (by lia)]
  exact ne_of_lt_idxOf hlt _
end
end L2
namespace L2
open PySem PySem.W PySem.Spec PyProof.Rows
section
variable{K:Zh7}{G Hz L:Hp}{ss:List Sl}{i:Nat}{p:Addr}{kqs:KQ}{kvs:DD}{E:Ends}{tk tv:TE}{k d:D}
noncomputable def frzL(q:D×Addr×List D):D×D:=(q.1,.lst q.2.2)
theorem Sat.freezeL{F H:Hp}{O:St}(S:Sat K G Hz L F H O ss)(hs:ss[i]? = some (dls K p kqs)):∃F',Sat K G Hz L F' H O (ss.set i (dsl K p (kqs.map frzL))):=by
 obtain⟨e,hoff,hp,hq⟩:=S.getL hs
 have hget:O.getD i none=some (.ref p):=by rw[Zh8,e];rfl
 have hnd:(p::kqs.map (·.2.1)).Nodup:=S.nd i _ hs
 have off:∀b,b∈kqs.map (·.2.1)->Hz b=none/\F b=none:=fun b hb=>hoff b (Zij _ hb)
 let F':Hp:=fun b=>if b∈kqs.map (·.2.1) then H b else F b
 have fin:∀b,b∈kqs.map (·.2.1)->F' b=H b:=fun b hb=>if_pos hb
 have fout:∀b,b∉kqs.map (·.2.1)->F' b=F b:=fun b hb=>if_neg hb
 have ff:Same F F':=fun b o h=>by
  have:b∉kqs.map (·.2.1):=fun hb=>by rw[(off b hb).2] at h;cases h
  rw[fout b this];exact h
 have fh:Same F' H:=fun b o h=>by
  by_cases hb:b∈kqs.map (·.2.1)
  .rw[fin b hb] at h;exact h
  .rw[fout b hb] at h;exact S.ext.fh b o h
 have ex:Ext G Hz F' H:=⟨S.ext.gf.trans ff,fh,S.ext.hh,fun b o h n=>by
  have:b∉kqs.map (·.2.1):=fun hb=>by rw[(off b hb).1] at h;cases h
  rw[fout b this];exact S.ext.no b o h n⟩
 obtain⟨p0,pf⟩:=hoff p Zil
 refine⟨F',S.put ex (S.fl.trans ff) rfl (fun _ _=>rfl) (fun _=>?_) (by simp[dsl,Sl.ads]) (fun j s' hj h q hq=>?_) fun j s' hj h=>?_⟩
 .rw[hget]
  refine⟨rfl,fun a ha=>by rw[Zic.mp ha];exact⟨p0,by rw[fout p (Zj6.mp hnd).1];exact pf,_,hp,trivial⟩,⟨_,hp,?_⟩,ztb _ _ _⟩
  have key:∀zs:KQ,(∀z∈zs,z∈kqs)->Dks K F' (zs.map frzL) (zs.map raw):=by
   intro zs
   induction zs with
   | nil=>intro _;exact .nil
   | cons z zs ih =>
    intro hz
    obtain⟨z1,kr,vs,hv,r⟩:=hq z (hz z Zil)
    exact .cons z1 (kr.mono ff) (Rep.lst (SqL.of ((fin z.2.1 (Zit.mpr ⟨z,hz z Zil,rfl⟩)).trans hv)) (r.mono ff)) (ih fun y hy=>hz y (Zij _ hy))
  exact key kqs fun z h=>h
 .have:q=p:=by simpa[dsl,Sl.ads] using hq
  subst this
  exact S.ne i j _ s' (Zju hj) hs h q Zil
 .have dis:∀b∈s'.ads,b∉kqs.map (·.2.1):=fun b hb hb2=>S.ne i j _ s' (Zju hj) hs h b (Zij _ hb2) hb
  have own:∀{b:Addr} {xs:List D},b∈s'.ads->OwnL K Hz F H b xs->OwnL K Hz F' H b xs:=fun hb ⟨a1,a2,vs,a3,a4⟩=>⟨a1,by rw[fout _ (dis _ hb)];exact a2,vs,a3,a4.mono ff⟩
  have ok:=S.ok j s' h
  cases s' with
  | un=>trivial
  | d x=>obtain⟨v,ev,r⟩:=ok;exact⟨v,ev,r.mono ff⟩
  | o b xs=>exact⟨ok.1,own (by simp[Sl.ads]) ok.2⟩
  | oo b zs =>
   obtain⟨a1,a2,a3,a4,a5⟩:=ok
   exact⟨a1,a2,by rw[fout b (dis b (by simp[Sl.ads]))];exact a3,a4,fun z hz=>own (by simp[Sl.ads];exact .inr ⟨_,hz⟩) (a5 z hz)⟩
  | g v as W =>
   obtain⟨a1,a2,a3,a4⟩:=ok
   refine⟨a1,fun b hb=>?_,a4 _ _ _ _ ff (fun _ _=>rfl) a3,a4⟩
   obtain⟨b1,b2,b3⟩:=a2 b hb
   exact⟨b1,by rw[fout b (dis b hb)];exact b2,b3⟩
theorem zvl{N:St->Hp->Prop}(hs:ss[i]? = some (dls K p kqs))(h:Nx K G Hz L N (ss.set i (dsl K p (kqs.map frzL)))):Nx K G Hz L N ss:=fun F H O S=>by
 obtain⟨F',S'⟩:=S.freezeL hs
 exact h F' H O S'
theorem Dks.snds{F:Hp}{xs:List (Key×V)}(h:Dks K F kvs xs):Reps K F (kvs.map (·.2)) (xs.map (·.2)):=by
 induction h with
 | nil=>exact Reps.nil
 | cons hk hr r t ih=>exact Reps.cons r ih
noncomputable def zqh:List V->Hp->VK->Prop:=fun xs H Q=>∃r d kvs,xs=[.ref r]/\H r=some (yby r d)/\H d=some (.dK kvs) /\ ∀l,H l=none->Q (.ref l) (upd H l (.lst (kvs.map (·.2))))
theorem yaw(hs:ss[i]? = some (dsl K p kvs)):EvO K G Hz L ss (tCB zqh (za7 (tBM0 K "dict" zzs (tVar i)) tNil)) (kvs.map (·.2)):=fun F H O Q S q=>by
 obtain⟨e,h0,fp,xs,hp,dk⟩:=S.getM hs
 refine⟨.ref p,e,.inr (.inr (.inl ⟨rfl,.inl ⟨_,hp⟩⟩)),p,xs,rfl,rfl,hp,fun r hr=>?_⟩
 have hpr:p≠r:=fun z=>by rw[z,hr] at hp;cases hp
 refine⟨r,p,xs,rfl,zam,by rw[zav hpr];exact hp,fun l hl=>?_⟩
 have hlr:l≠r:=fun z=>by rw[z,zam] at hl;cases hl
 have hl0:H l=none:=by rw[zav hlr] at hl;exact hl
 exact q l _ F _ ((Ext.newO ((Ext.refl S.ext.fh).newO hr) hl)) hl0 (S.ext.fh.free hl0) zam dk.snds
noncomputable def zul:List V->Hp->VK->Prop:=fun xs H Q=>∃r a b c n,xs=[.ref r]/\H r=some (RngO r a b c)/\Zp1 a b c=true/\Zl9 a b c=((n:Nat):Int)/\n<=1048576 /\ ∀l,H l=none->Q (.ref l) (upd H l (.lst ((Zid n).map fun(i:Nat)=>.int (a+(i:Int)*c))))
theorem zoz{ta:TE}{n:Nat}(a:EvB K G Hz L ss ta (.int n))(hn:n<=1048576):EvO K G Hz L ss (tCB zul (za7 (yhe (za7 ta tNil)) tNil)) ((Zid n).map fun j:Nat=>.int j):=fun F H O Q S q =>
 a F H O _ S fun v F1 H1 e1 r1=>by
  rw[r1.of_int]
  refine⟨n,rfl,fun r hr=>⟨r,0,n,1,n,rfl,zam,?_,?_,hn,fun l hl=>?_⟩⟩
  .exact small_one (by decide) (by decide) (by lia) (by lia)
  .unfold Zl9
   rw[if_pos (by decide)]
   split <;> lia
  .have hlr:l≠r:=fun z=>by rw[z,zam] at hl;cases hl
   have hl0:H1 l=none:=by rw[zav hlr] at hl;exact hl
   refine q l _ F1 _ ((e1.newO hr).newO hl) (e1.hh.free hl0) (e1.fh.free hl0) zam ?_
   have e:((Zid n).map fun i:Nat=>V.int ((0:Int)+(i:Int)*1))=(Zid n).map fun i:Nat=>V.int (i:Int):=Zjf fun i _=>by rw[Zvi,Zm8]
   rw[e]
   have:=Reps.ints (K:=K) (H:=F1) (p:=l) ((Zid n).map fun i:Nat=>(i:Int))
   rw[Zja,Zja] at this
   exact this
theorem zry{tl:TE}{g:TG}{tb:TS}{α:Type}(enc:α->D)(xs:List α)(I:Nat->List Sl->Prop)(a:Ev K G Hz L ss tl (.lst (xs.map enc)))(h0:I 0 ss)
  (hs:∀L' k x ss,Same L L'->xs[k]? = some x->I k ss-> ∃ss',Tg K G Hz L' g (.tup [.int k,enc x]) ss ss' /\ ∀N,(∀ss,I (k+1) ss->Nx K G Hz L' N ss)->Go K G Hz L' { E with nx:=N,ct:=N,bk:=E.nx } ss' tb)
  (hd:∀ss,I xs.length ss->Nx K G Hz L E.nx ss):Go K G Hz L E ss (tFor (iEnL K (za7 tl tNil)) g tb):=fun F H O S =>
 a F H O _ S fun v F1 H1 e1 r1=>by
  obtain⟨p,vs,rfl,sq,rs⟩:=r1.of_lst
  refine⟨p,rfl,⟨vs,SqL.same e1.fh sq⟩,?_⟩
  refine⟨fun i m O' H'=>m=xs.length - i/\i<=xs.length/\At K G Hz F1 (I i) O' H',⟨_,rfl,Zjn _,ss,F1,(S.ext2 e1).raise,h0⟩,?_⟩
  rintro i m O' H' ⟨rfl,hi,ss1,F2,S2,h2⟩
  have rp:Rep K F2 (.lst (xs.map enc)) (.ref p):=r1.mono S2.fl
  obtain⟨ws,sq2,rs2⟩:=rp.itl S2.ext.fh
  have hlen:ws.length=xs.length:=by rw[<- rs2.length,Zia]
  by_cases hlt:i<xs.length
  .refine .inr ⟨⟨ws,ws[i]'(by lia),sq2,Zh9 _⟩,fun O'' H''=>At K G Hz F1 (I (i+1)) O'' H'',fun O'' H'' h=>⟨xs.length - (i+1),by lia,rfl,hlt,h⟩,fun x H'' y=>?_⟩
   obtain⟨T0,us,rfl,hf,rfl,y⟩:=y
   obtain⟨w,hx,rfl⟩:=y ws sq2
   obtain⟨dx,hdx,rx⟩:=rs2.get hx
   rw[Zie,Zh9 hlt] at hdx
   cases hdx
   obtain⟨ss',tg,go⟩:=hs F1 i _ ss1 (S.fl.trans e1.gf) (Zh9 hlt) h2
   have e3:Ext F2 H' (upd F2 T0 (.tup [.int i,w])) (upd H' T0 (.tup [.int i,w])):=(Ext.refl S2.ext.fh).newF hf
   have rt:Rep K (upd F2 T0 (.tup [.int i,w])) (.tup [.int i,enc xs[i]]) (.ref T0):=Rep.tupN (zam) (Reps.cons Rep.int (Reps.cons (rx.mono e3.gf) Reps.nil))
   exact tg _ _ O' _ _ (S2.ext2 e3) rt fun O3 S3=>go _ (fun ss h=>zvw h) _ _ O3 S3
  .have e:i=xs.length:=by lia
   subst e
   exact .inl ⟨⟨ws,sq2,hlen⟩,hd ss1 h2 F2 H' O' (S2.lower (S.fl.trans e1.gf))⟩
theorem zh9{F:Hp}:∀{ns:List Int} {vs:List V},Reps K F (ns.map D.int) vs->vs=ns.map V.int
 | [],vs,r=>by rw[Zk4,Reps] at r;exact r
 | n::ns,vs,r=>by
  rw[Zik,Reps] at r
  obtain⟨x,r',rfl,r1,r2⟩:=r
  rw[r1.of_int,zh9 r2];rfl
theorem yar{ta tb:TE}{ns:List Int}{k:Int}(a:EvL K G Hz L ss ta (ns.map D.int))(b:EvB K G Hz L ss tb (.int k))(hk:k∈ns):Ev K G Hz L ss (tBM K "list" (ziq K) ta (za7 tb tNil)) (.int (ns.idxOf k:Nat)):=fun F H O Q S q =>
 a F H O _ S fun p vs F1 H1 e1 sq r=>⟨.inl ⟨rfl,_,sq⟩,b F1 H1 O _ (S.ext2 e1) fun v F2 H2 e2 r2=>by
  rw[r2.of_int]
  have hv:vs=ns.map V.int:=by
   exact zh9 r
  subst hv
  exact⟨p,ns,k,rfl,rfl,SqL.same e2.hh sq,hk,q _ _ _ (e1.trans e2) Rep.int⟩⟩
end
end L2
namespace L2
open PySem PySem.Spec PyProof.Rows
noncomputable def Itz(K:Zh7)(a b:Addr):It :=
  ⟨fun i H=>∃xs ys x y,SqL K H a xs/\SqL K H b ys/\xs[i]? = some x/\ys[i]? = some y,
   fun i H x H'=>∃T0 vs,x= .ref T0/\H T0=none/\H'=upd H T0 (.tup vs) /\ ∀xs ys,SqL K H a xs->SqL K H b ys-> ∃u v,xs[i]? = some u/\ys[i]? = some v/\vs=[u,v],
   fun i H=>∃xs ys,SqL K H a xs/\SqL K H b ys/\min xs.length ys.length=i⟩
theorem ybp{P:Zjj}{w:Zkq}{K:Zh7}{elts:List Expr}{kk:Nat}{tp:Pos}(z TI TO i1 i2 a b:Addr)(D0:ZipApart z TI TO i1 i2 a b) :
  Turn P w K (.Tuple elts kk tp) (Itz K a b) [z,TI,TO,i1,i2] z (fun i h=>IsZip h z TI TO .none/\IsPair h TI (.ref i1) (.ref i2)/\(∃c d,IsPair h TO c d)/\h.IsListIter i1 a i/\h.IsListIter i2 b i) where
 mem:=by simp
 obj:=fun i h st c hc=>by
  obtain⟨s1,s2,⟨c1,d1,s3⟩,⟨o4,s4,_,e4⟩,⟨o5,s5,_,e5⟩⟩:=st
  simp only[Ziy,Zmj,or_false] at hc
  rcases hc with rfl | rfl | rfl | rfl | rfl
  .exact⟨_,s1,fun v q=>by cases q⟩
  .exact⟨_,s2,fun v q=>by cases q⟩
  .exact⟨_,s3,fun v q=>by cases q⟩
  .exact⟨o4,s4,fun v q=>by rw[e4] at q;cases q⟩
  .exact⟨o5,s5,fun v q=>by rw[e5] at q;cases q⟩
 keep:=fun i h h' st k=>by
  obtain⟨s1,s2,⟨c1,d1,s3⟩,s4,s5⟩:=st
  exact⟨k z (by simp) _ s1,k TI (by simp) _ s2,⟨c1,d1,k TO (by simp) _ s3⟩,s4.at fun o x=>k i1 (by simp) o x,s5.at fun o x=>k i2 (by simp) o x⟩
 item:=by
  intro X hP hw hK hc i pins s O H E I hf st hg
  subst hP hw hK
  obtain⟨xs,ys,x,y,hq,hr,hx,hy⟩:=hg
  obtain⟨its,rv,p,hz⟩:=I.list hq
  obtain⟨jts,rv2,p2,hz2⟩:=I.list hr
  obtain⟨u,hu,ru⟩:=rv.get hx
  obtain⟨u2,hu2,ru2⟩:=rv2.get hy
  have hil:i<its.length:=(Zif.mp hu).1
  have hil2:i<jts.length:=(Zif.mp hu2).1
  have W0:=Ztg (prog:=X.prog) (w:=X.w) (A:=X.A) (show X.A.handled=none from I.ok.hd hc) z TI TO i1 i2 a b D0 its.toArray jts.toArray
  obtain⟨s1,s2,s3,s4,s5⟩:=st
  refine W0.item i s _ _ (by simp;lia) ⟨s1,s2,s3,s4,s5,p.isList,p2.isList⟩ fun T0 vals h1 tk hp hle ht mid kk=>?_
  obtain⟨v,v2,hv,hv2,rfl⟩:=hp
  have hv:its[i]? = some v:=by simpa using hv
  have hv2:jts[i]? = some v2:=by simpa using hv2
  rw[hu] at hv;cases hv
  rw[hu2] at hv2;cases hv2
  have fresh:H T0=none:=I.hok.fresh hle
  have hfw:∀c∈[z,TO,i1,i2],FpOk X pins H c:=fun c hc=>hf c (by simp only[Ziy,Zmj,or_false] at hc ⊢;rcases hc with h | h | h | h <;> simp[h])
  have I1:Inv X pins O (upd H T0 (.tup [x,y])) { s with heap:=h1,toks:=tk }:=I.turnsT (wr:=[z,TO,i1,i2]) hfw kk hle ht (.cons ru (.cons ru2 .nil)) (by rw[Ziv];simp)
  refine⟨.ref T0,rfl,W0.go elts _ tp i T0 _ _ _ mid fun h2 st2 k2=>?_⟩
  have hlt:∀c∈[z,TI,TO,i1,i2],c≠T0:=fun c hc q=>by
   have old:∃o,s.heap.get? c=some o:=by
    obtain⟨c1,d1,s3⟩:=s3
    obtain⟨o4,s4,_⟩:=s4
    obtain⟨o5,s5,_⟩:=s5
    simp only[Ziy,Zmj,or_false] at hc
    rcases hc with rfl | rfl | rfl | rfl | rfl
    .exact⟨_,s1⟩
    .exact⟨_,s2⟩
    .exact⟨_,s3⟩
    .exact⟨_,s4⟩
    .exact⟨_,s5⟩
   obtain⟨o,ho⟩:=old
   exact absurd (Zi5 (Ziw ho) (q ▸ hle)) (Zjh _)
  have hf1:∀c∈[z,TO,i1,i2],FpOk X pins (upd H T0 (.tup [x,y])) c:=fun c hc=>⟨by rw[zav (hlt c (by simp only[Ziy,Zmj,or_false] at hc ⊢;rcases hc with h | h | h | h <;> simp[h]))];exact(hfw c hc).1,(hfw c hc).2⟩
  exact⟨.ref T0,_,I1.turns (t':=tk) hf1 k2,rfl,⟨T0,_,rfl,fresh,rfl,fun ys1 ys2 g1 g2=>⟨x,y,by rw[I.list_inj g1 hq];exact hx,by rw[I.list_inj g2 hr];exact hy,rfl⟩⟩,⟨st2.1,st2.2.1,st2.2.2.1,st2.2.2.2.1,st2.2.2.2.2.1⟩,fun c hc=>by rw[zav (hlt c hc)];exact(hf c hc).1⟩
 done:=by
  intro X hP hw hK hc i pins s O H E I hf st hg
  subst hP hw hK
  obtain⟨xs,ys,hq,hr,hx⟩:=hg
  obtain⟨its,rv,p,hz⟩:=I.list hq
  obtain⟨jts,rv2,p2,hz2⟩:=I.list hr
  have hl:=rv.length
  have hl2:=rv2.length
  have W0:=Ztg (prog:=X.prog) (w:=X.w) (A:=X.A) (show X.A.handled=none from I.ok.hd hc) z TI TO i1 i2 a b D0 its.toArray jts.toArray
  have hs:min its.toArray.size jts.toArray.size=i:=by simp;lia
  rw[hs] at W0
  obtain⟨s1,s2,s3,s4,s5⟩:=st
  have hfw:∀c∈[z,TO,i1,i2],FpOk X pins H c:=fun c hc=>hf c (by simp only[Ziy,Zmj,or_false] at hc ⊢;rcases hc with h | h | h | h <;> simp[h])
  exact W0.done s _ _ ⟨s1,s2,s3,s4,s5,p.isList,p2.isList⟩ fun h1 tk kk=>⟨rfl,I.turns (wr:=[z,TO,i1,i2]) hfw kk⟩
 self:=fun A i s Q E st h=>Zul st.1 h
section
variable{X:Cx}{e:Expr}{ta:TA}{elts:List Expr}{kk:Nat}{tp p pos:Pos}
noncomputable def iZip(K:Zh7)(ta:TA):TI:=fun O H R=>ta O H fun vs H1=>∃a b,vs=[.ref a,.ref b]/\(∃xs,SqL K H1 a xs)/\(∃ys,SqL K H1 b ys)/\R (Itz K a b) H1
theorem zny{e2:Expr}(hg:Gl X "zip")(hm:X.mg "zip" = none)(hA:PA X [e,e2] ta)(hs:Zj2 [e,e2] X.env=(false,eval e X.env)::Zj2 [e2] X.env:=by rfl)(hp:(Zov pos (Zj2 [e2] X.env)).any (·.1)=false:=by rfl) :
  PI X (.Tuple elts kk tp) (.Call (.Name "zip" p) [e,e2] [] pos) (iZip X.K ta):=by
 intro pins s O H R I h
 refine Call_ (zjk I hg hm Zsx (Zkn (thn (hA pos pins s O H _ I h) fun us s1 hz9=>?_) hs hp))
 obtain⟨vs,H1,I1,r1,q1⟩:=hz9
 obtain⟨a,b,rfl,⟨xs,hq⟩,⟨ys,hr⟩,q⟩:=q1
 obtain⟨u,u2,rfl,ru,ru2⟩:=zq2 r1
 cases ru
 cases ru2
 obtain⟨its,rv,p,hz⟩:=I1.list hq
 obtain⟨jts,rv2,p2,hz2⟩:=I1.list hr
 refine call_zip_2 p.isList p2.isList fun h1 hzp hTI hTO hi1 hi2 hsz hk=>?_
 have I2:Inv X pins O H1 { s1 with heap:=h1 }:=I1.kept (t':=s1.toks) hk
 refine Zul hzp ?_
 have hlt:a<s1.heap.objs.size:=by obtain⟨o,ho,_⟩:=p.isList;exact Ziw ho
 have hlt2:b<s1.heap.objs.size:=by obtain⟨o,ho,_⟩:=p2.isList;exact Ziw ho
 have ap:=zipApart_new hlt hlt2
 refine⟨s1.heap.objs.size+4,[s1.heap.objs.size+4,s1.heap.objs.size+2,s1.heap.objs.size+3,s1.heap.objs.size,s1.heap.objs.size+1],_,_,H1,rfl,I2,ybp _ _ _ _ _ a b ap,⟨hzp,hTI,⟨_,_,hTO⟩,hi1,hi2⟩,fun c hc=>?_,q⟩
 have hcs:s1.heap.objs.size<=c:=by
  simp only[Ziy,Zmj,or_false] at hc
  rcases hc with rfl | rfl | rfl | rfl | rfl <;> first | exact Zio _ | exact Nat.le_add_right _ _
 exact I1.fpOk hcs (I1.hok.fresh hcs)
end
open AutoSeq1 (wpAny_loadPart')
end L2
namespace L2
open PySem PySem.Spec PyProof.Rows PySem.Builtin PySem.Builtin.Str
section
variable{K:Zh7}{G Hz L:Hp}{ss:List Sl}{ta tb tc t t1 t2 te:TE}{ds:List D}{E:Ends}
theorem ygj{tl tm:TE}{g:TG}{tb:TS}{α β:Type}(enc:α->D)(enc2:β->D)(xs:List α)(ys:List β)(I:Nat->List Sl->Prop)(a:Ev K G Hz L ss tl (.lst (xs.map enc)))(b:Ev K G Hz L ss tm (.lst (ys.map enc2)))(hxy:xs.length=ys.length)(h0:I 0 ss)
  (hs:∀L' k x y ss,Same L L'->xs[k]? = some x->ys[k]? = some y->I k ss-> ∃ss',Tg K G Hz L' g (.tup [enc x,enc2 y]) ss ss' /\ ∀N,(∀ss,I (k+1) ss->Nx K G Hz L' N ss)->Go K G Hz L' { E with nx:=N,ct:=N,bk:=E.nx } ss' tb)
  (hd:∀ss,I xs.length ss->Nx K G Hz L E.nx ss):Go K G Hz L E ss (tFor (iZip K (za7 tl (za7 tm tNil))) g tb):=fun F H O S =>
 a F H O _ S fun v F0 H0 e0 r0=>b F0 H0 O _ (S.ext2 e0) fun v2 F1 H1 e1 r2=>by
  have r1:=r0.mono e1.gf
  obtain⟨p,vs,rfl,sq,rs⟩:=r1.of_lst
  obtain⟨p2,vs2,rfl,sqb,rsb⟩:=r2.of_lst
  refine⟨p,p2,rfl,⟨vs,SqL.same e1.fh sq⟩,⟨vs2,SqL.same e1.fh sqb⟩,?_⟩
  have S1:=(S.ext2 e0).ext2 e1
  have hLF:Same L F1:=(S.fl.trans e0.gf).trans e1.gf
  refine⟨fun i m O' H'=>m=xs.length - i/\i<=xs.length/\At K G Hz F1 (I i) O' H',⟨_,rfl,Zjn _,ss,F1,S1.raise,h0⟩,?_⟩
  rintro i m O' H' ⟨rfl,hi,ss1,F2,S2,h2⟩
  have rp:Rep K F2 (.lst (xs.map enc)) (.ref p):=r1.mono S2.fl
  have rp2:Rep K F2 (.lst (ys.map enc2)) (.ref p2):=r2.mono S2.fl
  obtain⟨ws,sq2,rs2⟩:=rp.itl S2.ext.fh
  obtain⟨ws2,sq22,rs22⟩:=rp2.itl S2.ext.fh
  have hlen:ws.length=xs.length:=by rw[<- rs2.length,Zia]
  have hlen2:ws2.length=ys.length:=by rw[<- rs22.length,Zia]
  by_cases hlt:i<xs.length
  .refine .inr ⟨⟨ws,ws2,ws[i]'(by lia),ws2[i]'(by lia),sq2,sq22,Zh9 _,Zh9 _⟩,fun O'' H''=>At K G Hz F1 (I (i+1)) O'' H'',fun O'' H'' h=>⟨xs.length - (i+1),by lia,rfl,hlt,h⟩,fun x H'' y=>?_⟩
   obtain⟨T0,us,rfl,hf,rfl,y⟩:=y
   obtain⟨w,w2,hx,hx2,rfl⟩:=y ws ws2 sq2 sq22
   obtain⟨dx,hdx,rx⟩:=rs2.get hx
   obtain⟨dx2,hdx2,rx2⟩:=rs22.get hx2
   rw[Zie,Zh9 hlt] at hdx
   rw[Zie,Zh9 (by lia)] at hdx2
   cases hdx
   cases hdx2
   obtain⟨ss',tg,go⟩:=hs F1 i _ _ ss1 hLF (Zh9 hlt) (Zh9 (by lia)) h2
   have e3:Ext F2 H' (upd F2 T0 (.tup [w,w2])) (upd H' T0 (.tup [w,w2])):=(Ext.refl S2.ext.fh).newF hf
   have rt:Rep K (upd F2 T0 (.tup [w,w2])) (.tup [enc xs[i],enc2 (ys[i]'(by lia))]) (.ref T0):=Rep.tupN (zam) (Reps.cons (rx.mono e3.gf) (Reps.cons (rx2.mono e3.gf) Reps.nil))
   exact tg _ _ O' _ _ (S2.ext2 e3) rt fun O3 S3=>go _ (fun ss h=>zvw h) _ _ O3 S3
  .have e:i=xs.length:=by lia
   subst e
   exact .inl ⟨⟨ws,ws2,sq2,sq22,by lia⟩,hd ss1 h2 F2 H' O' (S2.lower hLF)⟩
end
noncomputable def SpGO{α:Type}(K:Zh7)(pre:α->List D->Prop)(res:α->List D):Sp:=fun vs H Q _=>∃(G:Hp) (ds:List D) (x:α),Same G H/\Reps K G ds vs/\pre x ds /\
 ∀p ws G' H',Ext G H G' H'->H p=none->G' p=none->H' p=some (.lst ws)->Reps K G' (res x) ws->Q (.ref p) H'
section
variable{α:Type}{K:Zh7}{H:Hp}{vs:List V}{Q:VK}{X:XK}{N:List Str}{t:TS}{pre:α->List D->Prop}{res:α->List D}
theorem yev(h:SpGO K pre res vs H Q X)(hN:vs.length<=N.length)(body:∀G ds x,pre x ds->RtO K G H Q (res x)->Go K G H G { nx:=fun _ H'=>Q .non H',rt:=Q } (slots N.length ds) t):t { nx:=fun _ H'=>Q .non H',rt:=Q } (zfe N vs) H:=by
 obtain⟨G,ds,x,sm,r,hp,q⟩:=h
 exact body G ds x hp (fun p ws F H' e h1 h2 h3 h4=>q p ws F H' e h1 h2 h3 h4) G H _ (zce sm r hN)
theorem zuf{n:Nat}(hpre:∀x ds,pre x ds->ds.length=n)(h:SpGO K pre res vs H Q X):vs.length=n:=by
 obtain⟨G,ds,x,sm,r,hp,q⟩:=h
 rw[<- r.length];exact hpre x ds hp
end
section
variable{α:Type}{K:Zh7}{G Hz L:Hp}{ss:List Sl}{t:TA}{ds:List D}{E:XK}{pre:α->List D->Prop}{res:α->List D}
theorem zhd(x:α)(a:EvAF K G Hz L ss t ds)(hp:pre x ds):EvO K G Hz L ss (ze7 (SpGO K pre res) [] E t) (res x):=fun F H O Q S q =>
 a F H O _ S fun vs F1 H1 e1 r1=>⟨F1,ds,x,e1.fh,by rw[Zji];exact r1,hp,fun p ws G' H' e2 h1 h2 h3 r=>q _ _ _ _ (e1.trans e2) (e1.hh.free h1) h2 h3 r⟩
end
end L2
namespace L2
open PySem PySem.Spec PyProof.Rows
structure FX(K:Zh7)(mg:Str->Option Value)(n:Str)(s:Stmt)(ps:List Str)(f:Addr)(d:Zk9):Prop where
 F:Fun K n n s f d
 B:zvq K d ps []
 M:mg n=some (.ref f)
noncomputable def Bd(n:Str)(s:Stmt)(ps:List Str):Prop:=∀(kV doc pm:Value) (an:Option Addr) (cdv ct:Value) (us:List Value),us.length=ps.length->Zob (Zkv n n (zez s) (zb4 s) (zah s) .none kV doc pm an cdv ct) ⟨us,[]⟩=pure (ps.zip us)
theorem fx_mk{K:Zh7}{h:Heap}{mg:Str->Option Value}{n:Str}{s:Stmt}{ps:List Str}{g:Addr}{oc kV doc pm cdv ct:Value}{od an:Option Addr}{osl:Array (Option Value)}(X:K.In h)(G:h.Ns Zk6 mg)(b:Bd n s ps)(a:PySem.W.nsIn K Zk6 n=some (some (.ref g)))
  (l:K.lookup g=some ⟨oc,od,.func (Zkv n n (zez s) (zb4 s) (zah s) .none kV doc pm an cdv ct),osl⟩) (c:Zoj K cdv n=true) (k:Zl7 K (.ref g)=true):FX K mg n s ps g (Zkv n n (zez s) (zb4 s) (zah s) .none kV doc pm an cdv ct) :=
 ⟨ycp l c k,(ycp l c k).binds b,PySem.W.mg_of X G a⟩
theorem FX.lk{K:Zh7}{mg:Str->Option Value}{n:Str}{s:Stmt}{ps:List Str}{f:Addr}{d:Zk9}(z:FX K mg n s ps f d):∃g oc od osl,mg n=some (.ref g)/\K.lookup g=some ⟨oc,od,.func d,osl⟩ :=
 let ⟨oc,od,_,_,_,_,_,_,osl,_,l,_⟩:=z.F.ex;⟨f,oc,od,osl,z.M,l⟩
theorem FX.bt{K:Zh7}{mg:Str->Option Value}{n x:Str}{s:Stmt}{f:Addr}{d:Zk9}(b:Bd n s [x])(z:FX K mg n s [x] f d)(t:Zih)(v:Value):Zqp t d ⟨[v],[]⟩ [(x,v)]:=by
 obtain⟨oc,od,kV,dc,pm,an,cdv,ct,osl,rfl,l,_⟩:=z.F.ex
 exact .of_eq (b kV dc pm an cdv ct [v] rfl)
theorem zbo{N P:List Str}{sc:Scope}(h:(decide (sc.kind= .function)&&(!sc.isCoroutine&&(!sc.isGenerator&&(decide N.Nodup&&(decide (N.take P.length=P)&&(P.all (fun x=>decide (sc.names.lookup x=some .local\/sc.names.lookup x=some .cell))&&sc.names.all fun y=>decide (y.2 ≠ .free)))))))=true):FnScope N P sc:=by
 simp only[Ziq,decide_eq_true_eq,Zje,Zi7] at h
 exact⟨h.1,h.2.1,h.2.2.1,h.2.2.2.1,h.2.2.2.2.1,h.2.2.2.2.2.1,h.2.2.2.2.2.2⟩
section
variable{X:Cx}{pos:Pos}{i:Nat}{x:Str}
theorem pgn(i:Nat)(hN:X.N.Nodup)(hi:X.N[i]? = some x:=by rfl)(hx:Loc X.env.scope x:=by exact Zld rfl)(hf:X.fn x=true\/X.env.scope.names.lookup x=some .local:=by first | exact .inl rfl | exact .inr rfl | assumption):PG X (.Name x pos) (zfw i):=zbj hN hi hx hf
theorem psn(i:Nat){e:Expr}{te:TE}{pos':Pos}(hN:X.N.Nodup)(he:PE X e te)(hi:X.N[i]? = some x:=by rfl)(hx:Loc X.env.scope x:=by exact Zld rfl)(hs:Zrg e (some (.Name x pos')) pos.line X.env=pure false:=by rfl)(hf:X.fn x=true\/X.env.scope.names.lookup x=some .local:=by first | exact .inl rfl | exact .inr rfl | assumption):PS X (.Assign [.Name x pos'] e pos) (tAsg te (zfw i)):=zwl hN hi hx he hs hf
theorem pcX{k kk:Nat}{f:Addr}{fd:Zk9}{ps:List Str}{sp:Sp}{e:Expr}{es:List Expr}{t:TA}{p:Pos}{st:Stmt}(F:FnOk X.prog X.w X.K X.mg X.base CX0 k f fd ps sp)(hr:Room kk X.A)(z:FX X.K X.mg x st ps f fd)(ha:PA X (e::es) t)(hle:k<=kk:=by decide)(hg:Gl X x:=by rfl)(hdb:(x == ("__debug__" : Str))=false:=by decide)(he:Zj2 (e::es) X.env=(false,eval e X.env)::Zj2 es X.env:=by rfl)(hpl:(Zov pos (Zj2 es X.env)).any (·.1)=false:=by rfl):PE X (.Call (.Name x p) (e::es) [] pos) (ze7 sp [] E0 t) :=
 yey F (hr.mono hle) hg z.M z.F.kp z.B .nil yi1 ha hdb he hpl
end
section
variable{P:Zjj}{w:Zkq}{K:Zh7}{mg:Str->Option Value}{base:Heap}{x qual:Str}{st:Stmt}{f:Addr}{fd:Zk9}{N ps:List Str}{k:Nat}
theorem zpm{sc:Scope}(S:FnScope N ps sc):ps.length<=N.length:=by
 have:=congrArg Zp7 S.pre
 rw[Zjc] at this
 omega
theorem okD{pre:List D->Prop}{res:List D->D}(F:Fun K x qual st f fd)(S:FnScope N ps (zah st))(hl:∀ds,pre ds->ds.length=ps.length)
  (hb:∀(cdv:Value) (A:Zjs) (outer:List Env) (s:Zih) (H:Hp) (Q:VK) (E:XK),Room k (A.deeper (Znh qual (zah st) s.heap.objs.size f cdv))-> ∃t,PSs (cxOf CX0 P w K mg base N qual (zah st) f cdv A outer s H E).nox (zb4 st) t /\ ∀G ds,pre ds->RtD K G H Q (res ds)->Go K G H G { nx:=fun _ H'=>Q .non H',rt:=Q } (slots N.length ds) t):FnOk P w K mg base CX0 (k+1) f fd ps (SpD K pre res) :=
 F.ok S (fun vs H Q E h=>zyk hl h) fun cdv A outer s H vs Q E hr h=>let ⟨t,p,b⟩:=hb cdv A outer s H Q E hr;⟨t,p,yim h (by rw[zyk hl h];exact zpm S) b⟩
theorem okO{pre:List D->Prop}{res:List D->List D}(F:Fun K x qual st f fd)(S:FnScope N ps (zah st))(hl:∀ds,pre ds->ds.length=ps.length)
  (hb:∀(cdv:Value) (A:Zjs) (outer:List Env) (s:Zih) (H:Hp) (Q:VK) (E:XK),Room k (A.deeper (Znh qual (zah st) s.heap.objs.size f cdv))-> ∃t,PSs (cxOf CX0 P w K mg base N qual (zah st) f cdv A outer s H E).nox (zb4 st) t /\ ∀G ds,pre ds->RtO K G H Q (res ds)->Go K G H G { nx:=fun _ H'=>Q .non H',rt:=Q } (slots N.length ds) t):FnOk P w K mg base CX0 (k+1) f fd ps (SpO K pre res) :=
 F.ok S (fun vs H Q E h=>zx3 hl h) fun cdv A outer s H vs Q E hr h=>let ⟨t,p,b⟩:=hb cdv A outer s H Q E hr;⟨t,p,ygv h (by rw[zx3 hl h];exact zpm S) b⟩
theorem okR{pre:List D->Prop}{R:List D->List D->Prop}(F:Fun K x qual st f fd)(S:FnScope N ps (zah st))(hl:∀ds,pre ds->ds.length=ps.length)
  (hb:∀(cdv:Value) (A:Zjs) (outer:List Env) (s:Zih) (H:Hp) (Q:VK) (E:XK),Room k (A.deeper (Znh qual (zah st) s.heap.objs.size f cdv))-> ∃t,PSs (cxOf CX0 P w K mg base N qual (zah st) f cdv A outer s H E).nox (zb4 st) t /\ ∀G ds,pre ds->(∀rs,R ds rs->RtO K G H Q rs)->Go K G H G { nx:=fun _ H'=>Q .non H',rt:=Q } (slots N.length ds) t):FnOk P w K mg base CX0 (k+1) f fd ps (SpR K pre R) :=
 F.ok S (fun vs H Q E h=>zxd hl h) fun cdv A outer s H vs Q E hr h=>let ⟨t,p,b⟩:=hb cdv A outer s H Q E hr;⟨t,p,yho h (by rw[zxd hl h];exact zpm S) b⟩
theorem okRD{pre:List D->Prop}{R:List D->D->Prop}(F:Fun K x qual st f fd)(S:FnScope N ps (zah st))(hl:∀ds,pre ds->ds.length=ps.length)
  (hb:∀(cdv:Value) (A:Zjs) (outer:List Env) (s:Zih) (H:Hp) (Q:VK) (E:XK),Room k (A.deeper (Znh qual (zah st) s.heap.objs.size f cdv))-> ∃t,PSs (cxOf CX0 P w K mg base N qual (zah st) f cdv A outer s H E).nox (zb4 st) t /\ ∀G ds,pre ds->(∀r,R ds r->RtD K G H Q r)->Go K G H G { nx:=fun _ H'=>Q .non H',rt:=Q } (slots N.length ds) t):FnOk P w K mg base CX0 (k+1) f fd ps (SpRD K pre R) :=
 F.ok S (fun vs H Q E h=>zue hl h) fun cdv A outer s H vs Q E hr h=>let ⟨t,p,b⟩:=hb cdv A outer s H Q E hr;⟨t,p,ye3 h (by rw[zue hl h];exact zpm S) b⟩
theorem okG{α:Type}{pre:α->List D->Prop}{res:α->D}(F:Fun K x qual st f fd)(S:FnScope N ps (zah st))(hl:∀q ds,pre q ds->ds.length=ps.length)
  (hb:∀(cdv:Value) (A:Zjs) (outer:List Env) (s:Zih) (H:Hp) (Q:VK) (E:XK),Room k (A.deeper (Znh qual (zah st) s.heap.objs.size f cdv))-> ∃t,PSs (cxOf CX0 P w K mg base N qual (zah st) f cdv A outer s H E).nox (zb4 st) t /\ ∀G ds q,pre q ds->RtD K G H Q (res q)->Go K G H G { nx:=fun _ H'=>Q .non H',rt:=Q } (slots N.length ds) t):FnOk P w K mg base CX0 (k+1) f fd ps (SpG K pre res) :=
 F.ok S (fun vs H Q E h=>zyq hl h) fun cdv A outer s H vs Q E hr h=>let ⟨t,p,b⟩:=hb cdv A outer s H Q E hr;⟨t,p,yia h (by rw[zyq hl h];exact zpm S) b⟩
theorem okGO{α:Type}{pre:α->List D->Prop}{res:α->List D}(F:Fun K x qual st f fd)(S:FnScope N ps (zah st))(hl:∀q ds,pre q ds->ds.length=ps.length)
  (hb:∀(cdv:Value) (A:Zjs) (outer:List Env) (s:Zih) (H:Hp) (Q:VK) (E:XK),Room k (A.deeper (Znh qual (zah st) s.heap.objs.size f cdv))-> ∃t,PSs (cxOf CX0 P w K mg base N qual (zah st) f cdv A outer s H E).nox (zb4 st) t /\ ∀G ds q,pre q ds->RtO K G H Q (res q)->Go K G H G { nx:=fun _ H'=>Q .non H',rt:=Q } (slots N.length ds) t):FnOk P w K mg base CX0 (k+1) f fd ps (SpGO K pre res) :=
 F.ok S (fun vs H Q E h=>zuf hl h) fun cdv A outer s H vs Q E hr h=>let ⟨t,p,b⟩:=hb cdv A outer s H Q E hr;⟨t,p,yev h (by rw[zuf hl h];exact zpm S) b⟩
theorem okPT{T:Addr}{pos:Pos}{lq:Str}{pre:List D->Prop}{res:List D->Int×List D}(F:Fun K x qual st f fd)(S:FnScope N ps (zah st))(hl:∀ds,pre ds->ds.length=ps.length)
  (hb:∀(cdv:Value) (A:Zjs) (outer:List Env) (s:Zih) (H:Hp) (Q:VK) (E:XK),Room k (A.deeper (Znh qual (zah st) s.heap.objs.size f cdv))-> ∃t,PSs (cxOf CX0 P w K mg base N qual (zah st) f cdv A outer s H E).nox (zb4 st) t /\ ∀G ds,HasT G T pos lq->pre ds->RtPO K G H Q (res ds).1 (res ds).2->Go K G H G { nx:=fun _ H'=>Q .non H',rt:=Q } (slots N.length ds) t):FnOk P w K mg base CX0 (k+1) f fd ps (SpPT K T pos lq pre res) :=
 F.ok S (fun vs H Q E h=>ztx hl h) fun cdv A outer s H vs Q E hr h=>let ⟨t,p,b⟩:=hb cdv A outer s H Q E hr;⟨t,p,yd7 h (by rw[ztx hl h];exact zpm S) b⟩
end
mutual
noncomputable def RepW(F H:Hp):D->V->List Addr->Prop
 | .int i,v,as=>v= .int i/\as=[]
 | .str l,v,as=>v= .str (T l)/\(∀c∈l,c<128)/\as=[]
 | .lst ds,v,as=>∃p xs bs,v= .ref p/\as=p::bs/\H p=some (.lst xs)/\zaz F H ds xs bs
 | .tup ds,v,as=>∃p xs,v= .ref p/\F p=some (.tup xs)/\zaz F H ds xs as
 | _,_,_=>False
noncomputable def zaz(F H:Hp):List D->List V->List Addr->Prop
 | [],xs,as=>xs=[]/\as=[]
 | d::ds,xs,as=>∃x r a b,xs=x::r/\as=a++b/\RepW F H d x a/\zaz F H ds r b
end
section
variable{K:Zh7}{F H F' H':Hp}
mutual
theorem RepW.mono(s:Same F F'):∀{d:D} {v:V} {as:List Addr},(∀a∈as,H' a=H a)->RepW F H d v as->RepW F' H' d v as
 | .int _,_,_,_,h=>by rw[RepW] at h ⊢;exact h
 | .str _,_,_,_,h=>by rw[RepW] at h ⊢;exact h
 | .lst ds,_,_,k,h=>by
  rw[RepW] at h ⊢
  obtain⟨p,xs,bs,e,ea,hp,r⟩:=h
  subst ea
  exact⟨p,xs,bs,e,rfl,by rw[k p Zil];exact hp,zaz.mono s (fun a ha=>k a (Zij _ ha)) r⟩
 | .tup ds,_,_,k,h=>by
  rw[RepW] at h ⊢
  obtain⟨p,xs,e,hp,r⟩:=h
  exact⟨p,xs,e,s _ _ hp,zaz.mono s k r⟩
 | .non,_,_,_,h=>by simp[RepW] at h
 | .bl _,_,_,_,h=>by simp[RepW] at h
 | .dct _ _,_,_,_,h=>by simp[RepW] at h
 | .dctT _ _,_,_,_,h=>by simp[RepW] at h
 | .ins _ _ _,_,_,_,h=>by simp[RepW] at h
theorem zaz.mono(s:Same F F'):∀{ds:List D} {vs:List V} {as:List Addr},(∀a∈as,H' a=H a)->zaz F H ds vs as->zaz F' H' ds vs as
 | [],_,_,_,h=>by rw[zaz] at h ⊢;exact h
 | d::ds,_,_,k,h=>by
  rw[zaz] at h ⊢
  obtain⟨x,r,a,b,e,ea,h1,h2⟩:=h
  subst ea
  exact⟨x,r,a,b,e,rfl,RepW.mono s (fun c hc=>k c (Ziz _ hc)) h1,zaz.mono s (fun c hc=>k c (Zig _ hc)) h2⟩
end
mutual
theorem RepW.rep(s:Same F H):∀{d:D} {v:V} {as:List Addr},RepW F H d v as->Rep K H d v
 | .int _,_,_,h=>by rw[RepW] at h;rw[h.1];exact Rep.int
 | .str _,_,_,h=>by rw[RepW] at h;rw[h.1];exact Rep.str h.2.1
 | .lst ds,_,_,h=>by
  rw[RepW] at h
  obtain⟨p,xs,bs,e,ea,hp,r⟩:=h
  rw[e];exact Rep.lst (SqL.of hp) (zaz.rep s r)
 | .tup ds,_,_,h=>by
  rw[RepW] at h
  obtain⟨p,xs,e,hp,r⟩:=h
  rw[e];exact Rep.tupN (s _ _ hp) (zaz.rep s r)
 | .non,_,_,h=>by simp[RepW] at h
 | .bl _,_,_,h=>by simp[RepW] at h
 | .dct _ _,_,_,h=>by simp[RepW] at h
 | .dctT _ _,_,_,h=>by simp[RepW] at h
 | .ins _ _ _,_,_,h=>by simp[RepW] at h
theorem zaz.rep(s:Same F H):∀{ds:List D} {vs:List V} {as:List Addr},zaz F H ds vs as->Reps K H ds vs
 | [],_,_,h=>by rw[zaz] at h;rw[h.1];exact Reps.nil
 | d::ds,_,_,h=>by
  rw[zaz] at h
  obtain⟨x,r,a,b,e,ea,h1,h2⟩:=h
  rw[e];exact Reps.cons (RepW.rep s h1) (zaz.rep s h2)
end
mutual
theorem RepW.live:∀{d:D} {v:V} {as:List Addr},RepW F H d v as-> ∀a∈as,∃xs,H a=some (.lst xs)
 | .int _,_,_,h=>by rw[RepW] at h;rw[h.2];simp
 | .str _,_,_,h=>by rw[RepW] at h;rw[h.2.2];simp
 | .lst ds,_,_,h=>by
  rw[RepW] at h
  obtain⟨p,xs,bs,e,rfl,hp,r⟩:=h
  intro a ha
  rcases Ziy.mp ha with rfl | z
  .exact⟨xs,hp⟩
  .exact zaz.live r a z
 | .tup ds,_,_,h=>by
  rw[RepW] at h
  obtain⟨p,xs,e,hp,r⟩:=h
  exact zaz.live r
 | .non,_,_,h=>by simp[RepW] at h
 | .bl _,_,_,h=>by simp[RepW] at h
 | .dct _ _,_,_,h=>by simp[RepW] at h
 | .dctT _ _,_,_,h=>by simp[RepW] at h
 | .ins _ _ _,_,_,h=>by simp[RepW] at h
theorem zaz.live:∀{ds:List D} {vs:List V} {as:List Addr},zaz F H ds vs as-> ∀a∈as,∃xs,H a=some (.lst xs)
 | [],_,_,h=>by rw[zaz] at h;rw[h.2];simp
 | d::ds,_,_,h=>by
  rw[zaz] at h
  obtain⟨x,r,a,b,e,rfl,h1,h2⟩:=h
  intro c hc
  rcases Zin.mp hc with z | z
  .exact RepW.live h1 c z
  .exact zaz.live h2 c z
end
theorem zaz.length:∀{ds:List D} {vs:List V} {as:List Addr},zaz F H ds vs as->ds.length=vs.length
 | [],_,_,h=>by rw[zaz] at h;rw[h.1];rfl
 | d::ds,_,_,h=>by
  rw[zaz] at h
  obtain⟨x,r,a,b,e,_,_,h2⟩:=h
  rw[e];simp[h2.length]
theorem zaz.snoc{d:D}{v:V}{as2:List Addr}(h2:RepW F H d v as2):∀{ds:List D} {vs:List V} {as:List Addr},zaz F H ds vs as->zaz F H (ds++[d]) (vs++[v]) (as++as2)
 | [],_,_,h=>by
  rw[zaz] at h
  rw[h.1,h.2]
  show zaz F H (d::[]) _ _
  rw[zaz]
  exact⟨v,[],as2,[],rfl,by simp,h2,by rw[zaz];exact⟨rfl,rfl⟩⟩
 | e::ds,_,_,h=>by
  rw[zaz] at h
  obtain⟨x,r,a,b,rfl,rfl,h1,h3⟩:=h
  show zaz F H (e::(ds++[d])) _ _
  rw[zaz]
  exact⟨x,r++[v],a,b++as2,rfl,by simp,h1,h3.snoc h2⟩
theorem ydn:∀{ns:List Int} {vs:List V},Reps K F (ns.map D.int) vs->zaz F' H' (ns.map D.int) vs []
 | [],_,h=>by rw[Zk4,Reps] at h;rw[h,Zk4,zaz];exact⟨rfl,rfl⟩
 | n::ns,_,h=>by
  rw[Zik,Reps] at h
  obtain⟨x,r,rfl,h1,h2⟩:=h
  rw[Zik,zaz]
  exact⟨x,r,[],[],rfl,rfl,by rw[RepW];exact⟨h1.of_int,rfl⟩,ydn h2⟩
end
noncomputable def osl(v:V)(as:List Addr)(d:D):Sl:=.g v as fun F H=>RepW F H d v as
theorem zus{v:V}{as:List Addr}{d:D}:Stab as fun F H=>RepW F H d v as:=fun _ _ _ _ s k h=>h.mono s k
noncomputable def EvW(K:Zh7)(G Hz L:Hp)(ss:List Sl)(os:List Addr)(t:TE)(d:D):Prop:=∀F H O Q,Sat K G Hz L F H O ss->(∀v as F' H',Ext F H F' H'->RepW F' H' d v as->as.Nodup->(∀a∈as,F' a=none/\(H a=none\/a∈os))->Q v H')->t O H Q
noncomputable def EvWs(K:Zh7)(G Hz L:Hp)(ss:List Sl)(os:List Addr)(t:TA)(ds:List D):Prop:=∀F H O (Q:List V->Hp->Prop),Sat K G Hz L F H O ss->(∀vs as F' H',Ext F H F' H'->zaz F' H' ds vs as->as.Nodup->(∀a∈as,F' a=none/\(H a=none\/a∈os))->Q vs H')->t O H Q
noncomputable def RtW(K:Zh7)(G Hz:Hp)(rt:VK)(d:D):Prop:=∀v as F H,Ext G Hz F H->RepW F H d v as->as.Nodup->(∀a∈as,Hz a=none/\F a=none)->rt v H
noncomputable def SpW{α:Type}(K:Zh7)(pre:α->List D->Prop)(res:α->D):Sp:=fun vs H Q _=>∃(G:Hp) (ds:List D) (x:α),Same G H/\Reps K G ds vs/\pre x ds/\RtW K G H Q (res x)
noncomputable def SpWT(K:Zh7)(T:Addr)(pos:Pos)(q:Str)(pre:List D->Prop)(res:List D->D):Sp:=fun vs H Q _=>∃G ds,Same G H/\HasT G T pos q/\Reps K G ds vs/\pre ds/\RtW K G H Q (res ds)
section
variable{α:Type}{K:Zh7}{H:Hp}{vs:List V}{Q:VK}{X:XK}{N:List Str}{t:TS}{pre:α->List D->Prop}{res:α->D}
theorem ygh(h:SpW K pre res vs H Q X)(hN:vs.length<=N.length)(body:∀G ds x,pre x ds->RtW K G H Q (res x)->Go K G H G { nx:=fun _ H'=>Q .non H',rt:=Q } (slots N.length ds) t):t { nx:=fun _ H'=>Q .non H',rt:=Q } (zfe N vs) H:=by
 obtain⟨G,ds,x,sm,r,hp,q⟩:=h
 exact body G ds x hp q G H _ (zce sm r hN)
theorem zy8{n:Nat}(hpre:∀x ds,pre x ds->ds.length=n)(h:SpW K pre res vs H Q X):vs.length=n:=by
 obtain⟨G,ds,x,sm,r,hp,q⟩:=h
 rw[<- r.length];exact hpre x ds hp
theorem yf3{T0:Addr}{pos:Pos}{q:Str}{pre:List D->Prop}{res:List D->D}(h:SpWT K T0 pos q pre res vs H Q X)(hN:vs.length<=N.length)(body:∀G ds,HasT G T0 pos q->pre ds->RtW K G H Q (res ds)->Go K G H G { nx:=fun _ H'=>Q .non H',rt:=Q } (slots N.length ds) t):t { nx:=fun _ H'=>Q .non H',rt:=Q } (zfe N vs) H:=by
 obtain⟨G,ds,sm,hT,r,hp,q⟩:=h
 exact body G ds hT hp q G H _ (zce sm r hN)
theorem ztj{T0:Addr}{pos:Pos}{q:Str}{pre:List D->Prop}{res:List D->D}{n:Nat}(hpre:∀ds,pre ds->ds.length=n)(h:SpWT K T0 pos q pre res vs H Q X):vs.length=n:=by
 obtain⟨G,ds,sm,hT,r,hp,q⟩:=h
 rw[<- r.length];exact hpre ds hp
end
section
variable{K:Zh7}{G Hz L:Hp}{ss:List Sl}{t:TA}{te:TE}{d:D}{ds:List D}{E:XK}{os:List Addr}{EE:Ends}
theorem zss{i:Int}(a:Ev K G Hz L ss te (.int i)):EvW K G Hz L ss [] te (.int i):=fun F H O Q S q=>a F H O Q S fun v F' H' e r=>q v [] F' H' e (by rw[RepW];exact⟨r.of_int,rfl⟩) Zmf (by simp)
theorem zrp{l:List Nat}(a:Ev K G Hz L ss te (.str l)):EvW K G Hz L ss [] te (.str l):=fun F H O Q S q=>a F H O Q S fun v F' H' e r=>q v [] F' H' e (by rw[RepW];exact⟨r.of_str,r.asc,rfl⟩) Zmf (by simp)
theorem yes{ns:List Int}(a:EvO K G Hz L ss te (ns.map D.int)):EvW K G Hz L ss [] te (.lst (ns.map D.int)):=fun F H O Q S q=>a F H O Q S fun p vs F' H' e hp fp hp' r=>q (.ref p) [p] F' H' e (by rw[RepW];exact⟨p,vs,[],rfl,rfl,hp',ydn r⟩) (by simp) (by simp[fp,hp])
theorem zho{α:Type}{pre:α->List D->Prop}{res:α->D}(x:α)(a:EvAF K G Hz L ss t ds)(hp:pre x ds):EvW K G Hz L ss [] (ze7 (SpW K pre res) [] E t) (res x):=fun F H O Q S q =>
 a F H O _ S fun vs F1 H1 e1 r1=>⟨F1,ds,x,e1.fh,by rw[Zji];exact r1,hp,fun v as F2 H2 e2 r nd fr=>q v as F2 H2 (e1.trans e2) r nd fun a ha=>⟨(fr a ha).2,.inl (e1.hh.free (fr a ha).1)⟩⟩
theorem zz6{T0:Addr}{pos:Pos}{q:Str}{pre:List D->Prop}{res:List D->D}(hT:HasT G T0 pos q)(a:EvAF K G Hz L ss t ds)(hp:pre ds):EvW K G Hz L ss [] (ze7 (SpWT K T0 pos q pre res) [] E t) (res ds):=fun F H O Q S k =>
 a F H O _ S fun vs F1 H1 e1 r1=>⟨F1,ds,e1.fh,(S.ext.gf.trans e1.gf) _ _ hT,by rw[Zji];exact r1,hp,fun v as F2 H2 e2 r nd fr=>k v as F2 H2 (e1.trans e2) r nd fun a ha=>⟨(fr a ha).2,.inl (e1.hh.free (fr a ha).1)⟩⟩
theorem Sat.getG{F H:Hp}{O:St}{i:Nat}{v:V}{as:List Addr}{W:Hp->Hp->Prop}(S:Sat K G Hz L F H O ss)(hs:ss[i]? = some (.g v as W)):O[i]? = some (some v)/\(∀a∈as,Hz a=none/\F a=none /\ ∃o,H a=some o/\NT o)/\W F H/\Stab as W:=by
 obtain⟨x,e,ev,h⟩:=S.get hs (by intro z;cases z)
 cases ev
 exact⟨e,h⟩
theorem zrq{i:Nat}{v:V}{as:List Addr}(hs:ss[i]? = some (osl v as d)):EvW K G Hz L ss as (tVar i) d:=fun F H O Q S q=>by
 obtain⟨e,ha,hw,_⟩:=S.getG hs
 exact⟨v,e,q v as F H (Ext.refl S.ext.fh) hw (S.nd i _ hs) fun a h=>⟨(ha a h).2.1,.inr h⟩⟩
theorem ybq{i:Nat}{v:V}{as:List Addr}(hs:ss[i]? = some (osl v as d)):EvB K G Hz L ss (tVar i) d:=fun F H O Q S q=>by
 obtain⟨e,ha,hw,_⟩:=S.getG hs
 exact⟨v,e,q v F H (Ext.refl S.ext.fh) (hw.rep S.ext.fh)⟩
theorem zki(a:EvW K G Hz L ss os te d):EvWs K G Hz L ss os (za7 te tNil) [d]:=fun F H O Q S q=>a F H O _ S fun v as F' H' e r nd fr=>q [v] as F' H' e (by rw[zaz];exact⟨v,[],as,[],rfl,by simp,r,by rw[zaz];exact⟨rfl,rfl⟩⟩) nd fr
theorem zfo(hos:∀F H O,Sat K G Hz L F H O ss-> ∀a∈os,H a≠none)(a:EvW K G Hz L ss [] te d)(b:EvWs K G Hz L ss os t ds):EvWs K G Hz L ss os (za7 te t) (d::ds):=fun F H O Q S q=>a F H O _ S fun v as F1 H1 e1 r1 nd1 fr1 =>
 b F1 H1 O _ (S.ext2 e1) fun vs bs F2 H2 e2 r2 nd2 fr2=>by
  refine q (v::vs) (as++bs) F2 H2 (e1.trans e2) ?_ ?_ ?_
  .rw[zaz]
   refine⟨v,vs,as,bs,rfl,rfl,r1.mono e2.gf fun c hc=>?_,r2⟩
   obtain⟨xs,hx⟩:=r1.live c hc
   rw[hx,e2.hh c _ hx]
  .refine Zjw.mpr ⟨nd1,nd2,fun x hx y hy z=>?_⟩
   subst z
   obtain⟨xs,hl⟩:=r1.live x hx
   rcases(fr2 x hy).2 with z | z
   .rw[hl] at z;cases z
   .rcases(fr1 x hx).2 with w | w
    .exact hos F H O S x z w
    .cases w
  .intro c hc
   rcases Zin.mp hc with z | z
   .obtain⟨xs,hx⟩:=r1.live c z
    refine⟨(e2.no c _ hx trivial).trans (fr1 c z).1,?_⟩
    rcases(fr1 c z).2 with w | w
    .exact .inl w
    .cases w
   .refine⟨(fr2 c z).1,?_⟩
    rcases(fr2 c z).2 with w | w
    .exact .inl (e1.hh.free w)
    .exact .inr w
theorem zlh:∀F H O,Sat K G Hz L F H O ss-> ∀a∈([]:List Addr),H a≠none:=fun _ _ _ _ a h=>by cases h
theorem zkv{i:Nat}{v:V}{as:List Addr}(hs:ss[i]? = some (osl v as d)):∀F H O,Sat K G Hz L F H O ss-> ∀a∈as,H a≠none:=fun F H O S a h=>(by obtain⟨o,ho,_⟩:=((S.getG hs).2.1 a h).2.2;rw[ho];simp)
theorem zpi(a:EvWs K G Hz L ss os t ds)(hz:ds.length<=sizeLine)(hos:∀F H O,Sat K G Hz L F H O ss-> ∀a∈os,H a≠none):EvW K G Hz L ss os (tTup t) (.tup ds):=fun F H O Q S q =>
 a F H O _ S fun vs as F1 H1 e1 r1 nd fr=>⟨by rw[<- r1.length];exact hz,fun p hp=>by
  have fp:=e1.fh.free hp
  have hne:∀c∈as,c≠p:=fun c hc z=>by
   subst z
   obtain⟨xs,hx⟩:=r1.live c hc
   rw[hp] at hx;cases hx
  refine q (.ref p) as _ _ (e1.newF hp) ?_ nd fun c hc=>⟨by rw[zav (hne c hc)];exact(fr c hc).1,(fr c hc).2⟩
  rw[RepW]
  exact⟨p,vs,rfl,zam,r1.mono (Same.upd fp) fun c hc=>zav (hne c hc)⟩⟩
theorem zhv(a:EvW K G Hz L ss os te d)(ho:∀F H O,Sat K G Hz L F H O ss-> ∀a∈os,Hz a=none)(h:RtW K G Hz EE.rt d):Go K G Hz L EE ss (tRet te):=fun F H O S=>a F H O _ S fun v as F' H' e r nd fr=>h v as F' H' (S.ext.trans e) r nd fun c hc=>⟨(fr c hc).2.elim (fun z=>S.ext.hh.free z) fun z=>ho F H O S c z,(fr c hc).1⟩
theorem zok:∀F H O,Sat K G Hz L F H O ss-> ∀a∈([]:List Addr),Hz a=none:=fun _ _ _ _ a h=>by cases h
theorem zs5{i:Nat}{v:V}{as:List Addr}(hs:ss[i]? = some (osl v as d)):∀F H O,Sat K G Hz L F H O ss-> ∀a∈as,Hz a=none:=fun F H O S a h=>((S.getG hs).2.1 a h).1
theorem zso{i:Nat}(a:EvW K G Hz L ss [] te d)(h:∀v as,(∃F H:Hp,RepW F H d v as)->Nx K G Hz L EE.nx (ss.set i (osl v as d))):Go K G Hz L EE ss (tAsg te (zfw i)):=fun F H O S=>a F H O _ S fun v as F' H' e r nd fr=>by
 have S':=S.ext2 e
 have hn:∀a∈as,H a=none:=fun a ha=>(fr a ha).2.elim id fun z=>by cases z
 refine h v as ⟨F',H',r⟩ F' H' _ (S'.put (i:=i) (s:=osl v as d) S'.ext S'.fl (by simp) (fun j hj=>zcj (Zju hj)) (fun hi=>?_) nd (fun j s' hj hs p hp hp'=>?_) fun j s' _ hs=>S'.ok j s' hs)
 .rw[zb9 (by rw[S'.len];exact hi)]
  refine⟨rfl,fun a ha=>?_,r,zus⟩
  obtain⟨xs,hx⟩:=r.live a ha
  exact⟨S.ext.hh.free (hn a ha),(fr a ha).1,_,hx,trivial⟩
 .exact S.notin (hn p hp) j s' hs hp'
theorem yex{i:Nat}{p:Addr}{as:List Addr}(hs:ss[i]? = some (osl (.ref p) as (.lst ds)))(a:EvW K G Hz L ss [] te d)(hz:ds.length<sizeLine)(h:∀bs,Nx K G Hz L EE.nx (ss.set i (osl (.ref p) (as++bs) (.lst (ds++[d]))))) :
  Go K G Hz L EE ss (zz0 (tBM K "list" zm0 (tVar i) (za7 te tNil))):=fun F H O S=>by
 have key:∀{F H:Hp},RepW F H (.lst ds) (.ref p) as-> ∃xs bs,as=p::bs/\H p=some (.lst xs)/\zaz F H ds xs bs:=fun hw=>by
  rw[RepW] at hw
  obtain⟨p',xs,bs,e,ea,hp,r⟩:=hw
  cases e
  exact⟨xs,bs,ea,hp,r⟩
 obtain⟨e,ha,hw,_⟩:=S.getG hs
 obtain⟨xs,bs,rfl,hp,r⟩:=key hw
 refine⟨.ref p,e,.inl ⟨rfl,_,SqL.of hp⟩,a F H O _ S fun v cs F' H' e' r' nd' fr'=>?_⟩
 have S':=S.ext2 e'
 obtain⟨e2,ha2,hw2,_⟩:=S'.getG hs
 obtain⟨ys,bs',eb,hp2,r2⟩:=key hw2
 cases eb
 have hn:∀a∈cs,H a=none:=fun a ha=>(fr' a ha).2.elim id fun z=>by cases z
 have hpc:p∉cs:=fun z=>by have:=hn p z;rw[hp] at this;cases this
 have hpb:p∉bs:=(Zj6.mp (S.nd i _ hs)).1
 have hdis:∀x∈p::bs,x∉cs:=fun x hx z=>by
  obtain⟨ws,hx⟩:=hw.live x hx
  rw[hn x z] at hx;cases hx
 have fp:F' p=none:=(ha2 p Zil).2.1
 have h0:Hz p=none:=(ha2 p Zil).1
 have hget:O.getD i none=some (.ref p):=by rw[Zh8,e];rfl
 refine⟨p,ys,v,rfl,rfl,hp2,by rw[<- r2.length];exact hz,h cs F' _ O (S'.put (i:=i) (s:=osl (.ref p) (p::bs++cs) (.lst (ds++[d]))) (S'.ext.write fp h0) S'.fl rfl (fun _ _=>rfl) (fun _=>?_) ?_ (fun j s' hj hs' q hq hq'=>?_) fun j s' hj hs'=>(S'.ok j s' hs').updNe (S'.ne i j _ s' (Zju hj) hs hs' p Zil))⟩
 .rw[hget]
  have up:∀c∈bs++cs,upd H' p (.lst (ys++[v])) c=H' c:=fun c hc=>zav fun z=>by
   subst z
   rcases Zin.mp hc with w | w
   .exact hpb w
   .exact hpc w
  refine⟨rfl,fun x hx=>?_,?_,zus⟩
  .rcases Zin.mp hx with z | z
   .obtain⟨q0,qf,o,ho,nt⟩:=ha2 x z
    refine⟨q0,qf,?_⟩
    by_cases hxp:x=p
    .subst hxp;exact⟨_,zam,trivial⟩
    .exact⟨o,by rw[zav hxp];exact ho,nt⟩
   .obtain⟨ws,hw3⟩:=r'.live x z
    refine⟨S.ext.hh.free (hn x z),(fr' x z).1,.lst ws,by rw[up x (Zig _ z)];exact hw3,trivial⟩
  .show RepW _ _ _ _ _
   rw[RepW]
   refine⟨p,ys++[v],bs++cs,rfl,rfl,zam,?_⟩
   exact zaz.mono (Same.refl _) up (r2.snoc r')
 .exact Zjw.mpr ⟨S.nd i _ hs,nd',fun x hx y hy z=>hdis x hx (by rw[z];exact hy)⟩
 .rcases Zin.mp hq with z | z
  .exact S'.ne i j _ s' (Zju hj) hs hs' q z hq'
  .exact S.notin (hn q z) j s' hs' hq'
end
section
variable{P:Zjj}{w:Zkq}{K:Zh7}{mg:Str->Option Value}{base:Heap}{x qual:Str}{st:Stmt}{f:Addr}{fd:Zk9}{N ps:List Str}{k:Nat}
theorem okW{α:Type}{pre:α->List D->Prop}{res:α->D}(F:Fun K x qual st f fd)(S:FnScope N ps (zah st))(hl:∀q ds,pre q ds->ds.length=ps.length)
  (hb:∀(cdv:Value) (A:Zjs) (outer:List Env) (s:Zih) (H:Hp) (Q:VK) (E:XK),Room k (A.deeper (Znh qual (zah st) s.heap.objs.size f cdv))-> ∃t,PSs (cxOf CX0 P w K mg base N qual (zah st) f cdv A outer s H E).nox (zb4 st) t /\ ∀G ds q,pre q ds->RtW K G H Q (res q)->Go K G H G { nx:=fun _ H'=>Q .non H',rt:=Q } (slots N.length ds) t):FnOk P w K mg base CX0 (k+1) f fd ps (SpW K pre res) :=
 F.ok S (fun vs H Q E h=>zy8 hl h) fun cdv A outer s H vs Q E hr h=>let ⟨t,p,b⟩:=hb cdv A outer s H Q E hr;⟨t,p,ygh h (by rw[zy8 hl h];exact zpm S) b⟩
theorem okWT{T:Addr}{pos:Pos}{lq:Str}{pre:List D->Prop}{res:List D->D}(F:Fun K x qual st f fd)(S:FnScope N ps (zah st))(hl:∀ds,pre ds->ds.length=ps.length)
  (hb:∀(cdv:Value) (A:Zjs) (outer:List Env) (s:Zih) (H:Hp) (Q:VK) (E:XK),Room k (A.deeper (Znh qual (zah st) s.heap.objs.size f cdv))-> ∃t,PSs (cxOf CX0 P w K mg base N qual (zah st) f cdv A outer s H E).nox (zb4 st) t /\ ∀G ds,HasT G T pos lq->pre ds->RtW K G H Q (res ds)->Go K G H G { nx:=fun _ H'=>Q .non H',rt:=Q } (slots N.length ds) t):FnOk P w K mg base CX0 (k+1) f fd ps (SpWT K T pos lq pre res) :=
 F.ok S (fun vs H Q E h=>ztj hl h) fun cdv A outer s H vs Q E hr h=>let ⟨t,p,b⟩:=hb cdv A outer s H Q E hr;⟨t,p,yf3 h (by rw[ztj hl h];exact zpm S) b⟩
end
mutual
noncomputable def D.subs:D->List D
 | .lst ds=>.lst ds::D.subss ds
 | .tup ds=>D.subss ds
 | _=>[]
noncomputable def D.subss:List D->List D
 | []=>[]
 | d::ds=>d.subs++D.subss ds
end
mutual
noncomputable def D.grow:D->D
 | .lst ds=>.lst (D.grows ds++[.int 0])
 | .tup ds=>.tup (D.grows ds)
 | d=>d
noncomputable def D.grows:List D->List D
 | []=>[]
 | d::ds=>d.grow::D.grows ds
end
noncomputable def D.lenD:D->Nat
 | .lst l=>l.length
 | _=>0
mutual
theorem zp2:∀d:D,∀x∈d.subs,∃l,x= .lst l
 | .lst ds=>fun x hx=>by
  rw[D.subs] at hx
  rcases Ziy.mp hx with rfl | z
  .exact⟨_,rfl⟩
  .exact zmq ds x z
 | .tup ds=>fun x hx=>by rw[D.subs] at hx;exact zmq ds x hx
 | .non=>fun x hx=>by cases hx
 | .bl _=>fun x hx=>by cases hx
 | .int _=>fun x hx=>by cases hx
 | .str _=>fun x hx=>by cases hx
 | .dct _ _=>fun x hx=>by cases hx
 | .dctT _ _=>fun x hx=>by cases hx
 | .ins _ _ _=>fun x hx=>by cases hx
theorem zmq:∀ds:List D,∀x∈D.subss ds,∃l,x= .lst l
 | []=>fun x hx=>by cases hx
 | d::ds=>fun x hx=>by
  rw[D.subss] at hx
  rcases Zin.mp hx with z | z
  .exact zp2 d x z
  .exact zmq ds x z
end
theorem zqv(as bs:List D):D.subss (as++bs)=D.subss as++D.subss bs:=by
 induction as with
 | nil=>rfl
 | cons a as ih=>rw[Znd,D.subss,D.subss,ih,Zn2]
theorem zlu:∀ds:List D,(D.grows ds).length=ds.length
 | []=>rfl
 | d::ds=>by rw[D.grows,Zj7,Zj7,zlu ds]
mutual
theorem zux:∀d:D,d.grow.subs.map D.lenD=d.subs.map fun x=>x.lenD+1
 | .lst ds=>by
  rw[D.grow,D.subs,D.subs,Zik,Zik,zqv,Zir,znd ds]
  simp[D.lenD,zlu,D.subss,D.subs]
 | .tup ds=>by rw[D.grow,D.subs,D.subs,znd ds]
 | .non=>rfl
 | .bl _=>rfl
 | .int _=>rfl
 | .str _=>rfl
 | .dct _ _=>rfl
 | .dctT _ _=>rfl
 | .ins _ _ _=>rfl
theorem znd:∀ds:List D,(D.subss (D.grows ds)).map D.lenD=(D.subss ds).map fun x=>x.lenD+1
 | []=>rfl
 | d::ds=>by rw[D.grows,D.subss,D.subss,Zir,Zir,zux d,znd ds]
end
section
variable{K:Zh7}{F H H':Hp}
mutual
theorem RepW.grow(k:∀a xs,a∈(as0:List Addr)->H a=some (.lst xs)->H' a=some (.lst (xs++[.int 0]))):∀{d:D} {v:V} {as:List Addr},(∀a∈as,a∈as0)->RepW F H d v as->RepW F H' d.grow v as
 | .int _,_,_,_,h=>by rw[RepW] at h;show RepW F H' (.int _) _ _;rw[RepW];exact h
 | .str _,_,_,_,h=>by rw[RepW] at h;show RepW F H' (.str _) _ _;rw[RepW];exact h
 | .lst ds,_,_,m,h=>by
  rw[RepW] at h
  obtain⟨p,xs,bs,e,rfl,hp,r⟩:=h
  rw[D.grow,RepW]
  refine⟨p,xs++[.int 0],bs,e,rfl,k p xs (m p Zil) hp,?_⟩
  have:=(zaz.grow k (fun a ha=>m a (Zij _ ha)) r).snoc (d:=.int 0) (v:=.int 0) (as2:=[]) (by rw[RepW];exact⟨rfl,rfl⟩)
  rw[Zji] at this
  exact this
 | .tup ds,_,_,m,h=>by
  rw[RepW] at h
  obtain⟨p,xs,e,hp,r⟩:=h
  rw[D.grow,RepW]
  exact⟨p,xs,e,hp,zaz.grow k m r⟩
 | .non,_,_,_,h=>by simp[RepW] at h
 | .bl _,_,_,_,h=>by simp[RepW] at h
 | .dct _ _,_,_,_,h=>by simp[RepW] at h
 | .dctT _ _,_,_,_,h=>by simp[RepW] at h
 | .ins _ _ _,_,_,_,h=>by simp[RepW] at h
theorem zaz.grow(k:∀a xs,a∈(as0:List Addr)->H a=some (.lst xs)->H' a=some (.lst (xs++[.int 0]))):∀{ds:List D} {vs:List V} {as:List Addr},(∀a∈as,a∈as0)->zaz F H ds vs as->zaz F H' (D.grows ds) vs as
 | [],_,_,_,h=>by rw[zaz] at h;rw[D.grows,zaz];exact h
 | d::ds,_,_,m,h=>by
  rw[zaz] at h
  obtain⟨x,r,a,b,e,rfl,h1,h2⟩:=h
  rw[D.grows,zaz]
  exact⟨x,r,a,b,e,rfl,RepW.grow k (fun c hc=>m c (Ziz _ hc)) h1,zaz.grow k (fun c hc=>m c (Zig _ hc)) h2⟩
end
mutual
theorem RepW.subs(s:Same F H):∀{d:D} {v:V} {as:List Addr},RepW F H d v as->Reps K H d.subs (as.map V.ref)
 | .int _,_,_,h=>by rw[RepW] at h;rw[h.2];exact Reps.nil
 | .str _,_,_,h=>by rw[RepW] at h;rw[h.2.2];exact Reps.nil
 | .lst ds,_,_,h=>by
  rw[RepW] at h
  obtain⟨p,xs,bs,e,rfl,hp,r⟩:=h
  rw[D.subs,Zik]
  exact Reps.cons (Rep.lst (SqL.of hp) (r.rep s)) (zaz.subs s r)
 | .tup ds,_,_,h=>by
  rw[RepW] at h
  obtain⟨p,xs,e,hp,r⟩:=h
  rw[D.subs]
  exact zaz.subs s r
 | .non,_,_,h=>by simp[RepW] at h
 | .bl _,_,_,h=>by simp[RepW] at h
 | .dct _ _,_,_,h=>by simp[RepW] at h
 | .dctT _ _,_,_,h=>by simp[RepW] at h
 | .ins _ _ _,_,_,h=>by simp[RepW] at h
theorem zaz.subs(s:Same F H):∀{ds:List D} {vs:List V} {as:List Addr},zaz F H ds vs as->Reps K H (D.subss ds) (as.map V.ref)
 | [],_,_,h=>by rw[zaz] at h;rw[h.2];exact Reps.nil
 | d::ds,_,_,h=>by
  rw[zaz] at h
  obtain⟨x,r,a,b,e,rfl,h1,h2⟩:=h
  rw[D.subss,Zir]
  exact(RepW.subs s h1).append (zaz.subs s h2)
end
mutual
theorem RepW.live2:∀{d:D} {v:V} {as:List Addr},RepW F H d v as-> ∀a∈as,∃xs l,H a=some (.lst xs)/\D.lst l∈d.subs/\l.length=xs.length
 | .int _,_,_,h=>by rw[RepW] at h;rw[h.2];simp
 | .str _,_,_,h=>by rw[RepW] at h;rw[h.2.2];simp
 | .lst ds,_,_,h=>by
  rw[RepW] at h
  obtain⟨p,xs,bs,e,rfl,hp,r⟩:=h
  intro a ha
  rw[D.subs]
  rcases Ziy.mp ha with rfl | z
  .exact⟨xs,ds,hp,Zil,r.length⟩
  .obtain⟨xs,l,h1,h2,h3⟩:=zaz.live2 r a z
   exact⟨xs,l,h1,Zij _ h2,h3⟩
 | .tup ds,_,_,h=>by
  rw[RepW] at h
  obtain⟨p,xs,e,hp,r⟩:=h
  rw[D.subs]
  exact zaz.live2 r
 | .non,_,_,h=>by simp[RepW] at h
 | .bl _,_,_,h=>by simp[RepW] at h
 | .dct _ _,_,_,h=>by simp[RepW] at h
 | .dctT _ _,_,_,h=>by simp[RepW] at h
 | .ins _ _ _,_,_,h=>by simp[RepW] at h
theorem zaz.live2:∀{ds:List D} {vs:List V} {as:List Addr},zaz F H ds vs as-> ∀a∈as,∃xs l,H a=some (.lst xs)/\D.lst l∈D.subss ds/\l.length=xs.length
 | [],_,_,h=>by rw[zaz] at h;rw[h.2];simp
 | d::ds,_,_,h=>by
  rw[zaz] at h
  obtain⟨x,r,a,b,e,rfl,h1,h2⟩:=h
  intro c hc
  rw[D.subss]
  rcases Zin.mp hc with z | z
  .obtain⟨xs,l,g1,g2,g3⟩:=RepW.live2 h1 c z
   exact⟨xs,l,g1,Ziz _ g2,g3⟩
  .obtain⟨xs,l,g1,g2,g3⟩:=zaz.live2 h2 c z
   exact⟨xs,l,g1,Zig _ g2,g3⟩
end
theorem RepW.lift{d:D}{v:V}{as:List Addr}(s:Same H H')(h:RepW H H d v as):RepW H' H' d v as:=h.mono s fun a ha=>by
 obtain⟨xs,e⟩:=h.live a ha
 rw[e,s a _ e]
end
noncomputable def EvV(K:Zh7)(G Hz L:Hp)(ss:List Sl)(te:TE)(v:V):Prop:=∀F H O Q,Sat K G Hz L F H O ss->(∀F' H',Ext F H F' H'->Q v H')->te O H Q
noncomputable def EvN(K:Zh7)(G Hz L:Hp)(ss:List Sl)(te:TE)(ws:List V):Prop:=∀F H O Q,Sat K G Hz L F H O ss->(∀p F' H',Ext F H F' H'->H p=none->F' p=none->H' p=some (.lst ws)->Q (.ref p) H')->te O H Q
noncomputable def SpLs(R:D->Prop):Sp:=fun vs H Q _=>∃d v as,vs=[v]/\R d/\RepW H H d v as /\ ∀p H',Same H H'->H p=none->H' p=some (.lst (as.map V.ref))->Q (.ref p) H'
section
variable{K:Zh7}{G Hz L:Hp}{ss:List Sl}{ta tb te:TE}{E:XK}
theorem zvk{i:Nat}{v:V}{as:List Addr}{W:Hp->Hp->Prop}(hs:ss[i]? = some (.g v as W)):EvV K G Hz L ss (tVar i) v:=fun F H O Q S q=>⟨v,(S.getG hs).1,q F H (Ext.refl S.ext.fh)⟩
theorem zmv{p:Addr}{xs:List V}{i:Int}{x:V}(a:EvV K G Hz L ss ta (.ref p))(hp:L p=some (.tup xs))(hi:atI xs i=some x):EvV K G Hz L ss (tOp (rIxT K) ta (tC (.int i))) x:=fun F H O Q S q =>
 a F H O _ S fun F1 H1 e1=>⟨p,xs,i,x,rfl,rfl,SqT.of (((S.fl.trans e1.gf).trans e1.fh) _ _ hp),hi,q F1 H1 e1⟩
theorem zov{R:D->Prop}{d:D}{v:V}{as:List Addr}(a:EvV K G Hz L ss ta v)(hR:R d)(hw:RepW L L d v as):EvN K G Hz L ss (ze7 (SpLs R) [] E (za7 ta tNil)) (as.map V.ref):=fun F H O Q S q =>
 a F H O _ S fun F1 H1 e1=>⟨d,v,as,rfl,hR,hw.lift ((S.fl.trans e1.gf).trans e1.fh),fun p H' s hn hp=>q p F1 H' (e1.trans ⟨Same.refl _,e1.fh.trans s,s,fun _ _ _ _=>rfl⟩) (e1.hh.free hn) (e1.fh.free hn) hp⟩
theorem zwf{xs ys:List V}(a:EvN K G Hz L ss ta xs)(b:EvN K G Hz L ss tb ys)(hz:xs.length+ys.length<=sizeLine):EvN K G Hz L ss (tOp (zky K) ta tb) (xs++ys):=fun F H O Q S q =>
 a F H O _ S fun p F1 H1 e1 hp fp hp1=>b F1 H1 O _ (S.ext2 e1) fun r F2 H2 e2 hr fr hr2 =>
  ⟨p,r,xs,ys,rfl,rfl,SqL.of (e2.hh _ _ hp1),SqL.of hr2,hz,fun l hl=>q l F2 _ ((e1.trans e2).newO hl) ((e1.trans e2).hh.free hl) ((e1.trans e2).fh.free hl) zam⟩
theorem zx8{v:V}(a:EvV K G Hz L ss ta v):EvN K G Hz L ss (tLst (za7 ta tNil)) [v]:=fun F H O Q S q =>
 a F H O _ S fun F1 H1 e1=>⟨by rw[Ziv];simp,fun l hl=>q l F1 _ (e1.newO hl) (e1.hh.free hl) (e1.fh.free hl) zam⟩
theorem yd6{l:Addr}{xs bs:List V}(a:EvV K G Hz L ss ta (.ref l))(hl:L l=some (.lst xs))(hn:bs.length=xs.length)(hz:xs.length<sizeLine)(hx:∀(k:Nat) b,bs[k]? = some b-> ∃t c,xs[k]? = some (.ref t)/\L t=some (.tup [b,c])) :
  EvN K G Hz L ss (tLC 2 [] (zs8 K ta) (gTup K 2 (zwh (zfw 0) (zwh (zfw 1) gNil))) zsr (tVar 0)) bs:=fun F H O Q S q=>by
 refine a F H O _ S fun F1 H1 e1=>?_
 have lh:Same L H1:=(S.fl.trans e1.gf).trans e1.fh
 refine⟨l,rfl,⟨xs,SqL.of (lh _ _ hl)⟩,fun r hr=>?_⟩
 have hrl:l≠r:=zba (lh _ _ hl) hr
 refine⟨fun i m H2=>m=bs.length - i/\i<=bs.length/\H2=upd H1 r (.lst (bs.take i)),⟨_,rfl,Zjn _,rfl⟩,?_⟩
 rintro i m H2 ⟨rfl,hi,rfl⟩
 have sq:SqL K (upd H1 r (.lst (bs.take i))) l xs:=SqL.of (by rw[zav hrl];exact lh _ _ hl)
 by_cases hlt:i<bs.length
 .have hb:=Zh9 hlt
  obtain⟨t,c,hxt,hLt⟩:=hx i _ hb
  refine .inr ⟨⟨xs,_,sq,hxt⟩,fun H'=>H'=upd H1 r (.lst (bs.take (i+1))),fun H' h=>⟨bs.length - (i+1),by omega,rfl,hlt,h⟩,fun x H3 y=>?_⟩
  obtain⟨rfl,y⟩:=y
  have:=y xs sq
  rw[hxt] at this
  cases this
  have htr:t≠r:=zba (lh _ _ hLt) hr
  refine⟨t,[bs[i],c],rfl,SqT.of (by rw[zav htr];exact lh _ _ hLt),rfl,bs[i],[c],rfl,c,[],rfl,rfl,⟨rfl,rfl⟩,?_⟩
  unfold zsr
  refine iteT ⟨bs[i],rfl,bs.take i,zam,by rw[Zjc];omega,?_⟩
  funext b
  by_cases hbr:b=r
  .subst hbr;rw[zam,zam,Zi0,hb];rfl
  .rw[zav hbr,zav hbr,zav hbr]
 .have e:i=bs.length:=by omega
  subst e
  refine .inl ⟨⟨xs,sq,by omega⟩,?_⟩
  rw[Zi3]
  exact q r F1 _ (e1.newO hr) (e1.hh.free hr) (e1.fh.free hr) zam
noncomputable def ze1(H:Hp)(as:List Addr):Hp:=fun b=>if b∈as then (match H b with | some (.lst xs)=>some (.lst (xs++[.int 0])) | o=>o) else H b
theorem zl3{H:Hp}{as:List Addr}{b:Addr}{xs:List V}(h:b∈as)(e:H b=some (.lst xs)):ze1 H as b=some (.lst (xs++[.int 0])):=by unfold ze1;rw[if_pos h,e]
theorem zd2{H:Hp}{as:List Addr}{b:Addr}(h:b∉as):ze1 H as b=H b:=by unfold ze1;rw[if_neg h]
theorem ydv{i j:Nat}{p:Addr}{as:List Addr}{H:Hp}{O:St}{EE:Ends}(hσ:O[i]? = some (some (.ref p)))(hij:j≠i)(hj:j<O.length)(hp:H p=some (.lst (as.map V.ref)))(hpa:p∉as)(nd:as.Nodup)
  (ha:∀a∈as,∃xs,H a=some (.lst xs)/\xs.length<sizeLine) (h:∀O':St,O'.length=O.length->(∀k,k≠j->O'.getD k none=O.getD k none)->EE.nx O' (ze1 H as)):tFor (zs8 K (tVar i)) (zfw j) (zz0 (tBM K "list" zm0 (tVar j) (za7 (tC (.int 0)) tNil))) EE O H:=by
 refine⟨.ref p,hσ,p,rfl,⟨_,SqL.of hp⟩,fun k m O' H'=>m=as.length - k/\k<=as.length/\(O'.length=O.length /\ ∀k,k≠j->O'.getD k none=O.getD k none)/\H'=ze1 H (as.take k),⟨_,rfl,Zjn _,⟨rfl,fun _ _=>rfl⟩,?_⟩,?_⟩
 .funext b;rw[List.take_zero,zd2 (by simp)]
 rintro k m O' H' ⟨rfl,hk,hs,rfl⟩
 have hpt:p∉as.take k:=fun z=>hpa (Zma z)
 have sq:SqL K (ze1 H (as.take k)) p (as.map V.ref):=SqL.of (by rw[zd2 hpt];exact hp)
 have hl:=hs.1
 by_cases hlt:k<as.length
 .have hb:=Zh9 hlt
  have hbm:(as.map V.ref)[k]? = some (.ref as[k]):=by rw[Zie,hb];rfl
  refine .inr ⟨⟨_,_,sq,hbm⟩,fun O'' H''=>(O''.length=O.length /\ ∀k,k≠j->O''.getD k none=O.getD k none)/\H''=ze1 H (as.take (k+1)),fun O'' H'' h=>⟨as.length - (k+1),by omega,rfl,hlt,h.1,h.2⟩,fun x H3 y=>?_⟩
  obtain⟨rfl,y⟩:=y
  have:=y _ sq
  rw[hbm] at this
  cases this
  obtain⟨xs,hxs,hz⟩:=ha _ (Zla hlt)
  have hni:as[k]∉as.take k:=fun z=>by
   obtain⟨i',hi',e⟩:=Zmn z
   have hi2:i'<k:=by rw[Zjc] at hi';omega
   rw[List.getElem_take] at e
   exact Zk3.mp nd i' k (by omega) hlt hi2 e
  have hg:ze1 H (as.take k) as[k]=some (.lst xs):=by rw[zd2 hni];exact hxs
  refine⟨.ref as[k],by rw[Zj8 (by rw[hl];exact hj)],.inl ⟨rfl,_,SqL.of hg⟩,as[k],xs,.int 0,rfl,rfl,hg,hz,⟨by rw[Zp6];exact hl,fun q hq=>by rw[zcj (Zju hq)];exact hs.2 q hq⟩,?_⟩
  .funext b
   rw[Zi0,hb]
   by_cases e:b=as[k]
   .subst e;rw[zam];exact(zl3 (Zig _ (Zic.mpr rfl)) hxs).symm
   .rw[zav e]
    by_cases hm:b∈as.take k
    .obtain⟨ys,hys,_⟩:=ha b (Zma hm)
     rw[zl3 hm hys,zl3 (Ziz _ hm) hys]
    .rw[zd2 hm,zd2]
     intro z
     rcases Zin.mp z with w | w
     .exact hm w
     .exact e (Zic.mp w)
 .have e:k=as.length:=by omega
  subst e
  refine .inl ⟨⟨_,sq,by rw[Zia];exact Zio _⟩,?_⟩
  rw[Zi3]
  exact h O' hs.1 hs.2
end
end L2
namespace L2
open PySem PySem.W PySem.Spec PyProof.Rows
section
variable{P:Zjj}{w:Zkq}{K:Zh7}{mg:Str->Option Value}{base:Heap}{N:List Str}{qual:Str}{scope:Scope}{f:Addr}{cd:Value}{A:Zjs}{outer:List Env}{s:Zih}{H:Hp}{E:XK}
noncomputable def vmro:List Value:=[.type "ValueError", .type "Exception", .type "BaseException", .type "object"]
end
end L2
namespace L2
open PySem PySem.W PySem.Spec PyProof.Rows PySem.Calls Builtin Builtin.ObjectAttr Builtin.Getset_descriptor
structure XTell(K:Zh7)(C:Addr):Prop where
 ga:findIn K (.ref C) "__getattribute__" = some (some (.builtin "BaseException.__getattribute__"))
 gt:findIn K (.ref C) "__getattr__" = some none
 mb:mroIn K C (.type "BaseException")=some true
 fc:findIn K (.ref C) "__class__" = some (some (.builtin "object.__class__"))
 sp:specialIn K (.builtin "object.__class__") "__get__" = some (some (.builtin "getset_descriptor.__get__"))
 tk:takesIn K (.builtin "object.__class__")=some true
 mo:mroIn K C (.type "object")=some true
 dc:hasDictIn K C=true
end L2
namespace PySem
open Sem (wp)
end PySem
namespace L2
open PySem PySem.W PySem.Spec PyProof.Rows
noncomputable def yh7(K:Zh7)(C:Addr)(bmB:List Value)(newId:String)(fI:Addr):Bool:=match K.lookup C with
 | some ⟨.type "type", _,.cls cd,sl⟩=>(match cd.mro,sl.toList with
  | .ref C'::bm,[_,_,_,_,some (.builtin n),_]=>C' == C&&n == newId && !cd.hasDel&&tailIn K bmB bm&&nsOkIn K cd.ns&&nsIn K cd.ns "__init__" == some (some (.ref fI))
  | _,_=>false)
 | _=>false
noncomputable def yiy(K:Zh7)(C fI:Addr):Prop:=yh7 K C vmro "ValueError.__new__" fI=true
end L2
namespace L2
open PySem PySem.Spec PyProof.Rows
end L2
namespace L2
open PySem PySem.W PySem.Spec PyProof.Rows
structure CMeth(K:Zh7)(C:Addr)(m:Str)(f:Addr):Prop where
 ga:specialIn K (.ref C) "__getattribute__" = some (some (.builtin "type.__getattribute__"))
 rd:readsIn K C (.type "type")=true
 fc:findCls K (.ref C) (.type "type") m=some (.val (.ref f))
 kp:keepIn K (.ref f)=true
structure CInitB(K:Zh7)(C:Addr):Prop where
 ga:specialIn K (.ref C) "__getattribute__" = some (some (.builtin "type.__getattribute__"))
 rd:readsIn K C (.type "type")=true
 fc:findCls K (.ref C) (.type "type") "__init__" = some (.val (.builtin "ValueError.__init__"))
end L2
namespace L2
open PySem PySem.W PySem.Spec PyProof.Rows PySem.Calls Builtin Builtin.ObjectAttr
noncomputable def yhz:List Value->Bool
 | .ref _::r=>yhz r
 | l=>l == vmro
structure XStore(K:Zh7)(C:Addr)(name:Str):Prop where
 sa:findIn K (.ref C) "__setattr__" = some (some (.builtin "object.__setattr__"))
 nm:findIn K (.ref C) name=some none
 ob:mroIn K C (.type "object")=some true
 hd:hasDictIn K C=true
 tl:((clsIn K C).any fun cd=>yhz cd.mro)=true
end L2
namespace L2
open PySem
end L2
namespace L2
open PySem PySem.W PySem.Spec PyProof.Rows
end L2
namespace L2
open PySem PySem.W PyProof.Rows
end L2
namespace L2
open PySem PySem.W PySem.Spec PyProof.Rows
structure XMk(K:Zh7)(C f:Addr):Prop where
 cls:yiy K C f
 fn:Zqy K (.ref f)=true
 kp:Zl7 K (.ref C)=true
end L2
namespace L2
open PySem PySem.W PyProof.Rows
end L2
namespace L2
open PySem PySem.W PySem.Spec PyProof.Rows
structure ITell(K:Zh7)(C:Addr):Prop where
 ha:findIn K (.ref C) "__class__" = some (some (.builtin "object.__class__"))
 hn:specialIn K (.builtin "object.__class__") "__get__" = some (some (.builtin "getset_descriptor.__get__"))
 tk:takesIn K (.builtin "object.__class__")=some true
 hm:mroIn K C (.type "object")=some true
noncomputable abbrev QS:=List (Addr×List D)
section
variable{K:Zh7}{G Hz L:Hp}{ss:List Sl}{i:Nat}{p:Addr}{kqs:KQ}{kvs:DD}{qs:QS}{E:Ends}{D0:XK}{t:TA}{te ta td:TE}{d:D}{ds:List D}{dss:List (List D)}{pre:List D->Prop}{res:List D->List (List D)}
mutual
noncomputable def D.nm:D->Bool
 | .lst _=>false
 | .dct ks vs=>D.nms ks&&D.nms vs
 | .dctT _ _=>false
 | .ins _ _ _=>false
 | .tup a=>D.nms a
 | _=>true
noncomputable def D.nms:List D->Bool
 | []=>true
 | a::x=>a.nm&&D.nms x
end
noncomputable def cut(F:Hp)(as:List Addr):Hp:=fun b=>if b∈as then none else F b
end
section
variable{K:Zh7}{G Hz L:Hp}{ss:List Sl}{i:Nat}{E:Ends}{te tk tv:TE}{k d:D}{c:TT}{tb:TS}
theorem ych(I:Nat->List Sl->Prop)(m0:Nat)(h0:I m0 ss)
  (hs:∀m ss,I m ss-> ∃b,EvT K G Hz L ss c b/\(b=true-> ∀N:St->Hp->Prop,(∀m' ss,m'<m->I m' ss->Nx K G Hz L N ss)->Go K G Hz L { E with nx:=N,ct:=N,bk:=E.nx } ss tb)/\(b=false->Nx K G Hz L E.nx ss)):Go K G Hz L E ss (ycv c tb):=fun F H O S =>
 ⟨fun m O' H'=>At K G Hz L (I m) O' H',⟨m0,ss,F,S,h0⟩,fun m O' H' ⟨ss1,F1,S1,h1⟩=>by
  obtain⟨b,ev,ht,hf⟩:=hs m ss1 h1
  refine ev F1 H' O' _ S1 fun F2 H2 e2=>?_
  cases b with
  | true =>
   rw[if_pos rfl]
   exact⟨fun O'' H''=>∃m',m'<m/\At K G Hz L (I m') O'' H'',fun O'' H'' h=>h,ht rfl _ (fun m' ss hm hI=>fun F3 H3 O3 S3=>⟨m',hm,ss,F3,S3,hI⟩) F2 H2 O' (S1.ext2 e2)⟩
  | false =>
   rw[if_neg Zi8]
   exact hf rfl F2 H2 O' (S1.ext2 e2)⟩
end
end L2
namespace L2
open PySem PySem.Spec PyProof.Rows
noncomputable def ybe:R2:=fun x y H Q=>∃i j,x= .bl i/\y= .bl j/\Q (.bl (!(i == j))) H
section
variable{X:Cx}
theorem zzy:OpR X (Zle .IsNot) ybe:=by
 intro pins s O H x y v u Q I rx ry h
 obtain⟨i,j,rfl,rfl,q⟩:=h
 cases rx
 cases ry
 refine wpAny_isNot_plain rfl (zb5 I q ?_)
 cases i <;> cases j <;> rfl
end
section
variable{K:Zh7}{G Hz L:Hp}{ss:List Sl}{ta tb:TE}{i:Nat}{C:Addr}{f:Str}{d:D}
theorem zw9{l m:Bool}(a:EvB K G Hz L ss ta (.bl l))(b:EvB K G Hz L ss tb (.bl m)):Ev K G Hz L ss (tOp ybe ta tb) (.bl (!(l == m))):=fun F H O Q S q =>
 a F H O _ S fun v F1 H1 e1 r1=>b F1 H1 O _ (S.ext2 e1) fun v2 F2 H2 e2 r2=>by
  rw[r1.of_bl,r2.of_bl]
  exact⟨l,m,rfl,rfl,q _ F2 H2 (e1.trans e2) Rep.bl⟩
end
noncomputable def metN(ns:List Int):Nat:=(firstMet (fun i=>ns.getD i 0) ns.length).length
noncomputable def zyf(K:Zh7):List V->Hp->VK->Prop:=fun vs H Q=>∃a ns,vs=[.ref a]/\SqL K H a (ns.map V.int)/\ns.length<=1000 /\ ∀r S,H r=none->Q (.ref r) (upd H r (.set S (metN ns)))
noncomputable def zxb:List V->Hp->VK->Prop:=fun vs H Q=>∃a S n,vs=[.ref a]/\H a=some (.set S n)/\n<=1000/\Q (.int n) H
theorem yhh(ns:List Int):metN ns<=ns.length:=firstMet_length_le _ _
section
variable{X:Cx}
theorem zp6(hc:X.calm=true):zcm X (.type "set") (zyf X.K):=by
 intro pins s O H vs us Q I r h
 obtain⟨a,ns,rfl,hq,hl,q⟩:=h
 obtain⟨u,rfl,ru⟩:=zht r
 cases ru
 obtain⟨its,rv,pl,_⟩:=I.list hq
 have l2:=rv.length
 rw[Zia] at l2
 refine call_set_list (items:=its.toArray) (ns:=ns) (I.ok.hd hc) pl.isList (by simpa using zv6 rv) (by simp[scanBound];omega) fun h' tk S k=>?_
 have e3:its.toArray.size=ns.length:=by rw[l2];exact Zi9
 rw[e3] at S
 exact⟨.ref s.heap.objs.size,_,I.laid (t':=tk) (o:=.set _ (metN ns)) (fun b u e=>k b u (Ziw e) e) (Zio _) S,rfl,q _ _ (I.hok.fresh (Zio _))⟩
theorem zp5:zcm X (.builtin "len") zxb:=by
 intro pins s O H vs us Q I r h
 obtain⟨a,S,n,rfl,ha,hl,q⟩:=h
 obtain⟨u,rfl,ru⟩:=zht r
 cases ru
 obtain⟨o,es,ep,t,ho,hex,hd,_,_,_,hf,hn⟩:=show s.heap.SetOf (intKind X.prog X.w) a S n from I.hok a _ ha
 exact call_len_set ho hex hd hf (by omega) ⟨.int n,H,I.tok _,⟨_,by rw[hn]⟩,q⟩
end
theorem ye7{ns:List Int}:metN ns=ns.length↔ns.Nodup:=by
 unfold metN firstMet
 have e:(Zid ns.length).map (fun i=>ns.getD i 0)=ns:=by
  apply Zlp
  intro i
  rw[Zie]
  by_cases h:i<ns.length
  .rw[Zkd h,Zoe,Zh8,Zh9 h];rfl
  .rw[Zjz (by simp;omega),Zjz (by omega)];rfl
 rw[e]
 have key:∀(ns O:List Int),O.Nodup->((ns.foldl Zo9 O).length=O.length+ns.length↔(O++ns).Nodup):=by
  intro ns
  induction ns with
  | nil=>intro O h;simp[h]
  | cons n ns ih =>
   intro O h
   rw[Zke]
   have hle:=foldl_step_dedup_length_le (Zo9 O n) ns
   by_cases hm:n∈O
   .have hs:Zo9 O n=O:=by unfold Zo9;rw[if_pos];simpa using hm
    rw[hs] at hle ⊢
    constructor
    .intro z;simp only[Zj7] at z;omega
    .intro z
     exact absurd rfl ((Zjw.mp z).2.2 n hm n Zil)
   .have hs:Zo9 O n=O++[n]:=by unfold Zo9;rw[if_neg];simpa using hm
    rw[hs]
    have:=ih (O++[n]) (Zjw.mpr ⟨h,by simp,fun a ha b hb z=>hm (by rw[<- Zic.mp hb,<- z];exact ha)⟩)
    rw[Zn2,Zrq,Zis,Zm5] at this
    rw[Zj7,<- this]
    omega
 have:=key ns [] Zmf
 simpa using this
section
variable{K:Zh7}{G Hz L:Hp}{ss:List Sl}{t:TE}{ns:List Int}
theorem zvz(a:EvL K G Hz L ss t (ns.map .int))(hl:ns.length<=1000):Ev K G Hz L ss (tCB zxb (za7 (tCB (zyf K) (za7 t tNil)) tNil)) (.int (metN ns)):=fun F H O Q S q =>
 a F H O _ S fun p vs F' H' e sq r=>by
  have hv:=zh9 r
  subst hv
  exact⟨p,ns,rfl,sq,hl,fun r0 S0 h0=>⟨r0,S0,_,rfl,zam,Zjb (yhh ns) hl,q _ F' _ (e.newO h0) Rep.int⟩⟩
end
end L2
namespace L2
open PySem PySem.W PyProof.Rows
end L2
namespace L2
open PySem PySem.W PySem.Spec PyProof.Rows
noncomputable def zt9(r d:Addr):HO:=.ext fun h=>h.IsItemsView r d
section
variable{X:Cx}{pins:List (Addr×Obj)}{O:St}{H:Hp}{s:Zih}{A':Zjs}
noncomputable def prD(q:D×D):D:=.tup [q.1,q.2]
end
structure DE(h:Heap)(d:Addr)(es:Array Zny)(ep:Nat):Prop where
 ob:∃o,h.get? d=some o/\o.ExactDict/\o.data= .dict es ep
theorem DE.typeIs{s:Zih}{d:Addr}{es:Array Zny}{ep:Nat}(x:DE s.heap d es ep):s.TypeIs (.ref d) "dict" := let ⟨o,ho,hc,_⟩:=x.ob;⟨o,ho,hc.1⟩
theorem DE.at{h h':Heap}{d:Addr}{es:Array Zny}{ep:Nat}(x:DE h d es ep)(k:∀o,h.get? d=some o->h'.get? d=some o):DE h' d es ep:=let ⟨o,ho,r⟩:=x.ob;⟨o,k o ho,r⟩
section
variable{prog:Zjj}{w:Zkq}{A:Zjs}{E:Value->Zih->Prop}{s:Zih}{d v it:Addr}{es:Array Zny}{ep i:Nat}
theorem yfc{Q:Value->Zih->Prop}(hd:(d == Zlh)=false)(x:DE s.heap d es ep)(h:Q (.ref s.heap.objs.size) { s with heap:=s.heap.push { cls:=.type "dict_items", data:=.fields #[.ref d] } }) :
  Zjd (Zjx prog w) A (call (.builtin "dict.items") [.ref d]) Q E s:=by
 refine Zqx Zqh x.typeIs PySem.F.entry_dict_items ?_ (PySem.F.args_dict_items_1 _)
 unfold Zj0.«dict.items» Zvb
 refine Zib (Zib (Zsq x.typeIs (Ziu ?_)))
 unfold Zpt
 simp only[hd,Zmt,if_false]
 exact Zib (Ziu (Zib (Zne (Ziu ⟨_,rfl,h⟩))))
theorem yf7{Q:Value->Zih->Prop}(hv:s.heap.IsItemsView v d)(x:DE s.heap d es ep)
  (h:∀h1,Zpf h1 s.heap.objs.size d 0 es.size ep .none .none->(∀b o,s.heap.get? b=some o->h1.get? b=some o)->h1.objs.size=s.heap.objs.size+1->Q (.ref s.heap.objs.size) { s with heap:=h1 }) :
  Zjd (Zjx prog w) A (pyIter (.ref v)) Q E s:=by
 obtain⟨o,ho,hc,hdat⟩:=id x.ob
 obtain⟨y,hy,_,hyd⟩:=id hv
 refine wpAny_pyIter_slot hv.typeIs Zpj (Zqx Zpj hv.typeIs PySem.F.entry_dict_items_iter ?_ (PySem.F.args_dict_items_iter_1 _))
 unfold Zj0.«dict_items.__iter__» Zsp Zso
 refine Zib (Ziu (Zib (Zib (Zrd hy hyd (i:=0) (x:=.ref d) rfl (Ziu (Zib (Zib (Zlt ho hdat (Zib (Zre ho hdat ?_))))))))))
 have e1:Zod "dict_itemiterator" = true:=by decide
 rw[e1]
 refine Zne (Ziu ⟨_,rfl, "dict_itemiterator", _,⟨_,Zi1 _ rfl,rfl⟩,Zme.lookup,?_⟩) (by simp[sizeOk,Zsn,Ziv])
 refine h _ ?_ (fun b u e=>Zim _ e) (Zqv ..)
 exact Zi1 _ rfl
theorem zni:Zod "dict_itemiterator" = true:=by decide
theorem wno{α:Type}{c:Prop}[Decidable c]{m1 m2:Sem α}{Q:α->Zih->Prop}(hc:¬ c)(h:Zjd (Zjx prog w) A m2 Q E s):Zjd (Zjx prog w) A (if c then m1 else m2) Q E s:=by rw[if_neg hc];exact h
theorem yd1{Q:Value->Zih->Prop}{ok ov key val:Value}{n:Nat}(st:Zpf s.heap it d i n ep ok ov)
  (h:∀h1,Zsh h1 it d i n ep key val s.heap.objs.size->h1.get? s.heap.objs.size=some { cls:=.type "tuple", data:=.seq #[key,val] }->h1.objs.size=s.heap.objs.size+1 ->
   (∀b o,b≠it->s.heap.get? b=some o->h1.get? b=some o)->Q (.ref s.heap.objs.size) { s with heap:=h1 }) :
  Zjd (Zjx prog w) A (Znz (.ref it) 6 key val) Q E s:=by
 obtain⟨hp,g,dr,tk,os⟩:=s
 have lt:it<hp.objs.size:=Ziw st
 unfold Znz Zsm
 refine Zib (wpAny_newTuple ?_)
 have a1:Zpf (hp.push { cls:=.type "tuple", data:=.seq #[key,val] }) it d i n ep ok ov:=Zim _ st
 have t1:(hp.push { cls:=.type "tuple", data:=.seq #[key,val] }).get? hp.objs.size=some { cls:=.type "tuple", data:=.seq #[key,val] }:=Zi1 _ rfl
 have k1:∀b o,b≠it->hp.get? b=some o->(hp.push { cls:=.type "tuple", data:=.seq #[key,val] }).get? b=some o:=fun b o _ e=>Zim _ e
 have z1:(hp.push { cls:=.type "tuple", data:=.seq #[key,val] }).objs.size=hp.objs.size+1:=Zqv ..
 show Zjd _ _ _ _ _ ⟨hp.push { cls:=.type "tuple", data:=.seq #[key,val] },g,dr,tk,os⟩
 revert a1 t1 k1 z1
 generalize hp.push { cls:=.type "tuple", data:=.seq #[key,val] }=q1
 intro a1 t1 k1 z1
 refine Zib (Zib (Zrd a1 rfl (i:=0) (x:=.none) rfl (Ziu ?_)))
 rw[if_pos rfl]
 refine Zib (Zrd a1 rfl (i:=6) (x:=ok) rfl (Zib (Zrd a1 rfl (i:=7) (x:=ov) rfl ?_)))
 refine Zib (Zmz a1 (by simp) fun q2 a2 b2=>Zib (Zmz a2 (by simp) fun q3 a3 b3=>Zib (Zmz a3 (by simp) fun q4 a4 b4=>Zib (Zmz a4 (by simp) fun q5 a5 b5=>Zib (Zmc (Ziu ?_))))))
 have kk:∀b o,b≠it->q1.get? b=some o->q5.get? b=some o:=fun b o hb e=>b5.extBut b o hb (b4.extBut b o hb (b3.extBut b o hb (b2.extBut b o hb e)))
 exact h q5 a5 (kk _ _ (Zop lt) t1) (by rw[b5.1,b4.1,b3.1,b2.1];exact z1) fun b o hb e=>kk b o hb (k1 b o hb e)
theorem zyo{Q:Option Value->Zih->Prop}{ok ov:Value}(st:Zpf s.heap it d i es.size ep ok ov)(x:DE s.heap d es ep)
  (hyes:∀e,es[i]? = some e-> ∀h1,Zsh h1 it d (i+1) es.size ep e.key e.val s.heap.objs.size->h1.get? s.heap.objs.size=some { cls:=.type "tuple", data:=.seq #[e.key,e.val] }->h1.objs.size=s.heap.objs.size+1 ->
   (∀b o,b≠it->s.heap.get? b=some o->h1.get? b=some o)->Q (some (.ref s.heap.objs.size)) { s with heap:=h1 })
  (hh:es[i]? = none->A.handled=none) (hno:es[i]? = none-> ∀h1,Heap.ExtBut it s.heap h1->Q none { s with heap:=h1 }) :
  Zjd (Zjx prog w) A (Zpw (.ref it)) Q E s:=by
 obtain⟨hp,g,dr,tk,os⟩:=s
 obtain⟨o,ho,hc,hdat⟩:=id x.ob
 have ty:Zsz ⟨hp,g,dr,tk,os⟩ (.ref it) "dict_itemiterator" := ⟨_,st,rfl⟩
 unfold Zpw
 refine Zib (wpAny_attempt (Zr4 (name:=Zmp "__next__") ty Zme (Zqx Zme ty PySem.F.entry_dict_itemiterator_next ?_ (PySem.F.args_dict_itemiterator_next_1 _))))
 refine Zib (Ziu (Zib (Zib (Zib (Zng ty (Ziu (Zib (wpAny_fieldsOf st rfl ?_))))))))
 rw[zni]
 refine wno (show ¬ (Zkr d == Zqq)=true from Zi8) (Zib (Ziu (Zib (Zlt ho hdat (wno (by simp) (Zib (Ziu (Zib (Zre ho hdat (wno (by simp) (Ziu ?_)))))))))))
 have ni:¬ ((i:Int)<0):=by omega
 cases he:es[i]? with
 | some e =>
  simp only[if_neg ni,Zm2,he]
  refine Zib (Zib (Zng ty (Ziu (Zib (Zox ty ?_)))))
  refine Zib (Zmz st (by rw[zni];simp) fun q1 a1 b1=>?_)
  have a1:Zpf q1 it d (i+1) es.size ep ok ov:=a1
  have ty1:Zsz ⟨q1,g,dr,tk,os⟩ (.ref it) "dict_itemiterator" := ⟨_,a1,rfl⟩
  refine Zib (Zmi (Zib (Zox ty1 (Zib (Zox ty1 ?_)))))
  have z1:q1.objs.size=hp.objs.size:=b1.1
  refine yd1 a1 fun q2 o2 t2 z2 k2=>Ziu ⟨_,rfl,Ziu ?_⟩
  have o2:Zsh q2 it d (i+1) es.size ep e.key e.val q1.objs.size:=o2
  rw[show Shared.heap ⟨q1,g,dr,tk,os⟩=q1 from rfl,z1] at *
  exact hyes e he q2 o2 t2 z2 fun b u hb e=>k2 b u hb (b1.extBut b u hb e)
 | none =>
  simp only[if_neg ni,Zm2,he]
  refine Zib (Zib (Zng ty (Ziu ?_)))
  refine Zib (wpAny_setField st rfl (by rw[zni];simp) (Zib ?_))
  simp only[newExc,newTuple]
  refine Zib (Zne (Zib (m:=Zvl _ _) (Zrc (a:=Zqq) (by first | rfl | (simp only[Zvl];rfl)) (Zne ?_ (by size_fits)))) (by size_fits))
  simp only[raiseNew]
  refine Zib (wpAny_handled ?_)
  rw[show A.in1.handled=none from hh he]
  refine Zib (Ziu (wpAny_throw ?_))
  refine Zib (Zum (b:=true) (T:="StopIteration") ⟨_,Zi1 _ rfl,rfl⟩ isSubtype_stop (Ziu ?_))
  exact(hno he _ (((Zkz ..).extBut.push _).push _))
end
noncomputable def ItM(d:Addr)(o:Obj)(kvs:List (List Key×V)):It :=
  ⟨fun i H=>i<kvs.length/\H d=some (.frz o (.dT kvs)),
   fun i H x H'=>∃T0 b k v,x= .ref T0/\kvs[i]? = some (k,v)/\H T0=none/\H b=some (.tup (k.map kV))/\H'=upd H T0 (.tup [.ref b,v]),
   fun i H=>kvs.length<=i/\H d=some (.frz o (.dT kvs))⟩
theorem Paired.get{α β:Type}{R:α->β->Prop}:∀{l₁:List α} {l₂:List β},Paired R l₁ l₂-> ∀(i:Nat) (a:α),l₁[i]? = some a-> ∃b,l₂[i]? = some b/\R a b
 | _,_,.nil,i,a,h=>by simp at h
 | _,_,.cons r t,0,a,h=>by simp at h;subst h;exact⟨_,rfl,r⟩
 | _,_,.cons r t,i+1,a,h=>by simpa using Paired.get t i a (by simpa using h)
theorem Paired.len{α β:Type}{R:α->β->Prop}:∀{l₁:List α} {l₂:List β},Paired R l₁ l₂->l₁.length=l₂.length
 | _,_,.nil=>rfl
 | _,_,.cons r t=>by simp[Paired.len t]
section
variable{X:Cx}{pins:List (Addr×Obj)}{O:St}{H:Hp}{s:Zih}{d it:Addr}{o:Obj}{kvs:List (List Key×V)}{es:Array Zny}{ep i:Nat}
theorem Inv.deM(I:Inv X pins O H s)(e:H d=some (.frz o (.dT kvs)))(ho:o.data= .dict es ep):DE s.heap d es ep/\es.size=kvs.length /\
  ∀(i:Nat) k v,kvs[i]? = some (k,v)-> ∃b u en,es[i]? = some en/\en.key= .ref b/\en.val=u/\H b=some (.tup (k.map kV))/\RelV v u:=by
 obtain⟨h0,z,y,xs,r,o',es',ep',h1,h2,h3,h4,h5⟩:=I.hok d _ e
 rw[h0] at h1
 cases h1
 rw[ho] at h3
 cases h3
 have hl:=Paired.len r
 have hz:es.size=xs.length:=by rw[<- Zkm,h4,Zia]
 refine⟨⟨o,h0,h2,ho⟩,by omega,fun i k v hk=>?_⟩
 obtain⟨⟨k',b,u⟩,hb,e1,e2,e3⟩:=Paired.get r i _ hk
 have e1:k=k':=e1
 subst e1
 have:es.toList[i]? = some (Ztx (Zmd (zbh X.prog X.w)) (k,b,u)):=by rw[h4,Zie,hb];rfl
 exact⟨b,u,_,by simpa using this,rfl,rfl,e2,e3⟩
theorem zsn{P:Zjj}{w:Zkq}{K:Zh7}{elts:List Expr}{kk:Nat}{tp:Pos}(d it:Addr)(o:Obj)(kvs:List (List Key×V))(es:Array Zny)(ep:Nat)(ho:o.data= .dict es ep)(hz:es.size=kvs.length) :
  Turn P w K (.Tuple elts kk tp) (ItM d o kvs) [it] it (fun i h=>∃ok ov,Zpf h it d i es.size ep ok ov) where
 mem:=by simp
 obj:=fun i h st b hb=>by
  obtain⟨ok,ov,st⟩:=st
  rw[Zic.mp hb]
  exact⟨_,st,fun v z=>by cases z⟩
 keep:=fun i h h' st k=>let ⟨ok,ov,e⟩:=st;⟨ok,ov,k it (by simp) _ e⟩
 item:=by
  intro X hP hw hK hc i pins s O H E I hf st hg
  subst hP hw hK
  obtain⟨hi,e⟩:=hg
  obtain⟨ok,ov,st⟩:=st
  obtain⟨de,_,at'⟩:=I.deM e ho
  obtain⟨k,v,hkv⟩:∃k v,kvs[i]? = some (k,v):=⟨kvs[i].1,kvs[i].2,by rw[Zh9 hi]⟩
  obtain⟨b,u,en,h1,h2,h3,h4,h5⟩:=at' i k v hkv
  have hne:=fun c (hc:c∈[it])=>(show c=it by simpa using hc)
  refine zyo st de (fun en' he h' out ht hsz kk=>?_) (fun z=>by rw[h1] at z;cases z) fun z=>by rw[h1] at z;cases z
  rw[h1] at he
  cases he
  have hT0:H s.heap.objs.size=none:=I.hok.fresh (Zio _)
  rw[h2,h3] at ht
  have I1:Inv X pins O (upd H s.heap.objs.size (.tup [.ref b,v])) { s with heap:=h' }:=I.turnsT (t':=s.toks) (wr:=[it]) hf (fun c oc hc e=>kk c oc (fun z=>hc (by simp[z])) e) (Zio _) ⟨_,ht,rfl,_,rfl⟩ (.cons rfl (.cons h5 .nil)) (by rw[Ziv];simp)
  have hitlt:it≠s.heap.objs.size:=Zi6 (Ziw st)
  refine⟨_,rfl,wpAny_letOwnedTupleGo_items out fun h2' st2 sb=>?_⟩
  have hf1:∀c∈[it],FpOk X pins (upd H s.heap.objs.size (.tup [.ref b,v])) c:=fun c hc=>⟨by rw[hne c hc,zav hitlt,<- hne c hc];exact(hf c hc).1,(hf c hc).2⟩
  exact⟨.ref s.heap.objs.size,_,I1.turns (t':=s.toks) (wr:=[it]) hf1 (fun c oc hc e=>sb.extBut c oc (fun z=>hc (by simp[z])) e),rfl,⟨_,b,k,v,rfl,hkv,hT0,h4,rfl⟩,⟨_,_,st2⟩,fun c hc=>by rw[hne c hc,zav hitlt,<- hne c hc];exact(hf c hc).1⟩
 done:=by
  intro X hP hw hK hc i pins s O H E I hf st hg
  subst hP hw hK
  obtain⟨hi,e⟩:=hg
  obtain⟨ok,ov,st⟩:=st
  obtain⟨de,_,_⟩:=I.deM e ho
  have hno:es[i]? = none:=Array.getElem?_eq_none (by omega)
  exact zyo st de (fun en he=>by rw[hno] at he;cases he) (fun _=>I.ok.hd hc) fun _ h1 eb=>⟨rfl,I.turns (t':=s.toks) (wr:=[it]) hf fun c oc hc e=>eb c oc (fun z=>hc (by simp[z])) e⟩
 self:=fun A i s Q E st h=>by
  obtain⟨ok,ov,st⟩:=st
  exact PySem.W.kcp_self st h
noncomputable def zyi:V->List V->Hp->VK->Prop:=fun x vs H Q=>∃d o kvs,x= .ref d/\vs=[]/\H d=some (.frz o (.dT kvs)) /\ ∀r,H r=none->Q (.ref r) (upd H r (zt9 r d))
theorem zwg:MtR X "dict.items" zyi:=by
 intro pins s O H x xs v us Q I rx rs h
 obtain⟨d,o,kvs,rfl,rfl,e,q⟩:=h
 obtain rfl:v=Zkr d:=rx
 cases rs
 obtain⟨h0,z,y,xs,r,o',es',ep',h1,h2,h3,h4,h5⟩:=I.hok d _ e
 refine yfc (es:=es') (ep:=ep') y ⟨_,h1,h2,h3⟩ ?_
 have I2:Inv X pins O (upd H s.heap.objs.size (zt9 s.heap.objs.size d)) { s with heap:=s.heap.push { cls:=.type "dict_items", data:=.fields #[.ref d] } } :=
  I.laid (t':=s.toks) (fun _ _ q=>Zim _ q) (Zio _) ⟨⟨_,Zi1 _ rfl,rfl,rfl⟩,⟨_,Zi1 _ rfl⟩,fun h1 h2 ⟨o,ho,r⟩ k=>⟨o,k _ ho,r⟩⟩
 exact⟨.ref s.heap.objs.size,_,I2,rfl,q _ I.fresh⟩
noncomputable def tItM(td:TE):TE:=fun O H Q=>td O H fun x H1=>zyi x [] H1 Q
theorem zm1{o:Expr}{apos cpos:Pos}{td:TE}(ho:PE X o td)(hbase:Zoo o "items" X.env (eval o X.env)=eval o X.env:=by rfl)(hline:(apos.endLine == cpos.line)=true:=by rfl):PE X (.Call (.Attribute o "items" apos) [] [] cpos) (tItM td):=by
 intro pins s O H Q I h
 refine Zr5 hbase hline (thn (ho pins s O H _ I h) fun v s1 hz9=>?_)
 obtain⟨x,H1,I1,r1,q1⟩:=hz9
 obtain⟨d,o,kvs,ex,_,hd,_⟩:=id q1
 subst ex
 obtain rfl:v=Zkr d:=r1
 obtain⟨h1,h2,_⟩:=zyn I1 (.inr ⟨kvs,.inr ⟨o,hd⟩⟩)
 exact⟨"dict", "dict.items", Znx,Zqh,PySem.F.type_dict_items,h1,h2,Zly rfl (Zrt (zwg pins s1 O H1 (.ref d) [] _ [] Q I1 rfl .nil q1))⟩
noncomputable def iItM(te:TE):TI:=fun O H R=>te O H fun v H1=>∃r d o kvs,v= .ref r/\H1 r=some (zt9 r d)/\H1 d=some (.frz o (.dT kvs))/\R (ItM d o kvs) H1
theorem zns{e:Expr}{te:TE}{elts:List Expr}{kk:Nat}{tp:Pos}(hE:PE X e te):PI X (.Tuple elts kk tp) e (iItM te):=by
 intro pins s O H R I h
 refine thn (hE pins s O H _ I h) fun u s1 hz9=>?_
 obtain⟨x,H1,I1,r1,q1⟩:=hz9
 obtain⟨r,d,o,kvs,rfl,hr,hd,q⟩:=q1
 obtain rfl:u=Zkr r:=r1
 obtain⟨hv,_,_⟩:=I1.hok r _ hr
 obtain⟨h0,z,y,xs,rl,o',es,ep,h1,h2,h3,h4,h5⟩:=I1.hok d _ hd
 rw[h0] at h1
 cases h1
 obtain⟨de,hz,_⟩:=I1.deM hd h3
 refine yf7 hv de fun g1 st k hsz=>?_
 exact⟨s1.heap.objs.size,[s1.heap.objs.size],_,_,H1,rfl,I1.kept (t':=s1.toks) k,zsn d _ o kvs es ep h3 hz,⟨_,_,st⟩,fun b hb=>by rw[Zic.mp hb];exact I1.fpOk (Zio _) (I1.hok.fresh (Zio _)),q⟩
noncomputable def sFrz(t:TS):TS:=fun D O H=>∃a kvs,H a=some (.dT kvs) /\ ∀o,t D O (upd H a (.frz o (.dT kvs)))
theorem Inv.frzT(I:Inv X pins O H s)(e:H d=some (.dT kvs)):∃o,Inv X pins O (upd H d (.frz o (.dT kvs))) s:=by
 have ok:=I.hok d _ e
 obtain⟨z,y,xs,r,o,es,ep,h1,h2⟩:=id ok
 have mu:Mut (H d):=by rw[e];trivial
 refine⟨o,I.write (t':=s.toks) (h':=s.heap) mu (.inl rfl) (fun _ _ _ q=>q) ⟨o,h1⟩ ⟨h1,?_⟩⟩
 have nt:∀b ys,H b=some (.tup ys)->b≠d:=fun b ys q z=>by rw[z,e] at q;cases q
 exact⟨z,y,xs,Paired.mapP r fun p q w=>⟨w.1,by rw[zav (nt _ _ w.2.1)];exact w.2.1,w.2.2⟩,o,es,ep,h1,h2⟩
theorem zli{st:Stmt}{t:TS}(h:PS X st t):PS X st (sFrz t):=fun pins s O H D I ⟨a,kvs,e,q⟩=>by
 obtain⟨o,I'⟩:=I.frzT e
 exact h pins s O _ D I' (q o)
end
theorem zuz:∀{a b:List D},a.all D.isK=true->b.all D.isK=true->a.map D.key=b.map D.key->a=b
 | [],[],_,_,_=>rfl
 | [],_::_,_,_,h=>by cases h
 | _::_,[],_,_,h=>by cases h
 | x::a,y::b,ha,hb,h=>by
  rw[Zkh,Ziq] at ha hb
  rw[Zik,Zik] at h
  injection h with h1 h2
  rw[znr ha.1 hb.1 h1,zuz ha.2 hb.2 h2]
theorem zpa{a b:D}(ha:a.isT=true)(hb:b.isT=true)(h:a.tkey=b.tkey):a=b:=by
 cases a <;> simp only[D.isT] at ha <;> try (cases ha;done)
 cases b <;> simp only[D.isT] at hb <;> try (cases hb;done)
 rw[zuz ha hb h]
theorem zq6{K:Zh7}{H:Hp}:∀{l:List D} {vs:List V},l.all D.isK=true->Reps K H l vs->vs=(l.map D.key).map kV
 | [],vs,_,r=>by rw[Reps] at r;subst r;rfl
 | d::l,vs,h,r=>by
  rw[Zkh,Ziq] at h
  rw[Reps] at r
  obtain⟨v,r',rfl,rv,r⟩:=r
  rw[Zik,Zik,zlg h.1 rv,zq6 h.2 r]
inductive Dkt(K:Zh7)(F:Hp):DD->List (List Key×V)->Prop
 | nil:Dkt K F [] []
 | cons {k d:D} {v:V} {kvs:DD} {xs:List (List Key×V)} (hk:k.isT=true) (r:Rep K F d v) (t:Dkt K F kvs xs):Dkt K F ((k,d)::kvs) ((k.tkey,v)::xs)
section
variable{K:Zh7}{F F':Hp}{kvs:DD}{xs:List (List Key×V)}
theorem Dkt.mono(h:Dkt K F kvs xs)(s:Same F F'):Dkt K F' kvs xs:=by
 induction h with
 | nil=>exact .nil
 | cons hk r t ih=>exact .cons hk (r.mono s) ih
theorem Dkt.length(h:Dkt K F kvs xs):kvs.length=xs.length:=by
 induction h with
 | nil=>rfl
 | cons hk r t ih=>simp[ih]
theorem Dkt.val(h:Dkt K F kvs xs){k:D}(hk:k.isT=true):(valD kvs k=none/\valV xs k.tkey=none) \/ ∃d v,valD kvs k=some d/\valV xs k.tkey=some v/\Rep K F d v:=by
 induction h with
 | nil=>exact .inl ⟨rfl,rfl⟩
 | @cons k' d v kvs xs hk' r t ih =>
  by_cases e:k'=k
  .subst e
   exact .inr ⟨d,v,by simp[valD],by simp[valV],r⟩
  .have e2:k'.tkey≠k.tkey:=fun z=>e (zpa hk' hk z)
   have h1:valD ((k',d)::kvs) k=valD kvs k:=by simp[valD,Zjy,e]
   have h2:valV ((k'.tkey,v)::xs) k.tkey=valV xs k.tkey:=by simp[valV,Zjy,e2]
   rw[h1,h2];exact ih
theorem Dkt.any(h:Dkt K F kvs xs){k:D}(hk:k.isT=true):(kvs.any fun kv=>decide (kv.1=k))=xs.any fun kv=>decide (kv.1=k.tkey):=by
 induction h with
 | nil=>rfl
 | @cons k' d v kvs xs hk' r t ih =>
  rw[Zls,Zls,ih]
  congr 1
  by_cases e:k'=k
  .subst e;simp
  .have e2:k'.tkey≠k.tkey:=fun z=>e (zpa hk' hk z)
   rw[decide_eq_false e,decide_eq_false e2]
theorem Dkt.snoc(h:Dkt K F kvs xs){k d:D}{v:V}(hk:k.isT=true)(r:Rep K F d v):Dkt K F (kvs++[(k,d)]) (xs++[(k.tkey,v)]):=by
 induction h with
 | nil=>exact .cons hk r .nil
 | cons hk' r' t ih=>exact .cons hk' r' ih
theorem Dkt.put(h:Dkt K F kvs xs){k d:D}{v:V}(hk:k.isT=true)(r:Rep K F d v):Dkt K F (putD kvs k d) (putK xs k.tkey v):=by
 unfold putD putK
 rw[h.any hk]
 by_cases hc:(xs.any fun kv=>decide (kv.1=k.tkey))=true
 .rw[if_pos hc,if_pos hc]
  clear hc
  induction h with
  | nil=>exact .nil
  | @cons k' d' v' kvs xs hk' r' t ih =>
   rw[Zik,Zik]
   by_cases e:k'=k
   .subst e;rw[if_pos rfl,if_pos rfl];exact .cons hk' r ih
   .have e2:k'.tkey≠k.tkey:=fun z=>e (zpa hk' hk z)
    rw[if_neg e,if_neg e2];exact .cons hk' r' ih
 .rw[if_neg hc,if_neg hc];exact h.snoc hk r
end
noncomputable def dWT(K:Zh7)(p:Addr)(kvs:DD):Hp->Hp->Prop:=fun F H=>∃xs,H p=some (.dT xs)/\Dkt K F kvs xs
noncomputable def dslT(K:Zh7)(p:Addr)(kvs:DD):Sl:=.g (.ref p) [p] (dWT K p kvs)
theorem zpf(K:Zh7)(p:Addr)(kvs:DD):Stab [p] (dWT K p kvs):=fun F1 H1 F2 H2 sf hh ⟨xs,h1,h2⟩=>⟨xs,by rw[hh p (by simp)];exact h1,h2.mono sf⟩
section
variable{K:Zh7}{G Hz L:Hp}{ss:List Sl}{i j:Nat}{p b:Addr}{kvs:DD}{E:Ends}{ty td tv tx:TE}{t:TA}{k d z:D}{ds:List D}
theorem Sat.getMT{F H:Hp}{O:St}(S:Sat K G Hz L F H O ss)(hs:ss[i]? = some (dslT K p kvs)):O[i]? = some (some (.ref p))/\Hz p=none/\F p=none /\ ∃xs,H p=some (.dT xs)/\Dkt K F kvs xs:=by
 obtain⟨v,e,ew,ha,hw,st⟩:=S.get hs (by intro z;cases z)
 cases ew
 obtain⟨h0,fp,_⟩:=ha p (by simp)
 exact⟨e,h0,fp,hw⟩
theorem Sat.writeMT{F H:Hp}{O:St}{kvs':DD}{xs:List (List Key×V)}(S:Sat K G Hz L F H O ss)(hs:ss[i]? = some (dslT K p kvs))(r:Dkt K F kvs' xs):Sat K G Hz L F (upd H p (.dT xs)) O (ss.set i (dslT K p kvs')):=by
 obtain⟨e,h0,fp,ys,hp,_⟩:=S.getMT hs
 have hget:O.getD i none=some (.ref p):=by rw[Zh8,e];rfl
 refine S.put (S.ext.write fp h0) S.fl rfl (fun _ _=>rfl) (fun _=>?_) (by simp[dslT,Sl.ads]) (fun j s' hj h q hq=>?_) fun j s' hj h=>(S.ok j s' h).updNe (S.ne i j _ s' (Zju hj) hs h p (by simp[dslT,Sl.ads]))
 .rw[hget]
  exact⟨rfl,fun a ha=>by rw[Zic.mp ha];exact⟨h0,fp,_,zam,trivial⟩,⟨xs,zam,r⟩,zpf K p kvs'⟩
 .have:q=p:=by simpa[dslT,Sl.ads] using hq
  subst this
  exact S.ne i j _ s' (Zju hj) hs h q (by simp[dslT,Sl.ads])
theorem zhr(h:∀p,Nx K G Hz L E.nx (ss.set i (dslT K p []))):Go K G Hz L E ss (tAsg ydm (zfw i)):=fun F H O S p hp=>by
 have e:=(Ext.refl S.ext.fh).newO (o:=.dT []) hp
 have S':=S.ext2 e
 refine h p F _ _ (S'.put S'.ext S'.fl (by simp) (fun j hj=>zcj (Zju hj)) (fun hi=>?_) (by simp[dslT,Sl.ads]) (fun j s' hj hs q hq=>?_) fun j s' hj hs=>S'.ok j s' hs)
 .rw[zb9 (by rw[S.len];exact hi)]
  exact⟨rfl,fun a ha=>by rw[Zic.mp ha];exact⟨S.ext.hh.free hp,S.ext.fh.free hp,_,zam,trivial⟩,⟨[],zam,.nil⟩,zpf K p []⟩
 .have:q=p:=by simpa[dslT,Sl.ads] using hq
  subst this
  exact fun hin=>(S.ok j s' hs).live hin hp
end
end L2
namespace L2
open PySem PySem.Spec PyProof.Rows
theorem ygl{X:Cx}{pins:List (Addr×Obj)}{O:St}{H:Hp}{s:Zih}{a:Addr}{kvs:List (List Key×V)}{A:Zjs}{E:Value->Zih->Prop}{Q:Value->Zih->Prop}(I:Inv X pins O H s)(e:Rd H a (.dT kvs))(h:∀t s',Inv X pins O H s'->Q (.int kvs.length t) s'):Zjd (Zjx X.prog X.w) A (call (.builtin "len") [.ref a]) Q E s:=by
 obtain⟨z,hd,xs,rel,dd⟩:=zpz I.hok e
 have hT:=dd.typeIs
 have hl:xs.length=kvs.length:=rel.length.symm
 refine Calls.call_function_entry kind_len plain_len entry_len (args_len1 _) ?_
 unfold Zj0.«len»
 refine Zib (m:=oneArg "len" _) (Ziu ?_)
 refine Zib (m:=callSpecial? (.ref a) (Zmp "__len__")) (Zr4 (name:=Zmp "__len__") hT Zq1
  (Zmv (S:=fun _ R s=>∃o es ep,s.heap.get? a=some o/\o.data= .dict es ep/\es.size=kvs.length/\R (.ok (.ret (.int kvs.length s.toks))) { s with toks:=s.toks+1 }) Zq1 hT PySem.F.entry_dict_len (PySem.F.args_dict_len_1 _) (.of_wp fun A R s ⟨o,es,ep,ho,hdat,hsz,h⟩=>?_) ?_))
 .show Zjd _ _ (dictSize a >>= _) _ _ s
  unfold dictSize
  refine Zib (Zib (Zlt ho hdat (Ziu ?_)))
  show Zjd _ _ (Zva a >>= _) _ _ s
  refine Zib (wpAny_pendingCount_other hd ?_)
  refine wpAny_ret_mkInt ?_
  rw[Nat.add_zero,hsz];exact h
 .obtain⟨o,es,ep,ho,hc,hdat,he,hk,hn⟩:=id dd
  refine⟨o,es,ep,ho,hdat,by rw[<- Zkm,he,Zia,hl],?_⟩
  show Zjd _ _ _ _ _ { s with toks:=s.toks+1 }
  refine Zib (Zmi (Ziu ?_))
  refine Zib (Zmc ?_)
  show Zjd _ _ (if ((kvs.length:Nat):Int)<0 then _ else _) _ _ _
  rw[if_neg (by omega)]
  show Zjd _ _ (if ((kvs.length:Nat):Int) ≥ 2 ^ 63 then _ else _) _ _ _
  rw[if_neg (by rw[Ziv] at z;omega)]
  exact Zib (wpAny_mkInt (Ziu ⟨_,rfl,h _ _ (I.tok _)⟩))
noncomputable def yee:List V->Hp->VK->Prop:=fun xs H Q=>∃a n,xs=[V.ref a]/\((∃kvs,H a=some (.dK kvs)/\n=kvs.length) \/ ∃kvs,H a=some (.dT kvs)/\n=kvs.length)/\Q (.int (n:Nat)) H
theorem zzq{X:Cx}:zcm X (.builtin "len") yee:=by
 intro pins s O H xs us Q I r h
 obtain⟨a,n,rfl,ha,q⟩:=h
 obtain⟨u,rfl,ru⟩:=zht r
 cases ru
 rcases ha with ⟨kvs,ha,rfl⟩ | ⟨kvs,ha,rfl⟩
 .exact yi0 I (.inl ha) fun t s' I'=>⟨.int kvs.length,H,I',⟨t,rfl⟩,q⟩
 .exact ygl I (.inl ha) fun t s' I'=>⟨.int kvs.length,H,I',⟨t,rfl⟩,q⟩
section
variable{K:Zh7}{G Hz L:Hp}{ss:List Sl}{i j:Nat}{p b:Addr}{kvs:DD}{E:Ends}{ty td tv tx:TE}{t:TA}{k d z:D}{ds:List D}
theorem zkb{F H:Hp}{v:V}(r:Rep K F (.tup ds) v)(hk:ds.all D.isK=true)(hi:zgv ds=true)(fh:Same F H):∃b,v= .ref b/\H b=some (.tup ((D.tup ds).tkey.map kV)):=by
 obtain⟨b,vs,rfl,hb,rs⟩:=r.trk hi
 exact⟨b,rfl,by rw[fh _ _ hb,zq6 hk rs];rfl⟩
theorem ztk(hs:ss[i]? = some (dslT K p kvs))(b:Ev K G Hz L ss ty (.tup ds))(hk:ds.all D.isK=true)(hi:zgv ds=true)(hv:valD kvs (.tup ds)=some d):Ev K G Hz L ss (zwa (tVar i) ty) d:=fun F H O Q S q=>by
 obtain⟨e,_⟩:=S.getMT hs
 refine⟨_,e,b F H O _ S fun v F1 H1 e1 r1=>?_⟩
 have S1:=S.ext2 e1
 obtain⟨_,_,_,xs,hp,dk⟩:=S1.getMT hs
 obtain⟨b',rfl,hb⟩:=zkb r1 hk hi S1.ext.fh
 rcases dk.val (k:=.tup ds) hk with ⟨h1,_⟩ | ⟨d',w,h1,h2,rw'⟩
 .rw[h1] at hv;cases hv
 .rw[h1] at hv;cases hv
  refine⟨p,w,rfl,?_,q w F1 H1 e1 rw'⟩
  rw[<- h2]
  exact DGet.t hp hb
theorem zv9(hs:ss[i]? = some (dslT K p kvs))(b:Ev K G Hz L ss ty (.tup ds))(hk:ds.all D.isK=true)(hi:zgv ds=true):Ev K G Hz L ss (zmh ty (tVar i)) (.bl (!(valD kvs (.tup ds)).isSome)):=fun F H O Q S q =>
 b F H O _ S fun v F1 H1 e1 r1=>by
  have S1:=S.ext2 e1
  obtain⟨e,_,_,xs,hp,dk⟩:=S1.getMT hs
  obtain⟨b',rfl,hb⟩:=zkb r1 hk hi S1.ext.fh
  refine⟨_,e,p,valV xs (D.tup ds).tkey,rfl,DGet.t hp hb,q _ F1 H1 e1 ?_⟩
  have:(valV xs (D.tup ds).tkey).isSome=(valD kvs (.tup ds)).isSome:=by
   rcases dk.val (k:=.tup ds) hk with ⟨h1,h2⟩ | ⟨d',w,h1,h2,_⟩ <;> rw[h1,h2] <;> rfl
  rw[this];exact Rep.bl
theorem zeg(hs:ss[i]? = some (dslT K p kvs))(a:Ev K G Hz L ss tv d)(b:Ev K G Hz L ss ty (.tup ds))(hk:ds.all D.isK=true)(hi:zgv ds=true)(hz:kvs.length<sizeLine)(h:Nx K G Hz L E.nx (ss.set i (dslT K p (putD kvs (.tup ds) d)))):Go K G Hz L E ss (yf4 (tVar i) ty tv):=fun F H O S =>
 a F H O _ S fun v F1 H1 e1 r1=>by
  have S1:=S.ext2 e1
  obtain⟨e,_⟩:=S1.getMT hs
  refine⟨_,e,b F1 H1 O _ S1 fun y F2 H2 e2 r2=>?_⟩
  have S2:=S1.ext2 e2
  obtain⟨_,_,_,xs,hp,dk⟩:=S2.getMT hs
  obtain⟨b',rfl,hb⟩:=zkb r2 hk hi S2.ext.fh
  exact⟨p,_,rfl,DPut.t (k:=(D.tup ds).tkey) (v:=v) hp hb (by rw[<- dk.length];exact hz),h F2 _ O (S2.writeMT hs (dk.put hk (r1.mono e2.gf)))⟩
theorem yfl(hs:ss[i]? = some (dslT K p kvs)):Ev K G Hz L ss (tCB yee (za7 (tVar i) tNil)) (.int kvs.length):=fun F H O Q S q=>by
 obtain⟨e,_,_,xs,hp,dk⟩:=S.getMT hs
 exact⟨_,e,p,xs.length,rfl,.inr ⟨xs,hp,rfl⟩,q _ F H (Ext.refl S.ext.fh) (by rw[dk.length];exact Rep.int)⟩
end
end L2
namespace L2
open PySem PySem.W PySem.Spec PyProof.Rows
noncomputable def D.dicT(kvs:DD):D:=.dctT (kvs.map (·.1)) (kvs.map (·.2))
theorem ycn{K:Zh7}{F:Hp}:∀{kvs:DD} {kv:List (List Key×V)},(kvs.map (·.1)).all D.isT=true->(kv.map fun q=>q.1)=(kvs.map (·.1)).map D.tkey->Reps K F (kvs.map (·.2)) (kv.map fun q=>q.2)->Dkt K F kvs kv
 | [],[],_,_,_=>.nil
 | [],_::_,_,h,_=>by simp at h
 | _::_,[],_,h,_=>by simp at h
 | (k,d)::kvs,(q,v)::kv,ha,h,r=>by
  rw[Zik,Zkh,Ziq] at ha
  simp only[Zik,Zn8] at h
  rw[Zik,Zik,Reps] at r
  obtain⟨x,r',e,rv,rr⟩:=r
  cases e
  obtain⟨h1,h2⟩:=h
  have h1:q=k.tkey:=h1
  subst h1
  exact .cons ha.1 rv (ycn ha.2 h2 rr)
theorem Dkt.parts{K:Zh7}{F:Hp}{kvs:DD}{xs:List (List Key×V)}(h:Dkt K F kvs xs):(kvs.map (·.1)).all D.isT=true/\(xs.map fun q=>q.1)=(kvs.map (·.1)).map D.tkey/\Reps K F (kvs.map (·.2)) (xs.map fun q=>q.2):=by
 induction h with
 | nil=>exact⟨rfl,rfl,Reps.nil⟩
 | cons hk r t ih=>exact⟨by rw[Zik,Zkh,hk,ih.1];rfl,by simp only[Zik];rw[ih.2.1],Reps.cons r ih.2.2⟩
theorem Rep.of_dicT{K:Zh7}{F:Hp}{kvs:DD}{v:V}(r:Rep K F (D.dicT kvs) v):∃p o xs,v= .ref p/\F p=some (.frz o (.dT xs))/\Dkt K F kvs xs:=by
 unfold D.dicT at r
 rw[Rep] at r
 obtain⟨p,kv,e,⟨o,q⟩,⟨h1,h2⟩,r2⟩:=r
 exact⟨p,o,kv,e,q,ycn h1 h2 r2⟩
theorem Rep.dicT{K:Zh7}{F:Hp}{kvs:DD}{p:Addr}{o:Obj}{xs:List (List Key×V)}(q:F p=some (.frz o (.dT xs)))(dk:Dkt K F kvs xs):Rep K F (D.dicT kvs) (.ref p):=by
 obtain⟨h1,h2,h3⟩:=dk.parts
 unfold D.dicT
 rw[Rep]
 exact⟨p,xs,rfl,⟨o,q⟩,⟨h1,h2⟩,h3⟩
theorem DGet.tf{H:Hp}{a b:Addr}{o:Obj}{kvs:List (List Key×V)}{k:List Key}(e:H a=some (.frz o (.dT kvs)))(eb:H b=some (.tup (k.map kV))):DGet H a (.ref b) (valV kvs k):=.inr ⟨kvs,k,b,.inr ⟨o,e⟩,rfl,eb,rfl⟩
noncomputable def ItF(K:Zh7)(J:It)(F':Hp)(n:Nat)(y:Nat->D):Prop:=∀F2 H2,Same F' F2->Same F2 H2 ->
 (∀i,i<n->J.go i H2 /\ ∀x H3,J.yld i H2 x H3-> ∃F3,Ext F2 H2 F3 H3/\Rep K F3 (y i) x)/\J.stop n H2
noncomputable def EvF(K:Zh7)(G Hz L:Hp)(ss:List Sl)(wi:TI)(n:Nat)(y:Nat->D):Prop:=∀F H O R,Sat K G Hz L F H O ss->(∀F' H' J,Ext F H F' H'->ItF K J F' n y->R J H')->wi O H R
section
variable{K:Zh7}{G Hz L:Hp}{ss:List Sl}{i j:Nat}{p b:Addr}{kvs:DD}{E:Ends}{ty td tv tx:TE}{t:TS}{k d z:D}{ds:List D}{wi:TI}{n:Nat}{y:Nat->D}
theorem EvF.evi(a:EvF K G Hz L ss wi n y):EvI K G Hz L ss wi n y:=fun F H O R S q=>a F H O R S fun F' H' J e it=>q F' H' J e fun F2 H2 f1 h1 fh=>it F2 H2 f1 fh
theorem zyj{g:TG}{tb:TS}(I:Nat->List Sl->Prop)(a:EvF K G Hz L ss wi n y)(h0:I 0 ss)
  (hs:∀L' k ss,Same L L'->k<n->I k ss-> ∃ss',Tg K G Hz L' g (y k) ss ss' /\ ∀N,(∀ss,I (k+1) ss->Nx K G Hz L' N ss)->Go K G Hz L' { E with nx:=N,ct:=N,bk:=E.nx } ss' tb)
  (hd:∀ss,I n ss->Nx K G Hz L E.nx ss):Go K G Hz L E ss (tFor wi g tb):=fun F H O S =>
 a F H O _ S fun F1 H1 J e1 it=>by
  refine⟨fun i m O' H'=>m=n - i/\i<=n/\At K G Hz F1 (I i) O' H',⟨_,rfl,Zjn _,ss,F1,(S.ext2 e1).raise,h0⟩,?_⟩
  rintro i m O' H' ⟨rfl,hi,ss1,F2,S2,h2⟩
  obtain⟨it1,it2⟩:=it F2 H' S2.fl S2.ext.fh
  by_cases hlt:i<n
  .obtain⟨go,yl⟩:=it1 i hlt
   refine .inr ⟨go,fun O'' H''=>At K G Hz F1 (I (i+1)) O'' H'',fun O'' H'' h=>⟨n - (i+1),by omega,rfl,hlt,h⟩,fun x H'' yx=>?_⟩
   obtain⟨F3,e3,rx⟩:=yl x H'' yx
   obtain⟨ss',tg,go⟩:=hs F1 i ss1 (S.fl.trans e1.gf) hlt h2
   exact tg F3 _ O' x _ (S2.ext2 e3) rx fun O3 S3=>go _ (fun ss h=>zvw h) F3 _ O3 S3
  .have e:i=n:=by omega
   subst e
   exact .inl ⟨it2,hd ss1 h2 F2 H' O' (S2.lower (S.fl.trans e1.gf))⟩
theorem zlo(hs:ss[i]? = some (dslT K p kvs))(h:Go K G Hz L E (ss.set i (.d (D.dicT kvs))) t):Go K G Hz L E ss (sFrz t):=fun F H O S=>by
 obtain⟨e,h0,fp,xs,hp,dk⟩:=S.getMT hs
 have hget:O.getD i none=some (.ref p):=by rw[Zh8,e];rfl
 refine⟨p,xs,hp,fun o=>h (upd F p (.frz o (.dT xs))) _ O ?_⟩
 have hn:∀j s',j≠i->ss[j]? = some s'->p∉s'.ads:=fun j s' hj h=>S.ne i j _ s' (Zju hj) hs h p (by simp[dslT,Sl.ads])
 exact S.put ((S.ext.write fp h0).freeze fp h0 zam) (S.fl.trans (Same.upd fp)) rfl (fun _ _=>rfl) (fun _=>by rw[hget];exact⟨_,rfl,Rep.dicT zam (dk.mono (Same.upd fp))⟩) (by simp[Sl.ads]) (fun _ _ _ _ q hq=>by simp[Sl.ads] at hq)
  fun j s' hj h=>((S.ok j s' h).updNe (hn j s' hj h)).frz fp (hn j s' hj h)
theorem Dkt.at{F:Hp}{kvs:DD}{xs:List (List Key×V)}(h:Dkt K F kvs xs):∀{i:Nat} {k:List Key} {v:V},xs[i]? = some (k,v)-> ∃kd d,kvs[i]? = some (kd,d)/\k=kd.tkey/\Rep K F d v:=by
 induction h with
 | nil=>intro i k v h;simp at h
 | @cons k d v kvs xs hk r t ih =>
  intro i k' v' hi
  cases i with
  | zero=>simp at hi;exact⟨k,d,rfl,hi.1.symm,hi.2 ▸ r⟩
  | succ i=>simpa using ih (by simpa using hi)
theorem zuj{F:Hp}{xs:List (List Key×V)}(dk:Dkt K F kvs xs)(hk:ds.all D.isK=true):(valV xs (D.tup ds).tkey).isSome=(valD kvs (.tup ds)).isSome:=by
 rcases dk.val (k:=.tup ds) hk with ⟨h1,h2⟩ | ⟨d',w,h1,h2,_⟩ <;> rw[h1,h2] <;> rfl
theorem znn(a:Ev K G Hz L ss td (D.dicT kvs))(b:Ev K G Hz L ss ty (.tup ds))(hk:ds.all D.isK=true)(hi:zgv ds=true)(hv:valD kvs (.tup ds)=some d):Ev K G Hz L ss (zwa td ty) d:=fun F H O Q S q =>
 a F H O _ S fun x F1 H1 e1 r1=>b F1 H1 O _ (S.ext2 e1) fun v F2 H2 e2 r2=>by
  obtain⟨p,o,xs,rfl,hp,dk⟩:=r1.of_dicT
  obtain⟨b',rfl,hb⟩:=zkb r2 hk hi e2.fh
  rcases(dk.mono e2.gf).val (k:=.tup ds) hk with ⟨h1,_⟩ | ⟨d',w,h1,h2,rw'⟩
  .rw[h1] at hv;cases hv
  .rw[h1] at hv;cases hv
   refine⟨p,w,rfl,?_,q w F2 H2 (e1.trans e2) rw'⟩
   rw[<- h2]
   exact DGet.tf (e2.fh _ _ (e2.gf _ _ hp)) hb
theorem ybz(a:Ev K G Hz L ss td (D.dicT kvs))(b:Ev K G Hz L ss ty (.tup ds))(hk:ds.all D.isK=true)(hi:zgv ds=true):Ev K G Hz L ss (tDIn ty td) (.bl (valD kvs (.tup ds)).isSome):=fun F H O Q S q =>
 b F H O _ S fun v F1 H1 e1 r1=>a F1 H1 O _ (S.ext2 e1) fun x F2 H2 e2 r2=>by
  obtain⟨p,o,xs,rfl,hp,dk⟩:=r2.of_dicT
  obtain⟨b',rfl,hb⟩:=zkb (r1.mono e2.gf) hk hi e2.fh
  refine⟨p,valV xs (D.tup ds).tkey,rfl,DGet.tf (e2.fh _ _ hp) hb,q _ F2 H2 (e1.trans e2) ?_⟩
  rw[zuj dk hk];exact Rep.bl
theorem zmr(a:Ev K G Hz L ss td (D.dicT kvs))(b:Ev K G Hz L ss ty (.tup ds))(hk:ds.all D.isK=true)(hi:zgv ds=true):Ev K G Hz L ss (zmh ty td) (.bl (!(valD kvs (.tup ds)).isSome)):=fun F H O Q S q =>
 b F H O _ S fun v F1 H1 e1 r1=>a F1 H1 O _ (S.ext2 e1) fun x F2 H2 e2 r2=>by
  obtain⟨p,o,xs,rfl,hp,dk⟩:=r2.of_dicT
  obtain⟨b',rfl,hb⟩:=zkb (r1.mono e2.gf) hk hi e2.fh
  refine⟨p,valV xs (D.tup ds).tkey,rfl,DGet.tf (e2.fh _ _ hp) hb,q _ F2 H2 (e1.trans e2) ?_⟩
  rw[zuj dk hk];exact Rep.bl
theorem zvf(a:Ev K G Hz L ss td (D.dicT kvs))(b:Ev K G Hz L ss ty (.tup ds))(c:Ev K G Hz L ss tx z)(hk:ds.all D.isK=true)(hi:zgv ds=true):Ev K G Hz L ss (ztr td ty tx) ((valD kvs (.tup ds)).getD z):=fun F H O Q S q =>
 a F H O _ S fun x F1 H1 e1 r1=>by
  obtain⟨p,o,xs,rfl,hp,dk⟩:=r1.of_dicT
  refine⟨p,rfl,.inr ⟨xs,.inr ⟨o,e1.fh _ _ hp⟩⟩,b F1 H1 O _ (S.ext2 e1) fun v F2 H2 e2 r2=>c F2 H2 O _ ((S.ext2 e1).ext2 e2) fun w F3 H3 e3 r3=>?_⟩
  obtain⟨b',rfl,hb⟩:=zkb (r2.mono e3.gf) hk hi e3.fh
  refine⟨valV xs (D.tup ds).tkey,DGet.tf (e3.fh _ _ (e3.gf _ _ (e2.gf _ _ hp))) hb,q _ F3 H3 ((e1.trans e2).trans e3) ?_⟩
  rcases(dk.mono (e2.gf.trans e3.gf)).val (k:=.tup ds) hk with ⟨h1,h2⟩ | ⟨d',u,h1,h2,ru⟩ <;> rw[h1,h2]
  .exact r3
  .exact ru
theorem zof(a:Ev K G Hz L ss td (D.dicT kvs))(b:Ev K G Hz L ss ty (.tup ds))(hk:ds.all D.isK=true)(hi:zgv ds=true):Ev K G Hz L ss (zuk td ty) ((valD kvs (.tup ds)).getD .non):=fun F H O Q S q =>
 a F H O _ S fun x F1 H1 e1 r1=>by
  obtain⟨p,o,xs,rfl,hp,dk⟩:=r1.of_dicT
  refine⟨p,rfl,.inr ⟨xs,.inr ⟨o,e1.fh _ _ hp⟩⟩,b F1 H1 O _ (S.ext2 e1) fun v F2 H2 e2 r2=>?_⟩
  obtain⟨b',rfl,hb⟩:=zkb r2 hk hi e2.fh
  refine⟨valV xs (D.tup ds).tkey,DGet.tf (e2.fh _ _ (e2.gf _ _ hp)) hb,q _ F2 H2 (e1.trans e2) ?_⟩
  rcases(dk.mono e2.gf).val (k:=.tup ds) hk with ⟨h1,h2⟩ | ⟨d',u,h1,h2,ru⟩ <;> rw[h1,h2]
  .exact Rep.non
  .exact ru
theorem zqf(hs:ss[i]? = some (dslT K p kvs))(b:Ev K G Hz L ss ty (.tup ds))(c:Ev K G Hz L ss tx z)(hk:ds.all D.isK=true)(hi:zgv ds=true):Ev K G Hz L ss (ztr (tVar i) ty tx) ((valD kvs (.tup ds)).getD z):=fun F H O Q S q=>by
 obtain⟨e,_,_,xs0,hp0,_⟩:=S.getMT hs
 refine⟨_,e,p,rfl,.inr ⟨xs0,.inl hp0⟩,b F H O _ S fun v F2 H2 e2 r2=>c F2 H2 O _ (S.ext2 e2) fun w F3 H3 e3 r3=>?_⟩
 obtain⟨_,_,_,xs,hp,dk⟩:=((S.ext2 e2).ext2 e3).getMT hs
 obtain⟨b',rfl,hb⟩:=zkb (r2.mono e3.gf) hk hi e3.fh
 refine⟨valV xs (D.tup ds).tkey,DGet.t hp hb,q _ F3 H3 (e2.trans e3) ?_⟩
 rcases dk.val (k:=.tup ds) hk with ⟨h1,h2⟩ | ⟨d',u,h1,h2,ru⟩ <;> rw[h1,h2]
 .exact r3
 .exact ru
theorem zri{F:Hp}:∀{es:List D},(∀d∈es,d.isInt=true)->Reps K F es ((es.map D.key).map kV)
 | [],_=>Reps.nil
 | d::es,h=>by
  have h1:=h d Zil
  cases d <;> simp[D.isInt] at h1
  exact Reps.cons Rep.int (zri fun e he=>h e (Zij _ he))
theorem Ext.holdT{G Hz F H:Hp}(x:Ext G Hz F H){b:Addr}{xs:List V}(hb:H b=some (.tup xs))(h0:∀o,Hz b=some o->Hz b=some (.tup xs)):Ext G Hz (upd F b (.tup xs)) H:=by
 have sm:Same F (upd F b (.tup xs)):=fun c o e=>by
  by_cases hc:c=b
  .subst hc;rw[zam];have:=x.fh c o e;rw[hb] at this;exact this
  .rw[zav hc];exact e
 refine⟨x.gf.trans sm,fun c o e=>?_,x.hh,fun c o e nt=>?_⟩
 .by_cases hc:c=b
  .subst hc;rw[zam] at e;cases e;exact hb
  .rw[zav hc] at e;exact x.fh c o e
 .have hc:c≠b:=fun z=>by subst z;have:=h0 o e;rw[e] at this;cases this;exact nt
  rw[zav hc];exact x.no c o e nt
theorem zmz(a:Ev K G Hz L ss td (D.dicT kvs))(hk:∀q∈kvs,∃es,q.1= .tup es /\ ∀d∈es,d.isInt=true):EvF K G Hz L ss (iItM (tItM td)) kvs.length fun i=>prD (kvs.getD i (.non,.non)):=fun F H O R S q =>
 a F H O _ S fun v F1 H1 e1 r1=>by
  obtain⟨p,o,xs,rfl,hp,dk⟩:=r1.of_dicT
  refine⟨p,o,xs,rfl,rfl,e1.fh _ _ hp,fun r hr=>?_⟩
  have e2:=e1.newO (o:=zt9 r p) hr
  have hpr:p≠r:=fun z=>by rw[<- z,e1.fh _ _ hp] at hr;cases hr
  refine⟨r,p,o,xs,rfl,zam,by rw[zav hpr];exact e1.fh _ _ hp,q F1 _ _ e2 fun F2 H2 f1 fh=>?_⟩
  have hp2:H2 p=some (.frz o (.dT xs)):=fh _ _ (f1 _ _ hp)
  have hl:=dk.length
  refine⟨fun i hi=>⟨⟨by omega,hp2⟩,fun x H3 yx=>?_⟩,⟨by omega,hp2⟩⟩
  obtain⟨T0,b,k,v,rfl,hkv,hT,hb,rfl⟩:=yx
  obtain⟨kd,dv,hkd,hkt,rv⟩:=dk.at hkv
  obtain⟨es,he,hint⟩:=hk (kd,dv) (Zii hkd)
  have he:kd= .tup es:=he
  subst he
  have e3:Ext F2 H2 (upd F2 b (.tup (k.map kV))) H2:=(Ext.refl fh).holdT hb fun _ _=>hb
  have hTb:T0≠b:=fun z=>by rw[<- z,hT] at hb;cases hb
  have e4:=e3.newF (o:=.tup [.ref b,v]) hT
  refine⟨_,e4,?_⟩
  show Rep K _ (prD (kvs.getD i (.non,.non))) _
  rw[Zh8,hkd]
  refine Rep.tupN zam (Reps.cons (Rep.tupN (xs:=k.map kV) (by rw[zav (Zju hTb)];exact zam) ?_) (Reps.cons (rv.mono (f1.trans e4.gf)) Reps.nil))
  rw[hkt]
  exact zri hint
end
section
variable{X:Cx}
theorem ztw{H:Hp}:∀{kvs:List (List Key×V)} {xs:List (List Key×Addr×Value)},KT H kvs xs-> ∀(i:Nat) x,xs[i]? = some x-> ∃q,kvs[i]? = some q/\H x.2.1=some (.tup (q.1.map kV))
 | _,_,.nil,i,x,h=>by simp at h
 | _,_,.cons r t,0,x,h=>by simp at h;subst h;exact⟨_,rfl,r.2.1⟩
 | _,_,.cons r t,i+1,x,h=>by simpa using ztw t i x (by simpa using h)
end
section
variable{K:Zh7}{G Hz L:Hp}{ss:List Sl}{i j:Nat}{p b:Addr}{kvs:DD}{E:Ends}{ty td tv tx ta tb te:TE}{t:TS}{k d z:D}{ds es:List D}{wi:TI}{n:Nat}{y:Nat->D}
theorem zx9(hs:ss[i]? = some (.o p (ds++[d])))(hij:i≠j)(h:Nx K G Hz L E.nx ((ss.set i (.o p ds)).set j (.d d))):Go K G Hz L E ss (tAsg (tBM0 K "list" rPop (tVar i)) (zfw j)):=fun F H O S=>by
 obtain⟨e,h0,fp,vs,hp,r⟩:=S.getO hs
 have hl:=r.length
 rw[Zis,Zm5] at hl
 have hne:vs≠[]:=fun z=>by rw[z] at hl;simp at hl
 have rr:Reps K F ds vs.dropLast:=by
  have:=r.take ds.length
  rw[List.take_left,show vs.take ds.length=vs.dropLast by rw[List.dropLast_eq_take];congr 1;omega] at this
  exact this
 have rd:Rep K F d (vs.getLast hne):=by
  obtain⟨x,hx,rx⟩:=r.get' (i:=ds.length) (d:=d) (by simp)
  rw[show ds.length=vs.length - 1 by omega,<- Zqu,Zq2 hne] at hx
  cases hx
  exact rx
 refine⟨.ref p,e,.inl ⟨rfl,_,SqL.of hp⟩,p,vs,vs.getLast hne,rfl,rfl,hp,by rw[<- Zqu,Zq2 hne],?_⟩
 exact h F _ _ ((S.write hs rr).setD rd)
theorem zxs{l:List Nat}(a:Ev K G Hz L ss ta d)(hd:d= .non \/ ∃m,d= .str m)(b:EvB K G Hz L ss tb (.str l)):Ev K G Hz L ss (tOp rEq ta tb) (.bl (decide (d= .str l))):=fun F H O Q S q =>
 a F H O _ S fun v F1 H1 e1 r1=>b F1 H1 O _ (S.ext2 e1) fun v2 F2 H2 e2 r2=>by
  rw[r2.of_str]
  rcases hd with rfl | ⟨m,rfl⟩
  .rw[r1.of_non]
   refine⟨rfl,q _ F2 H2 (e1.trans e2) ?_⟩
   rw[decide_eq_false (by intro z;cases z),decide_eq_false (by intro z;cases z)]
   exact Rep.bl
  .rw[r1.of_str]
   refine⟨rfl,q _ F2 H2 (e1.trans e2) ?_⟩
   by_cases hml:m=l
   .subst hml;rw[decide_eq_true rfl,decide_eq_true rfl];exact Rep.bl
   .rw[decide_eq_false (p:=D.str m=D.str l) (by intro z;injection z with z;exact hml z),decide_eq_false (by intro z;injection z with z;exact hml (zw7.mp z))];exact Rep.bl
theorem zwc{i j k:Int}{tc:TE}(a:EvB K G Hz L ss ta (.int i))(b:EvB K G Hz L ss tb (.int j))(c:EvB K G Hz L ss tc (.int k)):Ev K G Hz L ss (ycr (rI0 fun i j=>.bl (decide (i<=j))) (rI0 fun i j=>.bl (decide (i<j))) ta tb tc) (.bl (decide (i<=j)&&decide (j<k))):=fun F H O Q S q =>
 a F H O _ S fun v F1 H1 e1 r1=>b F1 H1 O _ (S.ext2 e1) fun v2 F2 H2 e2 r2=>by
  rw[r1.of_int,r2.of_int]
  refine⟨i,j,rfl,rfl,_,rfl,?_⟩
  by_cases h:i<=j
  .rw[if_pos (decide_eq_true h)]
   refine c F2 H2 O _ ((S.ext2 e1).ext2 e2) fun v3 F3 H3 e3 r3=>?_
   rw[r3.of_int]
   refine⟨j,k,rfl,rfl,q _ F3 H3 ((e1.trans e2).trans e3) ?_⟩
   rw[decide_eq_true h,Zjl];exact Rep.bl
  .rw[if_neg (by rw[decide_eq_false h];decide)]
   refine q _ F2 H2 (e1.trans e2) ?_
   rw[decide_eq_false h,Znt];exact Rep.bl
theorem yfq(a:Ev K G Hz L ss ta (.lst ds))(b:Ev K G Hz L ss tb (.lst es)):EvF K G Hz L ss (iZip K (za7 ta (za7 tb tNil))) (min ds.length es.length) fun i=>.tup [ds.getD i .non,es.getD i .non]:=fun F H O R S q =>
 a F H O _ S fun v F0 H0 e0 r0=>b F0 H0 O _ (S.ext2 e0) fun v2 F1 H1 e1 r2=>by
  have r1:=r0.mono e1.gf
  obtain⟨p,vs,rfl,sq,rs⟩:=r1.of_lst
  obtain⟨p2,vs2,rfl,sqb,rsb⟩:=r2.of_lst
  refine⟨p,p2,rfl,⟨vs,SqL.same e1.fh sq⟩,⟨vs2,SqL.same e1.fh sqb⟩,q F1 H1 _ (e0.trans e1) fun F2 H2 f1 fh=>?_⟩
  obtain⟨ws,sq2,rs2⟩:=(r1.mono f1).itl fh
  obtain⟨ws2,sq22,rs22⟩:=(r2.mono f1).itl fh
  have l1:=rs2.length
  have l2:=rs22.length
  refine⟨fun i hi=>⟨⟨ws,ws2,ws[i]'(by omega),ws2[i]'(by omega),sq2,sq22,Zh9 _,Zh9 _⟩,fun x H3 y=>?_⟩,⟨ws,ws2,sq2,sq22,by omega⟩⟩
  obtain⟨T0,us,rfl,hf,rfl,y⟩:=y
  obtain⟨w,w2,hx,hx2,rfl⟩:=y ws ws2 sq2 sq22
  obtain⟨dx,hdx,rx⟩:=rs2.get hx
  obtain⟨dx2,hdx2,rx2⟩:=rs22.get hx2
  have e3:Ext F2 H2 (upd F2 T0 (.tup [w,w2])) (upd H2 T0 (.tup [w,w2])):=(Ext.refl fh).newF hf
  refine⟨_,e3,?_⟩
  show Rep K _ (.tup [ds.getD i .non,es.getD i .non]) _
  rw[Zh8,Zh8,hdx,hdx2]
  exact Rep.tupN zam (Reps.cons (rx.mono e3.gf) (Reps.cons (rx2.mono e3.gf) Reps.nil))
end
section
variable{prog:Zjj}{w:Zkq}{A:Zjs}{E:Value->Zih->Prop}{s:Zih}
theorem zxk{α:Type}{f:α->PUnit->Sem (ForInStep PUnit)}:∀{l:List α} {Q:PUnit->Zih->Prop},(∀e∈l,∀R:ForInStep PUnit->Zih->Prop,R (.yield ⟨⟩) s->Zjd (Zjx prog w) A (f e ⟨⟩) R E s)->Q ⟨⟩ s->Zjd (Zjx prog w) A (forIn l Zqt f) Q E s
 | [],Q,_,q=>by rw[List.forIn_nil];exact Ziu q
 | a::l,Q,h,q=>by
  rw[Zp8]
  exact Zib (h a Zil _ (zxk (fun e he=>h e (Zij _ he)) q))
theorem zsw{a:Addr}{Q:Bool->Zih->Prop}(ht:s.TypeIs (.ref a) "tuple")(h:Q false s):Zjd (Zjx prog w) A (Zp2 (.ref a)) Q E s:=by
 unfold Zp2
 exact Zib (Zrb ht PySem.F.slot_tuple_eq.lookup (Ziu h))
variable{o:Addr}{es:Array Zny}{ep:Nat}
theorem zwd{id:String}{Q:Array Zny->Zih->Prop}(x:DE s.heap o es ep)(hk:∀e∈es,∃a,e.key= .ref a/\s.TypeIs (.ref a) "tuple")(hd:∀e∈es,(es.filter (·.hash == e.hash)).size<=1)(h:Q es s) :
  Zjd (Zjx prog w) A (Zo0 id o) Q E s:=by
 obtain⟨ob,ho,hc,hdat⟩:=x.ob
 unfold Zo0
 refine Zib (Zlt ho hdat (Zib ?_))
 rw[<- Array.forIn_toList]
 refine zxk (fun e he R hR=>?_) (Ziu h)
 have he:=Zou.mp he
 obtain⟨a,ea,ta⟩:=hk e he
 rw[ea]
 refine Zib (zsw ta ?_)
 have h1:=hd e he
 have n1:¬ ((es.filter (·.hash == e.hash)).size>1):=by omega
 simp only[Zm3,if_true,if_neg n1]
 exact Ziu hR
theorem ycg{id:String}{d:Addr}{ep0:Nat}{Q:Unit->Zih->Prop}(hdo:d≠o)(hoS:(o == Zlh)=false)(y:DE s.heap d #[] ep0)(x:DE s.heap o es ep)(hk:∀e∈es,∃a,e.key= .ref a/\s.TypeIs (.ref a) "tuple")(hd:∀e∈es,(es.filter (·.hash == e.hash)).size<=1)(hz:es.size<=sizeLine)
  (h:∀h' ep',DE h' d es ep'->Zpo d s.heap h'->Q () { s with heap:=h' }):Zjd (Zjx prog w) A (Zpp id d o) Q E s:=by
 obtain⟨ob,ho,hc,hdat⟩:=x.ob
 obtain⟨od,hod,hcd,hdd⟩:=y.ob
 unfold Zpp
 have n1:¬ (d == o)=true:=fun z=>hdo (eq_of_beq z)
 have n2:¬ (o == Zlh)=true:=by rw[hoS];exact Zi8
 refine wno n1 (Zib (m:=Zpt o) (wno n2 (Ziu (Zib (Zlt ho hdat ?_)))))
 by_cases he:es= #[]
 .subst he
  refine wno (by simp) (Zib (Zre ho hdat (Zib (Zlt ho hdat (Zib ?_)))))
  refine Zrc (a:=Zqt) (by simp) (Ziu ?_)
  exact h s.heap ep0 y (Zu6 _ _)
 .have hpos:0<es.size:=Nat.pos_of_ne_zero fun z=>he (Array.size_eq_zero_iff.mp z)
  have hfew:(decide (es.size<=8)&&es.all fun e=>(keyPart e.key).isSome)=false:=by
   rw[Bool.and_eq_false_iff]
   refine .inr ?_
   rw[Array.all_eq_false]
   refine⟨0,hpos,?_⟩
   obtain⟨a,ea,_⟩:=hk es[0] (Array.getElem_mem hpos)
   rw[ea];simp[keyPart]
  simp only[hfew,Zm3,if_true]
  refine Zib (Zlt hod hdd ?_)
  rw[if_pos (show(#[]:Array Zny).isEmpty=true from rfl)]
  refine Zib (zwd x hk hd ?_)
  have hne:(!es.isEmpty)=true:=by
   cases hb:es.isEmpty with
   | false=>rfl
   | true=>exact absurd (Array.isEmpty_iff.mp hb) he
  rw[if_pos hne]
  refine Zib (wpAny_updateDictKeysTo hod hdd (Ziu (h _ (ep0+1) ⟨_,Heap.get?_update_self _ hod (Obj.isFreed_of_dict (Zr0 hdd _)),hcd.mapDictKeys _,Zr0 hdd _⟩ (Zkz ..))) (by omega))
theorem yf0{Q:Value->Zih->Prop}(hoS:(o == Zlh)=false)(x:DE s.heap o es ep)(hk:∀e∈es,∃a,e.key= .ref a/\s.TypeIs (.ref a) "tuple")(hd:∀e∈es,(es.filter (·.hash == e.hash)).size<=1)(hz:es.size<=sizeLine)
  (h:∀h' ep',DE h' s.heap.objs.size es ep'->(∀b u,s.heap.get? b=some u->h'.get? b=some u)->Q (.ref s.heap.objs.size) { s with heap:=h' }):Zjd (Zjx prog w) A (call (.type "dict") [.ref o]) Q E s:=by
 refine callType_codes (Q₁:=fun obj s₁=>obj= .ref s.heap.objs.size/\s₁={ s with heap:=s.heap.push { cls:=.type "dict", data:=.dict #[] } }) F.kt_called_dict (F.kt_typeCall_dict_1 _) F.entry_dict_init (kt_code_dict_new _ ⟨rfl,rfl⟩) ?_
 rintro obj s₁ ⟨rfl,rfl⟩
 have y:DE (s.heap.push { cls:=.type "dict", data:=.dict #[] }) s.heap.objs.size #[] 0:=⟨_,Zi1 _ rfl,⟨rfl,rfl,rfl⟩,rfl⟩
 have k0:∀b u,s.heap.get? b=some u->(s.heap.push { cls:=.type "dict", data:=.dict #[] }).get? b=some u:=fun b u e=>Zim _ e
 have x':DE (s.heap.push { cls:=.type "dict", data:=.dict #[] }) o es ep:=x.at fun u e=>k0 o u e
 have hlt:s.heap.objs.size≠o:=by
  obtain⟨ob,ho,_⟩:=x.ob
  exact fun z=>absurd (Ziw ho) (by rw[z];exact Zjh _)
 refine⟨DE.typeIs (s:={ s with heap:=s.heap.push { cls:=.type "dict", data:=.dict #[] } }) y,F.args_dict_init_2 _ _,?_⟩
 unfold Zj0.«dict.__init__» Zu8
 refine Zib (Zib (Zsq (DE.typeIs (s:={ s with heap:=s.heap.push { cls:=.type "dict", data:=.dict #[] } }) y) (Ziu ?_)))
 show Zjd _ _ (Zpl "dict.__init__" s.heap.objs.size (.ref o) [] .none) _ _ _
 unfold Zpl
 have tx:=DE.typeIs (s:={ s with heap:=s.heap.push { cls:=.type "dict", data:=.dict #[] } }) x'
 refine Zib (wpAny_typeOf tx (wno (by decide) (Zib ?_)))
 unfold Zvc Zu9
 refine Zib (Zib (Zum tx isSubtype_dict_dict ?_))
 simp only[Zpg,Zmt,if_false]
 refine Zib (Zrb tx PySem.F.slot_dict_iter.lookup (Ziu ?_))
 rw[if_pos (by decide)]
 refine Zib (Ziu ?_)
 refine ycg (s:={ s with heap:=s.heap.push { cls:=.type "dict", data:=.dict #[] } }) hlt hoS y x' (fun e he=>?_) hd hz fun h' ep' z sb=>?_
 .obtain⟨a,ea,ta⟩:=hk e he
  exact⟨a,ea,by obtain⟨u,hu,hc⟩:=ta;exact⟨u,k0 a u hu,hc⟩⟩
 .exact Zib (Ziu (Ziu ⟨rfl,h h' ep' z fun b u e=>(sb.2 b (Zi6 (Ziw e))).trans (k0 b u e)⟩))
end
theorem zr8:Zni "dict" = some (.type "dict"):=by decide +kernel
noncomputable def th2(i j:Int):Int:=reduceHash (Zuh [hashInt i,hashInt j])
theorem yf8:((Zid 64).map fun n=>th2 (n / 8:Nat) (n % 8:Nat)).Nodup:=by decide +kernel
theorem ydx{a b c d:Nat}(ha:a<8)(hb:b<8)(hc:c<8)(hd:d<8)(h:th2 a b=th2 c d):a=c/\b=d:=by
 have key:=yf8
 have e1:((Zid 64).map fun n=>th2 (n / 8:Nat) (n % 8:Nat))[8*a+b]? = some (th2 a b):=by
  rw[Zie,Zkd (by omega)]
  simp only[Zoe,show(8*a+b) / 8=a by omega,show(8*a+b) % 8=b by omega]
 have e2:((Zid 64).map fun n=>th2 (n / 8:Nat) (n % 8:Nat))[8*c+d]? = some (th2 c d):=by
  rw[Zie,Zkd (by omega)]
  simp only[Zoe,show(8*c+d) / 8=c by omega,show(8*c+d) % 8=d by omega]
 obtain⟨l1,f1⟩:=Zif.mp e1
 obtain⟨l2,f2⟩:=Zif.mp e2
 have:=(Zoc key).mp (f1.trans (h.trans f2.symm))
 omega
noncomputable def yc2(k:List Key):Prop:=∃a b:Nat,a<8/\b<8/\k=[.inl a,.inl b]
noncomputable def zp7:List V->Hp->VK->Prop:=fun xs H Q=>∃d kvs,xs=[.ref d]/\Rd H d (.dT kvs)/\(∀q∈kvs,yc2 q.1) /\ ∀p,H p=none->Q (.ref p) (upd H p (.dT kvs))
theorem zvt{α:Type}{f:α->Int}{l:List α}(h:(l.map f).Nodup){e:α}(he:e∈l):(l.filter fun x=>f x == f e).length<=1:=by
 induction l with
 | nil=>cases he
 | cons a l ih =>
  rw[Zik,Zj6] at h
  rw[Znc]
  rcases Ziy.mp he with z | z
  .subst z
   rw[if_pos (by simp),Zj7]
   have:l.filter (fun x=>f x == f e)=[]:=Zrk.mpr fun x hx z=>h.1 (Zit.mpr ⟨x,hx,by simpa using z⟩)
   rw[this];simp
  .have:¬ (f a == f e)=true:=fun z'=>h.1 (Zit.mpr ⟨e,z,(by simpa using z':f a=f e).symm⟩)
   rw[if_neg this]
   exact ih h.2 z
theorem zk4{X:Cx}:zcm X (.type "dict") zp7:=by
 intro pins s O H xs us Q I r h
 obtain⟨d,kvs,rfl,e,hsm,q⟩:=h
 obtain⟨u,rfl,ru⟩:=zht r
 cases ru
 obtain⟨hz,hd,zs,rel,o,es,ep,h1,h2,h3,h4,h5⟩:=e.ok I.hok
 have lz:kvs.length=zs.length:=rel.length
 have hsz:es.size=zs.length:=by rw[<- Zkm,h4,Zia]
 have hkey:∀z∈zs,yc2 z.1/\H z.2.1=some (.tup (z.1.map kV)):=fun z hz1=>by
  obtain⟨i,hi⟩:=Zm4.mp hz1
  obtain⟨q',hq',hq2⟩:=ztw rel i z hi
  have hlt:=(Zif.mp hq').1
  obtain⟨z',hz',e1,e2,_⟩:=Paired.get rel i q' hq'
  rw[hi] at hz';cases hz'
  have e1:q'.1=z.1:=e1
  rw[<- e1]
  exact⟨hsm q' (Zii hq'),hq2⟩
 have hnd:(zs.map fun z=>(Zmd (zbh X.prog X.w)).hash z.1).Nodup:=by
  rw[Zql,Zn0] at h5
  rw[Zql,Zn0]
  refine Zue (fun {x y} hx hy hne hh=>hne ?_) h5
  obtain⟨⟨a,b,ha,hb,ex⟩,_⟩:=hkey x hx
  obtain⟨⟨c,d',hc,hd',ey⟩,_⟩:=hkey y hy
  rw[ex,ey] at hh
  obtain⟨z1,z2⟩:=ydx ha hb hc hd' hh
  rw[ex,ey,z1,z2]
 refine yf0 (es:=es) (ep:=ep) hd ⟨o,h1,h2,h3⟩ (fun en he=>?_) (fun en he=>?_) (by omega) fun h' ep' y k=>?_
 .have he:en∈es.toList:=Zou.mpr he
  rw[h4] at he
  obtain⟨z,hz1,rfl⟩:=Zit.mp he
  refine⟨z.2.1,rfl,?_⟩
  obtain⟨_,its,_,ob,ho,hc,_⟩:=(show zet X.prog X.w H s.heap z.2.1 (.tup _) from I.hok _ _ (hkey z hz1).2)
  exact⟨ob,ho,hc⟩
 .have he:en∈es.toList:=Zou.mpr he
  rw[h4] at he
  obtain⟨z,hz1,rfl⟩:=Zit.mp he
  have e0:(es.filter fun x=>x.hash == (Ztx (Zmd (zbh X.prog X.w)) z).hash).size=(zs.filter fun x=>(Zmd (zbh X.prog X.w)).hash x.1 == (Zmd (zbh X.prog X.w)).hash z.1).length:=by
   rw[<- Zkm,Array.toList_filter,h4,Zok,Zia];rfl
  rw[e0]
  exact zvt (f:=fun x:List Key×Addr×Value=>(Zmd (zbh X.prog X.w)).hash x.1) hnd hz1
 .have hf:H s.heap.objs.size=none:=I.fresh
  have nt:∀b ys,H b=some (.tup ys)->b≠s.heap.objs.size:=fun b ys q z=>by rw[z,hf] at q;cases q
  obtain⟨oy,hy1,hy2,hy3⟩:=y.ob
  refine⟨.ref s.heap.objs.size,_,I.laid (t':=s.toks) k (Zio _) (show zet X.prog X.w _ _ _ (.dT kvs) from⟨hz,beq_eq_false_iff_ne.mpr (Zju (Zi6 I.big)),zs,Paired.mapP rel fun p q w=>⟨w.1,by rw[zav (nt _ _ w.2.1)];exact w.2.1,w.2.2⟩,oy,es,ep',hy1,hy2,hy3,h4,h5⟩),rfl,q _ hf⟩
section
variable{K:Zh7}{G Hz L:Hp}{ss:List Sl}{i j:Nat}{p b:Addr}{kvs:DD}{E:Ends}{td:TE}
theorem zo1(a:Ev K G Hz L ss td (D.dicT kvs))(hk:∀q∈kvs,∃a b:Nat,a<8/\b<8/\q.1= .tup [.int a,.int b])(h:∀p,Nx K G Hz L E.nx (ss.set i (dslT K p kvs))):Go K G Hz L E ss (tAsg (tCB zp7 (za7 td tNil)) (zfw i)):=fun F H O S =>
 a F H O _ S fun v F1 H1 e1 r1=>by
  obtain⟨d,o,xs,rfl,hd,dk⟩:=r1.of_dicT
  refine⟨d,xs,rfl,.inr ⟨o,e1.fh _ _ hd⟩,fun q hq=>?_,fun p hp=>?_⟩
  .obtain⟨n,hn⟩:=Zm4.mp hq
   obtain⟨kd,dv,h1,h2,_⟩:=dk.at (k:=q.1) (v:=q.2) hn
   obtain⟨a,b,ha,hb,e⟩:=hk _ (Zii h1)
   have e:kd= .tup [.int a,.int b]:=e
   exact⟨a,b,ha,hb,by rw[h2,e];rfl⟩
  .have e:=e1.newO (o:=.dT xs) hp
   have S':=S.ext2 e
   refine h p F1 _ _ (S'.put S'.ext S'.fl (by simp) (fun j hj=>zcj (Zju hj)) (fun hi=>?_) (by simp[dslT,Sl.ads]) (fun j s' hj hs q hq=>?_) fun j s' hj hs=>S'.ok j s' hs)
   .rw[zb9 (by rw[S.len];exact hi)]
    exact⟨rfl,fun a ha=>by rw[Zic.mp ha];exact⟨S.ext.hh.free (e1.hh.free hp),e1.fh.free hp,_,zam,trivial⟩,⟨xs,zam,dk⟩,zpf K p kvs⟩
   .have:q=p:=by simpa[dslT,Sl.ads] using hq
    subst this
    exact fun hin=>(S.ok j s' hs).live hin (e1.hh.free hp)
end
end L2
namespace L2
theorem zko{α:Type}{P:List α->Prop}(h0:P [])(hs:∀xs x,P xs->P (xs++[x]))(xs:List α):P xs:=by
 have:∀ys:List α,P ys.reverse:=by
  intro ys
  induction ys with
  | nil=>exact h0
  | cons y ys ih=>rw[Zpk];exact hs _ _ ih
 have:=this xs.reverse
 rwa [Zrw] at this
section
variable{α β γ:Type}[DecidableEq α][DecidableEq β][DecidableEq γ]{f:α->β}{g:α->γ}{xs:List α}{x:α}
noncomputable def zlq(f:α->β)(acc:List α)(x:α):List α:=if (acc.any fun y=>decide (f y=f x))=true then acc else acc++[x]
noncomputable def zhc(f:α->β)(xs:List α):List α:=xs.foldl (zlq f) []
theorem zed:zhc f (xs++[x])=zlq f (zhc f xs) x:=by unfold zhc;rw[Zkg];rfl
theorem znz(v:β):(∃y∈zhc f xs,f y=v) ↔ ∃y∈xs,f y=v:=by
 induction xs using zko with
 | h0=>simp[zhc]
 | hs xs x ih =>
  rw[zed]
  unfold zlq
  split
  .rename_i h
   rw[Zlb] at h
   obtain⟨y,hy,e⟩:=h
   have e:=of_decide_eq_true e
   rw[ih]
   constructor
   .rintro⟨z,hz,ez⟩;exact⟨z,Ziz _ hz,ez⟩
   .rintro⟨z,hz,ez⟩
    rcases Zin.mp hz with hz | hz
    .exact⟨z,hz,ez⟩
    .rw[Zic.mp hz] at ez
     exact ih.mp ⟨y,hy,e.trans ez⟩
  .constructor
   .rintro⟨z,hz,ez⟩
    rcases Zin.mp hz with hz | hz
    .obtain⟨w,hw,ew⟩:=ih.mp ⟨z,hz,ez⟩
     exact⟨w,Ziz _ hw,ew⟩
    .exact⟨z,Zig _ hz,ez⟩
   .rintro⟨z,hz,ez⟩
    rcases Zin.mp hz with hz | hz
    .obtain⟨w,hw,ew⟩:=ih.mpr ⟨z,hz,ez⟩
     exact⟨w,Ziz _ hw,ew⟩
    .exact⟨z,Zig _ hz,ez⟩
theorem zkw{y:α}:y∈zhc f xs->y∈xs:=by
 induction xs using zko with
 | h0=>exact fun h=>h
 | hs xs x ih =>
  rw[zed]
  unfold zlq
  split
  .exact fun h=>Ziz _ (ih h)
  .intro h
   rcases Zin.mp h with h | h
   .exact Ziz _ (ih h)
   .exact Zig _ h
theorem zuh:((zhc f xs).map f).Nodup:=by
 induction xs using zko with
 | h0=>exact Zmf
 | hs xs x ih =>
  rw[zed]
  unfold zlq
  split
  .exact ih
  .rename_i h
   rw[Zir]
   refine Zjw.mpr ⟨ih,by simp,fun a ha b hb e=>h ?_⟩
   obtain⟨y,hy,ey⟩:=Zit.mp ha
   have hb:b=f x:=by simpa using hb
   rw[Zlb]
   exact⟨y,hy,decide_eq_true (ey.trans (e.trans hb))⟩
noncomputable def zb7(f:α->β)(xs:List α):List (List α):=(zhc f xs).map fun h=>xs.filter fun t=>decide (f t=f h)
noncomputable def ygp(xs:List α)(f:α->β)(g:α->γ):Prop:=∀a∈xs,∀b∈xs,(f a=f b↔g a=g b)
theorem zta(h:ygp xs f g):zhc f xs=zhc g xs:=by
 induction xs using zko with
 | h0=>rfl
 | hs xs x ih =>
  rw[zed,zed,ih fun a ha b hb=>h a (Ziz _ ha) b (Ziz _ hb)]
  unfold zlq
  have:((zhc g xs).any fun y=>decide (f y=f x))=(zhc g xs).any fun y=>decide (g y=g x):=by
   rw[Zjg,Zlb,Zlb]
   simp only[decide_eq_true_eq]
   constructor
   .rintro⟨y,hy,e⟩;exact⟨y,hy,(h y (Ziz _ (zkw hy)) x (by simp)).mp e⟩
   .rintro⟨y,hy,e⟩;exact⟨y,hy,(h y (Ziz _ (zkw hy)) x (by simp)).mpr e⟩
  rw[this]
theorem zqe(h:ygp xs f g):zb7 f xs=zb7 g xs:=by
 unfold zb7
 rw[zta h]
 refine Zjf fun y hy=>Zmx fun t ht=>?_
 rw[Zjg,decide_eq_true_eq,decide_eq_true_eq]
 exact h t ht y (zkw hy)
theorem zog:(zb7 f xs).length<=xs.length:=by
 unfold zb7
 rw[Zia]
 induction xs using zko with
 | h0=>exact Zio _
 | hs xs x ih =>
  rw[zed]
  unfold zlq
  split <;> simp <;> omega
noncomputable def zqn(k l:β)(f:α->β):α->β:=fun t=>if f t=l then k else f t
theorem yax{k l:β}{x y a b:α}(h:(k=f x/\l=f y)\/(k=f y/\l=f x)):zqn k l f a=zqn k l f b↔f a=f b\/((f a=f x\/f a=f y)/\(f b=f x\/f b=f y)):=by
 unfold zqn
 rcases h with ⟨rfl,rfl⟩ | ⟨rfl,rfl⟩
 .by_cases h1:f a=f y <;> by_cases h2:f b=f y <;> simp[h1,h2]
  .constructor
   .intro e;exact .inr e.symm
   .rintro(e | e)
    .exact absurd e.symm h2
    .exact e.symm
  .intro e e2;exact e.trans e2.symm
 .by_cases h1:f a=f x <;> by_cases h2:f b=f x <;> simp[h1,h2]
  .constructor
   .intro e;exact .inr e.symm
   .rintro(e | e)
    .exact absurd e.symm h2
    .exact e.symm
  .intro e e2;exact e.trans e2.symm
variable{enc:α->D}{encB:β->D}
noncomputable def dA(enc:α->D)(encB:β->D)(xs:List α)(f:α->β):DD:=xs.map fun t=>(enc t,encB (f t))
theorem zfb(hi:∀a b,enc a=enc b->a=b)(h:x∈xs):valD (dA enc encB xs f) (enc x)=some (encB (f x)):=by
 induction xs with
 | nil=>cases h
 | cons y ys ih =>
  by_cases e:y=x
  .subst e;simp[valD,dA]
  .have e2:enc y≠enc x:=fun z=>e (hi _ _ z)
   have:valD (dA enc encB (y::ys) f) (enc x)=valD (dA enc encB ys f) (enc x):=by simp[valD,dA,Zjy,e2]
   rw[this]
   rcases Ziy.mp h with z | z
   .exact absurd z.symm e
   .exact ih z
theorem zo0(hi:∀a b,enc a=enc b->a=b)(h:x∉xs):valD (dA enc encB xs f) (enc x)=none:=by
 induction xs with
 | nil=>rfl
 | cons y ys ih =>
  have e2:enc y≠enc x:=fun z=>h (by rw[hi _ _ z];exact Zil)
  have:valD (dA enc encB (y::ys) f) (enc x)=valD (dA enc encB ys f) (enc x):=by simp[valD,dA,Zjy,e2]
  rw[this]
  exact ih fun z=>h (Zij _ z)
theorem ydl(hi:∀a b,enc a=enc b->a=b):((dA enc encB xs f).any fun kv=>decide (kv.1=enc x))=true↔x∈xs:=by
 rw[Zlb]
 constructor
 .rintro⟨kv,hkv,e⟩
  obtain⟨y,hy,rfl⟩:=Zit.mp hkv
  rw[<- hi _ _ (of_decide_eq_true e)];exact hy
 .intro h;exact⟨_,Zit.mpr ⟨x,h,rfl⟩,by simp⟩
theorem yew(hi:∀a b,enc a=enc b->a=b)(h:x∈xs)(v:β):putD (dA enc encB xs f) (enc x) (encB v)=dA enc encB xs (fun u=>if u=x then v else f u):=by
 unfold putD
 rw[if_pos ((ydl hi).mpr h)]
 unfold dA
 rw[Zja]
 refine Zjf fun u _=>?_
 show(if enc u=enc x then (enc u,encB v) else (enc u,encB (f u)))=(enc u,encB (if u=x then v else f u))
 by_cases e:u=x
 .rw[if_pos (by rw[e]),if_pos e]
 .rw[if_neg fun z=>e (hi _ _ z),if_neg e]
theorem zgc(hi:∀a b,enc a=enc b->a=b)(h:x∉xs):putD (dA enc encB xs f) (enc x) (encB (f x))=dA enc encB (xs++[x]) f:=by
 unfold putD
 rw[if_neg fun z=>h ((ydl hi).mp z)]
 unfold dA
 rw[Zir]
 rfl
theorem yb8{g:α->β}(h:∀a∈xs,f a=g a):dA enc encB xs f=dA enc encB xs g:=by
 unfold dA
 exact Zjf fun a ha=>by rw[h a ha]
noncomputable def grpD(enc:α->D)(encB:β->D)(f:α->β)(xs:List α):List (D×List D):=(zhc f xs).map fun h=>(encB (f h),(xs.filter fun t=>decide (f t=f h)).map enc)
theorem zy4(hi:∀a b,encB a=encB b->a=b){F:α->List D}{d:D}:∀{hs:List α},(hs.map f).Nodup->(∃h∈hs,f h=f x)->appD (hs.map fun h=>(encB (f h),F h)) (encB (f x)) d=hs.map fun h=>(encB (f h),if f h=f x then F h++[d] else F h)
 | [],_,h=>by obtain⟨_,h,_⟩:=h;cases h
 | y::ys,hn,h=>by
  rw[Zik,Zik,appD]
  rw[Zik,Zj6] at hn
  by_cases e:f y=f x
  .rw[if_pos (by show encB (f y)=encB (f x);rw[e]),if_pos e]
   congr 1
   refine Zjf fun z hz=>?_
   have:f z≠f x:=fun w=>hn.1 (by rw[e,<- w];exact Zko hz)
   rw[if_neg this]
  .rw[if_neg (fun z=>e (hi _ _ z)),if_neg e]
   congr 1
   refine zy4 hi hn.2 ?_
   obtain⟨z,hz,ez⟩:=h
   rcases Ziy.mp hz with rfl | hz
   .exact absurd ez e
   .exact⟨z,hz,ez⟩
theorem zth(hi:∀a b,encB a=encB b->a=b){F:α->List D}{d:D}:∀{hs:List α},(∀h∈hs,f h≠f x)->appD (hs.map fun h=>(encB (f h),F h)) (encB (f x)) d=(hs.map fun h=>(encB (f h),F h))++[(encB (f x),[d])]
 | [],_=>rfl
 | y::ys,h=>by
  rw[Zik,appD,if_neg (fun z=>h y Zil (hi _ _ z)),zth hi fun z hz=>h z (Zij _ hz)]
  rfl
theorem yad(hi:∀a b,encB a=encB b->a=b):appD (grpD enc encB f xs) (encB (f x)) (enc x)=grpD enc encB f (xs++[x]):=by
 unfold grpD
 rw[zed]
 unfold zlq
 have ef:∀h,((xs++[x]).filter fun t=>decide (f t=f h)).map enc=if f h=f x then (xs.filter fun t=>decide (f t=f h)).map enc++[enc x] else (xs.filter fun t=>decide (f t=f h)).map enc:=fun h=>by
  rw[Zky]
  by_cases e:f h=f x
  .rw[if_pos e,Zkw (by simp[e]),Zkj,Zir];rfl
  .rw[if_neg e,Zkx (by simp;exact fun z=>e z.symm),Zkj,Zji]
 split
 .rename_i h
  rw[Zlb] at h
  obtain⟨y,hy,e⟩:=h
  rw[zy4 hi zuh ⟨y,hy,of_decide_eq_true e⟩]
  exact Zjf fun h _=>by rw[ef]
 .rename_i h
  have hno:∀y∈zhc f xs,f y≠f x:=fun y hy e=>h (by rw[Zlb];exact⟨y,hy,decide_eq_true e⟩)
  rw[zth hi hno,Zir]
  congr 1
  .exact Zjf fun h hh=>by rw[ef,if_neg (hno h hh)]
  .rw[Znq,ef,if_pos rfl]
   have:(xs.filter fun t=>decide (f t=f x))=[]:=by
    rw[Zrk]
    intro t ht e
    obtain⟨z,hz,ez⟩:=(znz (f:=f) (xs:=xs) (f x)).mpr ⟨t,ht,of_decide_eq_true e⟩
    exact hno z hz ez
   rw[this];rfl
theorem zyx:((grpD enc encB f xs).map fun q=>D.lst q.2)=(zb7 f xs).map fun p=>D.lst (p.map enc):=by
 unfold grpD zb7
 rw[Zja,Zja]
 rfl
theorem yb3:(grpD enc encB f xs).length<=xs.length:=by
 have:=zog (f:=f) (xs:=xs)
 unfold zb7 at this
 unfold grpD
 simpa using this
theorem zxe{q:D×List D}(h:q∈grpD enc encB f xs):q.2.length<=xs.length:=by
 unfold grpD at h
 obtain⟨y,_,rfl⟩:=Zit.mp h
 rw[Zia]
 exact Zj5 ..
end
end L2
namespace L2
open PySem PySem.W PyProof.Rows PySem.Spec PySem.Calls
end L2
namespace L2
open PySem PySem.Spec PyProof.Rows
end L2
namespace L2
open PySem PySem.W PyProof.Rows PySem.Spec PySem.Calls
end L2
namespace L2
open PySem PySem.Spec PyProof.Rows PySem.Calls
end L2
namespace L2
open PySem PySem.W PySem.Spec PyProof.Rows
end L2
namespace L2
theorem zim{α:Type}{P:List α->Prop}(h0:P [])(hs:∀xs x,P xs->P (xs++[x]))(xs:List α):P xs:=by
 have:∀ys:List α,P ys.reverse:=by
  intro ys
  induction ys with
  | nil=>exact h0
  | cons y ys ih=>rw[Zpk];exact hs _ _ ih
 have:=this xs.reverse
 rwa [Zrw] at this
section
variable{β γ:Type}[DecidableEq β][DecidableEq γ]
noncomputable def ddS(acc:List β)(x:β):List β:=if x∈acc then acc else acc++[x]
noncomputable def dd(ls:List β):List β:=ls.foldl ddS []
theorem zpx(ls:List β)(x:β):dd (ls++[x])=ddS (dd ls) x:=by unfold dd;rw[Zkg];rfl
theorem zfc{x:β}(ls:List β):x∈dd ls↔x∈ls:=by
 induction ls using zim generalizing x with
 | h0=>exact Zrm
 | hs ls y ih =>
  rw[zpx]
  unfold ddS
  by_cases h:y∈dd ls
  .rw[if_pos h,ih,Zin,Zic]
   exact⟨.inl,fun z=>z.elim id fun e=>e ▸ ih.mp h⟩
  .rw[if_neg h,Zin,Zin,ih]
theorem zja{ls:List β}{x:β}(h:x∈ls):dd (ls++[x])=dd ls:=by rw[zpx];exact if_pos ((zfc ls).mpr h)
theorem zfu{ls:List β}{x:β}(h:x∉ls):dd (ls++[x])=dd ls++[x]:=by rw[zpx];exact if_neg fun z=>h ((zfc ls).mp z)
theorem zpo{ls:List β}{x y:β}(h:x∈ls):(ls++[y]).idxOf x=ls.idxOf x:=by rw[Zsl,if_pos h]
theorem zlt{ls:List β}{x:β}(h:x∉ls):ls.idxOf x=ls.length:=List.idxOf_eq_length h
theorem zh5{ls:List β}{x:β}(h:x∈ls):ls.idxOf x<ls.length:=Zkb.mpr h
theorem yb5{ls:List β}{x:β}:ls.idxOf x<=ls.length:=List.idxOf_le_length
theorem zqs{ls:List β}{x y:β}(h:x∉ls):(ls++[y]).idxOf x=if y=x then ls.length else ls.length+1:=by
 rw[Zsl,if_neg h]
 by_cases e:y=x
 .subst e;rw[if_pos rfl];simp
 .rw[if_neg e]
  have:[y].idxOf x=1:=by
   rw[zlt (by simp;exact fun z=>e z.symm)];rfl
  omega
theorem zsz{ls:List β}{x:β}:(ls++[x]).idxOf x=ls.idxOf x:=by
 by_cases h:x∈ls
 .exact zpo h
 .rw[zqs h,if_pos rfl,zlt h]
noncomputable def numF(ls:List β):List Nat:=ls.map fun x=>(dd ls).idxOf x
theorem zha(ls:List β)(x:β):numF (ls++[x])=numF ls++[(dd ls).idxOf x]:=by
 unfold numF
 rw[Zir,Znq]
 congr 1
 .refine Zjf fun y hy=>?_
  by_cases h:x∈ls
  .rw[zja h]
  .rw[zfu h,zpo ((zfc ls).mpr hy)]
 .by_cases h:x∈ls
  .rw[zja h]
  .rw[zfu h,zsz]
theorem zo6(ls:List β):(numF ls).length=ls.length:=by unfold numF;rw[Zia]
noncomputable def fstF(ls:List β):List Nat:=ls.map fun x=>ls.idxOf x
theorem zf2(ls:List β):(fstF ls).length=ls.length:=by unfold fstF;rw[Zia]
theorem znp(ls:List β)(x:β):fstF (ls++[x])=fstF ls++[ls.idxOf x]:=by
 unfold fstF
 rw[Zir,Znq,zsz]
 congr 1
 exact Zjf fun y hy=>zpo hy
noncomputable def cntF(F:List Nat)(k:Nat):Nat:=((Zid k).filter fun j=>decide (F[j]? = some j)).length
theorem zj9(F:List Nat)(k:Nat):cntF F (k+1)=cntF F k+if F[k]? = some k then 1 else 0:=by
 unfold cntF
 rw[Zl0,Zky,Zis]
 by_cases h:F[k]? = some k
 .rw[if_pos h];simp[h]
 .rw[if_neg h];simp[h]
theorem zl9{F:List Nat}{y k:Nat}(h:k<=F.length):cntF (F++[y]) k=cntF F k:=by
 unfold cntF
 congr 1
 refine Zmx fun j hj=>?_
 have:j<F.length:=Zi5 (Zi2.mp hj) h
 rw[Zj1 this]
theorem ybv(F:List Nat){k k':Nat}(h:k<=k'):cntF F k<=cntF F k':=by
 induction k' with
 | zero=>rw[Zvh.mp h];exact Zio _
 | succ n ih =>
  rw[zj9]
  rcases Zoq n k with c | c
  .have:k=n+1:=by omega
   subst this
   rw[zj9];exact Zio _
  .have:=ih c;omega
theorem yc8{F:List Nat}{k k':Nat}(hk:F[k]? = some k)(h:k<k'):cntF F k<cntF F k':=by
 have h1:=zj9 F k
 rw[if_pos hk] at h1
 have:=ybv F (show k+1<=k' from h)
 omega
theorem zx5(ls:List β):∀x,(dd ls).idxOf x=cntF (fstF ls) (ls.idxOf x):=by
 induction ls using zim with
 | h0=>intro x;rfl
 | hs ls z ih =>
  intro x
  have fl:=zf2 ls
  rw[znp]
  by_cases hx:x∈ls
  .rw[zpo hx,zl9 (by rw[fl];exact yb5),<- ih]
   by_cases hz:z∈ls
   .rw[zja hz]
   .rw[zfu hz,zpo ((zfc ls).mpr hx)]
  .have h0:=ih x
   rw[zlt hx] at h0
   have hxd:x∉dd ls:=fun q=>hx ((zfc ls).mp q)
   by_cases hz:z∈ls
   .have hzx:z≠x:=fun e=>hx (e ▸ hz)
    rw[zja hz,zqs hx,if_neg hzx,zj9,zl9 (by rw[fl];exact Zio _),h0]
    have:(fstF ls++[ls.idxOf z])[ls.length]? = some (ls.idxOf z):=by rw[<- fl,Zjq (Zio _)];simp
    rw[this,if_neg]
    .rfl
    .intro e;injection e with e;have:=zh5 hz;omega
   .rw[zfu hz,zqs hxd,zqs hx]
    have hl:(dd ls).length=cntF (fstF ls) ls.length:=by rw[<- h0,zlt hxd]
    by_cases e:z=x
    .rw[if_pos e,if_pos e,zl9 (by rw[fl];exact Zio _),hl]
    .rw[if_neg e,if_neg e,zj9,zl9 (by rw[fl];exact Zio _),hl]
     have:(fstF ls++[ls.idxOf z])[ls.length]? = some (ls.idxOf z):=by rw[<- fl,Zjq (Zio _)];simp
     rw[this,zlt hz,if_pos rfl]
theorem zrr:∀{a b:List Nat} {x y:Nat},a.length=b.length->(a++[x]<b++[y]↔a<b\/(a=b/\x<y))
 | [],[],x,y,_=>by
  rw[Zs1,Zs1,Zjv]
  exact⟨fun z=>.inr ⟨rfl,z.elim id fun q=>absurd q.2 (Zmg _)⟩,fun z=>z.elim (fun q=>absurd q (Zmg _)) fun q=>.inl q.2⟩
 | [],_::_,_,_,h=>by simp at h
 | _::_,[],_,_,h=>by simp at h
 | c::a,d::b,x,y,h=>by
  have ih:=zrr (a:=a) (b:=b) (x:=x) (y:=y) (by simpa using h)
  rw[Znd,Znd,Zjv,Zjv,ih]
  constructor
  .rintro(k | ⟨rfl,k | ⟨rfl,k⟩⟩)
   .exact .inl (.inl k)
   .exact .inl (.inr ⟨rfl,k⟩)
   .exact .inr ⟨rfl,k⟩
  .rintro((k | ⟨rfl,k⟩) | ⟨e,k⟩)
   .exact .inl k
   .exact .inr ⟨rfl,.inl k⟩
   .injection e with e1 e2
    exact .inr ⟨e1,.inr ⟨e2,k⟩⟩
theorem zym{α:Type}{a b:List α}{x y:α}:a++[x]=b++[y]↔a=b/\x=y:=by
 constructor
 .intro h
  have:=List.append_inj' h rfl
  exact⟨this.1,by simpa using this.2⟩
 .rintro⟨rfl,rfl⟩;rfl
theorem zt2{ls:List β}{x:β}:ls.idxOf x=ls.length\/(fstF ls)[ls.idxOf x]? = some (ls.idxOf x):=by
 by_cases h:x∈ls
 .refine .inr ?_
  unfold fstF
  rw[Zie,Zh9 (zh5 h),Zoe,Zki]
 .exact .inl (zlt h)
theorem zsy(n:Nat):∀(ls:List β) (ms:List γ),ls.length=n->ms.length=n->((numF ls<numF ms↔fstF ls<fstF ms)/\(numF ls=numF ms↔fstF ls=fstF ms)):=by
 induction n with
 | zero =>
  intro ls ms h1 h2
  rw[Zra.mp h1,Zra.mp h2]
  exact⟨Zrm,Zrm⟩
 | succ n ih =>
  intro ls ms h1 h2
  rcases Zrr ls with rfl | ⟨ls,x,rfl⟩
  .simp at h1
  rcases Zrr ms with rfl | ⟨ms,y,rfl⟩
  .simp at h2
  simp only[List.concat_eq_append] at h1 h2 ⊢
  rw[Zis] at h1 h2
  have h1:ls.length=n:=by simpa using h1
  have h2:ms.length=n:=by simpa using h2
  obtain⟨i1,i2⟩:=ih ls ms h1 h2
  have key:fstF ls=fstF ms->(((dd ls).idxOf x<(dd ms).idxOf y↔ls.idxOf x<ms.idxOf y)/\((dd ls).idxOf x=(dd ms).idxOf y↔ls.idxOf x=ms.idxOf y)):=fun e=>by
   rw[zx5,zx5,e]
   have g1:=zt2 (ls:=ls) (x:=x)
   have g2:=zt2 (ls:=ms) (x:=y)
   rw[e] at g1
   have b1:=yb5 (ls:=ls) (x:=x)
   have b2:=yb5 (ls:=ms) (x:=y)
   rcases Zl8 (ls.idxOf x) (ms.idxOf y) with c | c | c
   .have:=yc8 (g1.resolve_left (by omega)) c
    exact⟨⟨fun _=>c,fun _=>this⟩,⟨fun z=>by omega,fun z=>by omega⟩⟩
   .rw[c];exact⟨⟨fun z=>absurd z (Zjh _),fun z=>absurd z (Zjh _)⟩,⟨fun _=>rfl,fun _=>rfl⟩⟩
   .have:=yc8 (g2.resolve_left (by omega)) c
    exact⟨⟨fun z=>by omega,fun z=>by omega⟩,⟨fun z=>by omega,fun z=>by omega⟩⟩
  rw[zha,zha,znp,znp,zrr (by rw[zo6,zo6,h1,h2]),zrr (by rw[zf2,zf2,h1,h2]),zym,zym,i1,i2]
  constructor
  .constructor
   .rintro(z | ⟨z1,z2⟩)
    .exact .inl z
    .exact .inr ⟨z1,(key z1).1.mp z2⟩
   .rintro(z | ⟨z1,z2⟩)
    .exact .inl z
    .exact .inr ⟨z1,(key z1).1.mpr z2⟩
  .constructor
   .rintro⟨z1,z2⟩;exact⟨z1,(key z1).2.mp z2⟩
   .rintro⟨z1,z2⟩;exact⟨z1,(key z1).2.mpr z2⟩
noncomputable def ngF(g:List Nat):Nat:=g.foldl (fun a x=>max a (x+1)) 0
theorem zjt(g:List Nat)(x:Nat):ngF (g++[x])=max (ngF g) (x+1):=by unfold ngF;rw[Zkg];rfl
theorem zmu(ls:List β):ngF (numF ls)=(dd ls).length:=by
 induction ls using zim with
 | h0=>rfl
 | hs ls x ih =>
  rw[zha,zjt,ih]
  by_cases h:x∈ls
  .rw[zja h]
   have:=zh5 ((zfc (x:=x) ls).mpr h)
   omega
  .rw[zfu h,zlt fun z=>h ((zfc ls).mp z),Zis]
   simp
noncomputable def rgs:Nat->List (List Nat)
 | 0=>[[]]
 | n+1=>(rgs n).flatMap fun g=>(Zid (ngF g+1)).map fun x=>g++[x]
theorem zh7{n:Nat}{g:List Nat}:g∈rgs (n+1) ↔ ∃g'∈rgs n,∃x,x<=ngF g'/\g=g'++[x]:=by
 rw[rgs,List.mem_flatMap]
 constructor
 .rintro⟨g',h1,h2⟩
  obtain⟨x,hx,rfl⟩:=Zit.mp h2
  exact⟨g',h1,x,by have:=Zi2.mp hx;omega,rfl⟩
 .rintro⟨g',h1,x,hx,rfl⟩
  exact⟨g',h1,Zit.mpr ⟨x,Zi2.mpr (by omega),rfl⟩⟩
theorem zgl{n:Nat}:∀{g:List Nat},g∈rgs n->g.length=n:=by
 induction n with
 | zero=>intro g h;rw[rgs] at h;rw[Zic.mp h];rfl
 | succ n ih =>
  intro g h
  obtain⟨g',h1,x,_,rfl⟩:=zh7.mp h
  rw[Zis,ih h1];rfl
theorem zr5(ls:List β):numF ls∈rgs ls.length:=by
 induction ls using zim with
 | h0=>exact Zic.mpr rfl
 | hs ls x ih =>
  rw[zha,Zis]
  exact zh7.mpr ⟨_,ih,_,by rw[zmu];exact yb5,rfl⟩
theorem ya7(k:Nat):∀x,x<=k->(Zid k).idxOf x=x:=by
 induction k with
 | zero=>intro x h;rw[Zvh.mp h];rfl
 | succ k ih =>
  intro x h
  rw[Zl0]
  rcases Zoq x k with c | c
  .rw[zpo (Zi2.mpr c),ih x (by omega)]
  .rw[zqs (fun z=>by have:=Zi2.mp z;omega),Zks]
   by_cases e:k=x
   .rw[if_pos e];exact e
   .rw[if_neg e];omega
theorem yc4{n:Nat}:∀{g:List Nat},g∈rgs n->dd g=Zid (ngF g):=by
 induction n with
 | zero=>intro g h;rw[rgs] at h;rw[Zic.mp h];rfl
 | succ n ih =>
  intro g h
  obtain⟨g',h1,x,hx,rfl⟩:=zh7.mp h
  have e:=ih h1
  have hm:x∈g'↔x<ngF g':=by rw[<- zfc g',e,Zi2]
  rw[zjt]
  rcases Zoq x (ngF g') with c | c
  .rw[zja (hm.mpr c),e];congr 1;omega
  .have:x=ngF g':=by omega
   rw[zfu (fun z=>by have:=hm.mp z;omega),e,this]
   rw[show max (ngF g') (ngF g'+1)=ngF g'+1 by omega,Zl0]
theorem zs9{n:Nat}:∀{g:List Nat},g∈rgs n->numF g=g:=by
 induction n with
 | zero=>intro g h;rw[rgs] at h;rw[Zic.mp h];rfl
 | succ n ih =>
  intro g h
  obtain⟨g',h1,x,hx,rfl⟩:=zh7.mp h
  rw[zha,ih h1,yc4 h1,ya7 _ _ hx]
theorem zvb(ls:List β){i j:Nat}{x y:β}(hi:ls[i]? = some x)(hj:ls[j]? = some y):(numF ls).getD i 0=(numF ls).getD j 0↔x=y:=by
 have e:∀{k:Nat} {z:β},ls[k]? = some z->(numF ls).getD k 0=(dd ls).idxOf z:=fun {k z} h=>by
  unfold numF
  rw[Zh8,Zie,h];rfl
 rw[e hi,e hj]
 constructor
 .intro h
  have hx:x∈dd ls:=(zfc ls).mpr (Zii hi)
  have h1:=Zki (zh5 hx)
  have hy:y∈dd ls:=(zfc ls).mpr (Zii hj)
  have h2:=Zki (zh5 hy)
  rw[<- h1,<- h2]
  exact getElem_congr rfl h _
 .rintro rfl;rfl
theorem zor{α:Type}(xs:List α)(f:α->β)(g:α->γ):(∀a∈xs,∀b∈xs,(f a=f b↔g a=g b))->numF (xs.map f)=numF (xs.map g):=by
 intro h
 refine(zsy _ _ _ (Zia _) (Zia _)).2.mpr ?_
 unfold fstF
 rw[Zja,Zja]
 refine Zjf fun a ha=>?_
 show(xs.map f).idxOf (f a)=(xs.map g).idxOf (g a)
 have:∀ys:List α,(∀b∈ys,(f b=f a↔g b=g a))->(ys.map f).idxOf (f a)=(ys.map g).idxOf (g a):=by
  intro ys
  induction ys with
  | nil=>intro _;rfl
  | cons y ys ih =>
   intro hy
   rw[Zik,Zik,Znj,Znj,ih fun b hb=>hy b (Zij _ hb)]
   have:(f y == f a)=(g y == g a):=by rw[Zjg,beq_iff_eq,beq_iff_eq];exact hy y Zil
   rw[this]
 exact this xs fun b hb=>h b hb a ha
theorem yh9(φ:β->γ)(ls:List β):(dd (ls.map φ)).length<=(dd ls).length/\((dd (ls.map φ)).length=(dd ls).length-> ∀x∈ls,∀y∈ls,φ x=φ y->x=y):=by
 induction ls using zim with
 | h0=>exact⟨Zio _,fun _ x hx=>by simp at hx⟩
 | hs ls z ih =>
  obtain⟨i1,i2⟩:=ih
  rw[Zir,Znq]
  by_cases hz:z∈ls
  .rw[zja hz,zja (Zko hz)]
   refine⟨i1,fun e x hx y hy=>?_⟩
   have:∀{u:β},u∈ls++[z]->u∈ls:=fun {u} hu=>by
    rcases Zin.mp hu with q | q
    .exact q
    .rw[Zic.mp q];exact hz
   exact i2 e x (this hx) y (this hy)
  .rw[zfu hz,Zis]
   by_cases hm:φ z∈ls.map φ
   .rw[zja hm]
    refine⟨by omega,fun e=>?_⟩
    have:[z].length=1:=rfl
    omega
   .rw[zfu hm,Zis]
    refine⟨Zr1 i1 _,fun e x hx y hy hxy=>?_⟩
    have e':(dd (ls.map φ)).length=(dd ls).length:=by
     have h1:[φ z].length=1:=rfl
     have h2:[z].length=1:=rfl
     omega
    rcases Zin.mp hx with q | q <;> rcases Zin.mp hy with r | r
    .exact i2 e' x q y r hxy
    .rw[Zic.mp r] at hxy ⊢
     exact absurd (hxy ▸ Zko q) hm
    .rw[Zic.mp q] at hxy ⊢
     exact absurd (hxy ▸ Zko r) hm
    .rw[Zic.mp q,Zic.mp r]
theorem yaz(π:β->Bool)(ls:List β):(dd ls).length=(dd (ls.filter π)).length+(dd (ls.filter fun x=>!π x)).length:=by
 induction ls using zim with
 | h0=>rfl
 | hs ls z ih =>
  rw[Zky,Zky]
  cases hp:π z with
  | true =>
   rw[Zkw hp,Zkj,Zkx (by simp[hp]),Zkj,Zji]
   by_cases hz:z∈ls
   .rw[zja hz,zja (Zip.mpr ⟨hz,hp⟩),ih]
   .rw[zfu hz,zfu (fun q=>hz (Zip.mp q).1),Zis,Zis,ih]
    omega
  | false =>
   rw[Zkx (by simp[hp]),Zkj,Zji,Zkw (by simp[hp]),Zkj]
   by_cases hz:z∈ls
   .rw[zja hz,zja (Zip.mpr ⟨hz,by simp[hp]⟩),ih]
   .rw[zfu hz,zfu (fun q=>hz (Zip.mp q).1),Zis,Zis,ih]
    omega
noncomputable def ixo(ls:List β)(x:β):Nat:=ls.idxOf x
theorem yg1{ls:List β}{x y:β}(h:x∈ls):ixo (ls++[y]) x=ixo ls x:=zpo h
theorem zu0{ls:List β}{x:β}:ixo (ls++[x]) x=ixo ls x:=zsz
theorem yeb{ls:List β}{x:β}(h:x∉ls):ixo ls x=ls.length:=zlt h
theorem zvg(ls:List β)(x:β):numF (ls++[x])=numF ls++[ixo (dd ls) x]:=zha ls x
end
end L2
namespace L2
noncomputable abbrev Apt:=Nat×Nat
noncomputable abbrev Pr:=Nat×Nat×Int
noncomputable def absI(w:Int):Int:=if w<0 then -w else w
theorem zsd(w:Int):0<=absI w:=by unfold absI;split <;> omega
section
variable{β γ:Type}[DecidableEq β][DecidableEq γ]
noncomputable def zdn(f:Nat->β)(p:Pr):Int:=if decide (f p.1=f p.2.1)=decide (0<p.2.2) then 0 else absI p.2.2
theorem yah(f:Nat->β)(p:Pr):0<=zdn f p:=by unfold zdn;split;exact Zll _;exact zsd _
theorem zhw{f:Nat->β}{g:Nat->γ}{p:Pr}(h:f p.1=f p.2.1↔g p.1=g p.2.1):zdn f p=zdn g p:=by
 unfold zdn
 have:decide (f p.1=f p.2.1)=decide (g p.1=g p.2.1):=by rw[Zjg,decide_eq_true_eq,decide_eq_true_eq];exact h
 rw[this]
noncomputable def sumI:List Int->Int
 | []=>0
 | x::xs=>x+sumI xs
noncomputable def zrx(f:Nat->β)(ps:List Pr):Int:=sumI (ps.map (zdn f))
theorem zzm{α:Type}{f g:α->Int}:∀{ps:List α},(∀p∈ps,f p<=g p)->sumI (ps.map f)<=sumI (ps.map g)
 | [],_=>Zll _
 | p::ps,h=>by
  have h1:=h p Zil
  have h2:=zzm fun q hq=>h q (Zij _ hq)
  show f p+sumI _<=g p+sumI _
  omega
theorem zds{α:Type}{f g:α->Int}{ps:List α}(h:∀p∈ps,f p=g p):sumI (ps.map f)=sumI (ps.map g):=by rw[Zjf h]
theorem zkn{α:Type}(f:α->Int)(π:α->Bool):∀ps:List α,sumI (ps.map f)=sumI ((ps.filter π).map f)+sumI ((ps.filter fun p=>!π p).map f)
 | []=>rfl
 | p::ps=>by
  have ih:=zkn f π ps
  show f p+sumI (ps.map f)=_
  cases hp:π p with
  | true =>
   rw[Zkw hp,Zkx (by simp[hp])]
   show _=f p+sumI _+_
   omega
  | false =>
   rw[Zkx (by simp[hp]),Zkw (by simp[hp])]
   show _=_+(f p+sumI _)
   omega
end
noncomputable def atG(g:List Nat)(i:Nat):Nat:=g.getD i 0
noncomputable def toI(g:List Nat):List Int:=g.map fun n:Nat=>(n:Int)
noncomputable def zb1(ps:List Pr)(g:List Nat):Int:=zrx (atG g) ps
noncomputable def keyG(ps:List Pr)(g:List Nat):List Int:=zb1 ps g::(1 - (ngF g:Int))::toI g
noncomputable def zkk(as:List Apt)(g:List Nat):Prop:=∀a∈as,atG g a.1≠atG g a.2
noncomputable instance(as:List Apt)(g:List Nat):Decidable (zkk as g):=by unfold zkk;infer_instance
theorem yc7:∀{g h:List Nat},toI g<toI h↔g<h
 | [],[]=>by unfold toI;simp
 | [],_::_=>by unfold toI;simp
 | _::_,[]=>by unfold toI;simp
 | x::g,y::h=>by
  have ih:=yc7 (g:=g) (h:=h)
  unfold toI at ih ⊢
  rw[Zik,Zik,Zjv,Zjv,ih]
  constructor
  .rintro(z | ⟨z,q⟩)
   .exact .inl (by omega)
   .exact .inr ⟨by omega,q⟩
  .rintro(z | ⟨z,q⟩)
   .exact .inl (by omega)
   .exact .inr ⟨by omega,q⟩
theorem ztf{ps qs:List Pr}{g h:List Nat}:keyG ps g<keyG qs h↔zb1 ps g<zb1 qs h\/(zb1 ps g=zb1 qs h/\(ngF h<ngF g\/(ngF g=ngF h/\g<h))):=by
 unfold keyG
 rw[Zjv,Zjv,yc7]
 constructor
 .rintro(z | ⟨z,q | ⟨q,r⟩⟩)
  .exact .inl z
  .exact .inr ⟨z,.inl (by omega)⟩
  .exact .inr ⟨z,.inr ⟨by omega,r⟩⟩
 .rintro(z | ⟨z,q | ⟨q,r⟩⟩)
  .exact .inl z
  .exact .inr ⟨z,.inl (by omega)⟩
  .exact .inr ⟨z,.inr ⟨by omega,r⟩⟩
theorem ybd{ps:List Pr}{g h:List Nat}(h1:¬ keyG ps g<keyG ps h)(h2:¬ keyG ps h<keyG ps g):g=h:=by
 have e:keyG ps g=keyG ps h:=List.le_antisymm (Zp4.mp h2) (Zp4.mp h1)
 unfold keyG at e
 injection e with _ e
 injection e with _ e
 unfold toI at e
 have:=congrArg (Ztm Int.toNat) e
 rw[Zja,Zja] at this
 exact(Zmm g).symm.trans (this.trans (Zmm h))
noncomputable def inB(B:List Nat)(i j:Nat):Bool:=decide (i∈B)&&decide (j∈B)
noncomputable def inP(B:List Nat)(ps:List Pr):List Pr:=(ps.filter fun p=>inB B p.1 p.2.1).map fun p=>(B.idxOf p.1,B.idxOf p.2.1,p.2.2)
noncomputable def inA(B:List Nat)(as:List Apt):List Apt:=(as.filter fun a=>inB B a.1 a.2).map fun a=>(B.idxOf a.1,B.idxOf a.2)
theorem ybc{β γ:Type}[DecidableEq β][DecidableEq γ]{f:Nat->β}{g:Nat->γ}{ps:List Pr}(h:∀p∈ps,(f p.1=f p.2.1↔g p.1=g p.2.1)):zrx f ps=zrx g ps:=zds fun p hp=>zhw (h p hp)
section
variable{β γ:Type}[DecidableEq β][DecidableEq γ]
theorem zot{m:Nat}{f:Nat->β}{ps:List Pr}(h:∀p∈ps,p.1<m/\p.2.1<m):zb1 ps (numF ((Zid m).map f))=zrx f ps:=by
 refine ybc fun p hp=>?_
 obtain⟨h1,h2⟩:=h p hp
 exact zvb _ (by rw[Zie,Zkd h1];rfl) (by rw[Zie,Zkd h2];rfl)
theorem ztd{B:List Nat}{b:Nat}(h:b∈B):B[B.idxOf b]? = some b:=by
 rw[Zh9 (zh5 h),Zki]
theorem zwx{B:List Nat}{f:Nat->β}{ps:List Pr}:zb1 (inP B ps) (numF (B.map f))=zrx f (ps.filter fun p=>inB B p.1 p.2.1):=by
 unfold zb1 zrx inP
 rw[Zja]
 refine zds fun p hp=>?_
 obtain⟨_,hb⟩:=Zip.mp hp
 obtain⟨h1,h2⟩:p.1∈B/\p.2.1∈B:=by simpa[inB] using hb
 have:=zvb (B.map f) (i:=B.idxOf p.1) (j:=B.idxOf p.2.1) (by rw[Zie,ztd h1];rfl) (by rw[Zie,ztd h2];rfl)
 show zdn (atG (numF (B.map f))) (B.idxOf p.1,B.idxOf p.2.1,p.2.2)=zdn f p
 unfold zdn
 have e:decide (atG (numF (B.map f)) (B.idxOf p.1)=atG (numF (B.map f)) (B.idxOf p.2.1))=decide (f p.1=f p.2.1):=by rw[Zjg,decide_eq_true_eq,decide_eq_true_eq];exact this
 show(if decide (atG (numF (B.map f)) (B.idxOf p.1)=atG (numF (B.map f)) (B.idxOf p.2.1))=_ then _ else _)=_
 rw[e]
theorem zzc{m:Nat}{ps:List Pr}{as:List Apt}{place:Nat->Nat}{h:List Nat}(hh:h∈rgs m)(hk:zkk as h)(hin:∀p∈ps,p.1<m/\p.2.1<m)(hl:∀p∈ps,0<p.2.2->place p.1=place p.2.1\/(p.1,p.2.1)∈as) :
  ¬ keyG ps h<keyG ps (numF ((Zid m).map fun b=>(place b,atG h b))):=by
 have hlen:=zgl hh
 have e1:(Zid m).map (atG h)=h:=by
  refine Zlp fun i=>?_
  rw[Zie]
  by_cases hi:i<m
  .rw[Zkd hi]
   show some (atG h i)=_
   unfold atG
   rw[Zh8,Zh9 (by omega)];rfl
  .rw[Zjz (by simp;omega),Zjz (by omega)];rfl
 have e2:((Zid m).map fun b=>(place b,atG h b)).map Zth=h:=by rw[Zja];exact e1
 obtain⟨d1,d2⟩:=yh9 (Zth:Nat×Nat->Nat) ((Zid m).map fun b=>(place b,atG h b))
 rw[e2] at d1 d2
 have hn:ngF h=(dd h).length:=by have:=zmu h;rw[zs9 hh] at this;exact this
 have hL:zb1 ps (numF ((Zid m).map fun b=>(place b,atG h b)))<=zb1 ps h:=by
  rw[zot hin]
  unfold zb1
  refine zzm fun p hp=>?_
  by_cases hq:place p.1=place p.2.1
  .refine Zu5 (zhw ?_)
   rw[Zm7]
   exact⟨fun z=>z.2,fun z=>⟨hq,z⟩⟩
  .have hne:¬ ((place p.1,atG h p.1)=(place p.2.1,atG h p.2.1)):=fun z=>hq (by injection z)
   rcases Int.lt_or_le 0 p.2.2 with c | c
   .have:=hk _ ((hl p hp c).resolve_left hq)
    refine Zu5 (zhw ⟨fun z=>absurd z hne,fun z=>absurd z this⟩)
   .have:zdn (fun b=>(place b,atG h b)) p=0:=by
     unfold zdn
     rw[decide_eq_false hne,decide_eq_false (by omega),if_pos rfl]
    rw[this];exact yah _ _
 rw[ztf,zmu,hn]
 rintro(z | ⟨z,q | ⟨q,r⟩⟩)
 .omega
 .omega
 .have inj:=d2 q
  have:numF ((Zid m).map fun b=>(place b,atG h b))=numF ((Zid m).map (atG h)):=zor _ _ _ fun a ha b hb=>by
   rw[Zm7]
   refine⟨fun z=>z.2,fun z=>?_⟩
   have:=inj (place a,atG h a) (Zit.mpr ⟨a,ha,rfl⟩) (place b,atG h b) (Zit.mpr ⟨b,hb,rfl⟩) z
   rw[Zm7] at this
   exact this
  rw[this,e1,zs9 hh] at r
  exact Zmg _ r
theorem yf5{m:Nat}{ps:List Pr}{B:List Nat}{π:Nat->Bool}{f:Nat->β}{g:Nat->γ}(hin:∀p∈ps,p.1<m/\p.2.1<m)(hB:B=(Zid m).filter π)(hout:∀a<m,∀b<m,π a=false->π b=false->(f a=f b↔g a=g b))
  (hf:∀a<m,∀b<m,π a=true->π b=false->f a≠f b) (hg:∀a<m,∀b<m,π a=true->π b=false->g a≠g b) (hle:¬ keyG (inP B ps) (numF (B.map f))<keyG (inP B ps) (numF (B.map g))) :
  ¬ keyG ps (numF ((Zid m).map f))<keyG ps (numF ((Zid m).map g)):=by
 have memB:∀{b:Nat},b<m->(b∈B↔π b=true):=fun {b} hb=>by
  rw[hB,Zip,Zi2];exact⟨fun z=>z.2,fun z=>⟨hb,z⟩⟩
 have hs:=zkn (zdn f) (fun p:Pr=>inB B p.1 p.2.1) ps
 have hs2:=zkn (zdn g) (fun p:Pr=>inB B p.1 p.2.1) ps
 have ho:sumI ((ps.filter fun p=>!inB B p.1 p.2.1).map (zdn f))=sumI ((ps.filter fun p=>!inB B p.1 p.2.1).map (zdn g)):=zds fun p hp=>zhw (by
  obtain⟨h1,h2⟩:=Zip.mp hp
  obtain⟨b1,b2⟩:=hin p h1
  have h2:¬ (p.1∈B/\p.2.1∈B):=fun z=>by rw[show inB B p.1 p.2.1=true by unfold inB;rw[decide_eq_true z.1,decide_eq_true z.2];rfl] at h2;cases h2
  rw[memB b1,memB b2] at h2
  cases c1:π p.1 with
  | true =>
   have c2:π p.2.1=false:=by cases c:π p.2.1 with
    | true=>exact absurd ⟨c1,c⟩ h2
    | false=>rfl
   exact⟨fun z=>absurd z (hf _ b1 _ b2 c1 c2),fun z=>absurd z (hg _ b1 _ b2 c1 c2)⟩
  | false =>
   cases c2:π p.2.1 with
   | true=>exact⟨fun z=>absurd z.symm (hf _ b2 _ b1 c2 c1),fun z=>absurd z.symm (hg _ b2 _ b1 c2 c1)⟩
   | false=>exact hout _ b1 _ b2 c1 c2)
 have l1:zb1 ps (numF ((Zid m).map f))=zb1 (inP B ps) (numF (B.map f))+sumI ((ps.filter fun p=>!inB B p.1 p.2.1).map (zdn f)):=by rw[zot hin,zwx];exact hs
 have l2:zb1 ps (numF ((Zid m).map g))=zb1 (inP B ps) (numF (B.map g))+sumI ((ps.filter fun p=>!inB B p.1 p.2.1).map (zdn f)):=by rw[zot hin,zwx,ho];exact hs2
 have cut:∀{δ:Type} [DecidableEq δ] {u:Nat->δ},(∀a<m,∀b<m,π a=true->π b=false->u a≠u b)->(dd ((Zid m).map u)).length=(dd (B.map u)).length+(dd (((Zid m).filter fun b=>!π b).map u)).length:=fun {δ _ u} hu=>by
  have:=yaz (fun x=>decide (x∈B.map u)) ((Zid m).map u)
  rw[Zok,Zok] at this
  have q1:(Zid m).filter ((fun x=>decide (x∈B.map u))∘u)=B:=by
   rw[hB]
   refine Zmx fun b hb=>?_
   have hb:=Zi2.mp hb
   show decide (u b∈((Zid m).filter π).map u)=π b
   cases c:π b with
   | true=>exact decide_eq_true (Zit.mpr ⟨b,Zip.mpr ⟨Zi2.mpr hb,c⟩,rfl⟩)
   | false =>
    refine decide_eq_false fun z=>?_
    obtain⟨a,ha,e⟩:=Zit.mp z
    obtain⟨h1,h2⟩:=Zip.mp ha
    exact hu a (Zi2.mp h1) b hb h2 c e
  have q2:(Zid m).filter ((fun x=>!decide (x∈B.map u))∘u)=(Zid m).filter fun b=>!π b:=by
   refine Zmx fun b hb=>?_
   have hb:=Zi2.mp hb
   show(!decide (u b∈B.map u))= !π b
   congr 1
   cases c:π b with
   | true=>exact decide_eq_true (Zit.mpr ⟨b,(memB hb).mpr c,rfl⟩)
   | false =>
    refine decide_eq_false fun z=>?_
    obtain⟨a,ha,e⟩:=Zit.mp z
    have ha':=ha
    rw[hB] at ha'
    obtain⟨h1,h2⟩:=Zip.mp ha'
    exact hu a (Zi2.mp h1) b hb h2 c e
  rw[q1,q2] at this
  exact this
 have n1:=cut hf
 have n2:=cut hg
 have n3:(dd (((Zid m).filter fun b=>!π b).map f)).length=(dd (((Zid m).filter fun b=>!π b).map g)).length:=by
  rw[<- zmu,<- zmu]
  refine congrArg ngF (zor _ _ _ fun a ha b hb=>?_)
  obtain⟨a1,a2⟩:=Zip.mp ha
  obtain⟨b1,b2⟩:=Zip.mp hb
  exact hout a (Zi2.mp a1) b (Zi2.mp b1) (by simpa using a2) (by simpa using b2)
 rw[ztf,zmu,zmu] at hle ⊢
 rw[l1,l2,n1,n2,n3]
 rintro(z | ⟨z,q | ⟨q,r⟩⟩)
 .exact hle (.inl (by omega))
 .exact hle (.inr ⟨by omega,.inl (by omega)⟩)
 .refine hle (.inr ⟨by omega,.inr ⟨by omega,?_⟩⟩)
  -- the first place where they differ lies in the part
  have lm:∀{δ:Type} (u:Nat->δ),((Zid m).map u).length=m:=fun u=>by simp
  have r':=(zsy m _ _ (lm f) (lm g)).1.mp r
  refine(zsy B.length _ _ (Zia _) (Zia _)).1.mpr ?_
  have glo:∀{δ:Type} [DecidableEq δ] (u:Nat->δ) (b:Nat),b<m-> ∀k,((Zid m).map u).idxOf (u b)=k↔k<m/\u k=u b /\ ∀c<k,u c≠u b:=fun {δ _} u b hb k=>by
   have hm:u b∈(Zid m).map u:=Zit.mpr ⟨b,Zi2.mpr hb,rfl⟩
   have hlt:=zh5 hm
   rw[lm] at hlt
   have hget:=Zki (zh5 hm)
   rw[Zmk,Zse] at hget
   have hmin:∀c<((Zid m).map u).idxOf (u b),u c≠u b:=fun c hc z=>by
    have h1:((Zid m).map u)[c]'(by rw[lm];omega)=u b:=by rw[Zmk,Zse];exact z
    have h2:=Zrj (p:=(· == u b)) (xs:=(Zid m).map u) (i:=c) hc
    rw[h1] at h2
    simp at h2
   constructor
   .rintro rfl
    exact⟨hlt,hget,hmin⟩
   .rintro⟨k1,k2,k3⟩
    rcases Zl8 (((Zid m).map u).idxOf (u b)) k with c | c | c
    .exact absurd hget (k3 _ c)
    .exact c
    .exact absurd k2 (hmin _ c)
  have asc:B.Pairwise (· < ·):=by rw[hB];exact Zuc Zlr List.pairwise_lt_range
  have bm:∀{t:Nat} (h:t<B.length),B[t]<m:=fun {t} h=>by
   have:B[t]∈(Zid m).filter π:=hB ▸ Zla h
   exact Zi2.mp (Zip.mp this).1
  have bπ:∀{t:Nat} (h:t<B.length),π B[t]=true:=fun {t} h=>(memB (bm h)).mp (Zla h)
  have mono:∀{s t:Nat} (h1:s<B.length) (h2:t<B.length),(B[s]<B[t]↔s<t):=fun {s t} h1 h2=>by
   rw[Zk3] at asc
   rcases Zl8 s t with c | c | c
   .exact⟨fun _=>c,fun _=>asc _ _ h1 h2 c⟩
   .subst c;exact⟨fun z=>absurd z (Zjh _),fun z=>absurd z (Zjh _)⟩
   .have:=asc _ _ h2 h1 c
    exact⟨fun z=>by omega,fun z=>by omega⟩
  -- a first within the part
  have loc:∀{δ:Type} [DecidableEq δ] (u:Nat->δ),(∀a<m,∀b<m,π a=true->π b=false->u a≠u b)-> ∀t (h:t<B.length),∃s,∃hs:s<B.length,(B.map u).idxOf (u B[t])=s/\((Zid m).map u).idxOf (u B[t])=B[s]:=fun {δ _} u hu t ht=>by
   have hm:u B[t]∈B.map u:=Zit.mpr ⟨_,Zla ht,rfl⟩
   have hlt:=zh5 hm
   rw[Zia] at hlt
   refine⟨_,hlt,rfl,(glo u _ (bm ht) _).mpr ⟨bm hlt,?_,fun c hc z=>?_⟩⟩
   .have hget:=Zki (zh5 hm)
    rw[Zmk] at hget
    exact hget
   .have hcm:c<m:=Zlj hc (bm hlt)
    have hcB:c∈B:=(memB hcm).mpr (by
     cases q:π c with
     | true=>rfl
     | false=>exact absurd z.symm (hu _ (bm ht) _ hcm (bπ ht) q))
    obtain⟨s,hs,rfl⟩:=Zmn hcB
    have hst:s<(B.map u).idxOf (u B[t]):=(mono hs hlt).mp hc
    have h2:=Zrj (p:=(· == u B[t])) (xs:=B.map u) (i:=s) hst
    rw[Zmk,z] at h2
    simp at h2
  rw[List.lt_iff_exists] at r' ⊢
  rcases r' with ⟨_,z⟩ | ⟨b,hb1,hb2,heq,hlt⟩
  .rw[zf2,zf2,lm,lm] at z;omega
  .refine .inr ?_
   rw[zf2,lm] at hb1
   have ga:∀{δ:Type} [DecidableEq δ] (u:Nat->δ) (c:Nat) (h:c<(fstF ((Zid m).map u)).length),(fstF ((Zid m).map u))[c]=((Zid m).map u).idxOf (u c):=fun {δ _} u c h=>by
    simp[fstF]
   have gb:∀{δ:Type} [DecidableEq δ] (u:Nat->δ) (c:Nat) (h:c<(fstF (B.map u)).length) (hc:c<B.length),(fstF (B.map u))[c]=(B.map u).idxOf (u B[c]):=fun {δ _} u c h hc=>by
    simp[fstF]
   rw[ga,ga] at hlt
   have heq':∀c<b,((Zid m).map f).idxOf (f c)=((Zid m).map g).idxOf (g c):=fun c hc=>by
    have:=heq c hc
    rw[ga,ga] at this
    exact this
   have hbB:π b=true:=by
    cases q:π b with
    | true=>rfl
    | false =>
     refine absurd hlt (Nat.not_lt.mpr (Zor ?_))
     symm
     refine(glo f b hb1 _).mpr ?_
     obtain⟨k1,k2,k3⟩:=(glo g b hb1 _).mp rfl
     have πk:∀c,c<m->g c=g b->π c=false:=fun c hc z=>by
      cases w:π c with
      | false=>rfl
      | true=>exact absurd z (hg c hc b hb1 w q)
     refine⟨k1,(hout _ k1 _ hb1 (πk _ k1 k2) q).mpr k2,fun c hc z=>?_⟩
     have hcm:=Zlj hc k1
     have:π c=false:=by
      cases w:π c with
      | false=>rfl
      | true=>exact absurd z (hf c hcm b hb1 w q)
     exact k3 c hc ((hout _ hcm _ hb1 this q).mp z)
   obtain⟨t,ht,rfl⟩:=Zmn ((memB hb1).mpr hbB)
   refine⟨t,by rw[zf2,Zia];exact ht,by rw[zf2,Zia];exact ht,fun s hs=>?_,?_⟩
   .have hsl:s<B.length:=Zlj hs ht
    rw[gb f s _ hsl,gb g s _ hsl]
    obtain⟨s1,p1,q1,w1⟩:=loc f hf s hsl
    obtain⟨s2,p2,q2,w2⟩:=loc g hg s hsl
    have:=heq' B[s] ((mono hsl ht).mpr hs)
    rw[w1,w2] at this
    rw[q1,q2]
    rcases Zl8 s1 s2 with c | c | c
    .have:=(mono p1 p2).mpr c;omega
    .exact c
    .have:=(mono p2 p1).mpr c;omega
   .rw[gb f t _ ht,gb g t _ ht]
    obtain⟨s1,p1,q1,w1⟩:=loc f hf t ht
    obtain⟨s2,p2,q2,w2⟩:=loc g hg t ht
    rw[w1,w2] at hlt
    rw[q1,q2]
    exact(mono p1 p2).mp hlt
noncomputable def labG(place:Nat->Nat)(B:Nat->List Nat)(Gs:Nat->List Nat)(b:Nat):Nat×Nat:=(place b,atG (Gs (place b)) ((B (place b)).idxOf b))
noncomputable def yiw(m:Nat)(place:Nat->Nat)(B:Nat->List Nat)(Gs:Nat->List Nat):List Nat:=numF ((Zid m).map (labG place B Gs))
structure BestOf(n:Nat)(ps:List Pr)(as:List Apt)(g:List Nat):Prop where
 rg:g∈rgs n
 kp:zkk as g
 le:∀h∈rgs n,zkk as h-> ¬ keyG ps h<keyG ps g
theorem BestOf.uniq{n:Nat}{ps:List Pr}{as:List Apt}{g h:List Nat}(a:BestOf n ps as g)(b:BestOf n ps as h):g=h:=ybd (b.le _ a.rg a.kp) (a.le _ b.rg b.kp)
theorem zt8{n:Nat}{f:Nat->β}{as:List Apt}(ha:∀a∈as,a.1<n/\a.2<n)(h:∀a∈as,f a.1≠f a.2):zkk as (numF ((Zid n).map f)):=fun a hm=>by
 obtain⟨h1,h2⟩:=ha a hm
 refine fun z=>h a hm ?_
 exact(zvb ((Zid n).map f) (by rw[Zie,Zkd h1];rfl) (by rw[Zie,Zkd h2];rfl)).mp z
theorem ydf{B:List Nat}(hn:B.Nodup){i:Nat}(h:i<B.length):B.idxOf B[i]=i:=by
 have hl:=zh5 (Zla h)
 have h1:=Zki hl
 unfold Zjt at hn
 rw[Zk3] at hn
 rcases Zl8 (B.idxOf B[i]) i with c | c | c
 .exact absurd h1 (hn _ _ hl h c)
 .exact c
 .exact absurd h1.symm (hn _ _ h hl c)
theorem ydu{B:List Nat}{g:List Nat}(hn:B.Nodup)(hl:g.length=B.length):B.map (fun b=>atG g (B.idxOf b))=g:=by
 refine Zlp fun i=>?_
 rw[Zie]
 by_cases hi:i<B.length
 .rw[Zh9 hi]
  show some (atG g (B.idxOf B[i]))=_
  rw[ydf hn hi]
  unfold atG
  rw[Zh8,Zh9 (by omega)];rfl
 .rw[Zjz (by omega),Zjz (by omega)];rfl
theorem zvv {m n : Nat} {ps : List Pr} {as : List Apt} {place : Nat -> Nat} {B : Nat -> List Nat} {Gs : Nat -> List Nat} (hin : ∀ p ∈ ps, p.1 < m /\ p.2.1 < m) (ha : ∀ a ∈ as, a.1 < m /\ a.2 < m) (hl : ∀ p ∈ ps, 0 < p.2.2 -> place p.1 = place p.2.1 \/ (p.1, p.2.1) ∈ as)
  (hp:∀b<m,place b<n) (hB:∀k<n,B k=(Zid m).filter fun b=>decide (place b=k)) (hG:∀k<n,BestOf (B k).length (inP (B k) ps) (inA (B k) as) (Gs k)):BestOf m ps as (yiw m place B Gs):=by
 have hnd:∀k<n,(B k).Nodup:=fun k hk=>by rw[hB k hk];exact Zmh Zlr Zpr
 have hmem:∀k<n,∀b<m,(b∈B k↔place b=k):=fun k hk b hb=>by
  rw[hB k hk,Zip,Zi2,decide_eq_true_eq];exact⟨fun z=>z.2,fun z=>⟨hb,z⟩⟩
 refine⟨?_,?_,fun h hh hk=>?_⟩
 .have:=zr5 ((Zid m).map (labG place B Gs))
  rw[Zia,Zks] at this
  exact this
 .refine zt8 ha fun a hm z=>?_
  obtain⟨h1,h2⟩:=ha a hm
  unfold labG at z
  rw[Zm7] at z
  obtain⟨z1,z2⟩:=z
  rw[<- z1] at z2
  have hk:=hp a.1 h1
  have b1:=(hmem _ hk _ h1).mpr rfl
  have b2:=(hmem _ hk _ h2).mpr z1.symm
  exact(hG _ hk).kp ((B (place a.1)).idxOf a.1,(B (place a.1)).idxOf a.2) (Zit.mpr ⟨a,Zip.mpr ⟨hm,by unfold inB;rw[decide_eq_true b1,decide_eq_true b2];rfl⟩,rfl⟩) z2
 ·-- part after part takes its best grouping
  let fk:Nat->Nat->Nat×Nat:=fun k b=>if place b<k then labG place B Gs b else (place b,atG h b)
  have step : ∀ k, k <= n -> ¬ keyG ps h < keyG ps (numF ((Zid m).map (fk k))) := by
   intro k
   induction k with
   | zero =>
    intro _
    have:(Zid m).map (fk 0)=(Zid m).map fun b=>(place b,atG h b):=Zjf fun b _=>if_neg (Zjo _)
    rw[this]
    exact zzc hh hk hin hl
   | succ k ih =>
    intro hkn
    have hkn':k<n:=hkn
    have h1:=ih (Zl4 hkn)
    have f0:∀b,place b≠k->fk (k+1) b=fk k b:=fun b hb=>by
     show(if place b<k+1 then _ else _)=if place b<k then _ else _
     by_cases c:place b<k
     .rw[if_pos c,if_pos (by omega)]
     .rw[if_neg c,if_neg (by omega)]
    have fst1:∀j b,(fk j b).1=place b:=fun j b=>by
     show(if place b<j then labG place B Gs b else (place b,atG h b)).1=_
     split <;> rfl
    have sep:∀j,∀a<m,∀b<m,decide (place a=k)=true->decide (place b=k)=false->fk j a≠fk j b:=fun j a _ b _ c1 c2 z=>by
     have:=congrArg Zv1 z
     rw[fst1,fst1] at this
     rw[decide_eq_true_eq] at c1
     rw[decide_eq_false_iff_not] at c2
     omega
    have h2:¬ keyG ps (numF ((Zid m).map (fk k)))<keyG ps (numF ((Zid m).map (fk (k+1)))):=by
     refine yf5 (B:=B k) (π:=fun b=>decide (place b=k)) hin (hB k hkn') (fun a _ b _ c1 c2=>?_) (sep k) (sep (k+1)) ?_
     .rw[decide_eq_false_iff_not] at c1 c2
      rw[f0 a c1,f0 b c2]
     .have hb:∀b∈B k,place b=k:=fun b hb=>by
       rw[hB k hkn'] at hb
       exact of_decide_eq_true (Zip.mp hb).2
      have e1:numF ((B k).map (fk k))=numF ((B k).map (atG h)):=zor _ _ _ fun a ha b hb'=>by
       show(if place a<k then _ else _)=(if place b<k then _ else _)↔_
       rw[if_neg (by rw[hb a ha];omega),if_neg (by rw[hb b hb'];omega),hb a ha,hb b hb',Zm7]
       exact⟨fun z=>z.2,fun z=>⟨rfl,z⟩⟩
      have e2:numF ((B k).map (fk (k+1)))=Gs k:=by
       have:numF ((B k).map (fk (k+1)))=numF ((B k).map fun b=>atG (Gs k) ((B k).idxOf b)):=zor _ _ _ fun a ha b hb'=>by
        show(if place a<k+1 then _ else _)=(if place b<k+1 then _ else _)↔_
        rw[if_pos (by rw[hb a ha];omega),if_pos (by rw[hb b hb'];omega)]
        unfold labG
        rw[hb a ha,hb b hb',Zm7]
        exact⟨fun z=>z.2,fun z=>⟨rfl,z⟩⟩
       rw[this,ydu (hnd k hkn') (zgl (hG k hkn').rg),zs9 (hG k hkn').rg]
      rw[e1,e2]
      have hr:=zr5 ((B k).map (atG h))
      rw[Zia] at hr
      refine(hG k hkn').le _ hr fun a hm=>?_
      obtain⟨c,hc,rfl⟩:=Zit.mp hm
      obtain⟨hc1,hc2⟩:=Zip.mp hc
      obtain⟨b1,b2⟩:c.1∈B k/\c.2∈B k:=by
       unfold inB at hc2
       rw[Ziq,decide_eq_true_eq,decide_eq_true_eq] at hc2
       exact hc2
      intro z
      exact hk c hc1 ((zvb ((B k).map (atG h)) (by rw[Zie,ztd b1];rfl) (by rw[Zie,ztd b2];rfl)).mp z)
    exact fun z=>h2 (Zr2 (Zp4.mp h1) z)
  have:=step n (Zio _)
  have e:(Zid m).map (fk n)=(Zid m).map (labG place B Gs):=Zjf fun b hb=>if_pos (hp b (Zi2.mp hb))
  rw[e] at this
  exact this
end
end L2
namespace L2
theorem ydc{α:Type}(key:α->List Int):∀{xs:List α},xs≠[]-> ∃x∈xs,∀y∈xs,¬ key y<key x
 | [],h=>absurd rfl h
 | [x],_=>⟨x,Zil,fun y hy=>by rw[Zic.mp hy];exact Zmg _⟩
 | x::y::r,_=>by
  obtain⟨z,hz,hm⟩:=ydc key (xs:=y::r) (List.cons_ne_nil _ _)
  by_cases c:key x<key z
  .refine⟨x,Zil,fun u hu=>?_⟩
   rcases Ziy.mp hu with rfl | hu
   .exact Zmg _
   .exact fun q=>hm u hu (Ztn q c)
  .refine⟨z,Zij _ hz,fun u hu=>?_⟩
   rcases Ziy.mp hu with rfl | hu
   .exact c
   .exact hm u hu
theorem zt1(n:Nat):numF (Zid n)∈rgs n:=by
 have:=zr5 (Zid n)
 rw[Zks] at this
 exact this
theorem zva{n:Nat}{as:List Apt}(h:∀a∈as,a.1<n/\a.2<n/\a.1≠a.2):zkk as (numF (Zid n)):=by
 have:=zt8 (n:=n) (f:=id) (as:=as) (fun a ha=>⟨(h a ha).1,(h a ha).2.1⟩) fun a ha=>(h a ha).2.2
 rw[Zmm] at this
 exact this
theorem ye4{n:Nat}(ps:List Pr){as:List Apt}(h:∀a∈as,a.1<n/\a.2<n/\a.1≠a.2):∃g,BestOf n ps as g:=by
 have hm:numF (Zid n)∈(rgs n).filter fun g=>decide (zkk as g):=Zip.mpr ⟨zt1 n,decide_eq_true (zva h)⟩
 obtain⟨g,hg,hl⟩:=ydc (keyG ps) (Zsc hm)
 obtain⟨g1,g2⟩:=Zip.mp hg
 exact⟨g,g1,of_decide_eq_true g2,fun h h1 h2=>hl h (Zip.mpr ⟨h1,decide_eq_true h2⟩)⟩
open Classical in
noncomputable def bestP(n:Nat)(ps:List Pr)(as:List Apt):List Nat:=if h:∃g,BestOf n ps as g then choose h else []
theorem ztq{n:Nat}{ps:List Pr}{as:List Apt}(h:∀a∈as,a.1<n/\a.2<n/\a.1≠a.2):BestOf n ps as (bestP n ps as):=by
 have hx:=ye4 ps h
 unfold bestP
 rw[dif_pos hx]
 exact Zqo hx
theorem yat{n:Nat}{ps:List Pr}{as:List Apt}{g:List Nat}(h:BestOf n ps as g):bestP n ps as=g:=by
 have hx:∃g,BestOf n ps as g:=⟨g,h⟩
 have:BestOf n ps as (bestP n ps as):=by
  unfold bestP
  rw[dif_pos hx]
  exact Zqo hx
 exact this.uniq h
noncomputable def zw5(n:Nat)(ps:List Pr)(as:List Apt):Prop:=(∀p∈ps,p.1<n/\p.2.1<n) /\ ∀a∈as,a.1<n/\a.2<n/\a.1≠a.2
theorem ygd{B:List Nat}{i j:Nat}(hi:i∈B)(hj:j∈B)(h:B.idxOf i=B.idxOf j):i=j:=by
 have h1:=ztd hi
 rw[h,ztd hj] at h1
 injection h1 with h1
 exact h1.symm
theorem zx4{B:List Nat}{i j:Nat}:inB B i j=true↔i∈B/\j∈B:=by
 unfold inB
 rw[Ziq,decide_eq_true_eq,decide_eq_true_eq]
theorem zsc{m:Nat}{ps:List Pr}{as:List Apt}(h:zw5 m ps as)(B:List Nat):zw5 B.length (inP B ps) (inA B as):=by
 refine⟨fun p hp=>?_,fun a ha=>?_⟩
 .obtain⟨q,hq,rfl⟩:=Zit.mp hp
  obtain⟨b1,b2⟩:=zx4.mp (Zip.mp hq).2
  exact⟨zh5 b1,zh5 b2⟩
 .obtain⟨q,hq,rfl⟩:=Zit.mp ha
  obtain⟨q1,q2⟩:=Zip.mp hq
  obtain⟨b1,b2⟩:=zx4.mp q2
  exact⟨zh5 b1,zh5 b2,fun z=>(h.2 q q1).2.2 (ygd b1 b2 z)⟩
section
variable{f:Nat->Nat}{m:Nat}
noncomputable def plc(f:Nat->Nat)(m b:Nat):Nat:=((zhc f (Zid m)).map f).idxOf (f b)
noncomputable def prt(f:Nat->Nat)(m k:Nat):List Nat:=(zb7 f (Zid m)).getD k []
theorem ydk{b:Nat}(h:b<m):plc f m b<(zb7 f (Zid m)).length:=by
 have:f b∈(zhc f (Zid m)).map f:=by
  obtain⟨y,hy,e⟩:=(znz (f:=f) (xs:=Zid m) (f b)).mpr ⟨b,Zi2.mpr h,rfl⟩
  exact Zit.mpr ⟨y,hy,e⟩
 have:=zh5 this
 unfold zb7
 rw[Zia] at this ⊢
 exact this
theorem ydr{b k:Nat}(hb:b<m){y:Nat}(hy:(zhc f (Zid m))[k]? = some y):f b=f y↔plc f m b=k:=by
 have hnd:=zuh (f:=f) (xs:=Zid m)
 have hyk:((zhc f (Zid m)).map f)[k]? = some (f y):=by rw[Zie,hy];rfl
 have hk:=(Zif.mp hyk)
 unfold plc
 constructor
 .intro e
  rw[e,<- hk.2]
  exact ydf hnd hk.1
 .intro e
  have hm:f b∈(zhc f (Zid m)).map f:=by
   obtain⟨z,hz,e⟩:=(znz (f:=f) (xs:=Zid m) (f b)).mpr ⟨b,Zi2.mpr hb,rfl⟩
   exact Zit.mpr ⟨z,hz,e⟩
  have:=Zki (zh5 hm)
  rw[<- this,<- hk.2]
  exact getElem_congr rfl e _
theorem zw0{k:Nat}(h:k<(zb7 f (Zid m)).length):prt f m k=(Zid m).filter fun b=>decide (plc f m b=k):=by
 have h':k<(zhc f (Zid m)).length:=by unfold zb7 at h;rw[Zia] at h;exact h
 unfold prt zb7
 rw[Zh8,Zie,Zh9 h']
 show(Zid m).filter _=_
 refine Zmx fun b hb=>?_
 rw[Zjg,decide_eq_true_eq,decide_eq_true_eq]
 exact ydr (Zi2.mp hb) (Zh9 h')
theorem ye5{k b:Nat}(hk:k<(zb7 f (Zid m)).length):b∈prt f m k↔b<m/\plc f m b=k:=by
 rw[zw0 hk,Zip,Zi2,decide_eq_true_eq]
theorem ygq{k:Nat}(hk:k<(zb7 f (Zid m)).length):(prt f m k).Nodup:=by
 rw[zw0 hk];exact Zmh Zlr Zpr
noncomputable def grsM(f:Nat->Nat)(m:Nat)(ps:List Pr)(as:List Apt)(k:Nat):List Nat:=bestP (prt f m k).length (inP (prt f m k) ps) (inA (prt f m k) as)
noncomputable def labM(f:Nat->Nat)(m:Nat)(ps:List Pr)(as:List Apt):Nat->Nat×Nat:=labG (plc f m) (prt f m) (grsM f m ps as)
noncomputable def zra(f:Nat->Nat)(m:Nat)(ps:List Pr)(as:List Apt):List Nat:=numF ((Zid m).map (labM f m ps as))
theorem ya9{ps:List Pr}{as:List Apt}(hg:zw5 m ps as)(hl:∀p∈ps,0<p.2.2->f p.1=f p.2.1\/(p.1,p.2.1)∈as):BestOf m ps as (zra f m ps as) :=
 zvv (n:=(zb7 f (Zid m)).length) (B:=prt f m) (Gs:=grsM f m ps as) hg.1 (fun a ha=>⟨(hg.2 a ha).1,(hg.2 a ha).2.1⟩) (fun p hp hw=>(hl p hp hw).imp (fun e=>by unfold plc;rw[e]) id) (fun b hb=>ydk hb) (fun k hk=>zw0 hk) fun k hk=>ztq (zsc hg _).2
end
end L2
namespace L2
open PySem PySem.Spec PyProof.Rows
theorem zu7(kvs:DD)(k d k':D):valD (putD kvs k d) k'=if k'=k then some d else valD kvs k':=by
 have hm:∀{kvs:DD},¬ k'=k->(kvs.map fun kv=>if kv.1=k then (kv.1,d) else kv).find? (fun kv=>decide (kv.1=k'))=kvs.find? fun kv=>decide (kv.1=k'):=fun {kvs} hk=>by
  induction kvs with
  | nil=>rfl
  | cons q kvs ih =>
   rw[Zik,Zjy,Zjy,ih]
   by_cases c:q.1=k
   .rw[if_pos c]
    have:¬ q.1=k':=fun z=>hk (z.symm.trans c)
    rw[decide_eq_false this]
   .rw[if_neg c]
 unfold valD putD
 by_cases h:(kvs.any fun kv=>decide (kv.1=k))=true
 .rw[if_pos h]
  by_cases hk:k'=k
  .subst hk
   rw[if_pos rfl]
   clear hm
   induction kvs with
   | nil=>cases h
   | cons q kvs ih =>
    rw[Zik,Zjy]
    by_cases c:q.1=k'
    .rw[if_pos c,decide_eq_true c];rfl
    .rw[if_neg c,decide_eq_false c]
     rw[Zls,decide_eq_false c,Zms] at h
     exact ih h
  .rw[if_neg hk,hm hk]
 .rw[if_neg h,List.find?_append]
  by_cases hk:k'=k
  .subst hk
   rw[if_pos rfl]
   have:kvs.find? (fun kv=>decide (kv.1=k'))=none:=by
    rw[List.find?_eq_none]
    intro x hx z
    exact h (Zlb.mpr ⟨x,hx,z⟩)
   rw[this]
   simp
  .rw[if_neg hk]
   cases kvs.find? fun kv=>decide (kv.1=k') with
   | some q=>rfl
   | none=>simp[Zju hk]
end L2
namespace My
open PySem L2 PyProof.Rows
noncomputable def top(i:Nat):Stmt:=Zs6.main.body.getD i (.Pass ⟨0,0,0,0⟩)
noncomputable abbrev zi8:Stmt:=top 28
noncomputable abbrev zhg:List Str:=["value"]
theorem zsp:FnScope ["value"] zhg (zah zi8):=zbo (by decide +kernel)
noncomputable abbrev zi9:Stmt:=top 29
noncomputable abbrev zhe:List Str:=["value", "many"]
theorem zr2:FnScope ["value", "many"] zhe (zah zi9):=zbo (by decide +kernel)
noncomputable abbrev zkj:Stmt:=top 30
noncomputable abbrev zic:List Str:=["one", "other"]
theorem zvm:FnScope ["one", "other"] zic (zah zkj):=zbo (by decide +kernel)
noncomputable abbrev zid:Stmt:=top 31
noncomputable abbrev zii:List Str:=["ring", "many"]
theorem zv8:FnScope ["ring", "many"] zii (zah zid):=zbo (by decide +kernel)
noncomputable abbrev zg8:Stmt:=top 32
noncomputable abbrev zgu:List Str:=["ring"]
theorem zsm:FnScope ["ring"] zgu (zah zg8):=zbo (by decide +kernel)
noncomputable abbrev zma:Stmt:=top 33
noncomputable abbrev zkt:List Str:=["ring"]
theorem zwk:FnScope ["ring"] zkt (zah zma):=zbo (by decide +kernel)
noncomputable abbrev zg0:Stmt:=top 34
noncomputable abbrev zgp:List Str:=["ring", "many", "decided"]
theorem znv:FnScope ["ring", "many", "decided", "all_held"] zgp (zah zg0):=zbo (by decide +kernel)
noncomputable abbrev zen:Stmt:=top 35
noncomputable abbrev zeq:List Str:=["ring", "decided"]
theorem zp0:FnScope ["ring", "decided"] zeq (zah zen):=zbo (by decide +kernel)
noncomputable abbrev zhu:Stmt:=top 36
noncomputable abbrev zfs:List Str:=["ring", "many", "weights", "decided"]
theorem zis:FnScope ["ring", "many", "weights", "decided", "link", "gap"] zfs (zah zhu):=zbo (by decide +kernel)
noncomputable abbrev zek:Stmt:=top 37
noncomputable abbrev zdg:List Str:=["weights", "decided"]
theorem zch:FnScope ["weights", "decided", "loss", "pair", "choice", "weight"] zdg (zah zek):=zbo (by decide +kernel)
noncomputable abbrev zel:Stmt:=top 38
noncomputable abbrev zeo:List Str:=["rings", "many", "weights", "decided", "least"]
theorem zb8:FnScope ["rings", "many", "weights", "decided", "least", "shown", "used", "ring", "amount", "pair", "within"] zeo (zah zel):=zbo (by decide +kernel)
noncomputable abbrev zf7:Stmt:=top 39
noncomputable abbrev zev:List Str:=["paper", "many", "decided"]
theorem zhm:FnScope ["paper", "many", "decided", "i", "j"] zev (zah zf7):=zbo (by decide +kernel)
noncomputable abbrev ze5:Stmt:=top 40
noncomputable abbrev zdp:List Str:=["decided", "pair", "choice"]
theorem zji:FnScope ["decided", "pair", "choice", "more"] zdp (zah ze5):=zbo (by decide +kernel)
noncomputable abbrev zdo:Stmt:=top 41
noncomputable abbrev zct:List Str:=["aparts"]
theorem zex:FnScope ["aparts", "decided", "pair"] zct (zah zdo):=zbo (by decide +kernel)
noncomputable abbrev zdq:Stmt:=top 42
noncomputable abbrev zcz:List Str:=["pairs"]
theorem zcn:FnScope ["pairs", "weights", "i", "j", "weight"] zcz (zah zdq):=zbo (by decide +kernel)
noncomputable abbrev ziy:Stmt:=top 43
noncomputable abbrev zg7:List Str:=["paper", "many", "pairs", "aparts", "least"]
theorem zdl:FnScope ["paper", "many", "pairs", "aparts", "least", "weights", "ahead", "here", "paper_here", "decided", "pair"] zg7 (zah ziy):=zbo (by decide +kernel)
noncomputable abbrev zl2:Stmt:=top 1
noncomputable abbrev zj3:List Str:=["things", "links"]
theorem zdb:FnScope ["things", "links", "first", "thing", "one", "other", "kept", "lost", "lists"] zj3 (zah zl2):=zbo (by decide +kernel)
noncomputable abbrev znj:Stmt:=top 3
noncomputable abbrev zne:List Str:=["aparts", "grouping"]
theorem ybw:FnScope ["aparts", "grouping"] zne (zah znj):=zbo (by decide +kernel)
noncomputable abbrev zkg:Stmt:=top 4
noncomputable abbrev zin:List Str:=["pairs", "grouping"]
theorem zd8:FnScope ["pairs", "grouping", "loss", "i", "j", "weight", "is_held"] zin (zah zkg):=zbo (by decide +kernel)
noncomputable abbrev zgs:Stmt:=top 5
noncomputable abbrev zgw:List Str:=["many", "pairs", "aparts"]
theorem zmw:FnScope ["many", "pairs", "aparts", "links"] zgw (zah zgs):=zbo (by decide +kernel)
noncomputable abbrev zgr:Stmt:=top 6
noncomputable abbrev zh2:List Str:=["part", "pairs", "aparts"]
theorem zfa:FnScope ["part", "pairs", "aparts", "numbers", "number", "block", "inner_pairs", "inner_aparts"] zh2 (zah zgr):=zbo (by decide +kernel)
noncomputable abbrev zeh:Stmt:=top 12
noncomputable abbrev zc5:List Str:=["many"]
theorem zb3:FnScope ["many", "groupings", "block", "longer", "grouping", "group"] zc5 (zah zeh):=zbo (by decide +kernel)
noncomputable abbrev zc6:Stmt:=top 13
noncomputable abbrev zdh:List Str:=["case"]
theorem zig:FnScope ["case", "kept"] zdh (zah zc6):=zbo (by decide +kernel)
noncomputable abbrev zdv:Stmt:=top 14
noncomputable abbrev zcu:List Str:=["labels"]
theorem zdi:FnScope ["labels", "numbers", "grouping", "label"] zcu (zah zdv):=zbo (by decide +kernel)
noncomputable abbrev zie:Stmt:=top 15
noncomputable abbrev zib:List Str:=["many", "pairs", "aparts"]
theorem zco:FnScope ["many", "pairs", "aparts", "parts", "part", "labels", "place", "groups", "block", "group", "grouping"] zib (zah zie):=zbo (by decide +kernel)
noncomputable abbrev zda:Stmt:=top 17
noncomputable abbrev zc8:List Str:=["case", "grouping"]
theorem zm7:FnScope ["case", "grouping"] zc8 (zah zda):=zbo (by decide +kernel)
noncomputable abbrev zfy:Stmt:=top 18
noncomputable abbrev zem:List Str:=["case", "grouping", "i", "j"]
theorem zkm:FnScope ["case", "grouping", "i", "j", "was_asked"] zem (zah zfy):=zbo (by decide +kernel)
noncomputable abbrev zee:Stmt:=top 19
noncomputable abbrev zdc:List Str:=["grouping", "i", "j"]
theorem zcv:FnScope ["grouping", "i", "j", "first", "other", "ahead", "behind"] zdc (zah zee):=zbo (by decide +kernel)
noncomputable abbrev zf6:Stmt:=top 20
noncomputable abbrev zep:List Str:=["case", "grouping"]
theorem zc0:FnScope ["case", "grouping", "rings", "i", "j", "weight", "is_lost"] zep (zah zf6):=zbo (by decide +kernel)
noncomputable abbrev zei:Stmt:=top 21
noncomputable abbrev zbx:List Str:=["case", "grouping", "least"]
theorem znc:FnScope ["case", "grouping", "least"] zbx (zah zei):=zbo (by decide +kernel)
noncomputable abbrev zf1:Stmt:=top 22
noncomputable abbrev zcw:List Str:=["case", "grouping", "group", "least"]
theorem ze8:FnScope ["case", "grouping", "group", "least", "block", "member", "number"] zcw (zah zf1):=zbo (by decide +kernel)
noncomputable abbrev zef:Stmt:=top 23
noncomputable abbrev zby:List Str:=["case", "grouping", "group", "least"]
theorem zd0:FnScope ["case", "grouping", "group", "least", "first", "block", "parted"] zby (zah zef):=zbo (by decide +kernel)
noncomputable abbrev zi5:Stmt:=top 24
noncomputable abbrev zg6:List Str:=["many", "pairs", "aparts"]
theorem znh:FnScope ["many", "pairs", "aparts", "least"] zg6 (zah zi5):=zbo (by decide +kernel)
noncomputable abbrev ze4:Stmt:=top 45
noncomputable abbrev zdw:List Str:=["_law_script", "_law_k"]
theorem zn4:FnScope ["_law_script", "_law_k"] zdw (zah ze4):=zbo (by decide +kernel)
noncomputable abbrev zf4:Stmt:=top 46
noncomputable abbrev zes:List Str:=["_law_cell"]
theorem zhs:FnScope ["_law_cell", "_law_weight_here"] zes (zah zf4):=zbo (by decide +kernel)
noncomputable abbrev ziw:Stmt:=top 47
noncomputable abbrev zgx:List Str:=["_law_script", "_law_many", "_law_at"]
theorem zdk:FnScope ["_law_script", "_law_many", "_law_at", "_law_pairs", "_law_aparts", "_law_i", "_law_j", "_law_cell"] zgx (zah ziw):=zbo (by decide +kernel)
noncomputable abbrev zi3:Stmt:=top 51
noncomputable abbrev zg3:List Str:=["_law_one", "_law_other"]
theorem zte:FnScope ["_law_one", "_law_other"] zg3 (zah zi3):=zbo (by decide +kernel)
noncomputable abbrev zfi:Stmt:=top 52
noncomputable abbrev zfl:List Str:=["_law_ring_here"]
theorem zqd:FnScope ["_law_ring_here"] zfl (zah zfi):=zbo (by decide +kernel)
noncomputable abbrev zi7:Stmt:=top 53
noncomputable abbrev zhb:List Str:=["_law_ring_here", "_law_weights_here", "_law_decided_here", "_law_never"]
theorem zd9:FnScope ["_law_ring_here", "_law_weights_here", "_law_decided_here", "_law_never", "_law_gap", "_law_many", "_law_pair_here", "_law_weight_here"] zhb (zah zi7):=zbo (by decide +kernel)
noncomputable abbrev zit:Stmt:=top 54
noncomputable abbrev zgo:List Str:=["_law_rows", "_law_weights_here", "_law_decided_here", "_law_least"]
theorem zcb:FnScope ["_law_rows", "_law_weights_here", "_law_decided_here", "_law_least", "_law_total", "_law_pair_here", "_law_held", "_law_used", "_law_ring_here", "_law_amount"] zgo (zah zit):=zbo (by decide +kernel)
noncomputable abbrev zhj:Stmt:=top 55
noncomputable abbrev zfn:List Str:=["_law_paper", "_law_weights_here", "_law_decided_here", "_law_least"]
theorem zf5:FnScope ["_law_paper", "_law_weights_here", "_law_decided_here", "_law_least", "_law_pair_here", "_law_held", "_law_parted"] zfn (zah zhj):=zbo (by decide +kernel)
noncomputable abbrev ze2:Stmt:=top 56
noncomputable abbrev zdu:List Str:=["_law_pairs"]
theorem zc7:FnScope ["_law_pairs", "_law_weights_here", "_law_i", "_law_j", "_law_weight_here"] zdu (zah ze2):=zbo (by decide +kernel)
noncomputable abbrev ze6:Stmt:=top 57
noncomputable abbrev zd3:List Str:=["_law_aparts"]
theorem zge:FnScope ["_law_aparts", "_law_decided_here", "_law_pair_here"] zd3 (zah ze6):=zbo (by decide +kernel)
noncomputable abbrev zej:Stmt:=top 48
noncomputable abbrev zdf:List Str:=["_law_many", "_law_cell"]
theorem zb2:FnScope ["_law_many", "_law_cell", "_law_number_here", "_law_grouping_here", "_law_new", "_law_k"] zdf (zah zej):=zbo (by decide +kernel)
noncomputable abbrev zhq:Stmt:=top 49
noncomputable abbrev zfq:List Str:=["_law_aparts", "_law_grouping_here"]
theorem zh8:FnScope ["_law_aparts", "_law_grouping_here", "_law_i", "_law_j"] zfq (zah zhq):=zbo (by decide +kernel)
noncomputable abbrev zi4:Stmt:=top 50
noncomputable abbrev zgz:List Str:=["_law_pairs", "_law_grouping_here"]
theorem zec:FnScope ["_law_pairs", "_law_grouping_here", "_law_lost_here", "_law_i", "_law_j", "_law_weight_here"] zgz (zah zi4):=zbo (by decide +kernel)
noncomputable abbrev zfz:Stmt:=top 58
noncomputable abbrev zer:List Str:=["_law_found", "_law_least", "_law_most"]
theorem zow:FnScope ["_law_found", "_law_least", "_law_most"] zer (zah zfz):=zbo (by decide +kernel)
noncomputable abbrev zdt:Stmt:=top 59
noncomputable abbrev zdz:List Str:=["_law_ring_here", "_law_many"]
theorem zn7:FnScope ["_law_ring_here", "_law_many"] zdz (zah zdt):=zbo (by decide +kernel)
noncomputable abbrev zi6:Stmt:=top 60
noncomputable abbrev zeb:List Str:=["_law_paper", "_law_many"]
theorem znf:FnScope ["_law_paper", "_law_many", "_law_row"] zeb (zah zi6):=zbo (by decide +kernel)
noncomputable abbrev zfm:Stmt:=top 61
noncomputable abbrev zdj:List Str:=["_law_paper"]
theorem zqa:FnScope ["_law_paper"] zdj (zah zfm):=zbo (by decide +kernel)
noncomputable abbrev zg9:Stmt:=top 62
noncomputable abbrev zih:List Str:=["_law_paper"]
theorem ziz:FnScope ["_law_paper", "_law_lists_here", "_law_sizes", "_law_one"] zih (zah zg9):=zbo (by decide +kernel)
noncomputable abbrev ybu:Stmt:=top 63
noncomputable abbrev zzg:List Str:=["_law_script"]
theorem zjj:FnScope ["_law_script", "_law_many", "_law_pairs", "_law_aparts", "_law_held", "_law_paper", "_law_lost_here", "_law_best", "_law_cell", "_law_grouping_here"] zzg (zah ybu):=zbo (by decide +kernel)
set_option genInjectivity false in
set_option genSizeOf false in
structure Ad where
 (Zdq Zdc Zeh Zd4 Zdb Zew Zdj Zb7 Zco Za3 Zb6 Zb8 Zbl Zan Zam Zc4 Zeu Ze4 Zeg Zdw Zd8 Zau Za1 Zao Zei Zax Zb5 Za5 Zb1 Zae Zak Zag Zdt Zbf Zbu Zdn Zc0 Zcr Zc8 Zcx Zci Zbh Zbi Zaw Zcq Zde Zb4 Zbd Za8 Zas Zd9 Zgu:Addr)
 (Zh2 Zfa Zgx:Value)
 (Zdi Zdh Zd6 Zed Zdp Zey Zda Zby Zcl Za6 Zb3 Zbv Zbj Zaq Zap Zds Ze0 Ze5 Zec Zc3 Zd5 Za0 Zaa Zal Zee Zat Zbx Za4 Zbw Zad Zai Zaf Zc5 Zbk Zbz Zdu Zdv Zcj Zdd Zdr Zcn Zba Zbg Zaz Zch Zdl Zbt Zbb Za9 Zar Zea Zfy:Zk9)
structure Tx(K:Zh7)(mg:Str->Option Value)(ad0:Ad):Prop where
 Zfh:mg "HELD" = some ad0.Zh2
 Zgy:RelV (.str (T [104,101,108,100])) ad0.Zh2
 Zcs:mg "MOST_BLOCKS" = some ad0.Zfa
 Zfc:RelV (.int 7) ad0.Zfa
 Zcv:mg "PARTED" = some ad0.Zgx
 Zex:RelV (.str (T [112,97,114,116,101,100])) ad0.Zgx
 Zdf:FX K mg "is_whole" zi8 zhg ad0.Zdq ad0.Zdi
 Zcc:FX K mg "is_block" zi9 zhe ad0.Zdc ad0.Zdh
 Zeb:FX K mg "pair_of" zkj zic ad0.Zeh ad0.Zd6
 Zd7:FX K mg "is_ring" zid zii ad0.Zd4 ad0.Zed
 Zcf:FX K mg "links_of" zg8 zgu ad0.Zdb ad0.Zdp
 Zdx:FX K mg "gap_of" zma zkt ad0.Zew ad0.Zey
 Zer:FX K mg "is_never" zg0 zgp ad0.Zdj ad0.Zda
 Zb0:FX K mg "open_pairs" zen zeq ad0.Zb7 ad0.Zby
 Zd0:FX K mg "is_losing" zhu zfs ad0.Zco ad0.Zcl
 Zcg:FX K mg "decided_loss" zek zdg ad0.Za3 ad0.Za6
 Zc6:FX K mg "rings_show" zel zeo ad0.Zb6 ad0.Zb3
 Zcz:FX K mg "may_decide" zf7 zev ad0.Zb8 ad0.Zbv
 Zbe:FX K mg "with_choice" ze5 zdp ad0.Zbl ad0.Zbj
 Zbr:FX K mg "first_decided" zdo zct ad0.Zan ad0.Zaq
 Zbs:FX K mg "first_weights" zdq zcz ad0.Zam ad0.Zap
 Zdm:FX K mg "is_shown" ziy zg7 ad0.Zc4 ad0.Zds
 Ze8:FX K mg "joined" zl2 zj3 ad0.Zeu ad0.Ze0
 Zfj:FX K mg "keeps" znj zne ad0.Ze4 ad0.Ze5
 Zcw:FX K mg "loss_of" zkg zin ad0.Zeg ad0.Zec
 Zem:FX K mg "parts_of" zgs zgw ad0.Zdw ad0.Zc3
 Ze1:FX K mg "case_of" zgr zh2 ad0.Zd8 ad0.Zd5
 Zca:FX K mg "groupings_of" zeh zc5 ad0.Zau ad0.Za0
 Za2:FX K mg "best_in_part" zc6 zdh ad0.Za1 ad0.Zaa
 Zbq:FX K mg "numbered_anew" zdv zcu ad0.Zao ad0.Zal
 Zef:FX K mg "best_of" zie zib ad0.Zei ad0.Zee
 Za7:FX K mg "placed_pairs" zda zc8 ad0.Zax ad0.Zat
 Zdo:FX K mg "is_decided" zfy zem ad0.Zb5 ad0.Zbx
 Zcb:FX K mg "ring_through" zee zdc ad0.Za5 ad0.Za4
 Zdg:FX K mg "lost_rings" zf6 zep ad0.Zb1 ad0.Zbw
 Zah:FX K mg "placed_paper" zei zbx ad0.Zae ad0.Zad
 Zcy:FX K mg "held_paper" zf1 zcw ad0.Zak ad0.Zai
 Zav:FX K mg "asking_paper" zef zby ad0.Zag ad0.Zaf
 Zep:FX K mg "paper_of" zi5 zg6 ad0.Zdt ad0.Zc5
 Zbm:FX K mg "_law_cell_at" ze4 zdw ad0.Zbf ad0.Zbk
 Zdk:FX K mg "_law_weight" zf4 zes ad0.Zbu ad0.Zbz
 Zeq:FX K mg "_law_case" ziw zgx ad0.Zdn ad0.Zdu
 Zce:FX K mg "_law_pair" zi3 zg3 ad0.Zc0 ad0.Zdv
 Zcm:FX K mg "_law_links" zfi zfl ad0.Zcr ad0.Zcj
 Zc9:FX K mg "_law_ring" zi7 zhb ad0.Zc8 ad0.Zdd
 Zeo:FX K mg "_law_leaf" zit zgo ad0.Zcx ad0.Zdr
 Zbp:FX K mg "_law_judge" zhj zfn ad0.Zci ad0.Zcn
 Zct:FX K mg "_law_weights" ze2 zdu ad0.Zbh ad0.Zba
 Zcu:FX K mg "_law_decided" ze6 zd3 ad0.Zbi ad0.Zbg
 Zcd:FX K mg "_law_grouping" zej zdf ad0.Zaw ad0.Zaz
 Zcp:FX K mg "_law_keeps" zhq zfq ad0.Zcq ad0.Zch
 Zc1:FX K mg "_law_lost" zi4 zgz ad0.Zde ad0.Zdl
 Zaj:FX K mg "_law_number" zfz zer ad0.Zb4 ad0.Zbt
 Zbc:FX K mg "_law_is_list" zdt zdz ad0.Zbd ad0.Zbb
 Zb9:FX K mg "_law_size" zi6 zeb ad0.Za8 ad0.Za9
 Zbn:FX K mg "_law_lists" zfm zdj ad0.Zas ad0.Zar
 Ze2:FX K mg "_law_own" zg9 zih ad0.Zd9 ad0.Zea
 Zf6:FX K mg "law" ybu zzg ad0.Zgu ad0.Zfy
 Zel:mg "abs" = none
 Ze6:mg "all" = none
 Zf7:mg "bool" = none
 Zfe:mg "dict" = none
 Zck:mg "enumerate" = none
 Zfs:mg "int" = none
 Zab:mg "isinstance" = none
 Zac:mg "len" = none
 Zd3:mg "list" = none
 Zet:mg "max" = none
 Zfk:mg "min" = none
 Zbo:mg "range" = none
 Zf3:mg "reversed" = none
 Zgt:mg "set" = none
 Zfl:mg "tuple" = none
 Zgs:mg "zip" = none
section
variable{P:Zjj}{w:Zkq}{K:Zh7}{mg:Str->Option Value}{base:Heap}{ad0:Ad}
noncomputable def zpb(ds:List D):Prop:=∃(ns:List Int) (k:Int),ds=[.lst (ns.map .int),.int k]/\0<=k
noncomputable def zgh:List D->D
 | [.lst xs,.int k]=>xs.getD k.toNat (.int 0)
 | _=>.non
theorem zjo(Z:Tx K mg ad0):FnOk P w K mg base CX0 1 ad0.Zbf ad0.Zbk zdw (SpD K zpb zgh):=by
 refine okD Z.Zbm.F zn4 (by rintro ds ⟨ns,k,rfl,_⟩;rfl) fun cdv A outer s H Q E hr=>⟨_,(zad (zbt (zaw zkp (pv 1) (zat zay (by rfl) Z.Zac Zk8 (zab (pv 0) zae)) (zau _)) (zag (zas (za4 (show IxR _ (rIxL K) from zbk) (pv 0) (pv 1) (fun _ _=>rfl)))) zax)
   (zag (zas zai))),fun G ds hp rt=>?_⟩
 obtain⟨ns,k,rfl,hk⟩:=hp
 have ll:(ns.map D.int).length=ns.length:=by simp
 refine zak (zbd (zal (zm4 (g:=fun i j=>decide (i<j)) (zaa rfl).b (zea (zaa rfl).l).b)) (fun hb=>?_) (fun hb=>?_))
 .simp only[decide_eq_true_eq] at hb
  have hk2:k.toNat<ns.length:=by omega
  refine za2 (zdr (d:=.int (ns.getD k.toNat 0)) (zaa rfl).l (zaa rfl).b ?_) ?_
  .have:=zk2 (xs:=ns.map D.int) (j:=k.toNat) (v:=D.int (ns.getD k.toNat 0)) (by rw[Zie,Zh8];simp[hk2])
   rw[show((k.toNat:Nat):Int)=k by omega] at this
   exact this
  .have e:zgh [D.lst (ns.map D.int),D.int k]= .int (ns.getD k.toNat 0):=by
    simp[zgh,Zh8,Zie,hk2]
   rw[e] at rt;exact rt
 .simp only[decide_eq_false_iff_not] at hb
  have e:zgh [D.lst (ns.map D.int),D.int k]= .int 0:=by
   simp[zgh,Zh8,Zie,show ns[k.toNat]? = none from Zjz (by omega)]
  rw[e] at rt
  refine za1 ?_
  ((try dsimp only);refine zap ?_)
  exact za2 zaj rt
theorem small{n:Nat}(h:n<=1000):n<=sizeLine:=by rw[Ziv];omega
noncomputable def encA(a:Apt):D:=.tup [.int a.1,.int a.2]
noncomputable def encP(p:Pr):D:=.tup [.int p.1,.int p.2.1,.int p.2.2]
noncomputable def unI:D->Int
 | .int i=>i
 | _=>0
noncomputable def unA:D->Apt
 | .tup [.int i,.int j]=>(i.toNat,j.toNat)
 | _=>(0,0)
noncomputable def unP:D->Pr
 | .tup [.int i,.int j,.int w]=>(i.toNat,j.toNat,w)
 | _=>(0,0,0)
theorem zst(gs:List Int):(gs.map D.int).map unI=gs:=by rw[Zja];exact Zmm gs
theorem zhx(as:List Apt):(as.map encA).map unA=as:=by rw[Zja];exact Zmm as
theorem zjy(ps:List Pr):(ps.map encP).map unP=ps:=by rw[Zja];exact Zmm ps
noncomputable def ze0(as:List Apt)(gs:List Int):Bool:=as.all fun a=>!decide (gs.getD a.1 0=gs.getD a.2 0)
noncomputable def zdx(gs:List Int)(p:Pr):Int:=if !decide (decide (gs.getD p.1 0=gs.getD p.2.1 0)=decide (0<p.2.2)) then absI p.2.2 else 0
noncomputable def zfp(gs:List Int)(p:Pr):Int:=if decide (decide (gs.getD p.1 0=gs.getD p.2.1 0)=decide (p.2.2<0)) then absI p.2.2 else 0
noncomputable def sumL(f:Pr->Int)(ps:List Pr):Int:=ps.foldl (fun a p=>a+f p) 0
theorem zrb(f:Pr->Int)(ps:List Pr)(p:Pr):sumL f (ps++[p])=sumL f ps+f p:=by unfold sumL;rw[Zkg];rfl
theorem zoq{f g:Pr->Int}:∀(ps:List Pr),(∀p∈ps,f p=g p)->sumL f ps=sumL g ps:=fun ps h=>by
 unfold sumL
 generalize (0:Int)=z
 induction ps generalizing z with
 | nil=>rfl
 | cons p ps ih =>
  rw[Zke,Zke,h p Zil]
  exact ih (fun q hq=>h q (Zij _ hq)) _
noncomputable def zzu(ds:List D):Prop:=∃(as:List Apt) (gs:List Int),ds=[.lst (as.map encA),.lst (gs.map .int)]/\(∀a∈as,a.1<gs.length/\a.2<gs.length)/\as.length<=1000
noncomputable def zv1:List D->D
 | [.lst as,.lst gs]=>.bl (ze0 (as.map unA) (gs.map unI))
 | _=>.non
theorem zh6(as:List Apt)(gs:List Int):zv1 [.lst (as.map encA),.lst (gs.map .int)]= .bl (ze0 as gs):=by
 show D.bl (ze0 ((as.map encA).map unA) ((gs.map D.int).map unI))=_
 rw[zhx,zst]
noncomputable def zsf(ds:List D):Prop:=∃(ps:List Pr) (gs:List Int),ds=[.lst (ps.map encP),.lst (gs.map .int)]/\(∀p∈ps,p.1<gs.length/\p.2.1<gs.length)/\ps.length<=1000
noncomputable def zmk:List D->D
 | [.lst ps,.lst gs]=>.int (sumL (zdx (gs.map unI)) (ps.map unP))
 | _=>.non
noncomputable def zos:List D->D
 | [.lst ps,.lst gs]=>.int (sumL (zfp (gs.map unI)) (ps.map unP))
 | _=>.non
theorem zhn(ps:List Pr)(gs:List Int):zmk [.lst (ps.map encP),.lst (gs.map .int)]= .int (sumL (zdx gs) ps):=by
 show D.int (sumL (zdx ((gs.map D.int).map unI)) ((ps.map encP).map unP))=_
 rw[zjy,zst]
theorem zj1(ps:List Pr)(gs:List Int):zos [.lst (ps.map encP),.lst (gs.map .int)]= .int (sumL (zfp gs) ps):=by
 show D.int (sumL (zfp ((gs.map D.int).map unI)) ((ps.map encP).map unP))=_
 rw[zjy,zst]
theorem zn8{gs:List Int}{i:Nat}(h:i<gs.length):atI (gs.map D.int) (i:Int)=some (.int (gs.getD i 0)) :=
 zk2 (by rw[Zie,Zh8];simp[h])
theorem ya0(Z:Tx K mg ad0):FnOk P w K mg base CX0 1 ad0.Ze4 ad0.Ze5 zne (SpD K zzu zv1):=by
 refine okD Z.Zfj.F ybw (by rintro ds ⟨c,d,rfl,_⟩;rfl) fun cdv A outer s H Q E hr=>⟨_,(zag (zas (zat (zke rfl) (by rfl) Z.Ze6 Zr8 (zab (zly rfl (LcOk.of (Nx:=(["aparts", "grouping"]:List Str)) (sc:=zah znj) (N':=(["i", "j", "grouping"]:List Str)) (nt:=2) (cs:=[1]) rfl rfl (by decide +kernel)) (za6 (pv 0)) (fun _ _ _ _=>(show PG _ _ (gTup K 2 _) from zcp rfl (zaq (zbj (i:=0) (show Zjt (["i", "j", "grouping"]:List Str) by decide +kernel) rfl (Zld rfl)) (zaq (zbj (i:=1) (show Zjt (["i", "j", "grouping"]:List Str) by decide +kernel) rfl (Zld rfl)) zbv)))) (fun _ _ _ _=>zd1) (fun _ _ _ _=>(zbc zn9 (za4 (show IxR _ (rIxL K) from zbk) (pv 2) (pv 0) (fun _ _=>rfl)) (za4 (show IxR _ (rIxL K) from zbk) (pv 2) (pv 1) (fun _ _=>rfl)) (zau _)))) zae)))),fun G ds hp rt=>?_⟩
 obtain⟨as,gs,rfl,hb,hl⟩:=hp
 rw[zh6] at rt
 exact za2 (zm8 (xs:=as) (g:=fun a=>!decide (gs.getD a.1 0=gs.getD a.2 0)) (EvO.l (zr6 as encA _ (zaa rfl).l (zod (zcq (zbu (by decide)) (zcq (zbu (by decide)) zle))) (by decide) (by rw[Ziv];omega) fun a ha=>⟨_,zcy rfl (zar zan (zar zan zb6)),zol (zdr (zaa rfl).l (zaa rfl).b (zn8 (hb a ha).1)).b (zdr (zaa rfl).l (zaa rfl).b (zn8 (hb a ha).2)).b⟩))) rt
theorem zk8(Z:Tx K mg ad0):FnOk P w K mg base CX0 1 ad0.Zeg ad0.Zec zin (SpD K zsf zmk):=by
 refine okD Z.Zcw.F zd8 (by rintro ds ⟨c,d,rfl,_⟩;rfl) fun cdv A outer s H Q E hr=>⟨_,(zad (psn 2 zd8.nd zai)
   (zad (zbn Zix rfl (za6 (pv 0)) (zcp rfl (zaq (pgn 3 zd8.nd) (zaq (pgn 4 zd8.nd) (zaq (pgn 5 zd8.nd) zbv)))) (zad (psn 6 zd8.nd (zbc zd4 (za4 (show IxR _ (rIxL K) from zbk) (pv 1) (pv 3) (fun _ _=>rfl)) (za4 (show IxR _ (rIxL K) from zbk) (pv 1) (pv 4) (fun _ _=>rfl)) (zau _)))
   (zag (zbt (zaw zn9 (pv 6) (zbc zlf (pv 5) zai (zau _)) (zau _)) (zag (psn 2 zd8.nd (zbr zc1 (pv 2) (zat zhp (by rfl) Z.Zel Zpy (zab (pv 5) zae))))) zax))))
   (zag (zas (pv 2))))),fun G ds hp rt=>?_⟩
 obtain⟨ps,gs,rfl,hb,hl⟩:=hp
 rw[zhn] at rt
 refine zak (za3 zaj ?_)
 ((try dsimp only);refine zap ?_)
 refine zak (zcs encP ps (fun k ss=>∃v3 v4 v5 v6:Sl,ss=[.d (.lst (ps.map encP)),.d (.lst (gs.map .int)),.d (.int (sumL (zdx gs) (ps.take k))),v3,v4,v5,v6]) (zaa rfl) ⟨.un,.un,.un,.un,rfl⟩ ?_ ?_)
 .rintro L' k p ss hL hk ⟨v3,v4,v5,v6,rfl⟩
  refine⟨_,zcy rfl (zar zan (zar zan (zar zan zb6))),fun N hN=>?_⟩
  have hp:p∈ps:=Zii hk
  have hs:sumL (zdx gs) (ps.take (k+1))=sumL (zdx gs) (ps.take k)+zdx gs p:=by rw[Zi0,hk];exact zrb ..
  refine zak (za3 (zgb (zdr (zaa rfl).l (zaa rfl).b (zn8 (hb p hp).1)).b (zdr (zaa rfl).l (zaa rfl).b (zn8 (hb p hp).2)).b) ?_)
  ((try dsimp only);refine zap ?_)
  refine zbd (zal (ztt (zaa rfl).b (zk7 (zaa rfl).b zaj.b).b)) (fun hq=>?_) (fun hq=>?_)
  .refine za3 (zc3 (zaa rfl).b (zjx (zaa rfl).b).b) (hN _ ⟨.d (.int p.1),.d (.int p.2.1),.d (.int p.2.2),.d (.bl (decide (gs.getD p.1 0=gs.getD p.2.1 0))),?_⟩)
   rw[hs];unfold zdx
   rw[if_pos hq];rfl
  .refine za1 (hN _ ⟨.d (.int p.1),.d (.int p.2.1),.d (.int p.2.2),.d (.bl (decide (gs.getD p.1 0=gs.getD p.2.1 0))),?_⟩)
   rw[hs];unfold zdx
   rw[if_neg (by rw[hq];decide),Zos]
   first | done | rfl
 .rintro ss ⟨v3,v4,v5,v6,rfl⟩
  ((try dsimp only);refine zap ?_)
  rw[Zi3]
  exact za2 (zaa rfl) rt
noncomputable def encN(n:Nat):D:=.int n
theorem zcl(a b:Nat)(h:encN a=encN b):a=b:=by unfold encN at h;injection h with h;omega
noncomputable def unN:D->Nat
 | .int i=>i.toNat
 | _=>0
theorem zkz(xs:List Nat):(xs.map encN).map unN=xs:=by rw[Zja];exact Zmm xs
noncomputable def kp(i j:Nat):Nat:=if j<i then j else i
noncomputable def lo(i j:Nat):Nat:=if j>i then j else i
theorem ygr(i j:Nat):(if (j:Int)<(i:Int) then (j:Int) else (i:Int))=((kp i j:Nat):Int):=by unfold kp;split <;> split <;> omega
theorem yhx(i j:Nat):(if (j:Int)>(i:Int) then (j:Int) else (i:Int))=((lo i j:Nat):Int):=by unfold lo;split <;> split <;> omega
noncomputable def ufS(f:Nat->Nat)(l:Apt):Nat->Nat:=zqn (kp (f l.1) (f l.2)) (lo (f l.1) (f l.2)) f
noncomputable def ufF(ls:List Apt):Nat->Nat:=ls.foldl ufS id
theorem ztu(ls:List Apt)(l:Apt):ufF (ls++[l])=ufS (ufF ls) l:=by unfold ufF;rw[Zkg];rfl
theorem yi3(i j:Nat):(kp i j=i/\lo i j=j)\/(kp i j=j/\lo i j=i):=by unfold kp lo;split <;> split <;> omega
theorem zk5{α:Type}{xs:List α}(h:xs.Nodup){k:Nat}{x:α}(hk:xs[k]? = some x):x∉xs.take k:=fun hm=>by
 obtain⟨j,hj⟩:=Zm4.mp hm
 have hjk:j<k:=by
  have:=(Zif.mp hj).1
  rw[Zjc] at this;omega
 rw[List.getElem?_take,if_pos hjk] at hj
 have h1:=(Zif.mp hj)
 have h2:=(Zif.mp hk)
 unfold Zjt at h
 rw[Zk3] at h
 exact h j k h1.1 h2.1 hjk (h1.2.trans h2.2.symm)
noncomputable def zjn(xs:List Nat)(ls:List Apt):List D:=(zb7 (ufF ls) xs).map fun p=>.lst (p.map encN)
noncomputable def preJ(ds:List D):Prop:=∃(xs:List Nat) (ls:List Apt),ds=[.lst (xs.map encN),.lst (ls.map encA)]/\xs.Nodup/\(∀l∈ls,l.1∈xs/\l.2∈xs)/\xs.length<=1000
noncomputable def resJ:List D->List D
 | [.lst xs,.lst ls]=>zjn (xs.map unN) (ls.map unA)
 | _=>[]
theorem zts(xs:List Nat)(ls:List Apt):resJ [.lst (xs.map encN),.lst (ls.map encA)]=zjn xs ls:=by
 show zjn ((xs.map encN).map unN) ((ls.map encA).map unA)=_
 rw[zkz,zhx]
theorem zyv (Z : Tx K mg ad0) : FnOk P w K mg base CX0 1 ad0.Zeu ad0.Ze0 zj3 (SpO K preJ resJ) := by
 refine okO Z.Ze8.F zdb (by rintro ds ⟨c,d,rfl,_⟩;rfl) fun cdv A outer s H Q E hr=>⟨_,(zad (psn 2 zdb.nd zmd)
   (zad (zbn Zix rfl (za6 (pv 0)) (pgn 3 zdb.nd) (zag (zdy (zbl hr) (pv 2) (pv 3) (pv 3) rfl)))
   (zad (zbn Zix rfl (za6 (pv 1)) (zcp rfl (zaq (pgn 4 zdb.nd) (zaq (pgn 5 zdb.nd) zbv))) (zad (psn 6 zdb.nd (zat (zmp rfl) (by rfl) Z.Zfk Ztf (zab (zc4 (zbl hr) (pv 2) (pv 4) (fun _ _=>rfl)) (zab (zc4 (zbl hr) (pv 2) (pv 5) (fun _ _=>rfl)) zae))))
   (zad (psn 7 zdb.nd (zat (zj5 rfl) (by rfl) Z.Zet Zq5 (zab (zc4 (zbl hr) (pv 2) (pv 4) (fun _ _=>rfl)) (zab (zc4 (zbl hr) (pv 2) (pv 5) (fun _ _=>rfl)) zae))))
   (zag (zbn Zix rfl (za6 (pv 0)) (pgn 3 zdb.nd) (zag (zbt (zaw zd4 (zc4 (zbl hr) (pv 2) (pv 3) (fun _ _=>rfl)) (pv 7) (zau _)) (zag (zdy (zbl hr) (pv 2) (pv 3) (pv 6) rfl)) zax)))))))
   (zad (psn 8 zdb.nd zmd)
   (zad (zbn Zix rfl (za6 (pv 0)) (pgn 3 zdb.nd) (zag (zgj (zjc Zjr Zkc Zkk zcr (zjc Ztb F.slot_dict_setdefault F.type_dict_setdefault zo8 (pv 8) (zab (zc4 (zbl hr) (pv 2) (pv 3) (fun _ _=>rfl)) (zab (zca zae) zae))) (zab (pv 3) zae)))))
   (zag (zas (zde (show zcm _ _ zqh from zoc rfl) (by rfl) Z.Zd3 Zpx (zab (ycz Ztb F.slot_dict_values F.type_dict_values zz4 (pv 8)) zae))))))))),fun G ds hp rt=>?_⟩
 obtain⟨xs,ls,rfl,hnd,hls,hxl⟩:=hp
 rw[zts] at rt
 have hz:∀{n:Nat},n<=1000->n<sizeLine:=fun h=>by rw[Ziv];omega
 have dl:∀(ys:List Nat) (f:Nat->Nat),(dA encN encN ys f).length=ys.length:=fun ys f=>by unfold dA;rw[Zia]
 refine zak (zsj fun p=>?_)
 ((try dsimp only);refine zap ?_)
 refine zak (zcs encN xs (fun k ss=>∃v3:Sl,ss=[.d (.lst (xs.map encN)),.d (.lst (ls.map encA)),dsl K p (dA encN encN (xs.take k) id),v3,.un,.un,.un,.un,.un]) (zaa rfl) ⟨.un,rfl⟩ ?_ ?_)
 .rintro L' k x ss hL hk ⟨v3,rfl⟩
  refine⟨_,zan,fun N hN=>?_⟩
  refine zp4 (i:=2) (d:=encN x) (k:=encN x) rfl (zaa rfl) (zaa rfl).b rfl (hz (by rw[dl,Zjc];omega)) (hN _ ⟨.d (encN x),?_⟩)
  have e:putD (dA encN encN (xs.take k) id) (encN x) (encN x)=dA encN encN (xs.take (k+1)) id:=by
   rw[Zi0,hk]
   exact zgc (f:=id) zcl (zk5 hnd hk)
  rw[e];rfl
 rintro ss ⟨v3,rfl⟩
 rw[Zi3]
 ((try dsimp only);refine zap ?_)
 refine zak (zcs encA ls (fun k ss=>∃(f:Nat->Nat) (v3 v4 v5 v6 v7:Sl),ss=[.d (.lst (xs.map encN)),.d (.lst (ls.map encA)),dsl K p (dA encN encN xs f),v3,v4,v5,v6,v7,.un] /\ ∀t∈xs,f t=ufF (ls.take k) t) (zaa rfl) ⟨id,_,_,_,_,_,rfl,fun _ _=>rfl⟩ ?_ ?_)
 .rintro L' k l ss hL hk ⟨f,v3,v4,v5,v6,v7,rfl,hf⟩
  refine⟨_,zcy rfl (zar zan (zar zan zb6)),fun N hN=>?_⟩
  obtain⟨h1,h2⟩:=hls l (Zii hk)
  refine zak (za3 (d:=encN (kp (f l.1) (f l.2))) (by unfold encN;rw[<- ygr];exact zr9 (zfj (k:=encN l.1) (d:=encN (f l.1)) rfl (zaa rfl).b rfl (zfb zcl h1)).b (zfj (k:=encN l.2) (d:=encN (f l.2)) rfl (zaa rfl).b rfl (zfb zcl h2)).b) ?_)
  ((try dsimp only);refine zap ?_)
  refine zak (za3 (d:=encN (lo (f l.1) (f l.2))) (by unfold encN;rw[<- yhx];exact zpr (zfj (k:=encN l.1) (d:=encN (f l.1)) rfl (zaa rfl).b rfl (zfb zcl h1)).b (zfj (k:=encN l.2) (d:=encN (f l.2)) rfl (zaa rfl).b rfl (zfb zcl h2)).b) ?_)
  ((try dsimp only);refine zap ?_)
  generalize hkk:kp (f l.1) (f l.2)=kk
  generalize hll:lo (f l.1) (f l.2)=ll
  refine zcs encN xs (fun q ss=>∃(g:Nat->Nat) (v3:Sl),ss=[.d (.lst (xs.map encN)),.d (.lst (ls.map encA)),dsl K p (dA encN encN xs g),v3,.d (encN l.1),.d (encN l.2),.d (encN kk),.d (encN ll),.un]/\(∀t∈xs.take q,g t=zqn kk ll f t) /\ ∀t,t∉xs.take q->g t=f t) (zaa rfl) ⟨f,_,rfl,(fun t ht=>by simp at ht),fun _ _=>rfl⟩ ?_ ?_
  .rintro L2 q x ss hL2 hq ⟨g,v3,rfl,hg1,hg2⟩
   refine⟨_,zan,fun N2 hN2=>?_⟩
   have hx:x∈xs:=Zii hq
   have hxn:=zk5 hnd hq
   have ext:xs.take (q+1)=xs.take q++[x]:=by rw[Zi0,hq];rfl
   have egx:g x=f x:=hg2 x hxn
   refine zbd (zal (zgb (i:=(g x:Nat)) (j:=(ll:Nat)) (zfj (k:=encN x) (d:=encN (g x)) rfl (zaa rfl).b rfl (zfb zcl hx)).b (zaa rfl).b)) (fun hb=>?_) (fun hb=>?_)
   .have hb:g x=ll:=by have:=of_decide_eq_true hb;omega
    refine zp4 (i:=2) (d:=encN kk) (k:=encN x) rfl (zaa rfl) (zaa rfl).b rfl (hz (by rw[dl];omega)) (hN2 _ ⟨fun u=>if u=x then kk else g u,_,by rw[yew zcl hx];rfl,fun t ht=>?_,fun t ht=>?_⟩)
    .rw[ext] at ht
     show(if t=x then kk else g t)=_
     rcases Zin.mp ht with ht | ht
     .rw[if_neg (fun z:t=x=>hxn (z ▸ ht))];exact hg1 t ht
     .rw[Zic.mp ht,if_pos rfl]
      unfold zqn
      rw[if_pos (egx.symm.trans hb)]
    .rw[ext] at ht
     have h3:t≠x:=fun z=>ht (by rw[z];simp)
     show(if t=x then kk else g t)=_
     rw[if_neg h3]
     exact hg2 t fun z=>ht (Ziz _ z)
   .have hb:g x≠ll:=by have:=of_decide_eq_false hb;omega
    refine za1 (hN2 _ ⟨g,_,rfl,fun t ht=>?_,fun t ht=>?_⟩)
    .rw[ext] at ht
     rcases Zin.mp ht with ht | ht
     .exact hg1 t ht
     .rw[Zic.mp ht]
      unfold zqn
      rw[if_neg (by rw[<- egx];exact hb),egx]
    .rw[ext] at ht
     exact hg2 t fun z=>ht (Ziz _ z)
  .rintro ss ⟨g,v3,rfl,hg1,hg2⟩
   rw[Zi3] at hg1
   refine hN _ ⟨g,_,_,_,_,_,rfl,fun t ht=>?_⟩
   have e:ls.take (k+1)=ls.take k++[l]:=by rw[Zi0,hk];rfl
   rw[hg1 t ht,e,ztu]
   unfold ufS
   rw[<- hf l.1 h1,<- hf l.2 h2,hkk,hll]
   unfold zqn
   rw[hf t ht]
 rintro ss ⟨f,v3,v4,v5,v6,v7,rfl,hf⟩
 rw[Zi3] at hf
 ((try dsimp only);refine zap ?_)
 refine zak (ybb fun p2=>?_)
 ((try dsimp only);refine zap ?_)
 refine zak (zcs encN xs (fun k ss=>∃(kqs:KQ) (v3:Sl),ss=[.d (.lst (xs.map encN)),.d (.lst (ls.map encA)),dsl K p (dA encN encN xs f),v3,v4,v5,v6,v7,dls K p2 kqs]/\kqs.map dat=grpD encN encN f (xs.take k)) (zaa rfl) ⟨[],_,rfl,rfl⟩ ?_ ?_)
 .rintro L' k x ss hL hk ⟨kqs,v3,rfl,hq⟩
  refine⟨_,zan,fun N hN=>?_⟩
  have hx:x∈xs:=Zii hk
  have hlen:kqs.length<=xs.length:=by
   have h1:=congrArg Zp7 hq
   rw[Zia] at h1
   have h2:=yb3 (enc:=encN) (encB:=encN) (f:=f) (xs:=xs.take k)
   rw[Zjc] at h2
   omega
  refine yfp (i:=8) (k:=encN (f x)) (d:=encN x) rfl (zfj (k:=encN x) (d:=encN (f x)) rfl (zaa rfl).b rfl (zfb zcl hx)).b rfl (fun kqs'=>zaa rfl) (hz (by omega)) (fun z hzm=>hz ?_) fun kqs' he=>hN _ ⟨kqs',_,rfl,?_⟩
  .have:dat z∈grpD encN encN f (xs.take k):=by rw[<- hq];exact Zko hzm
   have:=zxe this
   rw[Zjc] at this
   have e:(dat z).2=z.2.2:=rfl
   rw[e] at this
   omega
  .rw[he,hq,Zi0,hk]
   exact yad zcl
 rintro ss ⟨kqs,v3,rfl,hq⟩
 rw[Zi3] at hq
 refine zvl (i:=8) rfl ?_
 ((try dsimp only);refine zap ?_)
 have e:(kqs.map frzL).map (·.2)=zjn xs ls:=by
  have h1:(kqs.map frzL).map (·.2)=(kqs.map dat).map fun q=>D.lst q.2:=by rw[Zja,Zja];rfl
  rw[h1,hq,zyx]
  unfold zjn
  rw[zqe (g:=ufF ls) fun a ha b hb=>by rw[hf a ha,hf b hb]]
 refine zia (yaw (i:=8) rfl) ?_
 rw[e];exact rt
noncomputable def zff(m:Nat)(ps:List Pr)(as:List Apt):Prop:=(∀p∈ps,p.1<p.2.1/\p.2.1<m/\p.2.2≠0) /\ ∀a∈as,a.1<a.2/\a.2<m
noncomputable def ya8(as:List Apt)(p:Pr):Bool:=decide (0<p.2.2) && !decide (encA (p.1,p.2.1)∈as.map encA)
noncomputable def zfg(ps:List Pr)(as:List Apt):List Apt:=(ps.filter (ya8 as)).map fun p=>(p.1,p.2.1)
theorem zr4(a:Apt):(encA a).nb=true:=rfl
noncomputable def preP(ds:List D):Prop:=∃(m:Nat) (ps:List Pr) (as:List Apt),ds=[.int m,.lst (ps.map encP),.lst (as.map encA)]/\m<=100/\ps.length<=1000/\as.length<=1000/\zff m ps as
noncomputable def resP:List D->List D
 | [.int m,.lst ps,.lst as]=>zjn (Zid m.toNat) (zfg (ps.map unP) (as.map unA))
 | _=>[]
theorem ztv(m:Nat)(ps:List Pr)(as:List Apt):resP [.int m,.lst (ps.map encP),.lst (as.map encA)]=zjn (Zid m) (zfg ps as):=by
 show zjn (Zid (m:Int).toNat) (zfg ((ps.map encP).map unP) ((as.map encA).map unA))=_
 rw[zjy,zhx];rfl
theorem ycl{m:Nat}{ps:List Pr}{as:List Apt}(hg:zff m ps as):∀l∈zfg ps as,l.1∈Zid m/\l.2∈Zid m:=fun l hl=>by
 obtain⟨p,hp,rfl⟩:=Zit.mp hl
 have:=hg.1 p (Zip.mp hp).1
 exact⟨Zi2.mpr (Zlj this.1 this.2.1),Zi2.mpr this.2.1⟩
theorem zrz(Z:Tx K mg ad0):FnOk P w K mg base CX0 2 ad0.Zdw ad0.Zc3 zgw (SpO K preP resP):=by
 have Zh3:=zyv (P:=P) (w:=w) (base:=base) Z
 refine okO Z.Zem.F zmw (by rintro ds ⟨c,d,e,rfl,_⟩;rfl) fun cdv A outer s H Q E hr=>⟨_,(zad (zkq (i:=3) zmw.nd rfl (Zld rfl) rfl (LcOk.of (Nx:=(["many", "pairs", "aparts", "links"]:List Str)) (sc:=zah zgs) (N':=(["i", "j", "weight", "aparts"]:List Str)) (nt:=3) (cs:=[2]) rfl rfl (by decide +kernel)) (za6 (pv 1)) (fun _ _ _ _=>(show PG _ _ (gTup K 3 _) from zcp rfl (zaq (zbj (i:=0) (show Zjt (["i", "j", "weight", "aparts"]:List Str) by decide +kernel) rfl (Zld rfl)) (zaq (zbj (i:=1) (show Zjt (["i", "j", "weight", "aparts"]:List Str) by decide +kernel) rfl (Zld rfl)) (zaq (zbj (i:=2) (show Zjt (["i", "j", "weight", "aparts"]:List Str) by decide +kernel) rfl (Zld rfl)) zbv))))) (fun _ _ _ _=>(zix (PW.pt (zjm (zaw zlf (pv 2) zai (zau _)) (zgi (zaw (show OpR _ _ (rInD K true) from zrg hr.units) (zbz (zab (pv 0) (zab (pv 1) zae))) (pv 3) (by with_unfolding_all rfl))))))) (fun _ _ _ _=>(zbz (zab (pv 0) (zab (pv 1) zae)))))
   (zag (zas (pcX Zh3 hr Z.Ze8 (zab (zde (show zcm _ _ zul from zpc rfl) (by rfl) Z.Zd3 Zpx (zab (zyg (by rfl) Z.Zbo (zab (pv 0) zae)) zae)) (zab (pv 3) zae)))))),fun G ds hp rt=>?_⟩
 obtain⟨m,ps,as,rfl,hm,hpl,hal,hg⟩:=hp
 rw[ztv] at rt
 have e1:(ps.filter (ya8 as)).map (fun p=>encA (p.1,p.2.1))=(zfg ps as).map encA:=by unfold zfg;rw[Zja];rfl
 refine zak (zey (ds:=(zfg ps as).map encA) (by
  rw[<- e1]
  exact zgg ps encP (ya8 as) (fun p=>encA (p.1,p.2.1)) (zaa rfl).l (zod (zcq (zbu (by decide)) (zcq (zbu (by decide)) (zcq (zbu (by decide)) zle)))) (by decide) (by rw[Ziv];omega) fun p hp=>⟨_,zcy rfl (zar zan (zar zan (zar zan zb6))),
   zgn (zal (zk7 (zaa rfl).b zaj.b)) fun _=>zal (zy9 (d:=encA (p.1,p.2.1)) (Ev.b (zcd (zac (zaa rfl) (zac (zaa rfl) zaf)) (small (by simp)))) (zaa rfl).b rfl (D.nbs_map zr4 as) (by show 1<=60;decide)),
   fun _=>zcd (zac (zaa rfl) (zac (zaa rfl) zaf)) (small (by simp))⟩) fun p=>zgt (i:=3) rfl ?_)
 ((try dsimp only);refine zap ?_)
 have:=zts (Zid m) (zfg ps as)
 refine zia (ds:=zjn (Zid m) (zfg ps as)) (by
  rw[<- this]
  exact ziu (pre:=preJ) (res:=resJ) (zac (EvO.ev (zoz (n:=m) (zaa rfl).b (by omega))) (zac (zaa rfl) zaf)) ⟨Zid m,zfg ps as,rfl,Zpr,ycl hg,by simp;omega⟩) rt
noncomputable def idxP(part:List Nat)(p:Pr):D:=.tup [.int (part.idxOf p.1:Nat),.int (part.idxOf p.2.1:Nat),.int p.2.2]
noncomputable def idxA(part:List Nat)(a:Apt):D:=.tup [.int (part.idxOf a.1:Nat),.int (part.idxOf a.2:Nat)]
noncomputable def zsx(part:List Nat)(ps:List Pr)(as:List Apt):D:=.tup [.int part.length,.lst ((ps.filter fun p=>decide (p.1∈part)&&decide (p.2.1∈part)).map (idxP part)),.lst ((as.filter fun a=>decide (a.1∈part)&&decide (a.2∈part)).map (idxA part))]
noncomputable def preC(ds:List D):Prop:=∃(part:List Nat) (ps:List Pr) (as:List Apt),ds=[.lst (part.map encN),.lst (ps.map encP),.lst (as.map encA)]/\part.Nodup/\part.length<=100/\ps.length<=1000/\as.length<=1000
noncomputable def resC:List D->D
 | [.lst part,.lst ps,.lst as]=>zsx (part.map unN) (ps.map unP) (as.map unA)
 | _=>.non
theorem zuo(part:List Nat)(ps:List Pr)(as:List Apt):resC [.lst (part.map encN),.lst (ps.map encP),.lst (as.map encA)]=zsx part ps as:=by
 show zsx ((part.map encN).map unN) ((ps.map encP).map unP) ((as.map encA).map unA)=_
 rw[zkz,zjy,zhx]
theorem zzb{part:List Nat}(h:part.Nodup){k x:Nat}(hk:part[k]? = some x):part.idxOf x=k:=by
 have hm:x∈part:=Zii hk
 have hl:=Zkb.mpr hm
 have h1:=Zki hl
 obtain⟨h2,h3⟩:=Zif.mp hk
 unfold Zjt at h
 rw[Zk3] at h
 rcases Zl8 (part.idxOf x) k with c | c | c
 .exact absurd (h1.trans h3.symm) (h _ _ hl h2 c)
 .exact c
 .exact absurd (h3.trans h1.symm) (h _ _ h2 hl c)
theorem zp3(part:List Nat)(f:Nat->Nat)(i:Nat):(valD (dA encN encN part f) (encN i)).isSome=decide (i∈part):=by
 by_cases h:i∈part
 .rw[zfb zcl h,decide_eq_true h];rfl
 .rw[zo0 zcl h,decide_eq_false h];rfl
theorem zvj(Z:Tx K mg ad0):FnOk P w K mg base CX0 1 ad0.Zd8 ad0.Zd5 zh2 (SpD K preC resC):=by
 refine okD Z.Ze1.F zfa (by rintro ds ⟨c,d,e,rfl,_⟩;rfl) fun cdv A outer s H Q E hr=>⟨_,(zad (zwl (i:=3) zfa.nd rfl (Ztj rfl) zmd)
   (zad (zbn Zix rfl (zif (by rfl) Z.Zck (zab (pv 0) zae)) (zcp rfl (zaq (pgn 4 zfa.nd) (zaq (pgn 5 zfa.nd) zbv))) (zag (zdy (zbl hr) (pv 3) (pv 5) (pv 4) rfl)))
   (zad (zkq (i:=6) zfa.nd rfl (Zld rfl) rfl (LcOk.of (Nx:=(["part", "pairs", "aparts", "numbers", "number", "block", "inner_pairs", "inner_aparts"]:List Str)) (sc:=zah zgr) (N':=(["i", "j", "weight", "numbers"]:List Str)) (nt:=3) (cs:=[3]) rfl rfl (by decide +kernel)) (za6 (pv 1)) (fun _ _ _ _=>(show PG _ _ (gTup K 3 _) from zcp rfl (zaq (zbj (i:=0) (show Zjt (["i", "j", "weight", "numbers"]:List Str) by decide +kernel) rfl (Zld rfl)) (zaq (zbj (i:=1) (show Zjt (["i", "j", "weight", "numbers"]:List Str) by decide +kernel) rfl (Zld rfl)) (zaq (zbj (i:=2) (show Zjt (["i", "j", "weight", "numbers"]:List Str) by decide +kernel) rfl (Zld rfl)) zbv))))) (fun _ _ _ _=>(zix (PW.pt (zjm (zje (zoh (zbl hr) (pv 0) (pv 3)) (by with_unfolding_all rfl)) (zgi (zje (zoh (zbl hr) (pv 1) (pv 3)) (by with_unfolding_all rfl))))))) (fun _ _ _ _=>(zbz (zab (zc4 (zbl hr) (pv 3) (pv 0) (fun _ _=>rfl)) (zab (zc4 (zbl hr) (pv 3) (pv 1) (fun _ _=>rfl)) (zab (pv 2) zae))))))
   (zad (zkq (i:=7) zfa.nd rfl (Zld rfl) rfl (LcOk.of (Nx:=(["part", "pairs", "aparts", "numbers", "number", "block", "inner_pairs", "inner_aparts"]:List Str)) (sc:=zah zgr) (N':=(["i", "j", "numbers"]:List Str)) (nt:=2) (cs:=[3]) rfl rfl (by decide +kernel)) (za6 (pv 2)) (fun _ _ _ _=>(show PG _ _ (gTup K 2 _) from zcp rfl (zaq (zbj (i:=0) (show Zjt (["i", "j", "numbers"]:List Str) by decide +kernel) rfl (Zld rfl)) (zaq (zbj (i:=1) (show Zjt (["i", "j", "numbers"]:List Str) by decide +kernel) rfl (Zld rfl)) zbv)))) (fun _ _ _ _=>(zix (PW.pt (zjm (zje (zoh (zbl hr) (pv 0) (pv 2)) (by with_unfolding_all rfl)) (zgi (zje (zoh (zbl hr) (pv 1) (pv 2)) (by with_unfolding_all rfl))))))) (fun _ _ _ _=>(zbz (zab (zc4 (zbl hr) (pv 2) (pv 0) (fun _ _=>rfl)) (zab (zc4 (zbl hr) (pv 2) (pv 1) (fun _ _=>rfl)) zae)))))
   (zag (zas (zbz (zab (zat zay (by rfl) Z.Zac Zk8 (zab (pv 0) zae)) (zab (pv 6) (zab (pv 7) zae)))))))))),fun G ds hp rt=>?_⟩
 obtain⟨part,ps,as,rfl,hnd,hl,hpl,hal⟩:=hp
 rw[zuo] at rt
 refine zak (zsj fun p=>?_)
 ((try dsimp only);refine zap ?_)
 refine zak (zry encN part (fun k ss=>∃v4 v5:Sl,ss=[.d (.lst (part.map encN)),.d (.lst (ps.map encP)),.d (.lst (as.map encA)),dsl K p (dA encN encN (part.take k) part.idxOf),v4,v5,.un,.un]) (zaa rfl) ⟨.un,.un,rfl⟩ ?_ ?_)
 .rintro L' k x ss hL hk ⟨v4,v5,rfl⟩
  refine⟨_,zcy rfl (zar zan (zar zan zb6)),fun N hN=>?_⟩
  refine zp4 (i:=3) (d:=encN k) (k:=encN x) rfl (zaa rfl) (zaa rfl).b rfl (by rw[Ziv];unfold dA;rw[Zia,Zjc];omega) (hN _ ⟨.d (encN k),.d (encN x),?_⟩)
  have e:putD (dA encN encN (part.take k) part.idxOf) (encN x) (encN k)=dA encN encN (part.take (k+1)) part.idxOf:=by
   rw[Zi0,hk,<- zzb hnd hk]
   exact zgc (f:=part.idxOf) zcl (by rw[zzb hnd hk];exact zk5 hnd hk)
  rw[e];rfl
 rintro ss ⟨v4,v5,rfl⟩
 rw[Zi3]
 ((try dsimp only);refine zap ?_)
 have g1:∀i:Nat,i∈part->valD (dA encN encN part part.idxOf) (encN i)=some (encN (part.idxOf i)):=fun i h=>zfb zcl h
 refine zak (zey (ds:=(ps.filter fun p=>decide (p.1∈part)&&decide (p.2.1∈part)).map (idxP part)) (zgg ps encP (fun p=>decide (p.1∈part)&&decide (p.2.1∈part)) (idxP part) (zaa rfl).l (zod (zcq (zbu (by decide)) (zcq (zbu (by decide)) (zcq (zbu (by decide)) zle)))) (by decide) (by rw[Ziv];omega) fun q hq=>⟨_,zcy rfl (zar zan (zar zan (zar zan zb6))),
   zgn (by rw[<- zp3 part part.idxOf];exact ze9 (ztg (k:=encN q.1) rfl (zaa rfl).b rfl)) fun _=>(by rw[<- zp3 part part.idxOf];exact ze9 (ztg (k:=encN q.2.1) rfl (zaa rfl).b rfl)),fun hb=>by
    rw[Ziq,decide_eq_true_eq,decide_eq_true_eq] at hb
    exact zcd (zac (zfj (k:=encN q.1) rfl (zaa rfl).b rfl (g1 _ hb.1)) (zac (zfj (k:=encN q.2.1) rfl (zaa rfl).b rfl (g1 _ hb.2)) (zac (zaa rfl) zaf))) (small (by simp))⟩)
  fun p6=>zgt (i:=6) rfl ?_)
 ((try dsimp only);refine zap ?_)
 refine zak (zey (ds:=(as.filter fun a=>decide (a.1∈part)&&decide (a.2∈part)).map (idxA part)) (zgg as encA (fun a=>decide (a.1∈part)&&decide (a.2∈part)) (idxA part) (zaa rfl).l (zod (zcq (zbu (by decide)) (zcq (zbu (by decide)) zle))) (by decide) (by rw[Ziv];omega) fun q hq=>⟨_,zcy rfl (zar zan (zar zan zb6)),
   zgn (by rw[<- zp3 part part.idxOf];exact ze9 (ztg (k:=encN q.1) rfl (zaa rfl).b rfl)) fun _=>(by rw[<- zp3 part part.idxOf];exact ze9 (ztg (k:=encN q.2) rfl (zaa rfl).b rfl)),fun hb=>by
    rw[Ziq,decide_eq_true_eq,decide_eq_true_eq] at hb
    exact zcd (zac (zfj (k:=encN q.1) rfl (zaa rfl).b rfl (g1 _ hb.1)) (zac (zfj (k:=encN q.2) rfl (zaa rfl).b rfl (g1 _ hb.2)) zaf)) (small (by simp))⟩)
  fun p7=>zgt (i:=7) rfl ?_)
 ((try dsimp only);refine zap ?_)
 refine za2 (d:=zsx part ps as) ?_ rt
 have ll:((part.map encN).length:Int)=part.length:=by rw[Zia]
 unfold zsx
 rw[<- ll]
 exact zcd (zac (zea (zaa rfl).l) (zac (zaa rfl) (zac (zaa rfl) zaf))) (small (by simp))
noncomputable def encG(g:List Nat):D:=.lst (g.map encN)
theorem zbg(g:List Nat):g.map encN=(toI g).map D.int:=by unfold toI;rw[Zja];rfl
theorem yfa(g:List Nat):(toI g=[]/\(ngF g:Int) - 1= -1)\/((ngF g:Int) - 1∈toI g /\ ∀n∈toI g,n<=(ngF g:Int) - 1):=by
 have mm:∀{g:List Nat} {x:Nat},(x:Int)∈toI g↔x∈g:=fun {g x}=>by
  unfold toI
  rw[Zit]
  exact⟨fun⟨y,hy,e⟩=>by have:y=x:=(by omega);exact this ▸ hy,fun h=>⟨x,h,rfl⟩⟩
 have all:∀{g:List Nat},(∀x∈g,x+1<=ngF g)/\(g≠[]-> ∃x∈g,ngF g=x+1):=fun {g}=>by
  induction g using zim with
  | h0=>exact⟨fun x hx=>by simp at hx,fun z=>absurd rfl z⟩
  | hs g y ih =>
   rw[zjt]
   refine⟨fun x hx=>?_,fun _=>?_⟩
   .rcases Zin.mp hx with h | h
    .have:=ih.1 x h;omega
    .rw[Zic.mp h];omega
   .by_cases c:ngF g<=y+1
    .exact⟨y,by simp,by omega⟩
    .have hne:g≠[]:=fun z=>c (by rw[z];show 0<=y+1;omega)
     obtain⟨x,hx,e⟩:=ih.2 hne
     exact⟨x,Ziz _ hx,by omega⟩
 by_cases h:g=[]
 .subst h;exact .inl ⟨rfl,rfl⟩
 .obtain⟨x,hx,e⟩:=all.2 h
  refine .inr ⟨?_,fun n hn=>?_⟩
  .rw[show(ngF g:Int) - 1=(x:Int) by omega];exact mm.mpr hx
  .obtain⟨y,hy,rfl⟩:=Zit.mp hn
   have:=all.1 y hy
   omega
noncomputable def extG(gs:List (List Nat)):List (List Nat):=gs.flatMap fun g=>(Zid (ngF g+1)).map fun x=>g++[x]
theorem ybg(gs:List (List Nat))(g:List Nat):extG (gs++[g])=extG gs++(Zid (ngF g+1)).map fun x=>g++[x]:=by
 unfold extG;rw[List.flatMap_append];simp
theorem zwo:∀{gs:List (List Nat)},(∀g∈gs,ngF g<=7)->(extG gs).length<=8*gs.length
 | [],_=>Zio _
 | g::gs,h=>by
  have ih:=zwo fun x hx=>h x (Zij _ hx)
  have h1:=h g Zil
  show((Zid (ngF g+1)).map _++extG gs).length<=_
  rw[Zis,Zia,Zks,Zj7]
  omega
theorem zjl{n:Nat}:∀{g:List Nat},g∈rgs n->ngF g<=n:=by
 induction n with
 | zero=>intro g h;rw[rgs] at h;rw[Zic.mp h];exact Zio _
 | succ n ih =>
  intro g h
  obtain⟨g',h1,x,hx,rfl⟩:=zh7.mp h
  have:=ih h1
  rw[zjt];omega
theorem zw3:∀n ≤ 7,(rgs n).length<=1000:=by decide +kernel
noncomputable def yhy(ds:List D):Prop:=∃n:Nat,ds=[.int n]/\n<=7
noncomputable def yil:List D->D
 | [.int n]=>.lst ((rgs n.toNat).map encG)
 | _=>.non
theorem zm2(Z:Tx K mg ad0):FnOk P w K mg base CX0 1 ad0.Zau ad0.Za0 zc5 (SpD K yhy yil):=by
 refine okD Z.Zca.F zb3 (by rintro ds ⟨c,rfl,_⟩;rfl) fun cdv A outer s H Q E hr=>⟨_,(zad (psn 1 zb3.nd (zca (zab (zca zae) zae)))
   (zad (zbn Zix rfl (zg4 (by rfl) Z.Zbo (zab (pv 0) zae)) (pgn 2 zb3.nd) (zad (psn 3 zb3.nd (zca zae))
   (zad (zbn Zix rfl (za6 (pv 1)) (pgn 4 zb3.nd) (zag (zbn Zix rfl (zg4 (by rfl) Z.Zbo (zab (zbr zc1 (zxx rfl (by rfl) Z.Zet (pv 4) (zob zjf zai)) zai) zae)) (pgn 5 zb3.nd) (zag (zgj (zjc Zjr Zkc Zkk zcr (pv 3) (zab (zbr (show OpR _ _ (zky K) from zgk) (pv 4) (zca (zab (pv 5) zae))) zae)))))))
   (zag (psn 1 zb3.nd (pv 3))))))
   (zag (zas (pv 1))))),fun G ds hp rt=>?_⟩
 obtain⟨n,rfl,hn⟩:=hp
 refine zak (za3 (d:=.lst ((rgs 0).map encG)) (EvO.ev (zbs (zac (EvO.ev (zbs zaf (small (by decide)))) zaf) (small (by decide)))) ?_)
 ((try dsimp only);refine zap ?_)
 refine zak (zmg (n:=(n:Int)) (fun k ss=>∃v2 v3 v4 v5:Sl,ss=[.d (.int n),.d (.lst ((rgs k).map encG)),v2,v3,v4,v5]) (zbm (zaa rfl).b zfh) ⟨by omega,by omega⟩ ⟨.un,.un,.un,.un,rfl⟩ ?_ ?_ (fun _ _ _ h=>h))
 .rintro k ss hk ⟨v2,v3,v4,v5,rfl⟩ N hN
  refine zak (zey (zbs zaf (small (by decide))) fun p=>?_)
  ((try dsimp only);refine zap ?_)
  refine zak (zcs encG (rgs k) (fun j ss=>∃v4 v5:Sl,ss=[.d (.int n),.d (.lst ((rgs k).map encG)),.d (.int k),.o p ((extG ((rgs k).take j)).map encG),v4,v5]) (zaa rfl) ⟨v4,v5,rfl⟩ ?_ ?_)
  .rintro L' j g ss hL hj ⟨v4,v5,rfl⟩
   refine⟨_,zan,fun N2 hN2=>?_⟩
   have hg:g∈rgs k:=Zii hj
   have hgl:=zgl hg
   have et:extG ((rgs k).take (j+1))=extG ((rgs k).take j)++(Zid (ngF g+1)).map fun x=>g++[x]:=by rw[Zi0,hj];exact ybg _ _
   have hb1:(extG ((rgs k).take j)).length<=8*1000:=by
    have h1:=zwo (gs:=(rgs k).take j) fun x hx=>by have:=zjl (Zma hx);omega
    have h2:=zw3 k (by omega)
    have h3:((rgs k).take j).length<=(rgs k).length:=by rw[Zjc];omega
    omega
   have hb2:=zjl hg
   refine zmg (n:=(ngF g:Int) - 1+2) (fun t ss=>∃v5:Sl,ss=[.d (.int n),.d (.lst ((rgs k).map encG)),.d (.int k),.o p ((extG ((rgs k).take j)++(Zid t).map fun x=>g++[x]).map encG),.d (encG g),v5]) (zbm (zc3 (zxc (ns:=toI g) (d0:=-1) (by rw[<- zbg];exact Ev.l (zaa rfl)) (zj8 zaj.b) (yfa g)).b zaj.b).b zfh) ⟨by omega,by omega⟩ ⟨v5,by simp⟩ ?_ ?_ (fun _ _ _ h=>h)
   .rintro t ss ht ⟨v5,rfl⟩ N3 hN3
    have ea:encG (g++[t])= .lst (g.map encN++[encN t]):=by unfold encG;rw[Zir];rfl
    refine zfk (d:=encG (g++[t])) rfl (by rw[ea];exact EvO.ev (zjs (da:=g.map encN) (db:=[encN t]) (Ev.l (zaa rfl)) (EvO.l (zbs (zac (zaa rfl) zaf) (small (by simp)))) (small (by rw[Zia,hgl];show k+1<=1000;omega)))) (by rw[Zia,Zis,Zia,Zks,Ziv];omega) (hN3 _ ⟨.d (.int t),?_⟩)
    have e5:(extG ((rgs k).take j)++(Zid (t+1)).map fun x=>g++[x]).map encG=(extG ((rgs k).take j)++(Zid t).map fun x=>g++[x]).map encG++[encG (g++[t])]:=by rw[Zl0,Zir (f:=fun x=>g++[x]),<- Zn2,Zir (f:=encG) (l₂:=Ztm (fun x=>g++[x]) [t])];rfl
    rw[e5];rfl
   .rintro ss ⟨v5,rfl⟩
    rw[show((ngF g:Int) - 1+2).toNat=ngF g+1 by omega,<- et]
    exact hN2 _ ⟨_,_,rfl⟩
  .rintro ss ⟨v4,v5,rfl⟩
   rw[Zi3]
   refine zgt (i:=3) rfl ?_
   ((try dsimp only);refine zap ?_)
   exact za3 (zaa rfl) (hN _ ⟨_,_,_,_,rfl⟩)
 .rintro ss ⟨v2,v3,v4,v5,rfl⟩
  ((try dsimp only);refine zap ?_)
  exact za2 (zaa rfl) rt
theorem zmj(g:List Nat)(i:Nat):(toI g).getD i 0=((atG g i:Nat):Int):=by
 unfold toI atG
 rw[Zh8,Zie,Zh8]
 cases g[i]? <;> rfl
theorem zio{as:List Apt}{g:List Nat}:ze0 as (toI g)=true↔zkk as g:=by
 unfold ze0 zkk
 rw[Zi7]
 refine⟨fun h a ha z=>?_,fun h a ha=>?_⟩
 .have:=h a ha
  rw[zmj,zmj,z] at this
  simp at this
 .rw[zmj,zmj,decide_eq_false (fun z=>h a ha (by omega))];rfl
theorem ybm(g:List Nat)(p:Pr):zdx (toI g) p=zdn (atG g) p:=by
 unfold zdx zdn
 rw[zmj,zmj]
 have e:decide (((atG g p.1:Nat):Int)=((atG g p.2.1:Nat):Int))=decide (atG g p.1=atG g p.2.1):=by rw[Zjg,decide_eq_true_eq,decide_eq_true_eq];omega
 rw[e]
 by_cases c:decide (atG g p.1=atG g p.2.1)=decide (0<p.2.2)
 .rw[if_pos c,decide_eq_true c];rfl
 .rw[if_neg c,decide_eq_false c];rfl
theorem yak(f:Pr->Int)(ps:List Pr):sumL f ps=sumI (ps.map f):=by
 have:∀(ps:List Pr) (z:Int),ps.foldl (fun a p=>a+f p) z=z+sumI (ps.map f):=by
  intro ps
  induction ps with
  | nil=>intro z;show z=z+0;omega
  | cons p ps ih=>intro z;show ps.foldl _ (z+f p)=z+(f p+sumI (ps.map f));rw[ih];omega
 have h:=this ps 0
 unfold sumL
 omega
theorem zj7(ps:List Pr)(g:List Nat):sumL (zdx (toI g)) ps=zb1 ps g:=by
 rw[yak]
 exact zds fun p _=>ybm g p
noncomputable def zvr(n:Nat)(ps:List Pr)(as:List Apt):D:=.tup [.int n,.lst (ps.map encP),.lst (as.map encA)]
noncomputable def preB(ds:List D):Prop:=∃(n:Nat) (ps:List Pr) (as:List Apt),ds=[zvr n ps as]/\1<=n/\n<=7/\ps.length<=1000/\as.length<=1000/\zw5 n ps as
noncomputable def resB:List D->D
 | [.tup [.int n,.lst ps,.lst as]]=>encG (bestP n.toNat (ps.map unP) (as.map unA))
 | _=>.non
theorem zt6(n:Nat)(ps:List Pr)(as:List Apt):resB [zvr n ps as]=encG (bestP n ps as):=by
 show encG (bestP (n:Int).toNat ((ps.map encP).map unP) ((as.map encA).map unA))=_
 rw[zjy,zhx];rfl
noncomputable def lamP:Pos:=⟨57,25,57,96⟩
noncomputable abbrev lamQ:Str := "best_in_part.<locals>.<lambda>"
theorem zms{T0:Addr}(Z:Tx K mg ad0)(Y:LamAt base mg ad0.Zaa T0):FnOk P w K mg base CX0 4 ad0.Za1 ad0.Zaa zdh (SpDT K T0 lamP lamQ preB resB):=by
 have Zh5:=ya0 (P:=P) (w:=w) (base:=base) Z
 have Zej:=zk8 (P:=P) (w:=w) (base:=base) Z
 have Zgf:=zm2 (P:=P) (w:=w) (base:=base) Z
 obtain⟨c0,hc0,hC1⟩:=Y.ex
 refine Z.Za2.F.okC zig (fun vs H Q E h=>zud (n:=1) (by rintro ds ⟨a,b,c,rfl,_⟩;rfl) h) (fun cdv A outer s H vs Q E hcd hr h=>?_)
 have hC0:cdv= .ref c0:=hcd.symm.trans hc0
 refine⟨_,(zad (zkq (i:=1) zig.nd rfl (Zld rfl) rfl (LcOk.of (Nx:=(["case", "kept"]:List Str)) (sc:=zah zc6) (N':=(["grouping", "case"]:List Str)) (nt:=1) (cs:=[0]) rfl rfl (by decide +kernel)) (za6 (pcX Zgf hr Z.Zca (zab (za4 (show IxR _ (rIxT K) from za5) (pv 0) zai (fun _ _=>rfl)) zae))) (fun _ _ _ _=>(zbj (i:=0) (show Zjt (["grouping", "case"]:List Str) by decide +kernel) rfl (Zld rfl))) (fun _ _ _ _=>(zix (zc2 (pcX Zh5 hr Z.Zfj (zab (za4 (show IxR _ (rIxT K) from za5) (pv 1) zai (fun _ _=>rfl)) (zab (pv 0) zae)))))) (fun _ _ _ _=>(pv 0)))
   (zag (zas (zw6 (x:="grouping") (y:="case") (i:=0) (q:="best_in_part.<locals>.<lambda>") rfl hr (by rfl) Z.Zfk (pv 1) hC1 Y.bt hC0 rfl rfl (by rfl) (fun _ _ _ _ _=>rfl) (by rfl) (by rfl) (by decide +kernel) (yb2 (by rfl)) rfl rfl rfl rfl (fun cc hcc=>yaa (by rfl) hcc) (fun _ _ _ _ _ hr=>(zbz (zab (pcX Zej hr Z.Zcw (zab (za4 (show IxR _ (rIxT K) from za5) (pv 1) zai (fun _ _=>rfl)) (zab (pv 0) zae))) (zab (zob zjf (zat (show zcm _ _ (yfe K) from zzh rfl) (by rfl) Z.Zet Zq5 (zab (pv 0) zae))) (zab (pv 0) zae))))))))),?_⟩
 refine yfz h (by rw[zud (n:=1) (by rintro ds ⟨a,b,c,rfl,_⟩;rfl) h];decide) fun G ds hT hp rt=>?_
 obtain⟨n,ps,as,rfl,hn1,hn7,hpl,hal,hg⟩:=hp
 rw[zt6] at rt
 have fl:=zw3 n hn7
 have lenI:∀{g:List Nat},g∈rgs n->(toI g).length=n:=fun h=>by unfold toI;rw[Zia,zgl h]
 refine zak (zey (ds:=((rgs n).filter fun g=>ze0 as (toI g)).map encG) (zgg (rgs n) encG (fun g=>ze0 as (toI g)) encG (Ev.l (zbq (pre:=yhy) (res:=yil) (zac (za0 (d:=.int n) (zaa rfl) zaj.b rfl) zaf) ⟨n,rfl,hn7⟩)) (zbu (by decide)) (by decide) (by rw[Ziv];omega) fun g hgm=>⟨_,zan,?_,fun _=>zaa rfl⟩) fun p=>?_)
 .have e:=zh6 as (toI g)
  rw[<- zbg] at e
  refine ze9 (by rw[<- e];exact zbq (pre:=zzu) (res:=zv1) (zac (za0 (zaa rfl) zaj.b rfl) (zac (zaa rfl) zaf)) ⟨as,toI g,by rw[<- zbg],fun a ha=>by rw[lenI hgm];exact⟨(hg.2 a ha).1,(hg.2 a ha).2.1⟩,hal⟩)
 ((try dsimp only);refine zap ?_)
 have mem:∀{g:List Nat},g∈(rgs n).filter (fun g=>ze0 as (toI g))->g∈rgs n/\zkk as g:=fun h=>⟨(Zip.mp h).1,zio.mp (Zip.mp h).2⟩
 have kk:∀g:List Nat,zb1 ps g::(-((ngF g:Int) - 1))::toI g=keyG ps g:=fun g=>by unfold keyG;rw[show -((ngF g:Int) - 1)=1 - (ngF g:Int) by omega]
 refine za2 (zy5 encG ((rgs n).filter fun g=>ze0 as (toI g)) (fun g=>(zb1 ps g,-((ngF g:Int) - 1),toI g)) n (zo5 rfl) rfl hT ?_ (fun g hgm=>lenI (mem hgm).1) (fun F H g hgm=>?_) (fun g hgm hmin=>?_)) rt
 .exact Zsc (Zip.mpr ⟨zt1 n,zio.mpr (zva hg.2)⟩)
 .obtain⟨h1,h2⟩:=mem hgm
  have e:=zhn ps (toI g)
  rw[<- zbg,zj7] at e
  have hmx:(ngF g:Int) - 1∈toI g /\ ∀n∈toI g,n<=(ngF g:Int) - 1:=by
   rcases yfa g with ⟨z,_⟩ | z
   .have:=lenI h1
    rw[z] at this
    simp at this;omega
   .exact z
  refine zcd (zac (by rw[<- e];exact zbq (pre:=zsf) (res:=zmk) (zac (za0 (zaa rfl) zaj.b rfl) (zac (zaa rfl) zaf)) ⟨ps,toI g,by rw[<- zbg],fun p hp=>by rw[lenI h1];exact hg.1 p hp,hpl⟩) (zac (zj8 (yei (ns:=toI g) (by rw[<- zbg];exact Ev.l (zaa rfl)) hmx.1 hmx.2).b) (zac (by rw[<- zbg];exact zaa rfl) zaf))) (small (by simp))
 .obtain⟨h1,h2⟩:=mem hgm
  congr 1
  refine(yat ⟨h1,h2,fun h hh hk=>?_⟩).symm
  have:=hmin h (Zip.mpr ⟨hh,zio.mpr hk⟩)
  rw[kk,kk] at this
  exact this
theorem zci(a b:Apt)(h:encA a=encA b):a=b:=by
 unfold encA at h
 injection h with h
 injection h with h1 h
 injection h with h2 _
 injection h1 with h1
 injection h2 with h2
 exact Zv2 (by omega) (by omega)
noncomputable def ygg(ds:List D):Prop:=∃ls:List Apt,ds=[.lst (ls.map encA)]/\ls.length<=1000
noncomputable def yci:List D->List D
 | [.lst ls]=>(numF (ls.map unA)).map encN
 | _=>[]
theorem yg6{β:Type}[DecidableEq β](ls:List β):(dd ls).length<=ls.length:=by
 induction ls using zim with
 | h0=>exact Zio _
 | hs ls x ih =>
  rw[Zis]
  by_cases h:x∈ls
  .rw[zja h];omega
  .rw[zfu h,Zis];exact Zr1 ih _
theorem zlw(Z:Tx K mg ad0):FnOk P w K mg base CX0 1 ad0.Zao ad0.Zal zcu (SpO K ygg yci):=by
 refine okO Z.Zbq.F zdi (by rintro ds ⟨c,rfl,_⟩;rfl) fun cdv A outer s H Q E hr=>⟨_,(zad (psn 1 zdi.nd zhl)
   (zad (psn 2 zdi.nd (zca zae))
   (zad (zbn Zix rfl (za6 (pv 0)) (pgn 3 zdi.nd) (zad (zbt (zje (zgy (zbl hr) (pv 3) (pv 1)) (by with_unfolding_all rfl)) (zag (zdy (zbl hr) (pv 1) (pv 3) (zat (show zcm _ _ yee from zzq) (by rfl) Z.Zac Zk8 (zab (pv 1) zae)) rfl)) zax)
   (zag (zgj (zjc Zjr Zkc Zkk zcr (pv 2) (zab (zc4 (zbl hr) (pv 1) (pv 3) (fun _ _=>rfl)) zae))))))
   (zag (zas (pv 2)))))),fun G ds hp rt=>?_⟩
 obtain⟨ls,rfl,hl⟩:=hp
 have e0:yci [.lst (ls.map encA)]=(numF ls).map encN:=by show(numF ((ls.map encA).map unA)).map encN=_;rw[zhx]
 rw[e0] at rt
 let kv (l:List Apt):DD:=dA encA encN (dd l) (ixo (dd l))
 have kvl:∀l:List Apt,(kv l).length=(dd l).length:=fun l=>by show(dA _ _ _ _).length=_;unfold dA;rw[Zia]
 refine zak (zhr fun p=>?_)
 ((try dsimp only);refine zap ?_)
 refine zak (zey (zbs zaf (small (by decide))) fun q=>?_)
 ((try dsimp only);refine zap ?_)
 refine zak (zcs encA ls (fun k ss=>∃v3:Sl,ss=[.d (.lst (ls.map encA)),dslT K p (kv (ls.take k)),.o q ((numF (ls.take k)).map encN),v3]) (zaa rfl) ⟨.un,rfl⟩ ?_ ?_)
 .rintro L' k x ss hL hk ⟨v3,rfl⟩
  refine⟨_,zan,fun N hN=>?_⟩
  have et:ls.take (k+1)=ls.take k++[x]:=by rw[Zi0,hk];rfl
  have ltk:(ls.take k).length<=1000:=by rw[Zjc];omega
  generalize ls.take k=lk at et ltk
  have hz:(kv lk).length<sizeLine:=by rw[kvl,Ziv];have:=yg6 lk;omega
  have vx:(valD (kv lk) (encA x)).isSome=decide (x∈lk):=by
   by_cases h:x∈lk
   .rw[show valD (kv lk) (encA x)=_ from zfb zci ((zfc lk).mpr h),decide_eq_true h];rfl
   .rw[show valD (kv lk) (encA x)=_ from zo0 zci (fun z=>h ((zfc lk).mp z)),decide_eq_false h];rfl
  refine zs7 (fun ss=>ss=[.d (.lst (ls.map encA)),dslT K p (kv (lk++[x])),.o q ((numF lk).map encN),.d (encA x)]) (fun N' hN'=>zbd (b:=!decide (x∈lk)) (by rw[<- vx];exact ze9 (zv9 (ds:=[.int x.1,.int x.2]) rfl (zaa rfl) rfl rfl)) (fun hb=>?_) (fun hb=>?_)) ?_
  .have h:x∉lk:=by simpa using hb
   have hd:x∉dd lk:=fun z=>h ((zfc lk).mp z)
   refine zeg (ds:=[.int x.1,.int x.2]) rfl (yfl rfl) (zaa rfl) rfl rfl hz (hN' _ ?_)
   have e:putD (kv lk) (encA x) (.int (kv lk).length)=kv (lk++[x]):=by
    show putD (dA encA encN (dd lk) (ixo (dd lk))) (encA x) (encN (kv lk).length)=dA encA encN (dd (lk++[x])) (ixo (dd (lk++[x])))
    rw[zfu h,kvl]
    have e1:dA encA encN (dd lk) (ixo (dd lk))=dA encA encN (dd lk) (ixo (dd lk++[x])):=yb8 fun y hy=>(yg1 hy).symm
    rw[e1]
    have e2:(dd lk).length=ixo (dd lk++[x]) x:=by rw[zu0,yeb hd]
    rw[e2]
    exact zgc (f:=(ixo (dd lk++[x]))) zci hd
   rw[<- e];rfl
  .have h:x∈lk:=by simpa using hb
   refine za1 (hN' _ ?_)
   have e:kv lk=kv (lk++[x]):=by show dA _ _ (dd lk) (ixo (dd lk))=dA _ _ (dd (lk++[x])) (ixo (dd (lk++[x])));rw[zja h]
   rw[e];rfl
  .rintro ss rfl
   have hm:x∈dd (lk++[x]):=(zfc _).mpr (by simp)
   refine zfk (d:=encN (ixo (dd (lk++[x])) x)) rfl (ztk (ds:=[.int x.1,.int x.2]) rfl (zaa rfl) rfl rfl (zfb zci hm)) (by rw[Zia,zo6,Ziv];omega) (hN _ ⟨.d (encA x),?_⟩)
   rw[et,zvg,Zir]
   have:ixo (dd (lk++[x])) x=ixo (dd lk) x:=by
    by_cases h:x∈lk
    .rw[zja h]
    .rw[zfu h,zu0]
   rw[this];rfl
 .rintro ss ⟨v3,rfl⟩
  rw[Zi3]
  ((try dsimp only);refine zap ?_)
  exact zxq rfl rt
theorem yep(ls:List Apt):∀l∈ls,ufF ls l.1=ufF ls l.2:=by
 induction ls using zim with
 | h0=>intro l h;simp at h
 | hs ls z ih =>
  intro l hl
  rw[ztu]
  unfold ufS
  rw[yax (x:=z.1) (y:=z.2) (yi3 _ _)]
  rcases Zin.mp hl with h | h
  .exact .inl (ih l h)
  .rw[Zic.mp h]
   exact .inr ⟨.inl rfl,.inr rfl⟩
theorem ycf(part:List Nat)(ps:List Pr)(as:List Apt):zsx part ps as=zvr part.length (inP part ps) (inA part as):=by
 unfold zsx zvr inP inA inB
 rw[Zja,Zja];rfl
theorem zs1{m:Nat}{ps:List Pr}{as:List Apt}(h:zff m ps as):zw5 m ps as:=⟨fun p hp=>by have:=h.1 p hp;exact⟨Zlj this.1 this.2.1,this.2.1⟩,fun a ha=>by have:=h.2 a ha;exact⟨Zlj this.1 this.2,this.2,Zi6 this.1⟩⟩
noncomputable def bestF(m:Nat)(ps:List Pr)(as:List Apt):List Nat:=zra (ufF (zfg ps as)) m ps as
theorem zpp{m:Nat}{ps:List Pr}{as:List Apt}(h:zff m ps as):BestOf m ps as (bestF m ps as):=by
 refine ya9 (zs1 h) fun p hp hw=>?_
 by_cases c:(p.1,p.2.1)∈as
 .exact .inr c
 .refine .inl (yep _ (p.1,p.2.1) (Zit.mpr ⟨p,Zip.mpr ⟨hp,?_⟩,rfl⟩))
  unfold ya8
  rw[decide_eq_true hw,decide_eq_false fun z=>?_];rfl
  obtain⟨a,ha,e⟩:=Zit.mp z
  exact c (zci _ _ e ▸ ha)
noncomputable def fewP(m:Nat)(ps:List Pr)(as:List Apt):Prop:=∀p∈zb7 (ufF (zfg ps as)) (Zid m),p.length<=7
noncomputable def yej(ds:List D):Prop:=∃(m:Nat) (ps:List Pr) (as:List Apt),ds=[.int m,.lst (ps.map encP),.lst (as.map encA)]/\m<=100/\ps.length<=1000/\as.length<=1000/\zff m ps as/\fewP m ps as
noncomputable def yac:List D->Int×List D
 | [.int m,.lst ps,.lst as]=>(zb1 (ps.map unP) (bestF m.toNat (ps.map unP) (as.map unA)),(bestF m.toNat (ps.map unP) (as.map unA)).map encN)
 | _=>(0,[])
theorem zqb(m:Nat)(ps:List Pr)(as:List Apt):yac [.int m,.lst (ps.map encP),.lst (as.map encA)]=(zb1 ps (bestF m ps as),(bestF m ps as).map encN):=by
 show(zb1 ((ps.map encP).map unP) (bestF (m:Int).toNat ((ps.map encP).map unP) ((as.map encA).map unA)),(bestF (m:Int).toNat ((ps.map encP).map unP) ((as.map encA).map unA)).map encN)=_
 rw[zjy,zhx];rfl
theorem zoe{T0:Addr}(Z:Tx K mg ad0)(Y:LamAt base mg ad0.Zaa T0):FnOk P w K mg base CX0 5 ad0.Zei ad0.Zee zib (SpPT K T0 lamP lamQ yej yac):=by
 have Zht:=zrz (P:=P) (w:=w) (base:=base) Z
 have Zhz:=zvj (P:=P) (w:=w) (base:=base) Z
 have Zga:=zms (P:=P) (w:=w) (base:=base) Z Y
 have Zf5:=zlw (P:=P) (w:=w) (base:=base) Z
 have Zej:=zk8 (P:=P) (w:=w) (base:=base) Z
 refine okPT Z.Zef.F zco (by rintro ds ⟨c,d,e,rfl,_⟩;rfl) fun cdv A outer s H Q E hr=>⟨_,(zad (psn 3 zco.nd (pcX Zht hr Z.Zem (zab (pv 0) (zab (pv 1) (zab (pv 2) zae)))))
   (zad (zbn Zix rfl (za6 (pv 3)) (pgn 4 zco.nd) (zag (zbt (zaw zlf (zat zay (by rfl) Z.Zac Zk8 (zab (pv 4) zae)) (zgm (by rfl) Z.Zcs Z.Zfc) (zau _)) (zag zuc) zax)))
   (zad (zwl (i:=5) zco.nd rfl (Ztj rfl) zmd)
   (zad (zbn Zix rfl (zif (by rfl) Z.Zck (zab (pv 3) zae)) (zcp rfl (zaq (pgn 6 zco.nd) (zaq (pgn 4 zco.nd) zbv))) (zad (psn 7 zco.nd (pcX Zga hr Z.Za2 (zab (pcX Zhz hr Z.Ze1 (zab (pv 4) (zab (pv 1) (zab (pv 2) zae)))) zae)))
   (zag (zbn Zix rfl (zny (by rfl) Z.Zgs (zab (pv 4) (zab (pv 7) zae))) (zcp rfl (zaq (pgn 8 zco.nd) (zaq (pgn 9 zco.nd) zbv))) (zag (zdy (zbl hr) (pv 5) (pv 8) (zbz (zab (pv 6) (zab (pv 9) zae))) rfl))))))
   (zad (psn 10 zco.nd (pcX Zf5 hr Z.Zbq (zab (zly rfl (LcOk.of (Nx:=(["many", "pairs", "aparts", "parts", "part", "labels", "place", "groups", "block", "group", "grouping"]:List Str)) (sc:=zah zie) (N':=(["block", "labels"]:List Str)) (nt:=1) (cs:=[5]) rfl rfl (by decide +kernel)) (zg4 (by rfl) Z.Zbo (zab (pv 0) zae)) (fun _ _ _ _=>(zbj (i:=0) (show Zjt (["block", "labels"]:List Str) by decide +kernel) rfl (Zld rfl))) (fun _ _ _ _=>zd1) (fun _ _ _ _=>(zc4 (zbl hr) (pv 1) (pv 0) (fun _ _=>rfl)))) zae)))
   (zag (zas (zbz (zab (pcX Zej hr Z.Zcw (zab (pv 1) (zab (pv 10) zae))) (zab (pv 10) zae)))))))))),fun G ds hT hp rt=>?_⟩
 obtain⟨m,ps,as,rfl,hm,hpl,hal,hg,h7⟩:=hp
 rw[zqb] at rt
 have hgB:=zs1 hg
 obtain⟨f,hf⟩:∃f,f=ufF (zfg ps as):=⟨_,rfl⟩
 have eP:resP [.int m,.lst (ps.map encP),.lst (as.map encA)]=(zb7 f (Zid m)).map encG:=by rw[ztv];unfold zjn;rw[<- hf];rfl
 have h7:∀p∈zb7 f (Zid m),p.length<=7:=by rw[hf];exact h7
 have eb:bestF m ps as=zra f m ps as:=by rw[hf];rfl
 rw[eb] at rt
 have hpl2:(zb7 f (Zid m)).length<=100:=by have:=zog (f:=f) (xs:=Zid m);rw[Zks] at this;omega
 have pk:∀(k:Nat) part,(zb7 f (Zid m))[k]? = some part->k<(zb7 f (Zid m)).length/\part=prt f m k/\part.length<=7:=fun k part h=>by
  refine⟨(Zif.mp h).1,?_,h7 part (Zii h)⟩
  unfold prt
  rw[Zh8,h];rfl
 have pP:preP [.int m,.lst (ps.map encP),.lst (as.map encA)]:=⟨m,ps,as,rfl,hm,hpl,hal,hg⟩
 refine zak (za3 (d:=.lst ((zb7 f (Zid m)).map encG)) (EvO.ev (by rw[<- eP];exact ziu (pre:=preP) (res:=resP) (zac (zaa rfl) (zac (zaa rfl) (zac (zaa rfl) zaf))) pP)) ?_)
 ((try dsimp only);refine zap ?_)
 generalize hpts:zb7 f (Zid m)=pts at *
 refine zak (zcs encG pts (fun k ss=>∃v4:Sl,ss=[.d (.int m),.d (.lst (ps.map encP)),.d (.lst (as.map encA)),.d (.lst (pts.map encG)),v4,.un,.un,.un,.un,.un,.un]) (zaa rfl) ⟨.un,rfl⟩ ?_ ?_)
 .rintro L' k part ss hL hk ⟨v4,rfl⟩
  refine⟨_,zan,fun N hN=>?_⟩
  have h1:=(pk k part hk).2.2
  have e:decide (((part.map encN).length:Int)>7)=false:=decide_eq_false (by rw[Zia];omega)
  exact zbd (b:=false) (by rw[<- e];exact zal (zk7 (zea (Ev.l (zaa rfl))).b zaj.b)) (fun hb=>by cases hb) (fun _=>za1 (hN _ ⟨_,rfl⟩))
 rintro ss ⟨v4,rfl⟩
 ((try dsimp only);refine zap ?_)
 refine zak (zsj fun p=>?_)
 ((try dsimp only);refine zap ?_)
 let lab:=labM f m ps as
 refine zak (zry encG pts (fun k ss=>∃(kvs:DD) (v4 v6 v7 v8 v9:Sl),ss=[.d (.int m),.d (.lst (ps.map encP)),.d (.lst (as.map encA)),.d (.lst (pts.map encG)),v4,dsl K p kvs,v6,v7,v8,v9,.un]/\(∀b<m,plc f m b<k->valD kvs (encN b)=some (encA (lab b)))/\kvs.length<=7*k) (zaa rfl) ⟨[],v4,.un,.un,.un,.un,rfl,fun b _ h=>absurd h (Zjo _),Zio _⟩ ?_ ?_)
 .rintro L' k part ss hL hk ⟨kvs,v4,v6,v7,v8,v9,rfl,hv,hl⟩
  refine⟨_,zcy rfl (zar zan (zar zan zb6)),fun N hN=>?_⟩
  obtain⟨hkl,ep,hp7⟩:=pk k part hk
  have hnd:part.Nodup:=by rw[ep];exact ygq (by rw[hpts];exact hkl)
  have hmem:∀{b:Nat},b∈part↔b<m/\plc f m b=k:=fun {b}=>by rw[ep];exact ye5 (by rw[hpts];exact hkl)
  have hp1:1<=part.length:=by
   have hm1:part∈zb7 f (Zid m):=by rw[hpts];exact Zii hk
   unfold zb7 at hm1
   obtain⟨y,hy,e⟩:=Zit.mp hm1
   have:y∈part:=by rw[<- e];exact Zip.mpr ⟨zkw hy,decide_eq_true rfl⟩
   exact List.length_pos_of_mem this
  have eC:=zuo part ps as
  rw[ycf] at eC
  have eB:=zt6 part.length (inP part ps) (inA part as)
  have pC:preC [.lst (part.map encN),.lst (ps.map encP),.lst (as.map encA)]:=⟨part,ps,as,rfl,hnd,by omega,hpl,hal⟩
  have pB:preB [zvr part.length (inP part ps) (inA part as)]:=⟨_,_,_,rfl,hp1,hp7,by unfold inP;rw[Zia];exact Zjb (Zj5 _ _) hpl,by unfold inA;rw[Zia];exact Zjb (Zj5 _ _) hal,zsc hgB part⟩
  have hgl:(bestP part.length (inP part ps) (inA part as)).length=part.length:=zgl (ztq (zsc hgB _).2).rg
  have hgr:grsM f m ps as k=bestP part.length (inP part ps) (inA part as):=by unfold grsM;rw[<- ep]
  refine zak (za3 (d:=encG (bestP part.length (inP part ps) (inA part as))) (by rw[<- eB];exact ya5 hT (zac (by rw[<- eC];exact zbq (pre:=preC) (res:=resC) (zac (zaa rfl) (zac (zaa rfl) (zac (zaa rfl) zaf))) pC) zaf) pB) ?_)
  ((try dsimp only);refine zap ?_)
  generalize bestP part.length (inP part ps) (inA part as)=gs at *
  refine ygj encN encN part gs (fun t ss=>∃(kvs:DD) (v8 v9:Sl),ss=[.d (.int m),.d (.lst (ps.map encP)),.d (.lst (as.map encA)),.d (.lst (pts.map encG)),.d (encG part),dsl K p kvs,.d (.int k),.d (encG gs),v8,v9,.un]/\(∀b<m,plc f m b<k->valD kvs (encN b)=some (encA (lab b)))/\(∀b∈part.take t,valD kvs (encN b)=some (encA (lab b)))/\kvs.length<=7*k+t) (zaa rfl) (zaa rfl) hgl.symm ⟨kvs,v8,v9,rfl,hv,fun b hb=>by simp at hb,hl⟩ ?_ ?_
  .rintro L2 t x y ss hL2 hx hy ⟨kvs,v8,v9,rfl,hv,hv2,hl⟩
   refine⟨_,zcy rfl (zar zan (zar zan zb6)),fun N2 hN2=>?_⟩
   have hxm:=hmem.mp (Zii hx)
   have ht:=(Zif.mp hx).1
   have hlab:encA (lab x)= .tup [.int k,.int y]:=by
    show encA (labG (plc f m) (prt f m) (grsM f m ps as) x)=_
    unfold labG
    rw[hxm.2,hgr,<- ep,zzb hnd hx]
    unfold atG encA
    rw[Zh8,hy];rfl
   refine zp4 (i:=5) (d:=.tup [.int k,.int y]) (k:=encN x) rfl (zcd (zac (zaa rfl) (zac (zaa rfl) zaf)) (small (by simp))) (zaa rfl).b rfl (by rw[Ziv];omega) (hN2 _ ⟨putD kvs (encN x) (.tup [.int k,.int y]),.d (encN x),.d (encN y),rfl,fun b hb hpb=>?_,fun b hb=>?_,?_⟩)
   .rw[zu7,if_neg fun z=>by have:=zcl _ _ z;subst this;omega]
    exact hv b hb hpb
   .rw[zu7]
    by_cases c:encN b=encN x
    .rw[if_pos c,zcl _ _ c,hlab]
    .rw[if_neg c]
     rw[Zi0,hx] at hb
     rcases Zin.mp hb with h | h
     .exact hv2 b h
     .exact absurd (by rw[show b=x by simpa using h]) c
   .have:=ycd kvs (encN x) (.tup [.int k,.int y]);omega
  .rintro ss ⟨kvs,v8,v9,rfl,hv,hv2,hl⟩
   rw[Zi3] at hv2
   refine hN _ ⟨kvs,_,_,_,v8,v9,rfl,fun b hb hpb=>?_,by omega⟩
   by_cases c:plc f m b<k
   .exact hv b hb c
   .exact hv2 b (hmem.mpr ⟨hb,by omega⟩)
 rintro ss ⟨kvs,v4,v6,v7,v8,v9,rfl,hv,hl⟩
 ((try dsimp only);refine zap ?_)
 have hv:∀b<m,valD kvs (encN b)=some (encA (lab b)):=fun b hb=>hv b hb (by have:=ydk (f:=f) hb;rw[hpts] at this;exact this)
 have eN:yci [.lst (((Zid m).map lab).map encA)]=(zra f m ps as).map encN:=by
  show(numF ((((Zid m).map lab).map encA).map unA)).map encN=_
  rw[zhx];rfl
 refine zak (zey (ds:=(zra f m ps as).map encN) (by
  rw[<- eN]
  refine ziu (pre:=ygg) (res:=yci) (zac (EvO.ev ?_) zaf) ⟨(Zid m).map lab,rfl,by rw[Zia,Zks];omega⟩
  have:=zk1 (K:=K) (G:=G) (Hz:=H) (L:=G) (ss:=[.d (.int m),.d (.lst (ps.map encP)),.d (.lst (as.map encA)),.d (.lst (pts.map encG)),v4,dsl K p kvs,v6,v7,v8,v9,.un]) (n:=((m:Nat):Int).toNat) (tt:=zsr) (te:=zwa (tVar 1) (tVar 0)) (g:=zfw 0) (nt:=1) (cs:=[5]) (fun _=>true) (fun b=>encA (lab b)) (zqp (n:=m) (zbm (zaa (i:=0) rfl).b zfh) ⟨by omega,by omega⟩) (zbu (by decide)) (by decide) (by rw[Ziv];omega) fun b hb=>⟨_,zan,zf8,fun _=>zfj (i:=1) (k:=encN b) rfl (zaa rfl).b rfl (hv b (by omega))⟩
  rw[Zkp.mpr fun _ _=>rfl,show((m:Nat):Int).toNat=m from rfl] at this
  rw[Zja]
  exact this) fun q=>?_)
 ((try dsimp only);refine zap ?_)
 have hbl:(zra f m ps as).length=m:=by rw[<- eb];exact zgl (zpp hg).rg
 have eL:=zhn ps (toI (zra f m ps as))
 rw[<- zbg,zj7] at eL
 exact ycc rfl (by
  rw[<- eL]
  exact yaj (pre:=zsf) (res:=zmk) (zbm (zaa rfl).b (zbm (zo5 rfl).b zfh)) ⟨ps,toI (zra f m ps as),by rw[<- zbg],fun p hp=>by unfold toI;rw[Zia,hbl];exact hgB.1 p hp,hpl⟩ (by rw[eL];rfl)) rt
noncomputable def prF(a b:Nat):Apt:=(min a b,max a b)
noncomputable def zbb(r:List Nat):List Apt:=(Zid (r.length - 1)).map fun k=>prF (r.getD k 0) (r.getD (k+1) 0)
noncomputable def gapR(r:List Nat):Apt:=prF (r.getD 0 0) (r.getD (r.length - 1) 0)
noncomputable def zb0(r:List Nat):Bool:=decide (3<=r.length)&&decide r.Nodup
noncomputable abbrev dAp{β:Type}(encB:β->D)(ks:List Apt)(f:Apt->β):DD:=dA encA encB ks f
theorem valA{β:Type}[DecidableEq β](encB:β->D)(ks:List Apt)(f:Apt->β)(a:Apt):valD (dAp encB ks f) (encA a)=if a∈ks then some (encB (f a)) else none:=by
 by_cases h:a∈ks
 .rw[if_pos h];exact zfb zci h
 .rw[if_neg h];exact zo0 zci h
theorem ye2{β:Type}[DecidableEq β](encB:β->D)(ks:List Apt)(f:Apt->β)(a:Apt):(valD (dAp encB ks f) (encA a)).isSome=decide (a∈ks):=by
 rw[valA]
 by_cases h:a∈ks
 .rw[if_pos h,decide_eq_true h];rfl
 .rw[if_neg h,decide_eq_false h];rfl
noncomputable def wtF(ks:List Apt)(f:Apt->Int)(a:Apt):Int:=if a∈ks then f a else 0
theorem getA(ks:List Apt)(f:Apt->Int)(a:Apt):(valD (dAp .int ks f) (encA a)).getD (.int 0)= .int (wtF ks f a):=by
 rw[valA];unfold wtF
 by_cases h:a∈ks
 .rw[if_pos h,if_pos h];rfl
 .rw[if_neg h,if_neg h];rfl
theorem ye6{β:Type}(encB:β->D)(ks:List Apt)(f:Apt->β):∀q∈dAp encB ks f,∃es,q.1= .tup es /\ ∀d∈es,d.isInt=true:=fun q hq=>by
 obtain⟨a,_,rfl⟩:=Zit.mp hq
 exact⟨_,rfl,fun d hd=>by simp at hd;rcases hd with rfl | rfl <;> rfl⟩
theorem lenA{β:Type}(encB:β->D)(ks:List Apt)(f:Apt->β):(dAp encB ks f).length=ks.length:=by unfold dAp dA;rw[Zia]
theorem atA{β:Type}(encB:β->D)(ks:List Apt)(f:Apt->β){k:Nat}{a:Apt}(h:ks[k]? = some a):(dAp encB ks f).getD k (.non,.non)=(encA a,encB (f a)):=by
 unfold dAp dA;rw[Zh8,Zie,h];rfl
noncomputable abbrev zld:List Nat:=[104,101,108,100]
noncomputable abbrev zhy:List Nat:=[112,97,114,116,101,100]
noncomputable def encC(b:Bool):D:=.str (if b then zld else zhy)
theorem zmy(Z:Tx K mg ad0):FnOk P w K mg base CX0 1 ad0.Zdq ad0.Zdi zhg (SpD K (fun ds=>∃i:Int,ds=[.int i]) fun _=>.bl true):=by
 refine okD Z.Zdf.F zsp (by rintro ds ⟨i,rfl⟩;rfl) fun cdv A outer s H Q E hr=>⟨_,(zag (zas (zd7 (zat zhz (by rfl) Z.Zab Zlv (zab (pv 0) (zab (zik (v:=.ty "int") (by rfl) Z.Zfs Zvx rfl) zae))) (zeu (ycw (zat zhf (by rfl) Z.Zab Zlv (zab (pv 0) (zab (zik (v:=.ty "bool") (by rfl) Z.Zf7 boot_bool rfl) zae)))))))),fun G ds hp rt=>?_⟩
 obtain⟨i,rfl⟩:=hp
 exact za2 (d:=.bl true) (zew (ydh (zaa rfl).b) fun _=>yco (zxv (zaa rfl).b)) rt
noncomputable def zu1(ds:List D):Prop:=∃k m:Nat,ds=[encN k,encN m]
noncomputable def zrf:List D->D
 | [k,m]=>.bl (decide (unN k<unN m))
 | _=>.non
theorem znk(Z:Tx K mg ad0):FnOk P w K mg base CX0 2 ad0.Zdc ad0.Zdh zhe (SpD K zu1 zrf):=by
 have Ze9:=zmy (P:=P) (w:=w) (base:=base) Z
 refine okD Z.Zcc.F zr2 (by rintro ds ⟨i,m,rfl⟩;rfl) fun cdv A outer s H Q E hr=>⟨_,(zag (zas (zd7 (pcX Ze9 hr Z.Zdf (zab (pv 0) zae)) (zeu (yb1 zvh zkp zai (pv 0) (pv 1)))))),fun G ds hp rt=>?_⟩
 obtain⟨k,m,rfl⟩:=hp
 have e:zrf [encN k,encN m]= .bl (true&&(decide ((0:Int)<=(k:Nat))&&decide (((k:Nat):Int)<(m:Nat)))):=by
  show D.bl (decide (k<m))=_
  rw[decide_eq_true (show(0:Int)<=(k:Nat) by omega),Zjl,Zjl]
  congr 1
  exact decide_eq_decide.mpr (by omega)
 rw[e] at rt
 exact za2 (zew (zbq (pre:=fun ds=>∃i:Int,ds=[.int i]) (res:=fun _=>.bl true) (zac (zaa rfl) zaf) ⟨k,rfl⟩) fun _=>zwc zaj.b (zaa (d:=.int (k:Nat)) rfl).b (zaa (d:=.int (m:Nat)) rfl).b) rt
noncomputable def zjr(ds:List D):Prop:=∃a b:Nat,ds=[encN a,encN b]
noncomputable def zj0:List D->D
 | [a,b]=>encA (prF (unN a) (unN b))
 | _=>.non
theorem zxg{G Hz L:Hp}{ss:List Sl}{ta tb tc td:TE}{a b:Nat}(e1:Ev K G Hz L ss ta (.int (if (b:Int)<(a:Nat) then (b:Int) else (a:Nat))))(e2:Ev K G Hz L ss tb (.int (if (b:Int)>(a:Nat) then (b:Int) else (a:Nat)))):Ev K G Hz L ss (tTup (za7 ta (za7 tb tNil))) (encA (prF a b)):=by
 have h1:(if (b:Int)<(a:Nat) then (b:Int) else (a:Nat))=((min a b:Nat):Int):=by split <;> omega
 have h2:(if (b:Int)>(a:Nat) then (b:Int) else (a:Nat))=((max a b:Nat):Int):=by split <;> omega
 rw[h1] at e1
 rw[h2] at e2
 exact zcd (zac e1 (zac e2 zaf)) (small (by simp))
theorem zop(Z:Tx K mg ad0):FnOk P w K mg base CX0 1 ad0.Zeh ad0.Zd6 zic (SpD K zjr zj0):=by
 refine okD Z.Zeb.F zvm (by rintro ds ⟨i,m,rfl⟩;rfl) fun cdv A outer s H Q E hr=>⟨_,(zag (zas (zbz (zab (zat (zmp rfl) (by rfl) Z.Zfk Ztf (zab (pv 0) (zab (pv 1) zae))) (zab (zat (zj5 rfl) (by rfl) Z.Zet Zq5 (zab (pv 0) (zab (pv 1) zae))) zae))))),fun G ds hp rt=>?_⟩
 obtain⟨a,b,rfl⟩:=hp
 exact za2 (d:=encA (prF a b)) (zxg (tc:=tC .non) (td:=tC .non) (zr9 (zaa (d:=.int (a:Nat)) rfl).b (zaa (d:=.int (b:Nat)) rfl).b) (zpr (zaa (d:=.int (a:Nat)) rfl).b (zaa (d:=.int (b:Nat)) rfl).b)) rt
theorem ye1{r:List Nat}:metN (toI r)=r.length↔r.Nodup:=by
 have:(toI r).length=r.length:=by unfold toI;rw[Zia]
 rw[<- this,ye7]
 unfold toI
 exact⟨fun h=>(Zn0.mp h).imp fun h z=>h (by rw[z]),fun h=>Zn0.mpr (h.imp fun h z=>h (by omega))⟩
theorem zyh{G Hz L:Hp}{ss:List Sl}{i:Nat}{r:List Nat}(h:ss[i]? = some (.d (.lst (r.map encN))))(hl:r.length<=1000):Ev K G Hz L ss (tCB zxb (za7 (tCB (zyf K) (za7 (tVar i) tNil)) tNil)) (.int (metN (toI r))) :=
 zvz (ns:=toI r) (by rw[<- zbg];exact(zaa h).l) (by unfold toI;rw[Zia];exact hl)
noncomputable def zsv(ds:List D):Prop:=∃(r:List Nat) (m:Nat),ds=[.lst (r.map encN),encN m]/\r.length<=1000
noncomputable def zn0:List D->D
 | [.lst r,m]=>.bl (zb0 (r.map unN)&&(r.map unN).all fun k=>decide (k<unN m))
 | _=>.non
theorem zoj(Z:Tx K mg ad0):FnOk P w K mg base CX0 3 ad0.Zd4 ad0.Zed zii (SpD K zsv zn0):=by
 have Zes:=znk (P:=P) (w:=w) (base:=base) Z
 refine okD Z.Zd7.F zv8 (by rintro ds ⟨i,m,rfl,_⟩;rfl) fun cdv A outer s H Q E hr=>⟨_,(zag (zas (zd7 (zbc zvu (zat zay (by rfl) Z.Zac Zk8 (zab (pv 0) zae)) zai (zau _)) (zd7 (zbc zd4 (zat (show zcm _ _ zxb from zp5) (by rfl) Z.Zac Zk8 (zab (zde (show zcm _ _ (zyf K) from zp6 rfl) (by rfl) Z.Zgt boot_set (zab (pv 0) zae)) zae)) (zat zay (by rfl) Z.Zac Zk8 (zab (pv 0) zae)) (zau _)) (zeu (zat (zke rfl) (by rfl) Z.Ze6 Zr8 (zab (zly rfl (LcOk.of (Nx:=(["ring", "many"]:List Str)) (sc:=zah zid) (N':=(["block", "many"]:List Str)) (nt:=1) (cs:=[1]) rfl rfl (by decide +kernel)) (za6 (pv 0)) (fun _ _ _ _=>(zbj (i:=0) (show Zjt (["block", "many"]:List Str) by decide +kernel) rfl (Zld rfl))) (fun _ _ _ _=>zd1) (fun _ _ _ _=>(pcX Zes hr Z.Zcc (zab (pv 0) (zab (pv 1) zae))))) zae))))))),fun G ds hp rt=>?_⟩
 obtain⟨r,m,rfl,hl⟩:=hp
 have ll:((r.map encN).length:Int)=r.length:=by rw[Zia]
 have e:zn0 [.lst (r.map encN),encN m]= .bl (decide (((r.map encN).length:Int) ≥ 3)&&(decide (((metN (toI r):Nat):Int)=((r.map encN).length:Int))&&r.all fun k=>decide (k<m))):=by
  show D.bl (zb0 ((r.map encN).map unN)&&((r.map encN).map unN).all fun k=>decide (k<m))=_
  rw[zkz]
  unfold zb0
  rw[Zqw]
  congr 2
  .exact decide_eq_decide.mpr (by rw[ll];omega)
  .congr 1
   refine decide_eq_decide.mpr ?_
   rw[<- ye1 (r:=r),Zia]
   omega
 rw[e] at rt
 refine za2 (zew (zv0 (zea (zaa rfl).l).b zaj.b) fun _=>zew (zgb (zyh rfl hl).b (zea (zaa rfl).l).b) fun _=>zm8 (xs:=r) (g:=fun k=>decide (k<m)) (EvO.l (zr6 r encN (fun k=>.bl (decide (k<m))) (zaa rfl).l (zbu (by decide)) (by decide) (by rw[Ziv];omega) fun k hk=>⟨_,zan,?_⟩))) rt
 exact zbq (pre:=zu1) (res:=zrf) (zac (zaa rfl) (zac (zaa rfl) zaf)) ⟨k,m,rfl⟩
noncomputable def ycb(ds:List D):Prop:=∃(r:List Nat),ds=[.lst (r.map encN)]/\r.length<=1000
noncomputable def zoa:List D->List D
 | [.lst r]=>(zbb (r.map unN)).map encA
 | _=>[]
theorem zg2(r:List Nat):zoa [.lst (r.map encN)]=(zbb r).map encA:=by show(zbb ((r.map encN).map unN)).map encA=_;rw[zkz]
theorem getN(r:List Nat)(k:Nat)(h:k<r.length):(r.map encN).getD k .non=encN (r.getD k 0):=by
 rw[Zh8,Zh8,Zie,Zh9 h];rfl
theorem zjz(Z:Tx K mg ad0):FnOk P w K mg base CX0 2 ad0.Zdb ad0.Zdp zgu (SpO K ycb zoa):=by
 have Zff:=zop (P:=P) (w:=w) (base:=base) Z
 refine okO Z.Zcf.F zsm (by rintro ds ⟨i,rfl,_⟩;rfl) fun cdv A outer s H Q E hr=>⟨_,(zag (zas (zly rfl (LcOk.of (Nx:=(["ring"]:List Str)) (sc:=zah zg8) (N':=(["one", "other"]:List Str)) (nt:=2) (cs:=[]) rfl rfl (by decide +kernel)) (zny (by rfl) Z.Zgs (zab (pv 0) (zab (ztm zye (pv 0) (zwp zai) zz3) zae))) (fun _ _ _ _=>(show PG _ _ (gTup K 2 _) from zcp rfl (zaq (zbj (i:=0) (show Zjt (["one", "other"]:List Str) by decide +kernel) rfl (Zld rfl)) (zaq (zbj (i:=1) (show Zjt (["one", "other"]:List Str) by decide +kernel) rfl (Zld rfl)) zbv)))) (fun _ _ _ _=>zd1) (fun _ _ _ _=>(pcX Zff hr Z.Zeb (zab (pv 0) (zab (pv 1) zae))))))),fun G ds hp rt=>?_⟩
 obtain⟨r,rfl,hl⟩:=hp
 rw[zg2] at rt
 have hsl:cutD (r.map encN) (some 1) none=(r.drop 1).map encN:=by rw[zzi _ (by decide),List.map_drop];rfl
 have e:(zbb r).map encA=((Zid (min (r.map encN).length ((r.drop 1).map encN).length)).filter fun _=>true).map fun k=>encA (prF (r.getD k 0) (r.getD (k+1) 0)):=by
  unfold zbb
  rw[Zja,Zkp.mpr (fun _ _=>rfl),Zia,Zia,Znb,show min r.length (r.length - 1)=r.length - 1 by omega]
  rfl
 rw[e] at rt
 refine zia (zk1 (fun _=>true) (fun k=>encA (prF (r.getD k 0) (r.getD (k+1) 0))) (EvF.evi (yfq (ds:=r.map encN) (es:=(r.drop 1).map encN) (zaa rfl) (EvO.ev (by rw[<- hsl];exact zx1 (zaa rfl).l (zu6 zaj.b) yc3)))) (zod (zcq (zbu (by decide)) (zcq (zbu (by decide)) zle))) (by decide) (by rw[Ziv];simp;omega) fun k hk=>?_) rt
 rw[Zia,Zia,Znb] at hk
 have h1:=getN r k (by omega)
 have h2:((r.drop 1).map encN).getD k .non=encN (r.getD (k+1) 0):=by
  rw[Zh8,Zh8,Zie,Zpe,Nat.add_comm 1 k,Zh9 (by omega)];rfl
 rw[h1,h2]
 exact⟨_,zcy rfl (zar zan (zar zan zb6)),zf8,fun _=>zbq (pre:=zjr) (res:=zj0) (zac (zaa rfl) (zac (zaa rfl) zaf)) ⟨_,_,rfl⟩⟩
noncomputable def zu4(ds:List D):Prop:=∃(r:List Nat),ds=[.lst (r.map encN)]/\r≠[]
noncomputable def zqr:List D->D
 | [.lst r]=>encA (gapR (r.map unN))
 | _=>.non
theorem zla(r:List Nat):zqr [.lst (r.map encN)]=encA (gapR r):=by show encA (gapR ((r.map encN).map unN))=_;rw[zkz]
theorem zzp{α:Type}{xs:List α}{v:α}(h:xs[xs.length - 1]? = some v)(hn:xs≠[]):atI xs (-1)=some v:=by
 have hl:0<xs.length:=Zlg.mpr hn
 have h2:ixN xs.length (-1)=some (xs.length - 1):=by
  unfold ixN
  split <;> rename_i z <;> first | omega | skip
  all_goals (split <;> first | omega | (congr 1;omega))
 unfold atI
 rw[h2];exact h
theorem znm(Z:Tx K mg ad0):FnOk P w K mg base CX0 2 ad0.Zew ad0.Zey zkt (SpD K zu4 zqr):=by
 have Zff:=zop (P:=P) (w:=w) (base:=base) Z
 refine okD Z.Zdx.F zwk (by rintro ds ⟨i,rfl,_⟩;rfl) fun cdv A outer s H Q E hr=>⟨_,(zag (zas (pcX Zff hr Z.Zeb (zab (za4 (show IxR _ (rIxL K) from zbk) (pv 0) zai (fun _ _=>rfl)) (zab (za4 (show IxR _ (rIxL K) from zbk) (pv 0) (zob zjf zai) (fun _ _=>rfl)) zae))))),fun G ds hp rt=>?_⟩
 obtain⟨r,rfl,hn⟩:=hp
 have hl:0<r.length:=Zlg.mpr hn
 rw[zla] at rt
 have h0:atI (r.map encN) 0=some (encN (r.getD 0 0)):=zk2 (j:=0) (by rw[Zie,Zh8,Zh9 hl];rfl)
 have h1:atI (r.map encN) (-1)=some (encN (r.getD (r.length - 1) 0)):=zzp (by rw[Zia,Zie,Zh8,Zh9 (by omega)];rfl) (by simpa using hn)
 exact za2 (zbq (pre:=zjr) (res:=zj0) (zac (zdr (zaa rfl).l zaj.b h0) (zac (zdr (zaa rfl).l (zj8 (i:=1) zaj.b).b h1) zaf)) ⟨_,_,rfl⟩) rt
noncomputable abbrev Dec:=List Apt×(Apt->Bool)
noncomputable abbrev Wts:=List Apt×(Apt->Int)
noncomputable def decD(x:Dec):D:=D.dicT (dAp encC x.1 x.2)
noncomputable def wtsD(y:Wts):D:=D.dicT (dAp .int y.1 y.2)
noncomputable def zcg(x:Dec)(a:Apt):Bool:=decide (a∈x.1)&&x.2 a
noncomputable def zcc(x:Dec)(a:Apt):Bool:=decide (a∈x.1) && !x.2 a
theorem yd5(x:Dec)(a:Apt):decide ((valD (dAp encC x.1 x.2) (encA a)).getD .non= .str zhy)=zcc x a:=by
 unfold zcc
 rw[valA]
 by_cases h:a∈x.1
 .rw[if_pos h,decide_eq_true h,Zjl]
  show decide (encC (x.2 a)= .str zhy)=_
  cases x.2 a
  .exact decide_eq_true rfl
  .exact decide_eq_false (by intro z;injection z with z;exact absurd z (by decide))
 .rw[if_neg h,decide_eq_false h,Znt]
  exact decide_eq_false (by intro z;cases z)
theorem getC(x:Dec)(a:Apt):(valD (dAp encC x.1 x.2) (encA a)).getD .non= .non \/ ∃m,(valD (dAp encC x.1 x.2) (encA a)).getD .non= .str m:=by
 rw[valA]
 by_cases h:a∈x.1
 .rw[if_pos h];exact .inr ⟨_,rfl⟩
 .rw[if_neg h];exact .inl rfl
section
variable{G Hz L:Hp}{ss:List Sl}{td ty:TE}{a:Apt}
theorem ztc(x:Dec)(e1:Ev K G Hz L ss td (decD x))(e2:Ev K G Hz L ss ty (encA a)):Ev K G Hz L ss (tOp rEq (zuk td ty) (tC (.str (T zhy)))) (.bl (zcc x a)):=by
 rw[<- yd5]
 exact zxs (zof e1 e2 rfl rfl) (getC x a) (zi0 (d:=.str zhy) fun H=>Rep.str (by decide)).b
theorem zks(x:Dec)(e1:Ev K G Hz L ss td (decD x))(e2:Ev K G Hz L ss ty (encA a)):Ev K G Hz L ss (zmh ty td) (.bl (!decide (a∈x.1))):=by
 rw[<- ye2 encC x.1 x.2]
 exact zmr e1 e2 rfl rfl
theorem zvn(y:Wts)(e1:Ev K G Hz L ss td (wtsD y))(e2:Ev K G Hz L ss ty (encA a)):Ev K G Hz L ss (ztr td ty (tC (.int 0))) (.int (wtF y.1 y.2 a)):=by
 rw[<- getA]
 exact zvf e1 e2 zaj rfl rfl
end
theorem zq0{G Hz L:Hp}{ss:List Sl}{i:Nat}{r:List Nat}{E:XK}(h:ss[i]? = some (.d (.lst (r.map encN))))(hl:r.length<=1000):EvO K G Hz L ss (ze7 (SpO K ycb zoa) [] E (za7 (tVar i) tNil)) ((zbb r).map encA):=by
 rw[<- zg2]
 exact ziu (pre:=ycb) (res:=zoa) (zac (zaa h) zaf) ⟨r,rfl,hl⟩
theorem ycm{G Hz L:Hp}{ss:List Sl}{i:Nat}{r:List Nat}{E:XK}(h:ss[i]? = some (.d (.lst (r.map encN))))(hn:r≠[]):Ev K G Hz L ss (ze7 (SpD K zu4 zqr) [] E (za7 (tVar i) tNil)) (encA (gapR r)):=by
 rw[<- zla]
 exact zbq (pre:=zu4) (res:=zqr) (zac (zaa h) zaf) ⟨r,rfl,hn⟩
noncomputable def zbi(r:List Nat)(x:Dec):List Apt:=(zbb r++[gapR r]).filter fun a=>!decide (a∈x.1)
noncomputable def yd8(q:List Nat×Dec)(ds:List D):Prop:=ds=[.lst (q.1.map encN),decD q.2]/\q.1≠[]/\q.1.length<=1000
noncomputable def yd4(q:List Nat×Dec):List D:=(zbi q.1 q.2).map encA
theorem zfr(r:List Nat):(zbb r).length=r.length - 1:=by unfold zbb;rw[Zia,Zks]
theorem zj6(Z:Tx K mg ad0):FnOk P w K mg base CX0 3 ad0.Zb7 ad0.Zby zeq (SpGO K yd8 yd4):=by
 have Zc7:=zjz (P:=P) (w:=w) (base:=base) Z
 have Zev:=znm (P:=P) (w:=w) (base:=base) Z
 refine okGO Z.Zb0.F zp0 (by rintro q ds ⟨rfl,_⟩;rfl) fun cdv A outer s H Q E hr=>⟨_,(zag (zas (zly rfl (LcOk.of (Nx:=(["ring", "decided"]:List Str)) (sc:=zah zen) (N':=(["pair", "decided"]:List Str)) (nt:=1) (cs:=[1]) rfl rfl (by decide +kernel)) (za6 (zbr (show OpR _ _ (zky K) from zgk) (pcX Zc7 hr Z.Zcf (zab (pv 0) zae)) (zca (zab (pcX Zev hr Z.Zdx (zab (pv 0) zae)) zae)))) (fun _ _ _ _=>(zbj (i:=0) (show Zjt (["pair", "decided"]:List Str) by decide +kernel) rfl (Zld rfl))) (fun _ _ _ _=>(zix (zje (zgy (zbl hr) (pv 0) (pv 1)) (by with_unfolding_all rfl)))) (fun _ _ _ _=>(pv 0))))),fun G ds q hp rt=>?_⟩
 obtain⟨r,x⟩:=q
 obtain⟨rfl,hn,hl⟩:=hp
 have hl:r.length<=1000:=hl
 have e:(zbb r++[gapR r]).map encA=zoa [.lst (r.map encN)]++[encA (gapR r)]:=by rw[zg2,Zir];rfl
 have hll:(zoa [.lst (r.map encN)]).length+1<=1001:=by rw[zg2,Zia,zfr];omega
 refine zia (zgg (zbb r++[gapR r]) encA (fun a=>!decide (a∈x.1)) encA (by
   rw[e]
   refine EvO.l (zjs (EvO.l (ziu (pre:=ycb) (res:=zoa) (zac (zaa rfl) zaf) ⟨r,rfl,hl⟩)) (EvO.l (zbs (zac ?_ zaf) (small (by simp)))) (by rw[Ziv,Zm5];omega))
   rw[<- zla]
   exact zbq (pre:=zu4) (res:=zqr) (zac (zaa rfl) zaf) ⟨r,rfl,hn⟩) (zbu (by decide)) (by decide) (by rw[Ziv,Zis,zfr];simp;omega)
  fun a ha=>⟨_,zan,ze9 (zks x (zaa rfl) (zaa rfl)),fun _=>zaa rfl⟩) rt
noncomputable def zg5(x:Dec)(y:Wts)(a:Apt):Bool:=!(zcc x a||(!decide (a∈x.1)&&decide (wtF y.1 y.2 a<=0)))
noncomputable def zqk(x:Dec)(y:Wts)(a:Apt):Bool:=zcc x a||(!decide (a∈x.1)&&decide (wtF y.1 y.2 a<0))
noncomputable def ze3(r:List Nat)(m:Nat)(y:Wts)(x:Dec):Bool:=(zb0 r&&r.all fun k=>decide (k<m))&&(!decide (zbi r x=[])&&((zbb r).all (zg5 x y)&&zqk x y (gapR r)))
noncomputable def yhk(q:List Nat×Nat×Wts×Dec)(ds:List D):Prop:=ds=[.lst (q.1.map encN),encN q.2.1,wtsD q.2.2.1,decD q.2.2.2]/\q.1.length<=1000
noncomputable def yg0(q:List Nat×Nat×Wts×Dec):D:=.bl (ze3 q.1 q.2.1 q.2.2.1 q.2.2.2)
theorem znx(r:List Nat)(m:Nat):zn0 [.lst (r.map encN),encN m]= .bl (zb0 r&&r.all fun k=>decide (k<m)):=by
 show D.bl (zb0 ((r.map encN).map unN)&&((r.map encN).map unN).all fun k=>decide (k<m))=_
 rw[zkz]
theorem yed{l:List Apt}:decide (D.lst (l.map encA)= .lst [])=decide (l=[]):=decide_eq_decide.mpr (by cases l <;> simp)
theorem nbsA(l:List Apt):(D.lst (l.map encA)).nb=true:=D.nbs_map zr4 l
theorem depA(l:List Apt):(D.lst (l.map encA)).dep<=60:=by
 show D.deps (l.map encA)+1<=60
 have:D.deps (l.map encA)<=1:=by
  induction l with
  | nil=>exact Zjn _
  | cons a l ih=>exact Zvq.mpr ⟨Zio 1,ih⟩
 omega
theorem zre(Z:Tx K mg ad0):FnOk P w K mg base CX0 4 ad0.Zco ad0.Zcl zfs (SpG K yhk yg0):=by
 have Zfi:=zoj (P:=P) (w:=w) (base:=base) Z
 have Zez:=zj6 (P:=P) (w:=w) (base:=base) Z
 have Zc7:=zjz (P:=P) (w:=w) (base:=base) Z
 have Zev:=znm (P:=P) (w:=w) (base:=base) Z
 refine okG Z.Zd0.F zis (by rintro q ds ⟨rfl,_⟩;rfl) fun cdv A outer s H Q E hr=>⟨_,(zad (zbt (PW.pt (zhi (zd6 (zc2 (pcX Zfi hr Z.Zd7 (zab (pv 0) (zab (pv 1) zae))))) (zh0 (zaw (show OpR _ _ (rEqD K) from ztl hr.units) (pcX Zez hr Z.Zb0 (zab (pv 0) (zab (pv 3) zae))) (zca zae) (zau _))))) (zag (zas zd5)) zax)
   (zad (zbn Zix rfl (za6 (pcX Zc7 hr Z.Zcf (zab (pv 0) zae))) (pgn 4 zis.nd) (zag (zbt (PW.pt (zhi (zaw zd4 (zl5 (zbl hr) (pv 3) (pv 4) ⟨by rfl,by rfl,by rfl,by rfl⟩) (zgm (by rfl) Z.Zcv Z.Zex) (zau _)) (zh0 (PW.pt (zjm (zje (zgy (zbl hr) (pv 4) (pv 3)) (by with_unfolding_all rfl)) (zgi (zaw zvh (zgd (zbl hr) (pv 2) (pv 4) zai ⟨by rfl,by rfl,by rfl,by rfl⟩) zai (zau _)))))))) (zag (zas zd5)) zax)))
   (zad (psn 5 zis.nd (pcX Zev hr Z.Zdx (zab (pv 0) zae)))
   (zag (zas (ybf (zbc zd4 (zl5 (zbl hr) (pv 3) (pv 5) ⟨by rfl,by rfl,by rfl,by rfl⟩) (zgm (by rfl) Z.Zcv Z.Zex) (zau _)) (zeu (zd7 (ycx (zgy (zbl hr) (pv 5) (pv 3)) (by with_unfolding_all rfl)) (zeu (zbc zkp (zgd (zbl hr) (pv 2) (pv 5) zai ⟨by rfl,by rfl,by rfl,by rfl⟩) zai (zau _))))))))))),fun G ds q hp rt=>?_⟩
 obtain⟨r,m,y,x⟩:=q
 obtain⟨rfl,hl⟩:=hp
 have hl:r.length<=1000:=hl
 have rt:RtD K G H Q (.bl (ze3 r m y x)):=rt
 have ring:∀{ss':List Sl} {L:Hp} {E},ss'[0]? = some (.d (.lst (r.map encN)))->ss'[1]? = some (.d (encN m))->Ev K G H L ss' (ze7 (SpD K zsv zn0) [] E (za7 (tVar 0) (za7 (tVar 1) tNil))) (.bl (zb0 r&&r.all fun k=>decide (k<m))):=fun {ss' L E} h0 h1=>by
  rw[<- znx]
  exact zbq (zac (zaa h0) (zac (zaa h1) zaf)) ⟨r,m,rfl,hl⟩
 have rne:(zb0 r&&r.all fun k=>decide (k<m))=true->r≠[]:=fun h z=>by
  subst z;simp[zb0] at h
 refine zak (zbd (zcx (c:=decide (zbi r x=[])) (zcf (zal (ring rfl rfl))) fun hb=>zal (by
  rw[Zj3] at hb
  rw[<- yed]
  exact zu8 (EvO.ev (zhd (pre:=yd8) (res:=yd4) (r,x) (zac (zaa rfl) (zac (zaa rfl) zaf)) ⟨rfl,rne hb,hl⟩)).b (EvO.ev (zbs zaf (small (by simp)))).b (nbsA _) rfl (depA _))) (fun hb=>?_) (fun hb=>?_))
 .refine za2 zfv ?_
  have:ze3 r m y x=false:=by
   unfold ze3
   rw[Zl2,Zje,decide_eq_true_eq] at hb
   rcases hb with hb | hb
   .rw[hb];rfl
   .rw[decide_eq_true hb];simp
  rw[this] at rt;exact rt
 rw[Zlo,Zj3,decide_eq_false_iff_not] at hb
 obtain⟨hr1,ho⟩:=hb
 have hrn:=rne hr1
 have e0:ze3 r m y x=((zbb r).all (zg5 x y)&&zqk x y (gapR r)):=by
  unfold ze3;rw[hr1,decide_eq_false ho];simp
 rw[e0] at rt
 refine zak (zcs encA (zbb r) (fun k ss=>(∀a∈(zbb r).take k,zg5 x y a=true) /\ ∃v4,ss=[.d (.lst (r.map encN)),.d (encN m),.d (wtsD y),.d (decD x),v4,.un]) (EvO.ev (zq0 rfl hl)) ⟨by simp,.un,rfl⟩ ?_ ?_)
 .rintro L' k a ss hL hk ⟨hall,v4,rfl⟩
  refine⟨_,zan,fun N hN=>?_⟩
  refine zbd (zcx (zal (ztc x (zaa rfl) (zaa rfl))) fun _=>zgn (ze9 (zks x (zaa rfl) (zaa rfl))) fun _=>zal (zyz (zvn y (zaa rfl) (zaa rfl)).b zaj.b)) (fun hb=>?_) (fun hb=>?_)
  .refine za2 zfv ?_
   have:(zbb r).all (zg5 x y)=false:=by
    rw[Zn3]
    exact⟨a,Zii hk,by unfold zg5;rw[hb];simp⟩
   rw[this] at rt;exact rt
  .refine za1 (hN _ ⟨fun b hb'=>?_,.d (encA a),rfl⟩)
   rw[Zi0,hk] at hb'
   rcases Zin.mp hb' with h | h
   .exact hall b h
   .rw[show b=a by simpa using h];unfold zg5;rw[hb];rfl
 rintro ss ⟨hall,v4,rfl⟩
 rw[Zi3] at hall
 rw[Zi7.mpr hall,Zjl] at rt
 ((try dsimp only);refine zap ?_)
 refine zak (za3 (ycm rfl hrn) ?_)
 ((try dsimp only);refine zap ?_)
 exact za2 (yav (ztc x (zaa rfl) (zaa rfl)) fun _=>zew (zks x (zaa rfl) (zaa rfl)) fun _=>zkx (zvn y (zaa rfl) (zaa rfl)).b zaj.b) rt
noncomputable def sumA(f:Apt->Int)(as:List Apt):Int:=as.foldl (fun s a=>s+f a) 0
theorem zro(f:Apt->Int)(as:List Apt)(a:Apt):sumA f (as++[a])=sumA f as+f a:=by unfold sumA;rw[Zkg];rfl
noncomputable def zh1(y:Wts)(x:Dec)(a:Apt):Int:=if (!decide (x.2 a=decide (wtF y.1 y.2 a>0)))=true then absI (wtF y.1 y.2 a) else 0
noncomputable def zk6(y:Wts)(x:Dec):Int:=sumA (zh1 y x) x.1
noncomputable def yhv(q:Wts×Dec)(ds:List D):Prop:=ds=[wtsD q.1,decD q.2]
noncomputable def yha(q:Wts×Dec):D:=.int (zk6 q.1 q.2)
theorem yec(b:Bool):decide ((if b then zld else zhy)=zld)=b:=by cases b <;> decide
theorem zm6(Z:Tx K mg ad0):FnOk P w K mg base CX0 1 ad0.Za3 ad0.Za6 zdg (SpG K yhv yha):=by
 refine okG Z.Zcg.F zch (by rintro q ds rfl;rfl) fun cdv A outer s H Q E hr=>⟨_,(zad (psn 2 zch.nd zai)
   (zad (zbn Zix rfl (zns (zm1 (pv 1))) (zcp rfl (zaq (pgn 3 zch.nd) (zaq (pgn 4 zch.nd) zbv))) (zad (psn 5 zch.nd (zgd (zbl hr) (pv 0) (pv 3) zai ⟨by rfl,by rfl,by rfl,by rfl⟩))
   (zag (zbt (zaw zn9 (zbc zd4 (pv 4) (zgm (by rfl) Z.Zfh Z.Zgy) (zau _)) (zbc zlf (pv 5) zai (zau _)) (zau _)) (zag (psn 2 zch.nd (zbr zc1 (pv 2) (zat zhp (by rfl) Z.Zel Zpy (zab (pv 5) zae))))) zax))))
   (zag (zas (pv 2))))),fun G ds q hp rt=>?_⟩
 obtain⟨y,x⟩:=q
 obtain rfl:=hp
 have rt:RtD K G H Q (.int (zk6 y x)):=rt
 refine zak (za3 zaj ?_)
 ((try dsimp only);refine zap ?_)
 refine zak (zyj (fun k ss=>∃v3 v4 v5,ss=[.d (wtsD y),.d (decD x),.d (.int (sumA (zh1 y x) (x.1.take k))),v3,v4,v5]) (zmz (kvs:=dAp encC x.1 x.2) (zaa rfl) (ye6 _ _ _)) ⟨.un,.un,.un,rfl⟩ ?_ ?_)
 .rintro L' k ss hL hk ⟨v3,v4,v5,rfl⟩
  rw[lenA] at hk
  have hka:=Zh9 hk
  generalize x.1[k]=a at hka
  rw[atA encC x.1 x.2 hka]
  refine⟨_,zcy (ds:=[encA a,encC (x.2 a)]) rfl (zar zan (zar zan zb6)),fun N hN=>?_⟩
  have hs:sumA (zh1 y x) (x.1.take (k+1))=sumA (zh1 y x) (x.1.take k)+zh1 y x a:=by rw[Zi0,hka];exact zro ..
  refine zak (za3 (zvn (a:=a) y (zaa rfl) (zaa rfl)) ?_)
  ((try dsimp only);refine zap ?_)
  refine zbd (b:=!decide (x.2 a=decide (wtF y.1 y.2 a>0))) (zal (by
   have h1:Ev K G H L' ([.d (wtsD y),.d (decD x),.d (.int (sumA (zh1 y x) (x.1.take k))),.d (encA a),.d (encC (x.2 a)),.d (.int (wtF y.1 y.2 a))]:List Sl) (tOp rEq (tVar 4) (tC (.str (T zld)))) (.bl (x.2 a)):=by
    have:=zdd (K:=K) (G:=G) (Hz:=H) (L:=L') (ss:=([.d (wtsD y),.d (decD x),.d (.int (sumA (zh1 y x) (x.1.take k))),.d (encA a),.d (encC (x.2 a)),.d (.int (wtF y.1 y.2 a))]:List Sl)) (l:=if x.2 a then zld else zhy) (m:=zld) (ta:=tVar 4) (tb:=tC (.str (T zld))) (zaa rfl).b (zi0 (d:=.str zld) fun H=>Rep.str (by decide)).b
    rw[yec] at this;exact this
   exact ztt h1.b (zk7 (zaa rfl).b zaj.b).b)) (fun hq=>?_) (fun hq=>?_)
  .refine za3 (zc3 (zaa rfl).b (zjx (zaa rfl).b).b) (hN _ ⟨.d (encA a),.d (encC (x.2 a)),.d (.int (wtF y.1 y.2 a)),?_⟩)
   have e0:zh1 y x a=absI (wtF y.1 y.2 a):=by unfold zh1;rw[if_pos hq]
   rw[hs,e0];rfl
  .refine za1 (hN _ ⟨.d (encA a),.d (encC (x.2 a)),.d (.int (wtF y.1 y.2 a)),?_⟩)
   have e0:zh1 y x a=0:=by unfold zh1;rw[if_neg (by rw[hq];decide)]
   rw[hs,e0,Zos];rfl
 rintro ss ⟨v3,v4,v5,rfl⟩
 rw[lenA,Zi3]
 ((try dsimp only);refine zap ?_)
 exact za2 (zaa rfl) rt
noncomputable abbrev Usd:=List Apt×(Apt->Int)
noncomputable def addU(v:Int)(u:Usd)(a:Apt):Usd:=(if a∈u.1 then u.1 else u.1++[a],fun b=>if b=a then wtF u.1 u.2 a+v else u.2 b)
theorem ye9{β:Type}[DecidableEq β](encB:β->D)(ks:List Apt)(f:Apt->β){a:Apt}(h:a∈ks)(v:β):putD (dAp encB ks f) (encA a) (encB v)=dAp encB ks (fun b=>if b=a then v else f b):=by
 unfold putD
 have:((dAp encB ks f).any fun kv=>decide (kv.1=encA a))=true:=by
  rw[Zlb]
  exact⟨(encA a,encB (f a)),Zit.mpr ⟨a,h,rfl⟩,by simp⟩
 rw[if_pos this]
 unfold dAp dA
 rw[Zja]
 refine Zjf fun b hb=>?_
 show(if encA b=encA a then (encA b,encB v) else (encA b,encB (f b)))=_
 by_cases hba:b=a
 .subst hba;simp
 .rw[if_neg (fun z=>hba (zci _ _ z))]
  show _=(encA b,encB (if b=a then v else f b))
  rw[if_neg hba]
theorem zsg{β:Type}[DecidableEq β](encB:β->D)(ks:List Apt)(f:Apt->β)(a:Apt)(v:β):putD (dAp encB ks f) (encA a) (encB v)=dAp encB (if a∈ks then ks else ks++[a]) (fun b=>if b=a then v else f b):=by
 by_cases h:a∈ks
 .rw[if_pos h];exact ye9 encB ks f h v
 .rw[if_neg h]
  have e:dAp encB ks f=dAp encB ks (fun b=>if b=a then v else f b):=by
   unfold dAp dA
   refine Zjf fun b hb=>?_
   show _=(encA b,encB (if b=a then v else f b))
   rw[if_neg (fun z=>h (by rw[<- z];exact hb))]
  rw[e]
  have:=zgc (enc:=encA) (encB:=encB) (f:=fun b=>if b=a then v else f b) (x:=a) (xs:=ks) zci h
  rw[if_pos rfl] at this
  exact this
noncomputable abbrev Row:=List Nat×Int
noncomputable def za9(q:Row):D:=.tup [.lst (q.1.map encN),.int q.2]
noncomputable def useR(x:Dec)(rows:List Row):Usd:=rows.foldl (fun u q=>(zbi q.1 x).foldl (addU q.2) u) ([],fun _=>0)
noncomputable def sumR(rows:List Row):Int:=rows.foldl (fun s q=>s+q.2) 0
theorem zno(x:Dec)(rows:List Row)(q:Row):useR x (rows++[q])=(zbi q.1 x).foldl (addU q.2) (useR x rows):=by unfold useR;rw[Zkg];rfl
theorem zmt(rows:List Row)(q:Row):sumR (rows++[q])=sumR rows+q.2:=by unfold sumR;rw[Zkg];rfl
noncomputable def zlz(m:Nat)(y:Wts)(x:Dec)(q:Row):Bool:=decide (1<=q.2)&&ze3 q.1 m y x
noncomputable def zk0(rows:List Row)(m:Nat)(y:Wts)(x:Dec)(least:Int):Bool:=rows.all (zlz m y x)&&(((useR x rows).1.all fun a=>decide ((useR x rows).2 a<=absI (wtF y.1 y.2 a)))&&decide (zk6 y x+sumR rows ≥ least))
theorem zrh(v:Int):∀(as:List Apt) (u:Usd) (b:Apt),b∈(as.foldl (addU v) u).1↔b∈u.1\/b∈as
 | [],u,b=>by simp
 | a::as,u,b=>by
  rw[Zke,zrh v as]
  have:b∈(addU v u a).1↔b∈u.1\/b=a:=by
   unfold addU
   by_cases h:a∈u.1
   .rw[if_pos h]
    exact⟨.inl,fun z=>z.elim id fun z=>by rw[z];exact h⟩
   .rw[if_neg h];simp
  rw[this,Ziy,or_assoc]
theorem zkh(x:Dec):∀(rows:List Row) (b:Apt),b∈(useR x rows).1 ↔ ∃q∈rows,b∈zbi q.1 x:=by
 have:∀(rows:List Row) (u:Usd) (b:Apt),b∈(rows.foldl (fun u q=>(zbi q.1 x).foldl (addU q.2) u) u).1↔b∈u.1 \/ ∃q∈rows,b∈zbi q.1 x:=by
  intro rows
  induction rows with
  | nil=>intro u b;simp
  | cons q rows ih =>
   intro u b
   rw[Zke,ih,zrh]
   simp only[Ziy,exists_eq_or_imp,or_assoc]
 intro rows b
 unfold useR
 rw[this]
 simp
theorem zku(v:Int):∀(as:List Apt) (u:Usd),(as.foldl (addU v) u).1.length<=u.1.length+as.length
 | [],u=>by simp
 | a::as,u=>by
  rw[Zke]
  have h:=zku v as (addU v u a)
  have h2:(addU v u a).1.length<=u.1.length+1:=by unfold addU;dsimp only;split <;> simp
  rw[Zj7]
  omega
theorem zua(r:List Nat)(x:Dec):(zbi r x).length<=r.length - 1+1:=by
 unfold zbi
 refine Zjb (Zj5 _ _) ?_
 rw[Zis,zfr];simp
theorem zzr{r:List Nat}{m:Nat}{y:Wts}{x:Dec}(h:ze3 r m y x=true){a:Apt}(ha:a∈zbi r x):a∈y.1:=by
 unfold ze3 at h
 simp only[Ziq] at h
 obtain⟨_,_,hl,hg⟩:=h
 unfold zbi at ha
 obtain⟨hm,hn⟩:=Zip.mp ha
 have hnp:zcc x a=false:=by unfold zcc;rw[Zje] at hn;rw[hn];rfl
 have hw:wtF y.1 y.2 a≠0:=by
  rcases Zin.mp hm with hm | hm
  .have:=Zi7.mp hl a hm
   unfold zg5 at this
   rw[hnp,hn] at this
   simp at this
   omega
  .have ea:a=gapR r:=by simpa using hm
   subst ea
   unfold zqk at hg
   rw[hnp,hn] at hg
   simp at hg
   omega
 unfold wtF at hw
 split at hw
 .assumption
 .exact absurd rfl hw
noncomputable def yic(q:List Row×Nat×Wts×Dec×Int)(ds:List D):Prop:=ds=[.lst (q.1.map za9),encN q.2.1,wtsD q.2.2.1,decD q.2.2.2.1,.int q.2.2.2.2]/\q.1.length<=100 /\ ∀r∈q.1,r.1.length<=100
noncomputable def yhg(q:List Row×Nat×Wts×Dec×Int):D:=.bl (zk0 q.1 q.2.1 q.2.2.1 q.2.2.2.1 q.2.2.2.2)
theorem zun{α:Type}{l:List α}{k:Nat}{a b:α}(hk:l[k]? = some a)(h:b∈l.take (k+1)):b∈l.take k\/b=a:=by
 rw[Zi0,hk] at h
 rcases Zin.mp h with h | h
 .exact .inl h
 .exact .inr (by simpa using h)
theorem zw4(x:Dec):∀(rows:List Row),(∀q∈rows,q.1.length<=100)->(useR x rows).1.length<=rows.length*101:=by
 intro rows
 have:∀(rows:List Row) (u:Usd),(∀q∈rows,q.1.length<=100)->(rows.foldl (fun u q=>(zbi q.1 x).foldl (addU q.2) u) u).1.length<=u.1.length+rows.length*101:=by
  intro rows
  induction rows with
  | nil=>intro u _;simp
  | cons q rows ih =>
   intro u h
   rw[Zke]
   have h1:=ih ((zbi q.1 x).foldl (addU q.2) u) fun r hr=>h r (Zij _ hr)
   have h2:=zku q.2 (zbi q.1 x) u
   have h3:=zua q.1 x
   have h4:=h q Zil
   rw[Zj7]
   omega
 intro h
 have:=this rows ([],fun _=>0) h
 unfold useR
 simpa using this
theorem zpk (Z : Tx K mg ad0) : FnOk P w K mg base CX0 5 ad0.Zb6 ad0.Zb3 zeo (SpG K yic yhg) := by
 have Ze9:=zmy (P:=P) (w:=w) (base:=base) Z
 have Zgg:=zm6 (P:=P) (w:=w) (base:=base) Z
 have Zhj:=zre (P:=P) (w:=w) (base:=base) Z
 have Zez:=zj6 (P:=P) (w:=w) (base:=base) Z
 refine okG Z.Zc6.F zb8 (by rintro q ds ⟨rfl,_⟩;rfl) fun cdv A outer s H Q E hr=>⟨_,(zad (psn 5 zb8.nd (pcX Zgg hr Z.Zcg (zab (pv 2) (zab (pv 3) zae))))
   (zad (psn 6 zb8.nd zhl)
   (zad (zbn Zix rfl (za6 (pv 0)) (zcp rfl (zaq (pgn 7 zb8.nd) (zaq (pgn 8 zb8.nd) zbv))) (zad (zbt (PW.pt (zhi (zd6 (zc2 (pcX Ze9 hr Z.Zdf (zab (pv 8) zae)))) (zhi (zaw zkp (pv 8) zai (zau _)) (zh0 (zd6 (zc2 (pcX Zhj hr Z.Zd0 (zab (pv 7) (zab (pv 1) (zab (pv 2) (zab (pv 3) zae))))))))))) (zag (zas zd5)) zax)
   (zad (psn 5 zb8.nd (zbr zc1 (pv 5) (pv 8)))
   (zag (zbn Zix rfl (za6 (pcX Zez hr Z.Zb0 (zab (pv 7) (zab (pv 3) zae)))) (pgn 9 zb8.nd) (zag (zdy (zbl hr) (pv 6) (pv 9) (zbr zc1 (zgd (zbl hr) (pv 6) (pv 9) zai ⟨by rfl,by rfl,by rfl,by rfl⟩) (pv 8)) rfl)))))))
   (zad (zli (psn 10 zb8.nd (zat (zke rfl) (by rfl) Z.Ze6 Zr8 (zab (zly rfl (LcOk.of (Nx:=(["rings", "many", "weights", "decided", "least", "shown", "used", "ring", "amount", "pair", "within"]:List Str)) (sc:=zah zel) (N':=(["pair", "amount", "weights"]:List Str)) (nt:=2) (cs:=[2]) rfl rfl (by decide +kernel)) (zns (zm1 (pv 6))) (fun _ _ _ _=>(show PG _ _ (gTup K 2 _) from zcp rfl (zaq (zbj (i:=0) (show Zjt (["pair", "amount", "weights"]:List Str) by decide +kernel) rfl (Zld rfl)) (zaq (zbj (i:=1) (show Zjt (["pair", "amount", "weights"]:List Str) by decide +kernel) rfl (Zld rfl)) zbv)))) (fun _ _ _ _=>zd1) (fun _ _ _ _=>(zbc zvh (pv 1) (zat zhp (by rfl) Z.Zel Zpy (zab (zc4 (zbl hr) (pv 2) (pv 0) (fun _ _=>rfl)) zae)) (zau _)))) zae))))
   (zag (zas (zd7 (pv 10) (zeu (zbc zvu (pv 5) (pv 4) (zau _)))))))))),fun G ds q hp rt=>?_⟩
 obtain⟨rows,m,y,x,least⟩:=q
 obtain⟨rfl,hl,hrl⟩:=hp
 have hl:rows.length<=100:=hl
 have hrl:∀r∈rows,r.1.length<=100:=hrl
 have rt:RtD K G H Q (.bl (zk0 rows m y x least)):=rt
 refine zak (za3 (d:=.int (zk6 y x)) (zbe (pre:=yhv) (res:=yha) (y,x) (zac (zaa rfl) (zac (zaa rfl) zaf)) rfl) ?_)
 ((try dsimp only);refine zap ?_)
 refine zak (zhr fun p=>?_)
 ((try dsimp only);refine zap ?_)
 refine zak (zcs za9 rows (fun k ss=>(∀q∈rows.take k,zlz m y x q=true) /\ ∃v7 v8 v9,ss=[.d (.lst (rows.map za9)),.d (encN m),.d (wtsD y),.d (decD x),.d (.int least),.d (.int (zk6 y x+sumR (rows.take k))),dslT K p (dAp .int (useR x (rows.take k)).1 (useR x (rows.take k)).2),v7,v8,v9,.un]) (zaa rfl) ⟨by simp,.un,.un,.un,by simp[sumR,useR,dA];rfl⟩ ?_ ?_)
 .rintro L' k q ss hL hk ⟨hall,v7,v8,v9,rfl⟩
  obtain⟨r,am⟩:=q
  have hq:(r,am)∈rows:=Zii hk
  have hr1:r.length<=100:=hrl _ hq
  have hkl:k<rows.length:=(Zif.mp hk).1
  have hul:(useR x (rows.take k)).1.length<=10100:=by
   have:=zw4 x (rows.take k) fun q hq=>hrl q (Zma hq)
   rw[Zjc] at this
   omega
  have hol:=zua r x
  have ht:rows.take (k+1)=rows.take k++[(r,am)]:=by rw[Zi0,hk];rfl
  refine⟨_,zcy (ds:=[.lst (r.map encN),.int am]) rfl (zar zan (zar zan zb6)),fun N hN=>?_⟩
  refine zak (zbd (b:=!true||(decide (am<1) || !ze3 r m y x)) (zcx (zcf (zal (zbq (pre:=fun ds=>∃i:Int,ds=[.int i]) (res:=fun _=>.bl true) (zac (zaa rfl) zaf) ⟨am,rfl⟩))) fun _=>zcx (zal (zkx (zaa rfl).b zaj.b)) fun _=>zcf (zal (zbe (pre:=yhk) (res:=yg0) (r,m,y,x) (zac (zaa rfl) (zac (zaa rfl) (zac (zaa rfl) (zac (zaa rfl) zaf)))) ⟨rfl,(by show r.length<=1000;omega)⟩))) (fun hb=>?_) (fun hb=>?_))
  .refine za2 zfv ?_
   have:zk0 rows m y x least=false:=by
    have:rows.all (zlz m y x)=false:=by
     rw[Zn3]
     refine⟨_,hq,?_⟩
     unfold zlz
     simp only[Zpg,Zms,Zl2,decide_eq_true_eq,Zje] at hb
     rcases hb with hb | hb
     .rw[decide_eq_false (by show ¬ 1<=am;omega)];simp
     .show ¬ (decide (1<=am)&&ze3 r m y x)=true
      rw[hb];simp
    unfold zk0;rw[this];rfl
   rw[this] at rt;exact rt
  simp only[Zpg,Zms,Zlo,decide_eq_false_iff_not,Zj3] at hb
  obtain⟨hb1,hb2⟩:=hb
  have hrow:zlz m y x (r,am)=true:=by
   show(decide (1<=am)&&ze3 r m y x)=true
   rw[decide_eq_true (by omega),hb2];rfl
  have hrn:r≠[]:=fun z=>by subst z;simp[ze3,zb0] at hb2
  ((try dsimp only);refine zap ?_)
  refine zak (za3 (zc3 (zaa rfl).b (zaa rfl).b) ?_)
  ((try dsimp only);refine zap ?_)
  refine zcs encA (zbi r x) (fun j ss=>∃v9,ss=[.d (.lst (rows.map za9)),.d (encN m),.d (wtsD y),.d (decD x),.d (.int least),.d (.int (zk6 y x+sumR (rows.take k)+am)),dslT K p (dAp .int (((zbi r x).take j).foldl (addU am) (useR x (rows.take k))).1 (((zbi r x).take j).foldl (addU am) (useR x (rows.take k))).2),.d (.lst (r.map encN)),.d (.int am),v9,.un]) (EvO.ev (zhd (pre:=yd8) (res:=yd4) (r,x) (zac (zaa rfl) (zac (zaa rfl) zaf)) ⟨rfl,hrn,(by show r.length<=1000;omega)⟩)) ⟨v9,by simp⟩ ?_ ?_
  .rintro L2 j a ss hL2 hj ⟨v9,rfl⟩
   refine⟨_,zan,fun N2 hN2=>?_⟩
   have hjl:j<(zbi r x).length:=(Zif.mp hj).1
   have hl2:=zku am ((zbi r x).take j) (useR x (rows.take k))
   rw[Zjc] at hl2
   refine zeg (d:=.int (wtF (((zbi r x).take j).foldl (addU am) (useR x (rows.take k))).1 (((zbi r x).take j).foldl (addU am) (useR x (rows.take k))).2 a+am)) rfl (zc3 (by rw[<- getA];exact(zqf rfl (zaa rfl) zaj rfl rfl).b) (zaa rfl).b) (zaa rfl) rfl rfl (by rw[Ziv,lenA];omega) (hN2 _ ⟨.d (encA a),?_⟩)
   have et:(zbi r x).take (j+1)=(zbi r x).take j++[a]:=by rw[Zi0,hj];rfl
   rw[et,Zkg]
   have:=zsg D.int (((zbi r x).take j).foldl (addU am) (useR x (rows.take k))).1 (((zbi r x).take j).foldl (addU am) (useR x (rows.take k))).2 a (wtF (((zbi r x).take j).foldl (addU am) (useR x (rows.take k))).1 (((zbi r x).take j).foldl (addU am) (useR x (rows.take k))).2 a+am)
   show Zq8 _ _ (dslT K p (putD _ (encA a) (.int _)))=_
   rw[this];rfl
  .rintro ss ⟨v9,rfl⟩
   refine hN _ ⟨fun b hb=>?_,.d (.lst (r.map encN)),.d (.int am),v9,?_⟩
   .rcases zun hk hb with h | h
    .exact hall b h
    .rw[h];exact hrow
   .rw[Zi3,ht,zno,zmt,Zuf]
 rintro ss ⟨hall,v7,v8,v9,rfl⟩
 rw[Zi3] at hall ⊢
 ((try dsimp only);refine zap ?_)
 have hall2:rows.all (zlz m y x)=true:=Zi7.mpr hall
 have e0:zk0 rows m y x least=(((useR x rows).1.all fun a=>decide ((useR x rows).2 a<=absI (wtF y.1 y.2 a)))&&decide (zk6 y x+sumR rows ≥ least)):=by unfold zk0;rw[hall2,Zjl]
 rw[e0] at rt
 have hul:(useR x rows).1.length<=10100:=by
  have:=zw4 x rows hrl
  omega
 refine zak (zlo (i:=6) rfl (za3 (d:=.bl ((useR x rows).1.all fun a=>decide ((useR x rows).2 a<=absI (wtF y.1 y.2 a)))) (zm8 (xs:=(useR x rows).1) (EvO.l ?_)) ?_))
 .have e1:(useR x rows).1.map (fun a=>D.bl (decide ((useR x rows).2 a<=absI (wtF y.1 y.2 a))))=((Zid (dAp .int (useR x rows).1 (useR x rows).2).length).filter fun _=>true).map fun k=>D.bl (decide ((useR x rows).2 ((useR x rows).1.getD k (0,0))<=absI (wtF y.1 y.2 ((useR x rows).1.getD k (0,0))))):=by
   rw[Zkp.mpr (fun _ _=>rfl),lenA]
   refine Zlp fun i=>?_
   rw[Zie,Zie]
   by_cases hi:i<(useR x rows).1.length
   .rw[Zkd hi,Zh9 hi]
    simp[Zh8,hi]
   .rw[Zjz (by omega),Zjz (by simpa using hi)];rfl
  rw[e1]
  refine zk1 (fun _=>true) (fun k=>D.bl (decide ((useR x rows).2 ((useR x rows).1.getD k (0,0))<=absI (wtF y.1 y.2 ((useR x rows).1.getD k (0,0)))))) (EvF.evi (zmz (kvs:=dAp .int (useR x rows).1 (useR x rows).2) (zaa rfl) (ye6 _ _ _))) (zod (zcq (zbu (by decide)) (zcq (zbu (by decide)) zle))) (by decide) (by rw[Ziv,lenA];omega) fun k hk=>?_
  rw[lenA] at hk
  have hka:=Zh9 hk
  have hget:(useR x rows).1.getD k (0,0)=(useR x rows).1[k]:=by rw[Zh8,hka];rfl
  rw[hget]
  have hmem:(useR x rows).1[k]∈(useR x rows).1:=Zla hk
  generalize (useR x rows).1[k]=a at hka hmem
  rw[atA _ _ _ hka]
  obtain⟨q,hq,hao⟩:=(zkh x rows a).mp hmem
  have hrq:=hall q hq
  have hay:a∈y.1:=by
   unfold zlz at hrq
   rw[Ziq] at hrq
   exact zzr hrq.2 hao
  refine⟨_,zcy (ds:=[encA a,.int ((useR x rows).2 a)]) rfl (zar zan (zar zan zb6)),zf8,fun _=>?_⟩
  have hw:wtF y.1 y.2 a=y.2 a:=if_pos hay
  rw[hw]
  exact zyz (zaa rfl).b (zjx (znn (kvs:=dAp .int y.1 y.2) (zaa rfl) (zaa (d:=encA a) rfl) rfl rfl (by rw[show D.tup [.int a.1,.int a.2]=encA a from rfl,valA,if_pos hay])).b).b
 ((try dsimp only);refine zap ?_)
 exact za2 (zew (zaa rfl) fun _=>zv0 (zaa rfl).b (zaa rfl).b) rt
noncomputable def ybl(as:List Apt)(ds:List D):Prop:=ds=[.lst (as.map encA)]/\as.Nodup/\as.length<=1000
noncomputable def decP(as:List Apt):Dec:=(as,fun _=>false)
theorem zmc{α:Type}{l:List α}(h:l.Nodup){k:Nat}{a:α}(hk:l[k]? = some a):a∉l.take k:=fun hm=>by
 have hl:=(Zif.mp hk).1
 have:(l.take (k+1)).Nodup:=h.sublist (Zsk _ _)
 rw[Zi0,hk] at this
 exact(Zjw.mp this).2.2 a hm a (by simp) rfl
theorem zl0(Z:Tx K mg ad0):FnOk P w K mg base CX0 1 ad0.Zan ad0.Zaq zct (SpG K ybl fun as=>decD (decP as)):=by
 refine okG Z.Zbr.F zex (by rintro q ds ⟨rfl,_⟩;rfl) fun cdv A outer s H Q E hr=>⟨_,(zad (psn 1 zex.nd zhl)
   (zad (zbn Zix rfl (za6 (pv 0)) (pgn 2 zex.nd) (zag (zdy (zbl hr) (pv 1) (pv 2) (zgm (by rfl) Z.Zcv Z.Zex) rfl)))
   (zag (zli (zas (pv 1)))))),fun G ds as hp rt=>?_⟩
 obtain⟨rfl,hn,hl⟩:=hp
 refine zak (zhr fun p=>?_)
 ((try dsimp only);refine zap ?_)
 refine zak (zcs encA as (fun k ss=>∃v2,ss=[.d (.lst (as.map encA)),dslT K p (dAp encC (as.take k) (fun _=>false)),v2]) (zaa rfl) ⟨.un,rfl⟩ ?_ ?_)
 .rintro L' k a ss hL hk ⟨v2,rfl⟩
  refine⟨_,zan,fun N hN=>?_⟩
  refine zeg (d:=encC false) rfl (zi0 (d:=.str zhy) fun H=>Rep.str (by decide)) (zaa rfl) rfl rfl (by rw[Ziv,lenA,Zjc];omega) (hN _ ⟨.d (encA a),?_⟩)
  have e:putD (dAp encC (as.take k) fun _=>false) (encA a) (encC false)=dAp encC (as.take (k+1)) fun _=>false:=by
   rw[Zi0,hk]
   exact zgc (f:=fun _=>false) zci (zmc hn hk)
  show Zq8 _ _ (dslT K p (putD _ (encA a) _))=_
  rw[e];rfl
 rintro ss ⟨v2,rfl⟩
 rw[Zi3]
 ((try dsimp only);refine zap ?_)
 exact zlo (i:=1) rfl (za2 (zaa rfl) rt)
noncomputable def keyP(p:Pr):Apt:=(p.1,p.2.1)
noncomputable def wOf(ps:List Pr)(a:Apt):Int:=((ps.find? fun p=>decide (keyP p=a)).map (·.2.2)).getD 0
noncomputable def wtsP(ps:List Pr):Wts:=(ps.map keyP,wOf ps)
noncomputable def ya4(ps:List Pr)(ds:List D):Prop:=ds=[.lst (ps.map encP)]/\(ps.map keyP).Nodup/\ps.length<=1000
theorem zq9:∀{ps:List Pr},(ps.map keyP).Nodup-> ∀{p:Pr},p∈ps->wOf ps (keyP p)=p.2.2
 | q::ps,hn,p,hp=>by
  rw[Zik,Zj6] at hn
  unfold wOf
  rw[Zjy]
  rcases Ziy.mp hp with h | h
  .subst h;rw[decide_eq_true rfl];rfl
  .have:¬ keyP q=keyP p:=fun z=>hn.1 (by rw[z];exact Zit.mpr ⟨p,h,rfl⟩)
   rw[decide_eq_false this]
   exact zq9 hn.2 h
theorem zlv(Z:Tx K mg ad0):FnOk P w K mg base CX0 1 ad0.Zam ad0.Zap zcz (SpG K ya4 fun ps=>wtsD (wtsP ps)):=by
 refine okG Z.Zbs.F zcn (by rintro q ds ⟨rfl,_⟩;rfl) fun cdv A outer s H Q E hr=>⟨_,(zad (psn 1 zcn.nd zhl)
   (zad (zbn Zix rfl (za6 (pv 0)) (zcp rfl (zaq (pgn 2 zcn.nd) (zaq (pgn 3 zcn.nd) (zaq (pgn 4 zcn.nd) zbv)))) (zag (zdy (zbl hr) (pv 1) (zbz (zab (pv 2) (zab (pv 3) zae))) (pv 4) rfl)))
   (zag (zli (zas (pv 1)))))),fun G ds ps hp rt=>?_⟩
 obtain⟨rfl,hn,hl⟩:=hp
 refine zak (zhr fun p=>?_)
 ((try dsimp only);refine zap ?_)
 refine zak (zcs encP ps (fun k ss=>∃v2 v3 v4,ss=[.d (.lst (ps.map encP)),dslT K p (dAp .int ((ps.take k).map keyP) (wOf ps)),v2,v3,v4]) (zaa rfl) ⟨.un,.un,.un,rfl⟩ ?_ ?_)
 .rintro L' k q ss hL hk ⟨v2,v3,v4,rfl⟩
  refine⟨_,zcy rfl (zar zan (zar zan (zar zan zb6))),fun N hN=>?_⟩
  refine zeg (ds:=[.int q.1,.int q.2.1]) (d:=.int q.2.2) rfl (zaa rfl) (zcd (zac (zaa rfl) (zac (zaa rfl) zaf)) (small (by simp))) rfl rfl (by rw[Ziv,lenA,Zia,Zjc];omega) (hN _ ⟨.d (.int q.1),.d (.int q.2.1),.d (.int q.2.2),?_⟩)
  have hq:=Zii hk
  have hnt:keyP q∉(ps.take k).map keyP:=by
   rw[Zq9]
   exact zmc hn (by rw[Zie,hk];rfl)
  have e:putD (dAp .int ((ps.take k).map keyP) (wOf ps)) (encA (keyP q)) (.int q.2.2)=dAp .int ((ps.take (k+1)).map keyP) (wOf ps):=by
   rw[Zi0,hk,Zir,<- zq9 hn hq]
   exact zgc (f:=wOf ps) zci hnt
  show Zq8 _ _ (dslT K p (putD _ (encA (keyP q)) _))=_
  rw[e];rfl
 rintro ss ⟨v2,v3,v4,rfl⟩
 rw[Zi3]
 ((try dsimp only);refine zap ?_)
 exact zlo (i:=1) rfl (za2 (zaa rfl) rt)
theorem yd0(x:Dec)(a:Apt):decide ((valD (dAp encC x.1 x.2) (encA a)).getD .non= .str zld)=zcg x a:=by
 unfold zcg
 rw[valA]
 by_cases h:a∈x.1
 .rw[if_pos h,decide_eq_true h,Zjl]
  show decide (encC (x.2 a)= .str zld)=_
  cases x.2 a
  .exact decide_eq_false (by intro z;injection z with z;exact absurd z (by decide))
  .exact decide_eq_true rfl
 .rw[if_neg h,decide_eq_false h,Znt]
  exact decide_eq_false (by intro z;cases z)
theorem yf1{G Hz L:Hp}{ss:List Sl}{td ty:TE}{a:Apt}(x:Dec)(e1:Ev K G Hz L ss td (decD x))(e2:Ev K G Hz L ss ty (encA a)):Ev K G Hz L ss (tOp rEq (zuk td ty) (tC (.str (T zld)))) (.bl (zcg x a)):=by
 rw[<- yd0]
 exact zxs (zof e1 e2 rfl rfl) (getC x a) (zi0 (d:=.str zld) fun H=>Rep.str (by decide)).b
noncomputable def zg1(r:List Nat)(m:Nat)(x:Dec):Bool:=(zb0 r&&r.all fun k=>decide (k<m))&&((zbb r).all (zcg x)&&zcc x (gapR r))
noncomputable def yga(q:List Nat×Nat×Dec)(ds:List D):Prop:=ds=[.lst (q.1.map encN),encN q.2.1,decD q.2.2]/\q.1.length<=1000
noncomputable def ygu(q:List Nat×Nat×Dec):D:=.bl (zg1 q.1 q.2.1 q.2.2)
theorem zs6(Z:Tx K mg ad0):FnOk P w K mg base CX0 4 ad0.Zdj ad0.Zda zgp (SpG K yga ygu):=by
 have Zfi:=zoj (P:=P) (w:=w) (base:=base) Z
 have Zc7:=zjz (P:=P) (w:=w) (base:=base) Z
 have Zev:=znm (P:=P) (w:=w) (base:=base) Z
 refine okG Z.Zer.F znv (by rintro q ds ⟨rfl,_⟩;rfl) fun cdv A outer s H Q E hr=>⟨_,(zad (zbt (zd6 (zc2 (pcX Zfi hr Z.Zd7 (zab (pv 0) (zab (pv 1) zae))))) (zag (zas zd5)) zax)
   (zad (psn 3 znv.nd (zat (zke rfl) (by rfl) Z.Ze6 Zr8 (zab (zly rfl (LcOk.of (Nx:=(["ring", "many", "decided", "all_held"]:List Str)) (sc:=zah zg0) (N':=(["link", "decided"]:List Str)) (nt:=1) (cs:=[2]) rfl rfl (by decide +kernel)) (za6 (pcX Zc7 hr Z.Zcf (zab (pv 0) zae))) (fun _ _ _ _=>(zbj (i:=0) (show Zjt (["link", "decided"]:List Str) by decide +kernel) rfl (Zld rfl))) (fun _ _ _ _=>zd1) (fun _ _ _ _=>(zbc zd4 (zl5 (zbl hr) (pv 1) (pv 0) ⟨by rfl,by rfl,by rfl,by rfl⟩) (zgm (by rfl) Z.Zfh Z.Zgy) (zau _)))) zae)))
   (zag (zas (zd7 (pv 3) (zeu (zbc zd4 (zl5 (zbl hr) (pv 2) (pcX Zev hr Z.Zdx (zab (pv 0) zae)) ⟨by rfl,by rfl,by rfl,by rfl⟩) (zgm (by rfl) Z.Zcv Z.Zex) (zau _)))))))),fun G ds q hp rt=>?_⟩
 obtain⟨r,m,x⟩:=q
 obtain⟨rfl,hl⟩:=hp
 have hl:r.length<=1000:=hl
 have rt:RtD K G H Q (.bl (zg1 r m x)):=rt
 have ring:∀{ss':List Sl} {L:Hp} {E},ss'[0]? = some (.d (.lst (r.map encN)))->ss'[1]? = some (.d (encN m))->Ev K G H L ss' (ze7 (SpD K zsv zn0) [] E (za7 (tVar 0) (za7 (tVar 1) tNil))) (.bl (zb0 r&&r.all fun k=>decide (k<m))):=fun {ss' L E} h0 h1=>by
  rw[<- znx]
  exact zbq (zac (zaa h0) (zac (zaa h1) zaf)) ⟨r,m,rfl,hl⟩
 refine zak (zbd (zcf (zal (ring rfl rfl))) (fun hb=>?_) (fun hb=>?_))
 .rw[Zje] at hb
  refine za2 zfv ?_
  have:zg1 r m x=false:=by unfold zg1;rw[hb];rfl
  rw[this] at rt;exact rt
 rw[Zj3] at hb
 have hrn:r≠[]:=fun z=>by subst z;simp[zb0] at hb
 have e0:zg1 r m x=((zbb r).all (zcg x)&&zcc x (gapR r)):=by unfold zg1;rw[hb,Zjl]
 rw[e0] at rt
 ((try dsimp only);refine zap ?_)
 refine zak (za3 (d:=.bl ((zbb r).all (zcg x))) (zm8 (xs:=zbb r) (g:=zcg x) (EvO.l (zr6 (zbb r) encA (fun a=>.bl (zcg x a)) (EvO.l (zq0 rfl hl)) (zbu (by decide)) (by decide) (by rw[Ziv,zfr];omega) fun a ha=>⟨_,zan,yf1 x (zaa rfl) (zaa rfl)⟩))) ?_)
 ((try dsimp only);refine zap ?_)
 exact za2 (zew (zaa rfl) fun _=>ztc x (zaa rfl) (ycm rfl hrn)) rt
inductive Pap where
 | nev (r:List Nat) | rin (rows:List Row) | cas (i j:Nat) (a b:Pap)
noncomputable abbrev za8:List Nat:=[114,105,110,103,115]
noncomputable abbrev zbp:List Nat:=[99,97,115,101]
noncomputable abbrev zbf:List Nat:=[110,101,118,101,114]
noncomputable def zao:Pap->D
 | .nev r=>.tup [.str zbf,.lst (r.map encN)]
 | .rin rows=>.tup [.str za8,.lst (rows.map za9)]
 | .cas i j a b=>.tup [.str zbp,encN i,encN j,zao a,zao b]
noncomputable def ybt:Pap->Prop
 | .nev r=>r.length<=100
 | .rin rows=>rows.length<=100 /\ ∀q∈rows,q.1.length<=100
 | .cas i j a b=>i<8/\j<8/\ybt a/\ybt b
noncomputable def putX(x:Dec)(a:Apt)(b:Bool):Dec:=(x.1++[a],fun c=>if c=a then b else x.2 c)
noncomputable def mayD(i j m:Nat)(x:Dec):Bool:=decide (i<m)&&(decide (j<m)&&(decide (i<j) && !decide ((i,j)∈x.1)))
noncomputable def zc9(m:Nat)(y:Wts)(least:Int):Pap->Dec->Bool
 | .nev r,x=>zg1 r m x
 | .rin rows,x=>zk0 rows m y x least
 | .cas i j a b,x=>mayD i j m x&&(zc9 m y least a (putX x (i,j) true)&&zc9 m y least b (putX x (i,j) false))
noncomputable def zvc(x:Dec):Prop:=x.1.Nodup/\x.1.length<=1000 /\ ∀a∈x.1,a.1<8/\a.2<8
noncomputable def ygx(q:Nat×Nat×Pap×Pap×Nat×Dec)(ds:List D):Prop:=ds=[zao (.cas q.1 q.2.1 q.2.2.1 q.2.2.2.1),encN q.2.2.2.2.1,decD q.2.2.2.2.2]
noncomputable def yig(q:Nat×Nat×Pap×Pap×Nat×Dec):D:=.bl (mayD q.1 q.2.1 q.2.2.2.2.1 q.2.2.2.2.2)
theorem zps(Z:Tx K mg ad0):FnOk P w K mg base CX0 3 ad0.Zb8 ad0.Zbv zev (SpG K ygx yig):=by
 have Zes:=znk (P:=P) (w:=w) (base:=base) Z
 refine okG Z.Zcz.F zhm (by rintro q ds rfl;rfl) fun cdv A outer s H Q E hr=>⟨_,(zad (psn 3 zhm.nd (za4 (show IxR _ (rIxT K) from za5) (pv 0) zai (fun _ _=>rfl)))
   (zad (psn 4 zhm.nd (za4 (show IxR _ (rIxT K) from za5) (pv 0) zai (fun _ _=>rfl)))
   (zag (zas (zd7 (pcX Zes hr Z.Zcc (zab (pv 3) (zab (pv 1) zae))) (zd7 (pcX Zes hr Z.Zcc (zab (pv 4) (zab (pv 1) zae))) (zd7 (zbc zkp (pv 3) (pv 4) (zau _)) (zeu (ycx (zgy (zbl hr) (zbz (zab (pv 3) (zab (pv 4) zae))) (pv 2)) (by with_unfolding_all rfl)))))))))),fun G ds q hp rt=>?_⟩
 obtain⟨i,j,a,b,m,x⟩:=q
 obtain rfl:=hp
 have rt:RtD K G H Q (.bl (mayD i j m x)):=rt
 refine zak (za3 (d:=encN i) (za0 (ds:=[.str zbp,encN i,encN j,zao a,zao b]) (zaa rfl) zaj.b rfl) ?_)
 ((try dsimp only);refine zap ?_)
 refine zak (za3 (d:=encN j) (za0 (ds:=[.str zbp,encN i,encN j,zao a,zao b]) (zaa rfl) zaj.b rfl) ?_)
 ((try dsimp only);refine zap ?_)
 have hij:decide (i<j)=decide (((i:Nat):Int)<((j:Nat):Int)):=decide_eq_decide.mpr (by omega)
 unfold mayD at rt
 rw[hij] at rt
 exact za2 (zew (zbq (pre:=zu1) (res:=zrf) (zac (zaa rfl) (zac (zaa rfl) zaf)) ⟨i,m,rfl⟩) fun _=>zew (zbq (pre:=zu1) (res:=zrf) (zac (zaa rfl) (zac (zaa rfl) zaf)) ⟨j,m,rfl⟩) fun _=>zew (zkx (zaa (d:=.int (i:Nat)) rfl).b (zaa (d:=.int (j:Nat)) rfl).b) fun _=>zks (a:=(i,j)) x (zaa rfl) (zcd (ds:=[.int (i:Nat),.int (j:Nat)]) (zac (zaa rfl) (zac (zaa rfl) zaf)) (small (by simp)))) rt
noncomputable def yfb(q:Dec×Apt×Bool)(ds:List D):Prop:=ds=[decD q.1,encA q.2.1,encC q.2.2]/\zvc q.1/\q.2.1∉q.1.1
theorem zxr(x:Dec){a:Apt}(h:a∉x.1)(b:Bool){β:Type}[DecidableEq β](encB:Bool->D):putD (dAp encB x.1 x.2) (encA a) (encB b)=dAp encB (putX x a b).1 (putX x a b).2:=by
 rw[zsg,if_neg h];rfl
theorem zlc{β:Type}(encB:β->D){ks:List Apt}(f:Apt->β)(h:∀a∈ks,a.1<8/\a.2<8):∀q∈dAp encB ks f,∃a b:Nat,a<8/\b<8/\q.1= .tup [.int a,.int b]:=fun q hq=>by
 obtain⟨a,ha,rfl⟩:=Zit.mp hq
 exact⟨a.1,a.2,(h a ha).1,(h a ha).2,rfl⟩
theorem zn2(Z:Tx K mg ad0):FnOk P w K mg base CX0 1 ad0.Zbl ad0.Zbj zdp (SpG K yfb fun q=>decD (putX q.1 q.2.1 q.2.2)):=by
 refine okG Z.Zbe.F zji (by rintro q ds ⟨rfl,_⟩;rfl) fun cdv A outer s H Q E hr=>⟨_,(zad (psn 3 zji.nd (zde (show zcm _ _ zp7 from zk4) (by rfl) Z.Zfe zr8 (zab (pv 0) zae)))
   (zad (zdy (zbl hr) (pv 3) (pv 1) (pv 2) rfl)
   (zag (zli (zas (pv 3)))))),fun G ds q hp rt=>?_⟩
 obtain⟨x,a,b⟩:=q
 obtain⟨rfl,⟨hn,hl,hs⟩,ha⟩:=hp
 refine zak (zo1 (kvs:=dAp encC x.1 x.2) (zaa rfl) (zlc encC x.2 hs) fun p=>?_)
 ((try dsimp only);refine zap ?_)
 refine zak (zeg (i:=3) (d:=encC b) rfl (zaa rfl) (zaa (d:=encA a) rfl) rfl rfl (by rw[Ziv,lenA];have hl:x.1.length<=1000:=hl;omega) ?_)
 have hd:dslT K p (putD (dAp encC x.1 x.2) (.tup [.int a.1,.int a.2]) (encC b))=dslT K p (dAp encC (putX x a b).1 (putX x a b).2):=by
  rw[show D.tup [.int a.1,.int a.2]=encA a from rfl,zxr (β:=Bool) x ha b encC]
 rw[hd]
 ((try dsimp only);refine zap ?_)
 exact zlo (i:=3) rfl (za2 (zaa rfl) rt)
noncomputable def Pap.sz:Pap->Nat
 | .nev _=>1 | .rin _=>1 | .cas _ _ a b=>a.sz+b.sz+1
noncomputable def Pap.dp:Pap->Nat
 | .nev _=>0 | .rin _=>0 | .cas _ _ a b=>max a.dp b.dp+1
theorem ydt:∀p:Pap,p.sz+1<=2 ^ (p.dp+1)
 | .nev _=>by simp[Pap.sz,Pap.dp]
 | .rin _=>by simp[Pap.sz,Pap.dp]
 | .cas _ _ a b=>by
  have h1:=ydt a
  have h2:=ydt b
  have h3:2 ^ (a.dp+1)<=2 ^ (max a.dp b.dp+1):=Zoy (by decide) (by omega)
  have h4:2 ^ (b.dp+1)<=2 ^ (max a.dp b.dp+1):=Zoy (by decide) (by omega)
  have h5:2 ^ (max a.dp b.dp+1+1)=2 ^ (max a.dp b.dp+1)*2:=Nat.pow_succ ..
  simp only[Pap.sz,Pap.dp]
  omega
noncomputable abbrev Itm:=Pap×Dec
noncomputable def zou(t:Itm):D:=.tup [zao t.1,decD t.2]
noncomputable def stSz(st:List Itm):Nat:=st.foldr (fun t n=>t.1.sz+n) 0
theorem zil(st:List Itm)(t:Itm):stSz (st++[t])=stSz st+t.1.sz:=by
 induction st with
 | nil=>simp[stSz]
 | cons a st ih=>simp only[stSz,Znd,Zs2] at ih ⊢;omega
theorem zxm(p:Pap):1<=p.sz:=by cases p <;> simp[Pap.sz]
theorem ygf(st:List Itm):st.length<=stSz st:=by
 induction st with
 | nil=>simp[stSz]
 | cons a st ih =>
  have:=zxm a.1
  simp only[stSz,Zs2,Zj7] at ih ⊢
  omega
noncomputable def Fits(t:Itm):Prop:=ybt t.1/\zvc t.2/\t.2.1.length+t.1.dp<=1000
theorem zt5{x:Dec}{i j:Nat}(h:zvc x)(hn:(i,j)∉x.1)(hi:i<8)(hj:j<8)(hl:x.1.length<1000)(b:Bool):zvc (putX x (i,j) b):=by
 obtain⟨h1,h2,h3⟩:=h
 refine⟨Zjw.mpr ⟨h1,by simp,fun c hc d hd z=>hn (by rw[<- show d=(i,j) by simpa using hd,<- z];exact hc)⟩,by show(x.1++[(i,j)]).length<=1000;simp;omega,fun a ha=>?_⟩
 rcases Zin.mp ha with z | z
 .exact h3 a z
 .rw[show a=(i,j) by simpa using z];exact⟨hi,hj⟩
noncomputable def yfj(q:Pap×Nat×List Pr×List Apt×Int)(ds:List D):Prop:=ds=[zao q.1,encN q.2.1,.lst (q.2.2.1.map encP),.lst (q.2.2.2.1.map encA),.int q.2.2.2.2]/\(Fits (q.1,decP q.2.2.2.1)/\q.1.sz<=10000000)/\(q.2.2.1.map keyP).Nodup/\q.2.2.1.length<=1000
noncomputable def yek(q:Pap×Nat×List Pr×List Apt×Int):D:=.bl (zc9 q.2.1 (wtsP q.2.2.1) q.2.2.2.2 q.1 (decP q.2.2.2.1))
theorem zrt(Z:Tx K mg ad0):FnOk P w K mg base CX0 6 ad0.Zc4 ad0.Zds zg7 (SpG K yfj yek):=by
 have Zf2:=zlv (P:=P) (w:=w) (base:=base) Z
 have Zft:=zl0 (P:=P) (w:=w) (base:=base) Z
 have Zgz:=zpk (P:=P) (w:=w) (base:=base) Z
 have Zhr:=zs6 (P:=P) (w:=w) (base:=base) Z
 have Zg2:=zps (P:=P) (w:=w) (base:=base) Z
 have Zfd:=zn2 (P:=P) (w:=w) (base:=base) Z
 refine okG Z.Zdm.F zdl (by rintro q ds ⟨rfl,_⟩;rfl) fun cdv A outer s H Q E hr=>⟨_,(zad (psn 5 zdl.nd (pcX Zf2 hr Z.Zbs (zab (pv 2) zae)))
   (zad (psn 6 zdl.nd (zca (zab (zbz (zab (pv 0) (zab (pcX Zft hr Z.Zbr (zab (pv 3) zae)) zae))) zae)))
   (zad (yaq Zix (zaw zlf (zat zay (by rfl) Z.Zac Zk8 (zab (pv 6) zae)) zai (zau _)) (zad (psn 7 zdl.nd (ycz Zjr Zug F.type_list_pop yhi (pv 6)))
   (zad (psn 8 zdl.nd (za4 (show IxR _ (rIxT K) from za5) (pv 7) zai (fun _ _=>rfl)))
   (zad (psn 9 zdl.nd (za4 (show IxR _ (rIxT K) from za5) (pv 7) zai (fun _ _=>rfl)))
   (zag (zbt (zaw zd4 (za4 (show IxR _ (rIxT K) from za5) (pv 8) zai (fun _ _=>rfl)) zfx (zau _)) (zad (zbt (zd6 (zc2 (pcX Zg2 hr Z.Zcz (zab (pv 8) (zab (pv 1) (zab (pv 9) zae)))))) (zag (zas zd5)) zax)
   (zad (psn 10 zdl.nd (zbz (zab (za4 (show IxR _ (rIxT K) from za5) (pv 8) zai (fun _ _=>rfl)) (zab (za4 (show IxR _ (rIxT K) from za5) (pv 8) zai (fun _ _=>rfl)) zae))))
   (zad (zgj (zjc Zjr Zkc Zkk zcr (pv 6) (zab (zbz (zab (za4 (show IxR _ (rIxT K) from za5) (pv 8) zai (fun _ _=>rfl)) (zab (pcX Zfd hr Z.Zbe (zab (pv 9) (zab (pv 10) (zab (zgm (by rfl) Z.Zfh Z.Zgy) zae)))) zae))) zae)))
   (zag (zgj (zjc Zjr Zkc Zkk zcr (pv 6) (zab (zbz (zab (za4 (show IxR _ (rIxT K) from za5) (pv 8) zai (fun _ _=>rfl)) (zab (pcX Zfd hr Z.Zbe (zab (pv 9) (zab (pv 10) (zab (zgm (by rfl) Z.Zcv Z.Zex) zae)))) zae))) zae))))))) (zag (zbt (zaw zd4 (za4 (show IxR _ (rIxT K) from za5) (pv 8) zai (fun _ _=>rfl)) zfx (zau _)) (zag (zbt (zd6 (zc2 (pcX Zgz hr Z.Zc6 (zab (za4 (show IxR _ (rIxT K) from za5) (pv 8) zai (fun _ _=>rfl)) (zab (pv 1) (zab (pv 5) (zab (pv 9) (zab (pv 4) zae)))))))) (zag (zas zd5)) zax)) (zag (zbt (zd6 (zc2 (pcX Zhr hr Z.Zer (zab (za4 (show IxR _ (rIxT K) from za5) (pv 8) zai (fun _ _=>rfl)) (zab (pv 1) (zab (pv 9) zae)))))) (zag (zas zd5)) zax))))))))))
   (zag (zas zd5))))),fun G ds q hp rt=>?_⟩
 obtain⟨pp,m,ps,as,least⟩:=q
 obtain⟨rfl,⟨hfit,hsz0⟩,hpn,hpl⟩:=hp
 have hsz0:pp.sz<=10000000:=hsz0
 have hfit:Fits (pp,decP as):=hfit
 have han:as.Nodup:=hfit.2.1.1
 have hal:as.length<=1000:=hfit.2.1.2.1
 have rt:RtD K G H Q (.bl (zc9 m (wtsP ps) least pp (decP as))):=rt
 refine zak (za3 (zbe (pre:=ya4) (res:=fun ps=>wtsD (wtsP ps)) ps (zac (zaa rfl) zaf) ⟨rfl,hpn,hpl⟩) ?_)
 ((try dsimp only);refine zap ?_)
 refine zak (zey (ds:=[zou (pp,decP as)]) (zbs (zac (zcd (ds:=[zao pp,decD (decP as)]) (zac (zaa rfl) (zac (zbe (pre:=ybl) (res:=fun as=>decD (decP as)) as (zac (zaa rfl) zaf) ⟨rfl,han,hal⟩) zaf)) (small (by simp))) zaf) (small (by simp))) fun p=>?_)
 ((try dsimp only);refine zap ?_)
 generalize wtsP ps=y at rt
 refine zak (ych (fun n ss=>∃(st:List Itm) (v7 v8 v9 v10:Sl),n=stSz st/\(∀t∈st,Fits t)/\zc9 m y least pp (decP as)=st.all (fun t=>zc9 m y least t.1 t.2)/\stSz st<=10000000/\ss=[.d (zao pp),.d (encN m),.d (.lst (ps.map encP)),.d (.lst (as.map encA)),.d (.int least),.d (wtsD y),.o p (st.map zou),v7,v8,v9,v10]) (stSz [(pp,decP as)]) ⟨[(pp,decP as)],.un,.un,.un,.un,rfl,fun t ht=>by rw[show t=(pp,decP as) by simpa using ht];exact hfit,by simp,by show pp.sz+0<=10000000;omega,rfl⟩ ?_)
 rintro n ss ⟨st,v7,v8,v9,v10,rfl,hst,heq,hbd,rfl⟩
 refine⟨_,zal (zk7 (zea (zo5 rfl)).b zaj.b),fun hb N hN=>?_,fun hb=>?_⟩
 .have hne:st≠[]:=fun z=>by subst z;simp at hb
  obtain⟨st',t,rfl⟩:∃st' t,st=st'++[t]:=⟨st.dropLast,st.getLast hne,(List.dropLast_concat_getLast hne).symm⟩
  have hft:=hst t (by simp)
  have hst':∀t∈st',Fits t:=fun t ht=>hst t (Ziz _ ht)
  rw[Zl1,Zkh,Zol,Zkl] at heq
  rw[zil] at hN hbd
  have hl1:=ygf st'
  rw[Zir]
  obtain⟨pq,x⟩:=t
  have hsz:=zxm pq
  have hbd:stSz st'+pq.sz<=10000000:=hbd
  refine zak (zx9 (ds:=st'.map zou) (d:=zou (pq,x)) rfl (by decide) ?_)
  ((try dsimp only);refine zap ?_)
  refine zak (za3 (d:=zao pq) (za0 (ds:=[zao pq,decD x]) (zaa rfl) zaj.b rfl) ?_)
  ((try dsimp only);refine zap ?_)
  refine zak (za3 (d:=decD x) (za0 (ds:=[zao pq,decD x]) (zaa rfl) zaj.b rfl) ?_)
  ((try dsimp only);refine zap ?_)
  cases pq with
  | rin rows =>
   refine zbd (b:=false) (zal (zdd (l:=za8) (m:=zbp) (za0 (ds:=[.str za8,.lst (rows.map za9)]) (zaa rfl) zaj.b rfl).b (zbw rfl (by decide)).b)) (fun h=>by cases h) fun _=>?_
   refine zbd (b:=true) (zal (zdd (l:=za8) (m:=za8) (za0 (ds:=[.str za8,.lst (rows.map za9)]) (zaa rfl) zaj.b rfl).b (zbw rfl (by decide)).b)) (fun _=>?_) fun h=>by cases h
   refine zbd (zcf (zal (zbe (pre:=yic) (res:=yhg) (rows,m,y,x,least) (zac (za0 (ds:=[.str za8,.lst (rows.map za9)]) (zaa rfl) zaj.b rfl) (zac (zaa rfl) (zac (zaa rfl) (zac (zaa rfl) (zac (zaa rfl) zaf))))) ⟨rfl,hft.1.1,hft.1.2⟩))) (fun hb=>?_) (fun hb=>?_)
   .rw[Zje] at hb
    have hb:zc9 m y least (.rin rows) x=false:=hb
    refine za2 zfv ?_
    rw[heq,hb,Znu] at rt;exact rt
   .rw[Zj3] at hb
    have hb:zc9 m y least (.rin rows) x=true:=hb
    rw[hb,Zkl] at heq
    exact za1 (hN _ _ (by simp[Pap.sz]) ⟨st',.d (zou (.rin rows,x)),.d (zao (.rin rows)),.d (decD x),v10,rfl,hst',heq,by omega,rfl⟩)
  | nev r =>
   refine zbd (b:=false) (zal (zdd (l:=zbf) (m:=zbp) (za0 (ds:=[.str zbf,.lst (r.map encN)]) (zaa rfl) zaj.b rfl).b (zbw rfl (by decide)).b)) (fun h=>by cases h) fun _=>?_
   refine zbd (b:=false) (zal (zdd (l:=zbf) (m:=za8) (za0 (ds:=[.str zbf,.lst (r.map encN)]) (zaa rfl) zaj.b rfl).b (zbw rfl (by decide)).b)) (fun h=>by cases h) fun _=>?_
   refine zbd (zcf (zal (zbe (pre:=yga) (res:=ygu) (r,m,x) (zac (za0 (ds:=[.str zbf,.lst (r.map encN)]) (zaa rfl) zaj.b rfl) (zac (zaa rfl) (zac (zaa rfl) zaf))) ⟨rfl,Zjb hft.1 (by decide)⟩))) (fun hb=>?_) (fun hb=>?_)
   .rw[Zje] at hb
    have hb:zc9 m y least (.nev r) x=false:=hb
    refine za2 zfv ?_
    rw[heq,hb,Znu] at rt;exact rt
   .rw[Zj3] at hb
    have hb:zc9 m y least (.nev r) x=true:=hb
    rw[hb,Zkl] at heq
    exact za1 (hN _ _ (by simp[Pap.sz]) ⟨st',.d (zou (.nev r,x)),.d (zao (.nev r)),.d (decD x),v10,rfl,hst',heq,by omega,rfl⟩)
  | cas i j a b =>
   obtain⟨⟨hi,hj,ha,hb'⟩,hdo,hln⟩:=hft
   have hln:x.1.length+(max a.dp b.dp+1)<=1000:=hln
   have hdo:zvc x:=hdo
   have hbd:stSz st'+(a.sz+b.sz+1)<=10000000:=hbd
   refine zbd (b:=true) (zal (zdd (l:=zbp) (m:=zbp) (za0 (ds:=[.str zbp,encN i,encN j,zao a,zao b]) (zaa rfl) zaj.b rfl).b (zbw rfl (by decide)).b)) (fun _=>?_) fun h=>by cases h
   refine zak (zbd (zcf (zal (zbe (pre:=ygx) (res:=yig) (i,j,a,b,m,x) (zac (zaa rfl) (zac (zaa rfl) (zac (zaa rfl) zaf))) rfl))) (fun hb=>?_) (fun hb=>?_))
   .rw[Zje] at hb
    have hb:mayD i j m x=false:=hb
    refine za2 zfv ?_
    have:zc9 m y least (.cas i j a b) x=false:=by unfold zc9;rw[hb];rfl
    rw[heq,this,Znu] at rt;exact rt
   rw[Zj3] at hb
   have hb:mayD i j m x=true:=hb
   have hnx:(i,j)∉x.1:=by unfold mayD at hb;simp at hb;exact hb.2.2.2
   ((try dsimp only);refine zap ?_)
   refine zak (za3 (d:=encA (i,j)) (zcd (ds:=[.int (i:Nat),.int (j:Nat)]) (zac (za0 (ds:=[.str zbp,encN i,encN j,zao a,zao b]) (zaa rfl) zaj.b rfl) (zac (za0 (ds:=[.str zbp,encN i,encN j,zao a,zao b]) (zaa rfl) zaj.b rfl) zaf)) (small (by simp))) ?_)
   ((try dsimp only);refine zap ?_)
   refine zak (zfk (d:=zou (a,putX x (i,j) true)) rfl (zcd (ds:=[zao a,decD (putX x (i,j) true)]) (zac (za0 (ds:=[.str zbp,encN i,encN j,zao a,zao b]) (zaa rfl) zaj.b rfl) (zac (zbe (pre:=yfb) (res:=fun q=>decD (putX q.1 q.2.1 q.2.2)) (x,(i,j),true) (zac (zaa rfl) (zac (zaa rfl) (zac (zi0 (d:=.str zld) fun H=>Rep.str (by decide)) zaf))) ⟨rfl,hdo,hnx⟩) zaf)) (small (by simp))) (by rw[Ziv,Zia];omega) ?_)
   ((try dsimp only);refine zap ?_)
   refine zfk (d:=zou (b,putX x (i,j) false)) rfl (zcd (ds:=[zao b,decD (putX x (i,j) false)]) (zac (za0 (ds:=[.str zbp,encN i,encN j,zao a,zao b]) (zaa rfl) zaj.b rfl) (zac (zbe (pre:=yfb) (res:=fun q=>decD (putX q.1 q.2.1 q.2.2)) (x,(i,j),false) (zac (zaa rfl) (zac (zaa rfl) (zac (zi0 (d:=.str zhy) fun H=>Rep.str (by decide)) zaf))) ⟨rfl,hdo,hnx⟩) zaf)) (small (by simp))) (by rw[Ziv];simp;omega) (hN (stSz (st'++[(a,putX x (i,j) true)]++[(b,putX x (i,j) false)])) _ ?_ ⟨st'++[(a,putX x (i,j) true)]++[(b,putX x (i,j) false)],.d (zou (.cas i j a b,x)),.d (zao (.cas i j a b)),.d (decD x),.d (encA (i,j)),rfl,fun t ht=>?_,?_,?_,?_⟩)
   .rw[zil,zil];show stSz st'+a.sz+b.sz<stSz st'+(a.sz+b.sz+1);omega
   .have hle:(putX x (i,j) true).1.length=x.1.length+1:=by simp[putX]
    rcases Zin.mp ht with z | z
    .rcases Zin.mp z with z | z
     .exact hst' t z
     .rw[show t=(a,putX x (i,j) true) by simpa using z]
      exact⟨ha,zt5 hdo hnx hi hj (by omega) true,by show(x.1++[(i,j)]).length+a.dp<=1000;simp;omega⟩
    .rw[show t=(b,putX x (i,j) false) by simpa using z]
     exact⟨hb',zt5 hdo hnx hi hj (by omega) false,by show(x.1++[(i,j)]).length+b.dp<=1000;simp;omega⟩
   .rw[heq,Zl1,Zl1,Zkh,Zkh,Zol,Zkl,Zkl]
    show(_&&(mayD i j m x&&_))=_
    rw[hb,Zjl,<- Zqw]
   .rw[zil,zil];show stSz st'+a.sz+b.sz<=10000000;omega
   .rw[Zir,Zir];rfl
 .have hst0:st=[]:=by
   cases st with
   | nil=>rfl
   | cons t st=>simp at hb
  subst hst0
  have heq:zc9 m y least pp (decP as)=true:=heq
  ((try dsimp only);refine zap ?_)
  refine za2 zfv ?_
  rw[heq] at rt;exact rt
noncomputable def plPs(ps:List Pr)(n:Nat):List Pr:=ps.filter fun p=>decide (p.2.1<n)
theorem yfd(g:List Nat)(k:Nat):(toI g).idxOf (k:Int)=g.idxOf k:=by
 unfold toI
 induction g with
 | nil=>rfl
 | cons a g ih =>
  rw[Zik,Znj,Znj,ih]
  by_cases h:a=k
  .subst h;simp
  .rw[show((a:Int) == (k:Int))=false by rw[beq_eq_false_iff_ne];omega,show(a == k)=false by simpa using h]
theorem yeh{g:List Nat}{k:Nat}:(k:Int)∈toI g↔k∈g:=by
 unfold toI
 rw[Zit]
 exact⟨fun⟨a,ha,e⟩=>by rw[<- show a=k by omega];exact ha,fun h=>⟨k,h,rfl⟩⟩
theorem zka{g:List Nat}{i:Nat}(h:i<g.length):atG g i∈g:=by
 unfold atG
 rw[Zh8,Zh9 h];exact Zla h
section
variable{G Hz L:Hp}{ss:List Sl}{ta tb:TE}{g:List Nat}{i k:Nat}
theorem zr0(a:Ev K G Hz L ss ta (encG g))(b:Ev K G Hz L ss tb (encN i))(h:i<g.length):Ev K G Hz L ss (tOp (rIxL K) ta tb) (encN (atG g i)):=by
 unfold encG at a
 rw[zbg] at a
 have:=zn8 (gs:=toI g) (i:=i) (by unfold toI;rw[Zia];exact h)
 rw[zmj] at this
 exact zdr a.l b.b this
theorem zrn(a:Ev K G Hz L ss ta (encG g))(b:Ev K G Hz L ss tb (encN k))(h:k∈g):Ev K G Hz L ss (tBM K "list" (ziq K) ta (za7 tb tNil)) (encN (g.idxOf k)):=by
 unfold encG at a
 rw[zbg] at a
 have:=yar (K:=K) a.l b.b (yeh.mpr h)
 rw[yfd] at this
 exact this
theorem zs2(a:Ev K G Hz L ss ta (encG g)):Ev K G Hz L ss (tCB (fun xs H Q=>∃p ys,xs=[.ref p]/\(SqL K H p ys\/SqT K H p ys)/\Q (.int ys.length) H) (za7 ta tNil)) (encN g.length):=by
 have:=zea (K:=K) (Ev.l a)
 rw[Zia] at this
 exact this
theorem zz7{as:List Apt}{a:Apt}(e1:Ev K G Hz L ss ta (encA a))(e2:Ev K G Hz L ss tb (.lst (as.map encA))):Ev K G Hz L ss (tOp (rInD K false) ta tb) (.bl (decide (a∈as))):=by
 have:decide (encA a∈as.map encA)=decide (a∈as):=decide_eq_decide.mpr ⟨fun h=>by obtain⟨b,hb,e⟩:=Zit.mp h;rw[<- zci _ _ e];exact hb,fun h=>Zit.mpr ⟨a,h,rfl⟩⟩
 rw[<- this]
 exact ygk e1.b e2.b rfl (D.nbs_map zr4 as) (by show 1<=60;decide)
end
noncomputable abbrev Cas:=Nat×List Pr×List Apt
noncomputable def zp8(c:Cas):D:=zvr c.1 c.2.1 c.2.2
noncomputable def ydo(q:Cas×List Nat)(ds:List D):Prop:=ds=[zp8 q.1,encG q.2]/\q.1.2.1.length<=1000
theorem zij(Z:Tx K mg ad0):FnOk P w K mg base CX0 1 ad0.Zax ad0.Zat zc8 (SpGO K ydo fun q=>(plPs q.1.2.1 q.2.length).map encP):=by
 refine okGO Z.Za7.F zm7 (by rintro q ds ⟨rfl,_⟩;rfl) fun cdv A outer s H Q E hr=>⟨_,(zag (zas (zly rfl (LcOk.of (Nx:=(["case", "grouping"]:List Str)) (sc:=zah zda) (N':=(["pair", "grouping"]:List Str)) (nt:=1) (cs:=[1]) rfl rfl (by decide +kernel)) (za6 (za4 (show IxR _ (rIxT K) from za5) (pv 0) zai (fun _ _=>rfl))) (fun _ _ _ _=>(zbj (i:=0) (show Zjt (["pair", "grouping"]:List Str) by decide +kernel) rfl (Zld rfl))) (fun _ _ _ _=>(zix (zaw zkp (za4 (show IxR _ (rIxT K) from za5) (pv 0) zai (fun _ _=>rfl)) (zat (show zcm _ _ (fun xs H Q=>∃p ys,xs=[.ref p]/\(SqL K H p ys\/SqT K H p ys)/\Q (.int ys.length) H) from zay) (by rfl) Z.Zac Zk8 (zab (pv 1) zae)) (zau _)))) (fun _ _ _ _=>(pv 0))))),fun G ds q hp rt=>?_⟩
 obtain⟨⟨m,ps,as⟩,g⟩:=q
 obtain⟨rfl,hl⟩:=hp
 have hl:ps.length<=1000:=hl
 refine zia (ds:=(plPs ps g.length).map encP) (zgg ps encP (fun p=>decide (p.2.1<g.length)) encP (Ev.l (za0 (ds:=[.int m,.lst (ps.map encP),.lst (as.map encA)]) (zaa rfl) zaj.b rfl)) (zbu (by decide)) (by decide) (by rw[Ziv];omega) fun p hp=>⟨_,zan,?_,fun _=>zaa rfl⟩) rt
 have e:decide (p.2.1<g.length)=decide (((p.2.1:Nat):Int)<((g.length:Nat):Int)):=decide_eq_decide.mpr (by omega)
 rw[e]
 exact zal (zkx (za0 (ds:=[.int (p.1:Nat),.int (p.2.1:Nat),.int p.2.2]) (zaa (d:=encP p) rfl) zaj.b rfl).b (zs2 (zaa rfl)).b)
noncomputable def dcdG(as:List Apt)(g:List Nat)(i j:Nat):Bool:=(decide (g.idxOf (atG g i)=i)&&decide (atG g i<=atG g j))||decide ((i,j)∈as)
noncomputable def yh6(q:Cas×List Nat×Nat×Nat)(ds:List D):Prop:=ds=[zp8 q.1,encG q.2.1,encN q.2.2.1,encN q.2.2.2]/\q.2.2.1<q.2.1.length/\q.2.2.2<q.2.1.length
theorem zpg(Z:Tx K mg ad0):FnOk P w K mg base CX0 1 ad0.Zb5 ad0.Zbx zem (SpG K yh6 fun q=>.bl (dcdG q.1.2.2 q.2.1 q.2.2.1 q.2.2.2)):=by
 refine okG Z.Zdo.F zkm (by rintro q ds ⟨rfl,_⟩;rfl) fun cdv A outer s H Q E hr=>⟨_,(zad (psn 4 zkm.nd (zd7 (zbc zd4 (zjc Zjr Zna Zm9 (show MtR _ _ (ziq K) from zj2) (pv 1) (zab (za4 (show IxR _ (rIxL K) from zbk) (pv 1) (pv 2) (fun _ _=>rfl)) zae)) (pv 2) (zau _)) (zeu (zbc zvh (za4 (show IxR _ (rIxL K) from zbk) (pv 1) (pv 2) (fun _ _=>rfl)) (za4 (show IxR _ (rIxL K) from zbk) (pv 1) (pv 3) (fun _ _=>rfl)) (zau _)))))
   (zag (zas (ybf (pv 4) (zeu (zbc (show OpR _ _ (rInD K false) from zwj hr.units) (zbz (zab (pv 2) (zab (pv 3) zae))) (za4 (show IxR _ (rIxT K) from za5) (pv 0) zai (fun _ _=>rfl)) (by with_unfolding_all rfl))))))),fun G ds q hp rt=>?_⟩
 obtain⟨⟨m,ps,as⟩,g,i,j⟩:=q
 obtain⟨rfl,hi,hj⟩:=hp
 have hi:i<g.length:=hi
 have hj:j<g.length:=hj
 have e1:decide (((g.idxOf (atG g i):Nat):Int)=((i:Nat):Int))=decide (g.idxOf (atG g i)=i):=decide_eq_decide.mpr (by omega)
 have e2:decide (((atG g i:Nat):Int)<=((atG g j:Nat):Int))=decide (atG g i<=atG g j):=decide_eq_decide.mpr (by omega)
 refine zak (za3 (d:=.bl (decide (g.idxOf (atG g i)=i)&&decide (atG g i<=atG g j))) (by
  rw[<- e1,<- e2]
  exact zew (zgb (zrn (zaa rfl) (zr0 (zaa rfl) (zaa rfl) hi) (zka hi)).b (zaa rfl).b) fun _=>zyz (zr0 (zaa rfl) (zaa rfl) hi).b (zr0 (zaa rfl) (zaa rfl) hj).b) ?_)
 ((try dsimp only);refine zap ?_)
 exact za2 (yav (zaa rfl) fun _=>zz7 (a:=(i,j)) (zcd (ds:=[.int (i:Nat),.int (j:Nat)]) (zac (zaa rfl) (zac (zaa rfl) zaf)) (small (by simp))) (za0 (ds:=[.int m,.lst (ps.map encP),.lst (as.map encA)]) (zaa rfl) zaj.b rfl)) rt
noncomputable def zjb(g:List Nat)(i j:Nat):List Nat:=if g.idxOf (atG g i)=g.idxOf (atG g j) then [i,g.idxOf (atG g i),j] else (if g.idxOf (atG g i)=i then [] else [g.idxOf (atG g i)])++[i,j]++(if g.idxOf (atG g j)=j then [] else [g.idxOf (atG g j)])
noncomputable def yg7(q:List Nat×Nat×Nat)(ds:List D):Prop:=ds=[encG q.1,encN q.2.1,encN q.2.2]/\q.2.1<q.1.length/\q.2.2<q.1.length
theorem eqN(a b:Nat):decide (((a:Nat):Int)=((b:Nat):Int))=decide (a=b):=decide_eq_decide.mpr (by omega)
theorem zmx(Z:Tx K mg ad0):FnOk P w K mg base CX0 1 ad0.Za5 ad0.Za4 zdc (SpGO K yg7 fun q=>(zjb q.1 q.2.1 q.2.2).map encN):=by
 refine okGO Z.Zcb.F zcv (by rintro q ds ⟨rfl,_⟩;rfl) fun cdv A outer s H Q E hr=>⟨_,(zad (psn 3 zcv.nd (zjc Zjr Zna Zm9 (show MtR _ _ (ziq K) from zj2) (pv 0) (zab (za4 (show IxR _ (rIxL K) from zbk) (pv 0) (pv 1) (fun _ _=>rfl)) zae)))
   (zad (psn 4 zcv.nd (zjc Zjr Zna Zm9 (show MtR _ _ (ziq K) from zj2) (pv 0) (zab (za4 (show IxR _ (rIxL K) from zbk) (pv 0) (pv 2) (fun _ _=>rfl)) zae)))
   (zad (zbt (zaw zd4 (pv 3) (pv 4) (zau _)) (zag (zas (zca (zab (pv 1) (zab (pv 3) (zab (pv 2) zae)))))) zax)
   (zad (psn 5 zcv.nd (zur (zaw zd4 (pv 3) (pv 1) (zau _)) (zca zae) (zca (zab (pv 3) zae))))
   (zad (psn 6 zcv.nd (zur (zaw zd4 (pv 4) (pv 2) (zau _)) (zca zae) (zca (zab (pv 4) zae))))
   (zag (zas (zbr (show OpR _ _ (zky K) from zgk) (zbr (show OpR _ _ (zky K) from zgk) (pv 5) (zca (zab (pv 1) (zab (pv 2) zae)))) (pv 6))))))))),fun G ds q hp rt=>?_⟩
 obtain⟨g,i,j⟩:=q
 obtain⟨rfl,hi,hj⟩:=hp
 have hi:i<g.length:=hi
 have hj:j<g.length:=hj
 have rt:RtO K G H Q ((zjb g i j).map encN):=rt
 unfold zjb at rt
 refine zak (za3 (zrn (zaa rfl) (zr0 (zaa rfl) (zaa rfl) hi) (zka hi)) ?_)
 ((try dsimp only);refine zap ?_)
 refine zak (za3 (zrn (zaa rfl) (zr0 (zaa rfl) (zaa rfl) hj) (zka hj)) ?_)
 ((try dsimp only);refine zap ?_)
 generalize g.idxOf (atG g i)=f at rt
 generalize g.idxOf (atG g j)=o at rt
 refine zak (zbd (b:=decide (f=o)) (zal (by rw[<- eqN];exact zgb (zaa rfl).b (zaa rfl).b)) (fun hb=>?_) (fun hb=>?_))
 .rw[if_pos (of_decide_eq_true hb)] at rt
  exact zia (ds:=[encN i,encN f,encN j]) (zbs (zac (zaa rfl) (zac (zaa rfl) (zac (zaa rfl) zaf))) (small (by simp))) rt
 rw[if_neg (of_decide_eq_false hb)] at rt
 refine za1 ?_
 ((try dsimp only);refine zap ?_)
 refine zak (za3 (d:=.lst ((if f=i then [] else [f]).map encN)) (ygy (b:=decide (f=i)) (zal (by rw[<- eqN];exact zgb (zaa rfl).b (zaa rfl).b)) (fun hb=>by rw[if_pos (of_decide_eq_true hb)];exact EvO.ev (zbs zaf (small (by simp)))) fun hb=>by rw[if_neg (of_decide_eq_false hb)];exact EvO.ev (zbs (zac (zaa rfl) zaf) (small (by simp)))) ?_)
 ((try dsimp only);refine zap ?_)
 refine zak (za3 (d:=.lst ((if o=j then [] else [o]).map encN)) (ygy (b:=decide (o=j)) (zal (by rw[<- eqN];exact zgb (zaa rfl).b (zaa rfl).b)) (fun hb=>by rw[if_pos (of_decide_eq_true hb)];exact EvO.ev (zbs zaf (small (by simp)))) fun hb=>by rw[if_neg (of_decide_eq_false hb)];exact EvO.ev (zbs (zac (zaa rfl) zaf) (small (by simp)))) ?_)
 ((try dsimp only);refine zap ?_)
 have l1:(if f=i then [] else [f]).length<=1:=by split <;> simp
 have l2:(if o=j then [] else [o]).length<=1:=by split <;> simp
 rw[Zir,Zir] at rt
 exact zia (ds:=(if f=i then [] else [f]).map encN++[encN i,encN j]++(if o=j then [] else [o]).map encN) (zjs (EvO.l (zjs (zaa rfl).l (EvO.l (zbs (ds:=[encN i,encN j]) (zac (zaa rfl) (zac (zaa rfl) zaf)) (small (by simp)))) (by rw[Ziv,Zia];simp;omega))) (zaa rfl).l (by rw[Ziv,Zis,Zia,Zia];simp;omega)) rt
noncomputable def zo4(g:List Nat)(p:Pr):Bool:=!decide (decide (atG g p.1=atG g p.2.1)=decide (0<p.2.2))
noncomputable def selG(as:List Apt)(g:List Nat)(p:Pr):Bool:=zo4 g p && !dcdG as g p.1 p.2.1
noncomputable def rowG(g:List Nat)(p:Pr):Row:=(zjb g p.1 p.2.1,absI p.2.2)
noncomputable def zl1(ps:List Pr)(as:List Apt)(g:List Nat):List Row:=((plPs ps g.length).filter (selG as g)).map (rowG g)
noncomputable def yhf(q:Cas×List Nat)(ds:List D):Prop:=ds=[zp8 q.1,encG q.2]/\q.1.2.1.length<=1000 /\ ∀p∈q.1.2.1,p.1<p.2.1
theorem zu5(r:List Nat):r.map encN=(toI r).map D.int:=by unfold toI;rw[Zja];rfl
theorem zpt(Z:Tx K mg ad0):FnOk P w K mg base CX0 2 ad0.Zb1 ad0.Zbw zep (SpW K yhf fun q=>.lst ((zl1 q.1.2.1 q.1.2.2 q.2).map za9)):=by
 have Zdy:=zij (P:=P) (w:=w) (base:=base) Z
 have Zgv:=zpg (P:=P) (w:=w) (base:=base) Z
 have Zgd:=zmx (P:=P) (w:=w) (base:=base) Z
 refine okW Z.Zdg.F zc0 (by rintro q ds ⟨rfl,_⟩;rfl) fun cdv A outer s H Q E hr=>⟨_,(zad (psn 2 zc0.nd (zca zae))
   (zad (zbn Zix rfl (za6 (pcX Zdy hr Z.Za7 (zab (pv 0) (zab (pv 1) zae)))) (zcp rfl (zaq (pgn 3 zc0.nd) (zaq (pgn 4 zc0.nd) (zaq (pgn 5 zc0.nd) zbv)))) (zad (psn 6 zc0.nd (zbc zn9 (zbc zd4 (za4 (show IxR _ (rIxL K) from zbk) (pv 1) (pv 3) (fun _ _=>rfl)) (za4 (show IxR _ (rIxL K) from zbk) (pv 1) (pv 4) (fun _ _=>rfl)) (zau _)) (zbc zlf (pv 5) zai (zau _)) (zau _)))
   (zag (zbt (PW.pt (zjm (zc2 (pv 6)) (zgi (zd6 (zc2 (pcX Zgv hr Z.Zdo (zab (pv 0) (zab (pv 1) (zab (pv 3) (zab (pv 4) zae)))))))))) (zag (zgj (zjc Zjr Zkc Zkk zcr (pv 2) (zab (zbz (zab (pcX Zgd hr Z.Zcb (zab (pv 1) (zab (pv 3) (zab (pv 4) zae)))) (zab (zat zhp (by rfl) Z.Zel Zpy (zab (pv 5) zae)) zae))) zae)))) zax))))
   (zag (zas (pv 2))))),fun G ds q hp rt=>?_⟩
 obtain⟨⟨m,ps,as⟩,g⟩:=q
 obtain⟨rfl,hl,hlt⟩:=hp
 have hl:ps.length<=1000:=hl
 have rt:RtW K G H Q (.lst ((zl1 ps as g).map za9)):=rt
 have hpl:(plPs ps g.length).length<=1000:=Zjb (Zj5 _ _) hl
 refine zak (zso (d:=.lst []) (yes (ns:=[]) (zbs zaf (small (by simp)))) fun v2 a2 hv=>?_)
 obtain⟨_,_,hv⟩:=hv
 rw[RepW] at hv
 obtain⟨p2,_,_,rfl,_⟩:=hv
 ((try dsimp only);refine zap ?_)
 refine zak (zcs encP (plPs ps g.length) (fun k ss=>∃(a3:List Addr) (v3 v4 v5 v6:Sl),ss=[.d (zp8 (m,ps,as)),.d (encG g),osl (.ref p2) a3 (.lst (((((plPs ps g.length).take k).filter (selG as g)).map (rowG g)).map za9)),v3,v4,v5,v6]) (EvO.ev (zhd (pre:=ydo) (res:=fun q=>(plPs q.1.2.1 q.2.length).map encP) ((m,ps,as),g) (zac (zaa rfl) (zac (zaa rfl) zaf)) ⟨rfl,hl⟩)) ⟨a2,.un,.un,.un,.un,rfl⟩ ?_ ?_)
 .rintro L' k p ss hL hk ⟨a3,v3,v4,v5,v6,rfl⟩
  refine⟨_,zcy (ds:=[.int (p.1:Nat),.int (p.2.1:Nat),.int p.2.2]) rfl (zar zan (zar zan (zar zan zb6))),fun N hN=>?_⟩
  have hpm:=Zip.mp (Zii hk)
  have hj:p.2.1<g.length:=of_decide_eq_true hpm.2
  have hi:p.1<g.length:=Zlj (hlt p hpm.1) hj
  have et:(plPs ps g.length).take (k+1)=(plPs ps g.length).take k++[p]:=by rw[Zi0,hk];rfl
  refine zak (za3 (d:=.bl (zo4 g p)) (by
   unfold zo4
   rw[<- eqN]
   exact ztt (zgb (zr0 (zaa rfl) (zaa rfl) hi).b (zr0 (zaa rfl) (zaa rfl) hj).b).b (zk7 (zaa rfl).b zaj.b).b) ?_)
  ((try dsimp only);refine zap ?_)
  refine zbd (b:=selG as g p) (zgn (ze9 (zaa rfl)) fun _=>zcf (zal (zbe (pre:=yh6) (res:=fun q=>.bl (dcdG q.1.2.2 q.2.1 q.2.2.1 q.2.2.2)) ((m,ps,as),g,p.1,p.2.1) (zac (zaa rfl) (zac (zaa rfl) (zac (zaa rfl) (zac (zaa rfl) zaf)))) ⟨rfl,hi,hj⟩))) (fun hb=>?_) (fun hb=>?_)
  .have hln:((((plPs ps g.length).take k).filter (selG as g)).map (rowG g)).length<=1000:=by
    rw[Zia]
    have h1:=Zj5 (selG as g) ((plPs ps g.length).take k)
    have h2:=List.length_take_le k (plPs ps g.length)
    have h3:((plPs ps g.length).take k).length<=(plPs ps g.length).length:=by rw[Zjc];omega
    omega
   refine yex (d:=za9 (rowG g p)) rfl (zpi (ds:=[.lst ((zjb g p.1 p.2.1).map encN),.int (absI p.2.2)]) (zfo zlh (by
    rw[zu5]
    refine yes ?_
    rw[<- zu5]
    exact zhd (pre:=yg7) (res:=fun q=>(zjb q.1 q.2.1 q.2.2).map encN) (g,p.1,p.2.1) (zac (zaa rfl) (zac (zaa rfl) (zac (zaa rfl) zaf))) ⟨rfl,hi,hj⟩) (zki (zss (zjx (zaa rfl).b)))) (small (by simp)) zlh) (by rw[Ziv,Zia];omega) fun bs=>hN _ ⟨a3++bs,.d (.int (p.1:Nat)),.d (.int (p.2.1:Nat)),.d (.int p.2.2),.d (.bl (zo4 g p)),?_⟩
   rw[et,Zky,Zkw hb,Zkj,Zir,Zir];rfl
  .refine za1 (hN _ ⟨a3,.d (.int (p.1:Nat)),.d (.int (p.2.1:Nat)),.d (.int p.2.2),.d (.bl (zo4 g p)),?_⟩)
   rw[et,Zky,Zkx (by rw[hb];decide),Zkj,Zji];rfl
 rintro ss ⟨a3,v3,v4,v5,v6,rfl⟩
 rw[Zi3]
 ((try dsimp only);refine zap ?_)
 exact zhv (zrq rfl) (zs5 (i:=2) rfl) rt
noncomputable def zlx(as:List Apt)(g:List Nat)(k:Nat):Option Nat:=(Zid g.length).find? fun i=>decide (atG g i=k)&&decide ((i,g.length)∈as)
noncomputable def papS(ps:List Pr)(as:List Apt)(least:Int):Nat->(List Nat->Pap)×(List Nat->Nat->Pap)×(List Nat->Nat->Pap)
 | 0=>(fun _=>.nev [],fun _ _=>.nev [],fun _ _=>.nev [])
 | n+1=>(fun g=>if zb1 (plPs ps g.length) g ≥ least then .rin (zl1 ps as g) else (papS ps as least n).2.2 g 0,
   fun g k=>if (zlx as g k).isSome then .nev [(zlx as g k).getD 0,g.idxOf k,g.length] else (papS ps as least n).1 (g++[k]),
   fun g k=>if ngF g<=k then (papS ps as least n).1 (g++[k]) else if (g.idxOf k,g.length)∈as then (papS ps as least n).2.2 g (k+1) else .cas (g.idxOf k) g.length ((papS ps as least n).2.1 g k) ((papS ps as least n).2.2 g (k+1)))
noncomputable def EnvC(c:Cas)(least:Int):Prop:=c.1<=7/\c.2.1.length<=1000/\zff c.1 c.2.1 c.2.2 /\ ∀h∈rgs c.1,zkk c.2.2 h->least<=zb1 c.2.1 h
noncomputable def Stp(c:Cas)(g:List Nat):Prop:=g∈rgs g.length/\g.length<=c.1 /\ ∀a∈c.2.2,a.2<g.length->atG g a.1≠atG g a.2
theorem zlj{g:List Nat}(h:g∈rgs g.length){k:Nat}:k∈g↔k<ngF g:=by
 rw[<- zfc g,yc4 h,Zi2]
theorem ybn{g:List Nat}(h:g∈rgs g.length){i:Nat}(hi:i<g.length):atG g i<ngF g:=(zlj h).mp (zka hi)
theorem zf0{g:List Nat}{i k:Nat}(h:i<g.length):atG (g++[k]) i=atG g i:=by
 unfold atG;rw[Zh8,Zh8,Zj1 h]
theorem zmi{g:List Nat}{k:Nat}:atG (g++[k]) g.length=k:=by
 unfold atG;rw[Zh8,Zjq (Zio _)];simp
theorem zy3{c:Cas}{least:Int}{g:List Nat}{k:Nat}(he:EnvC c least)(h:Stp c g)(hl:g.length<c.1)(hk:k<=ngF g)(hn:∀i<g.length,atG g i=k->(i,g.length)∉c.2.2):Stp c (g++[k]):=by
 refine⟨by rw[Zis];exact zh7.mpr ⟨g,h.1,k,hk,rfl⟩,by rw[Zis];exact hl,fun a ha hlt=>?_⟩
 have h1:=(he.2.2.1.2 a ha).1
 rw[Zis] at hlt
 have hlt:a.2<g.length+1:=hlt
 rw[zf0 (by omega)]
 by_cases e:a.2=g.length
 .rw[e,zmi]
  exact fun z=>hn a.1 (by omega) z (by rw[<- e];exact ha)
 .rw[zf0 (by omega)];exact h.2.2 a ha (by omega)
theorem zo3{c:Cas}{least:Int}{g:List Nat}(he:EnvC c least)(h:Stp c g)(hl:g.length<c.1):Stp c (g++[ngF g]) :=
 zy3 he h hl (Zio _) fun i hi z=>absurd (ybn h.1 hi) (by omega)
theorem zq5{as:List Apt}{g:List Nat}{k:Nat}(h:(zlx as g k).isSome=false):∀i<g.length,atG g i=k->(i,g.length)∉as:=fun i hi e z=>by
 have h0:zlx as g k=none:=by cases hx:zlx as g k with
  | none=>rfl
  | some _=>rw[hx] at h;cases h
 have:=Zq3.mp h0 i hi
 rw[decide_eq_true e,decide_eq_true z] at this
 cases this
theorem zl4{c:Cas}{least:Int}{g:List Nat}{k:Nat}(he:EnvC c least)(h:Stp c g)(hl:g.length<c.1)(hk:k<ngF g)(hn:(zlx c.2.2 g k).isSome=false):Stp c (g++[k]) :=
 zy3 he h hl (Zl4 hk) (zq5 hn)
theorem yhr{c:Cas}(hg:zff c.1 c.2.1 c.2.2):plPs c.2.1 c.1=c.2.1:=Zkp.mpr fun p hp=>decide_eq_true (hg.1 p hp).2.1
theorem zmb{c:Cas}{least:Int}{g:List Nat}(he:EnvC c least)(h:Stp c g)(hb:¬ zb1 (plPs c.2.1 g.length) g ≥ least):g.length<c.1:=by
 rcases Zoq g.length c.1 with z | z
 .exact z
 .exfalso
  have e:g.length=c.1:=Znl h.2.1 z
  rw[e,yhr he.2.2.1] at hb
  exact hb (he.2.2.2 g (by rw[<- e];exact h.1) fun a ha=>h.2.2 a ha (by rw[e];exact(he.2.2.1.2 a ha).2))
theorem zi2{m l:Nat}(h:l<m):(m - l)*(m+3)=(m - (l+1))*(m+3)+(m+3):=by
 rw[show m - l=m - (l+1)+1 by omega,Zu4]
noncomputable abbrev PQ:=Cas×List Nat×Nat×Int×Nat
noncomputable def zru(n:Nat)(q:PQ)(ds:List D):Prop:=ds=[zp8 q.1,encG q.2.1,.int q.2.2.2.1]/\EnvC q.1 q.2.2.2.1/\Stp q.1 q.2.1/\(q.1.1 - q.2.1.length)*(q.1.1+3)+1<=q.2.2.2.2/\q.2.2.2.2<n
noncomputable def yay(n:Nat)(q:PQ)(ds:List D):Prop:=ds=[zp8 q.1,encG q.2.1,encN q.2.2.1,.int q.2.2.2.1]/\EnvC q.1 q.2.2.2.1/\Stp q.1 q.2.1/\(q.1.1 - q.2.1.length)*(q.1.1+3)<=q.2.2.2.2+q.2.2.1+1/\q.2.2.2.2<n/\q.2.1.length<q.1.1/\q.2.2.1<ngF q.2.1
noncomputable def zwb(n:Nat)(q:PQ)(ds:List D):Prop:=ds=[zp8 q.1,encG q.2.1,encN q.2.2.1,.int q.2.2.2.1]/\EnvC q.1 q.2.2.2.1/\Stp q.1 q.2.1/\(q.1.1 - q.2.1.length)*(q.1.1+3)<=q.2.2.2.2+q.2.2.1/\q.2.2.2.2<n/\q.2.1.length<q.1.1/\q.2.2.1<=ngF q.2.1
noncomputable def zq8(q:PQ):D:=zao ((papS q.1.2.1 q.1.2.2 q.2.2.2.1 q.2.2.2.2).1 q.2.1)
noncomputable def ybr(q:PQ):D:=zao ((papS q.1.2.1 q.1.2.2 q.2.2.2.1 q.2.2.2.2).2.1 q.2.1 q.2.2.1)
noncomputable def zsl(q:PQ):D:=zao ((papS q.1.2.1 q.1.2.2 q.2.2.2.1 q.2.2.2.2).2.2 q.2.1 q.2.2.1)
theorem zx6{G Hz L:Hp}{ss:List Sl}{ta tb:TE}{g:List Nat}{k:Nat}(a:Ev K G Hz L ss ta (encG g))(b:Ev K G Hz L ss tb (encN k))(h:g.length<=100):Ev K G Hz L ss (tOp (zky K) ta (tLst (za7 tb tNil))) (encG (g++[k])):=by
 unfold encG at *
 rw[Zir]
 exact EvO.ev (zjs a.l (EvO.l (zbs (ds:=[encN k]) (zac b zaf) (small (by simp)))) (by rw[Ziv,Zia];simp;omega))
theorem zsh(Z:Tx K mg ad0){n:Nat}(Zdz:FnOk P w K mg base CX0 (n+3) ad0.Zag ad0.Zaf zby (SpW K (zwb n) zsl)):FnOk P w K mg base CX0 (n+4) ad0.Zae ad0.Zad zbx (SpW K (zru (n+1)) zq8):=by
 have Zej:=zk8 (P:=P) (w:=w) (base:=base) Z
 have Zdy:=zij (P:=P) (w:=w) (base:=base) Z
 have Zg5:=zpt (P:=P) (w:=w) (base:=base) Z
 refine okW (k:=n+3) Z.Zah.F znc (by rintro q ds ⟨rfl,_⟩;rfl) fun cdv A outer s H Q E hr=>⟨_,(zad (zbt (zaw zvu (pcX (hle:=by omega) Zej hr Z.Zcw (zab (pcX (hle:=by omega) Zdy hr Z.Za7 (zab (pv 0) (zab (pv 1) zae))) (zab (pv 1) zae))) (pv 2) (zau _)) (zag (zas (zbz (zab zfx (zab (pcX (hle:=by omega) Zg5 hr Z.Zdg (zab (pv 0) (zab (pv 1) zae))) zae))))) zax)
   (zag (zas (pcX (hle:=by omega) Zdz hr Z.Zav (zab (pv 0) (zab (pv 1) (zab zai (zab (pv 2) zae)))))))),fun G ds q hp rt=>?_⟩
 obtain⟨⟨m,ps,as⟩,g,k,least,f⟩:=q
 obtain⟨rfl,he,hs,hf,hfn⟩:=hp
 have hf:(m - g.length)*(m+3)+1<=f:=hf
 have hfn:f<n+1:=hfn
 obtain⟨f,rfl⟩:∃f',f=f'+1:=⟨f - 1,by omega⟩
 have hpl:ps.length<=1000:=he.2.1
 have hgl:g.length<=7:=Zjb hs.2.1 he.1
 have rt:RtW K G H Q (zao (if zb1 (plPs ps g.length) g ≥ least then .rin (zl1 ps as g) else (papS ps as least f).2.2 g 0)):=rt
 have eL:=zhn (plPs ps g.length) (toI g)
 rw[<- zbg,zj7] at eL
 have hin:∀p∈plPs ps g.length,p.1<g.length/\p.2.1<g.length:=fun p hp=>by
  have h1:=Zip.mp hp
  have h2:p.2.1<g.length:=of_decide_eq_true h1.2
  exact⟨Zlj (he.2.2.1.1 p h1.1).1 h2,h2⟩
 refine zak (zbd (b:=decide (zb1 (plPs ps g.length) g ≥ least)) (zal (zv0 (i:=zb1 (plPs ps g.length) g) (Ev.b (by
  rw[<- eL]
  exact zbq (pre:=zsf) (res:=zmk) (zac (EvO.ev (zhd (pre:=ydo) (res:=fun q=>(plPs q.1.2.1 q.2.length).map encP) ((m,ps,as),g) (zac (zaa rfl) (zac (zaa rfl) zaf)) ⟨rfl,hpl⟩)) (zac (zaa rfl) zaf)) ⟨plPs ps g.length,toI g,by rw[<- zbg],fun p hp=>by unfold toI;rw[Zia];exact hin p hp,Zjb (Zj5 _ _) hpl⟩)) (zaa rfl).b)) (fun hb=>?_) (fun hb=>?_))
 .rw[if_pos (of_decide_eq_true hb)] at rt
  exact zhv (zpi (ds:=[.str za8,.lst ((zl1 ps as g).map za9)]) (zfo zlh (zrp (zbw rfl (by decide))) (zki (zho (pre:=yhf) (res:=fun q=>.lst ((zl1 q.1.2.1 q.1.2.2 q.2).map za9)) ((m,ps,as),g) (zac (zaa rfl) (zac (zaa rfl) zaf)) ⟨rfl,hpl,fun p hp=>(he.2.2.1.1 p hp).1⟩))) (small (by simp)) zlh) zok rt
 have hb:=of_decide_eq_false hb
 rw[if_neg hb] at rt
 have hlm:g.length<m:=zmb he hs hb
 refine za1 ?_
 ((try dsimp only);refine zap ?_)
 exact zhv (zho (pre:=zwb n) (res:=zsl) ((m,ps,as),g,0,least,f) (zac (zaa rfl) (zac (zaa rfl) (zac zaj (zac (zaa rfl) zaf)))) ⟨rfl,he,hs,by show(m - g.length)*(m+3)<=f+0;omega,by show f<n;omega,hlm,Zjn _⟩) zok rt
theorem zze(Z:Tx K mg ad0){n:Nat}(Zay:FnOk P w K mg base CX0 (n+3) ad0.Zae ad0.Zad zbx (SpW K (zru n) zq8)):FnOk P w K mg base CX0 (n+4) ad0.Zak ad0.Zai zcw (SpW K (yay (n+1)) ybr):=by
 refine okW (k:=n+3) Z.Zcy.F ze8 (by rintro q ds ⟨rfl,_⟩;rfl) fun cdv A outer s H Q E hr=>⟨_,(zad (psn 4 ze8.nd (zat zay (by rfl) Z.Zac Zk8 (zab (pv 1) zae)))
   (zad (zbn Zix rfl (zif (by rfl) Z.Zck (zab (pv 1) zae)) (zcp rfl (zaq (pgn 5 ze8.nd) (zaq (pgn 6 ze8.nd) zbv))) (zag (zbt (PW.pt (zjm (zaw zd4 (pv 6) (pv 2) (zau _)) (zgi (zaw (show OpR _ _ (rInD K false) from zwj hr.units) (zbz (zab (pv 5) (zab (pv 4) zae))) (za4 (show IxR _ (rIxT K) from za5) (pv 0) zai (fun _ _=>rfl)) (by with_unfolding_all rfl))))) (zag (zas (zbz (zab zfx (zab (zca (zab (pv 5) (zab (zjc Zjr Zna Zm9 (show MtR _ _ (ziq K) from zj2) (pv 1) (zab (pv 2) zae)) (zab (pv 4) zae)))) zae))))) zax)))
   (zag (zas (pcX (hle:=by omega) Zay hr Z.Zah (zab (pv 0) (zab (zbr (show OpR _ _ (zky K) from zgk) (pv 1) (zca (zab (pv 2) zae))) (zab (pv 3) zae)))))))),fun G ds q hp rt=>?_⟩
 obtain⟨⟨m,ps,as⟩,g,k,least,f⟩:=q
 obtain⟨rfl,he,hs,hf,hfn,hlm,hk⟩:=hp
 have hf:(m - g.length)*(m+3)<=f+k+1:=hf
 have hlm:g.length<m:=hlm
 have hk:k<ngF g:=hk
 have hm7:m<=7:=he.1
 have hng:ngF g<=g.length:=zjl hs.1
 have hms:=zi2 hlm
 have hfn:f<n+1:=hfn
 have hgl:g.length<=7:=Zjb hs.2.1 he.1
 obtain⟨f,rfl⟩:∃f',f=f'+1:=⟨f - 1,by omega⟩
 have rt:RtW K G H Q (zao (if (zlx as g k).isSome then .nev [(zlx as g k).getD 0,g.idxOf k,g.length] else (papS ps as least f).1 (g++[k]))):=rt
 refine zak (za3 (zs2 (zaa rfl)) ?_)
 ((try dsimp only);refine zap ?_)
 refine zak (zry encN g (fun t ss=>∃v5 v6:Sl,ss=[.d (zp8 (m,ps,as)),.d (encG g),.d (encN k),.d (.int least),.d (encN g.length),v5,v6] /\ ∀i<t,(decide (atG g i=k)&&decide ((i,g.length)∈as))=false) (zaa rfl) ⟨.un,.un,rfl,fun i hi=>absurd hi (Zjo _)⟩ ?_ ?_)
 .rintro L' t x ss hL ht ⟨v5,v6,rfl,hno⟩
  refine⟨_,zcy (ds:=[.int (t:Nat),encN x]) rfl (zar zan (zar zan zb6)),fun N hN=>?_⟩
  have hx:atG g t=x:=by unfold atG;rw[Zh8,ht];rfl
  refine zbd (b:=decide (atG g t=k)&&decide ((t,g.length)∈as)) (zgn (zal (by rw[hx,<- eqN];exact zgb (zaa rfl).b (zaa rfl).b)) fun _=>zal (zz7 (a:=(t,g.length)) (zcd (ds:=[.int (t:Nat),.int (g.length:Nat)]) (zac (zaa rfl) (zac (zaa rfl) zaf)) (small (by simp))) (za0 (ds:=[.int m,.lst (ps.map encP),.lst (as.map encA)]) (zaa rfl) zaj.b rfl))) (fun hb=>?_) (fun hb=>?_)
  .have hX:zlx as g k=some t:=Zn1.mpr ⟨hb,Zi2.mpr (Zif.mp ht).1,fun j hj=>by rw[hno j hj];rfl⟩
   rw[hX] at rt
   exact zhv (zpi (ds:=[.str zbf,.lst [encN t,encN (g.idxOf k),encN g.length]]) (zfo zlh (zrp (zbw rfl (by decide))) (zki (yes (ns:=[(t:Int),(g.idxOf k:Int),(g.length:Int)]) (zbs (zac (zaa rfl) (zac (zrn (zaa rfl) (zaa rfl) ((zlj hs.1).mpr hk)) (zac (zaa rfl) zaf))) (small (by simp)))))) (small (by simp)) zlh) zok rt
  .refine za1 (hN _ ⟨_,_,rfl,fun i hi=>?_⟩)
   rcases Zn7.mp hi with z | z
   .exact hno i z
   .rw[z];exact hb
 rintro ss ⟨v5,v6,rfl,hno⟩
 ((try dsimp only);refine zap ?_)
 have hX:zlx as g k=none:=Zq3.mpr fun i hi=>by rw[hno i hi];rfl
 have hsn:Stp (m,ps,as) (g++[k]):=zl4 he hs hlm hk (by show(zlx as g k).isSome=false;rw[hX];rfl)
 rw[hX] at rt
 exact zhv (zho (pre:=zru n) (res:=zq8) ((m,ps,as),g++[k],0,least,f) (zac (zaa rfl) (zac (zx6 (zaa rfl) (zaa rfl) (show g.length<=100 by omega)) (zac (zaa rfl) zaf))) ⟨rfl,he,hsn,by show(m - (g++[k]).length)*(m+3)+1<=f;rw[Zis];show(m - (g.length+1))*(m+3)+1<=f;omega,by show f<n;omega⟩) zok rt
theorem zr1(Z:Tx K mg ad0){n:Nat}(Zay:FnOk P w K mg base CX0 (n+3) ad0.Zae ad0.Zad zbx (SpW K (zru n) zq8))(Zg4:FnOk P w K mg base CX0 (n+3) ad0.Zak ad0.Zai zcw (SpW K (yay n) ybr))(Zdz:FnOk P w K mg base CX0 (n+3) ad0.Zag ad0.Zaf zby (SpW K (zwb n) zsl)):FnOk P w K mg base CX0 (n+4) ad0.Zag ad0.Zaf zby (SpW K (zwb (n+1)) zsl):=by
 refine okW (k:=n+3) Z.Zav.F zd0 (by rintro q ds ⟨rfl,_⟩;rfl) fun cdv A outer s H Q E hr=>⟨_,(zad (zbt (zaw zlf (pv 2) (zxx rfl (by rfl) Z.Zet (pv 1) (zob zjf zai)) (zau _)) (zag (zas (pcX (hle:=by omega) Zay hr Z.Zah (zab (pv 0) (zab (zbr (show OpR _ _ (zky K) from zgk) (pv 1) (zca (zab (pv 2) zae))) (zab (pv 3) zae)))))) zax)
   (zad (psn 4 zd0.nd (zjc Zjr Zna Zm9 (show MtR _ _ (ziq K) from zj2) (pv 1) (zab (pv 2) zae)))
   (zad (psn 5 zd0.nd (zat zay (by rfl) Z.Zac Zk8 (zab (pv 1) zae)))
   (zad (psn 6 zd0.nd (pcX (hle:=by omega) Zdz hr Z.Zav (zab (pv 0) (zab (pv 1) (zab (zbr zc1 (pv 2) zai) (zab (pv 3) zae))))))
   (zad (zbt (zaw (show OpR _ _ (rInD K false) from zwj hr.units) (zbz (zab (pv 4) (zab (pv 5) zae))) (za4 (show IxR _ (rIxT K) from za5) (pv 0) zai (fun _ _=>rfl)) (by with_unfolding_all rfl)) (zag (zas (pv 6))) zax)
   (zag (zas (zbz (zab zfx (zab (pv 4) (zab (pv 5) (zab (pcX (hle:=by omega) Zg4 hr Z.Zcy (zab (pv 0) (zab (pv 1) (zab (pv 2) (zab (pv 3) zae))))) (zab (pv 6) zae))))))))))))),fun G ds q hp rt=>?_⟩
 obtain⟨⟨m,ps,as⟩,g,k,least,f⟩:=q
 obtain⟨rfl,he,hs,hf,hfn,hlm,hk⟩:=hp
 have hf:(m - g.length)*(m+3)<=f+k:=hf
 have hlm:g.length<m:=hlm
 have hk:k<=ngF g:=hk
 have hm7:m<=7:=he.1
 have hng:ngF g<=g.length:=zjl hs.1
 have hms:=zi2 hlm
 have hfn:f<n+1:=hfn
 have hgl:g.length<=7:=Zjb hs.2.1 he.1
 obtain⟨f,rfl⟩:∃f',f=f'+1:=⟨f - 1,by omega⟩
 have rt:RtW K G H Q (zao (if ngF g<=k then (papS ps as least f).1 (g++[k]) else if (g.idxOf k,g.length)∈as then (papS ps as least f).2.2 g (k+1) else .cas (g.idxOf k) g.length ((papS ps as least f).2.1 g k) ((papS ps as least f).2.2 g (k+1)))):=rt
 have eN:decide ((ngF g:Int) - 1<((k:Nat):Int))=decide (ngF g<=k):=decide_eq_decide.mpr (by omega)
 refine zak (zbd (b:=decide (ngF g<=k)) (zal (by
  rw[<- eN]
  exact zk7 (zaa rfl).b (zxc (ns:=toI g) (d0:=-1) (by rw[<- zbg];exact Ev.l (zaa rfl)) (zj8 zaj.b) (yfa g)).b)) (fun hb=>?_) (fun hb=>?_))
 .have hb:=of_decide_eq_true hb
  rw[if_pos hb] at rt
  have ek:k=ngF g:=Znl hk hb
  have hsn:Stp (m,ps,as) (g++[k]):=by rw[ek];exact zo3 he hs hlm
  exact zhv (zho (pre:=zru n) (res:=zq8) ((m,ps,as),g++[k],0,least,f) (zac (zaa rfl) (zac (zx6 (zaa rfl) (zaa rfl) (show g.length<=100 by omega)) (zac (zaa rfl) zaf))) ⟨rfl,he,hsn,by show(m - (g++[k]).length)*(m+3)+1<=f;rw[Zis];show(m - (g.length+1))*(m+3)+1<=f;omega,by show f<n;omega⟩) zok rt
 have hb:=of_decide_eq_false hb
 rw[if_neg hb] at rt
 refine za1 ?_
 ((try dsimp only);refine zap ?_)
 have hkm:k∈g:=(zlj hs.1).mpr (show k<ngF g by omega)
 refine zak (za3 (zrn (zaa rfl) (zaa rfl) hkm) ?_)
 ((try dsimp only);refine zap ?_)
 refine zak (za3 (zs2 (zaa rfl)) ?_)
 ((try dsimp only);refine zap ?_)
 refine zak (zso (zho (pre:=zwb n) (res:=zsl) ((m,ps,as),g,k+1,least,f) (zac (zaa rfl) (zac (zaa rfl) (zac (zc3 (i:=(k:Nat)) (j:=1) (zaa rfl).b zaj.b) (zac (zaa rfl) zaf)))) ⟨rfl,he,hs,by show(m - g.length)*(m+3)<=f+(k+1);omega,by show f<n;omega,hlm,by show k+1<=ngF g;omega⟩) fun vq aq _=>?_)
 ((try dsimp only);refine zap ?_)
 refine zak (zbd (b:=decide ((g.idxOf k,g.length)∈as)) (zal (zz7 (a:=(g.idxOf k,g.length)) (zcd (ds:=[.int (g.idxOf k:Nat),.int (g.length:Nat)]) (zac (zaa rfl) (zac (zaa rfl) zaf)) (small (by simp))) (za0 (ds:=[.int m,.lst (ps.map encP),.lst (as.map encA)]) (zaa rfl) zaj.b rfl))) (fun hb=>?_) (fun hb=>?_))
 .rw[if_pos (of_decide_eq_true hb)] at rt
  exact zhv (zrq rfl) (zs5 (d:=zsl ((m,ps,as),g,k+1,least,f)) (i:=6) rfl) rt
 rw[if_neg (of_decide_eq_false hb)] at rt
 refine za1 ?_
 ((try dsimp only);refine zap ?_)
 exact zhv (zpi (ds:=[.str zbp,encN (g.idxOf k),encN g.length,zao ((papS ps as least f).2.1 g k),zao ((papS ps as least f).2.2 g (k+1))]) (zfo (zkv (i:=6) rfl) (zrp (zbw rfl (by decide))) (zfo (zkv (i:=6) rfl) (zss (zaa rfl)) (zfo (zkv (i:=6) rfl) (zss (zaa rfl)) (zfo (zkv (i:=6) rfl) (zho (pre:=yay n) (res:=ybr) ((m,ps,as),g,k,least,f) (zac (zaa rfl) (zac (zaa rfl) (zac (zaa rfl) (zac (zaa rfl) zaf)))) ⟨rfl,he,hs,by show(m - g.length)*(m+3)<=f+k+1;omega,by show f<n;omega,hlm,by show k<ngF g;omega⟩) (zki (zrq (i:=6) rfl)))))) (small (by simp)) (zkv (i:=6) rfl)) (zs5 (i:=6) rfl) rt
theorem zq7(Z:Tx K mg ad0):∀n:Nat,FnOk P w K mg base CX0 (n+3) ad0.Zae ad0.Zad zbx (SpW K (zru n) zq8)/\FnOk P w K mg base CX0 (n+3) ad0.Zak ad0.Zai zcw (SpW K (yay n) ybr)/\FnOk P w K mg base CX0 (n+3) ad0.Zag ad0.Zaf zby (SpW K (zwb n) zsl)
 | 0=>⟨⟨fun vs H Q E h=>by obtain⟨_,_,q,_,_,h,_⟩:=h;exact absurd h.2.2.2.2 (Zjo _),fun A outer s H args us vs Q E _ _ _ _ h=>by obtain⟨_,_,q,_,_,h,_⟩:=h;exact absurd h.2.2.2.2 (Zjo _)⟩,⟨fun vs H Q E h=>by obtain⟨_,_,q,_,_,h,_⟩:=h;exact absurd h.2.2.2.2.1 (Zjo _),fun A outer s H args us vs Q E _ _ _ _ h=>by obtain⟨_,_,q,_,_,h,_⟩:=h;exact absurd h.2.2.2.2.1 (Zjo _)⟩,⟨fun vs H Q E h=>by obtain⟨_,_,q,_,_,h,_⟩:=h;exact absurd h.2.2.2.2.1 (Zjo _),fun A outer s H args us vs Q E _ _ _ _ h=>by obtain⟨_,_,q,_,_,h,_⟩:=h;exact absurd h.2.2.2.2.1 (Zjo _)⟩⟩
 | n+1=>let ⟨h1,h2,h3⟩:=zq7 Z n;⟨zsh Z h3,zze Z h1,zr1 Z h1 h2 h3⟩
noncomputable def zzk(m:Nat):Pap->Prop
 | .nev r=>∀k∈r,k<m
 | .rin rows=>∀q∈rows,∀k∈q.1,k<m
 | .cas i j a b=>i<m/\j<m/\zzk m a/\zzk m b
theorem yg5{g:List Nat}{i j m:Nat}(hi:i<g.length)(hj:j<g.length)(hm:g.length<=m):(∀k∈zjb g i j,k<m)/\(zjb g i j).length<=4:=by
 have h1:g.idxOf (atG g i)<g.length:=Zkb.mpr (zka hi)
 have h2:g.idxOf (atG g j)<g.length:=Zkb.mpr (zka hj)
 unfold zjb
 split
 .simp;omega
 .split <;> split <;> simp <;> omega
theorem yf9{ps:List Pr}{as:List Apt}{g:List Nat}{m:Nat}(hlt:∀p∈ps,p.1<p.2.1)(hm:g.length<=m):∀q∈zl1 ps as g,(∀k∈q.1,k<m)/\q.1.length<=4:=fun q hq=>by
 obtain⟨p,hp,rfl⟩:=Zit.mp hq
 have h1:=Zip.mp (Zip.mp hp).1
 have hj:p.2.1<g.length:=of_decide_eq_true h1.2
 exact yg5 (Zlj (hlt p h1.1) hj) hj hm
noncomputable def Rd:Nat->Nat->Nat
 | 0,_=>0
 | d+1,l=>l+Rd d (l+1)
noncomputable def PapR(n:Nat):Pap->Prop
 | .nev r=>r.length<=100
 | .rin rows=>rows.length<=n /\ ∀q∈rows,q.1.length<=100
 | .cas i j a b=>i<8/\j<8/\PapR n a/\PapR n b
theorem PapR.ok{n:Nat}(hn:n<=100):∀{p:Pap},PapR n p->ybt p
 | .nev _,h=>h
 | .rin _,h=>⟨Zjb h.1 hn,h.2⟩
 | .cas _ _ _ _,h=>⟨h.1,h.2.1,h.2.2.1.ok hn,h.2.2.2.ok hn⟩
noncomputable def PB(m b n:Nat)(p:Pap):Prop:=PapR n p/\zzk m p/\p.dp<=b
theorem PB.mono{m b b' n:Nat}{p:Pap}(h:PB m b n p)(hb:b<=b'):PB m b' n p:=⟨h.1,h.2.1,Zjb h.2.2 hb⟩
theorem zz9{c:Cas}{least:Int}(he:EnvC c least):∀n:Nat,
  (∀g,Stp c g->PB c.1 (Rd (c.1 - g.length) g.length) c.2.1.length ((papS c.2.1 c.2.2 least n).1 g)) /\
  (∀g k,Stp c g->g.length<c.1->k<ngF g->PB c.1 (Rd (c.1 - (g.length+1)) (g.length+1)) c.2.1.length ((papS c.2.1 c.2.2 least n).2.1 g k)) /\
  (∀g k,Stp c g->g.length<c.1->k<=ngF g->PB c.1 (ngF g - k+Rd (c.1 - (g.length+1)) (g.length+1)) c.2.1.length ((papS c.2.1 c.2.2 least n).2.2 g k))
 | 0=>by
  have:∀b,PB c.1 b c.2.1.length (.nev []):=fun b=>⟨Zjn _,fun k hk=>(by cases hk),Zjn _⟩
  exact⟨fun g _=>this _,fun g k _ _ _=>this _,fun g k _ _ _=>this _⟩
 | n+1=>by
  obtain⟨h1,h2,h3⟩:=zz9 he n
  have hm7:=he.1
  have len1:∀(g:List Nat) (k:Nat),(g++[k]).length=g.length+1:=fun g k=>by simp
  refine⟨fun g hs=>?_,fun g k hs hlm hk=>?_,fun g k hs hlm hk=>?_⟩
  .show PB _ _ _ (if _ then _ else _)
   split
   .have hr:=yf9 (as:=c.2.2) (fun p hp=>(he.2.2.1.1 p hp).1) hs.2.1
    refine⟨⟨?_,fun q hq=>Zjb (hr q hq).2 (by decide)⟩,fun q hq=>(hr q hq).1,Zjn _⟩
    unfold zl1 plPs
    rw[Zia]
    exact Zjb (Zj5 _ _) (Zj5 _ _)
   .rename_i hb
    have hlm:=zmb he hs hb
    refine(h3 g 0 hs hlm (Zjn _)).mono ?_
    have hng:=zjl hs.1
    rw[show c.1 - g.length=c.1 - (g.length+1)+1 by omega,Rd]
    omega
  .show PB _ _ _ (if _ then _ else _)
   have hik:g.idxOf k<g.length:=Zkb.mpr ((zlj hs.1).mpr hk)
   split
   .rename_i hb
    obtain⟨i,hi⟩:=Zka.mp hb
    have hil:=Zi2.mp (Zn1.mp hi).2.1
    refine⟨by show 3<=100;decide,?_,Zjn _⟩
    rw[hi]
    show ∀z∈[i,g.idxOf k,g.length],z<c.1
    simp;omega
   .rename_i hb
    have:=h1 (g++[k]) (zl4 he hs hlm hk (by simpa using hb))
    rw[len1] at this
    exact this
  .have hng:=zjl hs.1
   show PB _ _ _ (if _ then _ else if _ then _ else _)
   split
   .rename_i hb
    have ek:k=ngF g:=Znl hk hb
    have:=h1 (g++[k]) (by rw[ek];exact zo3 he hs hlm)
    rw[len1] at this
    exact this.mono (by omega)
   .have hkl:k<ngF g:=by omega
    have hik:g.idxOf k<g.length:=Zkb.mpr ((zlj hs.1).mpr hkl)
    have p3:=h3 g (k+1) hs hlm hkl
    split
    .exact p3.mono (by omega)
    .have p2:=h2 g k hs hlm hkl
     refine⟨⟨by omega,by omega,p2.1,p3.1⟩,⟨by omega,hlm,p2.2.1,p3.2.1⟩,?_⟩
     have d2:=p2.2.2
     have d3:=p3.2.2
     show max _ _+1<=_
     omega
noncomputable def papO(m:Nat)(ps:List Pr)(as:List Apt):Pap:=(papS ps as (zb1 ps (bestF m ps as)) 71).1 []
theorem zkc{m:Nat}{ps:List Pr}{as:List Apt}(hm:m<=7)(hl:ps.length<=1000)(hg:zff m ps as):EnvC (m,ps,as) (zb1 ps (bestF m ps as)):=by
 refine⟨hm,hl,hg,fun h hh hk=>?_⟩
 have:=(zpp hg).le h hh hk
 rw[ztf] at this
 exact Int.not_lt.mp fun z=>this (.inl z)
theorem zpq(c:Cas):Stp c []:=⟨by show[]∈[[]];simp,Zjn _,fun a _ h=>absurd h (Zjo _)⟩
theorem yi4:∀m,m<=7->Rd m 0<=21:=by decide
theorem ydy{m n:Nat}{ps:List Pr}{as:List Apt}(hm:m<=7)(hl:ps.length<=100)(hg:zff m ps as):PB m 21 ps.length ((papS ps as (zb1 ps (bestF m ps as)) n).1 []) :=
 ((zz9 (c:=(m,ps,as)) (zkc hm (by omega) hg) n).1 [] (zpq _)).mono (yi4 m hm)
theorem yet{m:Nat}{ps:List Pr}{as:List Apt}(hm:m<=7)(hl:ps.length<=100)(hg:zff m ps as):PB m 21 ps.length (papO m ps as):=by
 unfold papO
 exact ydy hm hl hg
theorem yhp{m:Nat}(h:m<=7)(ps:List Pr)(as:List Apt):fewP m ps as:=fun p hp=>by
 unfold zb7 at hp
 obtain⟨y,_,rfl⟩:=Zit.mp hp
 have:=Zj5 (fun t=>decide (ufF (zfg ps as) t=ufF (zfg ps as) y)) (Zid m)
 rw[Zks] at this
 omega
noncomputable def yin(ds:List D):Prop:=∃(m:Nat) (ps:List Pr) (as:List Apt),ds=[.int m,.lst (ps.map encP),.lst (as.map encA)]/\m<=7/\ps.length<=100/\as.length<=100/\zff m ps as
noncomputable def yht:List D->D
 | [.int m,.lst ps,.lst as]=>zao (papO m.toNat (ps.map unP) (as.map unA))
 | _=>.non
theorem zqc(m:Nat)(ps:List Pr)(as:List Apt):yht [.int m,.lst (ps.map encP),.lst (as.map encA)]=zao (papO m ps as):=by
 show zao (papO (m:Int).toNat ((ps.map encP).map unP) ((as.map encA).map unA))=_
 rw[zjy,zhx];rfl
theorem zui{T0:Addr}{G Hz L:Hp}{ss:List Sl}{t:TA}{E:XK}{m:Nat}{ps:List Pr}{as:List Apt}(hT:HasT G T0 lamP lamQ)(a:EvAF K G Hz L ss t [.int m,.lst (ps.map encP),.lst (as.map encA)])(hm:m<=7)(hl:ps.length<=100)(hl2:as.length<=100)(hg:zff m ps as):Ev K G Hz L ss (ze7 (SpPT K T0 lamP lamQ yej yac) [] E t) (.tup [.int (zb1 ps (bestF m ps as)),encG (bestF m ps as)]):=by
 have:=zzz (K:=K) (Hz:=Hz) (L:=L) (E:=E) (pre:=yej) (res:=yac) hT a ⟨m,ps,as,rfl,by omega,by omega,by omega,hg,yhp hm ps as⟩
 rw[zqb] at this
 exact this
theorem yfk(m n:Nat)(ps:List Pr)(as:List Apt)(z:Int):zao ((papS ps as z n).1 [])=zq8 ((m,ps,as),[],0,z,n):=rfl
theorem zse{T0:Addr}(Z:Tx K mg ad0)(Y:LamAt base mg ad0.Zaa T0):FnOk P w K mg base CX0 76 ad0.Zdt ad0.Zc5 zg6 (SpWT K T0 lamP lamQ yin yht):=by
 have Zfg:=zoe (P:=P) (w:=w) (base:=base) Z Y
 have Zay:=(zq7 (P:=P) (w:=w) (base:=base) Z 72).1
 refine okWT Z.Zep.F znh (by rintro ds ⟨c,d,e,rfl,_⟩;rfl) fun cdv A outer s H Q E hr=>⟨_,(zad (zbt (zaw zlf (pv 0) (zgm (by rfl) Z.Zcs Z.Zfc) (zau _)) (zag zuc) zax)
   (zad (psn 3 znh.nd (za4 (show IxR _ (rIxT K) from za5) (pcX Zfg hr Z.Zef (zab (pv 0) (zab (pv 1) (zab (pv 2) zae)))) zai (fun _ _=>rfl)))
   (zag (zas (pcX Zay hr Z.Zah (zab (zbz (zab (pv 0) (zab (pv 1) (zab (pv 2) zae)))) (zab (zca zae) (zab (pv 3) zae)))))))),fun G ds hT hp rt=>?_⟩
 obtain⟨m,ps,as,rfl,hm,hpl,hal,hg⟩:=hp
 rw[zqc,papO,yfk m 71] at rt
 have e:decide (((m:Nat):Int)>7)=false:=decide_eq_false (by omega)
 refine zak (zbd (b:=false) (by rw[<- e];exact zal (zk7 (zaa rfl).b zaj.b)) (fun hb=>by cases hb) (fun _=>?_))
 refine za1 ?_
 ((try dsimp only);refine zap ?_)
 refine zak (za3 (d:=.int (zb1 ps (bestF m ps as))) (za0 (ds:=[.int (zb1 ps (bestF m ps as)),encG (bestF m ps as)]) (zui hT (zac (zaa rfl) (zac (zaa rfl) (zac (zaa rfl) zaf))) hm hpl hal hg) zaj.b rfl) ?_)
 ((try dsimp only);refine zap ?_)
 have hf:(m - 0)*(m+3)+1<=71:=by
  have h1:(m - 0)*(m+3)<=7*10:=Ztl (by omega) (by omega)
  omega
 exact zhv (zho (pre:=zru 72) (res:=zq8) ((m,ps,as),[],0,zb1 ps (bestF m ps as),71) (zac (zcd (ds:=[.int m,.lst (ps.map encP),.lst (as.map encA)]) (zac (zaa rfl) (zac (zaa rfl) (zac (zaa rfl) zaf))) (small (by simp))) (zac (EvO.ev (zbs (ds:=[]) zaf (small (by simp)))) (zac (zaa rfl) zaf))) ⟨rfl,zkc hm (by omega) hg,zpq _,hf,by show 71<72;decide⟩) zok rt
noncomputable def wgt(c:Int):Int:=if c / 8 % 2=1 then 1+c / 16 % (10:Int) ^ (30:Int).toNat else 1+c / 16 % 4
noncomputable def wgtL(v:Int):List Int:=[0,v,v,v,v,-v,-v,-v]
noncomputable def wF(c:Int):Int:=(wgtL (wgt c)).getD (c % 8).toNat 0
theorem yf6(c:Int):0<wgt c:=by
 unfold wgt
 split
 .have:=Znm (c / 16) (show(10:Int) ^ (30:Int).toNat≠0 by decide);omega
 .have:=Znm (c / 16) (show(4:Int)≠0 by decide);omega
theorem yip(c:Int)(h:0<c % 8):wF c≠0:=by
 have h2:=Zns c (show(0:Int)<8 by decide)
 have hp:=yf6 c
 unfold wF
 have:(c % 8).toNat=1\/(c % 8).toNat=2\/(c % 8).toNat=3\/(c % 8).toNat=4\/(c % 8).toNat=5\/(c % 8).toNat=6\/(c % 8).toNat=7:=by omega
 rcases this with e | e | e | e | e | e | e <;> rw[e] <;> simp[wgtL] <;> omega
theorem yfv{gs:List Int}{k:Int}(h0:0<=k)(h1:k<gs.length):atI (gs.map D.int) k=some (.int (gs.getD k.toNat 0)):=by
 have:=zn8 (gs:=gs) (i:=k.toNat) (by omega)
 rwa [show((k.toNat:Nat):Int)=k by omega] at this
noncomputable def preW(ds:List D):Prop:=∃c:Int,ds=[.int c]
noncomputable def resW:List D->D
 | [.int c]=>.int (wF c)
 | _=>.non
theorem zo2(Z:Tx K mg ad0):FnOk P w K mg base CX0 1 ad0.Zbu ad0.Zbz zes (SpD K preW resW):=by
 refine okD Z.Zdk.F zhs (by rintro ds ⟨c,rfl⟩;rfl) fun cdv A outer s H Q E hr=>⟨_,(zad (psn 1 zhs.nd (zbr zc1 zai (zbr zjd (zbr znt (pv 0) zai) zai)))
   (zad (zbt (zaw zd4 (zbr zjd (zbr znt (pv 0) zai) zai) zai (zau _)) (zag (psn 1 zhs.nd (zbr zc1 zai (zbr zjd (zbr znt (pv 0) zai) (zbr yh2 zai zai))))) zax)
   (zag (zas (za4 (show IxR _ (rIxL K) from zbk) (zca (zab zai (zab (pv 1) (zab (pv 1) (zab (pv 1) (zab (pv 1) (zab (zob zjf (pv 1)) (zab (zob zjf (pv 1)) (zab (zob zjf (pv 1)) zae))))))))) (zbr zjd (pv 0) zai) (fun _ _=>rfl)))))),fun G ds hp rt=>?_⟩
 obtain⟨c,rfl⟩:=hp
 refine zak (za3 (zc3 zaj.b (zjg (znb (zaa rfl).b zaj.b ⟨by decide,by decide⟩).b zaj.b (by decide)).b) ?_)
 ((try dsimp only);refine zap ?_)
 refine zs7 (fun ss=>ss=[.d (.int c),.d (.int (wgt c))]) (fun N hN=>zbd (zal (zgb (zjg (znb (zaa rfl).b zaj.b ⟨by decide,by decide⟩).b zaj.b (by decide)).b zaj.b)) (fun hb=>za3 (zc3 zaj.b (zjg (znb (zaa rfl).b zaj.b ⟨by decide,by decide⟩).b (yhj zaj.b zaj.b ⟨by decide,by decide,by decide⟩).b (by decide)).b) (hN _ ?_)) (fun hb=>za1 (hN _ ?_))) ?_
 .unfold wgt;rw[if_pos (of_decide_eq_true hb)];rfl
 .unfold wgt;rw[if_neg (of_decide_eq_false hb)];rfl
 .rintro ss rfl
  have h1:=Znm c (show(8:Int)≠0 by decide)
  have h2:=Zns c (show(0:Int)<8 by decide)
  exact za2 (zdr (ds:=(wgtL (wgt c)).map D.int) (EvO.l (zbs (zac zaj (zac (zaa rfl) (zac (zaa rfl) (zac (zaa rfl) (zac (zaa rfl) (zac (zj8 (zaa rfl).b) (zac (zj8 (zaa rfl).b) (zac (zj8 (zaa rfl).b) zaf)))))))) (small (by simp[wgtL])))) (zjg (zaa rfl).b zaj.b (by decide)).b (yfv h1 (by show c % 8<((wgtL (wgt c)).length:Int);exact h2))) rt
noncomputable def kyP(p:Pr):Apt:=(p.1,p.2.1)
noncomputable def Bef(k q:Nat)(as:List Apt):Prop:=as.Nodup /\ ∀a∈as,a.1<k\/(a.1=k/\a.2<k+1+q)
theorem Bef.put{k q:Nat}{as:List Apt}(h:Bef k q as):Bef k (q+1) (as++[(k,k+1+q)]):=by
 refine⟨Zjw.mpr ⟨h.1,by simp,fun b hb c hc z=>?_⟩,fun a ha=>?_⟩
 .rw[show c=(k,k+1+q) by simpa using hc] at z
  subst z
  rcases h.2 _ hb with z | z
  .exact absurd z (Zjh _)
  .exact absurd z.2 (Zjh _)
 .rcases Zin.mp ha with z | z
  .exact(h.2 a z).imp id fun y=>⟨y.1,by omega⟩
  .rw[show a=(k,k+1+q) by simpa using z];exact .inr ⟨rfl,by show k+1+q<k+1+(q+1);omega⟩
theorem Bef.mono{k q:Nat}{as:List Apt}(h:Bef k q as):Bef k (q+1) as:=⟨h.1,fun a ha=>(h.2 a ha).imp id fun y=>⟨y.1,by omega⟩⟩
theorem Bef.next{k q:Nat}{as:List Apt}(h:Bef k q as):Bef (k+1) 0 as:=⟨h.1,fun a ha=>.inl (by rcases h.2 a ha with y | y <;> omega)⟩
noncomputable def zx0(ds:List D):Prop:=∃(ns:List Int) (m at0:Int),ds=[.lst (ns.map .int),.int m,.int at0]/\0<=m/\m<=10/\0<=at0
noncomputable def zy6(ds:List D)(r:D):Prop:=∀(ns:List Int) (m at0:Int),ds=[.lst (ns.map .int),.int m,.int at0]-> ∃ps as,r= .tup [.lst (ps.map encP),.lst (as.map encA)]/\ps.length<=10*m.toNat/\as.length<=10*m.toNat/\zff m.toNat ps as/\(ps.map kyP).Nodup/\as.Nodup
theorem ybi(ns:List Int)(k:Int):∃i,zgh [.lst (ns.map .int),.int k]= .int i:=by
 show ∃i,(ns.map D.int).getD k.toNat (.int 0)= .int i
 rw[Zh8,Zie]
 cases ns[k.toNat]? <;> exact⟨_,rfl⟩
theorem zr3 (Z : Tx K mg ad0) : FnOk P w K mg base CX0 2 ad0.Zdn ad0.Zdu zgx (SpRD K zx0 zy6) := by
 have Zek:=zjo (P:=P) (w:=w) (base:=base) Z
 have Zg1:=zo2 (P:=P) (w:=w) (base:=base) Z
 refine okRD Z.Zeq.F zdk (by rintro ds ⟨c,d,e,rfl,_⟩;rfl) fun cdv A outer s H Q E hr=>⟨_,(zad (psn 3 zdk.nd (zca zae))
   (zad (psn 4 zdk.nd (zca zae))
   (zad (zbn Zix rfl (zg4 (by rfl) Z.Zbo (zab (pv 1) zae)) (pgn 5 zdk.nd) (zag (zbn Zix rfl (zxy (by rfl) Z.Zbo (zab (zbr zc1 (pv 5) zai) (zab (pv 1) zae))) (pgn 6 zdk.nd) (zad (psn 7 zdk.nd (pcX Zek hr Z.Zbm (zab (pv 0) (zab (pv 2) zae))))
   (zad (psn 2 zdk.nd (zbr zc1 (pv 2) zai))
   (zad (zbt (zaw zlf (zbr zjd (pv 7) zai) zai (zau _)) (zag (zgj (zjc Zjr Zkc Zkk zcr (pv 3) (zab (zbz (zab (pv 5) (zab (pv 6) (zab (pcX Zg1 hr Z.Zdk (zab (pv 7) zae)) zae)))) zae)))) zax)
   (zag (zbt (zaw zd4 (zbr zjd (zbr znt (pv 7) zai) zai) zai (zau _)) (zag (zgj (zjc Zjr Zkc Zkk zcr (pv 4) (zab (zbz (zab (pv 5) (zab (pv 6) zae))) zae)))) zax))))))))
   (zag (zas (zbz (zab (pv 3) (zab (pv 4) zae)))))))),fun G ds hp rt=>?_⟩
 obtain⟨ns,m,at0,rfl,hm0,hm8,ha0⟩:=hp
 refine zak (zey (zbs zaf (small (by decide))) fun pp=>?_)
 ((try dsimp only);refine zap ?_)
 refine zak (zey (zbs zaf (small (by decide))) fun pa=>?_)
 ((try dsimp only);refine zap ?_)
 refine zak (zmg (n:=m) (fun k ss=>∃(at':Int) (ps:List Pr) (as:List Apt) (v5 v6 v7:Sl),ss=[.d (.lst (ns.map .int)),.d (.int m),.d (.int at'),.o pp (ps.map encP),.o pa (as.map encA),v5,v6,v7]/\0<=at'/\ps.length<=10*k/\as.length<=10*k/\zff m.toNat ps as/\Bef k 0 (ps.map kyP)/\Bef k 0 as) (zbm (zaa rfl).b zfh) ⟨by omega,by omega⟩ ⟨at0,[],[],.un,.un,.un,rfl,ha0,by simp,by simp,⟨by simp,by simp⟩,⟨by simp,by simp⟩,by simp,by simp⟩ ?_ ?_ (fun _ _ _ h=>h))
 .rintro k ss hk ⟨at1,ps,as,v5,v6,v7,rfl,h0,hpl,hal,hg,hB1,hB2⟩ N hN
  refine zy2 (m:=(k:Int)+1) (n:=m) (fun q ss=>∃(at':Int) (ps:List Pr) (as:List Apt) (v6 v7:Sl),ss=[.d (.lst (ns.map .int)),.d (.int m),.d (.int at'),.o pp (ps.map encP),.o pa (as.map encA),.d (.int k),v6,v7]/\0<=at'/\ps.length<=10*k+q/\as.length<=10*k+q/\zff m.toNat ps as/\Bef k q (ps.map kyP)/\Bef k q as) (zbm (zc3 (zaa rfl).b zaj.b).b (zbm (zaa rfl).b zfh)) ⟨by omega,by omega⟩ ⟨by omega,by omega⟩ ⟨at1,ps,as,v6,v7,rfl,h0,hpl,hal,hg,hB1,hB2⟩ ?_ ?_
  .rintro q ss hq ⟨at2,ps,as,v6,v7,rfl,h0,hpl,hal,hg,hB1,hB2⟩ N2 hN2
   have ej:(k:Int)+1+(q:Int)=((k+1+q:Nat):Int):=by omega
   rw[ej]
   obtain⟨c,ec⟩:=ybi ns at2
   refine zak (za3 (d:=.int c) (by rw[<- ec];exact zbq (pre:=zpb) (res:=zgh) (zac (zaa rfl) (zac (zaa rfl) zaf)) ⟨ns,at2,rfl,h0⟩) ?_)
   ((try dsimp only);refine zap ?_)
   refine zak (za3 (zc3 (zaa rfl).b zaj.b) ?_)
   ((try dsimp only);refine zap ?_)
   refine zs7 (fun ss=>∃ps1:List Pr,ss=[.d (.lst (ns.map .int)),.d (.int m),.d (.int (at2+1)),.o pp (ps1.map encP),.o pa (as.map encA),.d (.int k),.d (.int ((k+1+q:Nat):Int)),.d (.int c)]/\ps1.length<=10*k+(q+1)/\zff m.toNat ps1 as/\Bef k (q+1) (ps1.map kyP)) (fun N' hN'=>zbd (zal (zk7 (zjg (zaa rfl).b zaj.b (by decide)).b zaj.b)) (fun hb=>?_) (fun hb=>?_)) ?_
   .have hc:0<c % 8:=of_decide_eq_true hb
    refine zfk (d:=encP (k,k+1+q,wF c)) rfl (zcd (zac (zaa rfl) (zac (zaa rfl) (zac (zbq (pre:=preW) (res:=resW) (zac (zaa rfl) zaf) ⟨c,rfl⟩) zaf))) (small (by simp))) (by rw[Zia,Ziv];omega) (hN' _ ⟨ps++[(k,k+1+q,wF c)],by rw[Zir];rfl,by simp;omega,⟨fun p hp=>?_,hg.2⟩,by rw[Zir];exact hB1.put⟩)
    rcases Zin.mp hp with z | z
    .exact hg.1 p z
    .rw[Zic] at z
     subst z
     exact⟨by show k<k+1+q;omega,by show k+1+q<m.toNat;omega,yip c hc⟩
   .exact za1 (hN' _ ⟨ps,rfl,by omega,hg,hB1.mono⟩)
   .rintro ss ⟨ps1,rfl,hpl1,hg1,hB3⟩
    refine zbd (zal (zgb (zjg (znb (zaa rfl).b zaj.b ⟨by decide,by decide⟩).b zaj.b (by decide)).b zaj.b)) (fun hb=>?_) (fun hb=>?_)
    .refine zfk (d:=encA (k,k+1+q)) rfl (zcd (zac (zaa rfl) (zac (zaa rfl) zaf)) (small (by simp))) (by rw[Zia,Ziv];omega) (hN2 _ ⟨at2+1,ps1,as++[(k,k+1+q)],_,_,by rw[Zir];rfl,by omega,hpl1,by simp;omega,⟨hg1.1,fun a ha=>?_⟩,hB3,hB2.put⟩)
     rcases Zin.mp ha with z | z
     .exact hg1.2 a z
     .rw[Zic] at z
      subst z
      exact⟨by show k<k+1+q;omega,by show k+1+q<m.toNat;omega⟩
    .exact za1 (hN2 _ ⟨at2+1,ps1,as,_,_,rfl,by omega,hpl1,by omega,hg1,hB3,hB2.mono⟩)
  .rintro ss ⟨at2,ps,as,v6,v7,rfl,h0,hpl,hal,hg,hB1,hB2⟩
   exact hN _ ⟨at2,ps,as,_,v6,v7,rfl,h0,by omega,by omega,hg,hB1.next,hB2.next⟩
 .rintro ss ⟨at1,ps,as,v5,v6,v7,rfl,h0,hpl,hal,hg,hB1,hB2⟩
  refine zgt (i:=3) rfl (zgt (i:=4) rfl ?_)
  ((try dsimp only);refine zap ?_)
  refine za2 (zcd (zac (zaa rfl) (zac (zaa rfl) zaf)) (small (by simp))) (rt _ fun ns' m' at' he=>?_)
  simp only[Zn8,D.int.injEq,and_true] at he
  obtain⟨_,rfl,_⟩:=he
  exact⟨ps,as,rfl,by omega,by omega,hg,hB1.1,hB2.1⟩
noncomputable def lsF(y:Wts)(f:Nat->Nat)(a:Apt):Int:=if decide (f a.1=f a.2)=decide (0<wtF y.1 y.2 a) then 0 else absI (wtF y.1 y.2 a)
noncomputable def Agr(x:Dec)(f:Nat->Nat):Prop:=∀a∈x.1,x.2 a=decide (f a.1=f a.2)
theorem yc1(y:Wts)(f:Nat->Nat)(a:Apt):0<=lsF y f a:=by unfold lsF;split;exact Zll _;exact zsd _
theorem zw8(f:Apt->Int)(l:List Apt):sumA f l=sumI (l.map f):=by
 unfold sumA
 have:∀(l:List Apt) (z:Int),l.foldl (fun s a=>s+f a) z=z+sumI (l.map f):=by
  intro l
  induction l with
  | nil=>intro z;simp[sumI]
  | cons a l ih=>intro z;rw[Zke,ih,Zik,sumI];omega
 rw[this,Zm8]
theorem zhh:∀(a b:List Int),sumI (a++b)=sumI a+sumI b
 | [],b=>by simp[sumI]
 | x::a,b=>by rw[Znd,sumI,sumI,zhh a b];omega
theorem zwn{f:Apt->Int}(h:∀a,0<=f a):∀l:List Apt,0<=sumI (l.map f)
 | []=>Zll _
 | a::l=>by have:=zwn h l;have:=h a;rw[Zik,sumI];omega
theorem zl8{f:Apt->Int}(h:∀a,0<=f a):∀(l1 l2:List Apt),l1.Nodup->(∀a∈l1,f a≠0->a∈l2)->sumI (l1.map f)<=sumI (l2.map f)
 | [],l2,_,_=>zwn h l2
 | a::l1,l2,hn,hi=>by
  have hn:=Zj6.mp hn
  rw[Zik,sumI]
  by_cases h0:f a=0
  .have:=zl8 h l1 l2 hn.2 fun b hb=>hi b (Zij _ hb)
   omega
  .obtain⟨s,t,rfl⟩:=Zsg (hi a Zil h0)
   have:=zl8 h l1 (s++t) hn.2 fun b hb hb0=>by
    have hm:=hi b (Zij _ hb) hb0
    have hne:b≠a:=fun z=>hn.1 (by rw[<- z];exact hb)
    rcases Zin.mp hm with z | z
    .exact Ziz _ z
    .rcases Ziy.mp z with z | z
     .exact absurd z hne
     .exact Zig _ z
   rw[Zir,zhh] at this
   rw[Zir,Zik,zhh,sumI]
   omega
theorem zty{f:Nat->Nat}:∀(n:Nat) {r:List Nat},n<r.length->(∀k<n,f (r.getD k 0)=f (r.getD (k+1) 0))->f (r.getD 0 0)=f (r.getD n 0)
 | 0,_,_,_=>rfl
 | n+1,r,h,hk=>(zty n (by omega) fun k hlt=>hk k (by omega)).trans (hk n (by omega))
theorem ygb(f:Nat->Nat)(a b:Nat):(f (prF a b).1=f (prF a b).2)↔f a=f b:=by
 unfold prF
 rcases Nat.le_total a b with h | h
 .rw[Zqk h,Zs0 h]
 .rw[Zpz h,Zs9 h];exact eq_comm
theorem zml{r:List Nat}(hr:r≠[])(f:Nat->Nat):(∃a∈zbb r,f a.1≠f a.2)\/f (gapR r).1=f (gapR r).2:=by
 by_cases h:∃a∈zbb r,f a.1≠f a.2
 .exact .inl h
 .right
  unfold gapR
  rw[ygb]
  have hl:=Zlg.mpr hr
  refine zty (r.length - 1) (by omega) fun k hk=>?_
  rw[<- ygb]
  exact Zl5 fun z=>h ⟨_,Zit.mpr ⟨k,Zi2.mpr hk,rfl⟩,z⟩
theorem zut{x:Dec}{f:Nat->Nat}(h:Agr x f){a:Apt}(ha:zcg x a=true):f a.1=f a.2:=by
 unfold zcg at ha
 rw[Ziq,decide_eq_true_eq] at ha
 have:=h a ha.1
 rw[ha.2] at this
 exact of_decide_eq_true this.symm
theorem zto{x:Dec}{f:Nat->Nat}(h:Agr x f){a:Apt}(ha:zcc x a=true):f a.1≠f a.2:=by
 unfold zcc at ha
 rw[Ziq,decide_eq_true_eq,Zje] at ha
 have:=h a ha.1
 rw[ha.2] at this
 exact of_decide_eq_false this.symm
theorem ya1{r:List Nat}{m:Nat}{y:Wts}{x:Dec}{f:Nat->Nat}(hx:Agr x f)(h:ze3 r m y x=true):∃a∈zbi r x,lsF y f a=absI (wtF y.1 y.2 a):=by
 unfold ze3 at h
 simp only[Ziq] at h
 obtain⟨⟨hr,_⟩,_,hl,hg⟩:=h
 have hrn:r≠[]:=fun z=>by subst z;simp[zb0] at hr
 rcases zml hrn f with ⟨a,ha,hf⟩ | hf
 .have hok:=Zi7.mp hl a ha
  unfold zg5 at hok
  rw[Zje,Zlo] at hok
  have hnx:a∉x.1:=fun z=>by
   have h1:=hok.1
   unfold zcc at h1
   rw[decide_eq_true z,Zjl,Zj3] at h1
   exact hf (zut hx (by unfold zcg;rw[decide_eq_true z,h1];rfl))
  have hw:0<wtF y.1 y.2 a:=by
   have h2:=hok.2
   rw[decide_eq_false hnx,Zm3,Zjl,decide_eq_false_iff_not] at h2
   omega
  refine⟨a,Zip.mpr ⟨Ziz _ ha,by rw[decide_eq_false hnx];rfl⟩,?_⟩
  unfold lsF
  rw[decide_eq_false hf,decide_eq_true hw];rfl
 .unfold zqk at hg
  have hnp:zcc x (gapR r)=false:=by
   cases h:zcc x (gapR r) with
   | false=>rfl
   | true=>exact absurd hf (zto hx h)
  rw[hnp,Zms,Ziq,Zje,decide_eq_false_iff_not,decide_eq_true_eq] at hg
  refine⟨gapR r,Zip.mpr ⟨Zig _ (by simp),by rw[decide_eq_false hg.1];rfl⟩,?_⟩
  unfold lsF
  rw[decide_eq_true hf,decide_eq_false (by omega)];rfl
noncomputable def usL(y:Wts)(f:Nat->Nat)(u:Usd)(a:Apt):Int:=if lsF y f a=absI (wtF y.1 y.2 a) then u.2 a else 0
theorem yal{y:Wts}{f:Nat->Nat}{v:Int}(hv:0<=v){u:Usd}(hn:u.1.Nodup)(h0:∀a∈u.1,0<=u.2 a)(a:Apt) :
  (addU v u a).1.Nodup/\(∀b∈(addU v u a).1,0<=(addU v u a).2 b)/\sumI (u.1.map (usL y f u))+(if lsF y f a=absI (wtF y.1 y.2 a) then v else 0)=sumI ((addU v u a).1.map (usL y f (addU v u a))):=by
 have hw:0<=wtF u.1 u.2 a:=by
  unfold wtF
  split
  .exact h0 a (by assumption)
  .exact Zll _
 have hoth:∀b,b≠a->usL y f (addU v u a) b=usL y f u b:=fun b hb=>by
  have e:(addU v u a).2 b=u.2 b:=if_neg hb
  unfold usL;rw[e]
 have hat:usL y f (addU v u a) a=if lsF y f a=absI (wtF y.1 y.2 a) then wtF u.1 u.2 a+v else 0:=by
  have e:(addU v u a).2 a=wtF u.1 u.2 a+v:=if_pos rfl
  unfold usL;rw[e]
 have hmap:∀l:List Apt,a∉l->l.map (usL y f (addU v u a))=l.map (usL y f u):=fun l hl=>Zjf fun b hb=>hoth b fun z=>hl (by rw[<- z];exact hb)
 by_cases hm:a∈u.1
 .have e1:(addU v u a).1=u.1:=if_pos hm
  have hwt:wtF u.1 u.2 a=u.2 a:=if_pos hm
  refine⟨by rw[e1];exact hn,fun b hb=>?_,?_⟩
  .rw[e1] at hb
   show 0<=if b=a then _ else _
   split
   .omega
   .exact h0 b hb
  .rw[e1]
   obtain⟨s,t,hst⟩:=Zsg hm
   have hn2:=hn
   rw[hst] at hn2 ⊢
   obtain⟨n1,n2,n3⟩:=Zjw.mp hn2
   have ha1:a∉s:=fun z=>n3 a z a Zil rfl
   have ha2:a∉t:=(Zj6.mp n2).1
   rw[Zir,Zir,Zik,Zik,zhh,zhh,sumI,sumI,hmap s ha1,hmap t ha2,hat,hwt]
   have:usL y f u a=if lsF y f a=absI (wtF y.1 y.2 a) then u.2 a else 0:=rfl
   rw[this]
   split <;> omega
 .have e1:(addU v u a).1=u.1++[a]:=if_neg hm
  have hwt:wtF u.1 u.2 a=0:=if_neg hm
  refine⟨by rw[e1];exact Zjw.mpr ⟨hn,by simp,fun b hb c hc z=>hm (by rw[<- Zic.mp hc,<- z];exact hb)⟩,fun b hb=>?_,?_⟩
  .show 0<=if b=a then _ else _
   split
   .omega
   .rename_i hne
    rw[e1] at hb
    rcases Zin.mp hb with z | z
    .exact h0 b z
    .exact absurd (Zic.mp z) hne
  .rw[e1,Zir,zhh,hmap u.1 hm]
   show _=_+sumI [usL y f (addU v u a) a]
   rw[hat,hwt,sumI,sumI]
   split <;> omega
theorem zum{y:Wts}{f:Nat->Nat}{v:Int}(hv:0<=v):∀(as:List Apt) {u:Usd},u.1.Nodup->(∀a∈u.1,0<=u.2 a) ->
  (as.foldl (addU v) u).1.Nodup/\(∀b∈(as.foldl (addU v) u).1,0<=(as.foldl (addU v) u).2 b)/\sumI (u.1.map (usL y f u))+(if ∃a∈as,lsF y f a=absI (wtF y.1 y.2 a) then v else 0)<=sumI ((as.foldl (addU v) u).1.map (usL y f (as.foldl (addU v) u)))
 | [],u,hn,h0=>⟨hn,h0,by rw[if_neg (by rintro⟨a,ha,_⟩;cases ha)];simp⟩
 | a::as,u,hn,h0=>by
  obtain⟨h1,h2,h3⟩:=yal (y:=y) (f:=f) hv hn h0 a
  obtain⟨g1,g2,g3⟩:=zum (y:=y) (f:=f) hv as h1 h2
  refine⟨g1,g2,?_⟩
  rw[Zke]
  by_cases ha:lsF y f a=absI (wtF y.1 y.2 a)
  .rw[if_pos ha] at h3
   have:0<=(if ∃a∈as,lsF y f a=absI (wtF y.1 y.2 a) then v else 0):=by split <;> omega
   rw[if_pos ⟨a,Zil,ha⟩]
   omega
  .rw[if_neg ha] at h3
   by_cases hb:∃a∈as,lsF y f a=absI (wtF y.1 y.2 a)
   .obtain⟨b,hb1,hb2⟩:=hb
    rw[if_pos ⟨b,Zij _ hb1,hb2⟩]
    rw[if_pos ⟨b,hb1,hb2⟩] at g3
    omega
   .rw[if_neg hb] at g3
    rw[if_neg (by rintro⟨b,hb1,hb2⟩;rcases Ziy.mp hb1 with z | z;exact ha (z ▸ hb2);exact hb ⟨b,z,hb2⟩)]
    omega
theorem ybo{m:Nat}{y:Wts}{x:Dec}{f:Nat->Nat}(hx:Agr x f):∀rows:List Row,rows.all (zlz m y x)=true ->
  (useR x rows).1.Nodup/\(∀a∈(useR x rows).1,0<=(useR x rows).2 a)/\sumR rows<=sumI ((useR x rows).1.map (usL y f (useR x rows))):=fun rows=>by
 induction rows using zim with
 | h0=>intro _;exact⟨Zmf,fun a ha=>(by cases ha),Zll _⟩
 | hs rows q ih =>
  intro h
  rw[Zl1,Ziq,Zkh,Zol,Zkl] at h
  obtain⟨h1,h2,h3⟩:=ih h.1
  have hq:=h.2
  unfold zlz at hq
  rw[Ziq,decide_eq_true_eq] at hq
  obtain⟨a,ha,hla⟩:=ya1 hx hq.2
  obtain⟨g1,g2,g3⟩:=zum (y:=y) (f:=f) (v:=q.2) (by omega) (zbi q.1 x) h1 h2
  rw[zno,zmt]
  refine⟨g1,g2,?_⟩
  rw[if_pos ⟨a,ha,hla⟩] at g3
  omega
theorem yce{y:Wts}{x:Dec}{f:Nat->Nat}(hx:Agr x f):zk6 y x=sumI (x.1.map (lsF y f)):=by
 unfold zk6
 rw[zw8]
 refine zds fun a ha=>?_
 unfold zh1 lsF
 rw[<- hx a ha]
 by_cases h:x.2 a=decide (0<wtF y.1 y.2 a)
 .rw[if_pos h,if_neg (by rw[decide_eq_true (show x.2 a=decide (wtF y.1 y.2 a>0) from h)];decide)]
 .rw[if_neg h,if_pos (by rw[decide_eq_false (show ¬ x.2 a=decide (wtF y.1 y.2 a>0) from h)];decide)]
theorem yih{y:Wts}{f:Nat->Nat}{a:Apt}(h:lsF y f a≠0):a∈y.1:=Zl5 fun z=>h (by
 have:wtF y.1 y.2 a=0:=if_neg z
 unfold lsF
 rw[this]
 split <;> rfl)
theorem zk3{m:Nat}{y:Wts}{least:Int}{f:Nat->Nat}:∀(p:Pap) (x:Dec),x.1.Nodup->Agr x f->zc9 m y least p x=true->least<=sumI (y.1.map (lsF y f))
 | .nev r,x,_,hx,h=>by
  have h:zg1 r m x=true:=h
  unfold zg1 at h
  simp only[Ziq] at h
  obtain⟨⟨hr,_⟩,hl,hg⟩:=h
  have hrn:r≠[]:=fun z=>by subst z;simp[zb0] at hr
  exfalso
  rcases zml hrn f with ⟨a,ha,hf⟩ | hf
  .exact hf (zut hx (Zi7.mp hl a ha))
  .exact zto hx hg hf
 | .rin rows,x,hn,hx,h=>by
  have h:zk0 rows m y x least=true:=h
  unfold zk0 at h
  simp only[Ziq,decide_eq_true_eq] at h
  obtain⟨h1,h2,h3⟩:=h
  obtain⟨g1,g2,g3⟩:=ybo (f:=f) hx rows h1
  rw[yce hx] at h3
  have hopen:∀a∈(useR x rows).1,a∉x.1:=fun a ha z=>by
   obtain⟨q,_,hq⟩:=(zkh x rows a).mp ha
   have:=(Zip.mp hq).2
   rw[decide_eq_true z] at this
   cases this
  have hle:sumI ((useR x rows).1.map (usL y f (useR x rows)))<=sumI ((useR x rows).1.map (lsF y f)):=zzm fun a ha=>by
   unfold usL
   split
   .rename_i hla
    rw[hla]
    exact of_decide_eq_true (Zi7.mp h2 a ha)
   .exact yc1 y f a
  have:=zl8 (yc1 y f) (x.1++(useR x rows).1) y.1 (Zjw.mpr ⟨hn,g1,fun b hb c hc z=>hopen c hc (by rw[<- z];exact hb)⟩) fun a _ h=>yih h
  rw[Zir,zhh] at this
  omega
 | .cas i j a b,x,hn,hx,h=>by
  have h:(mayD i j m x&&(zc9 m y least a (putX x (i,j) true)&&zc9 m y least b (putX x (i,j) false)))=true:=h
  rw[Ziq,Ziq] at h
  obtain⟨h0,h1,h2⟩:=h
  have hnx:(i,j)∉x.1:=by unfold mayD at h0;simp at h0;exact h0.2.2.2
  have hn2:∀c,(putX x (i,j) c).1.Nodup:=fun c=>Zjw.mpr ⟨hn,by simp,fun b hb c hc z=>hnx (by rw[<- Zic.mp hc,<- z];exact hb)⟩
  have hag:∀c,c=decide (f i=f j)->Agr (putX x (i,j) c) f:=fun c hc d hd=>by
   show(if d=(i,j) then c else x.2 d)=_
   split
   .rename_i e;rw[e];exact hc
   .rename_i e
    rcases Zin.mp hd with z | z
    .exact hx d z
    .exact absurd (Zic.mp z) e
  by_cases hf:f i=f j
  .exact zk3 a _ (hn2 true) (hag true (decide_eq_true hf).symm) h1
  .exact zk3 b _ (hn2 false) (hag false (decide_eq_false hf).symm) h2
theorem yiu{m:Nat}{ps:List Pr}{as:List Apt}{least:Int}{p:Pap}{g:List Nat}(hpn:(ps.map keyP).Nodup)(han:as.Nodup)(hk:zkk as g)(h:zc9 m (wtsP ps) least p (decP as)=true):least<=zb1 ps g:=by
 have:=zk3 (f:=atG g) p (decP as) han (fun a ha=>(decide_eq_false (hk a ha)).symm) h
 have e:sumI ((wtsP ps).1.map (lsF (wtsP ps) (atG g)))=zb1 ps g:=by
  unfold zb1 zrx
  show sumI ((ps.map keyP).map _)=_
  rw[Zja]
  refine zds fun q hq=>?_
  show lsF (wtsP ps) (atG g) (keyP q)=zdn (atG g) q
  have hw:wtF (wtsP ps).1 (wtsP ps).2 (keyP q)=q.2.2:=(if_pos (Zit.mpr ⟨q,hq,rfl⟩)).trans (zq9 hpn hq)
  unfold lsF zdn
  rw[hw]
  rfl
 rw[e] at this
 exact this
noncomputable def fstG(g:List Nat)(i:Nat):Prop:=g.idxOf (atG g i)=i
noncomputable def zww(g:List Nat)(a:Apt):Prop:=a.1<a.2/\a.2<g.length/\fstG g a.1/\atG g a.1<=atG g a.2
noncomputable def zrk(g:List Nat)(k:Nat)(a:Apt):Prop:=a.2=g.length/\a.1<g.length/\fstG g a.1/\atG g a.1<k
noncomputable def zlb(g:List Nat)(a:Apt):Bool:=decide (a.2<g.length)&&decide (atG g a.1=atG g a.2)
noncomputable def AskD(as:List Apt)(g:List Nat)(k:Nat)(x:Dec):Prop:=x.1.Nodup/\(∀a,a∈x.1↔a∈as\/zww g a\/zrk g k a) /\ ∀a∈x.1,x.2 a=zlb g a
noncomputable def Dcd(as:List Apt)(g:List Nat)(x:Dec):Prop:=x.1.Nodup/\(∀a,a∈x.1↔a∈as\/zww g a) /\ ∀a∈x.1,x.2 a=zlb g a
theorem yd9{as:List Apt}{g:List Nat}{x:Dec}(h:Dcd as g x):AskD as g 0 x :=
 ⟨h.1,fun a=>(h.2.1 a).trans ⟨fun z=>z.elim .inl fun y=>.inr (.inl y),fun z=>z.elim .inl fun y=>y.elim .inr fun w=>absurd w.2.2.2 (Zjo _)⟩,h.2.2⟩
theorem zlp{g:List Nat}{k:Nat}(h:k∈g):g.idxOf k<g.length:=Zkb.mpr h
theorem zll{g:List Nat}{k:Nat}(h:k∈g):atG g (g.idxOf k)=k:=by
 unfold atG
 rw[Zh8,ztd h];rfl
theorem zng{g:List Nat}{k:Nat}(h:k∈g):fstG g (g.idxOf k):=by unfold fstG;rw[zll h]
theorem zxj:∀{g:List Nat} {i x:Nat},g[i]? = some x->g.idxOf x<=i
 | a::g,0,x,h=>by rw[show a=x by simpa using h,List.idxOf_cons_self];exact Zio _
 | a::g,i+1,x,h=>by
  have:=zxj (g:=g) (i:=i) (x:=x) (by simpa using h)
  rw[Znj]
  cases a == x
  .exact Nat.succ_le_succ this
  .exact Zjn _
theorem zyy{g:List Nat}{i:Nat}(h:i<g.length):g.idxOf (atG g i)<=i:=zxj (by unfold atG;rw[Zh8,Zh9 h];rfl)
theorem zph{g:List Nat}{i k:Nat}(h:i<g.length):fstG (g++[k]) i↔fstG g i:=by
 unfold fstG
 rw[zf0 h,zpo (zka h)]
theorem zu9{n:Nat}:∀{g:List Nat} {i j:Nat},g∈rgs n->i<j->j<g.length->fstG g j->atG g i<atG g j:=by
 induction n with
 | zero=>intro g i j h _ hj;rw[rgs] at h;rw[Zic.mp h] at hj;cases hj
 | succ n ih =>
  intro g i j h hij hj hf
  obtain⟨g',h1,y,hy,rfl⟩:=zh7.mp h
  have hl:=zgl h1
  rw[Zis] at hj
  have hj:j<g'.length+1:=hj
  rw[zf0 (by omega)]
  by_cases e:j=g'.length
  .subst e
   rw[zmi]
   have hg:g'∈rgs g'.length:=by rw[hl];exact h1
   have hny:y∉g':=fun z=>by
    have:(g'++[y]).idxOf (atG (g'++[y]) g'.length)=g'.length:=hf
    rw[zmi,zpo z] at this
    have:=zlp z
    omega
   have h2:=ybn hg (show i<g'.length by omega)
   have h3:¬ y<ngF g':=fun z=>hny ((zlj hg).mpr z)
   omega
  .rw[zf0 (by omega)]
   exact ih h1 hij (by omega) ((zph (by omega)).mp hf)
theorem zuy{as:List Apt}{g:List Nat}{x:Dec}(h:Dcd as g x){i j:Nat}(hij:i<j)(hj:j<g.length):dcdG as g i j=true↔(i,j)∈x.1:=by
 unfold dcdG
 rw[Zl2,Ziq,decide_eq_true_eq,decide_eq_true_eq,decide_eq_true_eq,h.2.1]
 exact⟨fun z=>z.elim (fun y=>.inr ⟨hij,hj,y.1,y.2⟩) .inl,fun z=>z.elim .inr fun y=>.inl ⟨y.2.2.1,y.2.2.2⟩⟩
theorem zpu{as:List Apt}{g:List Nat}{x:Dec}(h:Dcd as g x){f i:Nat}(hf:f<i)(hi:i<g.length)(hff:fstG g f)(he:atG g f=atG g i):zcg x (f,i)=true:=by
 have hm:(f,i)∈x.1:=(h.2.1 _).mpr (.inr ⟨hf,hi,hff,Zor he⟩)
 unfold zcg
 rw[decide_eq_true hm,h.2.2 _ hm]
 unfold zlb
 rw[decide_eq_true hi,decide_eq_true he];rfl
theorem zft{x:Dec}{y:Wts}{a:Apt}(h:zcg x a=true):zg5 x y a=true/\a∈x.1:=by
 unfold zcg at h
 rw[Ziq,decide_eq_true_eq] at h
 unfold zg5 zcc
 rw[decide_eq_true h.1,h.2]
 exact⟨rfl,h.1⟩
theorem zjh{a b:Nat}(h:a<b):prF a b=(a,b):=by unfold prF;rw[Zqk (by omega),Zs0 (by omega)]
theorem zqt{a b:Nat}(h:b<a):prF a b=(b,a):=by unfold prF;rw[Zpz (by omega),Zs9 (by omega)]
theorem zkd{x:Dec}{b:Apt}{l:List Apt}(h:b∈x.1):(b::l).filter (fun b=>!decide (b∈x.1))=l.filter fun b=>!decide (b∈x.1):=Zkx (by rw[decide_eq_true h];decide)
theorem zo7{x:Dec}{b:Apt}{l:List Apt}(h:b∉x.1):(b::l).filter (fun b=>!decide (b∈x.1))=b::l.filter fun b=>!decide (b∈x.1):=Zkw (by rw[decide_eq_false h];rfl)
theorem zuq(a b c:Nat):zbb [a,b,c]=[prF a b,prF b c]:=rfl
theorem zkf{r:List Nat}{m:Nat}{y:Wts}{x:Dec}{a:Apt}(hr:zb0 r=true)(hm:∀k∈r,k<m)(hnx:a∉x.1)
  (hl:∀b∈zbb r,zcg x b=true\/(b=a/\0<wtF y.1 y.2 a)) (hg:zcc x (gapR r)=true\/(gapR r=a/\wtF y.1 y.2 a<0)) (hin:(zbb r++[gapR r]).filter (fun b=>!decide (b∈x.1))=[a]):ze3 r m y x=true/\zbi r x=[a]:=by
 refine⟨?_,hin⟩
 unfold ze3
 rw[hr,Zi7.mpr fun k hk=>decide_eq_true (hm k hk)]
 have ho:zbi r x≠[]:=by unfold zbi;rw[hin];simp
 rw[decide_eq_false ho,Zi7.mpr fun b hb=>?_]
 .show zqk x y (gapR r)=true
  unfold zqk
  rcases hg with z | ⟨z,w⟩
  .rw[z];rfl
  .rw[z,decide_eq_false hnx,decide_eq_true w,Zm3,Zkl,Zuk]
 .rcases hl b hb with z | ⟨z,w⟩
  .exact(zft z).1
  .rw[z]
   unfold zg5 zcc
   rw[decide_eq_false hnx,decide_eq_false (show ¬ wtF y.1 y.2 a<=0 by omega)];rfl
theorem yds{as:List Apt}{g:List Nat}{x:Dec}(h:Dcd as g x){f o:Nat}(hg:g∈rgs g.length)(hf:f<g.length)(ho:o<g.length)(hff:fstG g f)(hfo:fstG g o)(hne:atG g f≠atG g o):zcc x (prF f o)=true:=by
 have key:∀f o,f<o->o<g.length->fstG g f->fstG g o->zcc x (f,o)=true:=fun f o hlt ho hff hfo=>by
  have hlt2:=zu9 hg hlt ho hfo
  have hm:(f,o)∈x.1:=(h.2.1 _).mpr (.inr ⟨hlt,ho,hff,Zl4 hlt2⟩)
  unfold zcc
  rw[decide_eq_true hm,h.2.2 _ hm]
  unfold zlb
  rw[decide_eq_false (show ¬ atG g (f,o).1=atG g (f,o).2 from Zi6 hlt2),Znu];rfl
 rcases Nat.lt_or_gt_of_ne (fun z=>hne (by rw[z]):f≠o) with z | z
 .rw[zjh z];exact key f o z ho hff hfo
 .rw[zqt z];exact key o f z hf hfo hff
theorem zpn{x:Dec}{a:Apt}(h:zcc x a=true):a∈x.1:=by unfold zcc at h;rw[Ziq,decide_eq_true_eq] at h;exact h.1
theorem ydq{as:List Apt}{g:List Nat}{x:Dec}{m:Nat}{y:Wts}{i j:Nat}(h:Dcd as g x)(hg:g∈rgs g.length)(hm:g.length<=m)(hij:i<j)(hj:j<g.length)(hnx:(i,j)∉x.1)
  (hw:(atG g i=atG g j/\wtF y.1 y.2 (i,j)<0)\/(atG g i≠atG g j/\0<wtF y.1 y.2 (i,j))):ze3 (zjb g i j) m y x=true/\zbi (zjb g i j) x=[(i,j)]:=by
 have hi:i<g.length:=Zlj hij hj
 have hin:=(yg5 hi hj hm).1
 have mi:=zka hi
 have mj:=zka hj
 have lf:=zyy hi
 have lo:=zyy hj
 have af:=zll mi
 have ao:=zll mj
 have ff:=zng mi
 have fo:=zng mj
 have lfg:=zlp mi
 have log:=zlp mj
 unfold zjb at hin ⊢
 by_cases hs:atG g i=atG g j
 .have hwn:wtF y.1 y.2 (i,j)<0:=by rcases hw with z | z;exact z.2;exact absurd hs z.1
  rw[<- hs] at hin ⊢
  rw[if_pos rfl] at hin ⊢
  have hne:g.idxOf (atG g i)≠i:=fun z=>hnx ((h.2.1 _).mpr (.inr ⟨hij,hj,z,Zor hs⟩))
  generalize g.idxOf (atG g i)=f at *
  have h1:zcg x (f,i)=true:=zpu h (by omega) hi ff af
  have h2:zcg x (f,j)=true:=zpu h (by omega) hj ff (af.trans hs)
  have eL:zbb [i,f,j]=[(f,i),(f,j)]:=by rw[zuq,zqt (by omega),zjh (by omega)]
  have eG:gapR [i,f,j]=(i,j):=zjh hij
  refine zkf (by unfold zb0;rw[decide_eq_true (by simp),decide_eq_true (by simp;omega)];rfl) hin hnx (fun b hb=>.inl ?_) (.inr ⟨eG,hwn⟩) ?_
  .rw[eL] at hb
   rcases Ziy.mp hb with z | z
   .rw[z];exact h1
   .rw[Zic.mp z];exact h2
  .rw[eL,eG]
   show Zp9 _ [(f,i),(f,j),(i,j)]=_
   rw[zkd (zft (y:=y) h1).2,zkd (zft (y:=y) h2).2,zo7 hnx,Zkj]
 .have hwp:0<wtF y.1 y.2 (i,j):=by rcases hw with z | z;exact absurd z.1 hs;exact z.2
  have hfo:g.idxOf (atG g i)≠g.idxOf (atG g j):=fun z=>hs (by rw[<- af,<- ao,z])
  rw[if_neg hfo] at hin ⊢
  have hpt:=yds h hg lfg log ff fo (by rw[af,ao];exact hs)
  have hboth:¬ (g.idxOf (atG g i)=i/\g.idxOf (atG g j)=j):=fun z=>hnx ((h.2.1 _).mpr (.inr ⟨hij,hj,z.1,Zl4 (zu9 hg hij hj z.2)⟩))
  have hfj:g.idxOf (atG g i)≠j:=fun z=>hs (by rw[<- af,z])
  have hoi:g.idxOf (atG g j)≠i:=fun z=>hs (by rw[<- ao,z])
  have heldf:g.idxOf (atG g i)≠i->zcg x (g.idxOf (atG g i),i)=true:=fun hn=>zpu h (by omega) hi ff af
  have heldo:g.idxOf (atG g j)≠j->zcg x (g.idxOf (atG g j),j)=true:=fun hn=>zpu h (by omega) hj fo ao
  generalize g.idxOf (atG g i)=f at *
  generalize g.idxOf (atG g j)=o at *
  by_cases c1:f=i
  .have c2:o≠j:=fun z=>hboth ⟨c1,z⟩
   rw[if_pos c1,if_neg c2] at hin ⊢
   subst c1
   have h2:=heldo c2
   show ze3 [f,j,o] m y x=true/\zbi [f,j,o] x=_
   have eL:zbb [f,j,o]=[(f,j),(o,j)]:=by rw[zuq,zjh hij,zqt (by omega)]
   have eG:gapR [f,j,o]=prF f o:=rfl
   refine zkf (by unfold zb0;rw[decide_eq_true (by simp),decide_eq_true (by simp;omega)];rfl) hin hnx (fun b hb=>?_) (.inl (by rw[eG];exact hpt)) ?_
   .rw[eL] at hb
    rcases Ziy.mp hb with z | z
    .exact .inr ⟨z,hwp⟩
    .rw[Zic.mp z];exact .inl h2
   .rw[eL,eG]
    show Zp9 _ [(f,j),(o,j),prF f o]=_
    rw[zo7 hnx,zkd (zft (y:=y) h2).2,zkd (zpn hpt),Zkj]
  .have h1:=heldf c1
   by_cases c2:o=j
   .rw[if_neg c1,if_pos c2] at hin ⊢
    subst c2
    show ze3 [f,i,o] m y x=true/\zbi [f,i,o] x=_
    have eL:zbb [f,i,o]=[(f,i),(i,o)]:=by rw[zuq,zjh (by omega),zjh hij]
    have eG:gapR [f,i,o]=prF f o:=rfl
    refine zkf (by unfold zb0;rw[decide_eq_true (by simp),decide_eq_true (by simp;omega)];rfl) hin hnx (fun b hb=>?_) (.inl (by rw[eG];exact hpt)) ?_
    .rw[eL] at hb
     rcases Ziy.mp hb with z | z
     .rw[z];exact .inl h1
     .exact .inr ⟨Zic.mp z,hwp⟩
    .rw[eL,eG]
     show Zp9 _ [(f,i),(i,o),prF f o]=_
     rw[zkd (zft (y:=y) h1).2,zo7 hnx,zkd (zpn hpt),Zkj]
   .have h2:=heldo c2
    rw[if_neg c1,if_neg c2] at hin ⊢
    show ze3 [f,i,j,o] m y x=true/\zbi [f,i,j,o] x=_
    have eL:zbb [f,i,j,o]=[(f,i),(i,j),(o,j)]:=by
     show[prF f i,prF i j,prF j o]=_
     rw[zjh (by omega),zjh hij,zqt (by omega)]
    have eG:gapR [f,i,j,o]=prF f o:=rfl
    refine zkf (by unfold zb0;rw[decide_eq_true (by simp),decide_eq_true (by simp;omega)];rfl) hin hnx (fun b hb=>?_) (.inl (by rw[eG];exact hpt)) ?_
    .rw[eL] at hb
     rcases Ziy.mp hb with z | z
     .rw[z];exact .inl h1
     .rcases Ziy.mp z with z | z
      .exact .inr ⟨z,hwp⟩
      .rw[Zic.mp z];exact .inl h2
    .rw[eL,eG]
     show Zp9 _ [(f,i),(i,j),(o,j),prF f o]=_
     rw[zkd (zft (y:=y) h1).2,zo7 hnx,zkd (zft (y:=y) h2).2,zkd (zpn hpt),Zkj]
theorem zyt{ps:List Pr}(hpn:(ps.map keyP).Nodup){p:Pr}(hp:p∈ps):wtF (wtsP ps).1 (wtsP ps).2 (keyP p)=p.2.2:=(if_pos (Zit.mpr ⟨p,hp,rfl⟩)).trans (zq9 hpn hp)
theorem yck{x:Dec}{g:List Nat}:∀L:List Pr,(L.map keyP).Nodup->(∀p∈L,zbi (zjb g p.1 p.2.1) x=[keyP p]) ->
  (useR x (L.map (rowG g))).1=L.map keyP /\ ∀p∈L,(useR x (L.map (rowG g))).2 (keyP p)=absI p.2.2:=fun L=>by
 induction L using zim with
 | h0=>exact fun _ _=>⟨rfl,fun p hp=>by cases hp⟩
 | hs L q ih =>
  intro hn ho
  rw[Zir] at hn
  obtain⟨n1,n2,n3⟩:=Zjw.mp hn
  obtain⟨i1,i2⟩:=ih n1 fun p hp=>ho p (Ziz _ hp)
  have hq:keyP q∉L.map keyP:=fun z=>n3 _ z _ (Zic.mpr rfl) rfl
  have e:useR x ((L++[q]).map (rowG g))=addU (absI q.2.2) (useR x (L.map (rowG g))) (keyP q):=by
   rw[Zir,Zik,Zk4,zno]
   show(zbi (zjb g q.1 q.2.1) x).foldl _ _=_
   rw[ho q (by simp)];rfl
  have hk:keyP q∉(useR x (L.map (rowG g))).1:=by rw[i1];exact hq
  rw[e]
  refine⟨?_,fun p hp=>?_⟩
  .show(if _ then _ else _)=_
   rw[if_neg hk,i1,Zir];rfl
  .show(if keyP p=keyP q then _ else _)=_
   rcases Zin.mp hp with z | z
   .rw[if_neg fun w=>hq (by rw[<- w];exact Zit.mpr ⟨p,z,rfl⟩)];exact i2 p z
   .rw[Zic.mp z,if_pos rfl,show wtF _ _ (keyP q)=0 from if_neg hk,Zm8]
theorem yf2(rows:List Row):sumR rows=sumI (rows.map (·.2)):=by
 unfold sumR
 have:∀(l:List Row) (z:Int),l.foldl (fun s q=>s+q.2) z=z+sumI (l.map (·.2)):=by
  intro l
  induction l with
  | nil=>intro z;simp[sumI]
  | cons a l ih=>intro z;rw[Zke,ih,Zik,sumI];omega
 rw[this,Zm8]
theorem yas{w:Int}(h:w≠0):1<=absI w:=by unfold absI;split <;> omega
theorem yft{c:Cas}{g:List Nat}{x:Dec}{least:Int}(hc:zff c.1 c.2.1 c.2.2)(hs:Stp c g)(hd:Dcd c.2.2 g x)(hpn:(c.2.1.map keyP).Nodup)(hl:zb1 (plPs c.2.1 g.length) g ≥ least):zk0 (zl1 c.2.1 c.2.2 g) c.1 (wtsP c.2.1) x least=true:=by
 obtain⟨m,ps,as⟩:=c
 have hpl:∀p∈plPs ps g.length,p∈ps/\p.1<p.2.1/\p.2.1<g.length/\p.2.2≠0:=fun p hp=>by
  have h1:=Zip.mp hp
  have h2:=hc.1 p h1.1
  exact⟨h1.1,h2.1,of_decide_eq_true h1.2,h2.2.2⟩
 have hkn:((plPs ps g.length).map keyP).Nodup:=by
  unfold plPs
  exact Zmh (Zow _ Zlr) hpn
 have hsel:∀p∈(plPs ps g.length).filter (selG as g),p∈plPs ps g.length/\zo4 g p=true/\keyP p∉x.1:=fun p hp=>by
  have h1:=Zip.mp hp
  have h2:=h1.2
  unfold selG at h2
  rw[Ziq,Zje] at h2
  obtain⟨_,q1,q2,_⟩:=hpl p h1.1
  exact⟨h1.1,h2.1,fun z=>by have:=(zuy hd q1 q2).mpr z;rw[h2.2] at this;cases this⟩
 have hring:∀p∈(plPs ps g.length).filter (selG as g),ze3 (zjb g p.1 p.2.1) m (wtsP ps) x=true/\zbi (zjb g p.1 p.2.1) x=[keyP p]:=fun p hp=>by
  obtain⟨h1,h2,h3⟩:=hsel p hp
  obtain⟨q0,q1,q2,q3⟩:=hpl p h1
  refine ydq hd hs.1 hs.2.1 q1 q2 h3 ?_
  have hw:wtF (wtsP ps).1 (wtsP ps).2 (p.1,p.2.1)=p.2.2:=zyt hpn q0
  rw[hw]
  unfold zo4 at h2
  rw[Zje,decide_eq_false_iff_not] at h2
  by_cases hsm:atG g p.1=atG g p.2.1
  .rw[decide_eq_true hsm] at h2
   exact .inl ⟨hsm,by have:¬ 0<p.2.2:=fun z=>h2 (decide_eq_true z).symm;omega⟩
  .rw[decide_eq_false hsm] at h2
   exact .inr ⟨hsm,Zl5 fun z=>h2 (decide_eq_false z).symm⟩
 have hLn:(((plPs ps g.length).filter (selG as g)).map keyP).Nodup:=Zmh (Zow _ Zlr) hkn
 obtain⟨u1,u2⟩:=yck (x:=x) (g:=g) _ hLn fun p hp=>(hring p hp).2
 unfold zk0
 rw[Ziq,Ziq,decide_eq_true_eq]
 refine⟨Zi7.mpr fun q hq=>?_,Zi7.mpr fun a ha=>decide_eq_true ?_,?_⟩
 .obtain⟨p,hp,rfl⟩:=Zit.mp hq
  unfold zlz
  rw[Ziq,decide_eq_true_eq]
  exact⟨yas (hpl p (hsel p hp).1).2.2.2,(hring p hp).1⟩
 .have ha:a∈(useR x (((plPs ps g.length).filter (selG as g)).map (rowG g))).1:=ha
  rw[u1] at ha
  obtain⟨p,hp,rfl⟩:=Zit.mp ha
  show(useR x (((plPs ps g.length).filter (selG as g)).map (rowG g))).2 (keyP p)<=_
  rw[u2 p hp,zyt hpn (hpl p (hsel p hp).1).1]
  exact Zll _
 .have hsp:=zkn (zdn (atG g)) (selG as g) (plPs ps g.length)
  have e1:sumR (zl1 ps as g)=sumI (((plPs ps g.length).filter (selG as g)).map (zdn (atG g))):=by
   rw[yf2]
   unfold zl1
   rw[Zja]
   refine zds fun p hp=>?_
   have h2:=(hsel p hp).2.1
   unfold zo4 at h2
   rw[Zje,decide_eq_false_iff_not] at h2
   show absI p.2.2=zdn (atG g) p
   unfold zdn
   rw[if_neg h2]
  let F:Apt->Int:=fun a=>if a∈x.1 then zh1 (wtsP ps) x a else 0
  have hF:∀a,0<=F a:=fun a=>by
   show 0<=if a∈x.1 then zh1 (wtsP ps) x a else 0
   split
   .unfold zh1;split;exact zsd _;exact Zll _
   .exact Zll _
  have e2:zk6 (wtsP ps) x=sumI (x.1.map F):=by
   unfold zk6
   rw[zw8]
   exact zds fun a ha=>(if_pos ha).symm
  have e3:sumI (((plPs ps g.length).filter fun p=>!selG as g p).map (zdn (atG g)))=sumI ((((plPs ps g.length).filter fun p=>!selG as g p).map keyP).map F):=by
   rw[Zja]
   refine zds fun p hp=>?_
   have h1:=Zip.mp hp
   obtain⟨q0,q1,q2,q3⟩:=hpl p h1.1
   show zdn (atG g) p=if keyP p∈x.1 then _ else _
   split
   .rename_i hx
    unfold zdn zh1
    rw[zyt hpn q0,hd.2.2 _ hx]
    have:zlb g (keyP p)=decide (atG g p.1=atG g p.2.1):=by
     unfold zlb
     rw[decide_eq_true (show(keyP p).2<g.length from q2)];rfl
    rw[this]
    by_cases hh:decide (atG g p.1=atG g p.2.1)=decide (0<p.2.2)
    .rw[if_pos hh,if_neg (by rw[decide_eq_true (show decide (atG g p.1=atG g p.2.1)=decide (p.2.2>0) from hh)];decide)]
    .rw[if_neg hh,if_pos (by rw[decide_eq_false (show ¬ decide (atG g p.1=atG g p.2.1)=decide (p.2.2>0) from hh)];decide)]
   .rename_i hx
    have h2:=h1.2
    unfold selG at h2
    have h3:dcdG as g p.1 p.2.1=false:=by
     cases h:dcdG as g p.1 p.2.1 with
     | false=>rfl
     | true=>exact absurd ((zuy hd q1 q2).mp h) hx
    rw[h3,Zm3,Zkl,Zje] at h2
    unfold zo4 at h2
    rw[Zj3,decide_eq_true_eq] at h2
    unfold zdn
    rw[if_pos h2]
  have hle:=zl8 hF (((plPs ps g.length).filter fun p=>!selG as g p).map keyP) x.1 (Zmh (Zow _ Zlr) hkn) fun a _ h=>Zl5 fun z=>h (if_neg z)
  have hl2:least<=sumI ((plPs ps g.length).map (zdn (atG g))):=hl
  show least<=zk6 (wtsP ps) x+sumR (zl1 ps as g)
  rw[e1,e2]
  rw[hsp,e3] at hl2
  omega
theorem zon{g:List Nat}{k:Nat}{a:Apt}:zww (g++[k]) a↔zww g a\/(a.2=g.length/\a.1<g.length/\fstG g a.1/\atG g a.1<=k):=by
 unfold zww
 rw[Zis]
 show a.1<a.2/\a.2<g.length+1/\_↔_
 constructor
 .rintro⟨h1,h2,h3,h4⟩
  have h5:a.1<g.length:=by omega
  rw[zph h5] at h3
  rw[zf0 h5] at h4
  by_cases e:a.2=g.length
  .rw[e,zmi] at h4
   exact .inr ⟨e,h5,h3,h4⟩
  .rw[zf0 (by omega)] at h4
   exact .inl ⟨h1,by omega,h3,h4⟩
 .rintro(⟨h1,h2,h3,h4⟩ | ⟨h1,h2,h3,h4⟩)
  .exact⟨h1,by omega,(zph (by omega)).mpr h3,by rw[zf0 (by omega),zf0 h2];exact h4⟩
  .exact⟨by omega,by omega,(zph h2).mpr h3,by rw[zf0 h2,h1,zmi];exact h4⟩
theorem zqw{g:List Nat}{k:Nat}{a:Apt}(h:a.1<a.2)(hk:a.2=g.length->atG g a.1≠k):zlb (g++[k]) a=zlb g a:=by
 unfold zlb
 rw[Zis]
 show(decide (a.2<g.length+1)&&_)=_
 by_cases h1:a.2<g.length
 .rw[zf0 (by omega),zf0 h1,decide_eq_true h1,decide_eq_true (show a.2<g.length+1 by omega)]
 .rw[decide_eq_false h1]
  by_cases h2:a.2=g.length
  .rw[h2,zmi,zf0 (by omega),decide_eq_false (hk h2),Znu];rfl
  .rw[decide_eq_false (show ¬ a.2<g.length+1 by omega)];rfl
theorem zt3{as:List Apt}{m:Nat}{ps:List Pr}{g:List Nat}{k:Nat}{x:Dec}(hc:zff m ps as)(h:AskD as g k x):∀a∈x.1,a.1<a.2:=fun a ha=>by
 rcases(h.2.1 a).mp ha with z | z | z
 .exact(hc.2 a z).1
 .exact z.1
 .have:=z.1;have:=z.2.1;omega
theorem yfh{as:List Apt}{m:Nat}{ps:List Pr}{g:List Nat}{x:Dec}(hc:zff m ps as)(hg:g∈rgs g.length)(h:AskD as g (ngF g) x):Dcd as (g++[ngF g]) x:=by
 refine⟨h.1,fun a=>?_,fun a ha=>?_⟩
 .rw[h.2.1,zon]
  refine or_congr Zrm (or_congr Zrm ?_)
  unfold zrk
  exact⟨fun z=>⟨z.1,z.2.1,z.2.2.1,Zl4 z.2.2.2⟩,fun z=>⟨z.1,z.2.1,z.2.2.1,ybn hg z.2.1⟩⟩
 .rw[h.2.2 a ha,zqw (zt3 hc h a ha) fun e=>Zi6 (ybn hg (by have:=zt3 hc h a ha;omega))]
theorem zwq{g:List Nat}{k:Nat}{a:Apt}(h1:a.2=g.length)(h3:fstG g a.1)(h4:atG g a.1=k):a=(g.idxOf k,g.length):=by
 unfold fstG at h3
 rw[h4] at h3
 exact Zv2 h3.symm h1
theorem yhu{as:List Apt}{g:List Nat}{k:Nat}{x:Dec}(h:AskD as g k x)(hin:(g.idxOf k,g.length)∈as):AskD as g (k+1) x:=by
 refine⟨h.1,fun a=>?_,h.2.2⟩
 rw[h.2.1]
 unfold zrk
 constructor
 .rintro(z | z | ⟨z1,z2,z3,z4⟩)
  .exact .inl z
  .exact .inr (.inl z)
  .exact .inr (.inr ⟨z1,z2,z3,by omega⟩)
 .rintro(z | z | ⟨z1,z2,z3,z4⟩)
  .exact .inl z
  .exact .inr (.inl z)
  .rcases Zn7.mp z4 with w | w
   .exact .inr (.inr ⟨z1,z2,z3,w⟩)
   .exact .inl (by rw[zwq z1 z3 w];exact hin)
theorem zsa{as:List Apt}{g:List Nat}{k:Nat}{x:Dec}(h:AskD as g k x)(hk:k∈g)(hn:(g.idxOf k,g.length)∉as):(g.idxOf k,g.length)∉x.1:=fun z=>by
 rcases(h.2.1 _).mp z with y | y | y
 .exact hn y
 .exact absurd y.2.1 (Zjh _)
 .have h4:atG g (g.idxOf k)<k:=y.2.2.2
  rw[zll hk] at h4
  exact absurd h4 (Zjh _)
theorem zjw{x:Dec}{a b:Apt}{c:Bool}:b∈(putX x a c).1↔b∈x.1\/b=a:=by
 show b∈x.1++[a]↔_
 rw[Zin,Zic]
theorem zz5{x:Dec}{a:Apt}{c:Bool}(h:x.1.Nodup)(hn:a∉x.1):(putX x a c).1.Nodup:=Zjw.mpr ⟨h,by simp,fun b hb d hd z=>hn (by rw[<- Zic.mp hd,<- z];exact hb)⟩
theorem yel{as:List Apt}{g:List Nat}{k:Nat}{x:Dec}(h:AskD as g k x)(hk:k∈g)(hn:(g.idxOf k,g.length)∉as):AskD as g (k+1) (putX x (g.idxOf k,g.length) false):=by
 have ho:=zsa h hk hn
 refine⟨zz5 h.1 ho,fun a=>?_,fun a ha=>?_⟩
 .rw[zjw,h.2.1]
  unfold zrk
  constructor
  .rintro((z | z | ⟨z1,z2,z3,z4⟩) | z)
   .exact .inl z
   .exact .inr (.inl z)
   .exact .inr (.inr ⟨z1,z2,z3,by omega⟩)
   .rw[z];exact .inr (.inr ⟨rfl,zlp hk,zng hk,by show atG g (g.idxOf k)<k+1;rw[zll hk];omega⟩)
  .rintro(z | z | ⟨z1,z2,z3,z4⟩)
   .exact .inl (.inl z)
   .exact .inl (.inr (.inl z))
   .rcases Zn7.mp z4 with w | w
    .exact .inl (.inr (.inr ⟨z1,z2,z3,w⟩))
    .exact .inr (zwq z1 z3 w)
 .show(if a=_ then false else x.2 a)=_
  split
  .rename_i e
   rw[e]
   unfold zlb
   rw[decide_eq_false (Zjh _)];rfl
  .rename_i e
   exact h.2.2 a ((zjw.mp ha).resolve_right e)
theorem yau{as:List Apt}{m:Nat}{ps:List Pr}{g:List Nat}{k:Nat}{x:Dec}(hc:zff m ps as)(h:AskD as g k x)(hk:k∈g)(hn:(g.idxOf k,g.length)∉as)(hh:∀i<g.length,atG g i=k->(i,g.length)∉as):Dcd as (g++[k]) (putX x (g.idxOf k,g.length) true):=by
 have ho:=zsa h hk hn
 refine⟨zz5 h.1 ho,fun a=>?_,fun a ha=>?_⟩
 .rw[zjw,h.2.1,zon]
  unfold zrk
  constructor
  .rintro((z | z | ⟨z1,z2,z3,z4⟩) | z)
   .exact .inl z
   .exact .inr (.inl z)
   .exact .inr (.inr ⟨z1,z2,z3,by omega⟩)
   .rw[z];exact .inr (.inr ⟨rfl,zlp hk,zng hk,by show atG g (g.idxOf k)<=k;rw[zll hk];exact Zio _⟩)
  .rintro(z | z | ⟨z1,z2,z3,z4⟩)
   .exact .inl (.inl z)
   .exact .inl (.inr (.inl z))
   .rcases Nat.lt_or_eq_of_le z4 with w | w
    .exact .inl (.inr (.inr ⟨z1,z2,z3,w⟩))
    .exact .inr (zwq z1 z3 w)
 .show(if a=_ then true else x.2 a)=_
  split
  .rename_i e
   rw[e]
   unfold zlb
   rw[Zis,decide_eq_true (show(g.idxOf k,g.length).2<g.length+[k].length from Zp0 _)]
   show true=(true&&decide (atG (g++[k]) (g.idxOf k)=atG (g++[k]) g.length))
   rw[zf0 (zlp hk),zmi,zll hk,decide_eq_true rfl];rfl
  .rename_i e
   have ha:=(zjw.mp ha).resolve_right e
   rw[h.2.2 a ha,zqw (zt3 hc h a ha) fun e2 z=>?_]
   rcases(h.2.1 a).mp ha with w | w | w
   .refine hh a.1 (by have:=zt3 hc h a ha;omega) z ?_
    rw[<- e2];exact w
   .exact absurd e2 (Zi6 w.2.1)
   .exact absurd z (Zi6 w.2.2.2)
theorem yb9{as:List Apt}{g:List Nat}{k i m:Nat}{x:Dec}(h:AskD as g k x)(hm:g.length<m)(hk:k∈g)(hn:(g.idxOf k,g.length)∉as)(hi:i<g.length)(hik:atG g i=k)(hia:(i,g.length)∈as):zg1 [i,g.idxOf k,g.length] m (putX x (g.idxOf k,g.length) true)=true:=by
 have hne:g.idxOf k≠i:=fun z=>hn (by rw[z];exact hia)
 have hle:g.idxOf k<=i:=by rw[<- hik];exact zyy hi
 have hlt:=zlp hk
 have hat:=zll hk
 have hf:=zng hk
 generalize g.idxOf k=f at *
 unfold zg1
 have eL:zbb [i,f,g.length]=[(f,i),(f,g.length)]:=by rw[zuq,zqt (by omega),zjh (by omega)]
 have eG:gapR [i,f,g.length]=(i,g.length):=zjh hi
 have hr:zb0 [i,f,g.length]=true:=by unfold zb0;rw[decide_eq_true (by simp),decide_eq_true (by simp;omega)];rfl
 have hfi:(f,i)∈x.1:=(h.2.1 _).mpr (.inr (.inl ⟨by show f<i;omega,hi,hf,Zor (hat.trans hik.symm)⟩))
 have h1:zcg (putX x (f,g.length) true) (f,i)=true:=by
  unfold zcg
  rw[decide_eq_true (zjw.mpr (.inl hfi)),show(putX x (f,g.length) true).2 (f,i)=x.2 (f,i) from if_neg (fun z=>by injection z with _ z;omega),h.2.2 _ hfi]
  unfold zlb
  rw[decide_eq_true (show(f,i).2<g.length from hi),decide_eq_true (show atG g (f,i).1=atG g (f,i).2 from hat.trans hik.symm)];rfl
 have h2:zcg (putX x (f,g.length) true) (f,g.length)=true:=by
  unfold zcg
  rw[decide_eq_true (zjw.mpr (.inr rfl)),show(putX x (f,g.length) true).2 (f,g.length)=true from if_pos rfl];rfl
 have hig:(i,g.length)∈x.1:=(h.2.1 _).mpr (.inl hia)
 have h3:zcc (putX x (f,g.length) true) (i,g.length)=true:=by
  unfold zcc
  rw[decide_eq_true (zjw.mpr (.inl hig)),show(putX x (f,g.length) true).2 (i,g.length)=x.2 (i,g.length) from if_neg (fun z=>by injection z with z _;omega),h.2.2 _ hig]
  unfold zlb
  rw[decide_eq_false (Zjh _)];rfl
 rw[hr,eL,eG,h3,Zi7.mpr fun z hz=>decide_eq_true (show z<m by simp at hz;omega)]
 show(Zv3 [(f,i),(f,g.length)] (zcg _)&&true)=true
 rw[Zkh,Zkh,h1,h2];rfl
theorem yhd{as:List Apt}{g:List Nat}{k m:Nat}{x:Dec}(h:AskD as g k x)(hm:g.length<m)(hk:k∈g)(hn:(g.idxOf k,g.length)∉as):mayD (g.idxOf k) g.length m x=true:=by
 have hlt:=zlp hk
 unfold mayD
 rw[decide_eq_true (show g.idxOf k<m by omega),decide_eq_true hm,decide_eq_true hlt,decide_eq_false (zsa h hk hn)];rfl
theorem zql{c:Cas}{least:Int}(he:EnvC c least)(hpn:(c.2.1.map keyP).Nodup):∀n:Nat,
  (∀g x,Stp c g->Dcd c.2.2 g x->(c.1 - g.length)*(c.1+3)+1<=n->zc9 c.1 (wtsP c.2.1) least ((papS c.2.1 c.2.2 least n).1 g) x=true) /\
  (∀g k x,Stp c g->g.length<c.1->k<ngF g->(g.idxOf k,g.length)∉c.2.2->AskD c.2.2 g k x->(c.1 - g.length)*(c.1+3)<=n+k+1->zc9 c.1 (wtsP c.2.1) least ((papS c.2.1 c.2.2 least n).2.1 g k) (putX x (g.idxOf k,g.length) true)=true) /\
  (∀g k x,Stp c g->g.length<c.1->k<=ngF g->AskD c.2.2 g k x->(c.1 - g.length)*(c.1+3)<=n+k->zc9 c.1 (wtsP c.2.1) least ((papS c.2.1 c.2.2 least n).2.2 g k) x=true)
 | 0=>by
  refine⟨fun g x _ _ h=>absurd h (by omega),fun g k x hs hlm hk _ _ h=>?_,fun g k x hs hlm hk _ h=>?_⟩
  .have:=zjl hs.1;have:=zi2 hlm;omega
  .have:=zjl hs.1;have:=zi2 hlm;omega
 | n+1=>by
  obtain⟨h1,h2,h3⟩:=zql he hpn n
  have hc:=he.2.2.1
  have len1:∀(g:List Nat) (k:Nat),(g++[k]).length=g.length+1:=fun g k=>by simp
  refine⟨fun g x hs hd hf=>?_,fun g k x hs hlm hk hn hd hf=>?_,fun g k x hs hlm hk hd hf=>?_⟩
  .show zc9 _ _ _ (if _ then _ else _) _=true
   split
   .rename_i hb
    exact yft hc hs hd hpn hb
   .rename_i hb
    exact h3 g 0 x hs (zmb he hs hb) (Zjn _) (yd9 hd) (by omega)
  .have hkm:=(zlj hs.1).mpr hk
   have hng:=zjl hs.1
   have hms:=zi2 hlm
   show zc9 _ _ _ (if _ then _ else _) _=true
   split
   .rename_i hb
    obtain⟨i,hi⟩:=Zka.mp hb
    obtain⟨p1,p2,_⟩:=Zn1.mp hi
    rw[Ziq,decide_eq_true_eq,decide_eq_true_eq] at p1
    rw[hi]
    exact yb9 hd hlm hkm hn (Zi2.mp p2) p1.1 p1.2
   .rename_i hb
    have hb:(zlx c.2.2 g k).isSome=false:=by simpa using hb
    exact h1 (g++[k]) _ (zl4 he hs hlm hk hb) (yau hc hd hkm hn (zq5 hb)) (by rw[len1];omega)
  .have hng:=zjl hs.1
   have hms:=zi2 hlm
   show zc9 _ _ _ (if _ then _ else if _ then _ else _) _=true
   split
   .rename_i hb
    have ek:k=ngF g:=Znl hk hb
    subst ek
    exact h1 (g++[ngF g]) x (zo3 he hs hlm) (yfh hc hs.1 hd) (by rw[len1];omega)
   .have hkl:k<ngF g:=by omega
    have hkm:=(zlj hs.1).mpr hkl
    split
    .rename_i hin
     exact h3 g (k+1) x hs hlm hkl (yhu hd hin) (by omega)
    .rename_i hin
     show(mayD _ _ _ _&&(_&&_))=true
     rw[yhd hd hlm hkm hin,h2 g k x hs hlm hkl hin hd (by omega),h3 g (k+1) _ hs hlm hkl (yel hd hkm hin) (by omega)];rfl
theorem yd2{as:List Apt}(h:as.Nodup):Dcd as [] (decP as):=⟨h,fun a=>⟨.inl,fun z=>z.elim id fun y=>absurd y.2.1 (Zjo _)⟩,fun a _=>by show false=(decide (a.2<0)&&_);rw[decide_eq_false (Zjo _)];rfl⟩
theorem zwz{m n:Nat}{ps:List Pr}{as:List Apt}(hm:m<=7)(hl:ps.length<=1000)(hg:zff m ps as)(hpn:(ps.map keyP).Nodup)(han:as.Nodup)(hn:71<=n):zc9 m (wtsP ps) (zb1 ps (bestF m ps as)) ((papS ps as (zb1 ps (bestF m ps as)) n).1 []) (decP as)=true:=by
 refine(zql (c:=(m,ps,as)) (zkc hm hl hg) hpn n).1 [] _ (zpq _) (yd2 han) ?_
 show(m - 0)*(m+3)+1<=n
 have h1:(m - 0)*(m+3)<=7*10:=Ztl (by omega) (by omega)
 omega
noncomputable def Tz:Nat->Nat->Nat
 | 0,_=>1
 | d+1,g=>g*(1+Tz d g)+Tz d (g+1)
theorem zoi:∀d g,1<=Tz d g
 | 0,_=>Zio _
 | d+1,g=>by rw[Tz];have:=zoi d (g+1);omega
theorem zys{c:Cas}{least:Int}(he:EnvC c least):∀n:Nat,
  (∀g,Stp c g->((papS c.2.1 c.2.2 least n).1 g).sz<=Tz (c.1 - g.length) (ngF g)) /\
  (∀g k,Stp c g->g.length<c.1->k<ngF g->((papS c.2.1 c.2.2 least n).2.1 g k).sz<=Tz (c.1 - (g.length+1)) (ngF g)) /\
  (∀g k,Stp c g->g.length<c.1->k<=ngF g->((papS c.2.1 c.2.2 least n).2.2 g k).sz<=(ngF g - k)*(1+Tz (c.1 - (g.length+1)) (ngF g))+Tz (c.1 - (g.length+1)) (ngF g+1))
 | 0=>⟨fun g _=>zoi _ _,fun g k _ _ _=>zoi _ _,fun g k _ _ _=>Zjb (zoi _ _) (Nat.le_add_left _ _)⟩
 | n+1=>by
  obtain⟨h1,h2,h3⟩:=zys he n
  have len1:∀(g:List Nat) (k:Nat),(g++[k]).length=g.length+1:=fun g k=>by simp
  refine⟨fun g hs=>?_,fun g k hs hlm hk=>?_,fun g k hs hlm hk=>?_⟩
  .show(if _ then _ else _:Pap).sz<=_
   split
   .exact zoi _ _
   .rename_i hb
    have hlm:=zmb he hs hb
    have:=h3 g 0 hs hlm (Zjn _)
    rw[show c.1 - g.length=c.1 - (g.length+1)+1 by omega,Tz]
    exact this
  .show(if _ then _ else _:Pap).sz<=_
   split
   .exact zoi _ _
   .rename_i hb
    have:=h1 (g++[k]) (zl4 he hs hlm hk (by simpa using hb))
    rw[len1,zjt,show max (ngF g) (k+1)=ngF g by omega] at this
    exact this
  .show(if _ then _ else if _ then _ else _:Pap).sz<=_
   split
   .rename_i hb
    have ek:k=ngF g:=Znl hk hb
    subst ek
    have:=h1 (g++[ngF g]) (zo3 he hs hlm)
    rw[len1,zjt,show max (ngF g) (ngF g+1)=ngF g+1 by omega] at this
    omega
   .have hkl:k<ngF g:=by omega
    have p3:=h3 g (k+1) hs hlm hkl
    have em:(ngF g - k)*(1+Tz (c.1 - (g.length+1)) (ngF g))=(ngF g - (k+1))*(1+Tz (c.1 - (g.length+1)) (ngF g))+(1+Tz (c.1 - (g.length+1)) (ngF g)):=by rw[show ngF g - k=ngF g - (k+1)+1 by omega,Zu4]
    rw[em]
    split
    .omega
    .have p2:=h2 g k hs hlm hkl
     show((papS c.2.1 c.2.2 least n).2.1 g k).sz+((papS c.2.1 c.2.2 least n).2.2 g (k+1)).sz+1<=_
     omega
theorem yio:∀m,m<=7->Tz m 0<=40000:=by decide
theorem yfx{m n:Nat}{ps:List Pr}{as:List Apt}(hm:m<=7)(hl:ps.length<=1000)(hg:zff m ps as):((papS ps as (zb1 ps (bestF m ps as)) n).1 []).sz<=40000 :=
 Zjb ((zys (c:=(m,ps,as)) (zkc hm hl hg) n).1 [] (zpq _)) (yio m hm)
noncomputable def decB(x:Dec):D:=D.dicT (dAp .bl x.1 x.2)
theorem zju(Z:Tx K mg ad0):FnOk P w K mg base CX0 1 ad0.Zc0 ad0.Zdv zg3 (SpD K zjr zj0):=by
 refine okD Z.Zce.F zte (by rintro ds ⟨i,m,rfl⟩;rfl) fun cdv A outer s H Q E hr=>⟨_,(zag (zas (zbz (zab (zat (zmp rfl) (by rfl) Z.Zfk Ztf (zab (pv 0) (zab (pv 1) zae))) (zab (zat (zj5 rfl) (by rfl) Z.Zet Zq5 (zab (pv 0) (zab (pv 1) zae))) zae))))),fun G ds hp rt=>?_⟩
 obtain⟨a,b,rfl⟩:=hp
 exact za2 (d:=encA (prF a b)) (zxg (tc:=tC .non) (td:=tC .non) (zr9 (zaa (d:=.int (a:Nat)) rfl).b (zaa (d:=.int (b:Nat)) rfl).b) (zpr (zaa (d:=.int (a:Nat)) rfl).b (zaa (d:=.int (b:Nat)) rfl).b)) rt
theorem at_N{r:List Nat}{k:Nat}(h:k<r.length):atI (r.map encN) (k:Int)=some (encN (r.getD k 0)):=zk2 (by rw[Zie,Zh8,Zh9 h];rfl)
noncomputable def zxo(ds:List D):Prop:=∃(r:List Nat),ds=[.lst (r.map encN)]/\r.length<=1000/\r≠[]
theorem zls(Z:Tx K mg ad0):FnOk P w K mg base CX0 2 ad0.Zcr ad0.Zcj zfl (SpO K zxo zoa):=by
 have Zc2:=zju (P:=P) (w:=w) (base:=base) Z
 refine okO Z.Zcm.F zqd (by rintro ds ⟨i,rfl,_⟩;rfl) fun cdv A outer s H Q E hr=>⟨_,(zag (zas (zly rfl (LcOk.of (Nx:=(["_law_ring_here"]:List Str)) (sc:=zah zfi) (N':=(["_law_k", "_law_ring_here"]:List Str)) (nt:=1) (cs:=[0]) rfl rfl (by decide +kernel)) (zg4 (by rfl) Z.Zbo (zab (zbr ydi (zat zay (by rfl) Z.Zac Zk8 (zab (pv 0) zae)) zai) zae)) (fun _ _ _ _=>(zbj (i:=0) (show Zjt (["_law_k", "_law_ring_here"]:List Str) by decide +kernel) rfl (Zld rfl))) (fun _ _ _ _=>zd1) (fun _ _ _ _=>(pcX Zc2 hr Z.Zce (zab (za4 (show IxR _ (rIxL K) from zbk) (pv 1) (pv 0) (fun _ _=>rfl)) (zab (za4 (show IxR _ (rIxL K) from zbk) (pv 1) (zbr zc1 (pv 0) zai) (fun _ _=>rfl)) zae))))))),fun G ds hp rt=>?_⟩
 obtain⟨r,rfl,hl,hn⟩:=hp
 have hl1:0<r.length:=Zlg.mpr hn
 rw[zg2] at rt
 have ll:((r.map encN).length:Int) - 1=((r.length - 1:Nat):Int):=by rw[Zia];omega
 have e:(zbb r).map encA=((Zid (((r.map encN).length:Int) - 1).toNat).filter fun _=>true).map fun k=>encA (prF (r.getD k 0) (r.getD (k+1) 0)):=by
  unfold zbb
  rw[Zja,Zkp.mpr (fun _ _=>rfl),ll,Zm2]
  rfl
 rw[e] at rt
 refine zia (zk1 (fun _=>true) (fun k=>encA (prF (r.getD k 0) (r.getD (k+1) 0))) (zqp (zbm (yda (zea (zaa rfl).l).b zaj.b).b zfh) (by rw[ll];omega)) (zbu (by decide)) (by decide) (by rw[Ziv,ll,Zm2];omega) fun k hk=>?_) rt
 rw[ll,Zm2] at hk
 exact⟨_,zan,zf8,fun _=>zbq (pre:=zjr) (res:=zj0) (zac (zdr (zaa rfl).l (zaa rfl).b (at_N (by omega))) (zac (zdr (zaa rfl).l (zc3 (zaa rfl).b zaj.b).b (at_N (k:=k+1) (by omega))) zaf)) ⟨_,_,rfl⟩⟩
theorem zom{G Hz L:Hp}{ss:List Sl}{i:Nat}{r:List Nat}{E:XK}(h:ss[i]? = some (.d (.lst (r.map encN))))(hl:r.length<=1000)(hn:r≠[]):EvO K G Hz L ss (ze7 (SpO K zxo zoa) [] E (za7 (tVar i) tNil)) ((zbb r).map encA):=by
 rw[<- zg2]
 exact ziu (pre:=zxo) (res:=zoa) (zac (zaa h) zaf) ⟨r,rfl,hl,hn⟩
noncomputable def allR(r:List Nat):List Apt:=zbb r++[gapR r]
noncomputable def zdm(r:List Nat)(y:Wts)(x:Dec)(nv:Bool)(a:Apt):Bool :=
 if a∈x.1 then decide (x.2 a= !decide (a=gapR r)) else !(nv||((decide (a=gapR r)&&decide (wtF y.1 y.2 a ≥ 0))||(!decide (a=gapR r)&&decide (wtF y.1 y.2 a<=0))))
noncomputable def zhk(r:List Nat)(y:Wts)(x:Dec)(nv:Bool):Bool:=zb0 r&&((allR r).all (zdm r y x nv)&&(nv||decide ((zbi r x).length>0)))
noncomputable def ydw(q:List Nat×Wts×Dec×Bool)(ds:List D):Prop:=ds=[.lst (q.1.map encN),wtsD q.2.1,decB q.2.2.1,.bl q.2.2.2]/\q.1.length<=1000
noncomputable def yeu(q:List Nat×Wts×Dec×Bool):D:=.bl (zhk q.1 q.2.1 q.2.2.1 q.2.2.2)
theorem yc5{r:List Nat}(hn:r≠[]):atI (r.map encN) 0=some (encN (r.getD 0 0))/\atI (r.map encN) (-1)=some (encN (r.getD (r.length - 1) 0)):=by
 have hl:0<r.length:=Zlg.mpr hn
 exact⟨zk2 (j:=0) (by rw[Zie,Zh8,Zh9 hl];rfl),zzp (by rw[Zia,Zie,Zh8,Zh9 (by omega)];rfl) (by simpa using hn)⟩
theorem zz8{G Hz L:Hp}{ss:List Sl}{i:Nat}{r:List Nat}{E:XK}(h:ss[i]? = some (.d (.lst (r.map encN))))(hn:r≠[]):Ev K G Hz L ss (ze7 (SpD K zjr zj0) [] E (za7 (tOp (rIxL K) (tVar i) (tC (.int 0))) (za7 (tOp (rIxL K) (tVar i) (tUn (rU fun i=>.int (-i)) (tC (.int 1)))) tNil))) (encA (gapR r)) :=
 zbq (pre:=zjr) (res:=zj0) (zac (zdr (zaa h).l zaj.b (yc5 hn).1) (zac (zdr (zaa h).l (zj8 (i:=1) zaj.b).b (yc5 hn).2) zaf)) ⟨_,_,rfl⟩
theorem zwr(a b:Apt):decide (encA a=encA b)=decide (a=b):=decide_eq_decide.mpr ⟨zci a b,fun z=>by rw[z]⟩
section
variable{G Hz L:Hp}{ss:List Sl}{ta tb td ty:TE}{a b:Apt}
theorem yhm(e1:Ev K G Hz L ss ta (encA a))(e2:Ev K G Hz L ss tb (encA b)):Ev K G Hz L ss (tOp (rEqD K) ta tb) (.bl (decide (a=b))):=by
 rw[<- zwr];exact zu8 e1.b e2.b rfl rfl (by show 1<=60;decide)
theorem ycy(e1:Ev K G Hz L ss ta (encA a))(e2:Ev K G Hz L ss tb (encA b)):Ev K G Hz L ss (tOp (rNeD K) ta tb) (.bl (!decide (a=b))):=by
 rw[<- zwr];exact yhc e1.b e2.b rfl rfl (by show 1<=60;decide)
theorem ycq(x:Dec)(e1:Ev K G Hz L ss td (decB x))(e2:Ev K G Hz L ss ty (encA a)):Ev K G Hz L ss (tDIn ty td) (.bl (decide (a∈x.1))):=by
 rw[<- ye2 D.bl x.1 x.2]
 exact ybz e1 e2 rfl rfl
theorem yff(x:Dec)(e1:Ev K G Hz L ss td (decB x))(e2:Ev K G Hz L ss ty (encA a)):Ev K G Hz L ss (zmh ty td) (.bl (!decide (a∈x.1))):=by
 rw[<- ye2 D.bl x.1 x.2]
 exact zmr e1 e2 rfl rfl
theorem yge(x:Dec)(h:a∈x.1)(e1:Ev K G Hz L ss td (decB x))(e2:Ev K G Hz L ss ty (encA a)):Ev K G Hz L ss (zwa td ty) (.bl (x.2 a)) :=
 znn (kvs:=dAp .bl x.1 x.2) e1 e2 rfl rfl (by rw[show D.tup [.int a.1,.int a.2]=encA a from rfl,valA,if_pos h])
end
theorem zqy(x:Dec){l:List Apt}{k:Nat}{a:Apt}(hk:l[k]? = some a):((l.take (k+1)).filter fun a=>!decide (a∈x.1)).length=((l.take k).filter fun a=>!decide (a∈x.1)).length+(if a∈x.1 then 0 else 1):=by
 rw[Zi0,hk,Zky,Zis]
 congr 1
 by_cases h:a∈x.1 <;> simp[h]
theorem znu(Z:Tx K mg ad0):FnOk P w K mg base CX0 3 ad0.Zc8 ad0.Zdd zhb (SpG K ydw yeu):=by
 have Zc2:=zju (P:=P) (w:=w) (base:=base) Z
 have Ze3:=zls (P:=P) (w:=w) (base:=base) Z
 refine okG Z.Zc9.F zd9 (by rintro q ds ⟨rfl,_⟩;rfl) fun cdv A outer s H Q E hr=>⟨_,(zad (zbt (PW.pt (zhi (zaw zkp (zat zay (by rfl) Z.Zac Zk8 (zab (pv 0) zae)) zai (zau _)) (zh0 (zaw zn9 (zat (show zcm _ _ zxb from zp5) (by rfl) Z.Zac Zk8 (zab (zde (show zcm _ _ (zyf K) from zp6 rfl) (by rfl) Z.Zgt boot_set (zab (pv 0) zae)) zae)) (zat zay (by rfl) Z.Zac Zk8 (zab (pv 0) zae)) (zau _))))) (zag (zas zd5)) zax)
   (zad (psn 4 zd9.nd (pcX Zc2 hr Z.Zce (zab (za4 (show IxR _ (rIxL K) from zbk) (pv 0) zai (fun _ _=>rfl)) (zab (za4 (show IxR _ (rIxL K) from zbk) (pv 0) (zob zjf zai) (fun _ _=>rfl)) zae))))
   (zad (psn 5 zd9.nd zai)
   (zad (zbn Zix rfl (za6 (zbr (show OpR _ _ (zky K) from zgk) (pcX Ze3 hr Z.Zcm (zab (pv 0) zae)) (zca (zab (pv 4) zae)))) (pgn 6 zd9.nd) (zad (psn 7 zd9.nd (zgd (zbl hr) (pv 1) (pv 6) zai ⟨by rfl,by rfl,by rfl,by rfl⟩))
   (zag (zbt (zje (zoh (zbl hr) (pv 6) (pv 2)) (by with_unfolding_all rfl)) (zag (zbt (zaw zn9 (zc4 (zbl hr) (pv 2) (pv 6) (fun _ _=>rfl)) (zbc (show OpR _ _ (rNeD K) from ydb hr.units) (pv 6) (pv 4) (zau _)) (zau _)) (zag (zas zd5)) zax)) (zag (zbt (PW.pt (zhi (zc2 (pv 3)) (zhi (PW.pt (zjm (zaw (show OpR _ _ (rEqD K) from ztl hr.units) (pv 6) (pv 4) (zau _)) (zgi (zaw zvu (pv 7) zai (zau _))))) (zh0 (PW.pt (zjm (zaw (show OpR _ _ (rNeD K) from ydb hr.units) (pv 6) (pv 4) (zau _)) (zgi (zaw zvh (pv 7) zai (zau _))))))))) (zag (zas zd5)) (zag (psn 5 zd9.nd (zbr zc1 (pv 5) zai)))))))))
   (zag (zas (ybf (pv 3) (zeu (zbc zlf (pv 5) zai (zau _)))))))))),fun G ds q hp rt=>?_⟩
 obtain⟨r,y,x,nv⟩:=q
 obtain⟨rfl,hl⟩:=hp
 have hl:r.length<=1000:=hl
 have rt:RtD K G H Q (.bl (zhk r y x nv)):=rt
 refine zak (zbd (zcx (zal (zkx (zea (zaa rfl).l).b zaj.b)) fun _=>zal (zol (zyh rfl hl).b (zea (zaa rfl).l).b)) (fun hb=>?_) (fun hb=>?_))
 .refine za2 zfv ?_
  have:zhk r y x nv=false:=by
   have:zb0 r=false:=by
    unfold zb0
    rw[Zl2,decide_eq_true_eq,Zje,decide_eq_false_iff_not] at hb
    simp only[Zia] at hb
    rcases hb with hb | hb
    .rw[decide_eq_false (by omega)];rfl
    .rw[decide_eq_false (p:=r.Nodup) (fun z=>hb (by rw[ye1.mpr z]))];simp
   unfold zhk;rw[this];rfl
  rw[this] at rt;exact rt
 rw[Zlo,decide_eq_false_iff_not,Zj3,decide_eq_true_eq] at hb
 simp only[Zia] at hb
 obtain⟨hb1,hb2⟩:=hb
 have hring:zb0 r=true:=by
  unfold zb0
  rw[decide_eq_true (by omega),decide_eq_true (ye1.mp (by omega))];rfl
 have hrn:r≠[]:=fun z=>by subst z;simp at hb1
 have e0:zhk r y x nv=((allR r).all (zdm r y x nv)&&(nv||decide ((zbi r x).length>0))):=by unfold zhk;rw[hring,Zjl]
 rw[e0] at rt
 ((try dsimp only);refine zap ?_)
 refine zak (za3 (zz8 rfl hrn) ?_)
 ((try dsimp only);refine zap ?_)
 refine zak (za3 zaj ?_)
 ((try dsimp only);refine zap ?_)
 have hcat:(allR r).map encA=(zbb r).map encA++[encA (gapR r)]:=by unfold allR;rw[Zir];rfl
 refine zak (zcs encA (allR r) (fun k ss=>(∀a∈(allR r).take k,zdm r y x nv a=true) /\ ∃v6 v7,ss=[.d (.lst (r.map encN)),.d (wtsD y),.d (decB x),.d (.bl nv),.d (encA (gapR r)),.d (.int (((allR r).take k).filter fun a=>!decide (a∈x.1)).length),v6,v7]) (by
  rw[hcat]
  exact EvO.ev (zjs (EvO.l (zom (i:=0) rfl hl hrn)) (EvO.l (zbs (zac (zaa rfl) zaf) (small (by simp)))) (by rw[Ziv,Zia,zfr];simp;omega))) ⟨by simp,.un,.un,rfl⟩ ?_ ?_)
 .rintro L' k a ss hL hk ⟨hall,v6,v7,rfl⟩
  have hm:a∈allR r:=Zii hk
  have bad:zdm r y x nv a=false->(allR r).all (zdm r y x nv)=false:=fun h=>Zn3.mpr ⟨a,hm,by rw[h];simp⟩
  have good:zdm r y x nv a=true-> ∀b∈(allR r).take (k+1),zdm r y x nv b=true:=fun h b hb=>by
   rcases zun hk hb with z | z
   .exact hall b z
   .rw[z];exact h
  refine⟨_,zan,fun N hN=>?_⟩
  refine zak (za3 (zvn (a:=a) y (zaa rfl) (zaa rfl)) ?_)
  ((try dsimp only);refine zap ?_)
  refine zbd (ze9 (ycq (a:=a) x (zaa rfl) (zaa rfl))) (fun hb=>?_) (fun hb=>?_)
  .rw[decide_eq_true_eq] at hb
   refine zbd (zal (ztt (yge x hb (zaa rfl) (zaa rfl)).b (ycy (a:=a) (b:=gapR r) (zaa rfl) (zaa rfl)).b)) (fun hc=>?_) (fun hc=>?_)
   .refine za2 zfv ?_
    rw[bad (by unfold zdm;rw[if_pos hb];rw[Zje] at hc;exact hc)] at rt;exact rt
   .refine za1 (hN _ ⟨good (by unfold zdm;rw[if_pos hb];rw[Zj3] at hc;exact hc),.d (encA a),.d (.int (wtF y.1 y.2 a)),?_⟩)
    rw[zqy x hk,if_pos hb];rfl
  .rw[decide_eq_false_iff_not] at hb
   refine zbd (zcx (zal (zaa rfl)) fun _=>zcx (zgn (zal (yhm (a:=a) (b:=gapR r) (zaa rfl) (zaa rfl))) fun _=>zal (zv0 (zaa rfl).b zaj.b)) fun _=>zgn (zal (ycy (a:=a) (b:=gapR r) (zaa rfl) (zaa rfl))) fun _=>zal (zyz (zaa rfl).b zaj.b)) (fun hc=>?_) (fun hc=>?_)
   .refine za2 zfv ?_
    rw[bad (by unfold zdm;rw[if_neg hb,hc];rfl)] at rt;exact rt
   .refine za3 (zc3 (zaa rfl).b zaj.b) (hN _ ⟨good (by unfold zdm;rw[if_neg hb,hc];rfl),.d (encA a),.d (.int (wtF y.1 y.2 a)),?_⟩)
    rw[zqy x hk,if_neg hb];rfl
 rintro ss ⟨hall,v6,v7,rfl⟩
 rw[Zi3] at hall ⊢
 rw[Zi7.mpr hall,Zjl] at rt
 ((try dsimp only);refine zap ?_)
 have e1:decide ((zbi r x).length>0)=decide ((0:Int)<(((allR r).filter fun a=>!decide (a∈x.1)).length:Nat)):=decide_eq_decide.mpr (by unfold zbi allR;omega)
 rw[e1] at rt
 exact za2 (yav (zaa rfl) fun _=>zk7 (zaa rfl).b zaj.b) rt
noncomputable def zj4(y:Wts)(x:Dec)(a:Apt):Int:=if decide (x.2 a=decide (wtF y.1 y.2 a<0))=true then absI (wtF y.1 y.2 a) else 0
theorem zxu(y:Wts)(x:Dec)(a:Apt):zj4 y x a=zh1 y x a:=by
 unfold zj4 zh1
 by_cases h0:wtF y.1 y.2 a=0
 .rw[h0];simp[absI]
 .have:decide (x.2 a=decide (wtF y.1 y.2 a<0))= !decide (x.2 a=decide (wtF y.1 y.2 a>0)):=by
   by_cases h:wtF y.1 y.2 a<0
   .rw[decide_eq_true h,decide_eq_false (p:=wtF y.1 y.2 a>0) (by omega)];cases x.2 a <;> decide
   .rw[decide_eq_false h,decide_eq_true (p:=wtF y.1 y.2 a>0) (by omega)];cases x.2 a <;> decide
  rw[this]
theorem zvy{f g:Apt->Int}(h:∀a,f a=g a)(as:List Apt):sumA f as=sumA g as:=by rw[show f=g from funext h]
noncomputable def zfd(x:Dec)(y:Wts)(v:Int):List Apt->Usd->Bool
 | [],_=>true
 | a::as,u=>!(!decide (a∈x.1)&&decide (absI (wtF y.1 y.2 a)<wtF u.1 u.2 a+v))&&zfd x y v as (addU v u a)
noncomputable def zir(x:Dec)(y:Wts):List Row->Usd->Bool
 | [],_=>true
 | q::rows,u=>(decide (1<=q.2)&&zhk q.1 y x false)&&(zfd x y q.2 (allR q.1) u&&zir x y rows ((allR q.1).foldl (addU q.2) u))
noncomputable def u0:Usd:=([],fun _=>0)
noncomputable def zn6(rows:List Row)(y:Wts)(x:Dec)(least:Int):Bool:=zir x y rows u0&&decide (sumA (zj4 y x) x.1+sumR rows ≥ least)
noncomputable def useL(rows:List Row):Usd:=rows.foldl (fun u q=>(allR q.1).foldl (addU q.2) u) u0
theorem zp9(rows:List Row)(q:Row):useL (rows++[q])=(allR q.1).foldl (addU q.2) (useL rows):=by unfold useL;rw[Zkg];rfl
theorem yer{r:List Nat}{y:Wts}{x:Dec}(h:zhk r y x false=true){a:Apt}(ha:a∈allR r)(hx:a∉x.1):a∈y.1:=by
 unfold zhk at h
 simp only[Ziq] at h
 have:=Zi7.mp h.2.1 a ha
 unfold zdm at this
 rw[if_neg hx] at this
 have hw:wtF y.1 y.2 a≠0:=fun z=>by
  rw[z] at this
  by_cases hg:a=gapR r <;> simp[hg] at this
 unfold wtF at hw
 split at hw
 .assumption
 .exact absurd rfl hw
theorem zpj(v:Int)(u:Usd)(a:Apt):a∈(addU v u a).1/\(addU v u a).2 a=wtF u.1 u.2 a+v:=by
 refine⟨?_,?_⟩
 .show a∈(if a∈u.1 then u.1 else u.1++[a])
  split
  .assumption
  .simp
 .show(if a=a then _ else _)=_
  rw[if_pos rfl]
theorem zzt(r:List Nat):(allR r).length=r.length - 1+1:=by unfold allR;rw[Zis,zfr];rfl
theorem yb6:∀(rows:List Row),(∀q∈rows,q.1.length<=100)->(useL rows).1.length<=rows.length*101:=by
 have:∀(rows:List Row) (u:Usd),(∀q∈rows,q.1.length<=100)->(rows.foldl (fun u q=>(allR q.1).foldl (addU q.2) u) u).1.length<=u.1.length+rows.length*101:=by
  intro rows
  induction rows with
  | nil=>intro u _;simp
  | cons q rows ih =>
   intro u h
   rw[Zke]
   have h1:=ih ((allR q.1).foldl (addU q.2) u) fun r hr=>h r (Zij _ hr)
   have h2:=zku q.2 (allR q.1) u
   have h3:=zzt q.1
   have h4:=h q Zil
   rw[Zj7]
   omega
 intro rows h
 have:=this rows u0 h
 unfold useL
 simpa[u0] using this
noncomputable def yh1(q:List Row×Wts×Dec×Int)(ds:List D):Prop:=ds=[.lst (q.1.map za9),wtsD q.2.1,decB q.2.2.1,.int q.2.2.2]/\q.1.length<=100 /\ ∀r∈q.1,r.1.length<=100
noncomputable def yhn(q:List Row×Wts×Dec×Int):D:=.bl (zn6 q.1 q.2.1 q.2.2.1 q.2.2.2)
theorem zzo{α:Type}{l:List α}{k:Nat}{a:α}(h:l[k]? = some a):l.drop k=a::l.drop (k+1):=by
 obtain⟨h1,h2⟩:=Zif.mp h
 rw[Znr h1,h2]
theorem zs3(Z:Tx K mg ad0):FnOk P w K mg base CX0 4 ad0.Zcx ad0.Zdr zgo (SpG K yh1 yhn):=by
 have Zc2:=zju (P:=P) (w:=w) (base:=base) Z
 have Ze3:=zls (P:=P) (w:=w) (base:=base) Z
 have Ze7:=znu (P:=P) (w:=w) (base:=base) Z
 refine okG Z.Zeo.F zcb (by rintro q ds ⟨rfl,_⟩;rfl) fun cdv A outer s H Q E hr=>⟨_,(zad (psn 4 zcb.nd zai)
   (zad (zbn Zix rfl (zns (zm1 (pv 2))) (zcp rfl (zaq (pgn 5 zcb.nd) (zaq (pgn 6 zcb.nd) zbv))) (zag (zbt (zaw zd4 (pv 6) (zbc zkp (zgd (zbl hr) (pv 1) (pv 5) zai ⟨by rfl,by rfl,by rfl,by rfl⟩) zai (zau _)) (zau _)) (zag (psn 4 zcb.nd (zbr zc1 (pv 4) (zat zhp (by rfl) Z.Zel Zpy (zab (zgd (zbl hr) (pv 1) (pv 5) zai ⟨by rfl,by rfl,by rfl,by rfl⟩) zae))))) zax)))
   (zad (psn 7 zcb.nd zhl)
   (zad (zbn Zix rfl (za6 (pv 0)) (zcp rfl (zaq (pgn 8 zcb.nd) (zaq (pgn 9 zcb.nd) zbv))) (zad (zbt (PW.pt (zhi (zaw zkp (pv 9) zai (zau _)) (zh0 (zd6 (zc2 (pcX Ze7 hr Z.Zc9 (zab (pv 8) (zab (pv 1) (zab (pv 2) (zab zd5 zae)))))))))) (zag (zas zd5)) zax)
   (zad (psn 4 zcb.nd (zbr zc1 (pv 4) (pv 9)))
   (zag (zbn Zix rfl (za6 (zbr (show OpR _ _ (zky K) from zgk) (pcX Ze3 hr Z.Zcm (zab (pv 8) zae)) (zca (zab (pcX Zc2 hr Z.Zce (zab (za4 (show IxR _ (rIxL K) from zbk) (pv 8) zai (fun _ _=>rfl)) (zab (za4 (show IxR _ (rIxL K) from zbk) (pv 8) (zob zjf zai) (fun _ _=>rfl)) zae))) zae)))) (pgn 5 zcb.nd) (zad (zdy (zbl hr) (pv 7) (pv 5) (zbr zc1 (zgd (zbl hr) (pv 7) (pv 5) zai ⟨by rfl,by rfl,by rfl,by rfl⟩) (pv 9)) rfl)
   (zag (zbt (PW.pt (zjm (zje (zgy (zbl hr) (pv 5) (pv 2)) (by with_unfolding_all rfl)) (zgi (zaw zlf (zc4 (zbl hr) (pv 7) (pv 5) (fun _ _=>rfl)) (zat zhp (by rfl) Z.Zel Zpy (zab (zc4 (zbl hr) (pv 1) (pv 5) (fun _ _=>rfl)) zae)) (zau _))))) (zag (zas zd5)) zax))))))))
   (zag (zas (zbc zvu (pv 4) (pv 3) (zau _)))))))),fun G ds q hp rt=>?_⟩
 obtain⟨rows,y,x,least⟩:=q
 obtain⟨rfl,hl,hrl⟩:=hp
 have hl:rows.length<=100:=hl
 have hrl:∀r∈rows,r.1.length<=100:=hrl
 have rt:RtD K G H Q (.bl (zn6 rows y x least)):=rt
 refine zak (za3 zaj ?_)
 ((try dsimp only);refine zap ?_)
 refine zak (zyj (fun k ss=>∃v5 v6,ss=[.d (.lst (rows.map za9)),.d (wtsD y),.d (decB x),.d (.int least),.d (.int (sumA (zj4 y x) (x.1.take k))),v5,v6,.un,.un,.un]) (zmz (kvs:=dAp .bl x.1 x.2) (zaa rfl) (ye6 _ _ _)) ⟨.un,.un,rfl⟩ ?_ ?_)
 .rintro L' k ss hL hk ⟨v5,v6,rfl⟩
  rw[lenA] at hk
  have hka:=Zh9 hk
  generalize x.1[k]=a at hka
  rw[atA D.bl x.1 x.2 hka]
  refine⟨_,zcy (ds:=[encA a,.bl (x.2 a)]) rfl (zar zan (zar zan zb6)),fun N hN=>?_⟩
  have hs:sumA (zj4 y x) (x.1.take (k+1))=sumA (zj4 y x) (x.1.take k)+zj4 y x a:=by rw[Zi0,hka];exact zro ..
  refine zbd (zal (ydj (zaa rfl).b (zkx (zvn (a:=a) y (zaa rfl) (zaa rfl)).b zaj.b).b)) (fun hq=>?_) (fun hq=>?_)
  .refine za3 (zc3 (zaa rfl).b (zjx (zvn (a:=a) y (zaa rfl) (zaa rfl)).b).b) (hN _ ⟨.d (encA a),.d (.bl (x.2 a)),?_⟩)
   have e0:zj4 y x a=absI (wtF y.1 y.2 a):=by unfold zj4;rw[if_pos hq]
   rw[hs,e0];rfl
  .refine za1 (hN _ ⟨.d (encA a),.d (.bl (x.2 a)),?_⟩)
   have e0:zj4 y x a=0:=by unfold zj4;rw[if_neg (by rw[hq];decide)]
   rw[hs,e0,Zos];rfl
 rintro ss ⟨v5,v6,rfl⟩
 rw[lenA,Zi3]
 ((try dsimp only);refine zap ?_)
 refine zak (zhr fun p=>?_)
 ((try dsimp only);refine zap ?_)
 refine zak (zcs za9 rows (fun k ss=>zir x y rows u0=zir x y (rows.drop k) (useL (rows.take k)) /\ ∃v5 v6 v8 v9,ss=[.d (.lst (rows.map za9)),.d (wtsD y),.d (decB x),.d (.int least),.d (.int (sumA (zj4 y x) x.1+sumR (rows.take k))),v5,v6,dslT K p (dAp .int (useL (rows.take k)).1 (useL (rows.take k)).2),v8,v9]) (zaa rfl) ⟨rfl,v5,v6,.un,.un,by simp[sumR,useL,u0,dA]⟩ ?_ ?_)
 .rintro L' k q ss hL hk ⟨heq,v5,v6,v8,v9,rfl⟩
  obtain⟨r,am⟩:=q
  have hq:(r,am)∈rows:=Zii hk
  have hr1:r.length<=100:=hrl _ hq
  have hkl:k<rows.length:=(Zif.mp hk).1
  have hul:(useL (rows.take k)).1.length<=10100:=by
   have:=yb6 (rows.take k) fun q hq=>hrl q (Zma hq)
   rw[Zjc] at this
   omega
  have hal:=zzt r
  have ht:rows.take (k+1)=rows.take k++[(r,am)]:=by rw[Zi0,hk];rfl
  rw[zzo hk] at heq
  have heq:zir x y rows u0=((decide (1<=am)&&zhk r y x false)&&(zfd x y am (allR r) (useL (rows.take k))&&zir x y (rows.drop (k+1)) ((allR r).foldl (addU am) (useL (rows.take k))))):=heq
  refine⟨_,zcy (ds:=[.lst (r.map encN),.int am]) rfl (zar zan (zar zan zb6)),fun N hN=>?_⟩
  refine zak (zbd (b:=decide (am<1) || !zhk r y x false) (zcx (zal (zkx (zaa rfl).b zaj.b)) fun _=>zcf (zal (zbe (pre:=ydw) (res:=yeu) (r,y,x,false) (zac (zaa rfl) (zac (zaa rfl) (zac (zaa rfl) (zac zfv zaf)))) ⟨rfl,(by show r.length<=1000;omega)⟩))) (fun hb=>?_) (fun hb=>?_))
  .refine za2 zfv ?_
   have:zn6 rows y x least=false:=by
    have:zir x y rows u0=false:=by
     rw[heq]
     simp only[Zl2,decide_eq_true_eq,Zje] at hb
     rcases hb with hb | hb
     .rw[decide_eq_false (by omega)];rfl
     .rw[hb];simp
    unfold zn6;rw[this];rfl
   rw[this] at rt;exact rt
  simp only[Zlo,decide_eq_false_iff_not,Zj3] at hb
  obtain⟨hb1,hb2⟩:=hb
  have hrn:r≠[]:=fun z=>by subst z;simp[zhk,zb0] at hb2
  rw[decide_eq_true (show 1<=am by omega),hb2,Zkl,Zjl] at heq
  ((try dsimp only);refine zap ?_)
  refine zak (za3 (zc3 (zaa rfl).b (zaa rfl).b) ?_)
  ((try dsimp only);refine zap ?_)
  have hcat:(allR r).map encA=(zbb r).map encA++[encA (gapR r)]:=by unfold allR;rw[Zir];rfl
  refine zcs encA (allR r) (fun j ss=>zfd x y am (allR r) (useL (rows.take k))=zfd x y am ((allR r).drop j) (((allR r).take j).foldl (addU am) (useL (rows.take k))) /\ ∃v5,ss=[.d (.lst (rows.map za9)),.d (wtsD y),.d (decB x),.d (.int least),.d (.int (sumA (zj4 y x) x.1+sumR (rows.take k)+am)),v5,v6,dslT K p (dAp .int (((allR r).take j).foldl (addU am) (useL (rows.take k))).1 (((allR r).take j).foldl (addU am) (useL (rows.take k))).2),.d (.lst (r.map encN)),.d (.int am)]) (by
   rw[hcat]
   exact EvO.ev (zjs (EvO.l (zom (i:=8) rfl (by omega) hrn)) (EvO.l (zbs (zac (zz8 (i:=8) rfl hrn) zaf) (small (by simp)))) (by rw[Ziv,Zia,zfr];simp;omega))) ⟨rfl,v5,rfl⟩ ?_ ?_
  .rintro L2 j a ss hL2 hj ⟨hpe,v5,rfl⟩
   have ham:a∈allR r:=Zii hj
   have hjl:j<(allR r).length:=(Zif.mp hj).1
   have hl2:=zku am ((allR r).take j) (useL (rows.take k))
   rw[Zjc] at hl2
   have et:(allR r).take (j+1)=(allR r).take j++[a]:=by rw[Zi0,hj];rfl
   have ef:((allR r).take (j+1)).foldl (addU am) (useL (rows.take k))=addU am (((allR r).take j).foldl (addU am) (useL (rows.take k))) a:=by rw[et,Zkg];rfl
   rw[zzo hj] at hpe
   rw[ef]
   generalize ((allR r).take j).foldl (addU am) (useL (rows.take k))=u at hpe hl2
   have hpe:zfd x y am (allR r) (useL (rows.take k))=(!(!decide (a∈x.1)&&decide (absI (wtF y.1 y.2 a)<wtF u.1 u.2 a+am))&&zfd x y am ((allR r).drop (j+1)) (addU am u a)):=hpe
   refine⟨_,zan,fun N2 hN2=>?_⟩
   refine zak (zeg (d:=.int (wtF u.1 u.2 a+am)) rfl (zc3 (by rw[<- getA];exact(zqf rfl (zaa rfl) zaj rfl rfl).b) (zaa rfl).b) (zaa rfl) rfl rfl (by rw[Ziv,lenA];omega) ?_)
   have hput:=zsg D.int u.1 u.2 a (wtF u.1 u.2 a+am)
   have hd:dslT K p (putD (dAp .int u.1 u.2) (.tup [.int a.1,.int a.2]) (.int (wtF u.1 u.2 a+am)))=dslT K p (dAp .int (addU am u a).1 (addU am u a).2):=by
    rw[show D.tup [.int a.1,.int a.2]=encA a from rfl,hput];rfl
   rw[hd]
   ((try dsimp only);refine zap ?_)
   refine zbd (b:=!decide (a∈x.1)&&decide (absI (wtF y.1 y.2 a)<wtF u.1 u.2 a+am)) (zgn (ze9 (yff (a:=a) x (zaa rfl) (zaa rfl))) fun hx=>zal (by
    rw[Zje,decide_eq_false_iff_not] at hx
    have hay:=yer hb2 ham hx
    have hw:wtF y.1 y.2 a=y.2 a:=if_pos hay
    rw[hw,<- (zpj am u a).2]
    exact zk7 (ztk (kvs:=dAp .int (addU am u a).1 (addU am u a).2) rfl (zaa (d:=encA a) rfl) rfl rfl (by rw[show D.tup [.int a.1,.int a.2]=encA a from rfl,valA,if_pos (zpj am u a).1])).b (zjx (znn (kvs:=dAp .int y.1 y.2) (zaa rfl) (zaa (d:=encA a) rfl) rfl rfl (by rw[show D.tup [.int a.1,.int a.2]=encA a from rfl,valA,if_pos hay])).b).b)) (fun hc=>?_) (fun hc=>?_)
   .refine za2 zfv ?_
    have:zn6 rows y x least=false:=by unfold zn6;rw[heq,hpe,hc];rfl
    rw[this] at rt;exact rt
   .refine za1 (hN2 _ ⟨by rw[hpe,hc];rfl,.d (encA a),rfl⟩)
  .rintro ss ⟨hpe,v5,rfl⟩
   rw[Zps,Zi3] at hpe
   have hpe:zfd x y am (allR r) (useL (rows.take k))=true:=hpe
   rw[hpe,Zjl] at heq
   refine hN _ ⟨by rw[heq,ht,zp9],v5,v6,.d (.lst (r.map encN)),.d (.int am),?_⟩
   rw[Zi3,ht,zp9,zmt,Zuf]
 rintro ss ⟨heq,v5,v6,v8,v9,rfl⟩
 rw[Zps] at heq
 have heq:zir x y rows u0=true:=heq
 rw[Zi3]
 ((try dsimp only);refine zap ?_)
 unfold zn6 at rt
 rw[heq,Zjl] at rt
 exact za2 (zv0 (zaa rfl).b (zaa rfl).b) rt
theorem zn1(Z:Tx K mg ad0):FnOk P w K mg base CX0 1 ad0.Zbi ad0.Zbg zd3 (SpG K ybl fun as=>decB (decP as)):=by
 refine okG Z.Zcu.F zge (by rintro q ds ⟨rfl,_⟩;rfl) fun cdv A outer s H Q E hr=>⟨_,(zad (psn 1 zge.nd zhl)
   (zad (zbn Zix rfl (za6 (pv 0)) (pgn 2 zge.nd) (zag (zdy (zbl hr) (pv 1) (pv 2) zd5 rfl)))
   (zag (zli (zas (pv 1)))))),fun G ds as hp rt=>?_⟩
 obtain⟨rfl,hn,hl⟩:=hp
 refine zak (zhr fun p=>?_)
 ((try dsimp only);refine zap ?_)
 refine zak (zcs encA as (fun k ss=>∃v2,ss=[.d (.lst (as.map encA)),dslT K p (dAp .bl (as.take k) (fun _=>false)),v2]) (zaa rfl) ⟨.un,rfl⟩ ?_ ?_)
 .rintro L' k a ss hL hk ⟨v2,rfl⟩
  refine⟨_,zan,fun N hN=>?_⟩
  refine zeg (d:=.bl false) rfl zfv (zaa rfl) rfl rfl (by rw[Ziv,lenA,Zjc];omega) (hN _ ⟨.d (encA a),?_⟩)
  have e:putD (dAp .bl (as.take k) fun _=>false) (encA a) (.bl false)=dAp .bl (as.take (k+1)) fun _=>false:=by
   rw[Zi0,hk]
   exact zgc (f:=fun _=>false) zci (zmc hn hk)
  show Zq8 _ _ (dslT K p (putD _ (encA a) _))=_
  rw[e];rfl
 rintro ss ⟨v2,rfl⟩
 rw[Zi3]
 ((try dsimp only);refine zap ?_)
 exact zlo (i:=1) rfl (za2 (zaa rfl) rt)
theorem zn3(Z:Tx K mg ad0):FnOk P w K mg base CX0 1 ad0.Zbh ad0.Zba zdu (SpG K ya4 fun ps=>wtsD (wtsP ps)):=by
 refine okG Z.Zct.F zc7 (by rintro q ds ⟨rfl,_⟩;rfl) fun cdv A outer s H Q E hr=>⟨_,(zad (psn 1 zc7.nd zhl)
   (zad (zbn Zix rfl (za6 (pv 0)) (zcp rfl (zaq (pgn 2 zc7.nd) (zaq (pgn 3 zc7.nd) (zaq (pgn 4 zc7.nd) zbv)))) (zag (zdy (zbl hr) (pv 1) (zbz (zab (pv 2) (zab (pv 3) zae))) (pv 4) rfl)))
   (zag (zli (zas (pv 1)))))),fun G ds ps hp rt=>?_⟩
 obtain⟨rfl,hn,hl⟩:=hp
 refine zak (zhr fun p=>?_)
 ((try dsimp only);refine zap ?_)
 refine zak (zcs encP ps (fun k ss=>∃v2 v3 v4,ss=[.d (.lst (ps.map encP)),dslT K p (dAp .int ((ps.take k).map keyP) (wOf ps)),v2,v3,v4]) (zaa rfl) ⟨.un,.un,.un,rfl⟩ ?_ ?_)
 .rintro L' k q ss hL hk ⟨v2,v3,v4,rfl⟩
  refine⟨_,zcy rfl (zar zan (zar zan (zar zan zb6))),fun N hN=>?_⟩
  refine zeg (ds:=[.int q.1,.int q.2.1]) (d:=.int q.2.2) rfl (zaa rfl) (zcd (zac (zaa rfl) (zac (zaa rfl) zaf)) (small (by simp))) rfl rfl (by rw[Ziv,lenA,Zia,Zjc];omega) (hN _ ⟨.d (.int q.1),.d (.int q.2.1),.d (.int q.2.2),?_⟩)
  have hq:=Zii hk
  have hnt:keyP q∉(ps.take k).map keyP:=by
   rw[Zq9]
   exact zmc hn (by rw[Zie,hk];rfl)
  have e:putD (dAp .int ((ps.take k).map keyP) (wOf ps)) (encA (keyP q)) (.int q.2.2)=dAp .int ((ps.take (k+1)).map keyP) (wOf ps):=by
   rw[Zi0,hk,Zir,<- zq9 hn hq]
   exact zgc (f:=wOf ps) zci hnt
  show Zq8 _ _ (dslT K p (putD _ (encA (keyP q)) _))=_
  rw[e];rfl
 rintro ss ⟨v2,v3,v4,rfl⟩
 rw[Zi3]
 ((try dsimp only);refine zap ?_)
 exact zlo (i:=1) rfl (za2 (zaa rfl) rt)
theorem zu2{r:List Nat}(h:r.Nodup){i j:Nat}(hi:i<r.length)(hj:j<r.length)(e:r.getD i 0=r.getD j 0):i=j:=by
 rw[Zh8,Zh8,Zh9 hi,Zh9 hj] at e
 exact(Zoc h).mp e
theorem zxh{r:List Nat}(h:zb0 r=true){a:Apt}(ha:a∈zbb r):a≠gapR r:=by
 unfold zb0 at h
 rw[Ziq,decide_eq_true_eq,decide_eq_true_eq] at h
 obtain⟨h3,hn⟩:=h
 unfold zbb at ha
 obtain⟨k,hk,rfl⟩:=Zit.mp ha
 have hk:=Zi2.mp hk
 intro e
 unfold gapR prF at e
 have e1:=congrArg Zv1 e
 have e2:=congrArg Zth e
 simp only at e1 e2
 have:(r.getD k 0=r.getD 0 0/\r.getD (k+1) 0=r.getD (r.length - 1) 0)\/(r.getD k 0=r.getD (r.length - 1) 0/\r.getD (k+1) 0=r.getD 0 0):=by omega
 rcases this with ⟨h1,h2⟩ | ⟨h1,h2⟩
 .have:=zu2 hn (by omega) (by omega) h1
  have:=zu2 hn (by omega) (by omega) h2
  omega
 .have:=zu2 hn (by omega) (by omega) h1
  have:=zu2 hn (by omega) (by omega) h2
  omega
theorem zwy{α:Type}{f g:α->Bool}:∀{l:List α},(∀a∈l,f a=g a)->l.all f=l.all g
 | [],_=>rfl
 | a::l,h=>by rw[Zkh,Zkh,h a Zil,zwy fun b hb=>h b (Zij _ hb)]
theorem zqj{r:List Nat}{m:Nat}(y:Wts)(x:Dec)(hm:∀k∈r,k<m):ze3 r m y x=zhk r y x false:=by
 unfold ze3 zhk
 have h1:(r.all fun k=>decide (k<m))=true:=Zi7.mpr fun k hk=>decide_eq_true (hm k hk)
 rw[h1,Zkl]
 cases hr:zb0 r with
 | false=>rfl
 | true =>
  rw[Zjl,Zjl,Zms]
  have h2:(!decide (zbi r x=[]))=decide ((zbi r x).length>0):=by
   cases zbi r x <;> simp
  have h3:(zbb r).all (zg5 x y)=(zbb r).all (zdm r y x false):=by
   refine zwy fun a ha=>?_
   have hg:=zxh hr ha
   unfold zg5 zdm zcc
   rw[decide_eq_false hg]
   by_cases hx:a∈x.1
   .rw[if_pos hx,decide_eq_true hx];cases x.2 a <;> simp
   .rw[if_neg hx,decide_eq_false hx]
    simp
  have h4:zqk x y (gapR r)=zdm r y x false (gapR r):=by
   unfold zqk zdm zcc
   by_cases hx:gapR r∈x.1
   .rw[if_pos hx,decide_eq_true hx];cases x.2 (gapR r) <;> simp
   .rw[if_neg hx,decide_eq_false hx]
    simp only[Znt,Zms,Zm3,Zjl,decide_true,Zpg,Bool.or_false]
    rw[<- decide_not]
    exact decide_eq_decide.mpr (by omega)
  rw[h2,h3,h4]
  unfold allR
  rw[Zl1,Zkh,Zol,Zkl,Bool.and_comm]
theorem zyp(v:Int)(u:Usd)(a b:Apt):wtF (addU v u a).1 (addU v u a).2 b=wtF u.1 u.2 b+if b=a then v else 0:=by
 by_cases h:b=a
 .subst h
  rw[if_pos rfl]
  unfold wtF
  rw[if_pos (zpj v u b).1,(zpj v u b).2]
  rfl
 .rw[if_neg h,Zos]
  unfold wtF
  have h1:(b∈(addU v u a).1)↔b∈u.1:=by
   show b∈(if a∈u.1 then u.1 else u.1++[a])↔_
   split
   .exact Zrm
   .simp[h]
  have h2:(addU v u a).2 b=u.2 b:=if_neg h
  by_cases hb:b∈u.1
  .rw[if_pos (h1.mpr hb),if_pos hb,h2]
  .rw[if_neg (fun z=>hb (h1.mp z)),if_neg hb]
theorem zpl(v:Int):∀(as:List Apt) (u:Usd) (b:Apt),wtF (as.foldl (addU v) u).1 (as.foldl (addU v) u).2 b=wtF u.1 u.2 b+(as.count b:Nat)*v
 | [],u,b=>by simp
 | a::as,u,b=>by
  rw[Zke,zpl v as,zyp,Zqa]
  by_cases h:b=a
  .subst h;simp[Zqn];omega
  .rw[if_neg h,if_neg (by simpa using Zju h)];simp
theorem znw{x:Dec}{y:Wts}{v:Int}(hv:1<=v):∀(as:List Apt) (u:Usd),zfd x y v as u=true ↔ ∀a∈as,a∉x.1->wtF u.1 u.2 a+(as.count a:Nat)*v<=absI (wtF y.1 y.2 a)
 | [],u=>by simp[zfd]
 | b::as,u=>by
  rw[zfd,Ziq,znw hv as]
  constructor
  .rintro⟨h1,h2⟩ a ha hx
   by_cases hin:a∈as
   .have:=h2 a hin hx
    rw[zyp] at this
    rw[Zqa]
    by_cases hab:a=b
    .subst hab;simp[Zqn] at this ⊢;omega
    .rw[if_neg hab] at this;rw[if_neg (by simpa using Zju hab)];simpa using this
   .have hab:a=b:=(Ziy.mp ha).resolve_right hin
    subst hab
    rw[Zrx,Zsf.mpr hin]
    simp[hx] at h1
    simp
    omega
  .intro h
   refine⟨?_,fun a ha hx=>?_⟩
   .by_cases hx:b∈x.1
    .simp[hx]
    .have:=h b Zil hx
     rw[Zrx] at this
     have hc:(0:Int)<=(as.count b:Nat)*v:=Zto (by omega) (by omega)
     simp[hx]
     simp[Zqn] at this
     omega
   .have:=h a (Zij _ ha) hx
    rw[zyp]
    rw[Zqa] at this
    by_cases hab:a=b
    .subst hab;simp[Zqn] at this ⊢;omega
    .rw[if_neg hab];rw[if_neg (by simpa using Zju hab)] at this;simpa using this
noncomputable def totR(P:Row->List Apt)(rows:List Row)(a:Apt):Int:=rows.foldr (fun q s=>((P q).count a:Nat)*q.2+s) 0
theorem ziv(P:Row->List Apt)(q:Row)(rows:List Row)(a:Apt):totR P (q::rows) a=((P q).count a:Nat)*q.2+totR P rows a:=rfl
theorem zoo(P:Row->List Apt)(a:Apt):∀(rows:List Row),(∀p∈rows,1<=p.2)->0<=totR P rows a
 | [],_=>Zll _
 | p::rows,h=>by
  rw[ziv]
  have h1:=zoo P a rows fun p hp=>h p (Zij _ hp)
  have h2:=h p Zil
  have h3:(0:Int)<=((P p).count a:Nat)*p.2:=Zto (by omega) (by omega)
  omega
theorem zuu(P:Row->List Apt)(a:Apt):∀(rows:List Row),(¬ ∃p∈rows,a∈P p)->totR P rows a=0
 | [],_=>rfl
 | p::rows,h=>by
  rw[ziv,zuu P a rows fun⟨p',hp',ha'⟩=>h ⟨p',Zij _ hp',ha'⟩,Zsf.mpr fun z=>h ⟨p,Zil,z⟩]
  simp
theorem zu3 {x : Dec} {y : Wts} : ∀ (rows : List Row) (u : Usd), zir x y rows u = true ↔ (∀ q ∈ rows, 1 <= q.2 /\ zhk q.1 y x false = true) /\ ∀ a, a ∉ x.1 -> (∃ q ∈ rows, a ∈ allR q.1) -> wtF u.1 u.2 a + totR (fun q => allR q.1) rows a <= absI (wtF y.1 y.2 a)
 | [],u=>by simp[zir]
 | q::rows,u=>by
  rw[zir,Ziq,Ziq,Ziq,decide_eq_true_eq,zu3 rows]
  have htot:=ziv (fun q=>allR q.1) q rows
  constructor
  .rintro⟨⟨h1,h2⟩,h3,h4,h5⟩
   rw[znw h1] at h3
   refine⟨fun p hp=>?_,fun a hx hq=>?_⟩
   .rcases Ziy.mp hp with z | z
    .rw[z];exact⟨h1,h2⟩
    .exact h4 p z
   .rw[htot]
    by_cases hr:∃p∈rows,a∈allR p.1
    .have:=h5 a hx hr
     rw[zpl] at this
     omega
    .obtain⟨p,hp,ha⟩:=hq
     have ha:a∈allR q.1:=by
      rcases Ziy.mp hp with z | z
      .rw[<- z];exact ha
      .exact absurd ⟨p,z,ha⟩ hr
     have h0:=zuu (fun q=>allR q.1) a rows hr
     have:=h3 a ha hx
     omega
  .rintro⟨h1,h2⟩
   obtain⟨h3,h4⟩:=h1 q Zil
   have h5:∀p∈rows,1<=p.2/\zhk p.1 y x false=true:=fun p hp=>h1 p (Zij _ hp)
   refine⟨⟨h3,h4⟩,(znw h3 _ _).mpr fun a ha hx=>?_,h5,fun a hx hq=>?_⟩
   .have:=h2 a hx ⟨q,Zil,ha⟩
    rw[htot] at this
    have:=zoo (fun q=>allR q.1) a rows fun p hp=>(h5 p hp).1
    omega
   .obtain⟨p,hp,ha⟩:=hq
    have:=h2 a hx ⟨p,Zij _ hp,ha⟩
    rw[htot] at this
    rw[zpl]
    omega
theorem yc0(x:Dec):∀(rows:List Row) (u:Usd) (a:Apt),wtF (rows.foldl (fun u q=>(zbi q.1 x).foldl (addU q.2) u) u).1 (rows.foldl (fun u q=>(zbi q.1 x).foldl (addU q.2) u) u).2 a=wtF u.1 u.2 a+totR (fun q=>zbi q.1 x) rows a
 | [],u,a=>by simp[totR]
 | q::rows,u,a=>by
  rw[Zke,yc0 x rows,zpl,ziv]
  omega
theorem zoy(x:Dec){a:Apt}(hx:a∉x.1):∀(rows:List Row),totR (fun q=>zbi q.1 x) rows a=totR (fun q=>allR q.1) rows a
 | []=>rfl
 | q::rows=>by
  rw[ziv,ziv,zoy x hx rows]
  have:(zbi q.1 x).count a=(allR q.1).count a:=by
   unfold zbi
   exact List.count_filter (by simp[hx])
  simp only[this]
theorem zt0(r:List Nat)(x:Dec)(a:Apt):a∈zbi r x↔a∈allR r/\a∉x.1:=by
 unfold zbi allR
 rw[Zip]
 simp
theorem zxf{rows:List Row}{m:Nat}{y:Wts}{x:Dec}{least:Int}(hm:∀q∈rows,∀k∈q.1,k<m):zk0 rows m y x least=zn6 rows y x least:=by
 unfold zk0 zn6
 have hloss:zk6 y x=sumA (zj4 y x) x.1:=(zvy (zxu y x) x.1).symm
 rw[hloss,<- Zqw]
 congr 1
 rw[Zjg,Ziq,zu3,Zi7,Zi7]
 have h0:∀a,wtF u0.1 u0.2 a=0:=fun a=>if_neg (by simp[u0])
 have huse:∀a,a∈(useR x rows).1->(useR x rows).2 a=totR (fun q=>zbi q.1 x) rows a:=fun a ha=>by
  have h1:wtF (useR x rows).1 (useR x rows).2 a=(useR x rows).2 a:=if_pos ha
  have h2:=yc0 x rows u0 a
  have h3:wtF (useR x rows).1 (useR x rows).2 a=wtF u0.1 u0.2 a+totR (fun q=>zbi q.1 x) rows a:=h2
  rw[<- h1,h3,h0,Zm8]
 constructor
 .rintro⟨h1,h2⟩
  refine⟨fun q hq=>?_,fun a hx hq=>?_⟩
  .have:=h1 q hq
   unfold zlz at this
   rw[Ziq,decide_eq_true_eq,zqj y x (hm q hq)] at this
   exact this
  .obtain⟨q,hq,ha⟩:=hq
   have hk:a∈(useR x rows).1:=(zkh x rows a).mpr ⟨q,hq,(zt0 _ _ _).mpr ⟨ha,hx⟩⟩
   have:=h2 a hk
   rw[decide_eq_true_eq,huse a hk,zoy x hx] at this
   rw[h0,Zm8];exact this
 .rintro⟨h1,h2⟩
  refine⟨fun q hq=>?_,fun a ha=>?_⟩
  .unfold zlz
   rw[Ziq,decide_eq_true_eq,zqj y x (hm q hq)]
   exact h1 q hq
  .obtain⟨q,hq,hao⟩:=(zkh x rows a).mp ha
   obtain⟨haa,hx⟩:=(zt0 _ _ _).mp hao
   have:=h2 a hx ⟨q,hq,haa⟩
   rw[h0,Zm8] at this
   rw[decide_eq_true_eq,huse a ha,zoy x hx];exact this
noncomputable def zgq(y:Wts)(least:Int):Pap->Dec->Bool
 | .nev r,x=>zhk r y x true
 | .rin rows,x=>zn6 rows y x least
 | .cas i j a b,x=>!(decide (i ≥ j)||decide ((i,j)∈x.1))&&(zgq y least a (putX x (i,j) true)&&zgq y least b (putX x (i,j) false))
noncomputable def ybj(n:Nat)(q:Pap×Wts×Dec×Int)(ds:List D):Prop:=ds=[zao q.1,wtsD q.2.1,decB q.2.2.1,.int q.2.2.2]/\Fits (q.1,q.2.2.1)/\q.1.dp<n
noncomputable def yab(q:Pap×Wts×Dec×Int):D:=.bl (zgq q.2.1 q.2.2.2 q.1 q.2.2.1)
theorem zlk(Z:Tx K mg ad0):∀n:Nat,FnOk P w K mg base CX0 (n+4) ad0.Zci ad0.Zcn zfn (SpG K (ybj n) yab)
 | 0=>⟨fun vs H Q E h=>by obtain⟨_,_,q,_,_,h,_⟩:=h;exact absurd h.2.2 (Zjo _),fun A outer s H args us vs Q E _ _ _ _ h=>by obtain⟨_,_,q,_,_,h,_⟩:=h;exact absurd h.2.2 (Zjo _)⟩
 | n+1=>by
  have Zd2:=zlk Z n
  have Ze7:=znu (P:=P) (w:=w) (base:=base) Z
  have Zhm:=zs3 (P:=P) (w:=w) (base:=base) Z
  refine okG (k:=n+4) Z.Zbp.F zf5 (by rintro q ds ⟨rfl,_⟩;rfl) fun cdv A outer s H Q E hr=>⟨_,(zad (zbt (zaw zd4 (za4 (show IxR _ (rIxT K) from za5) (pv 0) zai (fun _ _=>rfl)) zfx (zau _)) (zag (zas (pcX (hle:=by omega) Ze7 hr Z.Zc9 (zab (za4 (show IxR _ (rIxT K) from za5) (pv 0) zai (fun _ _=>rfl)) (zab (pv 1) (zab (pv 2) (zab zd5 zae))))))) zax)
   (zad (zbt (zaw zd4 (za4 (show IxR _ (rIxT K) from za5) (pv 0) zai (fun _ _=>rfl)) zfx (zau _)) (zag (zas (pcX (hle:=by omega) Zhm hr Z.Zeo (zab (za4 (show IxR _ (rIxT K) from za5) (pv 0) zai (fun _ _=>rfl)) (zab (pv 1) (zab (pv 2) (zab (pv 3) zae))))))) zax)
   (zad (psn 4 zf5.nd (zbz (zab (za4 (show IxR _ (rIxT K) from za5) (pv 0) zai (fun _ _=>rfl)) (zab (za4 (show IxR _ (rIxT K) from za5) (pv 0) zai (fun _ _=>rfl)) zae))))
   (zad (zbt (PW.pt (zhi (zaw zvu (za4 (show IxR _ (rIxT K) from za5) (pv 4) zai (fun _ _=>rfl)) (za4 (show IxR _ (rIxT K) from za5) (pv 4) zai (fun _ _=>rfl)) (zau _)) (zh0 (zje (zoh (zbl hr) (pv 4) (pv 2)) (by with_unfolding_all rfl))))) (zag (zas zd5)) zax)
   (zad (psn 5 zf5.nd (zde (show zcm _ _ zp7 from zk4) (by rfl) Z.Zfe zr8 (zab (pv 2) zae)))
   (zad (zdy (zbl hr) (pv 5) (pv 4) zd5 rfl)
   (zad (psn 6 zf5.nd (zde (show zcm _ _ zp7 from zk4) (by rfl) Z.Zfe zr8 (zab (pv 2) zae)))
   (zad (zdy (zbl hr) (pv 6) (pv 4) zd5 rfl)
   (zag (zli (zli (zas (zd7 (pcX (hle:=by omega) Zd2 hr Z.Zbp (zab (za4 (show IxR _ (rIxT K) from za5) (pv 0) zai (fun _ _=>rfl)) (zab (pv 1) (zab (pv 5) (zab (pv 3) zae))))) (zeu (pcX (hle:=by omega) Zd2 hr Z.Zbp (zab (za4 (show IxR _ (rIxT K) from za5) (pv 0) zai (fun _ _=>rfl)) (zab (pv 1) (zab (pv 6) (zab (pv 3) zae))))))))))))))))))),fun G ds q hp rt=>?_⟩
  obtain⟨pq,y,x,least⟩:=q
  obtain⟨rfl,hft,hdp⟩:=hp
  have hft:Fits (pq,x):=hft
  have hdp:pq.dp<n+1:=hdp
  have rt:RtD K G H Q (.bl (zgq y least pq x)):=rt
  cases pq with
  | nev r =>
   refine zak (zbd (b:=true) (zal (zdd (l:=zbf) (m:=zbf) (za0 (ds:=[.str zbf,.lst (r.map encN)]) (zaa rfl) zaj.b rfl).b (zbw rfl (by decide)).b)) (fun _=>?_) fun h=>by cases h)
   exact za2 (zbe (pre:=ydw) (res:=yeu) (r,y,x,true) (zac (za0 (ds:=[.str zbf,.lst (r.map encN)]) (zaa rfl) zaj.b rfl) (zac (zaa rfl) (zac (zaa rfl) (zac zfv zaf)))) ⟨rfl,Zjb hft.1 (by decide)⟩) rt
  | rin rows =>
   refine zak (zbd (b:=false) (zal (zdd (l:=za8) (m:=zbf) (za0 (ds:=[.str za8,.lst (rows.map za9)]) (zaa rfl) zaj.b rfl).b (zbw rfl (by decide)).b)) (fun h=>by cases h) fun _=>?_)
   ((try dsimp only);refine zap ?_)
   refine zak (zbd (b:=true) (zal (zdd (l:=za8) (m:=za8) (za0 (ds:=[.str za8,.lst (rows.map za9)]) (zaa rfl) zaj.b rfl).b (zbw rfl (by decide)).b)) (fun _=>?_) fun h=>by cases h)
   exact za2 (zbe (pre:=yh1) (res:=yhn) (rows,y,x,least) (zac (za0 (ds:=[.str za8,.lst (rows.map za9)]) (zaa rfl) zaj.b rfl) (zac (zaa rfl) (zac (zaa rfl) (zac (zaa rfl) zaf)))) ⟨rfl,hft.1.1,hft.1.2⟩) rt
  | cas i j a b =>
   obtain⟨⟨hi,hj,ha,hb'⟩,hdo,hln⟩:=hft
   have hln:x.1.length+(max a.dp b.dp+1)<=1000:=hln
   have hdo:zvc x:=hdo
   have hdp:max a.dp b.dp+1<n+1:=hdp
   refine zak (zbd (b:=false) (zal (zdd (l:=zbp) (m:=zbf) (za0 (ds:=[.str zbp,encN i,encN j,zao a,zao b]) (zaa rfl) zaj.b rfl).b (zbw rfl (by decide)).b)) (fun h=>by cases h) fun _=>?_)
   ((try dsimp only);refine zap ?_)
   refine zak (zbd (b:=false) (zal (zdd (l:=zbp) (m:=za8) (za0 (ds:=[.str zbp,encN i,encN j,zao a,zao b]) (zaa rfl) zaj.b rfl).b (zbw rfl (by decide)).b)) (fun h=>by cases h) fun _=>?_)
   ((try dsimp only);refine zap ?_)
   refine zak (za3 (d:=encA (i,j)) (zcd (ds:=[.int (i:Nat),.int (j:Nat)]) (zac (za0 (ds:=[.str zbp,encN i,encN j,zao a,zao b]) (zaa rfl) zaj.b rfl) (zac (za0 (ds:=[.str zbp,encN i,encN j,zao a,zao b]) (zaa rfl) zaj.b rfl) zaf)) (small (by simp))) ?_)
   ((try dsimp only);refine zap ?_)
   have hij:decide (((i:Nat):Int) ≥ ((j:Nat):Int))=decide (i ≥ j):=decide_eq_decide.mpr (by omega)
   refine zak (zbd (b:=decide (i ≥ j)||decide ((i,j)∈x.1)) (zcx (zal (by rw[<- hij];exact zv0 (za0 (ds:=[.int (i:Nat),.int (j:Nat)]) (zaa (d:=encA (i,j)) rfl) zaj.b rfl).b (za0 (ds:=[.int (i:Nat),.int (j:Nat)]) (zaa (d:=encA (i,j)) rfl) zaj.b rfl).b)) fun _=>ze9 (ycq (a:=(i,j)) x (zaa rfl) (zaa rfl))) (fun hb=>?_) (fun hb=>?_))
   .refine za2 zfv ?_
    have:zgq y least (.cas i j a b) x=false:=by unfold zgq;rw[hb];rfl
    rw[this] at rt;exact rt
   have e0:zgq y least (.cas i j a b) x=(zgq y least a (putX x (i,j) true)&&zgq y least b (putX x (i,j) false)):=by
    show(!(decide (i ≥ j)||decide ((i,j)∈x.1))&&_)=_
    rw[hb];rfl
   rw[e0] at rt
   have hnx:(i,j)∉x.1:=by
    rw[Zlo,decide_eq_false_iff_not,decide_eq_false_iff_not] at hb
    exact hb.2
   have hl1:x.1.length<=1000:=hdo.2.1
   ((try dsimp only);refine zap ?_)
   have hput:∀(p:Addr) (c:Bool),dslT K p (putD (dAp .bl x.1 x.2) (.tup [.int (i:Nat),.int (j:Nat)]) (.bl c))=dslT K p (dAp .bl (putX x (i,j) c).1 (putX x (i,j) c).2):=fun p c=>by
    rw[show D.tup [.int (i:Nat),.int (j:Nat)]=encA (i,j) from rfl,zxr (β:=Bool) x hnx c D.bl]
   refine zak (zo1 (kvs:=dAp .bl x.1 x.2) (zaa rfl) (zlc D.bl x.2 hdo.2.2) fun p5=>?_)
   ((try dsimp only);refine zap ?_)
   refine zak (zeg (i:=5) (d:=.bl true) rfl zfv (zaa (d:=encA (i,j)) rfl) rfl rfl (by rw[Ziv,lenA];omega) ?_)
   rw[hput]
   ((try dsimp only);refine zap ?_)
   refine zak (zo1 (kvs:=dAp .bl x.1 x.2) (zaa rfl) (zlc D.bl x.2 hdo.2.2) fun p6=>?_)
   ((try dsimp only);refine zap ?_)
   refine zak (zeg (i:=6) (d:=.bl false) rfl zfv (zaa (d:=encA (i,j)) rfl) rfl rfl (by rw[Ziv,lenA];omega) ?_)
   rw[hput]
   ((try dsimp only);refine zap ?_)
   refine zlo (i:=5) rfl (zlo (i:=6) rfl ?_)
   have f1:Fits (a,putX x (i,j) true):=⟨ha,zt5 hdo hnx hi hj (by omega) true,by show(x.1++[(i,j)]).length+a.dp<=1000;simp;omega⟩
   have f2:Fits (b,putX x (i,j) false):=⟨hb',zt5 hdo hnx hi hj (by omega) false,by show(x.1++[(i,j)]).length+b.dp<=1000;simp;omega⟩
   exact za2 (zew (zbe (pre:=ybj n) (res:=yab) (a,y,putX x (i,j) true,least) (zac (za0 (ds:=[.str zbp,encN i,encN j,zao a,zao b]) (zaa rfl) zaj.b rfl) (zac (zaa rfl) (zac (zaa rfl) (zac (zaa rfl) zaf)))) ⟨rfl,f1,by show a.dp<n;omega⟩) fun _=>zbe (pre:=ybj n) (res:=yab) (b,y,putX x (i,j) false,least) (zac (za0 (ds:=[.str zbp,encN i,encN j,zao a,zao b]) (zaa rfl) zaj.b rfl) (zac (zaa rfl) (zac (zaa rfl) (zac (zaa rfl) zaf)))) ⟨rfl,f2,by show b.dp<n;omega⟩) rt
theorem zvp{r:List Nat}{m:Nat}(y:Wts)(x:Dec)(hm:∀k∈r,k<m):zg1 r m x=zhk r y x true:=by
 unfold zg1 zhk
 have h1:(r.all fun k=>decide (k<m))=true:=Zi7.mpr fun k hk=>decide_eq_true (hm k hk)
 rw[h1,Zkl]
 cases hr:zb0 r with
 | false=>rfl
 | true =>
  rw[Zjl,Zjl,Zuj,Zkl]
  have h3:(zbb r).all (zcg x)=(zbb r).all (zdm r y x true):=by
   refine zwy fun a ha=>?_
   have hg:=zxh hr ha
   unfold zcg zdm
   rw[decide_eq_false hg]
   by_cases hx:a∈x.1
   .rw[if_pos hx,decide_eq_true hx];cases x.2 a <;> simp
   .rw[if_neg hx,decide_eq_false hx];rfl
  have h4:zcc x (gapR r)=zdm r y x true (gapR r):=by
   unfold zcc zdm
   by_cases hx:gapR r∈x.1
   .rw[if_pos hx,decide_eq_true hx];cases x.2 (gapR r) <;> simp
   .rw[if_neg hx,decide_eq_false hx];rfl
  rw[h3,h4]
  unfold allR
  rw[Zl1,Zkh,Zol,Zkl]
theorem zk9{m:Nat}{y:Wts}{least:Int}:∀(p:Pap) (x:Dec),zzk m p->zc9 m y least p x=zgq y least p x
 | .nev r,x,h=>zvp y x h
 | .rin rows,x,h=>zxf h
 | .cas i j a b,x,⟨hi,hj,ha,hb⟩=>by
  unfold zc9 zgq
  rw[zk9 a _ ha,zk9 b _ hb]
  congr 1
  unfold mayD
  have e:decide (i<j)= !decide (i ≥ j):=by rw[<- decide_not];exact decide_eq_decide.mpr (by omega)
  rw[decide_eq_true hi,decide_eq_true hj,Zjl,Zjl,Bool.not_or,e]
theorem zq4(Z:Tx K mg ad0):FnOk P w K mg base CX0 1 ad0.Zcq ad0.Zch zfq (SpD K zzu zv1):=by
 refine okD Z.Zcp.F zh8 (by rintro ds ⟨c,d,rfl,_⟩;rfl) fun cdv A outer s H Q E hr=>⟨_,(zad (zbn Zix rfl (za6 (pv 0)) (zcp rfl (zaq (pgn 2 zh8.nd) (zaq (pgn 3 zh8.nd) zbv))) (zag (zbt (zaw zd4 (za4 (show IxR _ (rIxL K) from zbk) (pv 1) (pv 2) (fun _ _=>rfl)) (za4 (show IxR _ (rIxL K) from zbk) (pv 1) (pv 3) (fun _ _=>rfl)) (zau _)) (zag (zas zd5)) zax)))
   (zag (zas zd5))),fun G ds hp rt=>?_⟩
 obtain⟨as,gs,rfl,hb,hl⟩:=hp
 rw[zh6] at rt
 refine zak (zcs encA as (fun k ss=>∃v2 v3:Sl,ss=[.d (.lst (as.map encA)),.d (.lst (gs.map .int)),v2,v3]/\ze0 (as.take k) gs=true) (zaa rfl) ⟨.un,.un,rfl,rfl⟩ ?_ ?_)
 .rintro L' k a ss hL hk ⟨v2,v3,rfl,hkp⟩
  refine⟨_,zcy rfl (zar zan (zar zan zb6)),fun N hN=>?_⟩
  have ha:a∈as:=Zii hk
  refine zbd (zal (zgb (zdr (zaa rfl).l (zaa rfl).b (zn8 (hb a ha).1)).b (zdr (zaa rfl).l (zaa rfl).b (zn8 (hb a ha).2)).b)) (fun hq=>?_) (fun hq=>?_)
  .have e:ze0 as gs=false:=by
    unfold ze0
    rw[Zn3]
    exact⟨a,ha,by rw[hq];decide⟩
   rw[e] at rt
   exact za2 zfv rt
  .refine za1 (hN _ ⟨_,_,rfl,?_⟩)
   unfold ze0 at hkp ⊢
   rw[Zi0,hk,Zl1,hkp]
   show(true&&Zv3 [a] _)=true
   rw[Zkh,hq]
   rfl
 .rintro ss ⟨v2,v3,rfl,hkp⟩
  ((try dsimp only);refine zap ?_)
  rw[Zi3] at hkp
  rw[hkp] at rt
  exact za2 zfv rt
theorem zsb(Z:Tx K mg ad0):FnOk P w K mg base CX0 1 ad0.Zde ad0.Zdl zgz (SpD K zsf zos):=by
 refine okD Z.Zc1.F zec (by rintro ds ⟨c,d,rfl,_⟩;rfl) fun cdv A outer s H Q E hr=>⟨_,(zad (psn 2 zec.nd zai)
   (zad (zbn Zix rfl (za6 (pv 0)) (zcp rfl (zaq (pgn 3 zec.nd) (zaq (pgn 4 zec.nd) (zaq (pgn 5 zec.nd) zbv)))) (zag (zbt (zaw zd4 (zbc zd4 (za4 (show IxR _ (rIxL K) from zbk) (pv 1) (pv 3) (fun _ _=>rfl)) (za4 (show IxR _ (rIxL K) from zbk) (pv 1) (pv 4) (fun _ _=>rfl)) (zau _)) (zbc zkp (pv 5) zai (zau _)) (zau _)) (zag (psn 2 zec.nd (zbr zc1 (pv 2) (zat zhp (by rfl) Z.Zel Zpy (zab (pv 5) zae))))) zax)))
   (zag (zas (pv 2))))),fun G ds hp rt=>?_⟩
 obtain⟨ps,gs,rfl,hb,hl⟩:=hp
 rw[zj1] at rt
 refine zak (za3 zaj ?_)
 ((try dsimp only);refine zap ?_)
 refine zak (zcs encP ps (fun k ss=>∃v3 v4 v5:Sl,ss=[.d (.lst (ps.map encP)),.d (.lst (gs.map .int)),.d (.int (sumL (zfp gs) (ps.take k))),v3,v4,v5]) (zaa rfl) ⟨.un,.un,.un,rfl⟩ ?_ ?_)
 .rintro L' k p ss hL hk ⟨v3,v4,v5,rfl⟩
  refine⟨_,zcy rfl (zar zan (zar zan (zar zan zb6))),fun N hN=>?_⟩
  have hp:p∈ps:=Zii hk
  have hs:sumL (zfp gs) (ps.take (k+1))=sumL (zfp gs) (ps.take k)+zfp gs p:=by rw[Zi0,hk];exact zrb ..
  refine zbd (zal (ydj (zgb (zdr (zaa rfl).l (zaa rfl).b (zn8 (hb p hp).1)).b (zdr (zaa rfl).l (zaa rfl).b (zn8 (hb p hp).2)).b).b (zkx (zaa rfl).b zaj.b).b)) (fun hq=>?_) (fun hq=>?_)
  .refine za3 (zc3 (zaa rfl).b (zjx (zaa rfl).b).b) (hN _ ⟨.d (.int p.1),.d (.int p.2.1),.d (.int p.2.2),?_⟩)
   rw[hs];unfold zfp
   rw[if_pos hq];rfl
  .refine za1 (hN _ ⟨.d (.int p.1),.d (.int p.2.1),.d (.int p.2.2),?_⟩)
   rw[hs];unfold zfp
   rw[if_neg (by rw[hq];decide),Zos]
   first | done | rfl
 .rintro ss ⟨v3,v4,v5,rfl⟩
  ((try dsimp only);refine zap ?_)
  rw[Zi3]
  exact za2 (zaa rfl) rt
theorem zxi(gs:List Int)(p:Pr)(h:p.2.2≠0):zfp gs p=zdx gs p:=by
 unfold zfp zdx
 have:decide (decide (gs.getD p.1 0=gs.getD p.2.1 0)=decide (p.2.2<0))= !decide (decide (gs.getD p.1 0=gs.getD p.2.1 0)=decide (0<p.2.2)):=by
  rcases Int.lt_or_lt_of_ne h with z | z
  .rw[decide_eq_true z,decide_eq_false (show ¬ 0<p.2.2 by omega)]
   cases decide (gs.getD p.1 0=gs.getD p.2.1 0) <;> rfl
  .rw[decide_eq_true z,decide_eq_false (show ¬ p.2.2<0 by omega)]
   cases decide (gs.getD p.1 0=gs.getD p.2.1 0) <;> rfl
 rw[this]
theorem ygc(i j:Nat):(if ((j:Nat):Int)>(i:Int) then ((j:Nat):Int) else (i:Int))=((max i j:Nat):Int):=by split <;> omega
noncomputable def preG(ds:List D):Prop:=∃m c:Int,ds=[.int m,.int c]/\0<=m/\m<=8
noncomputable def relG(ds:List D)(rs:List D):Prop:=∀m c:Int,ds=[.int m,.int c]-> ∃g:List Nat,rs=g.map encN/\g∈rgs m.toNat
theorem zmm(Z:Tx K mg ad0):FnOk P w K mg base CX0 1 ad0.Zaw ad0.Zaz zdf (SpR K preG relG):=by
 refine okR Z.Zcd.F zb2 (by rintro ds ⟨c,d,rfl,_⟩;rfl) fun cdv A outer s H Q E hr=>⟨_,(zad (psn 2 zb2.nd (zbr zc1 (zbr zjd (pv 1) zai) zai))
   (zad (psn 3 zb2.nd (zca zae))
   (zad (psn 4 zb2.nd zai)
   (zad (zbn Zix rfl (zg4 (by rfl) Z.Zbo (zab (pv 0) zae)) (pgn 5 zb2.nd) (zad (psn 2 zb2.nd (zbr zjd (zbr yif (pv 2) zai) zai))
   (zad (zgj (zjc Zjr Zkc Zkk zcr (pv 3) (zab (zbr zjd (zbr znt (pv 2) zai) (zbr zc1 (pv 4) zai)) zae)))
   (zag (psn 4 zb2.nd (zat (zj5 rfl) (by rfl) Z.Zet Zq5 (zab (pv 4) (zab (zbr zc1 (za4 (show IxR _ (rIxL K) from zbk) (pv 3) (pv 5) (fun _ _=>rfl)) zai) zae))))))))
   (zag (zas (pv 3))))))),fun G ds hp rt=>?_⟩
 obtain⟨m,c,rfl,hm0,hm8⟩:=hp
 refine zak (za3 (zc3 (zjg (zaa rfl).b zaj.b (by decide)).b zaj.b) ?_)
 ((try dsimp only);refine zap ?_)
 refine zak (zey (zbs zaf (small (by decide))) fun p=>?_)
 ((try dsimp only);refine zap ?_)
 refine zak (za3 zaj ?_)
 ((try dsimp only);refine zap ?_)
 refine zak (zmg (n:=m) (fun k ss=>∃(x:Int) (g:List Nat) (v5:Sl),ss=[.d (.int m),.d (.int c),.d (.int x),.o p (g.map encN),.d (.int (ngF g)),v5]/\g∈rgs k) (zbm (zaa rfl).b zfh) ⟨by omega,by omega⟩ ⟨_,[],.un,rfl,Zic.mpr rfl⟩ ?_ ?_ (fun _ _ _ h=>h))
 .rintro k ss hk ⟨x,g,v5,rfl,hg⟩ N hN
  have hgl:=zgl hg
  refine zak (za3 (zjg (yik (zaa rfl).b zaj.b (.inr ⟨by decide,by decide⟩)).b zaj.b (by decide)) ?_)
  ((try dsimp only);refine zap ?_)
  generalize x*48271 % 4294967311=x1
  have b0:=Znm (x1 / 7) (show((ngF g:Nat):Int)+1≠0 by omega)
  have b1:=Zns (x1 / 7) (show(0:Int)<((ngF g:Nat):Int)+1 by omega)
  obtain⟨y,ey⟩:∃y:Nat,x1 / 7 % (((ngF g:Nat):Int)+1)=(y:Int):=⟨(x1 / 7 % (((ngF g:Nat):Int)+1)).toNat,by omega⟩
  refine zak (zfk (d:=encN y) rfl (by unfold encN;rw[<- ey];exact zjg (znb (zaa rfl).b zaj.b ⟨by decide,by decide⟩).b (zc3 (zaa rfl).b zaj.b).b (by omega)) (by rw[Zia,Ziv];omega) ?_)
  ((try dsimp only);refine zap ?_)
  have hat:atI (g.map encN++[encN y]) (k:Int)=some (.int y):=zk2 (by rw[Zjq (by rw[Zia];omega),Zia,hgl,Zrv];rfl)
  refine za3 (zpr (zaa rfl).b (zc3 (zdr (zo5 rfl) (zaa rfl).b hat).b zaj.b).b) (hN _ ⟨x1,g++[y],.d (.int k),?_,zh7.mpr ⟨g,hg,y,by omega,rfl⟩⟩)
  have e:=ygc (ngF g) (y+1)
  rw[zjt,<- e,Zir];rfl
 .rintro ss ⟨x,g,v5,rfl,hg⟩
  ((try dsimp only);refine zap ?_)
  refine zxq (i:=3) rfl (rt _ fun m' c' he=>?_)
  simp only[Zn8,D.int.injEq,and_true] at he
  obtain⟨rfl,_⟩:=he
  exact⟨g,rfl,hg⟩
theorem depL{α:Type}(enc:α->D)(n:Nat)(h:∀a,(enc a).dep<=n)(l:List α):(D.lst (l.map enc)).dep<=n+1:=by
 show D.deps (l.map enc)+1<=n+1
 have:D.deps (l.map enc)<=n:=by
  induction l with
  | nil=>exact Zjn _
  | cons a l ih=>exact Zvq.mpr ⟨h a,ih⟩
 omega
section
variable{F H:Hp}
theorem zzx:∀{r:List Nat} {xs:List V} {bs:List Addr},zaz F H (r.map encN) xs bs->bs=[]
 | [],_,_,h=>by rw[Zk4,zaz] at h;exact h.2
 | n::r,_,_,h=>by
  rw[Zik,zaz] at h
  obtain⟨x,ys,a,b,_,rfl,h1,h2⟩:=h
  unfold encN at h1
  rw[RepW] at h1
  rw[h1.2,zzx h2];rfl
theorem yh4{l:List Nat}{d:D}{v:V}{as:List Addr}(h:RepW F H (.tup [.str l,.lst d']) v as):∃q a xs bs,v= .ref q/\as=a::bs/\F q=some (.tup [.str (T l),.ref a])/\H a=some (.lst xs)/\zaz F H d' xs bs:=by
 rw[RepW] at h
 obtain⟨q,us,rfl,hq,h⟩:=h
 rw[zaz] at h
 obtain⟨x,r,a1,b1,rfl,rfl,h1,h⟩:=h
 rw[zaz] at h
 obtain⟨y,r,a2,b2,rfl,rfl,h2,h⟩:=h
 rw[zaz] at h
 obtain⟨rfl,rfl⟩:=h
 rw[RepW] at h1
 obtain⟨rfl,_,rfl⟩:=h1
 rw[RepW] at h2
 obtain⟨p,xs,bs,rfl,rfl,hp,rs⟩:=h2
 exact⟨q,p,xs,bs,rfl,by simp,hq,hp,rs⟩
theorem ycs:∀{rows:List Row} {xs:List V} {bs:List Addr},zaz F H (rows.map za9) xs bs->bs.length=xs.length /\ ∀(k:Nat) b,(bs.map V.ref)[k]? = some b-> ∃t c,xs[k]? = some (.ref t)/\F t=some (.tup [b,c])
 | [],_,_,h=>by
  rw[Zk4,zaz] at h
  rw[h.1,h.2]
  exact⟨rfl,fun k b z=>by simp at z⟩
 | q::rows,_,_,h=>by
  rw[Zik,zaz] at h
  obtain⟨x,ys,a,b,rfl,rfl,h1,h2⟩:=h
  unfold za9 at h1
  rw[RepW] at h1
  obtain⟨t,us,rfl,ht,h1⟩:=h1
  rw[zaz] at h1
  obtain⟨y,r,a1,b1,rfl,rfl,g1,h1⟩:=h1
  rw[zaz] at h1
  obtain⟨z,r,a2,b2,rfl,rfl,g2,h1⟩:=h1
  rw[zaz] at h1
  obtain⟨rfl,rfl⟩:=h1
  rw[RepW] at g2
  obtain⟨rfl,rfl⟩:=g2
  rw[RepW] at g1
  obtain⟨p,zs,cs,rfl,rfl,hp,rs⟩:=g1
  have:=zzx rs
  subst this
  obtain⟨e,ih⟩:=ycs h2
  refine⟨by simp[e],fun k c hk=>?_⟩
  cases k with
  | zero=>simp at hk;subst hk;exact⟨t,_,rfl,ht⟩
  | succ k=>exact ih k c (by simpa using hk)
theorem yix{i j:Nat}{a b:Pap}{v:V}{as:List Addr}(h:RepW F H (zao (.cas i j a b)) v as):∃q x y a1 a2,v= .ref q/\as=a1++a2/\F q=some (.tup [.str (T zbp),.int i,.int j,x,y])/\RepW F H (zao a) x a1/\RepW F H (zao b) y a2:=by
 unfold zao encN at h
 rw[RepW] at h
 obtain⟨q,us,rfl,hq,h⟩:=h
 rw[zaz] at h
 obtain⟨x,r,a1,b1,rfl,rfl,h1,h⟩:=h
 rw[zaz] at h
 obtain⟨y,r,a2,b2,rfl,rfl,h2,h⟩:=h
 rw[zaz] at h
 obtain⟨z,r,a3,b3,rfl,rfl,h3,h⟩:=h
 rw[zaz] at h
 obtain⟨u,r,a4,b4,rfl,rfl,h4,h⟩:=h
 rw[zaz] at h
 obtain⟨w,r,a5,b5,rfl,rfl,h5,h⟩:=h
 rw[zaz] at h
 obtain⟨rfl,rfl⟩:=h
 rw[RepW] at h1
 rw[RepW] at h2
 rw[RepW] at h3
 obtain⟨rfl,_,rfl⟩:=h1
 obtain⟨rfl,rfl⟩:=h2
 obtain⟨rfl,rfl⟩:=h3
 exact⟨q,u,w,a4,a5,rfl,by simp,hq,h4,h5⟩
theorem yae(K:Zh7){d:D}{v:V}{as:List Addr}(h:RepW H H d v as):as.length=d.subs.length:=by
 have:=(RepW.subs (K:=K) (Same.refl H) h).length
 rw[Zia] at this
 exact this.symm
end
noncomputable def fsl(v:V)(as:List Addr)(d:D):Sl:=.g v [] fun F _=>RepW F F d v as
section
variable{G Hz L:Hp}{ss:List Sl}{te:TE}{EE:Ends}
theorem ybs{v:V}{as:List Addr}{d:D}:Stab [] fun F _=>RepW F F d v as:=fun _ _ _ _ s _ h=>h.lift s
theorem zqq{i:Nat}{v:V}{as:List Addr}{d:D}(hs:ss[i]? = some (fsl v as d)):Ev K G Hz L ss (tVar i) d:=fun F H O Q S q=>by
 obtain⟨e,_,hw,_⟩:=S.getG hs
 exact⟨v,e,q v F H (Ext.refl S.ext.fh) (hw.rep (Same.refl F))⟩
theorem zsq(a:EvN K G Hz L ss te ws)(h:∀p H',Same Hz H'->Hz p=none->H' p=some (.lst ws)->EE.rt (.ref p) H'):Go K G Hz L EE ss (tRet te):=fun F H O S=>a F H O _ S fun p F' H' e hp fp hp'=>h p H' (S.ext.trans e).hh (S.ext.hh.free hp) hp'
theorem zza{N:List Str}{H:Hp}{v:V}{as:List Addr}{d:D}(hN:1<=N.length)(hw:RepW H H d v as):Sat K H H H H H (zfe N [v]) ((slots N.length [d]).set 0 (fsl v as d)):=by
 have S:=zce (K:=K) (N:=N) (Same.refl H) (Reps.cons (hw.rep (Same.refl H)) Reps.nil) (by simpa using hN)
 exact S.put (i:=0) (s:=fsl v as d) S.ext S.fl rfl (fun _ _=>rfl) (fun _=>⟨rfl,by simp,hw,ybs⟩) (by simp[Sl.ads,fsl]) (fun _ _ _ _ p hp=>by simp[Sl.ads,fsl] at hp) fun j s' _ h=>S.ok j s' h
end
noncomputable def RL(n:Nat)(d:D):Prop:=∃p:Pap,d=zao p/\p.dp<n/\d.subs.length<=10000000
theorem zvx(Z:Tx K mg ad0){n:Nat}(Zd1:FnOk P w K mg base CX0 (n+3) ad0.Zas ad0.Zar zdj (SpLs (RL n))):FnOk P w K mg base CX0 (n+4) ad0.Zas ad0.Zar zdj (SpLs (RL (n+1))):=by
 refine Z.Zbn.F.ok (k:=n+3) zqa (fun vs H Q E h=>by obtain⟨d,v,as,rfl,_⟩:=h;rfl) (fun cdv A outer s H vs Q E hr h=>⟨_,(zad (zbt (zaw zd4 (za4 (show IxR _ (rIxT K) from za5) (pv 0) zai (fun _ _=>rfl)) zfx (zau _)) (zag (zas (zbr (show OpR _ _ (zky K) from zgk) (pcX (hle:=by omega) Zd1 hr Z.Zbn (zab (za4 (show IxR _ (rIxT K) from za5) (pv 0) zai (fun _ _=>rfl)) zae)) (pcX (hle:=by omega) Zd1 hr Z.Zbn (zab (za4 (show IxR _ (rIxT K) from za5) (pv 0) zai (fun _ _=>rfl)) zae))))) zax)
   (zad (zbt (zaw zd4 (za4 (show IxR _ (rIxT K) from za5) (pv 0) zai (fun _ _=>rfl)) zfx (zau _)) (zag (zas (zca (zab (za4 (show IxR _ (rIxT K) from za5) (pv 0) zai (fun _ _=>rfl)) zae)))) zax)
   (zag (zas (zbr (show OpR _ _ (zky K) from zgk) (zca (zab (za4 (show IxR _ (rIxT K) from za5) (pv 0) zai (fun _ _=>rfl)) zae)) (zly rfl (LcOk.of (Nx:=(["_law_paper"]:List Str)) (sc:=zah zfm) (N':=(["_law_ring_here", "_law_amount"]:List Str)) (nt:=2) (cs:=[]) rfl rfl (by decide +kernel)) (za6 (za4 (show IxR _ (rIxT K) from za5) (pv 0) zai (fun _ _=>rfl))) (fun _ _ _ _=>(show PG _ _ (gTup K 2 _) from zcp rfl (zaq (zbj (i:=0) (show Zjt (["_law_ring_here", "_law_amount"]:List Str) by decide +kernel) rfl (Zld rfl)) (zaq (zbj (i:=1) (show Zjt (["_law_ring_here", "_law_amount"]:List Str) by decide +kernel) rfl (Zld rfl)) zbv)))) (fun _ _ _ _=>zd1) (fun _ _ _ _=>(pv 0)))))))),?_⟩)
 obtain⟨d,v,as,rfl,⟨p,rfl,hdp,hsz⟩,hw,hQ⟩:=h
 refine(?_:Go K H H H _ [fsl v as (zao p)] _) H H _ (zza (N:=["_law_paper"]) (by decide) hw)
 have hlen:=yae K hw
 cases p with
 | nev r =>
  obtain⟨q,a,xs,bs,rfl,rfl,hq,ha,rs⟩:=yh4 (d:=.non) hw
  have:=zzx rs
  subst this
  refine zak (zbd (b:=false) (zal (zdd (l:=zbf) (m:=zbp) (za0 (ds:=[.str zbf,.lst (r.map encN)]) (zqq rfl) zaj.b rfl).b (zbw rfl (by decide)).b)) (fun h=>by cases h) fun _=>?_)
  refine za1 ?_
  ((try dsimp only);refine zap ?_)
  refine zak (zbd (b:=true) (zal (zdd (l:=zbf) (m:=zbf) (za0 (ds:=[.str zbf,.lst (r.map encN)]) (zqq rfl) zaj.b rfl).b (zbw rfl (by decide)).b)) (fun _=>?_) fun h=>by cases h)
  exact zsq (zx8 (zmv (zvk rfl) hq rfl)) hQ
 | rin rows =>
  obtain⟨q,a,xs,bs,rfl,rfl,hq,ha,rs⟩:=yh4 (d:=.non) hw
  obtain⟨hl,hr⟩:=ycs rs
  rw[Zj7] at hlen
  refine zak (zbd (b:=false) (zal (zdd (l:=za8) (m:=zbp) (za0 (ds:=[.str za8,.lst (rows.map za9)]) (zqq rfl) zaj.b rfl).b (zbw rfl (by decide)).b)) (fun h=>by cases h) fun _=>?_)
  refine za1 ?_
  ((try dsimp only);refine zap ?_)
  refine zak (zbd (b:=false) (zal (zdd (l:=za8) (m:=zbf) (za0 (ds:=[.str za8,.lst (rows.map za9)]) (zqq rfl) zaj.b rfl).b (zbw rfl (by decide)).b)) (fun h=>by cases h) fun _=>?_)
  refine za1 ?_
  ((try dsimp only);refine zap ?_)
  exact zsq (ws:=[V.ref a]++bs.map V.ref) (zwf (zx8 (zmv (zvk rfl) hq rfl)) (yd6 (zmv (zvk rfl) hq rfl) ha (by rw[Zia];exact hl) (by rw[Ziv];omega) hr) (by rw[Ziv,Zia];simp;omega)) hQ
 | cas i j x y =>
  obtain⟨q,vx,vy,a1,a2,rfl,rfl,hq,h1,h2⟩:=yix hw
  rw[Zis] at hlen
  have l1:=yae K h1
  have l2:=yae K h2
  have hdp:max x.dp y.dp+1<n+1:=hdp
  refine zak (zbd (b:=true) (zal (zdd (l:=zbp) (m:=zbp) (za0 (ds:=[.str zbp,encN i,encN j,zao x,zao y]) (zqq rfl) zaj.b rfl).b (zbw rfl (by decide)).b)) (fun _=>?_) fun h=>by cases h)
  rw[Zir] at hQ
  exact zsq (zwf (zov (d:=zao x) (zmv (zvk rfl) hq rfl) ⟨x,rfl,by omega,by omega⟩ h1) (zov (d:=zao y) (zmv (zvk rfl) hq rfl) ⟨y,rfl,by omega,by omega⟩ h2) (by rw[Ziv,Zia,Zia];omega)) hQ
theorem zln(Z:Tx K mg ad0):∀n:Nat,FnOk P w K mg base CX0 (n+3) ad0.Zas ad0.Zar zdj (SpLs (RL n))
 | 0=>⟨fun vs H Q E h=>by obtain⟨_,_,_,_,⟨_,_,h,_⟩,_⟩:=h;exact absurd h (Zjo _),fun A outer s H args us vs Q E _ _ _ _ h=>by obtain⟨_,_,_,_,⟨_,_,h,_⟩,_⟩:=h;exact absurd h (Zjo _)⟩
 | n+1=>zvx Z (zln Z n)
noncomputable def yiv(R:D->Prop):Sp:=fun vs H Q _=>∃(F:Hp) (d:D) (v:V) (as:List Addr),vs=[v]/\R d/\Same F H/\(∀a∈as,F a=none)/\RepW F H d v as/\as.Nodup/\(∀x∈d.subs,x.lenD<=1000000) /\ ∀H',(∀b o,b∉as->H b=some o->H' b=some o)->Q (.bl true) H'
section
variable{G Hz L:Hp}{ss:List Sl}{te:TE}{EE:Ends}
theorem yct{ds ds':List D}(e:ds=ds')(h:EvO K G Hz L ss te ds):EvO K G Hz L ss te ds':=e ▸ h
theorem ye0{i:Nat}{ws:List V}(a:EvN K G Hz L ss te ws)(h:∀p,Hz p=none->Nx K G Hz L EE.nx (ss.set i (.g (.ref p) [] fun F _=>F p=some (.lst ws)))):Go K G Hz L EE ss (tAsg te (zfw i)):=fun F H O S=>a F H O _ S fun p F' H' e hp fp hp'=>by
 have e2:Ext F H (upd F' p (.lst ws)) H':=e.freeze fp hp hp'
 have S':=S.ext2 e2
 exact h p (S.ext.hh.free hp) _ H' _ (S'.put (i:=i) (s:=.g (.ref p) [] fun F _=>F p=some (.lst ws)) S'.ext S'.fl (by simp) (fun j hj=>zcj (Zju hj)) (fun hi=>by rw[zb9 (by rw[S'.len];exact hi)];exact⟨rfl,by simp,zam,fun _ _ _ _ s _ h=>s _ _ h⟩) (by simp[Sl.ads]) (fun _ _ _ _ p hp=>by simp[Sl.ads] at hp) fun j s' _ hs=>S'.ok j s' hs)
theorem yiz{i:Nat}{p:Addr}{ws:List V}{ds:List D}(hs:ss[i]? = some (.g (.ref p) [] fun F _=>F p=some (.lst ws)))(hr:Reps K L ds ws):Ev K G Hz L ss (tVar i) (.lst ds):=fun F H O Q S q=>by
 obtain⟨e,_,hw,_⟩:=S.getG hs
 exact⟨.ref p,e,q _ F H (Ext.refl S.ext.fh) (Rep.lst (SqL.of hw) (hr.mono S.fl))⟩
end
theorem zup{H H':Hp}:∀{ns:List Int} {vs:List V},Reps K H (ns.map D.int) vs->Reps K H' (ns.map D.int) vs
 | [],_,h=>by rw[Zk4,Reps] at h;subst h;exact Reps.nil
 | n::ns,_,h=>by
  rw[Zik,Reps] at h
  obtain⟨x,r,rfl,h1,h2⟩:=h
  rw[h1.of_int]
  exact Reps.cons Rep.int (zup h2)
theorem zv3(Z:Tx K mg ad0):FnOk P w K mg base CX0 27 ad0.Zd9 ad0.Zea zih (yiv (RL 23)):=by
 have Zd1:=zln (P:=P) (w:=w) (base:=base) Z 23
 refine Z.Ze2.F.ok ziz (fun vs H Q E h=>by obtain⟨F,d,v,as,rfl,_⟩:=h;rfl) (fun cdv A outer s H vs Q E hr h=>⟨_,(zad (psn 1 ziz.nd (pcX Zd1 hr Z.Zbn (zab (pv 0) zae)))
   (zad (zkq (i:=2) ziz.nd rfl (Zld rfl) rfl (LcOk.of (Nx:=(["_law_paper", "_law_lists_here", "_law_sizes", "_law_one"]:List Str)) (sc:=zah zg9) (N':=(["_law_one"]:List Str)) (nt:=1) (cs:=[]) rfl rfl (by decide +kernel)) (za6 (pv 1)) (fun _ _ _ _=>(zbj (i:=0) (show Zjt (["_law_one"]:List Str) by decide +kernel) rfl (Zld rfl))) (fun _ _ _ _=>zd1) (fun _ _ _ _=>(zat (show zcm _ _ (fun xs H Q=>∃p ys,xs=[.ref p]/\(SqL K H p ys\/SqT K H p ys)/\Q (.int ys.length) H) from zay) (by rfl) Z.Zac Zk8 (zab (pv 0) zae))))
   (zad (zbn Zix rfl (za6 (pv 1)) (pgn 3 ziz.nd) (zag (zgj (zjc Zjr Zkc Zkk zcr (pv 3) (zab zai zae)))))
   (zag (zas (zbc (show OpR _ _ (rEqD K) from ztl hr.units) (zly rfl (LcOk.of (Nx:=(["_law_paper", "_law_lists_here", "_law_sizes", "_law_one"]:List Str)) (sc:=zah zg9) (N':=(["_law_one"]:List Str)) (nt:=1) (cs:=[]) rfl rfl (by decide +kernel)) (za6 (pv 1)) (fun _ _ _ _=>(zbj (i:=0) (show Zjt (["_law_one"]:List Str) by decide +kernel) rfl (Zld rfl))) (fun _ _ _ _=>zd1) (fun _ _ _ _=>(zbr ydi (zat (show zcm _ _ (fun xs H Q=>∃p ys,xs=[.ref p]/\(SqL K H p ys\/SqT K H p ys)/\Q (.int ys.length) H) from zay) (by rfl) Z.Zac Zk8 (zab (pv 0) zae)) zai))) (pv 2) (zau _))))))),?_⟩)
 obtain⟨F0,d,v,as,rfl,hR,sF,hF,hw,nd,hlen,hQ⟩:=h
 have hwH:RepW H H d v as:=hw.mono sF fun _ _=>rfl
 have hl:=yae K hwH
 have hsz:d.subs.length<=10000000:=by obtain⟨_,_,_,h⟩:=hR;exact h
 have hsubs:=zp2 d
 refine(?_:Go K H H H _ [fsl v as d,.un,.un,.un] _) H H _ (zza (N:=["_law_paper", "_law_lists_here", "_law_sizes", "_law_one"]) (by decide) hwH)
 refine zak (ye0 (zov (d:=d) (zvk rfl) hR hwH) fun p h0=>?_)
 ((try dsimp only);refine zap ?_)
 have hpa:p∉as:=fun z=>by
  obtain⟨xs,e⟩:=hw.live p z
  rw[h0] at e;cases e
 have hf:∀(ss':List Sl) (G' H' L':Hp) (x:D),(∃l,x= .lst l)->Ev K G' H' L' ((lcSl 1 [] ss').set 0 (.d x)) (tVar 0) (.lst (match x with | .lst l=>l | _=>[])):=fun ss' G' H' L' x hx=>by
  obtain⟨l,rfl⟩:=hx
  exact zaa rfl
 have hn:∀x:D,(∃l,x= .lst l)->(match x with | .lst l=>l | _=>[]).length=x.lenD:=fun x hx=>by
  obtain⟨l,rfl⟩:=hx;rfl
 refine zak (zey (ds:=(d.subs.filter fun _=>true).map fun x=>.int (x.lenD:Nat)) (zgg d.subs id (fun _=>true) (fun x=>.int (x.lenD:Nat)) (Ev.l (by rw[Zmm];exact yiz rfl (hwH.subs (Same.refl H)))) (zbu (by decide)) (by decide) (by rw[Ziv];omega) fun x hx=>⟨_,zan,zf8,fun _=>by
  rw[<- hn x (hsubs x hx)]
  exact zea (Ev.l (hf _ _ _ _ x (hsubs x hx)))⟩) fun p2=>?_)
 ((try dsimp only);refine zap ?_)
 rw[Zkp.mpr (fun _ _=>rfl)]
 refine fun F1 H1 O S=>?_
 obtain⟨e1,_,hp1,_⟩:=S.getG (i:=1) rfl
 obtain⟨e2,h02,f2,vs2,hp2,r2⟩:=S.getO (i:=2) rfl
 have hH1:=S.ext.hh
 have hlσ:O.length=4:=S.len
 have g1:O.getD 1 none=some (.ref p):=by rw[Zh8,e1];rfl
 have g2:O.getD 2 none=some (.ref p2):=by rw[Zh8,e2];rfl
 refine ydv (i:=1) (j:=3) e1 (by decide) (by rw[hlσ];decide) (S.ext.fh _ _ hp1) hpa nd (fun a ha=>?_) (fun O' hl4 hk=>?_)
 .obtain⟨xs,l,e,hm,el⟩:=hw.live2 a ha
  have hb:l.length<=1000000:=hlen _ hm
  exact⟨xs,hH1 a _ e,by rw[Ziv];omega⟩
 .have s1:O'.getD 1 none=some (.ref p):=by rw[hk 1 (by decide)];exact g1
  have s2:O'.getD 2 none=some (.ref p2):=by rw[hk 2 (by decide)];exact g2
  rw[hlσ] at hl4
  have hg2:ze1 H1 as p2=some (.lst vs2):=by
   rw[zd2 fun z=>?_];exact hp2
   obtain⟨xs,e⟩:=hw.live p2 z
   rw[h02] at e;cases e
  have hgp:ze1 H1 as p=some (.lst (as.map V.ref)):=by rw[zd2 hpa];exact S.ext.fh _ _ hp1
  have hgw:RepW F0 (ze1 H1 as) d.grow v as:=RepW.grow (as0:=as) (H:=H1) (fun a xs ha e=>zl3 ha e) (fun a ha=>ha) (hw.mono (Same.refl _) fun a ha=>by
   obtain⟨xs,e⟩:=hw.live a ha
   rw[e,hH1 a _ e])
  have sF2:Same F0 (ze1 H1 as):=fun b o e=>by
   rw[zd2 fun z=>by rw[hF b z] at e;cases e]
   exact hH1 b _ (sF b _ e)
  have hgs:Reps K (ze1 H1 as) d.grow.subs (as.map V.ref):=hgw.subs sF2
  have hint:d.subs.map (fun x=>D.int (x.lenD:Nat))=(d.subs.map fun x=>(x.lenD:Int)).map D.int:=by rw[Zja];rfl
  have S2:Sat K (ze1 H1 as) (ze1 H1 as) (ze1 H1 as) (ze1 H1 as) (ze1 H1 as) O' [.un,.d (.lst d.grow.subs),.d (.lst (d.subs.map fun x=>.int (x.lenD:Nat))),.un]:=by
   refine⟨Ext.refl (Same.refl _),Same.refl _,hl4,fun i s hs=>?_,fun i s hs=>?_,fun i j s s' _ hs _ q hq=>?_⟩
   .match i,hs with
    | 0,hs=>cases hs;trivial
    | 1,hs=>cases hs;exact⟨_,s1,Rep.lst (SqL.of hgp) hgs⟩
    | 2,hs =>
     cases hs
     refine⟨_,s2,Rep.lst (SqL.of hg2) ?_⟩
     rw[hint] at r2 ⊢
     exact zup r2
    | 3,hs=>cases hs;trivial
   .match i,hs with
    | 0,hs=>cases hs;simp[Sl.ads]
    | 1,hs=>cases hs;simp[Sl.ads]
    | 2,hs=>cases hs;simp[Sl.ads]
    | 3,hs=>cases hs;simp[Sl.ads]
   .match i,hs with
    | 0,hs=>cases hs;simp[Sl.ads] at hq
    | 1,hs=>cases hs;simp[Sl.ads] at hq
    | 2,hs=>cases hs;simp[Sl.ads] at hq
    | 3,hs=>cases hs;simp[Sl.ads] at hq
  have hgsub:=zp2 d.grow
  have hgl:=zux d
  have hgn:d.grow.subs.length=d.subs.length:=by have:=congrArg Zp7 hgl;rwa [Zia,Zia] at this
  have ee:(d.grow.subs.filter fun _=>true).map (fun x=>D.int ((x.lenD:Nat) - 1))=d.subs.map fun x=>.int (x.lenD:Nat):=by
   have:∀(as bs:List D),as.map D.lenD=bs.map (fun x=>x.lenD+1)->as.map (fun x=>D.int ((x.lenD:Nat) - 1))=bs.map fun x=>.int (x.lenD:Nat):=fun as=>by
    induction as with
    | nil=>intro bs h;cases bs with
     | nil=>rfl
     | cons b bs=>cases h
    | cons a as ih=>intro bs h;cases bs with
     | nil=>cases h
     | cons b bs =>
      rw[Zik,Zik] at h
      injection h with h1 h2
      rw[Zik,Zik,ih bs h2,h1]
      congr 2
      omega
   rw[Zkp.mpr (fun _ _=>rfl)]
   exact this _ _ hgl
  have hnb:∀l:List D,(D.lst (l.map fun x=>D.int (x.lenD:Nat))).nb=true:=fun l=>D.nbs_map (fun _=>rfl) l
  dsimp only
  refine(?_:Go K (ze1 H1 as) (ze1 H1 as) (ze1 H1 as) _ [.un,.d (.lst d.grow.subs),.d (.lst (d.subs.map fun x=>.int (x.lenD:Nat))),.un] _) (ze1 H1 as) (ze1 H1 as) O' S2
  refine za2 (d:=.bl (decide (D.lst (d.subs.map fun x=>.int (x.lenD:Nat))= .lst (d.subs.map fun x=>.int (x.lenD:Nat))))) (zu8 (EvL.b (EvO.l (yct ee (zgg d.grow.subs id (fun _=>true) (fun x=>.int ((x.lenD:Nat) - 1)) (Ev.l (by rw[Zmm];exact zaa rfl)) (zbu (by decide)) (by decide) (by rw[Ziv];omega) fun x hx=>⟨_,zan,zf8,fun _=>by
    rw[<- hn x (hgsub x hx)]
    exact yda (zea (Ev.l (hf _ _ _ _ x (hgsub x hx)))).b zaj.b⟩)))) (zaa rfl).b (hnb _) (hnb _) ?_) fun v F H' e r=>?_
  .have:=depL (fun x:D=>D.int (x.lenD:Nat)) 0 (fun _=>Zio _) d.subs
   omega
  .rw[decide_eq_true rfl] at r
   rw[r.of_bl]
   exact hQ H' fun b o hb eb=>e.hh b o (by rw[zd2 hb];exact hH1 b o eb)
noncomputable def PapA:Pap->Prop
 | .nev _=>True
 | .rin rows=>∀q∈rows,1<=q.2
 | .cas _ _ a b=>PapA a/\PapA b
theorem zzj{ps:List Pr}{as:List Apt}{l:Int}(h:∀p∈ps,p.2.2≠0):∀n:Nat,(∀g,PapA ((papS ps as l n).1 g))/\(∀g k,PapA ((papS ps as l n).2.1 g k)) /\ ∀g k,PapA ((papS ps as l n).2.2 g k)
 | 0=>⟨fun _=>trivial,fun _ _=>trivial,fun _ _=>trivial⟩
 | n+1=>by
  obtain⟨h1,h2,h3⟩:=zzj h n
  refine⟨fun g=>?_,fun g k=>?_,fun g k=>?_⟩
  .show PapA (if _ then _ else _)
   split
   .intro q hq
    obtain⟨p,hp,rfl⟩:=Zit.mp hq
    have:=h p (Zip.mp (Zip.mp hp).1).1
    show 1<=absI p.2.2
    unfold absI
    split <;> omega
   .exact h3 _ _
  .show PapA (if _ then _ else _)
   split
   .trivial
   .exact h1 _
  .show PapA (if _ then _ else if _ then _ else _)
   split
   .exact h1 _
   .split
    .exact h3 _ _
    .exact⟨h2 _ _,h3 _ _⟩
theorem yfs{m:Nat}{ps:List Pr}{as:List Apt}(h:∀p∈ps,p.2.2≠0):PapA (papO m ps as):=by unfold papO;exact(zzj h _).1 _
theorem zrl(r:List Nat):D.subss (r.map encN)=[]:=by
 induction r with
 | nil=>rfl
 | cons a r ih=>rw[Zik,D.subss,ih];rfl
theorem zyw(rows:List Row):D.subss (rows.map za9)=rows.map fun q=>.lst (q.1.map encN):=by
 induction rows with
 | nil=>rfl
 | cons a r ih =>
  rw[Zik,D.subss,ih,Zik]
  show D.subss [.lst (a.1.map encN),.int a.2]++_=_
  rw[D.subss,D.subs,zrl]
  rfl
theorem zpv:∀{p:Pap},PapR 100 p->(zao p).subs.length<=101*p.sz /\ ∀x∈(zao p).subs,x.lenD<=1000000
 | .nev r,h=>by
  have h:r.length<=100:=h
  have e:(zao (.nev r)).subs=[.lst (r.map encN)]:=by
   show D.subss [.str zbf,.lst (r.map encN)]=_
   rw[D.subss,D.subss,D.subs,zrl];rfl
  rw[e]
  refine⟨by show 1<=101*1;decide,fun x hx=>?_⟩
  rw[Zic.mp hx]
  show(r.map encN).length<=_
  rw[Zia];omega
 | .rin rows,h=>by
  have e:(zao (.rin rows)).subs= .lst (rows.map za9)::rows.map fun q=>.lst (q.1.map encN):=by
   show D.subss [.str za8,.lst (rows.map za9)]=_
   rw[D.subss,D.subss,D.subs,zyw,D.subss,Zji];rfl
  obtain⟨hl,hq⟩:=h
  rw[e]
  refine⟨?_,fun x hx=>?_⟩
  .rw[Zj7,Zia]
   show rows.length+1<=101*1
   omega
  .rcases Ziy.mp hx with rfl | z
   .show(rows.map za9).length<=_
    rw[Zia];omega
   .obtain⟨q,hm,rfl⟩:=Zit.mp z
    have:=hq q hm
    show(q.1.map encN).length<=_
    rw[Zia];omega
 | .cas i j a b,h=>by
  obtain⟨a1,a2⟩:=zpv h.2.2.1
  obtain⟨b1,b2⟩:=zpv h.2.2.2
  have e:(zao (.cas i j a b)).subs=(zao a).subs++(zao b).subs:=by
   show D.subss [.str zbp,encN i,encN j,zao a,zao b]=_
   rw[D.subss,D.subss,D.subss,D.subss,D.subss,D.subss,Zji];rfl
  rw[e]
  refine⟨?_,fun x hx=>?_⟩
  .rw[Zis]
   show _<=101*(a.sz+b.sz+1)
   omega
  .rcases Zin.mp hx with z | z
   .exact a2 x z
   .exact b2 x z
noncomputable def zyc(q:Int×Int×Int)(ds:List D):Prop:=ds=[.int q.1,.int q.2.1,.int q.2.2]/\q.2.1<=q.1/\(q.2.2<0\/q.1<q.2.2)
theorem zkl(Z:Tx K mg ad0):FnOk P w K mg base CX0 1 ad0.Zb4 ad0.Zbt zer (SpG K zyc fun _=>.bl true):=by
 refine okG Z.Zaj.F zow (by rintro q ds ⟨rfl,_⟩;rfl) fun cdv A outer s H Q E hr=>⟨_,(zag (zas (zd7 (zat zhz (by rfl) Z.Zab Zlv (zab (pv 0) (zab (zik (v:=.ty "int") (by rfl) Z.Zfs Zvx rfl) zae))) (zd7 (ycw (zat zhf (by rfl) Z.Zab Zlv (zab (pv 0) (zab (zik (v:=.ty "bool") (by rfl) Z.Zf7 boot_bool rfl) zae)))) (zd7 (zbc zvh (pv 1) (pv 0) (zau _)) (zeu (ybf (zbc zkp (pv 2) zai (zau _)) (zeu (zbc zkp (pv 0) (pv 2) (zau _)))))))))),fun G ds q hp rt=>?_⟩
 obtain⟨f,l,m⟩:=q
 obtain⟨rfl,h1,h2⟩:=hp
 have h1:l<=f:=h1
 have h2:m<0\/f<m:=h2
 have e:(true&&(!false&&(decide (l<=f)&&(decide (m<0)||decide (f<m)))))=true:=by
  rw[decide_eq_true h1]
  rcases h2 with z | z
  .rw[decide_eq_true z];rfl
  .rw[decide_eq_true z,Zuk];rfl
 refine za2 (d:=.bl (true&&(!false&&(decide (l<=f)&&(decide (m<0)||decide (f<m)))))) (zew (ydh (zaa rfl).b) fun _=>zew (yco (zxv (zaa rfl).b)) fun _=>zew (zyz (zaa rfl).b (zaa rfl).b) fun _=>yav (zkx (zaa rfl).b zaj.b) fun _=>zkx (zaa rfl).b (zaa rfl).b) ?_
 rw[e];exact rt
noncomputable def yfn(q:List Nat×Nat)(ds:List D):Prop:=ds=[.lst (q.1.map encN),encN q.2]/\q.1.length<=100 /\ ∀k∈q.1,k<q.2
theorem zn5(Z:Tx K mg ad0):FnOk P w K mg base CX0 2 ad0.Zbd ad0.Zbb zdz (SpG K yfn fun _=>.bl true):=by
 have Zb2:=zkl (P:=P) (w:=w) (base:=base) Z
 refine okG Z.Zbc.F zn7 (by rintro q ds ⟨rfl,_⟩;rfl) fun cdv A outer s H Q E hr=>⟨_,(zag (zas (zd7 (zat (show zcm _ _ (fun xs H Q=>∃p ys,xs=[.ref p,.ty "list"]/\SqL K H p ys/\Q (.bl true) H) from zf3) (by rfl) Z.Zab Zlv (zab (pv 0) (zab (zik (v:=.ty "list") (by rfl) Z.Zd3 Zpx rfl) zae))) (zeu (zat (zke rfl) (by rfl) Z.Ze6 Zr8 (zab (zly rfl (LcOk.of (Nx:=(["_law_ring_here", "_law_many"]:List Str)) (sc:=zah zdt) (N':=(["_law_one", "_law_many"]:List Str)) (nt:=1) (cs:=[1]) rfl rfl (by decide +kernel)) (za6 (pv 0)) (fun _ _ _ _=>(zbj (i:=0) (show Zjt (["_law_one", "_law_many"]:List Str) by decide +kernel) rfl (Zld rfl))) (fun _ _ _ _=>zd1) (fun _ _ _ _=>(pcX Zb2 hr Z.Zaj (zab (pv 0) (zab zai (zab (pv 1) zae)))))) zae)))))),fun G ds q hp rt=>?_⟩
 obtain⟨r,m⟩:=q
 obtain⟨rfl,h1,h2⟩:=hp
 have h1:r.length<=100:=h1
 have h2:∀k∈r,k<m:=h2
 refine za2 (d:=.bl (true&&r.all fun _=>true)) (zew (yc9 (zaa rfl).l) fun _=>zm8 (xs:=r) (g:=fun _=>true) (EvO.l (yct (ds:=(r.filter fun _=>true).map fun _=>.bl true) (by rw[Zkp.mpr (fun _ _=>rfl)]) (zgg r encN (fun _=>true) (fun _=>.bl true) (zaa rfl).l (zbu (by decide)) (by decide) (by rw[Ziv];omega) fun k hk=>⟨_,zan,zf8,fun _=>zbe (pre:=zyc) (res:=fun _=>.bl true) ((k:Int),0,(m:Int)) (zac (zaa (i:=0) rfl) (zac zaj (zac (d:=encN m) (zaa (i:=1) rfl) zaf))) ⟨rfl,by show(0:Int)<=k;omega,.inr (by have:=h2 k hk;show(k:Int)<m;omega)⟩⟩)))) ?_
 rw[show(true&&r.all fun _=>true)=true by simp]
 exact rt
noncomputable def zv2(n:Nat)(q:Pap×Nat)(ds:List D):Prop:=ds=[zao q.1,encN q.2]/\q.1.dp<n/\PapR 100 q.1/\zzk q.2 q.1/\PapA q.1
theorem zzf(Z:Tx K mg ad0){n:Nat}(Zen:FnOk P w K mg base CX0 (n+3) ad0.Za8 ad0.Za9 zeb (SpG K (zv2 n) fun q=>.int (q.1.sz:Nat))):FnOk P w K mg base CX0 (n+4) ad0.Za8 ad0.Za9 zeb (SpG K (zv2 (n+1)) fun q=>.int (q.1.sz:Nat)):=by
 have Zb2:=zkl (P:=P) (w:=w) (base:=base) Z
 have Zfb:=zn5 (P:=P) (w:=w) (base:=base) Z
 refine okG (k:=n+3) Z.Zb9.F znf (by rintro q ds ⟨rfl,_⟩;rfl) fun cdv A outer s H Q E hr=>⟨_,(zad (zbt (PW.pt (zhi (zd6 (zc2 (zat (show zcm _ _ (fun xs H Q=>∃p ys,xs=[.ref p,.ty "tuple"]/\SqT K H p ys/\Q (.bl true) H) from zga) (by rfl) Z.Zab Zlv (zab (pv 0) (zab (zik (v:=.ty "tuple") (by rfl) Z.Zfl boot_tuple rfl) zae))))) (zhi (zaw zkp (zat zay (by rfl) Z.Zac Zk8 (zab (pv 0) zae)) zai (zau _)) (zh0 (zaw (show OpR _ _ (rInD K true) from zrg hr.units) (za4 (show IxR _ (rIxT K) from za5) (pv 0) zai (fun _ _=>rfl)) (zbz (zab zfx (zab zfx (zab zfx zae)))) (by with_unfolding_all rfl)))))) (zag (zas zai)) zax)
   (zad (zbt (zaw zd4 (za4 (show IxR _ (rIxT K) from za5) (pv 0) zai (fun _ _=>rfl)) zfx (zau _)) (zag (zas (za4 (show IxR _ (rIxL K) from zbk) (zca (zab zai (zab zai zae))) (zde zzv (by rfl) Z.Zfs Zvx (zab (zd7 (zbc zd4 (zat zay (by rfl) Z.Zac Zk8 (zab (pv 0) zae)) zai (zau _)) (zeu (pcX (hle:=by omega) Zfb hr Z.Zbc (zab (za4 (show IxR _ (rIxT K) from za5) (pv 0) zai (fun _ _=>rfl)) (zab (pv 1) zae))))) zae)) (fun _ _=>rfl)))) zax)
   (zad (zbt (zaw zd4 (za4 (show IxR _ (rIxT K) from za5) (pv 0) zai (fun _ _=>rfl)) zfx (zau _)) (zad (zbt (PW.pt (zhi (zaw zn9 (zat zay (by rfl) Z.Zac Zk8 (zab (pv 0) zae)) zai (zau _)) (zhi (zd6 (zc2 (zat (show zcm _ _ (fun xs H Q=>∃p ys,xs=[.ref p,.ty "list"]/\SqL K H p ys/\Q (.bl true) H) from zf3) (by rfl) Z.Zab Zlv (zab (za4 (show IxR _ (rIxT K) from za5) (pv 0) zai (fun _ _=>rfl)) (zab (zik (v:=.ty "list") (by rfl) Z.Zd3 Zpx rfl) zae))))) (zh0 (zaw zlf (zat zay (by rfl) Z.Zac Zk8 (zab (za4 (show IxR _ (rIxT K) from za5) (pv 0) zai (fun _ _=>rfl)) zae)) zai (zau _)))))) (zag (zas zai)) zax)
   (zad (zbn Zix rfl (za6 (za4 (show IxR _ (rIxT K) from za5) (pv 0) zai (fun _ _=>rfl))) (pgn 2 znf.nd) (zad (zbt (PW.pt (zhi (zd6 (zc2 (zat (show zcm _ _ (fun xs H Q=>∃p ys,xs=[.ref p,.ty "tuple"]/\SqT K H p ys/\Q (.bl true) H) from zga) (by rfl) Z.Zab Zlv (zab (pv 2) (zab (zik (v:=.ty "tuple") (by rfl) Z.Zfl boot_tuple rfl) zae))))) (zhi (zaw zn9 (zat zay (by rfl) Z.Zac Zk8 (zab (pv 2) zae)) zai (zau _)) (zh0 (zd6 (zc2 (pcX (hle:=by omega) Zfb hr Z.Zbc (zab (za4 (show IxR _ (rIxT K) from za5) (pv 2) zai (fun _ _=>rfl)) (zab (pv 1) zae))))))))) (zag (zas zai)) zax)
   (zag (zbt (zd6 (zc2 (pcX (hle:=by omega) Zb2 hr Z.Zaj (zab (za4 (show IxR _ (rIxT K) from za5) (pv 2) zai (fun _ _=>rfl)) (zab zai (zab (zob zjf zai) zae)))))) (zag (zas zai)) zax))))
   (zag (zas zai)))) zax)
   (zad (zbt (PW.pt (zhi (zaw zn9 (zat zay (by rfl) Z.Zac Zk8 (zab (pv 0) zae)) zai (zau _)) (zhi (zd6 (zc2 (pcX (hle:=by omega) Zb2 hr Z.Zaj (zab (za4 (show IxR _ (rIxT K) from za5) (pv 0) zai (fun _ _=>rfl)) (zab zai (zab (pv 1) zae)))))) (zh0 (zd6 (zc2 (pcX (hle:=by omega) Zb2 hr Z.Zaj (zab (za4 (show IxR _ (rIxT K) from za5) (pv 0) zai (fun _ _=>rfl)) (zab zai (zab (pv 1) zae)))))))))) (zag (zas zai)) zax)
   (zag (zas (zbr zc1 (zbr zc1 zai (pcX (hle:=by omega) Zen hr Z.Zb9 (zab (za4 (show IxR _ (rIxT K) from za5) (pv 0) zai (fun _ _=>rfl)) (zab (pv 1) zae)))) (pcX (hle:=by omega) Zen hr Z.Zb9 (zab (za4 (show IxR _ (rIxT K) from za5) (pv 0) zai (fun _ _=>rfl)) (zab (pv 1) zae)))))))))),fun G ds q hp rt=>?_⟩
 obtain⟨p,m⟩:=q
 obtain⟨rfl,hdp,hR,hI,hA⟩:=hp
 have rt:RtD K G H Q (.int (p.sz:Nat)):=rt
 cases p with
 | nev r =>
  have eT:zao (.nev r)= .tup [.str zbf,.lst (r.map encN)]:=rfl
  rw[eT]
  refine zak (zbd (b:=!true||(decide ((2:Int)<2) || !decide (D.str zbf∈[.str zbp,.str za8,.str zbf]))) (zcx (zcf (ze9 (zt7 (zaa rfl).b))) fun _=>zcx (zal (zkx (zjq (ds:=[.str zbf,.lst (r.map encN)]) (zaa rfl).b).b zaj.b)) fun _=>zal (zm3 (za0 (ds:=[.str zbf,.lst (r.map encN)]) (zaa rfl) zaj.b rfl).b (zcd (ds:=[.str zbp,.str za8,.str zbf]) (zac (zbw rfl (by decide)) (zac (zbw rfl (by decide)) (zac (zbw rfl (by decide)) zaf))) (small (by simp))).b rfl rfl (by decide))) (fun hb=>?_) fun _=>?_)
  .rw[decide_eq_true (show D.str zbf∈[.str zbp,.str za8,.str zbf] by simp)] at hb;cases hb
  refine za1 ?_
  ((try dsimp only);refine zap ?_)
  refine zak (zbd (b:=true) (zal (zdd (l:=zbf) (m:=zbf) (za0 (ds:=[.str zbf,.lst (r.map encN)]) (zaa rfl) zaj.b rfl).b (zbw rfl (by decide)).b)) (fun _=>?_) fun h=>by cases h)
  exact za2 (d:=.int 1) (zdr (ds:=[.int 99999,.int 1]) (EvO.l (zbs (zac zaj (zac zaj zaf)) (small (by simp)))) (Ev.b (yea (b:=decide ((2:Int)=2)&&true) (Ev.b (zew (zgb (zjq (ds:=[.str zbf,.lst (r.map encN)]) (zaa rfl).b).b zaj.b) fun _=>zbe (pre:=yfn) (res:=fun _=>.bl true) (r,m) (zac (za0 (ds:=[.str zbf,.lst (r.map encN)]) (zaa rfl) zaj.b rfl) (zac (zaa rfl) zaf)) ⟨rfl,hR,hI⟩)))) rfl) rt
 | rin rows =>
  have eT:zao (.rin rows)= .tup [.str za8,.lst (rows.map za9)]:=rfl
  rw[eT]
  refine zak (zbd (b:=!true||(decide ((2:Int)<2) || !decide (D.str za8∈[.str zbp,.str za8,.str zbf]))) (zcx (zcf (ze9 (zt7 (zaa rfl).b))) fun _=>zcx (zal (zkx (zjq (ds:=[.str za8,.lst (rows.map za9)]) (zaa rfl).b).b zaj.b)) fun _=>zal (zm3 (za0 (ds:=[.str za8,.lst (rows.map za9)]) (zaa rfl) zaj.b rfl).b (zcd (ds:=[.str zbp,.str za8,.str zbf]) (zac (zbw rfl (by decide)) (zac (zbw rfl (by decide)) (zac (zbw rfl (by decide)) zaf))) (small (by simp))).b rfl rfl (by decide))) (fun hb=>?_) fun _=>?_)
  .rw[decide_eq_true (show D.str za8∈[.str zbp,.str za8,.str zbf] by simp)] at hb;cases hb
  refine za1 ?_
  ((try dsimp only);refine zap ?_)
  refine zak (zbd (b:=false) (zal (zdd (l:=za8) (m:=zbf) (za0 (ds:=[.str za8,.lst (rows.map za9)]) (zaa rfl) zaj.b rfl).b (zbw rfl (by decide)).b)) (fun h=>by cases h) fun _=>?_)
  refine za1 ?_
  ((try dsimp only);refine zap ?_)
  refine zak (zbd (b:=true) (zal (zdd (l:=za8) (m:=za8) (za0 (ds:=[.str za8,.lst (rows.map za9)]) (zaa rfl) zaj.b rfl).b (zbw rfl (by decide)).b)) (fun _=>?_) fun h=>by cases h)
  have hl:rows.length<=100:=hR.1
  have e1:(!decide ((2:Int)=2)||(!true||decide (((rows.map za9).length:Int)>100)))=false:=by
   rw[decide_eq_false (show ¬ ((rows.map za9).length:Int)>100 by rw[Zia];omega)];rfl
  refine zak (zbd (b:=!decide ((2:Int)=2)||(!true||decide (((rows.map za9).length:Int)>100))) (zcx (zal (zol (zjq (ds:=[.str za8,.lst (rows.map za9)]) (zaa rfl).b).b zaj.b)) fun _=>zcx (zcf (ze9 (yc9 (Ev.l (za0 (ds:=[.str za8,.lst (rows.map za9)]) (zaa rfl) zaj.b rfl))))) fun _=>zal (zk7 (zea (Ev.l (za0 (ds:=[.str za8,.lst (rows.map za9)]) (zaa rfl) zaj.b rfl))).b zaj.b)) (fun hb=>by rw[e1] at hb;cases hb) fun _=>?_)
  refine za1 ?_
  ((try dsimp only);refine zap ?_)
  refine zak (zcs za9 rows (fun k ss=>∃v2:Sl,ss=[.d (.tup [.str za8,.lst (rows.map za9)]),.d (encN m),v2]) (za0 (ds:=[.str za8,.lst (rows.map za9)]) (zaa rfl) zaj.b rfl) ⟨.un,rfl⟩ ?_ ?_)
  .rintro L' k q ss hL hk ⟨v2,rfl⟩
   refine⟨_,zan,fun N hN=>?_⟩
   have hq:=Zii hk
   refine zak (zbd (b:=!true||(!decide ((2:Int)=2) || !true)) (zcx (zcf (ze9 (zt7 (ds:=[.lst (q.1.map encN),.int q.2]) (zaa rfl).b))) fun _=>zcx (zal (zol (zjq (ds:=[.lst (q.1.map encN),.int q.2]) (zaa rfl).b).b zaj.b)) fun _=>zcf (ze9 (zbe (pre:=yfn) (res:=fun _=>.bl true) (q.1,m) (zac (za0 (ds:=[.lst (q.1.map encN),.int q.2]) (zaa rfl) zaj.b rfl) (zac (zaa rfl) zaf)) ⟨rfl,hR.2 q hq,hI q hq⟩))) (fun hb=>by cases hb) fun _=>?_)
   refine za1 ?_
   ((try dsimp only);refine zap ?_)
   refine zbd (b:=!true) (zcf (ze9 (zbe (pre:=zyc) (res:=fun _=>.bl true) (q.2,1,-1) (zac (za0 (ds:=[.lst (q.1.map encN),.int q.2]) (zaa rfl) zaj.b rfl) (zac zaj (zac (zj8 zaj.b) zaf))) ⟨rfl,hA q hq,.inl (show(-1:Int)<0 by decide)⟩))) (fun hb=>by cases hb) fun _=>?_
   exact za1 (hN _ ⟨_,rfl⟩)
  rintro ss ⟨v2,rfl⟩
  ((try dsimp only);refine zap ?_)
  exact za2 zaj rt
 | cas i j a b =>
  have eT:zao (.cas i j a b)= .tup [.str zbp,encN i,encN j,zao a,zao b]:=rfl
  rw[eT]
  refine zak (zbd (b:=!true||(decide ((5:Int)<2) || !decide (D.str zbp∈[.str zbp,.str za8,.str zbf]))) (zcx (zcf (ze9 (zt7 (zaa rfl).b))) fun _=>zcx (zal (zkx (zjq (ds:=[.str zbp,encN i,encN j,zao a,zao b]) (zaa rfl).b).b zaj.b)) fun _=>zal (zm3 (za0 (ds:=[.str zbp,encN i,encN j,zao a,zao b]) (zaa rfl) zaj.b rfl).b (zcd (ds:=[.str zbp,.str za8,.str zbf]) (zac (zbw rfl (by decide)) (zac (zbw rfl (by decide)) (zac (zbw rfl (by decide)) zaf))) (small (by simp))).b rfl rfl (by decide))) (fun hb=>?_) fun _=>?_)
  .rw[decide_eq_true (show D.str zbp∈[.str zbp,.str za8,.str zbf] by simp)] at hb;cases hb
  refine za1 ?_
  ((try dsimp only);refine zap ?_)
  refine zak (zbd (b:=false) (zal (zdd (l:=zbp) (m:=zbf) (za0 (ds:=[.str zbp,encN i,encN j,zao a,zao b]) (zaa rfl) zaj.b rfl).b (zbw rfl (by decide)).b)) (fun h=>by cases h) fun _=>?_)
  refine za1 ?_
  ((try dsimp only);refine zap ?_)
  refine zak (zbd (b:=false) (zal (zdd (l:=zbp) (m:=za8) (za0 (ds:=[.str zbp,encN i,encN j,zao a,zao b]) (zaa rfl) zaj.b rfl).b (zbw rfl (by decide)).b)) (fun h=>by cases h) fun _=>?_)
  refine za1 ?_
  ((try dsimp only);refine zap ?_)
  have hi:i<m:=hI.1
  have hj:j<m:=hI.2.1
  refine zak (zbd (b:=!decide ((5:Int)=5)||(!true || !true)) (zcx (zal (zol (zjq (ds:=[.str zbp,encN i,encN j,zao a,zao b]) (zaa rfl).b).b zaj.b)) fun _=>zcx (zcf (ze9 (zbe (pre:=zyc) (res:=fun _=>.bl true) ((i:Int),0,(m:Int)) (zac (za0 (ds:=[.str zbp,encN i,encN j,zao a,zao b]) (zaa rfl) zaj.b rfl) (zac zaj (zac (zaa rfl) zaf))) ⟨rfl,by show(0:Int)<=i;omega,.inr (by show(i:Int)<m;omega)⟩))) fun _=>zcf (ze9 (zbe (pre:=zyc) (res:=fun _=>.bl true) ((j:Int),0,(m:Int)) (zac (za0 (ds:=[.str zbp,encN i,encN j,zao a,zao b]) (zaa rfl) zaj.b rfl) (zac zaj (zac (zaa rfl) zaf))) ⟨rfl,by show(0:Int)<=j;omega,.inr (by show(j:Int)<m;omega)⟩))) (fun hb=>by cases hb) fun _=>?_)
  refine za1 ?_
  ((try dsimp only);refine zap ?_)
  have hdp:max a.dp b.dp+1<n+1:=hdp
  have es:((Pap.cas i j a b).sz:Int)=1+(a.sz:Nat)+(b.sz:Nat):=by
   show((a.sz+b.sz+1:Nat):Int)=_
   omega
  rw[es] at rt
  exact za2 (zc3 (zc3 zaj.b (Ev.b (zbe (pre:=zv2 n) (res:=fun q=>.int (q.1.sz:Nat)) (a,m) (zac (za0 (ds:=[.str zbp,encN i,encN j,zao a,zao b]) (zaa rfl) zaj.b rfl) (zac (zaa rfl) zaf)) ⟨rfl,by show a.dp<n;omega,hR.2.2.1,hI.2.2.1,hA.1⟩))).b (Ev.b (zbe (pre:=zv2 n) (res:=fun q=>.int (q.1.sz:Nat)) (b,m) (zac (za0 (ds:=[.str zbp,encN i,encN j,zao a,zao b]) (zaa rfl) zaj.b rfl) (zac (zaa rfl) zaf)) ⟨rfl,by show b.dp<n;omega,hR.2.2.2,hI.2.2.2,hA.2⟩))) rt
theorem zmn(Z:Tx K mg ad0):∀n:Nat,FnOk P w K mg base CX0 (n+3) ad0.Za8 ad0.Za9 zeb (SpG K (zv2 n) fun q=>.int (q.1.sz:Nat))
 | 0=>⟨fun vs H Q E h=>by obtain⟨_,_,q,_,_,h,_⟩:=h;exact absurd h.2.1 (Zjo _),fun A outer s H args us vs Q E _ _ _ _ h=>by obtain⟨_,_,q,_,_,h,_⟩:=h;exact absurd h.2.1 (Zjo _)⟩
 | n+1=>zzf Z (zmn Z n)
noncomputable def zs4(ns:List Int)(k:Int):Int:=ns.getD k.toNat 0
theorem zsi(ns:List Int)(k:Int):zgh [.lst (ns.map .int),.int k]= .int (zs4 ns k):=by
 show(ns.map D.int).getD k.toNat (.int 0)=_
 unfold zs4
 rw[Zh8,Zh8,Zie]
 cases ns[k.toNat]? <;> rfl
theorem yef{G Hz L:Hp}{ss:List Sl}{i:Nat}{tk:TE}{E:XK}{ns:List Int}{k:Int}(h:ss[i]? = some (.d (.lst (ns.map .int))))(e:Ev K G Hz L ss tk (.int k))(hk:0<=k):Ev K G Hz L ss (ze7 (SpD K zpb zgh) [] E (za7 (tVar i) (za7 tk tNil))) (.int (zs4 ns k)):=by
 rw[<- zsi]
 exact zbq (pre:=zpb) (res:=zgh) (zac (zaa h) (zac e zaf)) ⟨ns,k,rfl,hk⟩
noncomputable def yb4(K:Zh7)(T0:Addr):Sp:=fun vs H Q _=>∃(a:Addr) (ns:List Int),vs=[.ref a]/\SqL K H a (ns.map V.int)/\ns.length<=63/\HasT H T0 lamP lamQ /\ ∀H',Same H H'->Q (.bl true) H'
theorem zqu{K:Zh7}{H:Hp}:∀ns:List Int,Reps K H (ns.map D.int) (ns.map V.int)
 | []=>Reps.nil
 | n::ns=>Reps.cons Rep.int (zqu ns)
theorem yen{m n:Nat}{p:Pap}{as:List Apt}(hm:m<=7)(hn:n<=100)(h:PB m 21 n p)(ha:as.Nodup)(hl:as.length<=100)(hg:∀a∈as,a.1<a.2/\a.2<m):Fits (p,decP as)/\p.sz<=10000000:=by
 have hd:=h.2.2
 refine⟨⟨h.1.ok hn,⟨ha,by show as.length<=1000;omega,fun a hm'=>by have:=hg a hm';omega⟩,by show as.length+p.dp<=1000;omega⟩,?_⟩
 have h1:=ydt p
 have h2:2 ^ (p.dp+1)<=2 ^ 22:=Zoy (by decide) (by omega)
 have h3:(2:Nat) ^ 22=4194304:=by decide
 omega
theorem znl{α:Type}{K:Zh7}{G Hz L:Hp}{ss:List Sl}{t:TA}{ds:List D}{E:XK}{pre:α->List D->Prop}{res:α->D}(x:α)(a:EvA K G Hz L ss t ds)(hp:pre x ds)(hf:(res x).flat=true):Ev K G Hz L ss (ze7 (SpG K pre res) [] E t) (res x):=fun F H O Q S q =>
 a F H O _ S fun vs F1 H1 e1 r1=>⟨H1,ds,x,Same.refl _,by rw[Zji];exact r1,hp,fun v G' H' e2 r=>q v F1 H' (e1.trans ⟨Same.refl _,e1.fh.trans e2.hh,e2.hh,fun _ _ _ _=>rfl⟩) (r.flat hf)⟩
theorem PapR.up{n n':Nat}(hn:n<=n'):∀{p:Pap},PapR n p->PapR n' p
 | .nev _,h=>h
 | .rin _,h=>⟨Zjb h.1 hn,h.2⟩
 | .cas _ _ _ _,h=>⟨h.1,h.2.1,h.2.2.1.up hn,h.2.2.2.up hn⟩
theorem ygn{T0:Addr}(Z:Tx K mg ad0)(Y:LamAt base mg ad0.Zaa T0):FnOk P w K mg base CX0 90 ad0.Zgu ad0.Zfy zzg (yb4 K T0):=by
 have Zek:=zjo (P:=P) (w:=w) (base:=base) Z
 have Zhu:=zr3 (P:=P) (w:=w) (base:=base) Z
 have Zgl:=zn3 (P:=P) (w:=w) (base:=base) Z
 have Zgj:=zn1 (P:=P) (w:=w) (base:=base) Z
 have Zd2:=zlk (P:=P) (w:=w) (base:=base) Z 22
 have Zfm:=zq4 (P:=P) (w:=w) (base:=base) Z
 have Zfq:=zsb (P:=P) (w:=w) (base:=base) Z
 have Zgb:=zmm (P:=P) (w:=w) (base:=base) Z
 have Zen:=zmn (P:=P) (w:=w) (base:=base) Z 22
 have Zh1:=zv3 (P:=P) (w:=w) (base:=base) Z
 have Zfv:=zrt (P:=P) (w:=w) (base:=base) Z
 have Zfg:=zoe (P:=P) (w:=w) (base:=base) Z Y
 have Zhq:=zse (P:=P) (w:=w) (base:=base) Z Y
 refine Z.Zf6.F.ok zjj (fun vs H Q E h=>by obtain⟨a,ns,rfl,_⟩:=h;rfl) (fun cdv A outer s H vs Q E hr h=>⟨_,(zad (psn 1 zjj.nd (zbr zjd (pcX Zek hr Z.Zbm (zab (pv 0) (zab zai zae))) zai))
   (zad (yde (pcX Zhu hr Z.Zeq (zab (pv 0) (zab (pv 1) (zab zai zae)))) (zcp rfl (zaq (pgn 2 zjj.nd) (zaq (pgn 3 zjj.nd) zbv))))
   (zad (psn 4 zjj.nd (zbz (zab (zde zlr (by rfl) Z.Zd3 Zpx (zab (pv 2) zae)) (zab (zde zlr (by rfl) Z.Zd3 Zpx (zab (pv 3) zae)) zae))))
   (zad (psn 5 zjj.nd (pcX Zhq hr Z.Zep (zab (pv 1) (zab (pv 2) (zab (pv 3) zae)))))
   (zad (yde (pcX Zfg hr Z.Zef (zab (pv 1) (zab (pv 2) (zab (pv 3) zae)))) (zcp rfl (zaq (pgn 6 zjj.nd) (zaq (pgn 7 zjj.nd) zbv))))
   (zad (zbt (PW.pt (zhi (zaw zlf (pcX Zen hr Z.Zb9 (zab (pv 5) (zab (pv 1) zae))) zai (zau _)) (zhi (zaw zn9 (pv 6) (pcX Zfq hr Z.Zc1 (zab (pv 2) (zab (pv 7) zae))) (zau _)) (zh0 (zd6 (zc2 (pcX Zfm hr Z.Zcp (zab (pv 3) (zab (pv 7) zae))))))))) (zag (zas zd5)) zax)
   (zad (zbt (zd6 (zc2 (pcX Zd2 hr Z.Zbp (zab (pv 5) (zab (pcX Zgl hr Z.Zct (zab (pv 2) zae)) (zab (pcX Zgj hr Z.Zcu (zab (pv 3) zae)) (zab (pv 6) zae))))))) (zag (zas zd5)) zax)
   (zad (zbt (zaw (show OpR _ _ ybe from zzy) (pcX Zfv hr Z.Zdm (zab (pv 5) (zab (pv 1) (zab (pv 2) (zab (pv 3) (zab (pv 6) zae)))))) zd5 (zau _)) (zag (zas zd5)) zax)
   (zad (zbt (zaw (show OpR _ _ ybe from zzy) (pcX Zfv hr Z.Zdm (zab (pv 5) (zab (pv 1) (zab (pv 2) (zab (pv 3) (zab (zbr zc1 (pv 6) zai) zae)))))) zd5 (zau _)) (zag (zas zd5)) zax)
   (zad (zbn Zix rfl (za6 (ztm zye (pv 0) zz3 (zwp zai))) (pgn 8 zjj.nd) (zad (psn 9 zjj.nd (pcX Zgb hr Z.Zcd (zab (pv 1) (zab (pv 8) zae))))
   (zag (zbt (PW.pt (zjm (zc2 (pcX Zfm hr Z.Zcp (zab (pv 3) (zab (pv 9) zae)))) (zgi (zaw zkp (pcX Zfq hr Z.Zc1 (zab (pv 2) (zab (pv 9) zae))) (pv 6) (zau _))))) (zag (zas zd5)) zax))))
   (zag (zas (zd7 (zbc (show OpR _ _ (rEqD K) from ztl hr.units) (zbz (zab (pv 2) (zab (pv 3) zae))) (pv 4) (zau _)) (zeu (pcX Zh1 hr Z.Ze2 (zab (pv 5) zae)))))))))))))))),?_⟩)
 obtain⟨a,ns,rfl,sq,hl,hT,hQ⟩:=h
 have r0:Reps K H [.lst (ns.map .int)] [.ref a]:=Reps.cons (Rep.lst sq (zqu ns)) Reps.nil
 refine(?_:Go K H H H _ (slots 10 [.lst (ns.map .int)]) _) H H _ (zce (Same.refl H) r0 (by simp))
 have m0:=Znm (zs4 ns 0) (show(6:Int)≠0 by decide)
 have m1:=Zns (zs4 ns 0) (show(0:Int)<6 by decide)
 refine zak (za3 (zjg (yef rfl zaj (by decide)).b zaj.b (by decide)) ?_)
 obtain⟨m,em⟩:∃m:Nat,zs4 ns 0 % 6=(m:Int):=⟨(zs4 ns 0 % 6).toNat,by omega⟩
 rw[em]
 have h5:m<=5:=by omega
 ((try dsimp only);refine zap ?_)
 refine zak (ya6 (pre:=zx0) (R:=zy6) (ds:=[.lst (ns.map .int),.int m,.int 1]) (zac (zaa rfl) (zac (zaa rfl) (zac zaj zaf))) ⟨ns,m,1,rfl,by omega,by omega,by decide⟩ fun r hR=>?_)
 obtain⟨ps,as,rfl,hpl,hal,hg,hpn,han⟩:=hR ns m 1 rfl
 have hpl:ps.length<=10*m:=hpl
 have hal:as.length<=10*m:=hal
 have hg:zff m ps as:=hg
 have hgB:=zs1 hg
 have hpn:(ps.map keyP).Nodup:=hpn
 refine⟨_,zcy rfl (zar zan (zar zan zb6)),?_⟩
 ((try dsimp only);refine zap ?_)
 refine zak (za3 (zcd (ds:=[.lst (ps.map encP),.lst (as.map encA)]) (zac (EvO.ev (ztn (zaa rfl).l)) (zac (EvO.ev (ztn (zaa rfl).l)) zaf)) (small (by simp))) ?_)
 ((try dsimp only);refine zap ?_)
 have hO:=yet (m:=m) (by omega) (show ps.length<=100 by omega) hg
 refine zak (zso (d:=zao (papO m ps as)) (by
  rw[<- zqc]
  exact zz6 hT (zac (zaa rfl) (zac (zaa rfl) (zac (zaa rfl) zaf))) ⟨m,ps,as,rfl,by omega,by omega,by omega,hg⟩) fun pv av _=>?_)
 ((try dsimp only);refine zap ?_)
 have hB:=zpp hg
 have hmin:∀h∈rgs m,zkk as h->zb1 ps (bestF m ps as)<=zb1 ps h:=(zkc (m:=m) (ps:=ps) (as:=as) (by omega) (by omega) hg).2.2.2
 have hsh:zc9 m (wtsP ps) (zb1 ps (bestF m ps as)) (papO m ps as) (decP as)=true:=by unfold papO;exact zwz (by omega) (by omega) hg hpn han (Zio _)
 have hsz:(papO m ps as).sz<=40000:=by unfold papO;exact yfx (by omega) (by omega) hg
 have hpA:PapA (papO m ps as):=yfs fun p hp=>(hg.1 p hp).2.2
 refine zak (ygz (zui hT (zac (zaa rfl) (zac (zaa rfl) (zac (zaa rfl) zaf))) (by omega) (by omega) (by omega) hg) (zcy (ds:=[.int (zb1 ps (bestF m ps as)),encG (bestF m ps as)]) rfl (zar zan (zar zan zb6))) ?_)
 ((try dsimp only);refine zap ?_)
 generalize papO m ps as=p0 at hO hsh hsz hpA
 generalize bestF m ps as=bg at hB hmin hsh
 have hbr:bg∈rgs m:=hB.rg
 have lenB:(toI bg).length=m:=by unfold toI;rw[Zia,zgl hbr]
 have eKb:=zh6 as (toI bg)
 rw[<- zbg] at eKb
 have eLb:=zj1 ps (toI bg)
 rw[zoq ps fun p hp=>zxi (toI bg) p (hg.1 p hp).2.2,zj7,<- zbg] at eLb
 have hkb:ze0 as (toI bg)=true:=zio.mpr hB.kp
 obtain⟨hR0,hI0,hd0⟩:=hO
 have hR1:PapR 100 p0:=PapR.up (show ps.length<=100 by omega) hR0
 obtain⟨hfit,hsz2⟩:=yen (m:=m) (by omega) (by omega) (⟨hR0,hI0,hd0⟩:PB m 21 ps.length p0) han (by omega) hg.2
 generalize hlst:zb1 ps bg=lst at hmin hsh eLb
 refine zak (zbd (b:=decide (((p0.sz:Nat):Int)>40000)||(!decide (lst=lst) || !ze0 as (toI bg))) (zcx (zal (zk7 (Ev.b (znl (pre:=zv2 22) (res:=fun q=>.int (q.1.sz:Nat)) (p0,m) (zbm (ybq rfl) (zbm (zaa rfl).b zfh)) ⟨rfl,by show p0.dp<22;omega,hR1,hI0,hpA⟩ rfl)) zaj.b)) fun _=>zcx (zal (zol (zaa rfl).b (Ev.b (by rw[<- eLb];exact zbq (pre:=zsf) (res:=zos) (zac (zaa rfl) (zac (zaa rfl) zaf)) ⟨ps,toI bg,by rw[<- zbg],fun p hp=>by rw[lenB];exact hgB.1 p hp,by omega⟩)))) fun _=>zcf (ze9 (by rw[<- eKb];exact zbq (pre:=zzu) (res:=zv1) (zac (zaa rfl) (zac (zaa rfl) zaf)) ⟨as,toI bg,by rw[<- zbg],fun a ha=>by rw[lenB];exact⟨(hgB.2 a ha).1,(hgB.2 a ha).2.1⟩,by omega⟩))) (fun hb=>?_) fun _=>?_)
 .rw[hkb,decide_eq_false (show ¬ ((p0.sz:Nat):Int)>40000 by omega),decide_eq_true rfl] at hb;cases hb
 refine za1 ?_
 ((try dsimp only);refine zap ?_)
 have hjd:zgq (wtsP ps) lst p0 (decP as)=true:=by rw[<- zk9 _ _ hI0];exact hsh
 refine zak (zbd (b:=!zgq (wtsP ps) lst p0 (decP as)) (zcf (ze9 (znl (pre:=ybj 22) (res:=yab) (p0,wtsP ps,decP as,lst) (zbm (ybq rfl) (zbm (Ev.b (zbe (pre:=ya4) (res:=fun ps=>wtsD (wtsP ps)) ps (zac (zaa rfl) zaf) ⟨rfl,hpn,by omega⟩)) (zbm (Ev.b (zbe (pre:=ybl) (res:=fun as=>decB (decP as)) as (zac (zaa rfl) zaf) ⟨rfl,han,by omega⟩)) (zbm (zaa rfl).b zfh)))) ⟨rfl,hfit,by show p0.dp<22;omega⟩ rfl))) (fun hb=>by rw[hjd] at hb;cases hb) fun _=>?_)
 refine za1 ?_
 ((try dsimp only);refine zap ?_)
 have shw:∀{G Hz L:Hp} {ss:List Sl} {t5 t1 t2 t3 t6:TE} {E:XK} (le:Int),EvB K G Hz L ss t5 (zao p0)->Ev K G Hz L ss t1 (encN m)->Ev K G Hz L ss t2 (.lst (ps.map encP))->Ev K G Hz L ss t3 (.lst (as.map encA))->Ev K G Hz L ss t6 (.int le)->Ev K G Hz L ss (ze7 (SpG K yfj yek) [] E (za7 t5 (za7 t1 (za7 t2 (za7 t3 (za7 t6 tNil)))))) (.bl (zc9 m (wtsP ps) le p0 (decP as))):=fun le a5 a1 a2 a3 a6 =>
  znl (pre:=yfj) (res:=yek) (p0,m,ps,as,le) (zbm a5 (zbm a1.b (zbm a2.b (zbm a3.b (zbm a6.b zfh))))) ⟨rfl,⟨hfit,hsz2⟩,hpn,by show ps.length<=1000;omega⟩ rfl
 refine zak (zbd (b:=!(zc9 m (wtsP ps) lst p0 (decP as) == true)) (zal (zw9 (shw lst (ybq rfl) (zaa rfl) (zaa rfl) (zaa rfl) (zaa rfl)).b zfv.b)) (fun hb=>by rw[hsh] at hb;cases hb) fun _=>?_)
 refine za1 ?_
 ((try dsimp only);refine zap ?_)
 have hno:zc9 m (wtsP ps) (lst+1) p0 (decP as)=false:=by
  cases hc:zc9 m (wtsP ps) (lst+1) p0 (decP as) with
  | false=>rfl
  | true =>
   have:=yiu (g:=bg) hpn han hB.kp hc
   omega
 refine zak (zbd (b:=!(zc9 m (wtsP ps) (lst+1) p0 (decP as) == false)) (zal (zw9 (shw (lst+1) (ybq rfl) (zaa rfl) (zaa rfl) (zaa rfl) (zc3 (zaa rfl).b zaj.b)).b zfv.b)) (fun hb=>by rw[hno] at hb;cases hb) fun _=>?_)
 refine za1 ?_
 ((try dsimp only);refine zap ?_)
 have exs:L2.cutD (ns.map D.int) none (some 60)=(ns.take 60).map D.int:=by rw[ydz _ (by decide),Zq9];rfl
 generalize ns.take 60=xs at exs
 refine zak (zcs D.int xs (fun k ss=>∃(v8 v9:Sl),ss=[.d (.lst (ns.map .int)),.d (encN m),.d (.lst (ps.map encP)),.d (.lst (as.map encA)),.d (.tup [.lst (ps.map encP),.lst (as.map encA)]),osl pv av (zao p0),.d (.int lst),.d (encG bg),v8,v9]) (by
  rw[<- exs]
  exact EvO.ev (zx1 (zaa rfl).l yc3 (zu6 zaj.b))) ⟨.un,.un,rfl⟩ ?_ ?_)
 .rintro L' k x ss hL hk ⟨v8,v9,rfl⟩
  refine⟨_,zan,fun N hN=>?_⟩
  refine zak (yeo (pre:=preG) (R:=relG) (ds:=[.int m,.int x]) (zac (zaa rfl) (zac (zaa rfl) zaf)) ⟨m,x,rfl,by omega,by omega⟩ fun rs hR=>?_)
  obtain⟨g,rfl,hgr⟩:=hR m x rfl
  have hgr:g∈rgs m:=hgr
  refine⟨_,zan,?_⟩
  ((try dsimp only);refine zap ?_)
  have lenI:(toI g).length=m:=by unfold toI;rw[Zia,zgl hgr]
  have eK:=zh6 as (toI g)
  rw[<- zbg] at eK
  have eL:=zj1 ps (toI g)
  rw[zoq ps fun p hp=>zxi (toI g) p (hg.1 p hp).2.2,zj7,<- zbg] at eL
  refine zbd (b:=ze0 as (toI g)&&decide (zb1 ps g<lst)) (zgn (ze9 (by rw[<- eK];exact zbq (pre:=zzu) (res:=zv1) (zac (zaa rfl) (zac (zaa rfl) zaf)) ⟨as,toI g,by rw[<- zbg],fun a ha=>by rw[lenI];exact⟨(hgB.2 a ha).1,(hgB.2 a ha).2.1⟩,by omega⟩)) fun _=>zal (zkx (i:=zb1 ps g) (Ev.b (by rw[<- eL];exact zbq (pre:=zsf) (res:=zos) (zac (zaa rfl) (zac (zaa rfl) zaf)) ⟨ps,toI g,by rw[<- zbg],fun p hp=>by rw[lenI];exact hgB.1 p hp,by omega⟩)) (zaa rfl).b)) (fun hb=>?_) (fun _=>?_)
  .exfalso
   rw[Ziq,decide_eq_true_eq] at hb
   have h1:=hmin g hgr (zio.mp hb.1)
   have h2:=hb.2
   omega
  .exact za1 (hN _ ⟨_,_,rfl⟩)
 rintro ss ⟨v8,v9,rfl⟩
 ((try dsimp only);refine zap ?_)
 have nbP:(D.tup [.lst (ps.map encP),.lst (as.map encA)]).nb=true:=by
  show D.nbs [.lst (ps.map encP),.lst (as.map encA)]=true
  simp only[D.nbs,show(D.lst (ps.map encP)).nb=true from D.nbs_map (fun _=>rfl) ps,show(D.lst (as.map encA)).nb=true from D.nbs_map (fun _=>rfl) as];rfl
 have dpP:(D.tup [.lst (ps.map encP),.lst (as.map encA)]).dep<=60:=by
  have h1:=depL encP 1 (fun _=>Zio _) ps
  have h2:=depL encA 1 (fun _=>Zio _) as
  show max _ (max _ 0)+1<=60
  omega
 refine fun F H1 O S=>?_
 refine(zu8 (zcd (ds:=[.lst (ps.map encP),.lst (as.map encA)]) (zac (zaa (i:=2) rfl) (zac (zaa (i:=3) rfl) zaf)) (small (by simp))).b (zaa (i:=4) rfl).b nbP nbP dpP) F H1 O _ S fun v F' H' e r=>?_
 rw[decide_eq_true rfl] at r
 have S':=S.ext2 e
 obtain⟨e5,ha,hw,_⟩:=S'.getG (i:=5) rfl
 obtain⟨s1,s2⟩:=zpv hR1
 refine⟨true,r.of_bl,iteT ⟨pv,e5,F',zao p0,pv,av,rfl,⟨p0,rfl,by omega,by omega⟩,S'.ext.fh,fun a h=>(ha a h).2.1,hw,S'.nd 5 _ rfl,s2,fun H'' hk=>?_⟩⟩
 exact hQ H'' fun b o eb=>hk b o (fun z=>by rw[(ha b z).1] at eb;cases eb) (S'.ext.hh b o eb)
end
theorem lb1{n:Str}{s:Stmt}{ps:List Str}(hp:ps.length=1)(h:∀(kV doc pm:Value) (an:Option Addr) (cdv ct a0:Value),Zob (Zkv n n (zez s) (zb4 s) (zah s) .none kV doc pm an cdv ct) ⟨[a0],[]⟩=pure (ps.zip [a0])):Bd n s ps:=fun kV doc pm an cdv ct us hl=>match us,hl.trans hp with
 | [a0],_=>h kV doc pm an cdv ct a0
theorem lb2{n:Str}{s:Stmt}{ps:List Str}(hp:ps.length=2)(h:∀(kV doc pm:Value) (an:Option Addr) (cdv ct a0 a1:Value),Zob (Zkv n n (zez s) (zb4 s) (zah s) .none kV doc pm an cdv ct) ⟨[a0,a1],[]⟩=pure (ps.zip [a0,a1])):Bd n s ps:=fun kV doc pm an cdv ct us hl=>match us,hl.trans hp with
 | [a0,a1],_=>h kV doc pm an cdv ct a0 a1
theorem lb3{n:Str}{s:Stmt}{ps:List Str}(hp:ps.length=3)(h:∀(kV doc pm:Value) (an:Option Addr) (cdv ct a0 a1 a2:Value),Zob (Zkv n n (zez s) (zb4 s) (zah s) .none kV doc pm an cdv ct) ⟨[a0,a1,a2],[]⟩=pure (ps.zip [a0,a1,a2])):Bd n s ps:=fun kV doc pm an cdv ct us hl=>match us,hl.trans hp with
 | [a0,a1,a2],_=>h kV doc pm an cdv ct a0 a1 a2
theorem lb4{n:Str}{s:Stmt}{ps:List Str}(hp:ps.length=4)(h:∀(kV doc pm:Value) (an:Option Addr) (cdv ct a0 a1 a2 a3:Value),Zob (Zkv n n (zez s) (zb4 s) (zah s) .none kV doc pm an cdv ct) ⟨[a0,a1,a2,a3],[]⟩=pure (ps.zip [a0,a1,a2,a3])):Bd n s ps:=fun kV doc pm an cdv ct us hl=>match us,hl.trans hp with
 | [a0,a1,a2,a3],_=>h kV doc pm an cdv ct a0 a1 a2 a3
theorem lb5{n:Str}{s:Stmt}{ps:List Str}(hp:ps.length=5)(h:∀(kV doc pm:Value) (an:Option Addr) (cdv ct a0 a1 a2 a3 a4:Value),Zob (Zkv n n (zez s) (zb4 s) (zah s) .none kV doc pm an cdv ct) ⟨[a0,a1,a2,a3,a4],[]⟩=pure (ps.zip [a0,a1,a2,a3,a4])):Bd n s ps:=fun kV doc pm an cdv ct us hl=>match us,hl.trans hp with
 | [a0,a1,a2,a3,a4],_=>h kV doc pm an cdv ct a0 a1 a2 a3 a4
theorem Zhg:Bd "is_whole" zi8 zhg:=lb1 rfl fun _ _ _ _ _ _ _=>rfl
theorem Zhf:Bd "is_block" zi9 zhe:=lb2 rfl fun _ _ _ _ _ _ _ _=>rfl
theorem Zhn:Bd "pair_of" zkj zic:=lb2 rfl fun _ _ _ _ _ _ _ _=>rfl
theorem Zhs:Bd "is_ring" zid zii:=lb2 rfl fun _ _ _ _ _ _ _ _=>rfl
theorem Zhe:Bd "links_of" zg8 zgu:=lb1 rfl fun _ _ _ _ _ _ _=>rfl
theorem Zhx:Bd "gap_of" zma zkt:=lb1 rfl fun _ _ _ _ _ _ _=>rfl
theorem Zg9:Bd "is_never" zg0 zgp:=lb3 rfl fun _ _ _ _ _ _ _ _ _=>rfl
theorem Zgm:Bd "open_pairs" zen zeq:=lb2 rfl fun _ _ _ _ _ _ _ _=>rfl
theorem Zg6:Bd "is_losing" zhu zfs:=lb4 rfl fun _ _ _ _ _ _ _ _ _ _=>rfl
theorem Zf1:Bd "decided_loss" zek zdg:=lb2 rfl fun _ _ _ _ _ _ _ _=>rfl
theorem Zgo:Bd "rings_show" zel zeo:=lb5 rfl fun _ _ _ _ _ _ _ _ _ _ _=>rfl
theorem Zgp:Bd "may_decide" zf7 zev:=lb3 rfl fun _ _ _ _ _ _ _ _ _=>rfl
theorem Zgh:Bd "with_choice" ze5 zdp:=lb3 rfl fun _ _ _ _ _ _ _ _ _=>rfl
theorem Zfn:Bd "first_decided" zdo zct:=lb1 rfl fun _ _ _ _ _ _ _=>rfl
theorem Zfp:Bd "first_weights" zdq zcz:=lb1 rfl fun _ _ _ _ _ _ _=>rfl
theorem Zha:Bd "is_shown" ziy zg7:=lb5 rfl fun _ _ _ _ _ _ _ _ _ _ _=>rfl
theorem Zhy:Bd "joined" zl2 zj3:=lb2 rfl fun _ _ _ _ _ _ _ _=>rfl
theorem Zh4:Bd "keeps" znj zne:=lb2 rfl fun _ _ _ _ _ _ _ _=>rfl
theorem Zhv:Bd "loss_of" zkg zin:=lb2 rfl fun _ _ _ _ _ _ _ _=>rfl
theorem Zg8:Bd "parts_of" zgs zgw:=lb3 rfl fun _ _ _ _ _ _ _ _ _=>rfl
theorem Zhp:Bd "case_of" zgr zh2:=lb3 rfl fun _ _ _ _ _ _ _ _ _=>rfl
theorem Zfz:Bd "groupings_of" zeh zc5:=lb1 rfl fun _ _ _ _ _ _ _=>rfl
theorem Zfx:Bd "best_in_part" zc6 zdh:=lb1 rfl fun _ _ _ _ _ _ _=>rfl
theorem Zfo:Bd "numbered_anew" zdv zcu:=lb1 rfl fun _ _ _ _ _ _ _=>rfl
theorem Zho:Bd "best_of" zie zib:=lb3 rfl fun _ _ _ _ _ _ _ _ _=>rfl
theorem Zf4:Bd "placed_pairs" zda zc8:=lb2 rfl fun _ _ _ _ _ _ _ _=>rfl
theorem Zgk:Bd "is_decided" zfy zem:=lb4 rfl fun _ _ _ _ _ _ _ _ _ _=>rfl
theorem Zfw:Bd "ring_through" zee zdc:=lb3 rfl fun _ _ _ _ _ _ _ _ _=>rfl
theorem Zgi:Bd "lost_rings" zf6 zep:=lb2 rfl fun _ _ _ _ _ _ _ _=>rfl
theorem Zfu:Bd "placed_paper" zei zbx:=lb3 rfl fun _ _ _ _ _ _ _ _ _=>rfl
theorem Zgn:Bd "held_paper" zf1 zcw:=lb4 rfl fun _ _ _ _ _ _ _ _ _ _=>rfl
theorem Zfr:Bd "asking_paper" zef zby:=lb4 rfl fun _ _ _ _ _ _ _ _ _ _=>rfl
theorem Zhd:Bd "paper_of" zi5 zg6:=lb3 rfl fun _ _ _ _ _ _ _ _ _=>rfl
theorem Zf8:Bd "_law_cell_at" ze4 zdw:=lb2 rfl fun _ _ _ _ _ _ _ _=>rfl
theorem Zgr:Bd "_law_weight" zf4 zes:=lb1 rfl fun _ _ _ _ _ _ _=>rfl
theorem Zhk:Bd "_law_case" ziw zgx:=lb3 rfl fun _ _ _ _ _ _ _ _ _=>rfl
theorem Zhh:Bd "_law_pair" zi3 zg3:=lb2 rfl fun _ _ _ _ _ _ _ _=>rfl
theorem Zg3:Bd "_law_links" zfi zfl:=lb1 rfl fun _ _ _ _ _ _ _=>rfl
theorem Zhi:Bd "_law_ring" zi7 zhb:=lb4 rfl fun _ _ _ _ _ _ _ _ _ _=>rfl
theorem Zhl:Bd "_law_leaf" zit zgo:=lb4 rfl fun _ _ _ _ _ _ _ _ _ _=>rfl
theorem Zg0:Bd "_law_judge" zhj zfn:=lb4 rfl fun _ _ _ _ _ _ _ _ _ _=>rfl
theorem Zge:Bd "_law_weights" ze2 zdu:=lb1 rfl fun _ _ _ _ _ _ _=>rfl
theorem Zf9:Bd "_law_decided" ze6 zd3:=lb1 rfl fun _ _ _ _ _ _ _=>rfl
theorem Zf0:Bd "_law_grouping" zej zdf:=lb2 rfl fun _ _ _ _ _ _ _ _=>rfl
theorem Zgw:Bd "_law_keeps" zhq zfq:=lb2 rfl fun _ _ _ _ _ _ _ _=>rfl
theorem Zhb:Bd "_law_lost" zi4 zgz:=lb2 rfl fun _ _ _ _ _ _ _ _=>rfl
theorem Zgq:Bd "_law_number" zfz zer:=lb3 rfl fun _ _ _ _ _ _ _ _ _=>rfl
theorem Zgc:Bd "_law_is_list" zdt zdz:=lb2 rfl fun _ _ _ _ _ _ _ _=>rfl
theorem Zhc:Bd "_law_size" zi6 zeb:=lb2 rfl fun _ _ _ _ _ _ _ _=>rfl
theorem Zg7:Bd "_law_lists" zfm zdj:=lb1 rfl fun _ _ _ _ _ _ _=>rfl
theorem Zhw:Bd "_law_own" zg9 zih:=lb1 rfl fun _ _ _ _ _ _ _=>rfl
theorem Zh0:Bd "law" ybu zzg:=lb1 rfl fun _ _ _ _ _ _ _=>rfl
theorem all_mk{l:Zpm}{w:Zkq}{K:Zh7}{mg:Str->Option Value}{fa Zdq Zdc Zeh Zd4 Zdb Zew Zdj Zb7 Zco Za3 Zb6 Zb8 Zbl Zan Zam Zc4 Zeu Ze4 Zeg Zdw Zd8 Zau Za1 Zao Zei Zax Zb5 Za5 Zb1 Zae Zak Zag Zdt Zbf Zbu Zdn Zc0 Zcr Zc8 Zcx Zci Zbh Zbi Zaw Zcq Zde Zb4 Zbd Za8 Zas Zd9 Zgu:Addr}{t_HELD t_MOST_BLOCKS t_PARTED:Tok}{Zdi Zdh Zd6 Zed Zdp Zey Zda Zby Zcl Za6 Zb3 Zbv Zbj Zaq Zap Zds Ze0 Ze5 Zec Zc3 Zd5 Za0 Zaa Zal Zee Zat Zbx Za4 Zbw Zad Zai Zaf Zc5 Zbk Zbz Zdu Zdv Zcj Zdd Zdr Zcn Zba Zbg Zaz Zch Zdl Zbt Zbb Za9 Zar Zea Zfy:Zk9}(hfa:mg "law" = some (.ref fa))(Zfh:mg "HELD" = some (.str (T [104,101,108,100]) t_HELD))(Zcs:mg "MOST_BLOCKS" = some (.int 7 t_MOST_BLOCKS))(Zcv:mg "PARTED" = some (.str (T [112,97,114,116,101,100]) t_PARTED))(Zdf:FX K mg "is_whole" zi8 zhg Zdq Zdi)(Zcc:FX K mg "is_block" zi9 zhe Zdc Zdh)(Zeb:FX K mg "pair_of" zkj zic Zeh Zd6)(Zd7:FX K mg "is_ring" zid zii Zd4 Zed)(Zcf:FX K mg "links_of" zg8 zgu Zdb Zdp)(Zdx:FX K mg "gap_of" zma zkt Zew Zey)(Zer:FX K mg "is_never" zg0 zgp Zdj Zda)(Zb0:FX K mg "open_pairs" zen zeq Zb7 Zby)(Zd0:FX K mg "is_losing" zhu zfs Zco Zcl)(Zcg:FX K mg "decided_loss" zek zdg Za3 Za6)(Zc6:FX K mg "rings_show" zel zeo Zb6 Zb3)(Zcz:FX K mg "may_decide" zf7 zev Zb8 Zbv)(Zbe:FX K mg "with_choice" ze5 zdp Zbl Zbj)(Zbr:FX K mg "first_decided" zdo zct Zan Zaq)(Zbs:FX K mg "first_weights" zdq zcz Zam Zap)(Zdm:FX K mg "is_shown" ziy zg7 Zc4 Zds)(Ze8:FX K mg "joined" zl2 zj3 Zeu Ze0)(Zfj:FX K mg "keeps" znj zne Ze4 Ze5)(Zcw:FX K mg "loss_of" zkg zin Zeg Zec)(Zem:FX K mg "parts_of" zgs zgw Zdw Zc3)(Ze1:FX K mg "case_of" zgr zh2 Zd8 Zd5)(Zca:FX K mg "groupings_of" zeh zc5 Zau Za0)(Za2:FX K mg "best_in_part" zc6 zdh Za1 Zaa)(Zbq:FX K mg "numbered_anew" zdv zcu Zao Zal)(Zef:FX K mg "best_of" zie zib Zei Zee)(Za7:FX K mg "placed_pairs" zda zc8 Zax Zat)(Zdo:FX K mg "is_decided" zfy zem Zb5 Zbx)(Zcb:FX K mg "ring_through" zee zdc Za5 Za4)(Zdg:FX K mg "lost_rings" zf6 zep Zb1 Zbw)(Zah:FX K mg "placed_paper" zei zbx Zae Zad)(Zcy:FX K mg "held_paper" zf1 zcw Zak Zai)(Zav:FX K mg "asking_paper" zef zby Zag Zaf)(Zep:FX K mg "paper_of" zi5 zg6 Zdt Zc5)(Zbm:FX K mg "_law_cell_at" ze4 zdw Zbf Zbk)(Zdk:FX K mg "_law_weight" zf4 zes Zbu Zbz)(Zeq:FX K mg "_law_case" ziw zgx Zdn Zdu)(Zce:FX K mg "_law_pair" zi3 zg3 Zc0 Zdv)(Zcm:FX K mg "_law_links" zfi zfl Zcr Zcj)(Zc9:FX K mg "_law_ring" zi7 zhb Zc8 Zdd)(Zeo:FX K mg "_law_leaf" zit zgo Zcx Zdr)(Zbp:FX K mg "_law_judge" zhj zfn Zci Zcn)(Zct:FX K mg "_law_weights" ze2 zdu Zbh Zba)(Zcu:FX K mg "_law_decided" ze6 zd3 Zbi Zbg)(Zcd:FX K mg "_law_grouping" zej zdf Zaw Zaz)(Zcp:FX K mg "_law_keeps" zhq zfq Zcq Zch)(Zc1:FX K mg "_law_lost" zi4 zgz Zde Zdl)(Zaj:FX K mg "_law_number" zfz zer Zb4 Zbt)(Zbc:FX K mg "_law_is_list" zdt zdz Zbd Zbb)(Zb9:FX K mg "_law_size" zi6 zeb Za8 Za9)(Zbn:FX K mg "_law_lists" zfm zdj Zas Zar)(Ze2:FX K mg "_law_own" zg9 zih Zd9 Zea)(Zf6:FX K mg "law" ybu zzg Zgu Zfy)(Zel:mg "abs" = none)(Ze6:mg "all" = none)(Zf7:mg "bool" = none)(Zfe:mg "dict" = none)(Zck:mg "enumerate" = none)(Zfs:mg "int" = none)(Zab:mg "isinstance" = none)(Zac:mg "len" = none)(Zd3:mg "list" = none)(Zet:mg "max" = none)(Zfk:mg "min" = none)(Zbo:mg "range" = none)(Zf3:mg "reversed" = none)(Zgt:mg "set" = none)(Zfl:mg "tuple" = none)(Zgs:mg "zip" = none) :
  ∃fd fl:Zk9,(∀(s:Zih) (v:Value),Zqp s fd ⟨[v],[]⟩ [("_law_script", v)])/\(∃g oc od osl,mg "best_in_part" = some (.ref g)/\K.lookup g=some ⟨oc,od,.func fl,osl⟩) /\ ∀(base:Heap) (T0:Addr),K.In base->base.Ns Zk6 mg->LamAt base mg fl T0->FnOk l.prog w K mg base CX0 90 fa fd ["_law_script"] (yb4 K T0):=by
 have e:=hfa.symm.trans Zf6.M
 cases e
 exact⟨_,_,Zf6.bt Zh0,Za2.lk,fun base T0 _ _ Y=>ygn (ad0:=⟨Zdq,Zdc,Zeh,Zd4,Zdb,Zew,Zdj,Zb7,Zco,Za3,Zb6,Zb8,Zbl,Zan,Zam,Zc4,Zeu,Ze4,Zeg,Zdw,Zd8,Zau,Za1,Zao,Zei,Zax,Zb5,Za5,Zb1,Zae,Zak,Zag,Zdt,Zbf,Zbu,Zdn,Zc0,Zcr,Zc8,Zcx,Zci,Zbh,Zbi,Zaw,Zcq,Zde,Zb4,Zbd,Za8,Zas,Zd9,_,_,_,_,Zdi,Zdh,Zd6,Zed,Zdp,Zey,Zda,Zby,Zcl,Za6,Zb3,Zbv,Zbj,Zaq,Zap,Zds,Ze0,Ze5,Zec,Zc3,Zd5,Za0,Zaa,Zal,Zee,Zat,Zbx,Za4,Zbw,Zad,Zai,Zaf,Zc5,Zbk,Zbz,Zdu,Zdv,Zcj,Zdd,Zdr,Zcn,Zba,Zbg,Zaz,Zch,Zdl,Zbt,Zbb,Za9,Zar,Zea,Zfy⟩) ⟨Zfh,⟨_,rfl⟩,Zcs,⟨_,rfl⟩,Zcv,⟨_,rfl⟩,Zdf,Zcc,Zeb,Zd7,Zcf,Zdx,Zer,Zb0,Zd0,Zcg,Zc6,Zcz,Zbe,Zbr,Zbs,Zdm,Ze8,Zfj,Zcw,Zem,Ze1,Zca,Za2,Zbq,Zef,Za7,Zdo,Zcb,Zdg,Zah,Zcy,Zav,Zep,Zbm,Zdk,Zeq,Zce,Zcm,Zc9,Zeo,Zbp,Zct,Zcu,Zcd,Zcp,Zc1,Zaj,Zbc,Zb9,Zbn,Ze2,Zf6,Zel,Ze6,Zf7,Zfe,Zck,Zfs,Zab,Zac,Zd3,Zet,Zfk,Zbo,Zf3,Zgt,Zfl,Zgs⟩ Y⟩
theorem walk{l:Zpm}{q:Zjj}{loose:List Str}{XP:(Str->Option Value)->Heap->Prop}{YP:Zkq->Heap->Prop}{d:DefRec}{K:Params->Zh7}(hn:l.most=some 63)(hdf:d.params.defaults=[])
  (hY:∀(w:Zkq) (h:Heap),YP w h->(K w.params).In h) (hrec:((recsOf q).find? fun e=>e.name == ("best_in_part" : Str)).isSome=true) (hno:∀p,PySem.W.noTabs (K p)=true)
  (F:∀(w:Zkq) (mg:Str->Option Value) (fa:Addr) (h:Heap),(K w.params).In h->h.Ns Zk6 mg->mg d.name=some (.ref fa) ->
   ∃fd fl:Zk9,(∀(s:Zih) (u:Value),Zqp s fd ⟨[u],[]⟩ [("_law_script", u)])/\(∃g oc od osl,mg "best_in_part" = some (.ref g)/\(K w.params).lookup g=some ⟨oc,od,.func fl,osl⟩) /\ ∀(base:Heap) (T0:Addr),(K w.params).In base->base.Ns Zk6 mg->LamAt base mg fl T0->FnOk l.prog w (K w.params) mg base CX0 90 fa fd ["_law_script"] (yb4 (K w.params) T0)) :
  Zsw q loose XP YP l.row.toRowW d [] (fun f vs=>Zr9 f vs) :=
 L2.walk_ofT (n:=63) (k:=90) (x:="_law_script") (nm:="best_in_part") (pos:=lamP) (lq:=lamQ) (CX:=CX0) (sp:=yb4) hn (by decide) hdf ⟨rfl,by decide,by decide,rfl⟩ hY hrec hno F (fun _ _ a T ns hl hS hT=>⟨a,ns,rfl,hS,hl,hT,fun _ sm=>⟨rfl,sm _ _ hT⟩⟩) fun _ _ _ _ z=>z
end My
namespace PySem.W.Fast
noncomputable def tw5466783279590913861:Unit:=()
noncomputable def tw11717618755578934049:Unit:=()
noncomputable def tw8237005856769051567:Unit:=()
noncomputable def tw5263759896470984365:Unit:=()
noncomputable def tw6819876550045610284:Unit:=()
noncomputable def tw3875001863675436195:Unit:=()
noncomputable def tw3005772198804390830:Unit:=()
noncomputable def tw12834388383411602607:Unit:=()
noncomputable def tw15337212678441192763:Unit:=()
noncomputable def tw6078231521028352752:Unit:=()
noncomputable def tw16807341786542475959:Unit:=()
noncomputable def tw8467981999770328886:Unit:=()
noncomputable def tw14241495334623422986:Unit:=()
noncomputable def tw1690166114924618395:Unit:=()
noncomputable def tw2858649560429696851:Unit:=()
noncomputable def tw8760041186019398596:Unit:=()
noncomputable def tw183789519577237631:Unit:=()
noncomputable def tw4077674797488639232:Unit:=()
noncomputable def tw6186093338530298404:Unit:=()
noncomputable def tw18338967973978418009:Unit:=()
noncomputable def tw4125906594948912171:Unit:=()
noncomputable def tw10327118256952116774:Unit:=()
noncomputable def tw1191051919807283557:Unit:=()
noncomputable def tw7158254333659690022:Unit:=()
noncomputable def tw10945905720025298022:Unit:=()
noncomputable def tw13540268692570085662:Unit:=()
noncomputable def tw14254294462604150983:Unit:=()
noncomputable def tw17692399846983149833:Unit:=()
noncomputable def tw3339429649511655929:Unit:=()
noncomputable def tw10937005381084429055:Unit:=()
noncomputable def tw3268614272956891232:Unit:=()
noncomputable def tw15375195184279972038:Unit:=()
noncomputable def tw8280117876606780007:Unit:=()
noncomputable def tw3979052828300202527:Unit:=()
noncomputable def tw16441876985001689000:Unit:=()
noncomputable def tw2016608558275764409:Unit:=()
noncomputable def tw12319837338930250279:Unit:=()
noncomputable def tw7180438908806308793:Unit:=()
noncomputable def tw270929184448784962:Unit:=()
noncomputable def tw17107420454808643869:Unit:=()
noncomputable def tw8672360875435481254:Unit:=()
noncomputable def tw17452571877248076730:Unit:=()
noncomputable def tw8641111577682411339:Unit:=()
noncomputable def tw9705128620697835537:Unit:=()
noncomputable def tw4826310790338932229:Unit:=()
noncomputable def tw9455310183226501200:Unit:=()
noncomputable def tw4657386373851425310:Unit:=()
noncomputable def tw11424773361884049205:Unit:=()
noncomputable def tw12922098225612116897:Unit:=()
noncomputable def tw4108849594538218265:Unit:=()
noncomputable def tw2443249905041506338:Unit:=()
noncomputable def tw7695026759015871454:Unit:=()
noncomputable def tw10183212370989059505:Unit:=()
noncomputable def tw2263641859036259359:Unit:=()
noncomputable def tw1890383431166762489:Unit:=()
noncomputable def tw8902822114315134518:Unit:=()
noncomputable def tw5816302536533567515:Unit:=()
noncomputable def tw14958551068223167480:Unit:=()
noncomputable def tw13439517857125972025:Unit:=()
noncomputable def tw10758036299123425409:Unit:=()
noncomputable def tw3206294506591250482:Unit:=()
noncomputable def tw13131025795329648062:Unit:=()
noncomputable def tw3911623973824818023:Unit:=()
noncomputable def tw11978701306717066097:Unit:=()
noncomputable def tw12238591227592280632:Unit:=()
noncomputable def tw10628669547879124145:Unit:=()
noncomputable def tw10761028306703179364:Unit:=()
noncomputable def tw4516493152736155641:Unit:=()
noncomputable def tw17044218029464063322:Unit:=()
noncomputable def tw11825638487885216808:Unit:=()
noncomputable def tw12332471727520366160:Unit:=()
noncomputable def tw7467542322782140635:Unit:=()
noncomputable def tw3477229980805070854:Unit:=()
noncomputable def tw14164448327579264111:Unit:=()
noncomputable def tw3736740209998327343:Unit:=()
noncomputable def tw9832968300213330029:Unit:=()
noncomputable def tw9997977101637606958:Unit:=()
noncomputable def tw10390379545939163339:Unit:=()
noncomputable def tw8597482892682447239:Unit:=()
noncomputable def tw6686476651137059378:Unit:=()
noncomputable def tw4503851150031479368:Unit:=()
noncomputable def tw9287623207351773598:Unit:=()
noncomputable def tw1399528452788693648:Unit:=()
noncomputable def tw4049447452259129056:Unit:=()
noncomputable def tw7146996846743304117:Unit:=()
noncomputable def tw13778849944561315022:Unit:=()
noncomputable def tw2502034578735986108:Unit:=()
noncomputable def tw6632074743526770257:Unit:=()
noncomputable def tw13936901102371283904:Unit:=()
noncomputable def tw2182713223684482665:Unit:=()
noncomputable def tw12046521379275803821:Unit:=()
noncomputable def tw17917124942654220712:Unit:=()
noncomputable def tw10578064315859544827:Unit:=()
noncomputable def tw11118251219212399657:Unit:=()
noncomputable def tw2486684918646546486:Unit:=()
noncomputable def tw10015554496977741366:Unit:=()
noncomputable def tw503962269087364828:Unit:=()
noncomputable def tw4712360943353068275:Unit:=()
noncomputable def tw14310452340625298417:Unit:=()
noncomputable def tw2173067741076927845:Unit:=()
noncomputable def tw9880297327622280554:Unit:=()
noncomputable def tw3359286636005318996:Unit:=()
noncomputable def tw2734472666879282785:Unit:=()
noncomputable def tw4983758382018369508:Unit:=()
noncomputable def tw9499350613347647441:Unit:=()
noncomputable def tw15961436843006744014:Unit:=()
noncomputable def tw3660325597216484604:Unit:=()
noncomputable def tw9931469493684721351:Unit:=()
noncomputable def tw7855814092058144490:Unit:=()
noncomputable def tw1874802368382544320:Unit:=()
noncomputable def tw9499677465263454457:Unit:=()
noncomputable def tw6048748087788239008:Unit:=()
noncomputable def tw17025775623791916328:Unit:=()
noncomputable def tw15977593836606641477:Unit:=()
noncomputable def tw7483021204470966444:Unit:=()
noncomputable def tw10229676819560877584:Unit:=()
noncomputable def tw14161808359106388392:Unit:=()
noncomputable def tw5617476846524190864:Unit:=()
end PySem.W.Fast
open PySem PySem.W PyProof.Rows
set_option maxRecDepth 100000 in
set_option maxHeartbeats 0 in
theorem PySem.Challenge.cw_folk_k40_whole_papers_walked_holds : PySem.Challenge.rw_folk_k40_whole_papers_walked.Holds := by
 w_on;o_law;k_head;(case hw=>w_witness2)
 k_fill
 refine My.walk (l:=Zm1) rfl rfl (fun w h Y=>PySem.W.km_in_of Y) rfl (fun p=>by kernel_rfl) ?F
 case F =>
  intro w mg fa h KX G hmg
  refine' My.all_mk hmg (mg_of KX G ?a_HELD) (mg_of KX G ?a_MOST_BLOCKS) (mg_of KX G ?a_PARTED) (L2.fx_mk KX G My.Zhg ?a0 ?l0 ?c0 ?k0) (L2.fx_mk KX G My.Zhf ?a1 ?l1 ?c1 ?k1) (L2.fx_mk KX G My.Zhn ?a2 ?l2 ?c2 ?k2) (L2.fx_mk KX G My.Zhs ?a3 ?l3 ?c3 ?k3) (L2.fx_mk KX G My.Zhe ?a4 ?l4 ?c4 ?k4) (L2.fx_mk KX G My.Zhx ?a5 ?l5 ?c5 ?k5) (L2.fx_mk KX G My.Zg9 ?a6 ?l6 ?c6 ?k6) (L2.fx_mk KX G My.Zgm ?a7 ?l7 ?c7 ?k7) (L2.fx_mk KX G My.Zg6 ?a8 ?l8 ?c8 ?k8) (L2.fx_mk KX G My.Zf1 ?a9 ?l9 ?c9 ?k9) (L2.fx_mk KX G My.Zgo ?a10 ?l10 ?c10 ?k10) (L2.fx_mk KX G My.Zgp ?a11 ?l11 ?c11 ?k11) (L2.fx_mk KX G My.Zgh ?a12 ?l12 ?c12 ?k12) (L2.fx_mk KX G My.Zfn ?a13 ?l13 ?c13 ?k13) (L2.fx_mk KX G My.Zfp ?a14 ?l14 ?c14 ?k14) (L2.fx_mk KX G My.Zha ?a15 ?l15 ?c15 ?k15) (L2.fx_mk KX G My.Zhy ?a16 ?l16 ?c16 ?k16) (L2.fx_mk KX G My.Zh4 ?a17 ?l17 ?c17 ?k17) (L2.fx_mk KX G My.Zhv ?a18 ?l18 ?c18 ?k18) (L2.fx_mk KX G My.Zg8 ?a19 ?l19 ?c19 ?k19) (L2.fx_mk KX G My.Zhp ?a20 ?l20 ?c20 ?k20) (L2.fx_mk KX G My.Zfz ?a21 ?l21 ?c21 ?k21) (L2.fx_mk KX G My.Zfx ?a22 ?l22 ?c22 ?k22) (L2.fx_mk KX G My.Zfo ?a23 ?l23 ?c23 ?k23) (L2.fx_mk KX G My.Zho ?a24 ?l24 ?c24 ?k24) (L2.fx_mk KX G My.Zf4 ?a25 ?l25 ?c25 ?k25) (L2.fx_mk KX G My.Zgk ?a26 ?l26 ?c26 ?k26) (L2.fx_mk KX G My.Zfw ?a27 ?l27 ?c27 ?k27) (L2.fx_mk KX G My.Zgi ?a28 ?l28 ?c28 ?k28) (L2.fx_mk KX G My.Zfu ?a29 ?l29 ?c29 ?k29) (L2.fx_mk KX G My.Zgn ?a30 ?l30 ?c30 ?k30) (L2.fx_mk KX G My.Zfr ?a31 ?l31 ?c31 ?k31) (L2.fx_mk KX G My.Zhd ?a32 ?l32 ?c32 ?k32) (L2.fx_mk KX G My.Zf8 ?a33 ?l33 ?c33 ?k33) (L2.fx_mk KX G My.Zgr ?a34 ?l34 ?c34 ?k34) (L2.fx_mk KX G My.Zhk ?a35 ?l35 ?c35 ?k35) (L2.fx_mk KX G My.Zhh ?a36 ?l36 ?c36 ?k36) (L2.fx_mk KX G My.Zg3 ?a37 ?l37 ?c37 ?k37) (L2.fx_mk KX G My.Zhi ?a38 ?l38 ?c38 ?k38) (L2.fx_mk KX G My.Zhl ?a39 ?l39 ?c39 ?k39) (L2.fx_mk KX G My.Zg0 ?a40 ?l40 ?c40 ?k40) (L2.fx_mk KX G My.Zge ?a41 ?l41 ?c41 ?k41) (L2.fx_mk KX G My.Zf9 ?a42 ?l42 ?c42 ?k42) (L2.fx_mk KX G My.Zf0 ?a43 ?l43 ?c43 ?k43) (L2.fx_mk KX G My.Zgw ?a44 ?l44 ?c44 ?k44) (L2.fx_mk KX G My.Zhb ?a45 ?l45 ?c45 ?k45) (L2.fx_mk KX G My.Zgq ?a46 ?l46 ?c46 ?k46) (L2.fx_mk KX G My.Zgc ?a47 ?l47 ?c47 ?k47) (L2.fx_mk KX G My.Zhc ?a48 ?l48 ?c48 ?k48) (L2.fx_mk KX G My.Zg7 ?a49 ?l49 ?c49 ?k49) (L2.fx_mk KX G My.Zhw ?a50 ?l50 ?c50 ?k50) (L2.fx_mk KX G My.Zh0 ?a51 ?l51 ?c51 ?k51) (mg_none_of KX G ?y_abs) (mg_none_of KX G ?y_all) (mg_none_of KX G ?y_bool) (mg_none_of KX G ?y_dict) (mg_none_of KX G ?y_enumerate) (mg_none_of KX G ?y_int) (mg_none_of KX G ?y_isinstance) (mg_none_of KX G ?y_len) (mg_none_of KX G ?y_list) (mg_none_of KX G ?y_max) (mg_none_of KX G ?y_min) (mg_none_of KX G ?y_range) (mg_none_of KX G ?y_reversed) (mg_none_of KX G ?y_set) (mg_none_of KX G ?y_tuple) (mg_none_of KX G ?y_zip)
  (case a_HELD | a_MOST_BLOCKS | a_PARTED | a0 | l0 | c0 | k0 | a1 | l1 | c1 | k1 | a2 | l2 | c2 | k2 | a3 | l3 | c3 | k3 | a4 | l4 | c4 | k4 | a5 | l5 | c5 | k5 | a6 | l6 | c6 | k6 | a7 | l7 | c7 | k7 | a8 | l8 | c8 | k8 | a9 | l9 | c9 | k9 | a10 | l10 | c10 | k10 | a11 | l11 | c11 | k11 | a12 | l12 | c12 | k12 | a13 | l13 | c13 | k13 | a14 | l14 | c14 | k14 | a15 | l15 | c15 | k15 | a16 | l16 | c16 | k16 | a17 | l17 | c17 | k17 | a18 | l18 | c18 | k18 | a19 | l19 | c19 | k19 | a20 | l20 | c20 | k20 | a21 | l21 | c21 | k21 | a22 | l22 | c22 | k22 | a23 | l23 | c23 | k23 | a24 | l24 | c24 | k24 | a25 | l25 | c25 | k25 | a26 | l26 | c26 | k26 | a27 | l27 | c27 | k27 | a28 | l28 | c28 | k28 | a29 | l29 | c29 | k29 | a30 | l30 | c30 | k30 | a31 | l31 | c31 | k31 | a32 | l32 | c32 | k32 | a33 | l33 | c33 | k33 | a34 | l34 | c34 | k34 | a35 | l35 | c35 | k35 | a36 | l36 | c36 | k36 | a37 | l37 | c37 | k37 | a38 | l38 | c38 | k38 | a39 | l39 | c39 | k39 | a40 | l40 | c40 | k40 | a41 | l41 | c41 | k41 | a42 | l42 | c42 | k42 | a43 | l43 | c43 | k43 | a44 | l44 | c44 | k44 | a45 | l45 | c45 | k45 | a46 | l46 | c46 | k46 | a47 | l47 | c47 | k47 | a48 | l48 | c48 | k48 | a49 | l49 | c49 | k49 | a50 | l50 | c50 | k50 | a51 | l51 | c51 | k51 | y_abs | y_all | y_bool | y_dict | y_enumerate | y_int | y_isinstance | y_len | y_list | y_max | y_min | y_range | y_reversed | y_set | y_tuple | y_zip=>k_is)
