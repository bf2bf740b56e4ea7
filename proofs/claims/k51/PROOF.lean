import PyProof.Rows.All
import Wide.All
import OpenK.AllK
import Wide.FinOn
import Lean
import PyProof.EqAt
import PyProof.EqKinds
import PyProof.TupleCall
import KE.KSortTup
import PySem.SetTable
import KE.KDictList
import PyProof.Rows.SeqMore
import PyProof.StrLawsIn
import PyProof.MeetsStr3
import PyProof.Rows.StrSplitMax
import KE.KDictLaws
import PyProof.Rows.CallKwBuiltin
import PyProof.ZipIter
import PyProof.Rows.ZipGen
import PyProof.Rows.StrWeight2
import KE.KDictSum
import KE.KTryMore
import PyProof.Rows.TopTwo
import PyProof.ExcBaseAll.ValueError
import KE.RegKIsAll
import KE.RegKTryMore
import PyProof.ExcAttrAll.ValueError
import PyProof.Rows.StrDouble
import OpenK.KCls
import KE.KIntText
import PyProof.CallStr
import KE.KSortKey
import KE.KItemsList
import KE.KPairComp
import KE.KMinKey
import KE.KLam
import PySem.Challenge.RW_folk_k51_books_at_a_desk
open Array renaming getElem?_eq_getElem → Zgs, getElem?_toList → Zg2, length_toList → Zhh, getD_eq_getD_getElem? → Zh5, getElem?_eq_some_iff → Zje, getD → Zky, toList_extract → Zm9, mem_toList_iff → Zna, toList_inj → Zos, getElem?_replicate → Zp2, getElem?_eq_none → Zqi, forIn_toList → Zrq, toList_push → Zsa, toList_map → Zsl, replicate → Ztc, size_map → Ztk, toList → Zun
open Array.Perm renaming refl → Zk5
open Bool renaming false_eq_true → Zgo, and_eq_true → Zgv, false_ne_true → Zg0, eq_iff_iff → Zh0, not_true → Zle, false_and → Znf, true_and → Zn1, or_false → Zn2, or_eq_true → Zpe, or_eq_false_iff → Zq8, not_eq_true' → Zsk, not_eq_true → Ztb, not_false → Zt6, false_or → Zum
open Classical renaming byContradiction → Zlh, typeDecidableEq → Zx1
open False renaming elim → Zjo
open ForIn renaming forIn → Zto
open ForInStep renaming yield → Zki
open Int renaming emod_lt_of_pos → Zgx, emod_nonneg → Zg7, toNat_natCast → Zi6, le_refl → Zlr, le_trans → Zoy, le_of_lt → Zoz, ofNat → Zpn, ofNat_eq_natCast → Zro
open List renaming getD_eq_getElem?_getD → Zf7, getElem?_eq_getElem → Zf8, length_map → Zge, getElem?_eq_some_iff → Zgg, mem_cons → Zgh, mem_cons_of_mem → Zgi, getElem?_map → Zgl, mem_of_getElem? → Zgm, mem_singleton → Zgn, length_cons → Zgp, mem_cons_self → Zgz, range → Zg1, map_cons → Zg3, mem_map → Zg5, length_append → Zg8, mem_append_right → Zhc, getElem?_eq_none → Zhd, length_nil → Zhj, mem_append → Zhl, mem_range → Zhp, not_mem_nil → Zhq, mem_iff_getElem? → Zhr, getElem_mem → Zhv, size_toArray → Zhw, replicate → Zh1, filterMap_cons_some → Zh4, lookup_cons → Zh8, getElem?_append_left → Zie, all_eq_true → Zif, map_map → Zii, find?_cons → Zil, getElem?_append_right → Zio, length_replicate → Zir, cons_lt_cons_iff → Zis, append_nil → Zit, Nodup → Zix, getLast?_eq_some_getLast → Ziz, mem_append_left → Zi2, nodup_cons → Zi7, lookup → Zi8, getElem?_range → Zi9, take_of_length_le → Zjb, length_take → Zjj, length → Zjk, pairwise_map → Zjp, append_assoc → Zjq, filterMap_cons → Zjv, dropWhile_cons → Zjw, ext_getElem? → Zka, pairwise_iff_getElem → Zke, length_drop → Zkh, filterMap_cons_none → Zkl, getElem?_replicate → Zkn, any_cons → Zko, getElem?_set_self → Zku, drop_eq_nil_of_le → Zkv, take_add_one → Zkz, take_append_drop → Zk4, filter_cons → Zk7, eq_nil_of_length_eq_zero → Zk8, cons_append → Zk9, pairwise_append → Zlc, getElem?_set_ne → Zld, takeWhile_cons → Zlj, replicate_succ → Zlk, nil_append → Zll, mem_map_of_mem → Zlm, map_append → Zln, forIn_cons → Zlo, perm_ext_iff_of_nodup → Zlt, mem_filterMap → Zly, nodup_nil → Zl2, getLastD_eq_getLast? → Zl3, reverse_cons → Zmc, length_range → Zmd, not_lt → Zmi, mem_reverse → Zmj, range_succ → Zmv, map_nil → Zmw, mem_of_mem_take → Znc, lt_irrefl → Znd, range' → Znh, zip_cons_cons → Znx, mem_replicate → Zny, getElem?_drop → Znz, take_sublist → Zoe, toArray → Zoj, take_length → Zov, range'_succ → Zow, le_antisymm → Zox, of_mem_zip → Zpb, mem_filter → Zpc, length_eraseIdx_of_lt → Zpl, getElem?_zip_eq_some → Zpz, eq_of_mem_replicate → Zqa, sum_cons → Zqe, lt_trans → Zqf, length_eq_zero_iff → Zqg, getElem_cons_drop → Zqt, dropWhile_sublist → Zqu, length_singleton → Zqy, extract → Zqz, mem_of_mem_drop → Zq6, take_succ_cons → Zrg, map_id → Zrh, map_congr_left → Zri, length_reverse → Zrj, length_pos_iff → Zrk, getElem_of_mem → Zrl, filter_eq_self → Zrm, pairwise_cons → Zr5, map → Zr6, find?_eq_none → Zr7, filter_append → Zr8, flatten_cons → Zsi, drop_sublist → Zsj, zipIdx_cons → Zsz, perm_middle → Zs0, isEmpty_iff → Zs1, getElem_inj → Zs2, drop_length → Zs3, any_eq_true → Zs4, zipIdx_nil → Zth, length_set → Zti, foldl_cons → Ztj, forIn_nil → Ztz, map_take → Zug, map_drop → Zuh, le_trans → Zui, all_cons → Zuj
open List.Pairwise renaming imp_of_mem → Zn0, sublist → Zol, nil → Zvi, map → Zvj
open List.Perm renaming swap → Zok, refl → Zrn, eq_of_pairwise → Zxw, cons → Zxx, append_left → Zxy
open List.Sublist renaming refl → Zp0, slnil → Zv9, append → Zwa
open List.cons renaming injEq → Zjz
open Nat renaming le_refl → Zgf, ne_of_lt → Zgu, lt_of_lt_of_le → Zgw, zero_le → Zhg, lt_irrefl → Zhu, pow_succ → Zh7, lt_succ_self → Zh9, le_trans → Zim, lt_succ_of_lt → Zi5, lt_or_ge → Zju, ne_of_gt → Zj7, le_succ → Zk3, min_eq_left → Zlq, mod_lt → Zmh, mod_eq_of_lt → Zmk, min_eq_right → Zml, zero_add → Zm7, lt_of_le_of_lt → Zn7, eq_or_lt_of_le → Zn8, lt_trichotomy → Zoi, le_of_lt → Zou, le_add_right → Zo7, mod_add_div → Zpk, mod_two_eq_zero_or_one → Zpy, add_mul_mod_self_left → Zp9, add_sub_cancel → Zsh, lt_of_succ_lt → Zsx, succ_ne_self → Ztf, lt_of_not_le → Ztg, two_pow_pos → Ztx, le_add_left → Zty, mul_comm → Zv6, lt_trans → Zv7, le_of_eq → Zv8, mul_add → Zwp, not_lt → Zxc
open Ne renaming symm → Zho
open Option renaming isSome_iff_exists → Zjm, getD_some → Zmf, bind_eq_bind → Zqx, isSome_map → Zrf, getD_none → Zr3, bind_some → Zr4, pure_def → Zsg, none → Zuf
open Option.some renaming inj → Zhz
open Or renaming inl → Zlg, inr → Zue
open PyProof.Rows renaming callWith_type1 → Ziy, envOfC → Znn, AllBare → Zot, seqObj → Zo3, assignInOrder_cons → Zo4, subscriptTail → Zrt, listUpdate_at → Zrw, arrOf → Zrz, seqEpoch_at → Ztl, IntsAre → Zt1, SortKind → Zub, assignInOrder_nil → Zu2, Subscript_ → Zu7, callWith_builtin1 → Zv5, get?_update_seq → Zwk, entry_list_sort → Zwl, SortSt → Zwo, slot_list_sort → Zwz, boot_enumerate → Zw5, args_list_sort → Zw6, keyKind' → Zxm, failedOf → Zxn
open PyProof.Rows.Boot renaming zip → Zsw
open PyProof.Rows.F renaming plain_set_update_loop → Zmr, entry_set_update_loop → Zq7
open PyProof.Rows.IsTup renaming new → Zwr
open PyProof.Rows.SortSt renaming mk' → Zrc
open PySem renaming wpAny_bind → Zf5, Value → Zf9, wpAny_pure → Zgb, Shared → Zgc, SetTable → Zgd, sizeLine_eq → Zgq, wpAny → Zgr, Program → Zgy, Spec → Zg6, model → Zg9, Builtin → Zhb, Around → Zhe, starEach → Zhf, NameKind → Zhk, World → Zhn, wpAny_seqItems → Zih, wpAny_newObj_type → Zik, wpAny_truthy_bool → Ziu, wpAny_mono → Ziv, wpAny_ite_split → Zi0, compareOp → Zi1, typeIs_str → Zi3, wpAny_call_entry → Zi4, wpAny_holding → Zja, FuncData → Zjc, wpAny_pyIter_list → Zjd, rawInt → Zjh, keywordEach → Zji, PyData → Zjn, wpAny_field → Zjr, mainGlobals → Zjs, mem_of_lookup → Zjt, wpAny_loadPart' → Zjy, wpAny_callSpecial?_slot → Zj1, wpAny_setField → Zj2, sysModules → Zj3, Builtin → Zj5, wpAny_setField_rec → Zj9, codeAny_builtin → Zkc, backTo → Zkj, wpAny_execs_cons → Zkm, wpAny_setEntries_of → Zkq, codeAny_mono → Zkr, wpAny_getItem_str_slice → Zk0, wpAny_Call_Name_kw → Zk1, backToKw → Zk2, IsPair → Zla, builtinLookup_eq_fast → Zlf, wpAny_askSetting → Zlp, bindArgs → Zlw, attributeBase → Zlx, IsTupleKey → Zl4, wpAny_specialOf → Zl5, wpAny_passesOwn → Zl6, wpAny_execs_nil → Zl7, sliceBounds → Zl8, pickOrder → Zl9, wpAny_storeSet_of → Zmm, wpAny_pyIter_enum → Zmn, ofAClassStatement → Zmo, foldedSetIterable → Zmp, call_meets → Zmq, wpAny_standAt → Zmz, plainId_quiet → Zm0, codeAny → Zm1, binaryOp → Zm2, behindInMarks → Zm3, Keyword → Zm8, wpAny_isInstance → Znb, typeLookup_type → Zni, swapsWith → Znj, pyNext → Znk, post_val_or_str → Znl, letOwnedTupleGo → Znm, bootBuiltins → Zno, argBest → Znp, PassesOwn → Znt, wpAny_rule → Znu, boot_len → Znv, assignEach → Znw, wpAny_updateSeq_pair → Zn3, codeAny_call_builtin → Zn4, cLine → Zn5, wpAny_fieldsOf → Zoa, isSubtype_type → Zob, firstArgMember → Zoc, carriedByValue → Zod, wpAny_pyIter_tuple → Zo0, wpAny_onRaise → Zo1, tupleKind_room_in1 → Zo2, wpAny_setState_of → Zpf, valueAt → Zpg, stripped → Zpj, IsZip → Zpm, Draws → Zpq, BindsTo → Zps, wpAny_typeOf → Zpt, wpAny_pyIter_zip → Zp3, wpAny_forIn_list → Zp4, wpAny_updateSeq → Zqk, wpAny_of_eq → Zql, wpAny_letGo → Zqm, tupleKind → Zqn, subscripted → Zqo, codeAny_of_tree → Zqp, callerA → Zqq, Within → Zqs, wpAny_call → Zra, typeLookup → Zrb, wpAny_newList → Zrr, wpAny_attempt → Zrs, spliced → Zru, relayAll → Zrv, getItem → Zrx, assignInOrder → Zry, call → Zr1, wpAny_pyNext_list_item → Zsb, wpAny_Call_method_late → Zsc, wpAny_pyNext_list_end → Zsm, wpAny_isTrue_Compare1 → Zsn, wpAny_eqIsQuiet_tuple → Zso, weight_type_call_type → Zsp, seqItems? → Zsq, hashByValue_scannable → Zsr, assign → Zss, Fin → Zsv, Model → Zsy, DictEntry → Zs7, codeAny_extend_loopS → Ztd, length_partsBetween → Ztm, hashByValue → Ztn, atKey → Ztp, Walks → Ztq, CmpOp → Zt5, pyIter → Zt7, bindName → Zt8, argsOk → Zt9, Result → Zuc, wpAny_setEpoch_of → Zuo, wpAny_pyIter_slot → Zup, wpAny_assign_Name → Zuq, wpAny_Return_some → Zur, wpAny_Name → Zus, wpAny_Assign_Name → Zut, slot_list_getitem → Zuu, setsByText → Zuv, searchCouldBeSeen → Zuw, richCompare_gives → Zux, field → Zuy, builtinsNs → Zuz, bindL → Zu0, bindC → Zu1, wpAny_getItem_of → Zvo, checkBuiltinCall → Zvp, updateSeq → Zwg, strValues → Zwh, limitOf → Zwi, getMethod → Zwj, cellsFrom → Zwm, WalksT → Zwn, ItemsOf → Zwq, Drawn → Zwt, wpAny_runValue → Zwv, wpAny_notIn_of → Zww, wpAny_newTuple → Zwx, wpAny_bindName → Zwy, setAddHashedIn → Zw0, recursionLimit → Zw1, numbered_texts → Zw2, isSubtype_stop → Zw3, entryFor_alias → Zw4, wpAny_handled → Zxe, swapsWithSole → Zxf, swappedStores → Zxg, storeSet → Zxh, signature?_of → Zxi, setSearchFrom → Zxj, raiseNew → Zxk, newTuple → Zxl, evalPart_none → Zxo, entryFor → Zxp, comprehension → Zxq, compEnvC → Zxr, callWith → Zxs, ReadsAll → Zxt, Reads → Zxu, ExceptHandler → Zxz
open PySem.Around renaming under_plainId → Zkb, in1_units → Zof, under → Zqj, under_plain → Zq9
open PySem.Builtin.Frozenset renaming updateFrom → Zs8, sizeOf → Zs9, newClass → Zta
open PySem.Builtin.List renaming listExtendWith → Zig, listLengthHint → Zjx, listSameRef → Zj8, listItems → Zor, listUpdate → Zwf
open PySem.Builtin.SmallTypes renaming nextOf → Zhx, fitsIndex → Zia, ownedTupleIsFree → Ziq, ownedTupleHandOut → Zls
open PySem.Builtin.Str renaming strKind → Zij, strSub → Zms, occurrences → Zoq, tooLong → Zwu
open PySem.Calls renaming spliced_cons → Zlu, Constant_str → Zlv, spliced_nil → Zn9, Name_function_global → Zpd, call_function_entry → Zpr, callWith_builtin → Zqh, evalArgs_plain → Zq1
open PySem.Challenge renaming rw_folk_k51_books_at_a_desk → Zlb, pw_folk_k51_books_at_a_desk → Ztu
open PySem.Code renaming isFrame → Zq0, quiet_builtin → Zr9, frames → Zwe
open PySem.DictEntry renaming refKey → Zx0
open PySem.Draws renaming list → Zmy
open PySem.EqMixed renaming ne_str_int → Zu9, ne_str_bool → Zva, ne_int_str → Zvb, ne_bool_str → Zvc, eq_str_int → Zvd, eq_str_bool → Zve, eq_int_str → Zvf, eq_bool_str → Zvg
open PySem.EqNone renaming ne_str_none → Zvr, ne_none_str → Zvs, ne_none_none → Zvt, ne_none_int → Zvu, ne_none_bool → Zvv, ne_int_none → Zvw, ne_bool_none → Zvx, eq_str_none → Zvy, eq_none_str → Zvz, eq_none_none → Zv0, eq_none_int → Zv1, eq_none_bool → Zv2, eq_int_none → Zv3, eq_bool_none → Zv4
open PySem.F renaming plainAttrs_str → Zhm, slot_str_split → Zip, entry_str_split → Zkd, slot_tuple_iterator_next → Zkf, called_set → Zkp, type_str_join → Zkw, slot_str_join → Zkx, slot_list_append → Zme, type_str_split → Zmx, slot_zip_next → Zne, type_list_append → Zom, called_enumerate → Zon, args_str_split_3 → Zoo, args_str_split_2 → Zop, slot_dict_getitem → Zo6, plainAttrs_list → Zo8, type_str_strip → Zpo, slot_str_strip → Zpp, args_tuple_iterator_next_1 → Zp1, entry_tuple_iterator_next → Zqb, plain_extend_loop → Zs6, plain_list_iadd → Zt2, entry_type_call → Zt3, args_zip_next_1 → Zt4, entry_zip_next → Zul, type_str_find → Zvk, slot_str_find → Zvl, slot_set_iter → Zvm, plain_set_new → Zvn
open PySem.Flow renaming next → Zxd
open PySem.Heap renaming get?_push_of_some → Zga, get?_push_size → Zgj, lt_size → Zgk, size_push → Zg4, get?_update_other → Zht, SameBut → Zh2, get?_update_self → Zh6, ExtBut → Zrp, size_update → Zs5, IsList → Zwd
open PySem.Heap.DictOf renaming new → Zws
open PySem.Heap.IsSliceOf renaming new → Zuk
open PySem.Heap.IsTuple renaming push → Zwc
open PySem.Heap.SameBut renaming update → Zib, refl → Zwb
open PySem.IsL renaming update → Zxv
open PySem.ItemsOf renaming nil → Zt0
open PySem.NameKind renaming free → Zhi, cell → Zkk
open PySem.Obj renaming data_mapFields → Zid, mapSeq → Zj0, isFreed_of_fields → Zj6, cls_mapFields → Zmg, putSet → Zqd, mapFields → Zvh
open PySem.Paired renaming length → Zpx, snoc → Zud
open PySem.PassesOwn renaming never → Zkg
open PySem.PyData renaming eqv → Zj4, canLay0 → Zkt, eqvAll → Zng, canLayAll0 → Zre, depthAll → Zsf, strOk → Ztv, depth → Ztw
open PySem.SeqAt.EqAt renaming str_str → Zw8, str_int → Zw9, int_str → Zxa, int_int → Zxb
open PySem.SetTable renaming insertAt → Zgt, below → Zha, grown → Zjf, fresh → Zjg, turns → Zli, fits → Zl1, has → Zpv, sameMemory → Zqc, eraseAt → Zq3, slot → Zsd, fill → Zse
open PySem.SetTable.Slot renaming dummy → Zo5
open PySem.SetTable.below renaming go → Zk6
open PySem.Shared renaming setGen → Zpu, heap → Zqv, TypeIs → Zte
open PySem.Str renaming ofString → Zl0, join → Zpa, length → Zst, append → Zw7
open PySem.StrLaws renaming occ_length_le → Zp6, glued_eq_join → Zp7
open PySem.Txt renaming split → Zn6, find → Zo9, stripChars → Zp5, slice → Zq2, replace → Zr0, mul → Zts, startswith → Zua
open PySem.Value renaming none → Zhs, ref → Zhy, type → Ziw, bool → Zma, str → Znq, int → Zqr, isStrOf → Ztr, isInt → Zu4, float → Zu5, bytes → Zu6
open PySem.W renaming Frag → Zf6, fnOf → Zh3, findIn → Zic, emptyDict → Zin, instObj → Zjl, keepIn → Zks, plainGet → Zmb, lookIn → Zmt, codeIn → Zmu, plainGet_of → Zm6, methodObj → Znr, hasDictIn → Zns, takerIn → Zog, OpenLaw → Zoh, cellsFrom_some → Zpw, isFn → Zp8, callWith_K → Zqw, specialIn → Zq4, plainOver → Zq5, handedIn → Zrd, makesIn → Zr2, WalkO → Zsu
open PySem.W.Looks renaming here → Zu8
open PySem.Walks renaming tuple → Zu3
open PySem.WalksT renaming enumerateD → Zlz
open PySem.Within renaming cons → Zvq
open PySem.pickOrder renaming go → Zph
open Sum renaming inr → Zm5, inl → Zpi
open Sum.inr renaming inj → Ztt
open True renaming intro → Zm4
set_option Elab.async false
set_option linter.all false
set_option maxRecDepth 100000
set_option maxHeartbeats 8000000
set_option genSizeOf false
set_option bootstrap.genMatcherCode false
noncomputable section
namespace L2
open PySem PySem.Spec PyProof.Rows
noncomputable abbrev Key:=Sum Int Str
noncomputable def zp2:Key->Zf9->Bool
 | .inl k,v=>Zu4 k v
 | .inr x,v=>Ztr x v
noncomputable def keyH(w:Zhn):Key->Int
 | .inl k=>hashInt k
 | .inr x=>hashStr w x
theorem za4:∀{k:Key} {v:Zf9},zp2 k v=true->(∃i t,k=Zpi i/\v=Zqr i t)\/(∃x t,k=Zm5 x/\v=Znq x t)
 | .inl i,v,h=>by
  obtain⟨t,e⟩:=Value.isInt_shape (k:=i) (v:=v) h
  exact .inl ⟨i,t,rfl,e⟩
 | .inr x,v,h=>by
  obtain⟨t,e⟩:=Value.isStrOf_shape (x:=x) (v:=v) h
  exact .inr ⟨x,t,rfl,e⟩
theorem zud(i:Int)(t:Tok):zp2 (.inl i) (.int i t)=true:=by simp[zp2,Zu4]
theorem zuq(x:Str)(t:Tok):zp2 (.inr x) (.str x t)=true:=by simp[zp2,Ztr]
theorem yb9(a b:Int):decide ((Zpi a:Key)=Zpi b)=(a == b):=by
 by_cases e:a=b
 .subst e;simp
 .have h:¬ (Zpi a:Key)=Zpi b:=fun q=>e (Sum.inl.inj q)
  rw[decide_eq_false h]
  exact(beq_eq_false_iff_ne.mpr e).symm
theorem ybp(a b:Str):decide ((Zm5 a:Key)=Zm5 b)=decide (a=b):=by
 by_cases e:a=b
 .subst e;simp
 .have h:¬ (Zm5 a:Key)=Zm5 b:=fun q=>e (Ztt q)
  rw[decide_eq_false h,decide_eq_false e]
theorem ycf(a:Int)(b:Str):decide ((Zpi a:Key)=Zm5 b)=false:=decide_eq_false (fun q=>nomatch q)
theorem ycg(a:Str)(b:Int):decide ((Zm5 a:Key)=Zpi b)=false:=decide_eq_false (fun q=>nomatch q)
noncomputable def zaq(prog:Zgy)(w:Zhn):PySem.KeyKind prog w Key where
 is:=zp2
 hash:=keyH w
 inj:=fun v a b ha hb=>by
  rcases za4 ha with ⟨i,t,rfl,rfl⟩ | ⟨x,t,rfl,rfl⟩
  .rcases za4 hb with ⟨j,u,rfl,e⟩ | ⟨y,u,rfl,e⟩
   .injection e with e1 _;rw[e1]
   .exact nomatch e
  .rcases za4 hb with ⟨j,u,rfl,e⟩ | ⟨y,u,rfl,e⟩
   .exact nomatch e
   .injection e with e1 _;rw[e1]
 byValue:=fun k v h=>by
  rcases za4 h with ⟨i,t,rfl,rfl⟩ | ⟨x,t,rfl,rfl⟩ <;> rfl
 pyHash:=fun hv h=>by
  rcases za4 hv with ⟨i,t,rfl,rfl⟩ | ⟨x,t,rfl,rfl⟩
  .exact wpAny_pyHash_int h
  .exact wpAny_pyHash_str h
 eqBool:=fun hu hv h=>by
  rcases za4 hu with ⟨i,t,rfl,rfl⟩ | ⟨x,t,rfl,rfl⟩
  .rcases za4 hv with ⟨j,u,rfl,rfl⟩ | ⟨y,u,rfl,rfl⟩
   .rw[yb9] at h;exact wpAny_eqBool_int h
   .rw[ycf] at h;exact Zxa i t y u _ _ _ _ h
  .rcases za4 hv with ⟨j,u,rfl,rfl⟩ | ⟨y,u,rfl,rfl⟩
   .rw[ycg] at h;exact Zw9 x t j u _ _ _ _ h
   .rw[ybp] at h;exact wpAny_eqBool_str h
 «strs»:=fun k x t v h=>by
  rcases za4 h with ⟨i,u,rfl,e⟩ | ⟨y,u,rfl,e⟩
  .exact nomatch e
  .injection e with e1 _
   subst e1
   cases v <;> rfl
theorem zia(prog:Zgy)(w:Zhn)(i:Int)(t:Tok):(zaq prog w).is (.inl i) (.int i t)=true:=zud i t
theorem zdv(prog:Zgy)(w:Zhn)(x:Str)(t:Tok):(zaq prog w).is (.inr x) (.str x t)=true:=zuq x t
inductive V where
 | non | bl (b:Bool) | int (i:Int) | str (x:Str) | byt (b:Array UInt8) | flt (b:UInt64) | ref (a:Addr) | ty (n:String)
 deriving DecidableEq
noncomputable def RelV:V->Zf9->Prop
 | .non,u=>u=Zhs
 | .bl b,u=>u=Zma b
 | .int i,u=>∃t,u=Zqr i t
 | .str x,u=>∃t,u=Znq x t
 | .byt b,u=>∃t,u=Zu6 b t
 | .flt b,u=>∃t,u=Zu5 b t
 | .ref a,u=>u=Zhy a
 | .ty n,u=>u=Ziw n
noncomputable abbrev Vals:List V->List Zf9->Prop:=Paired RelV
theorem Vals.length{xs:List V}{us:List Zf9}(r:Vals xs us):xs.length=us.length:=Zpx r
theorem Vals.get:∀{xs:List V} {us:List Zf9} {i:Nat} {x:V},Vals xs us->xs[i]? = some x-> ∃u,us[i]? = some u/\RelV x u
 | _,_,_,_,.nil,e=>by simp at e
 | _,_,0,_,.cons r _,e=>by simp at e;subst e;exact⟨_,rfl,r⟩
 | _,_,i+1,x,.cons _ t,e=>by
  obtain⟨u,h1,h2⟩:=Vals.get (i:=i) (x:=x) t (by simpa using e)
  exact⟨u,by simpa using h1,h2⟩
theorem Vals.append:∀{xs ys:List V} {us ws:List Zf9},Vals xs us->Vals ys ws->Vals (xs++ys) (us++ws)
 | _,_,_,_,.nil,s=>s
 | _,_,_,_,.cons r t,s=>.cons r (Vals.append t s)
theorem Vals.take:∀{xs:List V} {us:List Zf9} (n:Nat),Vals xs us->Vals (xs.take n) (us.take n)
 | _,_,0,_=>.nil
 | _,_,_+1,.nil=>.nil
 | _,_,n+1,.cons r t=>.cons r (Vals.take n t)
theorem Vals.drop:∀{xs:List V} {us:List Zf9} (n:Nat),Vals xs us->Vals (xs.drop n) (us.drop n)
 | _,_,0,r=>r
 | _,_,_+1,.nil=>.nil
 | _,_,n+1,.cons _ t=>Vals.drop n t
noncomputable def RelO:Option V->Option Zf9->Prop
 | some v,some u=>RelV v u
 | none,none=>True
 | _,_=>False
noncomputable def KV{κ:Type}:List (κ×V)->List (κ×Zf9)->Prop:=Paired fun(p:κ×V) (q:κ×Zf9)=>p.1=q.1/\RelV p.2 q.2
noncomputable def kV:Key->V
 | .inl i=>.int i
 | .inr x=>.str x
inductive HO where
 /-- a list -/
 | lst (xs:List V)
 /-- a tuple (never changes) -/
 | tup (xs:List V)
 /-- a dict whose keys are ints and texts;one whose keys are tuples of ints and texts (the empty one is both) -/
 | dK (kvs:List (Key×V)) | dT (kvs:List (List Key×V))
 /-- a set of ints: its members,its size -/
 | set (S:Int->Bool) (n:Nat)
 /-- an instance of the class at C,its dict at dx,its attributes -/
 | ins (C dx:Addr) (fs:List (Str×V))
 /-- the dict of the instance at x -/
 | own (x:Addr)
 /-- the dict of an exception -/
 | xd (fs:List (Str×V))
 /-- a bound method,f of x -/
 | met (f x:Addr)
 /-- a range object lo,lo+1,.. below hi -/
 | rng (lo hi:Int)
 /-- a thing that is known to the object (the script;a dict while a loop walks it): read,never written while it is so -/
 | frz (o:Obj) (u:HO)
 /-- a code object's table -/
 | tbl (ps:Array Zf9)
 /-- any other thing,by what is true of its one object (a def of one's own: SetO a S n:=HO.ext fun h=>..) -/
 | ext (φ:Heap->Prop)
 | tab (ps:Array Zf9) (pos:Pos) (q:Str)
noncomputable abbrev Hp:=Addr->Option HO
noncomputable def upd(H:Hp)(a:Addr)(o:HO):Hp:=fun b=>if b=a then some o else H b
theorem zan{H:Hp}{a:Addr}{o:HO}:upd H a o a=some o:=by unfold upd;rw[if_pos rfl]
theorem zak{H:Hp}{a b:Addr}{o:HO}(h:b≠a):upd H a o b=H b:=by unfold upd;rw[if_neg h]
theorem ycs{H:Hp}{a b:Addr}{o u:HO}(h:H a=some o)(h':H b=some u)(d:o≠u):a≠b:=by
 intro e;subst e;rw[h] at h';exact d (Zhz h')
theorem zas{H:Hp}{a b:Addr}{o:HO}(h:H a=some o)(h':H b=none):a≠b:=by
 intro e;subst e;rw[h] at h';cases h'
section
variable(P:Zgy)(w:Zhn)
noncomputable def zck(H:Hp)(h:Heap)(a:Addr):HO->Prop
 | .lst xs=>xs.length<=sizeLine /\ ∃(its:List Zf9) (n:Nat),Vals xs its/\h.get? a=some { cls:=.type "list", data:=.seq its.toArray n }
 | .tup xs=>xs.length<=sizeLine /\ ∃its:List Zf9,Vals xs its/\IsTup h a its.toArray
 | .dK kvs=>kvs.length<=sizeLine/\(a == Zj3)=false /\ ∃vs,KV kvs vs/\h.DictOf (zaq P w) a vs
 | .dT kvs=>kvs.length<=sizeLine/\(a == Zj3)=false /\ ∃xs:List (List Key×Addr×Zf9),
   Paired (fun(p:List Key×V) (q:List Key×Addr×Zf9)=>p.1=q.1/\H q.2.1=some (.tup (p.1.map kV))/\RelV p.2 q.2.2) kvs xs /\
   ∃o es ep,h.get? a=some o/\o.ExactDict/\o.data= .dict es ep/\es.toList=xs.map (entryOfKey (Zqn (zaq P w)))/\(xs.map (·.1)).Nodup
 | .set S n=>h.SetOf (intKind P w) a S n
 | .ins C dx fs=>H dx=some (.own a)/\fs.length<=1000/\dx≠a/\h.get? a=some (Zjl C dx) /\
   ∃mA,h.Ns1 dx mA/\(∀f,RelO (fs.lookup f) (mA f))/\Zqs mA (fs.map (·.1))
 | .own _=>∃o,h.get? a=some o
 | .xd fs=>∃mA,h.Ns1 a mA /\ ∀f,RelO (fs.lookup f) (mA f)
 | .rng lo hi=>∃t u v,h.get? a=some { cls:=.type "range", data:=.fields #[.int lo t,.int hi u,.int 1 v] }
 | .frz o u=>h.get? a=some o/\zck H h a u
 | .tbl ps=>h.get? a=some { cls:=.none,data:=.fields ps }
 | .met f x=>h.get? a=some (Znr (.ref f) (.ref x))
 | .ext φ=>φ h/\(∃o,h.get? a=some o) /\ ∀h1 h2:Heap,φ h1->(∀o,h1.get? a=some o->h2.get? a=some o)->φ h2
 | .tab ps pos q=>∃more:Array Zf9,h.get? a=some { cls:=.none,data:=.fields (ps++more) }/\TriplesOk (ps++more).toList/\(codeAmong pos (ps++more).toList=none \/ ∃c' oc vs t,codeAmong pos (ps++more).toList=some (.ref c')/\H c'=some (.frz oc (.own a))/\oc.data= .fields vs/\vs[1]? = some (.str q t))
noncomputable def HOk(H:Hp)(h:Heap):Prop:=∀a o,H a=some o->zck P w H h a o
end
section
variable{P:Zgy}{w:Zhn}{H H':Hp}{h h':Heap}{a:Addr}{o:HO}
theorem zck.lt(x:zck P w H h a o):a<h.objs.size:=by
 cases o with
 | lst xs=>obtain⟨_,_,_,_,e⟩:=x;exact Zgk e
 | tup xs=>obtain⟨_,_,_,p⟩:=x;exact p.lt
 | dK kvs=>obtain⟨_,_,_,_,o,_,_,e,_⟩:=x;exact Zgk e
 | dT kvs=>obtain⟨_,_,_,_,o,_,_,e,_⟩:=x;exact Zgk e
 | set S n=>obtain⟨o,_,_,_,e,_⟩:=x;exact Zgk e
 | ins C dx fs=>obtain⟨_,_,_,e,_⟩:=x;exact Zgk e
 | own y=>obtain⟨_,e⟩:=x;exact Zgk e
 | xd fs=>obtain⟨_,⟨_,_,_,e,_⟩,_⟩:=x;exact Zgk e
 | rng lo hi=>obtain⟨_,_,_,e⟩:=x;exact Zgk e
 | frz ob u=>obtain⟨e,_⟩:=x;exact Zgk e
 | tbl ps=>exact Zgk (show h.get? a=some _ from x)
 | met f y=>exact Zgk (show h.get? a=some _ from x)
 | ext φ=>obtain⟨_,⟨_,e⟩,_⟩:=x;exact Zgk e
 | tab ps pos q=>obtain⟨_,e,_⟩:=x;exact Zgk e
theorem Paired.mapP{α β:Type}{F G:α->β->Prop}:∀{l₁:List α} {l₂:List β},Paired F l₁ l₂->(∀a b,F a b->G a b)->Paired G l₁ l₂
 | _,_,.nil,_=>.nil
 | _,_,.cons r t,f=>.cons (f _ _ r) (Paired.mapP t f)
theorem zck.stay(x:zck P w H h a o)(k:∀b u,(b=a\/H b=some (.own a))->h.get? b=some u->h'.get? b=some u)
  (ho:∀b,H b=some (.own a)->H' b=some (.own a)) (ht:∀b xs,H b=some (.tup xs)->H' b=some (.tup xs))
  (hf:∀b o u,H b=some (.frz o u)->H' b=some (.frz o u):=by first | exact fun _ _ _ q=>q | exact fun c _ _ q=>(zak (zas q (by assumption))).trans q | exact fun c _ _ r=>(zak (fun z=>by rw[<- z,r] at mu;exact mu)).trans r):zck P w H' h' a o:=by
 induction o with
 | lst xs=>obtain⟨z,its,n,r,e⟩:=x;exact⟨z,its,n,r,k _ _ (.inl rfl) e⟩
 | tup xs=>obtain⟨z,its,r,ob,e,c⟩:=x;exact⟨z,its,r,ob,k _ _ (.inl rfl) e,c⟩
 | dK kvs=>obtain⟨z,y,vs,r,ob,es,ep,e,c⟩:=x;exact⟨z,y,vs,r,ob,es,ep,k _ _ (.inl rfl) e,c⟩
 | dT kvs =>
  obtain⟨z,y,xs,r,ob,es,ep,e,c⟩:=x
  exact⟨z,y,xs,Paired.mapP r fun p q z=>⟨z.1,ht _ _ z.2.1,z.2.2⟩,ob,es,ep,k _ _ (.inl rfl) e,c⟩
 | set S n=>obtain⟨ob,es,ep,t,e,c⟩:=x;exact⟨ob,es,ep,t,k _ _ (.inl rfl) e,c⟩
 | ins C dx fs =>
  obtain⟨d,z,ne,e,mA,⟨od,es,ep,e2,c⟩,r⟩:=x
  exact⟨ho _ d,z,ne,k _ _ (.inl rfl) e,mA,⟨od,es,ep,k _ _ (.inr d) e2,c⟩,r⟩
 | own y=>obtain⟨ob,e⟩:=x;exact⟨ob,k _ _ (.inl rfl) e⟩
 | xd fs=>obtain⟨mA,⟨od,es,ep,e,c⟩,r⟩:=x;exact⟨mA,⟨od,es,ep,k _ _ (.inl rfl) e,c⟩,r⟩
 | rng lo hi=>obtain⟨t,u,v,e⟩:=x;exact⟨t,u,v,k _ _ (.inl rfl) e⟩
 | frz ob u ih=>obtain⟨e,q⟩:=x;exact⟨k _ _ (.inl rfl) e,ih q⟩
 | tbl ps =>
  have e:h.get? a=some { cls:=.none,data:=.fields ps }:=x
  show h'.get? a=some { cls:=.none,data:=.fields ps }
  exact k a _ (.inl rfl) e
 | met f y =>
  have e:h.get? a=some (Znr (.ref f) (.ref y)):=x
  show h'.get? a=some (Znr (.ref f) (.ref y))
  exact k a _ (.inl rfl) e
 | ext φ=>obtain⟨p,⟨o,e⟩,st⟩:=x;exact⟨st _ _ p fun o q=>k _ _ (.inl rfl) q,⟨o,k _ _ (.inl rfl) e⟩,st⟩
 | tab ps pos q =>
  obtain⟨m,e,t,r⟩:=x
  exact⟨m,k _ _ (.inl rfl) e,t,r.imp id fun⟨c',oc,vs,t2,e1,e2,q1,q2⟩=>⟨c',oc,vs,t2,e1,hf _ _ _ e2,q1,q2⟩⟩
theorem HOk.lt(x:HOk P w H h)(e:H a=some o):a<h.objs.size:=(x a o e).lt
theorem HOk.fresh(x:HOk P w H h)(e:h.objs.size<=a):H a=none:=by
 cases q:H a with
 | none=>rfl
 | some u=>exact absurd (Zgw (x.lt q) e) (Zhu _)
theorem HOk.kept(x:HOk P w H h)(k:∀b u,h.get? b=some u->h'.get? b=some u):HOk P w H h':=fun a o e =>
 (x a o e).stay (fun b u _ q=>k b u q) (fun _ q=>q) fun _ _ q=>q
theorem HOk.laid(x:HOk P w H h)(k:∀b u,h.get? b=some u->h'.get? b=some u)(hp:h.objs.size<=a)(new:zck P w (upd H a o) h' a o):HOk P w (upd H a o) h':=fun b u e=>by
 have hn:=x.fresh hp
 by_cases hb:b=a
 .subst hb;rw[zan] at e;cases e;exact new
 .rw[zak hb] at e
  exact(x b u e).stay (fun c v _ q=>k c v q) (fun c q=>by rw[zak (zas q hn)];exact q) fun c xs q=>by rw[zak (zas q hn)];exact q
end
noncomputable def Rd(H:Hp)(a:Addr)(u:HO):Prop:=H a=some u \/ ∃o,H a=some (.frz o u)
theorem Rd.ok{P:Zgy}{w:Zhn}{H:Hp}{h:Heap}{a:Addr}{u:HO}(r:Rd H a u)(x:HOk P w H h):zck P w H h a u:=by
 rcases r with r | ⟨o,r⟩
 .exact x a u r
 .obtain⟨_,q⟩:=x a _ r
  exact q
noncomputable def Mut:Option HO->Prop
 | some (.lst _)=>True
 | some (.dK _)=>True
 | some (.dT _)=>True
 | some (.set _ _)=>True
 | some (.ins _ _ _)=>True
 | some (.ext _)=>True
 | _=>False
section
variable{P:Zgy}{w:Zhn}{H:Hp}{h h':Heap}{x e:Addr}{o':HO}
theorem HOk.write(ok:HOk P w H h)(mu:Mut (H x))(he:e=x\/H e=some (.own x))(k:∀b u,b≠e->h.get? b=some u->h'.get? b=some u)(heo:∃u,h'.get? e=some u)
  (new:zck P w (upd H x o') h' x o'):HOk P w (upd H x o') h':=fun b u q=>by
 have nown:∀c y,H c=some (.own y)->c≠x:=fun c y r z=>by subst z;rw[r] at mu;exact mu
 have ntup:∀c xs,H c=some (.tup xs)->c≠x:=fun c xs r z=>by subst z;rw[r] at mu;exact mu
 by_cases hb:b=x
 .subst hb;rw[zan] at q;cases q;exact new
 .rw[zak hb] at q
  by_cases hbe:b=e
  .have q':H b=some (.own x):=by
    rcases he with z | z
    .exact absurd (hbe.trans z) hb
    .rw[hbe];exact z
   rw[q] at q';cases q'
   obtain⟨v,hv⟩:=heo
   exact⟨v,by rw[hbe];exact hv⟩
  .refine(ok b u q).stay (fun c v hc r=>k c v ?_ r) (fun c r=>by rw[zak (nown c b r)];exact r) fun c xs r=>by rw[zak (ntup c xs r)];exact r
   rcases hc with rfl | hc
   .exact hbe
   .rintro rfl
    rcases he with z | z
    .exact nown c b hc z
    .rw[hc] at z;cases z;exact hb rfl
end
structure Un(fs ex:List Addr)(H H':Hp)(h h':Heap):Prop where
 keep:∀b o,h.get? b=some o->H b=none->b∉fs->b∉ex->h'.get? b=some o
 slot:∀b o,h.get? b=some o->H b=none->b∈fs->b∉ex-> ∃sl,h'.get? b=some { o with slots:=sl }
 free:∀b o,h.get? b=some o->H b=none->b∉ex->H' b=none
 there:∀b o,h.get? b=some o->b∉ex-> ∃o',h'.get? b=some o'
 tups:∀b xs,H b=some (.tup xs)->H' b=some (.tup xs)
 frzs:∀b o u,H b=some (.frz o u)->H' b=some (.frz o u)
 tbls:∀b ps,H b=some (.tbl ps)-> ∃more,H' b=some (.tbl (ps++more))
section
variable{fs fs' ex ex':List Addr}{H H1 H2:Hp}{h h1 h2 h':Heap}{a x e:Addr}{o:HO}
theorem Un.any(u:Un fs ex H H1 h h1){b:Addr}{ob:Obj}(q:h.get? b=some ob)(n:H b=none)(hx:b∉ex):∃sl,h1.get? b=some { ob with slots:=sl }:=by
 by_cases hb:b∈fs
 .exact u.slot b ob q n hb hx
 .exact⟨ob.slots,u.keep b ob q n hb hx⟩
theorem Un.kept(k:∀b u,h.get? b=some u->h'.get? b=some u):Un fs ex H H h h' :=
 ⟨fun b ob q _ _ _=>k b ob q,fun b ob q _ _ _=>⟨ob.slots,k b ob q⟩,fun _ _ _ n _=>n,fun b ob q _=>⟨ob,k b ob q⟩,fun _ _ q=>q,fun _ _ _ q=>q,fun _ ps q=>⟨#[],by rw[q];simp⟩⟩
theorem Un.refl:Un fs ex H H h h:=Un.kept fun _ _ q=>q
theorem Un.laid(k:∀b u,h.get? b=some u->h'.get? b=some u)(hp:h.objs.size<=a)(hn:H a=none):Un fs ex H (upd H a o) h h' where
 keep:=fun b u q _ _ _=>k b u q
 slot:=fun b u q _ _ _=>⟨u.slots,k b u q⟩
 free:=fun b u q n _=>by rw[zak (Zgu (Zgw (Zgk q) hp))];exact n
 there:=fun b u q _=>⟨u,k b u q⟩
 tups:=fun b xs q=>by rw[zak (zas q hn)];exact q
 frzs:=fun b u xs q=>by rw[zak (zas q hn)];exact q
 tbls:=fun b ps q=>⟨#[],by rw[zak (zas q hn),q];simp⟩
theorem Un.write(mu:Mut (H x))(he:e=x\/H e=some (.own x))(k:∀b u,b≠e->h.get? b=some u->h'.get? b=some u)(heo:∃u,h'.get? e=some u):Un fs ex H (upd H x o) h h':=by
 have hx:∀b,H b=none->b≠x:=fun b n z=>by subst z;rw[n] at mu;exact mu
 have hb:∀b,H b=none->b≠e:=fun b n z=>by
  subst z
  rcases he with r | r
  .exact hx b n r
  .rw[n] at r;cases r
 have hm:∀b u,H b=some u-> ¬ Mut (some u)->b≠x:=fun b u q nm z=>by subst z;rw[q] at mu;exact nm mu
 refine⟨fun b u q n _ _=>k b u (hb b n) q,fun b u q n _ _=>⟨u.slots,k b u (hb b n) q⟩,fun b u q n _=>by rw[zak (hx b n)];exact n,fun b u q _=>?_,
  fun b xs q=>by rw[zak (hm b _ q fun z=>z)];exact q,fun b u xs q=>by rw[zak (hm b _ q fun z=>z)];exact q,fun b ps q=>⟨#[],by rw[zak (hm b _ q fun z=>z),q];simp⟩⟩
 by_cases hbe:b=e
 .subst hbe;exact heo
 .exact⟨u,k b u hbe q⟩
end
noncomputable def trk(h:Heap)(H:Hp):List Addr:=(Zg1 h.objs.size).filter fun a=>(H a).isSome
noncomputable def hidT(h:Heap)(H:Hp):Heap:=PySem.W.hideAll h (trk h H)
theorem zsi(h:Heap)(H:Hp):(hidT h H).objs.size=h.objs.size:=PySem.W.hideAll_size _ _
theorem zvi{h:Heap}{H:Hp}{b:Addr}{o:Obj}(e:h.get? b=some o)(n:H b=none):(hidT h H).get? b=some o :=
 PySem.W.hideAll_get _ e fun hm=>by
  have q:(H b).isSome=true:=(Zpc.mp hm).2
  rw[n] at q;simp at q
theorem zy3{h:Heap}{H:Hp}{b:Addr}{o:Obj}(e:(hidT h H).get? b=some o):h.get? b=some o/\H b=none:=by
 have e':h.get? b=some o:=PySem.W.of_hideAll (trk h H) e
 refine⟨e',?_⟩
 cases q:H b with
 | none=>rfl
 | some x =>
  have hm:b∈trk h H:=Zpc.mpr ⟨Zhp.mpr (Zgk e'),by simp[q]⟩
  have z:(hidT h H).get? b=none:=PySem.W.hideAll_none (trk h H) hm
  rw[z] at e;cases e
noncomputable def zzl(g h:Heap)(L:Addr):List (Addr×Obj):=(Zg1 h.objs.size).filterMap fun a=>if a=L\/(g.get? a).isSome=true then none else (h.get? a).map fun o=>(a,o)
noncomputable def rest(g h:Heap)(L d:Addr):List (Addr×Obj):=(zzl g h L).filter fun p=>decide (p.1≠d)
structure Mod(K:Zf6)(mg:Str->Option Zf9)(base:Heap):Prop where
 kin:K.In base
 glob:base.Ns Zjs mg
 blt:∃mb,base.Ns Zuz mb /\ ∀x:Str,x ≠ "__name__" -> mb x=Zno x
 nolimit:base.NoLimit
structure Cx where
 prog:Zgy
 w:Zhn
 K:Zf6
 mg:Str->Option Zf9
 base:Heap
 A:Zhe
 N:List Str
 s₀:Zgc
 Hz:Hp
 env:Env
 outer:List Env
 stack:List Env
 ex:List Addr
 fn:Str->Bool
 calm:Bool
 pn:List (Addr×Obj)
 xe:Zf9->Zgc->Prop
noncomputable def frs(l:List Env):List Addr:=l.filterMap (·.frame)
noncomputable abbrev Cx.fs(X:Cx):List Addr:=frs X.outer
noncomputable def Vis(sc:Scope)(x:Str):Prop:=sc.names.lookup x=some .local\/sc.names.lookup x=some .cell\/sc.names.lookup x=some .free
noncomputable def Loc(sc:Scope)(x:Str):Prop:=sc.names.lookup x=some .local\/sc.names.lookup x=some .cell
noncomputable def Look(env:Env)(h:Heap)(m:Str->Option Zf9)(x:Str)(u:Zf9):Prop :=
 (env.kindOf x=some .local/\m x=some u)\/((env.kindOf x=some .cell\/env.kindOf x=some .free) /\ ∃c,env.cells.lookup x=some c/\h.IsCell c (some u))
structure Cx.Ok(X:Cx):Prop where
 mod:Mod X.K X.mg X.base
 kind:X.env.scope.kind= .function
 glob:X.env.globals=Zjs
 blt:X.env.builtins=Zuz
 above:X.s₀.heap.objs.size<=X.env.locals
 inj:∀x y c,X.env.cells.lookup x=some c->X.env.cells.lookup y=some c->x=y
 has:∀x,(X.env.kindOf x=some .cell\/X.env.kindOf x=some .free)-> ∃c,X.env.cells.lookup x=some c
 cab:∀x c,X.fn x=true->X.env.cells.lookup x=some c->X.s₀.heap.objs.size<=c
 hd:X.calm=true->X.A.handled=none
 frames:X.A.frames=some X.stack
 stk:X.stack=X.outer\/(X.stack=X.env::X.outer/\X.env.frame=some X.env.locals)
 exf:∀b∈X.ex,b≠X.env.locals /\ ∀x c,X.env.cells.lookup x=some c->c≠b
 bs:∀b o,X.base.get? b=some o->X.s₀.heap.get? b=some o/\X.Hz b=none
 bsz:X.base.objs.size<=X.s₀.heap.objs.size
 noex:∀b o,X.base.get? b=some o->b∉X.ex
 exfs:∀b∈X.ex,b∉X.fs
 funs:X.s₀.heap.FunFrames X.base X.outer
 frf:∀b∈X.fs,X.Hz b=none
structure Inv(X:Cx)(pins:List (Addr×Obj))(U:List (Option V))(H:Hp)(s:Zgc):Prop where
 ok:X.Ok
 os:s.os=X.s₀.os
 bare:Zot s.gens
 base:Un X.fs X.ex X.Hz H X.s₀.heap s.heap
 loc:∃m,s.heap.Ns X.env.locals m /\ ∀(i:Nat) (x:Str) (v:V),X.N[i]? = some x->U[i]? = some (some v)->Vis X.env.scope x-> ∃u,RelV v u/\Look X.env s.heap m x u
 cell:∀x c,X.env.cells.lookup x=some c-> ∃v,s.heap.IsCell c v
 free:H X.env.locals=none
 freeC:∀x c,X.env.cells.lookup x=some c->H c=none
 pin:∀p∈X.pn++pins,s.heap.get? p.1=some p.2/\H p.1=none/\p.1≠X.env.locals/\p.1∉X.fs /\ ∀v,p.2.data ≠ .cell v
 hok:HOk X.prog X.w H s.heap
 len:U.length=X.N.length
section
variable{X:Cx}{pins:List (Addr×Obj)}{U:List (Option V)}{H H':Hp}{s:Zgc}{h':Heap}
theorem Cx.Ok.nofr(ok:X.Ok){b:Addr}{o:Obj}(e:X.base.get? b=some o):b∉X.fs:=fun hb=>by
 have:=(ok.funs.mem hb).1
 rw[e] at this;cases this
theorem Inv.bs(I:Inv X pins U H s):∀b o,X.base.get? b=some o->s.heap.get? b=some o/\H b=none:=fun b o e =>
 ⟨I.base.keep b o (I.ok.bs b o e).1 (I.ok.bs b o e).2 (I.ok.nofr e) (I.ok.noex b o e),I.base.free b o (I.ok.bs b o e).1 (I.ok.bs b o e).2 (I.ok.noex b o e)⟩
theorem Inv.bk(I:Inv X pins U H s):∀b o,X.base.get? b=some o->s.heap.get? b=some o:=fun b o e=>(I.bs b o e).1
theorem Inv.mod(I:Inv X pins U H s):Mod X.K X.mg X.base:=I.ok.mod
theorem Inv.kIn(I:Inv X pins U H s):X.K.In s.heap:=I.ok.mod.kin.keeps I.bk
theorem Inv.fr(I:Inv X pins U H s):∃m,Fr X.base X.env.locals s.heap m :=
 let ⟨m,hn,_⟩:=I.loc
 ⟨m,hn,I.bk,Zim I.ok.bsz I.ok.above⟩
theorem Inv.lt(I:Inv X pins U H s):X.env.locals<s.heap.objs.size:=let ⟨_,hn,_⟩:=I.loc;hn.lt
theorem Inv.sz(I:Inv X pins U H s):X.s₀.heap.objs.size<=s.heap.objs.size:=Zim I.ok.above (Zou I.lt)
theorem Inv.nofs(I:Inv X pins U H s){a:Addr}(h:s.heap.objs.size<=a):a∉X.fs:=fun hb=>by
 obtain⟨_,o,ho,_⟩:=I.ok.funs.mem hb
 exact absurd (Zgw (Zgk ho) (Zim I.sz h)) (Zhu _)
theorem Inv.cne(I:Inv X pins U H s):∀x c,X.env.cells.lookup x=some c->c≠X.env.locals:=fun x c e z=>by
 obtain⟨v,o,ho,hd⟩:=I.cell x c e
 obtain⟨m,⟨o',es,ep,ho',hd',_⟩,_⟩:=I.loc
 rw[z,ho'] at ho;cases ho;rw[hd'] at hd;cases hd
theorem Inv.funs(I:Inv X pins U H s):s.heap.FunFrames X.base X.outer:=by
 have all:∀(l:List Env),(∀b∈frs l,b∈X.fs)->X.s₀.heap.FunFrames X.base l->s.heap.FunFrames X.base l:=by
  intro l
  induction l with
  | nil=>intro _ _;trivial
  | cons env r ih =>
   intro hs hl
   obtain⟨hk,⟨L,o,hf,hn,ho,hd⟩,hr⟩:=hl
   have hL:L∈X.fs:=hs L (by unfold frs;rw[Zjv,hf];exact Zgz)
   obtain⟨sl,e⟩:=I.base.slot L o ho (I.ok.frf L hL) hL fun z=>I.ok.exfs L z hL
   exact⟨hk,⟨L,_,hf,hn,e,hd⟩,ih (fun b hb=>hs b (by unfold frs;rw[Zjv,hf];exact Zgi _ hb)) hr⟩
 exact all X.outer (fun _ hb=>hb) I.ok.funs
theorem Inv.stack(I:Inv X pins U H s):s.heap.FunFrames X.base X.stack:=by
 rcases I.ok.stk with e | ⟨e,hf⟩
 .rw[e];exact I.funs
 .rw[e]
  obtain⟨m,hn,_⟩:=I.loc
  refine .cons (by rw[I.ok.kind];decide) hf hn ?_ I.funs
  exact Heap.get?_none_of_le (Zim I.ok.bsz I.ok.above)
theorem Inv.stkSub(I:Inv X pins U H s):∀b∈frs X.stack,b∈X.env.locals::X.fs:=fun b hb=>by
 rcases I.ok.stk with e | ⟨e,hf⟩
 .rw[e] at hb;exact Zgi _ hb
 .rw[e] at hb
  unfold frs at hb
  rw[Zjv,hf] at hb
  exact hb
theorem Inv.stkFree(I:Inv X pins U H s):∀b∈frs X.stack,H b=none:=fun b hb=>by
 rcases Zgh.mp (I.stkSub b hb) with e | hb
 .rw[e];exact I.free
 .obtain⟨_,o,ho,_⟩:=I.ok.funs.mem hb
  exact I.base.free b o ho (I.ok.frf b hb) fun z=>I.ok.exfs b z hb
theorem Inv.step{g':Array GenState}{t':Nat}{d':Zwt}{ch:List Addr}(I:Inv X pins U H s)
  (hch:∀b∈ch,(b∈X.ex\/X.s₀.heap.objs.size<=b)/\b≠X.env.locals/\(∀x c,X.env.cells.lookup x=some c->c≠b) /\ ∀p∈X.pn++pins,p.1≠b)
  (keep:∀b o,b≠X.env.locals->b∉X.fs->b∉ch->s.heap.get? b=some o->H b=none->h'.get? b=some o)
  (slot:∀b o,b≠X.env.locals->b∈X.fs->b∉ch->s.heap.get? b=some o->H b=none-> ∃sl,h'.get? b=some { o with slots:=sl }) (free:∀b o,b∉ch->s.heap.get? b=some o->H b=none->H' b=none)
  (there:∀b o,b∉ch->s.heap.get? b=some o-> ∃o',h'.get? b=some o')
  (tups:∀b xs,H b=some (.tup xs)->H' b=some (.tup xs)) (frzs:∀b o u,H b=some (.frz o u)->H' b=some (.frz o u)) (tbls:∀b ps,H b=some (.tbl ps)-> ∃more,H' b=some (.tbl (ps++more)))
  (ns:∀m,s.heap.Ns X.env.locals m->h'.Ns X.env.locals m) (hok:HOk X.prog X.w H' h') (hg:Zot g') :
  Inv X pins U H' { s with heap:=h',gens:=g',drawn:=d',toks:=t' }:=by
 have neL:∀b o,X.s₀.heap.get? b=some o->b≠X.env.locals:=fun b o e=>Zgu (Zgw (Zgk e) I.ok.above)
 have neC:∀b o,X.s₀.heap.get? b=some o->b∉X.ex->b∉ch:=fun b o e hx hb=>by
  rcases(hch b hb).1 with z | z
  .exact hx z
  .exact absurd (Zgw (Zgk e) z) (Zhu _)
 have cellK:∀x c,X.env.cells.lookup x=some c-> ∀v,s.heap.IsCell c v->h'.IsCell c v:=fun x c e v ⟨o,ho,hd⟩=>by
  have nch:c∉ch:=fun z=>(hch c z).2.2.1 x c e rfl
  by_cases hc:c∈X.fs
  .obtain⟨sl,q⟩:=slot c o (I.cne x c e) hc nch ho (I.freeC x c e)
   exact⟨_,q,hd⟩
  .exact⟨o,keep c o (I.cne x c e) hc nch ho (I.freeC x c e),hd⟩
 refine⟨I.ok,I.os,hg,⟨fun b o e n hb hx=>?_,fun b o e n hb hx=>?_,fun b o e n hx=>?_,fun b o e hx=>?_,fun b xs e=>tups b xs (I.base.tups b xs e),fun b o xs e=>frzs b o xs (I.base.frzs b o xs e),fun b ps e=>?_⟩,?_,fun x c e=>?_,?_,fun x c e=>?_,fun p hp=>?_,hok,I.len⟩
 .exact keep b o (neL b o e) hb (neC b o e hx) (I.base.keep b o e n hb hx) (I.base.free b o e n hx)
 .obtain⟨sl,e1⟩:=I.base.slot b o e n hb hx
  obtain⟨sl',e2⟩:=slot b _ (neL b o e) hb (neC b o e hx) e1 (I.base.free b o e n hx)
  exact⟨sl',e2⟩
 .obtain⟨o',e1⟩:=I.base.there b o e hx
  exact free b o' (neC b o e hx) e1 (I.base.free b o e n hx)
 .obtain⟨o',e1⟩:=I.base.there b o e hx
  exact there b o' (neC b o e hx) e1
 .obtain⟨m1,e1⟩:=I.base.tbls b ps e
  obtain⟨m2,e2⟩:=tbls b _ e1
  exact⟨m1++m2,by rw[e2,Array.append_assoc]⟩
 .obtain⟨m,hn,hl⟩:=I.loc
  refine⟨m,ns m hn,fun i x v e1 e2 e3=>?_⟩
  obtain⟨u,r,l⟩:=hl i x v e1 e2 e3
  refine⟨u,r,?_⟩
  rcases l with l | ⟨k,c,e,z⟩
  .exact .inl l
  .exact .inr ⟨k,c,e,cellK x c e _ z⟩
 .obtain⟨v,z⟩:=I.cell x c e
  exact⟨v,cellK x c e v z⟩
 .obtain⟨m,⟨o,_,_,ho,_⟩,_⟩:=I.loc
  exact free _ o (fun z=>(hch _ z).2.1 rfl) ho I.free
 .obtain⟨v,o,ho,hd⟩:=I.cell x c e
  exact free c o (fun z=>(hch c z).2.2.1 x c e rfl) ho (I.freeC x c e)
 .obtain⟨e,n,ne,nf,d⟩:=I.pin p hp
  have nch:p.1∉ch:=fun z=>(hch p.1 z).2.2.2 p hp rfl
  exact⟨keep p.1 p.2 ne nf nch e n,free p.1 p.2 nch e n,ne,nf,d⟩
theorem Inv.un{t':Nat}(I:Inv X pins U H s)(u:Un X.fs [] H H' s.heap h')(hok:HOk X.prog X.w H' h'):Inv X pins U H' { s with heap:=h',toks:=t' }:=by
 obtain⟨m,⟨o,es,ep,ho,r⟩,_⟩:=id I.loc
 obtain⟨sl,hL⟩:=u.any ho I.free (by simp)
 exact I.step (g':=s.gens) (d':=s.drawn) (ch:=[]) (fun _ z=>nomatch z) (fun b o _ hb _ e n=>u.keep b o e n hb (by simp)) (fun b o _ hb _ e n=>u.slot b o e n hb (by simp)) (fun b o _ e n=>u.free b o e n (by simp)) (fun b o _ e=>u.there b o e (by simp)) u.tups u.frzs u.tbls (fun m' hm=>by
  obtain⟨o',es',ep',ho',r'⟩:=hm
  rw[ho] at ho';cases ho'
  exact⟨_,es',ep',hL,r'⟩) hok I.bare
theorem Inv.call{g':Array GenState}{t':Nat}{d':Zwt}{ch:List Addr}(I:Inv X pins U H s)(u:Un (frs X.stack) ch H H' s.heap h')(hok:HOk X.prog X.w H' h')(hg:Zot g')
  (hch:∀b∈ch,(b∈X.ex\/X.s₀.heap.objs.size<=b)/\b≠X.env.locals/\(∀x c,X.env.cells.lookup x=some c->c≠b) /\ ∀p∈X.pn++pins,p.1≠b) :
  Inv X pins U H' { s with heap:=h',gens:=g',drawn:=d',toks:=t' }:=by
 obtain⟨m,⟨o,es,ep,ho,r⟩,_⟩:=id I.loc
 obtain⟨sl,hL⟩:=u.any ho I.free fun z=>(hch _ z).2.1 rfl
 exact I.step (ch:=ch) hch (fun b o hL hb hc e n=>u.keep b o e n (fun z=>(Zgh.mp (I.stkSub b z)).elim hL hb) hc) (fun b o _ _ hc e n=>u.any e n hc) (fun b o hc e n=>u.free b o e n hc) (fun b o hc e=>u.there b o e hc) u.tups u.frzs u.tbls (fun m' hm=>by
  obtain⟨o',es',ep',ho',r'⟩:=hm
  rw[ho] at ho';cases ho'
  exact⟨_,es',ep',hL,r'⟩) hok hg
theorem Inv.turned{t':Nat}{it:Addr}(I:Inv X pins U H s)(k:∀b o,b≠it->s.heap.get? b=some o->h'.get? b=some o)(hn:H it=none)(hL:it≠X.env.locals)
  (h1:it∈X.ex\/X.s₀.heap.objs.size<=it) (h2:∀x c,X.env.cells.lookup x=some c->c≠it) (h3:∀p∈X.pn++pins,p.1≠it):Inv X pins U H { s with heap:=h',toks:=t' }:=by
 have nit:∀b u,H b=some u->b≠it:=fun b u e z=>by rw[z,hn] at e;cases e
 refine I.step (g':=s.gens) (d':=s.drawn) (ch:=[it]) (fun b hb=>?_) (fun b o _ _ hc e _=>k b o (fun z=>hc (by simp[z])) e) (fun b o _ _ hc e _=>⟨o.slots,k b o (fun z=>hc (by simp[z])) e⟩) (fun _ _ _ _ n=>n)
  (fun b o hc e=>⟨o,k b o (fun z=>hc (by simp[z])) e⟩) (fun _ _ e=>e) (fun _ _ _ e=>e) (fun b ps e=>⟨#[],by rw[e];simp⟩) (fun m hm=>?_) (fun b u e=>?_) I.bare
 .have e:b=it:=by simpa using hb
  subst e
  exact⟨h1,hL,h2,h3⟩
 .obtain⟨o,es,ep,ho,r⟩:=hm
  exact⟨o,es,ep,k _ o (Zho hL) ho,r⟩
 .refine(I.hok b u e).stay (fun c v hc q=>k c v ?_ q) (fun _ q=>q) fun _ _ q=>q
  rcases hc with z | z
  .rw[z];exact nit b u e
  .exact nit c _ z
theorem Inv.tok(I:Inv X pins U H s)(t:Nat):Inv X pins U H { s with toks:=t }:=I.un (h':=s.heap) (t':=t) Un.refl I.hok
theorem Inv.kept{t':Nat}(I:Inv X pins U H s)(k:∀b u,s.heap.get? b=some u->h'.get? b=some u):Inv X pins U H { s with heap:=h',toks:=t' }:=I.un (Un.kept k) (I.hok.kept k)
theorem Inv.laid{a:Addr}{o:HO}{t':Nat}(I:Inv X pins U H s)(k:∀b u,s.heap.get? b=some u->h'.get? b=some u)(hp:s.heap.objs.size<=a)(new:zck X.prog X.w (upd H a o) h' a o) :
  Inv X pins U (upd H a o) { s with heap:=h',toks:=t' }:=I.un (Un.laid k hp (I.hok.fresh hp)) (I.hok.laid k hp new)
theorem Inv.write{x e:Addr}{o:HO}{t':Nat}(I:Inv X pins U H s)(mu:Mut (H x))(he:e=x\/H e=some (.own x))(k:∀b u,b≠e->s.heap.get? b=some u->h'.get? b=some u)(heo:∃u,h'.get? e=some u)
  (new:zck X.prog X.w (upd H x o) h' x o):Inv X pins U (upd H x o) { s with heap:=h',toks:=t' }:=I.un (Un.write mu he k heo) (I.hok.write mu he k heo new)
theorem Inv.weak{U':List (Option V)}(I:Inv X pins U H s)(hl:U'.length=U.length)(w:∀(i:Nat) v,U'[i]? = some (some v)->U[i]? = some (some v)):Inv X pins U' H s :=
 ⟨I.ok,I.os,I.bare,I.base,let ⟨m,hn,hl'⟩:=I.loc;⟨m,hn,fun i x v e1 e2 e3=>hl' i x v e1 (w i v e2) e3⟩,I.cell,I.free,I.freeC,I.pin,I.hok,hl.trans I.len⟩
theorem Inv.pins_of{pins':List (Addr×Obj)}(I:Inv X pins U H s)(h:∀p∈pins',s.heap.get? p.1=some p.2/\H p.1=none/\p.1≠X.env.locals/\p.1∉X.fs /\ ∀v,p.2.data ≠ .cell v):Inv X pins' U H s :=
 ⟨I.ok,I.os,I.bare,I.base,I.loc,I.cell,I.free,I.freeC,fun p hp=>(Zhl.mp hp).elim (fun z=>I.pin p (Zi2 _ z)) (h p),I.hok,I.len⟩
theorem zo7{N:List Str}(hN:N.Nodup){i j:Nat}{x:Str}(a:N[i]? = some x)(b:N[j]? = some x):i=j:=by
 obtain⟨h1,e1⟩:=Zgg.mp a
 obtain⟨h2,e2⟩:=Zgg.mp b
 exact(Zs2 hN).mp (e1.trans e2.symm)
theorem zlc{M:Zsy}{A:Zhe}{E:Zf9->Zgc->Prop}{i:Nat}{x:Str}{v:V}{u:Zf9}{Q:Unit->Zgc->Prop}(I:Inv X pins U H s)(hN:X.N.Nodup)(hi:X.N[i]? = some x)(hx:Loc X.env.scope x)(r:RelV v u)
  (h:∀s',Inv X pins (U.set i (some v)) H s'->(∃a,Zh2 a s.heap s'.heap/\(a=X.env.locals\/X.env.cells.lookup x=some a))->Q () s') (hf:X.fn x=true\/X.env.scope.names.lookup x=some .local:=by first | exact .inl rfl | exact .inr rfl | assumption):Zgr M A (storeName X.env x u) Q E s:=by
 obtain⟨m,hn,hl⟩:=id I.loc
 have hcls:(X.env.scope.kind == .class||(X.env.scope.kind == .module&&X.env.locals != X.env.globals))=false:=by rw[I.ok.kind];rfl
 have hiσ:i<U.length:=by rw[I.len];exact(Zgg.mp hi).1
 have cne:=I.cne
 have tracked:∀{a:Addr} {h':Heap},(∃o,s.heap.get? a=some o/\H a=none)->Zh2 a s.heap h'->HOk X.prog X.w H h':=fun {a h'} ha hs b ob e=>by
  obtain⟨_,_,hfree⟩:=ha
  refine(I.hok b ob e).stay (fun c w' hc q=>(hs.2 c ?_).trans q) (fun _ q=>q) fun _ _ q=>q
  rintro rfl
  rcases hc with rfl | hc
  .rw[hfree] at e;cases e
  .rw[hfree] at hc;cases hc
 rcases hx with hk | hk
 .refine wpAny_storeName_local hk hn (fun h' hn' hs=>?_) hcls
  obtain⟨oL,_,_,hoL,_⟩:=id hn
  refine h _ ⟨I.ok,I.os,I.bare,⟨fun b o e n hb hx=>?_,fun b o e n hb hx=>?_,I.base.free,fun b o e hx=>?_,I.base.tups,I.base.frzs,I.base.tbls⟩,⟨_,hn',fun j y v' e1 e2 e3=>?_⟩,fun y c e=>?_,I.free,I.freeC,fun p hp=>?_,tracked ⟨oL,hoL,I.free⟩ hs,by simpa using I.len⟩ ⟨_,hs,.inl rfl⟩
  .exact(hs.2 b (Zgu (Zgw (Zgk e) I.ok.above))).trans (I.base.keep b o e n hb hx)
  .obtain⟨sl,e1⟩:=I.base.slot b o e n hb hx
   exact⟨sl,(hs.2 b (Zgu (Zgw (Zgk e) I.ok.above))).trans e1⟩
  .obtain⟨o',e1⟩:=I.base.there b o e hx
   exact⟨o',(hs.2 b (Zgu (Zgw (Zgk e) I.ok.above))).trans e1⟩
  .by_cases hj:j=i
   .subst hj
    rw[hi] at e1;cases e1
    rw[Zku hiσ] at e2
    cases e2
    exact⟨u,r,.inl ⟨hk,by simp⟩⟩
   .rw[Zld (Zho hj)] at e2
    obtain⟨u',r',q⟩:=hl j y v' e1 e2 e3
    refine⟨u',r',?_⟩
    rcases q with ⟨k,e⟩ | ⟨k,c,e,z⟩
    .refine .inl ⟨k,?_⟩
     have:y≠x:=fun e=>hj (zo7 hN e1 (e ▸ hi))
     simp[this,e]
    .exact .inr ⟨k,c,e,z.sameBut hs (cne y c e)⟩
  .obtain⟨w',z⟩:=I.cell y c e
   exact⟨w',z.sameBut hs (cne y c e)⟩
  .obtain⟨e,n,ne,nf,d⟩:=I.pin p hp
   exact⟨(hs.2 p.1 ne).trans e,n,ne,nf,d⟩
 .have hfn:X.fn x=true:=by
   rcases hf with z | z
   .exact z
   .rw[z] at hk;cases hk
  obtain⟨c,hc⟩:=I.ok.has x (.inl hk)
  obtain⟨w',z⟩:=I.cell x c hc
  refine wpAny_storeName_cell I.ok.kind hk hc z (fun h' hc' hs=>?_)
  obtain⟨oc,hoc,hocd⟩:=id z
  refine h { s with heap:=h' } ⟨I.ok,I.os,I.bare,⟨fun b o e n hb hx=>?_,fun b o e n hb hx=>?_,I.base.free,fun b o e hx=>?_,I.base.tups,I.base.frzs,I.base.tbls⟩,⟨m,hn.sameBut hs (Zho (cne x c hc)),fun j y v' e1 e2 e3=>?_⟩,fun y c' e=>?_,I.free,I.freeC,fun p hp=>?_,tracked ⟨oc,hoc,I.freeC x c hc⟩ hs,by simpa using I.len⟩ ⟨c,hs,.inr hc⟩
  .exact(hs.2 b (Zgu (Zgw (Zgk e) (I.ok.cab x c hfn hc)))).trans (I.base.keep b o e n hb hx)
  .obtain⟨sl,e1⟩:=I.base.slot b o e n hb hx
   exact⟨sl,(hs.2 b (Zgu (Zgw (Zgk e) (I.ok.cab x c hfn hc)))).trans e1⟩
  .obtain⟨o',e1⟩:=I.base.there b o e hx
   exact⟨o',(hs.2 b (Zgu (Zgw (Zgk e) (I.ok.cab x c hfn hc)))).trans e1⟩
  .by_cases hj:j=i
   .subst hj
    rw[hi] at e1;cases e1
    rw[Zku hiσ] at e2
    cases e2
    exact⟨u,r,.inr ⟨.inl hk,c,hc,hc'⟩⟩
   .rw[Zld (Zho hj)] at e2
    obtain⟨u',r',q⟩:=hl j y v' e1 e2 e3
    refine⟨u',r',?_⟩
    rcases q with q | ⟨k,c',e,z'⟩
    .exact .inl q
    .refine .inr ⟨k,c',e,z'.sameBut hs ?_⟩
     rintro rfl
     exact hj (zo7 hN e1 (I.ok.inj _ _ _ e hc ▸ hi))
  .by_cases hcc:c'=c
   .subst hcc;exact⟨_,hc'⟩
   .obtain⟨w2,z2⟩:=I.cell y c' e
    exact⟨w2,z2.sameBut hs hcc⟩
  .obtain⟨e,n,ne,nf,d⟩:=I.pin p hp
   refine⟨(hs.2 p.1 ?_).trans e,n,ne,nf,d⟩
   intro q
   rw[q,hoc] at e
   have q':oc=p.2:=Zhz e
   exact d w' (by rw[<- q'];exact hocd)
theorem zfy{M:Zsy}{A:Zhe}{E:Zf9->Zgc->Prop}{i:Nat}{x:Str}{v:V}{u:Zf9}{Q:Unit->Zgc->Prop}(I:Inv X pins U H s)(hN:X.N.Nodup)(hi:X.N[i]? = some x)(hx:Loc X.env.scope x)(r:RelV v u)
  (h:∀s',Inv X pins (U.set i (some v)) H s'->Q () s') (hf:X.fn x=true\/X.env.scope.names.lookup x=some .local:=by first | exact .inl rfl | exact .inr rfl | assumption):Zgr M A (storeName X.env x u) Q E s :=
 zlc I hN hi hx r (fun s' I' _=>h s' I') hf
theorem Inv.call'{s':Zgc}{ch:List Addr}(I:Inv X pins U H s)(ho:s'.os=s.os)(u:Un (frs X.stack) ch H H' s.heap s'.heap)(hok:HOk X.prog X.w H' s'.heap)(hg:Zot s'.gens)
  (hch:∀b∈ch,(b∈X.ex\/X.s₀.heap.objs.size<=b)/\b≠X.env.locals/\(∀x c,X.env.cells.lookup x=some c->c≠b) /\ ∀p∈X.pn++pins,p.1≠b):Inv X pins U H' s':=by
 obtain⟨h',g',d',t',o'⟩:=s'
 have e:o'=s.os:=ho
 subst e
 exact I.call (g':=g') (t':=t') (d':=d') u hok hg hch
end
noncomputable abbrev XK:=Zf9->Option Addr->Hp->Prop
noncomputable abbrev St:=List (Option V)
noncomputable abbrev VK:=V->Hp->Prop
noncomputable abbrev TE:=St->Hp->VK->Prop
noncomputable abbrev TT:=St->Hp->(Bool->Hp->Prop)->Prop
noncomputable abbrev TA:=St->Hp->(List V->Hp->Prop)->Prop
structure Ends where
 nx:St->Hp->Prop
 rt:VK
 bk:St->Hp->Prop:=fun _ _=>False
 ct:St->Hp->Prop:=fun _ _=>False
noncomputable abbrev TS:=Ends->St->Hp->Prop
noncomputable def EP(X:Cx)(pins:List (Addr×Obj))(U:St)(Q:VK)(u:Zf9)(s':Zgc):Prop:=∃v H',Inv X pins U H' s'/\RelV v u/\Q v H'
noncomputable def TP(X:Cx)(pins:List (Addr×Obj))(U:St)(Q:Bool->Hp->Prop)(b:Bool)(s':Zgc):Prop:=∃H',Inv X pins U H' s'/\Q b H'
noncomputable def AP(X:Cx)(pins:List (Addr×Obj))(U:St)(Q:List V->Hp->Prop)(us:List Zf9)(s':Zgc):Prop:=∃vs H',Inv X pins U H' s'/\Vals vs us/\Q vs H'
noncomputable def SP(X:Cx)(pins:List (Addr×Obj))(D:Ends)(f:Flow)(s':Zgc):Prop :=
 match f with
 | .next=>∃U' H',Inv X pins U' H' s'/\D.nx U' H'
 | .brk=>∃U' H',Inv X pins U' H' s'/\D.bk U' H'
 | .cont=>∃U' H',Inv X pins U' H' s'/\D.ct U' H'
 | .ret u=>∃v U' H',Inv X pins U' H' s'/\RelV v u/\D.rt v H'
noncomputable def PE(X:Cx)(e:Expr)(t:TE):Prop :=
 ∀(pins:List (Addr×Obj)) (s:Zgc) (U:St) (H:Hp) (Q:VK),Inv X pins U H s->t U H Q->Zgr (Zg9 X.prog X.w) X.A (eval e X.env) (EP X pins U Q) X.xe s
noncomputable def PT(X:Cx)(e:Expr)(t:TT):Prop :=
 ∀(pins:List (Addr×Obj)) (s:Zgc) (U:St) (H:Hp) (Q:Bool->Hp->Prop),Inv X pins U H s->t U H Q->Zgr (Zg9 X.prog X.w) X.A (isTrue e X.env (eval e X.env)) (TP X pins U Q) X.xe s
noncomputable def PW(X:Cx)(e:Expr)(t:TT):Prop :=
 ∀(whole:Sem Zf9) (pins:List (Addr×Obj)) (s:Zgc) (U:St) (H:Hp) (Q:Bool->Hp->Prop),Inv X pins U H s->t U H Q->Zgr (Zg9 X.prog X.w) X.A (isTrue e X.env whole) (TP X pins U Q) X.xe s
theorem PW.pt{X:Cx}{e:Expr}{t:TT}(h:PW X e t):PT X e t:=h _
noncomputable def PA(X:Cx)(es:List Expr)(t:TA):Prop :=
 ∀(pos:Pos) (pins:List (Addr×Obj)) (s:Zgc) (U:St) (H:Hp) (Q:List V->Hp->Prop),Inv X pins U H s->t U H Q->Zgr (Zg9 X.prog X.w) X.A (Zru (Zkj pos (Zhf es X.env))) (AP X pins U Q) X.xe s
noncomputable def PS(X:Cx)(st:Stmt)(t:TS):Prop :=
 ∀(pins:List (Addr×Obj)) (s:Zgc) (U:St) (H:Hp) (D:Ends),Inv X pins U H s->t D U H->Zgr (Zg9 X.prog X.w) X.A (exec st X.env) (SP X pins D) X.xe s
noncomputable def PSs(X:Cx)(st:List Stmt)(t:TS):Prop :=
 ∀(pins:List (Addr×Obj)) (s:Zgc) (U:St) (H:Hp) (D:Ends),Inv X pins U H s->t D U H->Zgr (Zg9 X.prog X.w) X.A (execs st X.env) (SP X pins D) X.xe s
theorem thn{α:Type}{t:Sem α}{Q Q':α->Zgc->Prop}{M:Zsy}{A:Zhe}{E:Zf9->Zgc->Prop}{s:Zgc}(h:Zgr M A t Q E s)(hQ:∀a s,Q a s->Q' a s):Zgr M A t Q' E s:=Ziv h hQ fun _ _ x=>x
section
variable{X:Cx}
noncomputable def tVar(i:Nat):TE:=fun U H Q=>∃v,U[i]? = some (some v)/\Q v H
noncomputable def tC(v:V):TE:=fun _ H Q=>Q v H
theorem yan{i:Nat}{x:Str}{pos:Pos}(hN:X.N[i]? = some x)(hv:Vis X.env.scope x)(hd:(x == ("__debug__" : Str))=false:=by decide)(hcd:(x == ("__classdict__" : Str))=false:=by decide):PE X (.Name x pos) (tVar i):=by
 intro pins s U H Q I h
 obtain⟨v,e,h⟩:=h
 obtain⟨m,hn,hl⟩:=I.loc
 obtain⟨u,r,l⟩:=hl i x v hN e hv
 have fin:EP X pins U Q u s:=⟨v,H,I,r,h⟩
 rcases l with ⟨hk,hm⟩ | ⟨hk,c,hc,hcell⟩
 .exact Zus (wpAny_loadName_local I.ok.kind hk hn hm fin) hd
 .rcases hk with hk | hk
  .exact Zus (wpAny_loadName_cell I.ok.kind hk hc hcell fin) hd
  .exact Zus (wpAny_loadName_free I.ok.kind hk hc hcell fin hcd) hd
theorem zag{i j pos}:PE X (.Constant (.int i) j pos) (tC (.int i)):=fun _ _ _ H _ I h=>wpAny_Constant_int ⟨.int i,H,I.tok _,⟨_,rfl⟩,h⟩
theorem zm2{b j pos}:PE X (.Constant (.bool b) j pos) (tC (.bl b)):=fun _ _ _ H _ I h=>Constant_bool ⟨.bl b,H,I,rfl,h⟩
theorem zal{x j pos}:PE X (.Constant (.str x) j pos) (tC (.str x)):=fun _ _ _ H _ I h=>Zlv ⟨.str x,H,I.tok _,⟨_,rfl⟩,h⟩
noncomputable def Gl(X:Cx)(x:Str):Prop:=X.env.kindOf x=some .globalImplicit
theorem zne{E:Zf9->Zgc->Prop}{pins:List (Addr×Obj)}{s:Zgc}{U:St}{H:Hp}{x:Str}{u:Zf9}{pos:Pos}{Q:Zf9->Zgc->Prop}(I:Inv X pins U H s)(hg:Gl X x)(hm:X.mg x=some u)(h:Q u s)
  (hd:(x == ("__debug__" : Str))=false:=by decide):Zgr (Zg9 X.prog X.w) X.A (eval (.Name x pos) X.env) Q E s :=
 Zpd I.ok.kind hg (Calls.loadGlobal_global (by rw[I.ok.glob];exact I.mod.glob.keeps I.bk) hm h) hd
theorem zh1{E:Zf9->Zgc->Prop}{pins:List (Addr×Obj)}{s:Zgc}{U:St}{H:Hp}{x:Str}{u:Zf9}{pos:Pos}{Q:Zf9->Zgc->Prop}(I:Inv X pins U H s)(hg:Gl X x)(hm:X.mg x=none)(hv:Zno x=some u)(h:Q u s)
  (hn:x ≠ "__name__" := by decide) (hd:(x == ("__debug__" : Str))=false:=by decide):Zgr (Zg9 X.prog X.w) X.A (eval (.Name x pos) X.env) Q E s:=by
 obtain⟨mb,h1,h2⟩:=I.mod.blt
 exact Zpd I.ok.kind hg (Calls.loadGlobal_builtin (by rw[I.ok.glob];exact I.mod.glob.keeps I.bk) hm (by rw[I.ok.blt];exact h1.keeps I.bk) ((h2 x hn).trans hv) h) hd
theorem zce{x:Str}{v:V}{u:Zf9}{pos:Pos}(hg:Gl X x)(hm:X.mg x=some u)(r:RelV v u)(hd:(x == ("__debug__" : Str))=false:=by decide):PE X (.Name x pos) (tC v) :=
 fun _ _ _ H _ I h=>zne I hg hm ⟨v,H,I,r,h⟩ hd
variable{a b:Expr}{ta tb:TE}{pos:Pos}
noncomputable def PC(X:Cx)(op:Zt5)(a b:Expr)(t:TE):Prop :=
 ∀(pins:List (Addr×Obj)) (s:Zgc) (U:St) (H:Hp) (Q:VK),Inv X pins U H s->t U H Q ->
  Zgr (Zg9 X.prog X.w) X.A (eval a X.env) (fun v s₁=>Zgr (Zg9 X.prog X.w) X.A (eval b X.env) (fun u s₂=>Zgr (Zg9 X.prog X.w) X.A (Zi1 op v u) (EP X pins U Q) X.xe s₂) X.xe s₁) X.xe s
noncomputable def tB(t:TE):TT:=fun U H Q=>t U H fun x H1=>∃c,x= .bl c/\Q c H1
theorem zxg{op:Zt5}{t:TE}(h:PC X op a b t)(h1:Zm3 op b=false:=by first | exact nobehind _ (by decide) (by decide) | rfl):PT X (.Compare a [op] [b] pos) (tB t):=by
 intro pins s U H Q I hw
 refine Zsn (thn (h pins s U H _ I hw) fun v s1 h1=>thn h1 fun u s2 h2=>thn h2 fun c s3 hz9=>?_) h1
 obtain⟨x,H1,I1,r1,q1⟩:=hz9
 obtain⟨d,rfl,q⟩:=q1
 cases r1
 exact Ziu ⟨H1,I1,q⟩
theorem zma{e:Expr}{t:TE}(h:PE X e t)(he:∀whole,isTrue e X.env whole=(do let v <- whole;standAt e.pos;holding [v] (truthy v)):=by intro _;rfl):PT X e (tB t):=by
 intro pins s U H Q I hw
 refine isTrue_plain (thn (h pins s U H _ I hw) fun v s1 hz9=>?_) (he _)
 obtain⟨x,H1,I1,r1,q1⟩:=hz9
 obtain⟨d,rfl,q⟩:=q1
 cases r1
 exact Ziu ⟨H1,I1,q⟩
variable{tA tB':TT}{rest:List Expr}
noncomputable def tAnd(t u:TT):TT:=fun U H Q=>t U H fun c H1=>if c=true then u U H1 Q else Q false H1
noncomputable def tOr(t u:TT):TT:=fun U H Q=>t U H fun c H1=>if c=true then Q true H1 else u U H1 Q
noncomputable def tNot(t:TT):TT:=fun U H Q=>t U H fun c H1=>Q (!c) H1
theorem ziv(ha:PT X a tA):PW X (.BoolOp .And [a] pos) tA:=by
 intro wh pins s U H Q I h
 refine isTrue_and (thn (ha pins s U H Q I h) fun c s1 e=>?_)
 cases c with
 | true=>exact isTrue_and_nil e
 | false=>exact e
theorem zrv(ha:PT X a tA):PW X (.BoolOp .Or [a] pos) tA:=by
 intro wh pins s U H Q I h
 refine isTrue_or (thn (ha pins s U H Q I h) fun c s1 e=>?_)
 cases c with
 | false=>exact isTrue_or_nil e
 | true=>exact e
theorem zjo(ha:PT X a tA)(hb:PW X (.BoolOp .And (b::rest) pos) tB'):PW X (.BoolOp .And (a::b::rest) pos) (tAnd tA tB'):=by
 intro wh pins s U H Q I h
 refine isTrue_and (thn (ha pins s U H _ I h) fun c s1 hz9=>?_)
 obtain⟨H1,I1,q1⟩:=hz9
 cases c with
 | true=>exact hb wh pins s1 U H1 Q I1 q1
 | false=>exact⟨H1,I1,q1⟩
theorem zzs(ha:PT X a tA)(hb:PW X (.BoolOp .Or (b::rest) pos) tB'):PW X (.BoolOp .Or (a::b::rest) pos) (tOr tA tB'):=by
 intro wh pins s U H Q I h
 refine isTrue_or (thn (ha pins s U H _ I h) fun c s1 hz9=>?_)
 obtain⟨H1,I1,q1⟩:=hz9
 cases c with
 | true=>exact⟨H1,I1,q1⟩
 | false=>exact hb wh pins s1 U H1 Q I1 q1
theorem zpd(ha:PT X a tA):PT X (.UnaryOp .Not a pos) (tNot tA):=by
 intro pins s U H Q I h
 exact isTrue_not (ha pins s U H (fun c H1=>Q (!c) H1) I h)
noncomputable def zx0(ta tb:TE):TE:=fun U H Q=>ta U H fun x H1=>∃c,x= .bl c/\if c=true then tb U H1 Q else Q (.bl false) H1
noncomputable def tOrV(ta tb:TE):TE:=fun U H Q=>ta U H fun x H1=>∃c,x= .bl c/\if c=true then Q (.bl true) H1 else tb U H1 Q
theorem zlq{op}{t:TE}(h:PE X a t):PE X (.BoolOp op [a] pos) t:=fun pins s U H Q I hw=>BoolOp_one (h pins s U H Q I hw)
theorem zpa(ha:PE X a ta)(hb:PE X (.BoolOp .And (b::rest) pos) tb):PE X (.BoolOp .And (a::b::rest) pos) (zx0 ta tb):=by
 intro pins s U H Q I h
 refine BoolOp_and (thn (ha pins s U H _ I h) fun v s1 hz9=>?_)
 obtain⟨x,H1,I1,r1,q1⟩:=hz9
 obtain⟨c,rfl,q1⟩:=q1
 cases r1
 refine Ziu ?_
 cases c with
 | true=>exact hb pins s1 U H1 Q I1 q1
 | false=>exact⟨.bl false,H1,I1,rfl,q1⟩
theorem yc4(ha:PE X a ta)(hb:PE X (.BoolOp .Or (b::rest) pos) tb):PE X (.BoolOp .Or (a::b::rest) pos) (tOrV ta tb):=by
 intro pins s U H Q I h
 refine BoolOp_or (thn (ha pins s U H _ I h) fun v s1 hz9=>?_)
 obtain⟨x,H1,I1,r1,q1⟩:=hz9
 obtain⟨c,rfl,q1⟩:=q1
 cases r1
 refine Ziu ?_
 cases c with
 | false=>exact hb pins s1 U H1 Q I1 q1
 | true=>exact⟨.bl true,H1,I1,rfl,q1⟩
noncomputable def tIf(t:TT)(ta tb:TE):TE:=fun U H Q=>t U H fun c H1=>if c=true then ta U H1 Q else tb U H1 Q
theorem zw0{c:Expr}(hc:PT X c tA)(ha:PE X a ta)(hb:PE X b tb):PE X (.IfExp c a b pos) (tIf tA ta tb):=by
 intro pins s U H Q I h
 refine wpAny_IfExp (thn (hc pins s U H _ I h) fun d s1 hz9=>?_)
 obtain⟨H1,I1,q1⟩:=hz9
 cases d with
 | true=>exact ha pins s1 U H1 Q I1 q1
 | false=>exact hb pins s1 U H1 Q I1 q1
end
noncomputable def SqL(K:Zf6)(H:Hp)(a:Addr)(xs:List V):Prop :=
 Rd H a (.lst xs) \/
  ∃(o:Obj) (its:Array Zf9) (n:Nat),K.lookup a=some o/\o.cls= .type "list" /\ o.dict=none/\o.data= .seq its n/\its.size<=sizeLine/\Vals xs its.toList
noncomputable def SqT(K:Zf6)(H:Hp)(a:Addr)(xs:List V):Prop :=
 Rd H a (.tup xs) \/
  ∃(o:Obj) (its:Array Zf9) (n:Nat),K.lookup a=some o/\o.cls= .type "tuple" /\ o.data= .seq its n/\its.size<=sizeLine/\Vals xs its.toList
noncomputable def absV:Zf9->Option V
 | .none=>some .non
 | .bool b=>some (.bl b)
 | .int i _=>some (.int i)
 | .str x _=>some (.str x)
 | .bytes b _=>some (.byt b)
 | .float b _=>some (.flt b)
 | .ref a=>some (.ref a)
 | .type n=>some (.ty n)
 | _=>none
theorem RelV.abs{x:V}{u:Zf9}(r:RelV x u):absV u=some x:=by
 cases x with
 | non=>cases r;rfl
 | bl _=>cases r;rfl
 | int _=>obtain⟨t,rfl⟩:=r;rfl
 | str _=>obtain⟨t,rfl⟩:=r;rfl
 | byt _=>obtain⟨t,rfl⟩:=r;rfl
 | flt _=>obtain⟨t,rfl⟩:=r;rfl
 | ref _=>cases r;rfl
 | ty _=>cases r;rfl
theorem RelV.inj{x y:V}{u:Zf9}(r:RelV x u)(q:RelV y u):x=y:=Zhz (r.abs.symm.trans q.abs)
theorem Vals.inj:∀{xs ys:List V} {us:List Zf9},Vals xs us->Vals ys us->xs=ys
 | _,_,_,.nil,.nil=>rfl
 | _,_,_,.cons r t,.cons r' t'=>by rw[r.inj r',Vals.inj t t']
section
variable{X:Cx}{pins:List (Addr×Obj)}{U:St}{H:Hp}{s:Zgc}{a:Addr}{xs ys:List V}
theorem SqL.of{K:Zf6}(h:H a=some (.lst xs)):SqL K H a xs:=.inl (.inl h)
theorem SqT.of{K:Zf6}(h:H a=some (.tup xs)):SqT K H a xs:=.inl (.inl h)
theorem Inv.list(I:Inv X pins U H s)(h:SqL X.K H a xs):∃its:List Zf9,Vals xs its/\PlainL s.heap a its.toArray/\xs.length<=sizeLine:=by
 rcases h with h | ⟨o,its,n,hk,hc,hd,hs,hz,r⟩
 .obtain⟨z,its,n,r,e⟩:=h.ok I.hok
  exact⟨its,r,⟨_,n,e,rfl,rfl,rfl⟩,z⟩
 .refine⟨its.toList,r,⟨o,n,I.kIn a o hk,hc,hd,by simpa using hs⟩,?_⟩
  have e:=r.length
  simp only[Zhh] at e
  omega
theorem Inv.tuple(I:Inv X pins U H s)(h:SqT X.K H a xs):∃its:List Zf9,Vals xs its/\IsTup s.heap a its.toArray/\xs.length<=sizeLine:=by
 rcases h with h | ⟨o,its,n,hk,hc,hs,hz,r⟩
 .obtain⟨z,its,r,p⟩:=h.ok I.hok
  exact⟨its,r,p,z⟩
 .refine⟨its.toList,r,⟨o,I.kIn a o hk,hc,n,by simpa using hs⟩,?_⟩
  have e:=r.length
  simp only[Zhh] at e
  omega
theorem Inv.list_inj(I:Inv X pins U H s)(h:SqL X.K H a xs)(h':SqL X.K H a ys):xs=ys:=by
 obtain⟨its,r,⟨o,n,e,_,_,d⟩,_⟩:=I.list h
 obtain⟨its',r',⟨o',n',e',_,_,d'⟩,_⟩:=I.list h'
 rw[e] at e';cases e'
 rw[d] at d'
 injection d' with d1 _
 have:its=its':=by simpa using congrArg Zun d1
 subst this
 exact r.inj r'
theorem Inv.tuple_inj(I:Inv X pins U H s)(h:SqT X.K H a xs)(h':SqT X.K H a ys):xs=ys:=by
 obtain⟨its,r,⟨o,e,_,n,d⟩,_⟩:=I.tuple h
 obtain⟨its',r',⟨o',e',_,n',d'⟩,_⟩:=I.tuple h'
 rw[e] at e';cases e'
 rw[d] at d'
 injection d' with d1 _
 have:its=its':=by simpa using congrArg Zun d1
 subst this
 exact r.inj r'
end
noncomputable abbrev Cx.wish(X:Cx)(E:Zf9->Zgc->Prop):Cx:={ X with xe:=E }
noncomputable abbrev Cx.nox(X:Cx):Cx:=X.wish fun _ _=>False
theorem Cx.Ok.wish{X:Cx}(ok:X.Ok)(E:Zf9->Zgc->Prop):(X.wish E).Ok :=
 ⟨ok.mod,ok.kind,ok.glob,ok.blt,ok.above,ok.inj,ok.has,ok.cab,ok.hd,ok.frames,ok.stk,ok.exf,ok.bs,ok.bsz,ok.noex,ok.exfs,ok.funs,ok.frf⟩
theorem Cx.Ok.unwish{X:Cx}{E:Zf9->Zgc->Prop}(ok:(X.wish E).Ok):X.Ok :=
 ⟨ok.mod,ok.kind,ok.glob,ok.blt,ok.above,ok.inj,ok.has,ok.cab,ok.hd,ok.frames,ok.stk,ok.exf,ok.bs,ok.bsz,ok.noex,ok.exfs,ok.funs,ok.frf⟩
section
variable{X:Cx}{pins:List (Addr×Obj)}{U:St}{H:Hp}{s:Zgc}{E:Zf9->Zgc->Prop}
theorem Inv.wish(I:Inv X pins U H s)(E:Zf9->Zgc->Prop):Inv (X.wish E) pins U H s:=⟨I.ok.wish E,I.os,I.bare,I.base,I.loc,I.cell,I.free,I.freeC,I.pin,I.hok,I.len⟩
theorem Inv.unwish(I:Inv (X.wish E) pins U H s):Inv X pins U H s:=⟨I.ok.unwish,I.os,I.bare,I.base,I.loc,I.cell,I.free,I.freeC,I.pin,I.hok,I.len⟩
theorem SP.unwish{D:Ends}{f:Flow}{s':Zgc}(h:SP (X.wish E) pins D f s'):SP X pins D f s':=by
 cases f with
 | next=>obtain⟨U',H',I,q⟩:=h;exact⟨U',H',I.unwish,q⟩
 | brk=>obtain⟨U',H',I,q⟩:=h;exact⟨U',H',I.unwish,q⟩
 | cont=>obtain⟨U',H',I,q⟩:=h;exact⟨U',H',I.unwish,q⟩
 | ret u=>obtain⟨v,U',H',I,r,q⟩:=h;exact⟨v,U',H',I.unwish,r,q⟩
theorem PSs.nox{st:List Stmt}{t:TS}(h:PSs X.nox st t):PSs X st t:=fun pins s U H D I hw =>
 Ziv (h pins s U H D (I.wish _) hw) (fun _ _ q=>q.unwish) fun _ _ z=>Zjo z
end
section
variable{X:Cx}{st:Stmt}{rest:List Stmt}{t u:TS}{e:Expr}{te:TE}{pos:Pos}
noncomputable def ybm:TS:=fun D U H=>D.nx U H
noncomputable def tSeq(t u:TS):TS:=fun D U H=>t { D with nx:=u D } U H
theorem zav:PSs X [] ybm:=fun _ _ U H _ I h=>Zl7 ⟨U,H,I,h⟩
theorem zah(h1:PS X st t)(h2:PSs X rest u):PSs X (st::rest) (tSeq t u):=by
 intro pins s U H D I h
 refine Zkm (thn (h1 pins s U H { D with nx:=u D } I h) fun f s1 q=>?_)
 cases f with
 | next =>
  obtain⟨U',H',I',q⟩:=q
  exact h2 pins s1 U' H' D I' q
 | ret v=>exact q
 | brk=>exact q
 | cont=>exact q
theorem zai(h1:PS X st t):PSs X [st] t:=by
 intro pins s U H D I h
 refine Zkm (thn (h1 pins s U H D I h) fun f s1 q=>?_)
 cases f with
 | next=>exact Zl7 q
 | ret v=>exact q
 | brk=>exact q
 | cont=>exact q
theorem Inv.quiet{pins:List (Addr×Obj)}{U:St}{H:Hp}{s:Zgc}(I:Inv X pins U H s):interactive X.env=false:=by simp[interactive,I.ok.kind]
noncomputable def zwp(te:TE):TS:=fun D U H=>te U H fun _ H1=>D.nx U H1
theorem zh4(he:PE X e te)(hs:Znj e none pos.line X.env=pure false:=by rfl):PS X (.Expr e pos) (zwp te):=by
 intro pins s U H D I h
 exact wpAny_Expr_any (thn (he pins s U H _ I h) fun v s1 ⟨x,H1,I1,r1,q1⟩=>⟨U,H1,I1,q1⟩) I.quiet hs
noncomputable def tRet(te:TE):TS:=fun D U H=>te U H D.rt
theorem zau(he:PE X e te):PS X (.Return (some e) pos) (tRet te):=by
 intro pins s U H D I h
 exact Zur (thn (he pins s U H _ I h) fun v s1 ⟨x,H1,I1,r1,q1⟩=>⟨x,U,H1,I1,r1,q1⟩)
noncomputable def tIfS(c:TT)(t u:TS):TS:=fun D U H=>c U H fun b H1=>if b=true then t D U H1 else u D U H1
theorem zbz{c:Expr}{a b:List Stmt}{tc:TT}(hc:PT X c tc)(ha:PSs X a t)(hb:PSs X b u):PS X (.If c a b pos) (tIfS tc t u):=by
 intro pins s U H D I h
 refine wpAny_If (thn (hc pins s U H _ I h) fun d s1 hz9=>?_)
 obtain⟨H1,I1,q1⟩:=hz9
 cases d with
 | true=>exact ha pins s1 U H1 D I1 q1
 | false=>exact hb pins s1 U H1 D I1 q1
noncomputable def yah:TS:=fun _ _ _=>False
theorem ze6:PS X st yah:=fun _ _ _ _ _ _ h=>h.elim
end
noncomputable abbrev TG:=V->St->Hp->(St->Hp->Prop)->Prop
noncomputable abbrev TGs:=List V->St->Hp->(St->Hp->Prop)->Prop
noncomputable def PG(X:Cx)(target:Expr)(t:TG):Prop :=
 ∀(pins:List (Addr×Obj)) (s:Zgc) (U:St) (H:Hp) (v:V) (u:Zf9) (Q:St->Hp->Prop),Inv X pins U H s->RelV v u->t v U H Q ->
  Zgr (Zg9 X.prog X.w) X.A (Zss target X.env u) (fun _ s'=>∃U' H',Inv X pins U' H' s'/\Q U' H') X.xe s
noncomputable def PGs(X:Cx)(ts:List Expr)(t:TGs):Prop :=
 ∀(pins:List (Addr×Obj)) (s:Zgc) (U:St) (H:Hp) (vs:List V) (us:List Zf9) (Q:St->Hp->Prop),Inv X pins U H s->Vals vs us->t vs U H Q ->
  Zgr (Zg9 X.prog X.w) X.A (Zry ((Znw ts X.env).map (·.2)) us) (fun _ s'=>∃U' H',Inv X pins U' H' s'/\Q U' H') X.xe s
section
variable{X:Cx}{pos:Pos}
noncomputable def zh3(i:Nat):TG:=fun v U H Q=>Q (U.set i (some v)) H
theorem zca{i:Nat}{x:Str}(hN:X.N.Nodup)(hi:X.N[i]? = some x)(hx:Loc X.env.scope x)(hf:X.fn x=true\/X.env.scope.names.lookup x=some .local:=by first | exact .inl rfl | exact .inr rfl | assumption):PG X (.Name x pos) (zh3 i):=by
 intro pins s U H v u Q I r h
 exact Zuq (zfy I hN hi hx r (fun s' I'=>⟨_,H,I',h⟩) hf)
noncomputable def gNil:TGs:=fun vs U H Q=>vs=[]/\Q U H
noncomputable def zyn(t:TG)(u:TGs):TGs:=fun vs U H Q=>∃v r,vs=v::r/\t v U H fun U' H'=>u r U' H' Q
theorem zec:PGs X [] gNil:=by
 intro pins s U H vs us Q I r h
 obtain⟨e,h⟩:=h
 subst e
 cases r
 exact Zu2 ⟨U,H,I,h⟩
theorem zbb{e:Expr}{es:List Expr}{t:TG}{u:TGs}(h1:PG X e t)(h2:PGs X es u)
  (hs:(Znw (e::es) X.env).map (·.2)=Zss e X.env::(Znw es X.env).map (·.2):=by rfl):PGs X (e::es) (zyn t u):=by
 intro pins s U H vs us Q I r h
 obtain⟨v,vr,e1,h⟩:=h
 subst e1
 cases r with
 | cons r rr =>
  rw[hs]
  refine Zo4 (thn (h1 pins s U H _ _ _ I r h) fun _ s1 hz9=>?_)
  obtain⟨U1,H1,I1,q1⟩:=hz9
  exact h2 pins s1 U1 H1 _ _ Q I1 rr q1
noncomputable def gTup(K:Zf6)(n:Nat)(t:TGs):TG:=fun v U H Q=>∃a xs,v= .ref a/\SqT K H a xs/\xs.length=n/\t xs U H Q
theorem zgy{es:List Expr}{k:Nat}{t:TGs}{n:Nat}(hc:X.calm=true)(h:PGs X es t)
  (hn:(Znw es X.env).length=n:=by rfl) (hst:(Znw es X.env).findIdx? (·.1)=none:=by rfl):PG X (.Tuple es k pos) (gTup X.K n t):=by
 intro pins s U H v u Q I r hw
 obtain⟨a,xs,e1,hq,hl,hw⟩:=hw
 subst e1
 cases r
 obtain⟨its,rv,ht,hz⟩:=I.tuple hq
 refine assign_Tuple_tuple (I.ok.hd hc) ht (by simp[hn,<- hl,rv.length]) hst fun h' hx=>?_
 have I1:Inv X pins U H { s with heap:=h' }:=I.kept (t':=s.toks) fun b o e=>hx b o (Zgu (Zgk e)) e
 exact h pins _ U H xs _ Q I1 (by simpa using rv) hw
noncomputable def tAsg(te:TE)(g:TG):TS:=fun D U H=>te U H fun x H1=>g x U H1 D.nx
theorem yag{tg e:Expr}{te:TE}{g:TG}(he:PE X e te)(hg:PG X tg g)(hs:Zxf [tg] e pos.line X.env=pure false:=by rfl)(hw:Zxg [tg] e X.env=pure none:=by rfl)
  (h1:(Znw [tg] X.env).map (·.2)=[Zss tg X.env]:=by rfl):PS X (.Assign [tg] e pos) (tAsg te g):=by
 intro pins s U H D I h
 refine wpAny_Assign_stores (thn (he pins s U H _ I h) fun v s1 hz9=>?_) hs hw
 obtain⟨x,H1,I1,r1,q1⟩:=hz9
 rw[h1]
 exact thn (hg pins s1 U H1 x v _ I1 r1 q1) fun _ s2 q=>q
theorem zsj{i:Nat}{x:Str}{e:Expr}{te:TE}{pos':Pos}(hN:X.N.Nodup)(hi:X.N[i]? = some x)(hx:Loc X.env.scope x)(he:PE X e te)(hs:Znj e (some (.Name x pos')) pos.line X.env=pure false:=by rfl)(hf:X.fn x=true\/X.env.scope.names.lookup x=some .local:=by first | exact .inl rfl | exact .inr rfl | assumption) :
  PS X (.Assign [.Name x pos'] e pos) (tAsg te (zh3 i)):=by
 intro pins s U H D I h
 refine Zut (thn (he pins s U H _ I h) fun v s1 hz9=>?_) hs
 obtain⟨y,H1,I1,r1,q1⟩:=hz9
 exact zfy I1 hN hi hx r1 (fun s2 I2=>⟨_,H1,I2,q1⟩) hf
noncomputable def tPar(i j:Nat)(ta:TA):TS:=fun D U H=>ta U H fun vs H1=>∃v w,vs=[v,w]/\D.nx ((U.set i (some v)).set j (some w)) H1
theorem yao{i j:Nat}{x y:Str}{a b:Expr}{ta:TA}{px py pt:Pos}{kt k2 pt2}(hc:X.calm=true)(hN:X.N.Nodup)(hi:X.N[i]? = some x)(hj:X.N[j]? = some y)(hij:i≠j)
  (hx:X.env.scope.names.lookup x=some .local) (hy:X.env.scope.names.lookup y=some .local) (ha:PA X [a,b] ta)
  (hw:Zxg [.Tuple [.Name x px,.Name y py] kt pt] (.Tuple [a,b] k2 pt2) X.env=pure (some [x,y]))
  (hs:Zxf [.Tuple [.Name x px,.Name y py] kt pt] (.Tuple [a,b] k2 pt2) pos.line X.env=pure false:=by rfl) :
  PS X (.Assign [.Tuple [.Name x px,.Name y py] kt pt] (.Tuple [a,b] k2 pt2) pos) (tPar i j ta):=by
 intro pins s U H D I h
 rw[exec_Assign_arm]
 refine Zf5 (Zmz ?_)
 rw[hs]
 refine Zf5 (Zgb ?_)
 rw[if_neg (by decide)]
 refine Zf5 (Tuple_ (thn (ha _ pins s U H _ I h) fun us s1 hz9=>?_))
 obtain⟨vs,H1,I1,r1,q1⟩:=hz9
 obtain⟨v,w,e1,q1⟩:=q1
 subst e1
 obtain⟨u1,u2,rfl,rv,rw'⟩:∃u1 u2,us=[u1,u2]/\RelV v u1/\RelV w u2:=by
  cases r1 with
  | cons p q =>
   cases q with
   | cons p' q' =>
    cases q'
    exact⟨_,_,rfl,p,p'⟩
 refine Zik ?_ (by show 2<=sizeLine;decide)
 have I2:Inv X pins U H1 { s1 with heap:=s1.heap.push { cls:=.type "tuple", data:=.seq [u1,u2].toArray } }:=I1.kept (t':=s1.toks) fun b o e=>Zga _ e
 rw[hw]
 refine Zf5 (Zgb ?_)
 show Zgr (Zg9 X.prog X.w) X.A (do rule "assign.swapped-stores";let items <- unpackItems (.ref s1.heap.objs.size) 2 none;Zry [fun v=>Zt8 X.env y v,fun v=>Zt8 X.env x v] items.reverse;pure Zxd) _ _ _
 refine Zf5 (Znu (Zf5 (unpackItems_tuple (items:=#[u1,u2]) (I.ok.hd hc) (Zwr s1.heap _) fun h' hx'=>?_)))
 have I3:=I2.kept (h':=h') (t':=s1.toks) fun b o e=>hx' b o (Zgu (Zgk e)) e
 show Zgr _ _ (Zry [fun v=>Zt8 X.env y v,fun v=>Zt8 X.env x v] [u2,u1] >>= fun _=>pure Zxd) _ _ _
 refine Zf5 (Zo4 (Zwy (zfy I3 hN hj (.inl hy) rw' (fun s2 I4=>?_) (.inr hy))))
 refine Zo4 (Zwy (zfy I4 hN hi (.inl hx) rv (fun s3 I5=>Zu2 (Zgb ?_)) (.inr hx)))
 rw[List.set_comm _ _ (Zho hij)] at I5
 exact⟨_,H1,I5,q1⟩
end
structure It where
 go:Nat->Hp->Prop
 yld:Nat->Hp->V->Hp->Prop
 stop:Nat->Hp->Prop
noncomputable def FpOk(X:Cx)(pins:List (Addr×Obj))(H:Hp)(b:Addr):Prop :=
 H b=none/\b≠X.env.locals/\b∉X.fs/\(b∈X.ex\/X.s₀.heap.objs.size<=b)/\(∀x c,X.env.cells.lookup x=some c->c≠b) /\ ∀p∈X.pn++pins,p.1≠b
theorem Inv.fpOk{X:Cx}{pins:List (Addr×Obj)}{U:St}{H H':Hp}{s:Zgc}{b:Addr}(I:Inv X pins U H s)(hb:s.heap.objs.size<=b)(hn:H' b=none):FpOk X pins H' b:=by
 refine⟨hn,Zj7 (Zgw I.lt hb),I.nofs hb,.inr (Zim I.sz hb),fun x c e z=>?_,fun p hp z=>?_⟩
 .obtain⟨v,q⟩:=I.cell x c e
  exact absurd (Zgw q.lt (by rw[z];exact hb)) (Zhu _)
 .exact absurd (Zgw (Zgk (I.pin p hp).1) (by rw[z];exact hb)) (Zhu _)
structure Turn(P:Zgy)(w:Zhn)(K:Zf6)(tg:Expr)(J:It)(fp:List Addr)(it:Addr)(tn:Nat->Heap->Prop):Prop where
 mem:it∈fp
 obj:∀i h,tn i h-> ∀b∈fp,∃o,h.get? b=some o /\ ∀v,o.data ≠ .cell v
 keep:∀i h h',tn i h->(∀b∈fp,∀o,h.get? b=some o->h'.get? b=some o)->tn i h'
 item:∀(X:Cx),X.prog=P->X.w=w->X.K=K->X.calm=true-> ∀(i:Nat) (pins:List (Addr×Obj)) (s:Zgc) (U:St) (H:Hp) (E:Zf9->Zgc->Prop),Inv X pins U H s->(∀b∈fp,FpOk X pins H b)->tn i s.heap->J.go i H ->
  Zgr (Zg9 P w) X.A (Znk (.ref it)) (fun r s1=>∃u,r=some u /\
   Zgr (Zg9 P w) X.A (Znm tg (.ref it) u) (fun _ s2=>∃x H',Inv X pins U H' s2/\RelV x u/\J.yld i H x H'/\tn (i+1) s2.heap /\ ∀b∈fp,H' b=none) E s1) E s
 done:∀(X:Cx),X.prog=P->X.w=w->X.K=K->X.calm=true-> ∀(i:Nat) (pins:List (Addr×Obj)) (s:Zgc) (U:St) (H:Hp) (E:Zf9->Zgc->Prop),Inv X pins U H s->(∀b∈fp,FpOk X pins H b)->tn i s.heap->J.stop i H ->
  Zgr (Zg9 P w) X.A (Znk (.ref it)) (fun r s1=>r=none/\Inv X pins U H s1) E s
 self:∀(A:Zhe) (i:Nat) (s:Zgc) (Q:Zf9->Zgc->Prop) (E:Zf9->Zgc->Prop),tn i s.heap->Q (.ref it) s->Zgr (Zg9 P w) A (Zt7 (.ref it)) Q E s
noncomputable abbrev TI:=St->Hp->(It->Hp->Prop)->Prop
noncomputable def PIE(X:Cx)(pins:List (Addr×Obj))(U:St)(tg:Expr)(R:It->Hp->Prop)(itv:Zf9)(s2:Zgc):Prop :=
 ∃(it:Addr) (fp:List Addr) (tn:Nat->Heap->Prop) (J:It) (H':Hp),itv= .ref it/\Inv X pins U H' s2/\Turn X.prog X.w X.K tg J fp it tn/\tn 0 s2.heap/\(∀b∈fp,FpOk X pins H' b)/\R J H'
noncomputable def PI(X:Cx)(tg iter:Expr)(wi:TI):Prop :=
 ∀(pins:List (Addr×Obj)) (s:Zgc) (U:St) (H:Hp) (R:It->Hp->Prop),Inv X pins U H s->wi U H R ->
  Zgr (Zg9 X.prog X.w) X.A (eval iter X.env) (fun v s1=>Zgr (Zg9 X.prog X.w) X.A (Zt7 v) (PIE X pins U tg R) X.xe s1) X.xe s
theorem yai {M : Zsy} {A : Zhe} {E : Zf9 -> Zgc -> Prop} {s : Zgc} {tg : Expr} {it : Addr} {u : Zf9} {o : Obj} {n : String} {vs : Array Zf9} {Q : Unit -> Zgc -> Prop} (ho : s.heap.get? it = some o) (hc : o.cls = .type n) (hd : o.data = .fields vs)
    (hn:["enumerate", "zip", "dict_itemiterator", "dict_reverseitemiterator", "odict_iterator", "itertools.zip_longest", "itertools.pairwise"].contains n=false) (hQ:Q () s):Zgr M A (Znm tg (.ref it) u) Q E s:=by
  unfold Znm
  cases tg <;> first
    | exact Zgb hQ
    | (cases u <;> first
        | exact Zgb hQ
        | (refine Zf5 (wpAny_load ho ?_)
           rw[hc,hd]
           show Zgr M A (if (["enumerate", "zip", "dict_itemiterator", "dict_reverseitemiterator", "odict_iterator", "itertools.zip_longest", "itertools.pairwise"].contains n&&vs[0]? == some (Zjh _))=true then _ else _) Q E s
           rw[if_neg (by intro h;rw[hn,Znf] at h;cases h)]
           exact Zgb hQ))
noncomputable def Itl(K:Zf6)(a:Addr):It :=
 ⟨fun i H=>∃xs x,SqL K H a xs/\xs[i]? = some x,fun i H x H'=>H'=H /\ ∀xs,SqL K H a xs->xs[i]? = some x,fun i H=>∃xs,SqL K H a xs/\xs.length<=i⟩
theorem zuf{P:Zgy}{w:Zhn}{K:Zf6}{tg:Expr}(a it:Addr):Turn P w K tg (Itl K a) [it] it (fun i h=>h.IsListIter it a i) where
 mem:=by simp
 obj:=fun i h st b hb=>by
  have e:b=it:=by simpa using hb
  subst e
  obtain⟨o,e,c,d⟩:=st
  exact⟨o,e,fun v z=>by rw[d] at z;cases z⟩
 keep:=fun i h h' st k=>st.at fun o e=>k it (by simp) o e
 item:=by
  intro X hP hw hK hc i pins s U H E I hf st hg
  subst hP hw hK
  obtain⟨xs,x,hq,hx⟩:=hg
  obtain⟨its,rv,p,hz⟩:=I.list hq
  obtain⟨u,hu,ru⟩:=rv.get hx
  obtain⟨f0,f1,f2,f3,f4,f5⟩:=hf it (by simp)
  refine Zsb st p.isList (x:=u) (by simpa using hu) fun h' st' sb=>?_
  have I1:Inv X pins U H { s with heap:=h' }:=I.turned (t':=s.toks) (fun b o hb e=>(sb.2 b hb).trans e) f0 f1 f3 f4 f5
  obtain⟨o,e,c,d⟩:=id st'
  exact⟨u,rfl,yai (s:={ s with heap:=h' }) e c d (by decide) ⟨x,H,I1,ru,⟨rfl,fun ys hy=>by rw[I.list_inj hy hq];exact hx⟩,st',fun b hb=>(hf b hb).1⟩⟩
 done:=by
  intro X hP hw hK hc i pins s U H E I hf st hg
  subst hP hw hK
  obtain⟨xs,hq,hx⟩:=hg
  obtain⟨its,rv,p,hz⟩:=I.list hq
  obtain⟨f0,f1,f2,f3,f4,f5⟩:=hf it (by simp)
  have hl:=rv.length
  exact Zsm (I.ok.hd hc) st p.isList (by simp;omega) fun h' eb=>⟨rfl,I.turned (t':=s.toks) (fun b o hb e=>eb b o hb e) f0 f1 f3 f4 f5⟩
 self:=fun _ _ _ _ _ st h=>wpAny_pyIter_listiter st h
section
variable{X:Cx}{tg:Expr}
noncomputable def ztp(K:Zf6)(tl:TE):TI:=fun U H R=>tl U H fun x H1=>∃a,x= .ref a/\(∃xs,SqL K H1 a xs)/\R (Itl K a) H1
theorem zh5{l:Expr}{tl:TE}(hl:PE X l tl):PI X tg l (ztp X.K tl):=by
 intro pins s U H R I h
 refine thn (hl pins s U H _ I h) fun v s1 hz9=>?_
 obtain⟨x,H1,I1,r1,q1⟩:=hz9
 obtain⟨a,e,⟨xs,hq⟩,q⟩:=q1
 subst e
 cases r1
 obtain⟨its,rv,p,hz⟩:=I1.list hq
 refine Zjd p.isList ?_
 refine⟨s1.heap.objs.size,[s1.heap.objs.size],_,_,H1,rfl,I1.kept (t':=s1.toks) fun b o e=>Zga _ e,zuf a _,⟨_,Zgj _ rfl,rfl,rfl⟩,fun b hb=>?_,q⟩
 have e:b=s1.heap.objs.size:=by simpa using hb
 subst e
 exact I1.fpOk (Zgf _) (I1.hok.fresh (Zgf _))
noncomputable def tFor(wi:TI)(g:TG)(tb:TS):TS:=fun D U H=>wi U H fun J H1=>∃W:Nat->Nat->St->Hp->Prop,(∃m,W 0 m U H1) /\ ∀i m U H,W i m U H ->
 (J.stop i H/\D.nx U H)\/(J.go i H /\ ∃N:St->Hp->Prop,(∀U' H',N U' H'-> ∃m',m'<m/\W (i+1) m' U' H') /\ ∀x H',J.yld i H x H'->g x U H' fun U2 H2=>tb { D with nx:=N,ct:=N,bk:=D.nx } U2 H2)
noncomputable def zk9(fp:List Addr)(h:Heap):List (Addr×Obj):=fp.filterMap fun b=>(h.get? b).map fun o=>(b,o)
theorem ze5{fp:List Addr}{h:Heap}{b:Addr}{o:Obj}(hb:b∈fp)(e:h.get? b=some o):(b,o)∈zk9 fp h:=Zly.mpr ⟨b,hb,by rw[e];rfl⟩
theorem zrg{fp:List Addr}{h:Heap}{p:Addr×Obj}(hp:p∈zk9 fp h):p.1∈fp/\h.get? p.1=some p.2:=by
 obtain⟨b,hb,e⟩:=Zly.mp hp
 cases q:h.get? b with
 | none=>rw[q] at e;cases e
 | some o =>
  rw[q] at e
  have e':(b,o)=p:=Zhz e
  subst e'
  exact⟨hb,q⟩
theorem Inv.pinned{pins:List (Addr×Obj)}{U:St}{H:Hp}{s:Zgc}{fp:List Addr}(I:Inv X pins U H s)(hf:∀b∈fp,FpOk X pins H b)(ho:∀b∈fp,∃o,s.heap.get? b=some o /\ ∀v,o.data ≠ .cell v):Inv X (pins++zk9 fp s.heap) U H s :=
 I.pins_of fun p hp=>(Zhl.mp hp).elim (fun z=>I.pin p (Zhc _ z)) fun z=>by
  obtain⟨hb,e⟩:=zrg z
  obtain⟨f0,f1,f2,_⟩:=hf p.1 hb
  obtain⟨o,e',d⟩:=ho p.1 hb
  rw[e] at e';cases e'
  exact⟨e,f0,f1,f2,d⟩
theorem Inv.unpinned{pins pl:List (Addr×Obj)}{U:St}{H:Hp}{s:Zgc}(I:Inv X (pins++pl) U H s):Inv X pins U H s:=I.pins_of fun p hp=>I.pin p (Zhc _ (Zi2 _ hp))
theorem zjl{iter:Expr}{body:List Stmt}{wi:TI}{g:TG}{tb:TS}{pos:Pos}(hp:Znt (Zg9 X.prog X.w) X.A X.env X.xe)(hc:X.calm=true)(hi:PI X tg iter wi)(hg:PG X tg g)(hb:PSs X body tb)
  (hs:∀x,Zmp iter X.env x=pure x:=by intro _;rfl):PS X (.For tg iter body [] pos) (tFor wi g tb):=by
 intro pins s U H D I h
 refine wpAny_For (thn (hi pins s U H _ I h) fun v s1 h1=>thn h1 fun itv s2 h2=>?_) hs
 obtain⟨it,fp,tn,J,H2,e,I2,T,st2,f2,W,⟨m0,w0⟩,turn⟩:=h2
 subst e
 -- what stays true of the iterator's objects through the loop
 have stat:∀{H':Hp},(∀b∈fp,H' b=none)-> ∀b∈fp,FpOk X pins H' b:=fun hn b hb=>⟨hn b hb,(f2 b hb).2⟩
 refine codeAny_forLoop_any (fun n s'=>∃i U' H',Inv X pins U' H' s'/\tn i s'.heap/\(∀b∈fp,H' b=none)/\W i n U' H') ?_ m0 ⟨0,U,H2,I2,st2,fun b hb=>(f2 b hb).1,w0⟩
 rintro n s3 ⟨i,U3,H3,I3,st3,fr3,w3⟩
 rcases turn i n U3 H3 w3 with ⟨stop,qn⟩ | ⟨go,N,hN,step⟩
 .refine Zl6 hp (thn (T.done X rfl rfl rfl hc i pins s3 U3 H3 X.xe I3 (stat fr3) st3 stop) fun r s4 hz9=>?_)
  obtain⟨hr,I4⟩:=hz9
  subst hr
  exact Zl7 ⟨U3,H3,I4,qn⟩
 .refine Zl6 hp (thn (T.item X rfl rfl rfl hc i pins s3 U3 H3 X.xe I3 (stat fr3) st3 go) fun r s4 hz9=>?_)
  obtain⟨u,hr,h4⟩:=hz9
  subst hr
  refine Zl6 hp (thn h4 fun _ s5 hz9=>?_)
  obtain⟨x,H5,I5,r5,y5,st5,fr5⟩:=hz9
  have I5':=I5.pinned (stat fr5) (T.obj _ _ st5)
  refine Zl6 hp (thn (hg _ s5 U3 H5 x u _ I5' r5 (step x H5 y5)) fun _ s6 hz9=>?_)
  obtain⟨U6,H6,I6,q6⟩:=hz9
  refine Zl6 hp (thn (hb _ s6 U6 H6 _ I6 q6) fun f s7 q7=>?_)
  have again:∀{U7:St} {H7:Hp},Inv X (pins++zk9 fp s5.heap) U7 H7 s7->N U7 H7-> ∃m,m<n /\ ∃i U' H',Inv X pins U' H' s7/\tn i s7.heap/\(∀b∈fp,H' b=none)/\W i m U' H':=fun {U7 H7} I7 n7=>by
   obtain⟨m',hm,w7⟩:=hN U7 H7 n7
   refine⟨m',hm,i+1,U7,H7,I7.unpinned,T.keep _ _ _ st5 fun b hb o e=>(I7.pin (b,o) (Zhc _ (Zhc _ (ze5 hb e)))).1,fun b hb=>?_,w7⟩
   obtain⟨o,e,d⟩:=T.obj _ _ st5 b hb
   exact(I7.pin (b,o) (Zhc _ (Zhc _ (ze5 hb e)))).2.1
  cases f with
  | next=>obtain⟨U7,H7,I7,n7⟩:=q7;exact again I7 n7
  | cont=>obtain⟨U7,H7,I7,n7⟩:=q7;exact again I7 n7
  | brk=>obtain⟨U7,H7,I7,q7⟩:=q7;exact⟨U7,H7,I7.unpinned,q7⟩
  | ret v=>obtain⟨x7,U7,H7,I7,r7,q7⟩:=q7;exact⟨x7,U7,H7,I7.unpinned,r7,q7⟩
end
noncomputable abbrev R2:=V->V->Hp->VK->Prop
noncomputable def OpR(X:Cx)(f:Zf9->Zf9->Sem Zf9)(r:R2):Prop :=
 ∀(pins:List (Addr×Obj)) (s:Zgc) (U:St) (H:Hp) (x y:V) (v u:Zf9) (Q:VK),Inv X pins U H s->RelV x v->RelV y u->r x y H Q ->
  Zgr (Zg9 X.prog X.w) X.A (f v u) (EP X pins U Q) X.xe s
noncomputable def UnR(X:Cx)(f:Zf9->Sem Zf9)(r:V->Hp->VK->Prop):Prop :=
 ∀(pins:List (Addr×Obj)) (s:Zgc) (U:St) (H:Hp) (x:V) (v:Zf9) (Q:VK),Inv X pins U H s->RelV x v->r x H Q ->
  Zgr (Zg9 X.prog X.w) X.A (f v) (EP X pins U Q) X.xe s
noncomputable def zed(X:Cx)(f:Zf9)(r:List V->Hp->VK->Prop):Prop :=
 ∀(pins:List (Addr×Obj)) (s:Zgc) (U:St) (H:Hp) (xs:List V) (us:List Zf9) (Q:VK),Inv X pins U H s->Vals xs us->r xs H Q ->
  Zgr (Zg9 X.prog X.w) X.A (call f us) (EP X pins U Q) X.xe s
noncomputable def tOp(r:R2)(ta tb:TE):TE:=fun U H Q=>ta U H fun x H1=>tb U H1 fun y H2=>r x y H2 Q
noncomputable def tUn(r:V->Hp->VK->Prop)(ta:TE):TE:=fun U H Q=>ta U H fun x H1=>r x H1 Q
noncomputable def rI(C:Int->Int->Prop)(g:Int->Int->V):R2:=fun x y H Q=>∃i j,x= .int i/\y= .int j/\C i j/\Q (g i j) H
noncomputable def rI0(g:Int->Int->V):R2:=fun x y H Q=>∃i j,x= .int i/\y= .int j/\Q (g i j) H
noncomputable def rU(g:Int->V):V->Hp->VK->Prop:=fun x H Q=>∃i,x= .int i/\Q (g i) H
section
variable{X:Cx}{a b c:Expr}{ta tb tc:TE}{pos:Pos}
theorem binT(ha:PE X a ta)(hb:PE X b tb){pins:List (Addr×Obj)}{s:Zgc}{U:St}{H:Hp}{R:V->V->Hp->Prop}(I:Inv X pins U H s)
  (h:ta U H fun x H1=>tb U H1 fun y H2=>R x y H2) {Q:Zf9->Zgc->Prop} {f:Zf9->Zf9->Sem Zf9}
  (hf:∀v u s2 x y H2,Inv X pins U H2 s2->RelV x v->RelV y u->R x y H2->Zgr (Zg9 X.prog X.w) X.A (f v u) Q X.xe s2) :
  Zgr (Zg9 X.prog X.w) X.A (eval a X.env) (fun v s₁=>Zgr (Zg9 X.prog X.w) X.A (eval b X.env) (fun u s₂=>Zgr (Zg9 X.prog X.w) X.A (f v u) Q X.xe s₂) X.xe s₁) X.xe s:=by
 refine thn (ha pins s U H _ I h) fun v s1 hz9=>?_
 obtain⟨x,H1,I1,r1,q1⟩:=hz9
 refine thn (hb pins s1 U H1 _ I1 q1) fun u s2 hz9=>?_
 obtain⟨y,H2,I2,r2,q2⟩:=hz9
 exact hf v u s2 x y H2 I2 r1 r2 q2
theorem zar{op:Operator}{r:R2}(ho:OpR X (Zm2 op) r)(ha:PE X a ta)(hb:PE X b tb):PE X (.BinOp a op b pos) (tOp r ta tb):=by
 intro pins s U H Q I h
 exact wpAny_BinOp (binT ha hb I h fun v u s2 x y H2 I2 rx ry q=>ho pins s2 U H2 x y v u Q I2 rx ry q)
theorem ycz{op:UnaryOp}{r:V->Hp->VK->Prop}(ho:UnR X (unaryOp op) r)(ha:PE X a ta):PE X (.UnaryOp op a pos) (tUn r ta):=by
 intro pins s U H Q I h
 exact UnaryOp_ (thn (ha pins s U H _ I h) fun v s1 ⟨x,H1,I1,r1,q1⟩=>ho pins s1 U H1 x v Q I1 r1 q1)
theorem opI{f:Zf9->Zf9->Sem Zf9}{C:Int->Int->Prop}{g:Int->Int->Int}
  (rule:∀(i j:Int) (t u:Tok) (s:Zgc) (Q:Zf9->Zgc->Prop) (E:Zf9->Zgc->Prop),C i j->Q (.int (g i j) s.toks) { s with toks:=s.toks+1 }->Zgr (Zg9 X.prog X.w) X.A (f (.int i t) (.int j u)) Q E s) :
  OpR X f (rI C fun i j=>.int (g i j)):=by
 intro pins s U H x y v u Q I rx ry h
 obtain⟨i,j,rfl,rfl,hc,q⟩:=h
 obtain⟨t,rfl⟩:=rx
 obtain⟨t',rfl⟩:=ry
 exact rule i j t t' s _ _ hc ⟨.int (g i j),H,I.tok _,⟨_,rfl⟩,q⟩
theorem opI0{f:Zf9->Zf9->Sem Zf9}{g:Int->Int->Int}
  (rule:∀(i j:Int) (t u:Tok) (s:Zgc) (Q:Zf9->Zgc->Prop) (E:Zf9->Zgc->Prop),Q (.int (g i j) s.toks) { s with toks:=s.toks+1 }->Zgr (Zg9 X.prog X.w) X.A (f (.int i t) (.int j u)) Q E s) :
  OpR X f (rI0 fun i j=>.int (g i j)):=by
 intro pins s U H x y v u Q I rx ry h
 obtain⟨i,j,rfl,rfl,q⟩:=h
 obtain⟨t,rfl⟩:=rx
 obtain⟨t',rfl⟩:=ry
 exact rule i j t t' s _ _ ⟨.int (g i j),H,I.tok _,⟨_,rfl⟩,q⟩
theorem opB0{f:Zf9->Zf9->Sem Zf9}{g:Int->Int->Bool}
  (rule:∀(i j:Int) (t u:Tok) (s:Zgc) (Q:Zf9->Zgc->Prop) (E:Zf9->Zgc->Prop),Q (.bool (g i j)) s->Zgr (Zg9 X.prog X.w) X.A (f (.int i t) (.int j u)) Q E s) :
  OpR X f (rI0 fun i j=>.bl (g i j)):=by
 intro pins s U H x y v u Q I rx ry h
 obtain⟨i,j,rfl,rfl,q⟩:=h
 obtain⟨t,rfl⟩:=rx
 obtain⟨t',rfl⟩:=ry
 exact rule i j t t' s _ _ ⟨.bl (g i j),H,I,rfl,q⟩
noncomputable def CDiv(i j:Int):Prop:=0<j/\j<1073741824
theorem zev:OpR X (Zm2 .Add) (rI0 fun i j=>.int (i+j)):=opI0 fun _ _ _ _ _ _ _ q=>add_int q
theorem zto:OpR X (Zm2 .Sub) (rI0 fun i j=>.int (i - j)):=opI0 fun _ _ _ _ _ _ _ q=>sub_int q
theorem zcc:OpR X (Zm2 .FloorDiv) (rI CDiv fun i j=>.int (i / j)):=opI fun i j _ _ _ _ _ hc q=>by
 have h1:(0:Int)<j:=hc.1
 have h2:j<1073741824:=hc.2
 exact floordiv_int (by omega) (by rw[Int.fdiv_eq_ediv_of_nonneg i (by omega)];exact q) (.inl (PyProof.noPylong_small (by omega)))
theorem zcm:OpR X (Zm2 .Mod) (rI (fun _ j=>0<j) fun i j=>.int (i % j)):=opI fun i j _ _ _ _ _ hc q=>by
 have h1:(0:Int)<j:=hc
 exact mod_int' (by omega) (by rw[Int.fmod_eq_emod_of_nonneg i (by omega)];exact q)
theorem unI{f:Zf9->Sem Zf9}{g:Int->Int}
  (rule:∀(i:Int) (t:Tok) (s:Zgc) (Q:Zf9->Zgc->Prop) (E:Zf9->Zgc->Prop),Q (.int (g i) s.toks) { s with toks:=s.toks+1 }->Zgr (Zg9 X.prog X.w) X.A (f (.int i t)) Q E s) :
  UnR X f (rU fun i=>.int (g i)):=by
 intro pins s U H x v Q I rx h
 obtain⟨i,rfl,q⟩:=h
 obtain⟨t,rfl⟩:=rx
 exact rule i t s _ _ ⟨.int (g i),H,I.tok _,⟨_,rfl⟩,q⟩
theorem yb4:UnR X (unaryOp .USub) (rU fun i=>.int (-i)):=unI fun _ _ _ _ _ q=>neg_int q
end
noncomputable def scal:V->V->Bool
 | .non,.non=>true | .non,.int _=>true | .int _,.non=>true | .non,.bl _=>true | .bl _,.non=>true | .non,.str _=>true | .str _,.non=>true
 | .int _,.int _=>true | .bl _,.bl _=>true | .str _,.str _=>true | .byt _,.byt _=>true
 | .int _,.str _=>true | .str _,.int _=>true | .bl _,.str _=>true | .str _,.bl _=>true
 | _,_=>false
noncomputable def rEq:R2:=fun x y H Q=>scal x y=true/\Q (.bl (decide (x=y))) H
noncomputable def rNe:R2:=fun x y H Q=>scal x y=true/\Q (.bl (!decide (x=y))) H
theorem zsp{i j:Int}:decide (V.int i=V.int j)=(i == j):=by
 rw[Zh0]
 simp
theorem zw7{i j:Bool}:decide (V.bl i=V.bl j)=(i == j):=by
 rw[Zh0]
 simp
theorem zsx{i j:Str}:decide (V.str i=V.str j)=(i == j):=by
 rw[Zh0]
 simp
theorem zsb{i j:Array UInt8}:decide (V.byt i=V.byt j)=(i.toList == j.toList):=by
 rw[Zh0]
 cases i
 cases j
 simp
section
variable{X:Cx}{a b c:Expr}{ta tb tc:TE}{pos:Pos}
theorem za9{pins:List (Addr×Obj)}{U:St}{H:Hp}{s:Zgc}{Q:VK}{k k':Bool}(I:Inv X pins U H s)(q:Q (.bl k) H)(e:k=k'):EP X pins U Q (.bool k') s:=by
 subst e
 exact⟨.bl k,H,I,rfl,q⟩
theorem zd8:OpR X (Zi1 .Eq) rEq:=by
 intro pins s U H x y v u Q I rx ry h
 obtain⟨hs,q⟩:=h
 cases x with
 | non =>
  cases rx
  cases y with
  | non=>cases ry;exact Zv0 (za9 I q (by simp))
  | bl j=>cases ry;exact Zv2 (za9 I q (by simp))
  | int j=>obtain⟨t',rfl⟩:=ry;exact Zv1 (za9 I q (by simp))
  | str j=>obtain⟨t',rfl⟩:=ry;exact Zvz (za9 I q (by simp))
  | _=>exact absurd (show false=true from hs) Zg0
 | bl i =>
  cases rx
  cases y with
  | non=>cases ry;exact Zv4 (za9 I q (by simp))
  | bl j=>cases ry;exact eq_bool (za9 I q zw7)
  | str j=>obtain⟨t',rfl⟩:=ry;exact Zvg (za9 I q (by simp))
  | _=>exact absurd (show false=true from hs) Zg0
 | int i =>
  obtain⟨t,rfl⟩:=rx
  cases y with
  | non=>cases ry;exact Zv3 (za9 I q (by simp))
  | int j=>obtain⟨t',rfl⟩:=ry;exact eq_int (za9 I q zsp)
  | str j=>obtain⟨t',rfl⟩:=ry;exact Zvf (za9 I q (by simp))
  | _=>exact absurd (show false=true from hs) Zg0
 | str i =>
  obtain⟨t,rfl⟩:=rx
  cases y with
  | non=>cases ry;exact Zvy (za9 I q (by simp))
  | bl j=>cases ry;exact Zve (za9 I q (by simp))
  | int j=>obtain⟨t',rfl⟩:=ry;exact Zvd (za9 I q (by simp))
  | str j=>obtain⟨t',rfl⟩:=ry;exact eq_str (za9 I q zsx)
  | _=>exact absurd (show false=true from hs) Zg0
 | byt i =>
  obtain⟨t,rfl⟩:=rx
  cases y with
  | byt j=>obtain⟨t',rfl⟩:=ry;exact PySem.W.eq_bytes (za9 I q zsb)
  | _=>exact absurd (show false=true from hs) Zg0
 | _=>cases y <;> exact absurd (show false=true from hs) Zg0
theorem zja:OpR X (Zi1 .NotEq) rNe:=by
 intro pins s U H x y v u Q I rx ry h
 obtain⟨hs,q⟩:=h
 cases x with
 | non =>
  cases rx
  cases y with
  | non=>cases ry;exact Zvt (za9 I q (by simp))
  | bl j=>cases ry;exact Zvv (za9 I q (by simp))
  | int j=>obtain⟨t',rfl⟩:=ry;exact Zvu (za9 I q (by simp))
  | str j=>obtain⟨t',rfl⟩:=ry;exact Zvs (za9 I q (by simp))
  | _=>exact absurd (show false=true from hs) Zg0
 | bl i =>
  cases rx
  cases y with
  | non=>cases ry;exact Zvx (za9 I q (by simp))
  | bl j=>cases ry;exact ne_bool (za9 I q (congrArg not zw7))
  | str j=>obtain⟨t',rfl⟩:=ry;exact Zvc (za9 I q (by simp))
  | _=>exact absurd (show false=true from hs) Zg0
 | int i =>
  obtain⟨t,rfl⟩:=rx
  cases y with
  | non=>cases ry;exact Zvw (za9 I q (by simp))
  | int j=>obtain⟨t',rfl⟩:=ry;exact ne_int (za9 I q (congrArg not zsp))
  | str j=>obtain⟨t',rfl⟩:=ry;exact Zvb (za9 I q (by simp))
  | _=>exact absurd (show false=true from hs) Zg0
 | str i =>
  obtain⟨t,rfl⟩:=rx
  cases y with
  | non=>cases ry;exact Zvr (za9 I q (by simp))
  | bl j=>cases ry;exact Zva (za9 I q (by simp))
  | int j=>obtain⟨t',rfl⟩:=ry;exact Zu9 (za9 I q (by simp))
  | str j=>obtain⟨t',rfl⟩:=ry;exact ne_str (za9 I q (congrArg not zsx))
  | _=>exact absurd (show false=true from hs) Zg0
 | byt i =>
  obtain⟨t,rfl⟩:=rx
  cases y with
  | byt j=>obtain⟨t',rfl⟩:=ry;exact PySem.W.ne_bytes (za9 I q (congrArg not zsb))
  | _=>exact absurd (show false=true from hs) Zg0
 | _=>cases y <;> exact absurd (show false=true from hs) Zg0
theorem zyo:OpR X (Zi1 .Lt) (rI0 fun i j=>.bl (decide (i<j))):=opB0 fun _ _ _ _ _ _ _ q=>lt_int q
theorem zva:OpR X (Zi1 .LtE) (rI0 fun i j=>.bl (decide (i<=j))):=opB0 fun _ _ _ _ _ _ _ q=>le_int q
theorem ybq:OpR X (Zi1 .Gt) (rI0 fun i j=>.bl (decide (j<i))):=opB0 fun _ _ _ _ _ _ _ q=>gt_int q
theorem yct:OpR X (Zi1 .GtE) (rI0 fun i j=>.bl (decide (j<=i))):=opB0 fun _ _ _ _ _ _ _ q=>ge_int q
theorem ztf:OpR X (Zi1 .In) (fun x y H Q=>∃i j,x= .str i/\y= .str j/\Q (.bl (!(Zoq j i 0 j.length 1).isEmpty)) H):=by
 intro pins s U H x y v u Q I rx ry h
 obtain⟨i,j,rfl,rfl,q⟩:=h
 obtain⟨t,rfl⟩:=rx
 obtain⟨t',rfl⟩:=ry
 exact in_str (za9 I q rfl)
theorem za3(b:Expr){op:Zt5}(h:op ≠ .In:=by decide)(h2:op ≠ .NotIn:=by decide):Zm3 op b=false:=by
 have e1:(op == CmpOp.In)=false:=by cases op <;> first | rfl | exact absurd rfl h
 have e2:(op == CmpOp.NotIn)=false:=by cases op <;> first | rfl | exact absurd rfl h2
 cases b <;> simp[Zm3,e1,e2]
theorem zfs{op:Zt5}{r:R2}(ho:OpR X (Zi1 op) r)(ha:PE X a ta)(hb:PE X b tb)(hm:Zm3 op b=false):PE X (.Compare a [op] [b] pos) (tOp r ta tb):=by
 intro pins s U H Q I h
 exact wpAny_Compare1 (binT ha hb I h fun v u s2 x y H2 I2 rx ry q=>ho pins s2 U H2 x y v u Q I2 rx ry q) hm
noncomputable def zwf(t:TE):TT:=fun U H Q=>t U H fun x H'=>∃k,x= .bl k/\Q k H'
theorem zat{op:Zt5}{r:R2}(ho:OpR X (Zi1 op) r)(ha:PE X a ta)(hb:PE X b tb)(hm:Zm3 op b=false):PT X (.Compare a [op] [b] pos) (zwf (tOp r ta tb)):=by
 intro pins s U H Q I h
 refine Zsn (thn (ha pins s U H _ I h) fun v s1 ⟨x,H1,I1,r1,q1⟩=>thn (hb pins s1 U H1 _ I1 q1) fun u s2 ⟨y,H2,I2,r2,q2⟩ =>
  thn (ho pins s2 U H2 x y v u _ I2 r1 r2 q2) fun c s3 ⟨z,H3,I3,r3,k,e,q3⟩=>?_) hm
 subst e
 cases r3
 exact Ziu ⟨H3,I3,q3⟩
noncomputable def zok(r r':R2)(ta tb tc:TE):TE:=fun U H Q=>ta U H fun x H1=>tb U H1 fun y H2=>r x y H2 fun z H3=>∃k,z= .bl k /\
 (if k=true then tc U H3 fun w' H4=>r' y w' H4 Q else Q (.bl false) H3)
theorem zop{op op':Zt5}{r r':R2}(ho:OpR X (Zi1 op) r)(ho':OpR X (Zi1 op') r')(ha:PE X a ta)(hb:PE X b tb)(hc:PE X c tc)
  (hm:lastMarks [op,op'] [b,c]=false:=by with_unfolding_all rfl):PE X (.Compare a [op,op'] [b,c] pos) (zok r r' ta tb tc):=by
 intro pins s U H Q I h
 refine Compare_chain (thn (ha pins s U H _ I h) fun v s1 ⟨x,H1,I1,r1,q1⟩=>chain_link (thn (hb pins s1 U H1 _ I1 q1) fun u s2 ⟨y,H2,I2,r2,q2⟩ =>
  thn (ho pins s2 U H2 x y v u _ I2 r1 r2 q2) fun d s3 ⟨z,H3,I3,r3,k,e,q3⟩=>?_)) hm
 subst e
 cases r3
 refine Ziu ?_
 cases k with
 | false=>exact ite_ff ⟨.bl false,H3,I3,rfl,q3⟩
 | true=>exact ite_tt (chain_last (thn (hc pins s3 U H3 _ I3 q3) fun w' s4 ⟨z',H4,I4,r4,q4⟩=>ho' pins s4 U H4 y z' u w' Q I4 r2 r4 q4))
theorem zwj{op op':Zt5}{r r':R2}(ho:OpR X (Zi1 op) r)(ho':OpR X (Zi1 op') r')(ha:PE X a ta)(hb:PE X b tb)(hc:PE X c tc)
  (hm:lastMarks [op,op'] [b,c]=false:=by with_unfolding_all rfl):PT X (.Compare a [op,op'] [b,c] pos) (zwf (zok r r' ta tb tc)):=by
 intro pins s U H Q I h
 refine isTrue_chain (thn (ha pins s U H _ I h) fun v s1 ⟨x,H1,I1,r1,q1⟩=>test_link (thn (hb pins s1 U H1 _ I1 q1) fun u s2 ⟨y,H2,I2,r2,q2⟩ =>
  thn (ho pins s2 U H2 x y v u _ I2 r1 r2 q2) fun d s3 ⟨z,H3,I3,r3,k,e,q3⟩=>?_)) hm
 subst e
 cases r3
 refine Ziu ?_
 cases k with
 | false =>
  obtain⟨k',e',q'⟩:=q3
  cases e'
  exact ite_ff ⟨H3,I3,q'⟩
 | true =>
  refine ite_tt (test_last (thn (hc pins s3 U H3 _ I3 q3) fun w' s4 ⟨z',H4,I4,r4,q4⟩=>thn (ho' pins s4 U H4 y z' u w' _ I4 r2 r4 q4) fun d' s5 hz9=>?_))
  obtain⟨z2,H5,I5,r5,k2,e2,q5⟩:=hz9
  subst e2
  cases r5
  exact Ziu ⟨H5,I5,q5⟩
theorem zo5:(sizeLine:Nat)<2 ^ 63:=by rw[Zgq];decide
theorem zam:OpR X (Zm2 .Add) (fun x y H Q=>∃i j,x= .str i/\y= .str j/\i.length+j.length<=sizeLine/\Q (.str (i++j)) H):=by
 intro pins s U H x y v u Q I rx ry h
 obtain⟨i,j,rfl,rfl,hz,q⟩:=h
 obtain⟨t,rfl⟩:=rx
 obtain⟨t',rfl⟩:=ry
 exact add_str (fun t' tk=>⟨.str (i++j),H,I.tok _,⟨_,rfl⟩,q⟩) hz
theorem zg5{x:V}{us:List Zf9}(r:Vals [x] us):∃u,us=[u]/\RelV x u:=by
 cases r with
 | cons r1 r2=>cases r2;exact⟨_,rfl,r1⟩
theorem zqx{x y:V}{us:List Zf9}(r:Vals [x,y] us):∃u w',us=[u,w']/\RelV x u/\RelV y w':=by
 cases r with
 | cons r1 r2 =>
  cases r2 with
  | cons r3 r4=>cases r4;exact⟨_,_,rfl,r1,r3⟩
theorem ztq(hc:X.calm=true):zed X (.builtin "max") (fun xs H Q=>∃i j,xs=[.int i,.int j]/\Q (.int (if j>i then j else i)) H):=by
 intro pins s U H xs us Q I r h
 obtain⟨i,j,rfl,q⟩:=h
 obtain⟨u,w',rfl,⟨t,rfl⟩,⟨t',rfl⟩⟩:=zqx r
 refine max_two_ints (I.ok.hd hc) fun h' tk k=>⟨_,H,I.kept k,?_,q⟩
 by_cases hj:j>i
 .rw[if_pos hj,if_pos hj];exact⟨_,rfl⟩
 .rw[if_neg hj,if_neg hj];exact⟨_,rfl⟩
theorem ztg(hc:X.calm=true):zed X (.builtin "min") (fun xs H Q=>∃i j,xs=[.int i,.int j]/\Q (.int (if j<i then j else i)) H):=by
 intro pins s U H xs us Q I r h
 obtain⟨i,j,rfl,q⟩:=h
 obtain⟨u,w',rfl,⟨t,rfl⟩,⟨t',rfl⟩⟩:=zqx r
 refine min_two_ints (I.ok.hd hc) fun h' tk k=>⟨_,H,I.kept k,?_,q⟩
 by_cases hj:j<i
 .rw[if_pos hj,if_pos hj];exact⟨_,rfl⟩
 .rw[if_neg hj,if_neg hj];exact⟨_,rfl⟩
theorem zu0:zed X (.builtin "ord") (fun xs H Q=>∃x,xs=[.str x]/\x.length=1/\Q (.int (x.cps.getD 0 0:Nat)) H):=by
 intro pins s U H xs us Q I r h
 obtain⟨x,rfl,hz,q⟩:=h
 obtain⟨u,rfl,t,rfl⟩:=zg5 r
 exact ord_of_one hz ⟨.int _,H,I.tok _,⟨_,rfl⟩,q⟩
end
structure ObjM(h:Heap)(x dx C:Addr)(mA:Str->Option Zf9):Prop where
 obj:h.get? x=some (Zjl C dx)
 ns:h.Ns1 dx mA
 ne:dx≠x
theorem ztm{h:Heap}{dx:Addr}{mA:Str->Option Zf9}(n:h.Ns1 dx mA):∃od,h.get? dx=some od /\ ∀name,Zmt name od=some (mA name):=by
 obtain⟨o,es,ep,ho,hd,hk,_,hm⟩:=n
 refine⟨o,ho,fun name=>?_⟩
 have e:=hm name
 unfold nsFind findBy at e
 rw[<- Array.find?_toList] at e
 unfold Zmt
 rw[hd]
 dsimp only
 split
 .rename_i y q
  rw[q] at e
  exact congrArg some e
 .rename_i q
  rw[q] at e
  have a:es.toList.any (·.refKey)=false:=by
   rw[List.any_eq_false]
   intro y hy
   obtain⟨z,t,hkey⟩:=hk y (Zna.mp hy)
   simp[Zx0,hkey]
  have a':¬ es.toList.any (·.refKey)=true:=by rw[a];exact Zg0
  rw[if_neg a']
  exact congrArg some e
theorem ObjM.look{h:Heap}{x dx C:Addr}{mA:Str->Option Zf9}(I:ObjM h x dx C mA):∃od,PySem.W.InstAt h x (Zjl C dx) C (some od) /\ ∀name,Zmt name od=some (mA name) :=
 let ⟨od,ho,hl⟩:=ztm I.ns
 ⟨od,⟨I.obj,rfl,rfl,ho⟩,hl⟩
section
variable{prog:Zgy}{w:Zhn}{A:Zhe}{E:Zf9->Zgc->Prop}{s:Zgc}{K:Zf6}{x dx C f:Addr}{mA:Str->Option Zf9}{name:Str}{v:Zf9}
theorem zyq{expr:Bool}{Q:Zf9->Zgc->Prop}(X:K.In s.heap)(I:ObjM s.heap x dx C mA)(hg:Zmb K C name=true)(hh:Zns K C=true)
  (ha:Zic K (.ref C) name=some none) (hv:mA name=some v) (hv':Zrd v=true) (h:Q v { s with toks:=s.toks+1 }) :
  Zgr (Zg9 prog w) A (getAttr (.ref x) name expr) Q E s:=by
 obtain⟨od,J,hl⟩:=I.look
 exact PySem.W.get_value X J (Zm6 hg).1 (PySem.W.findObj_own hh ha rfl (by rw[hl,hv])) hv' h
theorem zvj{pl:Sem Bool}{Q:Zf9×List Zf9->Zgc->Prop}(X:K.In s.heap)(I:ObjM s.heap x dx C mA)(hg:Zmb K C name=true)
  (hf:Zic K (.ref C) name=some (some (.ref f))) (ht:Zp8 K (.ref f)=true) (hv:mA name=none) (h:Q (.ref f,[.ref x]) s) :
  Zgr (Zg9 prog w) A (Zwj (.ref x) name pl) Q E s:=by
 obtain⟨od,J,hl⟩:=I.look
 exact PySem.W.method_fn X J (Zm6 hg).1 (Zm6 hg).2 hf (beq_iff_eq.mp ht) (by show(Zmt name od).map (·.isSome)=some false;rw[hl,hv];rfl) h
theorem zzb{ns:List Str}{Q:Unit->Zgc->Prop}(X:K.In s.heap)(I:ObjM s.heap x dx C mA)
  (hs:Zic K (.ref C) "__setattr__" = some (some (.builtin "object.__setattr__"))) (hp:Zq5 K C=true) (ht:Zog K C name=some none) (hh:Zns K C=true)
  (hw:Zqs mA ns) (hsz:ns.length<=sizeLine)
  (h:∀h',ObjM h' x dx C (fun y=>if y=name then some v else mA y)->Zh2 dx s.heap h'->Q () { s with heap:=h',toks:=s.toks+2 }) :
  Zgr (Zg9 prog w) A (setAttr (.ref x) name v) Q E s:=by
 obtain⟨od,J,hl⟩:=I.look
 refine PySem.W.set_plain X J hs (PySem.W.osa_open (s:={ s with toks:=s.toks+1 }) (r:=none) X J hp ht fun b=>?_)
 obtain⟨cd,hc,hd'⟩:=PySem.W.any_some hh
 have hx:s.heap.get? x=some ⟨.ref C,some dx,.plain,#[]⟩:=I.obj
 refine Zf5 (Zgb (Zf5 (Zf5 (wpAny_loadPart hx (Zf5 (Zu8 (s:={ s with toks:=s.toks+1 }) (PySem.W.looks_clsIn X hc) ?_))))))
 rw[hd']
 refine Zgb (a:=some dx) (Zf5 (Zgb (Zf5 ?_)))
 refine wpAny_nsSet1 (s:={ s with toks:=s.toks+1 }) I.ns fun h' hn2 hs2=>?_
 obtain⟨oD,esD,epD,hoD,hdD,hcD⟩:=hn2.count (Zvq name v hw)
 refine Zf5 (wpAny_lookBehind hoD (by rw[hdD];exact pastItsLine_dict (Zim hcD (by rw[Zgp];omega))) ?_)
 exact Zgb (h _ ⟨(hs2.2 _ (Zho I.ne)).trans I.obj,hn2,I.ne⟩ hs2)
theorem zv8{R:Zuc->Zgc->Prop}{vs:List Zf9}{kw:List (Str×Zf9)}(X:K.In s.heap)(hm:Zr2 K C=true)
  (hi:Zic K (.ref C) "__init__" = some (some (.ref f))) (hf:PySem.W.typeIn K (.ref f)=some (.type "function"))
  (h:Zm1 (Zg9 prog w) (A.under (.builtin "type.__call__" ⟨.ref C::vs,kw⟩)) (.call (.ref f) ⟨.ref (s.heap.objs.size+1)::vs,kw⟩) (PySem.W.InitBack (s.heap.objs.size+1) R)
   { s with heap:=(s.heap.push Zin).push (Zjl C s.heap.objs.size) }) :
  Zm1 (Zg9 prog w) A (.call (.ref C) ⟨vs,kw⟩) R s:=by
 obtain⟨hh,g,d,t,os⟩:=s
 exact PySem.W.make_core (PySem.W.makes_of X hm) (PySem.W.looks_findIn X hi) (fun self=>PySem.W.bind_fn X self hf) (.inl rfl) h
end
noncomputable def putF(f:Str)(v:V):List (Str×V)->List (Str×V)
 | []=>[(f,v)]
 | (g,x)::r=>if g=f then (g,v)::r else (g,x)::putF f v r
theorem ziq(f g:Str)(v:V):∀fs:List (Str×V),(putF f v fs).lookup g=if g=f then some v else fs.lookup g
 | []=>by
  show Zi8 g [(f,v)]=_
  by_cases h:g=f
  .have hb:(g == f)=true:=beq_iff_eq.mpr h
   simp only[Zi8,hb,if_pos h]
  .have hb:(g == f)=false:=beq_eq_false_iff_ne.mpr h
   simp only[Zi8,hb,if_neg h]
 | (k,x)::r=>by
  have ih:=ziq f g v r
  rw[show putF f v ((k,x)::r)=(if k=f then (k,v)::r else (k,x)::putF f v r) from rfl]
  by_cases hk:k=f
  .rw[if_pos hk]
   by_cases h:g=k
   .have hb:(g == k)=true:=beq_iff_eq.mpr h
    simp only[Zi8,hb,if_pos (h.trans hk)]
   .have hb:(g == k)=false:=beq_eq_false_iff_ne.mpr h
    simp only[Zi8,hb,if_neg (fun e:g=f=>h (e.trans hk.symm))]
  .rw[if_neg hk]
   by_cases h:g=k
   .have hb:(g == k)=true:=beq_iff_eq.mpr h
    simp only[Zi8,hb,if_neg (fun e:g=f=>hk (h.symm.trans e))]
   .have hb:(g == k)=false:=beq_eq_false_iff_ne.mpr h
    simp only[Zi8,hb]
    exact ih
theorem zic(f:Str)(v:V):∀fs:List (Str×V),f∈(putF f v fs).map (·.1) /\ ∀g,g∈fs.map (·.1)->g∈(putF f v fs).map (·.1)
 | []=>⟨by simp[putF],fun g h=>by simp at h⟩
 | (k,x)::r=>by
  obtain⟨i1,i2⟩:=zic f v r
  rw[show putF f v ((k,x)::r)=(if k=f then (k,v)::r else (k,x)::putF f v r) from rfl]
  by_cases hk:k=f
  .rw[if_pos hk]
   subst hk
   exact⟨by simp,fun g h=>by simpa using h⟩
  .rw[if_neg hk]
   refine⟨?_,fun g h=>?_⟩
   .rw[Zg3]
    exact Zgi _ i1
   .rw[Zg3] at h ⊢
    rcases Zgh.mp h with e | e
    .exact Zgh.mpr (.inl e)
    .exact Zgi _ (i2 g e)
theorem zix(f:Str)(v:V):∀fs:List (Str×V),(putF f v fs).length<=fs.length+1
 | []=>by simp[putF]
 | (k,x)::r=>by
  have ih:=zix f v r
  rw[show putF f v ((k,x)::r)=(if k=f then (k,v)::r else (k,x)::putF f v r) from rfl]
  by_cases hk:k=f
  .rw[if_pos hk,Zgp,Zgp];omega
  .rw[if_neg hk,Zgp,Zgp];omega
theorem RelO.some_of{v:V}{o:Option Zf9}(r:RelO (some v) o):∃u,o=some u/\RelV v u:=by
 cases o with
 | none=>exact(show False from r).elim
 | some u=>exact⟨u,rfl,r⟩
theorem RelO.none_of{o:Option Zf9}(r:RelO none o):o=none:=by
 cases o with
 | none=>rfl
 | some u=>exact(show False from r).elim
theorem zuv{v:V}{u:Zf9}(r:RelV v u):Zrd u=true:=by
 cases v with
 | non=>cases (show u=Zhs from r);rfl
 | bl b=>cases (show u=Zma b from r);rfl
 | int i=>obtain⟨t,e⟩:=(show ∃t,u=Zqr i t from r);cases e;rfl
 | str x=>obtain⟨t,e⟩:=(show ∃t,u=Znq x t from r);cases e;rfl
 | byt b=>obtain⟨t,e⟩:=(show ∃t,u=Zu6 b t from r);cases e;rfl
 | flt b=>obtain⟨t,e⟩:=(show ∃t,u=Zu5 b t from r);cases e;rfl
 | ref a=>cases (show u=Zhy a from r);rfl
 | ty n=>cases (show u=Ziw n from r);rfl
section
variable{P:Zgy}{w:Zhn}{H H':Hp}{h h':Heap}{a C dx:Addr}{fs fs':List (Str×V)}
theorem zn8(hok:HOk P w H h)(e:H a=some (.ins C dx fs)):∃mA,ObjM h a dx C mA/\(∀f,RelO (fs.lookup f) (mA f))/\Zqs mA (fs.map (·.1))/\fs.length<=1000/\H dx=some (.own a):=by
 obtain⟨d,z,ne,ob,mA,n,r,q⟩:=(show zck P w H h a (.ins C dx fs) from hok a _ e)
 exact⟨mA,⟨ob,n,ne⟩,r,q,z,d⟩
end
structure Cls(K:Zf6)(C:Addr):Prop where
 pg:Zmb K C Str.empty=true
 hd:Zns K C=true
 po:Zq5 K C=true
 sa:Zic K (.ref C) "__setattr__" = some (some (.builtin "object.__setattr__"))
theorem Cls.get{K:Zf6}{C:Addr}(c:Cls K C)(f:Str):Zmb K C f=true:=c.pg
noncomputable def zde(K:Zf6)(C:Addr)(f:Str):Prop:=Zic K (.ref C) f=some none
theorem zde.taker{K:Zf6}{C:Addr}{f:Str}(n:zde K C f):Zog K C f=some none:=by
 unfold Zog
 rw[show Zic K (.ref C) f=some none from n]
 rfl
structure Con(K:Zf6)(C:Addr)(f:Str)(v:V)(u:Zf9):Prop where
 at_:Zic K (.ref C) f=some (some u)
 rel:RelV v u
 get:Zq4 K u "__get__" = some none
 cp:PySem.W.copiedNames.contains f=false
structure Meth(K:Zf6)(C:Addr)(m:Str)(f:Addr):Prop where
 at_:Zic K (.ref C) m=some (some (.ref f))
 fn:Zp8 K (.ref f)=true
 kp:Zks K (.ref f)=true
section
variable{X:Cx}{pins:List (Addr×Obj)}{U:St}{H:Hp}{s:Zgc}{a C dx:Addr}{fs:List (Str×V)}{f:Str}{v:V}{A:Zhe}{E:Zf9->Zgc->Prop}
theorem zqw{b:Bool}{Q:Zf9->Zgc->Prop}(I:Inv X pins U H s)(e:H a=some (.ins C dx fs))(c:Cls X.K C)(n:zde X.K C f)(l:fs.lookup f=some v)
  (h:∀u s',Inv X pins U H s'->RelV v u->Q u s'):Zgr (Zg9 X.prog X.w) A (getAttr (.ref a) f b) Q E s:=by
 obtain⟨mA,O,r,_,_,_⟩:=zn8 I.hok e
 obtain⟨u,hu,ru⟩:=RelO.some_of (v:=v) (o:=mA f) (by rw[<- l];exact r f)
 exact zyq I.kIn O (c.get f) c.hd n hu (zuv ru) (h u _ (I.tok _) ru)
theorem zp3{m:Str}{g:Addr}{pl:Sem Bool}{Q:Zf9×List Zf9->Zgc->Prop}(I:Inv X pins U H s)(e:H a=some (.ins C dx fs))(c:Cls X.K C)(k:Meth X.K C m g)(l:fs.lookup m=none)
  (h:Q (.ref g,[.ref a]) s):Zgr (Zg9 X.prog X.w) A (Zwj (.ref a) m pl) Q E s:=by
 obtain⟨mA,O,r,_,_,_⟩:=zn8 I.hok e
 have hn:mA m=none:=RelO.none_of (by rw[<- l];exact r m)
 exact zvj I.kIn O (c.get m) k.at_ k.fn hn h
theorem zqs{y:V}{u:Zf9}{Q:Unit->Zgc->Prop}(I:Inv X pins U H s)(e:H a=some (.ins C dx fs))(c:Cls X.K C)(n:zde X.K C f)(hl:fs.length<1000)(ry:RelV y u)
  (h:∀s',Inv X pins U (upd H a (.ins C dx (putF f y fs))) s'->Q () s'):Zgr (Zg9 X.prog X.w) A (setAttr (.ref a) f u) Q E s:=by
 obtain⟨mA,O,r,wi,_,ho⟩:=zn8 I.hok e
 have hz:(fs.map (·.1)).length<=sizeLine:=by rw[Zge,Zgq];omega
 refine zzb I.kIn O c.sa c.po n.taker c.hd wi hz fun h' O' sb=>h _ ?_
 have hd:∃o,h'.get? dx=some o:=let ⟨o,_,_,e',_⟩:=O'.ns;⟨o,e'⟩
 refine I.write (x:=a) (e:=dx) (by rw[e];exact Zm4) (.inr ho) (fun b q hb z=>(sb.2 b hb).trans z) hd ?_
 refine⟨by rw[zak O.ne];exact ho,?_,O.ne,O'.obj,_,O'.ns,fun g=>?_,fun g hg=>?_⟩
 .have:=zix f y fs;omega
 .show RelO ((putF f y fs).lookup g) (if g=f then some u else mA g)
  rw[ziq]
  by_cases q:g=f
  .rw[if_pos q,if_pos q];exact ry
  .rw[if_neg q,if_neg q];exact r g
 .by_cases q:g=f
  .rw[q];exact(zic f y fs).1
  .refine(zic f y fs).2 g (wi g fun z=>hg ?_)
   show(if g=f then some u else mA g)=none
   rw[if_neg q];exact z
theorem Inv.made(I:Inv X pins U H s):Inv X pins U (upd (upd H s.heap.objs.size (.own (s.heap.objs.size+1))) (s.heap.objs.size+1) (.ins C s.heap.objs.size []))
  { s with heap:=(s.heap.push Zin).push (Zjl C s.heap.objs.size) }:=by
 have e1:(s.heap.push Zin).get? s.heap.objs.size=some Zin:=Zgj s.heap rfl
 have e2:((s.heap.push Zin).push (Zjl C s.heap.objs.size)).get? (s.heap.objs.size+1)=some (Zjl C s.heap.objs.size):=by
  have:=Zgj (s.heap.push Zin) (o:=Zjl C s.heap.objs.size) rfl
  rwa [Zg4] at this
 have e3:(s.heap.push Zin).Ns s.heap.objs.size (fun _=>none):=⟨Zin,#[],_,e1,rfl,(fun e he=>absurd he (by simp)),fun _=>rfl⟩
 have I1:=I.laid (a:=s.heap.objs.size) (o:=.own (s.heap.objs.size+1)) (h':=s.heap.push Zin) (t':=s.toks) (fun b u q=>Zga _ q) (Zgf _) ⟨_,e1⟩
 refine I1.laid (a:=s.heap.objs.size+1) (o:=.ins C s.heap.objs.size []) (t':=s.toks) (fun b u q=>Zga _ q) (Zv8 (Zg4 _ _)) ?_
 have ne:s.heap.objs.size≠s.heap.objs.size+1:=Zgu (Zh9 _)
 refine⟨by rw[zak ne,zan],Zhg _,ne,e2,fun _=>none,(Heap.Ns1.of_empty e3).at fun o q=>Zga _ q,fun _=>Zm4,fun y hy=>absurd rfl hy⟩
theorem zxv{prog:Zgy}{w:Zhn}{env:Env}{e:Expr}{f:Str}{pos:Pos}{s:Zgc}{Q:Zf9->Zgc->Prop}(hb:Zlx e f env (eval e env)=eval e env)
  (h:Zgr (Zg9 prog w) A (eval e env) (fun o s₁=>Zgr (Zg9 prog w) A (getAttr o f true) Q E s₁) E s):Zgr (Zg9 prog w) A (eval (.Attribute e f pos) env) Q E s :=
 Attribute_any_ h (by rw[arm_eval_Attribute,hb])
end
noncomputable def tFld(K:Zf6)(ta:TE)(f:Str):TE:=fun U H Q=>ta U H fun x H1=>∃a C dx fs v,x= .ref a/\H1 a=some (.ins C dx fs)/\Cls K C/\zde K C f/\fs.lookup f=some v/\Q v H1
noncomputable def sFld(K:Zf6)(ta tv:TE)(f:Str):TS:=fun D U H=>tv U H fun y H1=>ta U H1 fun x H2=>∃a C dx fs,x= .ref a/\H2 a=some (.ins C dx fs)/\Cls K C/\zde K C f/\fs.length<1000 /\
 D.nx U (upd H2 a (.ins C dx (putF f y fs)))
section
variable{X:Cx}{o e value:Expr}{f:Str}{pos pos' tpos:Pos}{ta tv:TE}
theorem zun(he:PE X e ta)(hb:Zlx e f X.env (eval e X.env)=eval e X.env):PE X (.Attribute e f pos) (tFld X.K ta f):=by
 intro pins s U H Q I h
 refine zxv hb (thn (he pins s U H _ I h) fun u s1 hz9=>?_)
 obtain⟨x,H1,I1,rx,a,C,dx,fs,v,ex,ea,c,n,l,q⟩:=hz9
 subst ex
 obtain rfl:u=Zhy a:=rx
 exact zqw I1 ea c n l fun u' s2 I2 ru=>⟨v,H1,I2,ru,q⟩
theorem zxl(ha:PE X o ta)(hv:PE X value tv)(hs:Znj value (some (.Attribute o f pos')) pos.line X.env=pure false):PS X (.Assign [.Attribute o f pos'] value pos) (sFld X.K ta tv f):=by
 intro pins s U H D I h
 refine plainObj_wpAny_Assign_Attribute (thn (hv pins s U H _ I h) fun u s1 ⟨y,H1,I1,ry,q⟩=>thn (ha pins s1 U H1 _ I1 q) fun ov s2 hz9=>?_) hs
 obtain⟨x,H2,I2,rx,a,C,dx,fs,ex,ea,c,n,l,q2⟩:=hz9
 subst ex
 obtain rfl:ov=Zhy a:=rx
 exact zqs I2 ea c n l ry fun s3 I3=>⟨U,_,I3,q2⟩
end
section
variable{X:Cx}{pins:List (Addr×Obj)}{U:St}{H:Hp}{s:Zgc}{A:Zhe}{E:Zf9->Zgc->Prop}{Q:Zf9->Zgc->Prop}{c:Zf9}{b:Bool}
inductive TyOf(K:Zf6)(H:Hp):V->Zf9->Prop where
 | non:TyOf K H .non (.type "NoneType")
 | bl (x:Bool):TyOf K H (.bl x) (.type "bool")
 | int (i:Int):TyOf K H (.int i) (.type "int")
 | str (x:Str):TyOf K H (.str x) (.type "str")
 | flt (x:UInt64):TyOf K H (.flt x) (.type "float")
 | lst {a:Addr} {xs:List V} (e:H a=some (.lst xs)):TyOf K H (.ref a) (.type "list")
 | frz {a:Addr} {o:Obj} {xs:List V} (e:H a=some (.frz o (.lst xs))):TyOf K H (.ref a) (.type "list")
 | tup {a:Addr} {xs:List V} (e:H a=some (.tup xs)):TyOf K H (.ref a) (.type "tuple")
 | dK {a:Addr} {kvs:List (Key×V)} (e:H a=some (.dK kvs)):TyOf K H (.ref a) (.type "dict")
 | dT {a:Addr} {kvs:List (List Key×V)} (e:H a=some (.dT kvs)):TyOf K H (.ref a) (.type "dict")
 | ins {a C dx:Addr} {fs:List (Str×V)} (e:H a=some (.ins C dx fs)) (cl:Cls K C) (ha:Zic K (.ref C) "__class__" = some (some (.builtin "object.__class__")))
   (hn:Zq4 K (.builtin "object.__class__") "__get__" = some (some (.builtin "getset_descriptor.__get__"))) (htk:PySem.W.takesIn K (.builtin "object.__class__")=some true)
   (hm:PySem.W.mroIn K C (.type "object")=some true):TyOf K H (.ref a) (.ref C)
end
structure Room(k:Nat)(A:Zhe):Prop where
 hd:A.handled=none
 dp:A.depth+3*k+5<Zw1
 un:A.units+16*k+200<Zn5
 gd:A.guards=some []
theorem Room.mono{j k:Nat}{A:Zhe}(r:Room k A)(h:j<=k):Room j A:=⟨r.hd,by have:=r.dp;omega,by have:=r.un;omega,r.gd⟩
theorem Room.deeper{k:Nat}{A:Zhe}(r:Room (k+1) A)(env:Env):Room k (A.deeper env) :=
 ⟨r.hd,by have:=r.dp;show A.depth+1+3*k+5<_;omega,by have:=r.un;show A.units+3+16*k+200<_;omega,r.gd⟩
theorem zqh{A:Zhe}{C:Addr}{us:List Zf9}{kw:List (Str×Zf9)}:(A.under (.builtin "type.__call__" ⟨.ref C::us,kw⟩)).depth=A.depth+1:=by
 first | rfl | simp[Zqj,Code.weight,Code.isCreation,Code.isGuard,Code.isCaller,Zwe,Zq0,guardIds]
theorem zqi{A:Zhe}{C:Addr}{us:List Zf9}{kw:List (Str×Zf9)}:(A.under (.builtin "type.__call__" ⟨.ref C::us,kw⟩)).units=A.units+1:=by
 first | rfl | simp[Zqj,Code.cUnits,Zwe,Zq0]
theorem Room.make{k:Nat}{A:Zhe}(r:Room (k+1) A)(C:Addr)(us:List Zf9)(kw:List (Str×Zf9)):Room k (A.under (.builtin "type.__call__" ⟨.ref C::us,kw⟩)) :=
 ⟨r.hd,by have:=r.dp;rw[zqh];omega,by have:=r.un;rw[zqi];omega,r.gd⟩
theorem Room.depth{k:Nat}{A:Zhe}(r:Room k A):A.depth<Zw1:=by have:=r.dp;omega
theorem Room.units{k:Nat}{A:Zhe}(r:Room k A):A.units+64<Zn5:=by have:=r.un;omega
noncomputable def tNil:TA:=fun _ H Q=>Q [] H
noncomputable def za7(ta:TE)(tr:TA):TA:=fun U H Q=>ta U H fun x H1=>tr U H1 fun xs H2=>Q (x::xs) H2
section
variable{X:Cx}{e:Expr}{es:List Expr}{te:TE}{t:TA}{pos:Pos}
theorem zae:PA X [] tNil:=fun _ _ _ _ H Q I h=>Zn9 ⟨[],H,I,.nil,h⟩
theorem zaa(ha:PE X e te)(hr:PA X es t)(hs:Zhf (e::es) X.env=(false,eval e X.env)::Zhf es X.env:=by rfl):PA X (e::es) (za7 te t):=by
 intro pos pins s U H Q I h
 rw[hs]
 show Zgr _ _ (Zru ((false,eval e X.env)::Zkj pos (Zhf es X.env))) _ _ s
 refine Zlu (thn (ha pins s U H _ I h) fun u s1 hz9=>?_)
 obtain⟨x,H1,I1,r1,q1⟩:=hz9
 refine thn (hr pos pins s1 U H1 _ I1 q1) fun us s2 hz9=>?_
 obtain⟨xs,H2,I2,r2,q2⟩:=hz9
 exact⟨x::xs,H2,I2,.cons r1 r2,q2⟩
noncomputable def tTup(t:TA):TE:=fun U H Q=>t U H fun xs H1=>xs.length<=sizeLine /\ ∀p,H1 p=none->Q (.ref p) (upd H1 p (.tup xs))
noncomputable def tLst(t:TA):TE:=fun U H Q=>t U H fun xs H1=>xs.length<=sizeLine /\ ∀p,H1 p=none->Q (.ref p) (upd H1 p (.lst xs))
theorem zmx{x1}(h:PA X es t):PE X (.Tuple es x1 pos) (tTup t):=by
 intro pins s U H Q I hq
 refine wpAny_Tuple_spliced (thn (h pos pins s U H _ I hq) fun us s1 ⟨xs,H1,I1,r,z,q⟩=>⟨by rw[<- r.length];exact z,?_⟩)
 have hf:H1 s1.heap.objs.size=none:=I1.hok.fresh (Zgf _)
 refine⟨.ref s1.heap.objs.size,upd H1 s1.heap.objs.size (.tup xs),I1.laid (t':=s1.toks) (fun b u e=>Zga _ e) (Zgf _) ?_,rfl,q _ hf⟩
 exact⟨z,us,r,⟨_,Zgj _ rfl,rfl,_,rfl⟩⟩
theorem zg0(h:PA X es t):PE X (.List es pos) (tLst t):=by
 intro pins s U H Q I hq
 refine wpAny_List_spliced (thn (h pos pins s U H _ I hq) fun us s1 ⟨xs,H1,I1,r,z,q⟩=>⟨by rw[<- r.length];exact z,?_⟩)
 have hf:H1 s1.heap.objs.size=none:=I1.hok.fresh (Zgf _)
 refine⟨.ref s1.heap.objs.size,upd H1 s1.heap.objs.size (.lst xs),I1.laid (t':=s1.toks) (fun b u e=>Zga _ e) (Zgf _) ?_,rfl,q _ hf⟩
 exact⟨z,us,0,r,Zgj _ rfl⟩
end
noncomputable abbrev Sp:=List V->Hp->VK->XK->Prop
noncomputable abbrev CXT:=List Env->Hp->Zgc->XK->Zf9->Zgc->Prop
structure Env0(P:Zgy)(w:Zhn)(K:Zf6)(mg:Str->Option Zf9)(base:Heap)(A:Zhe)(outer:List Env)(s:Zgc)(H:Hp):Prop where
 frames:A.frames=some outer
 mod:Mod K mg base
 bs:∀b o,base.get? b=some o->s.heap.get? b=some o/\H b=none
 bsz:base.objs.size<=s.heap.objs.size
 funs:s.heap.FunFrames base outer
 frf:∀b∈frs outer,H b=none
 hok:HOk P w H s.heap
 bare:Zot s.gens
noncomputable def CE(outer:List Env)(P:Zgy)(w:Zhn)(H:Hp)(s:Zgc)(Q:VK)(u:Zf9)(s':Zgc):Prop :=
 ∃v H',s'.os=s.os/\Zot s'.gens/\Un (frs outer) [] H H' s.heap s'.heap/\HOk P w H' s'.heap/\RelV v u/\Q v H'
noncomputable def CR(CX:CXT)(outer:List Env)(P:Zgy)(w:Zhn)(H:Hp)(s:Zgc)(Q:VK)(E:XK)(r:Zuc)(s':Zgc):Prop :=
 match r with
 | .ok (.ret u)=>CE outer P w H s Q u s'
 | .ok _=>False
 | .error e=>CX outer H s E e s'
structure FnOk(P:Zgy)(w:Zhn)(K:Zf6)(mg:Str->Option Zf9)(base:Heap)(CX:CXT)(k:Nat)(f:Addr)(fd:Zjc)(ps:List Str)(sp:Sp):Prop where
 len:∀vs H Q E,sp vs H Q E->vs.length=ps.length
 run:∀(A:Zhe) (outer:List Env) (s:Zgc) (H:Hp) (args:Args) (us:List Zf9) (vs:List V) (Q:VK) (E:XK),Room k A->Env0 P w K mg base A outer s H->Zps s fd args (ps.zip us)->Vals vs us->sp vs H Q E ->
  Zm1 (Zg9 P w) A (.call (.ref f) args) (CR CX outer P w H s Q E) s
theorem FnOk.mono{P:Zgy}{w:Zhn}{K:Zf6}{mg:Str->Option Zf9}{base:Heap}{CX:CXT}{j k:Nat}{f:Addr}{fd:Zjc}{ps:List Str}{sp:Sp}(F:FnOk P w K mg base CX j f fd ps sp)(h:j<=k) :
  FnOk P w K mg base CX k f fd ps sp:=⟨F.len,fun A outer s H args us vs Q E hr=>F.run A outer s H args us vs Q E (hr.mono h)⟩
theorem Env0.make{P:Zgy}{w:Zhn}{K:Zf6}{mg:Str->Option Zf9}{base:Heap}{A:Zhe}{outer:List Env}{s:Zgc}{H:Hp}(e:Env0 P w K mg base A outer s H)(C:Addr)(us:List Zf9)(kw:List (Str×Zf9)) :
  Env0 P w K mg base (A.under (.builtin "type.__call__" ⟨.ref C::us,kw⟩)) outer s H:=⟨by first | exact e.frames | (simpa[Zqj,Code.envs,Zq0,pushEnvs] using e.frames),e.mod,e.bs,e.bsz,e.funs,e.frf,e.hok,e.bare⟩
section
variable{X:Cx}{pins:List (Addr×Obj)}{U:St}{H:Hp}{s s':Zgc}
theorem Inv.env0(I:Inv X pins U H s):Env0 X.prog X.w X.K X.mg X.base X.A X.stack s H :=
 ⟨I.ok.frames,I.ok.mod,I.bs,Zim I.ok.bsz I.sz,I.stack,I.stkFree,I.hok,I.bare⟩
theorem Inv.after{Q:VK}{u:Zf9}(I:Inv X pins U H s)(h:CE X.stack X.prog X.w H s Q u s'):EP X pins U Q u s':=by
 obtain⟨v,H',os,bare,un,hok,r,q⟩:=h
 obtain⟨hh,g,d,t,os'⟩:=s'
 obtain rfl:os'=s.os:=os
 exact⟨v,H',I.call (h':=hh) (g':=g) (d':=d) (t':=t) (ch:=[]) un hok bare (fun b z=>absurd z (by simp)),r,q⟩
end
noncomputable def ziw(sp:Sp)(dvs:List V)(E:XK)(t:TA):TE:=fun U H Q=>t U H fun vs H1=>sp (vs++dvs) H1 Q E
noncomputable def zsy(C:Addr)(m:Str)(sp:Sp)(dvs:List V)(E:XK)(ta:TE)(t:TA):TE:=fun U H Q=>ta U H fun x H1=>∃a dx fs,x= .ref a/\H1 a=some (.ins C dx fs)/\fs.lookup m=none /\
 t U H1 fun vs H2=>sp (x::(vs++dvs)) H2 Q E
noncomputable def yce(C:Addr)(sp:Sp)(dvs:List V)(E:XK)(t:TA):TE:=fun U H Q=>t U H fun vs H1=>∀x dx,H1 x=none->H1 dx=none->dx≠x ->
 sp (.ref x::(vs++dvs)) (upd (upd H1 dx (.own x)) x (.ins C dx [])) (fun v H2=>v= .non/\Q (.ref x) H2) E
noncomputable def zd0(K:Zf6)(fd:Zjc)(ps:List Str)(ds:List Zf9):Prop :=
 ∀(s:Zgc) (us:List Zf9),K.In s.heap->(us++ds).length=ps.length->Zps s fd ⟨us,[]⟩ (ps.zip (us++ds))
theorem zd0.all{K:Zf6}{fd:Zjc}{ps:List Str}(h:∀us:List Zf9,us.length=ps.length->Zlw fd ⟨us,[]⟩=pure (ps.zip us)):zd0 K fd ps []:=fun s us _ hl=>by
 rw[Zit] at hl ⊢
 exact .of_eq (h us hl)
noncomputable def zjj(CX:CXT)(X:Cx)(E:XK):Prop:=∀(pins:List (Addr×Obj)) (U:St) (H:Hp) (s:Zgc) (e:Zf9) (s':Zgc),Inv X pins U H s->CX X.stack H s E e s'->X.xe e s'
section
variable{X:Cx}{CX:CXT}{k:Nat}{f C:Addr}{fd:Zjc}{ps:List Str}{sp:Sp}{dvs:List V}{ds:List Zf9}{E:XK}{x m:Str}{p pos apos:Pos}{e o:Expr}{es:List Expr}{ta:TE}{t:TA}
theorem zw4{pins:List (Addr×Obj)}{U:St}{H:Hp}{s:Zgc}{Q:VK}{us:List Zf9}{vs:List V}(F:FnOk X.prog X.w X.K X.mg X.base CX k f fd ps sp)(hr:Room k X.A)(hb:zd0 X.K fd ps ds)(hd:Vals dvs ds)(hx:zjj CX X E)
  (I:Inv X pins U H s) (r:Vals vs us) (h:sp (vs++dvs) H Q E):Zgr (Zg9 X.prog X.w) X.A (call (.ref f) us) (EP X pins U Q) X.xe s:=by
 have r2:Vals (vs++dvs) (us++ds):=r.append hd
 have hl:(us++ds).length=ps.length:=by rw[<- r2.length];exact F.len _ _ _ _ h
 refine Zra (Zkr (F.run X.A X.stack s H ⟨us,[]⟩ (us++ds) (vs++dvs) Q E hr I.env0 (hb s us I.kIn hl) r2 h) fun r s' hq=>?_)
 cases r with
 | error e=>exact hx pins U H s e s' I hq
 | ok fl =>
  cases fl with
  | ret u=>exact I.after hq
  | next=>exact Zjo hq
  | brk=>exact Zjo hq
  | cont=>exact Zjo hq
theorem zyt(F:FnOk X.prog X.w X.K X.mg X.base CX k f fd ps sp)(hr:Room k X.A)(hg:Gl X x)(hm:X.mg x=some (.ref f))(hk:Zks X.K (.ref f)=true)(hb:zd0 X.K fd ps ds)(hd:Vals dvs ds)(hx:zjj CX X E)
  (ha:PA X (e::es) t) (hdb:(x == ("__debug__" : Str))=false:=by decide) (he:Zhf (e::es) X.env=(false,eval e X.env)::Zhf es X.env:=by rfl) (hpl:(Zkj pos (Zhf es X.env)).any (·.1)=false:=by rfl) :
  PE X (.Call (.Name x p) (e::es) [] pos) (ziw sp dvs E t):=by
 intro pins s U H Q I h
 refine Zk1 (zne I hg hm ?_ hdb)
 refine Zqw (h₀:=X.base) I.ok.mod.kin hk (thn (ha pos pins s U H _ I h) fun us s1 ⟨vs,H1,I1,r,q⟩=>⟨I1.kIn,?_⟩) he hpl
 exact zw4 F hr hb hd hx I1 r q
theorem zcz{pl:Sem Bool}(he:PE X o ta)(c:Cls X.K C)(hm:Meth X.K C m f)(F:FnOk X.prog X.w X.K X.mg X.base CX k f fd ps sp)(hr:Room k X.A)(hb:zd0 X.K fd ps ds)(hd:Vals dvs ds)(hx:zjj CX X E)(ha:PA X (e::es) t)
  (hst:Zhf (e::es) X.env=(false,eval e X.env)::Zhf es X.env:=by rfl) (hpl:(Zkj pos (Zhf es X.env)).any (·.1)=false:=by rfl)
  (ht:eval (.Call (.Attribute o m apos) (e::es) [] pos) X.env=(do
   let ov <- eval o X.env
   standAt apos.atName
   let (f,first) <- holding [ov] (Zwj ov m pl)
   Zxs pos f first (Zkj pos (Zhf (e::es) X.env)) (Zk2 pos (Zji [] X.env))):=by rfl) :
  PE X (.Call (.Attribute o m apos) (e::es) [] pos) (zsy C m sp dvs E ta t):=by
 intro pins s U H Q I h
 refine PySem.W.methodCall_KW (pl:=pl) (thn (he pins s U H _ I h) fun u s1 hz9=>?_) ht
 obtain⟨x,H1,I1,rx,a,dx,fs,ex,ea,l,q⟩:=hz9
 subst ex
 obtain rfl:u=Zhy a:=rx
 refine zp3 I1 ea c hm l ?_
 refine Zqw (first:=[.ref a]) (h₀:=X.base) I.ok.mod.kin hm.kp (thn (ha pos pins s1 U H1 _ I1 q) fun us s2 ⟨vs,H2,I2,r,q2⟩=>⟨I2.kIn,?_⟩) hst hpl
 exact zw4 (us:=.ref a::us) (vs:=.ref a::vs) F hr hb hd hx I2 (.cons rfl r) q2
structure Mk(K:Zf6)(C f:Addr):Prop where
 makes:Zr2 K C=true
 init:Zic K (.ref C) "__init__" = some (some (.ref f))
 fn:Zp8 K (.ref f)=true
 kp:Zks K (.ref C)=true
theorem zvq{pins:List (Addr×Obj)}{U:St}{H:Hp}{s:Zgc}{Q:VK}{us:List Zf9}{vs:List V}(M:Mk X.K C f)(F:FnOk X.prog X.w X.K X.mg X.base CX k f fd ps sp)(hr:Room (k+1) X.A)(hb:zd0 X.K fd ps ds)(hd:Vals dvs ds)
  (hx:zjj CX X E) (I:Inv X pins U H s) (r:Vals vs us)
  (h:∀x dx,H x=none->H dx=none->dx≠x->sp (.ref x::(vs++dvs)) (upd (upd H dx (.own x)) x (.ins C dx [])) (fun v H2=>v= .non/\Q (.ref x) H2) E) :
  Zgr (Zg9 X.prog X.w) X.A (call (.ref C) us) (EP X pins U Q) X.xe s:=by
 have hq:=h (s.heap.objs.size+1) s.heap.objs.size (I.hok.fresh (Zk3 _)) (I.hok.fresh (Zgf _)) (Zgu (Zh9 _))
 have I2:=Inv.made (C:=C) I
 have r2:Vals (V.ref (s.heap.objs.size+1)::(vs++dvs)) (Zhy (s.heap.objs.size+1)::(us++ds)):=.cons rfl (r.append hd)
 have hl:(Zhy (s.heap.objs.size+1)::us++ds).length=ps.length:=by
  have e:=r2.length
  rw[F.len _ _ _ _ hq] at e
  exact e.symm
 refine Zra (zv8 (f:=f) I.kIn M.makes M.init (beq_iff_eq.mp M.fn) (Zkr (F.run _ X.stack _ _ ⟨Zhy (s.heap.objs.size+1)::us,[]⟩ (Zhy (s.heap.objs.size+1)::(us++ds)) _ _ E (hr.make C us [])
  (I2.env0.make C us []) (hb _ (Zhy (s.heap.objs.size+1)::us) I2.kIn hl) r2 hq) fun r s' hq'=>?_))
 cases r with
 | error e=>exact hx pins U _ _ e s' I2 hq'
 | ok fl =>
  cases fl with
  | ret u =>
   obtain⟨v,H',I3,rv,ev,q3⟩:=I2.after hq'
   subst ev
   exact⟨rv,⟨V.ref (s.heap.objs.size+1),H',I3,rfl,q3⟩⟩
  | next=>exact Zjo hq'
  | brk=>exact Zjo hq'
  | cont=>exact Zjo hq'
theorem zwb(M:Mk X.K C f)(F:FnOk X.prog X.w X.K X.mg X.base CX k f fd ps sp)(hr:Room (k+1) X.A)(hg:Gl X x)(hm:X.mg x=some (.ref C))(hb:zd0 X.K fd ps ds)(hd:Vals dvs ds)(hx:zjj CX X E)
  (hdb:(x == ("__debug__" : Str))=false:=by decide):PE X (.Call (.Name x p) [] [] pos) (yce C sp dvs E tNil):=by
 intro pins s U H Q I h
 refine Zk1 (zne I hg hm ?_ hdb)
 exact PySem.W.callWith_K0 I.kIn M.kp (zvq (us:=[]) M F hr hb hd hx I .nil h)
end
noncomputable def PK(X:Cx)(kws:List Zm8)(t:TA):Prop :=
 ∀(pos:Pos) (pins:List (Addr×Obj)) (s:Zgc) (U:St) (H:Hp) (Q:List V->Hp->Prop),Inv X pins U H s->t U H Q->Zgr (Zg9 X.prog X.w) X.A (evalAll ((Zk2 pos (Zji kws X.env)).map (·.2))) (AP X pins U Q) X.xe s
section
variable{X:Cx}{CX:CXT}{k:Nat}{f C:Addr}{fd:Zjc}{ps ks:List Str}{sp:Sp}{E:XK}{x m:Str}{p pos apos kpos:Pos}{e o:Expr}{es:List Expr}{kws:List Zm8}{te ta:TE}{t tk:TA}{nm:Option Str}
theorem yap:PK X [] tNil:=fun _ _ _ _ H Q I h=>wpAny_evalAll_nil ⟨[],H,I,.nil,h⟩
theorem zyy(ha:PE X e te)(hr:PK X kws t):PK X (⟨nm,e,kpos⟩::kws) (za7 te t):=by
 intro pos pins s U H Q I h
 show Zgr _ _ (evalAll ((do let v <- eval e X.env;standAt pos;pure v)::(Zk2 pos (Zji kws X.env)).map (·.2))) _ _ s
 refine wpAny_evalAll_cons (Zf5 (thn (ha pins s U H _ I h) fun u s1 ⟨x,H1,I1,r1,q1⟩=>Zf5 (Zmz (Zgb ?_))))
 refine thn (hr pos pins s1 U H1 _ I1 q1) fun us s2 hz9=>?_
 obtain⟨xs,H2,I2,r2,q2⟩:=hz9
 exact⟨x::xs,H2,I2,.cons r1 r2,q2⟩
structure KBinds(K:Zf6)(fd:Zjc)(ps ks:List Str)(g:List Zf9->List Zf9->List Zf9)(gV:List V->List V->List V):Prop where
 to:∀(s:Zgc) (us ws:List Zf9),K.In s.heap->(g us ws).length=ps.length->Zps s fd ⟨us,ks.zip ws⟩ (ps.zip (g us ws))
 rel:∀{vs:List V} {us:List Zf9} {zs:List V} {ws:List Zf9},Vals vs us->Vals zs ws->Vals (gV vs zs) (g us ws)
variable{g:List Zf9->List Zf9->List Zf9}{gV:List V->List V->List V}
end
structure FnScope(N P:List Str)(sc:Scope):Prop where
 kind:sc.kind= .function
 co:sc.isCoroutine=false
 gen:sc.isGenerator=false
 nd:N.Nodup
 pre:N.take P.length=P
 par:∀x∈P,sc.names.lookup x=some .local\/sc.names.lookup x=some .cell
 nofree:∀y∈sc.names,y.2 ≠ .free
theorem zl2{kindOf:Str->Option Zhk}{x:Str}:∀{binds:List (Str×Zf9)} {m:Str->Option Zf9},(∀v,(x,v)∉binds)->Zu0 kindOf binds m x=m x
 | [],_,_=>rfl
 | (n,v)::r,m,h=>by
  unfold Zu0
  rw[zl2 fun w hw=>h w (Zgi _ hw)]
  split
  .have:x≠n:=by rintro rfl;exact h v Zgz
   simp[this]
  .rfl
theorem zlk{kindOf:Str->Option Zhk}{x:Str}:∀{binds:List (Str×Zf9)} {m:Str->Option Zf9},(∀v,(x,v)∉binds)->Zu1 kindOf binds m x=m x
 | [],_,_=>rfl
 | (n,v)::r,m,h=>by
  unfold Zu1
  rw[zlk fun w hw=>h w (Zgi _ hw)]
  split
  .rfl
  .have:x≠n:=by rintro rfl;exact h v Zgz
   simp[this]
theorem zmv{kindOf:Str->Option Zhk}{x:Str}{v:Zf9}:∀{P:List Str} {vs:List Zf9} {i:Nat} {m:Str->Option Zf9},P.Nodup->P[i]? = some x->vs[i]? = some v->kindOf x=some .local ->
  Zu0 kindOf (P.zip vs) m x=some v
 | [],_,_,_,_,h,_,_=>by simp at h
 | _::_,[],_,_,_,_,h,_=>by simp at h
 | p::P,w::vs,0,m,nd,h1,h2,hk=>by
  simp at h1 h2;subst h1;subst h2
  show Zu0 kindOf ((p,w)::P.zip vs) m p=_
  unfold Zu0
  rw[zl2 fun v hv=>(Zi7.mp nd).1 (Zpb hv).1,if_pos hk]
  simp
 | p::P,w::vs,i+1,m,nd,h1,h2,hk=>by
  show Zu0 kindOf ((p,w)::P.zip vs) m x=_
  unfold Zu0
  exact zmv (i:=i) (Zi7.mp nd).2 (by simpa using h1) (by simpa using h2) hk
theorem zlb{kindOf:Str->Option Zhk}{x:Str}{v:Zf9}:∀{P:List Str} {vs:List Zf9} {i:Nat} {m:Str->Option Zf9},P.Nodup->P[i]? = some x->vs[i]? = some v->kindOf x≠some .local ->
  Zu1 kindOf (P.zip vs) m x=some v
 | [],_,_,_,_,h,_,_=>by simp at h
 | _::_,[],_,_,_,_,h,_=>by simp at h
 | p::P,w::vs,0,m,nd,h1,h2,hk=>by
  simp at h1 h2;subst h1;subst h2
  show Zu1 kindOf ((p,w)::P.zip vs) m p=_
  unfold Zu1
  rw[zlk fun v hv=>(Zi7.mp nd).1 (Zpb hv).1,if_neg hk]
  simp
 | p::P,w::vs,i+1,m,nd,h1,h2,hk=>by
  show Zu1 kindOf ((p,w)::P.zip vs) m x=_
  unfold Zu1
  exact zlb (i:=i) (Zi7.mp nd).2 (by simpa using h1) (by simpa using h2) hk
noncomputable def start(N:List Str)(vs:List V):St:=vs.map some++Zh1 (N.length - vs.length) none
noncomputable def cxOf(CX:CXT)(P:Zgy)(w:Zhn)(K:Zf6)(mg:Str->Option Zf9)(base:Heap)(N:List Str)(qual:Str)(scope:Scope)(f:Addr)(cd:Zf9)(A:Zhe)(outer:List Env)(s:Zgc)(H:Hp)(E:XK):Cx where
 prog:=P
 w:=w
 K:=K
 mg:=mg
 base:=base
 A:=A.deeper (Znn qual scope s.heap.objs.size f cd)
 N:=N
 s₀:=s
 Hz:=H
 env:=Znn qual scope s.heap.objs.size f cd
 outer:=outer
 stack:=Znn qual scope s.heap.objs.size f cd::outer
 ex:=[]
 calm:=true
 fn:=fun _=>true
 pn:=[]
 xe:=fun e s'=>Zgr (Zg9 P w) (A.deeper (Znn qual scope s.heap.objs.size f cd)) (leaving (Znn qual scope s.heap.objs.size f cd) e) (fun _ s''=>CX outer H s E e s'') (fun e' s''=>CX outer H s E e' s'') s'
theorem zom{sc:Scope}{n:Nat}{x:Str}(h:sc.names.lookup x=some .cell):∃c,(Zwm n sc.names []).lookup x=some c:=by
 have q:=Zpw sc.names n [] (.inl h)
 exact Zjm.mp q
theorem zsl{CX:CXT}{P:Zgy}{w:Zhn}{K:Zf6}{mg:Str->Option Zf9}{base:Heap}{N ps:List Str}{qual:Str}{scope:Scope}{f:Addr}{cd:Zf9}{A:Zhe}{outer:List Env}{s s1:Zgc}{H:Hp}{E:XK}{us:List Zf9}{vs:List V}
  (S:FnScope N ps scope) (hd:A.handled=none) (e0:Env0 P w K mg base A outer s H) (hl:vs.length=ps.length) (r:Vals vs us)
  (x:InCallC s s.heap.objs.size (Zu0 (Znn qual scope s.heap.objs.size f cd).kindOf (ps.zip us) fun _=>none) (Zwm (s.heap.objs.size+1) scope.names []) (Zu1 (Znn qual scope s.heap.objs.size f cd).kindOf (ps.zip us) fun _=>none) s1) :
  Inv (cxOf CX P w K mg base N qual scope f cd A outer s H E) [] (start N vs) H s1:=by
 have hpl:ps.length<=N.length:=by have:=congrArg Zjk S.pre;rw[Zjj] at this;omega
 obtain⟨h1,tk,rfl,hk⟩:=x.done
 have noA:∀b:Addr,b∉(cxOf CX P w K mg base N qual scope f cd A outer s H E).ex:=fun b z=>absurd (show b∈([]:List Addr) from z) (by simp)
 refine⟨⟨e0.mod,S.kind,rfl,rfl,Zgf _,fun y z c h1 h2=>?_,fun y hy=>?_,fun y c _ h=>?_,fun _=>hd,Around.frames_deeper e0.frames,.inr ⟨rfl,rfl⟩,fun b z=>absurd z (noA b),e0.bs,e0.bsz,fun b _ _=>noA b,fun b z=>absurd z (noA b),e0.funs,e0.frf⟩,
  rfl,e0.bare,Un.kept hk,⟨_,x.toInCall.ns,fun i y v h1 h2 h3=>?_⟩,fun y c h=>⟨_,x.cell y c h⟩,e0.hok.fresh (Zgf _),fun y c h=>?_,fun p hp=>absurd (show p∈([]:List (Addr×Obj)) from hp) (by simp),e0.hok.kept hk,?_⟩
 .exact name_of_addr x.apart (Zjt h1) (Zjt h2)
 .have hy:scope.names.lookup y=some .cell\/scope.names.lookup y=some .free:=hy
  rcases hy with hy | hy
  .exact zom hy
  .exact absurd rfl (S.nofree _ (Zjt hy))
 .exact Zou (x.above y c (Zjt h))
 .have hi:i<vs.length:=by
   unfold start at h2
   by_cases hi:i<vs.length
   .exact hi
   .rw[Zio (by simpa using hi)] at h2
    rw[Zkn] at h2
    split at h2 <;> cases h2
  have ha:vs[i]? = some v:=by
   unfold start at h2
   rw[Zie (by simpa using hi),Zgl] at h2
   cases e:vs[i]? with
   | none=>rw[e] at h2;cases h2
   | some a=>rw[e] at h2;cases h2;rfl
  obtain⟨u,hu,rv⟩:=r.get ha
  have hp:ps[i]? = some y:=by
   rw[<- S.pre,List.getElem?_take_of_lt (by omega)];exact h1
  have ndP:ps.Nodup:=by rw[<- S.pre];exact S.nd.sublist (Zoe _ _)
  refine⟨u,rv,?_⟩
  rcases S.par y (Zgm hp) with k | k
  .exact .inl ⟨k,zmv ndP hp hu k⟩
  .obtain⟨c,e⟩:=zom (n:=s.heap.objs.size+1) k
   refine .inr ⟨.inl k,c,e,?_⟩
   have q:=x.cell y c e
   rw[zlb ndP hp hu (by show scope.names.lookup y≠_;rw[k];decide)] at q
   exact q
 .exact e0.hok.fresh (Zou (x.above y c (Zjt h)))
 .unfold start
  show _=N.length
  rw[Zg8,Zge,Zir]
  omega
theorem ycp{CX:CXT}{P:Zgy}{w:Zhn}{K:Zf6}{mg:Str->Option Zf9}{base:Heap}{k:Nat}{f:Addr}{name qual:Str}{params:Arguments}{body:List Stmt}{scope:Scope}{dV kV doc pm cdv ct oc:Zf9}{an od:Option Addr}
  {osl:Array (Option Zf9)} {N ps:List Str} {sp:Sp} (lk:K.lookup f=some ⟨oc,od,.func (Zh3 name qual params body scope dV kV doc pm an cdv ct),osl⟩) (hcd:Zmu K cdv qual=true) (S:FnScope N ps scope)
  (len:∀vs H Q E,sp vs H Q E->vs.length=ps.length)
  (hbody:∀(A:Zhe) (outer:List Env) (s:Zgc) (H:Hp) (vs:List V) (Q:VK) (E:XK),Room k (A.deeper (Znn qual scope s.heap.objs.size f cdv))->sp vs H Q E ->
   ∃t,PSs (cxOf CX P w K mg base N qual scope f cdv A outer s H E) body t/\t { nx:=fun _ H'=>Q .non H',rt:=Q } (start N vs) H) :
  FnOk P w K mg base CX (k+1) f (Zh3 name qual params body scope dV kV doc pm an cdv ct) ps sp:=by
 refine⟨len,fun A outer s H args us vs Q E hr e0 hb r hsp=>?_⟩
 have hl:=len _ _ _ _ hsp
 have KX:K.In s.heap:=e0.mod.kin.keeps fun b o e=>(e0.bs b o e).1
 have lim:s.heap.NoLimit:=e0.mod.nolimit.keeps fun b o e=>(e0.bs b o e).1
 have hkind:∀y∈ps.zip us,scope.names.lookup y.1=some .local\/(scope.names.lookup y.1=some .cell/\((Zwm (s.heap.objs.size+1) scope.names []).lookup y.1).isSome=true):=fun⟨n,v⟩ hy=>by
  rcases S.par n (Zpb hy).1 with q | q
  .exact .inl q
  .exact .inr ⟨q,Zpw _ _ _ (.inl q)⟩
 refine codeAny_call_function hr.depth (KX _ _ lk) rfl S.co S.gen rfl (PySem.W.codeRec_of KX hcd) (hb _ _ _ _ ?_)
 refine wpAny_newFunctionEnv_cells S.kind hkind fun env he s1 x=>?_
 subst he
 refine⟨lim.keeps x.toInCall.keep,codeAny_func ?_⟩
 obtain⟨t,ht,hq⟩:=hbody A outer s H vs Q E (hr.deeper _) hsp
 have I:Inv (cxOf CX P w K mg base N qual scope f cdv A outer s H E) [] (start N vs) H s1:=zsl S hr.hd e0 hl r x
 refine Ziv (ht [] s1 (start N vs) H _ I hq) (fun fl s' hs=>?_) fun e s' hs=>hs
 have fin:∀{U':St} {H':Hp} {v:V} {u:Zf9},Inv (cxOf CX P w K mg base N qual scope f cdv A outer s H E) [] U' H' s'->RelV v u->Q v H'->CE outer P w H s Q u s' :=
  fun {U' H' v u} J rv q=>⟨v,H',J.os,J.bare,J.base,J.hok,rv,q⟩
 cases fl with
 | ret u =>
  obtain⟨v,U',H',J,rv,q⟩:=hs
  exact fin J rv q
 | next =>
  obtain⟨U',H',J,q⟩:=hs
  exact fin (v:=V.non) (u:=Zhs) J rfl q
 | brk =>
  obtain⟨_,_,_,q⟩:=hs
  exact Zjo q
 | cont =>
  obtain⟨_,_,_,q⟩:=hs
  exact Zjo q
section
variable{X:Cx}{x:Str}{p pos:Pos}{e:Expr}{es:List Expr}{t:TA}{id T:String}{r:List V->Hp->VK->Prop}
noncomputable def tCB(r:List V->Hp->VK->Prop)(t:TA):TE:=fun U H Q=>t U H fun vs H1=>r vs H1 Q
theorem zbf(hc:zed X (.builtin id) r)(hg:Gl X x)(hm:X.mg x=none)(hv:Zno x=some (.builtin id))(ha:PA X (e::es) t)(hn:x ≠ "__name__" := by decide)(hdb:(x == ("__debug__" : Str))=false:=by decide)
  (he:Zhf (e::es) X.env=(false,eval e X.env)::Zhf es X.env:=by rfl) (hpl:(Zkj pos (Zhf es X.env)).any (·.1)=false:=by rfl):PE X (.Call (.Name x p) (e::es) [] pos) (tCB r t):=by
 intro pins s U H Q I h
 refine Zk1 (zh1 I hg hm hv ?_ hn hdb)
 exact Zv5 (thn (ha pos pins s U H _ I h) fun us s1 ⟨vs,H1,I1,r1,q1⟩=>hc pins s1 U H1 vs us Q I1 r1 q1) he hpl
theorem zlv(hc:zed X (.type T) r)(hg:Gl X x)(hm:X.mg x=none)(hv:Zno x=some (.type T))(ha:PA X (e::es) t)(hn:x ≠ "__name__" := by decide)(hdb:(x == ("__debug__" : Str))=false:=by decide)
  (he:Zhf (e::es) X.env=(false,eval e X.env)::Zhf es X.env:=by rfl) (hpl:(Zkj pos (Zhf es X.env)).any (·.1)=false:=by rfl):PE X (.Call (.Name x p) (e::es) [] pos) (tCB r t):=by
 intro pins s U H Q I h
 refine Zk1 (zh1 I hg hm hv ?_ hn hdb)
 exact Ziy (thn (ha pos pins s U H _ I h) fun us s1 ⟨vs,H1,I1,r1,q1⟩=>hc pins s1 U H1 vs us Q I1 r1 q1) he hpl
end
end L2
namespace HT
open PySem PyProof.Rows
section
open PySem.SeqAt
open PySem.AutoSeq1 (wpAny_loadPart')
open PySem.MeetsSeq PySem.MeetsSeq2 PySem.MeetsSeq3
end
section
variable{prog:Zgy}{w:Zhn}{A:Zhe}{E:Zf9->Zgc->Prop}{s:Zgc}
noncomputable def sIx(n d:Nat):Option Int->Nat
 | none=>d
 | some v=>if v<0 then (v+(n:Int)).toNat else min v.toNat n
theorem sIx_le(n d:Nat)(hd:d<=n)(o:Option Int):sIx n d o<=n:=by
 cases o with
 | none=>exact hd
 | some v =>
  show(if v<0 then (v+(n:Int)).toNat else min v.toNat n)<=n
  by_cases hv:v<0
  .rw[if_pos hv];omega
  .rw[if_neg hv];exact Nat.min_le_right _ _
end
end HT
namespace L2
open PySem PySem.Spec PyProof.Rows
noncomputable abbrev TO:=St->Hp->(Option Int->Hp->Prop)->Prop
noncomputable def PO(X:Cx)(e:Option Expr)(t:TO):Prop :=
 ∀(pins:List (Addr×Obj)) (s:Zgc) (U:St) (H:Hp) (Q:Option Int->Hp->Prop),Inv X pins U H s->t U H Q ->
  Zgr (Zg9 X.prog X.w) X.A (evalPart e X.env) (fun u s'=>∃o H',Inv X pins U H' s'/\IsPart u o/\Q o H') X.xe s
noncomputable def zk6:TO:=fun _ H Q=>Q none H
noncomputable def zp6(t:TE):TO:=fun U H Q=>t U H fun x H1=>∃i,x= .int i/\Q (some i) H1
section
variable{X:Cx}{e:Expr}{te:TE}{lo hi:Option Expr}{tl th:TO}{pos p2:Pos}
theorem zfj:PO X none zk6:=by
 intro pins s U H Q I h
 rw[Zxo]
 exact Zgb ⟨none,H,I,.none,h⟩
theorem zd1(h:PE X e te):PO X (some e) (zp6 te):=by
 intro pins s U H Q I hw
 rw[evalPart_some]
 refine thn (h pins s U H _ I hw) fun u s1 hz9=>?_
 obtain⟨x,H1,I1,r1,q1⟩:=hz9
 obtain⟨i,rfl,q⟩:=q1
 obtain⟨t,rfl⟩:=r1
 exact⟨some i,H1,I1,.int i t,q⟩
noncomputable def SlR(X:Cx)(r:V->Option Int->Option Int->Hp->VK->Prop):Prop :=
 ∀(pins:List (Addr×Obj)) (s:Zgc) (U:St) (H:Hp) (x:V) (v vl vu:Zf9) (lo hi:Option Int) (sl:Addr) (Q:VK),Inv X pins U H s->RelV x v->s.heap.IsSliceOf sl vl vu .none->IsPart vl lo->IsPart vu hi->r x lo hi H Q ->
  ∃T id,Zrb (.type T) "__getitem__" = pure (some (.builtin id))/\s.TypeIs v T/\Zgr (Zg9 X.prog X.w) X.A (Zrx v (.ref sl)) (EP X pins U Q) X.xe s
noncomputable def tSl(r:V->Option Int->Option Int->Hp->VK->Prop)(te:TE)(tl th:TO):TE:=fun U H Q=>te U H fun x H1=>tl U H1 fun l H2=>th U H2 fun u H3=>r x l u H3 Q
theorem zda{r:V->Option Int->Option Int->Hp->VK->Prop}(hr:SlR X r)(he:PE X e te)(hl:PO X lo tl)(hu:PO X hi th):PE X (.Subscript e (.Slice lo hi none p2) pos) (tSl r te tl th):=by
 intro pins s U H Q I h
 refine Zu7 (thn (he pins s U H _ I h) fun v s1 hz9=>?_)
 obtain⟨x,H1,I1,r1,q1⟩:=hz9
 refine wpAny_Slice (thn (hl pins s1 U H1 _ I1 q1) fun vl s2 ⟨l,H2,I2,pl,q2⟩=>thn (hu pins s2 U H2 _ I2 q2) fun vu s3 hz9=>?_)
 obtain⟨u,H3,I3,pu,q3⟩:=hz9
 rw[Zxo]
 refine Zgb ?_
 have I4:Inv X pins U H3 { s3 with heap:=s3.heap.push { cls:=.type "slice", data:=.fields #[vl,vu,.none] } }:=I3.kept (t':=s3.toks) fun b ob q=>Zga _ q
 obtain⟨T,id,hT,ht,hg⟩:=hr pins { s3 with heap:=s3.heap.push { cls:=.type "slice", data:=.fields #[vl,vu,.none] } } U H3 x v vl vu l u s3.heap.objs.size Q I4 r1 (Zuk ..) pl pu q3
 show Zgr (Zg9 X.prog X.w) X.A (Zrt e (.Slice lo hi none p2) v (.ref s3.heap.objs.size)) (EP X pins U Q) X.xe { s3 with heap:=s3.heap.push { cls:=.type "slice", data:=.fields #[vl,vu,.none] } }
 exact tail_any (ops:=[.ref s3.heap.objs.size,v]) ht hT hg (by with_unfolding_all rfl)
noncomputable def cutV(xs:List V)(lo hi:Option Int):List V:=(xs.drop (HT.sIx xs.length 0 lo)).take (HT.sIx xs.length xs.length hi - HT.sIx xs.length 0 lo)
theorem zna(xs:List V)(lo hi:Option Int):(cutV xs lo hi).length<=xs.length:=by
 unfold cutV
 rw[Zjj,Zkh]
 omega
end
noncomputable def ixN(n:Nat)(i:Int):Option Nat:=if 0<=i then (if i<n then some i.toNat else none) else if -(n:Int)<=i then some (i+n).toNat else none
noncomputable def atI{α:Type}(xs:List α)(i:Int):Option α:=(ixN xs.length i).bind fun j=>xs[j]?
theorem zzz{n:Nat}{i:Int}{j:Nat}(h:ixN n i=some j):seqIndex? i n=some j/\j<n /\ -(n:Int)<=i/\i<n:=by
 unfold ixN at h
 by_cases h0:0<=i
 .rw[if_pos h0] at h
  by_cases h1:i<n
  .rw[if_pos h1] at h
   have e:i.toNat=j:=Zhz h
   exact⟨by rw[seqIndex_of h0 h1,e],by omega,by omega,h1⟩
  .rw[if_neg h1] at h;cases h
 .rw[if_neg h0] at h
  by_cases h1 : -(n:Int)<=i
  .rw[if_pos h1] at h
   have e:(i+n).toNat=j:=Zhz h
   exact⟨by rw[seqIndex_neg (by omega) h1,e],by omega,h1,by omega⟩
  .rw[if_neg h1] at h;cases h
theorem zut{α:Type}{xs:List α}{i:Int}{v:α}(h:atI xs i=some v):∃j,seqIndex? i xs.length=some j/\xs[j]? = some v/\j<xs.length /\ -(xs.length:Int)<=i/\i<xs.length:=by
 unfold atI at h
 cases e:ixN xs.length i with
 | none=>rw[e] at h;cases h
 | some j =>
  rw[e] at h
  obtain⟨h1,h2,h3,h4⟩:=zzz e
  exact⟨j,h1,h,h2,h3,h4⟩
theorem zen{α:Type}{xs:List α}{j:Nat}{v:α}(h:xs[j]? = some v):atI xs (j:Int)=some v:=by
 have hj:j<xs.length:=(Zgg.mp h).1
 have e:ixN xs.length (j:Int)=some j:=by
  unfold ixN
  rw[if_pos (by omega),if_pos (by omega)];simp
 unfold atI;rw[e];exact h
noncomputable def zyc(b:Expr):Prop:=∀o i,Zqo b false o i=operate [o,i] (Zrx o i)
noncomputable def IxR(X:Cx)(r:R2):Prop :=
 ∀(value slice:Expr) (pins:List (Addr×Obj)) (s:Zgc) (U:St) (H:Hp) (x y:V) (v u:Zf9) (Q:VK),Inv X pins U H s->RelV x v->RelV y u->r x y H Q ->
  Zqo slice false v u=operate [v,u] (Zrx v u)->Zgr (Zg9 X.prog X.w) X.A (Zrt value slice v u) (EP X pins U Q) X.xe s
noncomputable def MtR(X:Cx)(id:String)(r:V->List V->Hp->VK->Prop):Prop :=
 ∀(pins:List (Addr×Obj)) (s:Zgc) (U:St) (H:Hp) (x:V) (xs:List V) (v:Zf9) (us:List Zf9) (Q:VK),Inv X pins U H s->RelV x v->Vals xs us->r x xs H Q ->
  Zgr (Zg9 X.prog X.w) X.A (call (.builtin id) (v::us)) (EP X pins U Q) X.xe s
section
variable{X:Cx}{a b:Expr}{ta tb:TE}{pos:Pos}
theorem zbw{r:R2}(hr:IxR X r)(ha:PE X a ta)(hb:PE X b tb)(hs:zyc b):PE X (.Subscript a b pos) (tOp r ta tb):=by
 intro pins s U H Q I h
 exact Zu7 (binT ha hb I h fun v u s2 x y H2 I2 rx ry q=>hr a b pins s2 U H2 x y v u Q I2 rx ry q (hs _ _))
noncomputable def rIxL(K:Zf6):R2:=fun x y H Q=>∃p xs i v,x= .ref p/\y= .int i/\SqL K H p xs/\atI xs i=some v/\Q v H
noncomputable def rIxS:R2:=fun x y H Q=>∃z i c,x= .str z/\y= .int i/\z.length<=sizeLine/\atI z.cps.toList i=some c/\Q (.str ⟨#[c]⟩) H
theorem za0:IxR X (rIxL X.K):=by
 intro value slice pins s U H x y v u Q I rx ry h hs
 obtain⟨p,xs,i,z,rfl,rfl,hq,he,q⟩:=h
 cases rx
 obtain⟨t,rfl⟩:=ry
 obtain⟨its,r,pl,hz⟩:=I.list hq
 obtain⟨j,h1,h2,h3,h4,h5⟩:=zut he
 obtain⟨w,ew,rw'⟩:=r.get h2
 have hl:=r.length
 have hn:=zo5
 have fin:EP X pins U Q w s:=⟨z,H,I,rw',q⟩
 by_cases h0:0<=i
 .have hj:i.toNat=j:=by
   rw[seqIndex_of h0 h5] at h1
   exact Zhz h1
  exact item_listR pl.isList h0 (by omega) (by rw[hj];simpa using ew) fin hs
 .have hj:(i+(its.toArray.size:Int)).toNat=j:=by
   rw[seqIndex_neg (by omega) h4] at h1
   rw[Zhw,<- hl]
   exact Zhz h1
  exact subscriptTail_builtinR (x:=w) pl.isList.typeIs slot_list_getitem.lookup
   (wpAny_getItem_list_neg (Q:=fun r s'=>r=w/\EP X pins U Q r s') pl.isList (by omega) (by rw[Zhw] <;> omega) (by omega) (by rw[hj];simpa using ew) ⟨rfl,fin⟩) hs
theorem zoz:IxR X rIxS:=by
 intro value slice pins s U H x y v u Q I rx ry h hs
 obtain⟨z,i,c,rfl,rfl,hz,he,q⟩:=h
 obtain⟨t,rfl⟩:=rx
 obtain⟨t',rfl⟩:=ry
 obtain⟨j,h1,h2,h3,h4,h5⟩:=zut he
 have hl:z.cps.toList.length=z.length:=by simp[Zst]
 rw[hl] at h1 h4 h5
 have hn:=zo5
 exact tail_any (Zi3 s z t) slot_str_getitem.lookup (getItem_str (c:=c) (by
  have e1:decide (i< -(2 ^ 63:Int))=false:=decide_eq_false (by omega)
  have e2:decide (i ≥ 2 ^ 63)=false:=decide_eq_false (by omega)
  rw[e1,e2,Zn2]) (by rw[h1];simpa using h2) ⟨.str ⟨#[c]⟩,H,I.tok _,⟨_,rfl⟩,q⟩) hs
theorem zl8(lo hi:Option Int)(n:Nat):(Zl8 lo hi none n).1=((HT.sIx n 0 lo:Nat):Int)/\(Zl8 lo hi none n).2.1=((HT.sIx n n hi:Nat):Int)/\(Zl8 lo hi none n).2.2=1:=by
 refine⟨?_,?_,rfl⟩
 .cases lo with
  | none=>simp[Zl8,HT.sIx]
  | some i =>
   simp only[Zl8,HT.sIx,Zr3,show(1:Int)>0 by decide,if_true]
   by_cases h:i<0
   .simp only[h,if_true] <;> omega
   .simp only[h,if_false] <;> omega
 .cases hi with
  | none=>simp[Zl8,HT.sIx]
  | some i =>
   simp only[Zl8,HT.sIx,Zr3,show(1:Int)>0 by decide,if_true]
   by_cases h:i<0
   .simp only[h,if_true] <;> omega
   .simp only[h,if_false] <;> omega
theorem zk2(its:List Zf9)(lo hi:Option Int):slicePick its.toArray lo hi none=((its.drop (HT.sIx its.length 0 lo)).take (HT.sIx its.length its.length hi - HT.sIx its.length 0 lo)).toArray:=by
 obtain⟨h1,h2,h3⟩:=zl8 lo hi its.toArray.size
 unfold slicePick
 rw[h1,h2,h3]
 simp only[sliceRange_one,pick_run,Zhw] <;> rfl
noncomputable def rSlL(K:Zf6):V->Option Int->Option Int->Hp->VK->Prop:=fun x lo hi H Q=>∃a xs,x= .ref a/\SqL K H a xs /\ ∀p,H p=none->Q (.ref p) (upd H p (.lst (cutV xs lo hi)))
theorem zgo:SlR X (rSlL X.K):=by
 intro pins s U H x v vl vu lo hi sl Q I rx hs pl pu h
 obtain⟨a,xs,rfl,hx,q⟩:=h
 cases rx
 obtain⟨its,r,ht,hz⟩:=I.list hx
 have hlen:=r.length
 refine⟨"list", _,slot_list_getitem.lookup,ht.isList.typeIs,?_⟩
 refine wpAny_getItem_list_slice ht.isList hs pl pu .none (by simp) ?_ (by rw[Zhw] <;> omega)
 rw[zk2,<- hlen]
 refine⟨.ref s.heap.objs.size,_,I.laid (t':=s.toks) (o:=.lst (cutV xs lo hi)) (fun b ob q=>Zga _ q) (Zgf _) ?_,rfl,q _ (I.hok.fresh (Zgf _))⟩
 exact⟨Zim (zna xs lo hi) hz,_,0,(r.drop (HT.sIx xs.length 0 lo)).take (HT.sIx xs.length xs.length hi - HT.sIx xs.length 0 lo),Zgj _ rfl⟩
theorem zb1:zed X (.builtin "len") (fun xs H Q=>∃p ys,xs=[.ref p]/\(SqL X.K H p ys\/SqT X.K H p ys)/\Q (.int ys.length) H):=by
 intro pins s U H xs us Q I r h
 obtain⟨p,ys,rfl,hq,q⟩:=h
 obtain⟨u,rfl,rx⟩:=zg5 r
 cases rx
 have hn:=zo5
 rcases hq with hq | hq
 .obtain⟨its,r',pl,hz⟩:=I.list hq
  have hlen:=r'.length
  exact Calls.call_len_list pl.isList (by simp only[Zhw] <;> omega) ⟨.int ys.length,H,I.tok _,⟨s.toks+1,by rw[Zhw,hlen]⟩,q⟩
 .obtain⟨its,r',pl,hz⟩:=I.tuple hq
  have hlen:=r'.length
  exact len_tuple pl (by simp only[Zhw] <;> omega) ⟨.int ys.length,H,I.tok _,⟨s.toks+1,by rw[Zhw,hlen]⟩,q⟩
theorem zgt:zed X (.builtin "len") (fun xs H Q=>∃z,xs=[.str z]/\z.length<=sizeLine/\Q (.int z.length) H):=by
 intro pins s U H xs us Q I r h
 obtain⟨z,rfl,hz,q⟩:=h
 obtain⟨u,rfl,t,rfl⟩:=zg5 r
 have hn:=zo5
 exact len_str (by omega) ⟨.int z.length,H,I.tok _,⟨_,rfl⟩,q⟩
theorem zk5:zed X (.type "tuple") (fun xs H Q=>∃p ys,xs=[.ref p]/\((SqL X.K H p ys /\ ∀l,H l=none->Q (.ref l) (upd H l (.tup ys)))\/(SqT X.K H p ys/\Q (.ref p) H))):=by
 intro pins s U H xs us Q I r h
 obtain⟨p,ys,rfl,h⟩:=h
 obtain⟨u,rfl,rx⟩:=zg5 r
 cases rx
 rcases h with ⟨hq,q⟩ | ⟨hq,q⟩
 .obtain⟨its,r',pl,hz⟩:=I.list hq
  have hlen:=r'.length
  refine call_tuple_list pl.isList (fun h' kp=>?_) (by simp only[Zhw] <;> omega)
  have I1:Inv X pins U H { s with heap:=h' }:=I.kept (t':=s.toks) kp
  have I2:Inv X pins U (upd H h'.objs.size (.tup ys)) { s with heap:=h'.push { cls:=.type "tuple", data:=.seq its.toArray } } :=
   I1.laid (t':=s.toks) (fun b o e=>Zga _ e) (Zgf _) (show zck X.prog X.w _ _ _ (.tup ys) from⟨hz,its,r',Zwr _ _⟩)
  exact⟨.ref h'.objs.size,_,I2,rfl,q _ (I1.hok.fresh (Zgf _))⟩
 .obtain⟨its,r',pl,hz⟩:=I.tuple hq
  exact call_tuple_same pl ⟨.ref p,H,I,rfl,q⟩
noncomputable def tyV(K:Zf6)(T:String)(x:V)(H:Hp):Prop:=match x with
 | .str _=>T = "str"
 | .int _=>T = "int"
 | .ref p=>(T = "list" /\ ∃xs,SqL K H p xs)\/(T = "tuple" /\ ∃o,K.lookup p=some o/\o.cls= .type "tuple" /\ o.dict=none) \/
   (T = "dict" /\ ((∃kvs,H p=some (.dK kvs)) \/ ∃kvs,H p=some (.dT kvs)))\/(T = "set" /\ ∃S n,H p=some (.set S n))
 | _=>False
theorem ybs{pins:List (Addr×Obj)}{U:St}{H:Hp}{s:Zgc}{T:String}{x:V}{v:Zf9}(I:Inv X pins U H s)(r:RelV x v)(ty:tyV X.K T x H) :
  s.TypeIs v T /\ ∀a,v= .ref a-> ∃ob,s.heap.get? a=some ob/\ob.dict=none:=by
 cases x with
 | str z =>
  obtain⟨t,rfl⟩:=r
  cases (show T = "str" from ty)
  exact⟨Zi3 s z t,fun _ e=>nomatch e⟩
 | int i =>
  obtain⟨t,rfl⟩:=r
  cases (show T = "int" from ty)
  exact⟨typeIs_int s i t,fun _ e=>nomatch e⟩
 | ref p =>
  cases r
  rcases ty with ⟨rfl,xs,hq⟩ | ⟨rfl,o,hk,hc,hd⟩ | ⟨rfl,hk⟩ | ⟨rfl,S,n,hk⟩
  .obtain⟨its,_,pl,_⟩:=I.list hq
   refine⟨pl.isList.typeIs,fun a e=>?_⟩
   cases e
   obtain⟨o,n,e,c,hd,_⟩:=pl
   exact⟨o,e,hd⟩
  .refine⟨⟨o,I.kIn p o hk,hc⟩,fun a e=>?_⟩
   cases e
   exact⟨o,I.kIn _ o hk,hd⟩
  .have z:∃o,s.heap.get? p=some o/\o.ExactDict:=by
    rcases hk with ⟨kvs,hk⟩ | ⟨kvs,hk⟩
    .obtain⟨_,_,_,_,o,_,_,e,ex,_⟩:=I.hok p _ hk
     exact⟨o,e,ex⟩
    .obtain⟨_,_,_,_,o,_,_,e,ex,_⟩:=I.hok p _ hk
     exact⟨o,e,ex⟩
   obtain⟨o,e,ex⟩:=z
   refine⟨⟨o,e,ex.1⟩,fun a e2=>?_⟩
   cases e2
   exact⟨o,e,ex.2.1⟩
  .obtain⟨o,_,_,_,e,ex,_⟩:=I.hok p _ hk
   refine⟨⟨o,e,ex.1⟩,fun a e2=>?_⟩
   cases e2
   exact⟨o,e,ex.2.1⟩
 | _=>exact Zjo ty
noncomputable def tBM(K:Zf6)(T:String)(r:V->List V->Hp->VK->Prop)(to:TE)(t:TA):TE:=fun U H Q=>to U H fun x H1=>tyV K T x H1/\t U H1 fun xs H2=>r x xs H2 Q
variable{o e:Expr}{es:List Expr}{to:TE}{t:TA}{name:Str}{apos cpos:Pos}{T id:String}{r:V->List V->Hp->VK->Prop}
theorem zd5(pa:PlainAttrs T)(slot:Slot T name id)(hty:typeOf (.builtin id)=pure (.type "method_descriptor"))(hm:MtR X id r)(ho:PE X o to)(ha:PA X (e::es) t)
  (hbase:Zlx o name X.env (eval o X.env)=eval o X.env:=by rfl)
  (hfew:((Zkj cpos (Zhf (e::es) X.env)).all (fun x=>!x.1)&&(Zk2 cpos (Zji [] X.env)).all (fun x=>x.1.isSome)
   && decide ((e::es).length+([]:List Zm8).length+(if ([]:List Zm8).isEmpty then 0 else 1)<30))=true:=by rfl)
  (hline:(apos.endLine == cpos.line)=true:=by rfl) (hs:Zhf (e::es) X.env=(false,eval e X.env)::Zhf es X.env:=by rfl) (hplain:(Zkj cpos (Zhf es X.env)).any (·.1)=false:=by rfl) :
  PE X (.Call (.Attribute o name apos) (e::es) [] cpos) (tBM X.K T r to t):=by
 intro pins s U H Q I h
 refine Zsc hbase hfew hline rfl (thn (ho pins s U H _ I h) fun v s1 hz9=>?_)
 obtain⟨x,H1,I1,r1,ty,q1⟩:=hz9
 obtain⟨h1,h2⟩:=ybs I1 r1 ty
 refine⟨T,id,pa,slot,hty,h1,h2,?_⟩
 have hA:=ha cpos pins s1 U H1 _ I1 q1
 rw[hs] at hA ⊢
 refine Zqh (by show(false||(Zkj cpos (Zhf es X.env)).any (·.1))=false;rw[hplain] <;> rfl) (Zq1 ?_)
 refine thn hA fun us s2 hz9=>?_
 obtain⟨vs,H2,I2,r2,q2⟩:=hz9
 exact hm pins s2 U H2 x vs v us Q I2 r1 r2 q2
end
noncomputable def MtM(X:Cx)(id:String)(r:V->List V->Hp->VK->Prop):Prop :=
 ∀(pins:List (Addr×Obj)) (s:Zgc) (U:St) (H:Hp) (x:V) (xs:List V) (v:Zf9) (us:List Zf9) (Q:VK),Inv X pins U H s->RelV x v->Vals xs us->r x xs H Q ->
  Zgr (Zg9 X.prog X.w) X.A (call (.builtin id) (v::us)) (EP X pins U Q) X.xe s
theorem Vals.one:∀{x:V} {us:List Zf9},Vals [x] us-> ∃u,us=[u]/\RelV x u
 | _,_,.cons r .nil=>⟨_,rfl,r⟩
theorem Vals.reverse{xs:List V}{us:List Zf9}(h:Vals xs us):Vals xs.reverse us.reverse:=by
 induction h with
 | nil=>exact .nil
 | cons r t ih=>rw[Zmc,Zmc];exact Vals.append ih (.cons r .nil)
section
variable{X:Cx}{pins:List (Addr×Obj)}{U:St}{H:Hp}{s:Zgc}{l b:Addr}{xs ys zs:List V}
theorem Inv.lset{its its':List Zf9}{n:Nat}{f:Array Zf9->Array Zf9}{t':Nat}(I:Inv X pins U H s)(hH:H l=some (.lst xs))
  (e:s.heap.get? l=some { cls:=.type "list", data:=.seq its.toArray n }) (hf:f its.toArray=its'.toArray) (hv:Vals ys its') (hz:ys.length<=sizeLine) :
  Inv X pins U (upd H l (.lst ys)) { s with heap:=s.heap.update l (Zj0 f),toks:=t' }:=by
 have q:=Zxv e f
 rw[hf] at q
 refine I.write (x:=l) (e:=l) (by rw[hH];exact trivial) (.inl rfl) (fun b' u hb hu=>(Zht s.heap (Zj0 f) (Zho hb)).trans hu) ⟨_,q⟩ ?_
 exact⟨hz,its',_,hv,q⟩
theorem Inv.lnew{its:List Zf9}{t':Nat}(I:Inv X pins U H s)(hv:Vals ys its)(hz:ys.length<=sizeLine) :
  Inv X pins U (upd H s.heap.objs.size (.lst ys)) { s with heap:=s.heap.push { cls:=.type "list", data:=.seq its.toArray },toks:=t' } :=
 I.laid (fun _ _ q=>Zga _ q) (Zgf _) ⟨hz,its,0,hv,Zgj _ rfl⟩
theorem Inv.fresh(I:Inv X pins U H s):H s.heap.objs.size=none:=I.hok.fresh (Zgf _)
theorem Inv.lstM(I:Inv X pins U H s)(hH:H l=some (.lst xs)):xs.length<=sizeLine /\ ∃(its:List Zf9) (n:Nat),Vals xs its/\xs.length=its.length/\s.heap.get? l=some { cls:=.type "list", data:=.seq its.toArray n }:=by
 obtain⟨z,its,n,r,e⟩:=I.hok l _ hH
 exact⟨z,its,n,r,r.length,e⟩
end
section
variable{X:Cx}
noncomputable def zuj:V->List V->Hp->VK->Prop:=fun x vs H Q=>∃l xs y,x= .ref l/\vs=[y]/\H l=some (.lst xs)/\xs.length<sizeLine/\Q .non (upd H l (.lst (xs++[y])))
theorem zf6:MtM X "list.append" zuj:=by
 intro pins s U H x vs v us Q I rx rv h
 obtain⟨l,xs,y,rfl,rfl,hH,hz,q⟩:=h
 cases rx
 obtain⟨u,rfl,ru⟩:=rv.one
 obtain⟨z,its,n,r,hl,e⟩:=I.lstM hH
 refine Zmq Zme ⟨_,e,rfl⟩ F.entry_list_append (F.args_list_append_2 _ _) (PySem.list_append l its.toArray n u (by rw[Zhw];omega)) ⟨e,?_⟩
 refine⟨.non,_,I.lset (its':=its++[u]) hH e (by simp) (r.append (.cons ru .nil)) ?_,rfl,q⟩
 rw[Zg8,Zqy]
 omega
end
end L2
namespace Att
open PySem PySem.W PySem.Calls PyProof.Rows
theorem zh8{P:Params}{h:Heap}:∀(ns:List Int) (vs:List Zf9),WellAll P h vs (ns.map WData.int)->Zt1 vs ns:=by
 intro ns
 induction ns with
 | nil =>
  intro vs w
  rw[Zmw] at w
  cases w
  exact .nil
 | cons n ns ih =>
  intro vs w
  rw[Zg3] at w
  cases w with
  | cons a b =>
   cases a
   exact .cons _ _ (ih _ b)
theorem zr0{l:OpenLaw}{n:Nat}(hn:l.most=some n){P:Params}{h:Heap}{args:List WData}{vals:List Zf9}
  (hpre:l.row.toRowW.claim.pre args=true) (hwl:WellAll P h vals args) :
  ∃a vs ns,vals=[Zhy a]/\args=[WData.list (ns.map WData.int)]/\h.get? a=some { cls:=.type "list", data:=.seq vs.toArray }/\Zt1 vs ns/\ns.length<=n:=by
 have hsh:WShape.hasAll [] args [.list .int]=true:=(pre_splitW hpre).1
 have hc:l.pre.holds [] { args:=args }=true:=(pre_splitW hpre).2
 obtain⟨d,r,rfl,h1,h2⟩:=hasAllW_cons hsh
 obtain rfl:=hasAllW_nil h2
 obtain⟨xs,rfl,h3⟩:=hasW_list h1
 obtain⟨ns,rfl⟩:=items_int h3
 have hlen:ns.length<=n:=by
  unfold OpenLaw.pre at hc
  have h4:(WTm.not (.lt (.lit (.int (n:Int))) (.len (.arg 0)))).holds [] { args:=[.list (ns.map .int)] }=true:=by
   have h4:=(holds_andW hc).1
   rw[hn] at h4
   exact h4
  have h5:=condW_of h4 (w_not (w_lt w_lit (w_len_list (w_arg rfl))))
  rw[Zge] at h5
  refine Nat.le_of_not_lt fun q=>?_
  have q':(n:Int)<((ns.length:Nat):Int):=by omega
  first
   | (rw[decide_eq_true q'] at h5;exact absurd h5 (by decide))
   | (simp at h5;omega)
 cases hwl with
 | cons w1 w2 =>
  cases w2
  cases w1 with
  | list ho hall=>exact⟨_,_,ns,rfl,rfl,ho,zh8 ns _ hall,hlen⟩
theorem zq9(l:OpenLaw)(args:List WData):l.row.toRowW.claim.post args (.bool true) args=true :=
 postW_of (r:=l.row.toRowW) (X:=(true == true))
  (show WShape.has [] (.bool true) .bool=true by first | rfl | decide | simp[WShape.has,WShape.arms,WShape.armsAll])
  (show(WTm.eq .res (.lit (.bool true))).value [] { args:=args,res:=some (.bool true),after:=args }=some (.bool (true == true)) from w_eq_bool (w_res rfl) w_lit) rfl
theorem attach_call{l:OpenLaw}{n:Nat}{q:Zgy}{loose:List Str}{XP:(Str->Option Zf9)->Heap->Prop}{YP:Zhn->Heap->Prop}{d:DefRec}
  (hn:l.most=some n) (hdf:d.params.defaults=[])
  (call:∀(w:Zhn) (s₀ s₁:Zgc) (mg mb:Str->Option Zf9) (fa:Addr) (o:Obj) (pm cd doc:Zf9) (a:Addr) (vs:List Zf9) (ns:List Int),
   Ground q loose [] XP w s₀ mg mb s₁.heap->YP w s₁.heap ->
   s₁.heap.get? fa=some o->o.data= .func (docDef d.name d.params d.body d.scope pm cd doc)->s₁.heap.CodeRec cd d.name->mg d.name=some (.ref fa) ->
   s₁.heap.get? a=some { cls:=.type "list", data:=.seq vs.toArray }->Zt1 vs ns->ns.length<=n->s₁.gens= #[] ->
   Zm1 (Zg9 l.prog w) Zqq (.call (.ref fa) ⟨[.ref a],[]⟩) (fun r s'=>r= .ok (.ret (.bool true))/\OldK s₁.heap s'.heap/\s'.os=s₁.os/\Zot s'.gens) s₁) :
  WalkO q loose XP YP l.row.toRowW d [] (fun f vs=>Zr1 f vs):=by
 intro w s₀ s₁ mg mb G Y fa o pm cd doc dV kV ho hd hcd hD hmg hg args vals as hpre hlay hrd hwl hlo
 obtain rfl:dV= .none:=Dflts.none hD hdf
 obtain rfl:kV= .none:=Dflts.noKw hD
 obtain⟨a,vs,ns,rfl,rfl,hobj,hints,hlen⟩:=zr0 hn hpre hwl
 refine enter_call (Zkr (call w s₀ s₁ mg mb fa o pm cd doc a vs ns G Y ho (fd_plain hd) hcd hmg hobj hints hlen hg) fun r s' hq=>?_)
 obtain⟨rfl,h2,h3,h4⟩:=hq
 exact⟨.inl ⟨.bool true,.bool true,[],rfl,fun _=>rfl,.bool true,zq9 l _,fun _=>⟨Zvi,fun _ hm=>(nomatch hm)⟩⟩,h2,h3,h4⟩
section
variable{prog:Zgy}{w:Zhn}{A:Zhe}{E:Zf9->Zgc->Prop}{s:Zgc}{K:Frag}
end
end Att
namespace L2
open PySem PySem.Spec PyProof.Rows
theorem zlj:∀{vs:List Zf9} {ns:List Int},Zt1 vs ns->Vals (ns.map V.int) vs
 | _,_,.nil=>.nil
 | _,_,.cons n t h=>.cons ⟨t,rfl⟩ (zlj h)
noncomputable def Only(H:Hp):Prop:=∀b,H b=none \/ ∃o xs,H b=some (.frz o (.lst xs))
theorem zwq {P : Zgy} {w : Zhn} {K : Zf6} {mg mb : Str -> Option Zf9} {CX : CXT} {k : Nat} {fa a : Addr} {fd : Zjc} {x : Str} {sp : Sp} {s₁ : Zgc} {vs : List Zf9} {ns : List Int}
  (KX:K.In s₁.heap) (hns:s₁.heap.Ns Zjs mg) (hb:s₁.heap.Ns Zuz mb) (hbb:∀x:Str,x ≠ "__name__" -> mb x=Zno x) (hlim:s₁.heap.NoLimit) (hg:s₁.gens= #[])
  (ha:s₁.heap.get? a=some { cls:=.type "list", data:=.seq vs.toArray }) (hi:Zt1 vs ns) (hl:ns.length<=sizeLine) (hr:Room k Zqq)
  (F:∀base:Heap,K.In base->base.Ns Zjs mg->FnOk P w K mg base CX k fa fd [x] sp) (hbind:∀(s:Zgc) (u:Zf9),Zps s fd ⟨[u],[]⟩ [(x,u)])
  (hsp:∀H:Hp,Only H->SqL K H a (ns.map V.int)->sp [.ref a] H (fun v _=>v= .bl true) fun _ _ _=>False)
  (hCX:∀H e s',CX [] H s₁ (fun _ _ _=>False) e s'->False) :
  Zm1 (Zg9 P w) Zqq (.call (.ref fa) ⟨[.ref a],[]⟩) (fun r s'=>r= .ok (.ret (.bool true))/\OldK s₁.heap s'.heap/\s'.os=s₁.os/\Zot s'.gens) s₁:=by
 have rv:=zlj hi
 have lenV:=hi.length
 -- from an abstract heap in which nothing but the script may be tracked
 have core:∀H:Hp,Only H->SqL K H a (ns.map V.int)->HOk P w H s₁.heap->(∀b,H b≠none->b=a)->(H a≠none->K.lookup a=none) ->
   Zm1 (Zg9 P w) Zqq (.call (.ref fa) ⟨[.ref a],[]⟩) (fun r s'=>r= .ok (.ret (.bool true))/\OldK s₁.heap s'.heap/\s'.os=s₁.os/\Zot s'.gens) s₁:=by
  intro H hO hS hok hA hK
  have base_of:∀{b:Addr} {o:Obj},s₁.heap.get? b=some o->H b=none->(hidT s₁.heap H).get? b=some o:=fun e n=>zvi e n
  have noA:∀{b:Addr} {o:Obj} {es:Array Zs7} {ep:Nat},s₁.heap.get? b=some o->o.data= .dict es ep->H b=none:=fun {b o es ep} e d=>by
   cases q:H b with
   | none=>rfl
   | some u =>
    have e':b=a:=hA b (by rw[q];simp)
    subst e'
    rw[ha] at e;cases e
    have d':Data.seq vs.toArray _=Data.dict es ep:=d
    cases d'
  have nsK:∀{b:Addr} {m:Str->Option Zf9},s₁.heap.Ns b m->(hidT s₁.heap H).Ns b m:=fun {b m} ⟨o,es,ep,e,d,r⟩=>⟨o,es,ep,base_of e (noA e d),d,r⟩
  have hKb:K.In (hidT s₁.heap H):=fun b o e=>base_of (KX b o e) (by
   cases q:H b with
   | none=>rfl
   | some u =>
    have e':b=a:=hA b (by rw[q];simp)
    subst e'
    rw[hK (by rw[q];simp)] at e;cases e)
  have hM:Mod K mg (hidT s₁.heap H):=⟨hKb,nsK hns,⟨mb,nsK hb,hbb⟩,let ⟨mc,h1,h2⟩:=hlim;⟨mc,nsK h1,h2⟩⟩
  have e0:Env0 P w K mg (hidT s₁.heap H) Zqq [] s₁ H:=⟨rfl,hM,fun b o e=>zy3 e,Zv8 (zsi _ _),trivial,fun b hb=>absurd (show b∈([]:List Addr) from hb) (by simp),hok,.of_eq hg⟩
  refine Zkr ((F _ hKb (nsK hns)).run Zqq [] s₁ H ⟨[.ref a],[]⟩ [.ref a] [.ref a] _ _ hr e0 (hbind s₁ (.ref a)) (.cons rfl .nil) (hsp H hO hS)) fun r s' h=>?_
  cases r with
  | error e=>exact(hCX H e s' h).elim
  | ok fl =>
   cases fl with
   | next=>exact Zjo h
   | brk=>exact Zjo h
   | cont=>exact Zjo h
   | ret u =>
    obtain⟨v,H',os,bare,un,hok',r',q⟩:=h
    have q':v= .bl true:=q
    subst q'
    obtain rfl:u=Zma true:=r'
    refine⟨rfl,OldK.of_keep fun b o e=>?_,os,bare⟩
    cases q:H b with
    | none=>exact un.keep b o e q (by intro z;exact absurd (show b∈([]:List Addr) from z) (by simp)) (by simp)
    | some u =>
     rcases hO b with z | ⟨ob,xs,z⟩
     .rw[q] at z;cases z
     .have z2:=un.frzs b ob _ z
      obtain⟨e1,_⟩:=hok b _ z
      obtain⟨e2,_⟩:=hok' b _ z2
      rw[e] at e1;cases e1
      exact e2
 cases hk:K.lookup a with
 | some o =>
  -- the script is one of the module's own objects
  have e:=KX a o hk
  rw[ha] at e
  cases e
  refine core (fun _=>none) (fun _=>.inl rfl) (.inr ⟨_,vs.toArray,_,hk,rfl,rfl,rfl,by rw[Zhw,lenV];exact hl,by simpa using rv⟩) (fun b u z=>by have z':(none:Option HO)=some u:=z;cases z') (fun b z=>absurd rfl z) fun z=>absurd rfl z
 | none =>
  refine core (fun b=>if b=a then some (.frz { cls:=.type "list", data:=.seq vs.toArray } (.lst (ns.map V.int))) else none) (fun b=>?_) (.inl (.inr ⟨{ cls:=.type "list", data:=.seq vs.toArray },if_pos rfl⟩)) (fun b u z=>?_) (fun b z=>?_) fun _=>hk
  .by_cases hb:b=a
   .exact .inr ⟨_,_,if_pos hb⟩
   .exact .inl (if_neg hb)
  .by_cases hb:b=a
   .have z':=(if_pos hb).symm.trans z
    cases z'
    subst hb
    exact⟨ha,by rw[Zge];exact hl,vs,_,rv,ha⟩
   .have z':=(if_neg hb).symm.trans z
    cases z'
  .by_cases hb:b=a
   .exact hb
   .exact absurd (if_neg hb) z
theorem walk_of{l:Zoh}{n k:Nat}{q:Zgy}{loose:List Str}{XP:(Str->Option Zf9)->Heap->Prop}{YP:Zhn->Heap->Prop}{d:DefRec}{K:Params->Zf6}{CX:Zhn->CXT}{sp:Zhn->Sp}{x:Str}
  (hn:l.most=some n) (hn2:n<=sizeLine) (hdf:d.params.defaults=[]) (hr:Room k Zqq)
  (hY:∀(w:Zhn) (h:Heap),YP w h->(K w.params).In h)
  (F:∀(w:Zhn) (mg:Str->Option Zf9) (fa:Addr) (h:Heap),(K w.params).In h->h.Ns Zjs mg->mg d.name=some (.ref fa) ->
   ∃fd:Zjc,(∀(s:Zgc) (u:Zf9),Zps s fd ⟨[u],[]⟩ [(x,u)]) /\
    ∀base:Heap,(K w.params).In base->base.Ns Zjs mg->FnOk l.prog w (K w.params) mg base (CX w) k fa fd [x] (sp w))
  (hsp:∀(w:Zhn) (H:Hp) (a:Addr) (ns:List Int),ns.length<=n->Only H->SqL (K w.params) H a (ns.map V.int)->sp w [.ref a] H (fun v _=>v= .bl true) fun _ _ _=>False)
  (hCX:∀(w:Zhn) (H:Hp) (s:Zgc) (e:Zf9) (s':Zgc),CX w [] H s (fun _ _ _=>False) e s'->False) :
  Zsu q loose XP YP l.row.toRowW d [] (fun f vs=>Zr1 f vs):=by
 refine Att.attach_call hn hdf fun w s₀ s₁ mg mb fa o pm cd doc a vs ns G Y ho hd hcd hmg hobj hints hlen hg=>?_
 have KX:=hY w _ Y
 obtain⟨fd,hb,hF⟩:=F w mg fa _ KX G.T.g hmg
 exact zwq KX G.T.g G.T.b G.T.builtins G.T.nolimit hg hobj hints (Zim hlen hn2) hr hF hb (fun H hO hS=>hsp w H a ns hlen hO hS) fun H e s'=>hCX w H s₁ e s'
noncomputable def zby(s:Stmt):Arguments:=match s with
 | .FunctionDef _ a _ _ _ _ _ _ _ _=>a
 | _=>{ posonlyargs:=[],args:=[],vararg:=none,kwonlyargs:=[],kw_defaults:=[],kwarg:=none,defaults:=[] }
noncomputable def zbl(s:Stmt):List Stmt:=match s with
 | .FunctionDef _ _ b _ _ _ _ _ _ _=>b
 | _=>[]
noncomputable def zad(s:Stmt):Scope:=match s with
 | .FunctionDef _ _ _ _ _ _ sc _ _ _=>sc
 | _=>{ kind:=.function,names:=[],isGenerator:=false,isCoroutine:=false }
noncomputable abbrev CX0:CXT:=fun _ _ _ _ _ _=>False
noncomputable abbrev E0:XK:=fun _ _ _=>False
theorem zgp{X:Cx}:zjj CX0 X E0:=fun _ _ _ _ _ _ _ h=>h.elim
structure Fun(K:Zf6)(x qual:Str)(st:Stmt)(f:Addr)(fd:Zjc):Prop where
 ex:∃(oc:Zf9) (od:Option Addr) (kV doc pm:Zf9) (an:Option Addr) (cdv ct:Zf9) (osl:Array (Option Zf9)),
  fd=Zh3 x qual (zby st) (zbl st) (zad st) .none kV doc pm an cdv ct/\K.lookup f=some ⟨oc,od,.func fd,osl⟩/\Zmu K cdv qual=true
 kp:Zks K (.ref f)=true
section
variable{P:Zgy}{w:Zhn}{K:Zf6}{mg:Str->Option Zf9}{base:Heap}
theorem Fun.ok{x qual:Str}{st:Stmt}{f:Addr}{fd:Zjc}{N ps:List Str}{k:Nat}{sp:Sp}(F:Fun K x qual st f fd)(S:FnScope N ps (zad st))(len:∀vs H Q E,sp vs H Q E->vs.length=ps.length)
  (hbody:∀(cdv:Zf9) (A:Zhe) (outer:List Env) (s:Zgc) (H:Hp) (vs:List V) (Q:VK) (E:XK),Room k (A.deeper (Znn qual (zad st) s.heap.objs.size f cdv))->sp vs H Q E ->
   ∃t,PSs (cxOf CX0 P w K mg base N qual (zad st) f cdv A outer s H E).nox (zbl st) t/\t { nx:=fun _ H'=>Q .non H',rt:=Q } (start N vs) H):FnOk P w K mg base CX0 (k+1) f fd ps sp:=by
 obtain⟨oc,od,kV,doc,pm,an,cdv,ct,osl,rfl,lk,hcd⟩:=F.ex
 refine ycp lk hcd S len fun A outer s H vs Q E hr hsp=>?_
 obtain⟨t,h,q⟩:=hbody cdv A outer s H vs Q E hr hsp
 exact⟨t,h.nox,q⟩
theorem Fun.binds{x qual:Str}{st:Stmt}{f:Addr}{fd:Zjc}{ps:List Str}(F:Fun K x qual st f fd)
  (h:∀(kV doc pm:Zf9) (an:Option Addr) (cdv ct:Zf9) (us:List Zf9),us.length=ps.length->Zlw (Zh3 x qual (zby st) (zbl st) (zad st) .none kV doc pm an cdv ct) ⟨us,[]⟩=pure (ps.zip us)):zd0 K fd ps []:=by
 obtain⟨oc,od,kV,doc,pm,an,cdv,ct,osl,rfl,lk,hcd⟩:=F.ex
 exact .all (h kV doc pm an cdv ct)
theorem fun_mk{x qual:Str}{st:Stmt}{f:Addr}{oc:Zf9}{od an:Option Addr}{osl:Array (Option Zf9)}{kV doc pm cdv ct:Zf9}(l:K.lookup f=some ⟨oc,od,.func (Zh3 x qual (zby st) (zbl st) (zad st) .none kV doc pm an cdv ct),osl⟩)
  (c:Zmu K cdv qual=true) (k:Zks K (.ref f)=true):Fun K x qual st f (Zh3 x qual (zby st) (zbl st) (zad st) .none kV doc pm an cdv ct):=⟨⟨oc,od,kV,doc,pm,an,cdv,ct,osl,rfl,l,c⟩,k⟩
end
theorem zy4{A:Zhe}{k:Nat}(hr:Room k A):A.units+1<Zn5:=Zn7 (Nat.add_le_add_left (by decide:1<=64) _) hr.units
section
variable{X:Cx}
theorem pv(i:Nat){x:Str}{pos:Pos}(hN:X.N[i]? = some x:=by rfl)(hv:Vis X.env.scope x:=by first | exact Zlg rfl | exact Zue (Zlg rfl) | exact Zue (Zue rfl))(hd:(x == ("__debug__" : Str))=false:=by decide)
  (hcd:(x == ("__classdict__" : Str))=false:=by decide):PE X (.Name x pos) (tVar i):=yan hN hv hd hcd
end
theorem iteF{A B:Prop}(h:B):if false=true then A else B:=by
 rw[if_neg Zg0]
 exact h
theorem iteT{A B:Prop}(h:A):if true=true then A else B:=by
 rw[if_pos rfl]
 exact h
noncomputable def Same(H H':Hp):Prop:=∀b o,H b=some o->H' b=some o
theorem Same.refl(H:Hp):Same H H:=fun _ _ h=>h
theorem Same.trans{H H1 H2:Hp}(a:Same H H1)(b:Same H1 H2):Same H H2:=fun c o h=>b c o (a c o h)
theorem Same.free{H H':Hp}(e:Same H H'){l:Addr}(h:H' l=Zuf):H l=Zuf:=by
 cases q:H l with
 | none=>rfl
 | some o =>
  rw[e l o q] at h
  cases h
theorem Same.seq{K:Zf6}{H H':Hp}{a:Addr}{xs:List V}(e:Same H H')(h:SqL K H a xs):SqL K H' a xs:=by
 rcases h with (h | ⟨o,h⟩) | h
 .exact .inl (.inl (e _ _ h))
 .exact .inl (.inr ⟨o,e _ _ h⟩)
 .exact .inr h
section
variable{κ:Type}[DecidableEq κ]
noncomputable def valV(kvs:List (κ×V))(k:κ):Option V:=(kvs.find? fun kv=>decide (kv.1=k)).map (·.2)
noncomputable def putK(kvs:List (κ×V))(k:κ)(v:V):List (κ×V) :=
 if (kvs.any fun kv=>decide (kv.1=k))=true then kvs.map (fun kv=>if kv.1=k then (kv.1,v) else kv) else kvs++[(k,v)]
theorem zkn{p:κ×V}{r:List (κ×V)}{k:κ}(e:p.1=k):valV (p::r) k=some p.2:=by simp[valV,Zil,e]
theorem zj5{p:κ×V}{r:List (κ×V)}{k:κ}(e:¬ p.1=k):valV (p::r) k=valV r k:=by simp[valV,Zil,e]
theorem zoq(k:κ):∀kvs:List (κ×V),(kvs.any fun kv=>decide (kv.1=k))=(valV kvs k).isSome
 | []=>rfl
 | p::r=>by
  rw[Zko]
  by_cases e:p.1=k
  .simp only[zkn e,decide_eq_true e,Bool.true_or,Option.isSome_some]
  .rw[zj5 e,decide_eq_false e,Zum];exact zoq k r
theorem zhw(kvs:List (κ×V))(k:κ)(v:V):(putK kvs k v).length<=kvs.length+1:=by
 unfold putK
 split
 .rw[Zge];omega
 .rw[Zg8,Zgp,Zhj];omega
theorem RelO.isSome_eq{o:Option V}{u:Option Zf9}(r:RelO o u):o.isSome=u.isSome:=by
 cases o with
 | none=>cases u with
  | none=>rfl
  | some _=>exact(show False from r).elim
 | some _=>cases u with
  | none=>exact(show False from r).elim
  | some _=>rfl
theorem KV.val{kvs:List (κ×V)}{vs:List (κ×Zf9)}(r:KV kvs vs)(k:κ):RelO (valV kvs k) (Zpg vs k):=by
 unfold KV at r
 induction r with
 | nil=>exact Zm4
 | @cons p q ps qs h t ih =>
  obtain⟨h1,h2⟩:=h
  by_cases e:p.1=k
  .have e':q.1=k:=h1.symm.trans e
   have b:Zpg (q::qs) k=some q.2:=by simp[Zpg,Zil,e']
   rw[zkn e,b];exact h2
  .have e':¬ q.1=k:=fun z=>e (h1.trans z)
   have b:Zpg (q::qs) k=Zpg qs k:=by simp[Zpg,Zil,e']
   rw[zj5 e,b];exact ih
theorem KV.any{kvs:List (κ×V)}{vs:List (κ×Zf9)}(r:KV kvs vs)(k:κ):(kvs.any fun kv=>decide (kv.1=k))=vs.any fun kv=>decide (kv.1=k):=by
 unfold KV at r
 induction r with
 | nil=>rfl
 | cons h t ih=>rw[Zko,Zko,ih,h.1]
theorem KV.repl{kvs:List (κ×V)}{vs:List (κ×Zf9)}(r:KV kvs vs)(k:κ){y:V}{u:Zf9}(ry:RelV y u) :
  KV (kvs.map fun kv=>if kv.1=k then (kv.1,y) else kv) (vs.map fun kv=>if kv.1=k then (kv.1,u) else kv):=by
 unfold KV at r ⊢
 induction r with
 | nil=>exact .nil
 | @cons p q ps qs h t ih =>
  rw[Zg3,Zg3]
  refine .cons ?_ ih
  obtain⟨h1,h2⟩:=h
  by_cases e:p.1=k
  .rw[if_pos e,if_pos (h1.symm.trans e)];exact⟨h1,ry⟩
  .rw[if_neg e,if_neg (fun z=>e (h1.trans z))];exact⟨h1,h2⟩
theorem KV.put{kvs:List (κ×V)}{vs:List (κ×Zf9)}(r:KV kvs vs)(k:κ){y:V}{u:Zf9}(ry:RelV y u):KV (putK kvs k y) (stored vs k u):=by
 unfold putK stored
 rw[r.any k]
 by_cases e:(vs.any fun kv=>decide (kv.1=k))=true
 .rw[if_pos e,if_pos e];exact r.repl k ry
 .rw[if_neg e,if_neg e];exact Zud r ⟨rfl,ry⟩
theorem KV.length{kvs:List (κ×V)}{vs:List (κ×Zf9)}(r:KV kvs vs):kvs.length=vs.length:=Zpx r
end
theorem zqm{P:Zgy}{w:Zhn}{k:Key}{u:Zf9}(r:RelV (kV k) u):(zaq P w).is k u=true:=by
 cases k with
 | inl i=>obtain⟨t,e⟩:=(show ∃t,u=Zqr i t from r);subst e;exact zia P w i t
 | inr x=>obtain⟨t,e⟩:=(show ∃t,u=Znq x t from r);subst e;exact zdv P w x t
theorem zmw{P:Zgy}{w:Zhn}:∀{ks:List Key} {us:List Zf9},Vals (ks.map kV) us->ItemsAre (zaq P w) ks us
 | [],_,r=>by rw[Zmw] at r;cases r;exact .nil
 | k::ks,_,r=>by
  rw[Zg3] at r
  cases r with
  | cons h t=>exact .cons (zqm h) (zmw t)
noncomputable abbrev KT(H:Hp):List (List Key×V)->List (List Key×Addr×Zf9)->Prop:=Paired fun p q=>p.1=q.1/\H q.2.1=some (.tup (p.1.map kV))/\RelV p.2 q.2.2
theorem KT.val{H:Hp}{kvs:List (List Key×V)}{xs:List (List Key×Addr×Zf9)}(r:KT H kvs xs)(k:List Key):RelO (valV kvs k) ((Ztp xs k).map (·.2)):=by
 induction r with
 | nil=>exact Zm4
 | @cons p q ps qs h t ih =>
  obtain⟨h1,_,h2⟩:=h
  by_cases e:p.1=k
  .have e':q.1=k:=h1.symm.trans e
   have b:Ztp (q::qs) k=some q.2:=by simp[Ztp,Zil,e']
   rw[zkn e,b];exact h2
  .have e':¬ q.1=k:=fun z=>e (h1.trans z)
   have b:Ztp (q::qs) k=Ztp qs k:=by simp[Ztp,Zil,e']
   rw[zj5 e,b];exact ih
theorem KT.repl{H:Hp}{kvs:List (List Key×V)}{xs:List (List Key×Addr×Zf9)}(r:KT H kvs xs)(k:List Key){y:V}{u:Zf9}(ry:RelV y u) :
  KT H (kvs.map fun kv=>if kv.1=k then (kv.1,y) else kv) (xs.map (putAt k u)):=by
 induction r with
 | nil=>exact .nil
 | @cons p q ps qs h t ih =>
  rw[Zg3,Zg3]
  refine .cons ?_ ih
  obtain⟨h1,h2,h3⟩:=h
  unfold putAt
  by_cases e:p.1=k
  .rw[if_pos e,if_pos (h1.symm.trans e)];exact⟨h1,h2,ry⟩
  .rw[if_neg e,if_neg (fun z=>e (h1.trans z))];exact⟨h1,h2,h3⟩
theorem KT.put{H:Hp}{kvs:List (List Key×V)}{xs:List (List Key×Addr×Zf9)}(r:KT H kvs xs)(k:List Key){b:Addr}{y:V}{u:Zf9}(hb:H b=some (.tup (k.map kV)))(ry:RelV y u) :
  KT H (putK kvs k y) (storedH xs k b u):=by
 have e:(kvs.any fun kv=>decide (kv.1=k))=(Ztp xs k).isSome:=by
  rw[zoq,(r.val k).isSome_eq,Zrf]
 unfold putK storedH
 rw[e]
 by_cases q:(Ztp xs k).isSome=true
 .rw[if_pos q,if_pos q];exact r.repl k ry
 .rw[if_neg q,if_neg q];exact Zud r ⟨rfl,hb,ry⟩
theorem KT.keeps{H H':Hp}{kvs:List (List Key×V)}{xs:List (List Key×Addr×Zf9)}(r:KT H kvs xs)(ht:∀b ys,H b=some (.tup ys)->H' b=some (.tup ys)):KT H' kvs xs :=
 Paired.mapP r fun _ _ z=>⟨z.1,ht _ _ z.2.1,z.2.2⟩
section
variable{P:Zgy}{w:Zhn}{H:Hp}{h:Heap}{a:Addr}
theorem ybu{u:HO}(ok:HOk P w H h)(e:Rd H a u):zck P w H h a u:=e.ok ok
theorem zu7{kvs:List (Key×V)}(ok:HOk P w H h)(e:Rd H a (.dK kvs)):kvs.length<=sizeLine/\(a == Zj3)=false /\ ∃vs,KV kvs vs/\h.DictOf (zaq P w) a vs :=
 show zck P w H h a (.dK kvs) from ybu ok e
theorem yc1{kvs:List (Key×V)}(ok:HOk P w H h)(e:H a=some (.dK kvs)):kvs.length<=sizeLine/\(a == Zj3)=false /\ ∃vs,KV kvs vs/\h.DictOf (zaq P w) a vs:=zu7 ok (.inl e)
theorem zoi{ks:List Key}(ok:HOk P w H h)(e:H a=some (.tup (ks.map kV))):(Zqn (zaq P w)).is h ks a:=by
 obtain⟨_,its,r,o,h1,h2,n,h3⟩:=(show zck P w H h a (.tup (ks.map kV)) from ok a _ e)
 exact⟨o,its.toArray,n,h1,h2,h3,by simpa using zmw r⟩
theorem zvm{kvs:List (List Key×V)}(ok:HOk P w H h)(e:Rd H a (.dT kvs)):kvs.length<=sizeLine/\(a == Zj3)=false /\
  ∃xs,KT H kvs xs/\h.DictOfH (Zqn (zaq P w)) a xs:=by
 obtain⟨z,y,xs,r,o,es,ep,h1,h2,h3,h4,h5⟩:=(show zck P w H h a (.dT kvs) from ybu ok e)
 refine⟨z,y,xs,r,o,es,ep,h1,h2,h3,h4,fun x hx=>?_,h5⟩
 have all:∀{l:List (List Key×V)} {m:List (List Key×Addr×Zf9)},KT H l m-> ∀x∈m,(Zqn (zaq P w)).is h x.1 x.2.1:=by
  intro l m q
  induction q with
  | nil=>intro x hx;exact nomatch hx
  | @cons p q ps qs hq t ih =>
   intro x hx
   rcases Zgh.mp hx with e | hx
   .subst e
    exact zoi ok (by rw[<- hq.1];exact hq.2.1)
   .exact ih x hx
 exact all r x hx
theorem yc2{kvs:List (List Key×V)}(ok:HOk P w H h)(e:H a=some (.dT kvs)):kvs.length<=sizeLine/\(a == Zj3)=false /\
  ∃xs,KT H kvs xs/\h.DictOfH (Zqn (zaq P w)) a xs:=zvm ok (.inl e)
end
noncomputable def DGet(H:Hp)(a:Addr)(y:V)(r:Option V):Prop :=
 (∃kvs k,Rd H a (.dK kvs)/\y=kV k/\r=valV kvs k) \/ ∃kvs k b,Rd H a (.dT kvs)/\y= .ref b/\H b=some (.tup (k.map kV))/\r=valV kvs k
noncomputable def DPut(H:Hp)(a:Addr)(y v:V)(H':Hp):Prop :=
 (∃kvs k,H a=some (.dK kvs)/\y=kV k/\kvs.length<sizeLine/\H'=upd H a (.dK (putK kvs k v))) \/
 ∃kvs k b,H a=some (.dT kvs)/\y= .ref b/\H b=some (.tup (k.map kV))/\kvs.length<sizeLine/\H'=upd H a (.dT (putK kvs k v))
theorem DGet.k{H:Hp}{a:Addr}{kvs:List (Key×V)}{k:Key}(e:H a=some (.dK kvs)):DGet H a (kV k) (valV kvs k):=.inl ⟨kvs,k,.inl e,rfl,rfl⟩
theorem DPut.k{H:Hp}{a:Addr}{kvs:List (Key×V)}{k:Key}{v:V}(e:H a=some (.dK kvs))(hl:kvs.length<sizeLine):DPut H a (kV k) v (upd H a (.dK (putK kvs k v))):=.inl ⟨kvs,k,e,rfl,hl,rfl⟩
section
variable{X:Cx}{pins:List (Addr×Obj)}{U:St}{H:Hp}{s:Zgc}{a:Addr}{y v:V}{u r:Zf9}{o:Option V}{A:Zhe}{E:Zf9->Zgc->Prop}
theorem Inv.big(I:Inv X pins U H s):Zj3<s.heap.objs.size:=by
 have h:Zjs<s.heap.objs.size:=(I.mod.glob.keeps I.bk).lt
 exact Zv7 (by decide) h
theorem zuo{Q:Zf9->Zgc->Prop}(hu:A.units+1<Zn5)(I:Inv X pins U H s)(g:DGet H a y (some v))(ry:RelV y u)(h:∀w' s',Inv X pins U H s'->RelV v w'->Q w' s') :
  Zgr (Zg9 X.prog X.w) A (Zrx (.ref a) u) Q E s:=by
 rcases g with ⟨kvs,k,e,ey,l⟩ | ⟨kvs,k,b,e,ey,eb,l⟩
 .subst ey
  obtain⟨z,hd,vs,rel,dd⟩:=zu7 I.hok e
  obtain⟨w',hw,rw'⟩:=RelO.some_of (v:=v) (o:=Zpg vs k) (by rw[l];exact rel.val k)
  exact Zvo (zqm ry) dd.mapOf hw (h w' _ (I.tok _) rw')
 .subst ey
  cases (show u=Zhy b from ry)
  obtain⟨z,hd,xs,rel,dd⟩:=zvm I.hok e
  obtain⟨w',hw,rw'⟩:=RelO.some_of (v:=v) (o:=(Ztp xs k).map (·.2)) (by rw[l];exact rel.val k)
  obtain⟨p,hp,hp2⟩:=Option.map_eq_some_iff.mp hw
  refine wpAny_getItem_heap (Zo2 hu) (zoi I.hok eb) dd hp ?_
  rw[hp2]
  exact h w' _ (I.tok _) rw'
theorem zzv{Q:Zf9->Zgc->Prop}(hu:A.units+1<Zn5)(I:Inv X pins U H s)(g:DGet H a y o)(ry:RelV y u)(h:∀s',Inv X pins U H s'->Q (.bool (!o.isSome)) s') :
  Zgr (Zg9 X.prog X.w) A (Zi1 .NotIn u (.ref a)) Q E s:=by
 rcases g with ⟨kvs,k,e,ey,l⟩ | ⟨kvs,k,b,e,ey,eb,l⟩
 .subst ey
  obtain⟨z,hd,vs,rel,dd⟩:=zu7 I.hok e
  refine Zww (zqm ry) hd dd.mapOf ?_
  rw[<- (rel.val k).isSome_eq,<- l]
  exact h _ (I.tok _)
 .subst ey
  cases (show u=Zhy b from ry)
  obtain⟨z,hd,xs,rel,dd⟩:=zvm I.hok e
  refine wpAny_notIn_heap (Zo2 hu) (zoi I.hok eb) hd dd ?_
  have q:=(rel.val k).isSome_eq
  rw[Zrf] at q
  rw[<- q,<- l]
  exact h _ (I.tok _)
theorem zq6{h':Heap}{t':Nat}{ob:HO}(I:Inv X pins U H s)(mu:Mut (H a))(hs:Zh2 a s.heap h')(he:∃q,h'.get? a=some q)(new:zck X.prog X.w (upd H a ob) h' a ob) :
  Inv X pins U (upd H a ob) { s with heap:=h',toks:=t' } :=
 I.write (x:=a) (e:=a) mu (.inl rfl) (fun b q hb z=>(hs.2 b hb).trans z) he new
theorem ybx{P:Zgy}{w:Zhn}{H':Hp}{h':Heap}{kvs:List (Key×V)}{vs:List (Key×Zf9)}(z:kvs.length<=sizeLine)(hd:(a == Zj3)=false)(rel:KV kvs vs)(dd:h'.DictOf (zaq P w) a vs) :
  zck P w H' h' a (.dK kvs):=⟨z,hd,vs,rel,dd⟩
theorem ztk{H':Hp}{Q:Unit->Zgc->Prop}(hu:A.units+1<Zn5)(I:Inv X pins U H s)(g:DPut H a y v H')(ry:RelV y u)(rv:RelV v r)(h:∀s',Inv X pins U H' s'->Q () s') :
  Zgr (Zg9 X.prog X.w) A (setItem (.ref a) u r) Q E s:=by
 rcases g with ⟨kvs,k,e,ey,l,eH⟩ | ⟨kvs,k,b,e,ey,eb,l,eH⟩
 .subst ey eH
  obtain⟨z,hd,vs,rel,dd⟩:=yc1 I.hok e
  have hz:vs.length<=sizeLine:=by rw[<- rel.length];exact z
  have hl:(putK kvs k v).length<=sizeLine:=by have:=zhw kvs k v;omega
  refine wpAny_setItem_pairs (hsz:=hz) (zqm ry) dd fun h' dd' hs=>h _ ?_
  have he:∃q,h'.get? a=some q:=let ⟨q,_,_,hq,_⟩:=dd';⟨q,hq⟩
  exact zq6 I (by rw[e];exact Zm4) hs he (ybx hl hd (rel.put k rv) dd')
 .subst ey eH
  cases (show u=Zhy b from ry)
  obtain⟨z,hd,xs,rel,dd⟩:=yc2 I.hok e
  have hz:xs.length<=sizeLine:=by rw[<- Zpx rel];exact z
  have hl:(putK kvs k v).length<=sizeLine:=by have:=zhw kvs k v;omega
  refine wpAny_setItem_heap (hsz:=hz) (Zo2 hu) (zoi I.hok eb) dd fun h' dd' hs=>h _ ?_
  obtain⟨q,es,ep,hq,h2,h3,h4,_,h5⟩:=dd'
  refine zq6 I (by rw[e];exact Zm4) hs ⟨q,hq⟩ ⟨hl,hd,_,(rel.put k eb rv).keeps fun c ys ec=>?_,q,es,ep,hq,h2,h3,h4,h5⟩
  rw[zak (ycs ec e (fun z=>nomatch z))]
  exact ec
end
noncomputable def NoSl(i:Expr):Prop:=∀ov iv,Zqo i false ov iv=operate [ov,iv] (Zrx ov iv)
theorem zul{prog:Zgy}{w:Zhn}{A:Zhe}{E:Zf9->Zgc->Prop}{s:Zgc}{env:Env}{value slice:Expr}{pos:Pos}{T id:String}{Q:Zf9->Zgc->Prop}
  (hl:Zrb (.type T) "__getitem__" = pure (some (.builtin id))) (hs:NoSl slice)
  (h:Zgr (Zg9 prog w) A (eval value env) (fun o s₁=>Zgr (Zg9 prog w) A (eval slice env) (fun i s₂=>s₂.TypeIs o T/\Zgr (Zg9 prog w) A (Zrx o i) Q E s₂) E s₁) E s) :
  Zgr (Zg9 prog w) A (eval (.Subscript value slice pos) env) Q E s:=by
 refine Zu7 (Ziv h (fun o s₁ h₁=>Ziv h₁ (fun i s₂ h₂=>?_) fun _ _ x=>x) fun _ _ x=>x)
 obtain⟨hT,h₂⟩:=h₂
 unfold Zrt
 refine Zf5 ?_
 rw[getitemInPython_of_ne hT.not_modules]
 refine Zf5 (Zl5 hT hl ?_)
 have fin:Zgr (Zg9 prog w) A (Zqo slice false o i) (fun r s₃=>Zgr (Zg9 prog w) A (letTemporaryGo value o r >>= fun _=>pure r) Q E s₃) E s₂:=by
  rw[hs o i]
  exact wpAny_operating (Ziv h₂ (fun r s₃ h₃=>Zf5 (wpAny_letTemporaryGo (Zgb h₃))) fun _ _ x=>x)
 first
  | exact Zgb (Zf5 fin)
  | exact Zf5 (Zgb (Zf5 fin))
  | exact Zf5 fin
theorem zm1{X:Cx}{pins:List (Addr×Obj)}{U:St}{H:Hp}{s:Zgc}{a:Addr}{y:V}{o:Option V}(I:Inv X pins U H s)(g:DGet H a y o):s.TypeIs (.ref a) "dict" := by
 rcases g with ⟨kvs,k,e,_,_⟩ | ⟨kvs,k,b,e,_,_,_⟩
 .obtain⟨_,_,vs,_,dd⟩:=zu7 I.hok e
  exact dd.typeIs
 .obtain⟨_,_,xs,_,dd⟩:=zvm I.hok e
  exact dd.typeIs
noncomputable def ybl(td ty:TE):TE:=fun U H Q=>td U H fun x H1=>ty U H1 fun y H2=>∃a v,x= .ref a/\DGet H2 a y (some v)/\Q v H2
noncomputable def zr8(ty td:TE):TE:=fun U H Q=>ty U H fun y H1=>td U H1 fun x H2=>∃a o,x= .ref a/\DGet H2 a y o/\Q (.bl (!o.isSome)) H2
noncomputable def ya0(td ty tv:TE):TS:=fun D U H=>tv U H fun v H1=>td U H1 fun x H2=>ty U H2 fun y H3=>∃a H4,x= .ref a/\DPut H3 a y v H4/\D.nx U H4
section
variable{X:Cx}{o i e value:Expr}{pos pos' tpos:Pos}{td ty tv:TE}
theorem zzi(hu:X.A.units+1<Zn5)(ho:PE X o td)(hi:PE X i ty)(hs:NoSl i):PE X (.Subscript o i pos) (ybl td ty):=by
 intro pins s U H Q I h
 refine zul Zo6.lookup hs (thn (ho pins s U H _ I h) fun u s1 ⟨x,H1,I1,rx,q1⟩=>thn (hi pins s1 U H1 _ I1 q1) fun iv s2 hz9=>?_)
 obtain⟨y,H2,I2,ry,a,v,ex,g,q2⟩:=hz9
 subst ex
 obtain rfl:u=Zhy a:=rx
 exact⟨zm1 I2 g,zuo hu I2 g ry fun w' s3 I3 rw'=>⟨v,H2,I3,rw',q2⟩⟩
theorem zum(hu:X.A.units+1<Zn5)(hi:PE X i ty)(ho:PE X o td):PC X .NotIn i o (zr8 ty td):=by
 intro pins s U H Q I h
 refine thn (hi pins s U H _ I h) fun iv s1 ⟨y,H1,I1,ry,q1⟩=>thn (ho pins s1 U H1 _ I1 q1) fun u s2 hz9=>?_
 obtain⟨x,H2,I2,rx,a,ov,ex,g,q2⟩:=hz9
 subst ex
 obtain rfl:u=Zhy a:=rx
 exact zzv hu I2 g ry fun s3 I3=>⟨.bl (!ov.isSome),H2,I3,rfl,q2⟩
theorem zy5(hu:X.A.units+1<Zn5)(ho:PE X o td)(hi:PE X i ty)(hv:PE X value tv)(hs:Znj value (some (.Subscript o i pos')) pos.line X.env=pure false) :
  PS X (.Assign [.Subscript o i pos'] value pos) (ya0 td ty tv):=by
 intro pins s U H D I h
 refine wpAny_Assign_Subscript (thn (hv pins s U H _ I h) fun r s1 ⟨v,H1,I1,rv,q1⟩=>thn (ho pins s1 U H1 _ I1 q1) fun u s2 ⟨x,H2,I2,rx,q2⟩=>thn (hi pins s2 U H2 _ I2 q2) fun iv s3 hz9=>?_) hs
 obtain⟨y,H3,I3,ry,a,H4,ex,g,q3⟩:=hz9
 subst ex
 obtain rfl:u=Zhy a:=rx
 exact ztk hu I3 g ry rv fun s4 I4=>⟨U,H4,I4,q3⟩
end
theorem zv2{P:Zgy}{w:Zhn}{H:Hp}(h:Heap)(hb:Zj3<h.objs.size):zck P w H (h.push { cls:=.type "dict", data:=.dict #[] }) h.objs.size (.dK []) :=
 ⟨Zhg _,beq_eq_false_iff_ne.mpr (Zho (Zgu hb)),[],.nil,Zws h⟩
noncomputable def ya8:TE:=fun _ H Q=>∀p,H p=none->Q (.ref p) (upd H p (.dK []))
section
variable{X:Cx}{pos:Pos}
theorem zvr:PE X (.Dict [] [] pos) ya8:=fun pins s U H Q I h =>
 wpAny_Dict_empty ⟨.ref s.heap.objs.size,_,I.laid (a:=s.heap.objs.size) (o:=.dK []) (t':=s.toks) (fun _ _ q=>Zga _ q) (Zgf _) (zv2 s.heap I.big),rfl,h _ (I.hok.fresh (Zgf _))⟩
end
structure M1(X:Cx)(o:Expr)(m:Str)(apos:Pos)(e:Expr)(cpos:Pos):Prop where
 base:Zlx o m X.env (eval o X.env)=eval o X.env
 few:((Zkj cpos (Zhf [e] X.env)).all (fun x=>!x.1)&&(Zk2 cpos (Zji [] X.env)).all (fun x=>x.1.isSome)
  && decide (([e]:List Expr).length+([]:List Zm8).length+(if ([]:List Zm8).isEmpty then 0 else 1)<30))=true
 line:(apos.endLine == cpos.line)=true
 trees:Zkj cpos (Zhf [e] X.env)=[(false,eval e X.env)]
structure M2(X:Cx)(o:Expr)(m:Str)(apos:Pos)(e f:Expr)(cpos:Pos):Prop where
 base:Zlx o m X.env (eval o X.env)=eval o X.env
 few:((Zkj cpos (Zhf [e,f] X.env)).all (fun x=>!x.1)&&(Zk2 cpos (Zji [] X.env)).all (fun x=>x.1.isSome)
  && decide (([e,f]:List Expr).length+([]:List Zm8).length+(if ([]:List Zm8).isEmpty then 0 else 1)<30))=true
 line:(apos.endLine == cpos.line)=true
 trees:Zkj cpos (Zhf [e,f] X.env)=[(false,eval e X.env),(false,eval f X.env)]
end L2
namespace L2
open PySem PySem.Spec PyProof.Rows PySem.Builtin PySem.Builtin.Str
noncomputable def T(l:List Nat):Str:=⟨l.toArray⟩
theorem zd2(l:List Nat):(T l).cps.toList=l:=by simp[T]
theorem ztu{a b:List Nat}:T a=T b↔a=b:=by
 constructor
 .intro h
  have:=congrArg (fun x:Str=>x.cps.toList) h
  simpa[T] using this
 .rintro rfl;rfl
theorem zbm(l:List Nat):(T l).length=l.length:=by simp[T,Zst]
theorem zx2(a b:List Nat):T a++T b=T (a++b):=by
 show Zw7 (T a) (T b)=_
 simp[Zw7,T]
theorem zha(a b:List Nat):decide ((V.str (T a))=V.str (T b))=decide (a=b):=by
 by_cases h:a=b
 .subst h;simp
 .rw[decide_eq_false h,decide_eq_false]
  intro q;injection q with q;exact h (ztu.mp q)
noncomputable def cutL(xs:List Nat)(lo hi:Option Int):List Nat:=(xs.drop (HT.sIx xs.length 0 lo)).take (HT.sIx xs.length xs.length hi - HT.sIx xs.length 0 lo)
theorem zgs(lo hi:Option Int)(n:Nat):strSliceIndices lo hi 1 n=(Zg1 (HT.sIx n n hi - HT.sIx n 0 lo)).map (HT.sIx n 0 lo + ·):=by
 have h1:(1:Int)>0:=by decide
 have a:∀(v:Int) (d:Nat),max 0 (min (if v<0 then v+(n:Int) else v) (n:Int))=((HT.sIx n d (some v):Nat):Int):=by
  intro v d
  show _=(((if v<0 then (v+(n:Int)).toNat else min v.toNat n):Nat):Int)
  by_cases hv:v<0
  .simp only[if_pos hv];lia
  .simp only[if_neg hv];lia
 have key:∀(p q:Nat),sliceRange (p:Int) (q:Int) 1=(Zg1 (q - p)).map (p + ·):=by
  intro p q
  unfold sliceRange
  simp only[h1,if_true]
  have e:(if (p:Int)<(q:Int) then ((q:Int) - p+1 - 1) / 1 else 0).toNat=q - p:=by
   split <;> lia
  rw[e]
  refine Zri fun k _=>?_
  lia
 unfold strSliceIndices
 simp only[h1,if_true]
 cases lo with
 | none =>
  cases hi with
  | none=>exact key 0 n
  | some v=>dsimp only;rw[a v n];exact key 0 _
 | some u =>
  cases hi with
  | none=>dsimp only;rw[a u 0];exact key _ n
  | some v=>dsimp only;rw[a u 0,a v n];exact key _ _
theorem zs1(n:Nat)(o:Option Int):HT.sIx n n o<=n:=HT.sIx_le n n (Zgf _) o
theorem zuu(x:List Nat)(lo hi:Option Int):Zq2 (T x) lo hi=T (cutL x lo hi):=by
 have hlen:(T x).length=x.length:=zbm x
 have hle:=zs1 x.length hi
 have e:(strSliceIndices lo hi 1 (T x).length).filterMap ((T x).cps[·]?)=cutL x lo hi:=by
  rw[zgs,hlen]
  unfold cutL
  generalize hp:HT.sIx x.length 0 lo=p
  generalize HT.sIx x.length x.length hi=q at hle ⊢
  by_cases hpq:p<=q
  .have:=StrLaws.picks x (q - p) p (by lia)
   rw[<- this]
   simp[T]
  .have:q - p=0:=by lia
   rw[this];simp
 unfold Zq2
 split
 .rename_i h
  have h2:(strSliceIndices lo hi 1 (T x).length).length=(T x).length:=by
   simp only[Zgv,beq_iff_eq] at h;exact h.2
  rw[zgs,hlen,Zge,Zmd] at h2
  have h3:HT.sIx x.length 0 lo<=x.length:=HT.sIx_le _ 0 (Zhg _) lo
  unfold cutL
  by_cases hx:x.length=0
  .have:x=[]:=Zk8 hx
   subst this;simp
  .have e1:HT.sIx x.length 0 lo=0:=by lia
   have e2:HT.sIx x.length x.length hi=x.length:=by lia
   rw[e1,e2];simp
 .rw[e];rfl
section
variable{X:Cx}
theorem zhr:∀(l:List (Str×Tok)),Vals ((l.map (·.1)).map V.str) (Zwh l)
 | []=>.nil
 | p::r=>.cons ⟨p.2,rfl⟩ (zhr r)
theorem zik:∀{ys:List Str} {us:List Zf9},Vals (ys.map V.str) us->StrsAre us ys
 | [],_,h=>by cases h;exact .nil
 | y::r,_,h=>by
  cases h with
  | cons a b =>
   obtain⟨t,rfl⟩:=a
   exact .cons y t (zik b)
noncomputable def zxe:V->List V->Hp->VK->Prop:=fun x vs H Q=>∃z y,x= .str z/\vs=[.str y]/\(y.length == 0)=false/\z.length+2<=sizeLine /\ ∀p,H p=none->Q (.ref p) (upd H p (.lst ((Zn6 z y).map V.str)))
theorem zt7(x y:Str):(Zn6 x y).length<=x.length+2:=by
 unfold Zn6
 split
 .simp
 .split
  .simp
  .rw[Ztm]
   have:=Zp6 x y 0 x.length (x.length+1)
   lia
theorem zj8:MtR X "str.split" zxe:=by
 intro pins s U H x xs v us Q I rx rs h
 obtain⟨z,y,rfl,rfl,hy,hz,q⟩:=h
 obtain⟨t,rfl⟩:=rx
 obtain⟨u,rfl,ru⟩:=Vals.one rs
 obtain⟨u,rfl⟩:=ru
 have hlen:=zt7 z y
 have fin:∀(l:List (Str×Tok)) (k:Nat),l.map (·.1)=Zn6 z y ->
   EP X pins U Q (.ref s.heap.objs.size) { s with heap:=s.heap.push { cls:=.type "list", data:=.seq (Zwh l).toArray },toks:=k }:=fun l k e=>by
  have v1:=zhr l
  rw[e] at v1
  exact⟨.ref s.heap.objs.size,_,I.lnew v1 (by rw[Zge];lia),rfl,q _ I.fresh⟩
 have hn:(partsBetween z (occurrences z y 0 z.length (z.length+1)) y.length).length<=sizeLine:=by
  have e1:=Zp6 z y 0 z.length (z.length+1)
  rw[Ztm];lia
 cases h1:(decide (z.length<y.length)||decide (strKind z<strKind y))
 .cases hf:(occurrences z y 0 z.length (z.length+1)).isEmpty
  .refine Zmq Zip (Zi3 _ _ _) Zkd (Zop _ _) (meets_str_split_sep z y t u h1 hy hf (by lia) hn) ?_
   show wants (EP X pins U Q) X.xe _ { s with toks:=_,heap:=s.heap.push { cls:=.type "list", data:=.seq (strsFrom s.toks (partsBetween z (occurrences z y 0 z.length (z.length+1)) y.length)).toArray } }
   rw[strsFrom_eq]
   exact fin (numbered s.toks _) _ ((Zw2 _ _).trans ((if_neg (ne_true_of_eq_false h1)).trans (if_neg (ne_true_of_eq_false hf))).symm)
  .exact Zmq Zip (Zi3 _ _ _) Zkd (Zop _ _) (meets_str_split_not_found z y t u h1 hy hf)
    (fin [(z,t)] s.toks ((if_neg (ne_true_of_eq_false h1)).trans (if_pos hf)).symm)
 .exact Zmq Zip (Zi3 _ _ _) Zkd (Zop _ _) (meets_str_split_cannot_occur z y t u h1)
   (fin [(z,t)] s.toks (if_pos h1).symm)
noncomputable def zzt(K:Zf6):V->List V->Hp->VK->Prop:=fun x vs H Q=>∃z p ys,x= .str z/\vs=[.ref p]/\SqL K H p (ys.map V.str)/\(ys.map (·.length)).sum+ys.length*z.length<=16777216/\Q (.str (Zpa z ys)) H
theorem zib:MtR X "str.join" (zzt X.K):=by
 intro pins s U H x xs v us Q I rx rs h
 obtain⟨z,p,ys,rfl,rfl,hl,hz,q⟩:=h
 obtain⟨t,rfl⟩:=rx
 obtain⟨u,rfl,ru⟩:=Vals.one rs
 cases ru
 obtain⟨its,r,pl,_⟩:=I.list hl
 refine join_list pl.isList (ys:=ys) (by simpa using zik r) hz fun t' k=>⟨.str _,H,I.tok _,⟨_,by show _=Znq (Zpa z ys) t';rw[<- Zp7];rfl⟩,q⟩
noncomputable def ybj:V->List V->Hp->VK->Prop:=fun x vs H Q=>∃z y,x= .str z/\vs=[.str y]/\Q (.int (Zo9 z y)) H
theorem zsw:MtR X "str.find" ybj:=by
 intro pins s U H x xs v us Q I rx rs h
 obtain⟨z,y,rfl,rfl,q⟩:=h
 obtain⟨t,rfl⟩:=rx
 obtain⟨u,rfl,ru⟩:=Vals.one rs
 obtain⟨u,rfl⟩:=ru
 exact SC.find ⟨.int _,H,I.tok _,⟨_,rfl⟩,q⟩
noncomputable def rSlS:V->Option Int->Option Int->Hp->VK->Prop:=fun x lo hi H Q=>∃l,x= .str (T l)/\l.length<=sizeLine/\Q (.str (T (cutL l lo hi))) H
theorem zxf:SlR X rSlS:=by
 intro pins s U H x v vl vu lo hi sl Q I rx hs pl pu h
 obtain⟨l,rfl,hz,q⟩:=h
 obtain⟨t,rfl⟩:=rx
 refine⟨"str", _,F.slot_str_getitem.lookup,Zi3 _ _ _,?_⟩
 have hz':(T l).length<=sizeLine:=by rw[zbm];exact hz
 have fin:(Zq2 (T l) lo hi).length<=sizeLine /\ ∀t' k,EP X pins U Q (.str (Zq2 (T l) lo hi) t') { s with toks:=k } :=
  ⟨Zim (Txt.slice_le _ _ _) hz',fun t' k=>⟨.str _,H,I.tok _,⟨_,by rw[zuu]⟩,q⟩⟩
 obtain⟨o,ho,hc,hd⟩:=hs
 cases pl with
 | none =>
  cases pu with
  | none=>exact Zk0 (l:=none) (u:=none) (st:=none) ⟨o,ho,hc,hd⟩ rfl (Znl fin)
  | int j uj=>exact Zk0 (l:=none) (u:=some (j,uj)) (st:=none) ⟨o,ho,hc,hd⟩ rfl (Znl fin)
 | int i ui =>
  cases pu with
  | none=>exact Zk0 (l:=some (i,ui)) (u:=none) (st:=none) ⟨o,ho,hc,hd⟩ rfl (Znl fin)
  | int j uj=>exact Zk0 (l:=some (i,ui)) (u:=some (j,uj)) (st:=none) ⟨o,ho,hc,hd⟩ rfl (Znl fin)
end
noncomputable def Its(x:Str):It:=⟨fun i _=>i<x.cps.toList.length,fun i H v H'=>H'=H /\ ∃c,x.cps.toList[i]? = some c/\v= .str (T [c]),fun i _=>x.cps.toList.length<=i⟩
theorem zmn{P:Zgy}{w:Zhn}{K:Zf6}{tg:Expr}{it:Addr}{n:Nat}{R:Nat->Zf9->Prop}{St:Nat->Heap->Prop}{J:It}
  (W:∀A':Zhe,A'.handled=none->Ztq P w A' it [it] [it] n R St) (hself:∀(A':Zhe) (i:Nat) (s:Zgc) (Q:Zf9->Zgc->Prop) (E:Zf9->Zgc->Prop),St i s.heap->Q (.ref it) s->Zgr (Zg9 P w) A' (Zt7 (.ref it)) Q E s) (ho:∀i h,St i h-> ∃o T vs,h.get? it=some o/\o.cls= .type T/\o.data= .fields vs/\["enumerate", "zip", "dict_itemiterator", "dict_reverseitemiterator", "odict_iterator", "itertools.zip_longest", "itertools.pairwise"].contains T=false)
  (hgo:∀i H,J.go i H->i<n) (hst:∀i H,J.stop i H->n<=i) (hy:∀i v H,i<n->R i v-> ∃x,RelV x v/\J.yld i H x H):Turn P w K tg J [it] it (fun i h=>i<=n/\St i h) where
 mem:=by simp
 obj:=fun i h st b hb=>by
  have e:b=it:=by simpa using hb
  subst e
  obtain⟨o,T,vs,e,c,d,_⟩:=ho i h st.2
  exact⟨o,e,fun v z=>by rw[d] at z;cases z⟩
 keep:=fun i h h' st k=>⟨st.1,by
  have W0:=W ({}:Zhe) rfl
  exact W0.frame i h h' st.2 fun b hb o e=>k b hb o e⟩
 item:=by
  intro X hP hw hK hc i pins s U H E I hf st hg
  subst hP hw hK
  obtain⟨f0,f1,f2,f3,f4,f5⟩:=hf it (by simp)
  have hi:=hgo i H hg
  refine(W X.A (I.ok.hd hc)).item i s _ _ hi st.2 fun v h' tk hv st' kk=>?_
  obtain⟨x,rx,yx⟩:=hy i v H hi hv
  have I1:Inv X pins U H { s with heap:=h',toks:=tk }:=I.turned (fun b o hb e=>kk b o (by simpa using hb) e) f0 f1 f3 f4 f5
  obtain⟨o,T,vs,e,c,d,nz⟩:=ho _ _ st'
  exact⟨v,rfl,yai (s:={ s with heap:=h',toks:=tk }) (n:=T) e c d nz ⟨x,H,I1,rx,yx,⟨hi,st'⟩,fun b hb=>(hf b hb).1⟩⟩
 done:=by
  intro X hP hw hK hc i pins s U H E I hf st hg
  subst hP hw hK
  obtain⟨f0,f1,f2,f3,f4,f5⟩:=hf it (by simp)
  have e:i=n:=Nat.le_antisymm st.1 (hst i H hg)
  subst e
  exact(W X.A (I.ok.hd hc)).done s _ _ st.2 fun h' tk kk=>⟨rfl,I.turned (fun b o hb e=>kk b o (by simpa using hb) e) f0 f1 f3 f4 f5⟩
 self:=fun A i s Q E st h=>hself A i s Q E st.2 h
section
variable{X:Cx}{tg:Expr}
noncomputable def iStr(tl:TE):TI:=fun U H R=>tl U H fun x H1=>∃z,x= .str z/\R (Its z) H1
theorem zon{l:Expr}{tl:TE}(hl:PE X l tl):PI X tg l (iStr tl):=by
 intro pins s U H R I h
 refine thn (hl pins s U H _ I h) fun v s1 hz9=>?_
 obtain⟨x,H1,I1,r1,q1⟩:=hz9
 obtain⟨z,e,q⟩:=q1
 subst e
 obtain⟨t,rfl⟩:=r1
 have fin:∀(o:Obj) (St:Nat->Heap->Prop),Turn X.prog X.w X.K tg (Its z) [s1.heap.objs.size] s1.heap.objs.size (fun i h=>i<=z.cps.size/\St i h)->St 0 (s1.heap.push o) ->
   PIE X pins U tg R (.ref s1.heap.objs.size) { s1 with heap:=s1.heap.push o }:=fun o St Tn st=>by
  refine⟨s1.heap.objs.size,[s1.heap.objs.size],_,_,H1,rfl,I1.kept (t':=s1.toks) fun b o e=>Zga _ e,Tn,⟨Zhg _,st⟩,fun b hb=>?_,q⟩
  have e:b=s1.heap.objs.size:=by simpa using hb
  subst e
  exact I1.fpOk (Zgf _) (I1.hok.fresh (Zgf _))
 have hgo:∀i H,(Its z).go i H->i<z.cps.size:=fun i _ h=>by simpa[Its] using h
 have hst:∀i H,(Its z).stop i H->z.cps.size<=i:=fun i _ h=>by simpa[Its] using h
 have hy:∀i v H,i<z.cps.size->SignAt z i v-> ∃x,RelV x v/\(Its z).yld i H x H:=fun i v H hi ⟨c,u,hc,e⟩=>by
  subst e
  exact⟨.str (T [c]),⟨u,rfl⟩,rfl,c,by simpa using hc,rfl⟩
 cases ha:z.cps.all (· < 128)
 .refine wpAny_pyIter_wide ha (fin _ _ (zmn (n:=z.cps.size) (R:=SignAt z) (St:=fun i h=>h.IsStrIter s1.heap.objs.size "str_iterator" z t i) (fun A' hA=>Walks.strWide hA _ z t) (fun _ _ _ _ _ st q=>wpAny_pyIter_striter_wide st q) (fun i h st=>?_) hgo hst hy) ⟨_,Zgj _ rfl,rfl,rfl⟩)
  obtain⟨o,e,c,d⟩:=st
  exact⟨o,_,_,e,c,d,by decide⟩
 .refine wpAny_pyIter_ascii ha (fin _ _ (zmn (n:=z.cps.size) (R:=SignAt z) (St:=fun i h=>h.IsStrIter s1.heap.objs.size "str_ascii_iterator" z t i) (fun A' hA=>Walks.strAscii hA _ z t) (fun _ _ _ _ _ st q=>wpAny_pyIter_striter_ascii st q) (fun i h st=>?_) hgo hst hy) ⟨_,Zgj _ rfl,rfl,rfl⟩)
  obtain⟨o,e,c,d⟩:=st
  exact⟨o,_,_,e,c,d,by decide⟩
end
end L2
namespace L2
open PySem PySem.Spec PyProof.Rows
noncomputable def clos(cells:List (Str×Addr)):List (Str×Zhk)->List (Str×Addr)->List (Str×Addr)
 | [],acc=>acc
 | (n,k)::r,acc=>if k == .free then (match cells.lookup n with | some c=>clos cells r ((n,c)::acc) | none=>clos cells r acc) else clos cells r acc
theorem zhb{cells:List (Str×Addr)}:∀(names:List (Str×Zhk)) (acc:List (Str×Addr)),(∀x c,acc.lookup x=some c->cells.lookup x=some c)-> ∀x c,(clos cells names acc).lookup x=some c->cells.lookup x=some c
 | [],_,h=>h
 | (n,k)::r,acc,h=>by
  intro x c
  unfold clos
  split
  .cases e:cells.lookup n with
   | none=>exact zhb r acc h x c
   | some d =>
    refine zhb r _ (fun y z hy=>?_) x c
    rw[Zh8] at hy
    cases q:y == n with
    | true =>
     rw[q] at hy
     have:y=n:=by simpa using q
     subst this
     simpa[e] using hy
    | false=>rw[q] at hy;exact h y z hy
  .exact zhb r acc h x c
theorem zhn{cells:List (Str×Addr)}:∀(names:List (Str×Zhk)) (acc:List (Str×Addr)) (x:Str),(acc.lookup x).isSome=true->((clos cells names acc).lookup x).isSome=true
 | [],_,_,h=>h
 | (n,k)::r,acc,x,h=>by
  unfold clos
  split
  .cases e:cells.lookup n with
   | none=>exact zhn r acc x h
   | some d =>
    refine zhn r _ x ?_
    rw[Zh8]
    cases q:x == n with
    | true=>rfl
    | false=>exact h
  .exact zhn r acc x h
theorem zhj{cells:List (Str×Addr)}:∀(names:List (Str×Zhk)) (acc:List (Str×Addr)) (x:Str),(x,Zhi)∈names->(cells.lookup x).isSome=true->((clos cells names acc).lookup x).isSome=true
 | (n,k)::r,acc,x,hm,hs=>by
  unfold clos
  rcases Zgh.mp hm with e | hm
  .cases e
   simp only[beq_self_eq_true,if_true]
   obtain⟨c,hc⟩:=Zjm.mp hs
   rw[hc]
   refine zhn r _ _ ?_
   simp[Zh8]
  .split
   .cases e:cells.lookup n with
    | none=>exact zhj r acc x hm hs
    | some d=>exact zhj r _ x hm hs
   .exact zhj r acc x hm hs
theorem zpv{scope:Scope}{env:Env}(h:∀x,(x,Zhi)∈scope.names->(env.cells.lookup x).isSome=true):closureFor scope env=pure (clos env.cells scope.names []):=by
 have gen:∀(names:List (Str×Zhk)) (acc:List (Str×Addr)),(∀x,(x,Zhi)∈names->(env.cells.lookup x).isSome=true) ->
   (Zto names acc (fun(p:Str×Zhk) (r:List (Str×Addr))=>(if p.2 == Zhi then (do let c <- cellOf env p.1;pure (Zki ((p.1,c)::r))) else pure (Zki r):Sem (ForInStep (List (Str×Addr))))))=pure (clos env.cells names acc):=by
  intro names
  induction names with
  | nil=>intro acc _;rfl
  | cons p r ih =>
   obtain⟨n,k⟩:=p
   intro acc hh
   rw[Zlo]
   unfold clos
   cases hk:k == Zhi with
   | false =>
    simp only[hk,Zgo,if_false]
    exact ih acc fun x hx=>hh x (Zgi _ hx)
   | true =>
    have hk':k= .free:=by simpa using hk
    subst hk'
    obtain⟨c,hc⟩:=Zjm.mp (hh n Zgz)
    have e:cellOf env n=pure c:=by unfold cellOf;rw[hc]
    simp only[beq_self_eq_true,if_true,e,hc]
    exact ih _ fun x hx=>hh x (Zgi _ hx)
 exact(congrArg (fun(m:Sem (List (Str×Addr)))=>m >>= fun cs=>pure cs) (gen scope.names [] h)).trans rfl
noncomputable def lcS(nt:Nat)(cs:List Nat)(U:St):St:=Zh1 nt none++cs.map fun i=>(U[i]?).getD none
noncomputable def lcCx(X:Cx)(N':List Str)(scope:Scope)(s:Zgc)(H:Hp)(C:Addr)(fp:List Addr):Cx :=
 { X with N:=N',s₀:=s,Hz:=H,env:=Zxr scope (clos X.env.cells scope.names []) C X.env,outer:=X.stack,stack:=X.stack,ex:=fp,fn:=fun _=>false,pn:=[],xe:=fun _ _=>False }
noncomputable def lcOk(Nx:List Str)(sc scope:Scope)(N':List Str)(nt:Nat)(cs:List Nat):Bool :=
 decide (scope.kind= .function)&&(scope.names.all fun p=>match p.2 with
  | .cell=>false
  | .local=>decide (scope.names.lookup p.1=some .local)
  | .free=>decide (sc.names.lookup p.1=some .cell)||decide (sc.names.lookup p.1=some .free)
  | _=>true)&&decide (N'.length=nt+cs.length)&&(((N'.drop nt).zip cs).all fun p=>decide (Nx[p.2]? = some p.1)&&decide (scope.names.lookup p.1=some .free)&&(decide (sc.names.lookup p.1=some .cell)||decide (sc.names.lookup p.1=some .free)))
structure LcOk(X:Cx)(scope:Scope)(N':List Str)(nt:Nat)(cs:List Nat):Prop where
 kind:scope.kind= .function
 nocell:∀y∈scope.names,y.2 ≠ .cell
 loc:∀y∈scope.names,y.2= .local->scope.names.lookup y.1=some .local
 fr:∀x,(x,Zhi)∈scope.names->X.env.kindOf x=some .cell\/X.env.kindOf x=some .free
 len:N'.length=nt+cs.length
 cap:∀j i,cs[j]? = some i-> ∃x,N'[nt+j]? = some x/\X.N[i]? = some x/\scope.names.lookup x=some .free/\Vis X.env.scope x/\X.env.kindOf x≠some .local
theorem LcOk.of{X:Cx}{scope:Scope}{N':List Str}{nt:Nat}{cs:List Nat}{Nx:List Str}{sc:Scope}(hN:X.N=Nx)(hs:X.env.scope=sc)(h:lcOk Nx sc scope N' nt cs=true):LcOk X scope N' nt cs:=by
 subst hN hs
 unfold lcOk at h
 simp only[Zgv,decide_eq_true_eq,Zif] at h
 obtain⟨⟨⟨h1,h2⟩,h3⟩,h4⟩:=h
 refine⟨h1,fun y hy e=>?_,fun y hy e=>?_,fun x hx=>?_,h3,fun j i e=>?_⟩
 .have:=h2 y hy;rw[e] at this;exact Zg0 this
 .have:=h2 y hy;rw[e] at this;exact of_decide_eq_true this
 .have:=h2 _ hx
  simp only[Zpe,decide_eq_true_eq] at this
  exact this
 .have hj:j<cs.length:=(Zgg.mp e).1
  have hd:(N'.drop nt).length=cs.length:=by rw[Zkh,h3];lia
  have hx:(N'.drop nt)[j]? = some ((N'.drop nt)[j]'(by lia)):=by simp[hd,hj]
  generalize (N'.drop nt)[j]'(by lia)=x at hx
  have hz:(x,i)∈(N'.drop nt).zip cs:=by
   refine Zgm (i:=j) ?_
   rw[Zpz]
   exact⟨hx,e⟩
  have q:=h4 _ hz
  simp only[Zgv,Zpe,decide_eq_true_eq] at q
  refine⟨x,by rw[Znz] at hx;exact hx,q.1.1,q.1.2,?_,fun z=>?_⟩
  .exact q.2.elim (fun z=>.inr (.inl z)) fun z=>.inr (.inr z)
  .have z':X.env.scope.names.lookup x=some .local:=z
   rcases q.2 with y | y <;> · rw[z'] at y;cases y
theorem zgu{env:Env}:∀{names:List (Str×Zhk)} {x:Str},names.lookup x=some .free ->
  (names.map fun(n,k)=>if (k == Zhi&&env.scope.kind == .function&&env.kindOf n == some .cell) then (n,Zkk) else (n,k)).lookup x=some .cell \/
  (names.map fun(n,k)=>if (k == Zhi&&env.scope.kind == .function&&env.kindOf n == some .cell) then (n,Zkk) else (n,k)).lookup x=some .free
 | [],_,h=>by simp at h
 | (n,k)::r,x,h=>by
  have ih:=@zgu env r x
  show Zi8 x ((if (k == Zhi&&env.scope.kind == .function&&env.kindOf n == some .cell)=true then (n,Zkk) else (n,k))::_)=_\/Zi8 x ((if (k == Zhi&&env.scope.kind == .function&&env.kindOf n == some .cell)=true then (n,Zkk) else (n,k))::_)=_
  cases hx:x == n with
  | true =>
   simp only[Zh8,hx] at h
   cases h
   by_cases hc:(Zhi == Zhi&&env.scope.kind == .function&&env.kindOf n == some .cell)=true
   .rw[if_pos hc];left;simp only[Zh8,hx]
   .rw[if_neg hc];right;simp only[Zh8,hx]
  | false =>
   simp only[Zh8,hx] at h
   by_cases hc:(k == Zhi&&env.scope.kind == .function&&env.kindOf n == some .cell)=true
   .rw[if_pos hc];simp only[Zh8,hx];exact ih h
   .rw[if_neg hc];simp only[Zh8,hx];exact ih h
theorem zez{env:Env}:∀{names:List (Str×Zhk)} {x:Str} {q:Zhk},(∀y∈names,y.2 ≠ .cell)->(q= .cell\/q= .free) ->
  (names.map fun(n,k)=>if (k == Zhi&&env.scope.kind == .function&&env.kindOf n == some .cell) then (n,Zkk) else (n,k)).lookup x=some q->(x,Zhi)∈names
 | [],_,_,_,_,h=>by simp at h
 | (n,k)::r,x,q,hn,hq,h=>by
  have ih:=@zez env r x q (fun y hy=>hn y (Zgi _ hy)) hq
  have h':Zi8 x ((if (k == Zhi&&env.scope.kind == .function&&env.kindOf n == some .cell)=true then (n,Zkk) else (n,k))::(r.map fun(n,k)=>if (k == Zhi&&env.scope.kind == .function&&env.kindOf n == some .cell) then (n,Zkk) else (n,k)))=some q:=h
  cases hx:x == n with
  | true =>
   have e:x=n:=by simpa using hx
   subst e
   by_cases hc:(k == Zhi&&env.scope.kind == .function&&env.kindOf x == some .cell)=true
   .simp only[Zgv,beq_iff_eq] at hc
    rw[hc.1.1];exact Zgz
   .rw[if_neg hc] at h'
    simp only[Zh8,beq_self_eq_true] at h'
    cases h'
    rcases hq with rfl | rfl
    .exact absurd rfl (hn (x,.cell) Zgz)
    .exact Zgz
  | false =>
   refine Zgi _ (ih ?_)
   by_cases hc:(k == Zhi&&env.scope.kind == .function&&env.kindOf n == some .cell)=true
   .rw[if_pos hc] at h';simp only[Zh8,hx] at h';exact h'
   .rw[if_neg hc] at h';simp only[Zh8,hx] at h';exact h'
section
variable{X:Cx}{pins:List (Addr×Obj)}{U:St}{H:Hp}{s s':Zgc}{scope:Scope}{N':List Str}{nt:Nat}{cs:List Nat}{C:Addr}{fp:List Addr}{h':Heap}{t':Nat}
theorem zwx(I:Inv X pins U H s)(L:LcOk X scope N' nt cs)(hf:∀b∈fp,FpOk X pins H b)(hC:s.heap.objs.size<=C)(k:∀b u,s.heap.get? b=some u->h'.get? b=some u)(hns:h'.Ns C fun _=>none)(fpo:∀b∈fp,b<s.heap.objs.size) :
  Inv (lcCx X N' scope s H C fp) [] (lcS nt cs U) H { s with heap:=h',toks:=t' }:=by
 have hfree:H C=none:=I.hok.fresh hC
 have csub:∀x c,(clos X.env.cells scope.names []).lookup x=some c->X.env.cells.lookup x=some c:=zhb _ _ fun x c h=>by simp at h
 have chas:∀x,(x,Zhi)∈scope.names->((clos X.env.cells scope.names []).lookup x).isSome=true:=fun x hx=>by
  refine zhj _ _ x hx ?_
  obtain⟨c,e⟩:=I.ok.has x (L.fr x hx)
  rw[e];rfl
 have I4:Inv X pins U H { s with heap:=h',toks:=t' }:=I.kept k
 refine⟨⟨I.ok.mod,L.kind,I.ok.glob,I.ok.blt,hC,fun x y c h1 h2=>I.ok.inj x y c (csub x c h1) (csub y c h2),fun x hx=>?_,fun x c hx=>(nomatch hx),I.ok.hd,I.ok.frames,.inl rfl,fun b hb=>⟨?_,fun x c e=>?_⟩,I.bs,Zim I.ok.bsz I.sz,fun b o e hb=>?_,fun b hb=>?_,I.stack,I.stkFree⟩,
  rfl,I.bare,Un.kept k,⟨_,hns,fun i x v e1 e2 e3=>?_⟩,fun x c e=>?_,hfree,fun x c e=>I.freeC x c (csub x c e),fun p hp=>absurd (show p∈([]:List (Addr×Obj)) from hp) (by simp),I4.hok,?_⟩
 .have hx':(x,Zhi)∈scope.names:=by
   rcases hx with hx | hx
   .exact zez (env:=X.env) L.nocell (.inl rfl) hx
   .exact zez (env:=X.env) L.nocell (.inr rfl) hx
  exact Zjm.mp (chas x hx')
 .exact Zgu (Zgw (fpo b hb) hC)
 .exact(hf b hb).2.2.2.2.1 x c (csub x c e)
 .obtain⟨f0,f1,f2,f3,_⟩:=hf b hb
  rcases f3 with z | z
  .exact I.ok.noex b o e z
  .exact absurd (Zgw (Zgk e) (Zim I.ok.bsz z)) (Zhu _)
 .obtain⟨f0,f1,f2,f3,_⟩:=hf b hb
  intro z
  rcases Zgh.mp (I.stkSub b z) with q | q
  .exact f1 q
  .exact f2 q
 ·-- a captured name
  have e2':(lcS nt cs U)[i]? = some (some v):=e2
  unfold lcS at e2'
  by_cases hi:i<nt
  .rw[Zie (by simpa using hi),Zkn] at e2'
   split at e2' <;> cases e2'
  .rw[Zio (by simpa using hi),Zir,Zgl] at e2'
   cases ej:cs[i - nt]? with
   | none=>rw[ej] at e2';cases e2'
   | some j =>
    rw[ej] at e2'
    have e2'':(U[j]?).getD none=some v:=Zhz e2'
    have hσ:U[j]? = some (some v):=by
     cases q:U[j]? with
     | none=>rw[q] at e2'';cases e2''
     | some z=>rw[q] at e2'';exact congrArg some e2''
    obtain⟨y,y1,y2,y3,y4,y5⟩:=L.cap _ _ ej
    have hxy:x=y:=by
     have e1':N'[i]? = some x:=e1
     rw[show nt+(i - nt)=i by lia,e1'] at y1
     exact Zhz y1
    subst hxy
    obtain⟨m,hn,hl⟩:=I4.loc
    obtain⟨u,r,l⟩:=hl j x v y2 hσ y4
    refine⟨u,r,.inr ⟨zgu (env:=X.env) y3,?_⟩⟩
    rcases l with ⟨l,_⟩ | ⟨_,c,hc,hcell⟩
    .exact absurd l y5
    .refine⟨c,?_,hcell⟩
     obtain⟨d,hd⟩:=Zjm.mp (chas x (Zjt y3))
     have:=csub x d hd
     rw[hc] at this
     cases this
     exact hd
 .exact I4.cell x c (csub x c e)
 .show(lcS nt cs U).length=N'.length
  unfold lcS
  rw[L.len];simp
theorem zws{U2:St}{H2:Hp}(I:Inv X pins U H s)(hf:∀b∈fp,FpOk X pins H b)(J:Inv (lcCx X N' scope s H C fp) [] U2 H2 s'):Inv X pins U H2 s' :=
 I.call' (ch:=fp) J.os J.base J.hok J.bare fun b hb=>by
  obtain⟨f0,f1,f2,f3,f4,f5⟩:=hf b hb
  exact⟨f3,f1,f4,f5⟩
end
noncomputable def PIfs(X:Cx)(ifs:List Expr)(t:TT):Prop :=
 ∀(pins:List (Addr×Obj)) (s:Zgc) (U:St) (H:Hp) (Q:Bool->Hp->Prop),Inv X pins U H s->t U H Q ->
  Zgr (Zg9 X.prog X.w) X.A (Zto ifs true fun c r=>if r=true then do let ok <- isTrue c X.env (eval c X.env);pure (Zki ok) else pure (Zki r)) (TP X pins U Q) X.xe s
noncomputable def zqv:TT:=fun _ H Q=>Q true H
theorem zdz{X:Cx}:PIfs X [] zqv:=fun _ _ _ H _ I h=>wpAny_tests_nil ⟨H,I,h⟩
theorem zu5{X:Cx}{c:Expr}{t:TT}(h:PT X c t):PIfs X [c] t:=fun pins s U H Q I hq=>wpAny_tests_one (h pins s U H Q I hq)
noncomputable def LCG(nt:Nat)(cs:List Nat)(g:TG)(tt:TT)(te:TE)(U:St)(Q:VK)(J:It)(H1:Hp):Prop:=∀l,H1 l=none-> ∃W:Nat->Nat->Hp->Prop,(∃m,W 0 m (upd H1 l (.lst []))) /\ ∀i m H2,W i m H2 ->
 (J.stop i H2/\Q (.ref l) H2)\/(J.go i H2 /\ ∃N:Hp->Prop,(∀H',N H'-> ∃m',m'<m/\W (i+1) m' H') /\ ∀x H3,J.yld i H2 x H3->g x (lcS nt cs U) H3 fun U2 H4 =>
  (U2.length=nt+cs.length/\U2.drop nt=(lcS nt cs U).drop nt)/\tt U2 H4 fun b H5=>if b=true then te U2 H5 fun y H6=>∃xs,H6 l=some (.lst xs)/\xs.length<sizeLine/\N (upd H6 l (.lst (xs++[y]))) else N H5)
noncomputable def tLC(nt:Nat)(cs:List Nat)(wi:TI)(g:TG)(tt:TT)(te:TE):TE:=fun U H Q=>wi U H fun J H1=>LCG nt cs g tt te U Q J H1
theorem zyi {prog : Zgy} {w : Zhn} {A : Zhe} {R : Zuc -> Zgc -> Prop} {s : Zgc} {elt target iter : Expr} {ifs : List Expr} {scope : Scope} {pos : Pos} {it acc : Zf9} {env : Env} (I : Nat -> Zgc -> Prop)
  (turn:∀n s,I n s->Zgr (Zg9 prog w) A (Znk it) (fun r s₁=>match r with
   | none=>R (.ok .next) s₁
   | some v=>Zgr (Zg9 prog w) A (Znm target it v) (fun _ s₁'=>Zgr (Zg9 prog w) A (Zss target env v) (fun _ s₂ =>
     Zgr (Zg9 prog w) A (Zto ifs true fun c r=>if r=true then do let ok <- isTrue c env (eval c env);pure (Zki ok) else pure (Zki r)) (fun ok s₃ =>
      if ok=true then Zgr (Zg9 prog w) A (eval elt env) (fun x s₄ =>
       Zgr (Zg9 prog w) A (call (.builtin "list.append") [acc,x]) (fun _ s₅=>∃m,m<n/\I m s₅) (fun _ _=>False) s₄) (fun _ _=>False) s₃
      else ∃m,m<n/\I m s₃) (fun _ _=>False) s₂) (fun _ _=>False) s₁') (fun _ _=>False) s₁) (fun _ _=>False) s)
  (n:Nat) (h:I n s):Zm1 (Zg9 prog w) A (.compLoop (.ListComp elt [⟨target,iter,ifs,0⟩] scope pos) 0 it acc env) R s:=by
 refine codeAny_loop rfl I (fun n s hI=>?_) n h
 show Zgr _ A ((compTurn (.ListComp elt [⟨target,iter,ifs,0⟩] scope pos) 0 it acc env).onRaise (fun x=>do noteFrame x env;theTreesLotGoes x)) _ _ s
 refine wpAny_noted ?_
 rw[compTurn_list]
 refine Zf5 (Zmz (Zf5 (Ziv (turn n s hI) (fun r s₁ h₁=>?_) fun _ _ h'=>h'.elim)))
 cases r with
 | none=>exact Zgb h₁
 | some v =>
  refine Zf5 (Ziv h₁ (fun _ s₁' h₁'=>?_) fun _ _ h'=>h'.elim)
  refine Zf5 (Ziv h₁' (fun _ s₂ h₂=>Zf5 (Ziv h₂ (fun ok s₃ h₃=>?_) fun _ _ h'=>h'.elim)) fun _ _ h'=>h'.elim)
  cases ok with
  | false=>exact Zgb ⟨rfl,h₃⟩
  | true =>
   exact Zf5 (Zf5 (Ziv h₃ (fun x s₄ h₄=>Zf5 (Ziv h₄ (fun _ s₅ h₅=>Zgb (Zgb ⟨rfl,h₅⟩)) fun _ _ h'=>h'.elim)) fun _ _ h'=>h'.elim))
section
variable{X:Cx}{elt target iter:Expr}{ifs:List Expr}{scope:Scope}{pos:Pos}{N':List Str}{nt:Nat}{cs:List Nat}{wi:TI}{g:TG}{tt:TT}{te:TE}
theorem zrl{use:Option (Zf9->Sem Unit)}{QQ:Zf9->Zgc->Prop}{p2:Pos}(hc:X.calm=true)(L:LcOk X scope N' nt cs)(hi:PI X target iter wi)
  (hg:∀s H C fp,PG (lcCx X N' scope s H C fp) target g) (ht:∀s H C fp,PIfs (lcCx X N' scope s H C fp) ifs tt) (he:∀s H C fp,PE (lcCx X N' scope s H C fp) elt te)
  {pins:List (Addr×Obj)} {s:Zgc} {U:St} {H:Hp} {Q:VK} (I:Inv X pins U H s) (h:tLC nt cs wi g tt te U H Q)
  (fin:∀(l:Addr) (H':Hp) (s':Zgc) (C:Addr),Inv X pins U H' s'->FpOk X pins H' C->(∃m,s'.heap.Ns C m)->Q (.ref l) H'->compPost (Zg9 X.prog X.w) X.A X.xe use QQ (.ref l) C (.ok .next) s')
  (hs:∀x,Zmp iter X.env x=pure x:=by intro _;rfl) :
  Zgr (Zg9 X.prog X.w) X.A (Zxq (.ListComp elt [⟨target,iter,ifs,0⟩] scope pos) scope X.env p2 (newList []) false (eval iter X.env) use) QQ X.xe s:=by
 have hcl:closureFor scope X.env=pure (clos X.env.cells scope.names []):=zpv fun x hx=>by
  obtain⟨c,e⟩:=I.ok.has x (L.fr x hx)
  rw[e];rfl
 refine wpAny_comprehension_free (env:=X.env) rfl hs hcl L.kind L.loc (thn (hi pins s U H _ I h) fun v s1 h1=>thn h1 fun itv s2 h2=>?_)
 obtain⟨it,fp,tn,J,H1,e,I2,T,st2,f2,R⟩:=h2
 subst e
 refine Zik ?_
 have hv:Vals [] ([]:List Zf9):=.nil
 have I3:=I2.lnew (t':=s2.toks) hv (Zhg _)
 have hfr:H1 s2.heap.objs.size=none:=I2.fresh
 have ne3:∀b∈fp,b≠s2.heap.objs.size:=fun b hb z=>by
  obtain⟨o,e,_⟩:=T.obj _ _ st2 b hb
  have:=Zgk e
  rw[z] at this
  exact Zhu _ this
 have f3:∀b∈fp,FpOk X pins (upd H1 s2.heap.objs.size (.lst [])) b:=fun b hb=>⟨by rw[zak (ne3 b hb)];exact(f2 b hb).1,(f2 b hb).2⟩
 obtain⟨W,⟨m0,w0⟩,turn⟩:=R _ hfr
 refine wpAny_newFunctionEnv L.nocell (by intro y hy;simp at hy) (fun h4 hns hsb=>?_) L.kind
 dsimp only at hns hsb ⊢
 generalize hH3:s2.heap.push { cls:=.type "list", dict:=none,data:=.seq ([]:List Zf9).toArray }=h3 at hns hsb I3 ⊢
 have hsz3:h3.objs.size=s2.heap.objs.size+1:=by rw[<- hH3,Zg4]
 have up4:∀b u,h3.get? b=some u->h4.get? b=some u:=fun b u e=>hsb.extBut b u (Zgu (Zgk e)) (Zga _ e)
 have fpo:∀b∈fp,b<h3.objs.size:=fun b hb=>by
  obtain⟨o,e,_⟩:=T.obj _ _ st2 b hb
  exact Zgw (Zgk e) (by rw[hsz3];exact Zk3 _)
 have up3:∀b u,s2.heap.get? b=some u->h3.get? b=some u:=fun b u e=>hH3 ▸ Zga _ e
 have J4:Inv (lcCx X N' scope { s2 with heap:=h3 } (upd H1 s2.heap.objs.size (.lst [])) h3.objs.size fp) [] (lcS nt cs U) (upd H1 s2.heap.objs.size (.lst [])) { s2 with heap:=h4,toks:=s2.toks+([]:List (Str×Zf9)).length } :=
  zwx (t':=s2.toks+([]:List (Str×Zf9)).length) I3 L f3 (Zgf _) up4 (by simpa using hns) fpo
 have st4:tn 0 h4:=T.keep _ _ _ st2 fun b hb o e=>up4 b o (up3 b o e)
 generalize hs3:({ s2 with heap:=h3 }:Zgc)=s3 at I3 J4
 generalize hX':lcCx X N' scope s3 (upd H1 s2.heap.objs.size (.lst [])) h3.objs.size fp=X' at J4
 have hg':PG X' target g:=hX' ▸ hg _ _ _ _
 have ht':PIfs X' ifs tt:=hX' ▸ ht _ _ _ _
 have he':PE X' elt te:=hX' ▸ he _ _ _ _
 have stat:∀{H':Hp},(∀b∈fp,H' b=none)-> ∀b∈fp,FpOk X' [] H' b:=fun hn b hb=>by
  subst hX'
  refine⟨hn b hb,Zgu (fpo b hb),J4.ok.exfs b hb,.inl hb,(J4.ok.exf b hb).2,fun p hp=>absurd (show p∈([]:List (Addr×Obj)) from hp) (by simp)⟩
 have loop : Zm1 (Zg9 X.prog X.w) X.A (.compLoop (.ListComp elt [⟨target, iter, ifs, 0⟩] scope pos) 0 (.ref it) (.ref s2.heap.objs.size) (Zxr scope (clos X.env.cells scope.names []) h3.objs.size X.env))
   (compPost (Zg9 X.prog X.w) X.A X.xe use QQ (.ref s2.heap.objs.size) h3.objs.size) { s2 with heap:=h4,toks:=s2.toks+([]:List (Str×Zf9)).length }:=by
  have eA:X'.A=X.A:=by subst hX';rfl
  have eP:X'.prog=X.prog:=by subst hX';rfl
  have eW:X'.w=X.w:=by subst hX';rfl
  have eK:X'.K=X.K:=by subst hX';rfl
  have eC:X'.calm=true:=by subst hX';exact hc
  have eE:X'.env=Zxr scope (clos X.env.cells scope.names []) h3.objs.size X.env:=by subst hX';rfl
  have eX:X'.xe=fun _ _=>False:=by subst hX';rfl
  refine zyi (fun n s'=>∃i H',Inv X' [] (lcS nt cs U) H' s'/\tn i s'.heap/\(∀b∈fp,H' b=none)/\W i n H') ?_ m0 ⟨0,_,J4,st4,fun b hb=>(f3 b hb).1,w0⟩
  rintro n s5 ⟨i,H5,J5,st5,fr5,w5⟩
  rcases turn i n H5 w5 with ⟨stop,qn⟩ | ⟨go,N,hN,step⟩
  .have d:=T.done X' eP eW eK eC i [] s5 (lcS nt cs U) H5 (fun _ _=>False) J5 (stat fr5) st5 stop
   rw[eA] at d
   refine thn d fun r s6 hz9=>?_
   obtain⟨hr,J6⟩:=hz9
   subst hr
   have I6:Inv X pins U H5 s6:=by subst hX';subst hs3;exact zws I3 f3 J6
   refine fin _ H5 s6 h3.objs.size I6 ?_ ?_ qn
   .have hn:H5 h3.objs.size=none:=by subst hX';exact J6.free
    subst hs3
    exact I3.fpOk (Zgf _) hn
   .obtain⟨m,hm,_⟩:=J6.loc
    subst hX'
    exact⟨m,hm⟩
  .have d:=T.item X' eP eW eK eC i [] s5 (lcS nt cs U) H5 (fun _ _=>False) J5 (stat fr5) st5 go
   rw[eA] at d
   refine thn d fun r s6 hz9=>?_
   obtain⟨u,hr,h6⟩:=hz9
   subst hr
   refine thn h6 fun _ s7 hz9=>?_
   obtain⟨x,H7,J7,r7,y7,st7,fr7⟩:=hz9
   have J7':=J7.pinned (stat fr7) (T.obj _ _ st7)
   have a:=hg' _ s7 (lcS nt cs U) H7 x u _ J7' r7 (step x H7 y7)
   rw[eA,eP,eW,eE,eX] at a
   refine thn a fun _ s8 ⟨U8,H8,J8,⟨e8,d8⟩,q8⟩=>?_
   have b:=ht' _ s8 U8 H8 _ J8 q8
   rw[eA,eP,eW,eE,eX] at b
   have again:∀{s9:Zgc} {H9:Hp},Inv X' ([]++zk9 fp s7.heap) U8 H9 s9->N H9-> ∃m,m<n /\ ∃i H',Inv X' [] (lcS nt cs U) H' s9/\tn i s9.heap/\(∀b∈fp,H' b=none)/\W i m H':=fun {s9 H9} J9 n9=>by
    obtain⟨m',hm,w9⟩:=hN H9 n9
    refine⟨m',hm,i+1,H9,?_,T.keep _ _ _ st7 fun b hb o e=>(J9.pin (b,o) (Zhc _ (Zhc _ (ze5 hb e)))).1,fun b hb=>?_,w9⟩
    .refine J9.unpinned.weak ?_ fun j v ej=>?_
     .rw[e8];unfold lcS;simp
     .by_cases hj:j<nt
      .unfold lcS at ej
       rw[Zie (by simpa using hj),Zkn] at ej
       split at ej <;> cases ej
      .have z:=congrArg (fun l:St=>l[j - nt]?) d8
       simp only[Znz] at z
       rw[show nt+(j - nt)=j by omega] at z
       rw[z];exact ej
    .obtain⟨o,e,_⟩:=T.obj _ _ st7 b hb
     exact(J9.pin (b,o) (Zhc _ (Zhc _ (ze5 hb e)))).2.1
   refine thn b fun ok s9 hz9=>?_
   obtain⟨H9,J9,q9⟩:=hz9
   cases ok with
   | false =>
    rw[if_neg Zg0] at q9 ⊢
    exact again J9 q9
   | true =>
    rw[if_pos rfl] at q9 ⊢
    have c:=he' _ s9 U8 H9 _ J9 q9
    rw[eA,eP,eW,eE,eX] at c
    refine thn c fun y sA hz9=>?_
    obtain⟨vy,HA,JA,ry,xs,hl,hz,nA⟩:=hz9
    have ap:=zf6 (X:=X') _ sA U8 HA (.ref s2.heap.objs.size) [vy] (.ref s2.heap.objs.size) [y] (fun _ H'=>N H') JA rfl (.cons ry .nil) ⟨_,xs,vy,rfl,rfl,hl,hz,nA⟩
    rw[eA,eP,eW,eX] at ap
    refine thn ap fun _ sB hz9=>?_
    obtain⟨_,HB,JB,_,nB⟩:=hz9
    exact again JB nB
 exact codeAny_compStart_list loop (T.self X.A 0 _ _ _ st4 loop)
theorem zni(hc:X.calm=true)(L:LcOk X scope N' nt cs)(hi:PI X target iter wi)
  (hg:∀s H C fp,PG (lcCx X N' scope s H C fp) target g) (ht:∀s H C fp,PIfs (lcCx X N' scope s H C fp) ifs tt) (he:∀s H C fp,PE (lcCx X N' scope s H C fp) elt te)
  (hs:∀x,Zmp iter X.env x=pure x:=by intro _;rfl):PE X (.ListComp elt [⟨target,iter,ifs,0⟩] scope pos) (tLC nt cs wi g tt te):=by
 intro pins s U H Q I h
 rw[eval_ListComp]
 refine zrl (use:=none) hc L hi hg ht he I h (fun l H' s' C I' f ⟨m,hm⟩ q=>⟨m,hm,fun h' hs'=>?_⟩) hs
 obtain⟨f0,f1,f2,f3,f4,f5⟩:=f
 exact⟨.ref l,H',I'.turned (t':=s'.toks) (fun b o hb e=>hs'.extBut b o hb e) f0 f1 f3 f4 f5,rfl,q⟩
theorem zu1{i:Nat}{y:Str}{py spos:Pos}(hN:X.N.Nodup)(hy:X.N[i]? = some y)(hx:Loc X.env.scope y)(hc:X.calm=true)(L:LcOk X scope N' nt cs)(hi:PI X target iter wi)
  (hg:∀s H C fp,PG (lcCx X N' scope s H C fp) target g) (ht:∀s H C fp,PIfs (lcCx X N' scope s H C fp) ifs tt) (he:∀s H C fp,PE (lcCx X N' scope s H C fp) elt te)
  (hsw:Znj (.ListComp elt [⟨target,iter,ifs,0⟩] scope pos) (some (.Name y py)) spos.line X.env=pure true:=by rfl)
  (hs:∀x,Zmp iter X.env x=pure x:=by intro _;rfl) (hf:X.fn y=true\/X.env.scope.names.lookup y=some .local:=by first | exact .inl rfl | exact .inr rfl | assumption) :
  PS X (.Assign [.Name y py] (.ListComp elt [⟨target,iter,ifs,0⟩] scope pos) spos) (tAsg (tLC nt cs wi g tt te) (zh3 i)):=by
 intro pins s U H D I h
 rw[exec_Assign_Name_used _ _ _ _ hsw]
 refine Zf5 (Zmz (Zf5 ?_))
 show Zgr _ X.A (do let _ <- Zxq (.ListComp elt [⟨target,iter,ifs,0⟩] scope pos) scope X.env _ (newList []) false (eval iter X.env) (some (Zss (.Name y py) X.env))) _ _ s
 refine Zf5 (thn (zrl (QQ:=fun _ s'=>SP X pins D .next s') (use:=some (Zss (.Name y py) X.env)) hc L hi hg ht he I h (fun l H' s' C I' f hm q=>?_) hs) (fun _ s' hq=>Zgb (Zgb hq)))
 show Zgr _ X.A (Zss (.Name y py) X.env (.ref l)) _ _ _
 refine Zuq (zlc I' hN hy hx (v:=.ref l) rfl (fun s2 I2 hz9=>?_) hf)
 obtain⟨a,hsb,ha⟩:=hz9
 obtain⟨m,hm⟩:=hm
 obtain⟨f0,f1,f2,f3,f4,f5⟩:=f
 have hCa:C≠a:=by
  rcases ha with rfl | ha
  .exact f1
  .exact fun z=>f4 y a ha z.symm
 refine⟨m,hm.sameBut hsb hCa,fun h' hs'=>?_⟩
 exact⟨_,H',I2.turned (t':=s2.toks) (fun b o hb e=>hs'.extBut b o hb e) f0 f1 f3 f4 f5,q⟩
end
theorem SqL.same{K:Zf6}{H H':Hp}{a:Addr}{xs:List V}(e:Same H H')(h:SqL K H a xs):SqL K H' a xs:=e.seq h
theorem SqT.same{K:Zf6}{H H':Hp}{a:Addr}{xs:List V}(e:Same H H')(h:SqT K H a xs):SqT K H' a xs:=by
 rcases h with (h | ⟨o,h⟩) | h
 .exact .inl (.inl (e _ _ h))
 .exact .inl (.inr ⟨o,e _ _ h⟩)
 .exact .inr h
theorem Same.upd{H:Hp}{l:Addr}{o:HO}(h:H l=none):Same H (upd H l o):=fun b u e=>by rw[zak (zas e h)];exact e
end L2
namespace L2
open PySem
end L2
namespace L2
open PySem PySem.Spec PyProof.Rows
section
variable{X:Cx}{pins:List (Addr×Obj)}{U:St}{H:Hp}{s:Zgc}{h':Heap}{t':Nat}{wr:List Addr}
theorem Inv.turns(I:Inv X pins U H s)(hf:∀b∈wr,FpOk X pins H b)(k:∀b o,b∉wr->s.heap.get? b=some o->h'.get? b=some o):Inv X pins U H { s with heap:=h',toks:=t' }:=by
 have nw:∀b u,H b=some u->b∉wr:=fun b u e z=>by have:=(hf b z).1;rw[e] at this;cases this
 have nL:X.env.locals∉wr:=fun z=>(hf _ z).2.1 rfl
 refine I.step (g':=s.gens) (d':=s.drawn) (ch:=wr) (fun b hb=>?_) (fun b o _ _ hc e _=>k b o hc e) (fun b o _ _ hc e _=>⟨o.slots,k b o hc e⟩) (fun _ _ _ _ n=>n)
  (fun b o hc e=>⟨o,k b o hc e⟩) (fun _ _ e=>e) (fun _ _ _ e=>e) (fun b ps e=>⟨#[],by rw[e];simp⟩) (fun m hm=>?_) (fun b u e=>?_) I.bare
 .obtain⟨f0,f1,f2,f3,f4,f5⟩:=hf b hb
  exact⟨f3,f1,f4,f5⟩
 .obtain⟨o,es,ep,ho,r⟩:=hm
  exact⟨o,es,ep,k _ o nL ho,r⟩
 .refine(I.hok b u e).stay (fun c v hc q=>k c v ?_ q) (fun _ q=>q) fun _ _ q=>q
  rcases hc with z | z
  .rw[z];exact nw b u e
  .exact nw c _ z
theorem Inv.turnsT(I:Inv X pins U H s){T0:Addr}{vs:List V}{vals:Array Zf9}(hf:∀b∈wr,FpOk X pins H b)(k:∀b o,b∉wr->s.heap.get? b=some o->h'.get? b=some o)(hT:s.heap.objs.size<=T0)(ht:h'.IsTuple T0 vals)(hv:Vals vs vals.toList)
  (hz:vs.length<=sizeLine):Inv X pins U (upd H T0 (.tup vs)) { s with heap:=h',toks:=t' }:=by
 have nw:∀b u,H b=some u->b∉wr:=fun b u e z=>by have:=(hf b z).1;rw[e] at this;cases this
 have nL:X.env.locals∉wr:=fun z=>(hf _ z).2.1 rfl
 have fresh:H T0=none:=I.hok.fresh hT
 have ne:∀b o,s.heap.get? b=some o->b≠T0:=fun b o e=>Zgu (Zgw (Zgk e) hT)
 refine I.step (g':=s.gens) (d':=s.drawn) (ch:=wr) (fun b hb=>?_) (fun b o _ _ hc e _=>k b o hc e) (fun b o _ _ hc e _=>⟨o.slots,k b o hc e⟩) (fun b o _ e n=>by rw[zak (ne b o e)];exact n)
  (fun b o hc e=>⟨o,k b o hc e⟩) (fun b xs e=>by rw[zak (zas e fresh)];exact e) (fun b o u e=>by rw[zak (zas e fresh)];exact e) (fun b ps e=>⟨#[],by rw[zak (zas e fresh),e];simp⟩) (fun m hm=>?_) (fun b u e=>?_) I.bare
 .obtain⟨f0,f1,f2,f3,f4,f5⟩:=hf b hb
  exact⟨f3,f1,f4,f5⟩
 .obtain⟨o,es,ep,ho,r⟩:=hm
  exact⟨o,es,ep,k _ o nL ho,r⟩
 .by_cases hb:b=T0
  .subst hb
   rw[zan] at e
   cases e
   have ht2:h'.IsTuple b vals.toList.toArray:=by simpa using ht
   exact⟨hz,vals.toList,hv,ht2⟩
  .rw[zak hb] at e
   refine(I.hok b u e).stay (fun c v hc q=>k c v ?_ q) (fun c q=>by rw[zak (zas q fresh)];exact q) fun c xs q=>by rw[zak (zas q fresh)];exact q
   rcases hc with z | z
   .rw[z];exact nw b u e
   .exact nw c _ z
end
end L2
namespace L2
open PySem
end L2
namespace L2
open PySem PySem.Spec PyProof.Rows
structure ZipAp(z TI TO i1 i2:Addr)(fp1 fp2:List Addr):Prop where
 TIz:TI≠z
 TOz:TO≠z
 i1z:i1≠z
 i2z:i2≠z
 TITO:TI≠TO
 TIi1:TI≠i1
 TIi2:TI≠i2
 TOi1:TO≠i1
 TOi2:TO≠i2
 i12:i1≠i2
 m1:i1∈fp1
 m2:i2∈fp2
 f1:∀b∈fp1,b≠z/\b≠TO/\b≠i2
 f2:∀b∈fp2,b≠z/\b≠TO/\b≠i1
section
variable{prog:Zgy}{w:Zhn}{A:Zhe}{E:Zf9->Zgc->Prop}{s:Zgc}
theorem zi9{z TI TO i1 i2:Addr}{fp1 fp2:List Addr}{n1 n2 k:Nat}{P1 P2:Nat->Zf9->Prop}{S1 S2:Nat->Heap->Prop}{a b:Zf9}{Q:Zf9->Zgc->Prop}
  (D1:Zpq prog w A i1 fp1 n1 P1 S1) (D2:Zpq prog w A i2 fp2 n2 P2 S2) (D:ZipAp z TI TO i1 i2 fp1 fp2)
  (hz:Zpm s.heap z TI TO .none) (hTI:Zla s.heap TI (.ref i1) (.ref i2)) (hTO:Zla s.heap TO a b) (h1:S1 k s.heap) (h2:S2 k s.heap) (k1:k<n1) (k2:k<n2)
  (hQ:∀x y h' tk,P1 k x->P2 k y->Zpm h' z TI TO (Zjh s.heap.objs.size)->Zla h' TO x y->S1 (k+1) h'->S2 (k+1) h'->Zla h' s.heap.objs.size x y->h'.objs.size=s.heap.objs.size+1 ->
   (∀c o,c≠z->c≠TO->c≠i1->c≠i2->s.heap.get? c=some o->h'.get? c=some o)->Q (.ref s.heap.objs.size) { s with heap:=h',toks:=tk }) :
  Zgr (Zg9 prog w) A (Zhb.«zip.__next__» ⟨[.ref z],[]⟩) (fun fin s'=>∃v,fin= .done (.ret v)/\Q v s') E s:=by
 obtain⟨hp,g,dr,tk0,os⟩:=s
 show Zgr _ _ (Zuy (.ref z) 2 >>= _) _ _ _
 refine Zf5 (Zjr hz rfl (x:=.bool false) rfl ?_)
 show Zgr _ _ (Zuy (.ref z) 3 >>= _) _ _ _
 refine Zf5 (Zjr hz rfl (x:=.ref TI) rfl ?_)
 refine Zf5 (Zih hTI rfl ?_)
 show Zgr _ _ (Ziq (.ref z) >>= _) _ _ _
 refine Zf5 ?_
 unfold Ziq
 refine Zf5 (Zjr hz rfl (x:=.none) rfl (Zgb ?_))
 simp only[if_true]
 refine Zf5 (Znu ?_)
 refine Zf5 (Zjr hz rfl (x:=.ref TO) rfl ?_)
 refine Zf5 (Zj9 hz (by simp) fun h₁ hz₁ hs₁=>?_)
 replace hz₁:Zpm h₁ z TI TO .ellipsis:=hz₁
 replace hs₁:Zh2 z hp h₁:=hs₁
 refine Zf5 ?_
 simp only[Zsz,Zth,Zlo,Ztz]
 refine Zf5 (Zf5 (Zo1 ?_))
 show Zgr _ _ (Zhx (.ref i1) >>= _) _ _ _
 refine Zf5 (D1.item k _ _ _ k1 (D1.frame _ _ _ h1 fun c hc o e=>hs₁.extBut _ _ (D.f1 c hc).1 e) fun x h₂ tk1 px h1₂ hs₂=>Zgb ?_)
 replace hs₂:Zh2 i1 h₁ h₂:=hs₂
 have hTO₂:Zla h₂ TO a b:=hs₂.extBut _ _ D.TOi1 (hs₁.extBut _ _ D.TOz hTO)
 refine Zf5 (Zih hTO₂ rfl ?_)
 refine Zf5 (Zn3 hTO₂ fun h₃ hTO₃ hs₃=>?_)
 replace hTO₃:Zla h₃ TO x b:=hTO₃
 replace hs₃:Zh2 TO h₂ h₃:=hs₃
 refine Zf5 (Zqm (Zgb ?_))
 refine Zf5 (Zf5 (Zo1 ?_))
 show Zgr _ _ (Zhx (.ref i2) >>= _) _ _ _
 refine Zf5 (D2.item k _ _ _ k2 (D2.frame _ _ _ h2 fun c hc o e=>hs₃.extBut _ _ (D.f2 c hc).2.1 (hs₂.extBut _ _ (D.f2 c hc).2.2 (hs₁.extBut _ _ (D.f2 c hc).1 e))) fun y h₄ tk2 py h2₄ hs₄=>Zgb ?_)
 replace hs₄:Zh2 i2 h₃ h₄:=hs₄
 have hTO₄:Zla h₄ TO x b:=hs₄.extBut _ _ D.TOi2 hTO₃
 refine Zf5 (Zih hTO₄ rfl ?_)
 refine Zf5 (Zn3 hTO₄ fun h₅ hTO₅ hs₅=>?_)
 replace hTO₅:Zla h₅ TO x y:=hTO₅
 replace hs₅:Zh2 TO h₄ h₅:=hs₅
 refine Zf5 (Zqm (Zgb (Zgb ?_)))
 refine Zf5 (Zih hTO₅ rfl ?_)
 refine Zf5 (Zwx ?_)
 have hsz:h₅.objs.size=hp.objs.size:=by rw[hs₅.1,hs₄.1,hs₃.1,hs₂.1,hs₁.1]
 have hz₅:Zpm h₅ z TI TO .ellipsis:=hs₅.extBut _ _ D.TOz.symm (hs₄.extBut _ _ D.i2z.symm (hs₃.extBut _ _ D.TOz.symm (hs₂.extBut _ _ D.i1z.symm hz₁)))
 have hk₅:∀c o,c≠z->c≠TO->c≠i1->c≠i2->hp.get? c=some o->h₅.get? c=some o:=fun c o c1 c2 c3 c4 e =>
  hs₅.extBut _ _ c2 (hs₄.extBut _ _ c4 (hs₃.extBut _ _ c2 (hs₂.extBut _ _ c3 (hs₁.extBut _ _ c1 e))))
 have h1₅:S1 (k+1) h₅:=D1.frame _ _ _ h1₂ fun c hc o e=>hs₅.extBut _ _ (D.f1 c hc).2.1 (hs₄.extBut _ _ (D.f1 c hc).2.2 (hs₃.extBut _ _ (D.f1 c hc).2.1 e))
 have h2₅:S2 (k+1) h₅:=D2.frame _ _ _ h2₄ fun c hc o e=>hs₅.extBut _ _ (D.f2 c hc).2.1 e
 have hzlt:z<h₅.objs.size:=Zgk hz₅
 show Zgr _ _ (Zls (.ref z) (.ref h₅.objs.size) >>= _) _ _ _
 refine Zf5 ?_
 unfold Zls
 have hz₆:Zpm (h₅.push { cls:=.type "tuple", data:=.seq #[x,y] }) z TI TO .ellipsis:=Zga _ hz₅
 refine Zf5 (Zj9 hz₆ (by simp) fun h₇ hz₇ hs₇=>?_)
 replace hz₇:Zpm h₇ z TI TO (Zjh h₅.objs.size):=hz₇
 refine Zj9 hz₇ (by simp) fun h₈ hz₈ hs₈=>?_
 replace hz₈:Zpm h₈ z TI TO (Zjh h₅.objs.size):=hz₈
 have up:∀c o,c≠z->h₅.get? c=some o->h₈.get? c=some o:=fun c o c1 e=>hs₈.extBut _ _ c1 (hs₇.extBut _ _ c1 (Zga _ e))
 have hT₈:Zla h₈ h₅.objs.size x y:=hs₈.extBut _ _ (Zj7 hzlt) (hs₇.extBut _ _ (Zj7 hzlt) (Zgj _ rfl))
 have hz8:h₈.objs.size=h₅.objs.size+1:=by rw[hs₈.1,hs₇.1,Zg4]
 rw[hsz] at hz₈ hT₈ hz8
 refine Zgb ⟨_,rfl,?_⟩
 show Q (.ref h₅.objs.size) _
 rw[hsz]
 exact hQ x y h₈ _ px py hz₈ (up _ _ D.TOz hTO₅) (D1.frame _ _ _ h1₅ fun c hc o e=>up _ o (D.f1 c hc).1 e) (D2.frame _ _ _ h2₅ fun c hc o e=>up _ o (D.f2 c hc).1 e) hT₈ hz8 fun c o c1 c2 c3 c4 e=>up c o c1 (hk₅ c o c1 c2 c3 c4 e)
theorem zkx{z TI TO i1 i2:Addr}{fp1 fp2:List Addr}{n1 n2:Nat}{P1 P2:Nat->Zf9->Prop}{S1 S2:Nat->Heap->Prop}{a b:Zf9}{Q:Fin->Zgc->Prop}
  (D1:Zpq prog w A i1 fp1 n1 P1 S1) (D2:Zpq prog w A i2 fp2 n2 P2 S2) (D:ZipAp z TI TO i1 i2 fp1 fp2)
  (hz:Zpm s.heap z TI TO .none) (hTI:Zla s.heap TI (.ref i1) (.ref i2)) (hTO:Zla s.heap TO a b) (h1:S1 (min n1 n2) s.heap) (h2:S2 (min n1 n2) s.heap)
  (hE:∀h' e tk,(∀c o,c≠z->c≠TO->c≠i1->c≠i2->s.heap.get? c=some o->h'.get? c=some o)->(∃o,h'.get? e=some o/\o.cls= .type "StopIteration")->E (.ref e) { s with heap:=h',toks:=tk }) :
  Zgr (Zg9 prog w) A (Zhb.«zip.__next__» ⟨[.ref z],[]⟩) Q E s:=by
 obtain⟨hp,g,dr,tk0,os⟩:=s
 show Zgr _ _ (Zuy (.ref z) 2 >>= _) _ _ _
 refine Zf5 (Zjr hz rfl (x:=.bool false) rfl ?_)
 show Zgr _ _ (Zuy (.ref z) 3 >>= _) _ _ _
 refine Zf5 (Zjr hz rfl (x:=.ref TI) rfl ?_)
 refine Zf5 (Zih hTI rfl ?_)
 show Zgr _ _ (Ziq (.ref z) >>= _) _ _ _
 refine Zf5 ?_
 unfold Ziq
 refine Zf5 (Zjr hz rfl (x:=.none) rfl (Zgb ?_))
 simp only[if_true]
 refine Zf5 (Znu ?_)
 refine Zf5 (Zjr hz rfl (x:=.ref TO) rfl ?_)
 refine Zf5 (Zj9 hz (by simp) fun h₁ hz₁ hs₁=>?_)
 replace hz₁:Zpm h₁ z TI TO .ellipsis:=hz₁
 replace hs₁:Zh2 z hp h₁:=hs₁
 refine Zf5 ?_
 simp only[Zsz,Zth,Zlo,Ztz]
 refine Zf5 (Zf5 (Zo1 ?_))
 show Zgr _ _ (Zhx (.ref i1) >>= _) _ _ _
 have f1:S1 (min n1 n2) h₁:=D1.frame _ _ _ h1 fun c hc o e=>hs₁.extBut _ _ (D.f1 c hc).1 e
 by_cases hle:n1<=n2
 .rw[Zlq hle] at f1
  refine Zf5 (D1.done _ _ _ f1 fun h₂ e hs₂ he=>?_)
  replace hs₂:Zrp i1 h₁ h₂:=hs₂
  obtain⟨oe,hoe,hce⟩:=he
  have hz₂:Zpm h₂ z TI TO .ellipsis:=hs₂ _ _ D.i1z.symm hz₁
  have hez:e≠z:=fun x=>by subst x;rw[hz₂] at hoe;cases hoe;simp at hce
  refine Zj9 hz₂ (by simp) fun h₃ _ hs₃=>hE h₃ e _ (fun c o c1 _ c3 _ x=>hs₃.extBut _ _ c1 (hs₂ _ _ c3 (hs₁.extBut _ _ c1 x))) ⟨oe,hs₃.extBut _ _ hez hoe,hce⟩
 .have hmin:min n1 n2=n2:=Zml (by lia)
  rw[hmin] at f1
  refine Zf5 (D1.item n2 _ _ _ (by lia) f1 fun x h₂ tk1 px h1₂ hs₂=>Zgb ?_)
  replace hs₂:Zh2 i1 h₁ h₂:=hs₂
  have hTO₂:Zla h₂ TO a b:=hs₂.extBut _ _ D.TOi1 (hs₁.extBut _ _ D.TOz hTO)
  refine Zf5 (Zih hTO₂ rfl ?_)
  refine Zf5 (Zn3 hTO₂ fun h₃ hTO₃ hs₃=>?_)
  replace hs₃:Zh2 TO h₂ h₃:=hs₃
  refine Zf5 (Zqm (Zgb ?_))
  refine Zf5 (Zf5 (Zo1 ?_))
  show Zgr _ _ (Zhx (.ref i2) >>= _) _ _ _
  rw[hmin] at h2
  refine Zf5 (D2.done _ _ _ (D2.frame _ _ _ h2 fun c hc o e=>hs₃.extBut _ _ (D.f2 c hc).2.1 (hs₂.extBut _ _ (D.f2 c hc).2.2 (hs₁.extBut _ _ (D.f2 c hc).1 e))) fun h₄ e hs₄ he=>?_)
  replace hs₄:Zrp i2 h₃ h₄:=hs₄
  obtain⟨oe,hoe,hce⟩:=he
  have hz₄:Zpm h₄ z TI TO .ellipsis:=hs₄ _ _ D.i2z.symm (hs₃.extBut _ _ D.TOz.symm (hs₂.extBut _ _ D.i1z.symm hz₁))
  have hez:e≠z:=fun x=>by subst x;rw[hz₄] at hoe;cases hoe;simp at hce
  refine Zj9 hz₄ (by simp) fun h₅ _ hs₅=>hE h₅ e _ (fun c o c1 c2 c3 c4 x=>hs₅.extBut _ _ c1 (hs₄ _ _ c4 (hs₃.extBut _ _ c2 (hs₂.extBut _ _ c3 (hs₁.extBut _ _ c1 x))))) ⟨oe,hs₅.extBut _ _ hez hoe,hce⟩
theorem zir{z TI TO i1 i2:Addr}{fp1 fp2:List Addr}{n1 n2:Nat}{P1 P2:Nat->Zf9->Prop}{S1 S2:Nat->Heap->Prop}
  (D1:Zpq prog w A.in1 i1 fp1 n1 P1 S1) (D2:Zpq prog w A.in1 i2 fp2 n2 P2 S2) (D:ZipAp z TI TO i1 i2 fp1 fp2) (hT1:∀b∈fp1,b≠TI) (hT2:∀b∈fp2,b≠TI) :
  Zwn prog w A z (z::TI::TO::(fp1++fp2)) [z,TO,i1,i2] (min n1 n2)
   (fun i vals=>∃x y,P1 i x/\P2 i y/\vals= #[x,y])
   (fun i h=>Zpm h z TI TO .none/\Zla h TI (.ref i1) (.ref i2)/\(∃a b,Zla h TO a b)/\S1 i h/\S2 i h)
   (fun i T h=>Zpm h z TI TO (Zjh T)/\Zla h TI (.ref i1) (.ref i2)/\(∃a b,Zla h TO a b)/\S1 (i+1) h/\S2 (i+1) h/\T≠z/\T≠TO/\T≠i1/\T≠i2) where
 sub:=fun c hc=>by
  have m1:=D.m1
  have m2:=D.m2
  simp at hc ⊢;rcases hc with rfl | rfl | rfl | rfl <;> simp[*]
 frame:=fun i h h' hst hk=>by
  obtain⟨hz,hTI,⟨a,b,hTO⟩,h1,h2⟩:=hst
  exact⟨hk z (by simp) _ hz,hk TI (by simp) _ hTI,⟨a,b,hk TO (by simp) _ hTO⟩,D1.frame _ _ _ h1 fun b hb o e=>hk b (by simp[hb]) o e,D2.frame _ _ _ h2 fun b hb o e=>hk b (by simp[hb]) o e⟩
 item:=fun i s Q E hi hst hQ=>by
  obtain⟨hz,hTI,⟨a,b,hTO⟩,h1,h2⟩:=hst
  have hT:s.TypeIs (.ref z) "zip" := ⟨_,hz,rfl⟩
  have lt:∀{c o},s.heap.get? c=some o->s.heap.objs.size≠c:=fun e=>Zj7 (Zgk e)
  unfold Znk
  refine Zf5 (Zrs (Zj1 (name:=Zl0 "__next__") hT Zne
   (Zi4 Zne hT Zul
    (zi9 D1 D2 D hz hTI hTO h1 h2 (by lia) (by lia) fun x y h' tk px py a1 a2 a3 a4 a5 a6 hk=>Zgb ?_) (Zt4 _))))
  exact hQ s.heap.objs.size #[x,y] h' tk ⟨_,_,px,py,rfl⟩ (Zgf _) ⟨_,a5,rfl,_,rfl⟩
   ⟨a1,hk _ _ D.TIz D.TITO D.TIi1 D.TIi2 hTI,⟨_,_,a2⟩,a3,a4,lt hz,lt hTO,(by obtain⟨_,e⟩:=D1.live _ _ h1;exact lt e),(by obtain⟨_,e⟩:=D2.live _ _ h2;exact lt e)⟩
   fun c o hc e=>hk c o (fun x=>hc (by simp[x])) (fun x=>hc (by simp[x])) (fun x=>hc (by simp[x])) (fun x=>hc (by simp[x])) e
 go:=fun elts k pos i T s Q E hm hQ=>by
  obtain⟨hz,hTI,⟨a,b,hTO⟩,h1,h2,_⟩:=hm
  refine wpAny_letOwnedTupleGo_zip hz fun h' hz' hs'=>hQ h' ⟨hz',hs'.extBut _ _ D.TIz hTI,⟨a,b,hs'.extBut _ _ D.TOz hTO⟩,D1.frame _ _ _ h1 fun c hc o e=>hs'.extBut _ _ (D.f1 c hc).1 e,D2.frame _ _ _ h2 fun c hc o e=>hs'.extBut _ _ (D.f2 c hc).1 e⟩ fun c o hc e=>hs'.extBut _ _ (fun x=>hc (by simp[x])) e
 apart:=fun i T h hm hT=>by
  obtain⟨_,_,_,_,_,t1,t2,t3,t4⟩:=hm
  simp at hT
  rcases hT with rfl | rfl | rfl | rfl
  .exact t1 rfl
  .exact t2 rfl
  .exact t3 rfl
  .exact t4 rfl
 done:=fun s Q E hst hQ=>by
  obtain⟨hz,hTI,⟨a,b,hTO⟩,h1,h2⟩:=hst
  have hT:s.TypeIs (.ref z) "zip" := ⟨_,hz,rfl⟩
  unfold Znk
  refine Zf5 (Zrs (Zj1 (name:=Zl0 "__next__") hT Zne
   (Zi4 Zne hT Zul (zkx D1 D2 D hz hTI hTO h1 h2 fun h' e tk hk he=>?_) (Zt4 _))))
  obtain⟨o,ho,hc⟩:=he
  refine Zf5 (Znb (T:="StopIteration") (b:=true) ⟨o,ho,hc⟩ Zw3 ?_)
  exact Zgb (hQ h' tk fun c o hc e=>hk c o (fun x=>hc (by simp[x])) (fun x=>hc (by simp[x])) (fun x=>hc (by simp[x])) (fun x=>hc (by simp[x])) e)
 self:=fun i s Q E hst hQ=>Zp3 hst.1 hQ
end
theorem zqp:Zrb (.type "list_reverseiterator") "__len__" = pure none:=by rw[Zni,Zlf];kernel_rfl
theorem zj9:Slot "list_reverseiterator" "__length_hint__" "list_reverseiterator.__length_hint__" :=
 .of (owner:="list_reverseiterator") (n:="__length_hint__") (by rw[Zni,Zlf];kernel_rfl) (by decide +kernel) (by decide +kernel) (by decide +kernel)
  (by first | exact .inl (by decide +kernel) | exact .inr (by decide +kernel)) (by rw[Zob];kernel_rfl)
section
variable{prog:Zgy}{w:Zhn}{A:Zhe}{E:Zf9->Zgc->Prop}{s:Zgc}
theorem zwc{it l:Addr}{i:Int}{Q:Bool->Zgc->Prop}(hit:s.heap.IsRevIter it l i)(h:Q false s):Zgr (Zg9 prog w) A (Zjx (.ref it)) Q E s:=by
 unfold Zjx
 refine Zf5 (Zl5 hit.typeIs zqp ?_)
 show Zgr _ A (specialOf (Zhy it) (Zl0 "__length_hint__") >>= _) _ _ _
 refine Zf5 (Zl5 hit.typeIs zj9.lookup ?_)
 generalize hid:("list_reverseiterator.__length_hint__" : String)=id0
 wp_delta
 rw[show splitId id0=some ("list_reverseiterator", "__length_hint__") from by subst hid;decide +kernel]
 subst hid
 refine Zf5 (Znb (T:="list_reverseiterator") (b:=true) hit.typeIs (by rw[Zob];kernel_rfl) ?_)
 refine Zi0 (fun hab=>absurd hab (by decide)) (fun _=>?_)
 refine Zi0 (fun _=>?_) (fun hab=>absurd (by decide +kernel) hab)
 refine Zi0 (fun hab=>absurd hab (by decide +kernel)) (fun _=>?_)
 exact Zgb h
theorem zpt{R:Zuc->Zgc->Prop}{r l:Addr}{items:Array Zf9}(hh:A.handled=none)(hr:s.heap.IsRevIter r l ((items.size:Int) - 1))(hl:s.heap.IsList l items)(hlen:items.size<=sizeLine)(S:Addr)(res:Zf9)(c₀:Nat)(hS:s.heap.get? S=some { cls:=.type "list", data:=.seq #[] c₀ })(hSl:S≠l)(hlr:l≠r)
  (hR:∀h' tk acc' c',(∀b o,b≠S->b≠r->s.heap.get? b=some o->h'.get? b=some o)->h'.get? S=some { cls:=.type "list", dict:=none,data:=.seq acc' c',slots:=#[] } ->
   Zwq (fun i v=>items[items.size - 1 - i]? = some v) acc' items.size->R (.ok (.ret res)) { s with heap:=h',toks:=tk }) :
  Zgr (Zg9 prog w) A.in1 (Zig (.ref S) (.ref r) res)
   (fun fin s'=>match fin with | .done f=>R (.ok f) s' | .again c'=>c'.quiet=true/\Zm1 (Zg9 prog w) A c' R s') (fun e s'=>R (.error e) s') s:=by
 have hSr:S≠r:=fun e=>by obtain⟨o,ho,hc,_⟩:=hr;rw[e,ho] at hS;cases hS;simp at hc
 have W:=(Walks.listRev (prog:=prog) (w:=w) (A:=A.in1) hh r l hlr items).toS
 unfold Zig
 refine Zf5 (Zpt hr.typeIs ?_)
 have h1:Zj8 (.ref S) (.ref r)=false:=by simp[Zj8,hSr]
 have h2:(Ziw "list_reverseiterator" == Ziw "list")=false:=by decide
 have h3:(Ziw "list_reverseiterator" == Ziw "tuple")=false:=by decide
 simp only[h1,h2,h3,Zn2,Zgo,if_false]
 refine Zf5 (wpAny_pyIter_revIter hr ?_)
 refine Zf5 (Zja (zwc hr ?_))
 refine Zi0 (fun hab=>absurd hab (by decide +kernel)) (fun _=>?_)
 have hSf:S∉[r,l]:=by simp[hSr,hSl]
 refine Zgb ⟨Zm0 Zs6 _,Ztd W hlen _ hSf _ items.size 0 _ _ _ rfl (Zhg _) ⟨Zhg _,by simpa using hr,hl⟩ hS (Zt0 _) fun s' acc' c' hm hS' hacc=>?_⟩
 rw[hm.eq_with]
 exact hR _ _ acc' c' (fun b o hb hbr e=>hm.heap b o (by simp[hb,hbr]) e) hS' hacc
theorem zin{Q:Zf9->Zgc->Prop}{r l:Addr}{items:Array Zf9}(hh:A.handled=none)(hr:s.heap.IsRevIter r l ((items.size:Int) - 1))(hl:s.heap.IsList l items)(hlr:l≠r)(hlen:items.size<=sizeLine)
  (hQ:∀h' tk acc' c',(∀b o,b≠r->s.heap.get? b=some o->h'.get? b=some o) ->
   h'.get? s.heap.objs.size=some { cls:=.type "list", dict:=none,data:=.seq acc' c',slots:=#[] }->Zwq (fun i v=>items[items.size - 1 - i]? = some v) acc' items.size->Q (.ref s.heap.objs.size) { s with heap:=h',toks:=tk }) :
  Zgr (Zg9 prog w) A (call (.type "list") [.ref r]) Q E s:=by
 refine callType_codes (Q₁:=fun obj s₁=>obj= .ref s.heap.objs.size/\s₁={ s with heap:=s.heap.push { cls:=.type "list", data:=.seq #[] } }) F.called_list (F.typeCall_list_1 _) F.entry_list_init
  (code_list_new _ ⟨rfl,rfl⟩) fun obj s₁ h₁=>?_
 obtain⟨rfl,rfl⟩:=h₁
 have hS:(s.heap.push { cls:=.type "list", data:=.seq #[] }).get? s.heap.objs.size=some { cls:=.type "list", data:=.seq #[] }:=Zgj _ rfl
 have hr2:(s.heap.push { cls:=.type "list", data:=.seq #[] }).IsRevIter r l ((items.size:Int) - 1):=hr.at fun o e=>Zga _ e
 have hl2:(s.heap.push { cls:=.type "list", data:=.seq #[] }).IsList l items:=hl.at fun o e=>Zga _ e
 have hrlt:r<s.heap.objs.size:=by obtain⟨o,ho,_⟩:=hr;exact Zgk ho
 have hllt:l<s.heap.objs.size:=by obtain⟨o,ho,_⟩:=hl;exact Zgk ho
 refine⟨⟨_,hS,rfl⟩,F.args_list_init_2 _ _,?_⟩
 show Zgr _ A.in1.in1 (do let old <- Zor (.ref s.heap.objs.size);Zwf (.ref s.heap.objs.size) (fun _=>#[]);letGo old.toList.reverse;Zig (.ref s.heap.objs.size) (.ref r) .none) _ _ _
 refine Zf5 ?_
 unfold Zor
 refine Zf5 (Zih hS rfl (Zgb ?_))
 show Zgr _ _ (Zwg s.heap.objs.size (fun _=>#[]) >>= fun _=>letGo (#[]:Array Zf9).toList.reverse >>= fun _=>Zig (.ref s.heap.objs.size) (.ref r) .none) _ _ _
 refine Zf5 (Zqk hS rfl ?_)
 have hS₂:=Zh6 (Zj0 (fun _=>(#[]:Array Zf9))) hS rfl
 have oth:∀b o,b≠s.heap.objs.size->(s.heap.push { cls:=.type "list", data:=.seq #[] }).get? b=some o->((s.heap.push { cls:=.type "list", data:=.seq #[] }).update s.heap.objs.size (Zj0 (fun _=>(#[]:Array Zf9)))).get? b=some o :=
  fun b o hb e=>(Zht _ _ (Zho hb)).trans e
 refine Zf5 (Zqm ?_)
 refine zpt (A:=A.in1) hh (hr2.at fun o e=>oth r o (Zgu hrlt) e) (hl2.at fun o e=>oth l o (Zgu hllt) e) hlen _ .none _ hS₂ (Zj7 hllt) hlr fun h' tk acc' c' hk hS' hacc=>?_
 exact⟨rfl,hQ h' tk acc' c' (fun b o hbr e=>hk b o (Zgu (Zgk e)) hbr (oth b o (Zgu (Zgk e)) (Zga _ e))) hS' hacc⟩
end
section
variable{X:Cx}{pins:List (Addr×Obj)}{U:St}{H:Hp}{s:Zgc}{h':Heap}{t':Nat}{wr:List Addr}
theorem Inv.turnsO(I:Inv X pins U H s){T0:Addr}{nw0:HO}(hf:∀b∈wr,FpOk X pins H b)(k:∀b o,b∉wr->s.heap.get? b=some o->h'.get? b=some o)(hT:s.heap.objs.size<=T0)(new:zck X.prog X.w (upd H T0 nw0) h' T0 nw0) :
  Inv X pins U (upd H T0 nw0) { s with heap:=h',toks:=t' }:=by
 have nw:∀b u,H b=some u->b∉wr:=fun b u e z=>by have:=(hf b z).1;rw[e] at this;cases this
 have nL:X.env.locals∉wr:=fun z=>(hf _ z).2.1 rfl
 have fresh:H T0=none:=I.hok.fresh hT
 have ne:∀b o,s.heap.get? b=some o->b≠T0:=fun b o e=>Zgu (Zgw (Zgk e) hT)
 refine I.step (g':=s.gens) (d':=s.drawn) (ch:=wr) (fun b hb=>?_) (fun b o _ _ hc e _=>k b o hc e) (fun b o _ _ hc e _=>⟨o.slots,k b o hc e⟩) (fun b o _ e n=>by rw[zak (ne b o e)];exact n)
  (fun b o hc e=>⟨o,k b o hc e⟩) (fun b xs e=>by rw[zak (zas e fresh)];exact e) (fun b o u e=>by rw[zak (zas e fresh)];exact e) (fun b ps e=>⟨#[],by rw[zak (zas e fresh),e];simp⟩) (fun m hm=>?_) (fun b u e=>?_) I.bare
 .obtain⟨f0,f1,f2,f3,f4,f5⟩:=hf b hb
  exact⟨f3,f1,f4,f5⟩
 .obtain⟨o,es,ep,ho,r⟩:=hm
  exact⟨o,es,ep,k _ o nL ho,r⟩
 .by_cases hb:b=T0
  .subst hb
   rw[zan] at e
   cases e
   exact new
  .rw[zak hb] at e
   refine(I.hok b u e).stay (fun c v hc q=>k c v ?_ q) (fun c q=>by rw[zak (zas q fresh)];exact q) fun c xs q=>by rw[zak (zas q fresh)];exact q
   rcases hc with z | z
   .rw[z];exact nw b u e
   .exact nw c _ z
end
section
variable{X:Cx}{e1:Expr}{ta:TA}{p pos p2 pos2:Pos}
noncomputable def zot(K:Zf6)(ta:TA):TE:=fun U H Q=>ta U H fun vs H1=>∃a xs,vs=[.ref a]/\SqL K H1 a xs /\ ∀l,H1 l=none->Q (.ref l) (upd H1 l (.lst xs.reverse))
theorem zp4(hc:X.calm=true)(hgl:Gl X "list")(hml:X.mg "list" = none)(hg:Gl X "reversed")(hm:X.mg "reversed" = none)(hA:PA X [e1] ta)(hs:Zhf [e1] X.env=[(false,eval e1 X.env)]:=by rfl)
  (hs2:Zhf [.Call (.Name "reversed" p) [e1] [] pos] X.env=[(false,eval (.Call (.Name "reversed" p) [e1] [] pos) X.env)]:=by rfl) :
  PE X (.Call (.Name "list" p2) [.Call (.Name "reversed" p) [e1] [] pos] [] pos2) (zot X.K ta):=by
 intro pins s U H Q I h
 refine Call_ (zh1 I hgl hml boot_list (Ziy (?_:Zgr (Zg9 X.prog X.w) X.A (Zru (Zkj pos2 (Zhf [.Call (.Name "reversed" p) [e1] [] pos] X.env))) _ X.xe s) hs2 rfl))
 rw[hs2]
 show Zgr _ _ (Zru ((false,eval (.Call (.Name "reversed" p) [e1] [] pos) X.env)::[])) _ _ s
 refine Zlu ?_
 refine Call_ (zh1 I hg hm boot_reversed (Ziy (thn (hA pos pins s U H _ I h) fun us s1 hz9=>?_) hs rfl))
 obtain⟨vs,H1,I1,r1,q1⟩:=hz9
 obtain⟨a,xs,rfl,hq,q⟩:=q1
 obtain⟨u,rfl,ru⟩:=zg5 r1
 cases ru
 obtain⟨its,rv,pl,hz⟩:=I1.list hq
 have hn:its.toArray.size=xs.length:=by rw[rv.length];simp
 refine call_reversed_list pl.isList (Zn9 ?_)
 have up:∀b o,s1.heap.get? b=some o->(s1.heap.push (revObj a ((its.toArray.size:Int) - 1))).get? b=some o:=fun b o e=>Zga _ e
 have hR:(s1.heap.push (revObj a ((its.toArray.size:Int) - 1))).IsRevIter s1.heap.objs.size a ((its.toArray.size:Int) - 1):=⟨_,Zgj _ rfl,rfl,rfl⟩
 have I2:Inv X pins U H1 { s1 with heap:=s1.heap.push (revObj a ((its.toArray.size:Int) - 1)) }:=I1.kept (t':=s1.toks) up
 have hal:a<s1.heap.objs.size:=by obtain⟨o,_,ho,_⟩:=id pl;exact Zgk ho
 have f1:=I1.fpOk (Zgf _) (I1.hok.fresh (Zgf _))
 generalize hh2:s1.heap.push (revObj a ((its.toArray.size:Int) - 1))=h2 at hR I2 up
 refine zin (s:={ s1 with heap:=h2 }) (I1.ok.hd hc) hR (pl.isList.at fun o e=>up _ _ e) (Zgu hal) (by rw[hn];exact hz) fun h' tk acc c hk hS hacc=>?_
 have hv:Vals xs.reverse acc.toList:=by
  obtain⟨hsz,hit⟩:=hacc
  have e:acc.toList=its.reverse:=by
   refine Zka fun i=>?_
   by_cases hi:i<acc.size
   .have h1:=hit i acc[i] (by simp[hi])
    have h2:acc.toList[i]? = some acc[i]:=by simp[hi]
    rw[h2]
    rw[List.getElem?_reverse (by rw[hsz] at hi;simpa using hi)]
    have:its.toArray[its.toArray.size - 1 - i]? = its[its.length - 1 - i]?:=by simp
    rw[<- this,h1]
   .rw[Zhd (by simpa using hi),Zhd (by rw[hsz] at hi;simpa using hi)]
  rw[e];exact rv.reverse
 have hsz2:h2.objs.size=s1.heap.objs.size+1:=by rw[<- hh2,Zg4]
 have hf:∀b∈[s1.heap.objs.size],FpOk X pins H1 b:=fun b hb=>by rw[Zgn.mp hb];exact f1
 exact⟨.ref h2.objs.size,_,I2.turnsO (t':=tk) hf (fun b o hb e=>hk b o (by simpa using hb) e) (Zgf _) (show zck X.prog X.w _ _ _ (.lst _) from⟨by rw[Zrj];exact hz,acc.toList,c,hv,by simpa using hS⟩),rfl,q _ I2.fresh⟩
end
end L2
namespace L2
open PySem
end L2
namespace L2
open PySem PySem.Spec PyProof.Rows
inductive D where
 | non | bl (b:Bool) | int (i:Int) | str (l:List Nat) | lst (xs:List D) | tup (xs:List D) | dct (ks vs:List D) | dctT (ks vs:List D) | ins (C:Addr) (ns:List Str) (vs:List D)
noncomputable instance:Inhabited D:=⟨.non⟩
noncomputable instance:DecidableEq D:=Zx1 D
mutual
noncomputable def D.dep:D->Nat
 | .lst a=>D.deps a+1
 | .tup a=>D.deps a+1
 | _=>0
noncomputable def D.deps:List D->Nat
 | []=>0
 | a::x=>max a.dep (D.deps x)
end
mutual
noncomputable def D.nb:D->Bool
 | .bl _=>false
 | .dct _ _=>false
 | .dctT _ _=>false
 | .ins _ _ _=>false
 | .lst a=>D.nbs a
 | .tup a=>D.nbs a
 | _=>true
noncomputable def D.nbs:List D->Bool
 | []=>true
 | a::x=>a.nb&&D.nbs x
end
noncomputable def D.isK:D->Bool
 | .int _=>true | .str _=>true | _=>false
noncomputable def D.key:D->Key
 | .int i=>.inl i | .str l=>.inr (T l) | _=>.inl 0
noncomputable def D.isT:D->Bool
 | .tup l=>l.all D.isK | _=>false
noncomputable def D.tkey:D->List Key
 | .tup l=>l.map D.key | _=>[]
noncomputable def D.isInt:D->Bool
 | .int _=>true
 | _=>false
noncomputable def zxc(ds:List D):Bool:=ds.any D.isInt
section
variable(K:Zf6)(H:Hp)
mutual
noncomputable def Rep:D->V->Prop
 | .non,v=>v= .non
 | .bl b,v=>v= .bl b
 | .int i,v=>v= .int i
 | .str l,v=>v= .str (T l) /\ ∀c∈l,c<128
 | .lst ds,v=>∃p xs,v= .ref p/\SqL K H p xs/\Reps ds xs
 | .tup ds,v=>∃p xs,v= .ref p/\SqT K H p xs/\Reps ds xs/\(zxc ds=true->H p=some (.tup xs))
 | .dct ks vs,v=>∃p kv,v= .ref p/\H p=some (.dK kv)/\Reps ks (kv.map fun q=>kV q.1)/\Reps vs (kv.map fun q=>q.2)
 | .dctT ks vs,v=>∃p kv,v= .ref p/\(∃o,H p=some (.frz o (.dT kv)))/\(ks.all D.isT=true/\(kv.map fun q=>q.1)=ks.map D.tkey)/\Reps vs (kv.map fun q=>q.2)
 | .ins C ns vs,v=>∃x dx fs,v= .ref x/\H x=some (.ins C dx fs)/\H dx=some (.own x)/\fs.map (fun q=>q.1)=ns/\Reps vs (fs.map fun q=>q.2)
noncomputable def Reps:List D->List V->Prop
 | [],xs=>xs=[]
 | d::ds,xs=>∃x r,xs=x::r/\Rep d x/\Reps ds r
end
end
section
variable{K:Zf6}{H H':Hp}
mutual
theorem Rep.mono(s:Same H H'):∀{d:D} {v:V},Rep K H d v->Rep K H' d v
 | .non,_,h=>by simpa[Rep] using h
 | .bl _,_,h=>by simpa[Rep] using h
 | .int _,_,h=>by simpa[Rep] using h
 | .str _,_,h=>by simpa[Rep] using h
 | .lst ds,_,h=>by
  rw[Rep] at h ⊢
  obtain⟨p,xs,e,q,r⟩:=h
  exact⟨p,xs,e,SqL.same s q,Reps.mono s r⟩
 | .tup ds,_,h=>by
  rw[Rep] at h ⊢
  obtain⟨p,xs,e,q,r,t⟩:=h
  exact⟨p,xs,e,SqT.same s q,Reps.mono s r,fun z=>s _ _ (t z)⟩
 | .dct ks vs,_,h=>by
  rw[Rep] at h ⊢
  obtain⟨p,kv,e,q,r1,r2⟩:=h
  exact⟨p,kv,e,s _ _ q,Reps.mono s r1,Reps.mono s r2⟩
 | .dctT ks vs,_,h=>by
  rw[Rep] at h ⊢
  obtain⟨p,kv,e,⟨o,q⟩,r1,r2⟩:=h
  exact⟨p,kv,e,⟨o,s _ _ q⟩,r1,Reps.mono s r2⟩
 | .ins C ns vs,_,h=>by
  rw[Rep] at h ⊢
  obtain⟨x,dx,fs,e,q1,q2,hn,r⟩:=h
  exact⟨x,dx,fs,e,s _ _ q1,s _ _ q2,hn,Reps.mono s r⟩
theorem Reps.mono(s:Same H H'):∀{ds:List D} {xs:List V},Reps K H ds xs->Reps K H' ds xs
 | [],_,h=>by simpa[Reps] using h
 | d::ds,_,h=>by
  rw[Reps] at h ⊢
  obtain⟨x,r,e,a,b⟩:=h
  exact⟨x,r,e,Rep.mono s a,Reps.mono s b⟩
end
theorem Reps.nil:Reps K H [] []:=by rw[Reps]
theorem Reps.cons{d:D}{ds:List D}{x:V}{xs:List V}(a:Rep K H d x)(b:Reps K H ds xs):Reps K H (d::ds) (x::xs):=by rw[Reps];exact⟨x,xs,rfl,a,b⟩
theorem Reps.length:∀{ds:List D} {xs:List V},Reps K H ds xs->ds.length=xs.length
 | [],_,h=>by rw[Reps] at h;subst h;rfl
 | d::ds,_,h=>by
  rw[Reps] at h
  obtain⟨x,r,rfl,_,b⟩:=h
  simp[b.length]
theorem Reps.get:∀{ds:List D} {xs:List V} {i:Nat} {x:V},Reps K H ds xs->xs[i]? = some x-> ∃d,ds[i]? = some d/\Rep K H d x
 | [],_,_,_,h,e=>by rw[Reps] at h;subst h;simp at e
 | d::ds,_,0,_,h,e=>by
  rw[Reps] at h
  obtain⟨y,r,rfl,a,_⟩:=h
  cases e
  exact⟨d,rfl,a⟩
 | d::ds,_,i+1,_,h,e=>by
  rw[Reps] at h
  obtain⟨y,r,rfl,_,b⟩:=h
  exact Reps.get (i:=i) b e
theorem Reps.get':∀{ds:List D} {xs:List V} {i:Nat} {d:D},Reps K H ds xs->ds[i]? = some d-> ∃x,xs[i]? = some x/\Rep K H d x:=fun {ds xs i d} h e=>by
 have hl:=h.length
 have hi:=(Zgg.mp e).1
 obtain⟨d',e',r⟩:=h.get (i:=i) (x:=xs[i]'(by lia)) (Zf8 _)
 rw[e] at e';cases e'
 exact⟨_,Zf8 _,r⟩
theorem Reps.append:∀{ds es:List D} {xs ys:List V},Reps K H ds xs->Reps K H es ys->Reps K H (ds++es) (xs++ys)
 | [],_,_,_,h,h2=>by rw[Reps] at h;subst h;exact h2
 | d::ds,_,_,_,h,h2=>by
  rw[Reps] at h
  obtain⟨y,r,rfl,a,b⟩:=h
  exact Reps.cons a (Reps.append b h2)
theorem Reps.snoc{ds:List D}{xs:List V}{d:D}{x:V}(h:Reps K H ds xs)(a:Rep K H d x):Reps K H (ds++[d]) (xs++[x]):=h.append (.cons a .nil)
theorem Reps.drop:∀(n:Nat) {ds:List D} {xs:List V},Reps K H ds xs->Reps K H (ds.drop n) (xs.drop n)
 | 0,_,_,h=>h
 | n+1,[],_,h=>by rw[Reps] at h;subst h;exact Reps.nil
 | n+1,d::ds,_,h=>by
  rw[Reps] at h
  obtain⟨y,r,rfl,_,b⟩:=h
  exact Reps.drop n b
theorem Reps.take:∀(n:Nat) {ds:List D} {xs:List V},Reps K H ds xs->Reps K H (ds.take n) (xs.take n)
 | 0,_,_,h=>Reps.nil
 | n+1,[],_,h=>by rw[Reps] at h;subst h;exact Reps.nil
 | n+1,d::ds,_,h=>by
  rw[Reps] at h
  obtain⟨y,r,rfl,a,b⟩:=h
  exact Reps.cons a (Reps.take n b)
theorem Rep.lst{ds:List D}{p:Addr}{xs:List V}(q:SqL K H p xs)(r:Reps K H ds xs):Rep K H (.lst ds) (.ref p):=by rw[Rep];exact⟨p,xs,rfl,q,r⟩
theorem Rep.tup{ds:List D}{p:Addr}{xs:List V}(q:SqT K H p xs)(r:Reps K H ds xs)(t:zxc ds=true->H p=some (.tup xs)):Rep K H (.tup ds) (.ref p):=by rw[Rep];exact⟨p,xs,rfl,q,r,t⟩
theorem Rep.tupN{ds:List D}{p:Addr}{xs:List V}(q:H p=some (.tup xs))(r:Reps K H ds xs):Rep K H (.tup ds) (.ref p):=Rep.tup (SqT.of q) r fun _=>q
theorem Rep.int{i:Int}:Rep K H (.int i) (.int i):=by rw[Rep]
theorem Rep.bl{b:Bool}:Rep K H (.bl b) (.bl b):=by rw[Rep]
theorem Rep.str{l:List Nat}(h:∀c∈l,c<128):Rep K H (.str l) (.str (T l)):=by rw[Rep];exact⟨rfl,h⟩
theorem Rep.non:Rep K H .non .non:=by rw[Rep]
theorem Rep.of_int{i:Int}{v:V}(h:Rep K H (.int i) v):v= .int i:=by rw[Rep] at h;exact h
theorem Rep.of_bl{b:Bool}{v:V}(h:Rep K H (.bl b) v):v= .bl b:=by rw[Rep] at h;exact h
theorem Rep.of_str{l:List Nat}{v:V}(h:Rep K H (.str l) v):v= .str (T l):=by rw[Rep] at h;exact h.1
theorem Rep.asc{l:List Nat}{v:V}(h:Rep K H (.str l) v):∀c∈l,c<128:=by rw[Rep] at h;exact h.2
theorem Rep.of_non{v:V}(h:Rep K H .non v):v= .non:=by rw[Rep] at h;exact h
theorem Rep.of_lst{ds:List D}{v:V}(h:Rep K H (.lst ds) v):∃p xs,v= .ref p/\SqL K H p xs/\Reps K H ds xs:=by rw[Rep] at h;exact h
theorem Rep.of_tup{ds:List D}{v:V}(h:Rep K H (.tup ds) v):∃p xs,v= .ref p/\SqT K H p xs/\Reps K H ds xs:=by rw[Rep] at h;obtain⟨p,xs,e,q,r,_⟩:=h;exact⟨p,xs,e,q,r⟩
end
noncomputable def NT:HO->Prop
 | .tup _=>False
 | _=>True
structure Ext(G Hz F H:Hp):Prop where
 gf:Same G F
 fh:Same F H
 hh:Same Hz H
 no:∀b o,Hz b=some o->NT o->F b=G b
theorem Ext.refl{G H:Hp}(s:Same G H):Ext G H G H:=⟨Same.refl _,s,Same.refl _,fun _ _ _ _=>rfl⟩
theorem Ext.trans{G H F1 H1 F2 H2:Hp}(a:Ext G H F1 H1)(b:Ext F1 H1 F2 H2):Ext G H F2 H2 :=
 ⟨a.gf.trans b.gf,b.fh,a.hh.trans b.hh,fun c o e n=>(b.no c o (a.hh c o e) n).trans (a.no c o e n)⟩
theorem Ext.newF{G Hz F H:Hp}(x:Ext G Hz F H){p:Addr}{o:HO}(hp:H p=none):Ext G Hz (upd F p o) (upd H p o):=by
 have fp:F p=none:=x.fh.free hp
 refine⟨x.gf.trans (Same.upd fp),fun b u e=>?_,x.hh.trans (Same.upd hp),fun b u e n=>?_⟩
 .by_cases hb:b=p
  .subst hb;rw[zan] at e ⊢;exact e
  .rw[zak hb] at e ⊢;exact x.fh b u e
 .have hb:b≠p:=fun z=>by subst z;have:=x.hh b u e;rw[hp] at this;cases this
  rw[zak hb];exact x.no b u e n
theorem Ext.newO{G Hz F H:Hp}(x:Ext G Hz F H){p:Addr}{o:HO}(hp:H p=none):Ext G Hz F (upd H p o) :=
 ⟨x.gf,x.fh.trans (Same.upd hp),x.hh.trans (Same.upd hp),x.no⟩
theorem Ext.write{G Hz F H:Hp}(x:Ext G Hz F H){p:Addr}{o:HO}(fp:F p=none)(hp:Hz p=none):Ext G Hz F (upd H p o) :=
 ⟨x.gf,fun b u e=>by rw[zak (zas e fp)];exact x.fh b u e,fun b u e=>by rw[zak (zas e hp)];exact x.hh b u e,x.no⟩
theorem Ext.freeze{G Hz F H:Hp}(x:Ext G Hz F H){p:Addr}{o:HO}(fp:F p=none)(hp:Hz p=none)(e:H p=some o):Ext G Hz (upd F p o) H:=by
 refine⟨x.gf.trans (Same.upd fp),fun b u q=>?_,x.hh,fun b u q n=>?_⟩
 .by_cases hb:b=p
  .subst hb;rw[zan] at q;cases q;exact e
  .rw[zak hb] at q;exact x.fh b u q
 .rw[zak (zas q hp)];exact x.no b u q n
inductive Sl where
 | un | d (x:D) | o (p:Addr) (xs:List D) | oo (p:Addr) (qs:List (Addr×List D)) | g (v:V) (as:List Addr) (W:Hp->Hp->Prop)
noncomputable def Sl.ads:Sl->List Addr
 | .un=>[] | .d _=>[] | .o p _=>[p] | .oo p qs=>p::qs.map (·.1) | .g _ as _=>as
noncomputable def OwnL(K:Zf6)(Hz F H:Hp)(p:Addr)(xs:List D):Prop:=Hz p=none/\F p=none /\ ∃vs,H p=some (.lst vs)/\Reps K F xs vs
noncomputable def Stab(as:List Addr)(W:Hp->Hp->Prop):Prop:=∀F1 H1 F2 H2:Hp,Same F1 F2->(∀a∈as,H2 a=H1 a)->W F1 H1->W F2 H2
noncomputable def SlOk(K:Zf6)(Hz F H:Hp)(ov:Option V):Sl->Prop
 | .un=>True
 | .d x=>∃v,ov=some v/\Rep K F x v
 | .o p xs=>ov=some (.ref p)/\OwnL K Hz F H p xs
 | .oo p qs=>ov=some (.ref p)/\Hz p=none/\F p=none/\H p=some (.lst (qs.map fun q=>V.ref q.1)) /\ ∀q∈qs,OwnL K Hz F H q.1 q.2
 | .g v as W=>ov=some v/\(∀a∈as,Hz a=none/\F a=none /\ ∃o,H a=some o/\NT o)/\W F H/\Stab as W
structure Sat(K:Zf6)(G Hz L F H:Hp)(U:St)(ss:List Sl):Prop where
 ext:Ext G Hz F H
 fl:Same L F
 len:U.length=ss.length
 ok:∀(i:Nat) s,ss[i]? = some s->SlOk K Hz F H (U.getD i none) s
 nd:∀(i:Nat) s,ss[i]? = some s->s.ads.Nodup
 ne:∀(i j:Nat) s s',i≠j->ss[i]? = some s->ss[j]? = some s'-> ∀p∈s.ads,p∉s'.ads
section
variable{K:Zf6}{Hz F H F' H':Hp}
theorem OwnL.ext2{p:Addr}{xs:List D}(h:OwnL K Hz F H p xs)(e:Ext F H F' H'):OwnL K Hz F' H' p xs:=by
 obtain⟨h0,fp,vs,hp,r⟩:=h
 exact⟨h0,(e.no p _ hp trivial).trans fp,vs,e.hh p _ hp,r.mono e.gf⟩
theorem SlOk.ext2{ov:Option V}{s:Sl}(h:SlOk K Hz F H ov s)(e:Ext F H F' H'):SlOk K Hz F' H' ov s:=by
 cases s with
 | un=>trivial
 | d x=>obtain⟨v,ev,r⟩:=h;exact⟨v,ev,r.mono e.gf⟩
 | o p xs=>exact⟨h.1,h.2.ext2 e⟩
 | oo p qs =>
  obtain⟨ev,h0,fp,hp,hq⟩:=h
  exact⟨ev,h0,(e.no p _ hp trivial).trans fp,e.hh p _ hp,fun q hm=>(hq q hm).ext2 e⟩
 | g v as W =>
  obtain⟨ev,ha,hw,st⟩:=h
  refine⟨ev,fun a hm=>?_,st _ _ _ _ e.gf (fun a hm=>?_) hw,st⟩
  .obtain⟨h0,fa,o,ho,nt⟩:=ha a hm
   exact⟨h0,(e.no a _ ho nt).trans fa,o,e.hh a _ ho,nt⟩
  .obtain⟨h0,fa,o,ho,nt⟩:=ha a hm
   rw[e.hh a _ ho,ho]
theorem OwnL.updNe{p a:Addr}{o:HO}{xs:List D}(h:OwnL K Hz F H p xs)(hn:p≠a):OwnL K Hz F (upd H a o) p xs:=by
 obtain⟨h0,fp,vs,hp,r⟩:=h
 exact⟨h0,fp,vs,by rw[zak hn];exact hp,r⟩
theorem SlOk.updNe{ov:Option V}{s:Sl}{a:Addr}{o:HO}(h:SlOk K Hz F H ov s)(hn:a∉s.ads):SlOk K Hz F (upd H a o) ov s:=by
 cases s with
 | un=>trivial
 | d x=>exact h
 | o p xs=>exact⟨h.1,h.2.updNe fun z=>hn (by simp[Sl.ads,z])⟩
 | oo p qs =>
  obtain⟨ev,h0,fp,hp,hq⟩:=h
  refine⟨ev,h0,fp,by rw[zak fun z=>hn (by simp[Sl.ads,z])];exact hp,fun q hm=>(hq q hm).updNe fun z=>hn ?_⟩
  rw[<- z]
  exact Zgi _ (Zlm hm)
 | g v as W =>
  obtain⟨ev,ha,hw,st⟩:=h
  have hne:∀b∈as,b≠a:=fun b hm z=>hn (by rw[<- z];exact hm)
  refine⟨ev,fun b hm=>?_,st _ _ _ _ (Same.refl _) (fun b hm=>zak (hne b hm)) hw,st⟩
  obtain⟨h0,fa,x,ho,nt⟩:=ha b hm
  exact⟨h0,fa,x,by rw[zak (hne b hm)];exact ho,nt⟩
theorem OwnL.frz{p a:Addr}{o:HO}{xs:List D}(h:OwnL K Hz F H p xs)(fa:F a=none)(hn:p≠a):OwnL K Hz (upd F a o) H p xs:=by
 obtain⟨h0,fp,vs,hp,r⟩:=h
 exact⟨h0,by rw[zak hn];exact fp,vs,hp,r.mono (Same.upd fa)⟩
theorem SlOk.frz{ov:Option V}{s:Sl}{a:Addr}{o:HO}(h:SlOk K Hz F H ov s)(fa:F a=none)(hn:a∉s.ads):SlOk K Hz (upd F a o) H ov s:=by
 cases s with
 | un=>trivial
 | d x=>obtain⟨v,ev,r⟩:=h;exact⟨v,ev,r.mono (Same.upd fa)⟩
 | o p xs=>exact⟨h.1,h.2.frz fa fun z=>hn (by simp[Sl.ads,z])⟩
 | oo p qs =>
  obtain⟨ev,h0,fp,hp,hq⟩:=h
  refine⟨ev,h0,by rw[zak fun z=>hn (by simp[Sl.ads,z])];exact fp,hp,fun q hm=>(hq q hm).frz fa fun z=>hn ?_⟩
  rw[<- z]
  exact Zgi _ (Zlm hm)
 | g v as W =>
  obtain⟨ev,ha,hw,st⟩:=h
  have hne:∀b∈as,b≠a:=fun b hm z=>hn (by rw[<- z];exact hm)
  refine⟨ev,fun b hm=>?_,st _ _ _ _ (Same.upd fa) (fun _ _=>rfl) hw,st⟩
  obtain⟨h0,fb,x,ho,nt⟩:=ha b hm
  exact⟨h0,by rw[zak (hne b hm)];exact fb,x,ho,nt⟩
theorem SlOk.live{ov:Option V}{s:Sl}(h:SlOk K Hz F H ov s){p:Addr}(hp:p∈s.ads):H p≠none:=by
 cases s with
 | un=>simp[Sl.ads] at hp
 | d x=>simp[Sl.ads] at hp
 | o q xs =>
  obtain⟨_,_,_,vs,hq,_⟩:=h
  simp[Sl.ads] at hp;subst hp;rw[hq];simp
 | oo q qs =>
  obtain⟨ev,h0,fp,hq,hqs⟩:=h
  rcases Zgh.mp hp with rfl | hp
  .rw[hq];simp
  .obtain⟨r,hr,rfl⟩:=Zg5.mp hp
   obtain⟨_,_,vs,hv,_⟩:=hqs r hr
   rw[hv];simp
 | g v as W =>
  obtain⟨ev,ha,hw,st⟩:=h
  obtain⟨_,_,x,ho,_⟩:=ha p hp
  rw[ho];simp
end
section
variable{K:Zf6}{G Hz L F H F' H':Hp}{U:St}{ss:List Sl}
theorem Sat.ext2(S:Sat K G Hz L F H U ss)(e:Ext F H F' H'):Sat K G Hz L F' H' U ss :=
 ⟨S.ext.trans e,S.fl.trans e.gf,S.len,fun i s hs=>(S.ok i s hs).ext2 e,S.nd,S.ne⟩
theorem Sat.get(S:Sat K G Hz L F H U ss){i:Nat}{s:Sl}(hs:ss[i]? = some s)(hn:s ≠ .un):∃v,U[i]? = some (some v)/\SlOk K Hz F H (some v) s:=by
 have hi:i<U.length:=by rw[S.len];exact(Zgg.mp hs).1
 have:=S.ok i s hs
 rw[Zf7,Zf8 hi] at this
 simp only[Zmf] at this
 cases hv:U[i] with
 | none =>
  rw[hv] at this
  cases s with
  | un=>exact absurd rfl hn
  | d x=>obtain⟨v,ev,_⟩:=this;cases ev
  | o p xs=>obtain⟨ev,_⟩:=this;cases ev
  | oo p qs=>obtain⟨ev,_⟩:=this;cases ev
  | g v as W=>obtain⟨ev,_⟩:=this;cases ev
 | some v =>
  rw[hv] at this
  exact⟨v,by rw[Zf8 hi,hv],this⟩
theorem Sat.getD(S:Sat K G Hz L F H U ss){i:Nat}{x:D}(hs:ss[i]? = some (.d x)):∃v,U[i]? = some (some v)/\Rep K F x v:=by
 obtain⟨v,e,w,ew,r⟩:=S.get hs (by intro z;cases z)
 cases ew
 exact⟨v,e,r⟩
theorem Sat.getO(S:Sat K G Hz L F H U ss){i:Nat}{p:Addr}{xs:List D}(hs:ss[i]? = some (.o p xs)):U[i]? = some (some (.ref p))/\OwnL K Hz F H p xs:=by
 obtain⟨v,e,ew,r⟩:=S.get hs (by intro z;cases z)
 cases ew
 exact⟨e,r⟩
theorem zd3{U:St}{i:Nat}{v:Option V}(h:i<U.length):(U.set i v).getD i none=v:=by
 rw[Zf7,Zku h];rfl
theorem zfr{U:St}{i j:Nat}{v:Option V}(h:i≠j):(U.set i v).getD j none=U.getD j none:=by
 rw[Zf7,Zld h,Zf7]
theorem zeb{i j:Nat}{s t:Sl}(h:(ss.set i s)[j]? = some t):(i=j/\t=s/\i<ss.length)\/(i≠j/\ss[j]? = some t):=by
 by_cases hj:i=j
 .subst hj
  have hi:=(Zgg.mp h).1
  rw[Zti] at hi
  rw[Zku hi] at h
  exact .inl ⟨rfl,(Zhz h).symm,hi⟩
 .rw[Zld hj] at h;exact .inr ⟨hj,h⟩
theorem Sat.put{U':St}(S:Sat K G Hz L F H U ss){i:Nat}{s:Sl}(ex:Ext G Hz F' H')(fl:Same L F')(hl:U'.length=U.length)(hσ:∀j,j≠i->U'.getD j none=U.getD j none)(hi:i<ss.length->SlOk K Hz F' H' (U'.getD i none) s)
  (nd:s.ads.Nodup) (dj:∀(j:Nat) s',j≠i->ss[j]? = some s'-> ∀p∈s.ads,p∉s'.ads) (st:∀(j:Nat) s',j≠i->ss[j]? = some s'->SlOk K Hz F' H' (U.getD j none) s'):Sat K G Hz L F' H' U' (ss.set i s):=by
 refine⟨ex,fl,by rw[Zti,hl,S.len],fun j t ht=>?_,fun j t ht=>?_,fun j k t u hjk ht hu=>?_⟩
 .rcases zeb ht with ⟨rfl,rfl,hlt⟩ | ⟨hj,ht⟩
  .exact hi hlt
  .rw[hσ j (Zho hj)];exact st j t (Zho hj) ht
 .rcases zeb ht with ⟨rfl,rfl,_⟩ | ⟨hj,ht⟩
  .exact nd
  .exact S.nd j t ht
 .rcases zeb ht with ⟨rfl,rfl,_⟩ | ⟨hj,ht'⟩
  .rcases zeb hu with ⟨rfl,rfl,_⟩ | ⟨hk,hu'⟩
   .exact absurd rfl hjk
   .exact dj k u (Zho hk) hu'
  .rcases zeb hu with ⟨rfl,rfl,_⟩ | ⟨hk,hu'⟩
   .exact fun p hp hp'=>dj j t (Zho hj) ht' p hp' hp
   .exact S.ne j k t u hjk ht' hu'
theorem Sat.setD(S:Sat K G Hz L F H U ss){i:Nat}{x:D}{v:V}(r:Rep K F x v):Sat K G Hz L F H (U.set i (some v)) (ss.set i (.d x)) :=
 S.put S.ext S.fl (by simp) (fun j hj=>zfr (Zho hj)) (fun hi=>by rw[zd3 (by rw[S.len];exact hi)];exact⟨v,rfl,r⟩) (by simp[Sl.ads]) (fun _ _ _ _ p hp=>by simp[Sl.ads] at hp) fun j s' _ h=>S.ok j s' h
theorem Sat.setO(S:Sat K G Hz L F H U ss){i:Nat}{xs:List D}{p:Addr}(r:OwnL K Hz F H p xs)(hne:∀(j:Nat) s',j≠i->ss[j]? = some s'->p∉s'.ads):Sat K G Hz L F H (U.set i (some (.ref p))) (ss.set i (.o p xs)) :=
 S.put S.ext S.fl (by simp) (fun j hj=>zfr (Zho hj)) (fun hi=>by rw[zd3 (by rw[S.len];exact hi)];exact⟨rfl,r⟩) (by simp[Sl.ads]) (fun j s' hj h q hq=>by simp[Sl.ads] at hq;subst hq;exact hne j s' hj h) fun j s' _ h=>S.ok j s' h
theorem Sat.write(S:Sat K G Hz L F H U ss){i:Nat}{xs ys:List D}{p:Addr}{vs:List V}(hs:ss[i]? = some (.o p xs))(r:Reps K F ys vs):Sat K G Hz L F (upd H p (.lst vs)) U (ss.set i (.o p ys)):=by
 obtain⟨e,h0,fp,ws,hp,_⟩:=S.getO hs
 have hget:U.getD i none=some (.ref p):=by rw[Zf7,e];rfl
 refine S.put (S.ext.write fp h0) S.fl rfl (fun _ _=>rfl) (fun _=>by rw[hget];exact⟨rfl,h0,fp,vs,zan,r⟩) (by simp[Sl.ads]) (fun j s' hj h q hq=>?_) fun j s' hj h=>(S.ok j s' h).updNe (S.ne i j _ s' (Zho hj) hs h p (by simp[Sl.ads]))
 simp[Sl.ads] at hq;subst hq
 exact S.ne i j _ s' (Zho hj) hs h q (by simp[Sl.ads])
theorem Sat.freeze(S:Sat K G Hz L F H U ss){i:Nat}{p:Addr}{xs:List D}(hs:ss[i]? = some (.o p xs)):∃F',Sat K G Hz L F' H U (ss.set i (.d (.lst xs))):=by
 obtain⟨e,h0,fp,vs,hp,r⟩:=S.getO hs
 have hget:U.getD i none=some (.ref p):=by rw[Zf7,e];rfl
 exact⟨upd F p (.lst vs),S.put (S.ext.freeze fp h0 hp) (S.fl.trans (Same.upd fp)) rfl (fun _ _=>rfl) (fun _=>by rw[hget];exact⟨_,rfl,Rep.lst (SqL.of zan) (r.mono (Same.upd fp))⟩) (by simp[Sl.ads]) (fun _ _ _ _ q hq=>by simp[Sl.ads] at hq)
  fun j s' hj h=>(S.ok j s' h).frz fp (S.ne i j _ s' (Zho hj) hs h p (by simp[Sl.ads]))⟩
theorem Sat.raise(S:Sat K G Hz L F H U ss):Sat K G Hz F F H U ss:=⟨S.ext,Same.refl _,S.len,S.ok,S.nd,S.ne⟩
theorem Sat.lower{L':Hp}(S:Sat K G Hz L' F H U ss)(h:Same L L'):Sat K G Hz L F H U ss:=⟨S.ext,h.trans S.fl,S.len,S.ok,S.nd,S.ne⟩
end
section
variable(K:Zf6)(G Hz L:Hp)(ss:List Sl)
noncomputable def Ev(t:TE)(d:D):Prop:=∀F H U Q,Sat K G Hz L F H U ss->(∀v F' H',Ext F H F' H'->Rep K F' d v->Q v H')->t U H Q
noncomputable def EvO(t:TE)(ds:List D):Prop:=∀F H U Q,Sat K G Hz L F H U ss->(∀p vs F' H',Ext F H F' H'->H p=none->F' p=none->H' p=some (.lst vs)->Reps K F' ds vs->Q (.ref p) H')->t U H Q
noncomputable def EvL(t:TE)(ds:List D):Prop:=∀F H U Q,Sat K G Hz L F H U ss->(∀p vs F' H',Ext F H F' H'->SqL K H' p vs->Reps K F' ds vs->Q (.ref p) H')->t U H Q
noncomputable def EvB(t:TE)(d:D):Prop:=∀F H U Q,Sat K G Hz L F H U ss->(∀v F' H',Ext F H F' H'->Rep K H' d v->Q v H')->t U H Q
noncomputable def EvT(t:TT)(b:Bool):Prop:=∀F H U (Q:Bool->Hp->Prop),Sat K G Hz L F H U ss->(∀F' H',Ext F H F' H'->Q b H')->t U H Q
noncomputable def EvAF(t:TA)(ds:List D):Prop:=∀F H U (Q:List V->Hp->Prop),Sat K G Hz L F H U ss->(∀vs F' H',Ext F H F' H'->Reps K F' ds vs->Q vs H')->t U H Q
end
section
variable{K:Zf6}{G Hz L:Hp}{ss:List Sl}{t ta tb:TE}{d d1 d2:D}{ds es:List D}
theorem EvO.ev(h:EvO K G Hz L ss t ds):Ev K G Hz L ss t (.lst ds):=fun F H U Q S q=>h F H U Q S fun p vs F' H' e hp fp hp' r=>q _ _ _ (e.freeze fp hp hp') (Rep.lst (SqL.of zan) (r.mono (Same.upd fp)))
theorem EvO.l(h:EvO K G Hz L ss t ds):EvL K G Hz L ss t ds:=fun F H U Q S q=>h F H U Q S fun p vs F' H' e hp fp hp' r=>q _ _ _ _ e (SqL.of hp') r
theorem Ev.l(h:Ev K G Hz L ss t (.lst ds)):EvL K G Hz L ss t ds:=fun F H U Q S q=>h F H U Q S fun v F' H' e r=>by
 obtain⟨p,xs,rfl,sq,rs⟩:=r.of_lst
 exact q _ _ _ _ e (SqL.same e.fh sq) rs
theorem Ev.b(h:Ev K G Hz L ss t d):EvB K G Hz L ss t d:=fun F H U Q S q=>h F H U Q S fun v F' H' e r=>q _ _ _ e (r.mono e.fh)
theorem zab{i:Nat}(hs:ss[i]? = some (.d d)):Ev K G Hz L ss (tVar i) d:=fun F H U Q S q=>by
 obtain⟨v,e,r⟩:=S.getD hs
 exact⟨v,e,q _ _ _ (Ext.refl S.ext.fh) r⟩
theorem zew{i:Nat}{p:Addr}(hs:ss[i]? = some (.o p ds)):EvL K G Hz L ss (tVar i) ds:=fun F H U Q S q=>by
 obtain⟨e,h0,fp,vs,hp,r⟩:=S.getO hs
 exact⟨.ref p,e,q _ _ _ _ (Ext.refl S.ext.fh) (SqL.of hp) r⟩
theorem zaf{i:Int}:Ev K G Hz L ss (tC (.int i)) (.int i):=fun F H U Q S q=>q _ _ _ (Ext.refl S.ext.fh) Rep.int
theorem yco{b:Bool}:Ev K G Hz L ss (tC (.bl b)) (.bl b):=fun F H U Q S q=>q _ _ _ (Ext.refl S.ext.fh) Rep.bl
theorem zaw{x:Str}{l:List Nat}(h:x=T l)(ha:∀c∈l,c<128):Ev K G Hz L ss (tC (.str x)) (.str l):=fun F H U Q S q=>by subst h;exact q _ _ _ (Ext.refl S.ext.fh) (Rep.str ha)
theorem zc8{r:R2}{w:V}(a:EvB K G Hz L ss ta d1)(b:EvB K G Hz L ss tb d2)(hr:∀H x y (Q:VK),Rep K H d1 x->Rep K H d2 y->Q w H->r x y H Q)(hw:∀F H x y,Rep K H d1 x->Rep K H d2 y->Rep K F d w):Ev K G Hz L ss (tOp r ta tb) d:=fun F H U Q S q =>
 a F H U _ S fun x F1 H1 e1 r1=>b F1 H1 U _ (S.ext2 e1) fun y F2 H2 e2 r2=>hr H2 x y Q (r1.mono e2.hh) r2 (q _ _ _ (e1.trans e2) (hw _ _ _ _ (r1.mono e2.hh) r2))
theorem zes{i j:Int}(a:EvB K G Hz L ss ta (.int i))(b:EvB K G Hz L ss tb (.int j)):Ev K G Hz L ss (tOp (rI0 fun i j=>.int (i+j)) ta tb) (.int (i+j)) :=
 zc8 a b (fun H x y Q r1 r2 q=>⟨i,j,r1.of_int,r2.of_int,q⟩) fun _ _ _ _ _ _=>Rep.int
theorem zq4{i j:Int}(a:EvB K G Hz L ss ta (.int i))(b:EvB K G Hz L ss tb (.int j)):Ev K G Hz L ss (tOp (rI0 fun i j=>.int (i - j)) ta tb) (.int (i - j)) :=
 zc8 a b (fun H x y Q r1 r2 q=>⟨i,j,r1.of_int,r2.of_int,q⟩) fun _ _ _ _ _ _=>Rep.int
theorem zw5{C:Int->Int->Prop}{g:Int->Int->Int}{i j:Int}(a:EvB K G Hz L ss ta (.int i))(b:EvB K G Hz L ss tb (.int j))(hC:C i j):Ev K G Hz L ss (tOp (rI C fun i j=>.int (g i j)) ta tb) (.int (g i j)) :=
 zc8 a b (fun H x y Q r1 r2 q=>⟨i,j,r1.of_int,r2.of_int,hC,q⟩) fun _ _ _ _ _ _=>Rep.int
theorem zke{g:Int->Int->Bool}{i j:Int}(a:EvB K G Hz L ss ta (.int i))(b:EvB K G Hz L ss tb (.int j)):Ev K G Hz L ss (tOp (rI0 fun i j=>.bl (g i j)) ta tb) (.bl (g i j)) :=
 zc8 a b (fun H x y Q r1 r2 q=>⟨i,j,r1.of_int,r2.of_int,q⟩) fun _ _ _ _ _ _=>Rep.bl
theorem zf1{i j:Int}(a:EvB K G Hz L ss ta (.int i))(b:EvB K G Hz L ss tb (.int j)):Ev K G Hz L ss (tOp rEq ta tb) (.bl (decide (i=j))) :=
 zc8 (w:=.bl (decide (i=j))) a b (fun H x y Q r1 r2 q=>by rw[r1.of_int,r2.of_int];exact⟨rfl,by simpa using q⟩) fun _ _ _ _ _ _=>Rep.bl
theorem zxb{i j:Int}(a:EvB K G Hz L ss ta (.int i))(b:EvB K G Hz L ss tb (.int j)):Ev K G Hz L ss (tOp rNe ta tb) (.bl (!decide (i=j))) :=
 zc8 (w:=.bl (!decide (i=j))) a b (fun H x y Q r1 r2 q=>by rw[r1.of_int,r2.of_int];exact⟨rfl,by simpa using q⟩) fun _ _ _ _ _ _=>Rep.bl
theorem ziu{l m:List Nat}(a:EvB K G Hz L ss ta (.str l))(b:EvB K G Hz L ss tb (.str m)):Ev K G Hz L ss (tOp rEq ta tb) (.bl (decide (l=m))) :=
 zc8 (w:=.bl (decide (l=m))) a b (fun H x y Q r1 r2 q=>by rw[r1.of_str,r2.of_str];exact⟨rfl,by rw[zha];exact q⟩) fun _ _ _ _ _ _=>Rep.bl
theorem zxp{l m:List Nat}(a:EvB K G Hz L ss ta (.str l))(b:EvB K G Hz L ss tb (.str m)):Ev K G Hz L ss (tOp rNe ta tb) (.bl (!decide (l=m))) :=
 zc8 (w:=.bl (!decide (l=m))) a b (fun H x y Q r1 r2 q=>by rw[r1.of_str,r2.of_str];exact⟨rfl,by rw[zha];exact q⟩) fun _ _ _ _ _ _=>Rep.bl
theorem zbk{l m:List Nat}(a:EvB K G Hz L ss ta (.str l))(b:EvB K G Hz L ss tb (.str m))(hz:l.length+m.length<=sizeLine) :
  Ev K G Hz L ss (tOp (fun x y H Q=>∃i j,x= .str i/\y= .str j/\i.length+j.length<=sizeLine/\Q (.str (i++j)) H) ta tb) (.str (l++m)) :=
 zc8 (w:=.str (T (l++m))) a b (fun H x y Q r1 r2 q=>⟨_,_,r1.of_str,r2.of_str,by rw[zbm,zbm];exact hz,by rw[zx2];exact q⟩) fun _ _ _ _ r1 r2=>Rep.str fun c hc=>(Zhl.mp hc).elim (r1.asc c) (r2.asc c)
theorem zy2{α:Type}{xs:List α}{i:Int}{x:α}(h:atI xs i=some x):x∈xs:=by
 unfold atI at h
 cases hx:ixN xs.length i with
 | none=>rw[hx] at h;cases h
 | some j=>rw[hx] at h;exact Zgm h
theorem zpo{l:List Nat}{i:Int}{c:Nat}(a:EvB K G Hz L ss ta (.str l))(b:EvB K G Hz L ss tb (.int i))(hz:l.length<=sizeLine)(hc:atI l i=some c):Ev K G Hz L ss (tOp rIxS ta tb) (.str [c]) :=
 zc8 (w:=.str (T [c])) a b (fun H x y Q r1 r2 q=>⟨_,_,c,r1.of_str,r2.of_int,by rw[zbm];exact hz,by rw[zd2];exact hc,q⟩) fun _ _ _ _ r1 r2=>Rep.str fun c' hc'=>by
  rw[Zgn.mp hc']
  exact r1.asc c (zy2 hc)
theorem Reps.atI{H:Hp}{ds:List D}{vs:List V}{i:Int}{d:D}(r:Reps K H ds vs)(h:L2.atI ds i=some d):∃v,L2.atI vs i=some v/\Rep K H d v:=by
 unfold L2.atI at h ⊢
 rw[r.length] at h
 cases hx:ixN vs.length i with
 | none=>rw[hx] at h;cases h
 | some j=>rw[hx] at h;exact r.get' h
theorem zbe{i:Int}(a:EvL K G Hz L ss ta ds)(b:EvB K G Hz L ss tb (.int i))(hc:atI ds i=some d):Ev K G Hz L ss (tOp (rIxL K) ta tb) d:=fun F H U Q S q =>
 a F H U _ S fun p vs F1 H1 e1 sq r1=>b F1 H1 U _ (S.ext2 e1) fun y F2 H2 e2 r2=>by
  obtain⟨v,hv,rv⟩:=r1.atI hc
  exact⟨p,vs,i,v,rfl,r2.of_int,SqL.same e2.hh sq,hv,q _ _ _ (e1.trans e2) (rv.mono e2.gf)⟩
theorem zaj:EvAF K G Hz L ss tNil []:=fun F H U Q S q=>q _ _ _ (Ext.refl S.ext.fh) Reps.nil
theorem zac{t:TA}(a:Ev K G Hz L ss ta d)(b:EvAF K G Hz L ss t ds):EvAF K G Hz L ss (za7 ta t) (d::ds):=fun F H U Q S q =>
 a F H U _ S fun x F1 H1 e1 r1=>b F1 H1 U _ (S.ext2 e1) fun vs F2 H2 e2 r2=>q _ _ _ (e1.trans e2) (Reps.cons (r1.mono e2.gf) r2)
theorem zmk{t:TA}(a:EvAF K G Hz L ss t ds)(hz:ds.length<=sizeLine):Ev K G Hz L ss (tTup t) (.tup ds):=fun F H U Q S q =>
 a F H U _ S fun vs F1 H1 e1 r1=>⟨by rw[<- r1.length];exact hz,fun p hp=>q _ _ _ (e1.newF hp) (Rep.tupN (zan) (r1.mono (Same.upd (e1.fh.free hp))))⟩
theorem zfi{t:TA}(a:EvAF K G Hz L ss t ds)(hz:ds.length<=sizeLine):EvO K G Hz L ss (tLst t) ds:=fun F H U Q S q =>
 a F H U _ S fun vs F1 H1 e1 r1=>⟨by rw[<- r1.length];exact hz,fun p hp=>q p vs F1 _ (e1.newO hp) (e1.hh.free hp) (e1.fh.free hp) zan r1⟩
theorem zap{b:Bool}(a:Ev K G Hz L ss t (.bl b)):EvT K G Hz L ss (zwf t) b:=fun F H U Q S q=>a F H U _ S fun v F' H' e r=>⟨b,r.of_bl,q _ _ e⟩
theorem zrm{b:Bool}(a:Ev K G Hz L ss t (.bl b)):EvT K G Hz L ss (tB t) b:=fun F H U Q S q=>a F H U _ S fun v F' H' e r=>⟨b,r.of_bl,q _ _ e⟩
theorem zkb{u:TT}{b:Bool}(a:EvT K G Hz L ss u b):EvT K G Hz L ss (tNot u) (!b):=fun F H U Q S q=>a F H U _ S fun F' H' e=>q _ _ e
theorem zfn{u v:TT}{b c:Bool}(a:EvT K G Hz L ss u b)(h:b=true->EvT K G Hz L ss v c):EvT K G Hz L ss (tAnd u v) (b&&c):=fun F H U Q S q=>a F H U _ S fun F' H' e=>by
 cases b with
 | false=>exact iteF (q _ _ e)
 | true=>exact iteT (h rfl _ _ _ _ (S.ext2 e) fun F'' H'' e'=>q _ _ (e.trans e'))
theorem zrs{u v:TT}{b c:Bool}(a:EvT K G Hz L ss u b)(h:b=false->EvT K G Hz L ss v c):EvT K G Hz L ss (tOr u v) (b||c):=fun F H U Q S q=>a F H U _ S fun F' H' e=>by
 cases b with
 | true=>exact iteT (q _ _ e)
 | false=>exact iteF (h rfl _ _ _ _ (S.ext2 e) fun F'' H'' e'=>q _ _ (e.trans e'))
theorem zre{b c:Bool}(a:Ev K G Hz L ss ta (.bl b))(h:b=true->Ev K G Hz L ss tb (.bl c)):Ev K G Hz L ss (zx0 ta tb) (.bl (b&&c)):=fun F H U Q S q=>a F H U _ S fun v F' H' e r=>by
 refine⟨b,r.of_bl,?_⟩
 cases b with
 | false=>exact iteF (q _ _ _ e Rep.bl)
 | true=>exact iteT (h rfl _ _ _ _ (S.ext2 e) fun v F'' H'' e' r'=>q _ _ _ (e.trans e') r')
theorem yc3{b c:Bool}(a:Ev K G Hz L ss ta (.bl b))(h:b=false->Ev K G Hz L ss tb (.bl c)):Ev K G Hz L ss (tOrV ta tb) (.bl (b||c)):=fun F H U Q S q=>a F H U _ S fun v F' H' e r=>by
 refine⟨b,r.of_bl,?_⟩
 cases b with
 | true=>exact iteT (q _ _ _ e Rep.bl)
 | false=>exact iteF (h rfl _ _ _ _ (S.ext2 e) fun v F'' H'' e' r'=>q _ _ _ (e.trans e') r')
end
noncomputable def SpD(K:Zf6)(pre:List D->Prop)(res:List D->D):Sp:=fun vs H Q _=>∃G ds,Same G H/\Reps K G ds vs/\pre ds /\ ∀v G' H',Ext G H G' H'->Rep K G' (res ds) v->Q v H'
noncomputable def SpO(K:Zf6)(pre:List D->Prop)(res:List D->List D):Sp:=fun vs H Q _=>∃G ds,Same G H/\Reps K G ds vs/\pre ds /\ ∀p ws G' H',Ext G H G' H'->H p=none->G' p=none->H' p=some (.lst ws)->Reps K G' (res ds) ws->Q (.ref p) H'
noncomputable def D.flat:D->Bool
 | .lst _=>false | .tup _=>false | .dct _ _=>false | .dctT _ _=>false | .ins _ _ _=>false | _=>true
theorem Rep.flat{K:Zf6}{H H':Hp}{d:D}{v:V}(f:d.flat=true)(r:Rep K H d v):Rep K H' d v:=by
 cases d with
 | lst _=>cases f
 | tup _=>cases f
 | dct _ _=>cases f
 | dctT _ _=>cases f
 | ins _ _ _=>cases f
 | non=>rw[r.of_non];exact Rep.non
 | bl b=>rw[r.of_bl];exact Rep.bl
 | int i=>rw[r.of_int];exact Rep.int
 | str l=>rw[r.of_str];exact Rep.str r.asc
section
variable{K:Zf6}{G Hz L:Hp}{ss:List Sl}{t:TA}{ds:List D}{pre:List D->Prop}{E:XK}
theorem zbc{res:List D->D}(a:EvAF K G Hz L ss t ds)(hp:pre ds):Ev K G Hz L ss (ziw (SpD K pre res) [] E t) (res ds):=fun F H U Q S q =>
 a F H U _ S fun vs F1 H1 e1 r1=>⟨F1,ds,e1.fh,by rw[Zit];exact r1,hp,fun v G' H' e2 r=>q _ _ _ (e1.trans e2) r⟩
theorem zkh{res:List D->List D}(a:EvAF K G Hz L ss t ds)(hp:pre ds):EvO K G Hz L ss (ziw (SpO K pre res) [] E t) (res ds):=fun F H U Q S q =>
 a F H U _ S fun vs F1 H1 e1 r1=>⟨F1,ds,e1.fh,by rw[Zit];exact r1,hp,fun p ws G' H' e2 h1 h2 h3 r=>q _ _ _ _ (e1.trans e2) (e1.hh.free h1) h2 h3 r⟩
end
section
variable(K:Zf6)(G Hz L:Hp)
noncomputable def Nx(P:St->Hp->Prop)(ss:List Sl):Prop:=∀F H U,Sat K G Hz L F H U ss->P U H
noncomputable def Go(E:Ends)(ss:List Sl)(t:TS):Prop:=∀F H U,Sat K G Hz L F H U ss->t E U H
noncomputable def Tg(g:TG)(d:D)(ss ss':List Sl):Prop:=∀F H U v (Q:St->Hp->Prop),Sat K G Hz L F H U ss->Rep K F d v->(∀U' , Sat K G Hz L F H U' ss'->Q U' H)->g v U H Q
noncomputable def Tgs(g:TGs)(ds:List D)(ss ss':List Sl):Prop:=∀F H U vs (Q:St->Hp->Prop),Sat K G Hz L F H U ss->Reps K F ds vs->(∀U' , Sat K G Hz L F H U' ss'->Q U' H)->g vs U H Q
noncomputable def At(I:List Sl->Prop):St->Hp->Prop:=fun U H=>∃ss F,Sat K G Hz L F H U ss/\I ss
end
noncomputable def RtD(K:Zf6)(G Hz:Hp)(rt:VK)(d:D):Prop:=∀v F H,Ext G Hz F H->Rep K F d v->rt v H
noncomputable def RtO(K:Zf6)(G Hz:Hp)(rt:VK)(ds:List D):Prop:=∀p vs F H,Ext G Hz F H->Hz p=none->F p=none->H p=some (.lst vs)->Reps K F ds vs->rt (.ref p) H
section
variable{K:Zf6}{G Hz L:Hp}{ss ss':List Sl}{E:Ends}{t u:TS}{te:TE}{d:D}{ds:List D}{P:St->Hp->Prop}
theorem zao(h:Go K G Hz L { E with nx:=u E } ss t):Go K G Hz L E ss (tSeq t u):=h
theorem zb5{i:Nat}(a:Ev K G Hz L ss te d)(h:Nx K G Hz L E.nx (ss.set i (.d d))):Go K G Hz L E ss (tAsg te (zh3 i)):=fun F H U S=>a F H U _ S fun v F' H' e r=>h F' H' _ ((S.ext2 e).setD r)
theorem Sat.notin{F H:Hp}{U:St}{p:Addr}(S:Sat K G Hz L F H U ss)(hp:H p=none)(j:Nat)(s:Sl)(h:ss[j]? = some s):p∉s.ads:=fun z=>(S.ok j s h).live z hp
theorem Sat.newO{F H F' H':Hp}{U:St}{p:Addr}{vs:List V}{i:Nat}(S:Sat K G Hz L F H U ss)(e:Ext F H F' H')(hp:H p=none)(fp:F' p=none)(hp':H' p=some (.lst vs))(r:Reps K F' ds vs):Sat K G Hz L F' H' (U.set i (some (.ref p))) (ss.set i (.o p ds)) :=
 (S.ext2 e).setO ⟨S.ext.hh.free hp,fp,vs,hp',r⟩ fun j s _ h=>S.notin hp j s h
theorem zdq{i:Nat}(a:EvO K G Hz L ss te ds)(h:∀p,Nx K G Hz L E.nx (ss.set i (.o p ds))):Go K G Hz L E ss (tAsg te (zh3 i)):=fun F H U S=>a F H U _ S fun p vs F' H' e hp fp hp' r=>h p F' H' _ (S.newO e hp fp hp' r)
theorem yb3{g:TG}(a:Ev K G Hz L ss te d)(hg:Tg K G Hz L g d ss ss')(h:Nx K G Hz L E.nx ss'):Go K G Hz L E ss (tAsg te g):=fun F H U S=>a F H U _ S fun v F' H' e r=>hg F' H' U v _ (S.ext2 e) r fun U' S'=>h F' H' U' S'
theorem zyb(a:EvB K G Hz L ss te d)(h:Nx K G Hz L E.nx ss):Go K G Hz L E ss (zwp te):=fun F H U S=>a F H U _ S fun v F' H' e r=>h F' H' _ (S.ext2 e)
theorem zb2{c:TT}{b:Bool}(a:EvT K G Hz L ss c b)(h1:b=true->Go K G Hz L E ss t)(h2:b=false->Go K G Hz L E ss u):Go K G Hz L E ss (tIfS c t u):=fun F H U S=>a F H U _ S fun F' H' e=>by
 cases b with
 | true=>exact iteT (h1 rfl F' H' U (S.ext2 e))
 | false=>exact iteF (h2 rfl F' H' U (S.ext2 e))
theorem za1(h:Nx K G Hz L E.nx ss):Go K G Hz L E ss ybm:=h
theorem zbi(a:Ev K G Hz L ss te d)(h:RtD K G Hz E.rt d):Go K G Hz L E ss (tRet te):=fun F H U S=>a F H U _ S fun v F' H' e r=>h v F' H' (S.ext.trans e) r
theorem znm(a:EvO K G Hz L ss te ds)(h:RtO K G Hz E.rt ds):Go K G Hz L E ss (tRet te):=fun F H U S=>a F H U _ S fun p vs F' H' e hp fp hp' r=>h p vs F' H' (S.ext.trans e) (S.ext.hh.free hp) fp hp' r
theorem zq3{i:Nat}{p:Addr}(hs:ss[i]? = some (.o p ds))(h:RtO K G Hz E.rt ds):Go K G Hz L E ss (tRet (tVar i)):=fun F H U S=>by
 obtain⟨e,h0,fp,vs,hp,r⟩:=S.getO hs
 exact⟨.ref p,e,h p vs F H S.ext h0 fp hp r⟩
theorem zdc{i:Nat}{p:Addr}(hs:ss[i]? = some (.o p ds))(h:Nx K G Hz L P (ss.set i (.d (.lst ds)))):Nx K G Hz L P ss:=fun F H U S=>by
 obtain⟨F',S'⟩:=S.freeze hs
 exact h F' H U S'
theorem zay(h:Go K G Hz L E ss t):Nx K G Hz L (t E) ss:=h
theorem zvy{I:List Sl->Prop}(h:I ss):Nx K G Hz L (At K G Hz L I) ss:=fun F H U S=>⟨ss,F,S,h⟩
theorem zsu(I:List Sl->Prop)(h1:∀N:St->Hp->Prop,(∀ss,I ss->Nx K G Hz L N ss)->Go K G Hz L { E with nx:=N } ss t)(h2:∀ss,I ss->Go K G Hz L E ss u):Go K G Hz L E ss (tSeq t u):=h1 _ h2
theorem za5{i:Nat}:Tg K G Hz L (zh3 i) d ss (ss.set i (.d d)):=fun F H U v Q S r q=>q _ (S.setD r)
theorem ze2:Tgs K G Hz L gNil [] ss ss:=fun F H U vs Q S r q=>by
 rw[Reps] at r
 exact⟨r,q _ S⟩
theorem zba{g:TG}{gs:TGs}{ss1 ss2:List Sl}(a:Tg K G Hz L g d ss ss1)(b:Tgs K G Hz L gs ds ss1 ss2):Tgs K G Hz L (zyn g gs) (d::ds) ss ss2:=fun F H U vs Q S r q=>by
 rw[Reps] at r
 obtain⟨x,xs,rfl,r1,r2⟩:=r
 exact⟨x,xs,rfl,a F H U x _ S r1 fun U' S'=>b F H U' xs _ S' r2 q⟩
theorem zgr{g:TGs}{n:Nat}(hn:ds.length=n)(a:Tgs K G Hz L g ds ss ss'):Tg K G Hz L (gTup K n g) (.tup ds) ss ss':=fun F H U v Q S r q=>by
 obtain⟨p,xs,rfl,sq,rs⟩:=r.of_tup
 exact⟨p,xs,rfl,SqT.same S.ext.fh sq,by rw[<- rs.length];exact hn,a F H U xs _ S rs q⟩
theorem zh7{i:Nat}{p:Addr}{t1:TE}(hs:ss[i]? = some (.o p ds))(a:Ev K G Hz L ss t1 d)(hz:ds.length<sizeLine)(h:Nx K G Hz L E.nx (ss.set i (.o p (ds++[d])))) :
  Go K G Hz L E ss (zwp (tBM K "list" zuj (tVar i) (za7 t1 tNil))):=fun F H U S=>by
 obtain⟨e,h0,fp,vs,hp,r⟩:=S.getO hs
 refine⟨.ref p,e,.inl ⟨rfl,_,SqL.of hp⟩,a F H U _ S fun v F' H' e' r'=>?_⟩
 have S':=S.ext2 e'
 obtain⟨e2,h02,fp2,vs',hp2,r2⟩:=S'.getO hs
 exact⟨p,vs',v,rfl,rfl,hp2,by rw[<- r2.length];exact hz,h F' _ U (S'.write hs (r2.snoc r'))⟩
theorem Rep.itl{F H:Hp}{p:Addr}(h:Same F H)(r:Rep K F (.lst ds) (.ref p)):∃vs,SqL K H p vs/\Reps K F ds vs:=by
 obtain⟨q,xs,e,sq,rs⟩:=r.of_lst
 cases e
 exact⟨xs,SqL.same h sq,rs⟩
theorem ybw{tl:TE}{g:TG}{tb:TS}{α:Type}(enc:α->D)(xs:List α)(I:Nat->List Sl->Prop)(a:Ev K G Hz L ss tl (.lst (xs.map enc)))(h0:I 0 ss)
  (hs:∀L' k x ss,Same L L'->xs[k]? = some x->I k ss-> ∃ss',Tg K G Hz L' g (enc x) ss ss' /\ ∀N,(∀ss,I (k+1) ss->Nx K G Hz L' N ss)->Go K G Hz L' { E with nx:=N,ct:=N,bk:=E.nx } ss' tb)
  (hd:∀ss,I xs.length ss->Nx K G Hz L E.nx ss):Go K G Hz L E ss (tFor (ztp K tl) g tb):=fun F H U S =>
 a F H U _ S fun v F1 H1 e1 r1=>by
  obtain⟨p,vs,rfl,sq,rs⟩:=r1.of_lst
  refine⟨p,rfl,⟨vs,SqL.same e1.fh sq⟩,?_⟩
  refine⟨fun i m U' H'=>m=xs.length - i/\i<=xs.length/\At K G Hz F1 (I i) U' H',⟨_,rfl,Zhg _,ss,F1,(S.ext2 e1).raise,h0⟩,?_⟩
  rintro i m U' H' ⟨rfl,hi,ss1,F2,S2,h2⟩
  have rp:Rep K F2 (.lst (xs.map enc)) (.ref p):=r1.mono S2.fl
  obtain⟨ws,sq2,rs2⟩:=rp.itl S2.ext.fh
  have hlen:ws.length=xs.length:=by rw[<- rs2.length,Zge]
  by_cases hlt:i<xs.length
  .refine .inr ⟨⟨ws,ws[i]'(by lia),sq2,Zf8 _⟩,fun U'' H''=>At K G Hz F1 (I (i+1)) U'' H'',fun U'' H'' h=>⟨xs.length - (i+1),by lia,rfl,hlt,h⟩,fun x H'' y=>?_⟩
   obtain⟨rfl,y⟩:=y
   have hx:=y ws sq2
   obtain⟨dx,hdx,rx⟩:=rs2.get hx
   rw[Zgl,Zf8 hlt] at hdx
   cases hdx
   obtain⟨ss',tg,go⟩:=hs F1 i _ ss1 (S.fl.trans e1.gf) (Zf8 hlt) h2
   exact tg F2 _ U' x _ S2 rx fun U3 S3=>go _ (fun ss h=>zvy h) F2 _ U3 S3
  .have e:i=xs.length:=by lia
   subst e
   exact .inl ⟨⟨ws,sq2,by lia⟩,hd ss1 h2 F2 H' U' (S2.lower (S.fl.trans e1.gf))⟩
end
mutual
noncomputable def D.toP:D->Zjn
 | .non=>.none
 | .bl b=>.bool b
 | .int i=>.int i
 | .str l=>.str (T l)
 | .lst a=>.list (D.toPs a)
 | .tup a=>.tuple (D.toPs a)
 | .dct _ _=>.none
 | .dctT _ _=>.none
 | .ins _ _ _=>.none
noncomputable def D.toPs:List D->List Zjn
 | []=>[]
 | a::x=>a.toP::D.toPs x
end
mutual
theorem D.toP_depth:∀d:D,d.toP.depth=d.dep
 | .non=>rfl
 | .bl _=>rfl
 | .int _=>rfl
 | .str _=>rfl
 | .lst a=>by simp[D.toP,Ztw,D.dep,D.toPs_depth a]
 | .tup a=>by simp[D.toP,Ztw,D.dep,D.toPs_depth a]
 | .dct _ _=>rfl
 | .dctT _ _=>rfl
 | .ins _ _ _=>rfl
theorem D.toPs_depth:∀a:List D,Zsf (D.toPs a)=D.deps a
 | []=>rfl
 | d::a=>by simp[D.toPs,Zsf,D.deps,D.toP_depth d,D.toPs_depth a]
end
mutual
theorem D.eqv:∀d e:D,d.nb=true->e.nb=true->Zj4 d.toP e.toP=decide (d=e)
 | .non,e,_,h2=>by cases e <;> simp[D.toP,Zj4,D.nb] at h2 ⊢
 | .bl _,_,h1,_=>by simp[D.nb] at h1
 | .dct _ _,_,h1,_=>by simp[D.nb] at h1
 | .dctT _ _,_,h1,_=>by simp[D.nb] at h1
 | .ins _ _ _,_,h1,_=>by simp[D.nb] at h1
 | .int i,e,_,h2=>by
  cases e <;> simp[D.toP,Zj4,D.nb] at h2 ⊢
  exact Bool.beq_eq_decide_eq _ _
 | .str l,e,_,h2=>by
  cases e <;> simp[D.toP,Zj4,D.nb] at h2 ⊢
  rename_i m
  rw[Zh0];simp[ztu]
 | .lst a,e,h1,h2=>by
  cases e with
  | lst b =>
   simp only[D.nb] at h1 h2
   simp only[D.toP,Zj4,D.lst.injEq]
   exact D.eqvs a b h1 h2
  | _=>simp[D.toP,Zj4,D.nb] at h2 ⊢
 | .tup a,e,h1,h2=>by
  cases e with
  | tup b =>
   simp only[D.nb] at h1 h2
   simp only[D.toP,Zj4,D.tup.injEq]
   exact D.eqvs a b h1 h2
  | _=>simp[D.toP,Zj4,D.nb] at h2 ⊢
theorem D.eqvs:∀a b:List D,D.nbs a=true->D.nbs b=true->Zng (D.toPs a) (D.toPs b)=decide (a=b)
 | [],b,_,_=>by cases b <;> simp[D.toPs,Zng]
 | d::a,b,h1,h2=>by
  cases b with
  | nil=>simp[D.toPs,Zng]
  | cons e b =>
   simp only[D.nbs,Zgv] at h1 h2
   simp only[D.toPs,Zng,D.eqv d e h1.1 h2.1,D.eqvs a b h1.2 h2.2,Zjz]
   by_cases x:d=e <;> by_cases y:a=b <;> simp[x,y]
end
section
variable{X:Cx}{pins:List (Addr×Obj)}{U:St}{H:Hp}{s:Zgc}
theorem zyk{l:List Nat}(h:∀c∈l,c<128):Ztv (T l)=true:=by
 unfold Ztv T
 simp
 intro c hc
 have:=h c hc
 lia
mutual
theorem Inv.reads(I:Inv X pins U H s):∀{d:D} {v:V} {u:Zf9},d.nb=true->Rep X.K H d v->RelV v u->(∃as,Zxu s.heap u d.toP as)/\d.toP.canLay0=true
 | .non,_,_,_,r,q=>by rw[r.of_non] at q;cases q;exact⟨⟨_,Reads.none⟩,rfl⟩
 | .bl b,_,_,n,_,_=>by simp[D.nb] at n
 | .dct _ _,_,_,n,_,_=>by simp[D.nb] at n
 | .dctT _ _,_,_,n,_,_=>by simp[D.nb] at n
 | .ins _ _ _,_,_,n,_,_=>by simp[D.nb] at n
 | .int i,_,_,_,r,q=>by rw[r.of_int] at q;obtain⟨t,rfl⟩:=q;exact⟨⟨_,Reads.int i t⟩,rfl⟩
 | .str l,_,_,_,r,q=>by
  have ha:=r.asc
  rw[r.of_str] at q;obtain⟨t,rfl⟩:=q
  exact⟨⟨_,Reads.str _ t⟩,zyk ha⟩
 | .lst ds,_,_,nn,r,q=>by
  obtain⟨p,xs,rfl,sq,rs⟩:=r.of_lst
  cases q
  obtain⟨its,rv,⟨o,n,e,c,_,hd⟩,_⟩:=I.list sq
  obtain⟨⟨as,ra⟩,hc⟩:=I.readsAll (by simpa[D.nb] using nn) rs rv
  exact⟨⟨_,Reads.list e c hd (by simpa using ra)⟩,by simpa[D.toP,Zkt] using hc⟩
 | .tup ds,_,_,nn,r,q=>by
  obtain⟨p,xs,rfl,sq,rs⟩:=r.of_tup
  cases q
  obtain⟨its,rv,⟨o,e,c,n,hd⟩,_⟩:=I.tuple sq
  obtain⟨⟨as,ra⟩,hc⟩:=I.readsAll (by simpa[D.nb] using nn) rs rv
  exact⟨⟨_,Reads.tuple e c hd (by simpa using ra)⟩,by simpa[D.toP,Zkt] using hc⟩
theorem Inv.readsAll(I:Inv X pins U H s):∀{ds:List D} {vs:List V} {us:List Zf9},D.nbs ds=true->Reps X.K H ds vs->Vals vs us->(∃as,Zxt s.heap us (D.toPs ds) as)/\Zre (D.toPs ds)=true
 | [],_,_,_,r,q=>by
  rw[Reps] at r;subst r
  cases q
  exact⟨⟨_,ReadsAll.nil⟩,rfl⟩
 | d::ds,_,_,n,r,q=>by
  simp only[D.nbs,Zgv] at n
  rw[Reps] at r
  obtain⟨x,xs,rfl,r1,r2⟩:=r
  cases q with
  | cons q1 q2 =>
   obtain⟨⟨as,a⟩,hc⟩:=I.reads n.1 r1 q1
   obtain⟨⟨bs,b⟩,hc2⟩:=I.readsAll n.2 r2 q2
   exact⟨⟨_,ReadsAll.cons a b⟩,by simp[D.toPs,Zre,hc,hc2]⟩
end
end
noncomputable def rNeD(K:Zf6):R2:=fun x y H Q=>∃d e,Rep K H d x/\Rep K H e y/\d.nb=true/\e.nb=true/\d.dep<=60/\Q (.bl (!decide (d=e))) H
section
variable{X:Cx}
theorem ybr(hu:X.A.units+64<Zn5):OpR X (Zi1 .NotEq) (rNeD X.K):=by
 intro pins s U H x y v u Q I rx ry h
 obtain⟨d,e,r1,r2,n1,n2,hd,q⟩:=h
 obtain⟨⟨as,a⟩,c1⟩:=I.reads n1 r1 rx
 obtain⟨⟨bs,b⟩,c2⟩:=I.reads n2 r2 ry
 have h1:=D.toP_depth d
 refine SeqAt.compareNe_reads a b c1 c2 (by lia) ?_
 rw[D.eqv d e n1 n2]
 exact⟨.bl _,H,I,rfl,q⟩
theorem zkw(d:D)(hd:d.nb=true):∀ds:List D,D.nbs ds=true->((D.toPs ds).any fun y=>Zj4 y d.toP)=decide (d∈ds)
 | [],_=>by simp[D.toPs]
 | e::ds,h=>by
  simp only[D.nbs,Zgv] at h
  rw[D.toPs,Zko,zkw d hd ds h.2,D.eqv e d h.1 hd]
  by_cases x:e=d
  .subst x;simp
  .have:¬ d=e:=fun z=>x z.symm
   simp[x,this]
noncomputable def rInD(K:Zf6)(neg:Bool):R2:=fun x y H Q=>∃d ds,Rep K H d x/\(Rep K H (.lst ds) y\/Rep K H (.tup ds) y)/\d.nb=true/\D.nbs ds=true/\d.dep<=60/\Q (.bl (if neg then !decide (d∈ds) else decide (d∈ds))) H
theorem zlw(hu:X.A.units+64<Zn5):OpR X (Zi1 .In) (rInD X.K false):=by
 intro pins s U H x y v u Q I rx ry h
 obtain⟨d,ds,r1,r2,n1,n2,hd,q⟩:=h
 obtain⟨⟨as,a⟩,c1⟩:=I.reads n1 r1 rx
 have h1:=D.toP_depth d
 have fin:EP X pins U Q (.bool ((D.toPs ds).any fun y=>Zj4 y d.toP)) s:=by rw[zkw d n1 ds n2];exact⟨.bl _,H,I,rfl,q⟩
 rcases r2 with r2 | r2
 .obtain⟨⟨bs,b⟩,c2⟩:=I.reads (by simpa[D.nb] using n2) r2 ry
  rw[D.toP] at b c2
  exact SeqAt.in_list_reads b a (by simpa[Zkt] using c2) c1 (by lia) fin
 .obtain⟨⟨bs,b⟩,c2⟩:=I.reads (by simpa[D.nb] using n2) r2 ry
  rw[D.toP] at b c2
  exact SeqAt.in_tuple_reads b a (by simpa[Zkt] using c2) c1 (by lia) fin
theorem zs6(hu:X.A.units+64<Zn5):OpR X (Zi1 .NotIn) (rInD X.K true):=by
 intro pins s U H x y v u Q I rx ry h
 obtain⟨d,ds,r1,r2,n1,n2,hd,q⟩:=h
 obtain⟨⟨as,a⟩,c1⟩:=I.reads n1 r1 rx
 have h1:=D.toP_depth d
 have fin:EP X pins U Q (.bool (!(D.toPs ds).any fun y=>Zj4 y d.toP)) s:=by rw[zkw d n1 ds n2];exact⟨.bl _,H,I,rfl,q⟩
 rcases r2 with r2 | r2
 .obtain⟨⟨bs,b⟩,c2⟩:=I.reads (by simpa[D.nb] using n2) r2 ry
  rw[D.toP] at b c2
  exact SeqAt.notIn_list_reads b a (by simpa[Zkt] using c2) c1 (by lia) fin
 .obtain⟨⟨bs,b⟩,c2⟩:=I.reads (by simpa[D.nb] using n2) r2 ry
  rw[D.toP] at b c2
  exact SeqAt.notIn_tuple_reads b a (by simpa[Zkt] using c2) c1 (by lia) fin
end
section
variable{K:Zf6}{G Hz L:Hp}{ss:List Sl}{t ta tb:TE}{d d1 d2:D}{ds es:List D}
theorem ya4(a:EvB K G Hz L ss ta d1)(b:EvB K G Hz L ss tb d2)(n1:d1.nb=true)(n2:d2.nb=true)(hd:d1.dep<=60):Ev K G Hz L ss (tOp (rNeD K) ta tb) (.bl (!decide (d1=d2))) :=
 zc8 (w:=.bl (!decide (d1=d2))) a b (fun H x y Q r1 r2 q=>⟨d1,d2,r1,r2,n1,n2,hd,q⟩) fun _ _ _ _ _ _=>Rep.bl
theorem zo9(a:EvB K G Hz L ss ta d)(b:EvB K G Hz L ss tb (.tup ds))(n1:d.nb=true)(n2:D.nbs ds=true)(hd:d.dep<=60):Ev K G Hz L ss (tOp (rInD K false) ta tb) (.bl (decide (d∈ds))) :=
 zc8 (w:=.bl (decide (d∈ds))) a b (fun H x y Q r1 r2 q=>⟨d,ds,r1,.inr r2,n1,n2,hd,q⟩) fun _ _ _ _ _ _=>Rep.bl
theorem zlm(a:EvB K G Hz L ss ta d)(b:EvB K G Hz L ss tb (.tup ds))(n1:d.nb=true)(n2:D.nbs ds=true)(hd:d.dep<=60):Ev K G Hz L ss (tOp (rInD K true) ta tb) (.bl (!decide (d∈ds))) :=
 zc8 (w:=.bl (!decide (d∈ds))) a b (fun H x y Q r1 r2 q=>⟨d,ds,r1,.inr r2,n1,n2,hd,q⟩) fun _ _ _ _ _ _=>Rep.bl
end
theorem D.nbs_map{α:Type}{enc:α->D}(h:∀x,(enc x).nb=true):∀xs:List α,D.nbs (xs.map enc)=true
 | []=>rfl
 | x::xs=>by simp[D.nbs,h x,D.nbs_map h xs]
noncomputable def ItOk(K:Zf6)(J:It)(F' H':Hp)(n:Nat)(y:Nat->D):Prop:=∀F2 H2,Same F' F2->Same H' H2->Same F2 H2 ->
 (∀i,i<n->J.go i H2 /\ ∀x H3,J.yld i H2 x H3-> ∃F3,Ext F2 H2 F3 H3/\Rep K F3 (y i) x)/\J.stop n H2
noncomputable def EvI(K:Zf6)(G Hz L:Hp)(ss:List Sl)(wi:TI)(n:Nat)(y:Nat->D):Prop:=∀F H U R,Sat K G Hz L F H U ss->(∀F' H' J,Ext F H F' H'->ItOk K J F' H' n y->R J H')->wi U H R
section
variable{K:Zf6}{G Hz L:Hp}{ss:List Sl}
theorem zov{tl:TE}{ds:List D}(a:EvL K G Hz L ss tl ds):EvI K G Hz L ss (ztp K tl) ds.length fun i=>ds.getD i .non:=fun F H U R S q =>
 a F H U _ S fun p vs F' H' e sq r=>⟨p,rfl,⟨vs,sq⟩,q F' H' _ e fun F2 H2 f1 h1 fh=>by
  have sq2:=SqL.same h1 sq
  have hl:=r.length
  refine⟨fun i hi=>⟨⟨vs,vs[i]'(by lia),sq2,Zf8 _⟩,fun x H3 y=>?_⟩,⟨vs,sq2,by lia⟩⟩
  obtain⟨rfl,y⟩:=y
  obtain⟨d,hd,rd⟩:=r.get (y vs sq2)
  refine⟨F2,Ext.refl fh,?_⟩
  show Rep K F2 (ds.getD i D.non) x
  rw[Zf7,hd]
  exact rd.mono f1⟩
theorem zxu{tl:TE}{l:List Nat}(a:EvB K G Hz L ss tl (.str l)):EvI K G Hz L ss (iStr tl) l.length fun i=>.str [l.getD i 0]:=fun F H U R S q =>
 a F H U _ S fun v F' H' e r=>by
  have ha:=r.asc
  rw[r.of_str]
  refine⟨T l,rfl,q F' H' _ e fun F2 H2 f1 h1 fh=>?_⟩
  have ez:(T l).cps.toList=l:=zd2 l
  refine⟨fun i hi=>⟨by show i<_;rw[ez];exact hi,fun x H3 y=>?_⟩,by show _<=_;rw[ez];exact Zgf _⟩
  obtain⟨rfl,c,hc,rfl⟩:=y
  rw[ez] at hc
  refine⟨F2,Ext.refl fh,?_⟩
  have:l.getD i 0=c:=by rw[Zf7,hc];rfl
  show Rep K F2 (D.str [l.getD i 0]) _
  rw[this]
  exact Rep.str fun c' h'=>by rw[Zgn.mp h'];exact ha c (Zgm hc)
noncomputable def lcSl(nt:Nat)(cs:List Nat)(ss:List Sl):List Sl:=Zh1 nt .un++cs.map fun i=>ss.getD i .un
theorem Sat.lc{F H:Hp}{U:St}{nt:Nat}{cs:List Nat}(S:Sat K G Hz L F H U ss)(hc:cs.Nodup):Sat K G Hz L F H (lcS nt cs U) (lcSl nt cs ss):=by
 have cut:∀(i:Nat) s,(lcSl nt cs ss)[i]? = some s->s= .un \/ ∃j,nt<=i/\cs[i - nt]? = some j/\ss[j]? = some s:=by
  intro i s h
  unfold lcSl at h
  by_cases hi:i<nt
  .rw[Zie (by simpa using hi),Zkn,if_pos hi] at h
   exact .inl (Zhz h).symm
  .rw[Zio (by simpa using hi),Zir,Zgl] at h
   cases hj:cs[i - nt]? with
   | none=>rw[hj] at h;cases h
   | some j =>
    rw[hj] at h
    have h:ss.getD j .un=s:=Zhz h
    rw[Zf7] at h
    cases hs:ss[j]? with
    | none=>rw[hs] at h;exact .inl h.symm
    | some s'=>rw[hs] at h;exact .inr ⟨j,by lia,rfl,by rw[hs];exact congrArg some h⟩
 have val:∀(i j:Nat),nt<=i->cs[i - nt]? = some j->(lcS nt cs U).getD i none=U.getD j none:=by
  intro i j hi hj
  unfold lcS
  rw[Zf7,Zio (by simpa using hi),Zir,Zgl,hj]
  simp[Zf7]
 refine⟨S.ext,S.fl,by unfold lcS lcSl;simp,fun i s h=>?_,fun i s h=>?_,fun i j s s' hij h h' p hp=>?_⟩
 .rcases cut i s h with rfl | ⟨j,hi,hj,hs⟩
  .trivial
  .rw[val i j hi hj];exact S.ok j s hs
 .rcases cut i s h with rfl | ⟨j,hi,hj,hs⟩
  .simp[Sl.ads]
  .exact S.nd j s hs
 .rcases cut i s h with rfl | ⟨k,hi,hk,hs⟩
  .simp[Sl.ads] at hp
  .rcases cut j s' h' with rfl | ⟨m,hj,hm,hs'⟩
   .simp[Sl.ads]
   .have:k≠m:=fun z=>by
     subst z
     obtain⟨l1,e1⟩:=Zgg.mp hk
     obtain⟨l2,e2⟩:=Zgg.mp hm
     have:=(Zs2 hc).mp (e1.trans e2.symm)
     lia
    exact S.ne k m s s' this hs hs' p hp
noncomputable def GK(nt:Nat)(g:TG):Prop:=∀v U H (Q Q':St->Hp->Prop),(∀U' H',Q U' H'->U'.length=U.length->U'.drop nt=U.drop nt->Q' U' H')->g v U H Q->g v U H Q'
noncomputable def GKs(nt:Nat)(g:TGs):Prop:=∀v U H (Q Q':St->Hp->Prop),(∀U' H',Q U' H'->U'.length=U.length->U'.drop nt=U.drop nt->Q' U' H')->g v U H Q->g v U H Q'
theorem zcl{nt i:Nat}(h:i<nt):GK nt (zh3 i):=fun v U H Q Q' f q=>f _ _ q (by simp) (by rw[List.drop_set_of_lt h])
theorem znj{nt:Nat}:GKs nt gNil:=fun v U H Q Q' f q=>⟨q.1,f _ _ q.2 rfl rfl⟩
theorem zd4{nt:Nat}{g:TG}{gs:TGs}(a:GK nt g)(b:GKs nt gs):GKs nt (zyn g gs):=fun vs U H Q Q' f q=>by
 obtain⟨v,r,e,q⟩:=q
 exact⟨v,r,e,a v U H _ _ (fun U' H' q1 l1 d1=>b r U' H' Q Q' (fun U'' H'' q2 l2 d2=>f _ _ q2 (l2.trans l1) (d2.trans d1)) q1) q⟩
theorem zs3{nt n:Nat}{gs:TGs}(b:GKs nt gs):GK nt (gTup K n gs):=fun v U H Q Q' f q=>by
 obtain⟨a,xs,e,sq,hn,q⟩:=q
 exact⟨a,xs,e,sq,hn,b xs U H Q Q' f q⟩
theorem zks{wi:TI}{g:TG}{tt:TT}{te:TE}{nt:Nat}{cs:List Nat}{n:Nat}{y:Nat->D}(p:Nat->Bool)(f:Nat->D)(a:EvI K G Hz L ss wi n y)(hk:GK nt g)(hc:cs.Nodup)(hz:n<sizeLine)
  (hs:∀i,i<n-> ∃ss',Tg K G Hz L g (y i) (lcSl nt cs ss) ss'/\EvT K G Hz L ss' tt (p i)/\(p i=true->Ev K G Hz L ss' te (f i))) :
  EvO K G Hz L ss (tLC nt cs wi g tt te) (((Zg1 n).filter p).map f):=fun F H U Q S q =>
 a F H U _ S fun F1 H1 J e1 it=>by
  intro l hl
  have S1:=S.ext2 e1
  refine⟨fun i m H2=>m=n - i/\i<=n /\ ∃F2 vs,Ext F1 H1 F2 H2/\F2 l=none/\H2 l=some (.lst vs)/\Reps K F2 (((Zg1 i).filter p).map f) vs/\vs.length<=i,
   ⟨n,by lia,Zhg _,F1,[],(Ext.refl e1.fh).newO hl,e1.fh.free hl,zan,Reps.nil,Zgf _⟩,?_⟩
  rintro i m H2 ⟨rfl,hi,F2,vs,e2,fl,hl2,rs,hvs⟩
  obtain⟨it1,it2⟩:=it F2 H2 e2.gf e2.hh e2.fh
  by_cases hlt:i<n
  .obtain⟨go,yl⟩:=it1 i hlt
   refine .inr ⟨go,fun H'=>∃F2 vs,Ext F1 H1 F2 H'/\F2 l=none/\H' l=some (.lst vs)/\Reps K F2 (((Zg1 (i+1)).filter p).map f) vs/\vs.length<=i+1,fun H' h=>⟨n - (i+1),by omega,rfl,hlt,h⟩,fun x H3 yx=>?_⟩
   obtain⟨F3,e3,rx⟩:=yl x H3 yx
   obtain⟨ss',tg,evt,ev⟩:=hs i hlt
   have S3:=((S1.ext2 e2).ext2 e3).lc (nt:=nt) hc
   have hl3:H3 l=some (.lst vs):=e3.hh l _ hl2
   have fl3:F3 l=none:=(e3.no l _ hl2 trivial).trans fl
   have base:=tg F3 H3 (lcS nt cs U) x (fun U2 H4=>H4=H3/\Sat K G Hz L F3 H3 U2 ss') S3 rx fun U' S'=>⟨rfl,S'⟩
   have fin:∀U2,Sat K G Hz L F3 H3 U2 ss'->tt U2 H3 fun b H5=>if b=true then te U2 H5 fun y H6=>∃xs,H6 l=some (.lst xs)/\xs.length<sizeLine/\(∃F2 vs,Ext F1 H1 F2 (upd H6 l (.lst (xs++[y])))/\F2 l=none/\(upd H6 l (.lst (xs++[y]))) l=some (.lst vs)/\Reps K F2 (((Zg1 (i+1)).filter p).map f) vs/\vs.length<=i+1) else ∃F2 vs,Ext F1 H1 F2 H5/\F2 l=none/\H5 l=some (.lst vs)/\Reps K F2 (((Zg1 (i+1)).filter p).map f) vs/\vs.length<=i+1:=fun U2 S2=>by
    refine evt F3 H3 U2 _ S2 fun F5 H5 e5=>?_
    have S5:=S2.ext2 e5
    have hl5:H5 l=some (.lst vs):=e5.hh l _ hl3
    have fl5:F5 l=none:=(e5.no l _ hl3 trivial).trans fl3
    have gf:Same F2 F5:=e3.gf.trans e5.gf
    cases hp:p i with
    | false =>
     refine iteF ⟨F5,vs,(e2.trans e3).trans e5,fl5,hl5,?_,by lia⟩
     rw[Zmv,Zr8,Zk7,hp]
     simpa using rs.mono gf
    | true =>
     refine iteT (ev hp F5 H5 U2 _ S5 fun v F6 H6 e6 rv=>?_)
     have hl6:H6 l=some (.lst vs):=e6.hh l _ hl5
     have fl6:F6 l=none:=(e6.no l _ hl5 trivial).trans fl5
     refine⟨vs,hl6,by lia,F6,vs++[v],(((e2.trans e3).trans e5).trans e6).write fl6 hl,fl6,zan,?_,by simp;omega⟩
     rw[Zmv,Zr8,Zk7,hp,if_pos rfl,Zln]
     exact(rs.mono (gf.trans e6.gf)).snoc rv
   refine hk x (lcS nt cs U) H3 _ _ (fun U2 H4 h l1 d1=>?_) base
   obtain⟨rfl,S2⟩:=h
   exact⟨⟨by rw[l1];unfold lcS;simp,d1⟩,fin U2 S2⟩
  .have e:i=n:=by lia
   subst e
   exact .inl ⟨it2,q l vs F2 H2 (e1.trans e2) (e1.hh.free hl) fl hl2 rs⟩
end
end L2
namespace L2
open PySem PySem.W PyProof.Rows
noncomputable def runT{α:Type}(lt:Nat->Nat->Bool):KasT α->α
 | .ret a=>a
 | .ask i j k=>runT lt (k (lt i j))
theorem zdd{α β:Type}(lt:Nat->Nat->Bool)(f:α->KasT β):∀t:KasT α,runT lt (t.bind f)=runT lt (f (runT lt t))
 | .ret _=>rfl
 | .ask i j k=>zdd lt f (k (lt i j))
section
variable(key:Nat->Int)
noncomputable def ltK(i j:Nat):Bool:=decide (key i<key j)
noncomputable def kk(p:Array Nat)(i:Nat):Int:=key (p.getD i 0)
noncomputable def Up(p:Array Nat)(n:Nat):Prop:=∀i j,i<=j->j<n->kk key p i<=kk key p j
noncomputable def Dn(p:Array Nat)(n:Nat):Prop:=∀i j,i<=j->j<n->kk key p j<=kk key p i
variable{key}
theorem yb6(p:Array Nat):Up key p 1:=fun i j h1 h2=>by
 have:i=j:=by lia
 subst this;exact Zlr _
theorem Up.snoc{p:Array Nat}{n:Nat}(h:Up key p n)(h0:0<n)(hn:kk key p (n - 1)<=kk key p n):Up key p (n+1):=fun i j h1 h2=>by
 by_cases hj:j<n
 .exact h i j h1 hj
 .have:j=n:=by lia
  subst this
  by_cases hi:i=j
  .subst hi;exact Zlr _
  .exact Zoy (h i (j - 1) (by lia) (by omega)) hn
theorem Dn.snoc{p:Array Nat}{n:Nat}(h:Dn key p n)(h0:0<n)(hn:kk key p n<=kk key p (n - 1)):Dn key p (n+1):=fun i j h1 h2=>by
 by_cases hj:j<n
 .exact h i j h1 hj
 .have:j=n:=by lia
  subst this
  by_cases hi:i=j
  .subst hi;exact Zlr _
  .exact Zoy hn (h i (j - 1) (by lia) (by omega))
theorem znq(p:Array Nat):∀(f n:Nat),0<n->Up key p n->n<=runT (ltK key) (kas_asc p f n)/\runT (ltK key) (kas_asc p f n)<=n+f/\Up key p (runT (ltK key) (kas_asc p f n)) /\
  (runT (ltK key) (kas_asc p f n)<n+f->kk key p (runT (ltK key) (kas_asc p f n))<kk key p (runT (ltK key) (kas_asc p f n) - 1))
 | 0,n,h0,h=>⟨Zgf _,Zgf _,h,fun z=>absurd z (Zhu _)⟩
 | f+1,n,h0,h=>by
  have e0:runT (ltK key) (kas_asc p (f+1) n)=if kk key p n<kk key p (n - 1) then n else runT (ltK key) (kas_asc p f (n+1)):=by
   show runT (ltK key) (if ltK key (p.getD n 0) (p.getD (n - 1) 0)=true then KasT.ret n else kas_asc p f (n+1))=_
   by_cases hc:kk key p n<kk key p (n - 1)
   .have e:ltK key (p.getD n 0) (p.getD (n - 1) 0)=true:=decide_eq_true hc
    rw[e,if_pos rfl,if_pos hc];rfl
   .have e:ltK key (p.getD n 0) (p.getD (n - 1) 0)=false:=decide_eq_false hc
    rw[e,if_neg Zg0,if_neg hc]
  rw[e0]
  by_cases hc:kk key p n<kk key p (n - 1)
  .rw[if_pos hc]
   exact⟨Zgf _,by lia,h,fun _=>hc⟩
  .rw[if_neg hc]
   have:=znq p f (n+1) (by lia) (h.snoc h0 (by lia))
   exact⟨by lia,by lia,this.2.2.1,fun z=>this.2.2.2 (by omega)⟩
theorem zor{p:Array Nat}{i j:Nat}(hj:j<=p.size)(k:Nat):(kas_rev p i j).getD k 0=if i<=k/\k<j then p.getD (i+j - 1 - k) 0 else p.getD k 0:=by
 have h:=getElem?_mirror_all (xs:=p) (i:=i) hj k
 unfold kas_rev
 have e:∀(q:Array Nat) (m:Nat),q.getD m 0=(q[m]?).getD 0:=fun q m=>by simp[Zh5]
 rw[e,e,e,h]
 split <;> rfl
theorem zd7(p:Array Nat)(i j:Nat):(kas_rev p i j).size=p.size:=mirror_size _ _ _ _
theorem zhm(p:Array Nat)(i j:Nat):(kas_rev p i j).Perm p:=mirror_perm _ _ _ _
theorem zfk{p:Array Nat}{i j:Nat}(hj:j<=p.size){c:Int}(hc:∀k,i<=k->k<j->kk key p k=c)(k:Nat):kk key (kas_rev p i j) k=kk key p k:=by
 unfold kk
 rw[zor hj]
 split
 .rename_i h
  have h1:=hc (i+j - 1 - k) (by omega) (by omega)
  have h2:=hc k h.1 h.2
  unfold kk at h1 h2
  rw[h1,h2]
 .rfl
theorem zji{p:Array Nat}{n:Nat}(hn:n<=p.size)(k:Nat)(hk:k<n):kk key (kas_rev p 0 n) k=kk key p (n - 1 - k):=by
 unfold kk
 rw[zor hn,if_pos ⟨Zhg _,hk⟩,show 0+n - 1 - k=n - 1 - k by lia]
theorem Dn.rev{p:Array Nat}{n:Nat}(h:Dn key p n)(hn:n<=p.size):Up key (kas_rev p 0 n) n:=fun i j h1 h2=>by
 rw[zji hn i (by lia),zji hn j h2]
 exact h _ _ (by omega) (by omega)
theorem zho:∀(f:Nat) (p:Array Nat) (n q:Nat),0<n->q<n->n+f<=p.size->Dn key p n->(∀k,n - 1 - q<=k->k<n->kk key p k=kk key p (n - 1)) ->
  ∃p' n' q',runT (ltK key) (kas_desc f p n q)=(p',n',q')/\p'.size=p.size/\p'.Perm p/\n<=n'/\n'<=n+f/\q'<n'/\Dn key p' n'/\(∀k,n' - 1 - q'<=k->k<n'->kk key p' k=kk key p' (n' - 1))
 | 0,p,n,q,h0,hq,hs,hd,he=>⟨p,n,q,rfl,rfl,Zk5 _,Zgf _,Zgf _,hq,hd,he⟩
 | f+1,p,n,q,h0,hq,hs,hd,he=>by
  unfold kas_desc
  simp only[runT]
  by_cases hc:kk key p n<kk key p (n - 1)
  .have e:ltK key (p.getD n 0) (p.getD (n - 1) 0)=true:=decide_eq_true hc
   rw[e,if_pos rfl]
   by_cases hq0:q>0
   .rw[if_pos hq0]
    have ks:=zfk (key:=key) (p:=p) (i:=n - (q+1)) (j:=n) (by lia) (c:=kk key p (n - 1)) (fun k h1 h2=>he k (by lia) h2)
    have hd':Dn key (kas_rev p (n - (q+1)) n) (n+1):=by
     intro i j h1 h2
     rw[ks,ks]
     exact(hd.snoc h0 (Zoz hc)) i j h1 h2
    obtain⟨p',n',q',e1,e2,e3,e4,e5,e6,e7,e8⟩:=zho f (kas_rev p (n - (q+1)) n) (n+1) 0 (by lia) (by lia) (by rw[zd7];lia) hd' (fun k h1 h2=>by
     have:k=n+1 - 1:=by lia
     rw[this])
    exact⟨p',n',q',e1,by rw[e2,zd7],e3.trans (zhm _ _ _),by lia,by lia,e6,e7,e8⟩
   .rw[if_neg hq0]
    obtain⟨p',n',q',e1,e2,e3,e4,e5,e6,e7,e8⟩:=zho f p (n+1) 0 (by lia) (by lia) (by lia) (hd.snoc h0 (Zoz hc)) (fun k h1 h2=>by
     have:k=n+1 - 1:=by lia
     rw[this])
    exact⟨p',n',q',e1,e2,e3,by lia,by lia,e6,e7,e8⟩
  .have e:ltK key (p.getD n 0) (p.getD (n - 1) 0)=false:=decide_eq_false hc
   rw[e,if_neg Zg0]
   simp only[runT]
   by_cases hd2:kk key p (n - 1)<kk key p n
   .have e2:ltK key (p.getD (n - 1) 0) (p.getD n 0)=true:=decide_eq_true hd2
    rw[e2,if_pos rfl]
    exact⟨p,n,q,rfl,rfl,Zk5 _,Zgf _,by lia,hq,hd,he⟩
   .have e2:ltK key (p.getD (n - 1) 0) (p.getD n 0)=false:=decide_eq_false hd2
    rw[e2,if_neg Zg0]
    have heq:kk key p n=kk key p (n - 1):=by lia
    obtain⟨p',n',q',e1,e2,e3,e4,e5,e6,e7,e8⟩:=zho f p (n+1) (q+1) (by lia) (by lia) (by lia) (hd.snoc h0 (by lia)) (fun k h1 h2=>by
     by_cases hk:k=n
     .subst hk;rfl
     .rw[he k (by lia) (by lia)];exact heq.symm)
    exact⟨p',n',q',e1,e2,e3,by lia,by lia,e6,e7,e8⟩
noncomputable def Good(key:Nat->Int)(p:Array Nat)(nrem:Nat)(r:Nat×Array Nat):Prop:=1<=r.1/\r.1<=nrem/\r.2.size=p.size/\r.2.Perm p/\Up key r.2 r.1
theorem zo3{p:Array Nat}{n nrem:Nat}(h0:0<n)(hn:n<=nrem)(hs:nrem<=p.size)(hd:Dn key p n):Good key p nrem (runT (ltK key) (kas_tail3 n nrem p)):=by
 unfold kas_tail3
 rw[zdd]
 simp only[runT]
 have:=znq (key:=key) (kas_rev p 0 n) (nrem - n) n h0 (hd.rev (by lia))
 refine⟨?_,?_,zd7 _ _ _,zhm _ _ _,this.2.2.1⟩
 .show 1<=runT (ltK key) (kas_asc (kas_rev p 0 n) (nrem - n) n);lia
 .show runT (ltK key) (kas_asc (kas_rev p 0 n) (nrem - n) n)<=nrem;lia
theorem Good.perm{p q:Array Nat}{nrem:Nat}{r:Nat×Array Nat}(h:Good key p nrem r)(hp:p.Perm q)(hs:p.size=q.size):Good key q nrem r:=⟨h.1,h.2.1,h.2.2.1.trans hs,h.2.2.2.1.trans hp,h.2.2.2.2⟩
theorem zg3{p:Array Nat}{n nrem:Nat}(h0:0<n)(hn:n<nrem)(hs:nrem<=p.size)(hd:Dn key p (n+1)):Good key p nrem (runT (ltK key) (kas_descPart n nrem p)):=by
 unfold kas_descPart
 rw[zdd]
 obtain⟨p',n',q',e1,e2,e3,e4,e5,e6,e7,e8⟩:=zho (key:=key) (nrem - (n+1)) p (n+1) 0 (by lia) (by lia) (by lia) hd (fun k h1 h2=>by
  have:k=n+1 - 1:=by lia
  rw[this])
 rw[e1]
 dsimp only
 by_cases hq:q'>0
 .rw[if_pos hq]
  have ks:=zfk (key:=key) (p:=p') (i:=n' - (q'+1)) (j:=n') (by lia) (c:=kk key p' (n' - 1)) (fun k h1 h2=>e8 k (by lia) h2)
  refine(zo3 (p:=kas_rev p' (n' - (q'+1)) n') (by lia) (by omega) (by rw[zd7];lia) ?_).perm ((zhm _ _ _).trans e3) (by rw[zd7,e2])
  intro i j h1 h2
  rw[ks,ks];exact e7 i j h1 h2
 .rw[if_neg hq]
  exact(zo3 (by lia) (by omega) (by lia) e7).perm e3 e2
theorem zr1{p:Array Nat}{nrem:Nat}(h1:1<=nrem)(hs:nrem<=p.size):Good key p nrem (runT (ltK key) (kas_count nrem p)):=by
 unfold kas_count
 rw[zdd]
 have a:=znq (key:=key) p (nrem - 1) 1 (by lia) (yb6 p)
 generalize runT (ltK key) (kas_asc p (nrem - 1) 1)=n at a
 obtain⟨a1,a2,a3,a4⟩:=a
 by_cases hn:n=nrem
 .subst hn
  rw[if_pos (by simp)]
  exact⟨a1,Zgf _,rfl,Zk5 _,a3⟩
 .rw[if_neg (by simpa using hn)]
  have hlt:n<nrem:=by lia
  have dd:=a4 (by lia)
  by_cases h2:n>1
  .rw[if_pos h2]
   simp only[runT]
   by_cases hc:kk key p 0<kk key p (n - 1)
   .have e:ltK key (p.getD 0 0) (p.getD (n - 1) 0)=true:=decide_eq_true hc
    rw[e,if_pos rfl]
    exact⟨a1,by show n<=nrem;lia,rfl,Zk5 _,a3⟩
   .have e:ltK key (p.getD 0 0) (p.getD (n - 1) 0)=false:=decide_eq_false hc
    rw[e,if_neg Zg0]
    have same:∀k,0<=k->k<n->kk key p k=kk key p 0:=fun k _ hk=>by
     have:=a3 0 k (by omega) hk
     have:=a3 k (n - 1) (by lia) (by lia)
     lia
    have ks:=zfk (key:=key) (p:=p) (i:=0) (j:=n) (by lia) same
    refine(zg3 (p:=kas_rev p 0 n) (by lia) hlt (by rw[zd7];exact hs) ?_).perm (zhm _ _ _) (zd7 _ _ _)
    intro i j hi hj
    rw[ks,ks]
    by_cases hjn:j<n
    .rw[same j (by lia) hjn,same i (by lia) (by lia)];exact Zlr _
    .have:j=n:=by lia
     subst this
     by_cases hij:i=j
     .subst hij;exact Zlr _
     .rw[same i (by lia) (by lia),<- same (j - 1) (by lia) (by lia)];lia
  .rw[if_neg h2]
   have:n=1:=by lia
   subst this
   refine zg3 (by lia) hlt hs ?_
   intro i j hi hj
   by_cases hij:i=j
   .subst hij;exact Zlr _
   .have h0:i=0:=by lia
    have h1':j=1:=by lia
    subst h0 h1'
    have:kk key p 1<kk key p (1 - 1):=dd
    simpa using Zoz this
theorem zio{p:Array Nat}{k:Nat}(hu:Up key p k):∀(f l r:Nat),l<=r->r<=k->r - l<=f->(∀i,i<l->kk key p i<=kk key p k)->(∀i,r<=i->i<k->kk key p k<=kk key p i) ->
  runT (ltK key) (kas_place p k f l r)<=k/\(∀i,i<runT (ltK key) (kas_place p k f l r)->kk key p i<=kk key p k)/\(∀i,runT (ltK key) (kas_place p k f l r)<=i->i<k->kk key p k<=kk key p i)
 | 0,l,r,h1,h2,h3,h4,h5=>by
  have:l=r:=by lia
  subst this
  exact⟨by simp[kas_place,runT];omega,h4,h5⟩
 | f+1,l,r,h1,h2,h3,h4,h5=>by
  unfold kas_place
  by_cases hlr:l ≥ r
  .have:l=r:=by lia
   subst this
   rw[if_pos hlr]
   exact⟨h2,h4,h5⟩
  .rw[if_neg hlr]
   simp only[runT]
   by_cases hc:kk key p k<kk key p ((l+r) / 2)
   .have e:ltK key (p.getD k 0) (p.getD ((l+r) / 2) 0)=true:=decide_eq_true hc
    rw[e,if_pos rfl]
    exact zio hu f l ((l+r) / 2) (by lia) (by lia) (by omega) h4 (fun i hi hk=>Zoy (Zoz hc) (hu _ _ hi hk))
   .have e:ltK key (p.getD k 0) (p.getD ((l+r) / 2) 0)=false:=decide_eq_false hc
    rw[e,if_neg Zg0]
    exact zio hu f ((l+r) / 2+1) r (by lia) h2 (by omega) (fun i hi=>Zoy (hu i ((l+r) / 2) (by lia) (by lia)) (by lia)) h5
theorem zwi{p:Array Nat}{k d:Nat}(hk:k<p.size)(hd:d<=k)(i:Nat):(bubble p k d).getD i 0=if i=k - d then p.getD k 0 else if k - d<i/\i<=k then p.getD (i - 1) 0 else p.getD i 0:=by
 have h:=getElem?_bubble hk d hd i
 have e:∀(q:Array Nat) (m:Nat),q.getD m 0=(q[m]?).getD 0:=fun q m=>by simp[Zh5]
 rw[e,e,e,e,h]
 split
 .rfl
 .split <;> rfl
theorem zri : ∀ (f : Nat) (p : Array Nat) (k : Nat), k + f <= p.size -> Up key p k -> (runT (ltK key) (kas_bin f p k)).size = p.size /\ (runT (ltK key) (kas_bin f p k)).Perm p /\ Up key (runT (ltK key) (kas_bin f p k)) (k + f)
 | 0,p,k,h,hu=>⟨rfl,Zk5 _,hu⟩
 | f+1,p,k,h,hu=>by
  unfold kas_bin
  rw[zdd]
  obtain⟨g1,g2,g3⟩:=zio hu k 0 k (Zhg _) (Zgf _) (by lia) (fun i hi=>absurd hi (Nat.not_lt_zero _)) (fun i h1 h2=>by lia)
  generalize runT (ltK key) (kas_place p k k 0 k)=l at g1 g2 g3
  have hb:∀i,kk key (bubble p k (k - l)) i=if i=l then kk key p k else if l<i/\i<=k then kk key p (i - 1) else kk key p i:=fun i=>by
   unfold kk
   rw[zwi (by lia) (by lia),show k - (k - l)=l by lia]
   split
   .rfl
   .split <;> rfl
  have hu':Up key (bubble p k (k - l)) (k+1):=by
   intro i j hij hj
   rw[hb,hb]
   by_cases hi1:i=l
   .rw[if_pos hi1]
    by_cases hj1:j=l
    .rw[if_pos hj1];exact Zlr _
    .rw[if_neg hj1,if_pos ⟨by lia,by lia⟩]
     exact g3 (j - 1) (by lia) (by lia)
   .rw[if_neg hi1]
    by_cases hi2:l<i/\i<=k
    .rw[if_pos hi2]
     rw[if_neg (by lia),if_pos ⟨by lia,by lia⟩]
     exact hu _ _ (by omega) (by lia)
    .rw[if_neg hi2]
     have hil:i<l:=by lia
     by_cases hj1:j=l
     .rw[if_pos hj1];exact g2 i hil
     .rw[if_neg hj1]
      by_cases hj2:l<j/\j<=k
      .rw[if_pos hj2];exact hu _ _ (by lia) (by lia)
      .rw[if_neg hj2];exact hu _ _ hij (by lia)
  obtain⟨b1,b2,b3⟩:=zri f (bubble p k (k - l)) (k+1) (by rw[bubble_size];lia) hu'
  exact⟨by rw[b1,bubble_size],b2.trans (bubble_perm _ _ _),by rw[show k+(f+1)=k+1+f by lia];exact b3⟩
theorem zvx{n:Nat}(h:1<=n):(runT (ltK key) (kas_sort n)).size=n/\(runT (ltK key) (kas_sort n)).Perm (Zg1 n).toArray/\Up key (runT (ltK key) (kas_sort n)) n:=by
 unfold kas_sort
 rw[zdd]
 have hsz:(Zoj (Zg1 n)).size=n:=by simp
 obtain⟨c1,c2,c3,c4,c5⟩:=zr1 (key:=key) (p:=Zoj (Zg1 n)) h (by rw[hsz];exact Zgf _)
 generalize runT (ltK key) (kas_count n (Zoj (Zg1 n)))=r at c1 c2 c3 c4 c5
 obtain⟨m,p⟩:=r
 dsimp only at c1 c2 c3 c4 c5 ⊢
 rw[hsz] at c3
 by_cases hm:m<n
 .rw[if_pos hm]
  have e:max m 1=m:=by lia
  rw[e]
  obtain⟨b1,b2,b3⟩:=zri (key:=key) (n - m) p m (by lia) c5
  exact⟨by rw[b1,c3],b2.trans c4,by rw[show n=m+(n - m) by lia];rw[show m+(n - m) - m=n - m by lia];exact b3⟩
 .rw[if_neg hm]
  have:m=n:=by lia
  subst this
  exact⟨c3,c4,c5⟩
end
section
variable{prog:Zgy}{w:Zhn}{A:Zhe}{E:Zf9->Zgc->Prop}{s:Zgc}
noncomputable def zf2(h h':Heap):Prop:=∀b o,h.get? b=some o->h'.get? b=some o
noncomputable def zus(prog:Zgy)(w:Zhn)(A:Zhe)(s:Zgc)(vs:List Zf9)(Out:Array Zf9->Prop):Prop :=
 ∃κ,(∀(Q:Zub->Zgc->Prop) (E:Zf9->Zgc->Prop),Q κ s->Zgr (Zg9 prog w) A (Zxm vs.toArray) Q E s) /\
  ∀(Q:Zwo->Zgc->Prop) (E:Zf9->Zgc->Prop),(∀st',Zxn st'=none->(Zrz st').size=vs.length->Out ((Zrz st').map (·.2))->Q st' s)->Zgr (Zg9 prog w) A (sortRuns'.run (Zrc κ (vs.toArray.zip vs.toArray) #[] 7 none)) (fun r s'=>Q r.2 s') E s
theorem zjq{a:Addr}{vs:List Zf9}{n0:Nat}{P:Zsv->Zgc->Prop}(Out:Array Zf9->Prop)(ho:s.heap.get? a=some (Zo3 "list" vs.toArray n0))(hz:vs.length<=sizeLine)
  (hs:2<=vs.length-> ∀h',(∀b o,b≠a->s.heap.get? b=some o->h'.get? b=some o)->zus prog w A { s with heap:=h' } vs Out) (h1:vs.length<2->Out vs.toArray)
  (h:∀out c h',(∀b o,b≠a->s.heap.get? b=some o->h'.get? b=some o)->h'.get? a=some (Zo3 "list" out c)->out.size=vs.length->Out out->P (.done (.ret .none)) { s with heap:=h' }) :
  Zgr (Zg9 prog w) A (Zhb.«list.sort» ⟨[.ref a],[]⟩) P E s:=by
 have alt:a<s.heap.objs.size:=Zgk ho
 rw[list_sort_plain]
 refine Zf5 (listItems_at ho rfl ?_)
 refine Zf5 (Zrw ho rfl ?_ (by simpa using hz) (Zhg _))
 generalize hg1:s.heap.update a (Zj0 fun _=>(#[]:Array Zf9))=g1
 have k1:∀b o,b≠a->s.heap.get? b=some o->g1.get? b=some o:=fun b o hb e=>by rw[<- hg1];exact(Zht _ _ (Zho hb)).trans e
 obtain⟨e1,ho1⟩:∃e1,g1.get? a=some (Zo3 "list" #[] e1):=by rw[<- hg1];exact⟨_,Zwk ho fun _=>#[]⟩
 have sz1:g1.objs.size=s.heap.objs.size:=by rw[<- hg1,Zs5]
 refine Zf5 (Ztl ho1 rfl ?_)
 refine Zf5 (Zwx ?_ (by show vs.length<=_;exact hz))
 refine Zf5 (Zrr ?_ (Zhg _))
 refine Zja ?_
 dsimp only
 generalize hg3:(g1.push { cls:=.type "tuple", data:=.seq vs.toArray }).push { cls:=.type "list", data:=.seq #[] }=g3
 have k3:∀b o,g1.get? b=some o->g3.get? b=some o:=fun b o e=>by rw[<- hg3];exact Zga _ (Zga _ e)
 have ho3:=k3 a _ ho1
 have keep:∀b o,b≠a->s.heap.get? b=some o->g3.get? b=some o:=fun b o hb e=>k3 b o (k1 b o hb e)
 have fin:∀(st':Zwo),Zxn st'=none->(Zrz st').size=vs.length->Out ((Zrz st').map (·.2))->P (.done (.ret .none)) { s with heap:=g3.update a (Zj0 fun _=>(Zrz st').map (·.2)) }:=fun st' hf hsz hO=>by
  obtain⟨c2,hc2⟩:∃c2,(g3.update a (Zj0 fun _=>(Zrz st').map (·.2))).get? a=some (Zo3 "list" ((Zrz st').map (·.2)) c2):=⟨_,Zwk ho3 fun _=>(Zrz st').map (·.2)⟩
  exact h _ c2 _ (fun b o hb e=>(Zht _ _ (Zho hb)).trans (keep b o hb e)) hc2 (by simpa using hsz) hO
 have hsz:vs.toArray.size=vs.length:=by simp
 by_cases h2:vs.length<2
 .rw[if_pos (by omega),if_pos (by omega)]
  refine Zf5 (Zgb ?_)
  rw[StateT.run_pure]
  refine Zf5 (Zgb ?_)
  have eo:(Zrz (Zrc general' (vs.toArray.zip vs.toArray) #[] 7 none)).map (·.2)=vs.toArray:=by
   show(vs.toArray.zip vs.toArray).map (·.2)=vs.toArray
   apply Zos.mp
   rw[Zsl]
   have:(vs.toArray.zip vs.toArray).toList=vs.zip vs:=by simp
   rw[this]
   simp[List.map_snd_zip]
  dsimp only
  refine Zf5 (Ztl ho3 rfl ?_)
  refine Zf5 (Zrw ho3 rfl ?_ (Zhg _) (by rw[eo];simp only[Zhw];lia))
  simp only[bne_self_eq_false,Zgo,if_false]
  exact Zgb (fin (Zrc general' (vs.toArray.zip vs.toArray) #[] 7 none) rfl (by show(vs.toArray.zip vs.toArray).size=_;simp) (by rw[eo];exact h1 h2))
 .rw[if_neg (by omega),if_neg (by omega)]
  obtain⟨κ,hk,hr⟩:=hs (by lia) g3 keep
  refine Zf5 (hk _ _ ?_)
  refine Zf5 (Ziv (hr (fun st' s'=>s'={ s with heap:=g3 }/\Zxn st'=none/\(Zrz st').size=vs.length/\Out ((Zrz st').map (·.2))) (fun _ _=>False) fun st' hf hsz hO=>⟨rfl,hf,hsz,hO⟩) ?_ fun _ _ x=>x.elim)
  rintro⟨⟨⟩,st'⟩ s' ⟨rfl,hf,hsz,hO⟩
  dsimp only at hf hsz hO ⊢
  refine Zf5 (Ztl ho3 rfl ?_)
  refine Zf5 (Zrw ho3 rfl ?_ (Zhg _) (by simp only[Ztk];lia))
  rw[hf]
  simp only[bne_self_eq_false,Zgo,if_false]
  exact Zgb (fin st' hf hsz hO)
theorem zns{l:Addr}{vs:List Zf9}{Q:Zf9->Zgc->Prop}(Out:Array Zf9->Prop)(hl:s.heap.IsList l vs.toArray)(hz:vs.length<=sizeLine)
  (hs:2<=vs.length-> ∀h',zf2 s.heap h'->zus prog w A.in1.in1 { s with heap:=h' } vs Out) (h1:vs.length<2->Out vs.toArray)
  (h:∀out c h',zf2 s.heap h'->h'.get? (s.heap.objs.size+1)=some (Zo3 "list" out c)->out.size=vs.length->Out out->Q (.ref (s.heap.objs.size+1)) { s with heap:=h' }) :
  Zgr (Zg9 prog w) A (call (.builtin "sorted") [.ref l]) Q E s:=by
 refine Zpr kind_sorted plain_sorted entry_sorted (args_sorted1 _) ?_
 unfold Zhb.«sorted»
 refine Zf5 (m:=checkCount "sorted" 1 1 _) (Zgb ?_)
 refine Zf5 (collect_list hl ?_ hz)
 refine Zf5 (Zrr ?_ hz)
 generalize hg1:(s.heap.push (Zo3 "list" #[] 0)).update s.heap.objs.size (Zj0 (· ++ vs.toArray))=g1
 have sz1:g1.objs.size=s.heap.objs.size+1:=by rw[<- hg1,Zs5,size_push']
 have k1:zf2 s.heap g1:=fun b o e=>by
  have hlt:=Zgk e
  rw[<- hg1]
  exact(Zht _ _ (Zj7 hlt)).trans (Zga _ e)
 dsimp only
 have ho:(g1.push { cls:=.type "list", data:=.seq vs.toArray }).get? (s.heap.objs.size+1)=some (Zo3 "list" vs.toArray 0):=by rw[<- sz1];exact Zgj _ rfl
 have k2:zf2 s.heap (g1.push { cls:=.type "list", data:=.seq vs.toArray }):=fun b o e=>Zga _ (k1 b o e)
 rw[sz1]
 have ne:∀b o,s.heap.get? b=some o->b≠s.heap.objs.size+1:=fun b o e=>Zgu (Zi5 (Zgk e))
 refine Zf5 (Zja (Zi4 Zwz ⟨_,ho,rfl⟩ Zwl (zjq (s:={ s with heap:=g1.push { cls:=.type "list", data:=.seq vs.toArray } }) Out ho hz
  (fun h2 h' k=>hs h2 h' fun b o e=>k b o (ne b o e) (k2 b o e)) h1 fun out c h' k hc hsz hO=>⟨_,rfl,?_⟩) (Zw6 _)))
 exact Zgb ⟨_,rfl,h out c h' (fun b o e=>k b o (ne b o e) (k2 b o e)) hc hsz hO⟩
end
noncomputable def InR{α:Type}(n:Nat)(P:α->Prop):KasT α->Prop
 | .ret a=>P a
 | .ask i j k=>i<n/\j<n /\ ∀b,InR n P (k b)
theorem InR.bind{α β:Type}{n:Nat}{f:α->KasT β}{P:α->Prop}{Q:β->Prop}(hf:∀a,P a->InR n Q (f a)):∀{t:KasT α},InR n P t->InR n Q (t.bind f)
 | .ret a,h=>hf a h
 | .ask i j k,h=>⟨h.1,h.2.1,fun b=>InR.bind hf (h.2.2 b)⟩
theorem zo1{α:Type}{cmp:Nat->Nat->(Bool->Zgc->Prop)->Zgc->Prop}{lt:Nat->Nat->Bool}{Q:α->Zgc->Prop}{s:Zgc}{n:Nat}{P:α->Prop}(h:∀i j C,i<n->j<n->C (lt i j) s->cmp i j C s):∀{t:KasT α},InR n P t->Q (runT lt t) s->t.kasWp cmp Q s
 | .ret _,_,q=>q
 | .ask i j k,r,q=>h i j _ r.1 r.2.1 (zo1 h (r.2.2 _) q)
noncomputable def Ent(n:Nat)(p:Array Nat):Prop:=∀i,p.getD i 0<n
theorem Ent.perm{n:Nat}{p q:Array Nat}(h:Ent n p)(hp:q.Perm p)(hn:0<n):Ent n q:=fun i=>by
 have e:∀(q:Array Nat) (m:Nat),q.getD m 0=(q[m]?).getD 0:=fun q m=>by simp[Zh5]
 rw[e]
 cases hq:q[i]? with
 | none=>exact hn
 | some x =>
  have hx:x∈q:=Array.mem_of_getElem? hq
  have hx2:x∈p:=hp.mem_iff.mp hx
  obtain⟨j,hj,ej⟩:=Array.mem_iff_getElem.mp hx2
  have:=h j
  rw[e,Zgs hj,ej] at this
  exact this
theorem Ent.rev{n:Nat}{p:Array Nat}(h:Ent n p)(hn:0<n)(i j:Nat):Ent n (kas_rev p i j):=h.perm (mirror_perm _ _ _ _) hn
section
variable{n:Nat}(hn:0<n)
theorem zrj{p:Array Nat}(h:Ent n p):∀f m,InR n (fun _:Nat=>True) (kas_asc p f m)
 | 0,_=>trivial
 | f+1,m=>⟨h _,h _,fun b=>by cases b <;> simp only[if_true,Zgo,if_false];exact zrj h f (m+1);trivial⟩
include hn in
theorem zk1:∀f {p:Array Nat} m q,Ent n p->InR n (fun r:Array Nat×Nat×Nat=>Ent n r.1) (kas_desc f p m q)
 | 0,_,_,_,h=>h
 | f+1,p,m,q,h=>⟨h _,h _,fun b=>by
   cases b with
   | true =>
    simp only[if_true]
    split
    .exact zk1 f _ _ (h.rev hn _ _)
    .exact zk1 f _ _ h
   | false =>
    simp only[Zgo,if_false]
    exact⟨h _,h _,fun c=>by
     cases c with
     | true=>simp only[if_true];exact h
     | false=>simp only[Zgo,if_false];exact zk1 f _ _ h⟩⟩
include hn in
theorem zo8{p:Array Nat}(h:Ent n p)(m r:Nat):InR n (fun r:Nat×Array Nat=>Ent n r.2) (kas_tail3 m r p):=by
 unfold kas_tail3
 refine InR.bind (P:=fun _:Nat=>True) (fun a _=>?_) (zrj (h.rev hn _ _) _ _)
 exact h.rev hn _ _
include hn in
theorem zid{p:Array Nat}(h:Ent n p)(m r:Nat):InR n (fun r:Nat×Array Nat=>Ent n r.2) (kas_descPart m r p):=by
 unfold kas_descPart
 refine InR.bind (fun a ha=>?_) (zk1 hn _ _ _ h)
 split
 .exact zo8 hn (ha.rev hn _ _) _ _
 .exact zo8 hn ha _ _
include hn in
theorem zvc{p:Array Nat}(h:Ent n p)(r:Nat):InR n (fun r:Nat×Array Nat=>Ent n r.2) (kas_count r p):=by
 unfold kas_count
 refine InR.bind (fun m _=>?_) (zrj h _ _)
 split
 .exact h
 .split
  .refine⟨h _,h _,fun b=>?_⟩
   cases b with
   | true=>simp only[if_true];exact h
   | false=>simp only[Zgo,if_false];exact zid hn (h.rev hn _ _) _ _
  .exact zid hn h _ _
theorem zou{p:Array Nat}(h:Ent n p)(k:Nat):∀f l r,InR n (fun _:Nat=>True) (kas_place p k f l r)
 | 0,_,_=>trivial
 | f+1,l,r=>by
  unfold kas_place
  split
  .trivial
  .exact⟨h _,h _,fun b=>by cases b <;> simp only[if_true,Zgo,if_false] <;> exact zou h k f _ _⟩
include hn in
theorem zw6:∀f {p:Array Nat} k,Ent n p->InR n (fun q:Array Nat=>Ent n q) (kas_bin f p k)
 | 0,_,_,h=>h
 | f+1,p,k,h=>by
  unfold kas_bin
  exact InR.bind (fun l _=>zw6 f _ (h.perm (bubble_perm _ _ _) hn)) (zou h k _ _ _)
include hn in
theorem zyf:InR n (fun q:Array Nat=>Ent n q) (kas_sort n):=by
 unfold kas_sort
 have h0:Ent n (Zoj (Zg1 n)):=fun i=>by
  have e:∀(q:Array Nat) (m:Nat),q.getD m 0=(q[m]?).getD 0:=fun q m=>by simp[Zh5]
  rw[e]
  by_cases hi:i<n
  .simp[hi]
  .simp[hi];exact hn
 refine InR.bind (fun r hr=>?_) (zvc hn h0 n)
 split
 .exact zw6 hn _ _ hr
 .exact hr
end
section
variable{prog:Zgy}{w:Zhn}{A:Zhe}{s:Zgc}
noncomputable def OutK(key:Nat->Int)(vs:List Zf9)(out:Array Zf9):Prop:=∃p:List Nat,p.Perm (Zg1 vs.length)/\out.toList=p.map (fun i=>vs.getD i Zhs)/\p.Pairwise fun i j=>key i<=key j
theorem znd{κ:Zub}{vs:List Zf9}{key:Nat->Int}(h2:2<=vs.length)(h64:vs.length<64)
  (hk:∀(Q:Zub->Zgc->Prop) (E:Zf9->Zgc->Prop),Q κ s->Zgr (Zg9 prog w) A (Zxm vs.toArray) Q E s)
  (hlt:∀i j (C:Bool->Zgc->Prop),i<vs.length->j<vs.length->C (decide (key i<key j)) s->Zgr (Zg9 prog w) A (keyLt' κ (vs.getD i Zhs) (vs.getD j Zhs)) C (fun _ _=>False) s) :
  zus prog w A s vs (OutK key vs):=by
 refine⟨κ,hk,fun Q E hQ=>?_⟩
 obtain⟨s1,s2,s3⟩:=zvx (key:=key) (n:=vs.length) (by lia)
 refine kat_run (Q:=fun st' s'=>Q st' s') (G:=fun p s'=>s'=s/\p=runT (ltK key) (kas_sort vs.length)) rfl h2 h64 (fun p st' s' hp har hf hG=>?_) (zo1 (lt:=ltK key) (fun i j C hi hj hc=>hlt i j C hi hj hc) (zyf (n:=vs.length) (by lia)) ⟨rfl,rfl⟩)
 obtain⟨rfl,rfl⟩:=hG
 have hout:=kat_snds rfl har
 refine hQ st' hf (by rw[har,Ztk,s1]) ⟨(runT (ltK key) (kas_sort vs.length)).toList,?_,?_,?_⟩
 .have:=s2.toList
  simpa using this
 .rw[hout]
 .generalize runT (ltK key) (kas_sort vs.length)=q at s1 s3
  rw[Zke]
  intro i j hi hj hij
  have h:=s3 i j (by lia) (by simpa[s1] using hj)
  unfold kk at h
  have e:∀m (hm:m<q.toList.length),q.getD m 0=q.toList[m]:=fun m hm=>by
   have hm':m<q.size:=by simpa using hm
   simp[Zky,hm']
  rw[e i hi,e j hj] at h
  exact h
end
noncomputable def D.fo:D->List Int
 | .str l=>l.map Zpn
 | .int i=>[i]
 | _=>[]
noncomputable def D.ord:D->List (List Int)
 | .tup ds=>ds.map D.fo
 | .lst ds=>ds.map D.fo
 | d=>[d.fo]
noncomputable def D.leB(a b:D):Bool:=decide (a.ord<=b.ord)
noncomputable def zeh(ds:List D):List D:=ds.mergeSort D.leB
inductive Ty where | s | i
noncomputable def Ty.ok:Ty->D->Bool
 | .s,.str _=>true
 | .i,.int _=>true
 | _,_=>false
noncomputable def shOk:List Ty->List D->Bool
 | [],[]=>true
 | t::ts,d::ds=>t.ok d&&shOk ts ds
 | _,_=>false
noncomputable def zeo(ds:List D):Prop:=(∀d∈ds,Ty.ok .s d=true)\/(∀d∈ds,Ty.ok .i d=true) \/ ∃t ts,∀d∈ds,∃es,d= .tup es/\shOk (t::ts) es=true
theorem zrr{l m:List Nat}(h:l.map Zpn=m.map Zpn):l=m:=by
 induction l generalizing m with
 | nil=>cases m with
  | nil=>rfl
  | cons _ _=>simp at h
 | cons a l ih=>cases m with
  | nil=>simp at h
  | cons b m =>
   simp only[Zg3,Zjz,Zro] at h
   rw[show a=b by lia,ih h.2]
theorem zvh(l m:List Nat):l<m↔l.map Zpn<m.map Zpn:=by
 induction l generalizing m with
 | nil=>cases m <;> simp
 | cons a l ih=>cases m with
  | nil=>simp
  | cons b m =>
   simp only[Zg3,Zis,ih m,Zro]
   constructor
   .rintro(h | ⟨h,x⟩)
    .exact .inl (by lia)
    .exact .inr ⟨by lia,x⟩
   .rintro(h | ⟨h,x⟩)
    .exact .inl (by lia)
    .exact .inr ⟨by lia,x⟩
theorem zof{t:Ty}{d e:D}(h1:t.ok d=true)(h2:t.ok e=true)(h:d.fo=e.fo):d=e:=by
 cases t <;> cases d <;> simp[Ty.ok] at h1 <;> cases e <;> simp[Ty.ok] at h2
 .rw[zrr h]
 .simp[D.fo] at h;rw[h]
theorem zr6:∀{ts:List Ty} {ds es:List D},shOk ts ds=true->shOk ts es=true->ds.map D.fo=es.map D.fo->ds=es
 | [],ds,es,h1,h2,_=>by cases ds <;> cases es <;> simp[shOk] at h1 h2;rfl
 | t::ts,ds,es,h1,h2,h=>by
  cases ds with
  | nil=>simp[shOk] at h1
  | cons d ds=>cases es with
   | nil=>simp[shOk] at h2
   | cons e es =>
    simp only[shOk,Zgv] at h1 h2
    simp only[Zg3,Zjz] at h
    rw[zof h1.1 h2.1 h.1,zr6 h1.2 h2.2 h.2]
theorem yak(x y:List Int):[x]<[y]↔x<y:=by simp[Zis]
theorem ztd{ds:List D}(h:zeo ds){a b:D}(ha:a∈ds)(hb:b∈ds)(e:a.ord=b.ord):a=b:=by
 rcases h with h | h | ⟨t,ts,h⟩
 .have h1:=h a ha
  have h2:=h b hb
  cases a <;> simp[Ty.ok] at h1
  cases b <;> simp[Ty.ok] at h2
  simp only[D.ord,Zjz,and_true] at e
  exact zof (t:=.s) rfl rfl e
 .have h1:=h a ha
  have h2:=h b hb
  cases a <;> simp[Ty.ok] at h1
  cases b <;> simp[Ty.ok] at h2
  simp only[D.ord,Zjz,and_true] at e
  exact zof (t:=.i) rfl rfl e
 .obtain⟨es,rfl,h1⟩:=h a ha
  obtain⟨fs,rfl,h2⟩:=h b hb
  simp only[D.ord] at e
  rw[zr6 h1 h2 e]
theorem zti(a b c:D)(h1:a.leB b=true)(h2:b.leB c=true):a.leB c=true:=decide_eq_true (Zui (of_decide_eq_true h1) (of_decide_eq_true h2))
theorem zrk(a b:D):(a.leB b||b.leB a)=true:=by
 rcases List.le_total a.ord b.ord with h | h
 .simp[D.leB,h]
 .simp[D.leB,h]
theorem zb0(ds:List D):(zeh ds).Perm ds:=List.mergeSort_perm _ _
theorem zdb(ds:List D):(zeh ds).Pairwise fun a b=>a.leB b=true:=List.pairwise_mergeSort zti zrk ds
theorem zg9{ds es:List D}(h:zeo ds)(hp:es.Perm ds)(hs:es.Pairwise fun a b=>a.leB b=true):es=zeh ds:=by
 refine Zxw (le:=fun a b=>a.leB b=true) (fun a b ha hb h1 h2=>?_) hs (zdb ds) (hp.trans (zb0 ds).symm)
 exact ztd h (hp.mem_iff.mp ha) ((zb0 ds).mem_iff.mp hb) (Zox (of_decide_eq_true h1) (of_decide_eq_true h2))
noncomputable def rk(ds:List D)(i:Nat):Int:=((ds.filter fun d=>decide (d.ord<(ds.getD i .non).ord)).length:Nat)
theorem zdu{α:Type}{p q:α->Bool}(h:∀x,p x=true->q x=true):∀l:List α,(l.filter p).length<=(l.filter q).length
 | []=>Zgf _
 | x::l=>by
  have ih:=zdu h l
  simp only[Zk7]
  cases hp:p x with
  | false =>
   cases hq:q x with
   | false=>simpa using ih
   | true=>simp;lia
  | true=>rw[h x hp];simp;omega
theorem zge{α:Type}{p q:α->Bool}(h:∀x,p x=true->q x=true){y:α}(hy:q y=true)(hn:p y=false):∀l:List α,y∈l->(l.filter p).length<(l.filter q).length
 | [],hm=>by simp at hm
 | x::l,hm=>by
  have le:=zdu h l
  simp only[Zk7]
  rcases Zgh.mp hm with rfl | hm
  .rw[hy,hn];simp;lia
  .have ih:=zge h hy hn l hm
   cases hp:p x with
   | false =>
    cases hq:q x with
    | false=>simpa using ih
    | true=>simp;lia
   | true=>rw[h x hp];simp;omega
theorem zys{ds:List D}{i j:Nat}(hi:i<ds.length):decide (rk ds i<rk ds j)=decide ((ds.getD i .non).ord<(ds.getD j .non).ord):=by
 have hm:ds.getD i .non∈ds:=by rw[Zf7,Zf8 hi];exact Zhv _
 unfold rk
 generalize ds.getD i .non=a at hm
 generalize ds.getD j .non=b
 by_cases h:a.ord<b.ord
 .rw[decide_eq_true h]
  refine decide_eq_true ?_
  have:=zge (p:=fun d:D=>decide (d.ord<a.ord)) (q:=fun d:D=>decide (d.ord<b.ord)) (fun x hx=>decide_eq_true (Zqf (of_decide_eq_true hx) h)) (y:=a) (decide_eq_true h) (decide_eq_false (Znd _)) ds hm
  lia
 .rw[decide_eq_false h]
  refine decide_eq_false ?_
  have:=zdu (p:=fun d:D=>decide (d.ord<b.ord)) (q:=fun d:D=>decide (d.ord<a.ord)) (fun x hx=>by
   have hx:=of_decide_eq_true hx
   refine decide_eq_true ?_
   by_cases hxa:x.ord<a.ord
   .exact hxa
   .exact absurd hx (Zmi.mpr (Zui (Zmi.mp h) (Zmi.mp hxa)))) ds
  lia
theorem ybn{ds:List D}{i j:Nat}(hi:i<ds.length)(hj:j<ds.length)(h:rk ds i<=rk ds j):(ds.getD i .non).leB (ds.getD j .non)=true:=by
 have:=zys (ds:=ds) (i:=j) (j:=i) hj
 rw[decide_eq_false (by lia)] at this
 exact decide_eq_true (Zmi.mp (of_decide_eq_false this.symm))
section
variable{prog:Zgy}{w:Zhn}{A:Zhe}{E:Zf9->Zgc->Prop}{s:Zgc}
noncomputable def FV:D->Zf9->Prop
 | .str l,u=>∃t,u= .str (T l) t
 | .int i,u=>∃t,u= .int i t
 | _,_=>False
theorem zzo{t:Ty}{d e:D}{u v:Zf9}(h1:t.ok d=true)(h2:t.ok e=true)(ru:FV d u)(rv:FV e v){Q:Bool->Zgc->Prop}(q:Q (decide (d=e)) s):Zgr (Zg9 prog w) A (eqBool u v) Q E s:=by
 cases t <;> cases d <;> simp[Ty.ok] at h1 <;> cases e <;> simp[Ty.ok] at h2
 .obtain⟨t,rfl⟩:=ru
  obtain⟨t',rfl⟩:=rv
  refine Zw8 _ _ _ _ prog w E Q ?_
  rename_i l m
  have:(T l == T m)=decide (D.str l=D.str m):=by
   rw[Zh0];simp[ztu]
  rw[this];exact q
 .obtain⟨t,rfl⟩:=ru
  obtain⟨t',rfl⟩:=rv
  refine Zxb _ _ _ _ prog w E Q ?_
  rename_i i j
  have:(i == j)=decide (D.int i=D.int j):=by
   rw[Zh0];simp
  rw[this];exact q
theorem zs8{t:Ty}{d e:D}{u v:Zf9}(h1:t.ok d=true)(h2:t.ok e=true)(ru:FV d u)(rv:FV e v)(f:Bool){Q:Bool->Zgc->Prop}(q:Q (decide (d.fo<e.fo)) s):Zgr (Zg9 prog w) A (oneLt' f u v) Q E s:=by
 cases t <;> cases d <;> simp[Ty.ok] at h1 <;> cases e <;> simp[Ty.ok] at h2
 .obtain⟨t,rfl⟩:=ru
  obtain⟨t',rfl⟩:=rv
  rename_i l m
  have ee:decide ((T l).cps.toList<(T m).cps.toList)=decide ((D.str l).fo<(D.str m).fo):=by
   rw[zd2,zd2,Zh0,decide_eq_true_eq,decide_eq_true_eq]
   exact zvh l m
  cases f with
  | true=>exact oneLt_str (by rw[ee];exact q)
  | false=>exact kat_one _ _ (lt_str (by show Q _ _;rw[ee];exact q))
 .obtain⟨t,rfl⟩:=ru
  obtain⟨t',rfl⟩:=rv
  rename_i i j
  have ee:decide (i<j)=decide ((D.int i).fo<(D.int j).fo):=by
   rw[Zh0]
   simp[D.fo,Zis]
  cases f with
  | true=>exact oneLt_int (by rw[ee];exact q)
  | false=>exact kat_one _ _ (lt_int (by show Q _ _;rw[ee];exact q))
inductive FVs:List D->List Zf9->Prop
 | nil:FVs [] []
 | cons {d ds u us}:FV d u->FVs ds us->FVs (d::ds) (u::us)
theorem zph {b : Bool} {Q : Bool -> Zgc -> Prop} : ∀ {ts : List Ty} {ds es : List D} {us vs : List Zf9} (i : Nat), shOk ts ds = true -> shOk ts es = true -> FVs ds us -> FVs es vs -> Q (decide (ds.map D.fo < es.map D.fo)) s -> KatLex prog w A b false Q (us.zip vs) i s
 | [],ds,es,_,_,i,h1,h2,r1,r2,q=>by
  cases ds <;> cases es <;> simp[shOk] at h1 h2
  cases r1;cases r2
  exact kat_nil (by simpa using q)
 | t::ts,ds,es,_,_,i,h1,h2,r1,r2,q=>by
  cases r1 with
  | nil=>simp[shOk] at h1
  | cons a1 a2 =>
   cases r2 with
   | nil=>simp[shOk] at h2
   | cons b1 b2 =>
    rename_i d ds u us e es v vs
    simp only[shOk,Zgv] at h1 h2
    rw[Znx]
    refine kat_cons (zzo h1.1 h2.1 a1 b1 ?_)
    by_cases hde:d=e
    .subst hde
     rw[decide_eq_true rfl]
     refine kat_yes (zph (i+1) h1.2 h2.2 a2 b2 ?_)
     have:decide (ds.map D.fo<es.map D.fo)=decide ((d::ds).map D.fo<(d::es).map D.fo):=by
      rw[Zh0]
      simp only[decide_eq_true_eq,Zg3,Zis]
      exact⟨fun h=>.inr ⟨trivial,h⟩,fun h=>h.elim (fun z=>absurd z (Znd _)) fun z=>z.2⟩
     rw[this];exact q
    .rw[decide_eq_false hde]
     refine kat_no (zs8 h1.1 h2.1 a1 b1 _ ?_)
     have hf:¬ d.fo=e.fo:=fun z=>hde (zof h1.1 h2.1 z)
     have:decide (d.fo<e.fo)=decide ((d::ds).map D.fo<(e::es).map D.fo):=by
      rw[Zh0]
      simp only[decide_eq_true_eq,Zg3,Zis]
      exact⟨fun h=>.inl h,fun h=>h.elim id fun z=>absurd z.1 hf⟩
     rw[this];exact q
end
structure MI(R:Nat->Nat->Prop)(ua ub o:List Nat)(i j:Nat):Prop where
 hi:i<=ua.length
 hj:j<=ub.length
 pw:o.Pairwise R
 pa:∀x∈o,∀y∈ua.drop i,R x y
 pb:∀x∈o,∀y∈ub.drop j,R x y
 pm:o.Perm (ua.take i++ub.take j)
noncomputable def Seg(key:Nat->Int)(p:Array Nat)(i j:Nat):Prop:=∀s t,i<=s->s<=t->t<j->kk key p s<=kk key p t
noncomputable def Runs(key:Nat->Int)(p:Array Nat):List (Nat×Nat×Nat)->Nat->Nat->Prop
 | [],lo,hi=>lo=hi
 | r::l,lo,hi=>r.1=lo/\0<r.2.1/\Seg key p lo (lo+r.2.1)/\Runs key p l (lo+r.2.1) hi
theorem Vals.pick{xs:List V}{us:List Zf9}(r:Vals xs us):∀p:List Nat,(∀i∈p,i<xs.length)->Vals (p.map fun i=>xs.getD i .non) (p.map fun i=>us.getD i Zhs)
 | [],_=>.nil
 | i::p,h=>by
  have hi:=h i Zgz
  obtain⟨u,hu,ru⟩:=r.get (Zf8 hi)
  refine .cons ?_ (Vals.pick r p fun j hj=>h j (Zgi _ hj))
  show RelV (xs.getD i .non) (us.getD i Zhs)
  rw[Zf7,Zf8 hi,Zf7,hu]
  exact ru
theorem Reps.pick{K:Zf6}{H:Hp}{ds:List D}{xs:List V}(r:Reps K H ds xs):∀p:List Nat,(∀i∈p,i<ds.length)->Reps K H (p.map fun i=>ds.getD i .non) (p.map fun i=>xs.getD i .non)
 | [],_=>Reps.nil
 | i::p,h=>by
  have hi:=h i Zgz
  obtain⟨u,hu,ru⟩:=r.get' (Zf8 hi)
  refine Reps.cons ?_ (Reps.pick r p fun j hj=>h j (Zgi _ hj))
  show Rep K H (ds.getD i .non) (xs.getD i .non)
  rw[Zf7,Zf8 hi,Zf7,hu]
  exact ru
section
variable{X:Cx}{pins:List (Addr×Obj)}{U:St}{H:Hp}{s:Zgc}
theorem FV.of{t:Ty}{d:D}{x:V}{u:Zf9}(ht:t.ok d=true)(r:Rep X.K H d x)(q:RelV x u):FV d u:=by
 cases t <;> cases d <;> simp[Ty.ok] at ht
 .rw[r.of_str] at q;exact q
 .rw[r.of_int] at q;exact q
theorem FVs.of:∀{ts:List Ty} {ds:List D} {xs:List V} {us:List Zf9},shOk ts ds=true->Reps X.K H ds xs->Vals xs us->FVs ds us
 | [],ds,_,_,ht,r,q=>by
  cases ds <;> simp[shOk] at ht
  rw[Reps] at r;subst r;cases q;exact .nil
 | t::ts,ds,_,_,ht,r,q=>by
  cases ds with
  | nil=>simp[shOk] at ht
  | cons d ds =>
   simp only[shOk,Zgv] at ht
   rw[Reps] at r
   obtain⟨x,xs,rfl,r1,r2⟩:=r
   cases q with
   | cons q1 q2=>exact .cons (FV.of ht.1 r1 q1) (FVs.of ht.2 r2 q2)
noncomputable def TV(h:Heap)(es:List D)(u:Zf9):Prop:=∃a o its n,u= .ref a/\h.get? a=some o/\o.cls= .type "tuple" /\ o.data= .seq its n/\FVs es its.toList
theorem Inv.tv(I:Inv X pins U H s){ts:List Ty}{es:List D}{x:V}{u:Zf9}(ht:shOk ts es=true)(r:Rep X.K H (.tup es) x)(q:RelV x u):TV s.heap es u:=by
 obtain⟨p,xs,rfl,sq,rs⟩:=r.of_tup
 cases q
 obtain⟨its,rv,⟨o,e,c,n,hd⟩,_⟩:=I.tuple sq
 exact⟨p,o,its.toArray,n,rfl,e,c,hd,by simpa using FVs.of ht rs rv⟩
theorem zoy{ds:List D}{xs:List V}{us:List Zf9}(rs:Reps X.K H ds xs)(rv:Vals xs us){i:Nat}(hi:i<us.length):∃x,Rep X.K H (ds.getD i .non) x/\RelV x (us.getD i Zhs)/\ds.getD i .non∈ds:=by
 have l1:=rs.length
 have l2:=rv.length
 obtain⟨x,hx,r⟩:=rs.get' (Zf8 (show i<ds.length by lia))
 obtain⟨u,hu,ru⟩:=rv.get hx
 refine⟨x,?_,?_,?_⟩
 .rw[Zf7,Zf8 (show i<ds.length by lia)];exact r
 .rw[Zf7,hu];exact ru
 .rw[Zf7,Zf8 (show i<ds.length by lia)];exact Zhv _
theorem zoo{us:List Zf9}{v:Zf9}(h:v∈us):∃i,i<us.length/\v=us.getD i Zhs:=by
 obtain⟨i,hi,e⟩:=Zrl h
 exact⟨i,hi,by rw[Zf7,Zf8 hi];exact e.symm⟩
noncomputable def Ty.tv:Ty->Zf9
 | .s=>.type "str"
 | .i=>.type "int"
noncomputable def yav(prog:Zgy)(w:Zhn)(A:Zhe)(s:Zgc)(vs:List Zf9)(key:Nat->Int):Prop :=
 ∃κ,(∀(Q:Zub->Zgc->Prop) (E:Zf9->Zgc->Prop),Q κ s->Zgr (Zg9 prog w) A (Zxm vs.toArray) Q E s) /\
  ∀i j (C:Bool->Zgc->Prop),i<vs.length->j<vs.length->C (decide (key i<key j)) s->Zgr (Zg9 prog w) A (keyLt' κ (vs.getD i Zhs) (vs.getD j Zhs)) C (fun _ _=>False) s
theorem zse {h' : Heap} {ds : List D} {xs : List V} {us : List Zf9} {A' : Zhe} (I : Inv X pins U H s) (rs : Reps X.K H ds xs) (rv : Vals xs us) (hal : zeo ds) (h2 : 2 <= us.length) (k : zf2 s.heap h') :
  yav X.prog X.w A' { s with heap:=h' } us (rk ds):=by
 have l1:=rs.length
 have l2:=rv.length
 have flat:∀(t:Ty) (T0:Zf9),(∀d u,t.ok d=true->FV d u->typeOf u=pure T0)->(T0 != Ziw "tuple")=true->(T0 == T0)=true->(∀d∈ds,t.ok d=true)->yav X.prog X.w A' { s with heap:=h' } us (rk ds):=fun t T0 hty hT1 hT2 ht=>by
  have fv:∀i,i<us.length->FV (ds.getD i .non) (us.getD i Zhs)/\t.ok (ds.getD i .non)=true:=fun i hi=>by
   obtain⟨x,r,q,hm⟩:=zoy rs rv hi
   exact⟨FV.of (ht _ hm) r q,ht _ hm⟩
  refine⟨oneType',fun Q E q=>kas_kind h2 (T:=T0) (fun v hv=>?_) hT1 hT2 q,fun i j C hi hj hC=>?_⟩
  .obtain⟨i,hi,rfl⟩:=zoo hv
   obtain⟨f,o⟩:=fv i hi
   rw[hty _ _ o f]
   exact .now
  .obtain⟨f1,o1⟩:=fv i hi
   obtain⟨f2,o2⟩:=fv j hj
   rw[keyLt'_oneType]
   refine zs8 o1 o2 f1 f2 true ?_
   rw[zys (by lia)] at hC
   have e:∀d:D,t.ok d=true->d.ord=[d.fo]:=fun d hd=>by cases t <;> cases d <;> simp[Ty.ok] at hd <;> rfl
   rw[e _ o1,e _ o2] at hC
   have:decide ((ds.getD i .non).fo<(ds.getD j .non).fo)=decide ([(ds.getD i .non).fo]<[(ds.getD j .non).fo]):=by
    rw[Zh0,decide_eq_true_eq,decide_eq_true_eq];exact(yak _ _).symm
   rw[this];exact hC
 rcases hal with ht | ht | ⟨t,ts,ht⟩
 .exact flat .s (.type "str") (fun d u hd f=>by cases d <;> simp[Ty.ok] at hd;obtain⟨t,rfl⟩:=f;rfl) (by decide) (by decide) ht
 .exact flat .i (.type "int") (fun d u hd f=>by cases d <;> simp[Ty.ok] at hd;obtain⟨t,rfl⟩:=f;rfl) (by decide) (by decide) ht
 .have tv : ∀ i, i < us.length -> ∃ es, ds.getD i .non = .tup es /\ shOk (t :: ts) es = true /\ TV h' es (us.getD i Zhs) := fun i hi => by
   obtain⟨x,r,q,hm⟩:=zoy rs rv hi
   obtain⟨es,e,ho⟩:=ht _ hm
   rw[e] at r
   obtain⟨a,o,its,n,eu,ho',hc,hd,fv⟩:=I.tv ho r q
   exact⟨es,e,ho,a,o,its,n,eu,k a o ho',hc,hd,fv⟩
  obtain⟨T0,hT0,hb,hbb⟩:∃T0:Zf9,(T0=t.tv)/\(T0 != Ziw "tuple")=true/\(T0 == T0)=true:=⟨t.tv,rfl,by cases t <;> decide,by cases t <;> decide⟩
  have hfs : ∀ (l : List Zf9), (∀ v ∈ l, ∃ es, shOk (t :: ts) es = true /\ TV h' es v) -> ∃ fs, KatTups h' l fs /\ fs.length = l.length /\ ∀ f ∈ fs, typeOf f = pure T0 := by
   intro l
   induction l with
   | nil=>intro _;exact⟨[],KatTups.nil,rfl,by simp⟩
   | cons v l ih =>
    intro h
    obtain⟨fs,h1,h2,h3⟩:=ih fun u hu=>h u (Zgi _ hu)
    obtain⟨es,ho,a,o,its,n,rfl,hg,hc,hd,fv⟩:=h v Zgz
    cases es with
    | nil=>simp[shOk] at ho
    | cons d es =>
     simp only[shOk,Zgv] at ho
     cases hits:its.toList with
     | nil=>rw[hits] at fv;cases fv
     | cons f fr =>
      rw[hits] at fv
      cases fv with
      | cons fd _ =>
       have h0:its[0]? = some f:=by
        have:its.toList[0]? = some f:=by rw[hits];rfl
        simpa using this
       refine⟨f::fs,KatTups.cons hg hc hd h0 h1,by simp[h2],fun g hgm=>?_⟩
       rcases Zgh.mp hgm with rfl | hgm
       .cases t <;> cases d <;> simp[Ty.ok] at ho
        .obtain⟨t',rfl⟩:=fd;rw[hT0];rfl
        .obtain⟨t',rfl⟩:=fd;rw[hT0];rfl
       .exact h3 g hgm
  obtain⟨fs,hk1,hk2,hk3⟩:=hfs us fun v hv=>by
   obtain⟨i,hi,rfl⟩:=zoo hv
   obtain⟨es,_,ho,tvv⟩:=tv i hi
   exact⟨es,ho,tvv⟩
  refine⟨tuples' (T0 != Ziw "tuple"),fun Q E q=>kat_kind (s:={ s with heap:=h' }) (T:=T0) hk1 (by lia) (fun v hv=>?_) hbb q,fun i j C hi hj hC=>?_⟩
  .rw[hk3 v hv];exact .now
  .obtain⟨es,e1,o1,a,o,its,n,eu,hg,hc,hd,fv⟩:=tv i hi
   obtain⟨es',e1',o1',a',o',its',n',eu',hg',hc',hd',fv'⟩:=tv j hj
   rw[eu,eu']
   rw[zys (by lia),e1,e1'] at hC
   have sz:∀{ts:List Ty} {es:List D} {us:List Zf9},shOk ts es=true->FVs es us->us.length=ts.length:=by
    intro ts
    induction ts with
    | nil=>intro es us h f;cases f with
     | nil=>rfl
     | cons _ _=>simp[shOk] at h
    | cons t ts ih=>intro es us h f;cases f with
     | nil=>simp[shOk] at h
     | cons _ f=>simp only[shOk,Zgv] at h;simp[ih h.2 f]
   have z1:=sz o1 fv
   have z2:=sz o1' fv'
   refine kat_lt (s:={ s with heap:=h' }) hg hd hg' hd' ?_
   rw[decide_eq_false (by simp at z1 z2;lia)]
   exact zph 0 o1 o1' fv fv' hC
theorem zjn{r:Nat->Int}{us:List Zf9}(h:us.length<2):OutK r us us.toArray:=by
 refine⟨Zg1 us.length,Zrn _,?_,?_⟩
 .match us,h with
  | [],_=>rfl
  | [v],_=>rfl
 .match us,h with
  | [],_=>simp
  | [v],_=>simp
end
end L2
namespace L2
open PySem PySem.W PySem.Spec PyProof.Rows
noncomputable def cutD(xs:List D)(lo hi:Option Int):List D:=(xs.drop (HT.sIx xs.length 0 lo)).take (HT.sIx xs.length xs.length hi - HT.sIx xs.length 0 lo)
theorem Reps.cut{K:Zf6}{H:Hp}{ds:List D}{xs:List V}(lo hi:Option Int)(h:Reps K H ds xs):Reps K H (cutD ds lo hi) (cutV xs lo hi):=by
 unfold cutD cutV
 rw[<- h.length]
 exact(h.drop _).take _
section
variable{K:Zf6}{G Hz L:Hp}{ss:List Sl}{t ta tb:TE}{d:D}{ds:List D}
theorem zij(a:EvL K G Hz L ss t ds):Ev K G Hz L ss (tCB (fun xs H Q=>∃p ys,xs=[.ref p]/\(SqL K H p ys\/SqT K H p ys)/\Q (.int ys.length) H) (za7 t tNil)) (.int ds.length):=fun F H U Q S q =>
 a F H U _ S fun p vs F' H' e sq r=>⟨p,vs,rfl,.inl sq,q _ _ _ e (by rw[<- r.length];exact Rep.int)⟩
theorem zy6(a:EvB K G Hz L ss t (.tup ds)):Ev K G Hz L ss (tCB (fun xs H Q=>∃p ys,xs=[.ref p]/\(SqL K H p ys\/SqT K H p ys)/\Q (.int ys.length) H) (za7 t tNil)) (.int ds.length):=fun F H U Q S q =>
 a F H U _ S fun v F' H' e r=>by
  obtain⟨p,vs,rfl,sq,rs⟩:=r.of_tup
  exact⟨p,vs,rfl,.inr sq,q _ _ _ e (by rw[<- rs.length];exact Rep.int)⟩
theorem zst{l:List Nat}(a:EvB K G Hz L ss t (.str l))(hz:l.length<=sizeLine):Ev K G Hz L ss (tCB (fun xs H Q=>∃z:Str,xs=[.str z]/\z.length<=sizeLine/\Q (.int z.length) H) (za7 t tNil)) (.int l.length):=fun F H U Q S q =>
 a F H U _ S fun v F' H' e r=>by
  rw[r.of_str]
  exact⟨T l,rfl,by rw[zbm];exact hz,q _ _ _ e (by rw[zbm];exact Rep.int)⟩
noncomputable def EvP(K:Zf6)(G Hz L:Hp)(ss:List Sl)(t:TO)(o:Option Int):Prop:=∀F H U (Q:Option Int->Hp->Prop),Sat K G Hz L F H U ss->(∀F' H',Ext F H F' H'->Q o H')->t U H Q
theorem zh9:EvP K G Hz L ss zk6 none:=fun F H U Q S q=>q _ _ (Ext.refl S.ext.fh)
theorem zco{i:Int}(a:EvB K G Hz L ss t (.int i)):EvP K G Hz L ss (zp6 t) (some i):=fun F H U Q S q=>a F H U _ S fun v F' H' e r=>⟨i,r.of_int,q _ _ e⟩
theorem zgl{tl th:TO}{lo hi:Option Int}(a:EvL K G Hz L ss t ds)(b:EvP K G Hz L ss tl lo)(c:EvP K G Hz L ss th hi):EvO K G Hz L ss (tSl (rSlL K) t tl th) (cutD ds lo hi):=fun F H U Q S q =>
 a F H U _ S fun p vs F1 H1 e1 sq r=>b F1 H1 U _ (S.ext2 e1) fun F2 H2 e2=>c F2 H2 U _ ((S.ext2 e1).ext2 e2) fun F3 H3 e3 =>
  ⟨p,vs,rfl,SqL.same e3.hh (SqL.same e2.hh sq),fun l hl=>q l _ F3 _ (((e1.trans e2).trans e3).newO hl) (((e1.trans e2).trans e3).hh.free hl) (((e1.trans e2).trans e3).fh.free hl) zan (((r.mono e2.gf).mono e3.gf).cut lo hi)⟩
theorem zxh{tl th:TO}{lo hi:Option Int}{l:List Nat}(a:EvB K G Hz L ss t (.str l))(b:EvP K G Hz L ss tl lo)(c:EvP K G Hz L ss th hi)(hz:l.length<=sizeLine):Ev K G Hz L ss (tSl rSlS t tl th) (.str (cutL l lo hi)):=fun F H U Q S q =>
 a F H U _ S fun v F1 H1 e1 r=>b F1 H1 U _ (S.ext2 e1) fun F2 H2 e2=>c F2 H2 U _ ((S.ext2 e1).ext2 e2) fun F3 H3 e3 =>
  ⟨l,r.of_str,hz,q _ _ _ ((e1.trans e2).trans e3) (Rep.str fun c hc=>r.asc c (Zq6 (Znc hc)))⟩
noncomputable def glue(z:List Nat):List (List Nat)->List Nat
 | []=>[]
 | [x]=>x
 | x::y::r=>x++z++glue z (y::r)
end
theorem zro(z:List Nat):∀ls:List (List Nat),Zpa (T z) (ls.map T)=T (glue z ls)
 | []=>rfl
 | [x]=>rfl
 | x::y::r=>by
  have ih:=zro z (y::r)
  rw[Zg3] at ih
  rw[Zg3,Zg3]
  show T x++T z++Zpa (T z) (T y::r.map T)=_
  rw[ih,zx2,zx2];rfl
theorem zkq{z:List Nat}(hz:∀c∈z,c<128):∀{ls:List (List Nat)},(∀l∈ls,∀c∈l,c<128)-> ∀c∈glue z ls,c<128
 | [],_,c,h=>by cases h
 | [x],hl,c,h=>hl x Zgz c h
 | x::y::r,hl,c,h=>by
  rw[glue] at h
  rcases Zhl.mp h with h | h
  .rcases Zhl.mp h with h | h
   .exact hl x Zgz c h
   .exact hz c h
  .exact zkq hz (ls:=y::r) (fun l hm=>hl l (Zgi _ hm)) c h
theorem Reps.strs{K:Zf6}{H:Hp}:∀{ls:List (List Nat)} {vs:List V},Reps K H (ls.map D.str) vs->vs=(ls.map T).map V.str /\ ∀l∈ls,∀c∈l,c<128
 | [],vs,h=>by rw[Zmw,Reps] at h;subst h;exact⟨rfl,by simp⟩
 | l::ls,vs,h=>by
  rw[Zg3,Reps] at h
  obtain⟨x,xs,rfl,h1,h2⟩:=h
  obtain⟨e,ha⟩:=h2.strs
  refine⟨by rw[h1.of_str,e];rfl,fun m hm=>?_⟩
  rcases Zgh.mp hm with rfl | hm
  .exact h1.asc
  .exact ha m hm
section
variable{K:Zf6}{G Hz L:Hp}{ss:List Sl}{t ta tb:TE}{d:D}{ds:List D}
theorem zjy{z:List Nat}{ls:List (List Nat)}(a:EvB K G Hz L ss ta (.str z))(b:EvL K G Hz L ss t (ls.map D.str))(hz:(ls.map Zjk).sum+ls.length*z.length<=16777216):Ev K G Hz L ss (tBM K "str" (zzt K) ta (za7 t tNil)) (.str (glue z ls)):=fun F H U Q S q =>
 a F H U _ S fun v F1 H1 e1 r1=>by
  rw[r1.of_str]
  refine⟨rfl,b F1 H1 U _ (S.ext2 e1) fun p vs F2 H2 e2 sq r2=>?_⟩
  obtain⟨rfl,ha⟩:=r2.strs
  refine⟨T z,p,ls.map T,rfl,rfl,sq,?_,?_⟩
  .rw[Zii,Zge,zbm,show((fun x:Str=>x.length)∘T)=Zjk from funext fun l=>zbm l];exact hz
  .rw[zro]
   exact q _ _ _ (e1.trans e2) (Rep.str (zkq r1.asc ha))
end
noncomputable def zc9(goes:Nat->Bool)(l:List Nat):List Nat:=((l.dropWhile goes).reverse.dropWhile goes).reverse
theorem zcg(g:Nat->Bool):∀l:List Nat,l.drop (l.takeWhile g).length=l.dropWhile g
 | []=>rfl
 | x::l=>by
  rw[Zlj,Zjw]
  cases g x with
  | true=>simp only[if_true,Zgp,List.drop_succ_cons];exact zcg g l
  | false=>rfl
theorem zzp(l y:List Nat):Zp5 (T l) (T y)=T (zc9 y.contains l):=by
 have ct:(T y).cps.contains=y.contains:=by funext c;simp[T]
 have key:Zpj y.contains true true (T l)=T (zc9 y.contains l):=by
  unfold Zpj PySem.stripLo PySem.stripHi
  simp only[if_true,zd2,zbm]
  rw[zcg]
  have h1:(l.takeWhile y.contains).length+(l.dropWhile y.contains).length=l.length:=by
   rw[<- Zg8,List.takeWhile_append_dropWhile]
  have e:Zms (T l) (l.takeWhile y.contains).length (l.length - ((l.dropWhile y.contains).reverse.takeWhile y.contains).length)=T ((l.drop (l.takeWhile y.contains).length).take (l.length - ((l.dropWhile y.contains).reverse.takeWhile y.contains).length - (l.takeWhile y.contains).length)):=by
   unfold Zms
   congr 1
   apply Zos.mp
   rw[Zm9]
   show Zqz (T l).cps.toList _ _=_
   rw[zd2]
  rw[e,zcg]
  congr 1
  unfold zc9
  have h2:=zcg y.contains (l.dropWhile y.contains).reverse
  rw[<- h2]
  have h3:((l.dropWhile y.contains).reverse.takeWhile y.contains).length<=(l.dropWhile y.contains).length:=by
   have:=(List.takeWhile_sublist (p:=y.contains) (l:=(l.dropWhile y.contains).reverse)).length_le
   simpa using this
  rw[List.drop_reverse,List.reverse_reverse]
  congr 1;omega
 unfold Zp5 Txt.stripBy
 rw[ct]
 split
 .rename_i h
  rw[<- key]
  unfold stripSame at h
  simp only[Zgv,beq_iff_eq] at h
  unfold Zpj
  rw[h.2,h.1]
  unfold Zms
  have:(T l).cps.extract 0 (T l).length=(T l).cps:=by
   show(T l).cps.extract 0 (T l).cps.size=_
   simp
  rw[this]
 .exact key
noncomputable def zs4:V->List V->Hp->VK->Prop:=fun x vs H Q=>∃z y,x= .str z/\vs=[.str y]/\z.length<=sizeLine/\Q (.str (Zp5 z y)) H
section
variable{X:Cx}
theorem zhu:MtR X "str.strip" zs4:=by
 intro pins s U H x xs v us Q I rx rs h
 obtain⟨z,y,rfl,rfl,hz,q⟩:=h
 obtain⟨t,rfl⟩:=rx
 obtain⟨u,rfl,ru⟩:=Vals.one rs
 obtain⟨u,rfl⟩:=ru
 exact SC.stripChars (fun t' k=>⟨.str _,H,I.tok _,⟨_,rfl⟩,q⟩) hz
end
section
variable{K:Zf6}{G Hz L:Hp}{ss:List Sl}{t ta tb:TE}{d:D}{ds:List D}
theorem zj4{l y:List Nat}(a:EvB K G Hz L ss ta (.str l))(b:EvB K G Hz L ss t (.str y))(hz:l.length<=sizeLine):Ev K G Hz L ss (tBM K "str" zs4 ta (za7 t tNil)) (.str (zc9 y.contains l)):=fun F H U Q S q =>
 a F H U _ S fun v F1 H1 e1 r1=>by
  rw[r1.of_str]
  refine⟨rfl,b F1 H1 U _ (S.ext2 e1) fun v2 F2 H2 e2 r2=>?_⟩
  refine⟨T l,T y,rfl,by rw[r2.of_str],by rw[zbm];exact hz,?_⟩
  rw[zzp]
  refine q _ _ _ (e1.trans e2) (Rep.str fun c hc=>r1.asc c ?_)
  unfold zc9 at hc
  exact(Zqu _).subset (Zmj.mp ((Zqu _).subset (Zmj.mp hc)))
end
noncomputable def rAll(K:Zf6):List V->Hp->VK->Prop:=fun xs H Q=>∃p,∃bs:List Bool,xs=[.ref p]/\SqL K H p (bs.map V.bl)/\Q (.bl (bs.all id)) H
section
variable{X:Cx}{prog:Zgy}{w:Zhn}{A:Zhe}{E:Zf9->Zgc->Prop}{s:Zgc}
theorem zvk{h':Heap}{o:Obj}{k:Nat}(hk:∀b x,b∉[s.heap.objs.size]->(s.heap.push o).get? b=some x->h'.get? b=some x):zf2 s.heap h':=fun b x e=>by
 refine hk b x (fun hm=>?_) (Zga _ e)
 have h1:=Zgk e
 rw[Zgn.mp hm] at h1
 exact Zhu _ h1
theorem zs5:∀{bs:List Bool} {us:List Zf9},Vals (bs.map V.bl) us->us=bs.map Zma
 | [],_,.nil=>rfl
 | b::bs,_,.cons r1 r2=>by rw[zs5 r2];cases r1;rfl
theorem zp7:∀bs:List Bool,((Zg1 bs.length).all fun i=>(bs[i]?).getD true)=bs.all id:=fun bs=>by
 rw[Zh0,Zif,Zif]
 constructor
 .intro h b hb
  obtain⟨i,hi,e⟩:=Zrl hb
  have:=h i (Zhp.mpr hi)
  rw[Zf8 hi,Zmf,e] at this
  exact this
 .intro h i hi
  have hi':=Zhp.mp hi
  rw[Zf8 hi',Zmf]
  exact h _ (Zhv hi')
theorem zow(hc:X.calm=true):zed X (.builtin "all") (rAll X.K):=by
 intro pins s U H xs us Q I r h
 obtain⟨p,bs,rfl,hq,q⟩:=h
 obtain⟨u,rfl,ru⟩:=zg5 r
 cases ru
 obtain⟨its,rv,pl,_⟩:=I.list hq
 obtain rfl:=zs5 rv
 have hl:=pl.isList
 have hlt:p<s.heap.objs.size:=by obtain⟨_,e,_⟩:=hl;exact Zgk e
 refine call_all_walk (Zjd hl ⟨s.heap.objs.size,[s.heap.objs.size,p],[s.heap.objs.size],(bs.map Zma).toArray.size,_,_,fun i=>(bs[i]?).getD true,rfl,
  Walks.list (A:=X.A.in1) (I.ok.hd hc) _ p (Zgu hlt) _,⟨⟨_,Zgj _ rfl,rfl,rfl⟩,hl.push _⟩,fun i v s' Q' E' hP hQ=>?_,fun h' tk hk=>?_⟩)
 .have hP':(bs.map Zma)[i]? = some v:=by simpa using hP
  rw[Zgl] at hP'
  cases hb:bs[i]? with
  | none=>rw[hb] at hP';cases hP'
  | some b =>
   rw[hb] at hP'
   cases hP'
   simp only[hb,Zmf] at hQ
   exact Ziu hQ
 .have e:((Zg1 (bs.map Zma).toArray.size).all fun i=>(bs[i]?).getD true)=bs.all id:=by
   rw[Zhw,Zge];exact zp7 bs
  rw[e]
  exact⟨.bl _,H,I.kept (zvk (k:=0) hk),rfl,q⟩
noncomputable def two(x y:Str)(t u:Tok):Array Zf9:=#[.str x t,.str y u]
theorem zox{x y:Str}{t u:Tok}:∀(i:Nat) (v:Zf9),(two x y t u)[i]? = some v-> ∃k,v= .str (if i=0 then x else y) k
 | 0,v,h=>⟨t,by simp[two] at h;simp[h.symm]⟩
 | 1,v,h=>⟨u,by simp[two] at h;simp[h.symm]⟩
 | i+2,v,h=>by simp[two] at h
theorem zj2{x y:Str}{t u:Tok}{Q:Zf9->Zgc->Prop}(hh:A.handled=none)
  (h:∀h' tk,zf2 s.heap h'->Q (if y.cps.toList<x.cps.toList then .str y u else .str x t) { s with heap:=h',toks:=tk }):Zgr (Zg9 prog w) A (call (.builtin "min") [.str x t,.str y u]) Q E s:=by
 have hT:(s.heap.push { cls:=.type "tuple", data:=.seq (two x y t u) }).IsTuple s.heap.objs.size (two x y t u):=⟨_,Zgj _ rfl,rfl,0,rfl⟩
 have hsz:(s.heap.push { cls:=.type "tuple", data:=.seq (two x y t u) }).objs.size=s.heap.objs.size+1:=Zg4 ..
 refine call_min_two (Zo0 hT ?_)
 refine⟨_,[_,s.heap.objs.size],[_],_,_,_,fun i j=>decide ((if i=0 then x else y).cps.toList<(if j=0 then x else y).cps.toList),rfl,Zu3 (A:=A.in1) hh _ s.heap.objs.size (Zgu (by rw[Zg4];lia)) (two x y t u),⟨⟨_,Zgj _ rfl,rfl,rfl⟩,hT.push _⟩,fun c hc=>?_,by simp[two],?_,fun v h' tk hP hk=>?_⟩
 .show c<((s.heap.push _).push _).objs.size
  rw[Zg4,Zg4]
  simp only[Zgh,Zhq,or_false] at hc
  rcases hc with rfl | rfl
  .rw[Zg4];exact Zh9 _
  .exact Zi5 (Zh9 _)
 .intro i j vi vj s' Q' E' hi hj hq
  obtain⟨k1,rfl⟩:=zox i vi hi
  obtain⟨k2,rfl⟩:=zox j vj hj
  exact Zux (op:=.Lt) (Zi3 _ _ _) (Zi3 _ _ _) F.slot_str_lt F.entry_str_lt (F.args_str_lt_2 _ _) (gives_str_lt _ _ _ _) (fun e=>nomatch e) hq
 .have hold:zf2 s.heap h':=fun c o e=>by
   have h1:=Zgk e
   refine hk c o (fun hm=>?_) (Zga _ (Zga _ e))
   rw[Zgn.mp hm,Zg4] at h1;exact absurd (Zsx h1) (Zhu _)
  have:=h h' tk hold
  have hsz2:(two x y t u).size - 1=1:=by simp[two]
  have hP':(two x y t u)[Znp (fun i j=>decide ((if i=0 then x else y).cps.toList<(if j=0 then x else y).cps.toList)) 1]? = some v:=by rw[<- hsz2];exact hP
  by_cases hyx:y.cps.toList<x.cps.toList
  .have e:Znp (fun i j=>decide ((if i=0 then x else y).cps.toList<(if j=0 then x else y).cps.toList)) 1=1:=by simp[Znp,hyx]
   rw[e] at hP'
   rw[if_pos hyx] at this
   simp[two] at hP'
   rw[<- hP'];exact this
  .have e:Znp (fun i j=>decide ((if i=0 then x else y).cps.toList<(if j=0 then x else y).cps.toList)) 1=0:=by simp[Znp,hyx]
   rw[e] at hP'
   rw[if_neg hyx] at this
   simp[two] at hP'
   rw[<- hP'];exact this
theorem zjw{x y:Str}{t u:Tok}{Q:Zf9->Zgc->Prop}(hh:A.handled=none)
  (h:∀h' tk,zf2 s.heap h'->Q (if x.cps.toList<y.cps.toList then .str y u else .str x t) { s with heap:=h',toks:=tk }):Zgr (Zg9 prog w) A (call (.builtin "max") [.str x t,.str y u]) Q E s:=by
 have hT:(s.heap.push { cls:=.type "tuple", data:=.seq (two x y t u) }).IsTuple s.heap.objs.size (two x y t u):=⟨_,Zgj _ rfl,rfl,0,rfl⟩
 have hsz:(s.heap.push { cls:=.type "tuple", data:=.seq (two x y t u) }).objs.size=s.heap.objs.size+1:=Zg4 ..
 refine call_max_two (Zo0 hT ?_)
 refine⟨_,[_,s.heap.objs.size],[_],_,_,_,fun i j=>decide ((if j=0 then x else y).cps.toList<(if i=0 then x else y).cps.toList),rfl,Zu3 (A:=A.in1) hh _ s.heap.objs.size (Zgu (by rw[Zg4];lia)) (two x y t u),⟨⟨_,Zgj _ rfl,rfl,rfl⟩,hT.push _⟩,fun c hc=>?_,by simp[two],?_,fun v h' tk hP hk=>?_⟩
 .show c<((s.heap.push _).push _).objs.size
  rw[Zg4,Zg4]
  simp only[Zgh,Zhq,or_false] at hc
  rcases hc with rfl | rfl
  .rw[Zg4];exact Zh9 _
  .exact Zi5 (Zh9 _)
 .intro i j vi vj s' Q' E' hi hj hq
  obtain⟨k1,rfl⟩:=zox i vi hi
  obtain⟨k2,rfl⟩:=zox j vj hj
  exact Zux (op:=.Gt) (Zi3 _ _ _) (Zi3 _ _ _) F.slot_str_gt F.entry_str_gt (F.args_str_gt_2 _ _) (gives_str_gt _ _ _ _) (fun e=>nomatch e) hq
 .have hold:zf2 s.heap h':=fun c o e=>by
   have h1:=Zgk e
   refine hk c o (fun hm=>?_) (Zga _ (Zga _ e))
   rw[Zgn.mp hm,Zg4] at h1;exact absurd (Zsx h1) (Zhu _)
  have:=h h' tk hold
  have hsz2:(two x y t u).size - 1=1:=by simp[two]
  have hP':(two x y t u)[Znp (fun i j=>decide ((if j=0 then x else y).cps.toList<(if i=0 then x else y).cps.toList)) 1]? = some v:=by rw[<- hsz2];exact hP
  by_cases hyx:x.cps.toList<y.cps.toList
  .have e:Znp (fun i j=>decide ((if j=0 then x else y).cps.toList<(if i=0 then x else y).cps.toList)) 1=1:=by simp[Znp,hyx]
   rw[e] at hP'
   rw[if_pos hyx] at this
   simp[two] at hP'
   rw[<- hP'];exact this
  .have e:Znp (fun i j=>decide ((if j=0 then x else y).cps.toList<(if i=0 then x else y).cps.toList)) 1=0:=by simp[Znp,hyx]
   rw[e] at hP'
   rw[if_neg hyx] at this
   simp[two] at hP'
   rw[<- hP'];exact this
theorem zta(hc:X.calm=true):zed X (.builtin "min") (fun xs H Q=>∃l m:List Nat,xs=[.str (T l),.str (T m)]/\Q (.str (T (if m<l then m else l))) H):=by
 intro pins s U H xs us Q I r h
 obtain⟨l,m,rfl,q⟩:=h
 obtain⟨u,w',rfl,⟨t,rfl⟩,⟨t',rfl⟩⟩:=zqx r
 refine zj2 (I.ok.hd hc) fun h' tk k=>⟨_,H,I.kept k,?_,q⟩
 rw[zd2,zd2]
 split <;> exact⟨_,rfl⟩
theorem zss(hc:X.calm=true):zed X (.builtin "max") (fun xs H Q=>∃l m:List Nat,xs=[.str (T l),.str (T m)]/\Q (.str (T (if l<m then m else l))) H):=by
 intro pins s U H xs us Q I r h
 obtain⟨l,m,rfl,q⟩:=h
 obtain⟨u,w',rfl,⟨t,rfl⟩,⟨t',rfl⟩⟩:=zqx r
 refine zjw (I.ok.hd hc) fun h' tk k=>⟨_,H,I.kept k,?_,q⟩
 rw[zd2,zd2]
 split <;> exact⟨_,rfl⟩
end
end L2
namespace L2
open PySem PySem.W PySem.Spec PyProof.Rows PySem.Calls
open PySem.MeetsSeq PySem.MeetsSeq2 PySem.MeetsSeq3
section
variable{K:Zf6}{G Hz L:Hp}{ss:List Sl}{t ta tb:TE}{d:D}{ds es:List D}
theorem Reps.bools{H:Hp}:∀{bs:List Bool} {vs:List V},Reps K H (bs.map D.bl) vs->vs=bs.map V.bl
 | [],vs,h=>by rw[Zmw,Reps] at h;exact h
 | b::bs,vs,h=>by
  rw[Zg3,Reps] at h
  obtain⟨x,xs,rfl,h1,h2⟩:=h
  rw[h1.of_bl,h2.bools];rfl
theorem ybc{bs:List Bool}(a:EvL K G Hz L ss t (bs.map D.bl)):Ev K G Hz L ss (tCB (rAll K) (za7 t tNil)) (.bl (bs.all id)):=fun F H U Q S q =>
 a F H U _ S fun p vs F1 H1 e1 sq r1=>⟨p,bs,rfl,by rw[r1.bools] at sq;exact sq,q _ _ _ e1 Rep.bl⟩
noncomputable def minL(l m:List Nat):List Nat:=if m<l then m else l
noncomputable def maxL(l m:List Nat):List Nat:=if l<m then m else l
theorem zyr{l m:List Nat}(a:EvB K G Hz L ss ta (.str l))(b:EvB K G Hz L ss tb (.str m)):Ev K G Hz L ss (tCB (fun xs H Q=>∃l m:List Nat,xs=[.str (T l),.str (T m)]/\Q (.str (T (if m<l then m else l))) H) (za7 ta (za7 tb tNil))) (.str (minL l m)):=fun F H U Q S q =>
 a F H U _ S fun v F1 H1 e1 r1=>b F1 H1 U _ (S.ext2 e1) fun v2 F2 H2 e2 r2=>⟨l,m,by rw[r1.of_str,r2.of_str],q _ _ _ (e1.trans e2) (Rep.str (by unfold minL;split;exact r2.asc;exact r1.asc))⟩
theorem zzq{l m:List Nat}(a:EvB K G Hz L ss ta (.str l))(b:EvB K G Hz L ss tb (.str m)):Ev K G Hz L ss (tCB (fun xs H Q=>∃l m:List Nat,xs=[.str (T l),.str (T m)]/\Q (.str (T (if l<m then m else l))) H) (za7 ta (za7 tb tNil))) (.str (maxL l m)):=fun F H U Q S q =>
 a F H U _ S fun v F1 H1 e1 r1=>b F1 H1 U _ (S.ext2 e1) fun v2 F2 H2 e2 r2=>⟨l,m,by rw[r1.of_str,r2.of_str],q _ _ _ (e1.trans e2) (Rep.str (by unfold maxL;split;exact r2.asc;exact r1.asc))⟩
end
end L2
namespace L2
open PySem PySem.W PySem.Spec PyProof.Rows
noncomputable def slots(n:Nat)(ds:List D):List Sl:=ds.map Sl.d++Zh1 (n - ds.length) .un
section
variable{K:Zf6}{H:Hp}{vs:List V}{Q:VK}{X:XK}{N:List Str}{t:TS}{pre:List D->Prop}
theorem zdk{G:Hp}{ds:List D}(sm:Same G H)(r:Reps K G ds vs)(hN:vs.length<=N.length):Sat K G H G G H (start N vs) (slots N.length ds):=by
 have hl:=r.length
 have ads:∀(i:Nat) s,(slots N.length ds)[i]? = some s->s.ads=[]:=fun i s hs=>by
  have hm:=Zgm hs
  unfold slots at hm
  rcases Zhl.mp hm with h | h
  .obtain⟨d,_,rfl⟩:=Zg5.mp h;rfl
  .rw[Zqa h];rfl
 refine⟨Ext.refl sm,Same.refl _,?_,fun i s hs=>?_,fun i s hs=>by rw[ads i s hs];exact Zl2,fun i j s s' _ hs _ p hp=>by rw[ads i s hs] at hp;cases hp⟩
 .unfold start slots;simp;lia
 .by_cases hi:i<ds.length
  .have e:(slots N.length ds)[i]? = some (.d ds[i]):=by
    unfold slots
    rw[Zie (by simpa using hi),Zgl,Zf8 hi];rfl
   rw[e] at hs
   cases hs
   obtain⟨v,hv,rv⟩:=r.get' (Zf8 hi)
   refine⟨v,?_,rv⟩
   unfold start
   rw[Zf7,Zie (by simp;lia),Zgl,hv];rfl
  .have hm:s= .un:=by
    unfold slots at hs
    rw[Zio (by simp;lia)] at hs
    exact Zqa (Zgm hs)
   rw[hm];trivial
theorem yac{res:List D->D}(h:SpD K pre res vs H Q X)(hN:vs.length<=N.length)(body:∀G ds,pre ds->RtD K G H Q (res ds)->Go K G H G { nx:=fun _ H'=>Q .non H',rt:=Q } (slots N.length ds) t):t { nx:=fun _ H'=>Q .non H',rt:=Q } (start N vs) H:=by
 obtain⟨G,ds,sm,r,hp,q⟩:=h
 exact body G ds hp (fun v F H' e r=>q v F H' e r) G H _ (zdk sm r hN)
theorem yb7{res:List D->List D}(h:SpO K pre res vs H Q X)(hN:vs.length<=N.length)(body:∀G ds,pre ds->RtO K G H Q (res ds)->Go K G H G { nx:=fun _ H'=>Q .non H',rt:=Q } (slots N.length ds) t):t { nx:=fun _ H'=>Q .non H',rt:=Q } (start N vs) H:=by
 obtain⟨G,ds,sm,r,hp,q⟩:=h
 exact body G ds hp (fun p ws F H' e h1 h2 h3 r=>q p ws F H' e h1 h2 h3 r) G H _ (zdk sm r hN)
theorem zsk{res:List D->D}{n:Nat}(hpre:∀ds,pre ds->ds.length=n)(h:SpD K pre res vs H Q X):vs.length=n:=by
 obtain⟨G,ds,sm,r,hp,q⟩:=h
 rw[<- r.length];exact hpre ds hp
theorem zsg{res:List D->List D}{n:Nat}(hpre:∀ds,pre ds->ds.length=n)(h:SpO K pre res vs H Q X):vs.length=n:=by
 obtain⟨G,ds,sm,r,hp,q⟩:=h
 rw[<- r.length];exact hpre ds hp
end
section
variable{K:Zf6}{G Hz L:Hp}{ss:List Sl}{t ta tb:TE}{d:D}{ds es:List D}{i j:Int}
theorem zcn(a:EvB K G Hz L ss ta (.int i))(b:EvB K G Hz L ss tb (.int j))(h:0<j):Ev K G Hz L ss (tOp (rI (fun _ j=>0<j) fun i j=>.int (i % j)) ta tb) (.int (i % j)):=zw5 (C:=fun _ j=>0<j) (g:=fun i j=>i % j) a b h
theorem zb9(a:EvB K G Hz L ss ta (.int i))(b:EvB K G Hz L ss tb (.int j))(h:CDiv i j):Ev K G Hz L ss (tOp (rI CDiv fun i j=>.int (i / j)) ta tb) (.int (i / j)):=zw5 (C:=CDiv) (g:=fun i j=>i / j) a b h
theorem zy7(a:EvB K G Hz L ss ta (.int i))(b:EvB K G Hz L ss tb (.int j)):Ev K G Hz L ss (tOp (rI0 fun i j=>.bl (decide (i<j))) ta tb) (.bl (decide (i<j))):=zke (g:=fun i j=>decide (i<j)) a b
end
theorem zpn(n d:Nat){a:Int}(h:0<=a):HT.sIx n d (some a)=min a.toNat n:=by
 show(if a<0 then (a+(n:Int)).toNat else min a.toNat n)=_
 rw[if_neg (by lia)]
theorem zyh(m:List D){a:Int}(h:0<=a):cutD m none (some a)=m.take a.toNat:=by
 unfold cutD
 rw[zpn _ _ h,show HT.sIx m.length 0 none=0 from rfl,List.drop_zero,Nat.sub_zero,<- List.take_eq_take_min]
theorem zmt(m:List D){b:Int}(h:0<=b):cutD m (some b) none=m.drop b.toNat:=by
 unfold cutD
 rw[zpn _ _ h,show HT.sIx m.length m.length none=m.length from rfl,Zjb (by rw[Zkh];lia)]
 by_cases hh:b.toNat<=m.length
 .rw[Zlq hh]
 .rw[Zml (by lia),Zs3,Zkv (by lia)]
theorem zv3(m:List D){a b:Int}(h:0<=a)(h2:a<=b):cutD m (some a) (some b)=(m.drop a.toNat).take (b.toNat - a.toNat):=by
 unfold cutD
 rw[zpn _ _ h,zpn _ _ (by lia)]
 by_cases h3:a.toNat<=m.length
 .rw[Zlq h3]
  by_cases h4:b.toNat<=m.length
  .rw[Zlq h4]
  .rw[Zml (by lia),Zjb (by simp),Zjb (by simp;lia)]
 .rw[Zkv (as:=m) (i:=a.toNat) (by lia),Zkv (by omega)];simp
theorem zog{α β:Type}(xs:List α)(z:α)(p:α->Bool)(f:α->β):((Zg1 xs.length).filter fun i=>p (xs.getD i z)).map (fun i=>f (xs.getD i z))=(xs.filter p).map f:=by
 have e:xs=(Zg1 xs.length).map fun i=>xs.getD i z:=by
  refine Zka fun i=>?_
  rw[Zgl]
  by_cases hi:i<xs.length
  .rw[Zi9 hi,Zf8 hi];simp[Zf7,hi]
  .rw[Zhd (by lia),Zhd (by simp;lia)];rfl
 conv=>rhs;rw[e]
 rw[List.filter_map,Zii]
 rfl
section
variable{K:Zf6}{G Hz L:Hp}{ss:List Sl}
theorem zzf{α:Type}(xs:List α)(enc:α->D)(p:α->Bool)(f:α->D){tl:TE}{g:TG}{tt:TT}{te:TE}{nt:Nat}{cs:List Nat}(a:EvL K G Hz L ss tl (xs.map enc))(hk:GK nt g)(hc:cs.Nodup)(hz:xs.length<sizeLine)
  (hs:∀x∈xs,∃ss',Tg K G Hz L g (enc x) (lcSl nt cs ss) ss'/\EvT K G Hz L ss' tt (p x)/\(p x=true->Ev K G Hz L ss' te (f x))) :
  EvO K G Hz L ss (tLC nt cs (ztp K tl) g tt te) ((xs.filter p).map f):=by
 cases xs with
 | nil =>
  have:=zks (p:=fun _=>true) (f:=fun _=>.non) (tt:=tt) (te:=te) (zov a) hk hc (by simpa using hz) (fun i hi=>by simp at hi)
  simpa using this
 | cons z zs =>
  have hl:((z::zs).map enc).length=(z::zs).length:=by simp
  have:=zks (p:=fun i=>p ((z::zs).getD i z)) (f:=fun i=>f ((z::zs).getD i z)) (tt:=tt) (te:=te) (zov a) hk hc (by rw[hl];exact hz) (fun i hi=>by
   rw[hl] at hi
   have hm:(z::zs).getD i z∈(z::zs):=by
    rw[Zf7,Zf8 hi];exact Zhv hi
   have e:((z::zs).map enc).getD i .non=enc ((z::zs).getD i z):=by
    rw[Zf7,Zgl,Zf7,Zf8 hi];rfl
   rw[e]
   exact hs _ hm)
  rw[hl,zog] at this
  exact this
theorem zpb:EvT K G Hz L ss zqv true:=fun F H U Q S q=>q _ _ (Ext.refl S.ext.fh)
theorem zkc{α:Type}(xs:List α)(enc:α->D)(f:α->D){tl:TE}{g:TG}{te:TE}{nt:Nat}{cs:List Nat}(a:EvL K G Hz L ss tl (xs.map enc))(hk:GK nt g)(hc:cs.Nodup)(hz:xs.length<sizeLine)
  (hs:∀x∈xs,∃ss',Tg K G Hz L g (enc x) (lcSl nt cs ss) ss'/\Ev K G Hz L ss' te (f x)) :
  EvO K G Hz L ss (tLC nt cs (ztp K tl) g zqv te) (xs.map f):=by
 have:=zzf xs enc (fun _=>true) f a hk hc hz (tt:=zqv) (te:=te) fun x hx=>by
  obtain⟨ss',h1,h2⟩:=hs x hx
  exact⟨ss',h1,zpb,fun _=>h2⟩
 rw[show xs.filter (fun _=>true)=xs from Zrm.mpr (by simp)] at this
 exact this
theorem zpp{α:Type}{z:List Nat}{xs:List α}{g:α->List Nat}{ta t:TE}(a:EvB K G Hz L ss ta (.str z))(b:EvL K G Hz L ss t (xs.map fun x=>D.str (g x)))(hz:((xs.map g).map Zjk).sum+xs.length*z.length<=16777216):Ev K G Hz L ss (tBM K "str" (zzt K) ta (za7 t tNil)) (.str (glue z (xs.map g))):=by
 refine zjy a ?_ (by rw[Zge (f:=g)];exact hz)
 rw[Zii];exact b
theorem ztt{α:Type}{xs:List α}{g:α->Bool}{t:TE}(b:EvL K G Hz L ss t (xs.map fun x=>D.bl (g x))):Ev K G Hz L ss (tCB (rAll K) (za7 t tNil)) (.bl (xs.all g)):=by
 have:=ybc (K:=K) (G:=G) (Hz:=Hz) (L:=L) (ss:=ss) (t:=t) (bs:=xs.map g) (by rw[Zii];exact b)
 rw[List.all_map] at this
 exact this
theorem zbg{x:Str}(ha:∀c∈x.cps.toList,c<128):Ev K G Hz L ss (tC (.str x)) (.str x.cps.toList):=zaw (by cases x;rfl) ha
end
theorem zpl:∀ls:List (List Nat),glue [] ls=ls.flatten
 | []=>rfl
 | [x]=>by simp[glue]
 | x::y::r=>by rw[glue,zpl (y::r)];simp
theorem zv9{α:Type}(xs:List α)(g:α->Nat):glue [] (xs.map fun x=>[g x])=xs.map g:=by
 rw[zpl]
 induction xs with
 | nil=>rfl
 | cons x xs ih=>simp[ih]
end L2
namespace L2T
open PySem
theorem zky(xs:Array Nat)(hp:xs.toList.Pairwise (· < ·))(i k x y:Nat)(hik:i<k)(hx:xs[i]? = some x)(hy:xs[k]? = some y):x<y:=by
 rw[<- Zg2] at hx hy
 obtain⟨hi',hx'⟩:=Zgg.mp hx
 obtain⟨hk',hy'⟩:=Zgg.mp hy
 have h:=Zke.mp hp i k hi' hk' hik
 rw[hx',hy'] at h;exact h
theorem zvn(xs:Array Nat)(j:Nat)(hp:xs.toList.Pairwise (· < ·)):∀(fuel lo hi:Nat),hi - lo<=fuel->lo<=hi->hi<=xs.size ->
  (∀i x,i<lo->xs[i]? = some x->x<j)->(∀i x,hi<=i->xs[i]? = some x->j<=x) ->
  (Zk6 xs j fuel lo hi<=xs.size)/\(∀i x,i<Zk6 xs j fuel lo hi->xs[i]? = some x->x<j)/\(∀i x,Zk6 xs j fuel lo hi<=i->xs[i]? = some x->j<=x):=by
 intro fuel
 induction fuel with
 | zero =>
  intro lo hi hf hl hs h1 h2
  have:lo=hi:=by lia
  subst this
  exact⟨hs,h1,h2⟩
 | succ fuel ih =>
  intro lo hi hf hl hs h1 h2
  unfold Zk6
  by_cases hlt:lo<hi
  .rw[if_pos hlt]
   have hm:(lo+hi) / 2<xs.size:=by lia
   have hgm:xs[(lo+hi) / 2]? = some xs[(lo+hi) / 2]:=Zgs hm
   have hgd:xs.getD ((lo+hi) / 2) j=xs[(lo+hi) / 2]:=by simp[Zky,hm]
   have hmono:=zky xs hp
   dsimp only
   rw[hgd]
   by_cases hc:xs[(lo+hi) / 2]<j
   .rw[if_pos hc]
    refine ih _ _ (by omega) (by lia) hs ?_ h2
    intro i x hi' hx
    by_cases he:i=(lo+hi) / 2
    .subst he;rw[hgm] at hx;cases hx;exact hc
    .have:=hmono i ((lo+hi) / 2) x _ (by lia) hx hgm;lia
   .rw[if_neg hc]
    refine ih _ _ (by omega) (by lia) (by lia) h1 ?_
    intro i x hi' hx
    by_cases he:i=(lo+hi) / 2
    .subst he;rw[hgm] at hx;cases hx;lia
    .have:=hmono ((lo+hi) / 2) i _ x (by lia) hgm hx;lia
  .rw[if_neg hlt]
   have:lo=hi:=by lia
   subst this
   exact⟨hs,h1,h2⟩
theorem zfb(xs:Array Nat)(j:Nat)(hp:xs.toList.Pairwise (· < ·)) :
  Zha xs j<=xs.size/\(∀i x,i<Zha xs j->xs[i]? = some x->x<j)/\(∀i x,Zha xs j<=i->xs[i]? = some x->j<=x):=by
 unfold Zha
 exact zvn xs j hp xs.size 0 xs.size (by lia) (by lia) (by lia) (fun i x h=>by lia) (fun i x h hx=>by
  have:=(Zje.mp hx).1;lia)
theorem zdh(xs:Array Nat)(j:Nat)(hp:xs.toList.Pairwise (· < ·)):xs[Zha xs j]? = some j↔j∈xs.toList:=by
 obtain⟨h0,h1,h2⟩:=zfb xs j hp
 constructor
 .intro h;rw[<- Zg2] at h;exact Zgm h
 .intro h
  obtain⟨i,hi⟩:=Zhr.mp h
  rw[Zg2] at hi
  rcases Zju i (Zha xs j) with hc | hc
  .have:=h1 i j hc hi;lia
  .have hib:=(Zje.mp hi).1
   have hb:Zha xs j<xs.size:=by lia
   have hg:xs[Zha xs j]? = some xs[Zha xs j]:=Zgs hb
   have h3:=h2 _ _ (Zgf _) hg
   rcases Zju (Zha xs j) i with hd | hd
   .have:=zky xs hp _ _ _ _ hd hg hi
    lia
   .have:i=Zha xs j:=by lia
    rw[<- this];exact hi
theorem zh0(xs:Array Nat)(j:Nat)(hp:xs.toList.Pairwise (· < ·)):Zpv xs j=true↔j∈xs.toList:=by
 unfold Zpv
 rw[beq_iff_eq]
 exact zdh xs j hp
theorem zv5(xs:Array Nat)(i j:Nat)(hp:xs.toList.Pairwise (· < ·))(h:xs[i]? = some j):Zha xs j=i:=by
 have hm:=(zdh xs j hp).mpr (by rw[<- Zg2] at h;exact Zgm h)
 rw[<- Zg2] at h hm
 obtain⟨hi,hx⟩:=Zgg.mp h
 obtain⟨hk,hy⟩:=Zgg.mp hm
 rcases Zoi (Zha xs j) i with hc | hc | hc
 .have:=Zke.mp hp _ _ hk hi hc;lia
 .exact hc
 .have:=Zke.mp hp _ _ hi hk hc;lia
theorem zbd{α:Type}(xs:Array α)(p:Nat)(x:α)(hp:p<=xs.size):(Zgt xs p x).toList=xs.toList.take p++x::xs.toList.drop p:=by
 simp[Zgt,Zm9,Zqz,Zjb]
theorem zc7{α:Type}(xs:Array α)(p:Nat):(Zq3 xs p).toList=xs.toList.take p++xs.toList.drop (p+1):=by
 simp[Zq3,Zm9,Zqz,Zjb]
theorem zjd(xs:Array Nat)(j:Nat)(hp:xs.toList.Pairwise (· < ·))(hj:j∉xs.toList) :
  (Zgt xs (Zha xs j) j).toList.Pairwise (· < ·):=by
 obtain⟨h0,h1,h2⟩:=zfb xs j hp
 rw[zbd _ _ _ h0,Zlc,Zr5]
 have ht:∀x∈xs.toList.take (Zha xs j),x<j:=by
  intro x hx
  obtain⟨i,hi⟩:=Zhr.mp hx
  rw[List.getElem?_take] at hi
  split at hi
  .rename_i hlt;exact h1 i x hlt (by rw[<- Zg2];exact hi)
  .cases hi
 have hd:∀x∈xs.toList.drop (Zha xs j),j<x:=by
  intro x hx
  obtain⟨i,hi⟩:=Zhr.mp hx
  rw[Znz] at hi
  have:=h2 _ x (Zo7 _ i) (by rw[<- Zg2];exact hi)
  have hne:x≠j:=fun e=>hj (e ▸ Zgm hi)
  lia
 refine⟨hp.sublist (Zoe _ _),⟨hd,hp.sublist (Zsj _ _)⟩,?_⟩
 intro x hx y hy
 rcases Zgh.mp hy with rfl | hy
 .exact ht x hx
 .have:=ht x hx;have:=hd y hy;lia
structure TOk(t:Zgd):Prop where
 pl:t.place.toList.Pairwise (· < ·)
 du:t.dummies.toList.Pairwise (· < ·)
 ple:∀j∈t.place.toList,j<=t.mask
 dle:∀j∈t.dummies.toList,j<=t.mask
 dis:∀j∈t.dummies.toList,j∉t.place.toList
 pow:∃k,t.mask+1=2 ^ (k+3)
 big:t.mask<=8191
theorem zee{t:Zgd}(h:TOk t)(j i:Nat):t.slot j= .live i↔t.place[i]? = some j:=by
 unfold Zsd
 dsimp only
 by_cases hc:t.place[Zha t.place j]? = some j
 .rw[if_pos (by rw[beq_iff_eq];exact hc)]
  constructor
  .intro he;cases he;exact hc
  .intro hi;rw[zv5 _ _ _ h.pl hi]
 .rw[if_neg (by rw[beq_iff_eq];exact hc)]
  constructor
  .intro he;split at he <;> cases he
  .intro hi;exact absurd ((zdh _ _ h.pl).mpr (by rw[<- Zg2] at hi;exact Zgm hi)) hc
theorem ze4{t:Zgd}(h:TOk t)(j:Nat):t.slot j= .dummy↔j∈t.dummies.toList:=by
 unfold Zsd
 dsimp only
 by_cases hc:t.place[Zha t.place j]? = some j
 .rw[if_pos (by rw[beq_iff_eq];exact hc)]
  constructor
  .intro he;cases he
  .intro hi;exact absurd ((zdh _ _ h.pl).mp hc) (h.dis j hi)
 .rw[if_neg (by rw[beq_iff_eq];exact hc)]
  by_cases hd:Zpv t.dummies j=true
  .rw[if_pos hd];exact⟨fun _=>(zh0 _ _ h.du).mp hd,fun _=>rfl⟩
  .rw[if_neg hd];exact⟨fun he=>(by cases he),fun he=>absurd ((zh0 _ _ h.du).mpr he) hd⟩
theorem zdf{t:Zgd}(h:TOk t)(j:Nat):t.slot j= .empty↔(j∉t.place.toList/\j∉t.dummies.toList):=by
 constructor
 .intro he
  refine⟨fun hm=>?_,fun hm=>?_⟩
  .obtain⟨i,hi⟩:=Zhr.mp hm
   rw[Zg2] at hi
   rw[(zee h j i).mpr hi] at he;cases he
  .rw[(ze4 h j).mpr hm] at he;cases he
 .rintro⟨h1,h2⟩
  cases hs:t.slot j with
  | empty=>rfl
  | dummy=>exact absurd ((ze4 h j).mp hs) h2
  | live i =>
   have:=(zee h j i).mp hs
   rw[<- Zg2] at this
   exact absurd (Zgm this) h1
theorem zpq:∀(n:Nat) (L:List Nat),(∀x,x<n->x∈L)->n<=L.length:=by
 intro n
 induction n with
 | zero=>intro L _;exact Zhg _
 | succ n ih =>
  intro L h
  have hn:n∈L:=h n (by lia)
  have h1:=ih (L.erase n) (fun x hx=>(List.mem_erase_of_ne (by lia)).mpr (h x (by lia)))
  have h2:=List.length_erase_of_mem hn
  have h3:0<L.length:=List.length_pos_of_mem hn
  lia
theorem zjm{t:Zgd}(h:TOk t)(hr:t.fill<=t.mask):∃e,e<=t.mask/\t.slot e= .empty:=by
 refine Zlh fun hc=>?_
 have hall:∀x,x<t.mask+1->x∈t.place.toList++t.dummies.toList:=by
  intro x hx
  refine Zlh fun hn=>hc ⟨x,by lia,(zdf h x).mpr ?_⟩
  rw[Zhl] at hn
  exact⟨fun a=>hn (.inl a),fun a=>hn (.inr a)⟩
 have:=zpq _ _ hall
 simp only[Zse,Zg8,Zhh] at this hr
 lia
noncomputable def lcg:Nat->Nat->Nat
 | 0,x=>x
 | n+1,x=>lcg n (5*x+1)
theorem zny(m n x:Nat):lcg (m+n) x=lcg n (lcg m x):=by
 induction m generalizing x with
 | zero=>simp[lcg]
 | succ m ih=>rw[Nat.succ_add];exact ih _
theorem zy1:∀k,∃u v,∀x,lcg (2 ^ k) x=(1+2 ^ (k+2)*u)*x+2 ^ k*(2*v+1):=by
 intro k
 induction k with
 | zero=>exact⟨1,0,fun x=>by simp[lcg]⟩
 | succ k ih =>
  obtain⟨u,v,h⟩:=ih
  refine⟨u+2 ^ (k+1)*u*u,v+2 ^ k*u*(2*v+1),fun x=>?_⟩
  have e:2 ^ (k+1)=2 ^ k+2 ^ k:=by lia
  conv=>lhs;rw[e]
  rw[zny,h,h]
  have e1:2 ^ (k+2)=4*2 ^ k:=by rw[Zh7,Zh7];lia
  have e2:2 ^ (k+1+2)=8*2 ^ k:=by rw[Zh7,Zh7,Zh7];lia
  rw[e1,e2,e]
  generalize 2 ^ k=a
  grind
theorem zx1:∀k x e,∃s,s<2 ^ k/\lcg s x % 2 ^ k=e % 2 ^ k:=by
 intro k
 induction k with
 | zero=>intro x e;exact⟨0,by simp,by simp[Nat.mod_one]⟩
 | succ k ih =>
  intro x e
  obtain⟨s,hs,he⟩:=ih x e
  have e2:2 ^ (k+1)=2*2 ^ k:=by lia
  have hpos:0<2 ^ k:=Ztx k
  by_cases hc:lcg s x % 2 ^ (k+1)=e % 2 ^ (k+1)
  .exact⟨s,by lia,hc⟩
  .refine⟨s+2 ^ k,by lia,?_⟩
   rw[zny]
   obtain⟨u,v,h⟩:=zy1 k
   rw[h]
   generalize lcg s x=y at *
   have h3:(1+2 ^ (k+2)*u)*y+2 ^ k*(2*v+1)=y+2 ^ k+2 ^ (k+1)*(2*u*y+v):=by
    have e1:2 ^ (k+2)=4*2 ^ k:=by rw[Zh7,Zh7];lia
    rw[e1,e2];generalize 2 ^ k=a;grind
   rw[h3,Zp9,e2]
   rw[e2] at hc
   generalize ha:2 ^ k=a at *
   -- y ≡ e mod a,not mod 2a
   have hy:=Zpk y a
   have hE:=Zpk e a
   rw[he] at hy
   generalize y / a=p at *
   generalize e / a=q at *
   generalize hr:e % a=r at *
   have hra:r<a:=by rw[<- hr];exact Zmh _ hpos
   subst hy
   have h5:∀z,(r+a*z) % (2*a)=if z % 2=0 then r else r+a:=by
    intro z
    have hz:=Zpk z 2
    have h6:r+a*z=r+a*(z % 2)+(2*a)*(z / 2):=by
     conv=>lhs;rw[<- hz]
     generalize z % 2=z1;generalize z / 2=z2;grind
    rw[h6,Zp9]
    rcases Zpy z with h7 | h7
    .rw[h7,if_pos rfl];simp;exact Zmk (by lia)
    .rw[h7,if_neg (by lia)];simp;exact Zmk (by lia)
   have h7:r+a*p+a=r+a*(p+1):=by grind
   rw[<- hE] at hc ⊢
   rw[h7,h5,h5]
   rw[h5,h5] at hc
   by_cases hp2:p % 2=0 <;> by_cases hq2:q % 2=0 <;> simp only[hp2,hq2,if_true,if_false] at hc <;>
    (have:(p+1) % 2=0\/(p+1) % 2=1:=Zpy _) <;> grind
end L2T
namespace L2T
open PySem SetTable
noncomputable def advM(mask:Nat)(p:Probe):Probe :=
 if p.more>0 then { p with j:=p.j+1,more:=p.more - 1 } else
 let (i,perturb):=leap mask p.i p.perturb
 { p with j:=i,more:=runEnd mask i - i,i,perturb }
theorem zcs(t:Zgd)(p:Probe):t.advance p=advM t.mask p:=rfl
noncomputable def stM(mask i perturb:Nat):Probe:={ j:=i,more:=runEnd mask i - i,i,perturb,dummy:=none }
noncomputable def prM(mask:Nat)(h:Int):Nat->Probe
 | 0=>stM mask (bits h % (mask+1)) (bits h)
 | n+1=>advM mask (prM mask h n)
noncomputable def posM(mask:Nat)(h:Int)(n:Nat):Nat:=(prM mask h n).j
noncomputable def lpM(mask:Nat)(h:Int):Nat->Nat×Nat
 | 0=>(bits h % (mask+1),bits h)
 | m+1=>leap mask (lpM mask h m).1 (lpM mask h m).2
noncomputable def lpS(mask:Nat)(h:Int)(m:Nat):Probe:=stM mask (lpM mask h m).1 (lpM mask h m).2
theorem zxw(mask:Nat):∀(r:Nat) (p:Probe) (F:Nat->Probe),(∀n,F (n+1)=advM mask (F n))->F 0=p->r<=p.more->F r={ p with j:=p.j+r,more:=p.more - r }:=by
 intro r
 induction r with
 | zero=>intro p F hF h0 hr;rw[h0];rfl
 | succ r ih =>
  intro p F hF h0 hr
  rw[hF,ih p F hF h0 (by lia)]
  unfold advM
  rw[if_pos (by show p.more - r>0;lia)]
  show({ p with j:=p.j+r+1,more:=p.more - r - 1 }:Probe)=_
  congr 1
theorem zt9(mask i:Nat):runEnd mask i - i<=9:=by unfold runEnd;split <;> lia
theorem zuy(mask:Nat)(h:Int)(n m:Nat)(hs:prM mask h n=lpS mask h m) :
  prM mask h (n+(runEnd mask (lpM mask h m).1 - (lpM mask h m).1)+1)=lpS mask h (m+1) /\
  ∀r,r<=runEnd mask (lpM mask h m).1 - (lpM mask h m).1->posM mask h (n+r)=(lpM mask h m).1+r:=by
 have hrun:=fun r hr=>zxw mask r (lpS mask h m) (fun k=>prM mask h (n+k)) (fun k=>rfl) hs hr
 refine⟨?_,fun r hr=>?_⟩
 .show advM mask (prM mask h (n+(runEnd mask (lpM mask h m).1 - (lpM mask h m).1)))=_
  rw[hrun (runEnd mask (lpM mask h m).1 - (lpM mask h m).1) (Zgf _)]
  unfold advM
  rw[if_neg (by show ¬ (lpS mask h m).more - (runEnd mask (lpM mask h m).1 - (lpM mask h m).1)>0;show ¬ (runEnd mask (lpM mask h m).1 - (lpM mask h m).1) - (runEnd mask (lpM mask h m).1 - (lpM mask h m).1)>0;lia)]
  rfl
 .unfold posM
  rw[hrun r hr];rfl
theorem zyu(mask:Nat)(h:Int):∀m,∃n,n<=10*m/\prM mask h n=lpS mask h m:=by
 intro m
 induction m with
 | zero=>exact⟨0,by lia,rfl⟩
 | succ m ih =>
  obtain⟨n,hn,he⟩:=ih
  have:=zt9 mask (lpM mask h m).1
  exact⟨_,by lia,(zuy mask h n m he).1⟩
theorem zzx(h:Int):bits h<2 ^ 64:=by
 unfold bits
 have:h % (2 ^ 64:Int)<2 ^ 64:=Zgx _ (by decide)
 lia
theorem yal(mask:Nat)(h:Int):∀m,(lpM mask h m).2=bits h / 32 ^ m:=by
 intro m
 induction m with
 | zero=>simp[lpM]
 | succ m ih=>show(lpM mask h m).2 / 32=_;rw[ih,Nat.div_div_eq_div_mul,Zh7]
theorem zyj(mask:Nat)(h:Int)(m:Nat)(hm:13<=m):(lpM mask h m).2=0:=by
 rw[yal]
 have h1:=zzx h
 have h2:32 ^ 13<=32 ^ m:=Nat.pow_le_pow_right (by decide) hm
 exact Nat.div_eq_of_lt (by have:(32:Nat) ^ 13=2 ^ 65:=(by decide);lia)
theorem ycx(mask:Nat)(h:Int)(m:Nat):(lpM mask h m).1<mask+1:=by
 cases m with
 | zero=>exact Zmh _ (by lia)
 | succ m=>exact Zmh _ (by lia)
theorem ycj(mask:Nat)(h:Int):∀s,(lpM mask h (13+s)).1=lcg s (lpM mask h 13).1 % (mask+1):=by
 intro s
 induction s with
 | zero=>exact(Zmk (ycx mask h 13)).symm
 | succ s ih =>
  show((lpM mask h (13+s)).1*5+1+(lpM mask h (13+s)).2 / 32) % (mask+1)=_
  rw[zyj mask h (13+s) (by lia),ih,zny]
  show _=(5*lcg s (lpM mask h 13).1+1) % (mask+1)
  generalize lcg s (lpM mask h 13).1=y
  simp[Nat.add_mod,Nat.mul_mod,Zv6]
theorem zxm(mask k:Nat)(hk:mask+1=2 ^ k)(h:Int)(e:Nat)(he:e<=mask):∃m,m<=13+mask/\(lpM mask h m).1=e:=by
 obtain⟨s,hs,hl⟩:=zx1 k (lpM mask h 13).1 e
 refine⟨13+s,by lia,?_⟩
 rw[ycj,hk,hl,<- hk]
 exact Zmk (by lia)
theorem zrz(mask k:Nat)(hk:mask+1=2 ^ k)(h:Int)(e:Nat)(he:e<=mask):∃n,n<10*turns mask/\posM mask h n=e:=by
 obtain⟨m,hm,hl⟩:=zxm mask k hk h e he
 obtain⟨n,hn,hp⟩:=zyu mask h m
 refine⟨n,by unfold turns;lia,?_⟩
 unfold posM;rw[hp];exact hl
noncomputable def zn9(p q:Probe):Prop:=p.j=q.j/\p.more=q.more/\p.i=q.i/\p.perturb=q.perturb
theorem zka(mask:Nat){p q:Probe}(h:zn9 p q):zn9 (advM mask p) (advM mask q):=by
 obtain⟨h1,h2,h3,h4⟩:=h
 unfold advM
 rw[h2,h3,h4,h1]
 split
 .exact⟨rfl,rfl,rfl,rfl⟩
 .exact⟨rfl,rfl,rfl,rfl⟩
theorem zht(mask:Nat)(p:Probe):(advM mask p).dummy=p.dummy:=by
 unfold advM;split <;> rfl
theorem zoj (t : Zgd) (hashAt : Nat -> Int) (h : Int) : ∀ (fuel : Nat) (p : Probe) (n : Nat), zn9 p (prM t.mask h n) ->
    (∃N,n<=N/\N<n+fuel/\t.slot (posM t.mask h N)= .empty) ->
    ∃m,n<=m/\(∀q,n<=q->q<m->t.slot (posM t.mask h q) ≠ .empty /\ ∀i,t.slot (posM t.mask h q)= .live i->hashAt i≠h) /\
      ∃d,(d=p.dummy \/ ∃q,n<=q/\q<m/\d=some (posM t.mask h q)/\t.slot (posM t.mask h q)= .dummy) /\
      ((t.slot (posM t.mask h m)= .empty/\probe.go t hashAt h fuel p=some (.empty (posM t.mask h m) d)) \/
       (∃i nx,t.slot (posM t.mask h m)= .live i/\hashAt i=h/\probe.go t hashAt h fuel p=some (.candidate (posM t.mask h m) i nx)/\zn9 nx (prM t.mask h (m+1))/\nx.dummy=d)):=by
  intro fuel
  induction fuel with
  | zero=>rintro p n hs ⟨N,h1,h2,_⟩;omega
  | succ fuel ih =>
    rintro p n hs ⟨N,h1,h2,h3⟩
    have hj:p.j=posM t.mask h n:=hs.1
    unfold probe.go
    rw[hj]
    cases hsl:t.slot (posM t.mask h n) with
    | empty =>
      exact⟨n,Zgf _,fun q a b=>by lia,p.dummy,.inl rfl,.inl ⟨hsl,rfl⟩⟩
    | dummy =>
      have hN:N≠n:=fun e=>by subst e;rw[hsl] at h3;cases h3
      have hs':zn9 (t.advance { p with dummy:=some (posM t.mask h n) }) (prM t.mask h (n+1)):=by
        rw[zcs];exact zka _ (p:={ p with dummy:=some (posM t.mask h n) }) ⟨hs.1,hs.2.1,hs.2.2.1,hs.2.2.2⟩
      obtain⟨m,hm,hq,d,hd,hr⟩:=ih _ (n+1) hs' ⟨N,by lia,by lia,h3⟩
      refine⟨m,by lia,?_,d,?_,?_⟩
      · intro q a b
        rcases Zn8 a with e | e
        · subst e;exact⟨(by rw[hsl];exact fun x=>(by cases x)),fun i hi=>by rw[hsl] at hi;cases hi⟩
        · exact hq q e b
      · rcases hd with hd | ⟨q,a,b,c,e⟩
        · refine .inr ⟨n,Zgf _,by lia,?_,hsl⟩
          rw[hd,zcs,zht]
        · exact .inr ⟨q,by lia,b,c,e⟩
      · rw[hj] at hr;exact hr
    | live i =>
      dsimp only
      by_cases hh:hashAt i=h
      · refine⟨n,Zgf _,fun q a b=>by lia,p.dummy,.inl rfl,.inr ⟨i,t.advance p,hsl,hh,?_,?_,?_⟩⟩
        · rw[if_pos (by rw[hh];exact beq_self_eq_true h)]
        · rw[zcs];exact zka _ hs
        · rw[zcs,zht]
      · have hN:N≠n:=fun e=>by subst e;rw[hsl] at h3;cases h3
        obtain⟨m,hm,hq,d,hd,hr⟩:=ih (t.advance p) (n+1) (by rw[zcs];exact zka _ hs) ⟨N,by lia,by lia,h3⟩
        refine⟨m,by lia,?_,d,?_,?_⟩
        · intro q a b
          rcases Zn8 a with e | e
          · subst e;exact⟨(by rw[hsl];exact fun x=>(by cases x)),fun i' hi=>by rw[hsl] at hi;cases hi;exact hh⟩
          · exact hq q e b
        · rcases hd with hd | ⟨q,a,b,c,e⟩
          · exact .inl (by rw[hd,zcs,zht])
          · exact .inr ⟨q,by lia,b,c,e⟩
        · rw[if_neg (by rw[beq_iff_eq];exact hh)];exact hr
noncomputable def zj1(t:Zgd)(h:Int)(j:Nat):Prop:=∃n,posM t.mask h n=j /\ ∀m,m<n->t.slot (posM t.mask h m) ≠ .empty
theorem zjs(mask k:Nat)(hk:mask+1=2 ^ k)(h:Int):∀n,posM mask h n<=mask:=by
 have key:∀n,(prM mask h n).j+(prM mask h n).more<=mask:=by
  intro n
  have hst:∀i p,i<mask+1->(stM mask i p).j+(stM mask i p).more<=mask:=by
   intro i p hi;show i+(runEnd mask i - i)<=mask;unfold runEnd;split <;> lia
  induction n with
  | zero=>exact hst _ _ (Zmh _ (by lia))
  | succ n ih =>
   show(advM mask (prM mask h n)).j+(advM mask (prM mask h n)).more<=mask
   unfold advM
   split
   .show(prM mask h n).j+1+((prM mask h n).more - 1)<=mask;lia
   .exact hst _ (leap mask (prM mask h n).i (prM mask h n).perturb).2 (Zmh _ (by lia))
 intro n
 have:=key n
 unfold posM;lia
structure SOk{α:Type}(t:Zgd)(es:List (Int×α)):Prop where
 ok:TOk t
 room:t.fill*5<t.mask*3
 size:t.place.size=es.length
 reach:∀c∈t.place.toList.zip es,zj1 t c.2.1 c.1
theorem zr2(mask:Nat)(owner:Array (Option Nat))(h:Int):∀(fuel m n:Nat),prM mask h n=lpS mask h m ->
  (∀q,q<n->owner.getD (posM mask h q) (some 0)≠none)->(∃M,m<=M/\M<m+fuel/\owner.getD (lpM mask h M).1 (some 0)=none) ->
  ∃j n',layClean.free mask owner fuel (lpM mask h m).1 (lpM mask h m).2=some j/\posM mask h n'=j/\owner.getD j (some 0)=none /\ ∀q,q<n'->owner.getD (posM mask h q) (some 0)≠none:=by
 intro fuel
 induction fuel with
 | zero=>rintro m n hs hq ⟨M,a,b,c⟩;omega
 | succ fuel ih =>
  rintro m n hs hq ⟨M,a,b,c⟩
  obtain⟨hnx,hrun⟩:=zuy mask h n m hs
  unfold layClean.free
  cases hf:(Zg1 (runEnd mask (lpM mask h m).1+1 - (lpM mask h m).1)).find? (fun k=>(owner.getD ((lpM mask h m).1+k) (some 0)).isNone) with
  | some k =>
   obtain⟨h1,h2,h3⟩:=List.find?_range_eq_some.mp hf
   rw[Zhp] at h2
   dsimp only
   refine⟨_,n+k,rfl,hrun k (by lia),by simpa using h1,?_⟩
   intro q hqq
   rcases Zju q n with hl | hl
   .exact hq q hl
   .have:=h3 (q - n) (by lia)
    have e:=hrun (q - n) (by omega)
    rw[show n+(q - n)=q by lia] at e
    rw[e]
    intro hc;rw[hc] at this;simp at this
  | none =>
   rw[Zr7] at hf
   have hocc:∀k,k<=runEnd mask (lpM mask h m).1 - (lpM mask h m).1->owner.getD ((lpM mask h m).1+k) (some 0)≠none:=by
    intro k hk hc
    have hle:(lpM mask h m).1<=runEnd mask (lpM mask h m).1:=by unfold runEnd;split <;> lia
    exact hf k (Zhp.mpr (by lia)) (by rw[hc];rfl)
   have hM:M≠m:=fun e=>by subst e;exact hocc 0 (Zhg _) c
   dsimp only
   refine ih (m+1) _ hnx ?_ ⟨M,by lia,by lia,c⟩
   intro q hqq
   rcases Zju q n with hl | hl
   .exact hq q hl
   .have e:=hrun (q - n) (by lia)
    rw[show n+(q - n)=q by lia] at e
    rw[e]
    exact hocc _ (by lia)
theorem zpm{α β:Type}{f g:α->Option β}:∀l:List α,(∀x∈l,f x=g x)->l.filterMap f=l.filterMap g:=by
 intro l
 induction l with
 | nil=>intro _;rfl
 | cons x l ih=>intro h;simp only[Zjv,h x (.head _),ih (fun y hy=>h y (.tail _ hy))]
theorem zvg{α:Type}:∀l:List α,(Zg1 l.length).filterMap (fun i=>l[i]?)=l:=by
 intro l
 induction l with
 | nil=>rfl
 | cons x l ih =>
  rw[Zgp,List.range_succ_eq_map,Zh4 (b:=x) (by rfl),List.filterMap_map]
  congr 1
noncomputable def zdw(mask:Nat)(owner:Array (Option Nat)):List (Nat×Nat):=(Zg1 (mask+1)).filterMap fun j=>(owner.getD j none).map (j,·)
theorem yb1{α β:Type}[DecidableEq α](f f':α->Option β)(x:α)(v:β)(h0:f x=none)(h1:f' x=some v)(h2:∀y,y≠x->f' y=f y) :
  ∀l:List α,l.Nodup->x∈l->(l.filterMap f').Perm (v::l.filterMap f):=by
 intro l
 induction l with
 | nil=>intro _ h;cases h
 | cons y l ih =>
  intro hn hx
  rw[Zi7] at hn
  by_cases he:y=x
  .subst he
   rw[Zh4 h1,Zkl h0]
   have:l.filterMap f'=l.filterMap f:=by
    refine zpm _ fun z hz=>h2 z (fun e=>hn.1 (e ▸ hz))
   rw[this]
  .have hx':x∈l:=by rcases Zgh.mp hx with e | e;exact absurd e.symm he;exact e
   have hi:=ih hn.2 hx'
   cases hf:f y with
   | none=>rw[Zkl (by rw[h2 y he];exact hf),Zkl hf];exact hi
   | some b =>
    rw[Zh4 (by rw[h2 y he];exact hf),Zh4 hf]
    exact(hi.cons b).trans (Zok _ _ _)
theorem ybo{α β:Type}(f:α->Option β):∀l:List α,(∀x∈l,f x≠none)->(l.filterMap f).length=l.length:=by
 intro l
 induction l with
 | nil=>intro _;rfl
 | cons x l ih =>
  intro h
  cases hf:f x with
  | none=>exact absurd hf (h x (.head _))
  | some b=>rw[Zh4 hf,Zgp,Zgp,ih (fun y hy=>h y (.tail _ hy))]
structure LInv(mask:Nat)(hs:List Int)(owner:Array (Option Nat)):Prop where
 size:owner.size=mask+1
 perm:((zdw mask owner).map (·.2)).Perm (Zg1 hs.length)
 reach:∀j i,owner.getD j none=some i-> ∃h,hs[i]? = some h /\ ∃n,posM mask h n=j /\ ∀q,q<n->owner.getD (posM mask h q) (some 0)≠none
theorem zhg(owner:Array (Option Nat))(j k x:Nat)(d:Option Nat)(hj:j<owner.size):(owner.setIfInBounds j (some k)).getD x d=if x=j then some k else owner.getD x d:=by
 simp only[Zh5,Array.getElem?_setIfInBounds]
 by_cases h:x=j
 .subst h;simp[hj]
 .rw[if_neg (fun e=>h e.symm),if_neg h]
theorem zj6(owner:Array (Option Nat))(j:Nat)(hj:j<owner.size):owner.getD j (some 0)=owner.getD j none:=by
 simp[Zky,hj]
theorem zu2(mask k:Nat)(hk:mask+1=2 ^ k)(hs:List Int)(owner:Array (Option Nat))(h:Int)(inv:LInv mask hs owner)(hroom:hs.length<mask+1) :
  ∃j,layClean.free mask owner (turns mask) (bits h % (mask+1)) (bits h)=some j/\LInv mask (hs++[h]) (owner.setIfInBounds j (some hs.length)):=by
 have hex:∃e,e<=mask/\owner.getD e none=none:=by
  refine Zlh fun hc=>?_
  have hl:=ybo (fun j=>(owner.getD j none).map (fun i=>(j,i))) (Zg1 (mask+1)) (fun x hx hn=>hc ⟨x,by have:=Zhp.mp hx;lia,by simpa using hn⟩)
  have hp:=inv.perm.length_eq
  rw[Zge] at hp
  unfold zdw at hp
  rw[hl] at hp
  simp at hp;lia
 obtain⟨e,he,hn⟩:=hex
 obtain⟨M,hM,hMe⟩:=zxm mask k hk h e he
 obtain⟨j,n',hf,hp,hj,hq⟩:=zr2 mask owner h (turns mask) 0 0 rfl (fun q hq=>by lia)
  ⟨M,by lia,by unfold turns;lia,by rw[hMe,zj6 _ _ (by rw[inv.size];lia)];exact hn⟩
 have hjm:j<=mask:=by rw[<- hp];exact zjs mask k hk h n'
 have hjs:j<owner.size:=by rw[inv.size];lia
 refine⟨j,hf,?_,?_,?_⟩
 .simp[inv.size]
 .have hone:(zdw mask (owner.setIfInBounds j (some hs.length))).Perm ((j,hs.length)::zdw mask owner):=by
   unfold zdw
   refine yb1 _ _ j (j,hs.length) ?_ ?_ ?_ _ List.nodup_range (Zhp.mpr (by lia))
   .rw[<- zj6 _ _ hjs,hj];rfl
   .rw[zhg _ _ _ _ _ hjs,if_pos rfl];rfl
   .intro y hy;rw[zhg _ _ _ _ _ hjs,if_neg hy]
  refine(hone.map _).trans ?_
  rw[Zg3,Zg8,Zqy,Zmv]
  exact((Zxx _ inv.perm)).trans (List.perm_append_comm (l₁:=[hs.length]))
 .intro x i hx
  rw[zhg _ _ _ _ _ hjs] at hx
  have hne:∀y,owner.getD y (some 0)≠none->(owner.setIfInBounds j (some hs.length)).getD y (some 0)≠none:=by
   intro y hy;rw[zhg _ _ _ _ _ hjs];split
   .exact fun c=>by cases c
   .exact hy
  by_cases hxj:x=j
  .rw[if_pos hxj] at hx
   cases hx
   refine⟨h,by simp,n',by rw[hp,hxj],fun q hqq=>hne _ (hq q hqq)⟩
  .rw[if_neg hxj] at hx
   obtain⟨h',e1,n,e2,e3⟩:=inv.reach x i hx
   refine⟨h',?_,n,e2,fun q hqq=>hne _ (e3 q hqq)⟩
   rw[Zie (Zgg.mp e1).1];exact e1
theorem zu6(mask k:Nat)(hk:mask+1=2 ^ k):∀(hs done:List Int) (owner:Array (Option Nat)),LInv mask done owner->(done++hs).length<=mask ->
  ∃owner',hs.foldl (fun acc h=>do
    let (owner,k) <- acc
    let j <- layClean.free mask owner (turns mask) (bits h % (mask+1)) (bits h)
    pure (owner.setIfInBounds j (some k),k+1)) (some (owner,done.length))=some (owner',(done++hs).length)/\LInv mask (done++hs) owner':=by
 intro hs
 induction hs with
 | nil=>intro done owner inv _;exact⟨owner,by simp,by simpa using inv⟩
 | cons h hs ih =>
  intro done owner inv hl
  obtain⟨j,hf,inv'⟩:=zu2 mask k hk done owner h inv (by simp at hl;lia)
  obtain⟨ow,h1,h2⟩:=ih (done++[h]) _ inv' (by simpa using hl)
  refine⟨ow,?_,by simpa using h2⟩
  rw[Ztj]
  simp only[Zqx,Zr4,hf,Zsg]
  rw[show(done++h::hs).length=(done++[h]++hs).length by simp,<- h1]
  simp
theorem zsq(mask k:Nat)(hk:mask+1=2 ^ k)(hs:Array Int)(hl:hs.size<=mask):∃owner,layClean mask hs=some owner/\LInv mask hs.toList owner:=by
 obtain⟨ow,h1,h2⟩:=zu6 mask k hk hs.toList [] (Ztc (mask+1) none) ⟨by simp,by
   have:zdw mask (Ztc (mask+1) none)=[]:=by
    unfold zdw
    rw[List.filterMap_eq_nil_iff]
    intro x hx
    simp[Zh5,Zp2]
    split <;> simp
   rw[this];simp,fun j i h=>by
   simp[Zh5,Zp2] at h
   split at h <;> simp at h⟩ (by simpa using hl)
 refine⟨ow,?_,by simpa using h2⟩
 unfold layClean
 rw[<- Array.foldl_toList]
 rw[show(([]:List Int).length)=0 from rfl] at h1
 rw[h1];rfl
theorem zq0(g:Nat->Option Nat):∀l:List Nat,((l.filterMap fun j=>(g j).map (j,·)).map (·.1)).Sublist l:=by
 intro l
 induction l with
 | nil=>exact Zv9
 | cons x l ih =>
  cases hg:g x with
  | none=>rw[Zkl (by rw[hg];rfl)];exact ih.cons x
  | some v=>rw[Zh4 (b:=(x,v)) (by rw[hg];rfl)];exact ih.cons_cons x
theorem ya9{α:Type}(g:Nat->Option α):∀L:List (Nat×Nat),(∀p∈L,g p.2≠none)-> ∀c∈(L.map (·.1)).zip ((L.map (·.2)).filterMap g),∃p∈L,c.1=p.1/\g p.2=some c.2:=by
 intro L
 induction L with
 | nil=>intro _ c hc;simp at hc
 | cons p L ih =>
  intro h c hc
  cases hg:g p.2 with
  | none=>exact absurd hg (h p (.head _))
  | some v =>
   rw[Zg3,Zg3,Zh4 hg,Znx] at hc
   rcases Zgh.mp hc with e | e
   .exact⟨p,.head _,by rw[e],by rw[e];exact hg⟩
   .obtain⟨p',h1,h2⟩:=ih (fun q hq=>h q (.tail _ hq)) c e
    exact⟨p',.tail _ h1,h2⟩
theorem zxy{α:Type}(mask k:Nat)(hk:mask+1=2 ^ (k+3))(hb:mask<=8191)(finger moves:Nat)(led plain:Bool)(es:Array (Int×α))(hroom:es.size*5<mask*3) :
  ∃t order,laid mask finger moves led plain (es.map (·.1))=some (t,order)/\t.mask=mask/\t.dummies= #[]/\t.led=led/\t.plain=plain/\t.finger=finger/\t.moves=moves /\
   order.toList.Perm (Zg1 es.size)/\(order.filterMap (es[·]?)).toList.Perm es.toList/\(order.filterMap (es[·]?)).size=es.size/\SOk t (order.filterMap (es[·]?)).toList:=by
 obtain⟨ow,h1,inv⟩:=zsq mask _ hk (es.map (·.1)) (by simp;lia)
 have hlen:(es.map (·.1)).toList.length=es.size:=by simp
 have hperm:=inv.perm
 rw[hlen] at hperm
 unfold laid
 rw[h1]
 have hL:(Zg1 (mask+1)).filterMap (fun j=>(ow.getD j none).map (j,·))=zdw mask ow:=rfl
 simp only[Zqx,Zr4,Zsg,hL]
 refine⟨_,_,rfl,rfl,rfl,rfl,rfl,rfl,rfl,hperm,?_⟩
 have hlist:((((zdw mask ow).map (·.2)).toArray).filterMap (es[·]?)).toList=((zdw mask ow).map (·.2)).filterMap (es[·]?):=by simp
 have hp2:((((zdw mask ow).map (·.2)).toArray).filterMap (es[·]?)).toList.Perm es.toList:=by
  rw[hlist]
  refine(hperm.filterMap _).trans ?_
  have:(Zg1 es.size).filterMap (fun i=>es[i]?)=es.toList:=by
   have h:=zvg es.toList
   rw[Zhh] at h
   rw[<- h]
   refine zpm _ fun x _=>(Zg2 ..).symm ▸ ?_
   simp
  rw[this]
 refine⟨hp2,?_,?_⟩
 .rw[<- Zhh,hp2.length_eq,Zhh]
 .have hsub:=zq0 (fun j=>ow.getD j none) (Zg1 (mask+1))
  have htok:TOk { mask:=mask,place:=((zdw mask ow).map (·.1)).toArray,dummies:=#[],finger:=finger,led:=led,moves:=moves,plain:=plain }:=by
   refine⟨?_,by simp,?_,by simp,by simp,⟨k,hk⟩,hb⟩
   .show(((zdw mask ow).map (·.1)).toArray).toList.Pairwise (· < ·)
    exact Zol hsub List.pairwise_lt_range
   .intro j hj
    have:=hsub.subset hj
    rw[Zhp] at this
    show j<=mask;lia
  have hmem:∀j,ow.getD j none≠none->j∈(zdw mask ow).map (·.1):=by
   intro j hj
   have hjs:j<ow.size:=by
    refine Ztg fun c=>hj ?_
    simp[Zky,Zxc.mpr c]
   cases hg:ow.getD j none with
   | none=>exact absurd hg hj
   | some i=>exact Zg5.mpr ⟨(j,i),Zly.mpr ⟨j,Zhp.mpr (by rw[<- inv.size];exact hjs),by rw[hg];rfl⟩,rfl⟩
  have hlt:∀p∈zdw mask ow,ow.getD p.1 none=some p.2:=by
   intro p hp
   obtain⟨j,_,hj⟩:=Zly.mp hp
   cases hg:ow.getD j none with
   | none=>rw[hg] at hj;cases hj
   | some i=>rw[hg] at hj;cases hj;exact hg
  have hin:∀p∈zdw mask ow,p.2<es.size:=by
   intro p hp
   have:p.2∈(zdw mask ow).map (·.2):=Zg5.mpr ⟨p,hp,rfl⟩
   exact Zhp.mp (hperm.mem_iff.mp this)
  refine⟨htok,?_,?_,?_⟩
  .show(((zdw mask ow).map (·.1)).toArray.size+0)*5<mask*3
   have:=hperm.length_eq
   simp at this ⊢
   rw[this];exact hroom
  .rw[hp2.length_eq]
   have:=hperm.length_eq
   simp at this ⊢
   exact this
  .intro c hc
   rw[hlist] at hc
   obtain⟨p,hp,e1,e2⟩:=ya9 (fun i=>es[i]?) (zdw mask ow) (fun p hp=>by
    rw[Zgs (hin p hp)];exact fun c=>by cases c) c hc
   obtain⟨h',a1,n,a2,a3⟩:=inv.reach p.1 p.2 (hlt p hp)
   have hh:h'=c.2.1:=by
    rw[Zsl,Zgl,Zg2,e2] at a1
    simpa using a1.symm
   subst hh
   refine⟨n,by rw[e1];exact a2,fun m hm hc=>?_⟩
   have:=(zdf htok _).mp hc
   refine this.1 (hmem _ ?_)
   have h3:=a3 m hm
   rwa [zj6 _ _ (by rw[inv.size];exact Nat.lt_succ_of_le (zjs mask _ hk _ _))] at h3
theorem zpu(t t':Zgd)(h1:t'.place=t.place)(h2:t'.dummies=t.dummies)(j:Nat):t'.slot j=t.slot j:=by
 unfold slot;rw[h1,h2]
theorem zgg{t t':Zgd}(hm:t'.mask=t.mask)(h:∀j,t.slot j ≠ .empty->t'.slot j ≠ .empty){x:Int}{j:Nat}(hr:zj1 t x j):zj1 t' x j:=by
 obtain⟨n,h1,h2⟩:=hr
 exact⟨n,by rw[hm];exact h1,fun m hm'=>by rw[hm];exact h _ (h2 m hm')⟩
theorem zrf{α:Type}{t t':Zgd}{es:List (Int×α)}(h:SOk t es)(hm:t'.mask=t.mask)(h1:t'.place=t.place)(h2:t'.dummies=t.dummies):SOk t' es:=by
 obtain⟨⟨a1,a2,a3,a4,a5,a6,a7⟩,b,c,d⟩:=h
 refine⟨⟨by rw[h1];exact a1,by rw[h2];exact a2,by rw[h1,hm];exact a3,by rw[h2,hm];exact a4,by rw[h1,h2];exact a5,by rw[hm];exact a6,by rw[hm];exact a7⟩,?_,by rw[h1];exact c,?_⟩
 .unfold fill at *;rw[h1,h2,hm];exact b
 .rw[h1];intro x hx
  exact zgg hm (fun j hj=>by rw[zpu t t' h1 h2];exact hj) (d x hx)
theorem zts{α:Type}(finger moves:Nat)(led:Bool):SOk (α:=α) (fresh finger moves led) []:=by
 refine⟨⟨by simp[Zjg],by simp[Zjg],by simp[Zjg],by simp[Zjg],by simp[Zjg],⟨0,by simp[Zjg]⟩,by simp[Zjg]⟩,by simp[Zjg,Zse],by simp[Zjg],?_⟩
 intro c hc;simp at hc
theorem zmh(n:Nat):∀(fuel size:Nat),(∃k,size=2 ^ (k+3))->n<size*2 ^ fuel ->
  (∃k,sizeAbove.go n fuel size=2 ^ (k+3))/\n<sizeAbove.go n fuel size/\(sizeAbove.go n fuel size<=size\/sizeAbove.go n fuel size<=2*n):=by
 intro fuel
 induction fuel with
 | zero=>intro size hk hn;unfold sizeAbove.go;exact⟨hk,by simpa using hn,.inl (Zgf _)⟩
 | succ fuel ih =>
  intro size hk hn
  unfold sizeAbove.go
  by_cases hc:size<=n
  .rw[if_pos hc]
   obtain⟨k,hk⟩:=hk
   obtain⟨h1,h2,h3⟩:=ih (size*2) ⟨k+1,by rw[hk,Zh7,Zh7,Zh7,Zh7,Zh7,Zh7,Zh7]⟩ (by
    rw[Zh7] at hn;rw[Nat.mul_assoc,Zv6 2];exact hn)
   refine⟨h1,h2,.inr ?_⟩
   rcases h3 with h3 | h3 <;> omega
  .rw[if_neg hc]
   exact⟨hk,by lia,.inl (Zgf _)⟩
theorem zgv(n:Nat)(hn:n<=4095):(∃k,sizeAbove n - 1+1=2 ^ (k+3))/\n<=sizeAbove n - 1/\7<=sizeAbove n - 1/\sizeAbove n - 1<=8191/\sizeAbove n<=8192:=by
 obtain⟨⟨k,h1⟩,h2,h3⟩:=zmh n 64 8 ⟨0,by decide⟩ (Zn7 hn (by decide))
 have h1':sizeAbove n=2 ^ (k+3):=h1
 have h2':n<sizeAbove n:=h2
 have h3':sizeAbove n<=8\/sizeAbove n<=2*n:=h3
 have hk:8<=2 ^ (k+3):=by rw[Nat.pow_add];have:=Ztx k;lia
 refine⟨⟨k,by omega⟩,by omega,by omega,by omega,by omega⟩
theorem zmo{α:Type}(t:Zgd)(es:Array (Int×α))(wanted:Nat)(h1:2*es.size<=wanted)(h2:wanted<=4095) :
  ∃t' order,t.relaid (es.map (·.1)) wanted=some (t',order)/\t'.dummies= #[]/\t'.mask=sizeAbove wanted - 1/\t'.led=t.led/\t'.plain=t.plain /\
   order.toList.Perm (Zg1 es.size)/\(order.filterMap (es[·]?)).toList.Perm es.toList/\(order.filterMap (es[·]?)).size=es.size/\SOk t' (order.filterMap (es[·]?)).toList:=by
 obtain⟨⟨k,hk⟩,a,b,c,_⟩:=zgv wanted h2
 obtain⟨t',order,e1,e2,e3,e4,e5,e6,e7,e8,e9,e10,e11⟩:=zxy (sizeAbove wanted - 1) k hk c t.finger (t.movedTo (sizeAbove wanted - 1)) t.led t.plain es (by lia)
 exact⟨t',order,e1,e3,e2,e4,e5,e8,e9,e10,e11⟩
theorem zuz{α β:Type}:∀(p:Nat) (l:List α) (m:List β),(l.zip m).take p=(l.take p).zip (m.take p):=by
 intro p
 induction p with
 | zero=>intro l m;simp
 | succ p ih=>intro l m;cases l with
  | nil=>simp
  | cons a l=>cases m with
   | nil=>simp
   | cons b m=>simp[ih]
theorem zr9{α β:Type}:∀(p:Nat) (l:List α) (m:List β),(l.zip m).drop p=(l.drop p).zip (m.drop p):=by
 intro p
 induction p with
 | zero=>intro l m;simp
 | succ p ih=>intro l m;cases l with
  | nil=>simp
  | cons a l=>cases m with
   | nil=>simp
   | cons b m=>simp[ih]
theorem zp1{α β:Type}(p:Nat)(a:α)(b:β):∀(l:List α) (m:List β),l.length=m.length ->
  (l.take p++a::l.drop p).zip (m.take p++b::m.drop p)=(l.zip m).take p++(a,b)::(l.zip m).drop p:=by
 intro l m h
 rw[List.zip_append (by simp[h]),Znx,<- zuz,<- zr9]
theorem zbh{α:Type}(p:Nat)(a:α)(l:List α):(l.take p++a::l.drop p).Perm (a::l):=by
 have h:(l.take p++a::l.drop p).Perm (a::(l.take p++l.drop p)):=Zs0
 rw[Zk4] at h;exact h
theorem zly(xs:Array Nat)(i:Nat)(j:Nat)(hp:xs.toList.Pairwise (· < ·))(h:xs[i]? = some j)(x:Nat):x∈(eraseAt xs i).toList↔x∈xs.toList/\x≠j:=by
 rw[zc7]
 rw[<- Zg2] at h
 obtain⟨hi,hx⟩:=Zgg.mp h
 have hsp:xs.toList=xs.toList.take i++j::xs.toList.drop (i+1):=by
  rw[<- hx,Zqt,Zk4]
 have hp':=hp
 rw[hsp,Zlc,Zr5] at hp'
 obtain⟨p1,⟨p2,p3⟩,p4⟩:=hp'
 rw[Zhl]
 constructor
 .rintro(h1 | h1)
  .have:=p4 x h1 j (.head _);exact⟨Znc h1,by lia⟩
  .have:=p2 x h1;exact⟨Zq6 h1,by lia⟩
 .rintro⟨h1,h2⟩
  rw[hsp,Zhl] at h1
  rcases h1 with h1 | h1
  .exact .inl h1
  .rcases Zgh.mp h1 with e | e
   .exact absurd e h2
   .exact .inr e
theorem zxa{α:Type}(t:Zgd)(es:Array (Int×α))(h:Int)(x:α)(s:Nat)(ok:SOk t es.toList)(hs:t.slot s= .empty\/t.slot s= .dummy)(hm:s<=t.mask)(hr:zj1 t h s) :
  TOk (t.put s).1/\(t.put s).1.mask=t.mask/\(t.put s).1.place.size=(insertAt es (t.put s).2 (h,x)).size /\
  (∀c∈(t.put s).1.place.toList.zip (insertAt es (t.put s).2 (h,x)).toList,zj1 (t.put s).1 c.2.1 c.1) /\
  (t.put s).1.fill<=t.fill+1/\(t.slot s= .dummy->(t.put s).1.fill=t.fill)/\(insertAt es (t.put s).2 (h,x)).toList.Perm ((h,x)::es.toList) /\
  (t.put s).1.led=t.led/\(t.put s).1.plain=t.plain:=by
 obtain⟨⟨a1,a2,a3,a4,a5,a6,a7⟩,b,c,d⟩:=ok
 have tok:TOk t:=⟨a1,a2,a3,a4,a5,a6,a7⟩
 have hnp:s∉t.place.toList:=by
  rcases hs with hs | hs
  .exact((zdf tok s).mp hs).1
  .exact a5 s ((ze4 tok s).mp hs)
 have hb:=(zfb t.place s a1).1
 have hbe:below t.place s<=es.size:=by have:t.place.size=es.size:=(by simpa using c);lia
 have hd':∀y,y∈(if has t.dummies s=true then eraseAt t.dummies (below t.dummies s) else t.dummies).toList↔y∈t.dummies.toList/\y≠s:=by
  intro y
  by_cases hh:has t.dummies s=true
  .rw[if_pos hh]
   exact zly t.dummies _ s a2 ((zdh _ _ a2).mpr ((zh0 _ _ a2).mp hh)) y
  .rw[if_neg hh]
   exact⟨fun hy=>⟨hy,fun e=>hh ((zh0 _ _ a2).mpr (e ▸ hy))⟩,fun hy=>hy.1⟩
 have hpl:(t.put s).1.place.toList=t.place.toList.take (below t.place s)++s::t.place.toList.drop (below t.place s):=zbd _ _ _ hb
 have hmp:∀y,y∈(t.put s).1.place.toList↔y=s\/y∈t.place.toList:=by
  intro y;rw[hpl,(zbh _ _ _).mem_iff,Zgh]
 have hmd:∀y,y∈(t.put s).1.dummies.toList↔y∈t.dummies.toList/\y≠s:=hd'
 have htok:TOk (t.put s).1:=by
  refine⟨zjd _ _ a1 hnp,?_,?_,?_,?_,a6,a7⟩
  .show(if has t.dummies s=true then eraseAt t.dummies (below t.dummies s) else t.dummies).toList.Pairwise (· < ·)
   split
   .rw[zc7]
    refine Zol ?_ a2
    have:(t.dummies.toList.take (below t.dummies s)++t.dummies.toList.drop (below t.dummies s+1)).Sublist (t.dummies.toList.take (below t.dummies s)++t.dummies.toList.drop (below t.dummies s)) :=
     Zwa (Zp0 _) (by rw[<- List.drop_drop];exact Zsj _ _)
    rw[Zk4] at this;exact this
   .exact a2
  .intro j hj;rcases(hmp j).mp hj with e | e
   .rw[e];exact hm
   .exact a3 j e
  .intro j hj;exact a4 j ((hmd j).mp hj).1
  .intro j hj hc
   rcases(hmp j).mp hc with e | e
   .exact((hmd j).mp hj).2 e
   .exact a5 j ((hmd j).mp hj).1 e
 have hmono:∀j,t.slot j ≠ .empty->(t.put s).1.slot j ≠ .empty:=by
  intro j hj hc
  obtain⟨c1,c2⟩:=(zdf htok j).mp hc
  refine hj ((zdf tok j).mpr ⟨fun e=>c1 ((hmp j).mpr (.inr e)),fun e=>?_⟩)
  by_cases he:j=s
  .exact c1 ((hmp j).mpr (.inl he))
  .exact c2 ((hmd j).mpr ⟨e,he⟩)
 refine⟨htok,rfl,?_,?_,?_,?_,?_,rfl,rfl⟩
 .show(insertAt t.place (below t.place s) s).size=(insertAt es (below t.place s) (h,x)).size
  rw[<- Zhh,<- Zhh,zbd _ _ _ hb,zbd _ _ _ hbe,(zbh _ _ _).length_eq,(zbh _ _ _).length_eq]
  simpa using c
 .intro e he
  rw[hpl] at he
  have he':e∈(t.place.toList.take (below t.place s)++s::t.place.toList.drop (below t.place s)).zip (insertAt es (below t.place s) (h,x)).toList:=he
  rw[zbd _ _ _ hbe,zp1 _ _ _ _ _ (by simpa using c),(zbh _ _ _).mem_iff,Zgh] at he'
  rcases he' with e1 | e1
  .rw[e1];exact zgg (t:=t) (t':=(t.put s).1) rfl hmono hr
  .exact zgg (t:=t) (t':=(t.put s).1) rfl hmono (d e e1)
 .show(insertAt t.place (below t.place s) s).size+(if has t.dummies s=true then eraseAt t.dummies (below t.dummies s) else t.dummies).size<=t.fill+1
  have h1:(insertAt t.place (below t.place s) s).size=t.place.size+1:=by
   rw[<- Zhh,zbd _ _ _ hb,(zbh _ _ _).length_eq];simp
  have h2:(if has t.dummies s=true then eraseAt t.dummies (below t.dummies s) else t.dummies).size<=t.dummies.size:=by
   split
   .rw[<- Zhh,zc7];simp;omega
   .exact Zgf _
  unfold fill;lia
 .intro hdm
  show(insertAt t.place (below t.place s) s).size+(if has t.dummies s=true then eraseAt t.dummies (below t.dummies s) else t.dummies).size=t.fill
  have h1:(insertAt t.place (below t.place s) s).size=t.place.size+1:=by
   rw[<- Zhh,zbd _ _ _ hb,(zbh _ _ _).length_eq];simp
  have hin:=(ze4 tok s).mp hdm
  rw[if_pos ((zh0 _ _ a2).mpr hin)]
  have hlt:=(Zje.mp ((zdh _ _ a2).mpr hin)).1
  have h2:(eraseAt t.dummies (below t.dummies s)).size+1=t.dummies.size:=by
   rw[<- Zhh,zc7];simp;lia
  unfold fill;lia
 .show(insertAt es (below t.place s) (h,x)).toList.Perm ((h,x)::es.toList)
  rw[zbd _ _ _ hbe];exact zbh _ _ _
end L2T
namespace L2
open PySem PySem.Spec PyProof.Rows L2T
inductive SK where
 | one (k:Key)
 | many (ks:List Key)
 deriving DecidableEq
noncomputable def SK.flat:SK->Bool
 | .one _=>true
 | .many _=>false
section
variable(prog:Zgy)(w:Zhn)
noncomputable def SK.is(h:Heap):SK->Zf9->Prop
 | .one k,v=>(zaq prog w).is k v=true
 | .many ks,v=>∃a,v= .ref a/\Zl4 (zaq prog w) h ks a
noncomputable def SK.hash:SK->Int
 | .one k=>(zaq prog w).hash k
 | .many ks=>tupleKeyHash (zaq prog w) ks
inductive Es(h:Heap):List SK->List (Int×Zf9)->Prop
 | nil:Es h [] []
 | cons {k:SK} {e:Int×Zf9} {ks:List SK} {es:List (Int×Zf9)}:e.1=k.hash prog w->k.is prog w h e.2->Es h ks es->Es h (k::ks) (e::es)
noncomputable def zk4(h h':Heap):Prop:=∀b o,o.cls= .type "tuple" -> h.get? b=some o->h'.get? b=some o
noncomputable def led0:Bool:=!w.params.followText "set-order"
structure SetO(h:Heap)(o:Obj)(ks:List SK)(es:Array (Int×Zf9))(ep:Nat)(t:Zgd):Prop where
 ex:o.ExactSet
 data:o.data= .set es ep t
 tab:SOk t es.toList
 ent:Es prog w h ks es.toList
 nod:ks.Nodup
 small:ks.length<=1000
 led:t.led=led0 w
 kind:∃f,∀k∈ks,k.flat=f
noncomputable def SetE(h:Heap)(a:Addr)(ks:List SK)(es:Array (Int×Zf9)):Prop:=∃o ep t,h.get? a=some o/\SetO prog w h o ks es ep t
end
section
variable{prog:Zgy}{w:Zhn}{h h':Heap}
theorem SK.is_mono{k:SK}{v:Zf9}(K:zk4 h h')(x:k.is prog w h v):k.is prog w h' v:=by
 cases k with
 | one k=>exact x
 | many ks =>
  obtain⟨a,rfl,o,its,n,e,c,d,i⟩:=x
  exact⟨a,rfl,o,its,n,K a o c e,c,d,i⟩
theorem Es.mono{ks:List SK}{es:List (Int×Zf9)}(K:zk4 h h')(x:Es prog w h ks es):Es prog w h' ks es:=by
 induction x with
 | nil=>exact .nil
 | cons a b _ ih=>exact .cons a (SK.is_mono K b) ih
theorem Es.length{ks:List SK}{es:List (Int×Zf9)}(x:Es prog w h ks es):ks.length=es.length:=by
 induction x with
 | nil=>rfl
 | cons a b _ ih=>simp[ih]
theorem Es.get{ks:List SK}{es:List (Int×Zf9)}(x:Es prog w h ks es):∀(i:Nat) (e:Int×Zf9),es[i]? = some e-> ∃k,ks[i]? = some k/\e.1=k.hash prog w/\k.is prog w h e.2:=by
 induction x with
 | nil=>intro i e he;simp at he
 | cons a b _ ih =>
  intro i e he
  cases i with
  | zero=>simp at he;subst he;exact⟨_,rfl,a,b⟩
  | succ i=>exact ih i e he
theorem Es.perm{ks:List SK}{es es':List (Int×Zf9)}(x:Es prog w h ks es)(p:es'.Perm es):∃ks',ks'.Perm ks/\Es prog w h ks' es':=by
 have p':=p.symm
 clear p
 induction p' generalizing ks with
 | nil=>exact⟨ks,.refl _,x⟩
 | cons e _ ih =>
  cases x with
  | cons a b y =>
   obtain⟨k2,q,z⟩:=ih y
   exact⟨_::k2,q.cons _,.cons a b z⟩
 | swap e f l =>
  cases x with
  | cons a b y=>cases y with
   | cons c d z=>exact⟨_::_::_,Zok _ _ _,.cons c d (.cons a b z)⟩
 | trans _ _ ih1 ih2 =>
  obtain⟨k1,q1,z1⟩:=ih1 x
  obtain⟨k2,q2,z2⟩:=ih2 z1
  exact⟨k2,q2.trans q1,z2⟩
theorem SetO.fits{o:Obj}{ks:List SK}{es:Array (Int×Zf9)}{ep:Nat}{t:Zgd}(S:SetO prog w h o ks es ep t):t.fits es.size=true:=by
 have h1:=S.tab.size
 have h2:=S.tab.room
 simp only[Zl1,Zgv,beq_iff_eq,decide_eq_true_eq]
 exact⟨by simpa using h1,by lia⟩
theorem SetO.mono{o:Obj}{ks:List SK}{es:Array (Int×Zf9)}{ep:Nat}{t:Zgd}(K:zk4 h h')(S:SetO prog w h o ks es ep t):SetO prog w h' o ks es ep t :=
 ⟨S.ex,S.data,S.tab,S.ent.mono K,S.nod,S.small,S.led,S.kind⟩
theorem zgf{a:Addr}{o:Obj}{es:Array (Int×Zf9)}{ep:Nat}{t:Zgd}(ho:h.get? a=some o)(hd:o.ExactSet)(hs:Zh2 a h h'):zk4 h h':=by
 intro b u c e
 have hne:b≠a:=by
  rintro rfl
  rw[ho] at e;cases e
  rw[hd.1] at c;exact absurd c (by decide)
 exact(hs.2 b hne).trans e
end
theorem zo6(b:Addr):isSame (.ref b) (.ref b)=pure true:=by
 show(if (b == b)=true then (pure true:Sem Bool) else _)=_
 rw[if_pos (beq_self_eq_true b)]
section
variable{prog:Zgy}{w:Zhn}{A:Zhe}{E:Zf9->Zgc->Prop}{s:Zgc}
theorem zkk{M:Zsy}{a:Addr}{o:Obj}{ks:List SK}{es:Array (Int×Zf9)}{ep:Nat}{t:Zgd}{Q:Array (Int×Zf9)×Nat×Zgd->Zgc->Prop}
  (ho:s.heap.get? a=some o) (S:SetO prog w s.heap o ks es ep t) (q:Q (es,ep,t) s):Zgr (Zg9 prog w) A (setState a) Q E s :=
 Zpf ho S.data S.fits q
theorem zxk{ks:List Key}{v:Zf9}{a:Addr}{Q:Bool->Zgc->Prop}(hk:Zl4 (zaq prog w) s.heap ks a)(h:Q false s):Zgr (Zg9 prog w) A (Zmo 8 (.ref a)) Q E s:=by
 have hT:=hk.typeIs
 obtain⟨o,its,n,ho,_,hd,hi⟩:=hk
 unfold Zmo
 refine Zf5 (Zpt hT ?_)
 show Zgr _ _ ((if ("tuple" == "tuple")=true then pure true else isSubtype (.type "tuple") (.type "tuple")) >>= _) Q E s
 refine Zf5 (Zgb ?_)
 show Zgr _ _ (Zsq (.ref a) >>= _) Q E s
 refine Zf5 (Zih ho hd ?_)
 show Zgr _ _ (Zto its _ _ >>= _) Q E s
 refine Zf5 ?_
 rw[<- Zrq]
 refine Zp4 _ (fun rest r s'=>r.1=none/\s'=s /\ ∀v∈rest,Zod v=true) _ ?_ ?_ _ _ ⟨rfl,rfl,hi.byValue⟩
 .rintro v rest r s' ⟨hr,rfl,hall⟩
  have hv:=hall v Zgz
  have e:Zmo 7 v=pure false:=by
   cases v <;> first | rfl | (simp[Zod] at hv)
  show Zgr _ _ (Zmo 7 v >>= _) _ _ _
  rw[e]
  refine Zf5 (Zgb ?_)
  simp only[Zgo,if_false]
  exact Zgb ⟨rfl,rfl,fun u hu'=>hall u (Zgi _ hu')⟩
 .rintro⟨r1,r2⟩ s' ⟨hr,rfl,_⟩
  simp only at hr
  subst hr
  exact Zgb h
theorem zwe{kk:List Key}{a:Addr}{Q:Bool->Zgc->Prop}(hk:Zl4 (zaq prog w) s.heap kk a)(h:Q false s) :
  ∀ys:List Zf9,(∀y∈ys,∃b ks,y= .ref b/\Zl4 (zaq prog w) s.heap ks b)->Zgr (Zg9 prog w) A (Zuw (.ref a) ys) Q E s:=by
 intro ys hys
 unfold Zuw
 refine Zf5 ?_
 refine Zp4 _ (fun rest r s'=>r.1=none/\s'=s /\ ∀y∈rest,∃b ks,y= .ref b/\Zl4 (zaq prog w) s.heap ks b) _ ?_ ?_ _ _ ⟨rfl,rfl,hys⟩
 .rintro y rest r s' ⟨hr,rfl,hall⟩
  obtain⟨b,ks,rfl,hb⟩:=hall y Zgz
  have hrest:∀y∈rest,∃b ks,y= .ref b/\Zl4 (zaq prog w) s'.heap ks b:=fun y hy=>hall y (Zgi _ hy)
  dsimp only
  by_cases hab:(a == b)=true
  .rw[if_pos (by rw[hab];rfl)]
   exact Zgb ⟨rfl,rfl,hrest⟩
  .rw[if_neg (by rw[Ztb] at hab;rw[hab];simp[Zod])]
   refine Zf5 (Zso hk ?_)
   simp only[Zle,Zgo,if_false]
   refine Zf5 (Zso hb ?_)
   simp only[Zle,Zgo,if_false]
   refine Zf5 (zxk (v:=.none) hk ?_)
   simp only[Zgo,if_false]
   refine Zf5 (zxk (v:=.none) hb ?_)
   simp only[Zgo,if_false]
   exact Zgb ⟨rfl,rfl,hrest⟩
 .rintro⟨r1,r2⟩ s' ⟨hr,rfl,_⟩
  simp only at hr
  subst hr
  exact Zgb h
theorem zwv{a:Addr}{o:Obj}{ks:List SK}{es:Array (Int×Zf9)}{ep:Nat}{t:Zgd}{x:Zf9}{kk:List Key}{adding:Bool}{Q:SetFound->Zgc->Prop}(hu:A.units<Zn5)
  (ho:s.heap.get? a=some o) (S:SetO prog w s.heap o ks es ep t) (hk:∀k∈ks,k.flat=false) (hx:(SK.many kk).is prog w s.heap x)
  (found:∀i,ks[i]? = some (.many kk)->Q (.there (if adding then none else some i)) s)
  (free:SK.many kk∉ks-> ∀sl wd,sl<=t.mask->zj1 t (SK.hash prog w (.many kk)) sl->(wd=true->t.slot sl= .dummy)->(wd=false->t.slot sl= .empty)->Q (.free sl wd) s) :
  ∀(fuel n:Nat) (stand:Option SetTable.Probe),(stand=none->n=0) ->
   (∀p,stand=some p->zn9 p (prM t.mask (SK.hash prog w (.many kk)) n)/\(p.dummy=none \/ ∃q,q<n/\p.dummy=some (posM t.mask (SK.hash prog w (.many kk)) q)/\t.slot (posM t.mask (SK.hash prog w (.many kk)) q)= .dummy)) ->
   (∀q,q<n->t.slot (posM t.mask (SK.hash prog w (.many kk)) q) ≠ .empty /\ ∀i,t.slot (posM t.mask (SK.hash prog w (.many kk)) q)= .live i->ks[i]? ≠ some (.many kk)) ->
   (∃N,n<=N/\N<n+fuel/\N<10*Zli t.mask/\t.slot (posM t.mask (SK.hash prog w (.many kk)) N)= .empty) ->
   Zgr (Zg9 prog w) A (Zxj a x (SK.hash prog w (.many kk)) adding fuel stand) Q E s:=by
 generalize hH:SK.hash prog w (.many kk)=hh at *
 have tok:=S.tab.ok
 obtain⟨kp,hpow⟩:=tok.pow
 obtain⟨ax,rfl,hax⟩:=hx
 have hgw:t.gaveWay=false:=by
  unfold SetTable.gaveWay
  rw[Zh7] at hpow
  rw[beq_eq_false_iff_ne];lia
 have hent:∀(i:Nat) (h:Int) (y:Zf9),es[i]? = some (h,y)-> ∃(b:Addr) (k2:List Key),y=Zhy b/\Zl4 (zaq prog w) s.heap k2 b/\ks[i]? = some (SK.many k2)/\h=SK.hash prog w (SK.many k2):=by
  intro i h y he
  obtain⟨k,h1,h2,h3⟩:=S.ent.get i (h,y) (by rw[Zg2];exact he)
  have hf:=hk k (Zgm h1)
  cases k with
  | one k=>simp[SK.flat] at hf
  | many k2=>obtain⟨b,rfl,hb⟩:=h3;exact⟨b,k2,rfl,hb,h1,h2⟩
 intro fuel
 induction fuel with
 | zero=>rintro n stand _ _ _ ⟨N,h1,h2,_⟩;lia
 | succ fuel ih =>
  rintro n stand hst hsp hq ⟨N,n1,n2,n3,n4⟩
  unfold Zxj
  refine Zf5 (zkk (M:=Zg9 prog w) ho S ?_)
  dsimp only
  rw[hgw]
  simp only[Zgo,if_false]
  have hstart:zn9 (stand.getD (t.probeStart hh)) (prM t.mask hh n)/\((stand.getD (t.probeStart hh)).dummy=none \/ ∃q,q<n/\(stand.getD (t.probeStart hh)).dummy=some (posM t.mask hh q)/\t.slot (posM t.mask hh q)= .dummy):=by
   cases stand with
   | none=>rw[hst rfl];exact⟨⟨rfl,rfl,rfl,rfl⟩,.inl rfl⟩
   | some p=>exact hsp p rfl
  obtain⟨m,m1,m2,d,hd,hr⟩:=zoj t (fun i=>(es[i]?.map (·.1)).getD 0) hh (10*Zli t.mask) _ n hstart.1 ⟨N,n1,by lia,n4⟩
  have hd':d=none \/ ∃q,q<m/\d=some (posM t.mask hh q)/\t.slot (posM t.mask hh q)= .dummy:=by
   rcases hd with hd | ⟨q,q1,q2,q3,q4⟩
   .rcases hstart.2 with e | ⟨q,q1,q2,q3⟩
    .exact .inl (hd.trans e)
    .exact .inr ⟨q,by lia,hd.trans q2,q3⟩
   .exact .inr ⟨q,q2,q3,q4⟩
  have hne:∀q,q<m->t.slot (posM t.mask hh q) ≠ .empty:=fun q hqm=>by
   rcases Zju q n with hl | hl
   .exact(hq q hl).1
   .exact(m2 q hl hqm).1
  rcases hr with ⟨hemp,hr⟩ | ⟨i,nx,hlive,hhash,hr,hsn,hdn⟩
  ·-- an empty slot: it is not there
   have habs:SK.many kk∉ks:=by
    intro hin
    obtain⟨i,hi⟩:=Zhr.mp hin
    have hil:i<ks.length:=(Zgg.mp hi).1
    have hie:i<es.size:=by have:=S.ent.length;simp at this;lia
    have hip:i<t.place.size:=by have:=S.tab.size;simp at this;lia
    have hpl:t.place[i]? = some t.place[i]:=Zgs hip
    have hes:es[i]? = some es[i]:=Zgs hie
    obtain⟨b,k2,hy,hb,hki,hhi⟩:=hent i es[i].1 es[i].2 hes
    have hkk:k2=kk:=by rw[hi] at hki;cases hki;rfl
    subst hkk
    have hreach:=S.tab.reach (t.place[i],es[i]) (by
     rw[Zhr]
     refine⟨i,?_⟩
     rw[Zpz]
     exact⟨by rw[Zg2];exact hpl,by rw[Zg2];exact hes⟩)
    obtain⟨n',e1,e2⟩:=hreach
    dsimp only at e1 e2
    rw[hhi,hH] at e1 e2
    have hl:t.slot (posM t.mask hh n')= .live i:=by rw[e1];exact(zee tok _ i).mpr hpl
    rcases Zoi n' m with c | c | c
    .rcases Zju n' n with c2 | c2
     .exact(hq n' c2).2 i hl hi
     .refine(m2 n' c2 c).2 i hl ?_
      rw[hes];show es[i].1=hh;rw[hhi,hH]
    .subst c;rw[hl] at hemp;cases hemp
    .exact e2 m c hemp
   generalize hX:t.probe _ hh _=pX
   have hX2:=hX.symm.trans hr
   subst hX2
   rcases hd' with rfl | ⟨q,q1,rfl,q2⟩
   .exact Zgb (free habs _ false (zjs _ _ hpow hh m) ⟨m,rfl,hne⟩ (fun e=>by cases e) (fun _=>hemp))
   .dsimp only
    rw[q2]
    have:(adding&&(Zo5 != Zo5))=false:=by cases adding <;> decide
    rw[this]
    simp only[Zgo,if_false]
    exact Zgb (free habs _ true (zjs _ _ hpow hh q) ⟨q,rfl,fun m' hm'=>hne m' (by lia)⟩ (fun _=>q2) (fun e=>by cases e))
  .have hpl:=(zee tok _ i).mp hlive
   have hip:i<t.place.size:=(Zje.mp hpl).1
   have hie:i<es.size:=by have:=S.tab.size;simp at this;lia
   have hes:es[i]? = some es[i]:=Zgs hie
   obtain⟨b,k2,hy,hb,hki,hhi⟩:=hent i es[i].1 es[i].2 hes
   generalize hX:t.probe _ hh _=pX
   have hX2:=hX.symm.trans hr
   subst hX2
   dsimp only
   have hall:∀y∈(es.filter (·.1 == hh)).toList.map (·.2),∃(b:Addr) (k3:List Key),y=Zhy b/\Zl4 (zaq prog w) s.heap k3 b:=by
    intro y hy
    obtain⟨e,he,rfl⟩:=Zg5.mp hy
    have he':=(Array.mem_filter.mp (Zna.mp he)).1
    obtain⟨j,hj⟩:=Zhr.mp (Zna.mpr he')
    rw[Zg2] at hj
    obtain⟨b,k3,hy,hb,_⟩:=hent j e.1 e.2 hj
    exact⟨b,k3,hy,hb⟩
   by_cases hl:t.led=true
   case' pos=>simp only[hl,Zle,Zgo,if_false]
   case' neg =>
    rw[Ztb] at hl
    simp only[hl,Zt6,if_true]
    refine Zf5 (zwe hax ?_ _ hall)
    simp only[Zgo,if_false]
   all_goals
     rw[hes]
     dsimp only
     rw[hy]
     refine Zf5 (Zja (wpAny_eqBool_tuple hu hb hax ?_))
     refine Zf5 (zkk (M:=Zg9 prog w) ho S ?_)
     dsimp only
     by_cases hkk:k2=kk
     .subst hkk
      have hQ:=found i hki
      rw[decide_eq_true rfl]
      cases adding with
      | true=>exact Zgb hQ
      | false =>
       have hsm:t.sameMemory t.moves t.mask=some true:=by unfold Zqc;simp
       simp only[Znf,Zgo,if_false,hsm,if_true,hlive,hes,hy]
       have hself:=zo6 b
       rw[hself]
       exact Zf5 (Zgb (Zf5 (Zgb (Zgb hQ))))
     .rw[decide_eq_false hkk]
      have hsm:t.sameMemory t.moves t.mask=some true:=by unfold Zqc;simp
      simp only[Bool.and_false,Zgo,if_false,hsm,if_true,hlive,hes,hy]
      have hself:=zo6 b
      rw[hself]
      refine Zf5 (Zgb (Zf5 (Zgb ?_)))
      have hmN:m<N:=by
       refine Ztg fun c=>?_
       rcases Zn8 c with e | e
       .rw[<- e,n4] at hlive;cases hlive
       .exact hne N e n4
      refine ih (m+1) (some nx) (fun e=>by cases e) (fun p hp=>?_) (fun q hqm=>?_) ⟨N,by lia,by lia,n3,n4⟩
      .cases hp
       refine⟨hsn,?_⟩
       rw[hdn]
       rcases hd' with e | ⟨q,q1,q2,q3⟩
       .exact .inl e
       .exact .inr ⟨q,by lia,q2,q3⟩
      .rcases Zju q m with c | c
       .refine⟨hne q c,fun j hj hkj=>?_⟩
        rcases Zju q n with c2 | c2
        .exact(hq q c2).2 j hj hkj
        .have hpj:=(zee tok _ j).mp hj
         have hjp:j<t.place.size:=(Zje.mp hpj).1
         have hje:j<es.size:=by have:=S.tab.size;simp at this;lia
         have hej:es[j]? = some es[j]:=Zgs hje
         obtain⟨_,k3,_,_,hkj',hhj⟩:=hent j es[j].1 es[j].2 hej
         rw[hkj] at hkj';cases hkj'
         refine(m2 q c2 c).2 j hj ?_
         rw[hej];show es[j].1=hh;rw[hhj,hH]
       .have:q=m:=by lia
        subst this
        refine⟨by rw[hlive];exact fun e=>(by cases e),fun j hj hkj=>?_⟩
        rw[hlive] at hj;cases hj
        rw[hki] at hkj;cases hkj;exact hkk rfl
end
section
variable{prog:Zgy}{w:Zhn}{h:Heap}
theorem zki{a:Addr}{o:Obj}{es:Array (Int×Zf9)}{ep:Nat}{t:Zgd}(ho:h.get? a=some o)(hd:o.data= .set es ep t)(e1:Array (Int×Zf9))(t1:Zgd) :
  (h.update a (Zqd e1 t1)).get? a=some { o with data:=.set e1 (ep+1) t1 }:=by
 have z:=Zh6 (Zqd e1 t1) ho (by rw[putSet_of e1 t1 hd];rfl)
 rw[putSet_of e1 t1 hd] at z
 exact z
theorem Es.flats{ks:List SK}{es:List (Int×Zf9)}(x:Es prog w h ks es)(hf:∀k∈ks,k.flat=true):ElemsOf (zaq prog w) es:=by
 intro e he
 obtain⟨i,hi⟩:=Zhr.mp he
 obtain⟨k,a,b,c⟩:=x.get i e hi
 have hk:=hf k (Zgm a)
 cases k with
 | many _=>simp[SK.flat] at hk
 | one k =>
  refine⟨⟨k,c,b⟩,?_⟩
  rcases za4 c with ⟨j,t,_,e2⟩ | ⟨y,t,_,e2⟩ <;> rw[e2] <;> rfl
theorem zmb{k:Key}{x:Zf9}(hx:SK.is prog w h (.one k) x):x.scannable=true:=by
 rcases za4 hx with ⟨j,t,_,e2⟩ | ⟨y,t,_,e2⟩ <;> rw[e2] <;> rfl
theorem Es.idx{ks:List SK}{es:List (Int×Zf9)}(x:Es prog w h ks es)(hf:∀k∈ks,k.flat=true)(k:Key) :
  (∀j,es.findIdx? (fun e=>(zaq prog w).is k e.2)=some j->ks[j]? = some (.one k))/\(es.findIdx? (fun e=>(zaq prog w).is k e.2)=none->SK.one k∉ks):=by
 constructor
 .intro j hj
  obtain⟨h1,h2,_⟩:=List.findIdx?_eq_some_iff_getElem.mp hj
  obtain⟨k',a,b,c⟩:=x.get j es[j] (Zf8 h1)
  have hk:=hf k' (Zgm a)
  cases k' with
  | many _=>simp[SK.flat] at hk
  | one k'=>rw[a,(zaq prog w).inj _ _ _ c h2]
 .intro hn hin
  obtain⟨i,hi⟩:=Zhr.mp hin
  have hil:i<es.length:=by rw[<- x.length];exact(Zgg.mp hi).1
  obtain⟨k',a,b,c⟩:=x.get i es[i] (Zf8 hil)
  rw[hi] at a;cases a
  have:=List.findIdx?_eq_none_iff.mp hn es[i] (Zhv hil)
  rw[show(zaq prog w).is k es[i].2=true from c] at this;cases this
theorem ztz{es:Array (Int×Zf9)}{t:Zgd}(ok:SOk t es.toList)(hh:Int)(x:Zf9) :
  ∃sl wd,layNew t es hh x=(Zgt es (t.put sl).2 (hh,x),(t.put sl).1,wd,false)/\sl<=t.mask/\zj1 t hh sl/\(wd=true->t.slot sl= .dummy)/\(wd=false->t.slot sl= .empty):=by
 obtain⟨kp,hpow⟩:=ok.ok.pow
 obtain⟨e,he,hemp⟩:=zjm ok.ok (by have:=ok.room;lia)
 obtain⟨N,hN,hp⟩:=zrz t.mask _ hpow hh e he
 obtain⟨m,m1,m2,d,hd,hr⟩:=zoj t (fun _=>hh+1) hh (10*Zli t.mask) (t.probeStart hh) 0 ⟨rfl,rfl,rfl,rfl⟩ ⟨N,Zhg _,by lia,by rw[hp];exact hemp⟩
 rcases hr with ⟨h1,h2⟩ | ⟨i,nx,_,h2,_⟩
 .have hfs:t.freeSlot hh=some (d.getD (posM t.mask hh m),d.isSome):=by
   unfold SetTable.freeSlot SetTable.probe
   rw[h2]
  have key:∃sl wd,t.freeSlot hh=some (sl,wd)/\sl<=t.mask/\zj1 t hh sl/\(wd=true->t.slot sl= .dummy)/\(wd=false->t.slot sl= .empty):=by
   rcases hd with hd | ⟨q,q1,q2,q3,q4⟩
   .have:d=none:=hd
    subst this
    exact⟨_,_,hfs,zjs _ _ hpow hh m,⟨m,rfl,fun q hq=>(m2 q (Zhg _) hq).1⟩,(fun e=>by cases e),fun _=>h1⟩
   .subst q3
    exact⟨_,_,hfs,zjs _ _ hpow hh q,⟨q,rfl,fun q' hq=>(m2 q' (Zhg _) (by lia)).1⟩,(fun _=>q4),(fun e=>by cases e)⟩
  obtain⟨sl,wd,f1,f2,f3,f4,f5⟩:=key
  refine⟨sl,wd,?_,f2,f3,f4,f5⟩
  have hs:t.slot sl= .empty\/t.slot sl= .dummy:=by cases wd with
   | true=>exact .inr (f4 rfl)
   | false=>exact .inl (f5 rfl)
  obtain⟨g1,g2,g3,g4,g5,_⟩:=zxa t es hh x sl ok hs f2 f3
  have hfit:(t.put sl).1.fits (Zgt es (t.put sl).2 (hh,x)).size=true:=by
   simp only[Zl1,Zgv,beq_iff_eq,decide_eq_true_eq]
   refine⟨g3,?_⟩
   have:=ok.room
   rw[g2];lia
  unfold layNew
  rw[f1]
  show(_,(t.put sl).1.orStandIn _,wd,!(t.put sl).1.fits _)=_
  unfold SetTable.orStandIn
  have hfit':(t.put sl).1.fits (Zgt es (Zha t.place sl) (hh,x)).size=true:=hfit
  rw[hfit'];rfl
 .lia
theorem znu(t:Zgd)(es:Array (Int×Zf9))(wanted:Nat)(h1:2*es.size<=wanted)(h2:wanted<=4095) :
  ∃t' es',Zrv t es wanted=(es',t',false)/\t'.led=t.led/\t'.plain=t.plain/\es'.toList.Perm es.toList/\SOk t' es'.toList:=by
 obtain⟨t',order,e1,e2,e3,e4,e5,e6,e7,e8,e9⟩:=zmo t es wanted h1 h2
 refine⟨t',_,?_,e4,e5,e7,e9⟩
 unfold Zrv
 rw[e1]
 dsimp only
 have c1:coversAll order es.size=true:=List.isPerm_iff.mpr e6
 have c2:t'.fits (order.filterMap (es[·]?)).size=true:=by
  simp only[Zl1,Zgv,beq_iff_eq,decide_eq_true_eq]
  exact⟨by rw[e9.size,Zhh],by have:=e9.room;lia⟩
 rw[c1,c2];rfl
end
section
variable{prog:Zgy}{w:Zhn}{A:Zhe}{E:Zf9->Zgc->Prop}{s:Zgc}
theorem zvv{t:Zgd}{es:List (Int×Zf9)}(ok:SOk t es)(hh:Int):∃N,0<=N/\N<0+100000/\N<10*Zli t.mask/\t.slot (posM t.mask hh N)= .empty:=by
 obtain⟨kp,hpow⟩:=ok.ok.pow
 obtain⟨e,he,hemp⟩:=zjm ok.ok (by have:=ok.room;lia)
 obtain⟨N,hN,hp⟩:=zrz t.mask _ hpow hh e he
 have hb:=ok.ok.big
 refine⟨N,Zhg _,?_,hN,by rw[hp];exact hemp⟩
 unfold Zli at hN;lia
theorem zpx{es:Array (Int×Zf9)}{k:Key}{x:Zf9}{ks:List SK}(hx:SK.is prog w s.heap (.one k) x)(ent:Es prog w s.heap ks es.toList)(hf:∀k∈ks,k.flat=true)(hs:ks.length<=1000):byScan x es=true :=
 byScan_of (knd:=zaq prog w) (zmb hx) (by have:=ent.length;simp at this;unfold scanBound;lia) (ent.flats hf)
theorem zm4{es:Array (Int×Zf9)}{a:Addr}:byScan (.ref a) es=false:=rfl
theorem yaz{k:SK}{x:Zf9}{Q:Bool->Zgc->Prop}(hx:k.is prog w s.heap x)(q:∀b,Q b s):Zgr (Zg9 prog w) A (Ztn 8 x) Q E s:=by
 cases k with
 | one k=>rw[Zsr 8 (zmb hx)];exact Zgb (q _)
 | many kk =>
  obtain⟨a,rfl,hk⟩:=hx
  have hT:=hk.typeIs
  obtain⟨o,its,n,ho,_,hd,hi⟩:=hk
  unfold Ztn
  refine Zf5 (Zl5 hT F.slot_tuple_hash.lookup ?_)
  show Zgr _ _ (Zsq (.ref a) >>= _) Q E s
  refine Zf5 (Zih ho hd ?_)
  show Zgr _ _ (Zto its _ _ >>= _) Q E s
  refine Zf5 ?_
  rw[<- Zrq]
  refine Zp4 _ (fun rest r s'=>r.1=none/\s'=s /\ ∀v∈rest,Zod v=true/\v.scannable=true) _ ?_ ?_ _ _ ⟨rfl,rfl,?_⟩
  .rintro v rest r s' ⟨hr,rfl,hall⟩
   have hv:=hall v Zgz
   show Zgr _ _ (Ztn 7 v >>= _) _ _ _
   rw[Zsr 7 hv.2]
   refine Zf5 (Zgb ?_)
   cases plainKind v with
   | true =>
    simp only[Zle,Zgo,if_false]
    exact Zgb ⟨rfl,rfl,fun u hu'=>hall u (Zgi _ hu')⟩
   | false =>
    simp only[Zt6,if_true]
    exact Zgb (Zgb (q false))
  .rintro⟨r1,r2⟩ s' ⟨hr,rfl,_⟩
   simp only at hr
   subst hr
   exact Zgb (q true)
  .intro v hv
   refine⟨hi.byValue v hv,?_⟩
   clear hd
   generalize its.toList=vs at hi hv
   induction hi with
   | nil=>cases hv
   | cons h1 _ ih =>
    rcases Zgh.mp hv with rfl | hv
    .rcases za4 h1 with ⟨j,t,_,e2⟩ | ⟨y,t,_,e2⟩ <;> rw[e2] <;> rfl
    .exact ih hv
end
section
variable{prog:Zgy}{w:Zhn}{h:Heap}
noncomputable def za6(b:Bool)(t:Zgd):Zgd:=if b then t else { t with plain:=false }
theorem ze1(b:Bool)(t:Zgd):(za6 b t).mask=t.mask:=by cases b <;> rfl
theorem zgb(b:Bool)(t:Zgd):(za6 b t).place=t.place:=by cases b <;> rfl
theorem zim(b:Bool)(t:Zgd):(za6 b t).dummies=t.dummies:=by cases b <;> rfl
theorem zm0(b:Bool)(t:Zgd):(za6 b t).led=t.led:=by cases b <;> rfl
theorem zgw(b:Bool)(t:Zgd):(za6 b t).fill=t.fill:=by cases b <;> rfl
theorem zmu{o:Obj}{ks:List SK}{es:Array (Int×Zf9)}{ep:Nat}{t:Zgd}{x:Zf9}{k:SK}{sl:Nat}{wd:Bool}(S:SetO prog w h o ks es ep t)(hx:k.is prog w h x)
  (h1:sl<=t.mask) (h2:zj1 t (k.hash prog w) sl) (h3:wd=true->t.slot sl= .dummy) (h4:wd=false->t.slot sl= .empty) (bv:Bool) :
  (Zgt es (t.put sl).2 (k.hash prog w,x)).size=es.size+1/\(za6 bv (t.put sl).1).fits (Zgt es (t.put sl).2 (k.hash prog w,x)).size=true/\(za6 bv (t.put sl).1).led=led0 w /\
  (Zgt es (t.put sl).2 (k.hash prog w,x)).toList.Perm ((k.hash prog w,x)::es.toList)/\(∃k1,k1.Perm (k::ks)/\Es prog w h k1 (Zgt es (t.put sl).2 (k.hash prog w,x)).toList) /\
  ((wd=true\/(za6 bv (t.put sl).1).tooFull=false)->SOk (za6 bv (t.put sl).1) (Zgt es (t.put sl).2 (k.hash prog w,x)).toList):=by
 have hs:t.slot sl= .empty\/t.slot sl= .dummy:=by cases wd with
  | true=>exact .inr (h3 rfl)
  | false=>exact .inl (h4 rfl)
 obtain⟨g1,g2,g3,g4,g5,g6,g7,g8,g9⟩:=zxa t es (k.hash prog w) x sl S.tab hs h1 h2
 have hroom:=S.tab.room
 have hsz:(Zgt es (t.put sl).2 (k.hash prog w,x)).size=es.size+1:=by
  have:=g7.length_eq;simpa using this
 refine⟨hsz,?_,?_,g7,?_,?_⟩
 .simp only[Zl1,Zgv,beq_iff_eq,decide_eq_true_eq]
  rw[zgb,zgw,ze1]
  exact⟨g3,by rw[g2];lia⟩
 .rw[zm0,g8];exact S.led
 .exact(Es.cons (e:=(k.hash prog w,x)) rfl hx S.ent).perm g7
 .intro hc
  refine zrf (t:=(t.put sl).1) ⟨g1,?_,by rw[g3,Zhh],g4⟩ (ze1 ..) (zgb ..) (zim ..)
  rcases hc with hc | hc
  .rw[g6 (h3 hc),g2];exact hroom
  .unfold SetTable.tooFull at hc
   rw[zgw,ze1] at hc
   simpa using hc
theorem SetO.newk{o:Obj}{ks:List SK}{es:Array (Int×Zf9)}{ep:Nat}{t:Zgd}(S:SetO prog w h o ks es ep t){k:SK}(hk:∀k'∈ks,k'.flat=k.flat)(hn:k∉ks)(hr:ks.length+1<=1000)
  {h':Heap} {k1:List SK} {e1:Array (Int×Zf9)} {ep1:Nat} {t1:Zgd} (p:k1.Perm (k::ks)) (ok:SOk t1 e1.toList) (en:Es prog w h' k1 e1.toList) (hl:t1.led=led0 w) :
  SetO prog w h' { o with data:=.set e1 ep1 t1 } k1 e1 ep1 t1 :=
 ⟨S.ex,rfl,ok,en,p.nodup_iff.mpr (Zi7.mpr ⟨hn,S.nod⟩),by rw[p.length_eq];simpa using hr,hl,k.flat,fun k' hk'=>by
  rcases Zgh.mp (p.mem_iff.mp hk') with rfl | e
  .rfl
  .exact hk k' e⟩
end
section
variable{prog:Zgy}{w:Zhn}{A:Zhe}{E:Zf9->Zgc->Prop}{s:Zgc}
theorem zbs{n:Nat}(h:n<=1001):n<=sizeLine:=by rw[Zgq];lia
theorem zjc{n:Nat}(h:n<=4095):¬ SetTable.sizeAbove n>sizeLine:=by
 obtain⟨_,_,_,_,h5⟩:=zgv n h
 rw[Zgq];lia
theorem zcx{n:Nat}(h:n<=1000):2*n<=Zjf n/\Zjf n<=4095:=by
 unfold Zjf
 rw[if_neg (by lia)];lia
theorem ycm {a : Addr} {o : Obj} {ks : List SK} {es : Array (Int × Zf9)} {ep : Nat} {t : Zgd} {x : Zf9} {k : SK} {Q : Bool -> Zgc -> Prop} (hu : A.units < Zn5)
  (ho:s.heap.get? a=some o) (S:SetO prog w s.heap o ks es ep t) (hk:∀k'∈ks,k'.flat=k.flat) (hx:k.is prog w s.heap x) (hr:ks.length+1<=1000)
  (q:∀h' k1 e1,Zh2 a s.heap h'->SetE prog w h' a k1 e1->k1.Perm (if k∈ks then ks else k::ks)->(∀e∈e1.toList,e∈es.toList\/e=(k.hash prog w,x))->Q (decide (k∉ks)) { s with heap:=h' }) :
  Zgr (Zg9 prog w) A (setAddHashed a x (k.hash prog w)) Q E s:=by
 have hlen:es.size=ks.length:=by have:=S.ent.length;simp at this;lia
 have old:k∈ks->Q false s:=fun hin=>by
  have:=q s.heap ks es (Zwb _ _) ⟨o,ep,t,ho,S⟩ (by rw[if_pos hin]) (fun e he=>.inl he)
  rw[decide_eq_false (by simpa using hin)] at this
  exact this
 have new:k∉ks-> ∀h' e1 ep1 t1 k1,Zh2 a s.heap h'->h'.get? a=some { o with data:=.set e1 ep1 t1 }->k1.Perm (k::ks)->SOk t1 e1.toList->Es prog w s.heap k1 e1.toList->t1.led=led0 w->e1.toList.Perm ((k.hash prog w,x)::es.toList)->Q true { s with heap:=h' }:=fun hn h' e1 ep1 t1 k1 hs hg p ok en hl hp=>by
  have hK:zk4 s.heap h':=zgf (es:=es) (ep:=ep) (t:=t) ho S.ex hs
  have:=q h' k1 e1 hs ⟨_,ep1,t1,hg,S.newk hk hn hr p ok (en.mono hK) hl⟩ (by rw[if_neg hn];exact p) (fun e he=>by
   rcases Zgh.mp (hp.mem_iff.mp he) with z | z
   .exact .inr z
   .exact .inl z)
  rw[decide_eq_true hn] at this
  exact this
 unfold setAddHashed Zw0
 refine Zja (Zf5 (zkk (M:=Zg9 prog w) ho S ?_))
 dsimp only
 cases k with
 | one k =>
  rw[zpx hx S.ent hk S.small,if_pos rfl]
  unfold setAddByScan
  refine Zf5 (Zf5 (Znu ?_))
  refine Zf5 (wpAny_setScan_of (knd:=zaq prog w) hx ho S.data S.fits (S.ent.flats hk) ?_)
  obtain⟨i1,i2⟩:=S.ent.idx hk k
  cases hi:es.toList.findIdx? (fun e=>(zaq prog w).is k e.2) with
  | some j=>exact Zgb (Zgb (old (Zgm (i1 j hi))))
  | none =>
   have hn:=i2 hi
   obtain⟨sl,wd,f1,f2,f3,f4,f5⟩:=ztz S.tab (SK.hash prog w (.one k)) x
   dsimp only
   rw[f1]
   refine Zf5 (Zgb (a:=()) ?_)
   dsimp only
   have fin:∀(gw:Bool->Sem Unit) (hgw:∀(s:Zgc) (Q:Unit->Zgc->Prop),Q () s->Zgr (Zg9 prog w) A (gw false) Q E s) (bv:Bool),Zgr (Zg9 prog w) A (do
     Zxh a (Zgt es (t.put sl).2 (SK.hash prog w (.one k),x)) (za6 bv (t.put sl).1)
     if (!wd&&(za6 bv (t.put sl).1).tooFull)=true then do
      gw (Zrv (za6 bv (t.put sl).1) (Zgt es (t.put sl).2 (SK.hash prog w (.one k),x)) (Zjf (Zgt es (t.put sl).2 (SK.hash prog w (.one k),x)).size)).2.2
      Zxh a (Zrv (za6 bv (t.put sl).1) (Zgt es (t.put sl).2 (SK.hash prog w (.one k),x)) (Zjf (Zgt es (t.put sl).2 (SK.hash prog w (.one k),x)).size)).1
       (Zrv (za6 bv (t.put sl).1) (Zgt es (t.put sl).2 (SK.hash prog w (.one k),x)) (Zjf (Zgt es (t.put sl).2 (SK.hash prog w (.one k),x)).size)).2.1
      pure (some true)
     else pure (some true)) (fun r s'=>Zgr (Zg9 prog w) A (match r with | some added=>pure added | none=>Zw0 a x (SK.hash prog w (.one k)) 99999) Q E s') E s:=by
    intro gw hgw bv
    obtain⟨p1,p2,p3,p7,⟨k1,p4,p5⟩,p6⟩:=zmu (bv:=bv) S (k:=.one k) hx f2 f3 f4 f5
    refine Zf5 (Zmm ho S.data ?_ (zbs (by lia)))
    have g1:=zki ho S.data (Zgt es (t.put sl).2 (SK.hash prog w (.one k),x)) (za6 bv (t.put sl).1)
    have sb1:=Zib s.heap a (Zqd (Zgt es (t.put sl).2 (SK.hash prog w (.one k),x)) (za6 bv (t.put sl).1))
    by_cases hc:(!wd&&(za6 bv (t.put sl).1).tooFull)=true
    .rw[if_pos hc]
     obtain⟨t2,e2,r1,r2,_,r4,r5⟩:=znu (za6 bv (t.put sl).1) (Zgt es (t.put sl).2 (SK.hash prog w (.one k),x)) (Zjf (Zgt es (t.put sl).2 (SK.hash prog w (.one k),x)).size)
      (zcx (by lia)).1 (zcx (by lia)).2
     rw[r1]
     refine Zf5 (hgw _ _ ?_)
     have z2:e2.size=es.size+1:=by rw[<- p1];have:=r4.length_eq;simpa using this
     refine Zf5 (Zmm g1 rfl ?_ (zbs (by show e2.size<=1001;lia)))
     obtain⟨k2,q1,q2⟩:=p5.perm r4
     refine Zgb (Zgb (new hn _ e2 _ t2 k2 (sb1.trans (Zib _ a _)) (zki g1 rfl e2 t2) (q1.trans p4) r5 q2 (by rw[r2];exact p3) (r4.trans p7)))
    .rw[if_neg hc]
     refine Zgb (Zgb (new hn _ _ _ _ k1 sb1 g1 p4 (p6 ?_) p5 p3 p7))
     cases wd with
     | true=>exact .inl rfl
     | false=>exact .inr (by simpa using hc)
   split
   .refine Zf5 (yaz (k:=.one k) hx fun b=>?_)
    exact fin _ (fun _ _ q=>Zgb q) b
   .exact Zf5 (Zgb (fin _ (fun _ _ q=>Zgb q) true))
 | many kk =>
  obtain⟨ax,rfl,hax⟩:=hx
  rw[zm4]
  simp only[Zgo,if_false]
  unfold setSearch
  refine Zf5 (zwv hu ho S hk ⟨ax,rfl,hax⟩ (fun i hi=>?_) (fun hn sl wd f2 f3 f4 f5=>?_) 100000 0 none (fun _=>rfl) (fun p hp=>by cases hp) (fun q hq=>by lia) (zvv S.tab _))
  .exact Zgb (old (Zgm hi))
  .dsimp only
   refine Zf5 (zkk (M:=Zg9 prog w) ho S ?_)
   dsimp only
   have fin:∀bv:Bool,Zgr (Zg9 prog w) A (do
     Zxh a (Zgt es (t.put sl).2 (SK.hash prog w (.many kk),.ref ax)) (za6 bv (t.put sl).1)
     if (!wd&&(za6 bv (t.put sl).1).tooFull)=true then do
      setRelay a (Zjf (es.size+1))
      pure true
     else pure true) Q E s:=by
    intro bv
    obtain⟨p1,p2,p3,p7,⟨k1,p4,p5⟩,p6⟩:=zmu (bv:=bv) S (k:=.many kk) ⟨ax,rfl,hax⟩ f2 f3 f4 f5
    refine Zf5 (Zmm ho S.data ?_ (zbs (by lia)))
    have g1:=zki ho S.data (Zgt es (t.put sl).2 (SK.hash prog w (.many kk),.ref ax)) (za6 bv (t.put sl).1)
    have sb1:=Zib s.heap a (Zqd (Zgt es (t.put sl).2 (SK.hash prog w (.many kk),.ref ax)) (za6 bv (t.put sl).1))
    by_cases hc:(!wd&&(za6 bv (t.put sl).1).tooFull)=true
    .rw[if_pos hc]
     obtain⟨t2,order,r1,_,_,r2,_,_,r4,r6,r5⟩:=zmo (za6 bv (t.put sl).1) (Zgt es (t.put sl).2 (SK.hash prog w (.many kk),.ref ax)) (Zjf (es.size+1))
      (by rw[p1];exact(zcx (by lia)).1) (zcx (by lia)).2
     unfold setRelay
     refine Zf5 (Zf5 (Zpf g1 rfl p2 ?_))
     dsimp only
     rw[if_neg (zjc (zcx (by lia)).2)]
     rw[r1]
     refine Zf5 (Zi0 (fun h=>absurd h (by rw[r6];simp)) (fun _=>Zgb ?_))
     dsimp only
     refine Zmm g1 rfl ?_ (zbs (by rw[r6,p1];lia))
     obtain⟨k2,q1,q2⟩:=p5.perm r4
     exact Zgb (new hn _ _ _ t2 k2 (sb1.trans (Zib _ a _)) (zki g1 rfl _ t2) (q1.trans p4) r5 q2 (by rw[r2];exact p3) (r4.trans p7))
    .rw[if_neg hc]
     refine Zgb (new hn _ _ _ _ k1 sb1 g1 p4 (p6 ?_) p5 p3 p7)
     cases wd with
     | true=>exact .inl rfl
     | false=>exact .inr (by simpa using hc)
   split
   .refine Zf5 (yaz (k:=.many kk) ⟨ax,rfl,hax⟩ fun b=>?_)
    exact fin b
   .exact Zf5 (Zgb (fin true))
end
theorem zch:Slot "set_iterator" "__next__" "set_iterator.__next__" :=
 .of (owner:="set_iterator") (n:="__next__") (by rw[Zni,Zlf];kernel_rfl) (by decide +kernel) (by decide +kernel)
  (by decide +kernel) (by first | exact .inl (by decide +kernel) | exact .inr (by decide +kernel)) (by rw[Zob];kernel_rfl)
theorem zjx:Zxp table "set_iterator.__next__" = some Zhb.«set_iterator.__next__»:=entryFor_of_tree (by kernel_rfl)
theorem zo4:Manifest.owners.lookup (String.ofList ['r','o','t','a','r','e','t','i','_','t','e','s'].reverse)=some Manifest.sig_set_iterator:=by kernel_rfl
theorem zlf(a:Zf9):Zt9 "set_iterator.__next__" ⟨[a],[]⟩:=by
 unfold Zt9
 rw[Zxi (id:="set_iterator.__next__") (n:=['_','_','t','x','e','n','_','_']) (o:=['r','o','t','a','r','e','t','i','_','t','e','s']) (by kernel_rfl) zo4];kernel_rfl
theorem zg4:Slot "set_iterator" "__iter__" "set_iterator.__iter__" :=
 .of (owner:="set_iterator") (n:="__iter__") (by rw[Zni,Zlf];kernel_rfl) (by decide +kernel) (by decide +kernel)
  (by decide +kernel) (by first | exact .inl (by decide +kernel) | exact .inr (by decide +kernel)) (by rw[Zob];kernel_rfl)
theorem zko:Zxp table "set_iterator.__iter__" = some Zhb.«dict_keyiterator.__iter__» :=
 Zw4 (id':="dict_keyiterator.__iter__") (by kernel_rfl) rfl (by decide +kernel) (by kernel_rfl)
theorem zmp(a:Zf9):Zt9 "set_iterator.__iter__" ⟨[a],[]⟩:=by
 unfold Zt9
 rw[Zxi (id:="set_iterator.__iter__") (n:=['_','_','r','e','t','i','_','_']) (o:=['r','o','t','a','r','e','t','i','_','t','e','s']) (by kernel_rfl) zo4];kernel_rfl
theorem zkp:Zxp table "set.__iter__" = some Zhb.«frozenset.__iter__» :=
 Zw4 (id':="frozenset.__iter__") (by kernel_rfl) rfl (by decide +kernel) (by kernel_rfl)
noncomputable def zc0(w:Zhn):Bool:=w.params.followText "set-order"
section
variable{prog:Zgy}{w:Zhn}{A:Zhe}{E:Zf9->Zgc->Prop}{s:Zgc}
theorem zjg{α:Type}{l:List α}{i:Nat}(h:i<l.length):(l[i]::l.eraseIdx i).Perm l:=by
 rw[List.eraseIdx_eq_take_drop_succ]
 have e:(l.take i++l[i]::l.drop (i+1)).Perm (l[i]::(l.take i++l.drop (i+1))):=Zs0
 rw[Zqt,Zk4] at e
 exact e.symm
theorem zwa{src:Source}{n:Nat}{Q:Nat->Zgc->Prop}(hn:n≠0)(q:∀i d,i<n->Q i { s with drawn:=d }):Zgr (Zg9 prog w) A (choose src n) Q E s :=
 fun _ _ _=>⟨hn,q _ _ (Zmh _ (Nat.pos_of_ne_zero hn))⟩
theorem yca{α:Type}:∀(n:Nat) (xs:List α) (s:Zgc) (Q:List α->Zgc->Prop),xs.length<=n->(∀l d,l.Perm xs->Q l { s with drawn:=d })->Zgr (Zg9 prog w) A (drawOrder n xs) Q E s:=by
 intro n
 induction n with
 | zero =>
  intro xs s Q hl q
  have:xs=[]:=Zk8 (by lia)
  subst this
  exact Zgb (q [] s.drawn (.refl _))
 | succ n ih =>
  intro xs s Q hl q
  cases xs with
  | nil=>exact Zgb (q [] s.drawn (.refl _))
  | cons x xs =>
   unfold drawOrder
   refine Zf5 (zwa (by simp) fun i d hi=>?_)
   rw[Zf8 hi]
   dsimp only
   refine Zf5 (ih _ _ _ ?_ fun l d' hp=>?_)
   .rw[Zpl hi];simp at hl ⊢;omega
   .refine Zgb (q _ d' ?_)
    exact(hp.cons _).trans (zjg hi)
theorem zx3{α:Type}(next:Nat->Nat):∀(fuel k:Nat) (left:List α) (out:Array α),left.length<=fuel->(Zph next fuel k left out).toList.Perm (out.toList++left):=by
 intro fuel
 induction fuel with
 | zero =>
  intro k left out hl
  have:left=[]:=Zk8 (by lia)
  subst this
  unfold Zph
  simp
 | succ fuel ih =>
  intro k left out hl
  unfold Zph
  cases left with
  | nil=>simp
  | cons x l =>
   have hi:next k % (x::l).length<(x::l).length:=Zmh _ (by simp)
   rw[Zf8 hi]
   dsimp only
   refine(ih _ _ _ (by rw[Zpl hi];lia)).trans ?_
   rw[Zsa,Zjq]
   exact Zxy _ (zjg hi)
theorem zsm{α:Type}(next:Nat->Nat)(xs:Array α):(Zl9 next xs).toList.Perm xs.toList:=by
 unfold Zl9
 exact(zx3 next xs.size 0 xs.toList #[] (by simp)).trans (by simp)
noncomputable def nextOf(w:Zhn)(a:Addr)(es:Array (Int×Zf9))(ep:Nat)(t:Zgd)(slot given:Nat):Option (Zf9×Nat) :=
 if zc0 w then ((Zl9 (w.params.setOrder a ep) es)[given]?).map fun e=>(e.2,slot) else
  match es[Zha t.place slot]?,t.place[Zha t.place slot]? with
  | some (_,x),some j=>some (x,j+1)
  | _,_=>none
structure SetL(w:Zhn)(o:Obj)(es:Array (Int×Zf9))(ep:Nat)(t:Zgd):Prop where
 data:o.data= .set es ep t
 tab:SOk t es.toList
 led:t.led=led0 w
theorem SetO.lite{o:Obj}{ks:List SK}{h:Heap}{es:Array (Int×Zf9)}{ep:Nat}{t:Zgd}(S:SetO prog w h o ks es ep t):SetL w o es ep t:=⟨S.data,S.tab,S.led⟩
theorem SetL.fits{o:Obj}{es:Array (Int×Zf9)}{ep:Nat}{t:Zgd}(S:SetL w o es ep t):t.fits es.size=true:=by
 have h1:=S.tab.size
 have h2:=S.tab.room
 simp only[Zl1,Zgv,beq_iff_eq,decide_eq_true_eq]
 exact⟨by simpa using h1,by lia⟩
theorem zhi{a:Addr}{o:Obj}{es:Array (Int×Zf9)}{ep:Nat}{t:Zgd}{Q:Array (Int×Zf9)×Nat×Zgd->Zgc->Prop}
  (ho:s.heap.get? a=some o) (S:SetL w o es ep t) (q:Q (es,ep,t) s):Zgr (Zg9 prog w) A (setState a) Q E s:=Zpf ho S.data S.fits q
theorem zwt{o:Obj}{es:Array (Int×Zf9)}{ep:Nat}{t:Zgd}(S:SetL w o es ep t):t.led= !zc0 w:=S.led
theorem zmy{a:Addr}{o:Obj}{es:Array (Int×Zf9)}{ep:Nat}{t:Zgd}{slot given:Nat}{Q:Option (Zf9×Nat)->Zgc->Prop}(ho:s.heap.get? a=some o)(S:SetL w o es ep t)
  (hd:zc0 w=false->(!t.plain&&decide (es.size>1))=false) (q:Q (nextOf w a es ep t slot given) s):Zgr (Zg9 prog w) A (setNext a slot given ep) Q E s:=by
 unfold setNext
 refine Zf5 (zhi ho S ?_)
 dsimp only
 unfold Zuv
 refine Zf5 (Zf5 (Zlp (Zgb ?_)))
 show Zgr _ _ (if zc0 w=true then _ else _) Q E s
 unfold nextOf at q
 cases hb:zc0 w with
 | true =>
  rw[hb] at q
  simp only[if_true,bne_self_eq_false,Zgo,if_false]
  unfold setWalk
  refine Zf5 (Zf5 (zhi ho S ?_))
  dsimp only
  unfold Zuv
  refine Zf5 (Zf5 (Zlp (Zgb ?_)))
  show Zgr _ _ (if zc0 w=true then _ else _) _ E s
  rw[hb,if_pos rfl]
  refine Zf5 (Zlp (Zgb ?_))
  exact Zgb q
 | false =>
  rw[hb] at q
  simp only[Zgo,if_false]
  refine Zi0 (fun h=>absurd (show(!t.plain&&decide (es.size>1))=true from h) (by rw[hd hb];simp)) (fun _=>?_)
  have hld:=zwt S
  rw[hb] at hld
  exact Zf5 (Zi0 (fun h=>absurd h (by rw[hld];simp)) (fun _=>Zgb (Zgb q)))
noncomputable def zek(h:Heap)(I a:Addr)(first:Zf9)(i n ep:Nat):Prop:=∃o,h.get? I=some o/\o.cls= .type "set_iterator" /\ o.data= .fields #[first,.int i 0,.ref a,.int n 0,.int ep 0]
theorem zek.typeIs{I a:Addr}{first:Zf9}{i n ep:Nat}(x:zek s.heap I a first i n ep):s.TypeIs (.ref I) "set_iterator" := let ⟨o,ho,hc,_⟩:=x;⟨o,ho,hc⟩
theorem zek.at{h h':Heap}{I a:Addr}{first:Zf9}{i n ep:Nat}(x:zek h I a first i n ep)(k:∀o,h.get? I=some o->h'.get? I=some o):zek h' I a first i n ep:=let ⟨o,ho,r⟩:=x;⟨o,k o ho,r⟩
theorem zxj{h1:Heap}{Q:Option Zf9->Zgc->Prop}{P:Zsv->Zgc->Prop}(hh:A.handled=none)(q:∀h',(∀b o,h1.get? b=some o->h'.get? b=some o)->Q none { s with heap:=h' }) :
  Zgr (Zg9 prog w) A.in1 (do Zxk (<- newExc (.type "StopIteration") [])) P (fun e s'=>Zgr (Zg9 prog w) A (do if <- isInstance e (.type "StopIteration") then pure none else throw e) Q E s') { s with heap:=h1 }:=by
 refine Zf5 ?_
 simp only[newExc,Zxl]
 refine Zf5 (Zik ?_ (by size_fits))
 refine Zf5 (m:=Zoc _ _) (Zql (a:=Zhs) (by first | rfl | (simp only[Zoc];rfl)) ?_)
 refine Zik ?_ (by size_fits)
 simp only[Zxk]
 refine Zf5 (Zxe ?_)
 rw[show A.in1.handled=none from hh]
 refine Zf5 (Zgb (wpAny_throw ?_))
 refine Zf5 (Znb (T:="StopIteration") (b:=true) ⟨_,Zgj _ rfl,rfl⟩ Zw3 ?_)
 exact Zgb (q _ fun b o e=>Zga _ (Zga _ e))
end
section
variable{prog:Zgy}{w:Zhn}{A:Zhe}{E:Zf9->Zgc->Prop}{s:Zgc}
theorem zf4{I a:Addr}{first:Zf9}{i n ep:Nat}{Q:Option Zf9->Zgc->Prop}(hit:zek s.heap I a first i n ep)
  (h:Zgr (Zg9 prog w) A.in1 (Zhb.«set_iterator.__next__» ⟨[.ref I],[]⟩) (fun fin s'=>∃r,fin= .done (.ret r)/\Q (some r) s')
   (fun e s'=>Zgr (Zg9 prog w) A (do if <- isInstance e (.type "StopIteration") then pure none else throw e) Q E s') s):Zgr (Zg9 prog w) A (Znk (.ref I)) Q E s:=by
 unfold Znk
 refine Zf5 (Zrs (Zj1 (name:=Zl0 "__next__") hit.typeIs zch (Zi4 zch hit.typeIs zjx (Ziv h ?_ ?_) (zlf _))))
 .rintro fin s' ⟨r,rfl,q⟩
  exact⟨r,rfl,Zgb q⟩
 .intro e s' q
  exact q
theorem zll{I a:Addr}{o:Obj}{es:Array (Int×Zf9)}{ep:Nat}{t:Zgd}{slot i nx:Nat}{x:Zf9}{Q:Option Zf9->Zgc->Prop}(hit:zek s.heap I a (.int slot 0) i es.size ep)
  (ho:s.heap.get? a=some o) (S:SetL w o es ep t) (hd:zc0 w=false->(!t.plain&&decide (es.size>1))=false) (hn:nextOf w a es ep t slot i=some (x,nx))
  (q:∀h',zek h' I a (.int nx 0) (i+1) es.size ep->Zh2 I s.heap h'->Q (some x) { s with heap:=h' }):Zgr (Zg9 prog w) A (Znk (.ref I)) Q E s:=by
 refine zf4 hit ?_
 obtain⟨oi,hoi,hc,hdi⟩:=id hit
 unfold Zhb.«set_iterator.__next__»
 refine Zf5 (Zgb ?_)
 refine Zf5 (Zoa hoi hdi ?_)
 dsimp only
 refine Zf5 (Zkq ho S.data S.fits ?_)
 rw[if_neg (by simp)]
 refine Zf5 (zmy ho S hd ?_)
 simp only[Zi6]
 rw[hn]
 dsimp only
 refine Zf5 (Zj2 hoi hdi (by simp) ?_)
 have g1:(s.heap.update I (Zvh (·.setIfInBounds 0 (Zjh nx)))).get? I=some _:=Zh6 _ hoi (Zj6 (Zid hdi _))
 have d1:=Zid hdi (·.setIfInBounds 0 (Zjh nx))
 refine Zf5 (Zj2 g1 d1 (by simp) ?_)
 refine Zgb ⟨x,rfl,q _ ⟨_,Zh6 _ g1 (Zj6 (Zid d1 _)),?_,?_⟩ ((Zib ..).trans (Zib ..))⟩
 .exact(Zmg ..).trans ((Zmg ..).trans hc)
 .rw[Zid d1];simp[Zjh]
theorem zo0{I a:Addr}{o:Obj}{es:Array (Int×Zf9)}{ep:Nat}{t:Zgd}{slot i:Nat}{Q:Option Zf9->Zgc->Prop}(hh:A.handled=none)(hit:zek s.heap I a (.int slot 0) i es.size ep)
  (ho:s.heap.get? a=some o) (S:SetL w o es ep t) (hd:zc0 w=false->(!t.plain&&decide (es.size>1))=false) (hn:nextOf w a es ep t slot i=none)
  (q:∀h',(∀b o,b≠I->s.heap.get? b=some o->h'.get? b=some o)->Q none { s with heap:=h' }):Zgr (Zg9 prog w) A (Znk (.ref I)) Q E s:=by
 refine zf4 hit ?_
 obtain⟨oi,hoi,hc,hdi⟩:=id hit
 unfold Zhb.«set_iterator.__next__»
 refine Zf5 (Zgb ?_)
 refine Zf5 (Zoa hoi hdi ?_)
 dsimp only
 refine Zf5 (Zkq ho S.data S.fits ?_)
 rw[if_neg (by simp)]
 refine Zf5 (zmy ho S hd ?_)
 simp only[Zi6]
 rw[hn]
 dsimp only
 refine Zf5 (Zj2 hoi hdi (by simp) ?_)
 exact zxj hh fun h' k=>q h' fun b o hb e=>k b o ((Zht _ _ (Zho hb)).trans e)
noncomputable def zj7(h:Heap)(p:Addr)(pl:List Nat):Prop:=∃o n,h.get? p=some o/\o.data= .seq (pl.map fun(i:Nat)=>Zjh i).toArray n
theorem zqz{I a p:Addr}{o:Obj}{es:Array (Int×Zf9)}{ep:Nat}{t:Zgd}{i:Nat}{pl:List Nat}{e:Int×Zf9}{j:Nat}{Q:Option Zf9->Zgc->Prop}(hit:zek s.heap I a (.ref p) i es.size ep)
  (hp:zj7 s.heap p pl) (ho:s.heap.get? a=some o) (S:SetL w o es ep t) (hj:pl[i]? = some j) (he:es[j]? = some e)
  (q:∀h',zek h' I a (.ref p) (i+1) es.size ep->Zh2 I s.heap h'->Q (some e.2) { s with heap:=h' }):Zgr (Zg9 prog w) A (Znk (.ref I)) Q E s:=by
 refine zf4 hit ?_
 obtain⟨oi,hoi,hc,hdi⟩:=id hit
 obtain⟨op,np,hop,hdp⟩:=hp
 unfold Zhb.«set_iterator.__next__»
 refine Zf5 (Zgb ?_)
 refine Zf5 (Zoa hoi hdi ?_)
 dsimp only
 refine Zf5 (Zkq ho S.data S.fits ?_)
 rw[if_neg (by simp)]
 refine Zf5 (Zih hop hdp ?_)
 dsimp only
 have hpl:(pl.map fun(i:Nat)=>Zjh i).toArray[(i:Int).toNat]? = some (.int j 0):=by
  simp[hj,Zjh]
 rw[hpl]
 dsimp only
 unfold setNextDrawn
 refine Zf5 (Zf5 (zhi ho S ?_))
 simp only[Zi6,bne_self_eq_false,Zgo,if_false,he]
 refine Zgb ?_
 refine Zf5 (Zj2 hoi hdi (by simp) ?_)
 refine Zgb ⟨e.2,rfl,q _ ⟨_,Zh6 _ hoi (Zj6 (Zid hdi _)),?_,?_⟩ (Zib ..)⟩
 .exact(Zmg ..).trans hc
 .rw[Zid hdi];simp[Zjh]
theorem ztv{I a p:Addr}{o:Obj}{es:Array (Int×Zf9)}{ep:Nat}{t:Zgd}{i:Nat}{pl:List Nat}{Q:Option Zf9->Zgc->Prop}(hh:A.handled=none)(hit:zek s.heap I a (.ref p) i es.size ep)
  (hp:zj7 s.heap p pl) (ho:s.heap.get? a=some o) (S:SetL w o es ep t) (hj:pl[i]? = none)
  (q:∀h',(∀b o,b≠I->s.heap.get? b=some o->h'.get? b=some o)->Q none { s with heap:=h' }):Zgr (Zg9 prog w) A (Znk (.ref I)) Q E s:=by
 refine zf4 hit ?_
 obtain⟨oi,hoi,hc,hdi⟩:=id hit
 obtain⟨op,np,hop,hdp⟩:=hp
 unfold Zhb.«set_iterator.__next__»
 refine Zf5 (Zgb ?_)
 refine Zf5 (Zoa hoi hdi ?_)
 dsimp only
 refine Zf5 (Zkq ho S.data S.fits ?_)
 rw[if_neg (by simp)]
 refine Zf5 (Zih hop hdp ?_)
 dsimp only
 have hpl:(pl.map fun(i:Nat)=>Zjh i).toArray[(i:Int).toNat]? = none:=by
  simp at hj;simp[hj]
 rw[hpl]
 dsimp only
 refine Zf5 (Zj2 hoi hdi (by simp) ?_)
 have g1:(s.heap.update I (Zvh (·.setIfInBounds 0 (Zjh 0)))).get? I=some _:=Zh6 _ hoi (Zj6 (Zid hdi _))
 have d1:=Zid hdi (·.setIfInBounds 0 (Zjh 0))
 refine Zf5 (Zj2 g1 d1 (by simp) ?_)
 exact zxj hh fun h' k=>q h' fun b o hb e=>k b o ((Zht _ _ (Zho hb)).trans ((Zht _ _ (Zho hb)).trans e))
theorem zv7(xs:Array Nat)(hp:xs.toList.Pairwise (· < ·))(j i:Nat)(hi:i<=xs.size)(h1:∀k x,k<i->xs[k]? = some x->x<j)(h2:∀k x,i<=k->xs[k]? = some x->j<=x):Zha xs j=i:=by
 obtain⟨b0,b1,b2⟩:=zfb xs j hp
 rcases Zoi (Zha xs j) i with c | c | c
 .have hg:xs[Zha xs j]? = some (xs[Zha xs j]'(by lia)):=Zgs _
  have:=h1 _ _ c hg
  have:=b2 _ _ (Zgf _) hg
  lia
 .exact c
 .have hg:xs[i]? = some (xs[i]'(by lia)):=Zgs _
  have:=h2 _ _ (Zgf _) hg
  have:=b1 _ _ c hg
  lia
noncomputable def zfx(t:Zgd)(i:Nat):Nat:=if i=0 then 0 else t.place.getD (i - 1) 0+1
theorem yaf{a:Addr}{es:Array (Int×Zf9)}{ep:Nat}{t:Zgd}(ok:SOk t es.toList)(hb:zc0 w=false)(i:Nat)(hi:i<=es.size) :
  nextOf w a es ep t (zfx t i) i=(es[i]?).map fun e=>(e.2,zfx t (i+1)):=by
 have hsz:t.place.size=es.size:=by simpa using ok.size
 have hbel:Zha t.place (zfx t i)=i:=by
  refine zv7 _ ok.ok.pl _ _ (by lia) (fun k x hk hx=>?_) (fun k x hk hx=>?_)
  .unfold zfx
   rw[if_neg (by lia)]
   have hl:i - 1<t.place.size:=by lia
   have hg:t.place[i - 1]? = some (t.place[i - 1]):=Zgs hl
   have e:t.place.getD (i - 1) 0=t.place[i - 1]:=by simp[Zky,hl]
   rw[e]
   rcases Zju k (i - 1) with c | c
   .have:=zky t.place ok.ok.pl k (i - 1) x _ c hx hg;lia
   .have:k=i - 1:=by lia
    subst this;rw[hg] at hx;cases hx;lia
  .unfold zfx
   split
   .lia
   .have hl:i - 1<t.place.size:=by lia
    have hg:t.place[i - 1]? = some (t.place[i - 1]):=Zgs hl
    have e:t.place.getD (i - 1) 0=t.place[i - 1]:=by simp[Zky,hl]
    rw[e]
    have:=zky t.place ok.ok.pl (i - 1) k _ x (by lia) hg hx;lia
 unfold nextOf
 rw[hb,hbel]
 simp only[Zgo,if_false]
 by_cases hc:i<es.size
 .have h1:es[i]? = some es[i]:=Zgs hc
  have h2:t.place[i]? = some (t.place[i]'(by lia)):=Zgs _
  rw[h1,h2]
  show some (es[i].2,_)=some (es[i].2,zfx t (i+1))
  unfold zfx
  rw[if_neg (by lia)]
  have e:t.place.getD (i+1 - 1) 0=t.place[i]'(by lia):=by
   have hl:i<t.place.size:=by lia
   simp[Zky,hl]
  rw[e]
 .have h1:es[i]? = none:=Zqi (by lia)
  rw[h1];rfl
end
noncomputable def zfh(h h':Heap):Prop:=∀b o,h.get? b=some o->h'.get? b=some o
theorem zfh.T{h h':Heap}(k:zfh h h'):zk4 h h':=fun b o _ e=>k b o e
section
variable{prog:Zgy}{w:Zhn}{A:Zhe}{E:Zf9->Zgc->Prop}{s:Zgc}
theorem zef{I a:Addr}{first:Zf9}{i n ep:Nat}{Q:Zf9->Zgc->Prop}(hit:zek s.heap I a first i n ep)(q:Q (.ref I) s):Zgr (Zg9 prog w) A (Zt7 (.ref I)) Q E s:=by
 refine Zup hit.typeIs zg4 (Zi4 zg4 hit.typeIs zko ?_ (zmp _))
 show Zgr _ _ (ret (.ref I)) _ _ s
 exact Zgb ⟨_,rfl, "set_iterator", _,hit.typeIs,zch.lookup,q⟩
noncomputable def zuw(prog:Zgy)(w:Zhn)(A:Zhe)(I a:Addr)(fp:List Addr)(vs:List Zf9)(St:Nat->Heap->Prop):Prop :=
 Ztq prog w A I fp [I] vs.length (fun i v=>vs[i]? = some v) St
theorem ycn{a I:Addr}{o:Obj}{es:Array (Int×Zf9)}{ep:Nat}{t:Zgd}(S:SetL w o es ep t)(hb:zc0 w=true)(hne:a≠I)(hh:A.handled=none) :
  zuw prog w A I a [I,a] ((Zl9 (w.params.setOrder a ep) es).toList.map (·.2)) (fun i h=>zek h I a (.int (0:Nat) 0) i es.size ep/\h.get? a=some o):=by
 have hn:∀i,nextOf w a es ep t 0 i=((((Zl9 (w.params.setOrder a ep) es).toList.map (·.2))[i]?).map fun v=>(v,0)):=fun i=>by
  unfold nextOf
  rw[hb,if_pos rfl,Zgl,Zg2,Option.map_map];rfl
 have hd:zc0 w=false->(!t.plain&&decide (es.size>1))=false:=fun e=>by rw[hb] at e;cases e
 refine⟨fun b hb=>by simp at hb;simp[hb],fun i h h' st k=>⟨st.1.at fun o e=>k I (by simp) o e,k a (by simp) o st.2⟩,fun i s Q E hi st q=>?_,fun s Q E st q=>?_,fun i s Q E st q=>zef st.1 q⟩
 .refine zll st.1 st.2 S hd (x:=((Zl9 (w.params.setOrder a ep) es).toList.map (·.2))[i]) (nx:=0) (by rw[hn,Zf8 hi];rfl) fun h' it' sb=>?_
  exact q _ h' s.toks (Zf8 hi) ⟨it',(sb.2 a hne).trans st.2⟩ fun b o hb e=>(sb.2 b (by simpa using hb)).trans e
 .refine zo0 hh st.1 st.2 S hd (by rw[hn,Zhd (Zgf _)];rfl) fun h' k=>q h' s.toks fun b o hb e=>k b o (by simpa using hb) e
theorem ycy{a I:Addr}{o:Obj}{es:Array (Int×Zf9)}{ep:Nat}{t:Zgd}(S:SetL w o es ep t)(hb:zc0 w=false)(hd:(!t.plain&&decide (es.size>1))=false)(hne:a≠I)(hh:A.handled=none) :
  zuw prog w A I a [I,a] (es.toList.map (·.2)) (fun i h=>zek h I a (.int (zfx t i) 0) i es.size ep/\h.get? a=some o):=by
 have hl:(es.toList.map (·.2)).length=es.size:=by simp
 refine⟨fun b hb=>by simp at hb;simp[hb],fun i h h' st k=>⟨st.1.at fun o e=>k I (by simp) o e,k a (by simp) o st.2⟩,fun i s Q E hi st q=>?_,fun s Q E st q=>?_,fun i s Q E st q=>zef st.1 q⟩
 .rw[hl] at hi
  have he:es[i]? = some es[i]:=Zgs hi
  refine zll st.1 st.2 S (fun _=>hd) (x:=es[i].2) (nx:=zfx t (i+1)) (by rw[yaf S.tab hb i (by lia),he];rfl) fun h' it' sb=>?_
  exact q _ h' s.toks (by rw[Zgl,Zg2,he];rfl) ⟨it',(sb.2 a hne).trans st.2⟩ fun b o hb e=>(sb.2 b (by simpa using hb)).trans e
 .rw[hl] at st
  refine zo0 hh st.1 st.2 S (fun _=>hd) (by rw[yaf S.tab hb _ (Zgf _),Zqi (Zgf _)];rfl) fun h' k=>q h' s.toks fun b o hb e=>k b o (by simpa using hb) e
theorem ycr{a I p:Addr}{o:Obj}{es:Array (Int×Zf9)}{ep:Nat}{t:Zgd}(S:SetL w o es ep t){pl:List Nat}(hp:pl.Perm (Zg1 es.size))(hne:a≠I)(hnp:p≠I)(hh:A.handled=none) :
  zuw prog w A I a [I,a,p] (pl.map fun j=>(es.getD j (0,.none)).2) (fun i h=>zek h I a (.ref p) i es.size ep/\h.get? a=some o/\zj7 h p pl):=by
 refine⟨fun b hb=>by simp at hb;simp[hb],fun i h h' st k=>⟨st.1.at fun o e=>k I (by simp) o e,k a (by simp) o st.2.1,let ⟨op,n,e1,e2⟩:=st.2.2;⟨op,n,k p (by simp) op e1,e2⟩⟩,fun i s Q E hi st q=>?_,fun s Q E st q=>?_,fun i s Q E st q=>zef st.1 q⟩
 .rw[Zge] at hi
  have hj:pl[i]? = some pl[i]:=Zf8 hi
  have hjl:pl[i]<es.size:=Zhp.mp (hp.mem_iff.mp (Zhv hi))
  have he:es[pl[i]]? = some es[pl[i]]:=Zgs hjl
  refine zqz st.1 st.2.2 st.2.1 S hj he fun h' it' sb=>?_
  refine q _ h' s.toks ?_ ⟨it',(sb.2 a hne).trans st.2.1,?_⟩ fun b o hb e=>(sb.2 b (by simpa using hb)).trans e
  .rw[Zgl,hj]
   show some (es.getD pl[i] (0,.none)).2=_
   simp[Zky,hjl]
  .obtain⟨op,n,e1,e2⟩:=st.2.2
   exact⟨op,n,(sb.2 p hnp).trans e1,e2⟩
 .rw[Zge] at st
  refine ztv hh st.1 st.2.2 st.2.1 S (Zhd (Zgf _)) fun h' k=>q h' s.toks fun b o hb e=>k b o (by simpa using hb) e
theorem zm7{es:Array (Int×Zf9)}{pl:List Nat}(hp:pl.Perm (Zg1 es.size)):(pl.map fun j=>(es.getD j (0,Zhs)).2).Perm (es.toList.map (·.2)):=by
 refine(hp.map _).trans ?_
 have:(Zg1 es.size).map (fun j=>(es.getD j (0,Zhs)).2)=es.toList.map (·.2):=by
  refine Zka fun i=>?_
  rw[Zgl,Zgl]
  by_cases hi:i<es.size
  .rw[Zi9 hi,Zf8 (by simpa using hi)];simp[Zky,hi]
  .rw[Zhd (by simpa using hi),Zhd (by simpa using hi)];rfl
 rw[this]
theorem zbt{h:Heap}{o:Obj}:zfh h (h.push o):=fun b u e=>Zga _ e
theorem yay{a:Addr}{o:Obj}{ks:List SK}{es:Array (Int×Zf9)}{ep:Nat}{t:Zgd}{Q:Zf9->Zgc->Prop}(ho:s.heap.get? a=some o)(S0:SetO prog w s.heap o ks es ep t)
  (q:∀(h1:Heap) (d:Zwt) (I:Addr) (fp:List Addr) (vs:List Zf9),(∀A':Zhe,A'.handled=none-> ∃St,Ztq prog w A' I fp [I] vs.length (fun i v=>vs[i]? = some v) St/\St 0 h1)->vs.Perm (es.toList.map (·.2))->zfh s.heap h1->s.heap.objs.size<=I->I<h1.objs.size->(∀b∈fp,b=a\/s.heap.objs.size<=b) ->
   Q (.ref I) { s with heap:=h1,drawn:=d }):Zgr (Zg9 prog w) A (Zt7 (.ref a)) Q E s:=by
 have S:=S0.lite
 have hT:s.TypeIs (.ref a) "set" := ⟨o,ho,S0.ex.1⟩
 have halt:a<s.heap.objs.size:=Zgk ho
 refine Zup hT Zvm (Zi4 Zvm hT zkp ?_ (F.args_set_iter_1 _))
 unfold Zhb.«frozenset.__iter__»
 refine Zf5 (Zgb ?_)
 unfold Zs9
 refine Zf5 (Zf5 (Zkq ho S.data S.fits (Zgb ?_)))
 unfold setDrawn
 refine Zf5 (Zf5 (zhi ho S ?_))
 dsimp only
 unfold Zuv
 refine Zf5 (Zf5 (Zlp (Zgb ?_)))
 refine Zgb ?_
 show Zgr _ _ (if (!zc0 w&&(!t.plain&&decide (es.size>1)))=true then _ else _) _ _ s
 have hsm:es.size<=1000:=by have:=S0.small;have:=S0.ent.length;simp at this;lia
 by_cases hc:(!zc0 w&&(!t.plain&&decide (es.size>1)))=true
 .rw[if_pos hc]
  refine Zf5 (yca _ _ _ _ (by simp) fun pl d hp=>?_)
  unfold Zxl
  refine Zf5 (Zik ?_ (by show(pl.map fun(i:Nat)=>Zjh i).length<=sizeLine;rw[Zge,hp.length_eq,Zmd];exact zbs (by lia)))
  refine Zf5 (Zuo (Zga _ ho) S.data S.fits ?_)
  unfold newFields
  refine Zf5 (Zik (Zgb ⟨_,rfl, "set_iterator", _,⟨_,Zgj _ rfl,rfl⟩,zch.lookup,?_⟩))
  show Q (.ref (s.heap.push { cls:=.type "tuple", data:=.seq (pl.map fun(i:Nat)=>Zjh i).toArray }).objs.size) _
  have g1:(s.heap.push { cls:=.type "tuple", data:=.seq (pl.map fun(i:Nat)=>Zjh i).toArray }).get? s.heap.objs.size=some { cls:=.type "tuple", data:=.seq (pl.map fun(i:Nat)=>Zjh i).toArray }:=Zgj _ rfl
  have k1:zfh s.heap (s.heap.push { cls:=.type "tuple", data:=.seq (pl.map fun(i:Nat)=>Zjh i).toArray }):=zbt
  have z1:(s.heap.push { cls:=.type "tuple", data:=.seq (pl.map fun(i:Nat)=>Zjh i).toArray }).objs.size=s.heap.objs.size+1:=Zg4 ..
  refine q _ d _ [(s.heap.push { cls:=.type "tuple", data:=.seq (pl.map fun(i:Nat)=>Zjh i).toArray }).objs.size,a,s.heap.objs.size] _ (fun A' hh=>⟨_,ycr (p:=s.heap.objs.size) S hp (by rw[z1];exact Zgu (Zi5 halt)) (by rw[z1];exact Zgu (Zh9 _)) hh,
   ⟨_,Zgj _ rfl,rfl,by simp[Zjh]⟩,zbt _ _ (k1 _ _ ho),⟨_,0,zbt _ _ g1,rfl⟩⟩) (zm7 hp) (fun b u e=>zbt _ _ (k1 _ _ e)) ?_ ?_ ?_
  .rw[z1];lia
  .exact Nat.lt_of_lt_of_eq (Zh9 _) (Zg4 ..).symm
  .intro b hb
   simp only[Zgh,Zhq,or_false] at hb
   rcases hb with rfl | rfl | rfl
   .exact .inr (by rw[z1];lia)
   .exact .inl rfl
   .exact .inr (Zgf _)
 .rw[if_neg hc]
  refine Zf5 (Zgb ?_)
  refine Zf5 (Zuo ho S.data S.fits ?_)
  unfold newFields
  refine Zf5 (Zik (Zgb ⟨_,rfl, "set_iterator", _,⟨_,Zgj _ rfl,rfl⟩,zch.lookup,?_⟩))
  have it0:zek (s.heap.push { cls:=.type "set_iterator", data:=.fields [Zjh 0,Zjh 0,Zhy a,Zjh es.size,Zjh ep].toArray }) s.heap.objs.size a (.int (0:Nat) 0) 0 es.size ep :=
   ⟨_,Zgj _ rfl,rfl,by simp[Zjh]⟩
  have hfp:∀b∈[s.heap.objs.size,a],b=a\/s.heap.objs.size<=b:=by
   intro b hb
   simp only[Zgh,Zhq,or_false] at hb
   rcases hb with rfl | rfl
   .exact .inr (Zgf _)
   .exact .inl rfl
  cases hb:zc0 w with
  | true =>
   exact q _ s.drawn _ [s.heap.objs.size,a] _ (fun A' hh=>⟨_,ycn S hb (Zgu halt) hh,it0,zbt _ _ ho⟩) ((zsm _ _).map _) zbt (Zgf _) (by rw[Zg4];exact Zh9 _) hfp
  | false =>
   rw[hb] at hc
   exact q _ s.drawn _ [s.heap.objs.size,a] _ (fun A' hh=>⟨_,ycy S hb (by simpa using hc) (Zgu halt) hh,it0,zbt _ _ ho⟩) (.refl _) zbt (Zgf _) (by rw[Zg4];exact Zh9 _) hfp
theorem zqj:Zrb (.type "set") "__len__" = pure (some (.builtin "set.__len__")):=F.slot_set_len.lookup
theorem yaj{a:Addr}{Q:Bool->Zgc->Prop}(hT:s.TypeIs (.ref a) "set")(q:Q false s):Zgr (Zg9 prog w) A (Zjx (.ref a)) Q E s:=by
 unfold Zjx
 refine Zf5 (Zl5 hT zqj ?_)
 generalize hid:("set.__len__" : String)=id0
 wp_delta
 rw[show splitId id0=some ("set", "__len__") from by subst hid;decide +kernel]
 subst hid
 refine Zf5 (Znb (T:="set") (b:=true) hT sub_set_self ?_)
 refine Zi0 (fun e=>absurd e (by decide)) (fun _=>?_)
 refine Zi0 (fun _=>?_) (fun e=>absurd (by decide +kernel) e)
 exact Zf5 (Zpt hT (Zgb q))
theorem zrd{a:Addr}{o:Obj}{ks:List SK}{es:Array (Int×Zf9)}{ep:Nat}{t:Zgd}{Q:List Zf9->Zgc->Prop}(hh:A.handled=none)(ho:s.heap.get? a=some o)(S0:SetO prog w s.heap o ks es ep t)
  (q:∀(vs:List Zf9) (h':Heap) (d:Zwt) (tk:Nat),vs.Perm (es.toList.map (·.2))->zfh s.heap h'->s.heap.objs.size<h'.objs.size->Q vs { s with heap:=h',drawn:=d,toks:=tk }):Zgr (Zg9 prog w) A (collect (.ref a)) Q E s:=by
 have halt:a<s.heap.objs.size:=Zgk ho
 unfold collect
 refine Zf5 (Zwv (Zkc F.entry_proto_collect ?_))
 rw[Zkb F.plain_proto_collect _]
 show Zgr _ A.in1 (newList [] >>= fun l=>again (.builtin "list.__iadd__" ⟨[l,.ref a],[]⟩)) _ _ s
 refine Zf5 (Zik ?_)
 refine Zgb ⟨Zm0 Zt2 _,Zkc F.entry_list_iadd ?_⟩
 rw[Zkb Zt2 _]
 generalize hN:s.heap.push { cls:=.type "list", data:=.seq ([]:List Zf9).toArray }=hL
 have hLg:hL.get? s.heap.objs.size=some { cls:=.type "list", data:=.seq ([]:List Zf9).toArray }:=by rw[<- hN];exact Zgj _ rfl
 have hLs:hL.objs.size=s.heap.objs.size+1:=by rw[<- hN,Zg4]
 have k0:zfh s.heap hL:=by rw[<- hN];exact zbt
 show Zgr _ A.in1 (Zig (.ref s.heap.objs.size) (.ref a) (.ref s.heap.objs.size)) _ _ _
 unfold Zig
 refine Zf5 (Zpt (T:="set") ⟨o,k0 a o ho,S0.ex.1⟩ ?_)
 have h1:Zj8 (.ref s.heap.objs.size) (.ref a)=false:=by
  simp only[Zj8,beq_eq_false_iff_ne];exact Zj7 halt
 have h2:(Ziw "set" == Ziw "list")=false:=by decide
 have h3:(Ziw "set" == Ziw "tuple")=false:=by decide
 simp only[h1,h2,h3,Zn2,Zgo,if_false]
 refine Zf5 (yay (s:={ s with heap:=hL }) (k0 a o ho) (S0.mono k0.T) fun h1 d I fp vs hW hvs k1 hI1 hI2 hfp=>?_)
 refine Zf5 (Zja (yaj ⟨o,k1 a o (k0 a o ho),S0.ex.1⟩ ?_))
 refine Zi0 (fun _=>?_) (fun e=>absurd (by decide +kernel) e)
 refine Zf5 (Znu ?_)
 refine Zf5 ?_
 show Zgr _ A.in1 (Zwg s.heap.objs.size (·.push .none) >>= fun _=>Zwg s.heap.objs.size (·.pop)) _ _ _
 have hS1:=k1 _ _ hLg
 refine Zf5 (Zqk hS1 rfl ?_)
 have hS2:=Zh6 (Zj0 (·.push Zhs)) hS1 rfl
 refine Zqk hS2 rfl ?_
 have hS3:=Zh6 (Zj0 (·.pop)) hS2 rfl
 generalize hG:(h1.update s.heap.objs.size (Zj0 (·.push Zhs))).update s.heap.objs.size (Zj0 (·.pop))=h2 at hS3 ⊢
 have k2:∀b u,b≠s.heap.objs.size->h1.get? b=some u->h2.get? b=some u:=fun b u hb e=>by
  rw[<- hG];exact(Zht _ _ (Zho hb)).trans ((Zht _ _ (Zho hb)).trans e)
 have hSf:s.heap.objs.size∉fp:=fun hm=>by
  rcases hfp _ hm with e | e
  .rw[<- e] at halt;exact Zhu _ halt
  .have e':hL.objs.size<=s.heap.objs.size:=e
   rw[hLs] at e';lia
 obtain⟨St,W,st0⟩:=hW A.in1 (by simp[hh])
 have st2:=W.frame 0 h1 h2 st0 fun b hb u e=>k2 b u (fun x=>hSf (x ▸ hb)) e
 refine Zgb ⟨Zm0 Zs6 _,Ztd (A:=A) W.toS (by rw[hvs.length_eq];simp;exact zbs (by have:=S0.small;have:=S0.ent.length;simp at this;lia)) _ hSf _ vs.length 0 _ _ _ rfl (Zhg _) st2 hS3 (Zt0 _) fun s' acc c hm hS' hacc=>?_⟩
 show Zgr _ A (load s.heap.objs.size >>= _) _ _ s'
 refine Zf5 (wpAny_load hS' ?_)
 have ev:acc.toList=vs:=by
  refine Zka fun i=>?_
  by_cases hi:i<acc.size
  .have e1:acc[i]? = some acc[i]:=Zgs hi
   rw[hacc.2 i _ e1,Zf8 (by simpa using hi)];simp
  .rw[Zhd (by simpa using hi),Zhd (by have:=hacc.1;lia)]
 have es':=Moved.eq_with hm
 refine Zgb ?_
 show Q acc.toList s'
 rw[ev,es']
 refine q vs s'.heap d s'.toks hvs (fun b u e=>?_) (Zgk hS')
 have hb:=Zgk e
 have hb1:b≠s.heap.objs.size:=Zgu hb
 have hb2:b≠I:=fun x=>by
  have e':hL.objs.size<=I:=hI1
  rw[hLs,<- x] at e'
  exact Zhu _ (Zv7 hb e')
 exact hm.heap b u (by simp[hb1,hb2]) (k2 b u hb1 (k1 b u (k0 b u e)))
end
section
variable{prog:Zgy}{w:Zhn}{A:Zhe}{E:Zf9->Zgc->Prop}{s:Zgc}
theorem ycb{k:SK}{x:Zf9}{Q:Int->Zgc->Prop}(hu:A.units<Zn5)(hx:k.is prog w s.heap x)(q:∀tk,Q (k.hash prog w) { s with toks:=tk }):Zgr (Zg9 prog w) A (pyHash x) Q E s:=by
 cases k with
 | one k=>exact(zaq prog w).pyHash hx (q _)
 | many kk=>obtain⟨a,rfl,hk⟩:=hx;exact wpAny_pyHash_tuple hu hk (q _)
structure Part(prog:Zgy)(w:Zhn)(k0:List SK)(items:Array Zf9)(i:Nat)(ks:List SK)(es:Array (Int×Zf9)):Prop where
 mem:∀k,k∈ks ↔ ∃j:Nat,j<i/\k0[j]? = some k
 len:ks.length<=i
 ent:∀e∈es.toList,∃j:Nat,items[j]? = some e.2
theorem zvu {S I l : Addr} {items : Array Zf9} {k0 : List SK} {f : Bool} {R : Zuc -> Zgc -> Prop} (hu : A.units + 1 < Zn5) (hh : A.handled = none) (hSI : S ≠ I) (hSl : S ≠ l) (hIl : l ≠ I)
  (hlen:k0.length=items.size) (hn:items.size<=1000) (hf:∀k∈k0,k.flat=f) :
  ∀(m i:Nat) (s:Zgc) (ks:List SK) (es:Array (Int×Zf9)),items.size - i=m->i<=items.size->s.heap.IsListIter I l i->s.heap.IsList l items->SetE prog w s.heap S ks es->Part prog w k0 items i ks es ->
   (∀(j:Nat) (v:Zf9) (k:SK),items[j]? = some v->k0[j]? = some k->k.is prog w s.heap v) ->
   (∀s' ks' es',(∀b o,b≠I->b≠S->s.heap.get? b=some o->s'.heap.get? b=some o)->(∃tk,s'={ s with heap:=s'.heap,toks:=tk })->SetE prog w s'.heap S ks' es'->Part prog w k0 items items.size ks' es'->R (.ok (.ret .none)) s') ->
   Zm1 (Zg9 prog w) A (.builtin "set.update.loop" ⟨[.ref S,.ref I],[]⟩) R s:=by
 intro m
 induction m with
 | zero =>
  intro i s ks es hk hi hit hl hS hp hkey hR
  have hin:i=items.size:=by lia
  subst hin
  refine Zkc Zq7 ?_
  rw[Zkb Zmr _]
  show Zgr _ A.in1 (Znk (.ref I) >>= _) _ _ s
  refine Zf5 (Zsm (by simp[hh]) hit hl (by simp) fun h' he=>?_)
  show Zgr _ A.in1 (ret Zhs) _ _ _
  obtain⟨o,ep,t,ho,So⟩:=hS
  have kT:zk4 s.heap h':=fun b u c e=>he b u (fun z=>by
   obtain⟨oi,h1,h2,_⟩:=hit
   rw[z,h1] at e;cases e;rw[h2] at c;exact absurd c (by decide)) e
  exact Zgb (hR _ ks es (fun b u h1 _ e=>he b u h1 e) ⟨s.toks,rfl⟩ ⟨o,ep,t,he S o hSI ho,So.mono kT⟩ hp)
 | succ m ih =>
  intro i s ks es hk hi hit hl hS hp hkey hR
  have hlt:i<items.size:=by lia
  have hv:items[i]? = some items[i]:=Zgs hlt
  have hki:k0[i]? = some (k0[i]'(by lia)):=Zf8 _
  have hx:=hkey i _ _ hv hki
  have hfi:=hf _ (Zgm hki)
  generalize k0[i]'(by lia)=k at hki hx hfi
  refine Zkc Zq7 ?_
  rw[Zkb Zmr _]
  show Zgr _ A.in1 (Znk (.ref I) >>= _) _ _ s
  refine Zf5 (Zsb hit hl hv fun h1 hit1 sb1=>?_)
  have kT1:zk4 s.heap h1:=fun b u c e=>(sb1.2 b (fun z=>by
   obtain⟨oi,g1,g2,_⟩:=hit
   rw[z,g1] at e;cases e;rw[g2] at c;exact absurd c (by decide))).trans e
  obtain⟨o,ep,t,ho,So⟩:=hS
  have ho1:h1.get? S=some o:=(sb1.2 S hSI).trans ho
  show Zgr _ A.in1 (holding [items[i]] (setAdd S items[i]) >>= _) _ _ _
  refine Zf5 (Zja ?_)
  unfold setAdd
  refine Zja (Zf5 (ycb (by simp only[Zof];omega) (SK.is_mono kT1 hx) fun tk=>?_))
  have kin:∀k'∈ks,k'.flat=k.flat:=fun k' hk'=>by
   obtain⟨j,_,hj⟩:=(hp.mem k').mp hk'
   rw[hf _ (Zgm hj),hfi]
  refine ycm (s:={ s with heap:=h1,toks:=tk }) (by simp only[Zof];omega) ho1 (So.mono kT1) kin (SK.is_mono kT1 hx) (by have:=hp.len;lia) fun h2 k2 e2 sb2 S2 p2 en2=>?_
  have hp2:Part prog w k0 items (i+1) k2 e2:=by
   refine⟨fun k'=>?_,?_,fun e he=>?_⟩
   .rw[p2.mem_iff]
    constructor
    .intro hm
     have hm':k'∈k::ks:=by
      split at hm
      .exact Zgi _ hm
      .exact hm
     rcases Zgh.mp hm' with e | e
     .exact⟨i,by lia,by rw[e];exact hki⟩
     .obtain⟨j,hj,hkj⟩:=(hp.mem k').mp e;exact⟨j,by lia,hkj⟩
    .rintro⟨j,hj,hkj⟩
     have hm':k'=k\/k'∈ks:=by
      rcases Zju j i with c | c
      .exact .inr ((hp.mem k').mpr ⟨j,c,hkj⟩)
      .have:j=i:=by lia
       subst this;rw[hki] at hkj;cases hkj;exact .inl rfl
     split
     .rename_i hin
      rcases hm' with e | e
      .rw[e];exact hin
      .exact e
     .rcases hm' with e | e
      .rw[e];exact Zgz
      .exact Zgi _ e
   .rw[p2.length_eq]
    have:=hp.len
    split
    .lia
    .simp;omega
   .rcases en2 e he with z | z
    .exact hp.ent e z
    .exact⟨i,by rw[z];exact hv⟩
  have k12:zk4 h1 h2:=zgf (es:=es) (ep:=ep) (t:=t) ho1 So.ex sb2
  refine Zgb ⟨Zm0 Zmr _,ih (i+1) _ k2 e2 (by lia) hlt ?_ ?_ S2 hp2 (fun j v k' h3 h4=>SK.is_mono (fun b u c e=>k12 b u c (kT1 b u c e)) (hkey j v k' h3 h4)) fun s' k3 e3 kp ⟨tk',hs'⟩ S3 p3=>?_⟩
  .exact hit1.at fun u e=>(sb2.2 I (Zho hSI)).trans e
  .exact(hl.extBut sb1.extBut hIl).at fun u e=>(sb2.2 l (Zho hSl)).trans e
  .refine hR s' k3 e3 (fun b u h3 h4 e=>kp b u h3 h4 ((sb2.2 b h4).trans ((sb1.2 b h3).trans e))) ⟨tk',?_⟩ S3 p3
   rw[hs']
end
section
variable{prog:Zgy}{w:Zhn}{A:Zhe}{E:Zf9->Zgc->Prop}{s:Zgc}
theorem zv1{h:Heap}{a:Addr}{led:Bool}(hl:led=led0 w)(hg:h.get? a=some { cls:=.type "set", dict:=none,data:=.set #[] 0 (.fresh 0 0 led) }):SetE prog w h a [] #[] :=
 ⟨_,0,_,hg,⟨rfl,rfl,rfl⟩,rfl,zts 0 0 led,.nil,Zl2,by simp,hl,true,fun k hk=>by cases hk⟩
theorem zq8(a:Zf9){Q1:Zf9->Zgc->Prop}(h:Q1 (.ref s.heap.objs.size) { s with heap:=s.heap.push { cls:=.type "set", dict:=none,data:=.set #[] 0 (.fresh 0 0 (led0 w)) } }) :
  Zm1 (Zg9 prog w) A (.call (.builtin "set.__new__") ⟨[.type "set", a],[]⟩) (wants Q1 E) s:=by
 refine Zqp ?_
 show Zgr _ A.in1 (do Zvp "set.__new__" ⟨[.type "set", a],[]⟩;again (.builtin "set.__new__" ⟨[.type "set", a],[]⟩)) _ _ s
 refine Zf5 (Zql (F.newCall_set_1 a) (Zgb ⟨Zm0 Zvn _,Zkc F.entry_set_new ?_⟩))
 rw[Zkb Zvn _]
 unfold Zhb.«set.__new__» Zta
 have hsub:=sub_set_self
 obtain⟨hp,g,d,tk,os⟩:=s
 dsimp only
 wp_walk
 refine Zlp (Zgb ?_)
 dsimp only
 simp only[newObj]
 refine Zf5 (wpAny_alloc (Zgb ?_))
 exact Zgb h
theorem zpy{l:Addr}{items:Array Zf9}{k0:List SK}{f:Bool}{Q:Zf9->Zgc->Prop}(hu:A.units+16<Zn5)(hh:A.handled=none)(hl:s.heap.IsList l items)(hlen:k0.length=items.size)(hn:items.size<=1000)(hf:∀k∈k0,k.flat=f)
  (hkey:∀(j:Nat) (v:Zf9) (k:SK),items[j]? = some v->k0[j]? = some k->k.is prog w s.heap v)
  (q:∀h' tk ks es,zfh s.heap h'->SetE prog w h' s.heap.objs.size ks es->Part prog w k0 items items.size ks es->Q (.ref s.heap.objs.size) { s with heap:=h',toks:=tk }) :
  Zgr (Zg9 prog w) A (call (.type "set") [.ref l]) Q E s:=by
 obtain⟨c,tl,hmro⟩:=Zkp.mro
 have hmade:=Zkp.made
 have hsub:=Zkp.sub
 refine Zra (Zqp ?_)
 show Zgr _ _ (callAny (.type "set") _) _ _ _
 refine Zgb ⟨Zr9 _ (by decide +kernel),Zkc Zt3 ?_⟩
 rw[Zq9 (Zsp "set" [.ref l] []) rfl]
 have h1:=Zkp.notType
 have h2:=Zkp.canCreate
 have hct:=F.typeCall_set_1 (.ref l)
 repeat (any_goals (first | assumption | wp_step))
 refine Zkr (zq8 (.ref l) (E:=E) (Q1:=fun obj s1=>obj= .ref s.heap.objs.size/\s1={ s with heap:=s.heap.push { cls:=.type "set", dict:=none,data:=.set #[] 0 (.fresh 0 0 (led0 w)) } }) ⟨rfl,rfl⟩) fun r s1 hr=>?_
 cases r with
 | error e=>exact hr
 | ok fl =>
  cases fl with
  | ret obj =>
   obtain⟨rfl,rfl⟩:=hr
   generalize hN:s.heap.push { cls:=.type "set", dict:=none,data:=.set #[] 0 (.fresh 0 0 (led0 w)) }=hp1
   have hS:hp1.get? s.heap.objs.size=some { cls:=.type "set", dict:=none,data:=.set #[] 0 (.fresh 0 0 (led0 w)) }:=by rw[<- hN];exact Zgj _ rfl
   have k1:zfh s.heap hp1:=by rw[<- hN];exact zbt
   have z1:hp1.objs.size=s.heap.objs.size+1:=by rw[<- hN,Zg4]
   have hT:Zte { s with heap:=hp1 } (.ref s.heap.objs.size) "set" := ⟨_,hS,rfl⟩
   have hli:=Zkp.init.lookup
   have hbi:=Zkp.init.bind (.ref s.heap.objs.size)
   repeat (any_goals (first | assumption | wp_step))
   refine Zkr (Zn4 (R:=wants (fun r s2=>r= .none /\ ∃h' tk ks es,s2={ s with heap:=h',toks:=tk }/\zfh s.heap h'/\SetE prog w h' s.heap.objs.size ks es/\Part prog w k0 items items.size ks es) E)
    Zkp.init.plain F.entry_set_init (check_set_init_1 hT ?_)) fun r2 s2 hr2=>?_
   .obtain⟨ol,hol,hcl,nl,hdl⟩:=id hl
    obtain⟨ocls,odict,odata,oslots⟩:=ol
    simp only at hcl hdl
    subst hcl;subst hdl
    have hol':=k1 _ _ hol
    have hsls:=F.sub_list_set
    have hslf:=F.sub_list_frozenset
    have hne:(Ziw "list" == Ziw "dict")=false:=by decide
    have hl1:hp1.IsList l items:=⟨_,hol',rfl,nl,rfl⟩
    unfold Zhb.«set.__init__» noKeywords Zs8
    generalize hPI:Zt7=PI
    wp_walk
    subst hPI
    refine Zjd hl1 ?_
    refine Zf5 (Zwv ?_)
    have hlS:l<s.heap.objs.size:=Zgk hol
    have hIt:(hp1.push { cls:=.type "list_iterator", data:=.fields #[.ref l,.int 0 0] }).IsListIter hp1.objs.size l 0:=⟨_,Zgj _ rfl,rfl,rfl⟩
    refine zvu (S:=s.heap.objs.size) (I:=hp1.objs.size) (l:=l) (items:=items) (k0:=k0) (f:=f) ?hu ?hh ?n1 ?n2 ?n3 hlen hn hf (items.size - 0) 0 _ [] #[] (by lia) (Zhg _) hIt (hl1.push _) (zv1 rfl (zbt _ _ hS)) ⟨fun k=>⟨(fun h=>by cases h),(fun⟨j,hj,_⟩=>by lia)⟩,by simp,(fun e he=>by cases he)⟩ (fun j v k a b=>SK.is_mono (fun b u _ e=>zbt _ _ (k1 _ _ e)) (hkey j v k a b)) ?hR
    case hu=>simp only[Zof];lia
    case hh=>simp[hh]
    case n1=>rw[z1];exact Zgu (Zh9 _)
    case n2=>exact Zj7 hlS
    case n3=>rw[z1];exact Zgu (Zi5 hlS)
    case hR =>
     intro s' ks' es' kp ⟨tk',hs'⟩ S' p'
     show Zgr _ _ _ _ _ _
     refine Zgb ?_
     show Zgr _ _ (ret Zhs) _ _ _
     refine Zgb ⟨rfl,s'.heap,tk',ks',es',hs',fun b o e=>?_,S',p'⟩
     have hb:=Zgk e
     exact kp b o (by rw[z1];exact Zgu (Zi5 hb)) (Zgu hb) (zbt _ _ (k1 _ _ e))
   .cases r2 with
    | error e=>exact hr2
    | ok fl2 =>
     cases fl2 with
     | ret r =>
      obtain⟨rfl,h',tk,ks,es,rfl,a1,a2,a3⟩:=hr2
      repeat (any_goals (first | assumption | wp_step))
      exact q _ _ _ _ a1 a2 a3
     | _=>exact hr2.elim
  | _=>exact hr.elim
end
section
variable{prog:Zgy}{w:Zhn}{A:Zhe}{E:Zf9->Zgc->Prop}{s:Zgc}
structure Took(kb:List SK)(p:SK->Bool)(es0:List (Int×Zf9))(kd:List SK)(kr:List SK)(er:Array (Int×Zf9)):Prop where
 mem:∀k,k∈kr↔k∈kb\/(k∈kd/\p k=true)
 len:kr.length<=kb.length+kd.length
 ent:∀e∈er.toList,e∈es0
end
noncomputable def D.kk:D->Key
 | .int i=>.inl i
 | .str l=>.inr (T l)
 | _=>.inl 0
noncomputable def D.fl:D->Bool
 | .int _=>true
 | .str _=>true
 | _=>false
noncomputable def D.sk:D->SK
 | .tup ds=>.many (ds.map D.kk)
 | d=>.one d.kk
noncomputable def D.hk:Bool->D->Bool
 | true,d=>d.fl
 | false,.tup ds=>ds.all D.fl
 | false,_=>false
theorem zxn{d e:D}(h1:d.fl=true)(h2:e.fl=true)(h:d.kk=e.kk):d=e:=by
 cases d <;> simp[D.fl] at h1 <;> cases e <;> simp[D.fl] at h2 <;> simp[D.kk] at h
 .rw[h]
 .rw[ztu] at h;rw[h]
theorem zsd:∀{ds es:List D},ds.all D.fl=true->es.all D.fl=true->ds.map D.kk=es.map D.kk->ds=es
 | [],[],_,_,_=>rfl
 | [],_::_,_,_,h=>by simp at h
 | _::_,[],_,_,h=>by simp at h
 | d::ds,e::es,h1,h2,h=>by
  simp only[Zuj,Zgv] at h1 h2
  simp only[Zg3,Zjz] at h
  rw[zxn h1.1 h2.1 h.1,zsd h1.2 h2.2 h.2]
theorem yb5{f:Bool}{d e:D}(h1:d.hk f=true)(h2:e.hk f=true)(h:d.sk=e.sk):d=e:=by
 cases f with
 | true =>
  simp only[D.hk] at h1 h2
  have e1:d.sk= .one d.kk:=by cases d <;> first | rfl | simp[D.fl] at h1
  have e2:e.sk= .one e.kk:=by cases e <;> first | rfl | simp[D.fl] at h2
  rw[e1,e2] at h
  injection h with h
  exact zxn h1 h2 h
 | false =>
  cases d <;> simp[D.hk] at h1
  cases e <;> simp[D.hk] at h2
  simp[D.sk] at h
  rw[zsd (by simpa using h1) (by simpa using h2) h]
theorem zm8{f:Bool}{d:D}(h:d.hk f=true):d.sk.flat=f:=by
 cases f with
 | true=>cases d <;> simp[D.hk,D.fl] at h <;> rfl
 | false=>cases d <;> simp[D.hk] at h;rfl
section
variable(P:Zgy)(w:Zhn)
noncomputable def ztw(p:Addr)(ks:List SK)(xs:List V):HO:=.ext fun h=>∃o es ep t,h.get? p=some o/\o.ExactSet/\SetL w o es ep t/\es.toList.map (·.1)=ks.map (SK.hash P w)/\Vals xs (es.toList.map (·.2))/\ks.Nodup/\ks.length<=1000
end
section
variable{X:Cx}{pins:List (Addr×Obj)}{U:St}{H:Hp}{s:Zgc}
theorem Inv.drw(I:Inv X pins U H s)(d:Zwt):Inv X pins U H { s with drawn:=d }:=⟨I.ok,I.os,I.bare,I.base,I.loc,I.cell,I.free,I.freeC,I.pin,I.hok,I.len⟩
theorem yaa{d:D}{x:V}{u:Zf9}(hf:d.fl=true)(r:Rep X.K H d x)(q:RelV x u):(zaq X.prog X.w).is d.kk u=true:=by
 cases d <;> simp[D.fl] at hf
 .rw[r.of_int] at q;obtain⟨t,rfl⟩:=q;exact zia ..
 .rw[r.of_str] at q;obtain⟨t,rfl⟩:=q;exact zdv ..
theorem zxo:∀{ds:List D} {xs:List V} {us:List Zf9},ds.all D.fl=true->Reps X.K H ds xs->Vals xs us->ItemsAre (zaq X.prog X.w) (ds.map D.kk) us
 | [],_,_,_,r,q=>by rw[Reps] at r;subst r;cases q;exact .nil
 | d::ds,_,_,hf,r,q=>by
  rw[Reps] at r
  obtain⟨x,xs,rfl,r1,r2⟩:=r
  simp only[Zuj,Zgv] at hf
  cases q with
  | cons q1 q2=>exact .cons (yaa hf.1 r1 q1) (zxo hf.2 r2 q2)
theorem Inv.sk(I:Inv X pins U H s){f:Bool}{d:D}{x:V}{u:Zf9}(hf:d.hk f=true)(r:Rep X.K H d x)(q:RelV x u):d.sk.is X.prog X.w s.heap u:=by
 cases f with
 | true =>
  have e1:d.sk= .one d.kk:=by cases d <;> first | rfl | simp[D.hk,D.fl] at hf
  rw[e1];exact yaa (by simpa[D.hk] using hf) r q
 | false =>
  cases d <;> simp[D.hk] at hf
  rename_i ds
  obtain⟨p,xs,rfl,sq,rs⟩:=r.of_tup
  cases q
  obtain⟨its,rv,⟨o,e,c,n,hd⟩,_⟩:=I.tuple sq
  exact⟨p,rfl,o,its.toArray,n,e,c,hd,by simpa using zxo (by simpa using hf) rs rv⟩
theorem ybf(I:Inv X pins U H s){f:Bool}:∀{ds:List D} {xs:List V} {es:List (Int×Zf9)},(∀d∈ds,d.hk f=true)->Reps X.K H ds xs->Vals xs (es.map (·.2))->es.map (·.1)=(ds.map D.sk).map (SK.hash X.prog X.w)->Es X.prog X.w s.heap (ds.map D.sk) es
 | [],_,es,_,r,q,_=>by
  rw[Reps] at r;subst r
  cases es with
  | nil=>exact .nil
  | cons _ _=>cases q
 | d::ds,_,es,hf,r,q,hh=>by
  rw[Reps] at r
  obtain⟨x,xs,rfl,r1,r2⟩:=r
  cases es with
  | nil=>cases q
  | cons e es =>
   simp only[Zg3,Zjz] at hh
   cases q with
   | cons q1 q2=>exact .cons hh.1 (I.sk (hf d Zgz) r1 q1) (ybf I (fun d' h=>hf d' (Zgi _ h)) r2 q2 hh.2)
theorem Inv.setE(I:Inv X pins U H s){f:Bool}{a:Addr}{ds:List D}{xs:List V}(e:H a=some (ztw X.prog X.w a (ds.map D.sk) xs))(hf:∀d∈ds,d.hk f=true)(r:Reps X.K H ds xs) :
  ∃es,SetE X.prog X.w s.heap a (ds.map D.sk) es/\Vals xs (es.toList.map (·.2)):=by
 obtain⟨⟨o,es,ep,t,ho,hx,S,hh,rv,hn,hl⟩,_,_⟩:=I.hok a _ e
 exact⟨es,⟨o,ep,t,ho,hx,S.data,S.tab,ybf I hf r rv hh,hn,hl,S.led,f,fun k hk=>by
  obtain⟨d,hd,rfl⟩:=Zg5.mp hk
  exact zm8 (hf d hd)⟩,rv⟩
noncomputable def Src(da:List D)(xa:List V)(db:List D)(xb:List V)(dr:List D)(xr:List V):Prop :=
 dr.length=xr.length /\ ∀(i:Nat) d x,dr[i]? = some d->xr[i]? = some x-> ∃j:Nat,(da[j]? = some d/\xa[j]? = some x)\/(db[j]? = some d/\xb[j]? = some x)
theorem Src.reps{K:Zf6}{F:Hp}{da db dr:List D}{xa xb xr:List V}(h:Src da xa db xb dr xr)(ra:Reps K F da xa)(rb:Reps K F db xb):Reps K F dr xr:=by
 obtain⟨hl,h⟩:=h
 induction dr generalizing xr with
 | nil=>cases xr with
  | nil=>exact Reps.nil
  | cons _ _=>simp at hl
 | cons d dr ih=>cases xr with
  | nil=>simp at hl
  | cons x xr =>
   refine Reps.cons ?_ (ih (by simpa using hl) fun i d' x' h1 h2=>h (i+1) d' x' h1 h2)
   obtain⟨j,⟨h1,h2⟩ | ⟨h1,h2⟩⟩:=h 0 d x rfl rfl
   .obtain⟨x',e,r⟩:=ra.get' h1
    rw[h2] at e;cases e;exact r
   .obtain⟨x',e,r⟩:=rb.get' h1
    rw[h2] at e;cases e;exact r
theorem Src.mem{da db dr:List D}{xa xb xr:List V}(h:Src da xa db xb dr xr){d:D}(hd:d∈dr):d∈da\/d∈db:=by
 obtain⟨i,hi⟩:=Zhr.mp hd
 have hil:=(Zgg.mp hi).1
 obtain⟨j,⟨h1,_⟩ | ⟨h1,_⟩⟩:=h.2 i d (xr[i]'(by have:=h.1;lia)) hi (Zf8 _)
 .exact .inl (Zgm h1)
 .exact .inr (Zgm h1)
theorem yck{h:Heap}{k k':SK}{v:Zf9}(a:k.is X.prog X.w h v)(b:k'.is X.prog X.w h v)(hf:k.flat=k'.flat):k=k':=by
 cases k <;> cases k' <;> simp[SK.flat] at hf
 .exact congrArg _ ((zaq X.prog X.w).inj _ _ _ a b)
 .obtain⟨u,e1,i1⟩:=a
  obtain⟨v,e2,i2⟩:=b
  rw[e1] at e2;cases e2
  exact congrArg _ (i1.inj i2)
theorem zwl{h':Heap}{r:Addr}{H':Hp}{dr:List D}{xr:List V}{er:Array (Int×Zf9)}(S:SetE X.prog X.w h' r (dr.map D.sk) er)(v:Vals xr (er.toList.map (·.2))):zck X.prog X.w H' h' r (ztw X.prog X.w r (dr.map D.sk) xr):=by
 obtain⟨o,ep,t,ho,S⟩:=S
 refine⟨⟨o,er,ep,t,ho,S.ex,S.lite,?_,v,S.nod,S.small⟩,⟨o,ho⟩,?_⟩
 .have:=S.ent
  generalize dr.map D.sk=kr at this
  generalize er.toList=el at this
  induction this with
  | nil=>rfl
  | cons a _ _ ih=>simp[a,ih]
 .rintro h1 h2 ⟨o,es,ep,t,ho,r⟩ k
  exact⟨o,es,ep,t,k o ho,r⟩
end
section
variable(P:Zgy)(w:Zhn)(K:Zf6)
noncomputable def zs7(f:Bool):List V->Hp->VK->Prop:=fun vs H Q=>∃a xs ds,vs=[.ref a]/\SqL K H a xs/\Reps K H ds xs/\(∀d∈ds,d.hk f=true)/\ds.length<=1000 /\
 ∀r dr xr,H r=none->dr.Nodup->(∀d,d∈dr↔d∈ds)->Src ds xs [] [] dr xr->Q (.ref r) (upd H r (ztw P w r (dr.map D.sk) xr))
end
theorem yau{f:Bool}{ds:List D}(hf:∀d∈ds,d.hk f=true){d:D}(hd:d.hk f=true):d.sk∈ds.map D.sk↔d∈ds:=by
 constructor
 .intro h
  obtain⟨e,he,h2⟩:=Zg5.mp h
  rw[<- yb5 (hf e he) hd h2];exact he
 .exact fun h=>Zlm h
theorem zwd{dr:List D}(h:(dr.map D.sk).Nodup):dr.Nodup:=by
 unfold Zix at *
 rw[Zjp] at h
 exact h.imp fun a e=>a (congrArg _ e)
section
variable{X:Cx}
theorem ztc{f:Bool}(hc:X.calm=true)(hu:X.A.units+64<Zn5):zed X (.type "set") (zs7 X.prog X.w X.K f):=by
 intro pins s U H vs us Q I r h
 obtain⟨a,xs,ds,rfl,hq,rs,hf,hl,q⟩:=h
 obtain⟨u,rfl,ru⟩:=zg5 r
 cases ru
 obtain⟨its,rv,pl,_⟩:=I.list hq
 have l1:=rs.length
 have l2:=rv.length
 have hk0:∀k∈ds.map D.sk,k.flat=f:=fun k hk=>by obtain⟨d,hd,rfl⟩:=Zg5.mp hk;exact zm8 (hf d hd)
 have hkey:∀(j:Nat) (v:Zf9) (k:SK),its.toArray[j]? = some v->(ds.map D.sk)[j]? = some k->k.is X.prog X.w s.heap v:=fun j v k h1 h2=>by
  rw[Zgl] at h2
  cases hd:ds[j]? with
  | none=>rw[hd] at h2;cases h2
  | some d =>
   rw[hd] at h2
   have:d.sk=k:=by simpa using h2
   subst this
   obtain⟨x,hx,rx⟩:=rs.get' hd
   obtain⟨u,hu',ru⟩:=rv.get hx
   have h1':its[j]? = some v:=by simpa using h1
   rw[h1'] at hu';cases hu'
   exact I.sk (hf d (Zgm hd)) rx ru
 refine zpy (k0:=ds.map D.sk) (f:=f) (by lia) (I.ok.hd hc) pl.isList (by simp;lia) (by simp;lia) hk0 hkey fun h' tk ks es K' S p=>?_
 have hex:∀(kr:List SK) (el:List (Int×Zf9)),Es X.prog X.w h' kr el->(∀k∈kr,k.flat=f)->(∀e∈el,∃j:Nat,its.toArray[j]? = some e.2)-> ∃dr xr,dr.map D.sk=kr/\Vals xr (el.map (·.2))/\Src ds xs [] [] dr xr:=by
  intro kr el en
  induction en with
  | nil=>intro _ _;exact⟨[],[],rfl,.nil,rfl,fun i d x h=>by simp at h⟩
  | @cons k e kr er g1 g2 _ ih =>
   intro hkk hent
   obtain⟨dr,xr,a1,b1,c1⟩:=ih (fun k h=>hkk k (Zgi _ h)) fun e h=>hent e (Zgi _ h)
   obtain⟨j,hj⟩:=hent e Zgz
   have hj':its[j]? = some e.2:=by simpa using hj
   have hjl:=(Zgg.mp hj').1
   have hjd:ds[j]? = some (ds[j]'(by lia)):=Zf8 _
   obtain⟨x,hx,rx⟩:=rs.get' hjd
   obtain⟨u,hu',ru⟩:=rv.get hx
   rw[hj'] at hu';cases hu'
   have hdk:=hf _ (Zgm hjd)
   have hsk:(ds[j]'(by lia)).sk=k:=yck (SK.is_mono K'.T (I.sk hdk rx ru)) g2 (by rw[zm8 hdk,hkk k Zgz])
   refine⟨_::dr,x::xr,by rw[Zg3,hsk,a1],.cons ru b1,by simp[c1.1],fun i d' x' q1 q2=>?_⟩
   cases i with
   | zero=>simp at q1 q2;subst q1;subst q2;exact⟨j,.inl ⟨hjd,hx⟩⟩
   | succ i=>exact c1.2 i d' x' q1 q2
 obtain⟨dr,xr,e1,v1,src⟩:=hex ks es.toList (let ⟨_,_,_,_,T⟩:=S;T.ent) (fun k hk=>by
   obtain⟨j,_,hj⟩:=(p.mem k).mp hk
   exact hk0 k (Zgm hj)) p.ent
 subst e1
 have hnod:dr.Nodup:=by obtain⟨_,_,_,_,T⟩:=S;exact zwd T.nod
 have hdr:∀d∈dr,d.hk f=true:=fun d hd=>by
  rcases src.mem hd with z | z
  .exact hf d z
  .cases z
 refine⟨.ref s.heap.objs.size,_,I.laid (t':=tk) K' (Zgf _) (zwl S v1),rfl,q _ dr xr (I.hok.fresh (Zgf _)) hnod (fun d=>⟨fun h=>(src.mem h).elim id (fun z=>by cases z),fun h=>?_⟩) src⟩
 refine(yau hdr (hf d h)).mp ((p.mem d.sk).mpr ?_)
 obtain⟨j,hj⟩:=Zhr.mp h
 exact⟨j,by have:=(Zgg.mp hj).1;simp;lia,by rw[Zgl,hj];rfl⟩
end
end L2
namespace L2
open PySem PySem.W PyProof.Rows L2T
section
variable{prog:Zgy}{w:Zhn}{A:Zhe}{E:Zf9->Zgc->Prop}{s:Zgc}
theorem zle{a:Addr}{o:Obj}{ks:List SK}{es:Array (Int×Zf9)}{ep:Nat}{t:Zgd}{Q:Zf9->Zgc->Prop}(Out:List Zf9->Array Zf9->Prop)(hh:A.handled=none)(ho:s.heap.get? a=some o)(S:SetO prog w s.heap o ks es ep t)
  (hs:∀(vs:List Zf9) (h':Heap) (d:Zwt) (tk:Nat),vs.Perm (es.toList.map (·.2))->2<=vs.length->zf2 s.heap h'->zus prog w A.in1.in1 { s with heap:=h',drawn:=d,toks:=tk } vs (Out vs)) (h1:∀vs:List Zf9,vs.Perm (es.toList.map (·.2))->vs.length<2->Out vs vs.toArray)
  (h:∀(vs:List Zf9) out c h' (d:Zwt) (tk:Nat) (l:Addr),vs.Perm (es.toList.map (·.2))->zf2 s.heap h'->s.heap.objs.size<=l->h'.get? l=some (Zo3 "list" out c)->out.size=vs.length->Out vs out->Q (.ref l) { s with heap:=h',drawn:=d,toks:=tk }) :
  Zgr (Zg9 prog w) A (call (.builtin "sorted") [.ref a]) Q E s:=by
 refine Zpr kind_sorted plain_sorted entry_sorted (args_sorted1 _) ?_
 unfold Zhb.«sorted»
 refine Zf5 (m:=checkCount "sorted" 1 1 _) (Zgb ?_)
 refine Zf5 (zrd (by simp[hh]) ho S fun vs g1 d tk hp K1 hlt=>?_)
 have hz:vs.length<=sizeLine:=by
  have:=hp.length_eq
  have:=S.small
  have:=S.ent.length
  simp at *
  exact zbs (by lia)
 refine Zf5 (Zrr ?_ hz)
 dsimp only
 have hl:s.heap.objs.size<=g1.objs.size:=Zou hlt
 have hg:(g1.push { cls:=.type "list", data:=.seq vs.toArray }).get? g1.objs.size=some (Zo3 "list" vs.toArray 0):=Zgj _ rfl
 have k2:zf2 s.heap (g1.push { cls:=.type "list", data:=.seq vs.toArray }):=fun b u e=>Zga _ (K1 b u e)
 have ne:∀b u,s.heap.get? b=some u->b≠g1.objs.size:=fun b u e=>Zgu (Zgk (K1 b u e))
 refine Zf5 (Zja (Zi4 Zwz ⟨_,hg,rfl⟩ Zwl (zjq (s:={ s with heap:=g1.push { cls:=.type "list", data:=.seq vs.toArray },drawn:=d,toks:=tk }) (Out vs) hg hz
  (fun h2 h' k=>hs vs h' d tk hp h2 fun b u e=>k b u (ne b u e) (k2 b u e)) (h1 vs hp) fun out c h' k hc hsz hO=>⟨_,rfl,?_⟩) (Zw6 _)))
 exact Zgb ⟨_,rfl,h vs out c h' d tk _ hp (fun b u e=>k b u (ne b u e) (k2 b u e)) hl hc hsz hO⟩
end
theorem zeo.perm{ds es:List D}(h:zeo ds)(p:es.Perm ds):zeo es:=by
 rcases h with h | h | ⟨t,ts,h⟩
 .exact .inl fun d hd=>h d (p.mem_iff.mp hd)
 .exact .inr (.inl fun d hd=>h d (p.mem_iff.mp hd))
 .exact .inr (.inr ⟨t,ts,fun d hd=>h d (p.mem_iff.mp hd)⟩)
theorem zeo.sub{ds es:List D}(h:zeo ds)(p:∀d∈es,d∈ds):zeo es:=by
 rcases h with h | h | ⟨t,ts,h⟩
 .exact .inl fun d hd=>h d (p d hd)
 .exact .inr (.inl fun d hd=>h d (p d hd))
 .exact .inr (.inr ⟨t,ts,fun d hd=>h d (p d hd)⟩)
theorem zfu{ds es:List D}(h:zeo ds)(p:es.Perm ds):zeh es=zeh ds:=zg9 h ((zb0 es).trans p) (zdb es)
theorem Src.refl{ds:List D}{xs:List V}(h:ds.length=xs.length):Src ds xs [] [] ds xs:=⟨h,fun i d x h1 h2=>⟨i,.inl ⟨h1,h2⟩⟩⟩
theorem zli{us us':List Zf9}(p:us'.Perm us):∀{ds:List D} {xs:List V},ds.length=xs.length->Vals xs us-> ∃ds' xs',Vals xs' us'/\ds'.Perm ds/\Src ds xs [] [] ds' xs':=by
 have p':=p.symm
 clear p
 induction p' with
 | nil=>intro ds xs hl v;exact⟨ds,xs,v,.refl _,Src.refl hl⟩
 | cons e _ ih =>
  intro ds xs hl v
  cases v with
  | @cons x _ xs _ v1 v2 =>
   cases ds with
   | nil=>simp at hl
   | cons d ds =>
    obtain⟨d2,x2,a,b,c⟩:=ih (by simpa using hl) v2
    refine⟨d::d2,x::x2,.cons v1 a,b.cons _,by simp[c.1],fun i d' x' h1 h2=>?_⟩
    cases i with
    | zero=>simp at h1 h2;subst h1;subst h2;exact⟨0,.inl ⟨rfl,rfl⟩⟩
    | succ i =>
     obtain⟨j,hj⟩:=c.2 i d' x' h1 h2
     exact⟨j+1,hj.elim (fun z=>.inl z) fun z=>by simp at z⟩
 | swap e f l =>
  intro ds xs hl v
  cases v with
  | @cons x _ xs _ v1 v2=>cases v2 with
   | @cons y _ xs _ v2 v3 =>
    match ds,hl with
    | d::d1::ds,hl =>
     refine⟨d1::d::ds,y::x::xs,.cons v2 (.cons v1 v3),Zok _ _ _,by simpa using hl,fun i d' x' h1 h2=>?_⟩
     match i with
     | 0=>simp at h1 h2;subst h1;subst h2;exact⟨1,.inl ⟨rfl,rfl⟩⟩
     | 1=>simp at h1 h2;subst h1;subst h2;exact⟨0,.inl ⟨rfl,rfl⟩⟩
     | i+2=>exact⟨i+2,.inl ⟨h1,h2⟩⟩
 | trans _ _ ih1 ih2 =>
  intro ds xs hl v
  obtain⟨d1,x1,a1,b1,c1⟩:=ih1 hl v
  obtain⟨d2,x2,a2,b2,c2⟩:=ih2 c1.1 a1
  refine⟨d2,x2,a2,b2.trans b1,c2.1,fun i d' x' h1 h2=>?_⟩
  obtain⟨j,hj⟩:=c2.2 i d' x' h1 h2
  rcases hj with ⟨g1,g2⟩ | ⟨g1,_⟩
  .exact c1.2 j d' x' g1 g2
  .simp at g1
noncomputable def EvS(P:Zgy)(w:Zhn)(K:Zf6)(G Hz L:Hp)(ss:List Sl)(t:TE)(ds:List D):Prop:=∀F H U Q,Sat K G Hz L F H U ss ->
 (∀p xs F' H' ds',Ext F H F' H'->H p=none->F' p=none->H' p=some (ztw P w p (ds'.map D.sk) xs)->Reps K F' ds' xs->ds'.Nodup->(∀d,d∈ds'↔d∈ds)->Q (.ref p) H')->t U H Q
section
variable{P:Zgy}{w:Zhn}{K:Zf6}{G Hz L:Hp}{ss:List Sl}{t ta tb:TE}{f:Bool}{ds da db dr:List D}
theorem zy0(a:EvL K G Hz L ss t ds)(hf:∀d∈ds,d.hk f=true)(hl:ds.length<=1000):EvS P w K G Hz L ss (tCB (zs7 P w K f) (za7 t tNil)) ds:=fun F H U Q S q =>
 a F H U _ S fun p vs F' H' e sq r=>⟨p,vs,ds,rfl,sq,r.mono e.fh,hf,hl,fun l dr xr hl' hn hm src =>
  q l xr F' _ dr (e.newO hl') (e.hh.free hl') (e.fh.free hl') zan (src.reps r Reps.nil) hn hm⟩
end
noncomputable def ded:List D->List D
 | []=>[]
 | d::ds=>if d∈ds then ded ds else d::ded ds
theorem zgm{d:D}:∀{ds:List D},d∈ded ds↔d∈ds
 | []=>Iff.rfl
 | e::ds=>by
  unfold ded
  split
  .rw[zgm,Zgh]
   exact⟨.inr,fun h=>h.elim (fun z=>z ▸ by assumption) id⟩
  .rw[Zgh,Zgh,zgm]
theorem zgd:∀ds:List D,(ded ds).Nodup
 | []=>Zl2
 | e::ds=>by
  unfold ded
  split
  .exact zgd ds
  .rw[Zi7,zgm];exact⟨by assumption,zgd ds⟩
theorem zrq:∀ds:List D,(ded ds).length<=ds.length
 | []=>Zgf _
 | e::ds=>by
  have:=zrq ds
  unfold ded
  split <;> simp <;> omega
noncomputable def zxr(K:Zf6):R2:=fun x y H Q=>∃l b xs zs,x= .ref l/\y= .ref b/\SqL K H l xs/\SqL K H b zs/\xs.length+zs.length<=sizeLine /\ ∀p,H p=none->Q (.ref p) (upd H p (.lst (xs++zs)))
theorem zxt{X:Cx}:OpR X (Zm2 .Add) (zxr X.K):=by
 intro pins s U H x y v u Q I rx ry h
 obtain⟨l,b,xs,zs,rfl,rfl,hl,hb,hz,q⟩:=h
 cases rx
 cases ry
 obtain⟨its,r,pl,_⟩:=I.list hl
 obtain⟨its2,r2,pl2,_⟩:=I.list hb
 have z1:=r.length
 have z2:=r2.length
 obtain⟨⟨cls,dd,data,sl⟩,ho,hc,n,hd⟩:=pl.isList
 obtain⟨⟨cls2,dd2,data2,sl2⟩,ho2,hc2,n2,hd2⟩:=pl2.isList
 dsimp only at hc hd hc2 hd2
 subst hc;subst hd;subst hc2;subst hd2
 refine concat_meets ⟨_,ho,rfl⟩ ⟨_,ho2,rfl⟩ noFill_list_add seq_list_add PySem.F.slot_list_add PySem.F.entry_list_add (PySem.F.args_list_add_2 _ _) (list_addW l b its.toArray its2.toArray n n2 dd dd2 sl sl2 (by simp;lia)) ⟨ho,ho2,?_⟩
 have ea:its.toArray++its2.toArray=(its++its2).toArray:=by simp
 rw[ea]
 exact⟨.ref _,_,I.lnew (t':=s.toks) (r.append r2) (by rw[Zg8];omega),rfl,q _ I.fresh⟩
section
variable{K:Zf6}{G Hz L:Hp}{ss:List Sl}{ta tb:TE}{da db:List D}
theorem zyw(a:EvL K G Hz L ss ta da)(b:EvL K G Hz L ss tb db)(hz:da.length+db.length<=sizeLine):EvO K G Hz L ss (tOp (zxr K) ta tb) (da++db):=fun F H U Q S q =>
 a F H U _ S fun p vs F1 H1 e1 sq1 r1=>b F1 H1 U _ (S.ext2 e1) fun p2 vs2 F2 H2 e2 sq2 r2=>by
  have l1:=r1.length
  have l2:=r2.length
  refine⟨p,p2,vs,vs2,rfl,rfl,SqL.same e2.hh sq1,sq2,by lia,fun l hl=>?_⟩
  have e12:=e1.trans e2
  exact q l _ F2 _ (e12.newO hl) (e12.hh.free hl) (e12.fh.free hl) zan ((r1.mono e2.gf).append r2)
theorem zf9{d:D}{v:V}(r:∀H,Rep K H d v):Ev K G Hz L ss (tC v) d:=fun F H U Q S q=>q _ _ _ (Ext.refl S.ext.fh) (r _)
end
theorem zmd{K:Zf6}{H:Hp}:∀(ls:List (List Nat)),(∀l∈ls,∀c∈l,c<128)->Reps K H (ls.map .str) (ls.map fun l=>.str (T l))
 | [],_=>Reps.nil
 | l::ls,h=>Reps.cons (Rep.str (h l Zgz)) (zmd ls fun l' hl=>h l' (Zgi _ hl))
theorem zjk:∀{ls:List (List Nat)} {us:List Zf9},ls.length=us.length->(∀(i:Nat) (l:List Nat) (u:Zf9),ls[i]? = some l->us[i]? = some u-> ∃t,u= .str (T l) t)->Vals (ls.map fun l=>V.str (T l)) us
 | [],us,hl,_=>by cases us with
  | nil=>exact .nil
  | cons _ _=>simp at hl
 | l::ls,us,hl,h=>by cases us with
  | nil=>simp at hl
  | cons u us=>exact .cons (h 0 l u rfl rfl) (zjk (by simpa using hl) fun i l' u' h1 h2=>h (i+1) l' u' h1 h2)
noncomputable def TupK(K:Zf6)(a:Addr)(ls:List (List Nat)):Prop:=∀H,Rep K H (.tup (ls.map .str)) (.ref a)
theorem zfp{K:Zf6}{a:Addr}{o:Obj}{its:Array Zf9}{n:Nat}{ls:List (List Nat)}(hk:K.lookup a=some o)(hc:o.cls= .type "tuple")(hd:o.data= .seq its n)(hl:ls.length=its.size)(hs:ls.length<=1000)(ha:∀l∈ls,∀c∈l,c<128)
  (h:∀(i:Nat) (l:List Nat) (u:Zf9),ls[i]? = some l->its.toList[i]? = some u-> ∃t,u= .str (T l) t):TupK K a ls:=fun H =>
 Rep.tup (.inr ⟨o,its,n,hk,hc,hd,by rw[<- hl];exact zbs (by lia),zjk (by simpa using hl) h⟩) (zmd ls ha) fun z=>by
  obtain⟨d,hd,hi⟩:=Zs4.mp z
  obtain⟨l,_,rfl⟩:=Zg5.mp hd
  cases hi
mutual
noncomputable def D.nl:D->Bool
 | .lst _=>false
 | .dct _ _=>false
 | .dctT _ _=>false
 | .ins _ _ _=>false
 | .tup a=>D.nls a
 | _=>true
noncomputable def D.nls:List D->Bool
 | []=>true
 | a::x=>a.nl&&D.nls x
end
end L2
namespace L2
open PySem PySem.W PySem.Spec PyProof.Rows
end L2
namespace L2
open PySem PySem.W PyProof.Rows L2T
theorem Reps.rev{K:Zf6}{H:Hp}:∀{ds:List D} {xs:List V},Reps K H ds xs->Reps K H ds.reverse xs.reverse
 | [],xs,h=>by rw[Reps] at h;subst h;exact Reps.nil
 | d::ds,xs,h=>by
  rw[Reps] at h
  obtain⟨x,xs',rfl,h1,h2⟩:=h
  rw[Zmc,Zmc]
  exact h2.rev.snoc h1
section
variable{K:Zf6}{G Hz L:Hp}{ss:List Sl}{ta tb t:TE}
theorem zy9{i j:Int}(a:EvB K G Hz L ss ta (.int i))(b:EvB K G Hz L ss tb (.int j)):Ev K G Hz L ss (tCB (fun xs H Q=>∃i j,xs=[.int i,.int j]/\Q (.int (if j>i then j else i)) H) (za7 ta (za7 tb tNil))) (.int (if j>i then j else i)):=fun F H U Q S q =>
 a F H U _ S fun v F1 H1 e1 r1=>b F1 H1 U _ (S.ext2 e1) fun v2 F2 H2 e2 r2=>by
  rw[r1.of_int,r2.of_int]
  exact⟨i,j,rfl,q _ F2 H2 (e1.trans e2) Rep.int⟩
theorem zz8{i j:Int}(a:EvB K G Hz L ss ta (.int i))(b:EvB K G Hz L ss tb (.int j)):Ev K G Hz L ss (tCB (fun xs H Q=>∃i j,xs=[.int i,.int j]/\Q (.int (if j<i then j else i)) H) (za7 ta (za7 tb tNil))) (.int (if j<i then j else i)):=fun F H U Q S q =>
 a F H U _ S fun v F1 H1 e1 r1=>b F1 H1 U _ (S.ext2 e1) fun v2 F2 H2 e2 r2=>by
  rw[r1.of_int,r2.of_int]
  exact⟨i,j,rfl,q _ F2 H2 (e1.trans e2) Rep.int⟩
theorem ybk{i j:Int}(a:EvB K G Hz L ss ta (.int i))(b:EvB K G Hz L ss tb (.int j)):Ev K G Hz L ss (tOp (rI0 fun i j=>.bl (decide (j<i))) ta tb) (.bl (decide (j<i))):=zke (g:=fun i j=>decide (j<i)) a b
theorem ycu{i j:Int}(a:EvB K G Hz L ss ta (.int i))(b:EvB K G Hz L ss tb (.int j)):Ev K G Hz L ss (tOp (rI0 fun i j=>.bl (decide (j<=i))) ta tb) (.bl (decide (j<=i))):=zke (g:=fun i j=>decide (j<=i)) a b
theorem znf{ds:List D}(a:EvL K G Hz L ss t ds):EvO K G Hz L ss (zot K (za7 t tNil)) ds.reverse:=fun F H U Q S q =>
 a F H U _ S fun p vs F' H' e sq r=>⟨p,vs,rfl,sq,fun l hl=>q l vs.reverse F' _ (e.newO hl) (e.hh.free hl) (e.fh.free hl) zan r.rev⟩
end
end L2
namespace L2
open PySem PySem.W PySem.Spec PyProof.Rows
section
variable{K:Zf6}{G Hz L:Hp}{ss:List Sl}{t:TA}{ds:List D}{pre:List D->Prop}{R:List D->D->Prop}{E:XK}{D0:Ends}{ta tb te:TE}{i j:Int}
theorem yax(a:EvB K G Hz L ss te (.int i)):Ev K G Hz L ss (tUn (rU fun i=>.int (-i)) te) (.int (-i)):=fun F H U Q S q =>
 a F H U _ S fun v F1 H1 e1 r1=>⟨i,by rw[r1.of_int],q _ _ _ e1 Rep.int⟩
end
end L2
namespace L2
open PySem PySem.W PySem.Spec PyProof.Rows PySem.Builtin PySem.Builtin.Str PySem.StrLaws
noncomputable def posL(z:Nat):Nat->List Nat->List Nat
 | _,[]=>[]
 | a,x::l=>if x=z then a::posL z (a+1) l else posL z (a+1) l
theorem zsr(pre l:List Nat)(z:Nat):subAt (T (pre++l)) (T [z]) pre.length=decide (l.head? = some z):=by
 rw[Zh0,decide_eq_true_eq]
 have h:=subAt_one (T (pre++l)) z pre.length
 have e:(⟨#[z]⟩:Str)=T [z]:=rfl
 rw[e] at h
 have hc:(T (pre++l)).cps.toList=pre++l:=zd2 _
 rw[hc] at h
 have hl:(T (pre++l)).length=pre.length+l.length:=by rw[zbm,Zg8]
 have hz:(T [z]).length=1:=zbm _
 have hg:(pre++l)[pre.length]? = l.head?:=by
  rw[Zio (Zgf _),Nat.sub_self];cases l <;> rfl
 rw[hg,hl,hz] at h
 constructor
 .intro hs
  by_cases hl0:l=[]
  .subst hl0
   exfalso
   unfold subAt at hs
   simp[T,Zst] at hs
  .have:1<=l.length:=by cases l with | nil=>exact absurd rfl hl0 | cons _ _=>simp
   exact h.mp ⟨by lia,hs⟩
 .intro hs
  exact(h.mpr hs).2
theorem zhd(z:Nat)(n:Nat):∀(l pre:List Nat) (free:Nat) (acc:Array Nat),free<=pre.length ->
  (Zto (Znh pre.length (l.length+1)) (acc,free) (occBody (T (pre++l)) (T [z]) (pre.length+l.length) n)).run.fst.toList=acc.toList++(posL z pre.length l).take (n - acc.size)
 | [],pre,free,acc,hf=>by
  rw[Zhj,Zm7,Zow,List.range'_zero,Zlo]
  unfold occBody
  rw[if_neg (by rintro⟨⟨_,h⟩,_⟩;rw[zbm] at h;simp at h;lia)]
  show acc.toList=_
  simp[posL]
 | x::l,pre,free,acc,hf=>by
  rw[Zgp,Zow,Zlo]
  have hs:=zsr pre (x::l) z
  have e2:pre++x::l=(pre++[x])++l:=by simp
  have e3:pre.length+(l.length+1)=(pre++[x]).length+l.length:=by simp;lia
  have e4:pre.length+1=(pre++[x]).length:=by simp
  have hz:(T [z]).length=1:=zbm _
  conv=>lhs;unfold occBody
  by_cases hx:x=z
  .have hs':subAt (T (pre++x::l)) (T [z]) pre.length=true:=by rw[hs];simp[hx]
   by_cases hn:acc.size<n
   .rw[if_pos ⟨⟨⟨hn,hf⟩,by rw[hz];lia⟩,hs'⟩]
    show(Zto (Znh (pre.length+1) (l.length+1)) (acc.push pre.length,pre.length+(T [z]).length) (occBody (T (pre++x::l)) (T [z]) (pre.length+(l.length+1)) n)).run.fst.toList=_
    rw[e2,e3,e4,zhd z n l (pre++[x]) _ _ (by rw[hz];simp)]
    rw[posL,if_pos hx,Zsa,Array.size_push,<- e4]
    rw[show n - acc.size=(n - (acc.size+1))+1 by lia,Zrg,Zjq]
    rfl
   .rw[if_neg (by rintro⟨⟨⟨h,_⟩,_⟩,_⟩;exact hn h)]
    show(Zto (Znh (pre.length+1) (l.length+1)) (acc,free) (occBody (T (pre++x::l)) (T [z]) (pre.length+(l.length+1)) n)).run.fst.toList=_
    rw[e2,e3,e4,zhd z n l (pre++[x]) _ _ (by simp;lia),show n - acc.size=0 by lia]
    simp
  .have hs':¬ subAt (T (pre++x::l)) (T [z]) pre.length=true:=by rw[hs];simp[hx]
   rw[if_neg (by rintro⟨_,h⟩;exact hs' h)]
   show(Zto (Znh (pre.length+1) (l.length+1)) (acc,free) (occBody (T (pre++x::l)) (T [z]) (pre.length+(l.length+1)) n)).run.fst.toList=_
   rw[e2,e3,e4,zhd z n l (pre++[x]) _ _ (by simp;lia),posL,if_neg hx,<- e4]
theorem zyx(z n:Nat)(l:List Nat):occurrences (T l) (T [z]) 0 (T l).length n=(posL z 0 l).take n:=by
 rw[occ_eq,zbm]
 have:=zhd z n l [] 0 #[] (Zgf _)
 simpa using this
noncomputable def zaz(z:Nat):Nat->List Nat->List (List Nat)
 | 0,l=>[l]
 | n+1,l=>match l.dropWhile (· != z) with
  | []=>[l]
  | _::b=>l.takeWhile (· != z)::zaz z n b
noncomputable def zpc(s:Str):Nat->List Nat->List Str
 | a,[]=>[strSub s a s.length]
 | a,p::r=>strSub s a p::zpc s (p+1) r
theorem zjv(s:Str):∀(ps:List Nat) (a:Nat),(((a::ps.map (· + 1)).zip (ps++[s.length])).map fun(i,j)=>strSub s i j)=zpc s a ps
 | [],a=>rfl
 | p::r,a=>by
  show strSub s a p::_=strSub s a p::_
  rw[<- zjv s r (p+1)]
  rfl
theorem zhx(a b c:List Nat):strSub (T (a++b++c)) a.length (a.length+b.length)=T b:=by
 unfold strSub T
 congr 1
 apply Zos.mp
 simp[List.take_append]
theorem zoe{z:Nat}:∀{l:List Nat} (a:Nat),z∉l->posL z a l=[]
 | [],_,_=>rfl
 | x::l,a,h=>by
  rw[posL,if_neg (fun e=>h (by simp[e])),zoe _ fun h'=>h (Zgi _ h')]
theorem zug{z:Nat}:∀(l b:List Nat) (a:Nat),z∉l->posL z a (l++z::b)=(a+l.length)::posL z (a+l.length+1) b
 | [],b,a,_=>by simp[posL]
 | x::l,b,a,h=>by
  rw[Zk9,posL,if_neg (fun e=>h (by simp[e])),zug l b (a+1) fun h'=>h (Zgi _ h')]
  rw[Zgp,show a+1+l.length=a+(l.length+1) by lia]
theorem zdi{z:Nat}:∀l:List Nat,(l.dropWhile (· != z)=[]/\z∉l) \/ ∃b,l.dropWhile (· != z)=z::b/\l=l.takeWhile (· != z)++z::b/\z∉l.takeWhile (· != z)
 | []=>.inl ⟨rfl,by simp⟩
 | x::l=>by
  by_cases hx:x=z
  .subst hx;exact .inr ⟨l,by simp,by simp,by simp⟩
  .have e1:(x::l).dropWhile (· != z)=l.dropWhile (· != z):=by simp[Zjw,hx]
   have e2:(x::l).takeWhile (· != z)=x::l.takeWhile (· != z):=by simp[Zlj,hx]
   rw[e1,e2]
   rcases zdi (z:=z) l with ⟨h1,h2⟩ | ⟨b,h1,h2,h3⟩
   .exact .inl ⟨h1,by simp[h2];exact fun e=>hx e.symm⟩
   .refine .inr ⟨b,h1,by rw[Zk9,<- h2],?_⟩
    simp only[Zgh,not_or]
    exact⟨fun e=>hx e.symm,h3⟩
theorem zjf(z:Nat):∀(n:Nat) (pre l:List Nat),zpc (T (pre++l)) pre.length ((posL z pre.length l).take n)=(zaz z n l).map T
 | 0,pre,l=>by
  have:=zhx pre l []
  rw[Zit] at this
  show[strSub (T (pre++l)) pre.length (T (pre++l)).length]=[T l]
  rw[zbm,Zg8,this]
 | n+1,pre,l=>by
  rcases zdi (z:=z) l with ⟨h1,h2⟩ | ⟨b,h1,h2,h3⟩
  .rw[zoe _ h2,zaz,h1]
   have:=zhx pre l []
   rw[Zit] at this
   show[strSub (T (pre++l)) pre.length (T (pre++l)).length]=[T l]
   rw[zbm,Zg8,this]
  .have e:zaz z (n+1) l=l.takeWhile (· != z)::zaz z n b:=by rw[zaz,h1]
   rw[e]
   generalize l.takeWhile (· != z)=a at h2 h3
   subst h2
   rw[zug _ _ _ h3,Zrg]
   show strSub _ pre.length (pre.length+a.length)::zpc _ (pre.length+a.length+1) _=T a::(zaz z n b).map T
   have e1:=zhx pre a (z::b)
   rw[Zjq] at e1
   rw[e1]
   congr 1
   have:=zjf z n (pre++a++[z]) b
   have e2:pre++a++[z]++b=pre++(a++z::b):=by simp
   have e3:(pre++a++[z]).length=pre.length+a.length+1:=by simp;lia
   rw[e2,e3] at this
   exact this
theorem zhz(z n:Nat)(l:List Nat):partsBetween (T l) (occurrences (T l) (T [z]) 0 (T l).length n) (T [z]).length=(zaz z n l).map T:=by
 have e:=zjv (T l) ((posL z 0 l).take n) 0
 have h:=zjf z n [] l
 rw[zyx,zbm]
 unfold partsBetween
 exact e.trans h
theorem zex(z:Nat):∀n l,(zaz z n l).length<=n+1
 | 0,l=>Zgf _
 | n+1,l=>by
  unfold zaz
  split
  .simp
  .rw[Zgp];have:=zex z n ‹_›;lia
end L2
namespace L2
open PySem PySem.W PySem.Spec PyProof.Rows PySem.Builtin PySem.Builtin.Str
noncomputable def zth:V->List V->Hp->VK->Prop:=fun x vs H Q=>∃(l:List Nat) (z:Nat) (k:Int),x= .str (T l)/\vs=[.str (T [z]),.int k]/\0<=k/\k<1000/\z<128/\(∀c∈l,c<128)/\l.length<=sizeLine /\ ∀p,H p=none->Q (.ref p) (upd H p (.lst (((zaz z k.toNat l).map T).map V.str)))
theorem zos{l:List Nat}(h:∀c∈l,c<128):Zij (T l)=1:=by
 unfold Zij
 rw[if_pos]
 rw[Array.all_eq_true_iff_forall_mem]
 intro c hc
 have:c∈l:=by simpa[T] using hc
 have:=h c this
 simp;lia
theorem zte{X:Cx}:MtR X "str.split" zth:=by
 intro pins s U H x xs v us Q I rx rs h
 obtain⟨l,z,k,rfl,rfl,hk0,hk1,hz,hl,hlen,q⟩:=h
 obtain⟨t,rfl⟩:=rx
 obtain⟨u1,u2,rfl,⟨u,rfl⟩,⟨u',rfl⟩⟩:=zqx rs
 have hk:(decide (k< -(2 ^ 63:Int))||decide (k ≥ 2 ^ 63))=false:=by simp;lia
 have hlim:Zwi (T l) k=k.toNat:=by unfold Zwi;rw[if_neg (by lia)]
 have hpl:=zex z k.toNat l
 have fin:∀(zs:List (Str×Tok)) (m:Nat),zs.map (·.1)=(zaz z k.toNat l).map T ->
   EP X pins U Q (.ref s.heap.objs.size) { s with heap:=s.heap.push { cls:=.type "list", data:=.seq (Zwh zs).toArray },toks:=m }:=fun zs m e=>by
  have v1:=zhr zs
  rw[e] at v1
  exact⟨.ref s.heap.objs.size,_,I.lnew v1 (by rw[Zge,Zge,Zgq];lia),rfl,q _ I.fresh⟩
 have hp:=zhz z k.toNat l
 have k1:Zij (T l)=1:=zos hl
 have k2:Zij (T [z])=1:=zos (by intro c hc;rw[Zgn.mp hc];exact hz)
 cases h1:(decide ((T l).length<(T [z]).length)||decide (Zij (T l)<Zij (T [z])))
 .cases hf:(occurrences (T l) (T [z]) 0 (T l).length (Zwi (T l) k)).isEmpty
  .refine Zmq Zip (Zi3 _ _ _) Zkd (Zoo _ _ _) (meets_str_split_sep_max (T l) (T [z]) k t u u' hk h1 (by rw[zbm];rfl) hf (by rw[zbm];exact hlen) (by rw[hlim,hp,Zge,Zgq];lia)) ?_
   rw[strsFrom_eq]
   exact fin (numbered s.toks _) _ ((Zw2 _ _).trans (by rw[hlim];exact hp))
  .refine Zmq Zip (Zi3 _ _ _) Zkd (Zoo _ _ _) (meets_str_split_max_not_found (T l) (T [z]) k t u u' hk h1 (by rw[zbm];rfl) hf) (fin [(T l,t)] s.toks ?_)
   rw[<- hp,<- hlim]
   have:occurrences (T l) (T [z]) 0 (T l).length (Zwi (T l) k)=[]:=Zs1.mp hf
   rw[this]
   have:=zhx [] l []
   simp only[Zll,Zit,Zhj,Zm7] at this
   show[T l]=[strSub (T l) 0 (T l).length]
   rw[zbm,this]
 .refine Zmq Zip (Zi3 _ _ _) Zkd (Zoo _ _ _) (meets_str_split_max_cannot_occur (T l) (T [z]) k t u u' hk h1) (fin [(T l,t)] s.toks ?_)
  rw[k1,k2,zbm,zbm] at h1
  simp at h1
  subst h1
  cases k.toNat <;> rfl
theorem zig{z c:Nat}:∀{n:Nat} {l p:List Nat},p∈zaz z n l->c∈p->c∈l
 | 0,l,p,h,hc=>by rw[zaz,Zgn] at h;subst h;exact hc
 | n+1,l,p,h,hc=>by
  rcases zdi (z:=z) l with ⟨h1,h2⟩ | ⟨b,h1,h2,h3⟩
  .rw[zaz,h1] at h
   have h:p∈[l]:=h
   rw[Zgn] at h;subst h;exact hc
  .rw[zaz,h1] at h
   have h:p∈l.takeWhile (· != z)::zaz z n b:=h
   rw[h2]
   rcases Zgh.mp h with h | h
   .subst h;exact Zi2 _ hc
   .exact Zhc _ (Zgi _ (zig h hc))
theorem zob{z:Nat}{a b c:List Nat}(ha:z∉a)(hb:z∉b):zaz z 2 (a++z::(b++z::c))=[a,b,c]:=by
 have tw:∀(x y:List Nat),z∉x->(x++z::y).dropWhile (· != z)=z::y/\(x++z::y).takeWhile (· != z)=x:=by
  intro x y hx
  induction x with
  | nil=>simp
  | cons w x ih =>
   have hw:w≠z:=fun e=>hx (by simp[e])
   have:=ih fun h=>hx (Zgi _ h)
   rw[Zk9,Zjw,Zlj]
   simp[hw,this]
 have s1:zaz z 2 (a++z::(b++z::c))=a::zaz z 1 (b++z::c):=by
  rw[zaz,(tw a _ ha).1,(tw a _ ha).2]
 have s2:zaz z 1 (b++z::c)=b::zaz z 0 c:=by
  conv=>lhs;rw[zaz,(tw b _ hb).1,(tw b _ hb).2]
 rw[s1,s2];rfl
section
variable{K:Zf6}{G Hz L:Hp}{ss:List Sl}{ta tb tc t1 t2 te:TE}{ds:List D}
theorem zz5{H:Hp}:∀{ls:List (List Nat)},(∀l∈ls,∀c∈l,c<128)->Reps K H (ls.map D.str) ((ls.map T).map V.str)
 | [],_=>Reps.nil
 | l::ls,h=>Reps.cons (Rep.str (h l Zgz)) (zz5 fun m hm=>h m (Zgi _ hm))
theorem zqa{l:List Nat}{z:Nat}{k:Int}(a:EvB K G Hz L ss ta (.str l))(b:EvB K G Hz L ss t1 (.str [z]))(c:EvB K G Hz L ss t2 (.int k))(hk:0<=k/\k<1000)(hl:l.length<=sizeLine):EvO K G Hz L ss (tBM K "str" zth ta (za7 t1 (za7 t2 tNil))) ((zaz z k.toNat l).map D.str):=fun F H U Q S q =>
 a F H U _ S fun v F1 H1 e1 r1=>by
  rw[r1.of_str]
  refine⟨rfl,b F1 H1 U _ (S.ext2 e1) fun v2 F2 H2 e2 r2=>c F2 H2 U _ ((S.ext2 e1).ext2 e2) fun v3 F3 H3 e3 r3=>?_⟩
  have ha:=r1.asc
  have hz:=r2.asc
  rw[r2.of_str,r3.of_int]
  refine⟨l,z,k,rfl,rfl,hk.1,hk.2,hz z (by simp),ha,hl,fun p hp=>?_⟩
  have e:=(e1.trans e2).trans e3
  exact q p _ F3 _ (e.newO hp) (e.hh.free hp) (e.fh.free hp) zan (zz5 fun m hm c hc=>ha c (zig hm hc))
theorem zqu(a:EvL K G Hz L ss te ds)(hz:ds.length<=sizeLine):Ev K G Hz L ss (tCB (fun xs H Q=>∃p ys,xs=[.ref p]/\((SqL K H p ys /\ ∀l,H l=none->Q (.ref l) (upd H l (.tup ys)))\/(SqT K H p ys/\Q (.ref p) H))) (za7 te tNil)) (.tup ds):=fun F H U Q S q =>
 a F H U _ S fun p vs F' H' e sq r=>⟨p,vs,rfl,.inl ⟨sq,fun l hl=>by
  exact q _ _ _ (e.newF hl) (Rep.tupN (zan) (r.mono (Same.upd (e.fh.free hl))))⟩⟩
end
end L2
namespace L2
open PySem PySem.W PySem.Spec PyProof.Rows
noncomputable def SpG{α:Type}(K:Zf6)(pre:α->List D->Prop)(res:α->D):Sp:=fun vs H Q _=>∃(G:Hp) (ds:List D) (x:α),Same G H/\Reps K G ds vs/\pre x ds /\ ∀v G' H',Ext G H G' H'->Rep K G' (res x) v->Q v H'
section
variable{α:Type}{K:Zf6}{H:Hp}{vs:List V}{Q:VK}{X:XK}{N:List Str}{t:TS}{pre:α->List D->Prop}{res:α->D}
theorem ycd(h:SpG K pre res vs H Q X)(hN:vs.length<=N.length)(body:∀G ds x,pre x ds->RtD K G H Q (res x)->Go K G H G { nx:=fun _ H'=>Q .non H',rt:=Q } (slots N.length ds) t):t { nx:=fun _ H'=>Q .non H',rt:=Q } (start N vs) H:=by
 obtain⟨G,ds,x,sm,r,hp,q⟩:=h
 exact body G ds x hp (fun v F H' e r=>q v F H' e r) G H _ (zdk sm r hN)
theorem zry{n:Nat}(hpre:∀x ds,pre x ds->ds.length=n)(h:SpG K pre res vs H Q X):vs.length=n:=by
 obtain⟨G,ds,x,sm,r,hp,q⟩:=h
 rw[<- r.length];exact hpre x ds hp
end
section
variable{X:Cx}
noncomputable def rLeS:R2:=fun x y H Q=>∃i j,x= .str i/\y= .str j/\Q (.bl (!decide (j.cps.toList<i.cps.toList))) H
theorem zlt:OpR X (Zi1 .LtE) rLeS:=by
 intro pins s U H x y v u Q I rx ry h
 obtain⟨i,j,rfl,rfl,q⟩:=h
 obtain⟨t,rfl⟩:=rx
 obtain⟨t',rfl⟩:=ry
 exact compareOp_gives (op:=.LtE) (Zi3 s i t) (Zi3 s j t') F.slot_str_le F.entry_str_le (F.args_str_le_2 _ _) (gives_str_le i j t t') (fun e=>nomatch e) (za9 I q rfl)
end
section
variable{α:Type}{K:Zf6}{G Hz L:Hp}{ss:List Sl}{ta tb tc te:TE}{t:TA}{ds:List D}{E:XK}{pre:α->List D->Prop}{res:α->D}
theorem zol(x:α)(a:EvAF K G Hz L ss t ds)(hp:pre x ds):Ev K G Hz L ss (ziw (SpG K pre res) [] E t) (res x):=fun F H U Q S q =>
 a F H U _ S fun vs F1 H1 e1 r1=>⟨F1,ds,x,e1.fh,by rw[Zit];exact r1,hp,fun v G' H' e2 r=>q _ _ _ (e1.trans e2) r⟩
theorem zl6{i j k:Int}(a:EvB K G Hz L ss ta (.int i))(b:EvB K G Hz L ss tb (.int j))(c:EvB K G Hz L ss tc (.int k)):Ev K G Hz L ss (zok (rI0 fun i j=>.bl (decide (i<=j))) (rI0 fun i j=>.bl (decide (i<=j))) ta tb tc) (.bl (decide (i<=j)&&decide (j<=k))):=fun F H U Q S q =>
 a F H U _ S fun v F1 H1 e1 r1=>b F1 H1 U _ (S.ext2 e1) fun v2 F2 H2 e2 r2=>by
  rw[r1.of_int,r2.of_int]
  refine⟨i,j,rfl,rfl,_,rfl,?_⟩
  by_cases h:i<=j
  .rw[if_pos (decide_eq_true h)]
   refine c F2 H2 U _ ((S.ext2 e1).ext2 e2) fun v3 F3 H3 e3 r3=>?_
   rw[r3.of_int]
   refine⟨j,k,rfl,rfl,q _ F3 H3 ((e1.trans e2).trans e3) ?_⟩
   rw[decide_eq_true h,Zn1];exact Rep.bl
  .rw[if_neg (by rw[decide_eq_false h];decide)]
   refine q _ F2 H2 (e1.trans e2) ?_
   rw[decide_eq_false h,Znf];exact Rep.bl
theorem zuk{i j k:List Nat}(a:EvB K G Hz L ss ta (.str i))(b:EvB K G Hz L ss tb (.str j))(c:EvB K G Hz L ss tc (.str k)):Ev K G Hz L ss (zok rLeS rLeS ta tb tc) (.bl (!decide (j<i) && !decide (k<j))):=fun F H U Q S q =>
 a F H U _ S fun v F1 H1 e1 r1=>b F1 H1 U _ (S.ext2 e1) fun v2 F2 H2 e2 r2=>by
  rw[r1.of_str,r2.of_str]
  refine⟨T i,T j,rfl,rfl,_,rfl,?_⟩
  rw[zd2,zd2]
  by_cases h:j<i
  .rw[if_neg (by rw[decide_eq_true h];decide)]
   refine q _ F2 H2 (e1.trans e2) ?_
   rw[decide_eq_true h];exact Rep.bl
  .rw[if_pos (by rw[decide_eq_false h];rfl)]
   refine c F2 H2 U _ ((S.ext2 e1).ext2 e2) fun v3 F3 H3 e3 r3=>?_
   rw[r3.of_str]
   refine⟨T j,T k,rfl,rfl,q _ F3 H3 ((e1.trans e2).trans e3) ?_⟩
   rw[decide_eq_false h,zd2,zd2];exact Rep.bl
theorem ev_ord{c:Nat}(a:EvB K G Hz L ss te (.str [c])):Ev K G Hz L ss (tCB (fun xs H Q=>∃x:Str,xs=[.str x]/\x.length=1/\Q (.int (x.cps.getD 0 0:Nat)) H) (za7 te tNil)) (.int c):=fun F H U Q S q =>
 a F H U _ S fun v F1 H1 e1 r1=>⟨T [c],by rw[r1.of_str],zbm _,q _ _ _ e1 Rep.int⟩
theorem yad{c:Nat}{l:List Nat}(a:EvB K G Hz L ss ta (.str [c]))(b:EvB K G Hz L ss tb (.str l)):Ev K G Hz L ss (tOp (fun x y H Q=>∃i j,x= .str i/\y= .str j/\Q (.bl (!(Zoq j i 0 j.length 1).isEmpty)) H) ta tb) (.bl (decide (c∈l))):=fun F H U Q S q =>
 a F H U _ S fun v F1 H1 e1 r1=>b F1 H1 U _ (S.ext2 e1) fun v2 F2 H2 e2 r2=>by
  rw[r1.of_str,r2.of_str]
  refine⟨T [c],T l,rfl,rfl,?_⟩
  have:=StrLaws.found_one (T l) c
  rw[zd2] at this
  rw[show T [c]=⟨#[c]⟩ from rfl,this]
  exact q _ F2 H2 (e1.trans e2) Rep.bl
end
section
variable{K:Zf6}{G Hz L:Hp}{ss:List Sl}
theorem zii(l:List Nat)(f:Nat->D){tl:TE}{g:TG}{te:TE}{nt:Nat}{cs:List Nat}(a:EvB K G Hz L ss tl (.str l))(hk:GK nt g)(hc:cs.Nodup)(hz:l.length<sizeLine)
  (hs:∀c∈l,∃ss',Tg K G Hz L g (.str [c]) (lcSl nt cs ss) ss'/\Ev K G Hz L ss' te (f c)) :
  EvO K G Hz L ss (tLC nt cs (iStr tl) g zqv te) (l.map f):=by
 have:=zks (p:=fun _=>true) (f:=fun i=>f (l.getD i 0)) (tt:=zqv) (te:=te) (zxu a) hk hc hz (fun i hi=>by
  have hm:l.getD i 0∈l:=by rw[Zf7,Zf8 hi];exact Zhv hi
  obtain⟨ss',h1,h2⟩:=hs _ hm
  exact⟨ss',h1,zpb,fun _=>h2⟩)
 have e:=zog l 0 (fun _=>true) f
 rw[show l.filter (fun _=>true)=l from Zrm.mpr (by simp)] at e
 rw[<- e];exact this
end
theorem zm9{a b:D}(ha:a.isK=true)(hb:b.isK=true)(h:a.key=b.key):a=b:=by
 cases a <;> cases b <;> simp[D.isK,D.key] at * <;> first | exact h | exact ztu.mp h
theorem zkt{K:Zf6}{H:Hp}{d:D}{v:V}(hk:d.isK=true)(r:Rep K H d v):v=kV d.key:=by
 cases d <;> simp[D.isK] at hk
 .exact r.of_int
 .exact r.of_str
noncomputable abbrev DD:=List (D×D)
noncomputable def valD(kvs:DD)(k:D):Option D:=(kvs.find? fun kv=>decide (kv.1=k)).map (·.2)
noncomputable def putD(kvs:DD)(k d:D):DD:=if (kvs.any fun kv=>decide (kv.1=k))=true then kvs.map (fun kv=>if kv.1=k then (kv.1,d) else kv) else kvs++[(k,d)]
inductive Dks(K:Zf6)(F:Hp):DD->List (Key×V)->Prop
 | nil:Dks K F [] []
 | cons {k d:D} {v:V} {kvs:DD} {xs:List (Key×V)} (hk:k.isK=true) (hr:Rep K F k (kV k.key)) (r:Rep K F d v) (t:Dks K F kvs xs):Dks K F ((k,d)::kvs) ((k.key,v)::xs)
section
variable{K:Zf6}{F F':Hp}{kvs:DD}{xs:List (Key×V)}
theorem Dks.mono(h:Dks K F kvs xs)(s:Same F F'):Dks K F' kvs xs:=by
 induction h with
 | nil=>exact .nil
 | cons hk hr r t ih=>exact .cons hk (hr.mono s) (r.mono s) ih
theorem Dks.length(h:Dks K F kvs xs):kvs.length=xs.length:=by
 induction h with
 | nil=>rfl
 | cons hk hr r t ih=>simp[ih]
theorem zvl{k:D}(hk:k.isK=true):k.flat=true:=by cases k <;> simp[D.isK] at hk <;> rfl
theorem zze{K:Zf6}{H F:Hp}{k:D}{v:V}(hk:k.isK=true)(r:Rep K H k v):Rep K F k (kV k.key):=by
 rw[<- zkt hk r];exact r.flat (zvl hk)
theorem Dks.val(h:Dks K F kvs xs){k:D}(hk:k.isK=true):(valD kvs k=none/\valV xs k.key=none) \/ ∃d v,valD kvs k=some d/\valV xs k.key=some v/\Rep K F d v:=by
 induction h with
 | nil=>exact .inl ⟨rfl,rfl⟩
 | @cons k' d v kvs xs hk' hr' r t ih =>
  by_cases e:k'=k
  .subst e
   exact .inr ⟨d,v,by simp[valD],by simp[valV],r⟩
  .have e2:k'.key≠k.key:=fun z=>e (zm9 hk' hk z)
   have h1:valD ((k',d)::kvs) k=valD kvs k:=by simp[valD,Zil,e]
   have h2:valV ((k'.key,v)::xs) k.key=valV xs k.key:=by simp[valV,Zil,e2]
   rw[h1,h2];exact ih
theorem Dks.any(h:Dks K F kvs xs){k:D}(hk:k.isK=true):(kvs.any fun kv=>decide (kv.1=k))=xs.any fun kv=>decide (kv.1=k.key):=by
 induction h with
 | nil=>rfl
 | @cons k' d v kvs xs hk' hr' r t ih =>
  rw[Zko,Zko,ih]
  congr 1
  by_cases e:k'=k
  .subst e;simp
  .have e2:k'.key≠k.key:=fun z=>e (zm9 hk' hk z)
   rw[decide_eq_false e,decide_eq_false e2]
theorem Dks.snoc(h:Dks K F kvs xs){k d:D}{v:V}(hk:k.isK=true)(hr:Rep K F k (kV k.key))(r:Rep K F d v):Dks K F (kvs++[(k,d)]) (xs++[(k.key,v)]):=by
 induction h with
 | nil=>exact .cons hk hr r .nil
 | cons hk' hr' r' t ih=>exact .cons hk' hr' r' ih
theorem Dks.put(h:Dks K F kvs xs){k d:D}{v:V}(hk:k.isK=true)(hr:Rep K F k (kV k.key))(r:Rep K F d v):Dks K F (putD kvs k d) (putK xs k.key v):=by
 unfold putD putK
 rw[h.any hk]
 by_cases hc:(xs.any fun kv=>decide (kv.1=k.key))=true
 .rw[if_pos hc,if_pos hc]
  clear hc
  induction h with
  | nil=>exact .nil
  | @cons k' d' v' kvs xs hk' hr' r' t ih =>
   rw[Zg3,Zg3]
   by_cases e:k'=k
   .subst e;rw[if_pos rfl,if_pos rfl];exact .cons hk' hr' r ih
   .have e2:k'.key≠k.key:=fun z=>e (zm9 hk' hk z)
    rw[if_neg e,if_neg e2];exact .cons hk' hr' r' ih
 .rw[if_neg hc,if_neg hc];exact h.snoc hk hr r
end
theorem zhe(kvs:DD)(k d:D):(putD kvs k d).length<=kvs.length+1:=by
 unfold putD;split <;> simp
end L2
namespace L2
open PySem PySem.Spec PyProof.Rows
theorem zga(kvs:DD)(k d k':D):valD (putD kvs k d) k'=if k'=k then some d else valD kvs k':=by
 have hm:∀{kvs:DD},¬ k'=k->(kvs.map fun kv=>if kv.1=k then (kv.1,d) else kv).find? (fun kv=>decide (kv.1=k'))=kvs.find? fun kv=>decide (kv.1=k'):=fun {kvs} hk=>by
  induction kvs with
  | nil=>rfl
  | cons q kvs ih =>
   rw[Zg3,Zil,Zil,ih]
   by_cases c:q.1=k
   .rw[if_pos c]
    have:¬ q.1=k':=fun z=>hk (z.symm.trans c)
    rw[decide_eq_false this]
   .rw[if_neg c]
 unfold valD putD
 by_cases h:(kvs.any fun kv=>decide (kv.1=k))=true
 .rw[if_pos h]
  by_cases hk:k'=k
  .subst hk
   rw[if_pos rfl]
   clear hm
   induction kvs with
   | nil=>cases h
   | cons q kvs ih =>
    rw[Zg3,Zil]
    by_cases c:q.1=k'
    .rw[if_pos c,decide_eq_true c];rfl
    .rw[if_neg c,decide_eq_false c]
     rw[Zko,decide_eq_false c,Zum] at h
     exact ih h
  .rw[if_neg hk,hm hk]
 .rw[if_neg h,List.find?_append]
  by_cases hk:k'=k
  .subst hk
   rw[if_pos rfl]
   have:kvs.find? (fun kv=>decide (kv.1=k'))=none:=by
    rw[Zr7]
    intro x hx z
    exact h (Zs4.mpr ⟨x,hx,z⟩)
   rw[this]
   simp
  .rw[if_neg hk]
   cases kvs.find? fun kv=>decide (kv.1=k') with
   | some q=>rfl
   | none=>simp[Zho hk]
end L2
namespace L2
open PySem PySem.W PySem.Spec PyProof.Rows
noncomputable abbrev KQ:=List (D×Addr×List D)
end L2
namespace L2
open PySem PySem.Spec PyProof.Rows
noncomputable def Ite(K:Zf6)(a:Addr):It :=
 ⟨fun i H=>∃xs x,SqL K H a xs/\xs[i]? = some x,fun i H x H'=>∃T0 vs,x= .ref T0/\H T0=none/\H'=upd H T0 (.tup vs) /\ ∀xs,SqL K H a xs-> ∃y,xs[i]? = some y/\vs=[.int i,y],fun i H=>∃xs,SqL K H a xs/\xs.length=i⟩
theorem zqt{P:Zgy}{w:Zhn}{K:Zf6}{elts:List Expr}{kk:Nat}{tp:Pos}(a it e:Addr)(hae:a≠e)(hai:a≠it)(hei:e≠it) :
  Turn P w K (.Tuple elts kk tp) (Ite K a) [e,it] e (fun i h=>(∃old,IsEnum h e it i old)/\h.IsListIter it a i) where
 mem:=by simp
 obj:=fun i h st b hb=>by
  obtain⟨⟨old,ho⟩,oi,hoi,_,hdi⟩:=st
  rcases Zgh.mp hb with rfl | hb
  .exact⟨_,ho,fun v z=>by cases z⟩
  .rw[Zgn.mp hb]
   exact⟨oi,hoi,fun v z=>by rw[hdi] at z;cases z⟩
 keep:=fun i h h' st k=>⟨let ⟨old,ho⟩:=st.1;⟨old,k e (by simp) _ ho⟩,st.2.at fun o x=>k it (by simp) o x⟩
 item:=by
  intro X hP hw hK hc i pins s U H E I hf st hg
  subst hP hw hK
  obtain⟨xs,x,hq,hx⟩:=hg
  obtain⟨its,rv,p,hz⟩:=I.list hq
  obtain⟨u,hu,ru⟩:=rv.get hx
  have hil:i<its.length:=(Zgg.mp hu).1
  have W0:=Zlz (A:=X.A) (Zmy (prog:=X.prog) (w:=X.w) (A:=X.A.in1) (show X.A.in1.handled=none from I.ok.hd hc) it a hai its.toArray) e hei (by simp[hei,Zho hae]) (by simp)
  refine W0.item i s _ _ (by simpa using hil) ⟨st.1,st.2,p.isList⟩ fun T0 vals h1 tk hp hle ht mid kk=>?_
  obtain⟨t,v,hv,rfl⟩:=hp
  have hv:its[i]? = some v:=by simpa using hv
  rw[hu] at hv;cases hv
  have fresh:H T0=none:=I.hok.fresh hle
  have I1:Inv X pins U (upd H T0 (.tup [.int i,x])) { s with heap:=h1,toks:=tk }:=I.turnsT (wr:=[e,it]) hf kk hle ht (.cons ⟨t,rfl⟩ (.cons ru .nil)) (by rw[Zgq];simp)
  refine⟨.ref T0,rfl,W0.go elts _ tp i T0 _ _ _ mid fun h2 st2 k2=>?_⟩
  have hlt:∀b∈[e,it],b≠T0:=fun b hb z=>by
   obtain⟨⟨old,ho⟩,oi,hoi,_,hdi⟩:=st
   rcases Zgh.mp hb with rfl | hb
   .exact absurd (Zgw (Zgk ho) (z ▸ hle)) (Zhu _)
   .rw[Zgn.mp hb] at z
    exact absurd (Zgw (Zgk hoi) (z ▸ hle)) (Zhu _)
  have hf1:∀b∈[e,it],FpOk X pins (upd H T0 (.tup [.int i,x])) b:=fun b hb=>⟨by rw[zak (hlt b hb)];exact(hf b hb).1,(hf b hb).2⟩
  exact⟨.ref T0,_,I1.turns (t':=tk) hf1 k2,rfl,⟨T0,_,rfl,fresh,rfl,fun ys hy=>⟨x,by rw[I.list_inj hy hq];exact hx,rfl⟩⟩,⟨st2.1,st2.2.1⟩,fun b hb=>by rw[zak (hlt b hb)];exact(hf b hb).1⟩
 done:=by
  intro X hP hw hK hc i pins s U H E I hf st hg
  subst hP hw hK
  obtain⟨xs,hq,hx⟩:=hg
  obtain⟨its,rv,p,hz⟩:=I.list hq
  have hl:=rv.length
  have hs:its.toArray.size=i:=by simp;lia
  have W0:=Zlz (A:=X.A) (Zmy (prog:=X.prog) (w:=X.w) (A:=X.A.in1) (show X.A.in1.handled=none from I.ok.hd hc) it a hai its.toArray) e hei (by simp[hei,Zho hae]) (by simp)
  rw[hs] at W0
  exact W0.done s _ _ ⟨st.1,st.2,p.isList⟩ fun h1 tk kk=>⟨rfl,I.turns (wr:=[e,it]) hf kk⟩
 self:=fun A i s Q E st h=>Zmn st.1.choose_spec h
section
variable{X:Cx}{e:Expr}{ta:TA}{elts:List Expr}{kk:Nat}{tp p pos:Pos}
noncomputable def iEnL(K:Zf6)(ta:TA):TI:=fun U H R=>ta U H fun vs H1=>∃a,vs=[.ref a]/\(∃xs,SqL K H1 a xs)/\R (Ite K a) H1
theorem zmi(hg:Gl X "enumerate")(hm:X.mg "enumerate" = none)(hA:PA X [e] ta)(hs:Zhf [e] X.env=[(false,eval e X.env)]:=by rfl) :
  PI X (.Tuple elts kk tp) (.Call (.Name "enumerate" p) [e] [] pos) (iEnL X.K ta):=by
 intro pins s U H R I h
 refine Call_ (zh1 I hg hm Zw5 (Ziy (thn (hA pos pins s U H _ I h) fun us s1 hz9=>?_) hs rfl))
 obtain⟨vs,H1,I1,r1,q1⟩:=hz9
 obtain⟨a,rfl,⟨xs,hq⟩,q⟩:=q1
 obtain⟨u,rfl,ru⟩:=zg5 r1
 cases ru
 obtain⟨its,rv,p,hz⟩:=I1.list hq
 refine call_enumerate_list p.isList fun h1 hen hit hsz hk=>?_
 have I2:Inv X pins U H1 { s1 with heap:=h1 }:=I1.kept (t':=s1.toks) hk
 refine Zmn hen ?_
 have hlt:a<s1.heap.objs.size:=by obtain⟨o,ho,_⟩:=p.isList;exact Zgk ho
 refine⟨s1.heap.objs.size+1,[s1.heap.objs.size+1,s1.heap.objs.size],_,_,H1,rfl,I2,zqt a s1.heap.objs.size (s1.heap.objs.size+1) (Zgu (Zi5 hlt)) (Zgu hlt) (Ztf _),⟨⟨_,hen⟩,hit⟩,fun b hb=>?_,q⟩
 rcases Zgh.mp hb with rfl | hb
 .exact I1.fpOk (Zk3 _) (I1.hok.fresh (Zk3 _))
 .rw[Zgn.mp hb]
  exact I1.fpOk (Zgf _) (I1.hok.fresh (Zgf _))
end
end L2
namespace L2
open PySem PySem.W PySem.Spec PyProof.Rows
section
variable{K:Zf6}{G Hz L:Hp}{ss:List Sl}{i:Nat}{p:Addr}{kqs:KQ}{kvs:DD}{E:Ends}{tk tv:TE}{k d:D}
theorem zzu{tl:TE}{g:TG}{tb:TS}{α:Type}(enc:α->D)(xs:List α)(I:Nat->List Sl->Prop)(a:Ev K G Hz L ss tl (.lst (xs.map enc)))(h0:I 0 ss)
  (hs:∀L' k x ss,Same L L'->xs[k]? = some x->I k ss-> ∃ss',Tg K G Hz L' g (.tup [.int k,enc x]) ss ss' /\ ∀N,(∀ss,I (k+1) ss->Nx K G Hz L' N ss)->Go K G Hz L' { E with nx:=N,ct:=N,bk:=E.nx } ss' tb)
  (hd:∀ss,I xs.length ss->Nx K G Hz L E.nx ss):Go K G Hz L E ss (tFor (iEnL K (za7 tl tNil)) g tb):=fun F H U S =>
 a F H U _ S fun v F1 H1 e1 r1=>by
  obtain⟨p,vs,rfl,sq,rs⟩:=r1.of_lst
  refine⟨p,rfl,⟨vs,SqL.same e1.fh sq⟩,?_⟩
  refine⟨fun i m U' H'=>m=xs.length - i/\i<=xs.length/\At K G Hz F1 (I i) U' H',⟨_,rfl,Zhg _,ss,F1,(S.ext2 e1).raise,h0⟩,?_⟩
  rintro i m U' H' ⟨rfl,hi,ss1,F2,S2,h2⟩
  have rp:Rep K F2 (.lst (xs.map enc)) (.ref p):=r1.mono S2.fl
  obtain⟨ws,sq2,rs2⟩:=rp.itl S2.ext.fh
  have hlen:ws.length=xs.length:=by rw[<- rs2.length,Zge]
  by_cases hlt:i<xs.length
  .refine .inr ⟨⟨ws,ws[i]'(by lia),sq2,Zf8 _⟩,fun U'' H''=>At K G Hz F1 (I (i+1)) U'' H'',fun U'' H'' h=>⟨xs.length - (i+1),by lia,rfl,hlt,h⟩,fun x H'' y=>?_⟩
   obtain⟨T0,us,rfl,hf,rfl,y⟩:=y
   obtain⟨w,hx,rfl⟩:=y ws sq2
   obtain⟨dx,hdx,rx⟩:=rs2.get hx
   rw[Zgl,Zf8 hlt] at hdx
   cases hdx
   obtain⟨ss',tg,go⟩:=hs F1 i _ ss1 (S.fl.trans e1.gf) (Zf8 hlt) h2
   have e3:Ext F2 H' (upd F2 T0 (.tup [.int i,w])) (upd H' T0 (.tup [.int i,w])):=(Ext.refl S2.ext.fh).newF hf
   have rt:Rep K (upd F2 T0 (.tup [.int i,w])) (.tup [.int i,enc xs[i]]) (.ref T0):=Rep.tupN (zan) (Reps.cons Rep.int (Reps.cons (rx.mono e3.gf) Reps.nil))
   exact tg _ _ U' _ _ (S2.ext2 e3) rt fun U3 S3=>go _ (fun ss h=>zvy h) _ _ U3 S3
  .have e:i=xs.length:=by lia
   subst e
   exact .inl ⟨⟨ws,sq2,hlen⟩,hd ss1 h2 F2 H' U' (S2.lower (S.fl.trans e1.gf))⟩
end
end L2
namespace L2
open PySem PySem.Spec PyProof.Rows
section
variable{X:Cx}{e:Expr}{ta:TA}{elts:List Expr}{kk:Nat}{tp p pos:Pos}
theorem zp9{body:List Stmt}{h₀:Zxz}{hs:List Zxz}{t:TS}(hx:X.xe=fun _ _=>False)(hb:PSs X body t):PS X (.Try body (h₀::hs) [] [] pos) t:=by
 intro pins s U H D I h
 refine wpAny_Try_except (Ziv (hb pins s U H D I h) (fun f s1 q=>?_) fun e s1 z=>?_)
 .cases f with
  | next=>exact Zl7 q
  | _=>exact q
 .rw[hx] at z;exact z.elim
end
open AutoSeq1 (wpAny_loadPart')
theorem zi4(a b:Zf9):checkTypeCall "enumerate" ⟨[a],[("start", b)]⟩=pure ():=by kernel_rfl
theorem zkd(a b:Zf9):Zvp "enumerate.__new__" ⟨[.type "enumerate", a],[("start", b)]⟩=pure ():=by kernel_rfl
theorem zn0(l:Addr)(items:Array Zf9)(n:Nat)(dct:Option Addr)(sl:Array (Option Zf9))(m:Int)(hfit:Zia m=true)(t:Tok) :
  Meets (Zhb.«enumerate.__new__» ⟨[.type "enumerate", .ref l],[("start", .int m t)]⟩) (fun _ R s=>s.heap.get? l=some { cls:=.type "list", dict:=dct,data:=.seq items n,slots:=sl } /\
   R (.ok (.ret (.ref (s.heap.push { cls:=.type "list_iterator", data:=.fields #[.ref l,.int 0 0] }).objs.size)))
    { s with heap:=(s.heap.push { cls:=.type "list_iterator", data:=.fields #[.ref l,.int 0 0] }).push { cls:=.type "enumerate", data:=.fields #[.none,.bool false,.ref s.heap.objs.size,Zjh m,.none,.none] } }) :=
 .of_wp fun prog w A R s h=>by
  obtain⟨hp,g,d,tk,os⟩:=s
  obtain⟨hl,h⟩:=h
  have hsub:=sub_enumerate;have hL:Zwd (Zqv ⟨hp,g,d,tk,os⟩) l items:=⟨_,hl,rfl,n,rfl⟩
  wp_walk using Zjy hl
  refine wpAny_stack_any fun st=>Zgb ?_
  split
  .rename_i c _ _ _ _ _
   cases (c == Ziw "enumerate") <;> (wp_walk using Zjy hl,Zjd hL;simp only[hfit,Zle,Zgo,if_false];wp_walk using Zjy hl,Zjd hL;exact⟨_,rfl,h⟩)
  .wp_walk using Zjy hl,Zjd hL
   simp only[hfit,Zle,Zgo,if_false]
   wp_walk using Zjy hl,Zjd hL
   exact⟨_,rfl,h⟩
noncomputable abbrev zqb(h:Heap)(l:Addr)(m:Int):Heap:=(h.push { cls:=.type "list_iterator", data:=.fields #[.ref l,.int 0 0] }).push { cls:=.type "enumerate", data:=.fields #[.none,.bool false,.ref h.objs.size,Zjh m,.none,.none] }
theorem zi1(a b c:Zf9):Zt9 "object.__init__" ⟨[a,b],[("start", c)]⟩:=by unfold Zt9;kernel_rfl
theorem zqq(obj a c:Zf9):Meets (Zhb.«object.__init__» ⟨[obj,a],[("start", c)]⟩) (fun _ R s=>s.TypeIs obj "enumerate" /\ R (.ok (.ret .none)) s):=by
 refine Meets.of_wp fun prog w A R s hs=>?_
 obtain⟨hT,hq⟩:=hs
 have hl:=Zon.init.lookup;have hm:=Zon.made
 have hne:(some "enumerate.__new__" != some "object.__new__")=true:=by decide
 repeat (any_goals (first | assumption | wp_step))
 exact⟨_,rfl,hq⟩
section
variable{prog:Zgy}{w:Zhn}{A:Zhe}{E:Zf9->Zgc->Prop}{s:Zgc}
theorem ztr{l:Addr}{items:Array Zf9}{m:Int}{t:Tok}{Q:Zf9->Zgc->Prop}(hfit:Zia m=true)(hL:s.heap.IsList l items)
  (h:∀h',IsEnum h' (s.heap.objs.size+1) s.heap.objs.size m .none->h'.IsListIter s.heap.objs.size l 0->h'.objs.size=s.heap.objs.size+2 ->
   (∀b o,s.heap.get? b=some o->h'.get? b=some o)->Q (.ref (s.heap.objs.size+1)) { s with heap:=h' }) :
  Zgr (Zg9 prog w) A (call (.type "enumerate") [.ref l] [("start", .int m t)]) Q E s:=by
 obtain⟨⟨c,dct,dt,sl⟩,hl,hc,n,hd⟩:=hL
 replace hc:c= .type "list" := hc;replace hd:dt= .seq items n:=hd
 subst hc hd
 have ft:=Zon
 obtain⟨c,tl,hmro⟩:=ft.mro
 have hmade:=ft.made;have hsub:=ft.sub;have hct:=zi4 (.ref l) (.int m t)
 refine Zra (Zqp ?_)
 show Zgr _ _ (callAny (.type "enumerate") _) _ _ _
 refine Zgb ⟨Zr9 _ (by decide +kernel),Zkc Zt3 ?_⟩
 rw[Zq9 (Zsp "enumerate" [.ref l] _) (units_type_call_type "enumerate" [.ref l] _)]
 have h1:=ft.notType;have h2:=ft.canCreate
 repeat (any_goals (first | assumption | wp_step))
 have hz:(s.heap.push { cls:=.type "list_iterator", data:=.fields #[.ref l,.int 0 0] }).objs.size=s.heap.objs.size+1:=Zg4 ..
 have he:IsEnum ((s.heap.push { cls:=.type "list_iterator", data:=.fields #[.ref l,.int 0 0] }).push
   { cls:=.type "enumerate", data:=.fields #[.none,.bool false,.ref s.heap.objs.size,Zjh m,.none,.none] }) (s.heap.objs.size+1) s.heap.objs.size m .none:=by
  have:=Zgj (s.heap.push { cls:=.type "list_iterator", data:=.fields #[.ref l,.int 0 0] })
   (o:={ cls:=.type "enumerate", data:=.fields #[.none,.bool false,.ref s.heap.objs.size,Zjh m,.none,.none] }) rfl
  rw[hz] at this;exact this
 have hu:=h _ he ⟨_,Zga _ (Zgj _ rfl),rfl,rfl⟩ (by rw[Zg4,hz]) fun b o x=>Zga _ (Zga _ x)
 have hT:Zte { s with heap:=zqb s.heap l m } (.ref (s.heap.objs.size+1)) "enumerate" := ⟨_,he,rfl⟩
 have hm:=zn0 l items n dct sl m hfit t prog w A.in1 (fun r s'=>r= .ok (.ret (.ref (s.heap.objs.size+1)))/\s'={ s with heap:=zqb s.heap l m }) s ⟨hl,by rw[hz],rfl⟩
 refine Zkr (Zn4 (R:=fun r s'=>r= .ok (.ret (.ref (s.heap.objs.size+1)))/\s'={ s with heap:=zqb s.heap l m }) ft.plain F.entry_enumerate_new (Zql (zkd _ _) hm)) fun r s₁ hr=>?_
 obtain⟨rfl,rfl⟩:=hr
 have hli:=ft.init.lookup;have hbi:=ft.init.bind (.ref (s.heap.objs.size+1))
 show Zgr _ _ _ _ _ _
 repeat (any_goals (first | assumption | wp_step))
 have hm2:=zqq (.ref (s.heap.objs.size+1)) (.ref l) (.int m t) prog w A.in1 (fun r s'=>r= .ok (.ret .none)/\s'={ s with heap:=zqb s.heap l m }) { s with heap:=zqb s.heap l m } ⟨hT,rfl,rfl⟩
 refine Zkr (Zn4 (R:=fun r s'=>r= .ok (.ret .none)/\s'={ s with heap:=zqb s.heap l m }) ft.init.plain F.entry_object_init (ft.init.check _ _ _ _ _ _ _ _ hT (zi1 _ _ _) hm2)) fun r₂ s₂ hr₂=>?_
 obtain⟨rfl,rfl⟩:=hr₂
 show Zgr _ _ _ _ _ _
 repeat (any_goals (first | assumption | wp_step))
end
theorem zit{prog:Zgy}{w:Zhn}{A:Zhe}{it:Addr}{fp:List Addr}{n:Nat}{P:Nat->Zf9->Prop}{St:Nat->Heap->Prop}(m:Nat)(D:Zpq prog w A it fp n P St) :
  Zpq prog w A it fp (n+m) (fun i v=>P (i - m) v) (fun i h=>m<=i/\St (i - m) h) where
 live:=fun i h st=>D.live _ _ st.2
 frame:=fun i h h' st k=>⟨st.1,D.frame _ _ _ st.2 k⟩
 item:=fun i s Q E hi st hQ=>D.item (i - m) s Q E (by omega) st.2 fun x h' tk a b c=>hQ x h' tk a ⟨by lia,by rw[show i+1 - m=(i - m)+1 by have:=st.1;lia];exact b⟩ c
 done:=fun s Q E st hE=>D.done s Q E (by simpa using st.2) hE
noncomputable def IteN(K:Zf6)(m:Nat)(a:Addr):It :=
 ⟨fun i H=>∃xs x,SqL K H a xs/\xs[i]? = some x,fun i H x H'=>∃T0 vs,x= .ref T0/\H T0=none/\H'=upd H T0 (.tup vs) /\ ∀xs,SqL K H a xs-> ∃y,xs[i]? = some y/\vs=[.int ((i+m:Nat):Int),y],fun i H=>∃xs,SqL K H a xs/\xs.length=i⟩
theorem zp5{P:Zgy}{w:Zhn}{K:Zf6}{elts:List Expr}{kk:Nat}{tp:Pos}(m:Nat)(a it e:Addr)(hae:a≠e)(hai:a≠it)(hei:e≠it) :
  Turn P w K (.Tuple elts kk tp) (IteN K m a) [e,it] e (fun i h=>(∃old,IsEnum h e it ((i+m:Nat):Int) old)/\h.IsListIter it a i) where
 mem:=by simp
 obj:=fun i h st b hb=>by
  obtain⟨⟨old,ho⟩,oi,hoi,_,hdi⟩:=st
  rcases Zgh.mp hb with rfl | hb
  .exact⟨_,ho,fun v z=>by cases z⟩
  .rw[Zgn.mp hb]
   exact⟨oi,hoi,fun v z=>by rw[hdi] at z;cases z⟩
 keep:=fun i h h' st k=>⟨let ⟨old,ho⟩:=st.1;⟨old,k e (by simp) _ ho⟩,st.2.at fun o x=>k it (by simp) o x⟩
 item:=by
  intro X hP hw hK hc i pins s U H E I hf st hg
  subst hP hw hK
  obtain⟨xs,x,hq,hx⟩:=hg
  obtain⟨its,rv,p,hz⟩:=I.list hq
  obtain⟨u,hu,ru⟩:=rv.get hx
  have hil:i<its.length:=(Zgg.mp hu).1
  have W0:=Zlz (A:=X.A) (zit m (Zmy (prog:=X.prog) (w:=X.w) (A:=X.A.in1) (show X.A.in1.handled=none from I.ok.hd hc) it a hai its.toArray)) e hei (by simp[hei,Zho hae]) (by simp)
  refine W0.item (i+m) s _ _ (by simpa using hil) ⟨st.1,Zty _ _,by rw[Zsh];exact⟨st.2,p.isList⟩⟩ fun T0 vals h1 tk hp hle ht mid kk=>?_
  obtain⟨t,v,hv,rfl⟩:=hp
  have hv:its[i]? = some v:=by simpa using hv
  rw[hu] at hv;cases hv
  have fresh:H T0=none:=I.hok.fresh hle
  have I1:Inv X pins U (upd H T0 (.tup [.int ((i+m:Nat):Int),x])) { s with heap:=h1,toks:=tk }:=I.turnsT (wr:=[e,it]) hf kk hle ht (.cons ⟨t,rfl⟩ (.cons ru .nil)) (by rw[Zgq];simp)
  refine⟨.ref T0,rfl,W0.go elts _ tp (i+m) T0 _ _ _ mid fun h2 st2 k2=>?_⟩
  have hlt:∀b∈[e,it],b≠T0:=fun b hb z=>by
   obtain⟨⟨old,ho⟩,oi,hoi,_,hdi⟩:=st
   rcases Zgh.mp hb with rfl | hb
   .exact absurd (Zgw (Zgk ho) (z ▸ hle)) (Zhu _)
   .rw[Zgn.mp hb] at z
    exact absurd (Zgw (Zgk hoi) (z ▸ hle)) (Zhu _)
  have hf1:∀b∈[e,it],FpOk X pins (upd H T0 (.tup [.int ((i+m:Nat):Int),x])) b:=fun b hb=>⟨by rw[zak (hlt b hb)];exact(hf b hb).1,(hf b hb).2⟩
  exact⟨.ref T0,_,I1.turns (t':=tk) hf1 k2,rfl,⟨T0,_,rfl,fresh,rfl,fun ys hy=>⟨x,by rw[I.list_inj hy hq];exact hx,rfl⟩⟩,⟨by rw[show i+1+m=i+m+1 by omega];exact st2.1,by have:=st2.2.2.1;rw[show i+m+1 - m=i+1 by omega] at this;exact this⟩,fun b hb=>by rw[zak (hlt b hb)];exact(hf b hb).1⟩
 done:=by
  intro X hP hw hK hc i pins s U H E I hf st hg
  subst hP hw hK
  obtain⟨xs,hq,hx⟩:=hg
  obtain⟨its,rv,p,hz⟩:=I.list hq
  have hl:=rv.length
  have hs:its.toArray.size=i:=by simp;lia
  have W0:=Zlz (A:=X.A) (zit m (Zmy (prog:=X.prog) (w:=X.w) (A:=X.A.in1) (show X.A.in1.handled=none from I.ok.hd hc) it a hai its.toArray)) e hei (by simp[hei,Zho hae]) (by simp)
  rw[hs] at W0
  exact W0.done s _ _ ⟨st.1,Zty _ _,by rw[Zsh];exact⟨st.2,p.isList⟩⟩ fun h1 tk kk=>⟨rfl,I.turns (wr:=[e,it]) hf kk⟩
 self:=fun A i s Q E st h=>Zmn st.1.choose_spec h
section
variable{M:Zsy}{A:Zhe}{E:Zf9->Zgc->Prop}{s:Zgc}{env:Env}
theorem zis{pos:Pos}{T:String}{e:Expr}{rest:List Expr}{kws:List Zm8}{Q:Zf9->Zgc->Prop}
  (h:Zgr M A (Zru (Zkj pos (Zhf (e::rest) env))) (fun vs s₁=>Zgr M A (evalAll ((Zk2 pos (Zji kws env)).map (·.2)))
   (fun kvs s₂=>Zgr M A (call (.type T) vs (((Zk2 pos (Zji kws env)).filterMap (·.1)).zip kvs)) Q E s₂) E s₁) E s)
  (he:Zkj pos (Zhf (e::rest) env)=(false,eval e env)::Zkj pos (Zhf rest env)) (hplain:(Zkj pos (Zhf (e::rest) env)).any (·.1)=false)
  (hall:(Zk2 pos (Zji kws env)).all (·.1.isSome)=true) (hkw:(Zk2 pos (Zji kws env)).any (·.1.isNone)=false) :
  Zgr M A (Zxs pos (.type T) [] (Zkj pos (Zhf (e::rest) env)) (Zk2 pos (Zji kws env))) Q E s:=by
 have h2:Zgr M A (evalArgs (.type T) true (Zkj pos (Zhf (e::rest) env)) (Zk2 pos (Zji kws env))) (fun a s₁=>Zgr M A (call (.type T) ([]++a.pos) a.kw) Q E s₁) E s:=by
  rw[he] at h ⊢
  exact evalArgs_kwB hall h
 unfold Zxs
 refine Zf5 (Zja (Ziv h2 (fun a s₁ h₁=>Zf5 (Zmz ?_)) fun _ _ x=>x))
 simp only[hplain,hkw,Zn2];refine Zf5 (Zgb ?_)
 exact Zf5 (Ziv h₁ (fun r s₂ hr=>Zf5 (Zja (wpAny_point (Zgb hr)))) fun _ _ x=>x)
end
section
variable{X:Cx}{e ke:Expr}{ta:TA}{elts:List Expr}{kk:Nat}{tp p pos kp:Pos}
noncomputable def iEnN(K:Zf6)(ta:TA)(te:TE):TI:=fun U H R=>ta U H fun vs H1=>te U H1 fun z H2=>∃a m,vs=[.ref a]/\z= .int (m:Nat)/\Zia m=true/\(∃xs,SqL K H2 a xs)/\R (IteN K m a) H2
theorem zpi{te:TE}(hg:Gl X "enumerate")(hm:X.mg "enumerate" = none)(hA:PA X [e] ta)(hk:PE X ke te)(hs:Zhf [e] X.env=[(false,eval e X.env)]:=by rfl) :
  PI X (.Tuple elts kk tp) (.Call (.Name "enumerate" p) [e] [⟨some "start", ke,kp⟩] pos) (iEnN X.K ta te):=by
 intro pins s U H R I h
 refine Zk1 (zh1 I hg hm Zw5 ?_)
 refine zis (rest:=[]) (thn (hA pos pins s U H _ I h) fun us s1 hz9=>?_) (by rw[hs];rfl) (by rw[hs];rfl) rfl rfl
 obtain⟨vs,H1,I1,r1,q1⟩:=hz9
 refine thn (zyy hk yap pos pins s1 U H1 (fun zs H2=>match zs with
  | [z]=>∃a m,vs=[.ref a]/\z= .int (m:Nat)/\Zia m=true/\(∃xs,SqL X.K H2 a xs)/\R (IteN X.K m a) H2
  | _=>False) I1 q1) fun ws s2 ⟨zs,H2,I2,r2,q2⟩=>?_
 match zs,q2 with
 | [z],⟨a,m,e1,e3,hfit,hl,q⟩ =>
 subst e1 e3
 obtain⟨w',rfl,rw'⟩:=zg5 r2
 obtain⟨t,rfl⟩:=rw'
 obtain⟨u,rfl,ru⟩:=zg5 r1
 cases ru
 obtain⟨xs,hq⟩:=hl
 obtain⟨its,rv,p,hz⟩:=I2.list hq
 refine ztr hfit p.isList fun h1 hen hit hsz hk=>?_
 have I3:Inv X pins U H2 { s2 with heap:=h1 }:=I2.kept (t':=s2.toks) hk
 refine Zmn hen ?_
 have hlt:a<s2.heap.objs.size:=by obtain⟨o,ho,_⟩:=p.isList;exact Zgk ho
 refine⟨s2.heap.objs.size+1,[s2.heap.objs.size+1,s2.heap.objs.size],_,_,H2,rfl,I3,zp5 m a s2.heap.objs.size (s2.heap.objs.size+1) (Zgu (Zi5 hlt)) (Zgu hlt) (Ztf _),⟨⟨_,by rw[Zm7];exact hen⟩,hit⟩,fun b hb=>?_,q⟩
 rcases Zgh.mp hb with rfl | hb
 .exact I2.fpOk (Zk3 _) (I2.hok.fresh (Zk3 _))
 .rw[Zgn.mp hb]
  exact I2.fpOk (Zgf _) (I2.hok.fresh (Zgf _))
end
end L2
namespace L2
open PySem PySem.Spec PyProof.Rows PySem.Builtin PySem.Builtin.Str
section
variable{X:Cx}
noncomputable def zn3:V->List V->Hp->VK->Prop:=fun x vs H Q=>∃(l:List Nat) (z:Nat),x= .str (T l)/\vs=[.str (T [z])]/\Q (.bl (decide (l.head? = some z))) H
theorem zwu(l:List Nat)(z:Nat):Zua (T l) (T [z])=decide (l.head? = some z):=by
 have h:=zsr [] l z
 rw[Zll,Zhj] at h
 unfold Zua
 rw[h,zbm,zbm]
 cases l with
 | nil=>rfl
 | cons x l=>simp
theorem zj0:MtR X "str.startswith" zn3:=by
 intro pins s U H x xs v us Q I rx rs h
 obtain⟨l,z,rfl,rfl,q⟩:=h
 obtain⟨t,rfl⟩:=rx
 obtain⟨u,rfl,ru⟩:=Vals.one rs
 obtain⟨u,rfl⟩:=ru
 refine SC.startswith ⟨.bl (decide (l.head? = some z)),H,I,?_,q⟩
 rw[zwu];rfl
noncomputable def zk7(K:Zf6):V->List V->Hp->VK->Prop:=fun x vs H Q=>∃z p ys,x= .str z/\vs=[.ref p]/\SqT K H p (ys.map V.str)/\z.length<=16/\(ys.map (·.length)).sum+ys.length<=1048576/\Q (.str (Zpa z ys)) H
theorem zve:MtR X "str.join" (zk7 X.K):=by
 intro pins s U H x xs v us Q I rx rs h
 obtain⟨z,p,ys,rfl,rfl,hl,hz,hw,q⟩:=h
 obtain⟨t,rfl⟩:=rx
 obtain⟨u,rfl,ru⟩:=Vals.one rs
 cases ru
 obtain⟨its,r,pl,_⟩:=I.tuple hl
 refine join_tupleW pl (ys:=ys) (by simpa using zik r) hz hw fun t' k=>⟨.str _,H,I.tok _,⟨_,by show _=Znq (Zpa z ys) t';rw[<- Zp7];rfl⟩,q⟩
end
noncomputable def zb8(z:Nat)(l:List Nat):List (List Nat):=zaz z (l.length+1) l
theorem zvs{z:Nat}{l:List Nat}(hz:z<128)(hl:∀c∈l,c<128):Zn6 (T l) (T [z])=(zb8 z l).map T:=by
 have hp:=zhz z (l.length+1) l
 have k1:strKind (T l)=1:=zos hl
 have k2:strKind (T [z])=1:=zos (by intro c hc;rw[Zgn.mp hc];exact hz)
 unfold Zn6 zb8
 rw[zbm] at hp ⊢
 split
 .rename_i h
  rw[k1,k2,zbm] at h
  simp at h
  subst h
  rfl
 .split
  .rename_i h2 h
   rw[<- hp]
   have e:occurrences (T l) (T [z]) 0 l.length (l.length+1)=[]:=Zs1.mp h
   rw[e]
   have:=zhx [] l []
   simp only[Zll,Zit,Zhj,Zm7] at this
   show[T l]=[strSub (T l) 0 (T l).length]
   rw[zbm,this]
  .exact hp
theorem zqe{z n:Nat}:∀{l:List Nat},z∉l->zaz z n l=[l]:=fun {l} h=>by
 cases n with
 | zero=>rfl
 | succ n =>
  rcases zdi (z:=z) l with ⟨h1,_⟩ | ⟨b,_,h2,_⟩
  .rw[zaz,h1]
  .exact absurd (by rw[h2];simp) h
theorem zn4{z n:Nat}{a b:List Nat}(ha:z∉a):zaz z (n+1) (a++z::b)=a::zaz z n b:=by
 have tw:(a++z::b).dropWhile (· != z)=z::b/\(a++z::b).takeWhile (· != z)=a:=by
  induction a with
  | nil=>simp
  | cons w x ih =>
   have hw:w≠z:=fun e=>ha (by simp[e])
   have:=ih fun h=>ha (Zgi _ h)
   rw[Zk9,Zjw,Zlj]
   simp[hw,this]
 rw[zaz,tw.1,tw.2]
theorem ze9{z:Nat}:∀{ps:List (List Nat)} {n:Nat},ps≠[]->(∀p∈ps,z∉p)->ps.length<=n+1->zaz z n (glue [z] ps)=ps
 | [],_,h,_,_=>absurd rfl h
 | [p],n,_,hz,_=>by
  have:glue [z] [p]=p:=rfl
  rw[this];exact zqe (hz p (by simp))
 | p::q::r,0,_,_,hn=>by simp at hn
 | p::q::r,n+1,_,hz,hn=>by
  have:glue [z] (p::q::r)=p++z::glue [z] (q::r):=by simp[glue]
  rw[this,zn4 (hz p (by simp)),ze9 (by simp) (fun x hx=>hz x (Zgi _ hx)) (by simpa using hn)]
section
variable{K:Zf6}{G Hz L:Hp}{ss:List Sl}{ta tb tc t t1 t2 te:TE}{ds:List D}{E:Ends}
theorem zr7{l:List Nat}{z:Nat}(a:EvB K G Hz L ss ta (.str l))(b:EvB K G Hz L ss t (.str [z])):Ev K G Hz L ss (tBM K "str" zn3 ta (za7 t tNil)) (.bl (decide (l.head? = some z))):=fun F H U Q S q =>
 a F H U _ S fun v F1 H1 e1 r1=>by
  rw[r1.of_str]
  refine⟨rfl,b F1 H1 U _ (S.ext2 e1) fun v2 F2 H2 e2 r2=>?_⟩
  exact⟨l,z,rfl,by rw[r2.of_str],q _ _ _ (e1.trans e2) Rep.bl⟩
theorem zgj{l:List Nat}{z:Nat}(a:EvB K G Hz L ss ta (.str l))(b:EvB K G Hz L ss t (.str [z]))(hl:l.length+2<=sizeLine):EvO K G Hz L ss (tBM K "str" zxe ta (za7 t tNil)) ((zb8 z l).map D.str):=fun F H U Q S q =>
 a F H U _ S fun v F1 H1 e1 r1=>by
  rw[r1.of_str]
  refine⟨rfl,b F1 H1 U _ (S.ext2 e1) fun v2 F2 H2 e2 r2=>?_⟩
  have ha:=r1.asc
  have hz:=r2.asc
  rw[r2.of_str]
  refine⟨T l,T [z],rfl,rfl,by rw[zbm];rfl,by rw[zbm];exact hl,fun p hp=>?_⟩
  rw[zvs (hz z (by simp)) ha]
  have e:=e1.trans e2
  exact q p _ F2 _ (e.newO hp) (e.hh.free hp) (e.fh.free hp) zan (zz5 fun m hm c hc=>ha c (zig hm hc))
theorem zu4{z:List Nat}{ls:List (List Nat)}(a:EvB K G Hz L ss ta (.str z))(b:Ev K G Hz L ss t (.tup (ls.map D.str)))(hz:z.length<=16)(hw:(ls.map Zjk).sum+ls.length<=1048576):Ev K G Hz L ss (tBM K "str" (zk7 K) ta (za7 t tNil)) (.str (glue z ls)):=fun F H U Q S q =>
 a F H U _ S fun v F1 H1 e1 r1=>by
  rw[r1.of_str]
  refine⟨rfl,b F1 H1 U _ (S.ext2 e1) fun v2 F2 H2 e2 r2=>?_⟩
  obtain⟨p,vs,rfl,sq,rs⟩:=r2.of_tup
  obtain⟨rfl,ha⟩:=rs.strs
  refine⟨T z,p,ls.map T,rfl,rfl,SqT.same e2.fh sq,by rw[zbm];exact hz,?_,?_⟩
  .rw[Zii,Zge,show((fun x:Str=>x.length)∘T)=Zjk from funext fun l=>zbm l];exact hw
  .rw[zro]
   exact q _ _ _ (e1.trans e2) (Rep.str (zkq r1.asc ha))
theorem zr5{tl:TE}(a:Ev K G Hz L ss tl (.lst ds)):EvI K G Hz L ss (iEnN K (za7 tl tNil) (tC (.int 1))) ds.length fun i=>.tup [.int ((i+1:Nat):Int),ds.getD i .non]:=fun F H U R S q =>
 a F H U _ S fun v F1 H1 e1 r1=>by
  obtain⟨p,vs,rfl,sq,rs⟩:=r1.of_lst
  refine⟨p,1,rfl,rfl,by decide,⟨vs,SqL.same e1.fh sq⟩,q F1 H1 _ e1 fun F2 H2 f1 h1 fh=>?_⟩
  have rp:Rep K F2 (.lst ds) (.ref p):=r1.mono f1
  obtain⟨ws,sq2,rs2⟩:=rp.itl fh
  have hlen:=rs2.length
  refine⟨fun i hi=>⟨⟨ws,ws[i]'(by lia),sq2,Zf8 _⟩,fun x H3 y=>?_⟩,⟨ws,sq2,by lia⟩⟩
  obtain⟨T0,us,rfl,hf,rfl,y⟩:=y
  obtain⟨w,hx,rfl⟩:=y ws sq2
  obtain⟨dx,hdx,rx⟩:=rs2.get hx
  have e3:Ext F2 H2 (upd F2 T0 (.tup [.int ((i+1:Nat):Int),w])) (upd H2 T0 (.tup [.int ((i+1:Nat):Int),w])):=(Ext.refl fh).newF hf
  refine⟨_,e3,?_⟩
  show Rep K _ (.tup [.int ((i+1:Nat):Int),ds.getD i .non]) _
  rw[Zf7,hdx]
  exact Rep.tupN (zan) (Reps.cons Rep.int (Reps.cons (rx.mono e3.gf) Reps.nil))
end
noncomputable def SpGO{α:Type}(K:Zf6)(pre:α->List D->Prop)(res:α->List D):Sp:=fun vs H Q _=>∃(G:Hp) (ds:List D) (x:α),Same G H/\Reps K G ds vs/\pre x ds /\
 ∀p ws G' H',Ext G H G' H'->H p=none->G' p=none->H' p=some (.lst ws)->Reps K G' (res x) ws->Q (.ref p) H'
section
variable{α:Type}{K:Zf6}{H:Hp}{vs:List V}{Q:VK}{X:XK}{N:List Str}{t:TS}{pre:α->List D->Prop}{res:α->List D}
theorem zz3(h:SpGO K pre res vs H Q X)(hN:vs.length<=N.length)(body:∀G ds x,pre x ds->RtO K G H Q (res x)->Go K G H G { nx:=fun _ H'=>Q .non H',rt:=Q } (slots N.length ds) t):t { nx:=fun _ H'=>Q .non H',rt:=Q } (start N vs) H:=by
 obtain⟨G,ds,x,sm,r,hp,q⟩:=h
 exact body G ds x hp (fun p ws F H' e h1 h2 h3 h4=>q p ws F H' e h1 h2 h3 h4) G H _ (zdk sm r hN)
theorem zpf{n:Nat}(hpre:∀x ds,pre x ds->ds.length=n)(h:SpGO K pre res vs H Q X):vs.length=n:=by
 obtain⟨G,ds,x,sm,r,hp,q⟩:=h
 rw[<- r.length];exact hpre x ds hp
end
section
variable{α:Type}{K:Zf6}{G Hz L:Hp}{ss:List Sl}{t:TA}{ds:List D}{E:XK}{pre:α->List D->Prop}{res:α->List D}
theorem zjt(x:α)(a:EvAF K G Hz L ss t ds)(hp:pre x ds):EvO K G Hz L ss (ziw (SpGO K pre res) [] E t) (res x):=fun F H U Q S q =>
 a F H U _ S fun vs F1 H1 e1 r1=>⟨F1,ds,x,e1.fh,by rw[Zit];exact r1,hp,fun p ws G' H' e2 h1 h2 h3 r=>q _ _ _ _ (e1.trans e2) (e1.hh.free h1) h2 h3 r⟩
end
end L2
namespace L2
open PySem PySem.W PySem.Spec PyProof.Rows
structure ITell(K:Zf6)(C:Addr):Prop where
 ha:findIn K (.ref C) "__class__" = some (some (.builtin "object.__class__"))
 hn:specialIn K (.builtin "object.__class__") "__get__" = some (some (.builtin "getset_descriptor.__get__"))
 tk:takesIn K (.builtin "object.__class__")=some true
 hm:mroIn K C (.type "object")=some true
noncomputable def delS(H:Hp)(as:List Addr):Hp:=fun b=>if b∈as then none else H b
theorem zrt{H:Hp}{as:List Addr}{b:Addr}{o:HO}(h:delS H as b=some o):b∉as/\H b=some o:=by
 unfold delS at h
 by_cases z:b∈as
 .rw[if_pos z] at h;cases h
 .rw[if_neg z] at h;exact⟨z,h⟩
theorem zrn{H:Hp}{as:List Addr}{b:Addr}(h:b∉as):delS H as b=H b:=by unfold delS;rw[if_neg h]
structure Dsk where
 x:Addr
 dx:Addr
 b:Addr
 r:Addr
noncomputable def Dsk.as(a:Dsk):List Addr:=[a.x,a.dx,a.b,a.r]
noncomputable def kW(K:Zf6)(C:Addr)(n1 n2:Str)(a:Dsk)(kvs:DD):Hp->Hp->Prop:=fun F H=>H a.x=some (.ins C a.dx [(n1,.ref a.b),(n2,.ref a.r)])/\H a.dx=some (.own a.x)/\(∃xs,H a.b=some (.dK xs)/\Dks K F kvs xs)/\H a.r=some (.lst [])
noncomputable def ksl(K:Zf6)(C:Addr)(n1 n2:Str)(a:Dsk)(kvs:DD):Sl:=.g (.ref a.x) a.as (kW K C n1 n2 a kvs)
theorem znz(K:Zf6)(C:Addr)(n1 n2:Str)(a:Dsk)(kvs:DD):Stab a.as (kW K C n1 n2 a kvs):=fun F1 H1 F2 H2 sf hh ⟨h1,h2,⟨xs,h3,dk⟩,h4⟩ =>
 ⟨by rw[hh a.x (by simp[Dsk.as])];exact h1,by rw[hh a.dx (by simp[Dsk.as])];exact h2,⟨xs,by rw[hh a.b (by simp[Dsk.as])];exact h3,dk.mono sf⟩,by rw[hh a.r (by simp[Dsk.as])];exact h4⟩
theorem zng{K:Zf6}{C:Addr}{n1 n2:Str}{a:Dsk}{kvs:DD}{F H:Hp}(h:kW K C n1 n2 a kvs F H):∀q∈a.as,∃o,H q=some o/\NT o:=by
 obtain⟨h1,h2,⟨xs,h3,_⟩,h4⟩:=h
 intro q hq
 simp only[Dsk.as,Zgh,Zhq,or_false] at hq
 rcases hq with rfl | rfl | rfl | rfl
 .exact⟨_,h1,trivial⟩
 .exact⟨_,h2,trivial⟩
 .exact⟨_,h3,trivial⟩
 .exact⟨_,h4,trivial⟩
noncomputable def SpK{α:Type}(K:Zf6)(C:Addr)(n1 n2:Str)(pre:α->DD->List D->Prop)(res:α->DD->D)(new:α->DD->DD):Sp:=fun vs H Q _=>∃G a kvs ds ws z,Same G H/\vs= .ref a.x::ws/\a.as.Nodup/\(∀q∈a.as,G q=none)/\kW K C n1 n2 a kvs G H/\Reps K G ds ws/\pre z kvs ds /\
 ∀v G' H',Ext G (delS H a.as) G' H'->(∀q∈a.as,G' q=none)->kW K C n1 n2 a (new z kvs) G' H'->Rep K G' (res z kvs) v->Q v H'
noncomputable def zs2(C:Addr)(n1 n2:Str):Sp:=fun vs H Q _=>∃(x dx:Addr),vs=[.ref x]/\H x=some (.ins C dx [])/\H dx=some (.own x) /\ ∀b r H',H b=none->H r=none->b≠r->H' x=some (.ins C dx [(n1,.ref b),(n2,.ref r)])->H' b=some (.dK [])->H' r=some (.lst [])->(∀c,c≠x->c≠b->c≠r->H' c=H c)->Q .non H'
noncomputable def RtK(K:Zf6)(C:Addr)(n1 n2:Str)(G Hz:Hp)(rt:VK)(a:Dsk)(kvs:DD)(d:D):Prop:=∀v F H,Ext G Hz F H->(∀q∈a.as,F q=none)->kW K C n1 n2 a kvs F H->Rep K F d v->rt v H
noncomputable def EvY(K:Zf6)(G Hz L:Hp)(ss:List Sl)(t:TE)(d:D)(ss':List Sl):Prop:=∀F H U Q,Sat K G Hz L F H U ss->(∀v F' H',Same F F'->Sat K G Hz L F' H' U ss'->Rep K F' d v->Q v H')->t U H Q
section
variable{K:Zf6}{G Hz L F H:Hp}{ss:List Sl}{U:St}{C:Addr}{n1 n2:Str}{a:Dsk}{kvs:DD}{ds:List D}{ws:List V}{i:Nat}
theorem Sat.getK(S:Sat K G Hz L F H U ss)(hs:ss[i]? = some (ksl K C n1 n2 a kvs)):U[i]? = some (some (.ref a.x))/\a.as.Nodup/\(∀q∈a.as,Hz q=none/\F q=none)/\kW K C n1 n2 a kvs F H:=by
 obtain⟨v,e,ew,ha,hw,st⟩:=S.get hs (by intro z;cases z)
 cases ew
 exact⟨e,S.nd i _ hs,fun q hq=>⟨(ha q hq).1,(ha q hq).2.1⟩,hw⟩
theorem SlOk.ext3{F' H':Hp}{ov:Option V}{s:Sl}{as:List Addr}(h:SlOk K Hz F H ov s)(e:Ext F (delS H as) F' H')(dj:∀p∈s.ads,p∉as):SlOk K Hz F' H' ov s:=by
 have key:∀p o,p∉as->H p=some o->NT o->H' p=some o/\F' p=F p:=fun p o hp h n=>by
  have h2:delS H as p=some o:=by rw[zrn hp];exact h
  exact⟨e.hh p o h2,e.no p o h2 n⟩
 cases s with
 | un=>trivial
 | d x=>obtain⟨v,ev,r⟩:=h;exact⟨v,ev,r.mono e.gf⟩
 | o p xs =>
  obtain⟨ev,h0,fp,vs,hp,r⟩:=h
  obtain⟨k1,k2⟩:=key p _ (dj p (by simp[Sl.ads])) hp trivial
  exact⟨ev,h0,k2.trans fp,vs,k1,r.mono e.gf⟩
 | oo p qs =>
  obtain⟨ev,h0,fp,hp,hq⟩:=h
  obtain⟨k1,k2⟩:=key p _ (dj p (by simp[Sl.ads])) hp trivial
  refine⟨ev,h0,k2.trans fp,k1,fun q hm=>?_⟩
  obtain⟨h0,fp,vs,hp,r⟩:=hq q hm
  obtain⟨k1,k2⟩:=key q.1 _ (dj q.1 (by simp only[Sl.ads,Zgh,Zg5];exact .inr ⟨q,hm,rfl⟩)) hp trivial
  exact⟨h0,k2.trans fp,vs,k1,r.mono e.gf⟩
 | g v as' W =>
  obtain⟨ev,ha,hw,st⟩:=h
  refine⟨ev,fun q hm=>?_,st _ _ _ _ e.gf (fun q hm=>?_) hw,st⟩
  .obtain⟨h0,fp,o,ho,n⟩:=ha q hm
   obtain⟨k1,k2⟩:=key q o (dj q hm) ho n
   exact⟨h0,k2.trans fp,o,k1,n⟩
  .obtain⟨h0,fp,o,ho,n⟩:=ha q hm
   rw[ho];exact(key q o (dj q hm) ho n).1
theorem Sat.writeK{F' H':Hp}{kvs':DD}(S:Sat K G Hz L F H U ss)(hs:ss[i]? = some (ksl K C n1 n2 a kvs))(ex:Ext F (delS H a.as) F' H')(hn:∀q∈a.as,F' q=none)(hw:kW K C n1 n2 a kvs' F' H'):Sat K G Hz L F' H' U (ss.set i (ksl K C n1 n2 a kvs')):=by
 obtain⟨e,nd,h0,_⟩:=S.getK hs
 have hget:U.getD i none=some (.ref a.x):=by rw[Zf7,e];rfl
 have out:∀b o,Hz b=some o->delS H a.as b=some o:=fun b o hb=>by
  rw[zrn fun z=>by rw[(h0 b z).1] at hb;cases hb];exact S.ext.hh b o hb
 refine S.put ⟨S.ext.gf.trans ex.gf,ex.fh,fun b o hb=>ex.hh b o (out b o hb),fun b o hb n=>(ex.no b o (out b o hb) n).trans (S.ext.no b o hb n)⟩ (S.fl.trans ex.gf) rfl (fun _ _=>rfl) (fun _=>?_) nd (fun j s' hj h q hq=>?_) fun j s' hj h=>(S.ok j s' h).ext3 ex fun p hp hq=>S.ne i j _ s' (Zho hj) hs h p hq hp
 .rw[hget]
  exact⟨rfl,fun q hq=>by obtain⟨o,ho,n⟩:=zng hw q hq;exact⟨(h0 q hq).1,hn q hq,o,ho,n⟩,hw,znz K C n1 n2 a kvs'⟩
 .exact S.ne i j _ s' (Zho hj) hs h q hq
theorem Sat.consG{s:Sl}{ov:Option V}(S:Sat K G Hz L F H U ss)(h:SlOk K Hz F H ov s)(nd:s.ads.Nodup)(ha:∀t∈ss,t.ads=[]):Sat K G Hz L F H (ov::U) (s::ss):=by
 refine⟨S.ext,S.fl,by simp[S.len],fun i t ht=>?_,fun i t ht=>?_,fun i j t u hij ht hu p hp hq=>?_⟩
 .cases i with
  | zero=>cases ht;exact h
  | succ i=>exact S.ok i t ht
 .cases i with
  | zero=>cases ht;exact nd
  | succ i=>exact S.nd i t ht
 .cases i with
  | zero =>
   cases j with
   | zero=>exact absurd rfl hij
   | succ j=>rw[ha u (Zgm hu)] at hq;cases hq
  | succ i=>rw[ha t (Zgm ht)] at hp;cases hp
theorem zjh{n:Nat}{ds:List D}:∀s∈slots n ds,s= .un \/ ∃d,s= .d d:=fun s hs=>by
 unfold slots at hs
 rcases Zhl.mp hs with h | h
 .obtain⟨d,_,rfl⟩:=Zg5.mp h;exact .inr ⟨d,rfl⟩
 .exact .inl (Zny.mp h).2
theorem zqn{N:List Str}(sm:Same G H)(nd:a.as.Nodup)(hg:∀q∈a.as,G q=none)(hw:kW K C n1 n2 a kvs G H)(r:Reps K G ds ws)(hN:ws.length+1<=N.length):Sat K G (delS H a.as) G G H (start N (.ref a.x::ws)) (ksl K C n1 n2 a kvs::slots (N.length - 1) ds):=by
 cases N with
 | nil=>simp at hN
 | cons n N =>
  have S:=zdk (N:=N) sm r (by simpa using hN)
  have e:start (n::N) (.ref a.x::ws)=some (.ref a.x)::start N ws:=by
   unfold start;simp
  rw[e,show(n::N).length - 1=N.length by simp]
  have S2:Sat K G (delS H a.as) G G H (start N ws) (slots N.length ds):=by
   refine⟨⟨Same.refl _,sm,fun b o hb=>(zrt hb).2,fun _ _ _ _=>rfl⟩,S.fl,S.len,fun i t ht=>?_,S.nd,S.ne⟩
   have h:=S.ok i t ht
   rcases zjh t (Zgm ht) with rfl | ⟨d,rfl⟩
   .trivial
   .exact h
  refine S2.consG ⟨rfl,fun q hq=>?_,hw,znz K C n1 n2 a kvs⟩ nd fun t ht=>?_
  .obtain⟨o,ho,n⟩:=zng hw q hq
   exact⟨by unfold delS;rw[if_pos hq],hg q hq,o,ho,n⟩
  .rcases zjh t ht with rfl | ⟨d,rfl⟩ <;> rfl
variable{vs:List V}{Q:VK}{X:XK}{N:List Str}{t:TS}{α:Type}{pre:α->DD->List D->Prop}{res:α->DD->D}{new:α->DD->DD}
theorem zej{n:Nat}(hpre:∀z kvs ds,pre z kvs ds->ds.length+1=n)(h:SpK K C n1 n2 pre res new vs H Q X):vs.length=n:=by
 obtain⟨G,a,kvs,ds,ws,z,sm,rfl,nd,hg,hw,r,hp,q⟩:=h
 rw[Zgp,<- r.length];exact hpre z kvs ds hp
theorem zo2(h:SpK K C n1 n2 pre res new vs H Q X)(hN:vs.length<=N.length)(body:∀G Hz a kvs ds z,pre z kvs ds->RtK K C n1 n2 G Hz Q a (new z kvs) (res z kvs)->Go K G Hz G { nx:=fun _ H'=>Q .non H',rt:=Q } (ksl K C n1 n2 a kvs::slots (N.length - 1) ds) t) :
  t { nx:=fun _ H'=>Q .non H',rt:=Q } (start N vs) H:=by
 obtain⟨G,a,kvs,ds,ws,z,sm,rfl,nd,hg,hw,r,hp,q⟩:=h
 exact body G (delS H a.as) a kvs ds z hp (fun v F H' e hn hw r=>q v F H' e hn hw r) G H _ (zqn sm nd hg hw r (by simpa using hN))
end
section
variable{K:Zf6}{G Hz L:Hp}{ss s1 s2:List Sl}{C:Addr}{n1 n2 m:Str}{a:Dsk}{kvs:DD}{ds:List D}{d k:D}{i:Nat}{te ta tb ty tv:TE}{t:TA}{X:XK}{E:Ends}{u u':TS}{α:Type}{pre:α->DD->List D->Prop}{res:α->DD->D}{new:α->DD->DD}
theorem zeq(a:Ev K G Hz L ss te d):EvY K G Hz L ss te d ss:=fun F H U Q S q=>a F H U Q S fun v F' H' e r=>q v F' H' e.gf (S.ext2 e) r
theorem zdr(z:α)(hs:ss[i]? = some (ksl K C n1 n2 a kvs))(hm:([(n1,V.ref a.b),(n2,V.ref a.r)]:List (Str×V)).lookup m=none)(e:EvAF K G Hz L ss t ds)(hp:pre z kvs ds):EvY K G Hz L ss (zsy C m (SpK K C n1 n2 pre res new) [] X (tVar i) t) (res z kvs) (ss.set i (ksl K C n1 n2 a (new z kvs))):=fun F H U Q S q=>by
 obtain⟨e0,_,_,hw⟩:=S.getK hs
 refine⟨_,e0,a.x,a.dx,_,rfl,hw.1,hm,e F H U _ S fun vs F1 H1 e1 r1=>?_⟩
 have S1:=S.ext2 e1
 obtain⟨_,nd,hn,hw1⟩:=S1.getK hs
 exact⟨F1,a,kvs,ds,vs,z,e1.fh,by rw[Zit],nd,fun q hq=>(hn q hq).2,hw1,r1,hp,fun v G' H' ex hn' hw' r=>q v G' H' (e1.gf.trans ex.gf) (S1.writeK hs ex hn' hw') r⟩
theorem zgk{l m:List Nat}(a:EvY K G Hz L ss ta (.str l) s1)(b:EvY K G Hz L s1 tb (.str m) s2):EvY K G Hz L ss (tOp rNe ta tb) (.bl (!decide (l=m))) s2:=fun F H U Q S q =>
 a F H U _ S fun x F1 H1 f1 S1 r1=>b F1 H1 U _ S1 fun y F2 H2 f2 S2 r2=>by
  rw[r1.of_str,r2.of_str];exact⟨rfl,by rw[zha];exact q _ F2 H2 (f1.trans f2) S2 Rep.bl⟩
theorem zrw{l m:List Nat}(a:EvY K G Hz L ss ta (.str l) s1)(b:EvY K G Hz L s1 tb (.str m) s2):EvY K G Hz L ss (tOp rEq ta tb) (.bl (decide (l=m))) s2:=fun F H U Q S q =>
 a F H U _ S fun x F1 H1 f1 S1 r1=>b F1 H1 U _ S1 fun y F2 H2 f2 S2 r2=>by
  rw[r1.of_str,r2.of_str];exact⟨rfl,by rw[zha];exact q _ F2 H2 (f1.trans f2) S2 Rep.bl⟩
theorem zya(a:EvY K G Hz L ss ta (.bl true) s1)(b:EvY K G Hz L s1 tb d s2):EvY K G Hz L ss (zx0 ta tb) d s2:=fun F H U Q S q =>
 a F H U _ S fun x F1 H1 f1 S1 r1=>by
  rw[r1.of_bl]
  exact⟨true,rfl,iteT (b F1 H1 U _ S1 fun y F2 H2 f2 S2 r2=>q y F2 H2 (f1.trans f2) S2 r2)⟩
theorem zjp{b:Bool}(a:EvY K G Hz L ss te (.bl b) s1)(h1:b=true->Go K G Hz L E s1 u)(h2:b=false->Go K G Hz L E s1 u'):Go K G Hz L E ss (tIfS (zwf te) u u'):=fun F H U S =>
 a F H U _ S fun x F1 H1 f1 S1 r1=>by
  rw[r1.of_bl]
  refine⟨b,rfl,?_⟩
  cases b with
  | true=>exact iteT (h1 rfl F1 H1 U S1)
  | false=>exact iteF (h2 rfl F1 H1 U S1)
theorem zx4(a:EvY K G Hz L ss te d s1)(q:RtD K G Hz E.rt d):Go K G Hz L E ss (tRet te):=fun F H U S=>a F H U _ S fun v F1 H1 f1 S1 r1=>q v F1 H1 S1.ext r1
theorem zoh(a:EvY K G Hz L ss te d s1)(h:Nx K G Hz L E.nx s1):Go K G Hz L E ss (zwp te):=fun F H U S=>a F H U _ S fun v F1 H1 f1 S1 r1=>h F1 H1 U S1
theorem zkz(e:EvY K G Hz L ss te d s1)(hs:s1[i]? = some (ksl K C n1 n2 a kvs))(q:RtK K C n1 n2 G Hz E.rt a kvs d):Go K G Hz L E ss (tRet te):=fun F H U S=>e F H U _ S fun v F1 H1 f1 S1 r1=>by
 obtain⟨_,_,hn,hw⟩:=S1.getK hs
 exact q v F1 H1 S1.ext (fun z hz=>(hn z hz).2) hw r1
theorem zz0{rt:VK}(hs:ss[i]? = some (ksl K C n1 n2 a kvs))(q:RtK K C n1 n2 G Hz rt a kvs .non):Nx K G Hz L (fun _ H'=>rt .non H') ss:=fun F H U S=>by
 obtain⟨_,_,hn,hw⟩:=S.getK hs
 exact q .non F H S.ext (fun z hz=>(hn z hz).2) hw Rep.non
theorem zzc(hs:ss[i]? = some (ksl K C n1 n2 a kvs))(c:Cls K C)(n:zde K C n1)(b:EvB K G Hz L ss ty k)(hk:k.isK=true)(hv:valD kvs k=some d):Ev K G Hz L ss (ybl (tFld K (tVar i) n1) ty) d:=fun F H U Q S q=>by
 obtain⟨e,_,_,hw⟩:=S.getK hs
 refine⟨_,e,a.x,C,a.dx,_,.ref a.b,rfl,hw.1,c,n,by simp,b F H U _ S fun v F1 H1 e1 r1=>?_⟩
 obtain⟨_,_,_,_,_,⟨xs,hp,dk⟩,_⟩:=(S.ext2 e1).getK hs
 rcases dk.val hk with ⟨h1,_⟩ | ⟨d',w,h1,h2,rw'⟩
 .rw[h1] at hv;cases hv
 .rw[h1] at hv;cases hv
  refine⟨a.b,w,rfl,?_,q w F1 H1 e1 rw'⟩
  rw[zkt hk r1,<- h2]
  exact DGet.k hp
theorem ztl(hs:ss[i]? = some (ksl K C n1 n2 a kvs))(c:Cls K C)(n:zde K C n1)(b:EvB K G Hz L ss ty k)(hk:k.isK=true):Ev K G Hz L ss (zr8 ty (tFld K (tVar i) n1)) (.bl (!(valD kvs k).isSome)):=fun F H U Q S q =>
 b F H U _ S fun v F1 H1 e1 r1=>by
  obtain⟨e,_,_,h1,_,⟨xs,hp,dk⟩,_⟩:=(S.ext2 e1).getK hs
  refine⟨_,e,a.x,C,a.dx,_,.ref a.b,rfl,h1,c,n,by simp,a.b,valV xs k.key,rfl,by rw[zkt hk r1];exact DGet.k hp,q _ F1 H1 e1 ?_⟩
  have:(valV xs k.key).isSome=(valD kvs k).isSome:=by
   rcases dk.val hk with ⟨h1,h2⟩ | ⟨d',w,h1,h2,_⟩ <;> rw[h1,h2] <;> rfl
  rw[this];exact Rep.bl
theorem zzj(e:EvY K G Hz L ss tv d s1)(hs:s1[i]? = some (ksl K C n1 n2 a kvs))(c:Cls K C)(n:zde K C n1)(b:EvB K G Hz L s1 ty k)(hk:k.isK=true)(hz:kvs.length<sizeLine)(h:Nx K G Hz L E.nx (s1.set i (ksl K C n1 n2 a (putD kvs k d)))):Go K G Hz L E ss (ya0 (tFld K (tVar i) n1) ty tv):=fun F H U S =>
 e F H U _ S fun v F1 H1 f1 S1 r1=>by
  obtain⟨e0,_,_,hw⟩:=S1.getK hs
  refine⟨_,e0,a.x,C,a.dx,_,.ref a.b,rfl,hw.1,c,n,by simp,b F1 H1 U _ S1 fun w F2 H2 e2 r2=>?_⟩
  have S2:=S1.ext2 e2
  obtain⟨_,nd,hn,h1,h2,⟨xs,hp,dk⟩,h4⟩:=S2.getK hs
  have fb:=(hn a.b (by simp[Dsk.as])).2
  simp only[Dsk.as,Zi7,Zgh,Zhq,or_false,not_or] at nd
  refine⟨a.b,_,rfl,by rw[zkt hk r2];exact DPut.k (v:=v) hp (by rw[<- dk.length];exact hz),h F2 _ U (S2.writeK hs ⟨Same.refl _,fun c o hc=>?_,fun c o hc=>?_,fun _ _ _ _=>rfl⟩ (fun q hq=>(hn q hq).2) ⟨?_,?_,⟨_,zan,dk.put hk (zze hk r2) (r1.mono e2.gf)⟩,?_⟩)⟩
  .rw[zak fun z=>by rw[z,fb] at hc;cases hc];exact S2.ext.fh c o hc
  .obtain⟨z1,z2⟩:=zrt hc
   rw[zak fun z=>z1 (by rw[z];simp[Dsk.as])];exact z2
  .rw[zak nd.1.2.1];exact h1
  .rw[zak nd.2.1.1];exact h2
  .rw[zak fun z=>nd.2.2.1 z.symm];exact h4
theorem znh(h:∀a,Nx K G Hz L E.nx (ss.set i (ksl K C n1 n2 a []))):Go K G Hz L E ss (tAsg (yce C (zs2 C n1 n2) [] X tNil) (zh3 i)):=fun F H U S x dx hx hdx hne=>by
 refine⟨x,dx,rfl,zan,by rw[zak hne];exact zan,fun b r H' hb hr hbr h1 h2 h3 h4=>⟨rfl,?_⟩⟩
 have bx:b≠x:=fun z=>by rw[z,zan] at hb;cases hb
 have rx:r≠x:=fun z=>by rw[z,zan] at hr;cases hr
 rw[zak bx] at hb
 rw[zak rx] at hr
 have bd:b≠dx:=fun z=>by rw[z,zan] at hb;cases hb
 have rd:r≠dx:=fun z=>by rw[z,zan] at hr;cases hr
 rw[zak bd] at hb
 rw[zak rd] at hr
 have hd:H' dx=some (.own x):=by rw[h4 dx hne (Zho bd) (Zho rd),zak hne];exact zan
 have old:∀c o,H c=some o->H' c=some o:=fun c o hc=>by
  have c1:c≠x:=fun z=>by rw[z,hx] at hc;cases hc
  have c2:c≠dx:=fun z=>by rw[z,hdx] at hc;cases hc
  rw[h4 c c1 (fun z=>by rw[z,hb] at hc;cases hc) (fun z=>by rw[z,hr] at hc;cases hc),zak c1,zak c2];exact hc
 have e:Ext F H F H':=⟨Same.refl _,S.ext.fh.trans old,old,fun _ _ _ _=>rfl⟩
 have S':=S.ext2 e
 let a:Dsk:=⟨x,dx,b,r⟩
 have fr:∀q∈a.as,H q=none:=fun q hq=>by
  simp only[a,Dsk.as,Zgh,Zhq,or_false] at hq
  rcases hq with rfl | rfl | rfl | rfl <;> assumption
 have hw:kW K C n1 n2 a [] F H':=⟨h1,hd,⟨[],h2,.nil⟩,h3⟩
 refine h a F H' _ (S'.put S'.ext S'.fl (by simp) (fun j hj=>zfr (Zho hj)) (fun hi=>?_) ?_ (fun j s' hj hs q hq hin=>(S.ok j s' hs).live hin (fr q hq)) fun j s' hj hs=>S'.ok j s' hs)
 .rw[zd3 (by rw[S.len];exact hi)]
  exact⟨rfl,fun q hq=>by obtain⟨o,ho,n⟩:=zng hw q hq;exact⟨S.ext.hh.free (fr q hq),S.ext.fh.free (fr q hq),o,ho,n⟩,hw,znz K C n1 n2 a []⟩
 .show[x,dx,b,r].Nodup
  simp only[Zi7,Zgh,Zhq,or_false,not_or,Zl2,not_false_eq_true,and_true]
  exact⟨⟨Zho hne,Zho bx,Zho rx⟩,⟨Zho bd,Zho rd⟩,hbr⟩
end
noncomputable def DctK(P:Zgy)(w:Zhn)(K:Zf6)(q:Addr)(kvs:List (Key×V)):Prop:=(q == Zj3)=false /\ ∃o es ep vs,Zi8 q K=some o/\o.ExactDict/\o.data= .dict es ep/\KeysOf (zaq P w) es/\Pairs (zaq P w) es.toList vs/\(vs.map (·.1)).Nodup/\KV kvs vs
theorem DctK.dict{P:Zgy}{w:Zhn}{K:Zf6}{q:Addr}{kvs:List (Key×V)}{h:Heap}(d:DctK P w K q kvs)(k:K.In h):∃vs,KV kvs vs/\h.DictOf (zaq P w) q vs:=by
 obtain⟨_,o,es,ep,vs,h1,h2,h3,h4,h5,h6,h7⟩:=d
 exact⟨vs,h7,o,es,ep,k q o h1,h2,h3,h4,h5,h6⟩
noncomputable def zvf(kvs:List (Key×V))(ty:TE):TE:=fun U H Q=>ty U H fun y H1=>∃k v,y=kV k/\valV kvs k=some v/\Q v H1
noncomputable def znp(kvs:List (Key×V))(ty:TE):TE:=fun U H Q=>ty U H fun y H1=>∃k,y=kV k/\Q (.bl (!(valV kvs k).isSome)) H1
section
variable{X:Cx}{o i:Expr}{pos:Pos}{ty:TE}{q:Addr}{kvs:List (Key×V)}
theorem znb(hD:DctK X.prog X.w X.K q kvs)(ho:PE X o (tC (.ref q)))(hi:PE X i ty)(hs:NoSl i):PE X (.Subscript o i pos) (zvf kvs ty):=by
 intro pins s U H Q I h
 refine zul Zo6.lookup hs (thn (ho pins s U H (fun x H1=>x= .ref q/\zvf kvs ty U H1 Q) I ⟨rfl,h⟩) fun u s1 ⟨x,H1,I1,rx,ex,q1⟩=>thn (hi pins s1 U H1 _ I1 q1) fun iv s2 hz9=>?_)
 obtain⟨y,H2,I2,ry,k,v,ey,hv,q2⟩:=hz9
 subst ex ey
 obtain rfl:u=Zhy q:=rx
 obtain⟨vs,rel,dd⟩:=hD.dict I2.kIn
 obtain⟨w',hw,rw'⟩:=RelO.some_of (v:=v) (o:=Zpg vs k) (by rw[<- hv];exact rel.val k)
 exact⟨dd.typeIs,Zvo (zqm ry) dd.mapOf hw ⟨v,H2,I2.tok _,rw',q2⟩⟩
theorem zsc(hD:DctK X.prog X.w X.K q kvs)(hi:PE X i ty)(ho:PE X o (tC (.ref q))):PC X .NotIn i o (znp kvs ty):=by
 intro pins s U H Q I h
 refine thn (hi pins s U H _ I h) fun iv s1 ⟨y,H1,I1,ry,k,ey,q1⟩=>thn (ho pins s1 U H1 (fun x H2=>x= .ref q/\Q (.bl (!(valV kvs k).isSome)) H2) I1 ⟨rfl,q1⟩) fun u s2 hz9=>?_
 obtain⟨x,H2,I2,rx,ex,q2⟩:=hz9
 subst ex ey
 obtain rfl:u=Zhy q:=rx
 obtain⟨vs,rel,dd⟩:=hD.dict I2.kIn
 refine Zww (zqm ry) hD.1 dd.mapOf ?_
 rw[<- (rel.val k).isSome_eq]
 exact⟨.bl (!(valV kvs k).isSome),H2,I2.tok _,rfl,q2⟩
end
section
variable{K:Zf6}{G Hz L:Hp}{ss:List Sl}{ty:TE}{kvs:List (Key×V)}{l:List Nat}{d:D}{v:V}
theorem zzw(b:EvB K G Hz L ss ty (.str l))(hv:valV kvs (.inr (T l))=some v)(r:∀H,Rep K H d v):Ev K G Hz L ss (zvf kvs ty) d:=fun F H U Q S q=>b F H U _ S fun y F1 H1 e1 r1=>by
 rw[r1.of_str]
 exact⟨.inr (T l),v,rfl,hv,q v F1 H1 e1 (r F1)⟩
theorem zsf(b:EvB K G Hz L ss ty (.str l)):Ev K G Hz L ss (znp kvs ty) (.bl (!(valV kvs (.inr (T l))).isSome)):=fun F H U Q S q=>b F H U _ S fun y F1 H1 e1 r1=>by
 rw[r1.of_str]
 exact⟨.inr (T l),rfl,q _ F1 H1 e1 Rep.bl⟩
end
end L2
namespace L2
open PySem PySem.Spec PyProof.Rows
section
variable{X:Cx}
noncomputable def tNo:TS:=fun _ _ _=>False
theorem zrb{st:List Stmt}:PSs X st tNo:=fun _ _ _ _ _ _ h=>h.elim
noncomputable def zw2:R2:=fun x y H Q=>∃z n,x= .str z/\y= .int n/\MulOk z n/\Q (.str (Zts z n)) H
theorem zq1:OpR X (Zm2 .Mult) zw2:=by
 intro pins s U H x y v u Q I rx ry h
 obtain⟨z,n,rfl,rfl,hz,q⟩:=h
 obtain⟨t,rfl⟩:=rx
 obtain⟨t',rfl⟩:=ry
 exact SB.mul hz fun t' tk=>⟨.str (Zts z n),H,I.tok _,⟨_,rfl⟩,q⟩
end
theorem zpe(l:List Nat):∀(k:Nat) (acc:List Nat),(Zh1 k l.toArray).foldl (· ++ ·) acc.toArray=(acc++(Zh1 k l).flatten).toArray
 | 0,acc=>by simp
 | k+1,acc=>by
  rw[Zlk,Ztj,Zlk,Zsi,<- Zjq]
  have:acc.toArray++l.toArray=(acc++l).toArray:=by simp
  rw[this];exact zpe l k (acc++l)
theorem yc0(l:List Nat)(n:Nat):Zts (T l) (n:Int)=T (Zh1 n l).flatten:=by
 unfold Zts
 by_cases h:(n:Int)<1
 .have:n=0:=by lia
  subst this;rw[if_pos h];rfl
 .rw[if_neg h]
  by_cases h2:((n:Int) == 1||(T l).length == 0)=true
  .rw[if_pos h2]
   rw[Zpe,beq_iff_eq,beq_iff_eq,zbm] at h2
   rcases h2 with h2 | h2
   .have:n=1:=by lia
    subst this;simp
   .have:l=[]:=Zqg.mp h2
    subst this
    have:(Zh1 n ([]:List Nat)).flatten=[]:=by simp
    rw[this]
  .rw[if_neg h2]
   have e:=zpe l n []
   rw[Zll] at e
   show(⟨(Zh1 (n:Int).toNat l.toArray).foldl (· ++ ·) #[]⟩:Str)=⟨_⟩
   rw[Zi6]
   exact congrArg Str.mk e
theorem ybd{l:List Nat}{n:Nat}(hl:l.length<=1000)(hn:n<=1000):MulOk (T l) (n:Int):=by
 have hm:l.length*n<=1000*1000:=Nat.mul_le_mul hl hn
 refine⟨?_,fun h1 _=>?_,fun _ _=>?_⟩
 .rw[Zq8]
  exact⟨decide_eq_false (by lia),decide_eq_false (by lia)⟩
 .rw[zbm]
  have:(l.length:Int)<=(2 ^ 63 - 1) / (n:Int):=by
   rw[Int.le_ediv_iff_mul_le (by omega)]
   have:((l.length*n:Nat):Int)<=1000*1000:=by exact_mod_cast hm
   rw[Int.natCast_mul] at this
   lia
  lia
 .rw[zbm,Zi6]
  unfold Zwu
  exact decide_eq_false (by rw[Zgq];lia)
section
variable{K:Zf6}{G Hz L:Hp}{ss:List Sl}{ta tb:TE}
theorem zru{l:List Nat}{n:Nat}(a:EvB K G Hz L ss ta (.str l))(b:EvB K G Hz L ss tb (.int n))(hl:l.length<=1000)(hn:n<=1000):Ev K G Hz L ss (tOp zw2 ta tb) (.str (Zh1 n l).flatten) :=
 zc8 (w:=.str (T (Zh1 n l).flatten)) a b (fun H x y Q r1 r2 q=>⟨T l,n,r1.of_str,r2.of_int,ybd hl hn,by rw[yc0];exact q⟩) fun _ _ _ _ r1 _=>Rep.str fun c hc=>by
  obtain⟨l',hl',hc'⟩:=List.mem_flatten.mp hc
  rw[(Zny.mp hl').2] at hc'
  exact r1.asc c hc'
end
end L2
namespace L2
open PySem PySem.W PySem.Spec PyProof.Rows
end L2
namespace L2
open PySem PySem.W PySem.Spec PyProof.Rows PySem.Calls Builtin Builtin.ObjectAttr Builtin.Getset_descriptor
structure XTell(K:Zf6)(C:Addr):Prop where
 ga:findIn K (.ref C) "__getattribute__" = some (some (.builtin "BaseException.__getattribute__"))
 gt:findIn K (.ref C) "__getattr__" = some none
 mb:mroIn K C (.type "BaseException")=some true
 fc:findIn K (.ref C) "__class__" = some (some (.builtin "object.__class__"))
 sp:specialIn K (.builtin "object.__class__") "__get__" = some (some (.builtin "getset_descriptor.__get__"))
 tk:takesIn K (.builtin "object.__class__")=some true
 mo:mroIn K C (.type "object")=some true
 dc:hasDictIn K C=true
end L2
namespace L2
open PySem PySem.W PyProof.Rows
end L2
namespace L2
open PySem PySem.W PySem.Spec PyProof.Rows
noncomputable abbrev QS:=List (Addr×List D)
section
variable{K:Zf6}{G Hz L:Hp}{ss:List Sl}{i:Nat}{p:Addr}{kqs:KQ}{kvs:DD}{qs:QS}{E:Ends}{D0:XK}{t:TA}{te ta td:TE}{d:D}{ds:List D}{dss:List (List D)}{pre:List D->Prop}{res:List D->List (List D)}
mutual
noncomputable def D.nm:D->Bool
 | .lst _=>false
 | .dct ks vs=>D.nms ks&&D.nms vs
 | .dctT _ _=>false
 | .ins _ _ _=>false
 | .tup a=>D.nms a
 | _=>true
noncomputable def D.nms:List D->Bool
 | []=>true
 | a::x=>a.nm&&D.nms x
end
noncomputable def cut(F:Hp)(as:List Addr):Hp:=fun b=>if b∈as then none else F b
end
end L2
namespace L2
open PySem PySem.Spec PyProof.Rows
theorem zhs{M:Zsy}{Γ:_root_.PySem.Ctx}{p:Pos}{t:Sem Zsv}{fs:List Frame}{s s':Zgc}{e:End}(h:_root_.PySem.Runs M Γ p t fs s e s'):s.toks<=s'.toks:=by
 induction h <;> first | exact Zgf _ | assumption | lia | (simp only[Zpu] at *;lia) | (dsimp at *;omega)
theorem zpr{M:Zsy}{Γ:_root_.PySem.Ctx}{p:Pos}{g:Nat}{r:Resume}{s s':Zgc}{res:GenResult}(h:Wakes M Γ p g r s res s'):s.toks<=s'.toks:=by
 unfold Wakes at h
 cases hg:s.gens[g]? with
 | none=>simp only[hg] at h
 | some gs =>
  simp only[hg] at h
  cases gs with
  | fresh c =>
   cases r with
   | send v =>
    by_cases hv:v= .none
    .subst hv
     obtain⟨e1,s1,h1,_,_,rfl⟩:=h
     have:=zhs h1
     simpa[Zpu] using this
    .have h2:res= .justStarted/\s'=s:=by cases v <;> first | exact absurd rfl hv | exact h
     rw[h2.2];exact Zgf _
   | throw x=>obtain⟨_,rfl⟩:=h;exact Zgf _
  | suspended k0 _ c0 p0 fs _ =>
   obtain⟨e1,s1,h1,_,_,rfl⟩:=h
   have:=zhs h1
   simpa[Zpu] using this
  | running=>obtain⟨_,rfl⟩:=h;exact Zgf _
  | finished=>obtain⟨_,rfl⟩:=h;exact Zgf _
theorem zz6{α:Type}{M:Zsy}{Γ:_root_.PySem.Ctx}{Q:α->Pos->Zgc->Prop}{E:Zf9->Pos->Zgc->Prop}{n:Nat}(t:Sem α):∀(p:Pos) (s:Zgc),n<=s.toks->Sem.wp M Γ t Q E p s ->
  Sem.wp M Γ t (fun a p' s'=>Q a p' s'/\n<=s'.toks) (fun e p' s'=>E e p' s'/\n<=s'.toks) p s:=by
 induction t with
 | pure x=>exact fun p s hn h=>⟨h,hn⟩
 | raise v=>exact fun p s hn h=>⟨h,hn⟩
 | unsupported | finish | yield | fork | await | register=>exact fun p s hn h=>h
 | rule _ k ih | «at» _ k ih | alloc _ k ih | loadIfAlive _ k ih | point _ k ih | ask k ih | os _ _ k ih | handled _ k ih | newGen _ k ih | stack k ih | thread k ih=>exact fun p s hn h=>ih _ _ _ hn h
 | fresh k ih=>exact fun p s hn h=>ih _ _ _ (Nat.le_succ_of_le hn) h
 | load a _ k ih | genState a k ih=>exact fun p s hn ⟨o,ho,h⟩=>⟨o,ho,ih _ _ _ hn h⟩
 | update a _ f k ih | choose _ _ k ih=>exact fun p s hn ⟨ha,h⟩=>⟨ha,ih _ _ _ hn h⟩
 | call c h g l k ih=>exact fun p s hn ⟨r,s1,h1,h2⟩=>⟨r,s1,h1,ih r p s1 (Zim hn (zhs h1)) h2⟩
 | resume g r l k ih=>exact fun p s hn ⟨res,s1,hw,h⟩=>⟨res,s1,hw,ih _ _ _ (Zim hn (zpr hw)) h⟩
theorem thnT{α:Type}{t:Sem α}{Q Q':α->Zgc->Prop}{M:Zsy}{A:Zhe}{E:Zf9->Zgc->Prop}{s:Zgc}{n:Nat}(hn:n<=s.toks)(h:Zgr M A t Q E s)(hQ:∀a s',n<=s'.toks->Q a s'->Q' a s'):Zgr M A t Q' E s:=fun Γ p hΓ =>
 Sem.wp_mono M Γ t (fun a _ s' ⟨h1,h2⟩=>hQ a s' h2 h1) (fun e _ s' ⟨h1,_⟩=>h1) p s (zz6 t p s hn (h Γ p hΓ))
section
variable(X:Cx)
noncomputable def PET(e:Expr)(t:TE):Prop :=
 ∀(pins:List (Addr×Obj)) (s:Zgc) (U:St) (H:Hp) (Q:VK),Inv X pins U H s->1<=s.toks->t U H Q->Zgr (Zg9 X.prog X.w) X.A (eval e X.env) (EP X pins U Q) X.xe s
noncomputable def PST(st:Stmt)(t:TS):Prop :=
 ∀(pins:List (Addr×Obj)) (s:Zgc) (U:St) (H:Hp) (D:Ends),Inv X pins U H s->1<=s.toks->t D U H->Zgr (Zg9 X.prog X.w) X.A (exec st X.env) (SP X pins D) X.xe s
noncomputable def PSsT(st:List Stmt)(t:TS):Prop :=
 ∀(pins:List (Addr×Obj)) (s:Zgc) (U:St) (H:Hp) (D:Ends),Inv X pins U H s->1<=s.toks->t D U H->Zgr (Zg9 X.prog X.w) X.A (execs st X.env) (SP X pins D) X.xe s
noncomputable def PSB(st:Stmt)(t:TS):Prop :=
 ∀(pins:List (Addr×Obj)) (s:Zgc) (U:St) (H:Hp) (D:Ends),Inv X pins U H s->t D U H->Zgr (Zg9 X.prog X.w) X.A (exec st X.env) (fun f s'=>SP X pins D f s'/\1<=s'.toks) X.xe s
end
section
variable{X:Cx}{st:Stmt}{rest:List Stmt}{t u:TS}{a b e o:Expr}{es:List Expr}{ta tb te to:TE}{tr:TA}{pos:Pos}
theorem zsn(h1:PSB X st t)(h2:PSsT X rest u):PSs X (st::rest) (tSeq t u):=by
 intro pins s U H D I h
 refine Zkm (thn (h1 pins s U H { D with nx:=u D } I h) fun f s1 hz9=>?_)
 obtain⟨q,ht⟩:=hz9
 cases f with
 | next =>
  obtain⟨U',H',I',q⟩:=q
  exact h2 pins s1 U' H' D I' ht q
 | ret v=>exact q
 | brk=>exact q
 | cont=>exact q
theorem zdl(h1:PS X st t)(h2:PSsT X rest u):PSsT X (st::rest) (tSeq t u):=by
 intro pins s U H D I hs h
 refine Zkm (thnT hs (h1 pins s U H { D with nx:=u D } I h) fun f s1 ht q=>?_)
 cases f with
 | next =>
  obtain⟨U',H',I',q⟩:=q
  exact h2 pins s1 U' H' D I' ht q
 | ret v=>exact q
 | brk=>exact q
 | cont=>exact q
theorem zux(h1:PST X st t)(h2:PSs X rest u):PSsT X (st::rest) (tSeq t u):=by
 intro pins s U H D I hs h
 refine Zkm (thn (h1 pins s U H { D with nx:=u D } I hs h) fun f s1 q=>?_)
 cases f with
 | next =>
  obtain⟨U',H',I',q⟩:=q
  exact h2 pins s1 U' H' D I' q
 | ret v=>exact q
 | brk=>exact q
 | cont=>exact q
theorem zye{i:Nat}{x c:Str}{j:Nat}{p2 pos':Pos}(hN:X.N.Nodup)(hi:X.N[i]? = some x)(hx:Loc X.env.scope x)(hs:Znj (.Constant (.str c) j p2) (some (.Name x pos')) pos.line X.env=pure false:=by rfl)(hf:X.fn x=true\/X.env.scope.names.lookup x=some .local:=by first | exact .inl rfl | exact .inr rfl | assumption) :
  PSB X (.Assign [.Name x pos'] (.Constant (.str c) j p2) pos) (tAsg (tC (.str c)) (zh3 i)):=by
 intro pins s U H D I h
 refine Zut (Zlv ?_) hs
 refine thnT (n:=1) (Nat.succ_le_succ (Zhg _)) (zfy (I.tok _) hN hi hx (show RelV (.str c) _ from⟨_,rfl⟩) (fun s2 I2=>(⟨_,H,I2,h⟩:SP X pins D .next s2)) hf) fun f s' ht q=>⟨q,ht⟩
noncomputable def ybi(c d:Str)(to:TE):TE:=fun U H Q=>to U H fun x H1=>∃z,x= .str z/\z.length<=1048576/\Q (.str (Zr0 z c d)) H1
theorem zwo{c d:Str}{j1 j2:Nat}{p1 p2 apos cpos:Pos}(ho:PE X o to)(hcd:(c == d)=false)(hd:d.length<=14)
  (hbase:Zlx o "replace" X.env (eval o X.env)=eval o X.env:=by rfl)
  (hfew:((Zkj cpos (Zhf [.Constant (.str c) j1 p1,.Constant (.str d) j2 p2] X.env)).all (fun x=>!x.1)&&(Zk2 cpos (Zji [] X.env)).all (fun x=>x.1.isSome)
   && decide (([.Constant (.str c) j1 p1,.Constant (.str d) j2 p2]:List Expr).length+([]:List Zm8).length+(if ([]:List Zm8).isEmpty then 0 else 1)<30))=true:=by rfl)
  (hline:(apos.endLine == cpos.line)=true:=by rfl)
  (hs:Zhf [.Constant (.str c) j1 p1,.Constant (.str d) j2 p2] X.env=[(false,eval (.Constant (.str c) j1 p1) X.env),(false,eval (.Constant (.str d) j2 p2) X.env)]:=by rfl) :
  PET X (.Call (.Attribute o "replace" apos) [.Constant (.str c) j1 p1,.Constant (.str d) j2 p2] [] cpos) (ybi c d to):=by
 intro pins s U H Q I hs1 h
 refine Zsc hbase hfew hline rfl (thnT hs1 (ho pins s U H _ I h) fun v s1 ht hz9=>?_)
 obtain⟨x,H1,I1,r1,z,hx,hz,q1⟩:=hz9
 subst hx
 obtain⟨tk,rfl⟩:=r1
 refine⟨"str", "str.replace", PySem.F.plainAttrs_str,PySem.F.slot_str_replace,PySem.F.type_str_replace,Zi3 _ _ _,(fun _ e=>nomatch e),?_⟩
 rw[hs]
 refine Zqh rfl (Zq1 ?_)
 show Zgr _ _ (Zru [(false,eval (.Constant (.str c) j1 p1) X.env),(false,eval (.Constant (.str d) j2 p2) X.env)]) _ _ s1
 refine Zlu (Zlv (Zlu (Zlv ?_)))
 refine Zn9 ?_
 exact SC.replaceW (u:=s1.toks) (v:=s1.toks+1) (Zj7 ht) (Nat.succ_ne_zero _) (Zgu (Zh9 _)) hcd hz hd fun t' k=>⟨.str _,H1,I1.tok _,⟨_,rfl⟩,q1⟩
end
end L2
namespace L2
open PySem PySem.W PySem.Spec PyProof.Rows
structure CMeth(K:Zf6)(C:Addr)(m:Str)(f:Addr):Prop where
 ga:specialIn K (.ref C) "__getattribute__" = some (some (.builtin "type.__getattribute__"))
 rd:readsIn K C (.type "type")=true
 fc:findCls K (.ref C) (.type "type") m=some (.val (.ref f))
 kp:keepIn K (.ref f)=true
section
variable{K:Zf6}{G Hz L:Hp}{ss:List Sl}{i:Nat}{C:Addr}{t:TA}{E:XK}{D0:Ends}{c:V}
theorem yaq{i j:Nat}{d1 d2:D}(a:EvAF K G Hz L ss t [d1,d2])(h:Nx K G Hz L D0.nx ((ss.set i (.d d1)).set j (.d d2))):Go K G Hz L D0 ss (tPar i j t):=fun F H U S =>
 a F H U _ S fun vs F1 H1 e1 r1=>by
  rw[Reps] at r1
  obtain⟨v1,r,rfl,rv1,r1⟩:=r1
  rw[Reps] at r1
  obtain⟨v2,r',rfl,rv2,r1⟩:=r1
  rw[Reps] at r1
  subst r1
  exact⟨v1,v2,rfl,h F1 H1 _ (((S.ext2 e1).setD rv1).setD rv2)⟩
end
inductive Dkt(K:Zf6)(F:Hp):DD->List (List Key×V)->Prop
 | nil:Dkt K F [] []
 | cons {k d:D} {v:V} {kvs:DD} {xs:List (List Key×V)} (hk:k.isT=true) (r:Rep K F d v) (t:Dkt K F kvs xs):Dkt K F ((k,d)::kvs) ((k.tkey,v)::xs)
section
variable{K:Zf6}{G Hz L:Hp}{ss:List Sl}{C:Addr}{ta tb:TE}{ns:List Str}{vs:List D}{d:D}
theorem yae{u:TT}{b:Bool}(a:EvT K G Hz L ss u b)(h1:b=true->Ev K G Hz L ss ta d)(h2:b=false->Ev K G Hz L ss tb d):Ev K G Hz L ss (tIf u ta tb) d:=fun F H U Q S q=>a F H U _ S fun F' H' e=>by
 cases b with
 | false=>exact iteF (h2 rfl _ _ _ _ (S.ext2 e) fun v F'' H'' e' r=>q _ _ _ (e.trans e') r)
 | true=>exact iteT (h1 rfl _ _ _ _ (S.ext2 e) fun v F'' H'' e' r=>q _ _ _ (e.trans e') r)
end
section
variable{X:Cx}{st:Stmt}{t u:TS}{a b e:Expr}{ta tb te:TE}{pos:Pos}
theorem zyd{op:Operator}{r:R2}(ho:OpR X (Zm2 op) r)(ha:PET X a ta)(hb:PE X b tb):PET X (.BinOp a op b pos) (tOp r ta tb):=by
 intro pins s U H Q I hs h
 refine wpAny_BinOp (thn (ha pins s U H _ I hs h) fun v s1 hz9=>?_)
 obtain⟨x,H1,I1,r1,q1⟩:=hz9
 refine thn (hb pins s1 U H1 _ I1 q1) fun u s2 hz9=>?_
 obtain⟨y,H2,I2,r2,q2⟩:=hz9
 exact ho pins s2 U H2 x y v u Q I2 r1 r2 q2
theorem zx8(he:PET X e te):PST X (.Return (some e) pos) (tRet te):=by
 intro pins s U H D I hs h
 exact Zur (thn (he pins s U H _ I hs h) fun v s1 ⟨x,H1,I1,r1,q1⟩=>⟨x,U,H1,I1,r1,q1⟩)
theorem zv4(h1:PST X st t):PSsT X [st] t:=by
 intro pins s U H D I hs h
 refine Zkm (thn (h1 pins s U H D I hs h) fun f s1 q=>?_)
 cases f with
 | next=>exact Zl7 q
 | ret v=>exact q
 | brk=>exact q
 | cont=>exact q
theorem ycl{c:Expr}{a b:List Stmt}{tc:TT}(hc:PT X c tc)(ha:PSsT X a t)(hb:PSs X b u):PST X (.If c a b pos) (tIfS tc t u):=by
 intro pins s U H D I hs h
 refine wpAny_If (thnT hs (hc pins s U H _ I h) fun d s1 ht hz9=>?_)
 obtain⟨H1,I1,q1⟩:=hz9
 cases d with
 | true=>exact ha pins s1 U H1 D I1 ht q1
 | false=>exact hb pins s1 U H1 D I1 q1
end
section
variable{K:Zf6}{G Hz L:Hp}{ss:List Sl}{E:Ends}{tl to ta:TE}
theorem zt0{g:TG}{tb:TS}(l:List Nat)(I:Nat->List Sl->Prop)(a:EvB K G Hz L ss tl (.str l))(h0:I 0 ss)
  (hs:∀k c ss,l[k]? = some c->I k ss-> ∃ss',Tg K G Hz L g (.str [c]) ss ss' /\ ∀N,(∀ss,I (k+1) ss->Nx K G Hz L N ss)->Go K G Hz L { E with nx:=N,ct:=N,bk:=E.nx } ss' tb)
  (hd:∀ss,I l.length ss->Nx K G Hz L E.nx ss):Go K G Hz L E ss (tFor (iStr tl) g tb):=fun F H U S =>
 a F H U _ S fun v F1 H1 e1 r1=>by
  have ha:=r1.asc
  rw[r1.of_str]
  refine⟨T l,rfl,?_⟩
  refine⟨fun i m U' H'=>m=l.length - i/\i<=l.length/\At K G Hz L (I i) U' H',⟨_,rfl,Zhg _,ss,F1,S.ext2 e1,h0⟩,?_⟩
  rintro i m U' H' ⟨rfl,hi,ss1,F2,S2,h2⟩
  by_cases hlt:i<l.length
  .refine .inr ⟨by show i<_;rw[zd2];exact hlt,fun U'' H''=>At K G Hz L (I (i+1)) U'' H'',fun U'' H'' h=>⟨l.length - (i+1),by omega,rfl,hlt,h⟩,fun x H'' y=>?_⟩
   obtain⟨rfl,c,hc,rfl⟩:=y
   rw[zd2] at hc
   obtain⟨ss',tg,go⟩:=hs i c ss1 hc h2
   exact tg F2 _ U' _ _ S2 (Rep.str fun c' h'=>by rw[Zgn.mp h'];exact ha c (Zgm hc)) fun U3 S3=>go _ (fun ss h=>zvy h) F2 _ U3 S3
  .have e:i=l.length:=by omega
   subst e
   exact .inl ⟨by show _<=_;rw[zd2];exact Zgf _,hd ss1 h2 F2 H' U' S2⟩
theorem zty{l m:List Nat}(a:EvB K G Hz L ss to (.str l))(b:EvB K G Hz L ss ta (.str m)):Ev K G Hz L ss (tBM K "str" ybj to (za7 ta tNil)) (.int (Zo9 (T l) (T m))):=fun F H U Q S q =>
 a F H U _ S fun x F1 H1 e1 r1=>by
  rw[r1.of_str]
  refine⟨rfl,b F1 H1 U _ (S.ext2 e1) fun y F2 H2 e2 r2=>?_⟩
  .rw[r2.of_str]
   exact⟨T l,T m,rfl,rfl,q _ F2 H2 (e1.trans e2) Rep.int⟩
theorem zu3{c d:Str}{l m:List Nat}(a:EvB K G Hz L ss ta (.str l))(hl:l.length<=100000)(h:Zr0 (T l) c d=T m)(hm:∀c∈m,c<128):Ev K G Hz L ss (ybi c d ta) (.str m):=fun F H U Q S q =>
 a F H U _ S fun v F1 H1 e1 r1=>by
  rw[r1.of_str]
  refine⟨T l,rfl,by rw[zbm];omega,?_⟩
  rw[h]
  exact q _ _ _ e1 (Rep.str hm)
end
end L2
namespace L2
open PySem PySem.Spec PyProof.Rows
section
variable{prog:Zgy}{w:Zhn}{A:Zhe}{E:Zf9->Zgc->Prop}{s:Zgc}
theorem zgi{it l:Addr}{i:Nat}{items}{x:Zf9}{Q:Zf9->Zgc->Prop}(hit:s.heap.IsTupleIter it l i)(hl:s.heap.IsTuple l items)(hx:items[i]? = some x)
  (hQ:∀h',h'.IsTupleIter it l (i+1)->Zh2 it s.heap h'->Q x { s with heap:=h' }):Zgr (Zg9 prog w) A (Zhx (.ref it)) Q E s:=by
 obtain⟨o,ho,hc,hd⟩:=id hit
 obtain⟨ol,hol,_,nl,hdl⟩:=hl
 unfold Zhx
 refine Zf5 (Zj1 (name:=Zl0 "__next__") hit.typeIs Zkf (Zi4 Zkf hit.typeIs Zqb ?_ (Zp1 _)))
 show Zgr _ _ (Zuy (.ref it) 0 >>= _) _ _ s
 refine Zf5 (Zjr ho hd (x:=.ref l) rfl ?_)
 show Zgr _ _ (if (Zhy l == Zhs)=true then _ else _) _ _ s
 rw[if_neg (show ¬ ((Zhy l == Zhs)=true) from Zg0)]
 show Zgr _ _ (Zuy (.ref it) 1 >>= _) _ _ s
 refine Zf5 (Zjr ho hd (x:=.int i 0) rfl ?_)
 show Zgr _ _ (Zsq (.ref l) >>= _) _ _ s
 refine Zf5 (Zih hol hdl ?_)
 simp only[Zi6,hx]
 refine Zf5 (Zj2 ho hd (by simp) (Zgb ⟨x,rfl,Zgb (hQ _ ?_ (Zib ..))⟩))
 exact⟨_,Zh6 _ ho (Zj6 (Zid hd _)),(Zmg ..).trans hc,by rw[Zid hd];simp[Zjh]⟩
theorem zg7{it l:Addr}{i:Nat}{items}{Q:Zf9->Zgc->Prop}(hh:A.handled=none)(hit:s.heap.IsTupleIter it l i)(hl:s.heap.IsTuple l items)(hx:items[i]? = none)
  (hE:∀h' e,Zrp it s.heap h'->(∃o,h'.get? e=some o/\o.cls= .type "StopIteration")->E (.ref e) { s with heap:=h' }):Zgr (Zg9 prog w) A (Zhx (.ref it)) Q E s:=by
 obtain⟨o,ho,hc,hd⟩:=id hit
 obtain⟨ol,hol,_,nl,hdl⟩:=hl
 unfold Zhx
 refine Zf5 (Zj1 (name:=Zl0 "__next__") hit.typeIs Zkf (Zi4 Zkf hit.typeIs Zqb ?_ (Zp1 _)))
 show Zgr _ _ (Zuy (.ref it) 0 >>= _) _ _ s
 refine Zf5 (Zjr ho hd (x:=.ref l) rfl ?_)
 show Zgr _ _ (if (Zhy l == Zhs)=true then _ else _) _ _ s
 rw[if_neg (show ¬ ((Zhy l == Zhs)=true) from Zg0)]
 show Zgr _ _ (Zuy (.ref it) 1 >>= _) _ _ s
 refine Zf5 (Zjr ho hd (x:=.int i 0) rfl ?_)
 show Zgr _ _ (Zsq (.ref l) >>= _) _ _ s
 refine Zf5 (Zih hol hdl ?_)
 simp only[Zi6,hx]
 refine Zf5 (Znu (Zf5 (Zj2 ho hd (by simp) ?_)))
 show Zgr _ _ (newExc (.type "StopIteration") [] >>= _) _ _ _
 refine Zf5 ?_
 simp only[newExc,Zxl]
 refine Zf5 (Zik ?_ (by size_fits))
 refine Zf5 (m:=Zoc _ _) (Zql (a:=Zhs) (by first | rfl | (simp only[Zoc];rfl)) ?_)
 refine Zik ?_ (by size_fits)
 simp only[Zxk]
 refine Zf5 (Zxe ?_)
 first | rw[show A.in1.handled=none from hh] | rw[hh]
 refine Zf5 (Zgb (wpAny_throw ?_))
 exact hE _ _ (((Zib ..).extBut.push _).push _) ⟨_,Zgj _ rfl,rfl⟩
end
theorem zil{prog:Zgy}{w:Zhn}{A:Zhe}(hh:A.handled=none)(it l:Addr)(hne:l≠it)(items:Array Zf9) :
  Zpq prog w A it [it,l] items.size (fun i v=>items[i]? = some v) (fun i h=>h.IsTupleIter it l i/\h.IsTuple l items) where
 live:=fun _ _ st=>let ⟨o,ho,_⟩:=st.1;⟨o,ho⟩
 frame:=fun _ _ _ st hk=>⟨st.1.at fun o e=>hk it (by simp) o e,let ⟨o,ho,r⟩:=st.2;⟨o,hk l (by simp) o ho,r⟩⟩
 item:=fun i s Q E hi st hQ=>by
  refine zgi st.1 st.2 (x:=items[i]) (by simp[hi]) fun h' hit' hs'=>?_
  exact hQ _ h' s.toks (by simp[hi]) ⟨hit',st.2.extBut hs'.extBut hne⟩ hs'
 done:=fun s Q E st hE=>zg7 hh st.1 st.2 (by simp) hE
noncomputable abbrev zt1(h:Heap)(l1:Addr):Heap:=h.push { cls:=.type "list_iterator", data:=.fields #[.ref l1,.int 0 0] }
noncomputable abbrev zt2(h:Heap)(l1 l2:Addr):Heap:=(zt1 h l1).push { cls:=.type "tuple_iterator", data:=.fields #[.ref l2,.int 0 0] }
noncomputable abbrev zt3(h:Heap)(l1 l2:Addr):Heap:=(zt2 h l1 l2).push { cls:=.type "tuple", data:=.seq #[.ref h.objs.size,.ref (zt1 h l1).objs.size] }
noncomputable abbrev zt4(h:Heap)(l1 l2:Addr):Heap:=(zt3 h l1 l2).push { cls:=.type "tuple", data:=.seq #[.none,.none] }
noncomputable abbrev zt5(h:Heap)(l1 l2:Addr):Heap:=(zt4 h l1 l2).push { cls:=.type "zip", data:=.fields #[.none,.bool false,.bool false,.ref (zt2 h l1 l2).objs.size,.ref (zt3 h l1 l2).objs.size] }
theorem zh6(l1 l2:Addr)(xs ys:Array Zf9):Meets (Zhb.«zip.__new__» ⟨[.type "zip", .ref l1,.ref l2],[]⟩) (fun _ R s=>s.heap.IsList l1 xs/\s.heap.IsTuple l2 ys/\R (.ok (.ret (.ref (zt4 s.heap l1 l2).objs.size))) { s with heap:=zt5 s.heap l1 l2 }) :=
 .of_wp fun prog w A R s h=>by
  obtain⟨hp,g,d,tk,os⟩:=s;obtain⟨hl1,hl2,h⟩:=h
  have hsub:=sub_zip
  have hL1:Zwd (Zqv ⟨hp,g,d,tk,os⟩) l1 xs:=hl1
  have hL2:Heap.IsTuple (Zqv ⟨hp.push { cls:=.type "list_iterator", data:=.fields #[.ref l1,.int 0 0] },g,d,tk,os⟩) l2 ys:=Zwc hl2 _
  wp_walk using Zjd hL1,Zo0 hL2
  exact⟨_,rfl,h⟩
section
variable{prog:Zgy}{w:Zhn}{A:Zhe}{E:Zf9->Zgc->Prop}{s:Zgc}
theorem zno{l1 l2:Addr}{xs ys:Array Zf9}{Q:Zf9->Zgc->Prop}(hl1:s.heap.IsList l1 xs)(hl2:s.heap.IsTuple l2 ys)
  (h:∀h',Zpm h' (s.heap.objs.size+4) (s.heap.objs.size+2) (s.heap.objs.size+3) .none->Zla h' (s.heap.objs.size+2) (.ref s.heap.objs.size) (.ref (s.heap.objs.size+1)) ->
   Zla h' (s.heap.objs.size+3) .none .none->h'.IsListIter s.heap.objs.size l1 0->h'.IsTupleIter (s.heap.objs.size+1) l2 0->h'.objs.size=s.heap.objs.size+5 ->
   (∀c o,s.heap.get? c=some o->h'.get? c=some o)->Q (.ref (s.heap.objs.size+4)) { s with heap:=h' }) :
  Zgr (Zg9 prog w) A (call (.type "zip") [.ref l1,.ref l2]) Q E s:=by
 refine callType_new F.called_zip (by decide) (F.typeCall_zip_2 _ _) (F.newCall_zip_2 _ _) (fun obj=>F.args_object_init_3 obj _ _) F.entry_zip_new (zh6 l1 l2 xs ys) ⟨hl1,hl2,?_⟩
 have z1:(zt1 s.heap l1).objs.size=s.heap.objs.size+1:=Zg4 ..
 have z2:(zt2 s.heap l1 l2).objs.size=s.heap.objs.size+2:=by rw[Zg4,z1]
 have z3:(zt3 s.heap l1 l2).objs.size=s.heap.objs.size+3:=by rw[Zg4,z2]
 have z4:(zt4 s.heap l1 l2).objs.size=s.heap.objs.size+4:=by rw[Zg4,z3]
 have z5:(zt5 s.heap l1 l2).objs.size=s.heap.objs.size+5:=by rw[Zg4,z4]
 have g5:(zt5 s.heap l1 l2).get? (zt4 s.heap l1 l2).objs.size=some _:=Zgj _ rfl
 have g4:(zt5 s.heap l1 l2).get? (zt3 s.heap l1 l2).objs.size=some _:=Zga _ (Zgj _ rfl)
 have g3:(zt5 s.heap l1 l2).get? (zt2 s.heap l1 l2).objs.size=some _:=Zga _ (Zga _ (Zgj _ rfl))
 have g2:(zt5 s.heap l1 l2).get? (zt1 s.heap l1).objs.size=some _:=Zga _ (Zga _ (Zga _ (Zgj _ rfl)))
 have g1:(zt5 s.heap l1 l2).get? s.heap.objs.size=some _:=Zga _ (Zga _ (Zga _ (Zga _ (Zgj _ rfl))))
 show _/\_
 rw[z2,z3,z4] at g5
 rw[z1,z2] at g3
 rw[z3] at g4
 rw[z1] at g2
 rw[z4]
 exact⟨⟨_,g5,rfl⟩,h _ g5 g3 g4 ⟨_,g1,rfl,rfl⟩ ⟨_,g2,rfl,rfl⟩ z5 fun c o x=>Zga _ (Zga _ (Zga _ (Zga _ (Zga _ x))))⟩
end
noncomputable def Itzt(K:Zf6)(a b:Addr):It :=
  ⟨fun i H=>∃xs ys x y,SqL K H a xs/\SqT K H b ys/\xs[i]? = some x/\ys[i]? = some y,
   fun i H x H'=>∃T0 vs,x= .ref T0/\H T0=none/\H'=upd H T0 (.tup vs) /\ ∀xs ys,SqL K H a xs->SqT K H b ys-> ∃u v,xs[i]? = some u/\ys[i]? = some v/\vs=[u,v],
   fun i H=>∃xs ys,SqL K H a xs/\SqT K H b ys/\min xs.length ys.length=i⟩
theorem zrh{P:Zgy}{w:Zhn}{K:Zf6}{elts:List Expr}{kk:Nat}{tp:Pos}(z TI TO i1 i2 a b:Addr)(D0:ZipAp z TI TO i1 i2 [i1,a] [i2,b])(ha:a≠i1)(hb:b≠i2)(ta:a≠TI)(tb:b≠TI) :
  Turn P w K (.Tuple elts kk tp) (Itzt K a b) [z,TI,TO,i1,i2] z (fun i h=>Zpm h z TI TO .none/\Zla h TI (.ref i1) (.ref i2)/\(∃c d,Zla h TO c d)/\h.IsListIter i1 a i/\h.IsTupleIter i2 b i) where
 mem:=by simp
 obj:=fun i h st c hc=>by
  obtain⟨s1,s2,⟨c1,d1,s3⟩,⟨o4,s4,_,e4⟩,⟨o5,s5,_,e5⟩⟩:=st
  simp only[Zgh,Zhq,or_false] at hc
  rcases hc with rfl | rfl | rfl | rfl | rfl
  .exact⟨_,s1,fun v q=>by cases q⟩
  .exact⟨_,s2,fun v q=>by cases q⟩
  .exact⟨_,s3,fun v q=>by cases q⟩
  .exact⟨o4,s4,fun v q=>by rw[e4] at q;cases q⟩
  .exact⟨o5,s5,fun v q=>by rw[e5] at q;cases q⟩
 keep:=fun i h h' st k=>by
  obtain⟨s1,s2,⟨c1,d1,s3⟩,s4,s5⟩:=st
  exact⟨k z (by simp) _ s1,k TI (by simp) _ s2,⟨c1,d1,k TO (by simp) _ s3⟩,s4.at fun o x=>k i1 (by simp) o x,s5.at fun o x=>k i2 (by simp) o x⟩
 item:=by
  intro X hP hw hK hc i pins s U H E I hf st hg
  subst hP hw hK
  obtain⟨xs,ys,x,y,hq,hr,hx,hy⟩:=hg
  obtain⟨its,rv,p,hz⟩:=I.list hq
  obtain⟨jts,rv2,p2,hz2⟩:=I.tuple hr
  obtain⟨u,hu,ru⟩:=rv.get hx
  obtain⟨u2,hu2,ru2⟩:=rv2.get hy
  have hil:i<its.length:=(Zgg.mp hu).1
  have hil2:i<jts.length:=(Zgg.mp hu2).1
  have hhd:X.A.in1.handled=none:=I.ok.hd hc
  have W0:=zir (prog:=X.prog) (w:=X.w) (A:=X.A) (Zmy hhd i1 a ha its.toArray) (zil hhd i2 b hb jts.toArray) D0 (by simp[D0.TIi1.symm,ta]) (by simp[D0.TIi2.symm,tb])
  obtain⟨s1,s2,s3,s4,s5⟩:=st
  refine W0.item i s _ _ (by simp;lia) ⟨s1,s2,s3,⟨s4,p.isList⟩,⟨s5,p2⟩⟩ fun T0 vals h1 tk hp hle ht mid kk=>?_
  obtain⟨v,v2,hv,hv2,rfl⟩:=hp
  have hv:its[i]? = some v:=by simpa using hv
  have hv2:jts[i]? = some v2:=by simpa using hv2
  rw[hu] at hv;cases hv
  rw[hu2] at hv2;cases hv2
  have fresh:H T0=none:=I.hok.fresh hle
  have hfw:∀c∈[z,TO,i1,i2],FpOk X pins H c:=fun c hc=>hf c (by simp only[Zgh,Zhq,or_false] at hc ⊢;rcases hc with h | h | h | h <;> simp[h])
  have I1:Inv X pins U (upd H T0 (.tup [x,y])) { s with heap:=h1,toks:=tk }:=I.turnsT (wr:=[z,TO,i1,i2]) hfw kk hle ht (.cons ru (.cons ru2 .nil)) (by rw[Zgq];simp)
  refine⟨.ref T0,rfl,W0.go elts _ tp i T0 _ _ _ mid fun h2 st2 k2=>?_⟩
  have hlt:∀c∈[z,TI,TO,i1,i2],c≠T0:=fun c hc q=>by
   have old:∃o,s.heap.get? c=some o:=by
    obtain⟨c1,d1,s3⟩:=s3
    obtain⟨o4,s4,_⟩:=s4
    obtain⟨o5,s5,_⟩:=s5
    simp only[Zgh,Zhq,or_false] at hc
    rcases hc with rfl | rfl | rfl | rfl | rfl
    .exact⟨_,s1⟩
    .exact⟨_,s2⟩
    .exact⟨_,s3⟩
    .exact⟨_,s4⟩
    .exact⟨_,s5⟩
   obtain⟨o,ho⟩:=old
   exact absurd (Zgw (Zgk ho) (q ▸ hle)) (Zhu _)
  have hf1:∀c∈[z,TO,i1,i2],FpOk X pins (upd H T0 (.tup [x,y])) c:=fun c hc=>⟨by rw[zak (hlt c (by simp only[Zgh,Zhq,or_false] at hc ⊢;rcases hc with h | h | h | h <;> simp[h]))];exact(hfw c hc).1,(hfw c hc).2⟩
  exact⟨.ref T0,_,I1.turns (t':=tk) hf1 k2,rfl,⟨T0,_,rfl,fresh,rfl,fun ys1 ys2 g1 g2=>⟨x,y,by rw[I.list_inj g1 hq];exact hx,by rw[I.tuple_inj g2 hr];exact hy,rfl⟩⟩,⟨st2.1,st2.2.1,st2.2.2.1,st2.2.2.2.1.1,st2.2.2.2.2.1⟩,fun c hc=>by rw[zak (hlt c hc)];exact(hf c hc).1⟩
 done:=by
  intro X hP hw hK hc i pins s U H E I hf st hg
  subst hP hw hK
  obtain⟨xs,ys,hq,hr,hx⟩:=hg
  obtain⟨its,rv,p,hz⟩:=I.list hq
  obtain⟨jts,rv2,p2,hz2⟩:=I.tuple hr
  have hl:=rv.length
  have hl2:=rv2.length
  have hhd:X.A.in1.handled=none:=I.ok.hd hc
  have W0:=zir (prog:=X.prog) (w:=X.w) (A:=X.A) (Zmy hhd i1 a ha its.toArray) (zil hhd i2 b hb jts.toArray) D0 (by simp[D0.TIi1.symm,ta]) (by simp[D0.TIi2.symm,tb])
  have hs:min its.toArray.size jts.toArray.size=i:=by simp;lia
  rw[hs] at W0
  obtain⟨s1,s2,s3,s4,s5⟩:=st
  have hfw:∀c∈[z,TO,i1,i2],FpOk X pins H c:=fun c hc=>hf c (by simp only[Zgh,Zhq,or_false] at hc ⊢;rcases hc with h | h | h | h <;> simp[h])
  exact W0.done s _ _ ⟨s1,s2,s3,⟨s4,p.isList⟩,⟨s5,p2⟩⟩ fun h1 tk kk=>⟨rfl,I.turns (wr:=[z,TO,i1,i2]) hfw kk⟩
 self:=fun A i s Q E st h=>Zp3 st.1 h
section
variable{X:Cx}{e:Expr}{ta:TA}{elts:List Expr}{kk:Nat}{tp p pos:Pos}
noncomputable def ych(K:Zf6)(ta:TA):TI:=fun U H R=>ta U H fun vs H1=>∃a b,vs=[.ref a,.ref b]/\(∃xs,SqL K H1 a xs)/\(∃ys,SqT K H1 b ys)/\R (Itzt K a b) H1
theorem zms{e2:Expr}(hg:Gl X "zip")(hm:X.mg "zip" = none)(hA:PA X [e,e2] ta)(hs:Zhf [e,e2] X.env=(false,eval e X.env)::Zhf [e2] X.env:=by rfl)(hp:(Zkj pos (Zhf [e2] X.env)).any (·.1)=false:=by rfl) :
  PI X (.Tuple elts kk tp) (.Call (.Name "zip" p) [e,e2] [] pos) (ych X.K ta):=by
 intro pins s U H R I h
 refine Call_ (zh1 I hg hm Zsw (Ziy (thn (hA pos pins s U H _ I h) fun us s1 hz9=>?_) hs hp))
 obtain⟨vs,H1,I1,r1,q1⟩:=hz9
 obtain⟨a,b,rfl,⟨xs,hq⟩,⟨ys,hr⟩,q⟩:=q1
 obtain⟨u,u2,rfl,ru,ru2⟩:=zqx r1
 cases ru
 cases ru2
 obtain⟨its,rv,p,hz⟩:=I1.list hq
 obtain⟨jts,rv2,p2,hz2⟩:=I1.tuple hr
 refine zno p.isList p2 fun h1 hzp hTI hTO hi1 hi2 hsz hk=>?_
 have I2:Inv X pins U H1 { s1 with heap:=h1 }:=I1.kept (t':=s1.toks) hk
 refine Zp3 hzp ?_
 have hlt:a<s1.heap.objs.size:=by obtain⟨o,ho,_⟩:=p.isList;exact Zgk ho
 have hlt2:b<s1.heap.objs.size:=by obtain⟨o,ho,_⟩:=p2;exact Zgk ho
 have n0:∀c,c<s1.heap.objs.size-> ∀k:Nat,c≠s1.heap.objs.size+k:=fun c h k z=>absurd (z ▸ h) (Zxc.mpr (Zo7 _ k))
 have ne:∀a b:Nat,a≠b->s1.heap.objs.size+a≠s1.heap.objs.size+b:=fun a b h z=>h (Nat.add_left_cancel z)
 have n1:∀b:Nat,0≠b->s1.heap.objs.size≠s1.heap.objs.size+b:=fun b h=>ne 0 b h
 have ap:ZipAp (s1.heap.objs.size+4) (s1.heap.objs.size+2) (s1.heap.objs.size+3) s1.heap.objs.size (s1.heap.objs.size+1) [s1.heap.objs.size,a] [s1.heap.objs.size+1,b]:=by
  refine⟨ne 2 4 (by decide),ne 3 4 (by decide),n1 4 (by decide),ne 1 4 (by decide),ne 2 3 (by decide),(n1 2 (by decide)).symm,ne 2 1 (by decide),(n1 3 (by decide)).symm,ne 3 1 (by decide),n1 1 (by decide),by simp,by simp,fun c hc=>?_,fun c hc=>?_⟩
  .rcases Zgh.mp hc with rfl | hc
   .exact⟨n1 4 (by decide),n1 3 (by decide),n1 1 (by decide)⟩
   .rw[Zgn.mp hc];exact⟨n0 a hlt 4,n0 a hlt 3,n0 a hlt 1⟩
  .rcases Zgh.mp hc with rfl | hc
   .exact⟨ne 1 4 (by decide),ne 1 3 (by decide),(n1 1 (by decide)).symm⟩
   .rw[Zgn.mp hc];exact⟨n0 b hlt2 4,n0 b hlt2 3,n0 b hlt2 0⟩
 refine⟨s1.heap.objs.size+4,[s1.heap.objs.size+4,s1.heap.objs.size+2,s1.heap.objs.size+3,s1.heap.objs.size,s1.heap.objs.size+1],_,_,H1,rfl,I2,zrh _ _ _ _ _ a b ap (n0 a hlt 0) (n0 b hlt2 1) (n0 a hlt 2) (n0 b hlt2 2),⟨hzp,hTI,⟨_,_,hTO⟩,hi1,hi2⟩,fun c hc=>?_,q⟩
 have hcs:s1.heap.objs.size<=c:=by
  simp only[Zgh,Zhq,or_false] at hc
  rcases hc with rfl | rfl | rfl | rfl | rfl <;> first | exact Zgf _ | exact Zo7 _ _
 exact I1.fpOk hcs (I1.hok.fresh hcs)
end
end L2
namespace L2
open PySem PySem.W PyProof.Rows
noncomputable def znr(K:Zf6):List V->Hp->VK->Prop:=fun vs H Q=>∃a xs ds,vs=[.ref a]/\SqL K H a xs/\Reps K H ds xs/\zeo ds/\ds.length<64 /\
 ∀l (p:List Nat),p.Perm (Zg1 ds.length)->p.map (fun i=>ds.getD i .non)=zeh ds->H l=none->Q (.ref l) (upd H l (.lst (p.map fun i=>xs.getD i .non)))
section
variable{X:Cx}{pins:List (Addr×Obj)}{U:St}{H:Hp}{s:Zgc}
theorem zq2{h':Heap}{ds:List D}{xs:List V}{us:List Zf9}{A':Zhe}(I:Inv X pins U H s)(rs:Reps X.K H ds xs)(rv:Vals xs us)(hal:zeo ds)(h2:2<=us.length)(h64:us.length<64)(k:zf2 s.heap h') :
  zus X.prog X.w A' { s with heap:=h' } us (OutK (rk ds) us):=by
 obtain⟨κ,hk,hlt⟩:=zse (A':=A') I rs rv hal h2 k
 exact znd h2 h64 hk hlt
theorem zkl:zed X (.builtin "sorted") (znr X.K):=by
 intro pins s U H xs us Q I r h
 obtain⟨a,vs,ds,rfl,hq,rs,hal,h64,q⟩:=h
 obtain⟨u,rfl,ru⟩:=zg5 r
 cases ru
 obtain⟨its,rv,pl,hz⟩:=I.list hq
 have l1:=rs.length
 have l2:=rv.length
 refine zns (OutK (rk ds) its) pl.isList (by lia) (fun h2 h' k=>zq2 I rs rv hal h2 (by lia) k) (fun h1=>?_) fun out c h' k hc hsz hO=>?_
 .exact zjn h1
 .obtain⟨p,hp,ho,hs⟩:=hO
  have hmem:∀i∈p,i<its.length:=fun i hi=>Zhp.mp (hp.mem_iff.mp hi)
  have hpm:(p.map fun i=>ds.getD i .non).Perm ds:=by
   have h1:=hp.map (fun i=>ds.getD i D.non)
   have h2:(Zg1 its.length).map (fun i=>ds.getD i D.non)=ds:=by
    rw[<- l2,<- l1]
    refine Zka fun i=>?_
    rw[Zgl]
    by_cases hi:i<ds.length
    .rw[Zi9 hi,Zf8 hi]
     simp[Zf7,hi]
    .rw[Zhd (by simpa using hi),Zhd (by simpa using hi)];rfl
   rw[h2] at h1;exact h1
  have hso:(p.map fun i=>ds.getD i .non).Pairwise fun a b=>a.leB b=true:=by
   rw[Zjp]
   refine Zn0 (fun {i j} hi hj h=>ybn (by have:=hmem i hi;lia) (by have:=hmem j hj;lia) h) hs
  have eD:=zg9 hal hpm hso
  have hv:=rv.pick p (by rw[l2];exact hmem)
  rw[<- ho] at hv
  have hplen:p.length=its.length:=by rw[hp.length_eq,Zmd]
  refine⟨.ref (s.heap.objs.size+1),_,I.laid (t':=s.toks) k (Zk3 _) (show zck X.prog X.w _ _ _ (.lst _) from⟨by rw[Zge];lia,out.toList,c,hv,by simpa[Zo3] using hc⟩),rfl,q _ p (by rw[l1,l2];exact hp) eD (I.hok.fresh (Zk3 _))⟩
end
section
variable{K:Zf6}{G Hz L:Hp}{ss:List Sl}{t:TE}{ds:List D}
theorem zmc(a:EvL K G Hz L ss t ds)(hal:zeo ds)(h64:ds.length<64):EvO K G Hz L ss (tCB (znr K) (za7 t tNil)) (zeh ds):=fun F H U Q S q =>
 a F H U _ S fun p vs F' H' e sq r=>⟨p,vs,ds,rfl,sq,r.mono e.fh,hal,h64,fun l pm hp hs hl=>by
  have hmem:∀i∈pm,i<ds.length:=fun i hi=>Zhp.mp (hp.mem_iff.mp hi)
  have:=r.pick pm hmem
  rw[hs] at this
  exact q l _ F' _ (e.newO hl) (e.hh.free hl) (e.fh.free hl) zan this⟩
end
section
variable(P:Zgy)(w:Zhn)(K:Zf6)
noncomputable def zku(f:Bool):List V->Hp->VK->Prop:=fun vs H Q=>∃a xs ds,vs=[.ref a]/\H a=some (ztw P w a (ds.map D.sk) xs)/\Reps K H ds xs/\(∀d∈ds,d.hk f=true)/\zeo ds/\ds.length<64 /\
 ∀l xr,H l=none->Src ds xs [] [] (zeh ds) xr->Q (.ref l) (upd H l (.lst xr))
end
section
variable{X:Cx}
theorem zi7{f:Bool}(hc:X.calm=true):zed X (.builtin "sorted") (zku X.prog X.w X.K f):=by
 intro pins s U H vs us Q I r h
 obtain⟨a,xs,ds,rfl,ha,rs,hf,hal,h64,q⟩:=h
 obtain⟨u,rfl,ru⟩:=zg5 r
 cases ru
 obtain⟨es,⟨o,ep,t,ho,S⟩,v⟩:=I.setE ha hf rs
 refine zle (fun vs out=>∃ds' xs',Vals xs' vs/\ds'.Perm ds/\Src ds xs [] [] ds' xs'/\OutK (rk ds') vs out) (I.ok.hd hc) ho S (fun vs h' d tk hp h2 k=>?_) (fun vs hp h1=>?_) fun vs out c h' d tk l hp k hl hcell hsz hO=>?_
 .obtain⟨d2,x2,v2,p2,s2⟩:=zli hp rs.length v
  obtain⟨κ,z1,z2⟩:=zq2 (A':=X.A.in1.in1) ((I.kept (h':=h') (t':=tk) k).drw d) (s2.reps rs Reps.nil) v2 (hal.perm p2) h2 (by have:=p2.length_eq;have:=s2.1;have:=v2.length;lia) (fun _ _ e=>e)
  exact⟨κ,z1,fun Q E hQ=>z2 Q E fun st' e1 e2 e3=>hQ st' e1 e2 ⟨d2,x2,v2,p2,s2,e3⟩⟩
 .obtain⟨d2,x2,v2,p2,s2⟩:=zli hp rs.length v
  exact⟨d2,x2,v2,p2,s2,zjn h1⟩
 .obtain⟨d2,x2,v2,p2,s2,p,hpp,hout,hsort⟩:=hO
  have l1:=s2.1
  have l2:=v2.length
  have rs2:Reps X.K H d2 x2:=s2.reps rs Reps.nil
  have hmem:∀i∈p,i<vs.length:=fun i hi=>Zhp.mp (hpp.mem_iff.mp hi)
  have hpm:(p.map fun i=>d2.getD i .non).Perm d2:=by
   have g1:=hpp.map (fun i=>d2.getD i D.non)
   have g2:(Zg1 vs.length).map (fun i=>d2.getD i D.non)=d2:=by
    rw[<- l2,<- l1]
    refine Zka fun i=>?_
    rw[Zgl]
    by_cases hi:i<d2.length
    .rw[Zi9 hi,Zf8 hi]
     simp[Zf7,hi]
    .rw[Zhd (by simpa using hi),Zhd (by simpa using hi)];rfl
   rw[g2] at g1;exact g1
  have hso:(p.map fun i=>d2.getD i .non).Pairwise fun a b=>a.leB b=true:=by
   rw[Zjp]
   exact Zn0 (fun {i j} hi hj h=>ybn (by have:=hmem i hi;lia) (by have:=hmem j hj;lia) h) hsort
  have eD:(p.map fun i=>d2.getD i .non)=zeh ds:=zg9 hal (hpm.trans p2) hso
  have hv:=v2.pick p (by rw[l2];exact hmem)
  rw[<- hout] at hv
  have hplen:p.length=vs.length:=by rw[hpp.length_eq,Zmd]
  have hz:x2.length<=1000:=by
   have:=p2.length_eq
   have:=S.small
   simp at *;lia
  refine⟨.ref l,_,(I.laid (t':=tk) (h':=h') k hl (show zck X.prog X.w _ _ _ (.lst (p.map fun i=>x2.getD i .non)) from⟨by rw[Zge,hplen,<- l2];exact zbs (by lia),out.toList,c,hv,by simpa[Zo3] using hcell⟩)).drw d,rfl,q l _ (I.hok.fresh hl) ⟨?_,fun i d' x' h1 h2=>?_⟩⟩
  .rw[<- eD];simp
  .rw[<- eD,Zgl] at h1
   rw[Zgl] at h2
   cases hp:p[i]? with
   | none=>rw[hp] at h1;cases h1
   | some j =>
    rw[hp] at h1 h2
    have hj:=hmem j (Zgm hp)
    have e1:d2[j]? = some d':=by
     have:d2.getD j .non=d':=by simpa using h1
     rw[Zf7,Zf8 (by lia)] at this
     rw[Zf8 (by lia)];simpa using this
    have e2:x2[j]? = some x':=by
     have:x2.getD j .non=x':=by simpa using h2
     rw[Zf7,Zf8 (by lia)] at this
     rw[Zf8 (by lia)];simpa using this
    obtain⟨j',hj'⟩:=s2.2 j d' x' e1 e2
    exact⟨j',hj'⟩
end
section
variable{P:Zgy}{w:Zhn}{K:Zf6}{G Hz L:Hp}{ss:List Sl}{t ta tb:TE}{f:Bool}{ds da db dr:List D}
theorem zkj(dd:List D)(a:EvS P w K G Hz L ss t ds)(hf:∀d∈ds,d.hk f=true)(hal:zeo ds)(hn:dd.Nodup)(h64:dd.length<64)(hm:∀d,d∈dd↔d∈ds):EvO K G Hz L ss (tCB (zku P w K f) (za7 t tNil)) (zeh dd):=fun F H U Q S q =>
 a F H U _ S fun p xs F' H' d1 e hp fp hp1 r n1 m1=>⟨p,xs,d1,rfl,hp1,r.mono e.fh,fun d h=>hf d ((m1 d).mp h),hal.sub fun d h=>(m1 d).mp h,by rw[<- ((Zlt hn n1).mpr fun d=>by rw[hm,m1]).length_eq];exact h64,fun l xr hl src=>by
  have hp:dd.Perm d1:=(Zlt hn n1).mpr fun d=>by rw[hm,m1]
  rw[<- zfu (hal.sub fun d h=>(m1 d).mp h) hp] at src
  exact q l xr F' _ (e.newO hl) (e.hh.free hl) (e.fh.free hl) zan (src.reps r Reps.nil)⟩
end
end L2
namespace L2
open PySem PySem.W PySem.Spec PyProof.Rows
end L2
namespace L2
open PySem PySem.W PyProof.Rows
section
variable{X:Cx}{pins:List (Addr×Obj)}{U:St}{H:Hp}{s:Zgc}{A':Zhe}
noncomputable def D.hd:D->D
 | .tup (h::_)=>h
 | d=>d
end
end L2
namespace L2
open PySem PySem.W PySem.Spec PyProof.Rows
structure DE(h:Heap)(d:Addr)(es:Array Zs7)(ep:Nat):Prop where
 ob:∃o,h.get? d=some o/\o.ExactDict/\o.data= .dict es ep
end L2
namespace L2
open PySem PySem.Spec PyProof.Rows
end L2
namespace L2
open PySem PySem.W PySem.Spec PyProof.Rows
noncomputable def ItF(K:Zf6)(J:It)(F':Hp)(n:Nat)(y:Nat->D):Prop:=∀F2 H2,Same F' F2->Same F2 H2 ->
 (∀i,i<n->J.go i H2 /\ ∀x H3,J.yld i H2 x H3-> ∃F3,Ext F2 H2 F3 H3/\Rep K F3 (y i) x)/\J.stop n H2
noncomputable def EvF(K:Zf6)(G Hz L:Hp)(ss:List Sl)(wi:TI)(n:Nat)(y:Nat->D):Prop:=∀F H U R,Sat K G Hz L F H U ss->(∀F' H' J,Ext F H F' H'->ItF K J F' n y->R J H')->wi U H R
section
variable{K:Zf6}{G Hz L:Hp}{ss:List Sl}{i j:Nat}{p b:Addr}{kvs:DD}{E:Ends}{ty td tv tx:TE}{t:TS}{k d z:D}{ds:List D}{wi:TI}{n:Nat}{y:Nat->D}
theorem znn{g:TG}{tb:TS}(I:Nat->List Sl->Prop)(a:EvF K G Hz L ss wi n y)(h0:I 0 ss)
  (hs:∀L' k ss,Same L L'->k<n->I k ss-> ∃ss',Tg K G Hz L' g (y k) ss ss' /\ ∀N,(∀ss,I (k+1) ss->Nx K G Hz L' N ss)->Go K G Hz L' { E with nx:=N,ct:=N,bk:=E.nx } ss' tb)
  (hd:∀ss,I n ss->Nx K G Hz L E.nx ss):Go K G Hz L E ss (tFor wi g tb):=fun F H U S =>
 a F H U _ S fun F1 H1 J e1 it=>by
  refine⟨fun i m U' H'=>m=n - i/\i<=n/\At K G Hz F1 (I i) U' H',⟨_,rfl,Zhg _,ss,F1,(S.ext2 e1).raise,h0⟩,?_⟩
  rintro i m U' H' ⟨rfl,hi,ss1,F2,S2,h2⟩
  obtain⟨it1,it2⟩:=it F2 H' S2.fl S2.ext.fh
  by_cases hlt:i<n
  .obtain⟨go,yl⟩:=it1 i hlt
   refine .inr ⟨go,fun U'' H''=>At K G Hz F1 (I (i+1)) U'' H'',fun U'' H'' h=>⟨n - (i+1),by omega,rfl,hlt,h⟩,fun x H'' yx=>?_⟩
   obtain⟨F3,e3,rx⟩:=yl x H'' yx
   obtain⟨ss',tg,go⟩:=hs F1 i ss1 (S.fl.trans e1.gf) hlt h2
   exact tg F3 _ U' x _ (S2.ext2 e3) rx fun U3 S3=>go _ (fun ss h=>zvy h) F3 _ U3 S3
  .have e:i=n:=by omega
   subst e
   exact .inl ⟨it2,hd ss1 h2 F2 H' U' (S2.lower (S.fl.trans e1.gf))⟩
end
end L2
namespace L2
open PySem PySem.Spec PyProof.Rows
section
variable{K:Zf6}{G Hz L:Hp}{ss:List Sl}{ta tb te tl:TE}{ds es:List D}
theorem zpk(a:Ev K G Hz L ss ta (.lst ds))(b:Ev K G Hz L ss tb (.tup es)):EvF K G Hz L ss (ych K (za7 ta (za7 tb tNil))) (min ds.length es.length) fun i=>.tup [ds.getD i .non,es.getD i .non]:=fun F H U R S q =>
 a F H U _ S fun v F0 H0 e0 r0=>b F0 H0 U _ (S.ext2 e0) fun v2 F1 H1 e1 r2=>by
  have r1:=r0.mono e1.gf
  obtain⟨p,vs,rfl,sq,rs⟩:=r1.of_lst
  obtain⟨p2,vs2,rfl,sqb,rsb⟩:=r2.of_tup
  refine⟨p,p2,rfl,⟨vs,SqL.same e1.fh sq⟩,⟨vs2,SqT.same e1.fh sqb⟩,q F1 H1 _ (e0.trans e1) fun F2 H2 f1 fh=>?_⟩
  obtain⟨ws,sq2,rs2⟩:=(r1.mono f1).itl fh
  obtain⟨p2',ws2,e2,sq22,rs22⟩:=(r2.mono f1).of_tup
  cases e2
  have sq22:=SqT.same fh sq22
  have l1:=rs2.length
  have l2:=rs22.length
  refine⟨fun i hi=>⟨⟨ws,ws2,ws[i]'(by omega),ws2[i]'(by omega),sq2,sq22,Zf8 _,Zf8 _⟩,fun x H3 y=>?_⟩,⟨ws,ws2,sq2,sq22,by omega⟩⟩
  obtain⟨T0,us,rfl,hf,rfl,y⟩:=y
  obtain⟨w,w2,hx,hx2,rfl⟩:=y ws ws2 sq2 sq22
  obtain⟨dx,hdx,rx⟩:=rs2.get hx
  obtain⟨dx2,hdx2,rx2⟩:=rs22.get hx2
  have e3:Ext F2 H2 (upd F2 T0 (.tup [w,w2])) (upd H2 T0 (.tup [w,w2])):=(Ext.refl fh).newF hf
  refine⟨_,e3,?_⟩
  show Rep K _ (.tup [ds.getD i .non,es.getD i .non]) _
  rw[Zf7,Zf7,hdx,hdx2]
  exact Rep.tupN zan (Reps.cons (rx.mono e3.gf) (Reps.cons (rx2.mono e3.gf) Reps.nil))
theorem zs0{m:Nat}(a:Ev K G Hz L ss tl (.lst ds))(b:Ev K G Hz L ss te (.int m))(hm:Zia m=true):EvF K G Hz L ss (iEnN K (za7 tl tNil) te) ds.length fun i=>.tup [.int ((i+m:Nat):Int),ds.getD i .non]:=fun F H U R S q =>
 a F H U _ S fun v F1 H1 e1 r1=>b F1 H1 U _ (S.ext2 e1) fun v0 F1' H1' e1' r0=>by
  obtain⟨p,vs,rfl,sq,rs⟩:=r1.of_lst
  rw[r0.of_int]
  refine⟨p,m,rfl,rfl,hm,⟨vs,SqL.same e1'.hh (SqL.same e1.fh sq)⟩,q F1' H1' _ (e1.trans e1') fun F2 H2 f1 fh=>?_⟩
  have rp:Rep K F2 (.lst ds) (.ref p):=(r1.mono e1'.gf).mono f1
  obtain⟨ws,sq2,rs2⟩:=rp.itl fh
  have hlen:=rs2.length
  refine⟨fun i hi=>⟨⟨ws,ws[i]'(by lia),sq2,Zf8 _⟩,fun x H3 y=>?_⟩,⟨ws,sq2,by lia⟩⟩
  obtain⟨T0,us,rfl,hf,rfl,y⟩:=y
  obtain⟨w,hx,rfl⟩:=y ws sq2
  obtain⟨dx,hdx,rx⟩:=rs2.get hx
  have e3:Ext F2 H2 (upd F2 T0 (.tup [.int ((i+m:Nat):Int),w])) (upd H2 T0 (.tup [.int ((i+m:Nat):Int),w])):=(Ext.refl fh).newF hf
  refine⟨_,e3,?_⟩
  show Rep K _ (.tup [.int ((i+m:Nat):Int),ds.getD i .non]) _
  rw[Zf7,hdx]
  exact Rep.tupN (zan) (Reps.cons Rep.int (Reps.cons (rx.mono e3.gf) Reps.nil))
end
theorem zx6{P:Zgy}{w:Zhn}{K:Zf6}{q:Addr}{ep:Nat}(rows:List (Str×Tok×Addr))(hl:Zi8 q K=some ⟨.type "dict", none,.dict (rows.map fun r=>(⟨keyH w (.inr r.1),.str r.1 r.2.1,.ref r.2.2⟩:Zs7)).toArray ep,#[]⟩)(hq:(q == Zj3)=false)(hn:(rows.map (·.1)).Nodup):DctK P w K q (rows.map fun r=>(.inr r.1,V.ref r.2.2)):=by
 refine⟨hq,_,_,_,rows.map fun r=>(.inr r.1,Zhy r.2.2),hl,⟨rfl,rfl,rfl⟩,rfl,fun e he=>?_,?_,?_,?_⟩
 .obtain⟨r,hr,rfl⟩:=Zg5.mp (List.mem_toArray.mp he)
  exact⟨.inr r.1,zdv P w r.1 r.2.1,rfl⟩
 .show Pairs _ (Zr6 _ rows) _
  clear hl hn
  induction rows with
  | nil=>exact .nil
  | cons r rows ih=>exact .cons (zdv P w r.1 r.2.1) rfl ih
 .rw[Zii]
  have:(rows.map fun r=>(Zm5 r.1:Key))=(rows.map (·.1)).map Zm5:=by rw[Zii];rfl
  show(rows.map fun r=>(Zm5 r.1:Key)).Nodup
  rw[this]
  exact Zvj _ (fun a b h z=>h (Ztt z)) hn
 .clear hl hn
  induction rows with
  | nil=>exact .nil
  | cons r rows ih=>exact .cons ⟨rfl,rfl⟩ ih
end L2
namespace My
open PySem L2 PyProof.Rows
noncomputable def yc5(acc:List Nat)(c:Nat):List Nat:=if c≠32\/(acc≠[]/\acc.getLast? ≠ some 32) then acc++[lo1 c] else acc
noncomputable def trim(r:List Nat):List Nat:=if r≠[]/\r.getLast? = some 32 then r.dropLast else r
noncomputable def plain(l:List Nat):List Nat:=trim (l.foldl yc5 [])
noncomputable def ycq:List (List Nat)->List Nat
 | []=>[]
 | [p]=>p
 | p::q::r=>p++32::ycq (q::r)
noncomputable def ydb(acc:List Nat)(c:Nat):List Nat:=if c≠32\/(acc≠[]/\acc.getLast? ≠ some 32) then acc++[c] else acc
noncomputable def yc7(acc:List Nat):Prop:=acc=[]\/acc.getLast? = some 32
noncomputable def up:List Nat:=(Zg1 26).map (65 + ·)
noncomputable def dn:List Nat:=(Zg1 26).map (97 + ·)
end My
namespace My
open PySem L2 PyProof.Rows
structure Asc(n:Nat)(l:List Nat):Prop where
 lt:∀c∈l,c<128
 len:l.length<=n
end My
namespace My
open PySem L2 PyProof.Rows
noncomputable def sV(c:Nat):V:=.str (T [c])
end My
namespace My
open PySem L2 PyProof.Rows
noncomputable def cpl:List Nat->List Nat->Nat
 | a::x,b::y=>if a=b then cpl x y+1 else 0
 | _,_=>0
noncomputable def ycv(F S:List Nat):Bool:=decide (F.drop 1=S.drop 1)||decide (F.drop 1=S)||decide (F=S.drop 1)
noncomputable def near(p q:List Nat):Bool:=ycv (p.drop (cpl p q)) (q.drop (cpl p q))
theorem zx9(n d:Nat){a:Int}(h:0<=a):HT.sIx n d (some a)=min a.toNat n:=by
 show(if a<0 then (a+(n:Int)).toNat else min a.toNat n)=_
 rw[if_neg (by lia)]
theorem zsv(m:List Nat){b:Int}(h:0<=b):cutL m (some b) none=m.drop b.toNat:=by
 unfold cutL
 have e2:HT.sIx m.length m.length none=m.length:=rfl
 rw[zx9 _ _ h,e2,Zjb (by rw[Zkh];lia)]
 by_cases hh:b.toNat<=m.length
 .rw[Zlq hh]
 .rw[Zml (by lia),Zs3,Zkv (by lia)]
end My
namespace My
open PySem L2 PyProof.Rows
noncomputable def yda(F S:List Nat):Prop:=F=S\/F.drop 1=S\/F=S.drop 1\/F.drop 1=S.drop 1
noncomputable def frm(a b:List Nat):D:=.tup [.str a,.str b]
noncomputable def ya1(p:List Nat)(k:Nat):List D:=[frm (p.take k) (p.drop k),frm (p.take k) (p.drop (k+1))]
noncomputable def zw9(p:List Nat):List D:=(Zg1 (p.length+1)).flatMap (ya1 p)
noncomputable def ycw(p q:List Nat):List D:=(ded (zw9 p)).filter fun d=>decide (d∈zw9 q)
end My
namespace L2
open PySem PySem.W PyProof.Rows
section
variable{X:Cx}{pins:List (Addr×Obj)}{U:St}{H:Hp}{s:Zgc}{l I0 S:Addr}{xs:List V}{ks:List D}{q:Addr}{J:Hp->Prop}{R:Zuc->Zgc->Prop}{lt:Nat->Nat->Bool}
noncomputable def ItAt(o:Obj)(l:Addr)(j:Nat):Prop:=o.cls= .type "list_iterator" /\ o.data= .fields #[.ref l,.int (j:Int) 0]
end
end L2
namespace L2
open PySem PySem.W PySem.Spec PyProof.Rows PySem.Calls
open PySem.MeetsSeq PySem.MeetsSeq2 PySem.MeetsSeq3
open AutoSeq1 (wpAny_loadPart')
inductive LexC(prog:Zgy)(w:Zhn)(A:Zhe)(s:Zgc):List Zf9->List Zf9->Bool->Prop
 | nil:LexC prog w A s [] [] false
 | eq {u v:Zf9} {us vs:List Zf9} {r:Bool} (h:∀(E:Zf9->Zgc->Prop) (Q:Bool->Zgc->Prop),Q true s->Zgr (Zg9 prog w) A (eqBool u v) Q E s) (t:LexC prog w A s us vs r):LexC prog w A s (u::us) (v::vs) r
 | ne {u v:Zf9} {us vs:List Zf9} {r:Bool} (h:∀(E:Zf9->Zgc->Prop) (Q:Bool->Zgc->Prop),Q false s->Zgr (Zg9 prog w) A (eqBool u v) Q E s) (g:∀(E:Zf9->Zgc->Prop) (Q:Zf9->Zgc->Prop),Q (.bool r) s->Zgr (Zg9 prog w) A (richCompare .Lt u v) Q E s):LexC prog w A s (u::us) (v::vs) r
noncomputable def keyD(a b:Int)(xs:List Int):D:=.tup [.int a,.int b,.lst (xs.map .int)]
noncomputable def ydc(X:Cx)(N:List Str)(qual:Str)(scope:Scope)(f c':Addr)(cl:List (Str×Addr))(A:Zhe)(s:Zgc)(H:Hp):Cx where
 prog:=X.prog
 w:=X.w
 K:=X.K
 mg:=X.mg
 base:=X.base
 A:=A.deeper (envX qual scope s.heap.objs.size f (.ref c') cl)
 N:=N
 s₀:=s
 Hz:=H
 env:=envX qual scope s.heap.objs.size f (.ref c') cl
 outer:=X.stack
 stack:=envX qual scope s.heap.objs.size f (.ref c') cl::X.stack
 ex:=[]
 calm:=true
 fn:=fun _=>false
 pn:=[]
 xe:=fun _ _=>False
noncomputable def yc8(H:Hp)(c' P:Addr)(q:Str):Prop:=∃oc vs t,H c'=some (.frz oc (.own P))/\oc.data= .fields vs/\vs[1]? = some (.str q t)
end L2
namespace L2
open PySem PySem.W PyProof.Rows PySem.Spec PySem.Calls
noncomputable def one(f:V->Hp->Prop):List V->Hp->Prop
 | [v],H=>f v H
 | _,_=>False
noncomputable def yc6(K:Zf6):List V->Hp->VK->Prop:=fun vs H Q=>∃a ns,vs=[.ref a]/\SqL K H a (ns.map V.int)/\ns≠[] /\ ∀m,m∈ns->(∀n∈ns,n<=m)->Q (.int m) H
noncomputable def yc9(K:Zf6)(ta tk:TE):TE:=fun U H Q=>ta U H fun v H1=>tk U H1 fun dv H2=>∃(a:Addr) (ns:List Int) (d:Int),v= .ref a/\dv= .int d/\SqL K H2 a (ns.map V.int)/\(∀m,m∈ns->(∀n∈ns,n<=m)->Q (.int m) H2)/\(ns=[]->Q (.int d) H2)
end L2
namespace L2
open PySem PySem.W PySem.Spec PyProof.Rows PySem.Calls
noncomputable def kI(ks:List (Int×Int×List Int))(i:Nat):List Int:=match ks[i]? with
 | some k=>k.1::k.2.1::k.2.2
 | none=>[]
noncomputable def ydd(K:Zf6)(P:Addr)(pos:Pos)(q:Str)(i:Nat)(te ta:TE):TE:=fun U H Q=>ta U H fun v H1=>∃a xs vy ks n,v= .ref a/\SqL K H1 a xs/\U[i]? = some (some vy)/\H1 P=some (.tab #[] pos q)/\0<xs.length/\ks.length=xs.length/\(∀k∈ks,k.2.2.length=n) /\
 (∀(j:Nat) x k H',xs[j]? = some x->ks[j]? = some k->Same H1 H'->te [some x,some vy] H' (fun y H2=>Same H' H2/\Rep K H2 (keyD k.1 k.2.1 k.2.2) y)) /\
 (∀(j:Nat) x H',xs[j]? = some x->(∀m,m<xs.length-> ¬ kI ks m<kI ks j/\(m<j->kI ks j<kI ks m))->Same H1 H'->Q x H')
end L2
namespace L2
open PySem PySem.W PySem.Spec PyProof.Rows
structure LamAt(base:Heap)(mg:Str->Option Zf9)(fl:Zjc)(T:Addr):Prop where
 ex:∃c,fl.code= .ref c/\CodeHd base c T
 bt:base.BuiltinsAt mg T
end L2
namespace L2
open PySem PySem.Spec PyProof.Rows
noncomputable abbrev HasT(H:Hp)(T:Addr)(pos:Pos)(q:Str):Prop:=H T=some (.tab #[] pos q)
noncomputable def SpDT(K:Zf6)(T:Addr)(pos:Pos)(q:Str)(pre:List D->Prop)(res:List D->D):Sp:=fun vs H Q _=>∃G ds,Same G H/\HasT G T pos q/\Reps K G ds vs/\pre ds /\ ∀v G' H',Ext G H G' H'->Rep K G' (res ds) v->Q v H'
noncomputable def RtPO(K:Zf6)(G Hz:Hp)(rt:VK)(l:Int)(ds:List D):Prop:=∀a p vs F H,Ext G Hz F H->Hz p=none->F p=none->F a=some (.tup [.int l,.ref p])->H p=some (.lst vs)->Reps K F ds vs->rt (.ref a) H
noncomputable def SpPT(K:Zf6)(T:Addr)(pos:Pos)(q:Str)(pre:List D->Prop)(res:List D->Int×List D):Sp:=fun vs H Q _=>∃G ds,Same G H/\HasT G T pos q/\Reps K G ds vs/\pre ds/\RtPO K G H Q (res ds).1 (res ds).2
structure FX(K:Zf6)(mg:Str->Option Zf9)(n:Str)(s:Stmt)(ps:List Str)(f:Addr)(d:Zjc):Prop where
 F:Fun K n n s f d
 B:zd0 K d ps []
 M:mg n=some (.ref f)
noncomputable def Bd(n:Str)(s:Stmt)(ps:List Str):Prop:=∀(kV doc pm:Zf9) (an:Option Addr) (cdv ct:Zf9) (us:List Zf9),us.length=ps.length->Zlw (Zh3 n n (zby s) (zbl s) (zad s) .none kV doc pm an cdv ct) ⟨us,[]⟩=pure (ps.zip us)
theorem fx_mk{K:Zf6}{h:Heap}{mg:Str->Option Zf9}{n:Str}{s:Stmt}{ps:List Str}{g:Addr}{oc kV doc pm cdv ct:Zf9}{od an:Option Addr}{osl:Array (Option Zf9)}(X:K.In h)(G:h.Ns Zjs mg)(b:Bd n s ps)(a:PySem.W.nsIn K Zjs n=some (some (.ref g)))
  (l:K.lookup g=some ⟨oc,od,.func (Zh3 n n (zby s) (zbl s) (zad s) .none kV doc pm an cdv ct),osl⟩) (c:Zmu K cdv n=true) (k:Zks K (.ref g)=true):FX K mg n s ps g (Zh3 n n (zby s) (zbl s) (zad s) .none kV doc pm an cdv ct) :=
 ⟨fun_mk l c k,(fun_mk l c k).binds b,PySem.W.mg_of X G a⟩
theorem FX.bt{K:Zf6}{mg:Str->Option Zf9}{n x:Str}{s:Stmt}{f:Addr}{d:Zjc}(b:Bd n s [x])(z:FX K mg n s [x] f d)(t:Zgc)(v:Zf9):Zps t d ⟨[v],[]⟩ [(x,v)]:=by
 obtain⟨oc,od,kV,dc,pm,an,cdv,ct,osl,rfl,l,_⟩:=z.F.ex
 exact .of_eq (b kV dc pm an cdv ct [v] rfl)
theorem zb4{N P:List Str}{sc:Scope}(h:(decide (sc.kind= .function)&&(!sc.isCoroutine&&(!sc.isGenerator&&(decide N.Nodup&&(decide (N.take P.length=P)&&(P.all (fun x=>decide (sc.names.lookup x=some .local\/sc.names.lookup x=some .cell))&&sc.names.all fun y=>decide (y.2 ≠ .free)))))))=true):FnScope N P sc:=by
 simp only[Zgv,decide_eq_true_eq,Zsk,Zif] at h
 exact⟨h.1,h.2.1,h.2.2.1,h.2.2.2.1,h.2.2.2.2.1,h.2.2.2.2.2.1,h.2.2.2.2.2.2⟩
section
variable{X:Cx}{pos:Pos}{i:Nat}{x:Str}
theorem pgn(i:Nat)(hN:X.N.Nodup)(hi:X.N[i]? = some x:=by rfl)(hx:Loc X.env.scope x:=by exact Zlg rfl)(hf:X.fn x=true\/X.env.scope.names.lookup x=some .local:=by first | exact .inl rfl | exact .inr rfl | assumption):PG X (.Name x pos) (zh3 i):=zca hN hi hx hf
theorem psn(i:Nat){e:Expr}{te:TE}{pos':Pos}(hN:X.N.Nodup)(he:PE X e te)(hi:X.N[i]? = some x:=by rfl)(hx:Loc X.env.scope x:=by exact Zlg rfl)(hs:Znj e (some (.Name x pos')) pos.line X.env=pure false:=by rfl)(hf:X.fn x=true\/X.env.scope.names.lookup x=some .local:=by first | exact .inl rfl | exact .inr rfl | assumption):PS X (.Assign [.Name x pos'] e pos) (tAsg te (zh3 i)):=zsj hN hi hx he hs hf
theorem pcX{k kk:Nat}{f:Addr}{fd:Zjc}{ps:List Str}{sp:Sp}{e:Expr}{es:List Expr}{t:TA}{p:Pos}{st:Stmt}(F:FnOk X.prog X.w X.K X.mg X.base CX0 k f fd ps sp)(hr:Room kk X.A)(z:FX X.K X.mg x st ps f fd)(ha:PA X (e::es) t)(hle:k<=kk:=by decide)(hg:Gl X x:=by rfl)(hdb:(x == ("__debug__" : Str))=false:=by decide)(he:Zhf (e::es) X.env=(false,eval e X.env)::Zhf es X.env:=by rfl)(hpl:(Zkj pos (Zhf es X.env)).any (·.1)=false:=by rfl):PE X (.Call (.Name x p) (e::es) [] pos) (ziw sp [] E0 t) :=
 zyt F (hr.mono hle) hg z.M z.F.kp z.B .nil zgp ha hdb he hpl
end
section
variable{P:Zgy}{w:Zhn}{K:Zf6}{mg:Str->Option Zf9}{base:Heap}{x qual:Str}{st:Stmt}{f:Addr}{fd:Zjc}{N ps:List Str}{k:Nat}
theorem zvo{sc:Scope}(S:FnScope N ps sc):ps.length<=N.length:=by
 have:=congrArg Zjk S.pre
 rw[Zjj] at this
 omega
theorem okD{pre:List D->Prop}{res:List D->D}(F:Fun K x qual st f fd)(S:FnScope N ps (zad st))(hl:∀ds,pre ds->ds.length=ps.length)
  (hb:∀(cdv:Zf9) (A:Zhe) (outer:List Env) (s:Zgc) (H:Hp) (Q:VK) (E:XK),Room k (A.deeper (Znn qual (zad st) s.heap.objs.size f cdv))-> ∃t,PSs (cxOf CX0 P w K mg base N qual (zad st) f cdv A outer s H E).nox (zbl st) t /\ ∀G ds,pre ds->RtD K G H Q (res ds)->Go K G H G { nx:=fun _ H'=>Q .non H',rt:=Q } (slots N.length ds) t):FnOk P w K mg base CX0 (k+1) f fd ps (SpD K pre res) :=
 F.ok S (fun vs H Q E h=>zsk hl h) fun cdv A outer s H vs Q E hr h=>let ⟨t,p,b⟩:=hb cdv A outer s H Q E hr;⟨t,p,yac h (by rw[zsk hl h];exact zvo S) b⟩
theorem okO{pre:List D->Prop}{res:List D->List D}(F:Fun K x qual st f fd)(S:FnScope N ps (zad st))(hl:∀ds,pre ds->ds.length=ps.length)
  (hb:∀(cdv:Zf9) (A:Zhe) (outer:List Env) (s:Zgc) (H:Hp) (Q:VK) (E:XK),Room k (A.deeper (Znn qual (zad st) s.heap.objs.size f cdv))-> ∃t,PSs (cxOf CX0 P w K mg base N qual (zad st) f cdv A outer s H E).nox (zbl st) t /\ ∀G ds,pre ds->RtO K G H Q (res ds)->Go K G H G { nx:=fun _ H'=>Q .non H',rt:=Q } (slots N.length ds) t):FnOk P w K mg base CX0 (k+1) f fd ps (SpO K pre res) :=
 F.ok S (fun vs H Q E h=>zsg hl h) fun cdv A outer s H vs Q E hr h=>let ⟨t,p,b⟩:=hb cdv A outer s H Q E hr;⟨t,p,yb7 h (by rw[zsg hl h];exact zvo S) b⟩
theorem okG{α:Type}{pre:α->List D->Prop}{res:α->D}(F:Fun K x qual st f fd)(S:FnScope N ps (zad st))(hl:∀q ds,pre q ds->ds.length=ps.length)
  (hb:∀(cdv:Zf9) (A:Zhe) (outer:List Env) (s:Zgc) (H:Hp) (Q:VK) (E:XK),Room k (A.deeper (Znn qual (zad st) s.heap.objs.size f cdv))-> ∃t,PSs (cxOf CX0 P w K mg base N qual (zad st) f cdv A outer s H E).nox (zbl st) t /\ ∀G ds q,pre q ds->RtD K G H Q (res q)->Go K G H G { nx:=fun _ H'=>Q .non H',rt:=Q } (slots N.length ds) t):FnOk P w K mg base CX0 (k+1) f fd ps (SpG K pre res) :=
 F.ok S (fun vs H Q E h=>zry hl h) fun cdv A outer s H vs Q E hr h=>let ⟨t,p,b⟩:=hb cdv A outer s H Q E hr;⟨t,p,ycd h (by rw[zry hl h];exact zvo S) b⟩
theorem okGO{α:Type}{pre:α->List D->Prop}{res:α->List D}(F:Fun K x qual st f fd)(S:FnScope N ps (zad st))(hl:∀q ds,pre q ds->ds.length=ps.length)
  (hb:∀(cdv:Zf9) (A:Zhe) (outer:List Env) (s:Zgc) (H:Hp) (Q:VK) (E:XK),Room k (A.deeper (Znn qual (zad st) s.heap.objs.size f cdv))-> ∃t,PSs (cxOf CX0 P w K mg base N qual (zad st) f cdv A outer s H E).nox (zbl st) t /\ ∀G ds q,pre q ds->RtO K G H Q (res q)->Go K G H G { nx:=fun _ H'=>Q .non H',rt:=Q } (slots N.length ds) t):FnOk P w K mg base CX0 (k+1) f fd ps (SpGO K pre res) :=
 F.ok S (fun vs H Q E h=>zpf hl h) fun cdv A outer s H vs Q E hr h=>let ⟨t,p,b⟩:=hb cdv A outer s H Q E hr;⟨t,p,zz3 h (by rw[zpf hl h];exact zvo S) b⟩
end
end L2
namespace L2
open PySem PySem.W PySem.Spec PyProof.Rows
end L2
namespace My
open PySem L2 PyProof.Rows
noncomputable def top(i:Nat):Stmt:=Ztu.main.body.getD i (.Pass ⟨0,0,0,0⟩)
noncomputable abbrev zep:Stmt:=top 15
noncomputable abbrev zdo:List Str:=["text"]
theorem zqg:FnScope ["text"] zdo (zad zep):=zb4 (by decide +kernel)
noncomputable abbrev zfz:Stmt:=top 16
noncomputable abbrev zel:List Str:=["sign"]
theorem zqc:FnScope ["sign"] zel (zad zfz):=zb4 (by decide +kernel)
noncomputable abbrev zeg:Stmt:=top 17
noncomputable abbrev zet:List Str:=["text"]
theorem zp0:FnScope ["text"] zet (zad zeg):=zb4 (by decide +kernel)
noncomputable abbrev zdx:Stmt:=top 18
noncomputable abbrev zcd:List Str:=["one", "field", "other"]
theorem zla:FnScope ["one", "field", "other"] zcd (zad zdx):=zb4 (by decide +kernel)
noncomputable abbrev zpg:Stmt:=top 19
noncomputable abbrev zlr:List Str:=["facts"]
theorem zyl:FnScope ["facts"] zlr (zad zpg):=zb4 (by decide +kernel)
noncomputable abbrev zcf:Stmt:=top 62
noncomputable abbrev zbx:List Str:=["row"]
theorem zi0:FnScope ["row"] zbx (zad zcf):=zb4 (by decide +kernel)
noncomputable abbrev zc2:Stmt:=top 63
noncomputable abbrev zc6:List Str:=["text"]
theorem zg1:FnScope ["text", "rows"] zc6 (zad zc2):=zb4 (by decide +kernel)
noncomputable abbrev zf8:Stmt:=top 64
noncomputable abbrev zei:List Str:=["row"]
theorem zju:FnScope ["row", "words"] zei (zad zf8):=zb4 (by decide +kernel)
noncomputable abbrev zb6:Stmt:=top 65
noncomputable abbrev zbo:List Str:=["number", "row"]
theorem zg6:FnScope ["number", "row"] zbo (zad zb6):=zb4 (by decide +kernel)
noncomputable abbrev zcv:Stmt:=top 66
noncomputable abbrev zc5:List Str:=["text"]
theorem zlg:FnScope ["text"] zc5 (zad zcv):=zb4 (by decide +kernel)
noncomputable abbrev zcu:Stmt:=top 67
noncomputable abbrev zc3:List Str:=["book"]
theorem zlx:FnScope ["book"] zc3 (zad zcu):=zb4 (by decide +kernel)
noncomputable abbrev zd6:Stmt:=top 97
noncomputable abbrev zcw:List Str:=["word", "form"]
theorem zl0:FnScope ["word", "form"] zcw (zad zd6):=zb4 (by decide +kernel)
noncomputable abbrev ze7:Stmt:=top 98
noncomputable abbrev zcr:List Str:=["row"]
theorem zds:FnScope ["row", "words", "word", "form"] zcr (zad ze7):=zb4 (by decide +kernel)
noncomputable abbrev zbj:Stmt:=top 99
noncomputable abbrev zax:List Str:=["rows", "last"]
theorem zbp:FnScope ["rows", "last", "number", "row"] zax (zad zbj):=zb4 (by decide +kernel)
noncomputable abbrev zcp:Stmt:=top 101
noncomputable abbrev zb3:List Str:=["rows"]
theorem zje:FnScope ["rows"] zb3 (zad zcp):=zb4 (by decide +kernel)
noncomputable def zra(i j:Nat):Stmt:=match top i with
 | .ClassDef _ _ _ b _ _ _ _ _ _ _=>b.getD j (.Pass ⟨0,0,0,0⟩)
 | s=>s
noncomputable abbrev Zau:Stmt:=zra 106 0
noncomputable abbrev znx:List Str:=["self"]
theorem zl3:FnScope ["self"] znx (zad Zau):=zb4 (by decide +kernel)
noncomputable abbrev Zaw:Stmt:=zra 106 1
noncomputable abbrev zqr:List Str:=["self", "text"]
theorem zft:FnScope ["self", "text", "rows", "words"] zqr (zad Zaw):=zb4 (by decide +kernel)
noncomputable abbrev Zac:Stmt:=zra 106 2
noncomputable abbrev zfl:List Str:=["self", "words"]
theorem zbu:FnScope ["self", "words", "word", "form"] zfl (zad Zac):=zb4 (by decide +kernel)
noncomputable abbrev Zap:Stmt:=zra 106 3
noncomputable abbrev zkv:List Str:=["self", "words"]
theorem zfg:FnScope ["self", "words", "book"] zkv (zad Zap):=zb4 (by decide +kernel)
noncomputable abbrev Zab:Stmt:=zra 106 4
noncomputable abbrev zfm:List Str:=["self", "words", "rows"]
theorem zff:FnScope ["self", "words", "rows", "book"] zfm (zad Zab):=zb4 (by decide +kernel)
noncomputable abbrev zcq:Stmt:=top 108
noncomputable abbrev zb7:List Str:=["_law_script", "_law_k"]
theorem zi2:FnScope ["_law_script", "_law_k"] zb7 (zad zcq):=zb4 (by decide +kernel)
noncomputable abbrev zfc:Stmt:=top 109
noncomputable abbrev zct:List Str:=["_law_cell", "_law_k"]
theorem zfq:FnScope ["_law_cell", "_law_k", "_law_many", "_law_at"] zct (zad zfc):=zb4 (by decide +kernel)
noncomputable abbrev zdn:Stmt:=top 110
noncomputable abbrev zdj:List Str:=["_law_shape", "_law_cell"]
theorem zbr:FnScope ["_law_shape", "_law_cell", "_law_base", "_law_turned", "_law_sign", "_law_at", "_law_way"] zdj (zad zdn):=zb4 (by decide +kernel)
noncomputable abbrev zdt:Stmt:=top 111
noncomputable abbrev zc1:List Str:=["_law_sign"]
theorem zgx:FnScope ["_law_sign", "_law_at"] zc1 (zad zdt):=zb4 (by decide +kernel)
noncomputable abbrev zfa:Stmt:=top 112
noncomputable abbrev zdp:List Str:=["_law_shape", "_law_many", "_law_cell"]
theorem zcb:FnScope ["_law_shape", "_law_many", "_law_cell", "_law_i", "_law_way", "_law_j", "_law_field"] zdp (zad zfa):=zb4 (by decide +kernel)
noncomputable abbrev ze8:Stmt:=top 113
noncomputable abbrev zdm:List Str:=["_law_facts"]
theorem zfv:FnScope ["_law_facts", "_law_book_here", "_law_fact_here"] zdm (zad ze8):=zb4 (by decide +kernel)
noncomputable abbrev ze3:Stmt:=top 114
noncomputable abbrev zdg:List Str:=["_law_facts", "_law_cell"]
theorem zbq:FnScope ["_law_facts", "_law_cell", "_law_rows_here", "_law_at", "_law_fact_here", "_law_one", "_law_field", "_law_other"] zdg (zad ze3):=zb4 (by decide +kernel)
noncomputable abbrev zc4:Stmt:=top 115
noncomputable abbrev zcy:List Str:=["_law_book_here"]
theorem zk8:FnScope ["_law_book_here"] zcy (zad zc4):=zb4 (by decide +kernel)
noncomputable abbrev zup:Stmt:=top 116
noncomputable abbrev zso:List Str:=["_law_script"]
theorem zgz:FnScope ["_law_script", "_law_shape", "_law_many", "_law_facts", "_law_few", "_law_one", "_law_other", "_law_desk"] zso (zad zup):=zb4 (by decide +kernel)
set_option genInjectivity false in
set_option genSizeOf false in
structure Ad where
 (Zaa Zca Zbl Zas Zar Zcc Zc0 Zcx Zbe Zd0 Za2 Zb3 Zcv Zay Zbz Zbx Zbw Zbm Zaj Zba Za1 Za5 Zad Zam Zaf Zbb Zbn Zck Zb6 Zci Zcg Zch Zb5 Zes:Addr)
 (Zen Zdj Zdl Zem:Zf9)
 (Zcb Zcy Zcz Zbd Zdz Za3 Zb4 Zcw Zax Zbu Zbv Zb2 Zbr Zai Zbc Za0 Za7 Zae Zan Zag Za8 Zbt Zce Zby Zcf Zcl Zcj Zb1 Zeb:Zjc)
structure Tx(K:Zf6)(mg:Str->Option Zf9)(ad0:Ad):Prop where
 Ze6:mg "Desk" = some (.ref ad0.Zaa)
 Zak:Cls K ad0.Zaa
 Zek:Mk K ad0.Zaa ad0.Za1
 Zal:Meth K ad0.Zaa "say" ad0.Za5
 Zav:zde K ad0.Zaa "books"
 Zc4:zde K ad0.Zaa "rules"
 Za6:Meth K ad0.Zaa "refuse_names" ad0.Zad
 Zcn:Meth K ad0.Zaa "answer" ad0.Zam
 Za4:Meth K ad0.Zaa "changed_book" ad0.Zaf
 Zd5:mg "ASKING" = some (.ref ad0.Zca)
 Zdp:TupK K ad0.Zca [[115,104,111,119],[103,114,111,117,112,115],[108,111,115,115],[116,111,108,100]]
 Zdn:mg "FIELDS" = some (.ref ad0.Zbl)
 Zdr:TupK K ad0.Zbl [[110,97,109,101],[102,111,114,109,101,114],[119,97,121],[100,97,121],[109,97,114,107]]
 Zc2:mg "PAIR_FIELDS" = some (.ref ad0.Zas)
 Zc1:TupK K ad0.Zas [[115,97,109,101],[97,112,97,114,116]]
 Zc6:mg "TAKING_ROWS" = some (.ref ad0.Zar)
 Zb8:TupK K ad0.Zar [[98,111,111,107],[114,117,108,101,115],[114,105,103,104,116]]
 Zdy:mg "LETTERS" = some ad0.Zen
 Zft:RelV (.str (T [97,98,99,100,101,102,103,104,105,106,107,108,109,110,111,112,113,114,115,116,117,118,119,120,121,122])) ad0.Zen
 Zcm:mg "LONGEST_NAME" = some ad0.Zdj
 Zel:RelV (.int 12) ad0.Zdj
 Zco:mg "LONGEST_TEXT" = some ad0.Zdl
 Zef:RelV (.int 40) ad0.Zdl
 Zd2:mg "NO_SIGN" = some ad0.Zem
 Zfy:RelV (.int 37) ad0.Zem
 Zcd:FX K mg "is_name" zep zdo ad0.Zcc ad0.Zcb
 Zde:FX K mg "is_sign" zfz zel ad0.Zc0 ad0.Zcy
 Zdc:FX K mg "is_text" zeg zet ad0.Zcx ad0.Zcz
 Zcq:FX K mg "pair_fact" zdx zcd ad0.Zbe ad0.Zbd
 Zd8:FX K mg "tidy" zpg zlr ad0.Zd0 ad0.Zdz
 Zbp:FX K mg "is_passed_by" zcf zbx ad0.Za2 ad0.Za3
 Zct:FX K mg "told_rows" zc2 zc6 ad0.Zb3 ad0.Zb4
 Zdd:FX K mg "fact_of" zf8 zei ad0.Zcv ad0.Zcw
 Zbk:FX K mg "numbered_fact" zb6 zbo ad0.Zay ad0.Zax
 Zcp:FX K mg "read_book" zcv zc5 ad0.Zbz ad0.Zbu
 Zcu:FX K mg "show_book" zcu zc3 ad0.Zbx ad0.Zbv
 Zcr:FX K mg "fits_form" zd6 zcw ad0.Zbw ad0.Zb2
 Zda:FX K mg "order_of" ze7 zcr ad0.Zbm ad0.Zbr
 Zat:FX K mg "refuse_rows_behind" zbj zax ad0.Zaj ad0.Zai
 Zb9:FX K mg "rows_behind" zcp zb3 ad0.Zba ad0.Zbc
 Zdi:Fun K "__init__" "Desk.__init__" Zau ad0.Za1 ad0.Za0
 Zdg:zd0 K ad0.Za0 ["self"] []
 Zdo:Fun K "say" "Desk.say" Zaw ad0.Za5 ad0.Za7
 Zaq:zd0 K ad0.Za7 ["self", "text"] []
 Zbi:Fun K "refuse_names" "Desk.refuse_names" Zac ad0.Zad ad0.Zae
 Zbh:zd0 K ad0.Zae ["self", "words"] []
 Zc5:Fun K "answer" "Desk.answer" Zap ad0.Zam ad0.Zan
 Zc3:zd0 K ad0.Zan ["self", "words"] []
 Zbg:Fun K "changed_book" "Desk.changed_book" Zab ad0.Zaf ad0.Zag
 Zbj:zd0 K ad0.Zag ["self", "words", "rows"] []
 Zao:FX K mg "_law_cell_at" zcq zb7 ad0.Zbb ad0.Za8
 Zaz:FX K mg "_law_card" zfc zct ad0.Zbn ad0.Zbt
 Zc9:FX K mg "_law_text" zdn zdj ad0.Zck ad0.Zce
 Zb7:FX K mg "_law_great" zdt zc1 ad0.Zb6 ad0.Zby
 Zdb:FX K mg "_law_fact" zfa zdp ad0.Zci ad0.Zcf
 Zbo:FX K mg "_law_book" ze8 zdm ad0.Zcg ad0.Zcl
 Zbq:FX K mg "_law_rows" ze3 zdg ad0.Zch ad0.Zcj
 Zbf:FX K mg "_law_shown" zc4 zcy ad0.Zb5 ad0.Zb1
 Zd9:FX K mg "law" zup zso ad0.Zes ad0.Zeb
 Zew:mg "all" = none
 Zb0:mg "enumerate" = none
 Zd1:mg "isinstance" = none
 Zcs:mg "len" = none
 Zey:mg "list" = none
 Zet:mg "max" = none
 Zev:mg "min" = none
 Zfl:mg "ord" = none
 Zfj:mg "range" = none
 Zdw:mg "reversed" = none
 Zfm:mg "set" = none
 Zdm:mg "sorted" = none
 Zf1:mg "str" = none
 Zec:mg "tuple" = none
 Zeu:mg "zip" = none
section
variable{P:Zgy}{w:Zhn}{K:Zf6}{mg:Str->Option Zf9}{base:Heap}{ad0:Ad}
noncomputable def zkr(ds:List D):Prop:=∃(ns:List Int) (k:Int),ds=[.lst (ns.map .int),.int k]/\0<=k
noncomputable def zdy:List D->D
 | [.lst xs,.int k]=>xs.getD k.toNat (.int 0)
 | _=>.non
theorem zi5(Z:Tx K mg ad0):FnOk P w K mg base CX0 1 ad0.Zbb ad0.Za8 zb7 (SpD K zkr zdy):=by
 refine okD Z.Zao.F zi2 (by rintro ds ⟨ns,k,rfl,_⟩;rfl) fun cdv A outer s H Q E hr=>⟨_,(zah (zbz (zat zyo (pv 1) (zbf zb1 (by rfl) Z.Zcs Znv (zaa (pv 0) zae)) (za3 _)) (zai (zau (zbw (show IxR _ (rIxL K) from za0) (pv 0) (pv 1) (fun _ _=>rfl)))) zav)
   (zai (zau zag))),fun G ds hp rt=>?_⟩
 obtain⟨ns,k,rfl,hk⟩:=hp
 have ll:(ns.map D.int).length=ns.length:=by simp
 refine zao (zb2 (zap (zke (g:=fun i j=>decide (i<j)) (zab rfl).b (zij (zab rfl).l).b)) (fun hb=>?_) (fun hb=>?_))
 .simp only[decide_eq_true_eq] at hb
  have hk2:k.toNat<ns.length:=by omega
  refine zbi (zbe (d:=.int (ns.getD k.toNat 0)) (zab rfl).l (zab rfl).b ?_) ?_
  .have:=zen (xs:=ns.map D.int) (j:=k.toNat) (v:=D.int (ns.getD k.toNat 0)) (by rw[Zgl,Zf7];simp[hk2])
   rw[show((k.toNat:Nat):Int)=k by omega] at this
   exact this
  .have e:zdy [D.lst (ns.map D.int),D.int k]= .int (ns.getD k.toNat 0):=by
    simp[zdy,Zf7,Zgl,hk2]
   rw[e] at rt;exact rt
 .simp only[decide_eq_false_iff_not] at hb
  have e:zdy [D.lst (ns.map D.int),D.int k]= .int 0:=by
   simp[zdy,Zf7,Zgl,show ns[k.toNat]? = none from Zhd (by omega)]
  rw[e] at rt
  refine za1 ?_
  ((try dsimp only);refine zay ?_)
  exact zbi zaf rt
theorem small{n:Nat}(h:n<=1000):n<=sizeLine:=by rw[Zgq];omega
theorem zif{α:Type}(xs:List α)(z:α)(x:Int){n:Int}(hn:(xs.length:Int)=n)(h0:0<n):atI xs (x % n)=some (xs.getD (x % n).toNat z):=by
 have h1:=Zg7 x (show n≠0 by omega)
 have h2:=Zgx x h0
 have:=zen (xs:=xs) (j:=(x % n).toNat) (v:=xs.getD (x % n).toNat z) (by rw[Zf7,Zf8 (by omega)];rfl)
 rw[show(((x % n).toNat:Nat):Int)=x % n by omega] at this
 exact this
noncomputable def lets:List Nat:=("abcdefghijklmnopqrstuvwxyz" : Str).cps.toList
theorem zpj:lets.length=26:=by decide +kernel
theorem zn6:∀c∈lets,c<128:=by decide +kernel
noncomputable def zlh(x:Int):Nat:=lets.getD (x % 26).toNat 0
theorem zzn(x:Int):atI lets (x % 26)=some (zlh x):=zif lets 0 x (by rw[zpj];rfl) (by decide)
noncomputable def zwr:List Nat:=((Zg1 95).map (· + 32)).filter (· != 37)
noncomputable def flds:List (List Nat):=[[110,97,109,101],[102,111,114,109,101,114],[119,97,121],[100,97,121],[109,97,114,107]]
noncomputable def prs:List (List Nat):=[[115,97,109,101],[97,112,97,114,116]]
noncomputable def zbv(n:List Nat):Prop:=1<=n.length/\n.length<=12 /\ ∀c∈n,c∈lets
noncomputable instance(n:List Nat):Decidable (zbv n):=by unfold zbv;exact inferInstance
noncomputable def zl9(t:List Nat):Prop:=1<=t.length/\t.length<=40/\t=zc9 [32].contains t /\ ∀c∈t,c∈zwr
noncomputable def preS(ds:List D):Prop:=∃l,ds=[.str l]/\l.length<=1000
noncomputable def zkf(l:List Nat):Bool:=(decide ((1:Int)<=(l.length:Int))&&decide ((l.length:Int)<=12))&&l.all fun c=>decide (c∈lets)
noncomputable def zea:List D->D
 | [.str l]=>.bl (zkf l)
 | _=>.non
theorem zjr(Z:Tx K mg ad0):FnOk P w K mg base CX0 1 ad0.Zcc ad0.Zcb zdo (SpD K preS zea):=by
 refine okD Z.Zcd.F zqg (by rintro ds ⟨c,rfl,_⟩;rfl) fun cdv A outer s H Q E hr=>⟨_,(zai (zau (zpa (zop zva zva zag (zbf zgt (by rfl) Z.Zcs Znv (zaa (pv 0) zae)) (zce (by rfl) Z.Zcm Z.Zel)) (zlq (zbf (zow rfl) (by rfl) Z.Zew boot_all (zaa (zni rfl (LcOk.of (Nx:=(["text"]:List Str)) (sc:=zad zep) (N':=(["sign"]:List Str)) (nt:=1) (cs:=[]) rfl rfl (by decide +kernel)) (zon (pv 0)) (fun _ _ _ _=>(zca (i:=0) (show Zix (["sign"]:List Str) by decide +kernel) rfl (Zlg rfl))) (fun _ _ _ _=>zdz) (fun _ _ _ _=>(zfs ztf (pv 0) (zce (by rfl) Z.Zdy Z.Zft) (by with_unfolding_all rfl)))) zae)))))),fun G ds hp rt=>?_⟩
 obtain⟨l,rfl,hl⟩:=hp
 have rt:RtD K G H Q (.bl (zkf l)):=rt
 have hz:l.length<=sizeLine:=small hl
 exact zbi (zre (zl6 zaf.b (zst (zab rfl).b hz).b zaf.b) fun _=>ztt (xs:=l) (g:=fun c=>decide (c∈lets)) (EvO.l (zii l (fun c=>.bl (decide (c∈lets))) (zab rfl).b (zcl (by decide)) (by decide) (by rw[Zgq];omega) fun c hc=>⟨_,za5,yad (zab rfl).b (zaw (l:=lets) (by decide +kernel) zn6).b⟩))) rt
theorem zlz{l:List Nat}(h:zbv l):zkf l=true:=by
 unfold zkf
 obtain⟨h1,h2,h3⟩:=h
 rw[decide_eq_true (show(1:Int)<=(l.length:Int) by omega),decide_eq_true (show(l.length:Int)<=12 by omega)]
 simp only[Zn1,Zif,decide_eq_true_eq]
 exact h3
noncomputable def preC(ds:List D):Prop:=∃c:Nat,ds=[.str [c]]
noncomputable def znt(c:Nat):Bool:=(!decide ([c]<[32]) && !decide ([126]<[c])) && !decide ((c:Int)=37)
noncomputable def ztn:List D->D
 | [.str [c]]=>.bl (znt c)
 | _=>.non
theorem zpw(Z:Tx K mg ad0):FnOk P w K mg base CX0 1 ad0.Zc0 ad0.Zcy zel (SpD K preC ztn):=by
 refine okD Z.Zde.F zqc (by rintro ds ⟨c,rfl⟩;rfl) fun cdv A outer s H Q E hr=>⟨_,(zai (zau (zpa (zop zlt zlt zal (pv 0) zal) (zlq (zfs zja (zbf zu0 (by rfl) Z.Zfl boot_ord (zaa (pv 0) zae)) (zce (by rfl) Z.Zd2 Z.Zfy) (za3 _)))))),fun G ds hp rt=>?_⟩
 obtain⟨c,rfl⟩:=hp
 have rt:RtD K G H Q (.bl (znt c)):=rt
 exact zbi (zre (zuk (zaw (l:=[32]) (by decide +kernel) (by decide)).b (zab rfl).b (zaw (l:=[126]) (by decide +kernel) (by decide)).b) fun _=>zxb (ev_ord (zab rfl).b).b zaf.b) rt
theorem zrx:∀c∈zwr,znt c=true:=by decide +kernel
noncomputable def zkm(l:List Nat):Bool:=(decide ((1:Int)<=(l.length:Int))&&decide ((l.length:Int)<=40))&&(decide (l=zc9 [32].contains l)&&l.all fun c=>znt c)
noncomputable def znl:List D->D
 | [.str l]=>.bl (zkm l)
 | _=>.non
theorem zqy(Z:Tx K mg ad0):FnOk P w K mg base CX0 2 ad0.Zcx ad0.Zcz zet (SpD K preS znl):=by
 have Zf0:=zpw (P:=P) (w:=w) (base:=base) Z
 refine okD Z.Zdc.F zp0 (by rintro ds ⟨c,rfl,_⟩;rfl) fun cdv A outer s H Q E hr=>⟨_,(zah (zbz (zpd (zwj zva zva zag (zbf zgt (by rfl) Z.Zcs Znv (zaa (pv 0) zae)) (zce (by rfl) Z.Zco Z.Zef))) (zai (zau zm2)) zav)
   (zai (zau (zpa (zfs zd8 (pv 0) (zd5 Zhm Zpp Zpo zhu (pv 0) (zaa zal zae)) (za3 _)) (zlq (zbf (zow rfl) (by rfl) Z.Zew boot_all (zaa (zni rfl (LcOk.of (Nx:=(["text"]:List Str)) (sc:=zad zeg) (N':=(["sign"]:List Str)) (nt:=1) (cs:=[]) rfl rfl (by decide +kernel)) (zon (pv 0)) (fun _ _ _ _=>(zca (i:=0) (show Zix (["sign"]:List Str) by decide +kernel) rfl (Zlg rfl))) (fun _ _ _ _=>zdz) (fun _ _ _ _=>(pcX Zf0 hr Z.Zde (zaa (pv 0) zae)))) zae))))))),fun G ds hp rt=>?_⟩
 obtain⟨l,rfl,hl⟩:=hp
 have rt:RtD K G H Q (.bl (zkm l)):=rt
 have hz:l.length<=sizeLine:=small hl
 refine zao (zb2 (zkb (zap (zl6 zaf.b (zst (zab rfl).b hz).b zaf.b))) (fun hb=>?_) (fun hb=>?_))
 .have e:zkm l=false:=by
   unfold zkm
   rw[Zsk] at hb
   rw[hb,Znf]
  rw[e] at rt
  exact zbi yco rt
 .refine za1 ?_
  ((try dsimp only);refine zay ?_)
  have e:zkm l=(decide (l=zc9 [32].contains l)&&l.all fun c=>znt c):=by
   unfold zkm
   rw[Bool.not_eq_false'] at hb
   rw[hb,Zn1]
  rw[e] at rt
  exact zbi (zre (ziu (zab rfl).b (zj4 (zab rfl).b (zaw (l:=[32]) (by decide +kernel) (by decide)).b hz).b) fun _=>ztt (xs:=l) (g:=fun c=>znt c) (EvO.l (zii l (fun c=>.bl (znt c)) (zab rfl).b (zcl (by decide)) (by decide) (by rw[Zgq];omega) fun c hc=>⟨_,za5,zbc (pre:=preC) (res:=ztn) (zac (zab rfl) zaj) ⟨c,rfl⟩⟩))) rt
theorem zr3{l:List Nat}(h:zl9 l):zkm l=true:=by
 unfold zkm
 obtain⟨h1,h2,h3,h4⟩:=h
 rw[decide_eq_true (show(1:Int)<=(l.length:Int) by omega),decide_eq_true (show(l.length:Int)<=40 by omega),decide_eq_true h3]
 simp only[Zn1,Zif]
 exact fun c hc=>zrx c (h4 c hc)
noncomputable def zyp(ds:List D):Prop:=∃a f b,ds=[.str a,.str f,.str b]
noncomputable def zwm:List D->D
 | [.str a,.str f,.str b]=>.tup [.str (minL a b),.str f,.str (maxL a b)]
 | _=>.non
theorem zlp(Z:Tx K mg ad0):FnOk P w K mg base CX0 1 ad0.Zbe ad0.Zbd zcd (SpD K zyp zwm):=by
 refine okD Z.Zcq.F zla (by rintro ds ⟨a,f,b,rfl⟩;rfl) fun cdv A outer s H Q E hr=>⟨_,(zai (zau (zmx (zaa (zbf (zta rfl) (by rfl) Z.Zev boot_min (zaa (pv 0) (zaa (pv 2) zae))) (zaa (pv 1) (zaa (zbf (zss rfl) (by rfl) Z.Zet boot_max (zaa (pv 0) (zaa (pv 2) zae))) zae)))))),fun G ds hp rt=>?_⟩
 obtain⟨a,f,b,rfl⟩:=hp
 exact zbi (zmk (zac (zyr (zab rfl).b (zab rfl).b) (zac (zab rfl) (zac (zzq (zab rfl).b (zab rfl).b) zaj))) (small (by simp))) rt
noncomputable abbrev Row:=List Nat×List Nat×List Nat
noncomputable def rowL(x:Row):List Nat:=x.1++32::(x.2.1++32::x.2.2)
noncomputable def zfo(x:Row):Prop:=zbv x.1/\((x.2.1∈flds/\zl9 x.2.2)\/(x.2.1∈prs/\zbv x.2.2/\x.1≠x.2.2))
noncomputable def yb8(x:Row)(ds:List D):Prop:=ds=[.str (rowL x)]/\zfo x
noncomputable def zi6(x:Row):D:=if x.2.1∈prs then .tup [.str (minL x.1 x.2.2),.str x.2.1,.str (maxL x.1 x.2.2)] else .tup [.str x.1,.str x.2.1,.str x.2.2]
theorem zuh:∀f∈flds,f∉prs:=by decide +kernel
theorem zl1:∀f∈prs,f∉flds:=by decide +kernel
theorem zmf:∀f∈flds++prs,32∉f/\f.length<=6:=by decide +kernel
theorem zzr:32∉lets:=by decide +kernel
theorem zvz{f:List Nat}{ls:List (List Nat)}:decide (D.str f∈ls.map D.str)=decide (f∈ls):=by
 congr 1
 rw[Zg5]
 apply propext
 exact⟨fun⟨g,hg,e⟩=>by injection e with e;rw[<- e];exact hg,fun h=>⟨f,h,rfl⟩⟩
theorem zpz(Z:Tx K mg ad0):FnOk P w K mg base CX0 3 ad0.Zcv ad0.Zcw zei (SpG K yb8 zi6):=by
 have Zdf:FnOk P w K mg base CX0 2 ad0.Zcc ad0.Zcb zdo (SpD K preS zea):=(zjr Z).mono (by decide)
 have Zfv:=zqy (P:=P) (w:=w) (base:=base) Z
 have Zfb:FnOk P w K mg base CX0 2 ad0.Zbe ad0.Zbd zcd (SpD K zyp zwm):=(zlp Z).mono (by decide)
 refine okG Z.Zdd.F zju (by rintro x ds ⟨rfl,_⟩;rfl) fun cdv A outer s H Q E hr=>⟨_,(zah (psn 1 zju.nd (zd5 Zhm Zip Zmx zte (pv 0) (zaa zal (zaa zag zae))))
   (zah (zbz (PW.pt (zzs (zat zyo (zbf zb1 (by rfl) Z.Zcs Znv (zaa (pv 1) zae)) zag (za3 _)) (zrv (zpd (zma (pcX Zdf hr Z.Zcd (zaa (zbw (show IxR _ (rIxL K) from za0) (pv 1) zag (fun _ _=>rfl)) zae))))))) (zai ze6) zav)
   (zah (zbz (PW.pt (zjo (zat (show OpR _ _ (rInD K false) from zlw hr.units) (zbw (show IxR _ (rIxL K) from za0) (pv 1) zag (fun _ _=>rfl)) (zce (v:=.ref ad0.Zbl) (by rfl) Z.Zdn rfl) (by with_unfolding_all rfl)) (ziv (zma (pcX Zfv hr Z.Zdc (zaa (zbw (show IxR _ (rIxL K) from za0) (pv 1) zag (fun _ _=>rfl)) zae)))))) (zai (zau (zlv zk5 (by rfl) Z.Zec boot_tuple (zaa (pv 1) zae)))) zav)
   (zah (zbz (PW.pt (zjo (zat (show OpR _ _ (rInD K false) from zlw hr.units) (zbw (show IxR _ (rIxL K) from za0) (pv 1) zag (fun _ _=>rfl)) (zce (v:=.ref ad0.Zas) (by rfl) Z.Zc2 rfl) (by with_unfolding_all rfl)) (zjo (zma (pcX Zdf hr Z.Zcd (zaa (zbw (show IxR _ (rIxL K) from za0) (pv 1) zag (fun _ _=>rfl)) zae))) (ziv (zat zja (zbw (show IxR _ (rIxL K) from za0) (pv 1) zag (fun _ _=>rfl)) (zbw (show IxR _ (rIxL K) from za0) (pv 1) zag (fun _ _=>rfl)) (za3 _)))))) (zai (zau (pcX Zfb hr Z.Zcq (zaa (zbw (show IxR _ (rIxL K) from za0) (pv 1) zag (fun _ _=>rfl)) (zaa (zbw (show IxR _ (rIxL K) from za0) (pv 1) zag (fun _ _=>rfl)) (zaa (zbw (show IxR _ (rIxL K) from za0) (pv 1) zag (fun _ _=>rfl)) zae)))))) zav)
   (zai ze6))))),fun G ds x hp rt=>?_⟩
 obtain⟨rfl,hx⟩:=hp
 obtain⟨c,f,t⟩:=x
 unfold rowL
 obtain⟨hc,hft⟩:=hx
 dsimp only at hc hft rt ⊢
 have hfm:f∈flds++prs:=by
  rcases hft with h | h
  .exact Zi2 _ h.1
  .exact Zhc _ h.1
 obtain⟨hf32,hfl⟩:=zmf f hfm
 have hc32:32∉c:=fun h=>zzr (hc.2.2 _ h)
 have htl:t.length<=40:=by
  rcases hft with h | h
  .exact h.2.2.1
  .have:=h.2.1.2.1;omega
 have hcl:=hc.2.1
 have sp:=zob (z:=32) (c:=t) hc32 hf32
 refine zao (zdq (ds:=[.str c,.str f,.str t]) (by
  have e:[D.str c,.str f,.str t]=(zaz 32 (2:Int).toNat (c++32::(f++32::t))).map D.str:=by
   rw[show(2:Int).toNat=2 from rfl,sp];rfl
  rw[e]
  exact zqa (zab rfl).b (zaw (l:=[32]) (by decide +kernel) (by decide)).b zaf.b ⟨by decide,by decide⟩ (by simp[Zgq];omega)) fun p=>zdc (i:=1) rfl ?_)
 ((try dsimp only);refine zay ?_)
 have callN:zea [.str c]= .bl true:=by show D.bl (zkf c)=_;rw[zlz hc]
 refine zao (zb2 (b:=(decide ((([D.str c,D.str f,D.str t].length:Nat):Int)<3) || !true)) (zrs (zap (zy7 (zij (zab rfl).l).b zaf.b)) fun _=>zkb (zrm (by
  rw[<- callN]
  exact zbc (pre:=preS) (res:=zea) (zac (zbe (zab rfl).l zaf.b rfl) zaj) ⟨c,rfl,by omega⟩))) (fun hb=>by simp at hb) (fun _=>?_))
 refine za1 ?_
 ((try dsimp only);refine zay ?_)
 have inT:∀{ls:List (List Nat)} {k:Addr} (h:TupK K k ls) {L0:Hp} {ss:List Sl} (hs:ss[1]? = some (.d (.lst [.str c,.str f,.str t]))),Ev K G H L0 ss (tOp (rInD K false) (tOp (rIxL K) (tVar 1) (tC (.int 1))) (tC (.ref k))) (.bl (decide (f∈ls))):=fun {ls k} h {L0 ss} hs=>by
  rw[<- zvz]
  exact zo9 (zbe (zab hs).l zaf.b rfl).b (zf9 h).b rfl (D.nbs_map (fun _=>rfl) ls) (by simp[D.dep])
 rcases hft with ⟨h1,h2⟩ | ⟨h1,h2,h3⟩
 .have callT:znl [.str t]= .bl true:=by show D.bl (zkm t)=_;rw[zr3 h2]
  refine zao (zb2 (b:=(decide (f∈flds)&&true)) (zfn (zap (inT Z.Zdr rfl)) fun _=>zrm (by
   rw[<- callT]
   exact zbc (pre:=preS) (res:=znl) (zac (zbe (zab rfl).l zaf.b rfl) zaj) ⟨t,rfl,by omega⟩)) (fun _=>?_) (fun hb=>by rw[decide_eq_true h1] at hb;cases hb))
  have e:zi6 (c,f,t)= .tup [.str c,.str f,.str t]:=by unfold zi6;rw[if_neg (zuh f h1)]
  rw[e] at rt
  exact zbi (zqu (zab rfl).l (small (by simp))) rt
 .refine zao (zb2 (b:=(decide (f∈flds)&&true)) (zfn (zap (inT Z.Zdr rfl)) fun hb=>by rw[decide_eq_false (zl1 f h1)] at hb;cases hb) (fun hb=>by rw[decide_eq_false (zl1 f h1)] at hb;cases hb) (fun _=>?_))
  refine za1 ?_
  ((try dsimp only);refine zay ?_)
  have callN2:zea [.str t]= .bl true:=by show D.bl (zkf t)=_;rw[zlz h2]
  refine zao (zb2 (b:=(decide (f∈prs)&&(true && !decide (c=t)))) (zfn (zap (inT Z.Zc1 rfl)) fun _=>zfn (zrm (by
   rw[<- callN2]
   exact zbc (pre:=preS) (res:=zea) (zac (zbe (zab rfl).l zaf.b rfl) zaj) ⟨t,rfl,by omega⟩)) fun _=>zap (zxp (zbe (zab rfl).l zaf.b rfl).b (zbe (zab rfl).l zaf.b rfl).b)) (fun _=>?_) (fun hb=>by rw[decide_eq_true h1,decide_eq_false h3] at hb;cases hb))
  have e:zi6 (c,f,t)=zwm [.str c,.str f,.str t]:=by unfold zi6;rw[if_pos h1];rfl
  rw[e] at rt
  exact zbi (zbc (pre:=zyp) (res:=zwm) (zac (zbe (zab rfl).l zaf.b rfl) (zac (zbe (zab rfl).l zaf.b rfl) (zac (zbe (zab rfl).l zaf.b rfl) zaj))) ⟨c,f,t,rfl⟩) rt
noncomputable def S(x:Str):D:=.str x.cps.toList
noncomputable def ze0:List D:=[S "same", S "apart"]
noncomputable def zz9:List D:=[S "name", S "former", S "way", S "day", S "mark"]
noncomputable abbrev Fct:=List Nat×List Nat×List Nat
noncomputable def encF(f:Fct):D:=.tup [.str f.1,.str f.2.1,.str f.2.2]
noncomputable def unF:D->Fct
 | .tup [.str a,.str b,.str c]=>(a,b,c)
 | _=>([],[],[])
theorem zgh(fs:List Fct):(fs.map encF).map unF=fs:=by
 rw[Zii,show(unF∘encF)=id from rfl,Zrh]
theorem zhf{f g:Fct}(h:encF f=encF g):f=g:=congrArg unF h
theorem zj3{fs:List Fct}{f:Fct}:encF f∈fs.map encF↔f∈fs :=
 ⟨fun h=>by obtain⟨g,hg,e⟩:=Zg5.mp h;rw[<- zhf e];exact hg,fun h=>Zlm h⟩
theorem zz2{fs:List Fct}(h:fs.Nodup):(fs.map encF).Nodup:=by
 unfold Zix at *
 rw[Zjp]
 exact h.imp fun a e=>a (zhf e)
theorem alF(fs:List Fct):zeo (fs.map encF):=.inr (.inr ⟨.s,[.s,.s],fun d hd=>by
 obtain⟨f,_,rfl⟩:=Zg5.mp hd;exact⟨_,rfl,rfl⟩⟩)
theorem hkF(fs:List Fct):∀d∈fs.map encF,d.hk false=true:=by
 intro d hd;obtain⟨f,_,rfl⟩:=Zg5.mp hd;rfl
theorem nbF(f:Fct):(encF f).nb=true:=rfl
theorem dpF(f:Fct):(encF f).dep<=1:=by show(D.deps [.str f.1,.str f.2.1,.str f.2.2])+1<=1;simp[D.deps,D.dep]
theorem zxd{ds:List D}{fs:List Fct}(h:∀d∈ds,d∈fs.map encF):(ds.map unF).map encF=ds:=by
 rw[Zii]
 conv=>rhs;rw[<- Zrh ds]
 exact Zri fun d hd=>by obtain⟨f,_,rfl⟩:=Zg5.mp (h d hd);rfl
noncomputable def Bk(b:List Fct):Prop:=b.Nodup/\zeh (b.map encF)=b.map encF
theorem zqf(ds:List D)(h:zeo ds):zeh (zeh ds)=zeh ds:=zfu h (zb0 ds)
noncomputable def mkB(fs:List Fct):List Fct:=(zeh (fs.map encF)).map unF
theorem zk0(fs:List Fct):(mkB fs).map encF=zeh (fs.map encF):=zxd fun d hd=>(zb0 _).mem_iff.mp hd
theorem zie(fs:List Fct)(f:Fct):f∈mkB fs↔f∈fs:=by rw[<- zj3,zk0,(zb0 _).mem_iff,zj3]
theorem zm3(fs:List Fct):(mkB fs).length=fs.length:=by unfold mkB;rw[Zge,(zb0 _).length_eq,Zge]
theorem ztj{fs:List Fct}(h:fs.Nodup):Bk (mkB fs):=by
 refine⟨?_,?_⟩
 .have:((mkB fs).map encF).Nodup:=by rw[zk0];exact(zb0 _).nodup_iff.mpr (zz2 h)
  unfold Zix at *
  rw[Zjp] at this
  exact this.imp fun a e=>a (congrArg encF e)
 .rw[zk0,zqf _ (alF fs)]
theorem Bk.ext{a b:List Fct}(ha:Bk a)(hb:Bk b)(h:∀f,f∈a↔f∈b):a=b:=by
 have p:(a.map encF).Perm (b.map encF):=((Zlt ha.1 hb.1).mpr h).map _
 have:=zfu (alF b) p
 rw[ha.2,hb.2] at this
 have:=congrArg (Zr6 unF) this
 rwa [zgh,zgh] at this
theorem zhl(fs:List Fct):zeh (fs.map encF)=(mkB fs).map encF:=(zk0 fs).symm
noncomputable def zww(K:Zf6):Sp:=fun vs H Q _=>∃(a:Addr) (ns:List Int),vs=[.ref a]/\SqL K H a (ns.map V.int)/\ns.length<=63 /\ ∀H',Q (.bl true) H'
theorem zmm{K:Zf6}{H:Hp}:∀ns:List Int,Reps K H (ns.map D.int) (ns.map V.int)
 | []=>Reps.nil
 | n::ns=>Reps.cons Rep.int (zmm ns)
noncomputable def dedF(fs:List Fct):List Fct:=(ded (fs.map encF)).map unF
theorem zhk(fs:List Fct):(dedF fs).map encF=ded (fs.map encF):=zxd fun d hd=>zgm.mp hd
theorem zhq(fs:List Fct)(f:Fct):f∈dedF fs↔f∈fs:=by rw[<- zj3,zhk,zgm,zj3]
theorem zkg(fs:List Fct):(dedF fs).Nodup:=by
 have:((dedF fs).map encF).Nodup:=by rw[zhk];exact zgd _
 unfold Zix at *
 rw[Zjp] at this
 exact this.imp fun a e=>a (congrArg encF e)
noncomputable def bkD(b:List Fct):D:=.lst (b.map encF)
theorem zhh(fs:List Fct):(dedF fs).length<=fs.length:=by
 unfold dedF
 rw[Zge]
 have:=zrq (fs.map encF)
 rwa [Zge] at this
noncomputable def zq7(ds:List D):Prop:=∃fs:List Fct,ds=[bkD fs]/\fs.length<=500/\(dedF fs).length<64
noncomputable def zm5:List D->List D
 | [.lst b]=>(mkB (dedF (b.map unF))).map encF
 | _=>[]
theorem ziz(b:List Fct):zm5 [bkD b]=(mkB (dedF b)).map encF:=by
 show(mkB (dedF ((b.map encF).map unF))).map encF=_
 rw[zgh]
theorem zxs(Z:Tx K mg ad0):FnOk P w K mg base CX0 1 ad0.Zd0 ad0.Zdz zlr (SpO K zq7 zm5):=by
 refine okO Z.Zd8.F zyl (by rintro ds ⟨c,rfl,_⟩;rfl) fun cdv A outer s H Q E hr=>⟨_,(zai (zau (zbf (show zed _ _ (zku P w K false) from zi7 rfl) (by rfl) Z.Zdm boot_sorted (zaa (zlv (show zed _ _ (zs7 P w K false) from ztc rfl hr.units) (by rfl) Z.Zfm boot_set (zaa (pv 0) zae)) zae)))),fun G ds hp rt=>?_⟩
 obtain⟨fs,rfl,hf,h64⟩:=hp
 rw[ziz,<- zhl,zhk] at rt
 exact znm (zkj (ded (fs.map encF)) (zy0 (zab rfl).l (hkF fs) (by rw[Zge];omega)) (hkF fs) (alF fs) (zgd _) (by rw[<- zhk,Zge];exact h64) fun d=>zgm) rt
noncomputable def zgc(l:List Nat):Bool:=decide (zc9 [32].contains l=[])||decide (l.head? = some 35)
noncomputable def preL(ds:List D):Prop:=∃l,ds=[.str l]/\l.length<=1000000
noncomputable def zua:List D->D
 | [.str l]=>.bl (zgc l)
 | _=>.non
theorem zhv(Z:Tx K mg ad0):FnOk P w K mg base CX0 1 ad0.Za2 ad0.Za3 zbx (SpD K preL zua):=by
 refine okD Z.Zbp.F zi0 (by rintro ds ⟨c,rfl,_⟩;rfl) fun cdv A outer s H Q E hr=>⟨_,(zai (zau (yc4 (zfs zd8 (zd5 Zhm Zpp Zpo zhu (pv 0) (zaa zal zae)) zal (za3 _)) (zlq (zd5 Zhm F.slot_str_startswith F.type_str_startswith (show MtR _ _ zn3 from zj0) (pv 0) (zaa zal zae)))))),fun G ds hp rt=>?_⟩
 obtain⟨l,rfl,hl⟩:=hp
 have rt:RtD K G H Q (.bl (zgc l)):=rt
 exact zbi (yc3 (ziu (zj4 (zab rfl).b (zaw (l:=[32]) (by decide +kernel) (by decide)).b (by rw[Zgq];omega)).b (zaw (l:=[]) (by decide +kernel) (by decide)).b) fun _=>zr7 (zab rfl).b (zaw (l:=[35]) (by decide +kernel) (by decide)).b) rt
noncomputable def lnAt(l:List Nat)(i:Nat):List Nat:=(zb8 10 l).getD i []
noncomputable def zk3(l:List Nat):List Nat:=(Zg1 (zb8 10 l).length).filter fun i=>!zgc (lnAt l i)
noncomputable def numD(l:List Nat)(i:Nat):D:=.tup [.int ((i+1:Nat):Int),.str (lnAt l i)]
noncomputable def ztb:List D->List D
 | [.str l]=>(zk3 l).map (numD l)
 | _=>[]
theorem zf0{z:Nat}:∀{n:Nat} {l p:List Nat},p∈zaz z n l->p.length<=l.length
 | 0,l,p,h=>by rw[zaz,Zgn] at h;subst h;exact Zgf _
 | n+1,l,p,h=>by
  rcases zdi (z:=z) l with ⟨h1,h2⟩ | ⟨b,h1,h2,h3⟩
  .rw[zaz,h1] at h
   have h:p∈[l]:=h
   rw[Zgn] at h;subst h;exact Zgf _
  .rw[zaz,h1] at h
   have h:p∈l.takeWhile (· != z)::zaz z n b:=h
   have hl:=congrArg Zjk h2
   rw[Zg8,Zgp] at hl
   rcases Zgh.mp h with h | h
   .subst h;omega
   .have:=zf0 h;omega
theorem zls(Z:Tx K mg ad0):FnOk P w K mg base CX0 2 ad0.Zb3 ad0.Zb4 zc6 (SpO K preL ztb):=by
 have Zej:=zhv (P:=P) (w:=w) (base:=base) Z
 refine okO Z.Zct.F zg1 (by rintro ds ⟨c,rfl,_⟩;rfl) fun cdv A outer s H Q E hr=>⟨_,(zah (psn 1 zg1.nd (zd5 Zhm Zip Zmx zj8 (pv 0) (zaa zal zae)))
   (zai (zau (zni rfl (LcOk.of (Nx:=(["text", "rows"]:List Str)) (sc:=zad zc2) (N':=(["number", "row"]:List Str)) (nt:=2) (cs:=[]) rfl rfl (by decide +kernel)) (zpi (by rfl) Z.Zb0 (zaa (pv 1) zae) zag) (fun _ _ _ _=>(show PG _ _ (gTup K 2 _) from zgy rfl (zbb (zca (i:=0) (show Zix (["number", "row"]:List Str) by decide +kernel) rfl (Zlg rfl)) (zbb (zca (i:=1) (show Zix (["number", "row"]:List Str) by decide +kernel) rfl (Zlg rfl)) zec)))) (fun _ _ _ _=>(zu5 (zpd (zma (pcX Zej hr Z.Zbp (zaa (pv 1) zae)))))) (fun _ _ _ _=>(zmx (zaa (pv 0) (zaa (pv 1) zae)))))))),fun G ds hp rt=>?_⟩
 obtain⟨l,rfl,hl⟩:=hp
 refine zao (zdq (zgj (zab rfl).b (zaw (l:=[10]) (by decide +kernel) (by decide)).b (by rw[Zgq];omega)) fun p=>zdc (i:=1) rfl ?_)
 ((try dsimp only);refine zay ?_)
 have hsl:(zb8 10 l).length<=l.length+2:=zex 10 _ l
 refine znm (ds:=(zk3 l).map (numD l)) ?_ rt
 have hn:((zb8 10 l).map D.str).length=(zb8 10 l).length:=Zge ..
 unfold zk3
 rw[<- hn]
 refine zks (fun i=>!zgc (lnAt l i)) (numD l) (zr5 (ds:=(zb8 10 l).map D.str) (zab rfl)) (zs3 (zd4 (zcl (by decide)) (zd4 (zcl (by decide)) znj))) (by decide) (by rw[Zge,Zgq];omega) fun i hi=>?_
 rw[Zge] at hi
 have eg:((zb8 10 l).map D.str).getD i .non= .str (lnAt l i):=by
  unfold lnAt
  rw[Zf7,Zf7,Zgl,Zf8 hi];rfl
 have hm:lnAt l i∈zb8 10 l:=by
  unfold lnAt
  rw[Zf7,Zf8 hi];exact Zhv _
 rw[eg]
 exact⟨_,zgr rfl (zba za5 (zba za5 ze2)),zkb (zrm (zbc (pre:=preL) (res:=zua) (zac (zab rfl) zaj) ⟨_,rfl,by have:=zf0 hm;omega⟩)),fun _=>zmk (zac (zab rfl) (zac (zab rfl) zaj)) (small (by simp))⟩
noncomputable def yba(x:Row)(ds:List D):Prop:=∃n:Int,ds=[.int n,.str (rowL x)]/\zfo x
theorem zg8(Z:Tx K mg ad0):FnOk P w K mg base CX0 4 ad0.Zay ad0.Zax zbo (SpG K yba zi6):=by
 have Zfx:=zpz (P:=P) (w:=w) (base:=base) Z
 refine okG Z.Zbk.F zg6 (by rintro x ds ⟨n,rfl,_⟩;rfl) fun cdv A outer s H Q E hr=>⟨_,(zai (zp9 rfl (zai (zau (pcX Zfx hr Z.Zdd (zaa (pv 1) zae)))))),fun G ds x hp rt=>?_⟩
 obtain⟨n,rfl,hx⟩:=hp
 exact zbi (zol (pre:=yb8) (res:=zi6) x (zac (zab rfl) zaj) ⟨rfl,hx⟩) rt
noncomputable abbrev Ln:=List Nat×Option Row
noncomputable def LnOk(p:Ln):Prop:=10∉p.1/\p.1.length<=100/\match p.2 with
 | none=>zgc p.1=true
 | some x=>p.1=rowL x/\zfo x
noncomputable def foF(x:Row):Fct:=if x.2.1∈prs then (minL x.1 x.2.2,x.2.1,maxL x.1 x.2.2) else x
theorem zt6(x:Row):zi6 x=encF (foF x):=by
 unfold zi6 foF
 split <;> rfl
noncomputable def za8(ls:List Ln):List Fct:=ls.filterMap fun p=>p.2.map foF
noncomputable def txtOf(ls:List Ln):List Nat:=glue [10] (ls.map (·.1))
noncomputable def yci(ls:List Ln)(ds:List D):Prop:=ds=[.str (txtOf ls)]/\ls≠[]/\ls.length<=400/\(∀p∈ls,LnOk p)/\(dedF (za8 ls)).length<64
noncomputable def zf3(ls:List Ln):List D:=(mkB (dedF (za8 ls))).map encF
theorem zvb{x:Row}(h:zfo x):∃c t,rowL x=c::t/\c∈lets:=by
 obtain⟨⟨h1,_,h3⟩,_⟩:=h
 unfold rowL
 cases hx:x.1 with
 | nil=>rw[hx] at h1;simp at h1
 | cons c t=>exact⟨c,_,rfl,h3 c (by rw[hx];simp)⟩
theorem zqk{c:Nat}{t:List Nat}(h:c≠32):zc9 [32].contains (c::t)≠[]:=by
 unfold zc9
 have e:(c::t).dropWhile [32].contains=c::t:=by
  rw[Zjw]
  simp[h]
 rw[e]
 intro z
 have z:=List.reverse_eq_nil_iff.mp z
 have:c∈(c::t).reverse:=by simp
 have hs:∀l:List Nat,l.dropWhile [32].contains=[]-> ∀x∈l,x=32:=fun l=>by
  induction l with
  | nil=>intro _ x hx;cases hx
  | cons a l ih =>
   intro hl x hx
   rw[Zjw] at hl
   split at hl
   .rename_i ha
    rcases Zgh.mp hx with rfl | hx
    .simpa using ha
    .exact ih hl x hx
   .cases hl
 exact h (hs _ z c this)
theorem zwg{x:Row}(h:zfo x):zgc (rowL x)=false:=by
 obtain⟨c,t,e,hc⟩:=zvb h
 have hc2:c≠32/\c≠35:=(show ∀c∈lets,c≠32/\c≠35 by decide +kernel) c hc
 unfold zgc
 rw[e,decide_eq_false (zqk hc2.1)]
 simp[hc2.2]
theorem zh2{ls:List (List Nat)}{n:Nat}(h:∀l∈ls,l.length<=n):(ls.map Zjk).sum<=n*ls.length:=by
 induction ls with
 | nil=>simp
 | cons a l ih =>
  have h1:=h a Zgz
  have h2:=ih fun x hx=>h x (Zgi _ hx)
  simp only[Zg3,Zqe,Zgp]
  rw[Zwp];omega
theorem zhp(z:List Nat):∀ls:List (List Nat),(glue z ls).length<=(ls.map Zjk).sum+z.length*ls.length
 | []=>by simp[glue]
 | [a]=>by simp[glue]
 | a::b::r=>by
  have:=zhp z (b::r)
  simp only[glue,Zg8,Zg3,Zqe,Zgp,Zwp,Nat.mul_one] at this ⊢
  omega
theorem zrc{ls:List Ln}(h:∀p∈ls,LnOk p)(hl:ls.length<=400):(txtOf ls).length<=100000:=by
 unfold txtOf
 have h1:=zhp [10] (ls.map (·.1))
 have h2:=zh2 (ls:=ls.map (·.1)) (n:=100) (by intro l hm;obtain⟨p,hp,rfl⟩:=Zg5.mp hm;exact(h p hp).2.1)
 simp only[Zge,Zgp,Zhj] at h1 h2
 omega
theorem zrp{ls:List Ln}(h:∀p∈ls,LnOk p)(h0:ls≠[]):zb8 10 (txtOf ls)=ls.map (·.1):=by
 unfold zb8 txtOf
 refine ze9 (by simpa using h0) (by intro q hq;obtain⟨p,hp,rfl⟩:=Zg5.mp hq;exact(h p hp).1) ?_
 have:∀qs:List (List Nat),qs.length<=(glue [10] qs).length+1:=fun qs=>by
  induction qs with
  | nil=>simp
  | cons a r ih =>
   cases r with
   | nil=>simp
   | cons b r=>simp only[glue,Zg8,Zgp,Zhj] at ih ⊢;omega
 have:=this (ls.map (·.1))
 omega
theorem zln(Z:Tx K mg ad0):FnOk P w K mg base CX0 5 ad0.Zbz ad0.Zbu zc5 (SpGO K yci zf3):=by
 have Zf3:=zxs (P:=P) (w:=w) (base:=base) Z
 have Zff:=zls (P:=P) (w:=w) (base:=base) Z
 have Zd7:=zg8 (P:=P) (w:=w) (base:=base) Z
 refine okGO Z.Zcp.F zlg (by rintro x ds ⟨rfl,_⟩;rfl) fun cdv A outer s H Q E hr=>⟨_,(zai (zau (pcX Zf3 hr Z.Zd8 (zaa (zni rfl (LcOk.of (Nx:=(["text"]:List Str)) (sc:=zad zcv) (N':=(["number", "row"]:List Str)) (nt:=2) (cs:=[]) rfl rfl (by decide +kernel)) (zh5 (pcX Zff hr Z.Zct (zaa (pv 0) zae))) (fun _ _ _ _=>(show PG _ _ (gTup K 2 _) from zgy rfl (zbb (zca (i:=0) (show Zix (["number", "row"]:List Str) by decide +kernel) rfl (Zlg rfl)) (zbb (zca (i:=1) (show Zix (["number", "row"]:List Str) by decide +kernel) rfl (Zlg rfl)) zec)))) (fun _ _ _ _=>zdz) (fun _ _ _ _=>(pcX Zd7 hr Z.Zbk (zaa (pv 0) (zaa (pv 1) zae))))) zae)))),fun G ds ls hp rt=>?_⟩
 obtain⟨rfl,h0,hl,hok,h64⟩:=hp
 have hsp:=zrp hok h0
 have htl:=zrc hok hl
 generalize txtOf ls=tx at hsp htl
 have hln:∀i (hi:i<ls.length),lnAt tx i=(ls[i]).1:=fun i hi=>by
  unfold lnAt
  rw[hsp,Zf7,Zgl,Zf8 hi];rfl
 have hmem:∀i∈zk3 tx,∃x:Row,lnAt tx i=rowL x/\zfo x/\(ls.getD i ([],none)).2=some x:=fun i hi=>by
  unfold zk3 at hi
  obtain⟨h1,h2⟩:=Zpc.mp hi
  rw[Zhp,hsp,Zge] at h1
  rw[hln i h1] at h2 ⊢
  have ho:=hok _ (Zhv h1)
  rw[Zf7,Zf8 h1]
  show ∃x:Row,ls[i].1=rowL x/\zfo x/\ls[i].2=some x
  obtain⟨_,_,ho⟩:=ho
  cases e:ls[i].2 with
  | none =>
   rw[e] at ho
   have ho:zgc ls[i].1=true:=ho
   rw[ho] at h2;cases h2
  | some x =>
   rw[e] at ho
   have ho:ls[i].1=rowL x/\zfo x:=ho
   exact⟨x,ho.1,ho.2,rfl⟩
 let rw':Nat->Row:=fun i=>((ls.getD i ([],none)).2).getD ([],[],[])
 have hfs:(zk3 tx).map (fun i=>foF (rw' i))=za8 ls:=by
  have key:∀(ms:List Ln) (off:Nat),(∀p∈ms,LnOk p)->(∀j,j<ms.length->ls[off+j]? = ms[j]?)->off+ms.length=ls.length->((Znh off ms.length).filter fun i=>!zgc (lnAt tx i)).map (fun i=>foF (rw' i))=za8 ms:=by
   intro ms
   induction ms with
   | nil=>intro off _ _ _;rfl
   | cons p ms ih =>
    intro off hms hat hlen
    have h1:=ih (off+1) (fun q hq=>hms q (Zgi _ hq)) (fun j hj=>by rw[show off+1+j=off+(j+1) by omega,hat (j+1) (by simpa using hj)];rfl) (by simp at hlen ⊢;omega)
    have hp:=hms p Zgz
    have hat0:ls[off]? = some p:=by have:=hat 0 (by simp);simpa using this
    have hoff:off<ls.length:=(Zgg.mp hat0).1
    have e0:ls[off]=p:=by rw[Zf8 hoff] at hat0;exact Zhz hat0
    have el:lnAt tx off=p.1:=by rw[hln off hoff,e0]
    have er:rw' off=p.2.getD ([],[],[]):=by show((ls.getD off ([],none)).2).getD _=_;rw[Zf7,hat0];rfl
    rw[Zgp,Zow,Zk7]
    obtain⟨_,_,hp⟩:=hp
    cases e:p.2 with
    | none =>
     rw[e] at hp
     have hp:zgc p.1=true:=hp
     rw[if_neg (by rw[el,hp];decide),h1]
     unfold za8
     rw[Zjv,e];rfl
    | some x =>
     rw[e] at hp
     have hp:p.1=rowL x/\zfo x:=hp
     rw[if_pos (by rw[el,hp.1,zwg hp.2];rfl),Zg3,h1,er,e]
     unfold za8
     rw[Zjv,e];rfl
  unfold zk3
  rw[hsp,Zge,List.range_eq_range']
  exact key ls 0 hok (fun j hj=>by rw[Zm7]) (by omega)
 have hrl:(za8 ls).length<=400:=by
  unfold za8
  have:=List.length_filterMap_le (fun p:Ln=>p.2.map foF) ls
  omega
 have htn:(zk3 tx).length<=400:=by rw[<- hfs,Zge] at hrl;exact hrl
 show Go _ _ _ _ _ _ _
 have rt:RtO K G H Q ((mkB (dedF (za8 ls))).map encF):=rt
 rw[<- ziz] at rt
 refine znm (zkh (pre:=zq7) (res:=zm5) (zac (EvO.ev ?_) zaj) ⟨za8 ls,rfl,by omega,h64⟩) rt
 rw[<- hfs,Zii]
 refine zkc (zk3 tx) (numD tx) _ (EvO.l (zkh (pre:=preL) (res:=ztb) (zac (zab rfl) zaj) ⟨tx,rfl,by omega⟩)) (zs3 (zd4 (zcl (by decide)) (zd4 (zcl (by decide)) znj))) (by decide) (by rw[Zgq];omega) fun i hi=>?_
 obtain⟨x,e1,e2,e3⟩:=hmem i hi
 refine⟨_,zgr rfl (zba za5 (zba za5 ze2)),?_⟩
 have er:rw' i=x:=by show((ls.getD i ([],none)).2).getD _=x;rw[e3];rfl
 show Ev _ _ _ _ _ _ (encF (foF (rw' i)))
 rw[er,<- zt6]
 refine zol (pre:=yba) (res:=zi6) x (zac (zab rfl) (zac (by rw[<- e1];exact zab rfl) zaj)) ⟨_,rfl,e2⟩
noncomputable def rowF(x:Fct):List Nat:=glue [32] [x.1,x.2.1,x.2.2]
theorem zsh(x:Fct):rowF x=rowL x:=by unfold rowF rowL;simp[glue]
noncomputable def zd9(b:List Fct):List Nat:=glue [10] (b.map rowF)
noncomputable def ya3(ds:List D):Prop:=∃b:List Fct,ds=[bkD b]/\b.length<=200 /\ ∀x∈b,(rowF x).length<=100
noncomputable def zn7:List D->D
 | [.lst b]=>.str (zd9 (b.map unF))
 | _=>.non
theorem zey(b:List Fct):zn7 [bkD b]= .str (zd9 b):=by
 show D.str (zd9 ((b.map encF).map unF))=_
 rw[zgh]
theorem zwh(x:Fct):x.1.length+x.2.1.length+x.2.2.length<=(rowF x).length:=by
 rw[zsh];unfold rowL;simp;omega
theorem yar{K:Zf6}{G Hz L:Hp}{ss:List Sl}{t:TE}{x:Fct}(a:Ev K G Hz L ss t (encF x))(h:(rowF x).length<=100):Ev K G Hz L ss (tBM K "str" (zk7 K) (tC (.str " ")) (za7 t tNil)) (.str (rowF x)):=by
 have:=zwh x
 exact zu4 (ls:=[x.1,x.2.1,x.2.2]) (zaw (l:=[32]) (by decide +kernel) (by decide)).b a (by decide) (by simp;omega)
theorem zur{b:List Fct}(h1:b.length<=200)(h2:∀x∈b,(rowF x).length<=100):((b.map rowF).map Zjk).sum+b.length*[10].length<=16777216:=by
 have:=zh2 (ls:=b.map rowF) (n:=100) (by intro l hm;obtain⟨p,hp,rfl⟩:=Zg5.mp hm;exact h2 p hp)
 simp only[Zge,Zgp,Zhj] at this ⊢
 omega
theorem zlo(Z:Tx K mg ad0):FnOk P w K mg base CX0 1 ad0.Zbx ad0.Zbv zc3 (SpD K ya3 zn7):=by
 refine okD Z.Zcu.F zlx (by rintro ds ⟨c,rfl,_⟩;rfl) fun cdv A outer s H Q E hr=>⟨_,(zai (zau (zd5 Zhm Zkx Zkw zib zal (zaa (zni rfl (LcOk.of (Nx:=(["book"]:List Str)) (sc:=zad zcu) (N':=(["fact"]:List Str)) (nt:=1) (cs:=[]) rfl rfl (by decide +kernel)) (zh5 (pv 0)) (fun _ _ _ _=>(zca (i:=0) (show Zix (["fact"]:List Str) by decide +kernel) rfl (Zlg rfl))) (fun _ _ _ _=>zdz) (fun _ _ _ _=>(show PE _ _ (tBM K "str" (zk7 K) _ _) from zd5 Zhm Zkx Zkw (show MtR _ _ (zk7 K) from zve) zal (zaa (pv 0) zae)))) zae)))),fun G ds hp rt=>?_⟩
 obtain⟨b,rfl,hb,hr⟩:=hp
 rw[zey] at rt
 exact zbi (zpp (xs:=b) (g:=rowF) (zaw (l:=[10]) (by decide +kernel) (by decide)).b (EvO.l (zkc b encF (fun x=>.str (rowF x)) (zab rfl).l (zcl (by decide)) (by decide) (by rw[Zgq];omega) fun x hx=>⟨_,za5,yar (zab rfl) (hr x hx)⟩)) (zur hb hr)) rt
noncomputable def cmany(c:Int):Nat:=(1+c % 12).toNat
noncomputable def catQ(c:Int):Nat:=(c / 12 % (1+c % 12)).toNat
theorem zl5(c:Int):1<=cmany c/\cmany c<=12/\catQ c<cmany c:=by
 unfold cmany catQ
 have h0:=Zg7 c (show(12:Int)≠0 by decide)
 have h1:=Zgx c (show(0:Int)<12 by decide)
 have h2:=Zg7 (c / 12) (show(1+c % 12:Int)≠0 by omega)
 have h3:=Zgx (c / 12) (show(0:Int)<1+c % 12 by omega)
 omega
noncomputable def cardQ(c:Int)(k:Nat):List Nat:=Zh1 (catQ c) 113++[97+k]++Zh1 (cmany c - 1 - catQ c) 113
theorem zf7(n c:Nat):(Zh1 n [c]).flatten=Zh1 n c:=by
 induction n with
 | zero=>rfl
 | succ n ih=>rw[Zlk,Zsi,ih,Zlk];rfl
theorem zfw(c:Int){k:Nat}(h:k<10):zbv (cardQ c k):=by
 have r:=zl5 c
 unfold cardQ
 refine⟨by simp;omega,by simp;omega,fun x hx=>?_⟩
 have hl:∀k:Nat,k<26->97+k∈lets:=by decide +kernel
 simp only[Zhl,Zgn,Zny] at hx
 rcases hx with (hx | rfl) | hx
 .rw[hx.2];exact hl 16 (by decide)
 .exact hl k (by omega)
 .rw[hx.2];exact hl 16 (by decide)
theorem zl7(c:Int){j k:Nat}(h:cardQ c j=cardQ c k):j=k:=by
 unfold cardQ at h
 have h:=List.append_inj_left h (by simp)
 have h:=List.append_inj_right h rfl
 have:97+j=97+k:=by injection h
 omega
noncomputable def zps(ds:List D):Prop:=∃(c:Int) (k:Nat),ds=[.int c,.int (k:Int)]/\k<10
noncomputable def zp8:List D->D
 | [.int c,.int k]=>.str (cardQ c k.toNat)
 | _=>.non
noncomputable def ltT:List Nat:=("abcdefghij" : Str).cps.toList
theorem yaw:ltT=(Zg1 10).map (97 + ·):=by decide +kernel
theorem zih(Z:Tx K mg ad0):FnOk P w K mg base CX0 1 ad0.Zbn ad0.Zbt zct (SpD K zps zp8):=by
 refine okD Z.Zaz.F zfq (by rintro ds ⟨c,k,rfl,_⟩;rfl) fun cdv A outer s H Q E hr=>⟨_,(zah (psn 2 zfq.nd (zar zev zag (zar zcm (pv 0) zag)))
   (zah (psn 3 zfq.nd (zar zcm (zar zcc (pv 0) zag) (pv 2)))
   (zai (zau (zar zam (zar zam (zar (show OpR _ _ zw2 from zq1) zal (pv 3)) (zbw zoz zal (pv 1) (fun _ _=>rfl))) (zar (show OpR _ _ zw2 from zq1) zal (zar zto (zar zto (pv 2) zag) (pv 3)))))))),fun G ds hp rt=>?_⟩
 obtain⟨c,k,rfl,hk⟩:=hp
 have rt:RtD K G H Q (.str (cardQ c k)):=rt
 have r:=zl5 c
 have h0:=Zg7 c (show(12:Int)≠0 by decide)
 have h2:=Zg7 (c / 12) (show(1+c % 12:Int)≠0 by omega)
 refine zao (zb5 (d:=.int (cmany c:Int)) (by rw[show(cmany c:Int)=1+c % 12 by unfold cmany;omega];exact zes zaf.b (zcn (zab rfl).b zaf.b (by decide)).b) ?_)
 ((try dsimp only);refine zay ?_)
 refine zao (zb5 (d:=.int (catQ c:Int)) (by
  rw[show(catQ c:Int)=c / 12 % (cmany c:Int) by rw[show(cmany c:Int)=1+c % 12 by unfold cmany;omega];unfold catQ;omega]
  exact zcn (zb9 (zab rfl).b zaf.b ⟨by decide,by decide⟩).b (zab rfl).b (by omega)) ?_)
 ((try dsimp only);refine zay ?_)
 have at10:atI ltT (k:Int)=some (97+k):=zen (by rw[yaw,Zgl,Zi9 hk];rfl)
 unfold cardQ at rt
 generalize cmany c=m at r rt
 generalize catQ c=a at r rt
 rw[<- zf7,<- zf7] at rt
 refine zbi (zbk (zbk (zru (l:=[113]) (zaw (l:=[113]) (by decide +kernel) (by decide)).b (zab rfl).b (by decide) (by omega)).b (zpo (l:=ltT) (zbg (by decide +kernel)).b (zab rfl).b (small (by decide +kernel)) at10).b ?_).b (zru (n:=m - 1 - a) (l:=[113]) (zaw (l:=[113]) (by decide +kernel) (by decide)).b (Ev.b (by
  rw[show((m - 1 - a:Nat):Int)=(m:Int) - 1 - (a:Int) by omega]
  exact zq4 (zq4 (zab rfl).b zaf.b).b (zab rfl).b)) (by decide) (by omega)).b ?_) rt
 .rw[zf7,Zir,Zgq];simp;omega
 .rw[zf7,zf7,Zg8,Zir,Zir,Zgq];simp;omega
theorem zub:∀c,c<128->Zo9 (T lets) (T [c])=if 97<=c/\c<=122 then (c:Int) - 97 else -1:=by decide +kernel
noncomputable def ninL:List Nat:=("abcdefghi" : Str).cps.toList
theorem zs9:∀c,c<128->Zo9 (T ninL) (T [c])=if 97<=c/\c<=105 then (c:Int) - 97 else -1:=by decide +kernel
noncomputable def upsL:List Nat:=("ABCDEFGHIJKLMNOPQRSTUVWXYZ" : Str).cps.toList
theorem zzy:upsL=(Zg1 26).map (65 + ·):=by decide +kernel
theorem zyz:lets=(Zg1 26).map (97 + ·):=by decide +kernel
theorem zr4(x:Int):zlh x=97+(x % 26).toNat:=by
 have h0:=Zg7 x (show(26:Int)≠0 by decide)
 have h1:=Zgx x (show(0:Int)<26 by decide)
 unfold zlh
 rw[zyz,Zf7,Zgl,Zi9 (by omega)]
 rfl
noncomputable def zer(c:Nat):Nat:=if 97<=c/\c<=122 then c - 32 else c
noncomputable def zy8(ds:List D):Prop:=∃c:Nat,ds=[.str [c]]/\c<128
noncomputable def zxz:List D->D
 | [.str [c]]=>.str [zer c]
 | _=>.non
theorem zlu(Z:Tx K mg ad0):FnOk P w K mg base CX0 1 ad0.Zb6 ad0.Zby zc1 (SpD K zy8 zxz):=by
 refine okD Z.Zb7.F zgx (by rintro ds ⟨c,rfl,_⟩;rfl) fun cdv A outer s H Q E hr=>⟨_,(zah (psn 1 zgx.nd (zd5 Zhm Zvl Zvk zsw zal (zaa (pv 0) zae)))
   (zah (zbz (zat zyo (pv 1) zag (za3 _)) (zai (zau (pv 0))) zav)
   (zai (zau (zbw zoz zal (pv 1) (fun _ _=>rfl)))))),fun G ds hp rt=>?_⟩
 obtain⟨c,rfl,hc⟩:=hp
 have rt:RtD K G H Q (.str [zer c]):=rt
 refine zao (zb5 (d:=.int (Zo9 (T lets) (T [c]))) (zty (l:=lets) (zbg zn6).b (zab rfl).b) ?_)
 ((try dsimp only);refine zay ?_)
 rw[zub c hc]
 unfold zer at rt
 by_cases hu:97<=c/\c<=122
 .rw[if_pos hu] at rt ⊢
  refine zao (zb2 (zap (zy7 (zab rfl).b zaf.b)) (fun h=>by have:=of_decide_eq_true h;omega) (fun _=>za1 ?_))
  ((try dsimp only);refine zay ?_)
  refine zbi (zpo (l:=upsL) (zbg (by decide +kernel)).b (zab rfl).b (small (by decide +kernel)) ?_) rt
  rw[show(c:Int) - 97=((c - 97:Nat):Int) by omega]
  exact zen (by rw[zzy,Zgl,Zi9 (by omega)];show some (65+(c - 97))=some (c - 32);congr 1;omega)
 .rw[if_neg hu] at rt ⊢
  refine zao (zb2 (zap (zy7 (zab rfl).b zaf.b)) (fun _=>zbi (zab rfl) rt) (fun h=>by have:=of_decide_eq_false h;omega))
noncomputable def bases:List (List Nat):=[[97],[98,101],[99,97,98],[100,101,97,32,102,105,99]]
noncomputable def trn(s c:Nat):Nat:=if 97<=c/\c<=105 then 97+(c - 97+s) % 26 else c
noncomputable def trip(t:List Nat):List Nat:=t.flatMap fun c=>if c=32 then [32,32,32] else [c]
noncomputable def txW(w:Nat)(t:List Nat):List Nat:=match w with
 | 1=>t.map zer
 | 2=>t++[46]
 | 3=>35::t.drop 1
 | 4=>t++[32,40,120,41]
 | 5=>trip t++[32,121]
 | 6=>zer (t.getD 0 0)::t.drop 1
 | _=>t
noncomputable def tuN(b s:Nat):List Nat:=(bases.getD b []).map (trn s)
noncomputable def txN(b s w:Nat):List Nat:=txW w (tuN b s)
noncomputable def txB(t:List Nat):Bool:=decide (1<=t.length)&&(decide (t.length<=15)&&(decide (t=zc9 [32].contains t)&&t.all fun c=>decide (c∈zwr)))
theorem ybz{t:List Nat}(h:txB t=true):zl9 t/\t.length<=15:=by
 unfold txB at h
 simp only[Zgv,decide_eq_true_eq,Zif] at h
 obtain⟨h1,h2,h3,h4⟩:=h
 exact⟨⟨h1,by omega,h3,h4⟩,h2⟩
theorem zz4:((Zg1 4).all fun b=>(Zg1 26).all fun s=>(Zg1 8).all fun w=>txB (txN b s w))=true:=by decide +kernel
theorem ybb(b:Nat)(hb:b<4)(s:Nat)(hs:s<26)(w:Nat)(hw:w<8):zl9 (txN b s w)/\(txN b s w).length<=15:=by
 have h:=zz4
 rw[Zif] at h
 have h:=h b (Zhp.mpr hb)
 rw[Zif] at h
 have h:=h s (Zhp.mpr hs)
 rw[Zif] at h
 exact ybz (h w (Zhp.mpr hw))
theorem ybv:∀b,b<4-> ∀s,s<26->Zr0 (T (tuN b s)) (T [32]) (T [32,32,32])=T (trip (tuN b s))/\(tuN b s).length<=7/\1<=(tuN b s).length/\(∀c∈tuN b s,c<128)/\(trip (tuN b s)).length<=21:=by decide +kernel
theorem zz7:∀b,b<4->(bases.getD b []).length<=7 /\ ∀c∈bases.getD b [],c<128:=by decide +kernel
noncomputable def shiftQ(sh:Int):Nat:=(sh / 144 % 26).toNat
noncomputable def ybg(ds:List D):Prop:=∃sh c:Int,ds=[.int sh,.int c]
noncomputable def ya7:List D->D
 | [.int sh,.int c]=>.str (txN (c % 4).toNat (shiftQ sh) (c / 4 % 8).toNat)
 | _=>.non
theorem zn5(Z:Tx K mg ad0):FnOk P w K mg base CX0 2 ad0.Zck ad0.Zce zdj (SpD K ybg ya7):=by
 have Zd4:=zlu (P:=P) (w:=w) (base:=base) Z
 refine okD Z.Zc9.F zbr (by rintro ds ⟨c,k,rfl⟩;rfl) fun cdv A outer s H Q E hr=>⟨_,(zah (psn 2 zbr.nd (zbw (show IxR _ (rIxL K) from za0) (zg0 (zaa zal (zaa zal (zaa zal (zaa zal zae))))) (zar zcm (pv 1) zag) (fun _ _=>rfl)))
   (zsn (zye (i:=3) zbr.nd rfl (Zlg rfl))
   (zdl (zjl Zkg rfl (zon (pv 2)) (pgn 4 zbr.nd) (zah (psn 5 zbr.nd (zd5 Zhm Zvl Zvk zsw zal (zaa (pv 4) zae)))
   (zah (zbz (zat yct (pv 5) zag (za3 _)) (zai (psn 4 zbr.nd (zbw zoz zal (zar zcm (zar zev (pv 5) (zar zcc (pv 0) zag)) zag) (fun _ _=>rfl)))) zav)
   (zai (psn 3 zbr.nd (zar zam (pv 3) (pv 4)))))))
   (zdl (psn 6 zbr.nd (zar zcm (zar zcc (pv 1) zag) zag))
   (zdl (zbz (zat zd8 (pv 6) zag (za3 _)) (zai (zau (zd5 Zhm Zkx Zkw zib zal (zaa (zni rfl (LcOk.of (Nx:=(["_law_shape", "_law_cell", "_law_base", "_law_turned", "_law_sign", "_law_at", "_law_way"]:List Str)) (sc:=zad zdn) (N':=(["_law_sign"]:List Str)) (nt:=1) (cs:=[]) rfl rfl (by decide +kernel)) (zon (pv 3)) (fun _ _ _ _=>(zca (i:=0) (show Zix (["_law_sign"]:List Str) by decide +kernel) rfl (Zlg rfl))) (fun _ _ _ _=>zdz) (fun _ _ _ _=>(pcX Zd4 hr Z.Zb7 (zaa (pv 0) zae)))) zae)))) zav)
   (zdl (zbz (zat zd8 (pv 6) zag (za3 _)) (zai (zau (zar zam (pv 3) zal))) zav)
   (zdl (zbz (zat zd8 (pv 6) zag (za3 _)) (zai (zau (zar zam zal (zda zxf (pv 3) (zd1 zag) zfj)))) zav)
   (zdl (zbz (zat zd8 (pv 6) zag (za3 _)) (zai (zau (zar zam (pv 3) zal))) zav)
   (zux (ycl (zat zd8 (pv 6) zag (za3 _)) (zv4 (zx8 (zyd zam (zwo (pv 3) (by decide +kernel) (by decide +kernel)) zal))) zav)
   (zah (zbz (zat zd8 (pv 6) zag (za3 _)) (zai (zau (zar zam (pcX Zd4 hr Z.Zb7 (zaa (zbw zoz (pv 3) zag (fun _ _=>rfl)) zae)) (zda zxf (pv 3) (zd1 zag) zfj)))) zav)
   (zai (zau (pv 3))))))))))))),fun G ds hp rt=>?_⟩
 obtain⟨sh,c,rfl⟩:=hp
 have rt:RtD K G H Q (.str (txN (c % 4).toNat (shiftQ sh) (c / 4 % 8).toNat)):=rt
 have h0:=Zg7 c (show(4:Int)≠0 by decide)
 have h1:=Zgx c (show(0:Int)<4 by decide)
 have h2:=Zg7 (c / 4) (show(8:Int)≠0 by decide)
 have h3:=Zgx (c / 4) (show(0:Int)<8 by decide)
 have hs:shiftQ sh<26:=by
  have:=Zg7 (sh / 144) (show(26:Int)≠0 by decide)
  have:=Zgx (sh / 144) (show(0:Int)<26 by decide)
  unfold shiftQ;omega
 have hb4:(c % 4).toNat<4:=by omega
 have hbo:=zz7 _ hb4
 have hto:=ybv _ hb4 _ hs
 have hat:=zif (bases.map D.str) .non c (n:=4) rfl (by decide)
 have e0:(bases.map D.str).getD (c % 4).toNat .non= .str (bases.getD (c % 4).toNat []):=by
  rw[Zf7,Zf7,Zgl,Zf8 (show(c % 4).toNat<bases.length by show _<4;omega)]
  rfl
 rw[e0] at hat
 unfold txN at rt
 have hlet:∀ch:Nat,97<=ch->zlh ((ch:Int) - 97+sh / 144)=97+(ch - 97+shiftQ sh) % 26:=fun ch h=>by
  rw[zr4]
  unfold shiftQ
  omega
 unfold tuN at rt hto
 generalize bases.getD (c % 4).toNat []=b at hat hbo hto rt
 generalize shiftQ sh=s0 at hs hto rt hlet
 refine zao (zb5 (d:=.str b) (zbe (ds:=bases.map D.str) (EvO.l (zfi (zac (zbg (by decide)) (zac (zbg (by decide)) (zac (zbg (by decide)) (zac (zbg (by decide)) zaj)))) (small (by decide)))) (zcn (zab rfl).b zaf.b (by decide)).b hat) ?_)
 ((try dsimp only);refine zay ?_)
 refine zao (zb5 (d:=.str []) (zaw (l:=[]) (by decide +kernel) (by decide)) ?_)
 ((try dsimp only);refine zay ?_)
 refine zao (zt0 b (fun k ss=>∃v4 v5:Sl,ss=[.d (.int sh),.d (.int c),.d (.str b),.d (.str ((b.take k).map (trn s0))),v4,v5,.un]) (zab rfl).b ⟨.un,.un,rfl⟩ ?_ ?_)
 .rintro k ch ss hk ⟨v4,v5,rfl⟩
  refine⟨_,za5,fun N hN=>?_⟩
  have hkl:=(Zgg.mp hk).1
  have hch:=hbo.2 ch (Zgm hk)
  have et:(b.take (k+1)).map (trn s0)=(b.take k).map (trn s0)++[trn s0 ch]:=by rw[Zkz,hk,Zln];rfl
  refine zao (zb5 (d:=.int (Zo9 (T ninL) (T [ch]))) (zty (l:=ninL) (zbg (by decide +kernel)).b (zab rfl).b) ?_)
  ((try dsimp only);refine zay ?_)
  rw[zs9 ch hch]
  refine zsu (fun ss=>∃v5:Sl,ss=[.d (.int sh),.d (.int c),.d (.str b),.d (.str ((b.take k).map (trn s0))),.d (.str [trn s0 ch]),v5,.un]) (fun N2 hN2=>zb2 (zap (ycu (zab rfl).b zaf.b)) (fun h=>?_) (fun h=>?_)) ?_
  .by_cases hu:97<=ch/\ch<=105
   .rw[if_pos hu]
    have e:trn s0 ch=zlh ((ch:Int) - 97+sh / 144):=by unfold trn;rw[if_pos hu,hlet ch hu.1]
    rw[e] at hN2
    exact zb5 (zpo (l:=lets) (zbg zn6).b (zcn (zes (zab rfl).b (zb9 (zab rfl).b zaf.b ⟨by decide,by decide⟩).b).b zaf.b (by decide)).b (small (by rw[zpj];decide)) (zzn _)) (hN2 _ ⟨_,rfl⟩)
   .rw[if_neg hu] at h
    cases of_decide_eq_true h
  .by_cases hu:97<=ch/\ch<=105
   .rw[if_pos hu] at h
    have:=of_decide_eq_false h;omega
   .have e:trn s0 ch=ch:=by unfold trn;rw[if_neg hu]
    rw[e] at hN2
    exact za1 (hN2 _ ⟨_,rfl⟩)
  rintro ss ⟨v5,rfl⟩
  refine zb5 (d:=.str ((b.take (k+1)).map (trn s0))) (by rw[et];exact zbk (zab rfl).b (zab rfl).b (by rw[Zge,Zjj,Zgq];simp;omega)) (hN _ ⟨_,_,rfl⟩)
 rintro ss ⟨v4,v5,rfl⟩
 rw[Zov]
 generalize b.map (trn s0)=t at hto rt
 ((try dsimp only);refine zay ?_)
 obtain⟨hrp,tl,tl1,tlt,trl⟩:=hto
 have tz:t.length<=sizeLine:=by rw[Zgq];omega
 refine zao (zb5 (d:=.int (c / 4 % 8)) (zcn (zb9 (zab rfl).b zaf.b ⟨by decide,by decide⟩).b zaf.b (by decide)) ?_)
 ((try dsimp only);refine zay ?_)
 generalize c / 4 % 8=wy at h2 h3 rt
 have c1:cutL t (some 1) none=t.drop 1:=zsv _ (by decide)
 refine zao (zb2 (zap (zf1 (zab rfl).b zaf.b)) (fun h=>?_) (fun h1=>za1 ?_))
 .have hw:wy=1:=of_decide_eq_true h
  subst hw
  have rt:RtD K G H Q (.str (t.map zer)):=rt
  rw[<- zv9] at rt
  exact zbi (zpp (xs:=t) (z:=[]) (g:=fun c=>[zer c]) (zaw (l:=[]) (by decide +kernel) (by decide)).b (EvO.l (zii t (fun c=>.str [zer c]) (zab rfl).b (zcl (by decide)) (by decide) (by rw[Zgq];omega) fun ch hch=>⟨_,za5,zbc (pre:=zy8) (res:=zxz) (ds:=[.str [ch]]) (zac (zab rfl) zaj) ⟨ch,rfl,tlt ch hch⟩⟩)) (by
   rw[Zii,show(Zjk∘fun c=>[zer c])=fun _=>1 from rfl,List.map_const',List.sum_replicate_nat];simp;omega)) rt
 ((try dsimp only);refine zay ?_)
 refine zao (zb2 (zap (zf1 (zab rfl).b zaf.b)) (fun h=>?_) (fun h2'=>za1 ?_))
 .have hw:wy=2:=of_decide_eq_true h
  subst hw
  exact zbi (zbk (m:=[46]) (zab rfl).b (zaw (l:=[46]) (by decide +kernel) (by decide)).b (by rw[Zgq];simp;omega)) rt
 ((try dsimp only);refine zay ?_)
 refine zao (zb2 (zap (zf1 (zab rfl).b zaf.b)) (fun h=>?_) (fun h3'=>za1 ?_))
 .have hw:wy=3:=of_decide_eq_true h
  subst hw
  have rt:RtD K G H Q (.str ([35]++t.drop 1)):=rt
  rw[<- c1] at rt
  exact zbi (zbk (l:=[35]) (zaw (l:=[35]) (by decide +kernel) (by decide)).b (zxh (zab rfl).b (zco zaf.b) zh9 tz).b (by rw[c1,Zkh,Zgq];simp;omega)) rt
 ((try dsimp only);refine zay ?_)
 refine zao (zb2 (zap (zf1 (zab rfl).b zaf.b)) (fun h=>?_) (fun h4'=>za1 ?_))
 .have hw:wy=4:=of_decide_eq_true h
  subst hw
  exact zbi (zbk (m:=[32,40,120,41]) (zab rfl).b (zaw (l:=[32,40,120,41]) (by decide +kernel) (by decide)).b (by rw[Zgq];simp;omega)) rt
 ((try dsimp only);refine zay ?_)
 refine zao (zb2 (zap (zf1 (zab rfl).b zaf.b)) (fun h=>?_) (fun h5'=>za1 ?_))
 .have hw:wy=5:=of_decide_eq_true h
  subst hw
  have hlt:∀c∈trip t,c<128:=fun x hx=>by
   unfold trip at hx
   obtain⟨y,hy,hx⟩:=List.mem_flatMap.mp hx
   have:=tlt y hy
   split at hx
   .simp only[Zgh,Zhq,or_false] at hx;omega
   .rw[Zgn.mp hx];exact this
  exact zbi (zbk (l:=trip t) (m:=[32,121]) (zu3 (m:=trip t) (zab rfl).b (by omega) (by rw[show(" " : Str)=T [32] by decide +kernel,show("   " : Str)=T [32,32,32] by decide +kernel];exact hrp) hlt).b (zaw (l:=[32,121]) (by decide +kernel) (by decide)).b (by rw[Zgq];simp;omega)) rt
 ((try dsimp only);refine zay ?_)
 refine zao (zb2 (zap (zf1 (zab rfl).b zaf.b)) (fun h=>?_) (fun h6'=>za1 ?_))
 .have hw:wy=6:=of_decide_eq_true h
  subst hw
  have rt:RtD K G H Q (.str ([zer (t.getD 0 0)]++t.drop 1)):=rt
  rw[<- c1] at rt
  have a0:atI t 0=some (t.getD 0 0):=zen (j:=0) (by rw[Zf8 (by omega),Zf7,Zf8 (by omega)];rfl)
  have l0:t.getD 0 0<128:=tlt _ (by rw[Zf7,Zf8 (by omega)];exact Zhv _)
  generalize t.getD 0 0=ch at a0 l0 rt
  exact zbi (zbk (l:=[zer ch]) (zbc (pre:=zy8) (res:=zxz) (ds:=[.str [ch]]) (zac (zpo (zab rfl).b zaf.b tz a0) zaj) ⟨ch,rfl,l0⟩).b (zxh (zab rfl).b (zco zaf.b) zh9 tz).b (by rw[c1,Zkh,Zgq];simp;omega)) rt
 ((try dsimp only);refine zay ?_)
 have hw:wy=0\/wy=7:=by
  have:=of_decide_eq_false h1;have:=of_decide_eq_false h2';have:=of_decide_eq_false h3';have:=of_decide_eq_false h4';have:=of_decide_eq_false h5';have:=of_decide_eq_false h6'
  omega
 rcases hw with rfl | rfl <;> exact zbi (zab rfl) rt
theorem md2{x m:Int}(h0:0<=x)(hm:0<m)(h1:x<2*m):(x<m/\x % m=x)\/(m<=x/\x % m=x - m):=by
 have e:=Int.mul_ediv_add_emod x m
 have a:=Zg7 x (show m≠0 by omega)
 have b:=Zgx x hm
 have q0:0<=x / m:=Int.ediv_nonneg h0 (by omega)
 have q1:x / m<2:=Int.ediv_lt_of_lt_mul hm h1
 rcases(by omega:x / m=0\/x / m=1) with q | q <;> rw[q] at e
 .exact .inl ⟨by omega,by omega⟩
 .exact .inr ⟨by omega,by omega⟩
theorem ycc(r x y:List Nat){a b:Nat}(h:a<b):r++a::x<r++b::y:=by
 induction r with
 | nil=>exact Zis.mpr (.inl h)
 | cons c r ih=>exact Zis.mpr (.inr ⟨rfl,ih⟩)
theorem zw3(c:Int){j k:Nat}(h:j<k):cardQ c j<cardQ c k:=by
 unfold cardQ
 rw[Zjq,Zjq]
 exact ycc _ _ _ (by omega)
theorem zsz(c:Int){j k:Nat}(h:j<k):minL (cardQ c j) (cardQ c k)=cardQ c j/\maxL (cardQ c j) (cardQ c k)=cardQ c k:=by
 have l:=zw3 c h
 have n:¬ cardQ c k<cardQ c j:=fun z=>Znd _ (Zqf l z)
 unfold minL maxL
 exact⟨if_neg n,if_pos l⟩
noncomputable def fwL:List (List Nat):=[("name" : Str).cps.toList,("former" : Str).cps.toList,("way" : Str).cps.toList,("day" : Str).cps.toList,("mark" : Str).cps.toList,("name" : Str).cps.toList]
noncomputable def pwQ:List (List Nat):=[("same" : Str).cps.toList,("apart" : Str).cps.toList]
noncomputable def txtQ(sh c:Int):List Nat:=txN (c % 4).toNat (shiftQ sh) (c / 4 % 8).toNat
noncomputable def jQ(m c:Int):Int:=(c % m+1+c / 80 % (m - 1)) % m
noncomputable def ziy(sh m c:Int):Fct :=
 if 5<c / 10 % 8/\1<m then (cardQ sh (min (c % m) (jQ m c)).toNat,pwQ.getD (c / 800 % 2).toNat [],cardQ sh (max (c % m) (jQ m c)).toNat)
 else (cardQ sh (c % m).toNat,fwL.getD (c / 10 % 8 % 6).toNat [],txtQ sh (c / 80))
theorem zzh(sh c:Int):zl9 (txtQ sh c)/\(txtQ sh c).length<=15:=by
 have:=Zg7 c (show(4:Int)≠0 by decide)
 have:=Zgx c (show(0:Int)<4 by decide)
 have:=Zg7 (c / 4) (show(8:Int)≠0 by decide)
 have:=Zgx (c / 4) (show(0:Int)<8 by decide)
 have:=Zg7 (sh / 144) (show(26:Int)≠0 by decide)
 have:=Zgx (sh / 144) (show(0:Int)<26 by decide)
 exact ybb _ (by omega) _ (by unfold shiftQ;omega) _ (by omega)
theorem zxi{m c:Int}(hm:1<m):0<=c % m/\c % m<m/\0<=jQ m c/\jQ m c<m/\jQ m c≠c % m:=by
 have a:=Zg7 c (show m≠0 by omega)
 have b:=Zgx c (show 0<m by omega)
 have d:=Zg7 (c / 80) (show m - 1≠0 by omega)
 have e:=Zgx (c / 80) (show 0<m - 1 by omega)
 have f:=md2 (x:=c % m+1+c / 80 % (m - 1)) (m:=m) (by omega) (by omega) (by omega)
 unfold jQ
 omega
theorem zwk(sh:Int){m c:Int}(h1:1<=m)(h6:m<=6):zfo (ziy sh m c)/\foF (ziy sh m c)=ziy sh m c/\(ziy sh m c).2.2.length<=15:=by
 have hp:∀w∈pwQ,w∈prs:=by decide +kernel
 have hf:∀w∈fwL,w∈flds:=by decide +kernel
 have hn:∀w∈flds,w∉prs:=by decide +kernel
 unfold ziy
 split
 .rename_i h
  have r:=zxi (c:=c) h.2
  have hpw:pwQ.getD (c / 800 % 2).toNat []∈prs:=by
   have:=Zg7 (c / 800) (show(2:Int)≠0 by decide)
   have:=Zgx (c / 800) (show(0:Int)<2 by decide)
   refine hp _ ?_
   rw[Zf7,Zf8 (by show _<2;omega)]
   exact Zhv _
  generalize pwQ.getD (c / 800 % 2).toNat []=pw at hpw
  have lt:(min (c % m) (jQ m c)).toNat<(max (c % m) (jQ m c)).toNat:=by omega
  have ok1:=zfw sh (k:=(min (c % m) (jQ m c)).toNat) (by omega)
  have ok2:=zfw sh (k:=(max (c % m) (jQ m c)).toNat) (by omega)
  have mm:=zsz sh lt
  have ne:cardQ sh (min (c % m) (jQ m c)).toNat≠cardQ sh (max (c % m) (jQ m c)).toNat:=fun z=>by have:=zl7 sh z;omega
  refine⟨⟨ok1,.inr ⟨hpw,ok2,ne⟩⟩,?_,by have:=ok2.2.1;show(cardQ sh _).length<=15;omega⟩
  unfold foF
  rw[if_pos hpw]
  show(minL _ _,_,maxL _ _)=_
  rw[mm.1,mm.2]
 .have hfw:fwL.getD (c / 10 % 8 % 6).toNat []∈flds:=by
   have:=Zg7 (c / 10 % 8) (show(6:Int)≠0 by decide)
   have:=Zgx (c / 10 % 8) (show(0:Int)<6 by decide)
   refine hf _ ?_
   rw[Zf7,Zf8 (by show _<6;omega)]
   exact Zhv _
  have a:=Zg7 c (show m≠0 by omega)
  have b:=Zgx c (show 0<m by omega)
  have t:=zzh sh (c / 80)
  exact⟨⟨zfw sh (by omega),.inl ⟨hfw,t.1⟩⟩,if_neg (hn _ hfw),t.2⟩
noncomputable def yab(ds:List D):Prop:=∃sh m c:Int,ds=[.int sh,.int m,.int c]/\1<=m/\m<=6
noncomputable def ya5:List D->D
 | [.int sh,.int m,.int c]=>encF (ziy sh m c)
 | _=>.non
theorem zn1(Z:Tx K mg ad0):FnOk P w K mg base CX0 3 ad0.Zci ad0.Zcf zdp (SpD K yab ya5):=by
 have Zbs:FnOk P w K mg base CX0 2 ad0.Zbn ad0.Zbt zct (SpD K zps zp8):=(zih Z).mono (by decide)
 have Zfn:=zn5 (P:=P) (w:=w) (base:=base) Z
 refine okD Z.Zdb.F zcb (by rintro ds ⟨c,k,d,rfl,_⟩;rfl) fun cdv A outer s H Q E hr=>⟨_,(zah (psn 3 zcb.nd (zar zcm (pv 2) (pv 1)))
   (zah (psn 4 zcb.nd (zar zcm (zar zcc (pv 2) zag) zag))
   (zah (zbz (PW.pt (zjo (zat ybq (pv 4) zag (za3 _)) (ziv (zat ybq (pv 1) zag (za3 _))))) (zah (psn 5 zcb.nd (zar zcm (zar zev (zar zev (pv 3) zag) (zar zcm (zar zcc (pv 2) zag) (zar zto (pv 1) zag))) (pv 1)))
   (zah (psn 6 zcb.nd (zbw (show IxR _ (rIxL K) from za0) (zg0 (zaa zal (zaa zal zae))) (zar zcm (zar zcc (pv 2) zag) zag) (fun _ _=>rfl)))
   (zai (zau (zmx (zaa (pcX Zbs hr Z.Zaz (zaa (pv 0) (zaa (zbf (ztg rfl) (by rfl) Z.Zev boot_min (zaa (pv 3) (zaa (pv 5) zae))) zae))) (zaa (pv 6) (zaa (pcX Zbs hr Z.Zaz (zaa (pv 0) (zaa (zbf (ztq rfl) (by rfl) Z.Zet boot_max (zaa (pv 3) (zaa (pv 5) zae))) zae))) zae)))))))) zav)
   (zah (psn 6 zcb.nd (zbw (show IxR _ (rIxL K) from za0) (zg0 (zaa zal (zaa zal (zaa zal (zaa zal (zaa zal (zaa zal zae))))))) (zar zcm (pv 4) zag) (fun _ _=>rfl)))
   (zai (zau (zmx (zaa (pcX Zbs hr Z.Zaz (zaa (pv 0) (zaa (pv 3) zae))) (zaa (pv 6) (zaa (pcX Zfn hr Z.Zc9 (zaa (pv 0) (zaa (zar zcc (pv 2) zag) zae))) zae)))))))))),fun G ds hp rt=>?_⟩
 obtain⟨sh,m,c,rfl,h1,h6⟩:=hp
 have rt:RtD K G H Q (encF (ziy sh m c)):=rt
 have a:=Zg7 c (show m≠0 by omega)
 have b:=Zgx c (show 0<m by omega)
 have card:∀{X0:XK} {L0:Hp} {ss:List Sl} {t0 t1:TE} {i:Int},Ev K G H L0 ss t0 (.int sh)->Ev K G H L0 ss t1 (.int i)->0<=i->i<10->Ev K G H L0 ss (ziw (SpD K zps zp8) [] X0 (za7 t0 (za7 t1 tNil))) (.str (cardQ sh i.toNat)):=fun {X0 L0 ss t0 t1 i} e0 e1 g0 g1 =>
  zbc (pre:=zps) (res:=zp8) (ds:=[.int sh,.int i]) (zac e0 (zac e1 zaj)) ⟨sh,i.toNat,by rw[show((i.toNat:Nat):Int)=i by omega],by omega⟩
 refine zao (zb5 (zcn (zab rfl).b (zab rfl).b (by omega)) ?_)
 ((try dsimp only);refine zay ?_)
 refine zao (zb5 (zcn (zb9 (zab rfl).b zaf.b ⟨by decide,by decide⟩).b zaf.b (by decide)) ?_)
 ((try dsimp only);refine zay ?_)
 refine zao (zb2 (b:=decide (5<c / 10 % 8)&&decide (1<m)) (zfn (zap (ybk (zab rfl).b zaf.b)) fun _=>zap (ybk (zab rfl).b zaf.b)) (fun hb=>?_) (fun hb=>za1 ?_))
 .rw[Zgv,decide_eq_true_eq,decide_eq_true_eq] at hb
  have r:=zxi (c:=c) hb.2
  unfold ziy at rt
  rw[if_pos hb,show min (c % m) (jQ m c)=if jQ m c<c % m then jQ m c else c % m by split <;> omega,show max (c % m) (jQ m c)=if jQ m c>c % m then jQ m c else c % m by split <;> omega] at rt
  refine zao (zb5 (d:=.int (jQ m c)) (zcn (zes (zes (zab rfl).b zaf.b).b (zcn (zb9 (zab rfl).b zaf.b ⟨by decide,by decide⟩).b (zq4 (zab rfl).b zaf.b).b (by omega)).b).b (zab rfl).b (by omega)) ?_)
  ((try dsimp only);refine zay ?_)
  have hat:=zif (pwQ.map D.str) .non (c / 800) (n:=2) rfl (by decide)
  have e0:(pwQ.map D.str).getD (c / 800 % 2).toNat .non= .str (pwQ.getD (c / 800 % 2).toNat []):=by
   have:=Zg7 (c / 800) (show(2:Int)≠0 by decide)
   have:=Zgx (c / 800) (show(0:Int)<2 by decide)
   rw[Zf7,Zf7,Zgl,Zf8 (show(c / 800 % 2).toNat<pwQ.length by show _<2;omega)]
   rfl
  rw[e0] at hat
  refine zao (zb5 (d:=.str (pwQ.getD (c / 800 % 2).toNat [])) (zbe (ds:=pwQ.map D.str) (EvO.l (zfi (zac (zbg (by decide)) (zac (zbg (by decide)) zaj)) (small (by decide)))) (zcn (zb9 (zab rfl).b zaf.b ⟨by decide,by decide⟩).b zaf.b (by decide)).b hat) ?_)
  ((try dsimp only);refine zay ?_)
  exact zbi (zmk (zac (card (i:=if jQ m c<c % m then jQ m c else c % m) (zab rfl) (zz8 (zab rfl).b (zab rfl).b) (by split <;> omega) (by split <;> omega)) (zac (zab rfl) (zac (card (i:=if jQ m c>c % m then jQ m c else c % m) (zab rfl) (zy9 (zab rfl).b (zab rfl).b) (by split <;> omega) (by split <;> omega)) zaj))) (small (by simp))) rt
 ((try dsimp only);refine zay ?_)
 have hb':¬ (5<c / 10 % 8/\1<m):=by
  rintro⟨p,q⟩
  rw[decide_eq_true p,decide_eq_true q] at hb;cases hb
 unfold ziy at rt
 rw[if_neg hb'] at rt
 have hat:=zif (fwL.map D.str) .non (c / 10 % 8) (n:=6) rfl (by decide)
 have e0:(fwL.map D.str).getD (c / 10 % 8 % 6).toNat .non= .str (fwL.getD (c / 10 % 8 % 6).toNat []):=by
  have:=Zg7 (c / 10 % 8) (show(6:Int)≠0 by decide)
  have:=Zgx (c / 10 % 8) (show(0:Int)<6 by decide)
  rw[Zf7,Zf7,Zgl,Zf8 (show(c / 10 % 8 % 6).toNat<fwL.length by show _<6;omega)]
  rfl
 rw[e0] at hat
 refine zao (zb5 (d:=.str (fwL.getD (c / 10 % 8 % 6).toNat [])) (zbe (ds:=fwL.map D.str) (EvO.l (zfi (zac (zbg (by decide)) (zac (zbg (by decide)) (zac (zbg (by decide)) (zac (zbg (by decide)) (zac (zbg (by decide)) (zac (zbg (by decide)) zaj)))))) (small (by decide)))) (zcn (zab rfl).b zaf.b (by decide)).b hat) ?_)
 ((try dsimp only);refine zay ?_)
 exact zbi (zmk (zac (card (zab rfl) (zab rfl) (by omega) (by omega)) (zac (zab rfl) (zac (zbc (pre:=ybg) (res:=ya7) (ds:=[.int sh,.int (c / 80)]) (zac (zab rfl) (zac (zb9 (zab rfl).b zaf.b ⟨by decide,by decide⟩) zaj)) ⟨_,_,rfl⟩) zaj))) (small (by simp))) rt
theorem leF{x y:Fct}(h1:(encF x).leB (encF y)=true)(h2:(encF y).leB (encF x)=true):x=y:=by
 have h:=ztd (alF [x,y]) (a:=encF x) (b:=encF y) (by simp) (by simp) (Zox (of_decide_eq_true h1) (of_decide_eq_true h2))
 exact zhf h
structure Adj(xs:List Fct)(k:Nat)(acc:List Fct):Prop where
 sub:acc.Sublist (xs.take k)
 mem:∀x∈xs.take k,x∈acc
 nd:acc.Nodup
 last:acc.getLast? = (xs.take k).getLast?
section
variable{xs acc:List Fct}{k:Nat}{x:Fct}
theorem take_last?(hk:xs[k]? = some x):(xs.take (k+1)).getLast? = some x:=by
 rw[Zkz,hk];simp
theorem Adj.new(h:Adj xs k acc)(hs:(xs.map encF).Pairwise fun a b=>a.leB b=true)(hk:xs[k]? = some x)(hn:acc.getLast? ≠ some x):Adj xs (k+1) (acc++[x]):=by
 have e:xs.take (k+1)=xs.take k++[x]:=by rw[Zkz,hk];rfl
 have hx:x∉acc:=fun hx=>by
  have h1:=h.sub.mem hx
  rw[h.last] at hn
  have ne:xs.take k≠[]:=fun z=>by rw[z] at h1;cases h1
  rw[Ziz ne] at hn
  have hp:=hs.sublist ((Zoe (k+1) xs).map encF)
  rw[Zjp,e,Zlc] at hp
  have l1:=hp.2.2 _ (List.getLast_mem ne) x (by simp)
  have l2:(encF x).leB (encF ((xs.take k).getLast ne))=true\/x=(xs.take k).getLast ne:=by
   have hq:=hp.1
   rw[<- List.dropLast_concat_getLast ne] at hq h1
   rcases Zhl.mp h1 with z | z
   .exact .inl ((Zlc.mp hq).2.2 x z _ (by simp))
   .exact .inr (Zgn.mp z)
  rcases l2 with l2 | l2
  .exact hn (by rw[leF l2 l1])
  .exact hn (by rw[<- l2])
 refine⟨by rw[e];exact h.sub.append (Zp0 _),fun y hy=>?_,?_,by rw[take_last? hk];simp⟩
 .rw[e] at hy
  rcases Zhl.mp hy with z | z
  .exact Zi2 _ (h.mem y z)
  .exact Zhc _ z
 .rw[List.nodup_append]
  exact⟨h.nd,by simp,fun a ha b hb z=>by rw[Zgn.mp hb] at z;rw[z] at ha;exact hx ha⟩
theorem Adj.old(h:Adj xs k acc)(hk:xs[k]? = some x)(hn:acc.getLast? = some x):Adj xs (k+1) acc:=by
 have e:xs.take (k+1)=xs.take k++[x]:=by rw[Zkz,hk];rfl
 refine⟨by rw[e];exact h.sub.trans (List.sublist_append_left _ _),fun y hy=>?_,h.nd,by rw[take_last? hk];exact hn⟩
 rw[e] at hy
 rcases Zhl.mp hy with z | z
 .exact h.mem y z
 .rw[Zgn.mp z];exact List.mem_of_getLast? hn
end
theorem Adj.fin{fs acc:List Fct}(h:Adj (mkB fs) (mkB fs).length acc):acc=mkB (dedF fs):=by
 obtain⟨h1,h2,h3,_⟩:=h
 rw[Zov] at h1 h2
 have hs:(acc.map encF).Pairwise fun a b=>a.leB b=true:=by
  have:=zdb (fs.map encF)
  rw[zhl] at this
  exact this.sublist (h1.map encF)
 refine Bk.ext ⟨h3,(zg9 (alF acc) (Zrn _) hs).symm⟩ (ztj (zkg _)) fun f=>?_
 rw[zie,zhq,<- zie fs f]
 exact⟨fun z=>h1.mem z,fun z=>h2 f z⟩
noncomputable def zzd(ds:List D):Prop:=∃fs:List Fct,ds=[bkD fs]/\fs.length<64
noncomputable def zvp:List D->List D
 | [.lst b]=>(mkB (dedF (b.map unF))).map encF
 | _=>[]
theorem zme(b:List Fct):zvp [bkD b]=(mkB (dedF b)).map encF:=by
 show(mkB (dedF ((b.map encF).map unF))).map encF=_
 rw[zgh]
theorem zmz(Z:Tx K mg ad0):FnOk P w K mg base CX0 1 ad0.Zcg ad0.Zcl zdm (SpO K zzd zvp):=by
 refine okO Z.Zbo.F zfv (by rintro ds ⟨c,rfl,_⟩;rfl) fun cdv A outer s H Q E hr=>⟨_,(zah (psn 1 zfv.nd (zg0 zae))
   (zah (zjl Zkg rfl (zh5 (zbf (show zed _ _ (znr K) from zkl) (by rfl) Z.Zdm boot_sorted (zaa (pv 0) zae))) (pgn 2 zfv.nd) (zai (zbz (PW.pt (zzs (zat zd8 (zbf zb1 (by rfl) Z.Zcs Znv (zaa (pv 1) zae)) zag (za3 _)) (zrv (zat (show OpR _ _ (rNeD K) from ybr hr.units) (zbw (show IxR _ (rIxL K) from za0) (pv 1) (ycz yb4 zag) (fun _ _=>rfl)) (pv 2) (za3 _))))) (zai (zh4 (zd5 Zo8 Zme Zom zf6 (pv 1) (zaa (pv 2) zae)))) zav)))
   (zai (zau (pv 1))))),fun G ds hp rt=>?_⟩
 obtain⟨fs,rfl,hl⟩:=hp
 rw[zme] at rt
 have hs:=zdb (fs.map encF)
 rw[zhl] at hs
 have hml:=zm3 fs
 refine zao (zdq (zfi zaj (small (by decide))) fun p=>?_)
 ((try dsimp only);refine zay ?_)
 refine zao (ybw encF (mkB fs) (fun k ss=>∃(acc:List Fct) (v2:Sl),ss=[.d (bkD fs),.o p (acc.map encF),v2]/\Adj (mkB fs) k acc) (EvO.ev (by rw[<- zhl];exact zmc (zab rfl).l (alF fs) (by rw[Zge];exact hl))) ⟨[],.un,rfl,⟨by simp,(by intro x hx;cases hx),Zl2,rfl⟩⟩ ?_ ?_)
 .rintro L' k x ss hL hk ⟨acc,v2,rfl,ha⟩
  refine⟨_,za5,fun N hN=>?_⟩
  have hal:acc.length<=64:=by have:=ha.sub.length_le;rw[Zjj] at this;omega
  have hlm:((acc.map encF).length:Int)=acc.length:=by simp
  let lastF:Fct:=acc.getLastD ([],[],[])
  refine zb2 (b:=decide ((acc.length:Int)=0) || !decide (encF lastF=encF x)) (zrs (zap (zf1 (Ev.b (by rw[<- hlm];exact zij (zew rfl))) zaf.b)) fun hb=>?_) (fun hb=>?_) (fun hb=>?_)
  .have h0:acc≠[]:=fun z=>by rw[z] at hb;simp at hb
   have hat:atI (acc.map encF) (-1)=some (encF lastF):=by
    have hlp:=Zrk.mpr h0
    unfold atI ixN
    rw[Zge]
    have:¬ (0:Int)<= -1:=by decide
    simp only[this,if_false]
    rw[if_pos (by omega)]
    show(acc.map encF)[((-1:Int)+acc.length).toNat]? = _
    rw[Zgl,show((-1:Int)+acc.length).toNat=acc.length - 1 by omega,<- List.getLast?_eq_getElem?,Ziz h0]
    show some (encF _)=some (encF (acc.getLastD _))
    rw[Zl3,Ziz h0];rfl
   exact zap (ya4 (d1:=encF lastF) (d2:=encF x) (zbe (zew rfl) (yax zaf.b).b hat).b (zab rfl).b (nbF _) (nbF _) (by have:=dpF lastF;omega))
  .refine zh7 (d:=encF x) rfl (zab rfl) (by rw[Zge,Zgq];omega) (hN _ ⟨acc++[x],_,by rw[Zln];rfl,ha.new hs hk fun z=>?_⟩)
   have h0:acc≠[]:=fun y=>by rw[y] at z;cases z
   have hlp:=Zrk.mpr h0
   have e:lastF=x:=by show acc.getLastD _=x;rw[Zl3,z];rfl
   rw[e,decide_eq_true rfl,decide_eq_false (by omega)] at hb
   cases hb
  .rw[Zq8] at hb
   have h0:acc≠[]:=fun z=>by rw[z] at hb;simp at hb
   have e:encF lastF=encF x:=by have:=hb.2;simpa using this
   have e:=zhf e
   refine za1 (hN _ ⟨acc,_,rfl,ha.old hk ?_⟩)
   rw[<- e,Ziz h0]
   show some _=some (acc.getLastD _)
   rw[Zl3,Ziz h0];rfl
 rintro ss ⟨acc,v2,rfl,ha⟩
 ((try dsimp only);refine zay ?_)
 rw[ha.fin]
 exact zq3 (i:=1) rfl rt
noncomputable def zt8(ds:List D):Prop:=∃b:List Fct,ds=[bkD b]/\b.length<=200 /\ ∀x∈b,(rowF x).length<=100
theorem zmq(Z:Tx K mg ad0):FnOk P w K mg base CX0 1 ad0.Zb5 ad0.Zb1 zcy (SpD K zt8 zn7):=by
 refine okD Z.Zbf.F zk8 (by rintro ds ⟨c,rfl,_⟩;rfl) fun cdv A outer s H Q E hr=>⟨_,(zai (zau (zd5 Zhm Zkx Zkw zib zal (zaa (zni rfl (LcOk.of (Nx:=(["_law_book_here"]:List Str)) (sc:=zad zc4) (N':=(["_law_card_here", "_law_field", "_law_text_here"]:List Str)) (nt:=3) (cs:=[]) rfl rfl (by decide +kernel)) (zh5 (pv 0)) (fun _ _ _ _=>(show PG _ _ (gTup K 3 _) from zgy rfl (zbb (zca (i:=0) (show Zix (["_law_card_here", "_law_field", "_law_text_here"]:List Str) by decide +kernel) rfl (Zlg rfl)) (zbb (zca (i:=1) (show Zix (["_law_card_here", "_law_field", "_law_text_here"]:List Str) by decide +kernel) rfl (Zlg rfl)) (zbb (zca (i:=2) (show Zix (["_law_card_here", "_law_field", "_law_text_here"]:List Str) by decide +kernel) rfl (Zlg rfl)) zec))))) (fun _ _ _ _=>zdz) (fun _ _ _ _=>(zar zam (zar zam (zar zam (zar zam (pv 0) zal) (pv 1)) zal) (pv 2)))) zae)))),fun G ds hp rt=>?_⟩
 obtain⟨b,rfl,hl,hx⟩:=hp
 rw[zey] at rt
 unfold zd9 at rt
 have hsum:=zh2 (ls:=b.map rowF) (n:=100) (by intro l hm;obtain⟨p,hp,rfl⟩:=Zg5.mp hm;exact hx p hp)
 rw[Zge] at hsum
 refine zbi (zjy (z:=[10]) (ls:=b.map rowF) (zaw (l:=[10]) (by decide +kernel) (by decide)).b ?_ (by rw[Zge];simp only[Zgp,Zhj];omega)) rt
 rw[Zii]
 refine EvO.l (zkc b encF (fun f=>.str (rowF f)) (zab rfl).l (zs3 (zd4 (zcl (by decide)) (zd4 (zcl (by decide)) (zd4 (zcl (by decide)) znj)))) (by decide) (by rw[Zgq];omega) fun f hf=>⟨_,zgr rfl (zba za5 (zba za5 (zba za5 ze2))),?_⟩)
 have hr:=hx f hf
 have e:rowF f=f.1++[32]++f.2.1++[32]++f.2.2:=by unfold rowF;simp[glue]
 rw[e] at hr ⊢
 simp only[Zg8,Zgp,Zhj] at hr
 exact zbk (zbk (zbk (zbk (zab rfl).b (zaw (l:=[32]) (by decide +kernel) (by decide)).b (by rw[Zgq];simp;omega)).b (zab rfl).b (by rw[Zgq];simp;omega)).b (zaw (l:=[32]) (by decide +kernel) (by decide)).b (by rw[Zgq];simp;omega)).b (zab rfl).b (by rw[Zgq];simp;omega)
theorem znv{x:Row}(h:zfo x):(rowL x).length<=61:=by
 obtain⟨h1,h2⟩:=h
 have h3:=h1.2.1
 have h4:x.2.1∈flds++prs:=by
  rcases h2 with h | h
  .exact Zi2 _ h.1
  .exact Zhc _ h.1
 have h5:=(zmf _ h4).2
 have h6:x.2.2.length<=40:=by
  rcases h2 with h | h
  .exact h.2.2.1
  .have:=h.2.1.2.1;omega
 unfold rowL
 simp;omega
theorem zwz{x:Row}(h:zfo x):10∉rowL x:=by
 obtain⟨h1,h2⟩:=h
 have hl:10∉lets:=by decide +kernel
 have hs:10∉zwr:=by decide +kernel
 have hw:∀f∈flds++prs,10∉f:=by decide +kernel
 have h4:x.2.1∈flds++prs:=by
  rcases h2 with h | h
  .exact Zi2 _ h.1
  .exact Zhc _ h.1
 unfold rowL
 intro z
 simp only[Zhl,Zgh] at z
 rcases z with z | z | z | z | z
 .exact hl (h1.2.2 _ z)
 .cases z
 .exact hw _ h4 z
 .cases z
 .rcases h2 with h | h
  .exact hs (h.2.2.2.2 _ z)
  .exact hl (h.2.1.2.2 _ z)
theorem yam{x:Row}(h:zfo x):LnOk (rowL x,some x):=⟨zwz h,by have:=znv h;show(rowL x).length<=100;omega,rfl,h⟩
theorem zl4(a b:List Nat):minL b a=minL a b/\maxL b a=maxL a b:=by
 unfold minL maxL
 by_cases h:b<a
 .have h2:¬ a<b:=fun z=>Znd _ (Zqf h z)
  simp[h,h2]
 .by_cases h2:a<b
  .simp[h,h2]
  .have e:=Zox (Zmi.mp h) (Zmi.mp h2)
   subst e;simp
noncomputable def swQ(r:Fct):Row:=(r.2.2,r.2.1,r.1)
noncomputable def rwQ(c:Int)(i:Nat)(f:Fct):Row:=if f.2.1∈prs/\(c+i) % 2=1 then swQ f else f
noncomputable def noiQ:List (List Nat):=[[],[32,32],[35,32,98,111],[35]]
noncomputable def noQ(x:Int):List Nat:=noiQ.getD (x % 4).toNat []
noncomputable def lnQ(c:Int)(i:Nat)(f:Fct):List Ln:=(rowL (rwQ c i f),some (rwQ c i f))::(if (c+i) % 5=3 then [(noQ (c / 5+i),none)] else [])
noncomputable def lnsK(fs:List Fct)(c:Int)(k:Nat):List Ln:=(Zg1 k).flatMap fun i=>lnQ c i (fs.getD i ([],[],[]))
noncomputable def FOk(f:Fct):Prop:=zfo f/\foF f=f
theorem zxq{f:Fct}(h:FOk f)(c:Int)(i:Nat):zfo (rwQ c i f)/\foF (rwQ c i f)=f:=by
 unfold rwQ
 split
 .rename_i hp
  obtain⟨⟨h1,h2⟩,h3⟩:=h
  rcases h2 with ⟨a,_⟩ | ⟨a,b,d⟩
  .exact absurd hp.1 ((by decide +kernel:∀w∈flds,w∉prs) _ a)
  .refine⟨⟨b,.inr ⟨a,h1,fun z=>d z.symm⟩⟩,?_⟩
   unfold foF at h3 ⊢
   rw[if_pos a] at h3
   show(if f.2.1∈prs then _ else _)=f
   rw[if_pos a]
   show(minL f.2.2 f.1,f.2.1,maxL f.2.2 f.1)=f
   rw[(zl4 f.1 f.2.2).1,(zl4 f.1 f.2.2).2]
   exact h3
 .exact⟨h.1,h.2⟩
theorem yby(x:Int):LnOk (noQ x,none):=by
 have h0:=Zg7 x (show(4:Int)≠0 by decide)
 have h1:=Zgx x (show(0:Int)<4 by decide)
 unfold noQ
 rcases(by omega:x % 4=0\/x % 4=1\/x % 4=2\/x % 4=3) with e | e | e | e <;> rw[e]
 .exact⟨by decide,by decide,by show zgc _=true;decide +kernel⟩
 .exact⟨by decide,by decide,by show zgc _=true;decide +kernel⟩
 .exact⟨by decide,by decide,by show zgc _=true;decide +kernel⟩
 .exact⟨by decide,by decide,by show zgc _=true;decide +kernel⟩
theorem zmr{fs:List Fct}{k:Nat}{f:Fct}(c:Int)(hk:fs[k]? = some f):lnsK fs c (k+1)=lnsK fs c k++lnQ c k f:=by
 unfold lnsK
 rw[Zmv,List.flatMap_append,List.flatMap_singleton,Zf7,hk];rfl
theorem zgn{fs:List Fct}(h:∀f∈fs,FOk f)(c:Int):∀k,k<=fs.length->(∀p∈lnsK fs c k,LnOk p)/\(lnsK fs c k).length<=2*k/\za8 (lnsK fs c k)=fs.take k
 | 0,_=>⟨(fun p hp=>by cases hp),Zgf _,rfl⟩
 | k+1,hk=>by
  obtain⟨h1,h2,h3⟩:=zgn h c k (by omega)
  have hf:=Zf8 (show k<fs.length by omega)
  have hr:=zxq (h _ (Zhv (show k<fs.length by omega))) c k
  rw[zmr c hf]
  generalize fs[k]=f at hf hr
  refine⟨fun p hp=>?_,?_,?_⟩
  .rcases Zhl.mp hp with z | z
   .exact h1 p z
   .unfold lnQ at z
    rcases Zgh.mp z with rfl | z
    .exact yam hr.1
    .split at z
     .rw[Zgn.mp z];exact yby _
     .cases z
  .rw[Zg8]
   unfold lnQ
   split <;> simp <;> omega
  .have e:za8 (lnQ c k f)=[f]:=by
    unfold za8 lnQ
    rw[Zh4 (b:=f) (by show some (foF (rwQ c k f))=some f;rw[hr.2])]
    split <;> rfl
   unfold za8 at h3 e ⊢
   rw[List.filterMap_append,h3,e,Zkz,hf];rfl
noncomputable def lnD(q:Ln):D:=.str q.1
noncomputable def zzk(ds:List D):Prop:=∃(fs:List Fct) (c:Int),ds=[bkD fs,.int c]/\fs.length<=60 /\ ∀f∈fs,FOk f
noncomputable def zwy:List D->D
 | [.lst b,.int c]=>.str (txtOf (lnsK (b.map unF) c b.length))
 | _=>.non
theorem zld(b:List Fct)(c:Int):zwy [bkD b,.int c]= .str (txtOf (lnsK b c b.length)):=by
 show D.str (txtOf (lnsK ((b.map encF).map unF) c (b.map encF).length))=_
 rw[zgh,Zge]
theorem zw8(l:List Nat):decide (D.str l∈ze0)=decide (l∈prs):=by
 have e:ze0=prs.map D.str:=by
  unfold ze0 S prs
  rw[show("same" : Str).cps.toList=[115,97,109,101] by decide +kernel,show("apart" : Str).cps.toList=[97,112,97,114,116] by decide +kernel]
  rfl
 rw[e,decide_eq_decide,Zg5]
 exact⟨fun⟨x,hx,h⟩=>by cases D.str.inj h;exact hx,fun h=>⟨l,h,rfl⟩⟩
theorem zm6(Z:Tx K mg ad0):FnOk P w K mg base CX0 1 ad0.Zch ad0.Zcj zdg (SpD K zzk zwy):=by
 refine okD Z.Zbq.F zbq (by rintro ds ⟨c,k,rfl,_⟩;rfl) fun cdv A outer s H Q E hr=>⟨_,(zah (psn 2 zbq.nd (zg0 zae))
   (zah (zjl Zkg rfl (zmi (by rfl) Z.Zb0 (zaa (pv 0) zae)) (zgy rfl (zbb (pgn 3 zbq.nd) (zbb (pgn 4 zbq.nd) zec))) (zah (yag (pv 4) (zgy rfl (zbb (pgn 5 zbq.nd) (zbb (pgn 6 zbq.nd) (zbb (pgn 7 zbq.nd) zec)))))
   (zah (zbz (PW.pt (zjo (zat (show OpR _ _ (rInD K false) from zlw hr.units) (pv 6) (zmx (zaa zal (zaa zal zae))) (by with_unfolding_all rfl)) (ziv (zat zd8 (zar zcm (zar zev (pv 1) (pv 3)) zag) zag (za3 _))))) (zai (yao (i:=5) (j:=7) rfl zbq.nd rfl rfl (by decide) rfl rfl (zaa (pv 7) (zaa (pv 5) zae)) rfl)) zav)
   (zah (zh4 (zd5 Zo8 Zme Zom zf6 (pv 2) (zaa (zar zam (zar zam (zar zam (zar zam (pv 5) zal) (pv 6)) zal) (pv 7)) zae)))
   (zai (zbz (zat zd8 (zar zcm (zar zev (pv 1) (pv 3)) zag) zag (za3 _)) (zai (zh4 (zd5 Zo8 Zme Zom zf6 (pv 2) (zaa (zbw (show IxR _ (rIxL K) from za0) (zg0 (zaa zal (zaa zal (zaa zal (zaa zal zae))))) (zar zcm (zar zev (zar zcc (pv 1) zag) (pv 3)) zag) (fun _ _=>rfl)) zae)))) zav))))))
   (zai (zau (zd5 Zhm Zkx Zkw zib zal (zaa (pv 2) zae)))))),fun G ds hp rt=>?_⟩
 obtain⟨fs,c,rfl,hl,hok⟩:=hp
 rw[zld] at rt
 refine zao (zdq (zfi zaj (small (by decide))) fun p=>?_)
 ((try dsimp only);refine zay ?_)
 refine zao (zzu encF fs (fun k ss=>∃v3 v4 v5 v6 v7:Sl,ss=[.d (bkD fs),.d (.int c),.o p ((lnsK fs c k).map lnD),v3,v4,v5,v6,v7]) (zab rfl) ⟨.un,.un,.un,.un,.un,rfl⟩ ?_ ?_)
 .rintro L' k f ss hL hk ⟨v3,v4,v5,v6,v7,rfl⟩
  refine⟨_,zgr rfl (zba za5 (zba za5 ze2)),fun N hN=>?_⟩
  have hkl:=(Zgg.mp hk).1
  have hll:=(zgn hok c k (by omega)).2.1
  have hrw:=zxq (hok f (Zgm hk)) c k
  have hrl:=znv hrw.1
  have em:=zmr c hk
  refine zao (yb3 (d:=encF f) (zab rfl) (zgr rfl (zba za5 (zba za5 (zba za5 ze2)))) ?_)
  ((try dsimp only);refine zay ?_)
  refine zsu (fun ss=>∃v4:Sl,ss=[.d (bkD fs),.d (.int c),.o p ((lnsK fs c k).map lnD),.d (.int (k:Int)),v4,.d (.str (rwQ c k f).1),.d (.str (rwQ c k f).2.1),.d (.str (rwQ c k f).2.2)]) (fun N2 hN2=>zb2 (b:=decide (D.str f.2.1∈ze0)&&decide ((c+k) % 2=1)) (zfn (zap (zo9 (d:=.str f.2.1) (zab rfl).b (zmk (ds:=ze0) (zac (zbg (by decide)) (zac (zbg (by decide)) zaj)) (small (by decide))).b rfl rfl (by show 0<=60;decide))) fun _=>zap (zf1 (zcn (zes (zab rfl).b (zab rfl).b).b zaf.b (by decide)).b zaf.b)) (fun hb=>?_) (fun hb=>?_)) ?_
  .rw[zw8,Zgv,decide_eq_true_eq,decide_eq_true_eq] at hb
   have e:rwQ c k f=swQ f:=if_pos hb
   rw[e] at hN2
   exact yaq (zac (zab rfl) (zac (zab rfl) zaj)) (hN2 _ ⟨_,rfl⟩)
  .have e:rwQ c k f=f:=if_neg fun z=>by rw[zw8,decide_eq_true z.1,decide_eq_true z.2] at hb;cases hb
   rw[e] at hN2
   exact za1 (hN2 _ ⟨_,rfl⟩)
  rintro ss ⟨v4,rfl⟩
  unfold lnQ at em
  generalize rwQ c k f=r at hrw hrl em
  have er:rowL r=r.1++[32]++r.2.1++[32]++r.2.2:=by unfold rowL;simp
  have hr2:=hrl
  rw[er] at hr2
  simp only[Zg8,Zgp,Zhj] at hr2
  refine zao (zh7 (d:=lnD (rowL r,some r)) rfl (by
   show Ev _ _ _ _ _ _ (.str (rowL r))
   rw[er]
   exact zbk (zbk (zbk (zbk (zab rfl).b (zaw (l:=[32]) (by decide +kernel) (by decide)).b (by rw[Zgq];simp;omega)).b (zab rfl).b (by rw[Zgq];simp;omega)).b (zaw (l:=[32]) (by decide +kernel) (by decide)).b (by rw[Zgq];simp;omega)).b (zab rfl).b (by rw[Zgq];simp;omega)) (by rw[Zge,Zgq];omega) ?_)
  ((try dsimp only);refine zay ?_)
  refine zb2 (zap (zf1 (zcn (zes (zab rfl).b (zab rfl).b).b zaf.b (by decide)).b zaf.b)) (fun hb=>?_) (fun hb=>?_)
  .rw[if_pos (of_decide_eq_true hb)] at em
   have hat:=zif (noiQ.map D.str) .non (c / 5+k) (n:=4) rfl (by decide)
   have e0:(noiQ.map D.str).getD ((c / 5+k) % 4).toNat .non=lnD (noQ (c / 5+k),none):=by
    have:=Zg7 (c / 5+k) (show(4:Int)≠0 by decide)
    have:=Zgx (c / 5+k) (show(0:Int)<4 by decide)
    unfold lnD noQ
    rw[Zf7,Zf7,Zgl,Zf8 (show((c / 5+k) % 4).toNat<noiQ.length by show _<4;omega)]
    rfl
   rw[e0] at hat
   refine zh7 (d:=lnD (noQ (c / 5+k),none)) rfl (zbe (ds:=noiQ.map D.str) (EvO.l (zfi (zac (zaw (l:=[]) (by decide +kernel) (by decide)) (zac (zaw (l:=[32,32]) (by decide +kernel) (by decide)) (zac (zaw (l:=[35,32,98,111]) (by decide +kernel) (by decide)) (zac (zaw (l:=[35]) (by decide +kernel) (by decide)) zaj)))) (small (by decide)))) (zcn (zes (zb9 (zab rfl).b zaf.b ⟨by decide,by decide⟩).b (zab rfl).b).b zaf.b (by decide)).b hat) (by rw[Zg8,Zge,Zgq];simp;omega) (hN _ ⟨.d (.int (k:Int)),v4,.d (.str r.1),.d (.str r.2.1),.d (.str r.2.2),?_⟩)
   rw[em,Zln]
   simp only[Zg3,Zmw,Zjq,Zk9,Zll]
   rfl
  .rw[if_neg (of_decide_eq_false hb)] at em
   refine za1 (hN _ ⟨.d (.int (k:Int)),v4,.d (.str r.1),.d (.str r.2.1),.d (.str r.2.2),?_⟩)
   rw[em,Zln];rfl
 rintro ss ⟨v3,v4,v5,v6,v7,rfl⟩
 ((try dsimp only);refine zay ?_)
 have hk:=zgn hok c fs.length (Zgf _)
 generalize lnsK fs c fs.length=ls at hk rt
 have hsum:=zh2 (ls:=ls.map (·.1)) (n:=100) (by intro l hm;obtain⟨q,hq,rfl⟩:=Zg5.mp hm;exact(hk.1 q hq).2.1)
 rw[Zge] at hsum
 refine zbi (zjy (z:=[10]) (ls:=ls.map fun q:Ln=>q.1) (zaw (l:=[10]) (by decide +kernel) (by decide)).b ?_ (by rw[Zge (f:=fun q:Ln=>q.1)];simp only[Zgp,Zhj];omega)) rt
 have e:ls.map lnD=(ls.map (·.1)).map D.str:=by rw[Zii];rfl
 rw[<- e]
 exact zew rfl
noncomputable def za2:List Nat:=("book" : Str).cps.toList
noncomputable def newW:List Nat:=("new" : Str).cps.toList
noncomputable def zbn:List Nat:=("show" : Str).cps.toList
noncomputable def yb0:List Nat:=("pour" : Str).cps.toList
noncomputable def zci(k:List Nat):Option (List (List Nat)):=if k=za2 then some [newW] else if k=zbn then some [za2] else if k=yb0 then some [newW,za2,za2,za2] else none
structure FormsK(P:Zgy)(w:Zhn)(K:Zf6)(mg:Str->Option Zf9)(q:Addr)(kvs:List (Key×V)):Prop where
 m:mg "FORMS" = some (.ref q)
 d:DctK P w K q kvs
 f:∀k fs,zci k=some fs-> ∃a,valV kvs (.inr (T k))=some (.ref a) /\ ∀H,Rep K H (.tup (fs.map D.str)) (.ref a)
theorem zvd{K:Zf6}{kvs:List (Key×V)}(h_book:∃a,valV kvs (.inr (T za2))=some (.ref a)/\TupK K a [newW])(h_show:∃a,valV kvs (.inr (T zbn))=some (.ref a)/\TupK K a [za2])(h_pour:∃a,valV kvs (.inr (T yb0))=some (.ref a)/\TupK K a [newW,za2,za2,za2])(k:List Nat)(fs:List (List Nat))(h:zci k=some fs):∃a,valV kvs (.inr (T k))=some (.ref a) /\ ∀H,Rep K H (.tup (fs.map D.str)) (.ref a):=by
 unfold zci at h
 split at h
 .rename_i e;cases h;subst e;exact h_book
 .split at h
  .rename_i e;cases h;subst e;exact h_show
  .split at h
   .rename_i e;cases h;subst e;exact h_pour
   .cases h
theorem ybe{l:List Nat}(h:zbv l):zkf l=true:=by
 obtain⟨h1,h2,h3⟩:=h
 unfold zkf
 rw[Zgv,Zgv,Zif]
 exact⟨⟨decide_eq_true (by omega),decide_eq_true (by omega)⟩,fun c hc=>decide_eq_true (h3 c hc)⟩
noncomputable def ya6(ds:List D):Prop:=∃l f:List Nat,ds=[.str l,.str f]/\zbv l/\f≠("field" : Str).cps.toList
theorem zmj(Z:Tx K mg ad0):FnOk P w K mg base CX0 2 ad0.Zbw ad0.Zb2 zcw (SpD K ya6 fun _=>.bl true):=by
 have Zdf:=zjr (P:=P) (w:=w) (base:=base) Z
 refine okD Z.Zcr.F zl0 (by rintro ds ⟨c,k,rfl,_⟩;rfl) fun cdv A outer s H Q E hr=>⟨_,(zai (zau (zw0 (zat zd8 (pv 1) zal (za3 _)) (zfs (show OpR _ _ (rInD K false) from zlw hr.units) (pv 0) (zce (v:=.ref ad0.Zbl) (by rfl) Z.Zdn rfl) (by with_unfolding_all rfl)) (pcX Zdf hr Z.Zcd (zaa (pv 0) zae))))),fun G ds hp rt=>?_⟩
 obtain⟨l,f,rfl,hn,hf⟩:=hp
 refine zbi (yae (zap (ziu (zab rfl).b (zbg (by decide)).b)) (fun hb=>absurd (of_decide_eq_true hb) hf) fun _=>?_) rt
 have e:zea [.str l]= .bl true:=by show D.bl (zkf l)=_;rw[ybe hn]
 rw[<- e]
 exact zbc (pre:=preS) (res:=zea) (zac (zab rfl) zaj) ⟨l,rfl,by have:=hn.2.1;omega⟩
noncomputable def zi3(q:List Nat×List (List Nat)):Prop:=(∃fs,zci q.1=some fs/\q.2.length=fs.length) /\ ∀n∈q.2,zbv n
noncomputable def ordW(q:List Nat×List (List Nat)):List (List Nat):=q.1::q.2
noncomputable def zzm(q:List Nat×List (List Nat))(ds:List D):Prop:=ds=[.str (glue [32] (ordW q))]/\zi3 q
noncomputable def znk(q:List Nat×List (List Nat)):List D:=(ordW q).map D.str
theorem zhc{k:List Nat}{fs:List (List Nat)}(h:zci k=some fs):fs.length<=4/\32∉k/\10∉k/\k.length<=4/\(∀c∈k,c<128)/\(∀f∈fs,f≠("field" : Str).cps.toList)/\1<=fs.length:=by
 unfold zci at h
 split at h
 .rename_i e;cases h;subst e;decide +kernel
 .split at h
  .rename_i e;cases h;subst e;decide +kernel
  .split at h
   .rename_i e;cases h;subst e;decide +kernel
   .cases h
theorem ltsN:32∉lets/\10∉lets:=by decide +kernel
theorem zq5{q:List Nat×List (List Nat)}(h:zi3 q):zb8 32 (glue [32] (ordW q))=ordW q:=by
 obtain⟨⟨fs,hf,hl⟩,hn⟩:=h
 have r:=zhc hf
 unfold zb8
 refine ze9 (by simp[ordW]) (fun x hx=>?_) ?_
 .rcases Zgh.mp hx with rfl | hx
  .exact r.2.1
  .exact fun z=>ltsN.1 ((hn x hx).2.2 _ z)
 .have:∀qs:List (List Nat),qs.length<=(glue [32] qs).length+1:=fun qs=>by
   induction qs with
   | nil=>simp
   | cons a r ih =>
    cases r with
    | nil=>simp
    | cons b r=>simp only[glue,Zg8,Zgp,Zhj] at ih ⊢;omega
  have:=this (ordW q)
  omega
theorem zsa{q:List Nat×List (List Nat)}(h:zi3 q):(glue [32] (ordW q)).length<=100/\(ordW q).length<=5:=by
 obtain⟨⟨fs,hf,hl⟩,hn⟩:=h
 have r:=zhc hf
 have h1:=zhp [32] (ordW q)
 have h2:=zh2 (ls:=ordW q) (n:=12) (by
  intro l hm
  rcases Zgh.mp hm with rfl | hm
  .omega
  .exact(hn l hm).2.1)
 unfold ordW at *
 simp only[Zgp,Zhj] at h1 h2 ⊢
 omega
theorem zoa{P:Zgy}{w:Zhn}{K:Zf6}{mg:Str->Option Zf9}{q:Addr}{kvs:List (Key×V)}{k:List Nat}{fs:List (List Nat)}(ZF:FormsK P w K mg q kvs)(h:zci k=some fs){G Hz L:Hp}{ss:List Sl}{ty:TE}(b:EvB K G Hz L ss ty (.str k)):Ev K G Hz L ss (zvf kvs ty) (.tup (fs.map D.str)):=by
 obtain⟨a,hv,r⟩:=ZF.f _ _ h
 exact zzw b hv r
theorem zx5{P:Zgy}{w:Zhn}{K:Zf6}{mg:Str->Option Zf9}{q:Addr}{kvs:List (Key×V)}{k:List Nat}{fs:List (List Nat)}(ZF:FormsK P w K mg q kvs)(h:zci k=some fs){G Hz L:Hp}{ss:List Sl}{ty:TE}(b:EvB K G Hz L ss ty (.str k)):Ev K G Hz L ss (znp kvs ty) (.bl false):=by
 obtain⟨a,hv,r⟩:=ZF.f _ _ h
 have:=zsf (kvs:=kvs) b
 rw[hv] at this
 exact this
theorem zcj(ls:List (List Nat))(k:Nat)(h:k<ls.length):(ls.map D.str).getD k .non= .str (ls.getD k []):=by
 rw[Zf7,Zf7,Zgl,Zf8 h];rfl
theorem zn2(ls:List (List Nat))(k:Nat)(h:k<ls.length):ls.getD k []∈ls:=by
 rw[Zf7,Zf8 h];exact Zhv _
theorem cut1(x:D)(xs:List D):cutD (x::xs) (some 1) none=xs:=zmt (x::xs) (by decide)
theorem zoc(Z:Tx K mg ad0){q:Addr}{kvs:List (Key×V)}(ZF:FormsK P w K mg q kvs):FnOk P w K mg base CX0 3 ad0.Zbm ad0.Zbr zcr (SpGO K zzm znk):=by
 have Zfh:=zmj (P:=P) (w:=w) (base:=base) Z
 refine okGO Z.Zda.F zds (by rintro x ds ⟨rfl,_⟩;rfl) fun cdv A outer s H Q E hr=>⟨_,(zah (psn 1 zds.nd (zd5 Zhm Zip Zmx zj8 (pv 0) (zaa zal zae)))
   (zah (zbz (PW.pt (zzs (zxg (zsc ZF.d (zbw (show IxR _ (rIxL K) from za0) (pv 1) zag (fun _ _=>rfl)) (zce (v:=.ref _) (by rfl) ZF.m rfl)) (by with_unfolding_all rfl)) (zrv (zat zja (zbf zb1 (by rfl) Z.Zcs Znv (zaa (pv 1) zae)) (zar zev (zbf zb1 (by rfl) Z.Zcs Znv (zaa (znb ZF.d (zce (v:=.ref _) (by rfl) ZF.m rfl) (zbw (show IxR _ (rIxL K) from za0) (pv 1) zag (fun _ _=>rfl)) (fun _ _=>rfl)) zae)) zag) (za3 _))))) (zai ze6) zav)
   (zah (zjl Zkg rfl (zms (by rfl) Z.Zeu (zaa (zda zgo (pv 1) (zd1 zag) zfj) (zaa (znb ZF.d (zce (v:=.ref _) (by rfl) ZF.m rfl) (zbw (show IxR _ (rIxL K) from za0) (pv 1) zag (fun _ _=>rfl)) (fun _ _=>rfl)) zae))) (zgy rfl (zbb (pgn 2 zds.nd) (zbb (pgn 3 zds.nd) zec))) (zai (zbz (zpd (zma (pcX Zfh hr Z.Zcr (zaa (pv 2) (zaa (pv 3) zae))))) (zai ze6) zav)))
   (zai (zau (pv 1)))))),fun G ds o hp rt=>?_⟩
 obtain⟨rfl,ho⟩:=hp
 have hsp:=zq5 ho
 have hln:=zsa ho
 obtain⟨⟨fs,hf,hl⟩,hn⟩:=id ho
 have r:=zhc hf
 have rt:RtO K G H Q ((ordW o).map D.str):=rt
 rw[<- hsp] at rt
 refine zao (zdq (zgj (zab rfl).b (zaw (l:=[32]) (by decide +kernel) (by decide)).b (by rw[Zgq];omega)) fun p=>?_)
 ((try dsimp only);refine zay ?_)
 rw[hsp] at rt ⊢
 obtain⟨wd,as⟩:=o
 have hf:zci wd=some fs:=hf
 have hl:as.length=fs.length:=hl
 have at0:atI ((ordW (wd,as)).map D.str) 0=some (.str wd):=zen (j:=0) rfl
 refine zao (zb2 (b:=false || !decide ((((ordW (wd,as)).map D.str).length:Int)=(((fs.map D.str).length:Nat):Int)+1)) (zrs (zap (zx5 ZF hf (zbe (zew rfl) zaf.b at0).b)) fun _=>zap (zxb (zij (zew rfl)).b (zes (zy6 (zoa ZF hf (zbe (zew rfl) zaf.b at0).b).b).b zaf.b).b)) (fun hb=>?_) fun hb=>?_)
 .simp[hl,ordW] at hb
 refine za1 ?_
 ((try dsimp only);refine zay ?_)
 refine zao (znn (fun _ ss=>ss[1]? = some (.o p ((ordW (wd,as)).map D.str))/\ss.length=4) (zpk (EvO.ev (zgl (lo:=some 1) (hi:=none) (zew rfl) (zco zaf.b) zh9)) (zoa ZF hf (zbe (zew rfl) zaf.b at0).b)) ⟨rfl,rfl⟩ (fun L' k ss _ hk hI=>?_) fun ss hI=>?_)
 .obtain⟨h1,h2⟩:=hI
  rw[show(ordW (wd,as)).map D.str= .str wd::as.map D.str from rfl,cut1] at hk ⊢
  rw[Zge,Zge] at hk
  match ss,h2 with
  | [s0,s1,s2,s3],_ =>
   cases h1
   refine⟨_,zgr rfl (zba za5 (zba za5 ze2)),fun N hN=>?_⟩
   have e1:(as.map D.str).getD k .non= .str (as.getD k []):=zcj as k (by omega)
   have e2:(fs.map D.str).getD k .non= .str (fs.getD k []):=zcj fs k (by omega)
   rw[e1,e2]
   refine zb2 (b:=!true) (zkb (zrm (zbc (pre:=ya6) (res:=fun _=>.bl true) (zac (zab rfl) (zac (zab rfl) zaj)) ⟨_,_,rfl,hn _ (zn2 as k (by omega)),r.2.2.2.2.2.1 _ (zn2 fs k (by omega))⟩))) (fun hb=>by cases hb) fun _=>za1 (hN _ ⟨rfl,rfl⟩)
 ·((try dsimp only);refine zay ?_)
  exact zq3 hI.1 rt
noncomputable def zqd(r:List Nat):Prop:=zc9 [32].contains r=[]/\r.length<=1000
noncomputable def zx7(ds:List D):Prop:=∃(rs:List (List Nat)) (n:Nat),ds=[.lst (rs.map D.str),.int n]/\n<=10 /\ ∀r∈rs.drop n,zqd r
theorem zem(Z:Tx K mg ad0):FnOk P w K mg base CX0 1 ad0.Zaj ad0.Zai zax (SpD K zx7 fun _=>.non):=by
 refine okD Z.Zat.F zbp (by rintro ds ⟨c,n,rfl,_⟩;rfl) fun cdv A outer s H Q E hr=>⟨_,(zai (zjl Zkg rfl (zpi (by rfl) Z.Zb0 (zaa (zda zgo (pv 0) (zd1 (pv 1)) zfj) zae) (zar zev (pv 1) zag)) (zgy rfl (zbb (pgn 2 zbp.nd) (zbb (pgn 3 zbp.nd) zec))) (zai (zbz (zat zja (zd5 Zhm Zpp Zpo zhu (pv 3) (zaa zal zae)) zal (za3 _)) (zai ze6) zav)))),fun G ds hp rt=>?_⟩
 obtain⟨rs,n,rfl,hn,hb⟩:=hp
 have ec:cutD (rs.map D.str) (some (n:Int)) none=(rs.drop n).map D.str:=by
  rw[zmt _ (by omega),Zi6,Zuh]
 have es:EvO K G H G (slots 4 [.lst (rs.map D.str),.int n]) (tSl (rSlL K) (tVar 0) (zp6 (tVar 1)) zk6) ((rs.drop n).map D.str):=by
  rw[<- ec];exact zgl (lo:=some (n:Int)) (hi:=none) (zab rfl).l (zco (zab rfl).b) zh9
 refine znn (fun _ ss=>ss.length=4) (zs0 (m:=n+1) es.ev (show Ev K G H G _ _ (.int ((n:Int)+1)) from zes (zab rfl).b zaf.b) ?_) rfl (fun L' k ss _ hk hI=>?_) fun ss hI F H U S=>rt .non F H S.ext Rep.non
 .unfold Zia
  rw[Zgv]
  exact⟨decide_eq_true (by omega),decide_eq_true (by omega)⟩
 .match ss,hI with
  | [s0,s1,s2,s3],_ =>
   refine⟨_,zgr rfl (zba za5 (zba za5 ze2)),fun N hN=>?_⟩
   rw[Zge] at hk
   rw[zcj _ k hk]
   have hB:=hb _ (zn2 _ k hk)
   refine zb2 (b:=!decide (zc9 [32].contains ((rs.drop n).getD k [])=[])) (zap (zxp (zj4 (zab rfl).b (zaw (l:=[32]) (by decide +kernel) (by decide)).b (by rw[Zgq];have:=hB.2;omega)).b (zaw (l:=[]) (by decide +kernel) (by decide)).b)) (fun hb=>?_) fun _=>za1 (hN _ rfl)
   rw[decide_eq_true hB.1] at hb;cases hb
noncomputable def yas(ds:List D):Prop:=∃(r:List Nat) (rs:List (List Nat)),ds=[.lst ((r::rs).map D.str)]/\rs.length<=400 /\ ∀l∈rs,l.length<=100
noncomputable def unSt:D->List Nat
 | .str l=>l
 | _=>[]
noncomputable def zxx:List D->D
 | [.lst (_::rs)]=>.str (glue [10] ([]::rs.map unSt))
 | _=>.non
theorem zml(r:List Nat)(rs:List (List Nat)):zxx [.lst ((r::rs).map D.str)]= .str (glue [10] ([]::rs)):=by
 show D.str (glue [10] ([]::(rs.map D.str).map unSt))=_
 rw[Zii,show unSt∘D.str=id from funext fun _=>rfl,Zrh]
theorem zjb(Z:Tx K mg ad0):FnOk P w K mg base CX0 1 ad0.Zba ad0.Zbc zb3 (SpD K yas zxx):=by
 refine okD Z.Zb9.F zje (by rintro ds ⟨c,n,rfl,_⟩;rfl) fun cdv A outer s H Q E hr=>⟨_,(zai (zau (zd5 Zhm Zkx Zkw zib zal (zaa (zar (show OpR _ _ (zxr K) from zxt) (zg0 (zaa zal zae)) (zda zgo (pv 0) (zd1 zag) zfj)) zae)))),fun G ds hp rt=>?_⟩
 obtain⟨r,rs,rfl,hn,hb⟩:=hp
 rw[zml] at rt
 have es:EvO K G H G (slots 1 [.lst ((r::rs).map D.str)]) (tSl (rSlL K) (tVar 0) (zp6 (tC (.int 1))) zk6) (rs.map D.str):=by
  rw[<- cut1 (.str r) (rs.map D.str)];exact zgl (lo:=some 1) (hi:=none) (zab rfl).l (zco zaf.b) zh9
 refine zbi (zjy (ls:=[]::rs) (zaw (l:=[10]) (by decide +kernel) (by decide)).b (EvO.l (zyw (EvO.l (zfi (zac (zaw (l:=[]) (by decide +kernel) (by decide)) zaj) (small (by simp)))) es.l ?_)) ?_) rt
 .simp only[Zge,Zgp,Zhj];rw[Zgq];omega
 .have:=zh2 hb
  simp only[Zg3,Zqe,Zgp,Zhj]
  omega
noncomputable def NmOk(q:List Nat×List (List Nat))(kvs:DD):Prop:=∀fs,zci q.1=some fs-> ∀k,k<fs.length->fs.getD k []=za2->(valD kvs (.str (q.2.getD k []))).isSome=true
noncomputable def zv0(q:List Nat×List (List Nat))(kvs:DD)(ds:List D):Prop:=ds=[.lst ((ordW q).map D.str)]/\zi3 q/\NmOk q kvs
theorem zfe(Z:Tx K mg ad0){q:Addr}{kvs:List (Key×V)}(ZF:FormsK P w K mg q kvs):FnOk P w K mg base CX0 1 ad0.Zad ad0.Zae ["self", "words"] (SpK K ad0.Zaa "books" "rules" zv0 (fun _ _=>.non) fun _ kvs=>kvs):=by
 refine Z.Zbi.ok zbu (fun vs H Q E h=>zej (n:=2) (by rintro z kvs ds ⟨rfl,_⟩;rfl) h) (fun cdv A outer s H vs Q E hr h=>⟨_,(zai (zjl Zkg rfl (zms (by rfl) Z.Zeu (zaa (zda zgo (pv 1) (zd1 zag) zfj) (zaa (znb ZF.d (zce (v:=.ref _) (by rfl) ZF.m rfl) (zbw (show IxR _ (rIxL K) from za0) (pv 1) zag (fun _ _=>rfl)) (fun _ _=>rfl)) zae))) (zgy rfl (zbb (pgn 2 zbu.nd) (zbb (pgn 3 zbu.nd) zec))) (zai (zbz (PW.pt (zjo (zat zd8 (pv 3) zal (za3 _)) (ziv (zxg (zum (zy4 hr) (pv 2) (zun (pv 0) (by rfl))) (by with_unfolding_all rfl))))) (zai ze6) zav)))),?_⟩)
 refine zo2 h (by rw[zej (n:=2) (by rintro z kvs ds ⟨rfl,_⟩;rfl) h];decide) fun G Hz a dd ds o hp rt=>?_
 obtain⟨rfl,ho,hnm⟩:=hp
 obtain⟨⟨fs,hf,hl⟩,hn⟩:=id ho
 have hnm:=hnm fs hf
 obtain⟨wd,as⟩:=o
 have hf:zci wd=some fs:=hf
 have hl:as.length=fs.length:=hl
 have at0:atI ((ordW (wd,as)).map D.str) 0=some (.str wd):=zen (j:=0) rfl
 refine znn (fun _ ss=>ss[0]? = some (ksl K ad0.Zaa "books" "rules" a dd)/\ss.length=4) (zpk (EvO.ev (zgl (lo:=some 1) (hi:=none) (zab rfl).l (zco zaf.b) zh9)) (zoa ZF hf (zbe (zab rfl).l zaf.b at0).b)) ⟨rfl,rfl⟩ (fun L' k ss _ hk hI=>?_) fun ss hI=>zz0 hI.1 rt
 obtain⟨h1,h2⟩:=hI
 rw[show(ordW (wd,as)).map D.str= .str wd::as.map D.str from rfl,cut1] at hk ⊢
 rw[Zge,Zge] at hk
 match ss,h2 with
 | [s0,s1,s2,s3],_ =>
  cases h1
  refine⟨_,zgr rfl (zba za5 (zba za5 ze2)),fun N hN=>?_⟩
  rw[zcj as k (by omega),zcj fs k (by omega)]
  refine zb2 (b:=decide (fs.getD k []=za2) && !(valD dd (.str (as.getD k []))).isSome) (zfn (zap (ziu (zab rfl).b (zbg (by decide)).b)) fun _=>zap (ztl rfl Z.Zak Z.Zav (zab rfl).b rfl)) (fun hb=>?_) fun _=>za1 (hN _ ⟨rfl,rfl⟩)
  rw[Zgv] at hb
  rw[hnm k (by omega) (of_decide_eq_true hb.1)] at hb
  exact absurd hb.2 (by decide)
noncomputable def ShOk(b:List Fct):Prop:=b.length<=200 /\ ∀x∈b,(rowF x).length<=100
noncomputable def zyg(x:List Nat×List Fct)(kvs:DD)(ds:List D):Prop:=ds=[.lst [.str zbn,.str x.1]]/\valD kvs (.str x.1)=some (bkD x.2)/\ShOk x.2
theorem zi8(Z:Tx K mg ad0):FnOk P w K mg base CX0 2 ad0.Zam ad0.Zan ["self", "words"] (SpK K ad0.Zaa "books" "rules" zyg (fun x _=>.str (zd9 x.2)) fun _ kvs=>kvs):=by
 have Zfa:=zlo (P:=P) (w:=w) (base:=base) Z
 refine Z.Zc5.ok zfg (fun vs H Q E h=>zej (n:=2) (by rintro z kvs ds ⟨rfl,_⟩;rfl) h) (fun cdv A outer s H vs Q E hr h=>⟨_,(zah (psn 2 zfg.nd (zzi (zy4 hr) (zun (pv 0) (by rfl)) (zbw (show IxR _ (rIxL K) from za0) (pv 1) zag (fun _ _=>rfl)) (fun _ _=>rfl)))
   (zah (zbz (zat zd8 (zbw (show IxR _ (rIxL K) from za0) (pv 1) zag (fun _ _=>rfl)) zal (za3 _)) (zai (zau (pcX Zfa hr Z.Zcu (zaa (pv 2) zae)))) zav)
   zrb)),?_⟩)
 refine zo2 h (by rw[zej (n:=2) (by rintro z kvs ds ⟨rfl,_⟩;rfl) h];decide) fun G Hz a dd ds o hp rt=>?_
 obtain⟨rfl,hv,hs⟩:=hp
 refine zao (zb5 (zzc rfl Z.Zak Z.Zav (zbe (d:=.str o.1) (zab rfl).l zaf.b rfl).b rfl hv) ?_)
 ((try dsimp only);refine zay ?_)
 refine zao (zb2 (b:=decide (zbn=zbn)) (zap (ziu (zbe (d:=.str zbn) (zab rfl).l zaf.b rfl).b (zbg (by decide)).b)) (fun _=>?_) fun hb=>absurd hb (by simp))
 refine zkz (i:=0) (zeq ?_) rfl rt
 rw[<- zey]
 exact zbc (pre:=ya3) (res:=zn7) (zac (zab rfl) zaj) ⟨o.2,rfl,hs⟩
noncomputable def ybh(x:List Nat×List Nat×List Ln)(_:DD)(ds:List D):Prop:=ds=[.lst [.str za2,.str x.1],.lst ((x.2.1::x.2.2.map (·.1)).map D.str)]/\x.2.2.length<=300/\(∀p∈x.2.2,LnOk p)/\(dedF (za8 x.2.2)).length<64
theorem zfd(Z:Tx K mg ad0):FnOk P w K mg base CX0 6 ad0.Zaf ad0.Zag ["self", "words", "rows"] (SpK K ad0.Zaa "books" "rules" ybh (fun x _=>.lst (zf3 x.2.2)) fun _ kvs=>kvs):=by
 have Zfi:=zln (P:=P) (w:=w) (base:=base) Z
 have Zeo:=zjb (P:=P) (w:=w) (base:=base) Z
 refine Z.Zbg.ok zff (fun vs H Q E h=>zej (n:=3) (by rintro z kvs ds ⟨rfl,_⟩;rfl) h) (fun cdv A outer s H vs Q E hr h=>⟨_,(zah (zbz (zat zd8 (zbw (show IxR _ (rIxL K) from za0) (pv 1) zag (fun _ _=>rfl)) zal (za3 _)) (zai (zau (pcX Zfi hr Z.Zcp (zaa (pcX Zeo hr Z.Zb9 (zaa (pv 2) zae)) zae)))) zav)
   zrb),?_⟩)
 refine zo2 h (by rw[zej (n:=3) (by rintro z kvs ds ⟨rfl,_⟩;rfl) h];decide) fun G Hz a dd ds o hp rt=>?_
 obtain⟨rfl,hl,hk,h64⟩:=hp
 refine zao (zb2 (b:=decide (za2=za2)) (zap (ziu (zbe (d:=.str za2) (zab rfl).l zaf.b rfl).b (zbg (by decide)).b)) (fun _=>?_) fun hb=>absurd hb (by simp))
 refine zkz (i:=0) (zeq (EvO.ev ?_)) rfl rt
 have e:za8 (([],none)::o.2.2)=za8 o.2.2:=rfl
 have e2:zf3 (([],none)::o.2.2)=zf3 o.2.2:=by unfold zf3;rw[e]
 rw[<- e2]
 refine zjt (pre:=yci) (res:=zf3) (([],none)::o.2.2) (zac (zbc (pre:=yas) (res:=zxx) (zac (zab rfl) zaj) ⟨_,_,rfl,?_,?_⟩) zaj) ⟨?_,by simp,?_,?_,by rw[e];exact h64⟩
 .rw[Zge];omega
 .intro l hm;obtain⟨p,hp,rfl⟩:=Zg5.mp hm;exact(hk p hp).2.1
 .rw[zml];rfl
 .rw[Zgp];omega
 .intro p hp
  rcases Zgh.mp hp with rfl | hp
  .exact⟨by simp,by simp,by decide +kernel⟩
  .exact hk p hp
theorem zg2(Z:Tx K mg ad0):FnOk P w K mg base CX0 1 ad0.Za1 ad0.Za0 ["self"] (zs2 ad0.Zaa "books" "rules"):=by
 refine Z.Zdi.ok zl3 (fun vs H Q E h=>by obtain⟨x,dx,rfl,_⟩:=h;rfl) (fun cdv A outer s H vs Q E hr h=>⟨_,(zah (zxl (pv 0) zvr (by rfl))
   (zai (zxl (pv 0) (zg0 zae) (by rfl)))),?_⟩)
 obtain⟨x,dx,rfl,hx,hd,q⟩:=h
 intro b hb
 have bx:x≠b:=fun z=>by rw[z,hb] at hx;cases hx
 refine⟨_,rfl,x,ad0.Zaa,dx,[],rfl,(zak bx).trans hx,Z.Zak,Z.Zav,by decide,?_⟩
 refine⟨Zhg _,fun r hr=>?_⟩
 have rx:x≠r:=fun z=>by rw[z,zan] at hr;cases hr
 rw[zak (Zho rx)] at hr
 have rb:r≠b:=fun z=>by rw[z,zan] at hr;cases hr
 rw[zak rb] at hr
 refine⟨_,rfl,x,ad0.Zaa,dx,[("books", .ref b)],rfl,(zak rx).trans zan,Z.Zak,Z.Zc4,(show 1<1000 by decide),?_⟩
 refine q b r _ hb hr (Zho rb) zan ?_ ?_ fun c c1 c2 c3=>?_
 .rw[zak (Zho bx),zak (Zho rb),zak (Zho bx)];exact zan
 .rw[zak (Zho rx)];exact zan
 .rw[zak c1,zak c3,zak c1,zak c2]
theorem zmg{m n1 n2:Str}{u v:V}(h1:(m == n1)=false)(h2:(m == n2)=false):([(n1,u),(n2,v)]:List (Str×V)).lookup m=none:=by simp only[Zi8,h1,h2]
theorem zu8{z:Nat}{ps:List (List Nat)}(h0:ps≠[])(h:∀p∈ps,z∉p):zb8 z (glue [z] ps)=ps:=by
 unfold zb8
 refine ze9 h0 h ?_
 have:∀qs:List (List Nat),qs.length<=(glue [z] qs).length+1:=fun qs=>by
  induction qs with
  | nil=>simp
  | cons a r ih =>
   cases r with
   | nil=>simp
   | cons b r=>simp only[glue,Zg8,Zgp,Zhj] at ih ⊢;omega
 have:=this ps
 omega
noncomputable abbrev Odr:=(List Nat×List (List Nat))×List Ln
noncomputable def txtO(z:Odr):List Nat:=glue [10] (glue [32] (ordW z.1)::z.2.map (·.1))
noncomputable def nmO(z:Odr):List Nat:=z.1.2.getD 0 []
theorem zvw{q:List Nat×List (List Nat)}(h:zi3 q):10∉glue [32] (ordW q):=by
 obtain⟨⟨fs,hf,hl⟩,hn⟩:=h
 have r:=zhc hf
 intro z
 have key:∀ls:List (List Nat),(∀l∈ls,10∉l)->10∉glue [32] ls:=fun ls=>by
  induction ls with
  | nil=>intro _ z;cases z
  | cons a l ih =>
   intro h z
   cases l with
   | nil=>exact h a (by simp) z
   | cons b l =>
    simp only[glue,Zhl] at z
    rcases z with (z | z) | z
    .exact h a (by simp) z
    .revert z;decide
    .exact ih (fun x hx=>h x (Zgi _ hx)) z
 refine key _ (fun l hl=>?_) z
 rcases Zgh.mp hl with rfl | hl
 .exact r.2.2.1
 .exact fun z=>ltsN.2 ((hn l hl).2.2 _ z)
noncomputable def LnS(ls:List Ln):Prop:=ls.length<=300 /\ ∀p∈ls,10∉p.1/\p.1.length<=100
theorem zql{z:Odr}(h:zi3 z.1)(hl:LnS z.2):zb8 10 (txtO z)=glue [32] (ordW z.1)::z.2.map (·.1):=by
 refine zu8 (by simp) fun p hp=>?_
 rcases Zgh.mp hp with rfl | hp
 .exact zvw h
 .obtain⟨q,hq,rfl⟩:=Zg5.mp hp;exact(hl.2 q hq).1
theorem zv6{z:Odr}(h:zi3 z.1)(hl:LnS z.2):(txtO z).length<=100000:=by
 unfold txtO
 have h1:=zhp [10] (glue [32] (ordW z.1)::z.2.map (·.1))
 have h2:=zh2 (ls:=glue [32] (ordW z.1)::z.2.map (·.1)) (n:=100) (by
  intro l hm
  rcases Zgh.mp hm with rfl | hm
  .exact(zsa h).1
  .obtain⟨q,hq,rfl⟩:=Zg5.mp hm;exact(hl.2 q hq).2)
 have h3:=hl.1
 simp only[Zge,Zgp,Zhj] at h1 h2
 omega
theorem zu9{n:List Nat}(h:zbv n):zi3 (za2,[n]):=⟨⟨[newW],show zci za2=_ by decide +kernel,rfl⟩,fun x hx=>by rw[Zgn.mp hx];exact h⟩
theorem zvt{n:List Nat}(h:zbv n):zi3 (zbn,[n]):=⟨⟨[za2],show zci zbn=_ by decide +kernel,rfl⟩,fun x hx=>by rw[Zgn.mp hx];exact h⟩
theorem zzg(n:List Nat)(kvs:DD):NmOk (za2,[n]) kvs:=by
 intro fs hf k hk hb
 have e:zci za2=some [newW]:=by decide +kernel
 have hf:zci za2=some fs:=hf
 rw[e] at hf;cases hf
 obtain rfl:k=0:=by simpa using hk
 exact absurd hb (by decide +kernel)
theorem zz1{n:List Nat}{kvs:DD}(h:(valD kvs (.str n)).isSome=true):NmOk (zbn,[n]) kvs:=by
 intro fs hf k hk hb
 have e:zci zbn=some [za2]:=by decide +kernel
 have hf:zci zbn=some fs:=hf
 rw[e] at hf;cases hf
 obtain rfl:k=0:=by simpa using hk
 exact h
noncomputable def BkO(z:Odr):Prop:=∃n,zbv n/\z.1=(za2,[n])/\(∀p∈z.2,LnOk p)/\(dedF (za8 z.2)).length<64
noncomputable def SwO(z:Odr)(kvs:DD):Prop:=∃n b,zbv n/\z.1=(zbn,[n])/\(∀p∈z.2,zqd p.1)/\valD kvs (.str n)=some (bkD b)/\ShOk b
noncomputable def zjz(z:Odr)(kvs:DD)(ds:List D):Prop:=ds=[.str (txtO z)]/\LnS z.2/\kvs.length<1000/\(BkO z\/SwO z kvs)
noncomputable def okW:List Nat:=("ok" : Str).cps.toList
noncomputable def zgq(z:Odr)(kvs:DD):D:=if z.1.1=zbn then zn7 [(valD kvs (.str (nmO z))).getD .non] else .str okW
noncomputable def zf5(z:Odr)(kvs:DD):DD:=if z.1.1=za2 then putD kvs (.str (nmO z)) (.lst (zf3 z.2)) else kvs
theorem yat:¬ za2=zbn /\ ¬ zbn=za2:=by decide +kernel
theorem znw{z:Odr}{kvs:DD}(h:BkO z):zgq z kvs= .str okW/\zf5 z kvs=putD kvs (.str (nmO z)) (.lst (zf3 z.2)):=by
 obtain⟨n,hn,e,_⟩:=h
 unfold zgq zf5
 rw[e]
 exact⟨if_neg yat.1,if_pos rfl⟩
theorem zuc{z:Odr}{kvs:DD}{b:List Fct}(h:z.1.1=zbn)(hv:valD kvs (.str (nmO z))=some (bkD b)):zgq z kvs= .str (zd9 b)/\zf5 z kvs=kvs:=by
 unfold zgq zf5
 rw[h,hv]
 exact⟨(if_pos rfl).trans (zey b),if_neg yat.2⟩
noncomputable def TKR:List D:=[("book" : Str), "rules", "right"].map fun x=>.str x.cps.toList
noncomputable def ASK:List D:=[("show" : Str), "groups", "loss", "told"].map fun x=>.str x.cps.toList
theorem tkB:D.str za2∈TKR:=Zg5.mpr ⟨"book", by decide +kernel,rfl⟩
theorem askS:D.str zbn∈ASK:=Zg5.mpr ⟨"show", by decide +kernel,rfl⟩
theorem ntk{w:List Nat}(h:w∉[("book" : Str), "rules", "right"].map fun x=>x.cps.toList):D.str w∉TKR:=fun z=>by
 obtain⟨x,hx,e⟩:=Zg5.mp z
 exact h (Zg5.mpr ⟨x,hx,D.str.inj e⟩)
theorem nask{w:List Nat}(h:w∉[("show" : Str), "groups", "loss", "told"].map fun x=>x.cps.toList):D.str w∉ASK:=fun z=>by
 obtain⟨x,hx,e⟩:=Zg5.mp z
 exact h (Zg5.mpr ⟨x,hx,D.str.inj e⟩)
theorem znc(Z:Tx K mg ad0){q:Addr}{kvs:List (Key×V)}(ZF:FormsK P w K mg q kvs):FnOk P w K mg base CX0 7 ad0.Za5 ad0.Za7 ["self", "text"] (SpK K ad0.Zaa "books" "rules" zjz zgq zf5):=by
 have Zfp:FnOk P w K mg base CX0 6 ad0.Zbm ad0.Zbr zcr (SpGO K zzm znk):=(zoc Z ZF).mono (by decide)
 have Zdv:FnOk P w K mg base CX0 6 ad0.Zaj ad0.Zai zax (SpD K zx7 fun _=>.non):=(zem Z).mono (by decide)
 have Zc7:FnOk P w K mg base CX0 6 ad0.Zad ad0.Zae ["self", "words"] (SpK K ad0.Zaa "books" "rules" zv0 (fun _ _=>.non) fun _ kvs=>kvs):=(zfe Z ZF).mono (by decide)
 have Zdx:FnOk P w K mg base CX0 6 ad0.Zam ad0.Zan ["self", "words"] (SpK K ad0.Zaa "books" "rules" zyg (fun x _=>.str (zd9 x.2)) fun _ kvs=>kvs):=(zi8 Z).mono (by decide)
 have Zc8:=zfd (P:=P) (w:=w) (base:=base) Z
 refine Z.Zdo.ok zft (fun vs H Q E h=>zej (n:=2) (by rintro z kvs ds ⟨rfl,_⟩;rfl) h) (fun cdv A outer s H vs Q E hr h=>⟨_,(zah (psn 2 zft.nd (zd5 Zhm Zip Zmx zj8 (pv 1) (zaa zal zae)))
   (zah (psn 3 zft.nd (pcX Zfp hr Z.Zda (zaa (zbw (show IxR _ (rIxL K) from za0) (pv 2) zag (fun _ _=>rfl)) zae)))
   (zah (zbz (zat (show OpR _ _ (rInD K true) from zs6 hr.units) (zbw (show IxR _ (rIxL K) from za0) (pv 3) zag (fun _ _=>rfl)) (zce (v:=.ref ad0.Zar) (by rfl) Z.Zc6 rfl) (by with_unfolding_all rfl)) (zai (zh4 (pcX Zdv hr Z.Zat (zaa (pv 2) (zaa zag zae))))) zav)
   (zah (zh4 (zcz (C:=ad0.Zaa) (pv 0) Z.Zak Z.Za6 Zc7 (hr.mono (by decide)) Z.Zbh .nil zgp (zaa (pv 3) zae)))
   (zah (zbz (zat (show OpR _ _ (rInD K false) from zlw hr.units) (zbw (show IxR _ (rIxL K) from za0) (pv 3) zag (fun _ _=>rfl)) (zce (v:=.ref ad0.Zca) (by rfl) Z.Zd5 rfl) (by with_unfolding_all rfl)) (zai (zau (zcz (C:=ad0.Zaa) (pv 0) Z.Zak Z.Zcn Zdx (hr.mono (by decide)) Z.Zc3 .nil zgp (zaa (pv 3) zae)))) zav)
   (zah (zbz (zat zd8 (zbw (show IxR _ (rIxL K) from za0) (pv 3) zag (fun _ _=>rfl)) zal (za3 _)) zrb (zai (zy5 (zy4 hr) (zun (pv 0) (by rfl)) (zbw (show IxR _ (rIxL K) from za0) (pv 3) zag (fun _ _=>rfl)) (zcz (C:=ad0.Zaa) (pv 0) Z.Zak Z.Za4 Zc8 (hr.mono (by decide)) Z.Zbj .nil zgp (zaa (pv 3) (zaa (pv 2) zae))) rfl)))
   (zai (zau zal)))))))),?_⟩)
 refine zo2 h (by rw[zej (n:=2) (by rintro z kvs ds ⟨rfl,_⟩;rfl) h];decide) fun G Hz a dd ds z hp rt=>?_
 obtain⟨rfl,hl,hd,hz⟩:=hp
 have ho:zi3 z.1:=by
  rcases hz with ⟨n,hn,e,_⟩ | ⟨n,b,hn,e,_⟩
  .rw[e];exact zu9 hn
  .rw[e];exact zvt hn
 have hsp:=zql ho hl
 have htl:=zv6 ho hl
 generalize txtO z=tx at hsp htl
 refine zao (zdq (zgj (zab rfl).b (zaw (l:=[10]) (by decide +kernel) (by decide)).b (by rw[Zgq];omega)) fun p=>zdc (i:=2) rfl ?_)
 ((try dsimp only);refine zay ?_)
 rw[hsp]
 refine zao (zdq (zjt (pre:=zzm) (res:=znk) z.1 (zac (zbe (d:=.str (glue [32] (ordW z.1))) (zab rfl).l zaf.b (zen (j:=0) rfl)) zaj) ⟨rfl,ho⟩) fun p=>zdc (i:=3) rfl ?_)
 ((try dsimp only);refine zay ?_)
 rcases hz with hz | ⟨n,b,hn,e,hb,hv,hs⟩
 .obtain⟨e1,e2⟩:=znw (kvs:=dd) hz
  rw[e1,e2] at rt
  obtain⟨n,hn,e,hk,h64⟩:=hz
  have en:nmO z=n:=by unfold nmO;rw[e];rfl
  rw[en] at rt
  rw[show znk z.1=[.str za2,.str n] by unfold znk;rw[e];rfl]
  refine zao (zb2 (b:=!decide (D.str za2∈TKR)) (zap (zlm (zbe (d:=.str za2) (zab rfl).l zaf.b rfl).b (zf9 Z.Zb8).b rfl (by decide +kernel) (by simp[D.dep]))) (fun hb=>by rw[decide_eq_true tkB] at hb;cases hb) fun _=>za1 ?_)
  ((try dsimp only);refine zay ?_)
  refine zao (zoh (zdr (i:=0) (pre:=zv0) (res:=fun _ _=>.non) (new:=fun _ kvs=>kvs) z.1 rfl (zmg (by decide +kernel) (by decide +kernel)) (zac (zab rfl) zaj) ⟨by rw[e];rfl,ho,by rw[e];exact zzg n dd⟩) ?_)
  ((try dsimp only);refine zay ?_)
  refine zao (zb2 (b:=decide (D.str za2∈ASK)) (zap (zo9 (zbe (d:=.str za2) (zab rfl).l zaf.b rfl).b (zf9 Z.Zdp).b rfl (by decide +kernel) (by simp[D.dep]))) (fun hb=>absurd (of_decide_eq_true hb) (nask (by decide +kernel))) fun _=>za1 ?_)
  ((try dsimp only);refine zay ?_)
  refine zao (zb2 (b:=decide (za2=("rules" : Str).cps.toList)) (zap (ziu (zbe (d:=.str za2) (zab rfl).l zaf.b rfl).b (zbg (by decide)).b)) (fun hb=>absurd hb (by decide +kernel)) fun _=>?_)
  refine zzj (i:=0) (zdr (i:=0) (pre:=ybh) (res:=fun x _=>.lst (zf3 x.2.2)) (new:=fun _ kvs=>kvs) (n,glue [32] (ordW z.1),z.2) rfl (zmg (by decide +kernel) (by decide +kernel)) (zac (zab rfl) (zac (zab rfl) zaj)) ⟨rfl,hl.1,hk,h64⟩) rfl Z.Zak Z.Zav (zbe (d:=.str n) (zab rfl).l zaf.b rfl).b rfl (by rw[Zgq];omega) ?_
  ((try dsimp only);refine zay ?_)
  exact zkz (i:=0) (zeq (zbg (by decide))) rfl rt
 .have en:nmO z=n:=by unfold nmO;rw[e];rfl
  obtain⟨e1,e2⟩:=zuc (z:=z) (kvs:=dd) (b:=b) (by rw[e]) (by rw[en];exact hv)
  rw[e1,e2] at rt
  rw[show znk z.1=[.str zbn,.str n] by unfold znk;rw[e];rfl]
  refine zao (zb2 (b:=!decide (D.str zbn∈TKR)) (zap (zlm (zbe (d:=.str zbn) (zab rfl).l zaf.b rfl).b (zf9 Z.Zb8).b rfl (by decide +kernel) (by simp[D.dep]))) (fun _=>?_) fun hb=>by rw[decide_eq_false (ntk (by decide +kernel))] at hb;cases hb)
  refine zyb (Ev.b (zbc (pre:=zx7) (res:=fun _=>.non) (zac (zab rfl) (zac zaf zaj)) ⟨glue [32] (ordW z.1)::z.2.map (·.1),1,rfl,by decide,fun r hr=>?_⟩)) ?_
  .obtain⟨q,hq,rfl⟩:=Zg5.mp (show r∈z.2.map (·.1) from hr);exact hb q hq
  ((try dsimp only);refine zay ?_)
  refine zao (zoh (zdr (i:=0) (pre:=zv0) (res:=fun _ _=>.non) (new:=fun _ kvs=>kvs) z.1 rfl (zmg (by decide +kernel) (by decide +kernel)) (zac (zab rfl) zaj) ⟨by rw[e];rfl,ho,by rw[e];exact zz1 (by rw[hv];rfl)⟩) ?_)
  ((try dsimp only);refine zay ?_)
  refine zao (zb2 (b:=decide (D.str zbn∈ASK)) (zap (zo9 (zbe (d:=.str zbn) (zab rfl).l zaf.b rfl).b (zf9 Z.Zdp).b rfl (by decide +kernel) (by simp[D.dep]))) (fun _=>?_) fun hb=>by rw[decide_eq_true askS] at hb;cases hb)
  exact zkz (i:=0) (zdr (i:=0) (pre:=zyg) (res:=fun x _=>.str (zd9 x.2)) (new:=fun _ kvs=>kvs) (n,b) rfl (zmg (by decide +kernel) (by decide +kernel)) (zac (zab rfl) zaj) ⟨rfl,hv,hs⟩) rfl rt
noncomputable def lnE(ls:List Ln):List Ln:=if ls=[] then [([],none)] else ls
theorem zym(ls:List Ln):glue [10] ((lnE ls).map (·.1))=txtOf ls:=by
 unfold lnE txtOf
 split
 .rename_i h;rw[h];rfl
 .rfl
theorem ybt(ls:List Ln):(lnE ls).map (·.1)≠[]:=by
 unfold lnE
 split
 .simp
 .simpa
theorem yb2{ls:List Ln}(h:∀p∈ls,LnOk p):∀p∈lnE ls,LnOk p:=by
 unfold lnE
 split
 .intro p hp;rw[Zgn.mp hp];exact⟨by simp,by simp,by decide +kernel⟩
 .exact h
theorem ztx(ls:List Ln):za8 (lnE ls)=za8 ls:=by
 unfold lnE
 split
 .rename_i h;rw[h];rfl
 .rfl
theorem zui(z a:List Nat){r:List (List Nat)}(h:r≠[]):glue z (a::r)=a++z++glue z r:=by
 cases r with
 | nil=>exact absurd rfl h
 | cons b r=>rfl
theorem zeu:(∀c∈za2++[32],c<128) /\ ∀c∈zbn++[32],c<128:=by decide +kernel
theorem zue(wd n:List Nat)(ls:List Ln):txtO ((wd,[n]),lnE ls)=wd++[32]++n++[10]++txtOf ls:=by
 unfold txtO ordW
 rw[zui [10] _ (ybt ls),zym]
 rfl
theorem zhy(wd n:List Nat):txtO ((wd,[n]),[])=wd++[32]++n:=rfl
theorem zwn{fs:List Fct}(hl:fs.length<=60)(h:∀f∈fs,FOk f)(c:Int)(n:List Nat)(hn:zbv n):LnS (lnE (lnsK fs c fs.length))/\BkO ((za2,[n]),lnE (lnsK fs c fs.length))/\zf3 (lnE (lnsK fs c fs.length))=(mkB (dedF fs)).map encF:=by
 obtain⟨h1,h2,h3⟩:=zgn h c fs.length (Zgf _)
 rw[Zov] at h3
 have h4:=yb2 h1
 have h5:=ztx (lnsK fs c fs.length)
 rw[h3] at h5
 refine⟨⟨?_,fun p hp=>⟨(h4 p hp).1,(h4 p hp).2.1⟩⟩,⟨n,hn,rfl,h4,?_⟩,?_⟩
 .unfold lnE;split
  .simp
  .omega
 .show(dedF (za8 (lnE _))).length<64
  rw[h5];have:=zhh fs;omega
 .unfold zf3;rw[h5]
theorem zyv{fs:List Fct}(hl:fs.length<=60)(h:∀f∈fs,FOk f):ShOk (mkB (dedF fs)):=by
 refine⟨by rw[zm3];have:=zhh fs;omega,fun x hx=>?_⟩
 rw[zie,zhq] at hx
 rw[zsh]
 have:=znv (h x hx).1
 omega
theorem zw1{a b:List Fct}(h:∀f,f∈a↔f∈b):mkB (dedF a)=mkB (dedF b):=Bk.ext (ztj (zkg _)) (ztj (zkg _)) fun f=>by rw[zie,zie,zhq,zhq,h]
noncomputable abbrev zqo:R2:=fun x y H Q=>∃i j,x= .str i/\y= .str j/\i.length+j.length<=sizeLine/\Q (.str (i++j)) H
section
variable{G Hz L:Hp}{ss:List Sl}{t t1 t2:TE}
theorem ev_ord(wd:Str)(w0:List Nat)(e0:wd.cps.toList=w0++[32])(h0:∀c∈w0++[32],c<128)(hl:w0.length<=10){n:List Nat}(hn:zbv n)(a:Ev K G Hz L ss t1 (.str n)):Ev K G Hz L ss (tOp zqo (tC (.str wd)) t1) (.str (txtO ((w0,[n]),[]))):=by
 rw[zhy]
 have h:=hn.2.1
 exact zbk (l:=w0++[32]) (zaw (by rw[<- e0];cases wd;rfl) h0).b a.b (by rw[Zgq];simp;omega)
theorem zod(wd:Str)(w0:List Nat)(e0:wd.cps.toList=w0++[32])(h0:∀c∈w0++[32],c<128)(hl:w0.length<=10){n:List Nat}(hn:zbv n){ls:List Ln}(hls:(txtOf ls).length<=100000)(a:Ev K G Hz L ss t1 (.str n))(b:Ev K G Hz L ss t2 (.str (txtOf ls))):Ev K G Hz L ss (tOp zqo (tOp zqo (tOp zqo (tC (.str wd)) t1) (tC (.str "\n"))) t2) (.str (txtO ((w0,[n]),lnE ls))):=by
 rw[zue]
 have h:=hn.2.1
 have h1:=ev_ord wd w0 e0 h0 hl hn a
 rw[zhy] at h1
 exact zbk (zbk h1.b (zaw (l:=[10]) (by decide +kernel) (by decide)).b (by rw[Zgq];simp;omega)).b b.b (by rw[Zgq];simp;omega)
theorem zza(wd:Str)(w0:List Nat)(e0:wd.cps.toList=w0++[32])(h0:∀c∈w0++[32],c<128)(hl:w0.length<=10){n:List Nat}(hn:zbv n)(a:Ev K G Hz L ss t1 (.str n)):Ev K G Hz L ss (tOp zqo (tOp zqo (tC (.str wd)) t1) (tC (.str "\n  "))) (.str (txtO ((w0,[n]),[([32,32],none)]))):=by
 have h:=hn.2.1
 have h1:=ev_ord wd w0 e0 h0 hl hn a
 rw[show txtO ((w0,[n]),[([32,32],none)])=txtO ((w0,[n]),[])++[10,32,32] by unfold txtO;simp[glue]]
 exact zbk h1.b (zaw (l:=[10,32,32]) (by decide +kernel) (by decide)).b (by rw[zhy,Zgq];simp;omega)
theorem rd0:zf3 []=[]:=by
 unfold zf3
 rw[show mkB (dedF (za8 []))=[] from Zqg.mp (by rw[zm3];exact Nat.le_zero.mp (zhh []))];rfl
end
theorem ya2(Z:Tx K mg ad0){q:Addr}{kvs:List (Key×V)}(ZF:FormsK P w K mg q kvs):FnOk P w K mg base CX0 21 ad0.Zes ad0.Zeb zso (zww K):=by
 have Za9:=zi5 (P:=P) (w:=w) (base:=base) Z
 have Zbs:=zih (P:=P) (w:=w) (base:=base) Z
 have Zfr:=zn1 (P:=P) (w:=w) (base:=base) Z
 have Zdt:=zmz (P:=P) (w:=w) (base:=base) Z
 have Zdq:=zm6 (P:=P) (w:=w) (base:=base) Z
 have Zdh:=zmq (P:=P) (w:=w) (base:=base) Z
 have Zf4:=zg2 (P:=P) (w:=w) (base:=base) Z
 have Zd3:=zg2 (P:=P) (w:=w) (base:=base) Z
 have Zah:=znc (P:=P) (w:=w) (base:=base) Z ZF
 refine Z.Zd9.F.ok zgz (fun vs H Q E h=>by obtain⟨a,ns,rfl,_⟩:=h;rfl) (fun cdv A outer s H vs Q E hr h=>⟨_,(zah (zsj (i:=1) zgz.nd rfl (Zue rfl) (pcX Za9 hr Z.Zao (zaa (pv 0) (zaa zag zae))))
   (zah (zsj (i:=2) zgz.nd rfl (Zue rfl) (zar zev zag (zar zcm (pcX Za9 hr Z.Zao (zaa (pv 0) (zaa zag zae))) zag)))
   (zah (zu1 (i:=3) zgz.nd rfl (Zlg rfl) rfl (LcOk.of (Nx:=(["_law_script", "_law_shape", "_law_many", "_law_facts", "_law_few", "_law_one", "_law_other", "_law_desk"]:List Str)) (sc:=zad zup) (N':=(["_law_cell", "_law_shape", "_law_many"]:List Str)) (nt:=1) (cs:=[1,2]) rfl rfl (by decide +kernel)) (zh5 (zda zgo (pv 0) (zd1 zag) (zd1 zag))) (fun _ _ _ _=>(zca (i:=0) (show Zix (["_law_cell", "_law_shape", "_law_many"]:List Str) by decide +kernel) rfl (Zlg rfl))) (fun _ _ _ _=>zdz) (fun _ _ _ _=>(pcX Zfr hr Z.Zdb (zaa (pv 1) (zaa (pv 2) (zaa (pv 0) zae))))))
   (zah (psn 4 zgz.nd (zda zgo (pv 3) zfj (zd1 (zar zcm (zar zcc (pcX Za9 hr Z.Zao (zaa (pv 0) (zaa zag zae))) zag) (zar zev (zbf zb1 (by rfl) Z.Zcs Znv (zaa (pv 3) zae)) zag)))))
   (zah (psn 5 zgz.nd (pcX Zbs hr Z.Zaz (zaa (zar zcc (pv 1) zag) (zaa zag zae))))
   (zah (psn 6 zgz.nd (pcX Zbs hr Z.Zaz (zaa (zar zcc (pv 1) zag) (zaa zag zae))))
   (zah (psn 7 zgz.nd (zwb Z.Zek Zd3 (hr.mono (by decide)) (by rfl) Z.Ze6 Z.Zdg .nil zgp))
   (zah (zbz (zat zja (zcz (C:=ad0.Zaa) (pv 7) Z.Zak Z.Zal Zah (hr.mono (by decide)) Z.Zaq .nil zgp (zaa (zar zam (zar zam (zar zam zal (pv 5)) zal) (pcX Zdq hr Z.Zbq (zaa (pv 4) (zaa (zar zcc (pcX Za9 hr Z.Zao (zaa (pv 0) (zaa zag zae))) zag) zae)))) zae)) zal (za3 _)) (zai (zau zm2)) zav)
   (zah (zbz (zat zja (zcz (C:=ad0.Zaa) (pv 7) Z.Zak Z.Zal Zah (hr.mono (by decide)) Z.Zaq .nil zgp (zaa (zar zam (zar zam (zar zam zal (pv 6)) zal) (pcX Zdq hr Z.Zbq (zaa (zp4 rfl (by rfl) Z.Zey (by rfl) Z.Zdw (zaa (pv 3) zae)) (zaa (zar zcc (pcX Za9 hr Z.Zao (zaa (pv 0) (zaa zag zae))) zag) zae)))) zae)) zal (za3 _)) (zai (zau zm2)) zav)
   (zah (zbz (zat zja (zcz (C:=ad0.Zaa) (pv 7) Z.Zak Z.Zal Zah (hr.mono (by decide)) Z.Zaq .nil zgp (zaa (zar zam zal (pv 5)) zae)) (pcX Zdh hr Z.Zbf (zaa (pcX Zdt hr Z.Zbo (zaa (pv 4) zae)) zae)) (za3 _)) (zai (zau zm2)) zav)
   (zah (zbz (zat zja (zcz (C:=ad0.Zaa) (pv 7) Z.Zak Z.Zal Zah (hr.mono (by decide)) Z.Zaq .nil zgp (zaa (zar zam (zar zam zal (pv 6)) zal) zae)) (pcX Zdh hr Z.Zbf (zaa (pcX Zdt hr Z.Zbo (zaa (pv 3) zae)) zae)) (za3 _)) (zai (zau zm2)) zav)
   (zah (zbz (zat zja (zcz (C:=ad0.Zaa) (pv 7) Z.Zak Z.Zal Zah (hr.mono (by decide)) Z.Zaq .nil zgp (zaa (zar zam (zar zam (zar zam zal (pv 5)) zal) (pcX Zdq hr Z.Zbq (zaa (pv 3) (zaa zag zae)))) zae)) zal (za3 _)) (zai (zau zm2)) zav)
   (zah (zbz (zat zja (zcz (C:=ad0.Zaa) (pv 7) Z.Zak Z.Zal Zah (hr.mono (by decide)) Z.Zaq .nil zgp (zaa (zar zam zal (pv 5)) zae)) (pcX Zdh hr Z.Zbf (zaa (pcX Zdt hr Z.Zbo (zaa (pv 3) zae)) zae)) (za3 _)) (zai (zau zm2)) zav)
   (zai (zau (zpa (zfs zd8 (zcz (C:=ad0.Zaa) (pv 7) Z.Zak Z.Zal Zah (hr.mono (by decide)) Z.Zaq .nil zgp (zaa (zar zam zal (pv 6)) zae)) zal (za3 _)) (zlq (zfs zd8 (zcz (C:=ad0.Zaa) (pv 7) Z.Zak Z.Zal Zah (hr.mono (by decide)) Z.Zaq .nil zgp (zaa (zar zam zal (pv 6)) zae)) zal (za3 _))))))))))))))))))),?_⟩)
 obtain⟨a,ns,rfl,sq,hl,hQ⟩:=h
 have r:Reps K H [.lst (ns.map .int)] [.ref a]:=Reps.cons (Rep.lst sq (zmm ns)) Reps.nil
 have rt:RtD K H H Q (.bl true):=fun v F H' e r=>by rw[r.of_bl];exact hQ H'
 refine(?_:Go K H H H _ (slots 8 [.lst (ns.map .int)]) _) H H _ (zdk (Same.refl H) r (by simp))
 have cell:∀k:Int,∃i,zdy [.lst (ns.map .int),.int k]= .int i:=fun k=>by
  show ∃i,(ns.map D.int).getD k.toNat (.int 0)= .int i
  rw[Zf7,Zgl]
  cases ns[k.toNat]? <;> exact⟨_,rfl⟩
 obtain⟨i0,ei0⟩:=cell 0
 obtain⟨i1,ei1⟩:=cell 1
 have c1:∀{X0:XK} {L0:Hp} {ss:List Sl},ss[0]? = some (.d (.lst (ns.map .int)))->Ev K H H L0 ss (ziw (SpD K zkr zdy) [] X0 (za7 (tVar 0) (za7 (tC (.int 1)) tNil))) (.int i1):=fun h=>by
  rw[<- ei1];exact zbc (pre:=zkr) (res:=zdy) (zac (zab h) (zac zaf zaj)) ⟨ns,1,rfl,by omega⟩
 refine zao (zb5 (d:=.int i0) (by rw[<- ei0];exact zbc (pre:=zkr) (res:=zdy) (zac (zab rfl) (zac zaf zaj)) ⟨ns,0,rfl,by omega⟩) ?_)
 ((try dsimp only);refine zay ?_)
 have m0:=Zg7 i1 (show(6:Int)≠0 by decide)
 have m1:=Zgx i1 (show(0:Int)<6 by decide)
 refine zao (zb5 (d:=.int (1+i1 % 6)) (zes zaf.b (zcn (c1 rfl).b zaf.b (by decide)).b) ?_)
 ((try dsimp only);refine zay ?_)
 let fs:List Fct:=((ns.drop 2).take 40).map fun c=>ziy i0 (1+i1 % 6) c
 have hfl:fs.length<=40:=by show(Zr6 _ _).length<=40;rw[Zge,Zjj];omega
 have hfo:∀f∈fs,FOk f:=fun f hf=>by
  obtain⟨c,_,rfl⟩:=Zg5.mp hf
  have:=zwk i0 (m:=1+i1 % 6) (c:=c) (by omega) (by omega)
  exact⟨this.1,this.2.1⟩
 have es:EvO K H H H [.d (.lst (ns.map .int)),.d (.int i0),.d (.int (1+i1 % 6)),.un,.un,.un,.un,.un] (tSl (rSlL K) (tVar 0) (zp6 (tC (.int 2))) (zp6 (tC (.int 42)))) (((ns.drop 2).take 40).map D.int):=by
  have:=zgl (lo:=some 2) (hi:=some 42) (zab (K:=K) (G:=H) (Hz:=H) (L:=H) (ss:=[.d (.lst (ns.map .int)),.d (.int i0),.d (.int (1+i1 % 6)),.un,.un,.un,.un,.un]) (i:=0) rfl).l (zco zaf.b) (zco zaf.b)
  rw[zv3 _ (by decide) (by decide),<- Zuh,<- Zug] at this
  exact this
 refine zao (zdq (ds:=fs.map encF) (by
  show EvO _ _ _ _ _ _ ((Zr6 _ _).map encF)
  rw[Zii]
  exact zkc ((ns.drop 2).take 40) D.int (fun c=>encF (ziy i0 (1+i1 % 6) c)) es.l (zcl (by decide)) (by decide) (by rw[Zjj,Zgq];omega) fun c hc=>⟨_,za5,zbc (pre:=yab) (res:=ya5) (zac (zab rfl) (zac (zab rfl) (zac (zab rfl) zaj))) ⟨i0,1+i1 % 6,c,rfl,by omega,by omega⟩⟩) fun p=>zdc (i:=3) rfl ?_)
 ((try dsimp only);refine zay ?_)
 generalize fs=fs at hfl hfo
 have k0:=Zg7 (i1 / 6) (show((fs.length:Int)+1)≠0 by omega)
 have k1:=Zgx (i1 / 6) (show(0:Int)<(fs.length:Int)+1 by omega)
 have hln:(((fs.map encF).length:Nat):Int)=(fs.length:Int):=by rw[Zge]
 refine zao (zdq (ds:=(fs.take (i1 / 6 % ((fs.length:Int)+1)).toNat).map encF) (by
  rw[Zug,<- zyh _ k0]
  exact zgl (lo:=none) (hi:=some (i1 / 6 % ((fs.length:Int)+1))) (zab rfl).l zh9 (zco (zcn (zb9 (c1 rfl).b zaf.b ⟨by decide,by decide⟩).b (zes (Ev.b (by rw[<- hln];exact zij (zab rfl).l)) zaf.b).b (by omega)).b)) fun p=>zdc (i:=4) rfl ?_)
 ((try dsimp only);refine zay ?_)
 have hwl:(fs.take (i1 / 6 % ((fs.length:Int)+1)).toNat).length<=60:=by rw[Zjj];omega
 have hwo:∀f∈fs.take (i1 / 6 % ((fs.length:Int)+1)).toNat,FOk f:=fun f hf=>hfo f (Znc hf)
 generalize fs.take (i1 / 6 % ((fs.length:Int)+1)).toNat=fw at hwl hwo
 have hfl:fs.length<=60:=by omega
 refine zao (zb5 (d:=.str (cardQ (i0 / 7) 1)) (zbc (pre:=zps) (res:=zp8) (ds:=[.int (i0 / 7),.int 1]) (zac (zb9 (zab rfl).b zaf.b ⟨by decide,by decide⟩) (zac zaf zaj)) ⟨_,1,rfl,by decide⟩) ?_)
 ((try dsimp only);refine zay ?_)
 refine zao (zb5 (d:=.str (cardQ (i0 / 7) 2)) (zbc (pre:=zps) (res:=zp8) (ds:=[.int (i0 / 7),.int 2]) (zac (zb9 (zab rfl).b zaf.b ⟨by decide,by decide⟩) (zac zaf zaj)) ⟨_,2,rfl,by decide⟩) ?_)
 ((try dsimp only);refine zay ?_)
 have hn1:=zfw (i0 / 7) (k:=1) (by decide)
 have hn2:=zfw (i0 / 7) (k:=2) (by decide)
 have hne:cardQ (i0 / 7) 2≠cardQ (i0 / 7) 1:=fun z=>absurd (zl7 _ z) (by decide)
 generalize cardQ (i0 / 7) 1=n1 at hn1 hne
 generalize cardQ (i0 / 7) 2=n2 at hn2 hne
 refine zao (znh (i:=7) fun dk=>?_)
 ((try dsimp only);refine zay ?_)
 show Go K H H H _ [.d (.lst (ns.map .int)),.d (.int i0),.d (.int (1+i1 % 6)),.d (bkD fs),.d (bkD fw),.d (.str n1),.d (.str n2),ksl K ad0.Zaa "books" "rules" dk []] _
 have ekB:("book " : Str).cps.toList=za2++[32]:=by decide +kernel
 have ekS:("show " : Str).cps.toList=zbn++[32]:=by decide +kernel
 have lB:za2.length<=10:=by decide +kernel
 have lS:zbn.length<=10:=by decide +kernel
 have tl:∀{gs:List Fct},gs.length<=60->(∀f∈gs,FOk f)-> ∀c,(txtOf (lnsK gs c gs.length)).length<=100000:=fun {gs} h1 h2 c=>zrc (zgn h2 c gs.length (Zgf _)).1 (by have:=(zgn h2 c gs.length (Zgf _)).2.1;omega)
 have rows:∀{X0:XK} {L0:Hp} {ss:List Sl} {t0 t1:TE} {gs:List Fct} {c:Int},gs.length<=60->(∀f∈gs,FOk f)->Ev K H H L0 ss t0 (bkD gs)->Ev K H H L0 ss t1 (.int c)->Ev K H H L0 ss (ziw (SpD K zzk zwy) [] X0 (za7 t0 (za7 t1 tNil))) (.str (txtOf (lnsK gs c gs.length))):=fun {X0 L0 ss t0 t1 gs c} h1 h2 a b=>by
  rw[<- zld]
  exact zbc (pre:=zzk) (res:=zwy) (zac a (zac b zaj)) ⟨gs,c,rfl,h1,h2⟩
 have shown:∀{X0 X1:XK} {L0:Hp} {ss:List Sl} {t0:TE} {gs:List Fct},gs.length<=60->(∀f∈gs,FOk f)->Ev K H H L0 ss t0 (bkD gs)->Ev K H H L0 ss (ziw (SpD K zt8 zn7) [] X0 (za7 (ziw (SpO K zzd zvp) [] X1 (za7 t0 tNil)) tNil)) (.str (zd9 (mkB (dedF gs)))):=fun {X0 X1 L0 ss t0 gs} h1 h2 a=>by
  rw[<- zey]
  refine zbc (pre:=zt8) (res:=zn7) (zac (EvO.ev ?_) zaj) ⟨mkB (dedF gs),rfl,zyv h1 h2⟩
  rw[<- zme]
  exact zkh (pre:=zzd) (res:=zvp) (zac a zaj) ⟨gs,rfl,by omega⟩
 have nf:∀{u v:V},([("books", u),("rules", v)]:List (Str×V)).lookup ("say" : Str)=none:=zmg (by decide +kernel) (by decide +kernel)
 have bk:∀{gs:List Fct} (h1:gs.length<=60) (h2:∀f∈gs,FOk f) (c:Int) {n:List Nat} (hn:zbv n) (dd:DD),dd.length<1000->zjz ((za2,[n]),lnE (lnsK gs c gs.length)) dd [.str (txtO ((za2,[n]),lnE (lnsK gs c gs.length)))]/\zgq ((za2,[n]),lnE (lnsK gs c gs.length)) dd= .str okW/\zf5 ((za2,[n]),lnE (lnsK gs c gs.length)) dd=putD dd (.str n) (bkD (mkB (dedF gs))):=fun {gs} h1 h2 c {n} hn dd hd=>by
  obtain⟨q1,q2,q3⟩:=zwn h1 h2 c n hn
  obtain⟨q4,q5⟩:=znw (kvs:=dd) q2
  exact⟨⟨rfl,q1,hd,.inl q2⟩,q4,q5.trans (by rw[show nmO ((za2,[n]),lnE (lnsK gs c gs.length))=n from rfl,q3];rfl)⟩
 have sw:∀{ls:List Ln} (_:LnS ls) (_:∀p∈ls,zqd p.1) {n:List Nat} (hn:zbv n) {b:List Fct} (hb:ShOk b) (dd:DD),dd.length<1000->valD dd (.str n)=some (bkD b)->zjz ((zbn,[n]),ls) dd [.str (txtO ((zbn,[n]),ls))]/\zgq ((zbn,[n]),ls) dd= .str (zd9 b)/\zf5 ((zbn,[n]),ls) dd=dd:=fun {ls} h1 h2 {n} hn {b} hb dd hd hv =>
  ⟨⟨rfl,h1,hd,.inr ⟨n,b,hn,rfl,h2,hv,hb⟩⟩,zuc (z:=((zbn,[n]),ls)) rfl hv⟩
 have sayB:∀{X0:XK} {L0:Hp} {ss:List Sl} {ta:TE} {gs:List Fct} (h1:gs.length<=60) (h2:∀f∈gs,FOk f) (c:Int) {n:List Nat} (hn:zbv n) {dd:DD},dd.length<1000->ss[7]? = some (ksl K ad0.Zaa "books" "rules" dk dd)->Ev K H H L0 ss ta (.str (txtO ((za2,[n]),lnE (lnsK gs c gs.length))))->EvY K H H L0 ss (zsy ad0.Zaa "say" (SpK K ad0.Zaa "books" "rules" zjz zgq zf5) [] X0 (tVar 7) (za7 ta tNil)) (.str okW) (ss.set 7 (ksl K ad0.Zaa "books" "rules" dk (putD dd (.str n) (bkD (mkB (dedF gs)))))):=fun {X0 L0 ss ta gs} h1 h2 c {n} hn {dd} hd hs a=>by
  obtain⟨q1,q2,q3⟩:=bk h1 h2 c hn dd hd
  have:=zdr (X:=X0) (pre:=zjz) (res:=zgq) (new:=zf5) ((za2,[n]),lnE (lnsK gs c gs.length)) hs nf (zac a zaj) q1
  rw[q2,q3] at this
  exact this
 have sayS:∀{X0:XK} {L0:Hp} {ss:List Sl} {ta:TE} {ls:List Ln} (_:LnS ls) (_:∀p∈ls,zqd p.1) {n:List Nat} (hn:zbv n) {b:List Fct} (hb:ShOk b) {dd:DD},dd.length<1000->valD dd (.str n)=some (bkD b)->ss[7]? = some (ksl K ad0.Zaa "books" "rules" dk dd)->Ev K H H L0 ss ta (.str (txtO ((zbn,[n]),ls)))->EvY K H H L0 ss (zsy ad0.Zaa "say" (SpK K ad0.Zaa "books" "rules" zjz zgq zf5) [] X0 (tVar 7) (za7 ta tNil)) (.str (zd9 b)) (ss.set 7 (ksl K ad0.Zaa "books" "rules" dk dd)):=fun {X0 L0 ss ta ls} h1 h2 {n} hn {b} hb {dd} hd hv hs a=>by
  obtain⟨q1,q2,q3⟩:=sw h1 h2 hn hb dd hd hv
  have:=zdr (X:=X0) (pre:=zjz) (res:=zgq) (new:=zf5) ((zbn,[n]),ls) hs nf (zac a zaj) q1
  rw[q2,q3] at this
  exact this
 have sh1:=zyv hwl hwo
 have sh2:=zyv hfl hfo
 have rl:fs.reverse.length<=60:=by rw[Zrj];exact hfl
 have ro:∀f∈fs.reverse,FOk f:=fun f hf=>hfo f (Zmj.mp hf)
 have er:mkB (dedF fs.reverse)=mkB (dedF fs):=zw1 fun f=>Zmj
 have l0:(1:Nat)<=1000:=by decide
 have d1:=zhe [] (.str n1) (bkD (mkB (dedF fw)))
 have sn:∀a b:List Nat,a≠b-> ¬ D.str a=D.str b:=fun a b h z=>h (D.str.inj z)
 have bl2:∀p∈[(([32,32]:List Nat),(none:Option Row))],zqd p.1:=fun p hp=>by rw[Zgn.mp hp];exact⟨by decide +kernel,by decide⟩
 have ls2:LnS [([32,32],none)]:=⟨by decide,fun p hp=>by rw[Zgn.mp hp];exact⟨by decide,by decide⟩⟩
 have ls0:LnS []:=⟨by decide,fun p hp=>by cases hp⟩
 have bl0:∀p∈([]:List Ln),zqd p.1:=fun p hp=>by cases hp
 refine zao (zjp (b:=!decide (okW=okW)) (zgk (sayB hwl hwo (i1 / 60) hn1 (by simp) rfl (zod "book " za2 ekB zeu.1 lB hn1 (tl hwl hwo _) (zab rfl) (rows hwl hwo (zab rfl) (zb9 (c1 rfl).b zaf.b ⟨by decide,by decide⟩)))) (zeq (zbg (by decide)))) (fun hb=>by simp at hb) fun _=>za1 ?_)
 ((try dsimp only);refine zay ?_)
 generalize e1:putD [] (.str n1) (bkD (mkB (dedF fw)))=k1 at d1
 show Go K H H H _ [.d (.lst (ns.map .int)),.d (.int i0),.d (.int (1+i1 % 6)),.d (bkD fs),.d (bkD fw),.d (.str n1),.d (.str n2),ksl K ad0.Zaa "books" "rules" dk k1] _
 have v1:valD k1 (.str n1)=some (bkD (mkB (dedF fw))):=by rw[<- e1,zga,if_pos rfl]
 have d2:=zhe k1 (.str n2) (bkD (mkB (dedF fs.reverse)))
 refine zao (zjp (b:=!decide (okW=okW)) (zgk (sayB rl ro (i1 / 120) hn2 (by simp at d1;omega) rfl (zod "book " za2 ekB zeu.1 lB hn2 (tl rl ro _) (zab rfl) (rows rl ro (EvO.ev (by rw[List.map_reverse];exact znf (zab rfl).l)) (zb9 (c1 rfl).b zaf.b ⟨by decide,by decide⟩)))) (zeq (zbg (by decide)))) (fun hb=>by simp at hb) fun _=>za1 ?_)
 ((try dsimp only);refine zay ?_)
 rw[er] at d2 ⊢
 generalize e2:putD k1 (.str n2) (bkD (mkB (dedF fs)))=k2 at d2
 show Go K H H H _ [.d (.lst (ns.map .int)),.d (.int i0),.d (.int (1+i1 % 6)),.d (bkD fs),.d (bkD fw),.d (.str n1),.d (.str n2),ksl K ad0.Zaa "books" "rules" dk k2] _
 have v2:valD k2 (.str n1)=some (bkD (mkB (dedF fw))):=by rw[<- e2,zga,if_neg (sn _ _ (Zho hne))];exact v1
 have v3:valD k2 (.str n2)=some (bkD (mkB (dedF fs))):=by rw[<- e2,zga,if_pos rfl]
 have dl:k2.length<=2:=by simp at d1;omega
 refine zao (zjp (b:=!decide (zd9 (mkB (dedF fw))=zd9 (mkB (dedF fw)))) (zgk (sayS ls0 bl0 hn1 sh1 (by omega) v2 rfl (ev_ord "show " zbn ekS zeu.2 lS hn1 (zab rfl))) (zeq (shown hwl hwo (zab rfl)))) (fun hb=>by simp at hb) fun _=>za1 ?_)
 ((try dsimp only);refine zay ?_)
 show Go K H H H _ [.d (.lst (ns.map .int)),.d (.int i0),.d (.int (1+i1 % 6)),.d (bkD fs),.d (bkD fw),.d (.str n1),.d (.str n2),ksl K ad0.Zaa "books" "rules" dk k2] _
 refine zao (zjp (b:=!decide (zd9 (mkB (dedF fs))=zd9 (mkB (dedF fs)))) (zgk (sayS ls2 bl2 hn2 sh2 (by omega) v3 rfl (zza "show " zbn ekS zeu.2 lS hn2 (zab rfl))) (zeq (shown hfl hfo (zab rfl)))) (fun hb=>by simp at hb) fun _=>za1 ?_)
 ((try dsimp only);refine zay ?_)
 show Go K H H H _ [.d (.lst (ns.map .int)),.d (.int i0),.d (.int (1+i1 % 6)),.d (bkD fs),.d (bkD fw),.d (.str n1),.d (.str n2),ksl K ad0.Zaa "books" "rules" dk k2] _
 have d3:=zhe k2 (.str n1) (bkD (mkB (dedF fs)))
 refine zao (zjp (b:=!decide (okW=okW)) (zgk (sayB hfl hfo 3 hn1 (by omega) rfl (zod "book " za2 ekB zeu.1 lB hn1 (tl hfl hfo _) (zab rfl) (rows hfl hfo (zab rfl) zaf))) (zeq (zbg (by decide)))) (fun hb=>by simp at hb) fun _=>za1 ?_)
 ((try dsimp only);refine zay ?_)
 generalize e3:putD k2 (.str n1) (bkD (mkB (dedF fs)))=k3 at d3
 show Go K H H H _ [.d (.lst (ns.map .int)),.d (.int i0),.d (.int (1+i1 % 6)),.d (bkD fs),.d (bkD fw),.d (.str n1),.d (.str n2),ksl K ad0.Zaa "books" "rules" dk k3] _
 have v4:valD k3 (.str n1)=some (bkD (mkB (dedF fs))):=by rw[<- e3,zga,if_pos rfl]
 refine zao (zjp (b:=!decide (zd9 (mkB (dedF fs))=zd9 (mkB (dedF fs)))) (zgk (sayS ls0 bl0 hn1 sh2 (by omega) v4 rfl (ev_ord "show " zbn ekS zeu.2 lS hn1 (zab rfl))) (zeq (shown hfl hfo (zab rfl)))) (fun hb=>by simp at hb) fun _=>za1 ?_)
 ((try dsimp only);refine zay ?_)
 show Go K H H H _ [.d (.lst (ns.map .int)),.d (.int i0),.d (.int (1+i1 % 6)),.d (bkD fs),.d (bkD fw),.d (.str n1),.d (.str n2),ksl K ad0.Zaa "books" "rules" dk k3] _
 have hbk:BkO ((za2,[n2]),[]):=⟨n2,hn2,rfl,(fun p hp=>by cases hp),(show(dedF (za8 [])).length<64 by have:=zhh (za8 []);exact Zn7 this (by decide))⟩
 obtain⟨q4,q5⟩:=znw (kvs:=k3) hbk
 have q5:zf5 ((za2,[n2]),[]) k3=putD k3 (.str n2) (bkD []):=by rw[q5,show zf3 ((za2,[n2]),([]:List Ln)).2=[] from rd0];rfl
 have last:∀{X0:XK} {L0:Hp} {ss:List Sl} {ta:TE},ss[7]? = some (ksl K ad0.Zaa "books" "rules" dk k3)->Ev K H H L0 ss ta (.str (txtO ((za2,[n2]),[])))->EvY K H H L0 ss (zsy ad0.Zaa "say" (SpK K ad0.Zaa "books" "rules" zjz zgq zf5) [] X0 (tVar 7) (za7 ta tNil)) (.str okW) (ss.set 7 (ksl K ad0.Zaa "books" "rules" dk (putD k3 (.str n2) (bkD [])))):=fun {X0 L0 ss ta} hs a=>by
  have:=zdr (X:=X0) (pre:=zjz) (res:=zgq) (new:=zf5) ((za2,[n2]),[]) hs nf (zac a zaj) ⟨rfl,ls0,by omega,.inl hbk⟩
  rw[q4,q5] at this
  exact this
 have d4:=zhe k3 (.str n2) (bkD [])
 have v5:valD (putD k3 (.str n2) (bkD [])) (.str n2)=some (bkD []):=by rw[zga,if_pos rfl]
 exact zx4 (d:=.bl (decide (zd9 []=[]))) (zya (zrw (l:=okW) (m:=okW) (last rfl (ev_ord "book " za2 ekB zeu.1 lB hn2 (zab rfl))) (zeq (zbg (by decide)))) (zrw (sayS ls0 bl0 hn2 (b:=[]) ⟨by decide,fun x hx=>by cases hx⟩ (by omega) v5 rfl (ev_ord "show " zbn ekS zeu.2 lS hn2 (zab rfl))) (zeq (zaw (l:=[]) (by decide +kernel) (by decide))))) rt
end
theorem lb1{n:Str}{s:Stmt}{ps:List Str}(hp:ps.length=1)(h:∀(kV doc pm:Zf9) (an:Option Addr) (cdv ct a0:Zf9),Zlw (Zh3 n n (zby s) (zbl s) (zad s) .none kV doc pm an cdv ct) ⟨[a0],[]⟩=pure (ps.zip [a0])):Bd n s ps:=fun kV doc pm an cdv ct us hl=>match us,hl.trans hp with
 | [a0],_=>h kV doc pm an cdv ct a0
theorem lb2{n:Str}{s:Stmt}{ps:List Str}(hp:ps.length=2)(h:∀(kV doc pm:Zf9) (an:Option Addr) (cdv ct a0 a1:Zf9),Zlw (Zh3 n n (zby s) (zbl s) (zad s) .none kV doc pm an cdv ct) ⟨[a0,a1],[]⟩=pure (ps.zip [a0,a1])):Bd n s ps:=fun kV doc pm an cdv ct us hl=>match us,hl.trans hp with
 | [a0,a1],_=>h kV doc pm an cdv ct a0 a1
theorem lb3{n:Str}{s:Stmt}{ps:List Str}(hp:ps.length=3)(h:∀(kV doc pm:Zf9) (an:Option Addr) (cdv ct a0 a1 a2:Zf9),Zlw (Zh3 n n (zby s) (zbl s) (zad s) .none kV doc pm an cdv ct) ⟨[a0,a1,a2],[]⟩=pure (ps.zip [a0,a1,a2])):Bd n s ps:=fun kV doc pm an cdv ct us hl=>match us,hl.trans hp with
 | [a0,a1,a2],_=>h kV doc pm an cdv ct a0 a1 a2
theorem Zfk:Bd "is_name" zep zdo:=lb1 rfl fun _ _ _ _ _ _ _=>rfl
theorem Zfq:Bd "is_sign" zfz zel:=lb1 rfl fun _ _ _ _ _ _ _=>rfl
theorem Zfs:Bd "is_text" zeg zet:=lb1 rfl fun _ _ _ _ _ _ _=>rfl
theorem Ze5:Bd "pair_fact" zdx zcd:=lb3 rfl fun _ _ _ _ _ _ _ _ _=>rfl
theorem Zf2:Bd "tidy" zpg zlr:=lb1 rfl fun _ _ _ _ _ _ _=>rfl
theorem Zea:Bd "is_passed_by" zcf zbx:=lb1 rfl fun _ _ _ _ _ _ _=>rfl
theorem Zez:Bd "told_rows" zc2 zc6:=lb1 rfl fun _ _ _ _ _ _ _=>rfl
theorem Zfo:Bd "fact_of" zf8 zei:=lb1 rfl fun _ _ _ _ _ _ _=>rfl
theorem Zd6:Bd "numbered_fact" zb6 zbo:=lb2 rfl fun _ _ _ _ _ _ _ _=>rfl
theorem Ze2:Bd "read_book" zcv zc5:=lb1 rfl fun _ _ _ _ _ _ _=>rfl
theorem Ze4:Bd "show_book" zcu zc3:=lb1 rfl fun _ _ _ _ _ _ _=>rfl
theorem Ze3:Bd "fits_form" zd6 zcw:=lb2 rfl fun _ _ _ _ _ _ _ _=>rfl
theorem Zfg:Bd "order_of" ze7 zcr:=lb1 rfl fun _ _ _ _ _ _ _=>rfl
theorem Zdk:Bd "refuse_rows_behind" zbj zax:=lb2 rfl fun _ _ _ _ _ _ _ _=>rfl
theorem Zei:Bd "rows_behind" zcp zb3:=lb1 rfl fun _ _ _ _ _ _ _=>rfl
theorem Ze0(kV doc pm:Zf9)(an:Option Addr)(cdv ct:Zf9)(us:List Zf9)(hl:us.length=(["self"]:List Str).length):Zlw (Zh3 "__init__" "Desk.__init__" (zby Zau) (zbl Zau) (zad Zau) .none kV doc pm an cdv ct) ⟨us,[]⟩=pure ((["self"]:List Str).zip us):=match us,hl with
 | [_],_=>rfl
theorem Ze7(kV doc pm:Zf9)(an:Option Addr)(cdv ct:Zf9)(us:List Zf9)(hl:us.length=(["self", "text"]:List Str).length):Zlw (Zh3 "say" "Desk.say" (zby Zaw) (zbl Zaw) (zad Zaw) .none kV doc pm an cdv ct) ⟨us,[]⟩=pure ((["self", "text"]:List Str).zip us):=match us,hl with
 | [_,_],_=>rfl
theorem Zdu(kV doc pm:Zf9)(an:Option Addr)(cdv ct:Zf9)(us:List Zf9)(hl:us.length=(["self", "words"]:List Str).length):Zlw (Zh3 "refuse_names" "Desk.refuse_names" (zby Zac) (zbl Zac) (zad Zac) .none kV doc pm an cdv ct) ⟨us,[]⟩=pure ((["self", "words"]:List Str).zip us):=match us,hl with
 | [_,_],_=>rfl
theorem Zeh(kV doc pm:Zf9)(an:Option Addr)(cdv ct:Zf9)(us:List Zf9)(hl:us.length=(["self", "words"]:List Str).length):Zlw (Zh3 "answer" "Desk.answer" (zby Zap) (zbl Zap) (zad Zap) .none kV doc pm an cdv ct) ⟨us,[]⟩=pure ((["self", "words"]:List Str).zip us):=match us,hl with
 | [_,_],_=>rfl
theorem Zds(kV doc pm:Zf9)(an:Option Addr)(cdv ct:Zf9)(us:List Zf9)(hl:us.length=(["self", "words", "rows"]:List Str).length):Zlw (Zh3 "changed_book" "Desk.changed_book" (zby Zab) (zbl Zab) (zad Zab) .none kV doc pm an cdv ct) ⟨us,[]⟩=pure ((["self", "words", "rows"]:List Str).zip us):=match us,hl with
 | [_,_,_],_=>rfl
theorem Zee:Bd "_law_cell_at" zcq zb7:=lb2 rfl fun _ _ _ _ _ _ _ _=>rfl
theorem Zfd:Bd "_law_card" zfc zct:=lb2 rfl fun _ _ _ _ _ _ _ _=>rfl
theorem Ze9:Bd "_law_text" zdn zdj:=lb2 rfl fun _ _ _ _ _ _ _ _=>rfl
theorem Zex:Bd "_law_great" zdt zc1:=lb1 rfl fun _ _ _ _ _ _ _=>rfl
theorem Ze8:Bd "_law_fact" zfa zdp:=lb3 rfl fun _ _ _ _ _ _ _ _ _=>rfl
theorem Zfc:Bd "_law_book" ze8 zdm:=lb1 rfl fun _ _ _ _ _ _ _=>rfl
theorem Zfe:Bd "_law_rows" ze3 zdg:=lb2 rfl fun _ _ _ _ _ _ _ _=>rfl
theorem Ze1:Bd "_law_shown" zc4 zcy:=lb1 rfl fun _ _ _ _ _ _ _=>rfl
theorem Zfu:Bd "law" zup zso:=lb1 rfl fun _ _ _ _ _ _ _=>rfl
theorem all_mk{l:Zoh}{w:Zhn}{K:Zf6}{mg:Str->Option Zf9}{fa Zaa Zca Zbl Zas Zar Zcc Zc0 Zcx Zbe Zd0 Za2 Zb3 Zcv Zay Zbz Zbx Zbw Zbm Zaj Zba Za1 Za5 Zad Zam Zaf Zbb Zbn Zck Zb6 Zci Zcg Zch Zb5 Zes:Addr}{t_LETTERS t_LONGEST_NAME t_LONGEST_TEXT t_NO_SIGN:Tok}{Zcb Zcy Zcz Zbd Zdz Za3 Zb4 Zcw Zax Zbu Zbv Zb2 Zbr Zai Zbc Za0 Za7 Zae Zan Zag Za8 Zbt Zce Zby Zcf Zcl Zcj Zb1 Zeb:Zjc}(hfa:mg "law" = some (.ref fa))(Ze6:mg "Desk" = some (.ref Zaa))(Zak:Cls K Zaa)(Zek:Mk K Zaa Za1)(Zal:Meth K Zaa "say" Za5)(Zav:zde K Zaa "books")(Zc4:zde K Zaa "rules")(Za6:Meth K Zaa "refuse_names" Zad)(Zcn:Meth K Zaa "answer" Zam)(Za4:Meth K Zaa "changed_book" Zaf)(Zd5:mg "ASKING" = some (.ref Zca))(Zdp:TupK K Zca [[115,104,111,119],[103,114,111,117,112,115],[108,111,115,115],[116,111,108,100]])(Zdn:mg "FIELDS" = some (.ref Zbl))(Zdr:TupK K Zbl [[110,97,109,101],[102,111,114,109,101,114],[119,97,121],[100,97,121],[109,97,114,107]])(Zc2:mg "PAIR_FIELDS" = some (.ref Zas))(Zc1:TupK K Zas [[115,97,109,101],[97,112,97,114,116]])(Zc6:mg "TAKING_ROWS" = some (.ref Zar))(Zb8:TupK K Zar [[98,111,111,107],[114,117,108,101,115],[114,105,103,104,116]])(Zdy:mg "LETTERS" = some (.str (T [97,98,99,100,101,102,103,104,105,106,107,108,109,110,111,112,113,114,115,116,117,118,119,120,121,122]) t_LETTERS))(Zcm:mg "LONGEST_NAME" = some (.int 12 t_LONGEST_NAME))(Zco:mg "LONGEST_TEXT" = some (.int 40 t_LONGEST_TEXT))(Zd2:mg "NO_SIGN" = some (.int 37 t_NO_SIGN))(Zcd:FX K mg "is_name" zep zdo Zcc Zcb)(Zde:FX K mg "is_sign" zfz zel Zc0 Zcy)(Zdc:FX K mg "is_text" zeg zet Zcx Zcz)(Zcq:FX K mg "pair_fact" zdx zcd Zbe Zbd)(Zd8:FX K mg "tidy" zpg zlr Zd0 Zdz)(Zbp:FX K mg "is_passed_by" zcf zbx Za2 Za3)(Zct:FX K mg "told_rows" zc2 zc6 Zb3 Zb4)(Zdd:FX K mg "fact_of" zf8 zei Zcv Zcw)(Zbk:FX K mg "numbered_fact" zb6 zbo Zay Zax)(Zcp:FX K mg "read_book" zcv zc5 Zbz Zbu)(Zcu:FX K mg "show_book" zcu zc3 Zbx Zbv)(Zcr:FX K mg "fits_form" zd6 zcw Zbw Zb2)(Zda:FX K mg "order_of" ze7 zcr Zbm Zbr)(Zat:FX K mg "refuse_rows_behind" zbj zax Zaj Zai)(Zb9:FX K mg "rows_behind" zcp zb3 Zba Zbc)(Zdi:Fun K "__init__" "Desk.__init__" Zau Za1 Za0)(Zdg:zd0 K Za0 ["self"] [])(Zdo:Fun K "say" "Desk.say" Zaw Za5 Za7)(Zaq:zd0 K Za7 ["self", "text"] [])(Zbi:Fun K "refuse_names" "Desk.refuse_names" Zac Zad Zae)(Zbh:zd0 K Zae ["self", "words"] [])(Zc5:Fun K "answer" "Desk.answer" Zap Zam Zan)(Zc3:zd0 K Zan ["self", "words"] [])(Zbg:Fun K "changed_book" "Desk.changed_book" Zab Zaf Zag)(Zbj:zd0 K Zag ["self", "words", "rows"] [])(Zao:FX K mg "_law_cell_at" zcq zb7 Zbb Za8)(Zaz:FX K mg "_law_card" zfc zct Zbn Zbt)(Zc9:FX K mg "_law_text" zdn zdj Zck Zce)(Zb7:FX K mg "_law_great" zdt zc1 Zb6 Zby)(Zdb:FX K mg "_law_fact" zfa zdp Zci Zcf)(Zbo:FX K mg "_law_book" ze8 zdm Zcg Zcl)(Zbq:FX K mg "_law_rows" ze3 zdg Zch Zcj)(Zbf:FX K mg "_law_shown" zc4 zcy Zb5 Zb1)(Zd9:FX K mg "law" zup zso Zes Zeb)(Zew:mg "all" = none)(Zb0:mg "enumerate" = none)(Zd1:mg "isinstance" = none)(Zcs:mg "len" = none)(Zey:mg "list" = none)(Zet:mg "max" = none)(Zev:mg "min" = none)(Zfl:mg "ord" = none)(Zfj:mg "range" = none)(Zdw:mg "reversed" = none)(Zfm:mg "set" = none)(Zdm:mg "sorted" = none)(Zf1:mg "str" = none)(Zec:mg "tuple" = none)(Zeu:mg "zip" = none){q_F:Addr}{kv_F:List (Key×V)}(ZF:FormsK l.prog w K mg q_F kv_F) :
  ∃fd:Zjc,(∀(s:Zgc) (v:Zf9),Zps s fd ⟨[v],[]⟩ [("_law_script", v)]) /\ ∀base:Heap,K.In base->base.Ns Zjs mg->FnOk l.prog w K mg base CX0 21 fa fd ["_law_script"] (zww K):=by
 have e:=hfa.symm.trans Zd9.M
 cases e
 exact⟨_,Zd9.bt Zfu,fun base _ _=>ya2 (ad0:=⟨Zaa,Zca,Zbl,Zas,Zar,Zcc,Zc0,Zcx,Zbe,Zd0,Za2,Zb3,Zcv,Zay,Zbz,Zbx,Zbw,Zbm,Zaj,Zba,Za1,Za5,Zad,Zam,Zaf,Zbb,Zbn,Zck,Zb6,Zci,Zcg,Zch,Zb5,_,_,_,_,_,Zcb,Zcy,Zcz,Zbd,Zdz,Za3,Zb4,Zcw,Zax,Zbu,Zbv,Zb2,Zbr,Zai,Zbc,Za0,Za7,Zae,Zan,Zag,Za8,Zbt,Zce,Zby,Zcf,Zcl,Zcj,Zb1,Zeb⟩) ⟨Ze6,Zak,Zek,Zal,Zav,Zc4,Za6,Zcn,Za4,Zd5,Zdp,Zdn,Zdr,Zc2,Zc1,Zc6,Zb8,Zdy,⟨_,rfl⟩,Zcm,⟨_,rfl⟩,Zco,⟨_,rfl⟩,Zd2,⟨_,rfl⟩,Zcd,Zde,Zdc,Zcq,Zd8,Zbp,Zct,Zdd,Zbk,Zcp,Zcu,Zcr,Zda,Zat,Zb9,Zdi,Zdg,Zdo,Zaq,Zbi,Zbh,Zc5,Zc3,Zbg,Zbj,Zao,Zaz,Zc9,Zb7,Zdb,Zbo,Zbq,Zbf,Zd9,Zew,Zb0,Zd1,Zcs,Zey,Zet,Zev,Zfl,Zfj,Zdw,Zfm,Zdm,Zf1,Zec,Zeu⟩ ZF⟩
theorem Zfw{K:Zf6}{q_ASKING:Addr}{od_ASKING:Option Addr}{nn_ASKING:Nat}{sl_ASKING:Array (Option Zf9)}{t0_ASKING t1_ASKING t2_ASKING t3_ASKING:Tok}(l_ASKING:K.lookup q_ASKING=some ⟨.type "tuple", od_ASKING,.seq #[.str (T [115,104,111,119]) t0_ASKING,.str (T [103,114,111,117,112,115]) t1_ASKING,.str (T [108,111,115,115]) t2_ASKING,.str (T [116,111,108,100]) t3_ASKING] nn_ASKING,sl_ASKING⟩):TupK K q_ASKING [[115,104,111,119],[103,114,111,117,112,115],[108,111,115,115],[116,111,108,100]]:=zfp l_ASKING rfl rfl rfl (by decide) (by decide) (fun i l u h1 h2=>by rcases i with _ | _ | _ | _ | i <;> simp at h1 h2 <;> (subst h1;subst h2;exact⟨_,rfl⟩))
theorem Zfz{K:Zf6}{q_FIELDS:Addr}{od_FIELDS:Option Addr}{nn_FIELDS:Nat}{sl_FIELDS:Array (Option Zf9)}{t0_FIELDS t1_FIELDS t2_FIELDS t3_FIELDS t4_FIELDS:Tok}(l_FIELDS:K.lookup q_FIELDS=some ⟨.type "tuple", od_FIELDS,.seq #[.str (T [110,97,109,101]) t0_FIELDS,.str (T [102,111,114,109,101,114]) t1_FIELDS,.str (T [119,97,121]) t2_FIELDS,.str (T [100,97,121]) t3_FIELDS,.str (T [109,97,114,107]) t4_FIELDS] nn_FIELDS,sl_FIELDS⟩):TupK K q_FIELDS [[110,97,109,101],[102,111,114,109,101,114],[119,97,121],[100,97,121],[109,97,114,107]]:=zfp l_FIELDS rfl rfl rfl (by decide) (by decide) (fun i l u h1 h2=>by rcases i with _ | _ | _ | _ | _ | i <;> simp at h1 h2 <;> (subst h1;subst h2;exact⟨_,rfl⟩))
theorem Zeg{K:Zf6}{q_PAIR_FIELDS:Addr}{od_PAIR_FIELDS:Option Addr}{nn_PAIR_FIELDS:Nat}{sl_PAIR_FIELDS:Array (Option Zf9)}{t0_PAIR_FIELDS t1_PAIR_FIELDS:Tok}(l_PAIR_FIELDS:K.lookup q_PAIR_FIELDS=some ⟨.type "tuple", od_PAIR_FIELDS,.seq #[.str (T [115,97,109,101]) t0_PAIR_FIELDS,.str (T [97,112,97,114,116]) t1_PAIR_FIELDS] nn_PAIR_FIELDS,sl_PAIR_FIELDS⟩):TupK K q_PAIR_FIELDS [[115,97,109,101],[97,112,97,114,116]]:=zfp l_PAIR_FIELDS rfl rfl rfl (by decide) (by decide) (fun i l u h1 h2=>by rcases i with _ | _ | i <;> simp at h1 h2 <;> (subst h1;subst h2;exact⟨_,rfl⟩))
theorem Zed{K:Zf6}{q_TAKING_ROWS:Addr}{od_TAKING_ROWS:Option Addr}{nn_TAKING_ROWS:Nat}{sl_TAKING_ROWS:Array (Option Zf9)}{t0_TAKING_ROWS t1_TAKING_ROWS t2_TAKING_ROWS:Tok}(l_TAKING_ROWS:K.lookup q_TAKING_ROWS=some ⟨.type "tuple", od_TAKING_ROWS,.seq #[.str (T [98,111,111,107]) t0_TAKING_ROWS,.str (T [114,117,108,101,115]) t1_TAKING_ROWS,.str (T [114,105,103,104,116]) t2_TAKING_ROWS] nn_TAKING_ROWS,sl_TAKING_ROWS⟩):TupK K q_TAKING_ROWS [[98,111,111,107],[114,117,108,101,115],[114,105,103,104,116]]:=zfp l_TAKING_ROWS rfl rfl rfl (by decide) (by decide) (fun i l u h1 h2=>by rcases i with _ | _ | _ | i <;> simp at h1 h2 <;> (subst h1;subst h2;exact⟨_,rfl⟩))
theorem Zer{K:Zf6}{q:Addr}{od:Option Addr}{nn:Nat}{sl:Array (Option Zf9)}{t0:Tok}(l:K.lookup q=some ⟨.type "tuple", od,.seq #[.str (T [110,101,119]) t0] nn,sl⟩):TupK K q [[110,101,119]]:=zfp l rfl rfl rfl (by decide) (by decide) (fun i l u h1 h2=>by rcases i with _ | i <;> simp at h1 h2 <;> (subst h1;subst h2;exact⟨_,rfl⟩))
theorem Zeq{K:Zf6}{q:Addr}{od:Option Addr}{nn:Nat}{sl:Array (Option Zf9)}{t0:Tok}(l:K.lookup q=some ⟨.type "tuple", od,.seq #[.str (T [98,111,111,107]) t0] nn,sl⟩):TupK K q [[98,111,111,107]]:=zfp l rfl rfl rfl (by decide) (by decide) (fun i l u h1 h2=>by rcases i with _ | i <;> simp at h1 h2 <;> (subst h1;subst h2;exact⟨_,rfl⟩))
theorem Zep{K:Zf6}{q:Addr}{od:Option Addr}{nn:Nat}{sl:Array (Option Zf9)}{t0 t1 t2 t3:Tok}(l:K.lookup q=some ⟨.type "tuple", od,.seq #[.str (T [110,101,119]) t0,.str (T [98,111,111,107]) t1,.str (T [98,111,111,107]) t2,.str (T [98,111,111,107]) t3] nn,sl⟩):TupK K q [[110,101,119],[98,111,111,107],[98,111,111,107],[98,111,111,107]]:=zfp l rfl rfl rfl (by decide) (by decide) (fun i l u h1 h2=>by rcases i with _ | _ | _ | _ | i <;> simp at h1 h2 <;> (subst h1;subst h2;exact⟨_,rfl⟩))
theorem fk_FORMS{P:Zgy}{w:Zhn}{K:Zf6}{mg:Str->Option Zf9}{q:Addr}{ep:Nat}{t0 t1 t2 t3 t4 t5 t6 t7 t8 t9 t10:Tok}{b0 b1 b2 b3 b4 b5 b6 b7 b8 b9 b10:Addr}(a:mg "FORMS" = some (.ref q))(l:K.lookup q=some ⟨.type "dict", none,.dict #[⟨keyH w (.inr (T [98,111,111,107])),.str (T [98,111,111,107]) t0,.ref b0⟩,⟨keyH w (.inr (T [114,117,108,101,115])),.str (T [114,117,108,101,115]) t1,.ref b1⟩,⟨keyH w (.inr (T [115,104,111,119])),.str (T [115,104,111,119]) t2,.ref b2⟩,⟨keyH w (.inr (T [112,111,117,114])),.str (T [112,111,117,114]) t3,.ref b3⟩,⟨keyH w (.inr (T [103,114,111,117,112,115])),.str (T [103,114,111,117,112,115]) t4,.ref b4⟩,⟨keyH w (.inr (T [108,111,115,115])),.str (T [108,111,115,115]) t5,.ref b5⟩,⟨keyH w (.inr (T [116,111,108,100])),.str (T [116,111,108,100]) t6,.ref b6⟩,⟨keyH w (.inr (T [104,111,108,100])),.str (T [104,111,108,100]) t7,.ref b7⟩,⟨keyH w (.inr (T [112,97,114,116])),.str (T [112,97,114,116]) t8,.ref b8⟩,⟨keyH w (.inr (T [102,114,101,101])),.str (T [102,114,101,101]) t9,.ref b9⟩,⟨keyH w (.inr (T [114,105,103,104,116])),.str (T [114,105,103,104,116]) t10,.ref b10⟩] ep,#[]⟩)(hq:(q == Zj3)=false)(k_book:TupK K b0 [[110,101,119]])(k_show:TupK K b2 [[98,111,111,107]])(k_pour:TupK K b3 [[110,101,119],[98,111,111,107],[98,111,111,107],[98,111,111,107]]):FormsK P w K mg q [(.inr (T [98,111,111,107]),.ref b0),(.inr (T [114,117,108,101,115]),.ref b1),(.inr (T [115,104,111,119]),.ref b2),(.inr (T [112,111,117,114]),.ref b3),(.inr (T [103,114,111,117,112,115]),.ref b4),(.inr (T [108,111,115,115]),.ref b5),(.inr (T [116,111,108,100]),.ref b6),(.inr (T [104,111,108,100]),.ref b7),(.inr (T [112,97,114,116]),.ref b8),(.inr (T [102,114,101,101]),.ref b9),(.inr (T [114,105,103,104,116]),.ref b10)] :=
 ⟨a,zx6 [(T [98,111,111,107],t0,b0),(T [114,117,108,101,115],t1,b1),(T [115,104,111,119],t2,b2),(T [112,111,117,114],t3,b3),(T [103,114,111,117,112,115],t4,b4),(T [108,111,115,115],t5,b5),(T [116,111,108,100],t6,b6),(T [104,111,108,100],t7,b7),(T [112,97,114,116],t8,b8),(T [102,114,101,101],t9,b9),(T [114,105,103,104,116],t10,b10)] l hq (show([T [98,111,111,107],T [114,117,108,101,115],T [115,104,111,119],T [112,111,117,114],T [103,114,111,117,112,115],T [108,111,115,115],T [116,111,108,100],T [104,111,108,100],T [112,97,114,116],T [102,114,101,101],T [114,105,103,104,116]]:List Str).Nodup by decide +kernel),zvd (h_book:=⟨b0,rfl,k_book⟩) (h_show:=⟨b2,rfl,k_show⟩) (h_pour:=⟨b3,rfl,k_pour⟩)⟩
theorem walk{l:Zoh}{q:Zgy}{loose:List Str}{XP:(Str->Option Zf9)->Heap->Prop}{YP:Zhn->Heap->Prop}{d:DefRec}{K:Params->Zf6}(hn:l.most=some 63)(hdf:d.params.defaults=[])
  (hY:∀(w:Zhn) (h:Heap),YP w h->(K w.params).In h)
  (F:∀(w:Zhn) (mg:Str->Option Zf9) (fa:Addr) (h:Heap),(K w.params).In h->h.Ns Zjs mg->mg d.name=some (.ref fa) ->
   ∃fd:Zjc,(∀(s:Zgc) (u:Zf9),Zps s fd ⟨[u],[]⟩ [("_law_script", u)]) /\ ∀base:Heap,(K w.params).In base->base.Ns Zjs mg->FnOk l.prog w (K w.params) mg base CX0 21 fa fd ["_law_script"] (zww (K w.params))) :
  Zsu q loose XP YP l.row.toRowW d [] (fun f vs=>Zr1 f vs) :=
 L2.walk_of (n:=63) (k:=21) (x:="_law_script") (CX:=fun _=>CX0) (sp:=fun w=>zww (K w.params)) hn (by decide) hdf ⟨rfl,by decide,by decide,rfl⟩ hY F (fun _ _ a ns hl _ hS=>⟨a,ns,rfl,hS,hl,fun _=>rfl⟩) fun _ _ _ _ _ z=>z
end My
namespace PySem.W.Fast
noncomputable def tw17652958130003683260:Unit:=()
noncomputable def tw13833453028710316756:Unit:=()
noncomputable def tw18146866667496744524:Unit:=()
noncomputable def tw6718005323647721516:Unit:=()
noncomputable def tw15627552550519271542:Unit:=()
noncomputable def tw3024686816169521478:Unit:=()
noncomputable def tw17306186315321928030:Unit:=()
noncomputable def tw2410214135322594885:Unit:=()
noncomputable def tw4982871711000170190:Unit:=()
noncomputable def tw9652164897396725244:Unit:=()
noncomputable def tw16850621192260470528:Unit:=()
noncomputable def tw7965000576688940670:Unit:=()
noncomputable def tw7899766854063723011:Unit:=()
noncomputable def tw12176094627105851:Unit:=()
noncomputable def tw4169107306567020474:Unit:=()
noncomputable def tw11379019894122660938:Unit:=()
noncomputable def tw13382560603784890265:Unit:=()
noncomputable def tw497309980643369680:Unit:=()
noncomputable def tw5258759087707617855:Unit:=()
noncomputable def tw15119911343121823764:Unit:=()
noncomputable def tw1796587773996271294:Unit:=()
noncomputable def tw5295647786393827204:Unit:=()
noncomputable def tw174507883343809173:Unit:=()
noncomputable def tw9802429526447617538:Unit:=()
noncomputable def tw10755465818091100896:Unit:=()
noncomputable def tw13976337289492895389:Unit:=()
noncomputable def tw10794934069550828420:Unit:=()
noncomputable def tw15809473860440610057:Unit:=()
noncomputable def tw1720998085357692836:Unit:=()
noncomputable def tw7166962433623285456:Unit:=()
noncomputable def tw8364707655611135771:Unit:=()
noncomputable def tw73388976429965497:Unit:=()
noncomputable def tw120998087016478852:Unit:=()
noncomputable def tw1455967211028234913:Unit:=()
noncomputable def tw9516192157535817902:Unit:=()
noncomputable def tw16116999505136783883:Unit:=()
noncomputable def tw7330728442044978471:Unit:=()
noncomputable def tw13311039092199705703:Unit:=()
noncomputable def tw5375833962330314486:Unit:=()
noncomputable def tw1607373297878866181:Unit:=()
noncomputable def tw12224754349426455788:Unit:=()
noncomputable def tw4153373104152161815:Unit:=()
noncomputable def tw2978578686218123768:Unit:=()
noncomputable def tw8358535569075346945:Unit:=()
noncomputable def tw5548023095796252359:Unit:=()
noncomputable def tw2300298448393014876:Unit:=()
noncomputable def tw14846025423319002761:Unit:=()
noncomputable def tw624395755530032136:Unit:=()
noncomputable def tw16424007838087228125:Unit:=()
noncomputable def tw12055337626791298681:Unit:=()
noncomputable def tw6324440077644661275:Unit:=()
noncomputable def tw6385237983134528110:Unit:=()
noncomputable def tw11117626239893974072:Unit:=()
noncomputable def tw5650382073988181645:Unit:=()
noncomputable def tw5346495365782684017:Unit:=()
noncomputable def tw2677920262100293654:Unit:=()
noncomputable def tw9854492640634393521:Unit:=()
noncomputable def tw14960146030087688248:Unit:=()
noncomputable def tw6364903402911097542:Unit:=()
noncomputable def tw4714215836287088442:Unit:=()
noncomputable def tw10722709966434963972:Unit:=()
noncomputable def tw10539837236518260775:Unit:=()
noncomputable def tw6890159823303747764:Unit:=()
noncomputable def tw845162121889193713:Unit:=()
noncomputable def tw15575409077830174178:Unit:=()
noncomputable def tw18000354798583163011:Unit:=()
noncomputable def tw13328381173393363405:Unit:=()
noncomputable def tw701201325540107530:Unit:=()
noncomputable def tw2027632640974024377:Unit:=()
noncomputable def tw2614689427571979291:Unit:=()
noncomputable def tw13473783976693555238:Unit:=()
noncomputable def tw14416101037657524573:Unit:=()
noncomputable def tw14954635160501900660:Unit:=()
noncomputable def tw4970114341590616536:Unit:=()
noncomputable def tw8802078337604751913:Unit:=()
noncomputable def tw887398001473730051:Unit:=()
noncomputable def tw16052833970883313530:Unit:=()
noncomputable def tw9018165495623973932:Unit:=()
noncomputable def tw11922286031681709438:Unit:=()
noncomputable def tw5427489295715165795:Unit:=()
noncomputable def tw13254855947409854402:Unit:=()
noncomputable def tw5694267434630677280:Unit:=()
noncomputable def tw14708820608310122294:Unit:=()
end PySem.W.Fast
open PySem PySem.W PyProof.Rows
set_option maxRecDepth 100000 in
set_option maxHeartbeats 0 in
theorem PySem.Challenge.cw_folk_k51_books_at_a_desk_holds : PySem.Challenge.rw_folk_k51_books_at_a_desk.Holds := by
 w_on;o_law;k_head;(case hw=>w_witness2)
 k_fill
 refine My.walk (l:=Zlb) rfl rfl (fun w h Y=>PySem.W.km_in_of Y) ?F
 case F =>
  intro w mg fa h KX G hmg
  refine' My.all_mk hmg (mg_of KX G ?a_Desk) ⟨?cl0_Desk,?cl1_Desk,?cl2_Desk,?cl3_Desk⟩ ⟨?mk_Desk,?me_Desk_init,?mf15,?mc_Desk⟩ ⟨?me_Desk_say,?mf16,?k16⟩ ((show Zic _ _ _=some none from ?na_Desk_books)) ((show Zic _ _ _=some none from ?na_Desk_rules)) ⟨?me_Desk_refuse_names,?mf17,?k17⟩ ⟨?me_Desk_answer,?mf18,?k18⟩ ⟨?me_Desk_changed_book,?mf19,?k19⟩ (mg_of KX G ?a_ASKING) (My.Zfw ?l_ASKING) (mg_of KX G ?a_FIELDS) (My.Zfz ?l_FIELDS) (mg_of KX G ?a_PAIR_FIELDS) (My.Zeg ?l_PAIR_FIELDS) (mg_of KX G ?a_TAKING_ROWS) (My.Zed ?l_TAKING_ROWS) (mg_of KX G ?a_LETTERS) (mg_of KX G ?a_LONGEST_NAME) (mg_of KX G ?a_LONGEST_TEXT) (mg_of KX G ?a_NO_SIGN) (L2.fx_mk KX G My.Zfk ?a0 ?l0 ?c0 ?k0) (L2.fx_mk KX G My.Zfq ?a1 ?l1 ?c1 ?k1) (L2.fx_mk KX G My.Zfs ?a2 ?l2 ?c2 ?k2) (L2.fx_mk KX G My.Ze5 ?a3 ?l3 ?c3 ?k3) (L2.fx_mk KX G My.Zf2 ?a4 ?l4 ?c4 ?k4) (L2.fx_mk KX G My.Zea ?a5 ?l5 ?c5 ?k5) (L2.fx_mk KX G My.Zez ?a6 ?l6 ?c6 ?k6) (L2.fx_mk KX G My.Zfo ?a7 ?l7 ?c7 ?k7) (L2.fx_mk KX G My.Zd6 ?a8 ?l8 ?c8 ?k8) (L2.fx_mk KX G My.Ze2 ?a9 ?l9 ?c9 ?k9) (L2.fx_mk KX G My.Ze4 ?a10 ?l10 ?c10 ?k10) (L2.fx_mk KX G My.Ze3 ?a11 ?l11 ?c11 ?k11) (L2.fx_mk KX G My.Zfg ?a12 ?l12 ?c12 ?k12) (L2.fx_mk KX G My.Zdk ?a13 ?l13 ?c13 ?k13) (L2.fx_mk KX G My.Zei ?a14 ?l14 ?c14 ?k14) (L2.fun_mk (st:=My.Zau) ?l15 ?c15 ?k15) ((L2.fun_mk (st:=My.Zau) ?l15 ?c15 ?k15).binds My.Ze0) (L2.fun_mk (st:=My.Zaw) ?l16 ?c16 ?k16) ((L2.fun_mk (st:=My.Zaw) ?l16 ?c16 ?k16).binds My.Ze7) (L2.fun_mk (st:=My.Zac) ?l17 ?c17 ?k17) ((L2.fun_mk (st:=My.Zac) ?l17 ?c17 ?k17).binds My.Zdu) (L2.fun_mk (st:=My.Zap) ?l18 ?c18 ?k18) ((L2.fun_mk (st:=My.Zap) ?l18 ?c18 ?k18).binds My.Zeh) (L2.fun_mk (st:=My.Zab) ?l19 ?c19 ?k19) ((L2.fun_mk (st:=My.Zab) ?l19 ?c19 ?k19).binds My.Zds) (L2.fx_mk KX G My.Zee ?a20 ?l20 ?c20 ?k20) (L2.fx_mk KX G My.Zfd ?a21 ?l21 ?c21 ?k21) (L2.fx_mk KX G My.Ze9 ?a22 ?l22 ?c22 ?k22) (L2.fx_mk KX G My.Zex ?a23 ?l23 ?c23 ?k23) (L2.fx_mk KX G My.Ze8 ?a24 ?l24 ?c24 ?k24) (L2.fx_mk KX G My.Zfc ?a25 ?l25 ?c25 ?k25) (L2.fx_mk KX G My.Zfe ?a26 ?l26 ?c26 ?k26) (L2.fx_mk KX G My.Ze1 ?a27 ?l27 ?c27 ?k27) (L2.fx_mk KX G My.Zfu ?a28 ?l28 ?c28 ?k28) (mg_none_of KX G ?y_all) (mg_none_of KX G ?y_enumerate) (mg_none_of KX G ?y_isinstance) (mg_none_of KX G ?y_len) (mg_none_of KX G ?y_list) (mg_none_of KX G ?y_max) (mg_none_of KX G ?y_min) (mg_none_of KX G ?y_ord) (mg_none_of KX G ?y_range) (mg_none_of KX G ?y_reversed) (mg_none_of KX G ?y_set) (mg_none_of KX G ?y_sorted) (mg_none_of KX G ?y_str) (mg_none_of KX G ?y_tuple) (mg_none_of KX G ?y_zip) (My.fk_FORMS (mg_of KX G ?a_FORMS) ?l_FORMS ?hq_FORMS (My.Zer ?l_FORMS_book) (My.Zeq ?l_FORMS_show) (My.Zep ?l_FORMS_pour))
  (case a_FORMS | a_Desk | me_Desk_init | me_Desk_say | me_Desk_refuse_names | me_Desk_answer | me_Desk_changed_book | a_ASKING | a_FIELDS | a_PAIR_FIELDS | a_TAKING_ROWS | a_LETTERS | a_LONGEST_NAME | a_LONGEST_TEXT | a_NO_SIGN | a0 | l0 | c0 | k0 | a1 | l1 | c1 | k1 | a2 | l2 | c2 | k2 | a3 | l3 | c3 | k3 | a4 | l4 | c4 | k4 | a5 | l5 | c5 | k5 | a6 | l6 | c6 | k6 | a7 | l7 | c7 | k7 | a8 | l8 | c8 | k8 | a9 | l9 | c9 | k9 | a10 | l10 | c10 | k10 | a11 | l11 | c11 | k11 | a12 | l12 | c12 | k12 | a13 | l13 | c13 | k13 | a14 | l14 | c14 | k14 | l15 | c15 | k15 | mf15 | l16 | c16 | k16 | mf16 | l17 | c17 | k17 | mf17 | l18 | c18 | k18 | mf18 | l19 | c19 | k19 | mf19 | a20 | l20 | c20 | k20 | a21 | l21 | c21 | k21 | a22 | l22 | c22 | k22 | a23 | l23 | c23 | k23 | a24 | l24 | c24 | k24 | a25 | l25 | c25 | k25 | a26 | l26 | c26 | k26 | a27 | l27 | c27 | k27 | a28 | l28 | c28 | k28 | l_FORMS | l_FORMS_book | l_FORMS_show | l_FORMS_pour=>k_is)
  (case hq_FORMS=>rfl)
  (case cl0_Desk | cl1_Desk | cl2_Desk | cl3_Desk | mk_Desk | mc_Desk | na_Desk_books | na_Desk_rules | l_ASKING | l_FIELDS | l_PAIR_FIELDS | l_TAKING_ROWS | y_all | y_enumerate | y_isinstance | y_len | y_list | y_max | y_min | y_ord | y_range | y_reversed | y_set | y_sorted | y_str | y_tuple | y_zip=>k_is)
