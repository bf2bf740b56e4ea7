import PyProof.Rows.All
import Wide.All
import OpenK.AllK
import Wide.FinOn
import Lean
import PyProof.EqAt
import PyProof.EqKinds
import PyProof.TupleCall
import KE.KSortTup
import PySem.SetTable
import KE.KDictList
import PyProof.Rows.SeqMore
import PyProof.StrLawsIn
import PyProof.MeetsStr3
import PyProof.Rows.StrSplitMax
import KE.KDictLaws
import PyProof.Rows.CallKwBuiltin
import PyProof.ZipIter
import PyProof.Rows.ZipGen
import PyProof.Rows.StrWeight2
import KE.KDictSum
import KE.KTryMore
import PyProof.Rows.TopTwo
import PyProof.ExcBaseAll.ValueError
import KE.RegKIsAll
import KE.RegKTryMore
import PyProof.ExcAttrAll.ValueError
import PyProof.Rows.StrDouble
import OpenK.KCls
import KE.KIntText
import PyProof.CallStr
import KE.KSortKey
import KE.KMinKey
import KE.KLam
import PySem.Challenge.RW_folk_k24_whole_weights_of_texts
open Array renaming getElem?_eq_getElem → Zl9, getElem?_toList → Zmg, length_toList → Zm4, getD_eq_getD_getElem? → Znr, getElem?_eq_some_iff → Zo8, getD → Zq4, forIn_toList → Zr5, toList_inj → Zss, toList_extract → Zth, mem_toList_iff → Zti, getElem?_replicate → Zv9, getElem?_eq_none → Zwp, toList_push → Zyd, toList_map → Zyo, replicate → Zze, size_map → Zzn
open Array.Perm renaming refl → Zrh
open Bool renaming false_eq_true → Zl5, false_ne_true → Zmc, and_eq_true → Zmd, eq_iff_iff → Zmj, true_and → Zrs, or_eq_true → Zr0, not_true → Zsq, false_or → Zsr, false_and → Ztp, not_eq_true' → Zuj, or_false → Zwo, true_or → Zw4, or_eq_false_iff → Zxh, not_eq_false' → Zyc, not_eq_true → Zzd, not_false → Zz7, and_false → Zz8
open Char renaming toNat → Yct
open Classical renaming byContradiction → Zru, typeDecidableEq → Ydx
open False renaming elim → Zpm
open ForIn renaming forIn → Zx0
open ForInStep renaming yield → Zqj
open Int renaming emod_lt_of_pos → Zmp, emod_nonneg → Znd, toNat_natCast → Zqc, le_refl → Zr3, ofNat → Ztf, natCast_nonneg → Zuc, le_trans → Zu2, le_of_lt → Zu3, ofNat_eq_natCast → Zxs
open List renaming getElem?_eq_getElem → Zlj, getD_eq_getElem?_getD → Zlk, length_map → Zlm, mem_cons_of_mem → Zlp, getElem?_eq_some_iff → Zlq, mem_cons_self → Zls, mem_of_getElem? → Zlv, length_append → Zlw, getElem?_map → Zlx, mem_cons → Zly, mem_singleton → Zlz, map_cons → Zl0, length_cons → Zl1, mem_map → Zl2, range → Zl6, mem_append → Zme, length_drop → Zmo, size_toArray → Zmq, mem_iff_getElem? → Zmr, getElem?_eq_none → Zms, mem_append_right → Zmw, map_map → Zm0, append_nil → Zm1, length_range → Zm2, mem_range → Zm3, length_nil → Zm6, length → Zm7, Nodup → Zm9, mem_map_of_mem → Znb, map_append → Znc, length_singleton → Znf, drop_eq_nil_of_le → Znj, length_take → Znk, getElem_mem → Znl, not_mem_nil → Zno, filterMap_cons_some → Znq, mem_filter → Zns, lookup_cons → Znu, getElem?_append_right → Znx, lookup → Znz, getElem?_set_self → Zn2, nodup_cons → Zn3, getElem?_append_left → Zn4, find?_cons → Zn5, drop_drop → Zn6, getElem?_range → Zn8, filterMap_cons → Zn9, take_add_one → Zob, length_filter_le → Zoc, filter_cons_of_neg → Zoe, ext_getElem? → Zom, dropWhile_cons → Zon, pairwise_iff_getElem → Zoo, any_eq_true → Zow, mem_append_left → Zoy, getElem?_set_ne → Zoz, take_succ_cons → Zo2, range_succ → Zo3, take_of_length_le → Zo4, dropWhile_sublist → Zo5, take_length → Zpc, mem_flatMap → Zpd, cons_lt_cons_iff → Zpg, append_assoc → Zpn, flatMap_append → Zpu, drop_succ_cons → Zpv, filter_cons → Zpx, all_eq_true → Zpy, flatMap_singleton → Zp1, getElem?_drop → Zp2, filter_append → Zp3, map_nil → Zp6, any_cons → Zp9, perm_ext_iff_of_nodup → Zqb, not_lt → Zqm, filterMap_cons_none → Zqo, sum_cons → Zqs, getElem?_replicate → Zqt, filter_cons_of_pos → Zqu, length_pos_of_mem → Zq3, takeWhile_append_dropWhile → Zq6, pairwise_map → Zq7, nodup_nil → Zrd, take_append_drop → Zrf, length_replicate → Zrg, eq_nil_of_length_eq_zero → Zrk, cons_append → Zrl, reverse_reverse → Zro, mem_of_mem_take → Zrp, takeWhile_cons → Zrx, nil_append → Zry, map_congr_left → Zrz, zip_cons_cons → Zr7, mem_filterMap → Zr8, getElem?_take → Zr9, lt_irrefl → Zsd, flatMap_cons → Zsk, range' → Zso, range'_succ → Zsu, mem_reverse → Zsv, range_succ_eq_map → Zsx, forIn_cons → Zs7, mem_of_mem_drop → Ztl, replicate → Ztn, length_pos_iff → Ztr, getElem_of_mem → Zts, pairwise_cons → Zt5, all_cons → Zt6, foldl_append → Zui, toArray → Zuq, eq_nil_iff_forall_not_mem → Zur, le_antisymm → Zu0, exists_mem_of_length_pos → Zu1, of_mem_zip → Zvd, map_id → Zve, length_eraseIdx_of_lt → Zvr, getElem?_zip_eq_some → Zv7, length_filterMap_le → Zwg, length_erase_of_mem → Zwh, getElem?_take_of_lt → Zwi, eq_of_mem_replicate → Zwj, lt_trans → Zwm, length_eq_zero_iff → Zwn, sum_replicate_nat → Zwz, getElem_cons_drop → Zw0, extract → Zw2, range_eq_range' → Zxd, pairwise_append → Zxe, mem_erase_of_ne → Zxf, length_reverse → Zxq, filter_eq_self → Zxr, take_sublist → Zyl, filter_congr → Zym, drop_sublist → Zyn, perm_middle → Zy5, isEmpty_iff → Zy6, getElem_map → Zy7, getElem_inj → Zy8, drop_length → Zy9, map_const' → Zzi, length_set → Zzj, filter_nil → Zzk, filter_map → Zzl, take_zero → Zz0, drop_zero → Zz1, map_drop → Yak, map → Yal, le_trans → Yam, find? → Ycq, drop → Yc9
open List.Pairwise renaming imp_of_mem → Zt7, sublist → Zut, nil → Ybi
open List.Perm renaming swap → Zus, refl → Ydq, eq_of_pairwise → Ydr, cons → Yds, append_left → Ydt
open List.Sublist renaming slnil → Yca, refl → Ycb, append → Ycc
open List.cons renaming injEq → Zol, inj → Zx9
open Nat renaming le_refl → Zlt, ne_of_lt → Zmb, lt_of_lt_of_le → Zmf, zero_le → Zmt, le_trans → Znm, lt_irrefl → Znn, pow_succ → Znt, lt_succ_self → Znv, lt_succ_of_lt → Zo1, lt_or_ge → Zph, le_succ → Zrc, mod_lt → Zrw, zero_add → Zsc, mod_eq_of_lt → Zsw, toDigits → Ztb, ne_of_gt → Ztc, min_eq_left → Ztd, lt_of_le_of_lt → Zua, eq_or_lt_of_le → Zub, lt_trichotomy → Zup, le_of_lt → Zuz, min_eq_right → Zvb, mod_add_div → Zvq, mod_two_eq_zero_or_one → Zv6, mul_le_mul → Zwe, add_mul_mod_self_left → Zwf, sub_self → Zxb, le_of_eq → Zxc, pow_le_pow_right → Zxo, mul_le_mul_right → Zxp, mul_one → Zx7, add_mul → Zx8, lt_of_succ_lt → Zy3, succ_ne_self → Zzg, lt_of_not_le → Zzh, two_pow_pos → Zzy, le_add_left → Zzz, digitChar → Ybh, mul_zero → Yb6, mul_comm → Yb7, lt_trans → Yb8, add_zero → Yb9, mul_add → Ycp
open Ne renaming symm → Zne
open Option renaming isSome_iff_exists → Zpj, getD_some → Zpt, bind_eq_bind → Zw1, isSome_map → Zxn, getD_none → Zx5, bind_some → Zx6, pure_def → Zyk, none → Yaj, map → Ybf
open Option.some renaming inj → Zni
open Or renaming inl → Zo6, inr → Zy2
open PyProof.Rows renaming callWith_type1 → Zq5, envOfC → Ztk, boot_isinstance → Ztz, boot_set → Zt4, boot_sorted → Zuk, AllBare → Zuy, seqObj → Zu5, assignInOrder_cons → Zu9, subscriptTail → Zxu, listUpdate_at → Zxy, arrOf → Zx2, subscriptTail_builtinR → Zyg, seqEpoch_at → Zzp, IntsAre → Zz2, boot_int → Yac, SortKind → Yah, assignInOrder_nil → Ya0, Subscript_ → Ya5, callWith_builtin1 → Yb5, get?_update_seq → Yck, entry_list_sort → Ycl, SortSt → Ycn, slot_list_sort → Ycw, boot_enumerate → Yc2, args_list_sort → Yc3, keyKind' → Yde, failedOf → Ydg, boot_all → Ydk
open PyProof.Rows.F renaming plain_set_update_loop → Zs3, entry_set_update_loop → Zxg
open PyProof.Rows.IsTup renaming new → Ycr
open PyProof.Rows.SortSt renaming mk' → Zxk
open PySem renaming wpAny_bind → Zli, Value → Zll, wpAny_pure → Zln, Shared → Zlo, SetTable → Zlr, sizeLine_eq → Zl7, wpAny → Zl8, model → Zmh, Program → Zmi, starEach → Zmk, Spec → Zmn, Around → Zmu, Builtin → Zmz, NameKind → Zna, World → Zng, wpAny_truthy_bool → Zn0, wpAny_mono → Zn1, wpAny_ite_split → Zoi, keywordEach → Zoj, compareOp → Zop, wpAny_holding → Zos, FuncData → Zot, PassesOwn → Zox, typeIs_str → Zo0, wpAny_newObj_type → Zo7, wpAny_setEntries_of → Zpb, bindArgs → Zpf, backTo → Zpk, PyData → Zpl, mainGlobals → Zpo, mem_of_lookup → Zpp, boot_len → Zps, rawInt → Zp0, wpAny_askSetting → Zp4, Builtin → Zp7, backToKw → Zp8, wpAny_passesOwn → Zqd, codeAny_builtin → Zqe, wpAny_pyIter_list → Zqh, sysModules → Zqi, wpAny_call_entry → Zqq, binaryOp → Zqr, codeAny_mono → Zqx, wpAny_loadPart' → Zq8, wpAny_getItem_str_slice → Zq9, wpAny_Call_Name_kw → Zra, attributeBase → Zrb, wpAny_storeSet_of → Zrm, call_meets → Zrn, wpAny_setField → Zrq, wpAny_forIn_list → Zr1, wpAny_execs_cons → Zr2, cLine → Zr6, IsTupleKey → Zse, wpAny_execs_nil → Zsf, sliceBounds → Zsg, pickOrder → Zsh, tupleKind_room_in1 → Zsm, bootBuiltins → Zsn, wpAny_setEpoch_of → Zsy, wpAny_pyIter_enum → Zsz, swapsWith → Zs0, ofAClassStatement → Zs1, foldedSetIterable → Zs2, wpAny_standAt → Zs8, behindInMarks → Zs9, Keyword → Zte, wpAny_isInstance → Ztj, wpAny_specialOf → Ztv, post_val_or_str → Ztw, letOwnedTupleGo → Ztx, codeAny → Zty, argBest → Zt0, codeAny_call_builtin → Zt8, wpAny_seqItems → Zuf, wpAny_fieldsOf → Zug, carriedByValue → Zuh, tupleKind → Zu4, pyNext → Zu6, plainId_quiet → Zu7, getMethod → Zu8, wpAny_setState_of → Zvg, wpAny_rule → Zvh, wpAny_Assign_Name → Zvi, setsByText → Zvj, assignEach → Zvl, stripped → Zvo, BindsTo → Zvy, sub_set_self → Zvz, setAddHashed → Zv0, callWith → Zwk, valueAt → Zwr, subscripted → Zws, spliced → Zwt, holding → Zwu, codeAny_of_tree → Zwv, callerA → Zww, Within → Zwy, entryFor_alias → Zw5, wpAny_call → Zxj, wpAny_newList → Zxt, standAt → Zxv, setWalkUnseen → Zxw, relayAll → Zxx, getItem → Zxz, assignInOrder → Zx1, call → Zx3, Drawn → Zya, wpAny_pyNext_list_item → Zye, wpAny_Call_method_late → Zyf, wpAny_typeOf → Zyp, wpAny_pyNext_list_end → Zyq, wpAny_isTrue_Compare1 → Zyr, wpAny_eqIsQuiet_tuple → Zys, weight_type_call_type → Zyt, pyIter → Zyu, hashByValue_scannable → Zyv, call_meetsIn → Zyw, builtinLookup_eq_fast → Zyx, Walks → Zyy, Fin → Zy1, Model → Zy4, wpAny_of_eq → Zzo, length_partsBetween → Zzq, hashByValue → Zzr, atKey → Zzs, CmpOp → Zz6, wpAny_pyIter_tuple → Zz9, wpAny_List_spliced → Yaa, entryFor → Yab, bindName → Yad, assign → Yae, argsOk → Yaf, wpAny_pyIter_slot → Yaq, wpAny_assign_Name → Yar, wpAny_Name → Yas, typeLookup → Yat, slot_list_getitem → Yau, searchCouldBeSeen → Yav, richCompare_gives → Yaw, builtinsNs → Yax, bindL → Yay, bindC → Yaz, wpAny_setScan_of → Ybm, wpAny_Dict_empty → Ybn, checkBuiltinCall → Ybo, wpAny_updateSeq → Ycf, typeLookup_type → Ycg, strValues → Ych, setFind → Yci, limitOf → Ycj, cellsFrom → Ycm, Result → Yco, wpAny_runValue → Ycu, wpAny_bindName → Ycv, setAddHashedIn → Ycx, recursionLimit → Ycy, numbered_texts → Ycz, isSubtype_type → Yc0, firstArgMember → Yc1, storeSet → Ydb, signature?_of → Ydc, setSearchFrom → Ydd, intBits_le_64 → Ydf, evalPart_none → Ydh, comprehension → Ydi, compEnvC → Ydj, ReadsAll → Ydm, Reads → Ydn, Operator → Ydp, ExceptHandler → Ydu, Draws → Ydv
open PySem.Around renaming under_plainId → Zqa, in1_units → Zsl, under → Zwq, under_plain → Zxi
open PySem.Builtin.Frozenset renaming unchanged → Zoq, isAnySet → Zou, sizeOf → Zre, intersection → Zsp, baseOf → Ztm, slot1 → Zto, updateFrom → Zzb, newClass → Zzc
open PySem.Builtin.List renaming listTooLong → Zrr, listLengthHint → Ztt, listExtendWith → Ztu, listSameRef → Zue
open PySem.Builtin.Range renaming rangeSize → Ybl
open PySem.Builtin.Str renaming strKind → Zod, strSub → Zs4, occurrences → Zux, tooLong → Zvx
open PySem.Calls renaming spliced_cons → Zpe, callWith_builtin → Zq0, Constant_str → Zr4, evalArgs_plain → Ztg, spliced_nil → Zud, Name_function_global → Zvf, call_function_entry → Zvw
open PySem.Challenge renaming rw_folk_k24_whole_weights_of_texts → Zqz, pw_folk_k24_whole_weights_of_texts → Zzv
open PySem.Code renaming isFrame → Zw3, quiet_builtin → Zyb, frames → Yce
open PySem.DictEntry renaming refKey → Ydw
open PySem.Draws renaming list → Zv8
open PySem.EqMixed renaming ne_str_int → Ya7, ne_str_bool → Ya8, ne_int_str → Ya9, ne_bool_str → Yba, eq_str_int → Ybb, eq_str_bool → Ybc, eq_int_str → Ybd, eq_bool_str → Ybe
open PySem.EqNone renaming ne_str_none → Ybr, ne_none_str → Ybs, ne_none_none → Ybt, ne_none_int → Ybu, ne_none_bool → Ybv, ne_int_none → Ybw, ne_bool_none → Ybx, eq_str_none → Yby, eq_none_str → Ybz, eq_none_none → Yb0, eq_none_int → Yb1, eq_none_bool → Yb2, eq_int_none → Yb3, eq_bool_none → Yb4
open PySem.F renaming plainAttrs_str → Zmm, plainAttrs_list → Zny, slot_list_append → Zn7, slot_str_split → Zoa, type_list_append → Zoh, type_str_join → Zpq, slot_str_join → Zpr, entry_str_split → Zqg, called_set → Zqv, type_str_split → Zrt, slot_dict_get → Zst, called_enumerate → Zuu, args_str_split_3 → Zuv, args_str_split_2 → Zuw, args_dict_get_3 → Zvp, type_str_strip → Zvs, type_str_lower → Zvt, slot_str_strip → Zvu, slot_str_lower → Zvv, entry_dict_get → Zv4, slot_list_extend → Zzm, slot_list_clear → Zz3, plain_list_iadd → Zz4, entry_type_call → Zz5, type_str_upper → Yao, slot_str_upper → Yap, slot_set_iter → Ybj, plain_set_new → Ybk, slot_set_and → Ycd
open PySem.Flow renaming next → Yda
open PySem.Heap renaming get?_push_of_some → Zlu, get?_push_size → Zl3, lt_size → Zl4, size_push → Zmv, get?_update_other → Znp, SameBut → Zog, get?_update_self → Zor, size_update → Zza
open PySem.Heap.DictOf renaming new → Ycs
open PySem.Heap.IsSliceOf renaming new → Yan
open PySem.Heap.SameBut renaming update → Zof, refl → Zpz
open PySem.IsL renaming update → Ydo
open PySem.NameKind renaming free → Zm5, cell → Zql
open PySem.NumText renaming digitsVal → Zqw
open PySem.Obj renaming data_mapFields → Zov, mapSeq → Zqp, isFreed_of_fields → Zri, putSet → Zun, cls_mapFields → Zuo, mapFields → Ybg
open PySem.Paired renaming length → Zv5, snoc → Yai
open PySem.PassesOwn renaming never → Zm8
open PySem.PyData renaming eqv → Zp5, canLay0 → Zq2, eqvAll → Ztq, canLayAll0 → Zxm, depthAll → Zyj, strOk → Zzw, depth → Zzx
open PySem.SeqAt.EqAt renaming str_str → Yc5, str_int → Yc6, int_str → Yc7, int_int → Yc8
open PySem.SetTable renaming insertAt → Zma, below → Zml, grown → Zo9, fresh → Zpa, turns → Zrv, fits → Zsb, has → Zv2, sameMemory → Zwl, eraseAt → Zw8, slot → Zyh, fill → Zyi
open PySem.SetTable.Slot renaming dummy → Zva
open PySem.SetTable.below renaming go → Zrj
open PySem.Shared renaming setGen → Zv1, TypeIs → Zzf
open PySem.Str renaming join → Zvc, ofString → Zw7, length → Zyz, append → Yc4
open PySem.StrLaws renaming dbl → Zqf, occ_length_le → Zwb, glued_eq_join → Zwc
open PySem.Txt renaming split → Zt9, stripChars → Zwa, slice → Zw6, upper → Zzu, startswith → Yag, lower → Ydl
open PySem.Value renaming ref → Znh, none → Znw, type → Zpw, bool → Zqk, str → Zt1, int → Zwx, isStrOf → Zzt, isInt → Ya2, float → Ya3, bytes → Ya4
open PySem.W renaming Frag → Zlh, fnOf → Zmx, findIn → Zmy, emptyDict → Zok, instObj → Zpi, callWith_K → Zqn, keepIn → Zqy, methodCall_KW → Zq1, plainGet → Zsj, lookIn → Zs5, codeIn → Zs6, plainGet_of → Zta, methodObj → Zt2, hasDictIn → Zt3, takerIn → Zul, OpenLaw → Zum, cellsFrom_some → Zv3, isFn → Zwd, specialIn → Zw9, plainOver → Zxa, handedIn → Zxl, makesIn → Zx4, WalkO → Zy0
open PySem.W.Looks renaming here → Ya6
open PySem.Walks renaming tuple → Ya1, list → Ybp
open PySem.WalksT renaming enumerateD → Zsa
open PySem.Within renaming cons → Ybq
open PySem.pickOrder renaming go → Zvk
open Sum renaming inr → Zvm, inl → Zvn
open True renaming intro → Zsi
set_option Elab.async false
set_option linter.all false
set_option maxRecDepth 100000
set_option maxHeartbeats 8000000
set_option genSizeOf false
set_option bootstrap.genMatcherCode false
noncomputable section
namespace L2
open PySem PySem.Spec PyProof.Rows
noncomputable abbrev Key:=Sum Int Str
noncomputable def zx7:Key->Zll->Bool
 | .inl k,v=>Ya2 k v
 | .inr x,v=>Zzt x v
noncomputable def keyH(w:Zng):Key->Int
 | .inl k=>hashInt k
 | .inr x=>hashStr w x
theorem zbj:∀{k:Key} {v:Zll},zx7 k v=true->(∃i t,k=Zvn i/\v=Zwx i t)\/(∃x t,k=Zvm x/\v=Zt1 x t)
 | .inl i,v,h=>by
  obtain⟨t,e⟩:=Value.isInt_shape (k:=i) (v:=v) h
  exact .inl ⟨i,t,rfl,e⟩
 | .inr x,v,h=>by
  obtain⟨t,e⟩:=Value.isStrOf_shape (x:=x) (v:=v) h
  exact .inr ⟨x,t,rfl,e⟩
theorem zzy(i:Int)(t:Tok):zx7 (.inl i) (.int i t)=true:=by simp[zx7,Ya2]
theorem yaa(x:Str)(t:Tok):zx7 (.inr x) (.str x t)=true:=by simp[zx7,Zzt]
theorem ylz(a b:Int):decide ((Zvn a:Key)=Zvn b)=(a == b):=by
 by_cases e:a=b
 .subst e;simp
 .have h:¬ (Zvn a:Key)=Zvn b:=fun q=>e (Sum.inl.inj q)
  rw[decide_eq_false h]
  exact(beq_eq_false_iff_ne.mpr e).symm
theorem yj1(a b:Str):decide ((Zvm a:Key)=Zvm b)=decide (a=b):=by
 by_cases e:a=b
 .subst e;simp
 .have h:¬ (Zvm a:Key)=Zvm b:=fun q=>e (Sum.inr.inj q)
  rw[decide_eq_false h,decide_eq_false e]
theorem ykr(a:Int)(b:Str):decide ((Zvn a:Key)=Zvm b)=false:=decide_eq_false (fun q=>nomatch q)
theorem yk7(a:Str)(b:Int):decide ((Zvm a:Key)=Zvn b)=false:=decide_eq_false (fun q=>nomatch q)
noncomputable def zav(prog:Zmi)(w:Zng):PySem.KeyKind prog w Key where
 is:=zx7
 hash:=keyH w
 inj:=fun v a b ha hb=>by
  rcases zbj ha with ⟨i,t,rfl,rfl⟩ | ⟨x,t,rfl,rfl⟩
  .rcases zbj hb with ⟨j,u,rfl,e⟩ | ⟨y,u,rfl,e⟩
   .injection e with e1 _;rw[e1]
   .exact nomatch e
  .rcases zbj hb with ⟨j,u,rfl,e⟩ | ⟨y,u,rfl,e⟩
   .exact nomatch e
   .injection e with e1 _;rw[e1]
 byValue:=fun k v h=>by
  rcases zbj h with ⟨i,t,rfl,rfl⟩ | ⟨x,t,rfl,rfl⟩ <;> rfl
 pyHash:=fun hv h=>by
  rcases zbj hv with ⟨i,t,rfl,rfl⟩ | ⟨x,t,rfl,rfl⟩
  .exact wpAny_pyHash_int h
  .exact wpAny_pyHash_str h
 eqBool:=fun hu hv h=>by
  rcases zbj hu with ⟨i,t,rfl,rfl⟩ | ⟨x,t,rfl,rfl⟩
  .rcases zbj hv with ⟨j,u,rfl,rfl⟩ | ⟨y,u,rfl,rfl⟩
   .rw[ylz] at h;exact wpAny_eqBool_int h
   .rw[ykr] at h;exact Yc7 i t y u _ _ _ _ h
  .rcases zbj hv with ⟨j,u,rfl,rfl⟩ | ⟨y,u,rfl,rfl⟩
   .rw[yk7] at h;exact Yc6 x t j u _ _ _ _ h
   .rw[yj1] at h;exact wpAny_eqBool_str h
 «strs»:=fun k x t v h=>by
  rcases zbj h with ⟨i,u,rfl,e⟩ | ⟨y,u,rfl,e⟩
  .exact nomatch e
  .injection e with e1 _
   subst e1
   cases v <;> rfl
theorem zml(prog:Zmi)(w:Zng)(i:Int)(t:Tok):(zav prog w).is (.inl i) (.int i t)=true:=zzy i t
theorem zmc(prog:Zmi)(w:Zng)(x:Str)(t:Tok):(zav prog w).is (.inr x) (.str x t)=true:=yaa x t
inductive V where
 | non | bl (b:Bool) | int (i:Int) | str (x:Str) | byt (b:Array UInt8) | flt (b:UInt64) | ref (a:Addr) | ty (n:String)
 deriving DecidableEq
noncomputable def RelV:V->Zll->Prop
 | .non,u=>u=Znw
 | .bl b,u=>u=Zqk b
 | .int i,u=>∃t,u=Zwx i t
 | .str x,u=>∃t,u=Zt1 x t
 | .byt b,u=>∃t,u=Ya4 b t
 | .flt b,u=>∃t,u=Ya3 b t
 | .ref a,u=>u=Znh a
 | .ty n,u=>u=Zpw n
noncomputable abbrev Vals:List V->List Zll->Prop:=Paired RelV
theorem Vals.length{xs:List V}{us:List Zll}(r:Vals xs us):xs.length=us.length:=Zv5 r
theorem Vals.get:∀{xs:List V} {us:List Zll} {i:Nat} {x:V},Vals xs us->xs[i]? = some x-> ∃u,us[i]? = some u/\RelV x u
 | _,_,_,_,.nil,e=>by simp at e
 | _,_,0,_,.cons r _,e=>by simp at e;subst e;exact⟨_,rfl,r⟩
 | _,_,i+1,x,.cons _ t,e=>by
  obtain⟨u,h1,h2⟩:=Vals.get (i:=i) (x:=x) t (by simpa using e)
  exact⟨u,by simpa using h1,h2⟩
theorem Vals.append:∀{xs ys:List V} {us ws:List Zll},Vals xs us->Vals ys ws->Vals (xs++ys) (us++ws)
 | _,_,_,_,.nil,s=>s
 | _,_,_,_,.cons r t,s=>.cons r (Vals.append t s)
theorem Vals.take:∀{xs:List V} {us:List Zll} (n:Nat),Vals xs us->Vals (xs.take n) (us.take n)
 | _,_,0,_=>.nil
 | _,_,_+1,.nil=>.nil
 | _,_,n+1,.cons r t=>.cons r (Vals.take n t)
theorem Vals.drop:∀{xs:List V} {us:List Zll} (n:Nat),Vals xs us->Vals (xs.drop n) (us.drop n)
 | _,_,0,r=>r
 | _,_,_+1,.nil=>.nil
 | _,_,n+1,.cons _ t=>Vals.drop n t
noncomputable def RelO:Option V->Option Zll->Prop
 | some v,some u=>RelV v u
 | none,none=>True
 | _,_=>False
noncomputable def KV{κ:Type}:List (κ×V)->List (κ×Zll)->Prop:=Paired fun(p:κ×V) (q:κ×Zll)=>p.1=q.1/\RelV p.2 q.2
noncomputable def kV:Key->V
 | .inl i=>.int i
 | .inr x=>.str x
inductive HO where
 /-- a list -/
 | lst (xs:List V)
 /-- a tuple (never changes) -/
 | tup (xs:List V)
 /-- a dict whose keys are ints and texts;one whose keys are tuples of ints and texts (the empty one is both) -/
 | dK (kvs:List (Key×V)) | dT (kvs:List (List Key×V))
 /-- a set of ints: its members,its size -/
 | set (S:Int->Bool) (n:Nat)
 /-- an instance of the class at C,its dict at dx,its attributes -/
 | ins (C dx:Addr) (fs:List (Str×V))
 /-- the dict of the instance at x -/
 | own (x:Addr)
 /-- the dict of an exception -/
 | xd (fs:List (Str×V))
 /-- a bound method,f of x -/
 | met (f x:Addr)
 /-- a range object lo,lo+1,.. below hi -/
 | rng (lo hi:Int)
 /-- a thing that is known to the object (the script;a dict while a loop walks it): read,never written while it is so -/
 | frz (o:Obj) (u:HO)
 /-- a code object's table -/
 | tbl (ps:Array Zll)
 /-- any other thing,by what is true of its one object (a def of one's own: SetO a S n:=HO.ext fun h=>..) -/
 | ext (φ:Heap->Prop)
 | tab (ps:Array Zll) (pos:Pos) (q:Str)
noncomputable abbrev Hp:=Addr->Option HO
noncomputable def upd(H:Hp)(a:Addr)(o:HO):Hp:=fun b=>if b=a then some o else H b
theorem zal{H:Hp}{a:Addr}{o:HO}:upd H a o a=some o:=by unfold upd;rw[if_pos rfl]
theorem zat{H:Hp}{a b:Addr}{o:HO}(h:b≠a):upd H a o b=H b:=by unfold upd;rw[if_neg h]
theorem ym9{H:Hp}{a b:Addr}{o u:HO}(h:H a=some o)(h':H b=some u)(d:o≠u):a≠b:=by
 intro e;subst e;rw[h] at h';exact d (Zni h')
theorem zbi{H:Hp}{a b:Addr}{o:HO}(h:H a=some o)(h':H b=none):a≠b:=by
 intro e;subst e;rw[h] at h';cases h'
section
variable(P:Zmi)(w:Zng)
noncomputable def zed(H:Hp)(h:Heap)(a:Addr):HO->Prop
 | .lst xs=>xs.length<=sizeLine /\ ∃(its:List Zll) (n:Nat),Vals xs its/\h.get? a=some { cls:=.type "list", data:=.seq its.toArray n }
 | .tup xs=>xs.length<=sizeLine /\ ∃its:List Zll,Vals xs its/\IsTup h a its.toArray
 | .dK kvs=>kvs.length<=sizeLine/\(a == Zqi)=false /\ ∃vs,KV kvs vs/\h.DictOf (zav P w) a vs
 | .dT kvs=>kvs.length<=sizeLine/\(a == Zqi)=false /\ ∃xs:List (List Key×Addr×Zll),
   Paired (fun(p:List Key×V) (q:List Key×Addr×Zll)=>p.1=q.1/\H q.2.1=some (.tup (p.1.map kV))/\RelV p.2 q.2.2) kvs xs /\
   ∃o es ep,h.get? a=some o/\o.ExactDict/\o.data= .dict es ep/\es.toList=xs.map (entryOfKey (Zu4 (zav P w)))/\(xs.map (·.1)).Nodup
 | .set S n=>h.SetOf (intKind P w) a S n
 | .ins C dx fs=>H dx=some (.own a)/\fs.length<=1000/\dx≠a/\h.get? a=some (Zpi C dx) /\
   ∃mA,h.Ns1 dx mA/\(∀f,RelO (fs.lookup f) (mA f))/\Zwy mA (fs.map (·.1))
 | .own _=>∃o,h.get? a=some o
 | .xd fs=>∃mA,h.Ns1 a mA /\ ∀f,RelO (fs.lookup f) (mA f)
 | .rng lo hi=>∃t u v,h.get? a=some { cls:=.type "range", data:=.fields #[.int lo t,.int hi u,.int 1 v] }
 | .frz o u=>h.get? a=some o/\zed H h a u
 | .tbl ps=>h.get? a=some { cls:=.none,data:=.fields ps }
 | .met f x=>h.get? a=some (Zt2 (.ref f) (.ref x))
 | .ext φ=>φ h/\(∃o,h.get? a=some o) /\ ∀h1 h2:Heap,φ h1->(∀o,h1.get? a=some o->h2.get? a=some o)->φ h2
 | .tab ps pos q=>∃more:Array Zll,h.get? a=some { cls:=.none,data:=.fields (ps++more) }/\TriplesOk (ps++more).toList/\(codeAmong pos (ps++more).toList=none \/ ∃c' oc vs t,codeAmong pos (ps++more).toList=some (.ref c')/\H c'=some (.frz oc (.own a))/\oc.data= .fields vs/\vs[1]? = some (.str q t))
noncomputable def HOk(H:Hp)(h:Heap):Prop:=∀a o,H a=some o->zed P w H h a o
end
section
variable{P:Zmi}{w:Zng}{H H':Hp}{h h':Heap}{a:Addr}{o:HO}
theorem zed.lt(x:zed P w H h a o):a<h.objs.size:=by
 cases o with
 | lst xs=>obtain⟨_,_,_,_,e⟩:=x;exact Zl4 e
 | tup xs=>obtain⟨_,_,_,p⟩:=x;exact p.lt
 | dK kvs=>obtain⟨_,_,_,_,o,_,_,e,_⟩:=x;exact Zl4 e
 | dT kvs=>obtain⟨_,_,_,_,o,_,_,e,_⟩:=x;exact Zl4 e
 | set S n=>obtain⟨o,_,_,_,e,_⟩:=x;exact Zl4 e
 | ins C dx fs=>obtain⟨_,_,_,e,_⟩:=x;exact Zl4 e
 | own y=>obtain⟨_,e⟩:=x;exact Zl4 e
 | xd fs=>obtain⟨_,⟨_,_,_,e,_⟩,_⟩:=x;exact Zl4 e
 | rng lo hi=>obtain⟨_,_,_,e⟩:=x;exact Zl4 e
 | frz ob u=>obtain⟨e,_⟩:=x;exact Zl4 e
 | tbl ps=>exact Zl4 (show h.get? a=some _ from x)
 | met f y=>exact Zl4 (show h.get? a=some _ from x)
 | ext φ=>obtain⟨_,⟨_,e⟩,_⟩:=x;exact Zl4 e
 | tab ps pos q=>obtain⟨_,e,_⟩:=x;exact Zl4 e
theorem Paired.mapP{α β:Type}{F G:α->β->Prop}:∀{l₁:List α} {l₂:List β},Paired F l₁ l₂->(∀a b,F a b->G a b)->Paired G l₁ l₂
 | _,_,.nil,_=>.nil
 | _,_,.cons r t,f=>.cons (f _ _ r) (Paired.mapP t f)
theorem zed.stay(x:zed P w H h a o)(k:∀b u,(b=a\/H b=some (.own a))->h.get? b=some u->h'.get? b=some u)
  (ho:∀b,H b=some (.own a)->H' b=some (.own a)) (ht:∀b xs,H b=some (.tup xs)->H' b=some (.tup xs))
  (hf:∀b o u,H b=some (.frz o u)->H' b=some (.frz o u):=by first | exact fun _ _ _ q=>q | exact fun c _ _ q=>(zat (zbi q (by assumption))).trans q | exact fun c _ _ r=>(zat (fun z=>by rw[<- z,r] at mu;exact mu)).trans r):zed P w H' h' a o:=by
 induction o with
 | lst xs=>obtain⟨z,its,n,r,e⟩:=x;exact⟨z,its,n,r,k _ _ (.inl rfl) e⟩
 | tup xs=>obtain⟨z,its,r,ob,e,c⟩:=x;exact⟨z,its,r,ob,k _ _ (.inl rfl) e,c⟩
 | dK kvs=>obtain⟨z,y,vs,r,ob,es,ep,e,c⟩:=x;exact⟨z,y,vs,r,ob,es,ep,k _ _ (.inl rfl) e,c⟩
 | dT kvs =>
  obtain⟨z,y,xs,r,ob,es,ep,e,c⟩:=x
  exact⟨z,y,xs,Paired.mapP r fun p q z=>⟨z.1,ht _ _ z.2.1,z.2.2⟩,ob,es,ep,k _ _ (.inl rfl) e,c⟩
 | set S n=>obtain⟨ob,es,ep,t,e,c⟩:=x;exact⟨ob,es,ep,t,k _ _ (.inl rfl) e,c⟩
 | ins C dx fs =>
  obtain⟨d,z,ne,e,mA,⟨od,es,ep,e2,c⟩,r⟩:=x
  exact⟨ho _ d,z,ne,k _ _ (.inl rfl) e,mA,⟨od,es,ep,k _ _ (.inr d) e2,c⟩,r⟩
 | own y=>obtain⟨ob,e⟩:=x;exact⟨ob,k _ _ (.inl rfl) e⟩
 | xd fs=>obtain⟨mA,⟨od,es,ep,e,c⟩,r⟩:=x;exact⟨mA,⟨od,es,ep,k _ _ (.inl rfl) e,c⟩,r⟩
 | rng lo hi=>obtain⟨t,u,v,e⟩:=x;exact⟨t,u,v,k _ _ (.inl rfl) e⟩
 | frz ob u ih=>obtain⟨e,q⟩:=x;exact⟨k _ _ (.inl rfl) e,ih q⟩
 | tbl ps =>
  have e:h.get? a=some { cls:=.none,data:=.fields ps }:=x
  show h'.get? a=some { cls:=.none,data:=.fields ps }
  exact k a _ (.inl rfl) e
 | met f y =>
  have e:h.get? a=some (Zt2 (.ref f) (.ref y)):=x
  show h'.get? a=some (Zt2 (.ref f) (.ref y))
  exact k a _ (.inl rfl) e
 | ext φ=>obtain⟨p,⟨o,e⟩,st⟩:=x;exact⟨st _ _ p fun o q=>k _ _ (.inl rfl) q,⟨o,k _ _ (.inl rfl) e⟩,st⟩
 | tab ps pos q =>
  obtain⟨m,e,t,r⟩:=x
  exact⟨m,k _ _ (.inl rfl) e,t,r.imp id fun⟨c',oc,vs,t2,e1,e2,q1,q2⟩=>⟨c',oc,vs,t2,e1,hf _ _ _ e2,q1,q2⟩⟩
theorem HOk.lt(x:HOk P w H h)(e:H a=some o):a<h.objs.size:=(x a o e).lt
theorem HOk.fresh(x:HOk P w H h)(e:h.objs.size<=a):H a=none:=by
 cases q:H a with
 | none=>rfl
 | some u=>exact absurd (Zmf (x.lt q) e) (Znn _)
theorem HOk.kept(x:HOk P w H h)(k:∀b u,h.get? b=some u->h'.get? b=some u):HOk P w H h':=fun a o e =>
 (x a o e).stay (fun b u _ q=>k b u q) (fun _ q=>q) fun _ _ q=>q
theorem HOk.laid(x:HOk P w H h)(k:∀b u,h.get? b=some u->h'.get? b=some u)(hp:h.objs.size<=a)(new:zed P w (upd H a o) h' a o):HOk P w (upd H a o) h':=fun b u e=>by
 have hn:=x.fresh hp
 by_cases hb:b=a
 .subst hb;rw[zal] at e;cases e;exact new
 .rw[zat hb] at e
  exact(x b u e).stay (fun c v _ q=>k c v q) (fun c q=>by rw[zat (zbi q hn)];exact q) fun c xs q=>by rw[zat (zbi q hn)];exact q
end
noncomputable def Rd(H:Hp)(a:Addr)(u:HO):Prop:=H a=some u \/ ∃o,H a=some (.frz o u)
theorem Rd.ok{P:Zmi}{w:Zng}{H:Hp}{h:Heap}{a:Addr}{u:HO}(r:Rd H a u)(x:HOk P w H h):zed P w H h a u:=by
 rcases r with r | ⟨o,r⟩
 .exact x a u r
 .obtain⟨_,q⟩:=x a _ r
  exact q
noncomputable def Mut:Option HO->Prop
 | some (.lst _)=>True
 | some (.dK _)=>True
 | some (.dT _)=>True
 | some (.set _ _)=>True
 | some (.ins _ _ _)=>True
 | some (.ext _)=>True
 | _=>False
section
variable{P:Zmi}{w:Zng}{H:Hp}{h h':Heap}{x e:Addr}{o':HO}
theorem HOk.write(ok:HOk P w H h)(mu:Mut (H x))(he:e=x\/H e=some (.own x))(k:∀b u,b≠e->h.get? b=some u->h'.get? b=some u)(heo:∃u,h'.get? e=some u)
  (new:zed P w (upd H x o') h' x o'):HOk P w (upd H x o') h':=fun b u q=>by
 have nown:∀c y,H c=some (.own y)->c≠x:=fun c y r z=>by subst z;rw[r] at mu;exact mu
 have ntup:∀c xs,H c=some (.tup xs)->c≠x:=fun c xs r z=>by subst z;rw[r] at mu;exact mu
 by_cases hb:b=x
 .subst hb;rw[zal] at q;cases q;exact new
 .rw[zat hb] at q
  by_cases hbe:b=e
  .have q':H b=some (.own x):=by
    rcases he with z | z
    .exact absurd (hbe.trans z) hb
    .rw[hbe];exact z
   rw[q] at q';cases q'
   obtain⟨v,hv⟩:=heo
   exact⟨v,by rw[hbe];exact hv⟩
  .refine(ok b u q).stay (fun c v hc r=>k c v ?_ r) (fun c r=>by rw[zat (nown c b r)];exact r) fun c xs r=>by rw[zat (ntup c xs r)];exact r
   rcases hc with rfl | hc
   .exact hbe
   .rintro rfl
    rcases he with z | z
    .exact nown c b hc z
    .rw[hc] at z;cases z;exact hb rfl
end
structure Un(fs ex:List Addr)(H H':Hp)(h h':Heap):Prop where
 keep:∀b o,h.get? b=some o->H b=none->b∉fs->b∉ex->h'.get? b=some o
 slot:∀b o,h.get? b=some o->H b=none->b∈fs->b∉ex-> ∃sl,h'.get? b=some { o with slots:=sl }
 free:∀b o,h.get? b=some o->H b=none->b∉ex->H' b=none
 there:∀b o,h.get? b=some o->b∉ex-> ∃o',h'.get? b=some o'
 tups:∀b xs,H b=some (.tup xs)->H' b=some (.tup xs)
 frzs:∀b o u,H b=some (.frz o u)->H' b=some (.frz o u)
 tbls:∀b ps,H b=some (.tbl ps)-> ∃more,H' b=some (.tbl (ps++more))
section
variable{fs fs' ex ex':List Addr}{H H1 H2:Hp}{h h1 h2 h':Heap}{a x e:Addr}{o:HO}
theorem Un.any(u:Un fs ex H H1 h h1){b:Addr}{ob:Obj}(q:h.get? b=some ob)(n:H b=none)(hx:b∉ex):∃sl,h1.get? b=some { ob with slots:=sl }:=by
 by_cases hb:b∈fs
 .exact u.slot b ob q n hb hx
 .exact⟨ob.slots,u.keep b ob q n hb hx⟩
theorem Un.kept(k:∀b u,h.get? b=some u->h'.get? b=some u):Un fs ex H H h h' :=
 ⟨fun b ob q _ _ _=>k b ob q,fun b ob q _ _ _=>⟨ob.slots,k b ob q⟩,fun _ _ _ n _=>n,fun b ob q _=>⟨ob,k b ob q⟩,fun _ _ q=>q,fun _ _ _ q=>q,fun _ ps q=>⟨#[],by rw[q];simp⟩⟩
theorem Un.refl:Un fs ex H H h h:=Un.kept fun _ _ q=>q
theorem Un.laid(k:∀b u,h.get? b=some u->h'.get? b=some u)(hp:h.objs.size<=a)(hn:H a=none):Un fs ex H (upd H a o) h h' where
 keep:=fun b u q _ _ _=>k b u q
 slot:=fun b u q _ _ _=>⟨u.slots,k b u q⟩
 free:=fun b u q n _=>by rw[zat (Zmb (Zmf (Zl4 q) hp))];exact n
 there:=fun b u q _=>⟨u,k b u q⟩
 tups:=fun b xs q=>by rw[zat (zbi q hn)];exact q
 frzs:=fun b u xs q=>by rw[zat (zbi q hn)];exact q
 tbls:=fun b ps q=>⟨#[],by rw[zat (zbi q hn),q];simp⟩
theorem Un.write(mu:Mut (H x))(he:e=x\/H e=some (.own x))(k:∀b u,b≠e->h.get? b=some u->h'.get? b=some u)(heo:∃u,h'.get? e=some u):Un fs ex H (upd H x o) h h':=by
 have hx:∀b,H b=none->b≠x:=fun b n z=>by subst z;rw[n] at mu;exact mu
 have hb:∀b,H b=none->b≠e:=fun b n z=>by
  subst z
  rcases he with r | r
  .exact hx b n r
  .rw[n] at r;cases r
 have hm:∀b u,H b=some u-> ¬ Mut (some u)->b≠x:=fun b u q nm z=>by subst z;rw[q] at mu;exact nm mu
 refine⟨fun b u q n _ _=>k b u (hb b n) q,fun b u q n _ _=>⟨u.slots,k b u (hb b n) q⟩,fun b u q n _=>by rw[zat (hx b n)];exact n,fun b u q _=>?_,
  fun b xs q=>by rw[zat (hm b _ q fun z=>z)];exact q,fun b u xs q=>by rw[zat (hm b _ q fun z=>z)];exact q,fun b ps q=>⟨#[],by rw[zat (hm b _ q fun z=>z),q];simp⟩⟩
 by_cases hbe:b=e
 .subst hbe;exact heo
 .exact⟨u,k b u hbe q⟩
end
noncomputable def trk(h:Heap)(H:Hp):List Addr:=(Zl6 h.objs.size).filter fun a=>(H a).isSome
noncomputable def hidT(h:Heap)(H:Hp):Heap:=PySem.W.hideAll h (trk h H)
theorem zyu(h:Heap)(H:Hp):(hidT h H).objs.size=h.objs.size:=PySem.W.hideAll_size _ _
theorem yex{h:Heap}{H:Hp}{b:Addr}{o:Obj}(e:h.get? b=some o)(n:H b=none):(hidT h H).get? b=some o :=
 PySem.W.hideAll_get _ e fun hm=>by
  have q:(H b).isSome=true:=(Zns.mp hm).2
  rw[n] at q;simp at q
theorem yhz{h:Heap}{H:Hp}{b:Addr}{o:Obj}(e:(hidT h H).get? b=some o):h.get? b=some o/\H b=none:=by
 have e':h.get? b=some o:=PySem.W.of_hideAll (trk h H) e
 refine⟨e',?_⟩
 cases q:H b with
 | none=>rfl
 | some x =>
  have hm:b∈trk h H:=Zns.mpr ⟨Zm3.mpr (Zl4 e'),by simp[q]⟩
  have z:(hidT h H).get? b=none:=PySem.W.hideAll_none (trk h H) hm
  rw[z] at e;cases e
noncomputable def ygw(g h:Heap)(L:Addr):List (Addr×Obj):=(Zl6 h.objs.size).filterMap fun a=>if a=L\/(g.get? a).isSome=true then none else (h.get? a).map fun o=>(a,o)
noncomputable def rest(g h:Heap)(L d:Addr):List (Addr×Obj):=(ygw g h L).filter fun p=>decide (p.1≠d)
structure Mod(K:Zlh)(mg:Str->Option Zll)(base:Heap):Prop where
 kin:K.In base
 glob:base.Ns Zpo mg
 blt:∃mb,base.Ns Yax mb /\ ∀x:Str,x ≠ "__name__" -> mb x=Zsn x
 nolimit:base.NoLimit
structure Cx where
 prog:Zmi
 w:Zng
 K:Zlh
 mg:Str->Option Zll
 base:Heap
 A:Zmu
 N:List Str
 s₀:Zlo
 H0:Hp
 env:Env
 outer:List Env
 stack:List Env
 ex:List Addr
 fn:Str->Bool
 calm:Bool
 pn:List (Addr×Obj)
 xe:Zll->Zlo->Prop
noncomputable def frs(l:List Env):List Addr:=l.filterMap (·.frame)
noncomputable abbrev Cx.fs(X:Cx):List Addr:=frs X.outer
noncomputable def Vis(sc:Scope)(x:Str):Prop:=sc.names.lookup x=some .local\/sc.names.lookup x=some .cell\/sc.names.lookup x=some .free
noncomputable def Loc(sc:Scope)(x:Str):Prop:=sc.names.lookup x=some .local\/sc.names.lookup x=some .cell
noncomputable def Look(env:Env)(h:Heap)(m:Str->Option Zll)(x:Str)(u:Zll):Prop :=
 (env.kindOf x=some .local/\m x=some u)\/((env.kindOf x=some .cell\/env.kindOf x=some .free) /\ ∃c,env.cells.lookup x=some c/\h.IsCell c (some u))
structure Cx.Ok(X:Cx):Prop where
 mod:Mod X.K X.mg X.base
 kind:X.env.scope.kind= .function
 glob:X.env.globals=Zpo
 blt:X.env.builtins=Yax
 above:X.s₀.heap.objs.size<=X.env.locals
 inj:∀x y c,X.env.cells.lookup x=some c->X.env.cells.lookup y=some c->x=y
 has:∀x,(X.env.kindOf x=some .cell\/X.env.kindOf x=some .free)-> ∃c,X.env.cells.lookup x=some c
 cab:∀x c,X.fn x=true->X.env.cells.lookup x=some c->X.s₀.heap.objs.size<=c
 hd:X.calm=true->X.A.handled=none
 frames:X.A.frames=some X.stack
 stk:X.stack=X.outer\/(X.stack=X.env::X.outer/\X.env.frame=some X.env.locals)
 exf:∀b∈X.ex,b≠X.env.locals /\ ∀x c,X.env.cells.lookup x=some c->c≠b
 bs:∀b o,X.base.get? b=some o->X.s₀.heap.get? b=some o/\X.H0 b=none
 bsz:X.base.objs.size<=X.s₀.heap.objs.size
 noex:∀b o,X.base.get? b=some o->b∉X.ex
 exfs:∀b∈X.ex,b∉X.fs
 funs:X.s₀.heap.FunFrames X.base X.outer
 frf:∀b∈X.fs,X.H0 b=none
structure Inv(X:Cx)(pins:List (Addr×Obj))(U:List (Option V))(H:Hp)(s:Zlo):Prop where
 ok:X.Ok
 os:s.os=X.s₀.os
 bare:Zuy s.gens
 base:Un X.fs X.ex X.H0 H X.s₀.heap s.heap
 loc:∃m,s.heap.Ns X.env.locals m /\ ∀(i:Nat) (x:Str) (v:V),X.N[i]? = some x->U[i]? = some (some v)->Vis X.env.scope x-> ∃u,RelV v u/\Look X.env s.heap m x u
 cell:∀x c,X.env.cells.lookup x=some c-> ∃v,s.heap.IsCell c v
 free:H X.env.locals=none
 freeC:∀x c,X.env.cells.lookup x=some c->H c=none
 pin:∀p∈X.pn++pins,s.heap.get? p.1=some p.2/\H p.1=none/\p.1≠X.env.locals/\p.1∉X.fs /\ ∀v,p.2.data ≠ .cell v
 hok:HOk X.prog X.w H s.heap
 len:U.length=X.N.length
section
variable{X:Cx}{pins:List (Addr×Obj)}{U:List (Option V)}{H H':Hp}{s:Zlo}{h':Heap}
theorem Cx.Ok.nofr(ok:X.Ok){b:Addr}{o:Obj}(e:X.base.get? b=some o):b∉X.fs:=fun hb=>by
 have:=(ok.funs.mem hb).1
 rw[e] at this;cases this
theorem Inv.bs(I:Inv X pins U H s):∀b o,X.base.get? b=some o->s.heap.get? b=some o/\H b=none:=fun b o e =>
 ⟨I.base.keep b o (I.ok.bs b o e).1 (I.ok.bs b o e).2 (I.ok.nofr e) (I.ok.noex b o e),I.base.free b o (I.ok.bs b o e).1 (I.ok.bs b o e).2 (I.ok.noex b o e)⟩
theorem Inv.bk(I:Inv X pins U H s):∀b o,X.base.get? b=some o->s.heap.get? b=some o:=fun b o e=>(I.bs b o e).1
theorem Inv.mod(I:Inv X pins U H s):Mod X.K X.mg X.base:=I.ok.mod
theorem Inv.kIn(I:Inv X pins U H s):X.K.In s.heap:=I.ok.mod.kin.keeps I.bk
theorem Inv.fr(I:Inv X pins U H s):∃m,Fr X.base X.env.locals s.heap m :=
 let ⟨m,hn,_⟩:=I.loc
 ⟨m,hn,I.bk,Znm I.ok.bsz I.ok.above⟩
theorem Inv.lt(I:Inv X pins U H s):X.env.locals<s.heap.objs.size:=let ⟨_,hn,_⟩:=I.loc;hn.lt
theorem Inv.sz(I:Inv X pins U H s):X.s₀.heap.objs.size<=s.heap.objs.size:=Znm I.ok.above (Zuz I.lt)
theorem Inv.nofs(I:Inv X pins U H s){a:Addr}(h:s.heap.objs.size<=a):a∉X.fs:=fun hb=>by
 obtain⟨_,o,ho,_⟩:=I.ok.funs.mem hb
 exact absurd (Zmf (Zl4 ho) (Znm I.sz h)) (Znn _)
theorem Inv.cne(I:Inv X pins U H s):∀x c,X.env.cells.lookup x=some c->c≠X.env.locals:=fun x c e z=>by
 obtain⟨v,o,ho,hd⟩:=I.cell x c e
 obtain⟨m,⟨o',es,ep,ho',hd',_⟩,_⟩:=I.loc
 rw[z,ho'] at ho;cases ho;rw[hd'] at hd;cases hd
theorem Inv.funs(I:Inv X pins U H s):s.heap.FunFrames X.base X.outer:=by
 have all:∀(l:List Env),(∀b∈frs l,b∈X.fs)->X.s₀.heap.FunFrames X.base l->s.heap.FunFrames X.base l:=by
  intro l
  induction l with
  | nil=>intro _ _;trivial
  | cons env r ih =>
   intro hs hl
   obtain⟨hk,⟨L,o,hf,hn,ho,hd⟩,hr⟩:=hl
   have hL:L∈X.fs:=hs L (by unfold frs;rw[Zn9,hf];exact Zls)
   obtain⟨sl,e⟩:=I.base.slot L o ho (I.ok.frf L hL) hL fun z=>I.ok.exfs L z hL
   exact⟨hk,⟨L,_,hf,hn,e,hd⟩,ih (fun b hb=>hs b (by unfold frs;rw[Zn9,hf];exact Zlp _ hb)) hr⟩
 exact all X.outer (fun _ hb=>hb) I.ok.funs
theorem Inv.stack(I:Inv X pins U H s):s.heap.FunFrames X.base X.stack:=by
 rcases I.ok.stk with e | ⟨e,hf⟩
 .rw[e];exact I.funs
 .rw[e]
  obtain⟨m,hn,_⟩:=I.loc
  refine .cons (by rw[I.ok.kind];decide) hf hn ?_ I.funs
  exact Heap.get?_none_of_le (Znm I.ok.bsz I.ok.above)
theorem Inv.stkSub(I:Inv X pins U H s):∀b∈frs X.stack,b∈X.env.locals::X.fs:=fun b hb=>by
 rcases I.ok.stk with e | ⟨e,hf⟩
 .rw[e] at hb;exact Zlp _ hb
 .rw[e] at hb
  unfold frs at hb
  rw[Zn9,hf] at hb
  exact hb
theorem Inv.stkFree(I:Inv X pins U H s):∀b∈frs X.stack,H b=none:=fun b hb=>by
 rcases Zly.mp (I.stkSub b hb) with e | hb
 .rw[e];exact I.free
 .obtain⟨_,o,ho,_⟩:=I.ok.funs.mem hb
  exact I.base.free b o ho (I.ok.frf b hb) fun z=>I.ok.exfs b z hb
theorem Inv.step{g':Array GenState}{t':Nat}{d':Zya}{ch:List Addr}(I:Inv X pins U H s)
  (hch:∀b∈ch,(b∈X.ex\/X.s₀.heap.objs.size<=b)/\b≠X.env.locals/\(∀x c,X.env.cells.lookup x=some c->c≠b) /\ ∀p∈X.pn++pins,p.1≠b)
  (keep:∀b o,b≠X.env.locals->b∉X.fs->b∉ch->s.heap.get? b=some o->H b=none->h'.get? b=some o)
  (slot:∀b o,b≠X.env.locals->b∈X.fs->b∉ch->s.heap.get? b=some o->H b=none-> ∃sl,h'.get? b=some { o with slots:=sl }) (free:∀b o,b∉ch->s.heap.get? b=some o->H b=none->H' b=none)
  (there:∀b o,b∉ch->s.heap.get? b=some o-> ∃o',h'.get? b=some o')
  (tups:∀b xs,H b=some (.tup xs)->H' b=some (.tup xs)) (frzs:∀b o u,H b=some (.frz o u)->H' b=some (.frz o u)) (tbls:∀b ps,H b=some (.tbl ps)-> ∃more,H' b=some (.tbl (ps++more)))
  (ns:∀m,s.heap.Ns X.env.locals m->h'.Ns X.env.locals m) (hok:HOk X.prog X.w H' h') (hg:Zuy g') :
  Inv X pins U H' { s with heap:=h',gens:=g',drawn:=d',toks:=t' }:=by
 have neL:∀b o,X.s₀.heap.get? b=some o->b≠X.env.locals:=fun b o e=>Zmb (Zmf (Zl4 e) I.ok.above)
 have neC:∀b o,X.s₀.heap.get? b=some o->b∉X.ex->b∉ch:=fun b o e hx hb=>by
  rcases(hch b hb).1 with z | z
  .exact hx z
  .exact absurd (Zmf (Zl4 e) z) (Znn _)
 have cellK:∀x c,X.env.cells.lookup x=some c-> ∀v,s.heap.IsCell c v->h'.IsCell c v:=fun x c e v ⟨o,ho,hd⟩=>by
  have nch:c∉ch:=fun z=>(hch c z).2.2.1 x c e rfl
  by_cases hc:c∈X.fs
  .obtain⟨sl,q⟩:=slot c o (I.cne x c e) hc nch ho (I.freeC x c e)
   exact⟨_,q,hd⟩
  .exact⟨o,keep c o (I.cne x c e) hc nch ho (I.freeC x c e),hd⟩
 refine⟨I.ok,I.os,hg,⟨fun b o e n hb hx=>?_,fun b o e n hb hx=>?_,fun b o e n hx=>?_,fun b o e hx=>?_,fun b xs e=>tups b xs (I.base.tups b xs e),fun b o xs e=>frzs b o xs (I.base.frzs b o xs e),fun b ps e=>?_⟩,?_,fun x c e=>?_,?_,fun x c e=>?_,fun p hp=>?_,hok,I.len⟩
 .exact keep b o (neL b o e) hb (neC b o e hx) (I.base.keep b o e n hb hx) (I.base.free b o e n hx)
 .obtain⟨sl,e1⟩:=I.base.slot b o e n hb hx
  obtain⟨sl',e2⟩:=slot b _ (neL b o e) hb (neC b o e hx) e1 (I.base.free b o e n hx)
  exact⟨sl',e2⟩
 .obtain⟨o',e1⟩:=I.base.there b o e hx
  exact free b o' (neC b o e hx) e1 (I.base.free b o e n hx)
 .obtain⟨o',e1⟩:=I.base.there b o e hx
  exact there b o' (neC b o e hx) e1
 .obtain⟨m1,e1⟩:=I.base.tbls b ps e
  obtain⟨m2,e2⟩:=tbls b _ e1
  exact⟨m1++m2,by rw[e2,Array.append_assoc]⟩
 .obtain⟨m,hn,hl⟩:=I.loc
  refine⟨m,ns m hn,fun i x v e1 e2 e3=>?_⟩
  obtain⟨u,r,l⟩:=hl i x v e1 e2 e3
  refine⟨u,r,?_⟩
  rcases l with l | ⟨k,c,e,z⟩
  .exact .inl l
  .exact .inr ⟨k,c,e,cellK x c e _ z⟩
 .obtain⟨v,z⟩:=I.cell x c e
  exact⟨v,cellK x c e v z⟩
 .obtain⟨m,⟨o,_,_,ho,_⟩,_⟩:=I.loc
  exact free _ o (fun z=>(hch _ z).2.1 rfl) ho I.free
 .obtain⟨v,o,ho,hd⟩:=I.cell x c e
  exact free c o (fun z=>(hch c z).2.2.1 x c e rfl) ho (I.freeC x c e)
 .obtain⟨e,n,ne,nf,d⟩:=I.pin p hp
  have nch:p.1∉ch:=fun z=>(hch p.1 z).2.2.2 p hp rfl
  exact⟨keep p.1 p.2 ne nf nch e n,free p.1 p.2 nch e n,ne,nf,d⟩
theorem Inv.un{t':Nat}(I:Inv X pins U H s)(u:Un X.fs [] H H' s.heap h')(hok:HOk X.prog X.w H' h'):Inv X pins U H' { s with heap:=h',toks:=t' }:=by
 obtain⟨m,⟨o,es,ep,ho,r⟩,_⟩:=id I.loc
 obtain⟨sl,hL⟩:=u.any ho I.free (by simp)
 exact I.step (g':=s.gens) (d':=s.drawn) (ch:=[]) (fun _ z=>nomatch z) (fun b o _ hb _ e n=>u.keep b o e n hb (by simp)) (fun b o _ hb _ e n=>u.slot b o e n hb (by simp)) (fun b o _ e n=>u.free b o e n (by simp)) (fun b o _ e=>u.there b o e (by simp)) u.tups u.frzs u.tbls (fun m' hm=>by
  obtain⟨o',es',ep',ho',r'⟩:=hm
  rw[ho] at ho';cases ho'
  exact⟨_,es',ep',hL,r'⟩) hok I.bare
theorem Inv.call{g':Array GenState}{t':Nat}{d':Zya}{ch:List Addr}(I:Inv X pins U H s)(u:Un (frs X.stack) ch H H' s.heap h')(hok:HOk X.prog X.w H' h')(hg:Zuy g')
  (hch:∀b∈ch,(b∈X.ex\/X.s₀.heap.objs.size<=b)/\b≠X.env.locals/\(∀x c,X.env.cells.lookup x=some c->c≠b) /\ ∀p∈X.pn++pins,p.1≠b) :
  Inv X pins U H' { s with heap:=h',gens:=g',drawn:=d',toks:=t' }:=by
 obtain⟨m,⟨o,es,ep,ho,r⟩,_⟩:=id I.loc
 obtain⟨sl,hL⟩:=u.any ho I.free fun z=>(hch _ z).2.1 rfl
 exact I.step (ch:=ch) hch (fun b o hL hb hc e n=>u.keep b o e n (fun z=>(Zly.mp (I.stkSub b z)).elim hL hb) hc) (fun b o _ _ hc e n=>u.any e n hc) (fun b o hc e n=>u.free b o e n hc) (fun b o hc e=>u.there b o e hc) u.tups u.frzs u.tbls (fun m' hm=>by
  obtain⟨o',es',ep',ho',r'⟩:=hm
  rw[ho] at ho';cases ho'
  exact⟨_,es',ep',hL,r'⟩) hok hg
theorem Inv.turned{t':Nat}{it:Addr}(I:Inv X pins U H s)(k:∀b o,b≠it->s.heap.get? b=some o->h'.get? b=some o)(hn:H it=none)(hL:it≠X.env.locals)
  (h1:it∈X.ex\/X.s₀.heap.objs.size<=it) (h2:∀x c,X.env.cells.lookup x=some c->c≠it) (h3:∀p∈X.pn++pins,p.1≠it):Inv X pins U H { s with heap:=h',toks:=t' }:=by
 have nit:∀b u,H b=some u->b≠it:=fun b u e z=>by rw[z,hn] at e;cases e
 refine I.step (g':=s.gens) (d':=s.drawn) (ch:=[it]) (fun b hb=>?_) (fun b o _ _ hc e _=>k b o (fun z=>hc (by simp[z])) e) (fun b o _ _ hc e _=>⟨o.slots,k b o (fun z=>hc (by simp[z])) e⟩) (fun _ _ _ _ n=>n)
  (fun b o hc e=>⟨o,k b o (fun z=>hc (by simp[z])) e⟩) (fun _ _ e=>e) (fun _ _ _ e=>e) (fun b ps e=>⟨#[],by rw[e];simp⟩) (fun m hm=>?_) (fun b u e=>?_) I.bare
 .have e:b=it:=by simpa using hb
  subst e
  exact⟨h1,hL,h2,h3⟩
 .obtain⟨o,es,ep,ho,r⟩:=hm
  exact⟨o,es,ep,k _ o (Zne hL) ho,r⟩
 .refine(I.hok b u e).stay (fun c v hc q=>k c v ?_ q) (fun _ q=>q) fun _ _ q=>q
  rcases hc with z | z
  .rw[z];exact nit b u e
  .exact nit c _ z
theorem Inv.tok(I:Inv X pins U H s)(t:Nat):Inv X pins U H { s with toks:=t }:=I.un (h':=s.heap) (t':=t) Un.refl I.hok
theorem Inv.kept{t':Nat}(I:Inv X pins U H s)(k:∀b u,s.heap.get? b=some u->h'.get? b=some u):Inv X pins U H { s with heap:=h',toks:=t' }:=I.un (Un.kept k) (I.hok.kept k)
theorem Inv.laid{a:Addr}{o:HO}{t':Nat}(I:Inv X pins U H s)(k:∀b u,s.heap.get? b=some u->h'.get? b=some u)(hp:s.heap.objs.size<=a)(new:zed X.prog X.w (upd H a o) h' a o) :
  Inv X pins U (upd H a o) { s with heap:=h',toks:=t' }:=I.un (Un.laid k hp (I.hok.fresh hp)) (I.hok.laid k hp new)
theorem Inv.write{x e:Addr}{o:HO}{t':Nat}(I:Inv X pins U H s)(mu:Mut (H x))(he:e=x\/H e=some (.own x))(k:∀b u,b≠e->s.heap.get? b=some u->h'.get? b=some u)(heo:∃u,h'.get? e=some u)
  (new:zed X.prog X.w (upd H x o) h' x o):Inv X pins U (upd H x o) { s with heap:=h',toks:=t' }:=I.un (Un.write mu he k heo) (I.hok.write mu he k heo new)
theorem Inv.weak{U':List (Option V)}(I:Inv X pins U H s)(hl:U'.length=U.length)(w:∀(i:Nat) v,U'[i]? = some (some v)->U[i]? = some (some v)):Inv X pins U' H s :=
 ⟨I.ok,I.os,I.bare,I.base,let ⟨m,hn,hl'⟩:=I.loc;⟨m,hn,fun i x v e1 e2 e3=>hl' i x v e1 (w i v e2) e3⟩,I.cell,I.free,I.freeC,I.pin,I.hok,hl.trans I.len⟩
theorem Inv.pins_of{pins':List (Addr×Obj)}(I:Inv X pins U H s)(h:∀p∈pins',s.heap.get? p.1=some p.2/\H p.1=none/\p.1≠X.env.locals/\p.1∉X.fs /\ ∀v,p.2.data ≠ .cell v):Inv X pins' U H s :=
 ⟨I.ok,I.os,I.bare,I.base,I.loc,I.cell,I.free,I.freeC,fun p hp=>(Zme.mp hp).elim (fun z=>I.pin p (Zoy _ z)) (h p),I.hok,I.len⟩
theorem zuz{N:List Str}(hN:N.Nodup){i j:Nat}{x:Str}(a:N[i]? = some x)(b:N[j]? = some x):i=j:=by
 obtain⟨h1,e1⟩:=Zlq.mp a
 obtain⟨h2,e2⟩:=Zlq.mp b
 exact(Zy8 hN).mp (e1.trans e2.symm)
theorem zqv{M:Zy4}{A:Zmu}{E:Zll->Zlo->Prop}{i:Nat}{x:Str}{v:V}{u:Zll}{Q:Unit->Zlo->Prop}(I:Inv X pins U H s)(hN:X.N.Nodup)(hi:X.N[i]? = some x)(hx:Loc X.env.scope x)(r:RelV v u)
  (h:∀s',Inv X pins (U.set i (some v)) H s'->(∃a,Zog a s.heap s'.heap/\(a=X.env.locals\/X.env.cells.lookup x=some a))->Q () s') (hf:X.fn x=true\/X.env.scope.names.lookup x=some .local:=by first | exact .inl rfl | exact .inr rfl | assumption):Zl8 M A (storeName X.env x u) Q E s:=by
 obtain⟨m,hn,hl⟩:=id I.loc
 have hcls:(X.env.scope.kind == .class||(X.env.scope.kind == .module&&X.env.locals != X.env.globals))=false:=by rw[I.ok.kind];rfl
 have hiσ:i<U.length:=by rw[I.len];exact(Zlq.mp hi).1
 have cne:=I.cne
 have tracked:∀{a:Addr} {h':Heap},(∃o,s.heap.get? a=some o/\H a=none)->Zog a s.heap h'->HOk X.prog X.w H h':=fun {a h'} ha hs b ob e=>by
  obtain⟨_,_,hfree⟩:=ha
  refine(I.hok b ob e).stay (fun c w' hc q=>(hs.2 c ?_).trans q) (fun _ q=>q) fun _ _ q=>q
  rintro rfl
  rcases hc with rfl | hc
  .rw[hfree] at e;cases e
  .rw[hfree] at hc;cases hc
 rcases hx with hk | hk
 .refine wpAny_storeName_local hk hn (fun h' hn' hs=>?_) hcls
  obtain⟨oL,_,_,hoL,_⟩:=id hn
  refine h _ ⟨I.ok,I.os,I.bare,⟨fun b o e n hb hx=>?_,fun b o e n hb hx=>?_,I.base.free,fun b o e hx=>?_,I.base.tups,I.base.frzs,I.base.tbls⟩,⟨_,hn',fun j y v' e1 e2 e3=>?_⟩,fun y c e=>?_,I.free,I.freeC,fun p hp=>?_,tracked ⟨oL,hoL,I.free⟩ hs,by simpa using I.len⟩ ⟨_,hs,.inl rfl⟩
  .exact(hs.2 b (Zmb (Zmf (Zl4 e) I.ok.above))).trans (I.base.keep b o e n hb hx)
  .obtain⟨sl,e1⟩:=I.base.slot b o e n hb hx
   exact⟨sl,(hs.2 b (Zmb (Zmf (Zl4 e) I.ok.above))).trans e1⟩
  .obtain⟨o',e1⟩:=I.base.there b o e hx
   exact⟨o',(hs.2 b (Zmb (Zmf (Zl4 e) I.ok.above))).trans e1⟩
  .by_cases hj:j=i
   .subst hj
    rw[hi] at e1;cases e1
    rw[Zn2 hiσ] at e2
    cases e2
    exact⟨u,r,.inl ⟨hk,by simp⟩⟩
   .rw[Zoz (Zne hj)] at e2
    obtain⟨u',r',q⟩:=hl j y v' e1 e2 e3
    refine⟨u',r',?_⟩
    rcases q with ⟨k,e⟩ | ⟨k,c,e,z⟩
    .refine .inl ⟨k,?_⟩
     have:y≠x:=fun e=>hj (zuz hN e1 (e ▸ hi))
     simp[this,e]
    .exact .inr ⟨k,c,e,z.sameBut hs (cne y c e)⟩
  .obtain⟨w',z⟩:=I.cell y c e
   exact⟨w',z.sameBut hs (cne y c e)⟩
  .obtain⟨e,n,ne,nf,d⟩:=I.pin p hp
   exact⟨(hs.2 p.1 ne).trans e,n,ne,nf,d⟩
 .have hfn:X.fn x=true:=by
   rcases hf with z | z
   .exact z
   .rw[z] at hk;cases hk
  obtain⟨c,hc⟩:=I.ok.has x (.inl hk)
  obtain⟨w',z⟩:=I.cell x c hc
  refine wpAny_storeName_cell I.ok.kind hk hc z (fun h' hc' hs=>?_)
  obtain⟨oc,hoc,hocd⟩:=id z
  refine h { s with heap:=h' } ⟨I.ok,I.os,I.bare,⟨fun b o e n hb hx=>?_,fun b o e n hb hx=>?_,I.base.free,fun b o e hx=>?_,I.base.tups,I.base.frzs,I.base.tbls⟩,⟨m,hn.sameBut hs (Zne (cne x c hc)),fun j y v' e1 e2 e3=>?_⟩,fun y c' e=>?_,I.free,I.freeC,fun p hp=>?_,tracked ⟨oc,hoc,I.freeC x c hc⟩ hs,by simpa using I.len⟩ ⟨c,hs,.inr hc⟩
  .exact(hs.2 b (Zmb (Zmf (Zl4 e) (I.ok.cab x c hfn hc)))).trans (I.base.keep b o e n hb hx)
  .obtain⟨sl,e1⟩:=I.base.slot b o e n hb hx
   exact⟨sl,(hs.2 b (Zmb (Zmf (Zl4 e) (I.ok.cab x c hfn hc)))).trans e1⟩
  .obtain⟨o',e1⟩:=I.base.there b o e hx
   exact⟨o',(hs.2 b (Zmb (Zmf (Zl4 e) (I.ok.cab x c hfn hc)))).trans e1⟩
  .by_cases hj:j=i
   .subst hj
    rw[hi] at e1;cases e1
    rw[Zn2 hiσ] at e2
    cases e2
    exact⟨u,r,.inr ⟨.inl hk,c,hc,hc'⟩⟩
   .rw[Zoz (Zne hj)] at e2
    obtain⟨u',r',q⟩:=hl j y v' e1 e2 e3
    refine⟨u',r',?_⟩
    rcases q with q | ⟨k,c',e,z'⟩
    .exact .inl q
    .refine .inr ⟨k,c',e,z'.sameBut hs ?_⟩
     rintro rfl
     exact hj (zuz hN e1 (I.ok.inj _ _ _ e hc ▸ hi))
  .by_cases hcc:c'=c
   .subst hcc;exact⟨_,hc'⟩
   .obtain⟨w2,z2⟩:=I.cell y c' e
    exact⟨w2,z2.sameBut hs hcc⟩
  .obtain⟨e,n,ne,nf,d⟩:=I.pin p hp
   refine⟨(hs.2 p.1 ?_).trans e,n,ne,nf,d⟩
   intro q
   rw[q,hoc] at e
   have q':oc=p.2:=Zni e
   exact d w' (by rw[<- q'];exact hocd)
theorem zik{M:Zy4}{A:Zmu}{E:Zll->Zlo->Prop}{i:Nat}{x:Str}{v:V}{u:Zll}{Q:Unit->Zlo->Prop}(I:Inv X pins U H s)(hN:X.N.Nodup)(hi:X.N[i]? = some x)(hx:Loc X.env.scope x)(r:RelV v u)
  (h:∀s',Inv X pins (U.set i (some v)) H s'->Q () s') (hf:X.fn x=true\/X.env.scope.names.lookup x=some .local:=by first | exact .inl rfl | exact .inr rfl | assumption):Zl8 M A (storeName X.env x u) Q E s :=
 zqv I hN hi hx r (fun s' I' _=>h s' I') hf
theorem Inv.call'{s':Zlo}{ch:List Addr}(I:Inv X pins U H s)(ho:s'.os=s.os)(u:Un (frs X.stack) ch H H' s.heap s'.heap)(hok:HOk X.prog X.w H' s'.heap)(hg:Zuy s'.gens)
  (hch:∀b∈ch,(b∈X.ex\/X.s₀.heap.objs.size<=b)/\b≠X.env.locals/\(∀x c,X.env.cells.lookup x=some c->c≠b) /\ ∀p∈X.pn++pins,p.1≠b):Inv X pins U H' s':=by
 obtain⟨h',g',d',t',o'⟩:=s'
 have e:o'=s.os:=ho
 subst e
 exact I.call (g':=g') (t':=t') (d':=d') u hok hg hch
end
noncomputable abbrev XK:=Zll->Option Addr->Hp->Prop
noncomputable abbrev St:=List (Option V)
noncomputable abbrev VK:=V->Hp->Prop
noncomputable abbrev TE:=St->Hp->VK->Prop
noncomputable abbrev TT:=St->Hp->(Bool->Hp->Prop)->Prop
noncomputable abbrev TA:=St->Hp->(List V->Hp->Prop)->Prop
structure Ends where
 nx:St->Hp->Prop
 rt:VK
 bk:St->Hp->Prop:=fun _ _=>False
 ct:St->Hp->Prop:=fun _ _=>False
noncomputable abbrev TS:=Ends->St->Hp->Prop
noncomputable def EP(X:Cx)(pins:List (Addr×Obj))(U:St)(Q:VK)(u:Zll)(s':Zlo):Prop:=∃v H',Inv X pins U H' s'/\RelV v u/\Q v H'
noncomputable def TP(X:Cx)(pins:List (Addr×Obj))(U:St)(Q:Bool->Hp->Prop)(b:Bool)(s':Zlo):Prop:=∃H',Inv X pins U H' s'/\Q b H'
noncomputable def AP(X:Cx)(pins:List (Addr×Obj))(U:St)(Q:List V->Hp->Prop)(us:List Zll)(s':Zlo):Prop:=∃vs H',Inv X pins U H' s'/\Vals vs us/\Q vs H'
noncomputable def SP(X:Cx)(pins:List (Addr×Obj))(D:Ends)(f:Flow)(s':Zlo):Prop :=
 match f with
 | .next=>∃U' H',Inv X pins U' H' s'/\D.nx U' H'
 | .brk=>∃U' H',Inv X pins U' H' s'/\D.bk U' H'
 | .cont=>∃U' H',Inv X pins U' H' s'/\D.ct U' H'
 | .ret u=>∃v U' H',Inv X pins U' H' s'/\RelV v u/\D.rt v H'
noncomputable def PE(X:Cx)(e:Expr)(t:TE):Prop :=
 ∀(pins:List (Addr×Obj)) (s:Zlo) (U:St) (H:Hp) (Q:VK),Inv X pins U H s->t U H Q->Zl8 (Zmh X.prog X.w) X.A (eval e X.env) (EP X pins U Q) X.xe s
noncomputable def PT(X:Cx)(e:Expr)(t:TT):Prop :=
 ∀(pins:List (Addr×Obj)) (s:Zlo) (U:St) (H:Hp) (Q:Bool->Hp->Prop),Inv X pins U H s->t U H Q->Zl8 (Zmh X.prog X.w) X.A (isTrue e X.env (eval e X.env)) (TP X pins U Q) X.xe s
noncomputable def PW(X:Cx)(e:Expr)(t:TT):Prop :=
 ∀(whole:Sem Zll) (pins:List (Addr×Obj)) (s:Zlo) (U:St) (H:Hp) (Q:Bool->Hp->Prop),Inv X pins U H s->t U H Q->Zl8 (Zmh X.prog X.w) X.A (isTrue e X.env whole) (TP X pins U Q) X.xe s
theorem PW.pt{X:Cx}{e:Expr}{t:TT}(h:PW X e t):PT X e t:=h _
noncomputable def PA(X:Cx)(es:List Expr)(t:TA):Prop :=
 ∀(pos:Pos) (pins:List (Addr×Obj)) (s:Zlo) (U:St) (H:Hp) (Q:List V->Hp->Prop),Inv X pins U H s->t U H Q->Zl8 (Zmh X.prog X.w) X.A (Zwt (Zpk pos (Zmk es X.env))) (AP X pins U Q) X.xe s
noncomputable def PS(X:Cx)(st:Stmt)(t:TS):Prop :=
 ∀(pins:List (Addr×Obj)) (s:Zlo) (U:St) (H:Hp) (D:Ends),Inv X pins U H s->t D U H->Zl8 (Zmh X.prog X.w) X.A (exec st X.env) (SP X pins D) X.xe s
noncomputable def PSs(X:Cx)(st:List Stmt)(t:TS):Prop :=
 ∀(pins:List (Addr×Obj)) (s:Zlo) (U:St) (H:Hp) (D:Ends),Inv X pins U H s->t D U H->Zl8 (Zmh X.prog X.w) X.A (execs st X.env) (SP X pins D) X.xe s
theorem thn{α:Type}{t:Sem α}{Q Q':α->Zlo->Prop}{M:Zy4}{A:Zmu}{E:Zll->Zlo->Prop}{s:Zlo}(h:Zl8 M A t Q E s)(hQ:∀a s,Q a s->Q' a s):Zl8 M A t Q' E s:=Zn1 h hQ fun _ _ x=>x
section
variable{X:Cx}
noncomputable def tVar(i:Nat):TE:=fun U H Q=>∃v,U[i]? = some (some v)/\Q v H
noncomputable def tC(v:V):TE:=fun _ H Q=>Q v H
theorem ymj{i:Nat}{x:Str}{pos:Pos}(hN:X.N[i]? = some x)(hv:Vis X.env.scope x)(hd:(x == ("__debug__" : Str))=false:=by decide)(hcd:(x == ("__classdict__" : Str))=false:=by decide):PE X (.Name x pos) (tVar i):=by
 intro pins s U H Q I h
 obtain⟨v,e,h⟩:=h
 obtain⟨m,hn,hl⟩:=I.loc
 obtain⟨u,r,l⟩:=hl i x v hN e hv
 have fin:EP X pins U Q u s:=⟨v,H,I,r,h⟩
 rcases l with ⟨hk,hm⟩ | ⟨hk,c,hc,hcell⟩
 .exact Yas (wpAny_loadName_local I.ok.kind hk hn hm fin) hd
 .rcases hk with hk | hk
  .exact Yas (wpAny_loadName_cell I.ok.kind hk hc hcell fin) hd
  .exact Yas (wpAny_loadName_free I.ok.kind hk hc hcell fin hcd) hd
theorem zai{i j pos}:PE X (.Constant (.int i) j pos) (tC (.int i)):=fun _ _ _ H _ I h=>wpAny_Constant_int ⟨.int i,H,I.tok _,⟨_,rfl⟩,h⟩
theorem zs0{b j pos}:PE X (.Constant (.bool b) j pos) (tC (.bl b)):=fun _ _ _ H _ I h=>Constant_bool ⟨.bl b,H,I,rfl,h⟩
theorem zap{x j pos}:PE X (.Constant (.str x) j pos) (tC (.str x)):=fun _ _ _ H _ I h=>Zr4 ⟨.str x,H,I.tok _,⟨_,rfl⟩,h⟩
noncomputable def Gl(X:Cx)(x:Str):Prop:=X.env.kindOf x=some .globalImplicit
theorem zt2{E:Zll->Zlo->Prop}{pins:List (Addr×Obj)}{s:Zlo}{U:St}{H:Hp}{x:Str}{u:Zll}{pos:Pos}{Q:Zll->Zlo->Prop}(I:Inv X pins U H s)(hg:Gl X x)(hm:X.mg x=some u)(h:Q u s)
  (hd:(x == ("__debug__" : Str))=false:=by decide):Zl8 (Zmh X.prog X.w) X.A (eval (.Name x pos) X.env) Q E s :=
 Zvf I.ok.kind hg (Calls.loadGlobal_global (by rw[I.ok.glob];exact I.mod.glob.keeps I.bk) hm h) hd
theorem zod{E:Zll->Zlo->Prop}{pins:List (Addr×Obj)}{s:Zlo}{U:St}{H:Hp}{x:Str}{u:Zll}{pos:Pos}{Q:Zll->Zlo->Prop}(I:Inv X pins U H s)(hg:Gl X x)(hm:X.mg x=none)(hv:Zsn x=some u)(h:Q u s)
  (hn:x ≠ "__name__" := by decide) (hd:(x == ("__debug__" : Str))=false:=by decide):Zl8 (Zmh X.prog X.w) X.A (eval (.Name x pos) X.env) Q E s:=by
 obtain⟨mb,h1,h2⟩:=I.mod.blt
 exact Zvf I.ok.kind hg (Calls.loadGlobal_builtin (by rw[I.ok.glob];exact I.mod.glob.keeps I.bk) hm (by rw[I.ok.blt];exact h1.keeps I.bk) ((h2 x hn).trans hv) h) hd
theorem zee{x:Str}{v:V}{u:Zll}{pos:Pos}(hg:Gl X x)(hm:X.mg x=some u)(r:RelV v u)(hd:(x == ("__debug__" : Str))=false:=by decide):PE X (.Name x pos) (tC v) :=
 fun _ _ _ H _ I h=>zt2 I hg hm ⟨v,H,I,r,h⟩ hd
theorem zo4{x:Str}{v:V}{u:Zll}{pos:Pos}(hg:Gl X x)(hm:X.mg x=none)(hv:Zsn x=some u)(r:RelV v u)(hn:x ≠ "__name__" := by decide)(hd:(x == ("__debug__" : Str))=false:=by decide):PE X (.Name x pos) (tC v) :=
 fun _ _ _ H _ I h=>zod I hg hm hv ⟨v,H,I,r,h⟩ hn hd
variable{a b:Expr}{ta tb:TE}{pos:Pos}
noncomputable def PC(X:Cx)(op:Zz6)(a b:Expr)(t:TE):Prop :=
 ∀(pins:List (Addr×Obj)) (s:Zlo) (U:St) (H:Hp) (Q:VK),Inv X pins U H s->t U H Q ->
  Zl8 (Zmh X.prog X.w) X.A (eval a X.env) (fun v s₁=>Zl8 (Zmh X.prog X.w) X.A (eval b X.env) (fun u s₂=>Zl8 (Zmh X.prog X.w) X.A (Zop op v u) (EP X pins U Q) X.xe s₂) X.xe s₁) X.xe s
noncomputable def tB(t:TE):TT:=fun U H Q=>t U H fun x H1=>∃c,x= .bl c/\Q c H1
theorem yj3{op:Zz6}{t:TE}(h:PC X op a b t)(h1:Zs9 op b=false:=by first | exact nobehind _ (by decide) (by decide) | rfl):PT X (.Compare a [op] [b] pos) (tB t):=by
 intro pins s U H Q I hw
 refine Zyr (thn (h pins s U H _ I hw) fun v s1 h1=>thn h1 fun u s2 h2=>thn h2 fun c s3 hz9=>?_) h1
 obtain⟨x,H1,I1,r1,q1⟩:=hz9
 obtain⟨d,rfl,q⟩:=q1
 cases r1
 exact Zn0 ⟨H1,I1,q⟩
theorem zhg{e:Expr}{t:TE}(h:PE X e t)(he:∀whole,isTrue e X.env whole=(do let v <- whole;Zxv e.pos;Zwu [v] (truthy v)):=by intro _;rfl):PT X e (tB t):=by
 intro pins s U H Q I hw
 refine isTrue_plain (thn (h pins s U H _ I hw) fun v s1 hz9=>?_) (he _)
 obtain⟨x,H1,I1,r1,q1⟩:=hz9
 obtain⟨d,rfl,q⟩:=q1
 cases r1
 exact Zn0 ⟨H1,I1,q⟩
variable{tA tB':TT}{rest:List Expr}
noncomputable def tAnd(t u:TT):TT:=fun U H Q=>t U H fun c H1=>if c=true then u U H1 Q else Q false H1
noncomputable def tOr(t u:TT):TT:=fun U H Q=>t U H fun c H1=>if c=true then Q true H1 else u U H1 Q
noncomputable def tNot(t:TT):TT:=fun U H Q=>t U H fun c H1=>Q (!c) H1
theorem zgq(ha:PT X a tA):PW X (.BoolOp .And [a] pos) tA:=by
 intro wh pins s U H Q I h
 refine isTrue_and (thn (ha pins s U H Q I h) fun c s1 e=>?_)
 cases c with
 | true=>exact isTrue_and_nil e
 | false=>exact e
theorem zmz(ha:PT X a tA):PW X (.BoolOp .Or [a] pos) tA:=by
 intro wh pins s U H Q I h
 refine isTrue_or (thn (ha pins s U H Q I h) fun c s1 e=>?_)
 cases c with
 | false=>exact isTrue_or_nil e
 | true=>exact e
theorem zir(ha:PT X a tA)(hb:PW X (.BoolOp .And (b::rest) pos) tB'):PW X (.BoolOp .And (a::b::rest) pos) (tAnd tA tB'):=by
 intro wh pins s U H Q I h
 refine isTrue_and (thn (ha pins s U H _ I h) fun c s1 hz9=>?_)
 obtain⟨H1,I1,q1⟩:=hz9
 cases c with
 | true=>exact hb wh pins s1 U H1 Q I1 q1
 | false=>exact⟨H1,I1,q1⟩
theorem zsu(ha:PT X a tA)(hb:PW X (.BoolOp .Or (b::rest) pos) tB'):PW X (.BoolOp .Or (a::b::rest) pos) (tOr tA tB'):=by
 intro wh pins s U H Q I h
 refine isTrue_or (thn (ha pins s U H _ I h) fun c s1 hz9=>?_)
 obtain⟨H1,I1,q1⟩:=hz9
 cases c with
 | true=>exact⟨H1,I1,q1⟩
 | false=>exact hb wh pins s1 U H1 Q I1 q1
theorem zkq(ha:PT X a tA):PT X (.UnaryOp .Not a pos) (tNot tA):=by
 intro pins s U H Q I h
 exact isTrue_not (ha pins s U H (fun c H1=>Q (!c) H1) I h)
noncomputable def ykf(ta tb:TE):TE:=fun U H Q=>ta U H fun x H1=>∃c,x= .bl c/\if c=true then tb U H1 Q else Q (.bl false) H1
noncomputable def tOrV(ta tb:TE):TE:=fun U H Q=>ta U H fun x H1=>∃c,x= .bl c/\if c=true then Q (.bl true) H1 else tb U H1 Q
noncomputable def yly(ta:TE):TE:=fun U H Q=>ta U H fun x H1=>∃c,x= .bl c/\Q (.bl (!c)) H1
theorem zku{op}{t:TE}(h:PE X a t):PE X (.BoolOp op [a] pos) t:=fun pins s U H Q I hw=>BoolOp_one (h pins s U H Q I hw)
theorem zm2(ha:PE X a ta)(hb:PE X (.BoolOp .And (b::rest) pos) tb):PE X (.BoolOp .And (a::b::rest) pos) (ykf ta tb):=by
 intro pins s U H Q I h
 refine BoolOp_and (thn (ha pins s U H _ I h) fun v s1 hz9=>?_)
 obtain⟨x,H1,I1,r1,q1⟩:=hz9
 obtain⟨c,rfl,q1⟩:=q1
 cases r1
 refine Zn0 ?_
 cases c with
 | true=>exact hb pins s1 U H1 Q I1 q1
 | false=>exact⟨.bl false,H1,I1,rfl,q1⟩
theorem yjq(ha:PE X a ta)(hb:PE X (.BoolOp .Or (b::rest) pos) tb):PE X (.BoolOp .Or (a::b::rest) pos) (tOrV ta tb):=by
 intro pins s U H Q I h
 refine BoolOp_or (thn (ha pins s U H _ I h) fun v s1 hz9=>?_)
 obtain⟨x,H1,I1,r1,q1⟩:=hz9
 obtain⟨c,rfl,q1⟩:=q1
 cases r1
 refine Zn0 ?_
 cases c with
 | false=>exact hb pins s1 U H1 Q I1 q1
 | true=>exact⟨.bl true,H1,I1,rfl,q1⟩
theorem ycb(ha:PE X a ta):PE X (.UnaryOp .Not a pos) (yly ta):=by
 intro pins s U H Q I h
 refine UnaryOp_ (thn (ha pins s U H _ I h) fun v s1 hz9=>?_)
 obtain⟨x,H1,I1,r1,q1⟩:=hz9
 obtain⟨c,rfl,q1⟩:=q1
 cases r1
 exact not_of (Zn0 ⟨.bl (!c),H1,I1,rfl,q1⟩)
noncomputable def tIf(t:TT)(ta tb:TE):TE:=fun U H Q=>t U H fun c H1=>if c=true then ta U H1 Q else tb U H1 Q
theorem ydu{c:Expr}(hc:PT X c tA)(ha:PE X a ta)(hb:PE X b tb):PE X (.IfExp c a b pos) (tIf tA ta tb):=by
 intro pins s U H Q I h
 refine wpAny_IfExp (thn (hc pins s U H _ I h) fun d s1 hz9=>?_)
 obtain⟨H1,I1,q1⟩:=hz9
 cases d with
 | true=>exact ha pins s1 U H1 Q I1 q1
 | false=>exact hb pins s1 U H1 Q I1 q1
end
noncomputable def SqL(K:Zlh)(H:Hp)(a:Addr)(xs:List V):Prop :=
 Rd H a (.lst xs) \/
  ∃(o:Obj) (its:Array Zll) (n:Nat),K.lookup a=some o/\o.cls= .type "list" /\ o.dict=none/\o.data= .seq its n/\its.size<=sizeLine/\Vals xs its.toList
noncomputable def SqT(K:Zlh)(H:Hp)(a:Addr)(xs:List V):Prop :=
 Rd H a (.tup xs) \/
  ∃(o:Obj) (its:Array Zll) (n:Nat),K.lookup a=some o/\o.cls= .type "tuple" /\ o.data= .seq its n/\its.size<=sizeLine/\Vals xs its.toList
noncomputable def absV:Zll->Option V
 | .none=>some .non
 | .bool b=>some (.bl b)
 | .int i _=>some (.int i)
 | .str x _=>some (.str x)
 | .bytes b _=>some (.byt b)
 | .float b _=>some (.flt b)
 | .ref a=>some (.ref a)
 | .type n=>some (.ty n)
 | _=>none
theorem RelV.abs{x:V}{u:Zll}(r:RelV x u):absV u=some x:=by
 cases x with
 | non=>cases r;rfl
 | bl _=>cases r;rfl
 | int _=>obtain⟨t,rfl⟩:=r;rfl
 | str _=>obtain⟨t,rfl⟩:=r;rfl
 | byt _=>obtain⟨t,rfl⟩:=r;rfl
 | flt _=>obtain⟨t,rfl⟩:=r;rfl
 | ref _=>cases r;rfl
 | ty _=>cases r;rfl
theorem RelV.inj{x y:V}{u:Zll}(r:RelV x u)(q:RelV y u):x=y:=Zni (r.abs.symm.trans q.abs)
theorem Vals.inj:∀{xs ys:List V} {us:List Zll},Vals xs us->Vals ys us->xs=ys
 | _,_,_,.nil,.nil=>rfl
 | _,_,_,.cons r t,.cons r' t'=>by rw[r.inj r',Vals.inj t t']
section
variable{X:Cx}{pins:List (Addr×Obj)}{U:St}{H:Hp}{s:Zlo}{a:Addr}{xs ys:List V}
theorem SqL.of{K:Zlh}(h:H a=some (.lst xs)):SqL K H a xs:=.inl (.inl h)
theorem SqT.of{K:Zlh}(h:H a=some (.tup xs)):SqT K H a xs:=.inl (.inl h)
theorem Inv.list(I:Inv X pins U H s)(h:SqL X.K H a xs):∃its:List Zll,Vals xs its/\PlainL s.heap a its.toArray/\xs.length<=sizeLine:=by
 rcases h with h | ⟨o,its,n,hk,hc,hd,hs,hz,r⟩
 .obtain⟨z,its,n,r,e⟩:=h.ok I.hok
  exact⟨its,r,⟨_,n,e,rfl,rfl,rfl⟩,z⟩
 .refine⟨its.toList,r,⟨o,n,I.kIn a o hk,hc,hd,by simpa using hs⟩,?_⟩
  have e:=r.length
  simp only[Zm4] at e
  omega
theorem Inv.tuple(I:Inv X pins U H s)(h:SqT X.K H a xs):∃its:List Zll,Vals xs its/\IsTup s.heap a its.toArray/\xs.length<=sizeLine:=by
 rcases h with h | ⟨o,its,n,hk,hc,hs,hz,r⟩
 .obtain⟨z,its,r,p⟩:=h.ok I.hok
  exact⟨its,r,p,z⟩
 .refine⟨its.toList,r,⟨o,I.kIn a o hk,hc,n,by simpa using hs⟩,?_⟩
  have e:=r.length
  simp only[Zm4] at e
  omega
theorem Inv.list_inj(I:Inv X pins U H s)(h:SqL X.K H a xs)(h':SqL X.K H a ys):xs=ys:=by
 obtain⟨its,r,⟨o,n,e,_,_,d⟩,_⟩:=I.list h
 obtain⟨its',r',⟨o',n',e',_,_,d'⟩,_⟩:=I.list h'
 rw[e] at e';cases e'
 rw[d] at d'
 injection d' with d1 _
 have:its=its':=by simpa using congrArg Array.toList d1
 subst this
 exact r.inj r'
end
noncomputable abbrev Cx.wish(X:Cx)(E:Zll->Zlo->Prop):Cx:={ X with xe:=E }
noncomputable abbrev Cx.nox(X:Cx):Cx:=X.wish fun _ _=>False
theorem Cx.Ok.wish{X:Cx}(ok:X.Ok)(E:Zll->Zlo->Prop):(X.wish E).Ok :=
 ⟨ok.mod,ok.kind,ok.glob,ok.blt,ok.above,ok.inj,ok.has,ok.cab,ok.hd,ok.frames,ok.stk,ok.exf,ok.bs,ok.bsz,ok.noex,ok.exfs,ok.funs,ok.frf⟩
theorem Cx.Ok.unwish{X:Cx}{E:Zll->Zlo->Prop}(ok:(X.wish E).Ok):X.Ok :=
 ⟨ok.mod,ok.kind,ok.glob,ok.blt,ok.above,ok.inj,ok.has,ok.cab,ok.hd,ok.frames,ok.stk,ok.exf,ok.bs,ok.bsz,ok.noex,ok.exfs,ok.funs,ok.frf⟩
section
variable{X:Cx}{pins:List (Addr×Obj)}{U:St}{H:Hp}{s:Zlo}{E:Zll->Zlo->Prop}
theorem Inv.wish(I:Inv X pins U H s)(E:Zll->Zlo->Prop):Inv (X.wish E) pins U H s:=⟨I.ok.wish E,I.os,I.bare,I.base,I.loc,I.cell,I.free,I.freeC,I.pin,I.hok,I.len⟩
theorem Inv.unwish(I:Inv (X.wish E) pins U H s):Inv X pins U H s:=⟨I.ok.unwish,I.os,I.bare,I.base,I.loc,I.cell,I.free,I.freeC,I.pin,I.hok,I.len⟩
theorem SP.unwish{D:Ends}{f:Flow}{s':Zlo}(h:SP (X.wish E) pins D f s'):SP X pins D f s':=by
 cases f with
 | next=>obtain⟨U',H',I,q⟩:=h;exact⟨U',H',I.unwish,q⟩
 | brk=>obtain⟨U',H',I,q⟩:=h;exact⟨U',H',I.unwish,q⟩
 | cont=>obtain⟨U',H',I,q⟩:=h;exact⟨U',H',I.unwish,q⟩
 | ret u=>obtain⟨v,U',H',I,r,q⟩:=h;exact⟨v,U',H',I.unwish,r,q⟩
theorem PSs.nox{st:List Stmt}{t:TS}(h:PSs X.nox st t):PSs X st t:=fun pins s U H D I hw =>
 Zn1 (h pins s U H D (I.wish _) hw) (fun _ _ q=>q.unwish) fun _ _ z=>Zpm z
end
section
variable{X:Cx}{st:Stmt}{rest:List Stmt}{t u:TS}{e:Expr}{te:TE}{pos:Pos}
noncomputable def ykg:TS:=fun D U H=>D.nx U H
noncomputable def tSeq(t u:TS):TS:=fun D U H=>t { D with nx:=u D } U H
theorem za2:PSs X [] ykg:=fun _ _ U H _ I h=>Zsf ⟨U,H,I,h⟩
theorem zag(h1:PS X st t)(h2:PSs X rest u):PSs X (st::rest) (tSeq t u):=by
 intro pins s U H D I h
 refine Zr2 (thn (h1 pins s U H { D with nx:=u D } I h) fun f s1 q=>?_)
 cases f with
 | next =>
  obtain⟨U',H',I',q⟩:=q
  exact h2 pins s1 U' H' D I' q
 | ret v=>exact q
 | brk=>exact q
 | cont=>exact q
theorem zah(h1:PS X st t):PSs X [st] t:=by
 intro pins s U H D I h
 refine Zr2 (thn (h1 pins s U H D I h) fun f s1 q=>?_)
 cases f with
 | next=>exact Zsf q
 | ret v=>exact q
 | brk=>exact q
 | cont=>exact q
theorem Inv.quiet{pins:List (Addr×Obj)}{U:St}{H:Hp}{s:Zlo}(I:Inv X pins U H s):interactive X.env=false:=by simp[interactive,I.ok.kind]
noncomputable def zys(te:TE):TS:=fun D U H=>te U H fun _ H1=>D.nx U H1
theorem zel(he:PE X e te)(hs:Zs0 e none pos.line X.env=pure false:=by rfl):PS X (.Expr e pos) (zys te):=by
 intro pins s U H D I h
 exact wpAny_Expr_any (thn (he pins s U H _ I h) fun v s1 ⟨x,H1,I1,r1,q1⟩=>⟨U,H1,I1,q1⟩) I.quiet hs
noncomputable def tRet(te:TE):TS:=fun D U H=>te U H D.rt
theorem zao(he:PE X e te):PS X (.Return (some e) pos) (tRet te):=by
 intro pins s U H D I h
 exact wpAny_Return_some (thn (he pins s U H _ I h) fun v s1 ⟨x,H1,I1,r1,q1⟩=>⟨x,U,H1,I1,r1,q1⟩)
noncomputable def tIfS(c:TT)(t u:TS):TS:=fun D U H=>c U H fun b H1=>if b=true then t D U H1 else u D U H1
theorem zcn{c:Expr}{a b:List Stmt}{tc:TT}(hc:PT X c tc)(ha:PSs X a t)(hb:PSs X b u):PS X (.If c a b pos) (tIfS tc t u):=by
 intro pins s U H D I h
 refine wpAny_If (thn (hc pins s U H _ I h) fun d s1 hz9=>?_)
 obtain⟨H1,I1,q1⟩:=hz9
 cases d with
 | true=>exact ha pins s1 U H1 D I1 q1
 | false=>exact hb pins s1 U H1 D I1 q1
noncomputable def ykv:TS:=fun _ _ _=>False
theorem zjc:PS X st ykv:=fun _ _ _ _ _ _ h=>h.elim
end
noncomputable abbrev TG:=V->St->Hp->(St->Hp->Prop)->Prop
noncomputable abbrev TGs:=List V->St->Hp->(St->Hp->Prop)->Prop
noncomputable def PG(X:Cx)(target:Expr)(t:TG):Prop :=
 ∀(pins:List (Addr×Obj)) (s:Zlo) (U:St) (H:Hp) (v:V) (u:Zll) (Q:St->Hp->Prop),Inv X pins U H s->RelV v u->t v U H Q ->
  Zl8 (Zmh X.prog X.w) X.A (Yae target X.env u) (fun _ s'=>∃U' H',Inv X pins U' H' s'/\Q U' H') X.xe s
noncomputable def PGs(X:Cx)(ts:List Expr)(t:TGs):Prop :=
 ∀(pins:List (Addr×Obj)) (s:Zlo) (U:St) (H:Hp) (vs:List V) (us:List Zll) (Q:St->Hp->Prop),Inv X pins U H s->Vals vs us->t vs U H Q ->
  Zl8 (Zmh X.prog X.w) X.A (Zx1 ((Zvl ts X.env).map (·.2)) us) (fun _ s'=>∃U' H',Inv X pins U' H' s'/\Q U' H') X.xe s
section
variable{X:Cx}{pos:Pos}
noncomputable def zin(i:Nat):TG:=fun v U H Q=>Q (U.set i (some v)) H
theorem zbk{i:Nat}{x:Str}(hN:X.N.Nodup)(hi:X.N[i]? = some x)(hx:Loc X.env.scope x)(hf:X.fn x=true\/X.env.scope.names.lookup x=some .local:=by first | exact .inl rfl | exact .inr rfl | assumption):PG X (.Name x pos) (zin i):=by
 intro pins s U H v u Q I r h
 exact Yar (zik I hN hi hx r (fun s' I'=>⟨_,H,I',h⟩) hf)
noncomputable def gNil:TGs:=fun vs U H Q=>vs=[]/\Q U H
noncomputable def yhg(t:TG)(u:TGs):TGs:=fun vs U H Q=>∃v r,vs=v::r/\t v U H fun U' H'=>u r U' H' Q
theorem znd:PGs X [] gNil:=by
 intro pins s U H vs us Q I r h
 obtain⟨e,h⟩:=h
 subst e
 cases r
 exact Ya0 ⟨U,H,I,h⟩
theorem zc6{e:Expr}{es:List Expr}{t:TG}{u:TGs}(h1:PG X e t)(h2:PGs X es u)
  (hs:(Zvl (e::es) X.env).map (·.2)=Yae e X.env::(Zvl es X.env).map (·.2):=by rfl):PGs X (e::es) (yhg t u):=by
 intro pins s U H vs us Q I r h
 obtain⟨v,vr,e1,h⟩:=h
 subst e1
 cases r with
 | cons r rr =>
  rw[hs]
  refine Zu9 (thn (h1 pins s U H _ _ _ I r h) fun _ s1 hz9=>?_)
  obtain⟨U1,H1,I1,q1⟩:=hz9
  exact h2 pins s1 U1 H1 _ _ Q I1 rr q1
noncomputable def gTup(K:Zlh)(n:Nat)(t:TGs):TG:=fun v U H Q=>∃a xs,v= .ref a/\SqT K H a xs/\xs.length=n/\t xs U H Q
theorem zru{es:List Expr}{k:Nat}{t:TGs}{n:Nat}(hc:X.calm=true)(h:PGs X es t)
  (hn:(Zvl es X.env).length=n:=by rfl) (hst:(Zvl es X.env).findIdx? (·.1)=none:=by rfl):PG X (.Tuple es k pos) (gTup X.K n t):=by
 intro pins s U H v u Q I r hw
 obtain⟨a,xs,e1,hq,hl,hw⟩:=hw
 subst e1
 cases r
 obtain⟨its,rv,ht,hz⟩:=I.tuple hq
 refine assign_Tuple_tuple (I.ok.hd hc) ht (by simp[hn,<- hl,rv.length]) hst fun h' hx=>?_
 have I1:Inv X pins U H { s with heap:=h' }:=I.kept (t':=s.toks) fun b o e=>hx b o (Zmb (Zl4 e)) e
 exact h pins _ U H xs _ Q I1 (by simpa using rv) hw
noncomputable def tAsg(te:TE)(g:TG):TS:=fun D U H=>te U H fun x H1=>g x U H1 D.nx
theorem ygq{i:Nat}{x:Str}{e:Expr}{te:TE}{pos':Pos}(hN:X.N.Nodup)(hi:X.N[i]? = some x)(hx:Loc X.env.scope x)(he:PE X e te)(hs:Zs0 e (some (.Name x pos')) pos.line X.env=pure false:=by rfl)(hf:X.fn x=true\/X.env.scope.names.lookup x=some .local:=by first | exact .inl rfl | exact .inr rfl | assumption) :
  PS X (.Assign [.Name x pos'] e pos) (tAsg te (zin i)):=by
 intro pins s U H D I h
 refine Zvi (thn (he pins s U H _ I h) fun v s1 hz9=>?_) hs
 obtain⟨y,H1,I1,r1,q1⟩:=hz9
 exact zik I1 hN hi hx r1 (fun s2 I2=>⟨_,H1,I2,q1⟩) hf
noncomputable def tPar(i j:Nat)(ta:TA):TS:=fun D U H=>ta U H fun vs H1=>∃v w,vs=[v,w]/\D.nx ((U.set i (some v)).set j (some w)) H1
theorem yjx{i j:Nat}{x y:Str}{a b:Expr}{ta:TA}{px py pt:Pos}{kt k2 pt2}(hc:X.calm=true)(hN:X.N.Nodup)(hi:X.N[i]? = some x)(hj:X.N[j]? = some y)(hij:i≠j)
  (hx:X.env.scope.names.lookup x=some .local) (hy:X.env.scope.names.lookup y=some .local) (ha:PA X [a,b] ta)
  (hw:swappedStores [.Tuple [.Name x px,.Name y py] kt pt] (.Tuple [a,b] k2 pt2) X.env=pure (some [x,y]))
  (hs:swapsWithSole [.Tuple [.Name x px,.Name y py] kt pt] (.Tuple [a,b] k2 pt2) pos.line X.env=pure false:=by rfl) :
  PS X (.Assign [.Tuple [.Name x px,.Name y py] kt pt] (.Tuple [a,b] k2 pt2) pos) (tPar i j ta):=by
 intro pins s U H D I h
 rw[exec_Assign_arm]
 refine Zli (Zs8 ?_)
 rw[hs]
 refine Zli (Zln ?_)
 rw[if_neg (by decide)]
 refine Zli (Tuple_ (thn (ha _ pins s U H _ I h) fun us s1 hz9=>?_))
 obtain⟨vs,H1,I1,r1,q1⟩:=hz9
 obtain⟨v,w,e1,q1⟩:=q1
 subst e1
 obtain⟨u1,u2,rfl,rv,rw'⟩:∃u1 u2,us=[u1,u2]/\RelV v u1/\RelV w u2:=by
  cases r1 with
  | cons p q =>
   cases q with
   | cons p' q' =>
    cases q'
    exact⟨_,_,rfl,p,p'⟩
 refine Zo7 ?_ (by show 2<=sizeLine;decide)
 have I2:Inv X pins U H1 { s1 with heap:=s1.heap.push { cls:=.type "tuple", data:=.seq [u1,u2].toArray } }:=I1.kept (t':=s1.toks) fun b o e=>Zlu _ e
 rw[hw]
 refine Zli (Zln ?_)
 show Zl8 (Zmh X.prog X.w) X.A (do rule "assign.swapped-stores";let items <- unpackItems (.ref s1.heap.objs.size) 2 none;Zx1 [fun v=>Yad X.env y v,fun v=>Yad X.env x v] items.reverse;pure Yda) _ _ _
 refine Zli (Zvh (Zli (unpackItems_tuple (items:=#[u1,u2]) (I.ok.hd hc) (Ycr s1.heap _) fun h' hx'=>?_)))
 have I3:=I2.kept (h':=h') (t':=s1.toks) fun b o e=>hx' b o (Zmb (Zl4 e)) e
 show Zl8 _ _ (Zx1 [fun v=>Yad X.env y v,fun v=>Yad X.env x v] [u2,u1] >>= fun _=>pure Yda) _ _ _
 refine Zli (Zu9 (Ycv (zik I3 hN hj (.inl hy) rw' (fun s2 I4=>?_) (.inr hy))))
 refine Zu9 (Ycv (zik I4 hN hi (.inl hx) rv (fun s3 I5=>Ya0 (Zln ?_)) (.inr hx)))
 rw[List.set_comm _ _ (Zne hij)] at I5
 exact⟨_,H1,I5,q1⟩
end
section
variable{X:Cx}{pos:Pos}
noncomputable def ygi(c:TT)(tb:TS):TS:=fun D U H=>∃W:Nat->St->Hp->Prop,(∃m,W m U H) /\ ∀m U H,W m U H ->
 c U H fun b H1=>if b=true then ∃N:St->Hp->Prop,(∀U' H',N U' H'-> ∃m',m'<m/\W m' U' H')/\tb { D with nx:=N,ct:=N,bk:=D.nx } U H1 else D.nx U H1
theorem ydj{c:Expr}{body:List Stmt}{tc:TT}{tb:TS}(hp:Zox (Zmh X.prog X.w) X.A X.env X.xe)(hc:PT X c tc)(hb:PSs X body tb):PS X (.While c body [] pos) (ygi tc tb):=by
 intro pins s U H D I h
 obtain⟨W,⟨m0,w0⟩,turn⟩:=h
 refine wpAny_While (codeAny_whileLoop (fun n s'=>∃U' H',Inv X pins U' H' s'/\W n U' H') ?_ m0 ⟨U,H,I,w0⟩)
 rintro n s1 ⟨U1,H1,I1,w1⟩
 refine Zqd hp (thn (hc pins s1 U1 H1 _ I1 (turn n U1 H1 w1)) fun b s2 hz9=>?_)
 obtain⟨H2,I2,q2⟩:=hz9
 cases b with
 | true =>
  obtain⟨N,hN,q2⟩:=q2
  rw[if_pos rfl]
  refine Zqd hp (thn (hb pins s2 U1 H2 _ I2 q2) fun f s3 q3=>?_)
  cases f with
  | next =>
   obtain⟨U3,H3,I3,n3⟩:=q3
   obtain⟨m',hm,w3⟩:=hN U3 H3 n3
   exact⟨m',hm,U3,H3,I3,w3⟩
  | cont =>
   obtain⟨U3,H3,I3,n3⟩:=q3
   obtain⟨m',hm,w3⟩:=hN U3 H3 n3
   exact⟨m',hm,U3,H3,I3,w3⟩
  | brk=>exact q3
  | ret v=>exact q3
 | false =>
  rw[if_neg Zmc]
  exact Zsf ⟨U1,H2,I2,q2⟩
end
structure It where
 go:Nat->Hp->Prop
 yld:Nat->Hp->V->Hp->Prop
 stop:Nat->Hp->Prop
noncomputable def FpOk(X:Cx)(pins:List (Addr×Obj))(H:Hp)(b:Addr):Prop :=
 H b=none/\b≠X.env.locals/\b∉X.fs/\(b∈X.ex\/X.s₀.heap.objs.size<=b)/\(∀x c,X.env.cells.lookup x=some c->c≠b) /\ ∀p∈X.pn++pins,p.1≠b
theorem Inv.fpOk{X:Cx}{pins:List (Addr×Obj)}{U:St}{H H':Hp}{s:Zlo}{b:Addr}(I:Inv X pins U H s)(hb:s.heap.objs.size<=b)(hn:H' b=none):FpOk X pins H' b:=by
 refine⟨hn,Ztc (Zmf I.lt hb),I.nofs hb,.inr (Znm I.sz hb),fun x c e z=>?_,fun p hp z=>?_⟩
 .obtain⟨v,q⟩:=I.cell x c e
  exact absurd (Zmf q.lt (by rw[z];exact hb)) (Znn _)
 .exact absurd (Zmf (Zl4 (I.pin p hp).1) (by rw[z];exact hb)) (Znn _)
structure Turn(P:Zmi)(w:Zng)(K:Zlh)(tg:Expr)(J:It)(fp:List Addr)(it:Addr)(tn:Nat->Heap->Prop):Prop where
 mem:it∈fp
 obj:∀i h,tn i h-> ∀b∈fp,∃o,h.get? b=some o /\ ∀v,o.data ≠ .cell v
 keep:∀i h h',tn i h->(∀b∈fp,∀o,h.get? b=some o->h'.get? b=some o)->tn i h'
 item:∀(X:Cx),X.prog=P->X.w=w->X.K=K->X.calm=true-> ∀(i:Nat) (pins:List (Addr×Obj)) (s:Zlo) (U:St) (H:Hp) (E:Zll->Zlo->Prop),Inv X pins U H s->(∀b∈fp,FpOk X pins H b)->tn i s.heap->J.go i H ->
  Zl8 (Zmh P w) X.A (Zu6 (.ref it)) (fun r s1=>∃u,r=some u /\
   Zl8 (Zmh P w) X.A (Ztx tg (.ref it) u) (fun _ s2=>∃x H',Inv X pins U H' s2/\RelV x u/\J.yld i H x H'/\tn (i+1) s2.heap /\ ∀b∈fp,H' b=none) E s1) E s
 done:∀(X:Cx),X.prog=P->X.w=w->X.K=K->X.calm=true-> ∀(i:Nat) (pins:List (Addr×Obj)) (s:Zlo) (U:St) (H:Hp) (E:Zll->Zlo->Prop),Inv X pins U H s->(∀b∈fp,FpOk X pins H b)->tn i s.heap->J.stop i H ->
  Zl8 (Zmh P w) X.A (Zu6 (.ref it)) (fun r s1=>r=none/\Inv X pins U H s1) E s
 self:∀(A:Zmu) (i:Nat) (s:Zlo) (Q:Zll->Zlo->Prop) (E:Zll->Zlo->Prop),tn i s.heap->Q (.ref it) s->Zl8 (Zmh P w) A (Zyu (.ref it)) Q E s
noncomputable abbrev TI:=St->Hp->(It->Hp->Prop)->Prop
noncomputable def PIE(X:Cx)(pins:List (Addr×Obj))(U:St)(tg:Expr)(R:It->Hp->Prop)(itv:Zll)(s2:Zlo):Prop :=
 ∃(it:Addr) (fp:List Addr) (tn:Nat->Heap->Prop) (J:It) (H':Hp),itv= .ref it/\Inv X pins U H' s2/\Turn X.prog X.w X.K tg J fp it tn/\tn 0 s2.heap/\(∀b∈fp,FpOk X pins H' b)/\R J H'
noncomputable def PI(X:Cx)(tg iter:Expr)(wi:TI):Prop :=
 ∀(pins:List (Addr×Obj)) (s:Zlo) (U:St) (H:Hp) (R:It->Hp->Prop),Inv X pins U H s->wi U H R ->
  Zl8 (Zmh X.prog X.w) X.A (eval iter X.env) (fun v s1=>Zl8 (Zmh X.prog X.w) X.A (Zyu v) (PIE X pins U tg R) X.xe s1) X.xe s
theorem yje {M : Zy4} {A : Zmu} {E : Zll -> Zlo -> Prop} {s : Zlo} {tg : Expr} {it : Addr} {u : Zll} {o : Obj} {n : String} {vs : Array Zll} {Q : Unit -> Zlo -> Prop} (ho : s.heap.get? it = some o) (hc : o.cls = .type n) (hd : o.data = .fields vs)
    (hn:["enumerate", "zip", "dict_itemiterator", "dict_reverseitemiterator", "odict_iterator", "itertools.zip_longest", "itertools.pairwise"].contains n=false) (hQ:Q () s):Zl8 M A (Ztx tg (.ref it) u) Q E s:=by
  unfold Ztx
  cases tg <;> first
    | exact Zln hQ
    | (cases u <;> first
        | exact Zln hQ
        | (refine Zli (wpAny_load ho ?_)
           rw[hc,hd]
           show Zl8 M A (if (["enumerate", "zip", "dict_itemiterator", "dict_reverseitemiterator", "odict_iterator", "itertools.zip_longest", "itertools.pairwise"].contains n&&vs[0]? == some (Zp0 _))=true then _ else _) Q E s
           rw[if_neg (by intro h;rw[hn,Ztp] at h;cases h)]
           exact Zln hQ))
noncomputable def Itl(K:Zlh)(a:Addr):It :=
 ⟨fun i H=>∃xs x,SqL K H a xs/\xs[i]? = some x,fun i H x H'=>H'=H /\ ∀xs,SqL K H a xs->xs[i]? = some x,fun i H=>∃xs,SqL K H a xs/\xs.length<=i⟩
noncomputable def Itr(lo:Int)(n:Nat):It:=⟨fun i _=>i<n,fun i H x H'=>H'=H/\x= .int (lo+i),fun i _=>n<=i⟩
theorem ybz{P:Zmi}{w:Zng}{K:Zlh}{tg:Expr}(a it:Addr):Turn P w K tg (Itl K a) [it] it (fun i h=>h.IsListIter it a i) where
 mem:=by simp
 obj:=fun i h st b hb=>by
  have e:b=it:=by simpa using hb
  subst e
  obtain⟨o,e,c,d⟩:=st
  exact⟨o,e,fun v z=>by rw[d] at z;cases z⟩
 keep:=fun i h h' st k=>st.at fun o e=>k it (by simp) o e
 item:=by
  intro X hP hw hK hc i pins s U H E I hf st hg
  subst hP hw hK
  obtain⟨xs,x,hq,hx⟩:=hg
  obtain⟨its,rv,p,hz⟩:=I.list hq
  obtain⟨u,hu,ru⟩:=rv.get hx
  obtain⟨f0,f1,f2,f3,f4,f5⟩:=hf it (by simp)
  refine Zye st p.isList (x:=u) (by simpa using hu) fun h' st' sb=>?_
  have I1:Inv X pins U H { s with heap:=h' }:=I.turned (t':=s.toks) (fun b o hb e=>(sb.2 b hb).trans e) f0 f1 f3 f4 f5
  obtain⟨o,e,c,d⟩:=id st'
  exact⟨u,rfl,yje (s:={ s with heap:=h' }) e c d (by decide) ⟨x,H,I1,ru,⟨rfl,fun ys hy=>by rw[I.list_inj hy hq];exact hx⟩,st',fun b hb=>(hf b hb).1⟩⟩
 done:=by
  intro X hP hw hK hc i pins s U H E I hf st hg
  subst hP hw hK
  obtain⟨xs,hq,hx⟩:=hg
  obtain⟨its,rv,p,hz⟩:=I.list hq
  obtain⟨f0,f1,f2,f3,f4,f5⟩:=hf it (by simp)
  have hl:=rv.length
  exact Zyq (I.ok.hd hc) st p.isList (by simp;omega) fun h' eb=>⟨rfl,I.turned (t':=s.toks) (fun b o hb e=>eb b o hb e) f0 f1 f3 f4 f5⟩
 self:=fun _ _ _ _ _ st h=>wpAny_pyIter_listiter st h
theorem zyd{P:Zmi}{w:Zng}{K:Zlh}{tg:Expr}(it:Addr)(lo:Int)(n:Nat):Turn P w K tg (Itr lo n) [it] it (fun i h=>IsRangeIter h it (lo+(i:Nat)*1) ((n:Int) - (i:Nat)) 1) where
 mem:=by simp
 obj:=fun i h st b hb=>by
  have e:b=it:=by simpa using hb
  subst e
  exact⟨_,st,fun v z=>by
   have z':Data.fields _=Data.cell v:=z
   cases z'⟩
 keep:=fun i h h' st k=>k it (by simp) _ st
 item:=by
  intro X hP hw hK hc i pins s U H E I hf st hg
  subst hP hw hK
  obtain⟨f0,f1,f2,f3,f4,f5⟩:=hf it (by simp)
  have W:=Walks.range (prog:=X.prog) (w:=X.w) (I.ok.hd hc) it lo 1 n
  refine W.item i s _ _ hg st fun v h' tk hv st' kk=>?_
  obtain⟨t,rfl⟩:=hv
  have I1:Inv X pins U H { s with heap:=h',toks:=tk }:=I.turned (fun b o hb e=>kk b o (by simpa using hb) e) f0 f1 f3 f4 f5
  refine⟨_,rfl,yje (s:={ s with heap:=h',toks:=tk }) (n:="range_iterator") st' rfl rfl (by decide) ⟨.int (lo+i),H,I1,⟨t,?_⟩,⟨rfl,rfl⟩,st',fun b hb=>(hf b hb).1⟩⟩
  rw[Int.mul_one]
 done:=by
  intro X hP hw hK hc i pins s U H E I hf st hg
  subst hP hw hK
  obtain⟨f0,f1,f2,f3,f4,f5⟩:=hf it (by simp)
  exact wpAny_pyNext_range_end (I.ok.hd hc) st (by have:n<=i:=hg;omega) fun h' eb=>⟨rfl,I.turned (t':=s.toks) (fun b o hb e=>eb b o hb e) f0 f1 f3 f4 f5⟩
 self:=fun _ _ _ _ _ st h=>wpAny_pyIter_rangeiter st h
section
variable{X:Cx}{tg:Expr}
noncomputable def zuu(K:Zlh)(tl:TE):TI:=fun U H R=>tl U H fun x H1=>∃a,x= .ref a/\(∃xs,SqL K H1 a xs)/\R (Itl K a) H1
theorem zbc{l:Expr}{tl:TE}(hl:PE X l tl):PI X tg l (zuu X.K tl):=by
 intro pins s U H R I h
 refine thn (hl pins s U H _ I h) fun v s1 hz9=>?_
 obtain⟨x,H1,I1,r1,q1⟩:=hz9
 obtain⟨a,e,⟨xs,hq⟩,q⟩:=q1
 subst e
 cases r1
 obtain⟨its,rv,p,hz⟩:=I1.list hq
 refine Zqh p.isList ?_
 refine⟨s1.heap.objs.size,[s1.heap.objs.size],_,_,H1,rfl,I1.kept (t':=s1.toks) fun b o e=>Zlu _ e,ybz a _,⟨_,Zl3 _ rfl,rfl,rfl⟩,fun b hb=>?_,q⟩
 have e:b=s1.heap.objs.size:=by simpa using hb
 subst e
 exact I1.fpOk (Zlt _) (I1.hok.fresh (Zlt _))
theorem ycz{pins:List (Addr×Obj)}{U:St}{H:Hp}{s:Zlo}{R:It->Hp->Prop}{E:Zll->Zlo->Prop}{lo hi:Int}{t u v:Tok}{tk:Nat}(I:Inv X pins U H s)(h1 : -(2 ^ 62)<=lo)(h2:lo<2 ^ 62)(h3 : -(2 ^ 62)<=hi)(h4:hi<2 ^ 62)
  (q:R (Itr lo (hi - lo).toNat) H):Zl8 (Zmh X.prog X.w) X.A (Zyu (.ref s.heap.objs.size)) (PIE X pins U tg R) E { s with heap:=s.heap.push { cls:=.type "range", data:=.fields #[.int lo t,.int hi u,.int 1 v] },toks:=tk }:=by
 refine wpAny_pyIter_range (IsRange.new ..) (small_one h1 h2 h3 h4) ?_
 have I1:Inv X pins U H { s with heap:=s.heap.push { cls:=.type "range", data:=.fields #[.int lo t,.int hi u,.int 1 v] },toks:=tk }:=I.kept fun b o e=>Zlu _ e
 refine⟨(s.heap.push { cls:=.type "range", data:=.fields #[.int lo t,.int hi u,.int 1 v] }).objs.size,[(s.heap.push { cls:=.type "range", data:=.fields #[.int lo t,.int hi u,.int 1 v] }).objs.size],_,_,H,rfl,
  I1.kept (t':=tk) fun b o e=>Zlu _ e,zyd _ lo (hi - lo).toNat,?_,fun b hb=>?_,q⟩
 .have e1:lo+((0:Nat):Int)*1=lo:=by simp
  have e2:(((hi - lo).toNat:Nat):Int) - ((0:Nat):Int)=Ybl lo hi 1:=by rw[rangeSize_one];split <;> omega
  show IsRangeIter _ _ (lo+((0:Nat):Int)*1) ((((hi - lo).toNat:Nat):Int) - ((0:Nat):Int)) 1
  rw[e1,e2]
  exact Zl3 _ rfl
 .have e:b=(s.heap.push { cls:=.type "range", data:=.fields #[.int lo t,.int hi u,.int 1 v] }).objs.size:=by simpa using hb
  subst e
  exact I1.fpOk (Zlt _) (I1.hok.fresh (Zlt _))
noncomputable def ym6(ta:TA):TI:=fun U H R=>ta U H fun vs H1=>∃j:Int,vs=[.int j] /\ -(2 ^ 62)<=j/\j<2 ^ 62/\R (Itr 0 j.toNat) H1
theorem zjs{a:Expr}{ta:TA}{p pos:Pos}(hg:Gl X "range")(hm:X.mg "range" = none)(ha:PA X [a] ta)(hs:Zmk [a] X.env=[(false,eval a X.env)]:=by rfl):PI X tg (.Call (.Name "range" p) [a] [] pos) (ym6 ta):=by
 intro pins s U H R I h
 refine Call_ (zod I hg hm boot_range (Zq5 (thn (ha pos pins s U H _ I h) fun us s1 hz9=>?_) hs rfl))
 obtain⟨vs,H1,I1,r1,q1⟩:=hz9
 obtain⟨j,e,q1,q2,q⟩:=q1
 subst e
 cases r1 with
 | cons r rr =>
  cases rr
  obtain⟨t,rfl⟩:=r
  exact call_range_1 (ycz I1 (by omega) (by omega) q1 q2 (by simpa using q))
noncomputable def tFor(wi:TI)(g:TG)(tb:TS):TS:=fun D U H=>wi U H fun J H1=>∃W:Nat->Nat->St->Hp->Prop,(∃m,W 0 m U H1) /\ ∀i m U H,W i m U H ->
 (J.stop i H/\D.nx U H)\/(J.go i H /\ ∃N:St->Hp->Prop,(∀U' H',N U' H'-> ∃m',m'<m/\W (i+1) m' U' H') /\ ∀x H',J.yld i H x H'->g x U H' fun U2 H2=>tb { D with nx:=N,ct:=N,bk:=D.nx } U2 H2)
noncomputable def zry(fp:List Addr)(h:Heap):List (Addr×Obj):=fp.filterMap fun b=>(h.get? b).map fun o=>(b,o)
theorem zif{fp:List Addr}{h:Heap}{b:Addr}{o:Obj}(hb:b∈fp)(e:h.get? b=some o):(b,o)∈zry fp h:=Zr8.mpr ⟨b,hb,by rw[e];rfl⟩
theorem zzk{fp:List Addr}{h:Heap}{p:Addr×Obj}(hp:p∈zry fp h):p.1∈fp/\h.get? p.1=some p.2:=by
 obtain⟨b,hb,e⟩:=Zr8.mp hp
 cases q:h.get? b with
 | none=>rw[q] at e;cases e
 | some o =>
  rw[q] at e
  have e':(b,o)=p:=Zni e
  subst e'
  exact⟨hb,q⟩
theorem Inv.pinned{pins:List (Addr×Obj)}{U:St}{H:Hp}{s:Zlo}{fp:List Addr}(I:Inv X pins U H s)(hf:∀b∈fp,FpOk X pins H b)(ho:∀b∈fp,∃o,s.heap.get? b=some o /\ ∀v,o.data ≠ .cell v):Inv X (pins++zry fp s.heap) U H s :=
 I.pins_of fun p hp=>(Zme.mp hp).elim (fun z=>I.pin p (Zmw _ z)) fun z=>by
  obtain⟨hb,e⟩:=zzk z
  obtain⟨f0,f1,f2,_⟩:=hf p.1 hb
  obtain⟨o,e',d⟩:=ho p.1 hb
  rw[e] at e';cases e'
  exact⟨e,f0,f1,f2,d⟩
theorem Inv.unpinned{pins pl:List (Addr×Obj)}{U:St}{H:Hp}{s:Zlo}(I:Inv X (pins++pl) U H s):Inv X pins U H s:=I.pins_of fun p hp=>I.pin p (Zmw _ (Zoy _ hp))
theorem zem{iter:Expr}{body:List Stmt}{wi:TI}{g:TG}{tb:TS}{pos:Pos}(hp:Zox (Zmh X.prog X.w) X.A X.env X.xe)(hc:X.calm=true)(hi:PI X tg iter wi)(hg:PG X tg g)(hb:PSs X body tb)
  (hs:∀x,Zs2 iter X.env x=pure x:=by intro _;rfl):PS X (.For tg iter body [] pos) (tFor wi g tb):=by
 intro pins s U H D I h
 refine wpAny_For (thn (hi pins s U H _ I h) fun v s1 h1=>thn h1 fun itv s2 h2=>?_) hs
 obtain⟨it,fp,tn,J,H2,e,I2,T,st2,f2,W,⟨m0,w0⟩,turn⟩:=h2
 subst e
 -- what stays true of the iterator's objects through the loop
 have stat:∀{H':Hp},(∀b∈fp,H' b=none)-> ∀b∈fp,FpOk X pins H' b:=fun hn b hb=>⟨hn b hb,(f2 b hb).2⟩
 refine codeAny_forLoop_any (fun n s'=>∃i U' H',Inv X pins U' H' s'/\tn i s'.heap/\(∀b∈fp,H' b=none)/\W i n U' H') ?_ m0 ⟨0,U,H2,I2,st2,fun b hb=>(f2 b hb).1,w0⟩
 rintro n s3 ⟨i,U3,H3,I3,st3,fr3,w3⟩
 rcases turn i n U3 H3 w3 with ⟨stop,qn⟩ | ⟨go,N,hN,step⟩
 .refine Zqd hp (thn (T.done X rfl rfl rfl hc i pins s3 U3 H3 X.xe I3 (stat fr3) st3 stop) fun r s4 hz9=>?_)
  obtain⟨hr,I4⟩:=hz9
  subst hr
  exact Zsf ⟨U3,H3,I4,qn⟩
 .refine Zqd hp (thn (T.item X rfl rfl rfl hc i pins s3 U3 H3 X.xe I3 (stat fr3) st3 go) fun r s4 hz9=>?_)
  obtain⟨u,hr,h4⟩:=hz9
  subst hr
  refine Zqd hp (thn h4 fun _ s5 hz9=>?_)
  obtain⟨x,H5,I5,r5,y5,st5,fr5⟩:=hz9
  have I5':=I5.pinned (stat fr5) (T.obj _ _ st5)
  refine Zqd hp (thn (hg _ s5 U3 H5 x u _ I5' r5 (step x H5 y5)) fun _ s6 hz9=>?_)
  obtain⟨U6,H6,I6,q6⟩:=hz9
  refine Zqd hp (thn (hb _ s6 U6 H6 _ I6 q6) fun f s7 q7=>?_)
  have again:∀{U7:St} {H7:Hp},Inv X (pins++zry fp s5.heap) U7 H7 s7->N U7 H7-> ∃m,m<n /\ ∃i U' H',Inv X pins U' H' s7/\tn i s7.heap/\(∀b∈fp,H' b=none)/\W i m U' H':=fun {U7 H7} I7 n7=>by
   obtain⟨m',hm,w7⟩:=hN U7 H7 n7
   refine⟨m',hm,i+1,U7,H7,I7.unpinned,T.keep _ _ _ st5 fun b hb o e=>(I7.pin (b,o) (Zmw _ (Zmw _ (zif hb e)))).1,fun b hb=>?_,w7⟩
   obtain⟨o,e,d⟩:=T.obj _ _ st5 b hb
   exact(I7.pin (b,o) (Zmw _ (Zmw _ (zif hb e)))).2.1
  cases f with
  | next=>obtain⟨U7,H7,I7,n7⟩:=q7;exact again I7 n7
  | cont=>obtain⟨U7,H7,I7,n7⟩:=q7;exact again I7 n7
  | brk=>obtain⟨U7,H7,I7,q7⟩:=q7;exact⟨U7,H7,I7.unpinned,q7⟩
  | ret v=>obtain⟨x7,U7,H7,I7,r7,q7⟩:=q7;exact⟨x7,U7,H7,I7.unpinned,r7,q7⟩
end
noncomputable abbrev R2:=V->V->Hp->VK->Prop
noncomputable def OpR(X:Cx)(f:Zll->Zll->Sem Zll)(r:R2):Prop :=
 ∀(pins:List (Addr×Obj)) (s:Zlo) (U:St) (H:Hp) (x y:V) (v u:Zll) (Q:VK),Inv X pins U H s->RelV x v->RelV y u->r x y H Q ->
  Zl8 (Zmh X.prog X.w) X.A (f v u) (EP X pins U Q) X.xe s
noncomputable def UnR(X:Cx)(f:Zll->Sem Zll)(r:V->Hp->VK->Prop):Prop :=
 ∀(pins:List (Addr×Obj)) (s:Zlo) (U:St) (H:Hp) (x:V) (v:Zll) (Q:VK),Inv X pins U H s->RelV x v->r x H Q ->
  Zl8 (Zmh X.prog X.w) X.A (f v) (EP X pins U Q) X.xe s
noncomputable def zb4(X:Cx)(f:Zll)(r:List V->Hp->VK->Prop):Prop :=
 ∀(pins:List (Addr×Obj)) (s:Zlo) (U:St) (H:Hp) (xs:List V) (us:List Zll) (Q:VK),Inv X pins U H s->Vals xs us->r xs H Q ->
  Zl8 (Zmh X.prog X.w) X.A (call f us) (EP X pins U Q) X.xe s
noncomputable def tOp(r:R2)(ta tb:TE):TE:=fun U H Q=>ta U H fun x H1=>tb U H1 fun y H2=>r x y H2 Q
noncomputable def tUn(r:V->Hp->VK->Prop)(ta:TE):TE:=fun U H Q=>ta U H fun x H1=>r x H1 Q
noncomputable def rI(C:Int->Int->Prop)(g:Int->Int->V):R2:=fun x y H Q=>∃i j,x= .int i/\y= .int j/\C i j/\Q (g i j) H
noncomputable def rI0(g:Int->Int->V):R2:=fun x y H Q=>∃i j,x= .int i/\y= .int j/\Q (g i j) H
noncomputable def rU(g:Int->V):V->Hp->VK->Prop:=fun x H Q=>∃i,x= .int i/\Q (g i) H
section
variable{X:Cx}{a b c:Expr}{ta tb tc:TE}{pos:Pos}
theorem binT(ha:PE X a ta)(hb:PE X b tb){pins:List (Addr×Obj)}{s:Zlo}{U:St}{H:Hp}{R:V->V->Hp->Prop}(I:Inv X pins U H s)
  (h:ta U H fun x H1=>tb U H1 fun y H2=>R x y H2) {Q:Zll->Zlo->Prop} {f:Zll->Zll->Sem Zll}
  (hf:∀v u s2 x y H2,Inv X pins U H2 s2->RelV x v->RelV y u->R x y H2->Zl8 (Zmh X.prog X.w) X.A (f v u) Q X.xe s2) :
  Zl8 (Zmh X.prog X.w) X.A (eval a X.env) (fun v s₁=>Zl8 (Zmh X.prog X.w) X.A (eval b X.env) (fun u s₂=>Zl8 (Zmh X.prog X.w) X.A (f v u) Q X.xe s₂) X.xe s₁) X.xe s:=by
 refine thn (ha pins s U H _ I h) fun v s1 hz9=>?_
 obtain⟨x,H1,I1,r1,q1⟩:=hz9
 refine thn (hb pins s1 U H1 _ I1 q1) fun u s2 hz9=>?_
 obtain⟨y,H2,I2,r2,q2⟩:=hz9
 exact hf v u s2 x y H2 I2 r1 r2 q2
theorem zau{op:Ydp}{r:R2}(ho:OpR X (Zqr op) r)(ha:PE X a ta)(hb:PE X b tb):PE X (.BinOp a op b pos) (tOp r ta tb):=by
 intro pins s U H Q I h
 exact wpAny_BinOp (binT ha hb I h fun v u s2 x y H2 I2 rx ry q=>ho pins s2 U H2 x y v u Q I2 rx ry q)
theorem ygz{op:UnaryOp}{r:V->Hp->VK->Prop}(ho:UnR X (unaryOp op) r)(ha:PE X a ta):PE X (.UnaryOp op a pos) (tUn r ta):=by
 intro pins s U H Q I h
 exact UnaryOp_ (thn (ha pins s U H _ I h) fun v s1 ⟨x,H1,I1,r1,q1⟩=>ho pins s1 U H1 x v Q I1 r1 q1)
theorem opI{f:Zll->Zll->Sem Zll}{C:Int->Int->Prop}{g:Int->Int->Int}
  (rule:∀(i j:Int) (t u:Tok) (s:Zlo) (Q:Zll->Zlo->Prop) (E:Zll->Zlo->Prop),C i j->Q (.int (g i j) s.toks) { s with toks:=s.toks+1 }->Zl8 (Zmh X.prog X.w) X.A (f (.int i t) (.int j u)) Q E s) :
  OpR X f (rI C fun i j=>.int (g i j)):=by
 intro pins s U H x y v u Q I rx ry h
 obtain⟨i,j,rfl,rfl,hc,q⟩:=h
 obtain⟨t,rfl⟩:=rx
 obtain⟨t',rfl⟩:=ry
 exact rule i j t t' s _ _ hc ⟨.int (g i j),H,I.tok _,⟨_,rfl⟩,q⟩
theorem opI0{f:Zll->Zll->Sem Zll}{g:Int->Int->Int}
  (rule:∀(i j:Int) (t u:Tok) (s:Zlo) (Q:Zll->Zlo->Prop) (E:Zll->Zlo->Prop),Q (.int (g i j) s.toks) { s with toks:=s.toks+1 }->Zl8 (Zmh X.prog X.w) X.A (f (.int i t) (.int j u)) Q E s) :
  OpR X f (rI0 fun i j=>.int (g i j)):=by
 intro pins s U H x y v u Q I rx ry h
 obtain⟨i,j,rfl,rfl,q⟩:=h
 obtain⟨t,rfl⟩:=rx
 obtain⟨t',rfl⟩:=ry
 exact rule i j t t' s _ _ ⟨.int (g i j),H,I.tok _,⟨_,rfl⟩,q⟩
theorem opB0{f:Zll->Zll->Sem Zll}{g:Int->Int->Bool}
  (rule:∀(i j:Int) (t u:Tok) (s:Zlo) (Q:Zll->Zlo->Prop) (E:Zll->Zlo->Prop),Q (.bool (g i j)) s->Zl8 (Zmh X.prog X.w) X.A (f (.int i t) (.int j u)) Q E s) :
  OpR X f (rI0 fun i j=>.bl (g i j)):=by
 intro pins s U H x y v u Q I rx ry h
 obtain⟨i,j,rfl,rfl,q⟩:=h
 obtain⟨t,rfl⟩:=rx
 obtain⟨t',rfl⟩:=ry
 exact rule i j t t' s _ _ ⟨.bl (g i j),H,I,rfl,q⟩
noncomputable def CDiv(i j:Int):Prop:=0<j/\j<1073741824
noncomputable def CPow(i j:Int):Prop:=0<=j/\j<=1000000/\i.natAbs<2 ^ 64
noncomputable def CMul(i j:Int):Prop:=(-(2 ^ 64)<i/\i<2 ^ 64)\/(-(2 ^ 64)<j/\j<2 ^ 64)
theorem CMul.ok{i j:Int}(h:CMul i j):IntMulOk i j:=by
 rcases h with ⟨h1,h2⟩ | ⟨h1,h2⟩
 .exact .of_left (Ydf h1 h2)
 .exact .of_right (Ydf h1 h2)
theorem zcd:OpR X (Zqr .Add) (rI0 fun i j=>.int (i+j)):=opI0 fun _ _ _ _ _ _ _ q=>add_int q
theorem yli:OpR X (Zqr .Sub) (rI0 fun i j=>.int (i - j)):=opI0 fun _ _ _ _ _ _ _ q=>sub_int q
theorem zqz:OpR X (Zqr .Mult) (rI CMul fun i j=>.int (i*j)):=opI fun _ _ _ _ _ _ _ hc q=>mul_int q hc.ok
theorem zeh:OpR X (Zqr .FloorDiv) (rI CDiv fun i j=>.int (i / j)):=opI fun i j _ _ _ _ _ hc q=>by
 have h1:(0:Int)<j:=hc.1
 have h2:j<1073741824:=hc.2
 exact floordiv_int (by omega) (by rw[Int.fdiv_eq_ediv_of_nonneg i (by omega)];exact q) (.inl (PyProof.noPylong_small (by omega)))
theorem zb7:OpR X (Zqr .Mod) (rI (fun _ j=>0<j) fun i j=>.int (i % j)):=opI fun i j _ _ _ _ _ hc q=>by
 have h1:(0:Int)<j:=hc
 exact mod_int' (by omega) (by rw[Int.fmod_eq_emod_of_nonneg i (by omega)];exact q)
theorem yl0:OpR X (Zqr .Pow) (rI CPow fun i j=>.int (i ^ j.toNat)):=opI fun _ _ _ _ _ _ _ hc q=>pow_int_small hc.1 hc.2.1 hc.2.2 q
theorem unI{f:Zll->Sem Zll}{g:Int->Int}
  (rule:∀(i:Int) (t:Tok) (s:Zlo) (Q:Zll->Zlo->Prop) (E:Zll->Zlo->Prop),Q (.int (g i) s.toks) { s with toks:=s.toks+1 }->Zl8 (Zmh X.prog X.w) X.A (f (.int i t)) Q E s) :
  UnR X f (rU fun i=>.int (g i)):=by
 intro pins s U H x v Q I rx h
 obtain⟨i,rfl,q⟩:=h
 obtain⟨t,rfl⟩:=rx
 exact rule i t s _ _ ⟨.int (g i),H,I.tok _,⟨_,rfl⟩,q⟩
theorem ycp:UnR X (unaryOp .USub) (rU fun i=>.int (-i)):=unI fun _ _ _ _ _ q=>neg_int q
end
noncomputable def scal:V->V->Bool
 | .non,.non=>true | .non,.int _=>true | .int _,.non=>true | .non,.bl _=>true | .bl _,.non=>true | .non,.str _=>true | .str _,.non=>true
 | .int _,.int _=>true | .bl _,.bl _=>true | .str _,.str _=>true | .byt _,.byt _=>true
 | .int _,.str _=>true | .str _,.int _=>true | .bl _,.str _=>true | .str _,.bl _=>true
 | _,_=>false
noncomputable def rEq:R2:=fun x y H Q=>scal x y=true/\Q (.bl (decide (x=y))) H
noncomputable def rNe:R2:=fun x y H Q=>scal x y=true/\Q (.bl (!decide (x=y))) H
theorem zyt{i j:Int}:decide (V.int i=V.int j)=(i == j):=by
 rw[Zmj]
 simp
theorem yfy{i j:Bool}:decide (V.bl i=V.bl j)=(i == j):=by
 rw[Zmj]
 simp
theorem zzg{i j:Str}:decide (V.str i=V.str j)=(i == j):=by
 rw[Zmj]
 simp
theorem zzt{i j:Array UInt8}:decide (V.byt i=V.byt j)=(i.toList == j.toList):=by
 rw[Zmj]
 cases i
 cases j
 simp
section
variable{X:Cx}{a b c:Expr}{ta tb tc:TE}{pos:Pos}
theorem zbp{pins:List (Addr×Obj)}{U:St}{H:Hp}{s:Zlo}{Q:VK}{k k':Bool}(I:Inv X pins U H s)(q:Q (.bl k) H)(e:k=k'):EP X pins U Q (.bool k') s:=by
 subst e
 exact⟨.bl k,H,I,rfl,q⟩
theorem zdd:OpR X (Zop .Eq) rEq:=by
 intro pins s U H x y v u Q I rx ry h
 obtain⟨hs,q⟩:=h
 cases x with
 | non =>
  cases rx
  cases y with
  | non=>cases ry;exact Yb0 (zbp I q (by simp))
  | bl j=>cases ry;exact Yb2 (zbp I q (by simp))
  | int j=>obtain⟨t',rfl⟩:=ry;exact Yb1 (zbp I q (by simp))
  | str j=>obtain⟨t',rfl⟩:=ry;exact Ybz (zbp I q (by simp))
  | _=>exact absurd (show false=true from hs) Zmc
 | bl i =>
  cases rx
  cases y with
  | non=>cases ry;exact Yb4 (zbp I q (by simp))
  | bl j=>cases ry;exact eq_bool (zbp I q yfy)
  | str j=>obtain⟨t',rfl⟩:=ry;exact Ybe (zbp I q (by simp))
  | _=>exact absurd (show false=true from hs) Zmc
 | int i =>
  obtain⟨t,rfl⟩:=rx
  cases y with
  | non=>cases ry;exact Yb3 (zbp I q (by simp))
  | int j=>obtain⟨t',rfl⟩:=ry;exact eq_int (zbp I q zyt)
  | str j=>obtain⟨t',rfl⟩:=ry;exact Ybd (zbp I q (by simp))
  | _=>exact absurd (show false=true from hs) Zmc
 | str i =>
  obtain⟨t,rfl⟩:=rx
  cases y with
  | non=>cases ry;exact Yby (zbp I q (by simp))
  | bl j=>cases ry;exact Ybc (zbp I q (by simp))
  | int j=>obtain⟨t',rfl⟩:=ry;exact Ybb (zbp I q (by simp))
  | str j=>obtain⟨t',rfl⟩:=ry;exact eq_str (zbp I q zzg)
  | _=>exact absurd (show false=true from hs) Zmc
 | byt i =>
  obtain⟨t,rfl⟩:=rx
  cases y with
  | byt j=>obtain⟨t',rfl⟩:=ry;exact PySem.W.eq_bytes (zbp I q zzt)
  | _=>exact absurd (show false=true from hs) Zmc
 | _=>cases y <;> exact absurd (show false=true from hs) Zmc
theorem zo3:OpR X (Zop .NotEq) rNe:=by
 intro pins s U H x y v u Q I rx ry h
 obtain⟨hs,q⟩:=h
 cases x with
 | non =>
  cases rx
  cases y with
  | non=>cases ry;exact Ybt (zbp I q (by simp))
  | bl j=>cases ry;exact Ybv (zbp I q (by simp))
  | int j=>obtain⟨t',rfl⟩:=ry;exact Ybu (zbp I q (by simp))
  | str j=>obtain⟨t',rfl⟩:=ry;exact Ybs (zbp I q (by simp))
  | _=>exact absurd (show false=true from hs) Zmc
 | bl i =>
  cases rx
  cases y with
  | non=>cases ry;exact Ybx (zbp I q (by simp))
  | bl j=>cases ry;exact ne_bool (zbp I q (congrArg not yfy))
  | str j=>obtain⟨t',rfl⟩:=ry;exact Yba (zbp I q (by simp))
  | _=>exact absurd (show false=true from hs) Zmc
 | int i =>
  obtain⟨t,rfl⟩:=rx
  cases y with
  | non=>cases ry;exact Ybw (zbp I q (by simp))
  | int j=>obtain⟨t',rfl⟩:=ry;exact ne_int (zbp I q (congrArg not zyt))
  | str j=>obtain⟨t',rfl⟩:=ry;exact Ya9 (zbp I q (by simp))
  | _=>exact absurd (show false=true from hs) Zmc
 | str i =>
  obtain⟨t,rfl⟩:=rx
  cases y with
  | non=>cases ry;exact Ybr (zbp I q (by simp))
  | bl j=>cases ry;exact Ya8 (zbp I q (by simp))
  | int j=>obtain⟨t',rfl⟩:=ry;exact Ya7 (zbp I q (by simp))
  | str j=>obtain⟨t',rfl⟩:=ry;exact ne_str (zbp I q (congrArg not zzg))
  | _=>exact absurd (show false=true from hs) Zmc
 | byt i =>
  obtain⟨t,rfl⟩:=rx
  cases y with
  | byt j=>obtain⟨t',rfl⟩:=ry;exact PySem.W.ne_bytes (zbp I q (congrArg not zzt))
  | _=>exact absurd (show false=true from hs) Zmc
 | _=>cases y <;> exact absurd (show false=true from hs) Zmc
theorem ycy:OpR X (Zop .Lt) (rI0 fun i j=>.bl (decide (i<j))):=opB0 fun _ _ _ _ _ _ _ q=>lt_int q
theorem zzr:OpR X (Zop .LtE) (rI0 fun i j=>.bl (decide (i<=j))):=opB0 fun _ _ _ _ _ _ _ q=>le_int q
theorem yel:OpR X (Zop .Gt) (rI0 fun i j=>.bl (decide (j<i))):=opB0 fun _ _ _ _ _ _ _ q=>gt_int q
theorem yar:OpR X (Zop .Lt) (fun x y H Q=>∃i j,x= .str i/\y= .str j/\Q (.bl (decide (i.cps.toList<j.cps.toList))) H):=by
 intro pins s U H x y v u Q I rx ry h
 obtain⟨i,j,rfl,rfl,q⟩:=h
 obtain⟨t,rfl⟩:=rx
 obtain⟨t',rfl⟩:=ry
 exact lt_str (zbp I q rfl)
theorem zrn:OpR X (Zop .In) (fun x y H Q=>∃i j,x= .str i/\y= .str j/\Q (.bl (!(Zux j i 0 j.length 1).isEmpty)) H):=by
 intro pins s U H x y v u Q I rx ry h
 obtain⟨i,j,rfl,rfl,q⟩:=h
 obtain⟨t,rfl⟩:=rx
 obtain⟨t',rfl⟩:=ry
 exact in_str (zbp I q rfl)
theorem zay(b:Expr){op:Zz6}(h:op ≠ .In:=by decide)(h2:op ≠ .NotIn:=by decide):Zs9 op b=false:=by
 have e1:(op == CmpOp.In)=false:=by cases op <;> first | rfl | exact absurd rfl h
 have e2:(op == CmpOp.NotIn)=false:=by cases op <;> first | rfl | exact absurd rfl h2
 cases b <;> simp[Zs9,e1,e2]
theorem zda{op:Zz6}{r:R2}(ho:OpR X (Zop op) r)(ha:PE X a ta)(hb:PE X b tb)(hm:Zs9 op b=false):PE X (.Compare a [op] [b] pos) (tOp r ta tb):=by
 intro pins s U H Q I h
 exact wpAny_Compare1 (binT ha hb I h fun v u s2 x y H2 I2 rx ry q=>ho pins s2 U H2 x y v u Q I2 rx ry q) hm
noncomputable def yc5(t:TE):TT:=fun U H Q=>t U H fun x H'=>∃k,x= .bl k/\Q k H'
theorem zas{op:Zz6}{r:R2}(ho:OpR X (Zop op) r)(ha:PE X a ta)(hb:PE X b tb)(hm:Zs9 op b=false):PT X (.Compare a [op] [b] pos) (yc5 (tOp r ta tb)):=by
 intro pins s U H Q I h
 refine Zyr (thn (ha pins s U H _ I h) fun v s1 ⟨x,H1,I1,r1,q1⟩=>thn (hb pins s1 U H1 _ I1 q1) fun u s2 ⟨y,H2,I2,r2,q2⟩ =>
  thn (ho pins s2 U H2 x y v u _ I2 r1 r2 q2) fun c s3 ⟨z,H3,I3,r3,k,e,q3⟩=>?_) hm
 subst e
 cases r3
 exact Zn0 ⟨H3,I3,q3⟩
noncomputable def zvk(r r':R2)(ta tb tc:TE):TE:=fun U H Q=>ta U H fun x H1=>tb U H1 fun y H2=>r x y H2 fun z H3=>∃k,z= .bl k /\
 (if k=true then tc U H3 fun w' H4=>r' y w' H4 Q else Q (.bl false) H3)
theorem zwi{op op':Zz6}{r r':R2}(ho:OpR X (Zop op) r)(ho':OpR X (Zop op') r')(ha:PE X a ta)(hb:PE X b tb)(hc:PE X c tc)
  (hm:lastMarks [op,op'] [b,c]=false:=by with_unfolding_all rfl):PE X (.Compare a [op,op'] [b,c] pos) (zvk r r' ta tb tc):=by
 intro pins s U H Q I h
 refine Compare_chain (thn (ha pins s U H _ I h) fun v s1 ⟨x,H1,I1,r1,q1⟩=>chain_link (thn (hb pins s1 U H1 _ I1 q1) fun u s2 ⟨y,H2,I2,r2,q2⟩ =>
  thn (ho pins s2 U H2 x y v u _ I2 r1 r2 q2) fun d s3 ⟨z,H3,I3,r3,k,e,q3⟩=>?_)) hm
 subst e
 cases r3
 refine Zn0 ?_
 cases k with
 | false=>exact ite_ff ⟨.bl false,H3,I3,rfl,q3⟩
 | true=>exact ite_tt (chain_last (thn (hc pins s3 U H3 _ I3 q3) fun w' s4 ⟨z',H4,I4,r4,q4⟩=>ho' pins s4 U H4 y z' u w' Q I4 r2 r4 q4))
theorem yd5{op op':Zz6}{r r':R2}(ho:OpR X (Zop op) r)(ho':OpR X (Zop op') r')(ha:PE X a ta)(hb:PE X b tb)(hc:PE X c tc)
  (hm:lastMarks [op,op'] [b,c]=false:=by with_unfolding_all rfl):PT X (.Compare a [op,op'] [b,c] pos) (yc5 (zvk r r' ta tb tc)):=by
 intro pins s U H Q I h
 refine isTrue_chain (thn (ha pins s U H _ I h) fun v s1 ⟨x,H1,I1,r1,q1⟩=>test_link (thn (hb pins s1 U H1 _ I1 q1) fun u s2 ⟨y,H2,I2,r2,q2⟩ =>
  thn (ho pins s2 U H2 x y v u _ I2 r1 r2 q2) fun d s3 ⟨z,H3,I3,r3,k,e,q3⟩=>?_)) hm
 subst e
 cases r3
 refine Zn0 ?_
 cases k with
 | false =>
  obtain⟨k',e',q'⟩:=q3
  cases e'
  exact ite_ff ⟨H3,I3,q'⟩
 | true =>
  refine ite_tt (test_last (thn (hc pins s3 U H3 _ I3 q3) fun w' s4 ⟨z',H4,I4,r4,q4⟩=>thn (ho' pins s4 U H4 y z' u w' _ I4 r2 r4 q4) fun d' s5 hz9=>?_))
  obtain⟨z2,H5,I5,r5,k2,e2,q5⟩:=hz9
  subst e2
  cases r5
  exact Zn0 ⟨H5,I5,q5⟩
theorem zr6:(sizeLine:Nat)<2 ^ 63:=by rw[Zl7];decide
theorem zb6:OpR X (Zqr .Add) (fun x y H Q=>∃i j,x= .str i/\y= .str j/\i.length+j.length<=sizeLine/\Q (.str (i++j)) H):=by
 intro pins s U H x y v u Q I rx ry h
 obtain⟨i,j,rfl,rfl,hz,q⟩:=h
 obtain⟨t,rfl⟩:=rx
 obtain⟨t',rfl⟩:=ry
 exact add_str (fun t' tk=>⟨.str (i++j),H,I.tok _,⟨_,rfl⟩,q⟩) hz
theorem zhi{x:V}{us:List Zll}(r:Vals [x] us):∃u,us=[u]/\RelV x u:=by
 cases r with
 | cons r1 r2=>cases r2;exact⟨_,rfl,r1⟩
theorem zth{x y:V}{us:List Zll}(r:Vals [x,y] us):∃u w',us=[u,w']/\RelV x u/\RelV y w':=by
 cases r with
 | cons r1 r2 =>
  cases r2 with
  | cons r3 r4=>cases r4;exact⟨_,_,rfl,r1,r3⟩
theorem ycx:zb4 X (.builtin "abs") (fun xs H Q=>∃i,xs=[.int i]/\Q (.int (if i<0 then -i else i)) H):=by
 intro pins s U H xs us Q I r h
 obtain⟨i,rfl,q⟩:=h
 obtain⟨u,rfl,t,rfl⟩:=zhi r
 exact call_abs_int fun u tk=>⟨.int (if i<0 then -i else i),H,I.tok _,⟨_,rfl⟩,q⟩
theorem ya2:zb4 X (.type "int") (fun xs H Q=>(∃i,xs=[.int i]/\Q (.int i) H) \/ ∃k,xs=[.bl k]/\Q (.int (if k then 1 else 0)) H):=by
 intro pins s U H xs us Q I r h
 rcases h with ⟨i,rfl,q⟩ | ⟨k,rfl,q⟩
 .obtain⟨u,rfl,t,rfl⟩:=zhi r
  exact call_int_int ⟨.int i,H,I,⟨_,rfl⟩,q⟩
 .obtain⟨u,rfl,r1⟩:=zhi r
  cases r1
  exact call_int_bool ⟨.int (if k then 1 else 0),H,I.tok _,⟨_,rfl⟩,q⟩
theorem yfa:zb4 X (.builtin "ord") (fun xs H Q=>∃x,xs=[.str x]/\x.length=1/\Q (.int (x.cps.getD 0 0:Nat)) H):=by
 intro pins s U H xs us Q I r h
 obtain⟨x,rfl,hz,q⟩:=h
 obtain⟨u,rfl,t,rfl⟩:=zhi r
 exact ord_of_one hz ⟨.int _,H,I.tok _,⟨_,rfl⟩,q⟩
end
structure ObjM(h:Heap)(x dx C:Addr)(mA:Str->Option Zll):Prop where
 obj:h.get? x=some (Zpi C dx)
 ns:h.Ns1 dx mA
 ne:dx≠x
theorem ybi{h:Heap}{dx:Addr}{mA:Str->Option Zll}(n:h.Ns1 dx mA):∃od,h.get? dx=some od /\ ∀name,Zs5 name od=some (mA name):=by
 obtain⟨o,es,ep,ho,hd,hk,_,hm⟩:=n
 refine⟨o,ho,fun name=>?_⟩
 have e:=hm name
 unfold nsFind findBy at e
 rw[<- Array.find?_toList] at e
 unfold Zs5
 rw[hd]
 dsimp only
 split
 .rename_i y q
  rw[q] at e
  exact congrArg some e
 .rename_i q
  rw[q] at e
  have a:es.toList.any (·.refKey)=false:=by
   rw[List.any_eq_false]
   intro y hy
   obtain⟨z,t,hkey⟩:=hk y (Zti.mp hy)
   simp[Ydw,hkey]
  have a':¬ es.toList.any (·.refKey)=true:=by rw[a];exact Zmc
  rw[if_neg a']
  exact congrArg some e
theorem ObjM.look{h:Heap}{x dx C:Addr}{mA:Str->Option Zll}(I:ObjM h x dx C mA):∃od,PySem.W.InstAt h x (Zpi C dx) C (some od) /\ ∀name,Zs5 name od=some (mA name) :=
 let ⟨od,ho,hl⟩:=ybi I.ns
 ⟨od,⟨I.obj,rfl,rfl,ho⟩,hl⟩
section
variable{prog:Zmi}{w:Zng}{A:Zmu}{E:Zll->Zlo->Prop}{s:Zlo}{K:Zlh}{x dx C f:Addr}{mA:Str->Option Zll}{name:Str}{v:Zll}
theorem yie{expr:Bool}{Q:Zll->Zlo->Prop}(X:K.In s.heap)(I:ObjM s.heap x dx C mA)(hg:Zsj K C name=true)(hh:Zt3 K C=true)
  (ha:Zmy K (.ref C) name=some none) (hv:mA name=some v) (hv':Zxl v=true) (h:Q v { s with toks:=s.toks+1 }) :
  Zl8 (Zmh prog w) A (getAttr (.ref x) name expr) Q E s:=by
 obtain⟨od,J,hl⟩:=I.look
 exact PySem.W.get_value X J (Zta hg).1 (PySem.W.findObj_own hh ha rfl (by rw[hl,hv])) hv' h
theorem yc3{pl:Sem Bool}{Q:Zll×List Zll->Zlo->Prop}(X:K.In s.heap)(I:ObjM s.heap x dx C mA)(hg:Zsj K C name=true)
  (hf:Zmy K (.ref C) name=some (some (.ref f))) (ht:Zwd K (.ref f)=true) (hv:mA name=none) (h:Q (.ref f,[.ref x]) s) :
  Zl8 (Zmh prog w) A (Zu8 (.ref x) name pl) Q E s:=by
 obtain⟨od,J,hl⟩:=I.look
 exact PySem.W.method_fn X J (Zta hg).1 (Zta hg).2 hf (beq_iff_eq.mp ht) (by show(Zs5 name od).map (·.isSome)=some false;rw[hl,hv];rfl) h
theorem yim{ns:List Str}{Q:Unit->Zlo->Prop}(X:K.In s.heap)(I:ObjM s.heap x dx C mA)
  (hs:Zmy K (.ref C) "__setattr__" = some (some (.builtin "object.__setattr__"))) (hp:Zxa K C=true) (ht:Zul K C name=some none) (hh:Zt3 K C=true)
  (hw:Zwy mA ns) (hsz:ns.length<=sizeLine)
  (h:∀h',ObjM h' x dx C (fun y=>if y=name then some v else mA y)->Zog dx s.heap h'->Q () { s with heap:=h',toks:=s.toks+2 }) :
  Zl8 (Zmh prog w) A (setAttr (.ref x) name v) Q E s:=by
 obtain⟨od,J,hl⟩:=I.look
 refine PySem.W.set_plain X J hs (PySem.W.osa_open (s:={ s with toks:=s.toks+1 }) (r:=none) X J hp ht fun b=>?_)
 obtain⟨cd,hc,hd'⟩:=PySem.W.any_some hh
 have hx:s.heap.get? x=some ⟨.ref C,some dx,.plain,#[]⟩:=I.obj
 refine Zli (Zln (Zli (Zli (wpAny_loadPart hx (Zli (Ya6 (s:={ s with toks:=s.toks+1 }) (PySem.W.looks_clsIn X hc) ?_))))))
 rw[hd']
 refine Zln (a:=some dx) (Zli (Zln (Zli ?_)))
 refine wpAny_nsSet1 (s:={ s with toks:=s.toks+1 }) I.ns fun h' hn2 hs2=>?_
 obtain⟨oD,esD,epD,hoD,hdD,hcD⟩:=hn2.count (Ybq name v hw)
 refine Zli (wpAny_lookBehind hoD (by rw[hdD];exact pastItsLine_dict (Znm hcD (by rw[Zl1];omega))) ?_)
 exact Zln (h _ ⟨(hs2.2 _ (Zne I.ne)).trans I.obj,hn2,I.ne⟩ hs2)
theorem yeo{R:Yco->Zlo->Prop}{vs:List Zll}{kw:List (Str×Zll)}(X:K.In s.heap)(hm:Zx4 K C=true)
  (hi:Zmy K (.ref C) "__init__" = some (some (.ref f))) (hf:PySem.W.typeIn K (.ref f)=some (.type "function"))
  (h:Zty (Zmh prog w) (A.under (.builtin "type.__call__" ⟨.ref C::vs,kw⟩)) (.call (.ref f) ⟨.ref (s.heap.objs.size+1)::vs,kw⟩) (PySem.W.InitBack (s.heap.objs.size+1) R)
   { s with heap:=(s.heap.push Zok).push (Zpi C s.heap.objs.size) }) :
  Zty (Zmh prog w) A (.call (.ref C) ⟨vs,kw⟩) R s:=by
 obtain⟨hh,g,d,t,os⟩:=s
 exact PySem.W.make_core (PySem.W.makes_of X hm) (PySem.W.looks_findIn X hi) (fun self=>PySem.W.bind_fn X self hf) (.inl rfl) h
end
noncomputable def putF(f:Str)(v:V):List (Str×V)->List (Str×V)
 | []=>[(f,v)]
 | (g,x)::r=>if g=f then (g,v)::r else (g,x)::putF f v r
theorem zng(f g:Str)(v:V):∀fs:List (Str×V),(putF f v fs).lookup g=if g=f then some v else fs.lookup g
 | []=>by
  show Znz g [(f,v)]=_
  by_cases h:g=f
  .have hb:(g == f)=true:=beq_iff_eq.mpr h
   simp only[Znz,hb,if_pos h]
  .have hb:(g == f)=false:=beq_eq_false_iff_ne.mpr h
   simp only[Znz,hb,if_neg h]
 | (k,x)::r=>by
  have ih:=zng f g v r
  rw[show putF f v ((k,x)::r)=(if k=f then (k,v)::r else (k,x)::putF f v r) from rfl]
  by_cases hk:k=f
  .rw[if_pos hk]
   by_cases h:g=k
   .have hb:(g == k)=true:=beq_iff_eq.mpr h
    simp only[Znz,hb,if_pos (h.trans hk)]
   .have hb:(g == k)=false:=beq_eq_false_iff_ne.mpr h
    simp only[Znz,hb,if_neg (fun e:g=f=>h (e.trans hk.symm))]
  .rw[if_neg hk]
   by_cases h:g=k
   .have hb:(g == k)=true:=beq_iff_eq.mpr h
    simp only[Znz,hb,if_neg (fun e:g=f=>hk (h.symm.trans e))]
   .have hb:(g == k)=false:=beq_eq_false_iff_ne.mpr h
    simp only[Znz,hb]
    exact ih
theorem zl4(f:Str)(v:V):∀fs:List (Str×V),f∈(putF f v fs).map (·.1) /\ ∀g,g∈fs.map (·.1)->g∈(putF f v fs).map (·.1)
 | []=>⟨by simp[putF],fun g h=>by simp at h⟩
 | (k,x)::r=>by
  obtain⟨i1,i2⟩:=zl4 f v r
  rw[show putF f v ((k,x)::r)=(if k=f then (k,v)::r else (k,x)::putF f v r) from rfl]
  by_cases hk:k=f
  .rw[if_pos hk]
   subst hk
   exact⟨by simp,fun g h=>by simpa using h⟩
  .rw[if_neg hk]
   refine⟨?_,fun g h=>?_⟩
   .rw[Zl0]
    exact Zlp _ i1
   .rw[Zl0] at h ⊢
    rcases Zly.mp h with e | e
    .exact Zly.mpr (.inl e)
    .exact Zlp _ (i2 g e)
theorem zl9(f:Str)(v:V):∀fs:List (Str×V),(putF f v fs).length<=fs.length+1
 | []=>by simp[putF]
 | (k,x)::r=>by
  have ih:=zl9 f v r
  rw[show putF f v ((k,x)::r)=(if k=f then (k,v)::r else (k,x)::putF f v r) from rfl]
  by_cases hk:k=f
  .rw[if_pos hk,Zl1,Zl1];omega
  .rw[if_neg hk,Zl1,Zl1];omega
theorem RelO.some_of{v:V}{o:Option Zll}(r:RelO (some v) o):∃u,o=some u/\RelV v u:=by
 cases o with
 | none=>exact(show False from r).elim
 | some u=>exact⟨u,rfl,r⟩
theorem RelO.none_of{o:Option Zll}(r:RelO none o):o=none:=by
 cases o with
 | none=>rfl
 | some u=>exact(show False from r).elim
theorem zzv{v:V}{u:Zll}(r:RelV v u):Zxl u=true:=by
 cases v with
 | non=>cases (show u=Znw from r);rfl
 | bl b=>cases (show u=Zqk b from r);rfl
 | int i=>obtain⟨t,e⟩:=(show ∃t,u=Zwx i t from r);cases e;rfl
 | str x=>obtain⟨t,e⟩:=(show ∃t,u=Zt1 x t from r);cases e;rfl
 | byt b=>obtain⟨t,e⟩:=(show ∃t,u=Ya4 b t from r);cases e;rfl
 | flt b=>obtain⟨t,e⟩:=(show ∃t,u=Ya3 b t from r);cases e;rfl
 | ref a=>cases (show u=Znh a from r);rfl
 | ty n=>cases (show u=Zpw n from r);rfl
section
variable{P:Zmi}{w:Zng}{H H':Hp}{h h':Heap}{a C dx:Addr}{fs fs':List (Str×V)}
theorem ztq(hok:HOk P w H h)(e:H a=some (.ins C dx fs)):∃mA,ObjM h a dx C mA/\(∀f,RelO (fs.lookup f) (mA f))/\Zwy mA (fs.map (·.1))/\fs.length<=1000/\H dx=some (.own a):=by
 obtain⟨d,z,ne,ob,mA,n,r,q⟩:=(show zed P w H h a (.ins C dx fs) from hok a _ e)
 exact⟨mA,⟨ob,n,ne⟩,r,q,z,d⟩
end
structure Cls(K:Zlh)(C:Addr):Prop where
 pg:Zsj K C Str.empty=true
 hd:Zt3 K C=true
 po:Zxa K C=true
 sa:Zmy K (.ref C) "__setattr__" = some (some (.builtin "object.__setattr__"))
theorem Cls.get{K:Zlh}{C:Addr}(c:Cls K C)(f:Str):Zsj K C f=true:=c.pg
noncomputable def zbt(K:Zlh)(C:Addr)(f:Str):Prop:=Zmy K (.ref C) f=some none
theorem zbt.taker{K:Zlh}{C:Addr}{f:Str}(n:zbt K C f):Zul K C f=some none:=by
 unfold Zul
 rw[show Zmy K (.ref C) f=some none from n]
 rfl
structure Con(K:Zlh)(C:Addr)(f:Str)(v:V)(u:Zll):Prop where
 at_:Zmy K (.ref C) f=some (some u)
 rel:RelV v u
 get:Zw9 K u "__get__" = some none
 cp:PySem.W.copiedNames.contains f=false
structure Meth(K:Zlh)(C:Addr)(m:Str)(f:Addr):Prop where
 at_:Zmy K (.ref C) m=some (some (.ref f))
 fn:Zwd K (.ref f)=true
 kp:Zqy K (.ref f)=true
section
variable{X:Cx}{pins:List (Addr×Obj)}{U:St}{H:Hp}{s:Zlo}{a C dx:Addr}{fs:List (Str×V)}{f:Str}{v:V}{A:Zmu}{E:Zll->Zlo->Prop}
theorem zxy{b:Bool}{Q:Zll->Zlo->Prop}(I:Inv X pins U H s)(e:H a=some (.ins C dx fs))(c:Cls X.K C)(n:zbt X.K C f)(l:fs.lookup f=some v)
  (h:∀u s',Inv X pins U H s'->RelV v u->Q u s'):Zl8 (Zmh X.prog X.w) A (getAttr (.ref a) f b) Q E s:=by
 obtain⟨mA,O,r,_,_,_⟩:=ztq I.hok e
 obtain⟨u,hu,ru⟩:=RelO.some_of (v:=v) (o:=mA f) (by rw[<- l];exact r f)
 exact yie I.kIn O (c.get f) c.hd n hu (zzv ru) (h u _ (I.tok _) ru)
theorem zj1{m:Str}{g:Addr}{pl:Sem Bool}{Q:Zll×List Zll->Zlo->Prop}(I:Inv X pins U H s)(e:H a=some (.ins C dx fs))(c:Cls X.K C)(k:Meth X.K C m g)(l:fs.lookup m=none)
  (h:Q (.ref g,[.ref a]) s):Zl8 (Zmh X.prog X.w) A (Zu8 (.ref a) m pl) Q E s:=by
 obtain⟨mA,O,r,_,_,_⟩:=ztq I.hok e
 have hn:mA m=none:=RelO.none_of (by rw[<- l];exact r m)
 exact yc3 I.kIn O (c.get m) k.at_ k.fn hn h
theorem zye{y:V}{u:Zll}{Q:Unit->Zlo->Prop}(I:Inv X pins U H s)(e:H a=some (.ins C dx fs))(c:Cls X.K C)(n:zbt X.K C f)(hl:fs.length<1000)(ry:RelV y u)
  (h:∀s',Inv X pins U (upd H a (.ins C dx (putF f y fs))) s'->Q () s'):Zl8 (Zmh X.prog X.w) A (setAttr (.ref a) f u) Q E s:=by
 obtain⟨mA,O,r,wi,_,ho⟩:=ztq I.hok e
 have hz:(fs.map (·.1)).length<=sizeLine:=by rw[Zlm,Zl7];omega
 refine yim I.kIn O c.sa c.po n.taker c.hd wi hz fun h' O' sb=>h _ ?_
 have hd:∃o,h'.get? dx=some o:=let ⟨o,_,_,e',_⟩:=O'.ns;⟨o,e'⟩
 refine I.write (x:=a) (e:=dx) (by rw[e];exact Zsi) (.inr ho) (fun b q hb z=>(sb.2 b hb).trans z) hd ?_
 refine⟨by rw[zat O.ne];exact ho,?_,O.ne,O'.obj,_,O'.ns,fun g=>?_,fun g hg=>?_⟩
 .have:=zl9 f y fs;omega
 .show RelO ((putF f y fs).lookup g) (if g=f then some u else mA g)
  rw[zng]
  by_cases q:g=f
  .rw[if_pos q,if_pos q];exact ry
  .rw[if_neg q,if_neg q];exact r g
 .by_cases q:g=f
  .rw[q];exact(zl4 f y fs).1
  .refine(zl4 f y fs).2 g (wi g fun z=>hg ?_)
   show(if g=f then some u else mA g)=none
   rw[if_neg q];exact z
theorem Inv.made(I:Inv X pins U H s):Inv X pins U (upd (upd H s.heap.objs.size (.own (s.heap.objs.size+1))) (s.heap.objs.size+1) (.ins C s.heap.objs.size []))
  { s with heap:=(s.heap.push Zok).push (Zpi C s.heap.objs.size) }:=by
 have e1:(s.heap.push Zok).get? s.heap.objs.size=some Zok:=Zl3 s.heap rfl
 have e2:((s.heap.push Zok).push (Zpi C s.heap.objs.size)).get? (s.heap.objs.size+1)=some (Zpi C s.heap.objs.size):=by
  have:=Zl3 (s.heap.push Zok) (o:=Zpi C s.heap.objs.size) rfl
  rwa [Zmv] at this
 have e3:(s.heap.push Zok).Ns s.heap.objs.size (fun _=>none):=⟨Zok,#[],_,e1,rfl,(fun e he=>absurd he (by simp)),fun _=>rfl⟩
 have I1:=I.laid (a:=s.heap.objs.size) (o:=.own (s.heap.objs.size+1)) (h':=s.heap.push Zok) (t':=s.toks) (fun b u q=>Zlu _ q) (Zlt _) ⟨_,e1⟩
 refine I1.laid (a:=s.heap.objs.size+1) (o:=.ins C s.heap.objs.size []) (t':=s.toks) (fun b u q=>Zlu _ q) (Zxc (Zmv _ _)) ?_
 have ne:s.heap.objs.size≠s.heap.objs.size+1:=Zmb (Znv _)
 refine⟨by rw[zat ne,zal],Zmt _,ne,e2,fun _=>none,(Heap.Ns1.of_empty e3).at fun o q=>Zlu _ q,fun _=>Zsi,fun y hy=>absurd rfl hy⟩
theorem yhx{prog:Zmi}{w:Zng}{env:Env}{e:Expr}{f:Str}{pos:Pos}{s:Zlo}{Q:Zll->Zlo->Prop}(hb:Zrb e f env (eval e env)=eval e env)
  (h:Zl8 (Zmh prog w) A (eval e env) (fun o s₁=>Zl8 (Zmh prog w) A (getAttr o f true) Q E s₁) E s):Zl8 (Zmh prog w) A (eval (.Attribute e f pos) env) Q E s :=
 Attribute_any_ h (by rw[arm_eval_Attribute,hb])
end
noncomputable def tFld(K:Zlh)(ta:TE)(f:Str):TE:=fun U H Q=>ta U H fun x H1=>∃a C dx fs v,x= .ref a/\H1 a=some (.ins C dx fs)/\Cls K C/\zbt K C f/\fs.lookup f=some v/\Q v H1
noncomputable def sFld(K:Zlh)(ta tv:TE)(f:Str):TS:=fun D U H=>tv U H fun y H1=>ta U H1 fun x H2=>∃a C dx fs,x= .ref a/\H2 a=some (.ins C dx fs)/\Cls K C/\zbt K C f/\fs.length<1000 /\
 D.nx U (upd H2 a (.ins C dx (putF f y fs)))
section
variable{X:Cx}{o e value:Expr}{f:Str}{pos pos' tpos:Pos}{ta tv:TE}
theorem zis(he:PE X e ta)(hb:Zrb e f X.env (eval e X.env)=eval e X.env):PE X (.Attribute e f pos) (tFld X.K ta f):=by
 intro pins s U H Q I h
 refine yhx hb (thn (he pins s U H _ I h) fun u s1 hz9=>?_)
 obtain⟨x,H1,I1,rx,a,C,dx,fs,v,ex,ea,c,n,l,q⟩:=hz9
 subst ex
 obtain rfl:u=Znh a:=rx
 exact zxy I1 ea c n l fun u' s2 I2 ru=>⟨v,H1,I2,ru,q⟩
theorem ziu(ha:PE X o ta)(hv:PE X value tv)(hs:Zs0 value (some (.Attribute o f pos')) pos.line X.env=pure false):PS X (.Assign [.Attribute o f pos'] value pos) (sFld X.K ta tv f):=by
 intro pins s U H D I h
 refine plainObj_wpAny_Assign_Attribute (thn (hv pins s U H _ I h) fun u s1 ⟨y,H1,I1,ry,q⟩=>thn (ha pins s1 U H1 _ I1 q) fun ov s2 hz9=>?_) hs
 obtain⟨x,H2,I2,rx,a,C,dx,fs,ex,ea,c,n,l,q2⟩:=hz9
 subst ex
 obtain rfl:ov=Znh a:=rx
 exact zye I2 ea c n l ry fun s3 I3=>⟨U,_,I3,q2⟩
end
section
variable{X:Cx}{pins:List (Addr×Obj)}{U:St}{H:Hp}{s:Zlo}{A:Zmu}{E:Zll->Zlo->Prop}{Q:Zll->Zlo->Prop}{c:Zll}{b:Bool}
inductive TyOf(K:Zlh)(H:Hp):V->Zll->Prop where
 | non:TyOf K H .non (.type "NoneType")
 | bl (x:Bool):TyOf K H (.bl x) (.type "bool")
 | int (i:Int):TyOf K H (.int i) (.type "int")
 | str (x:Str):TyOf K H (.str x) (.type "str")
 | flt (x:UInt64):TyOf K H (.flt x) (.type "float")
 | lst {a:Addr} {xs:List V} (e:H a=some (.lst xs)):TyOf K H (.ref a) (.type "list")
 | frz {a:Addr} {o:Obj} {xs:List V} (e:H a=some (.frz o (.lst xs))):TyOf K H (.ref a) (.type "list")
 | tup {a:Addr} {xs:List V} (e:H a=some (.tup xs)):TyOf K H (.ref a) (.type "tuple")
 | dK {a:Addr} {kvs:List (Key×V)} (e:H a=some (.dK kvs)):TyOf K H (.ref a) (.type "dict")
 | dT {a:Addr} {kvs:List (List Key×V)} (e:H a=some (.dT kvs)):TyOf K H (.ref a) (.type "dict")
 | ins {a C dx:Addr} {fs:List (Str×V)} (e:H a=some (.ins C dx fs)) (cl:Cls K C) (ha:Zmy K (.ref C) "__class__" = some (some (.builtin "object.__class__")))
   (hn:Zw9 K (.builtin "object.__class__") "__get__" = some (some (.builtin "getset_descriptor.__get__"))) (htk:PySem.W.takesIn K (.builtin "object.__class__")=some true)
   (hm:PySem.W.mroIn K C (.type "object")=some true):TyOf K H (.ref a) (.ref C)
end
structure Room(k:Nat)(A:Zmu):Prop where
 hd:A.handled=none
 dp:A.depth+3*k+5<Ycy
 un:A.units+16*k+200<Zr6
 gd:A.guards=some []
theorem Room.mono{j k:Nat}{A:Zmu}(r:Room k A)(h:j<=k):Room j A:=⟨r.hd,by have:=r.dp;omega,by have:=r.un;omega,r.gd⟩
theorem Room.deeper{k:Nat}{A:Zmu}(r:Room (k+1) A)(env:Env):Room k (A.deeper env) :=
 ⟨r.hd,by have:=r.dp;show A.depth+1+3*k+5<_;omega,by have:=r.un;show A.units+3+16*k+200<_;omega,r.gd⟩
theorem zxw{A:Zmu}{C:Addr}{us:List Zll}{kw:List (Str×Zll)}:(A.under (.builtin "type.__call__" ⟨.ref C::us,kw⟩)).depth=A.depth+1:=by
 first | rfl | simp[Zwq,Code.weight,Code.isCreation,Code.isGuard,Code.isCaller,Yce,Zw3,guardIds]
theorem zyl{A:Zmu}{C:Addr}{us:List Zll}{kw:List (Str×Zll)}:(A.under (.builtin "type.__call__" ⟨.ref C::us,kw⟩)).units=A.units+1:=by
 first | rfl | simp[Zwq,Code.cUnits,Yce,Zw3]
theorem Room.make{k:Nat}{A:Zmu}(r:Room (k+1) A)(C:Addr)(us:List Zll)(kw:List (Str×Zll)):Room k (A.under (.builtin "type.__call__" ⟨.ref C::us,kw⟩)) :=
 ⟨r.hd,by have:=r.dp;rw[zxw];omega,by have:=r.un;rw[zyl];omega,r.gd⟩
theorem Room.depth{k:Nat}{A:Zmu}(r:Room k A):A.depth<Ycy:=by have:=r.dp;omega
theorem Room.units{k:Nat}{A:Zmu}(r:Room k A):A.units+64<Zr6:=by have:=r.un;omega
noncomputable def tNil:TA:=fun _ H Q=>Q [] H
noncomputable def za8(ta:TE)(tr:TA):TA:=fun U H Q=>ta U H fun x H1=>tr U H1 fun xs H2=>Q (x::xs) H2
section
variable{X:Cx}{e:Expr}{es:List Expr}{te:TE}{t:TA}{pos:Pos}
theorem zad:PA X [] tNil:=fun _ _ _ _ H Q I h=>Zud ⟨[],H,I,.nil,h⟩
theorem zaa(ha:PE X e te)(hr:PA X es t)(hs:Zmk (e::es) X.env=(false,eval e X.env)::Zmk es X.env:=by rfl):PA X (e::es) (za8 te t):=by
 intro pos pins s U H Q I h
 rw[hs]
 show Zl8 _ _ (Zwt ((false,eval e X.env)::Zpk pos (Zmk es X.env))) _ _ s
 refine Zpe (thn (ha pins s U H _ I h) fun u s1 hz9=>?_)
 obtain⟨x,H1,I1,r1,q1⟩:=hz9
 refine thn (hr pos pins s1 U H1 _ I1 q1) fun us s2 hz9=>?_
 obtain⟨xs,H2,I2,r2,q2⟩:=hz9
 exact⟨x::xs,H2,I2,.cons r1 r2,q2⟩
noncomputable def tTup(t:TA):TE:=fun U H Q=>t U H fun xs H1=>xs.length<=sizeLine /\ ∀p,H1 p=none->Q (.ref p) (upd H1 p (.tup xs))
noncomputable def tLst(t:TA):TE:=fun U H Q=>t U H fun xs H1=>xs.length<=sizeLine /\ ∀p,H1 p=none->Q (.ref p) (upd H1 p (.lst xs))
theorem zhf{x1}(h:PA X es t):PE X (.Tuple es x1 pos) (tTup t):=by
 intro pins s U H Q I hq
 refine wpAny_Tuple_spliced (thn (h pos pins s U H _ I hq) fun us s1 ⟨xs,H1,I1,r,z,q⟩=>⟨by rw[<- r.length];exact z,?_⟩)
 have hf:H1 s1.heap.objs.size=none:=I1.hok.fresh (Zlt _)
 refine⟨.ref s1.heap.objs.size,upd H1 s1.heap.objs.size (.tup xs),I1.laid (t':=s1.toks) (fun b u e=>Zlu _ e) (Zlt _) ?_,rfl,q _ hf⟩
 exact⟨z,us,r,⟨_,Zl3 _ rfl,rfl,_,rfl⟩⟩
theorem zco(h:PA X es t):PE X (.List es pos) (tLst t):=by
 intro pins s U H Q I hq
 refine Yaa (thn (h pos pins s U H _ I hq) fun us s1 ⟨xs,H1,I1,r,z,q⟩=>⟨by rw[<- r.length];exact z,?_⟩)
 have hf:H1 s1.heap.objs.size=none:=I1.hok.fresh (Zlt _)
 refine⟨.ref s1.heap.objs.size,upd H1 s1.heap.objs.size (.lst xs),I1.laid (t':=s1.toks) (fun b u e=>Zlu _ e) (Zlt _) ?_,rfl,q _ hf⟩
 exact⟨z,us,0,r,Zl3 _ rfl⟩
end
noncomputable abbrev Sp:=List V->Hp->VK->XK->Prop
noncomputable abbrev CXT:=List Env->Hp->Zlo->XK->Zll->Zlo->Prop
structure Env0(P:Zmi)(w:Zng)(K:Zlh)(mg:Str->Option Zll)(base:Heap)(A:Zmu)(outer:List Env)(s:Zlo)(H:Hp):Prop where
 frames:A.frames=some outer
 mod:Mod K mg base
 bs:∀b o,base.get? b=some o->s.heap.get? b=some o/\H b=none
 bsz:base.objs.size<=s.heap.objs.size
 funs:s.heap.FunFrames base outer
 frf:∀b∈frs outer,H b=none
 hok:HOk P w H s.heap
 bare:Zuy s.gens
noncomputable def CE(outer:List Env)(P:Zmi)(w:Zng)(H:Hp)(s:Zlo)(Q:VK)(u:Zll)(s':Zlo):Prop :=
 ∃v H',s'.os=s.os/\Zuy s'.gens/\Un (frs outer) [] H H' s.heap s'.heap/\HOk P w H' s'.heap/\RelV v u/\Q v H'
noncomputable def CR(CX:CXT)(outer:List Env)(P:Zmi)(w:Zng)(H:Hp)(s:Zlo)(Q:VK)(E:XK)(r:Yco)(s':Zlo):Prop :=
 match r with
 | .ok (.ret u)=>CE outer P w H s Q u s'
 | .ok _=>False
 | .error e=>CX outer H s E e s'
structure FnOk(P:Zmi)(w:Zng)(K:Zlh)(mg:Str->Option Zll)(base:Heap)(CX:CXT)(k:Nat)(f:Addr)(fd:Zot)(ps:List Str)(sp:Sp):Prop where
 len:∀vs H Q E,sp vs H Q E->vs.length=ps.length
 run:∀(A:Zmu) (outer:List Env) (s:Zlo) (H:Hp) (args:Args) (us:List Zll) (vs:List V) (Q:VK) (E:XK),Room k A->Env0 P w K mg base A outer s H->Zvy s fd args (ps.zip us)->Vals vs us->sp vs H Q E ->
  Zty (Zmh P w) A (.call (.ref f) args) (CR CX outer P w H s Q E) s
theorem FnOk.mono{P:Zmi}{w:Zng}{K:Zlh}{mg:Str->Option Zll}{base:Heap}{CX:CXT}{j k:Nat}{f:Addr}{fd:Zot}{ps:List Str}{sp:Sp}(F:FnOk P w K mg base CX j f fd ps sp)(h:j<=k) :
  FnOk P w K mg base CX k f fd ps sp:=⟨F.len,fun A outer s H args us vs Q E hr=>F.run A outer s H args us vs Q E (hr.mono h)⟩
theorem Env0.make{P:Zmi}{w:Zng}{K:Zlh}{mg:Str->Option Zll}{base:Heap}{A:Zmu}{outer:List Env}{s:Zlo}{H:Hp}(e:Env0 P w K mg base A outer s H)(C:Addr)(us:List Zll)(kw:List (Str×Zll)) :
  Env0 P w K mg base (A.under (.builtin "type.__call__" ⟨.ref C::us,kw⟩)) outer s H:=⟨by first | exact e.frames | (simpa[Zwq,Code.envs,Zw3,pushEnvs] using e.frames),e.mod,e.bs,e.bsz,e.funs,e.frf,e.hok,e.bare⟩
section
variable{X:Cx}{pins:List (Addr×Obj)}{U:St}{H:Hp}{s s':Zlo}
theorem Inv.env0(I:Inv X pins U H s):Env0 X.prog X.w X.K X.mg X.base X.A X.stack s H :=
 ⟨I.ok.frames,I.ok.mod,I.bs,Znm I.ok.bsz I.sz,I.stack,I.stkFree,I.hok,I.bare⟩
theorem Inv.after{Q:VK}{u:Zll}(I:Inv X pins U H s)(h:CE X.stack X.prog X.w H s Q u s'):EP X pins U Q u s':=by
 obtain⟨v,H',os,bare,un,hok,r,q⟩:=h
 obtain⟨hh,g,d,t,os'⟩:=s'
 obtain rfl:os'=s.os:=os
 exact⟨v,H',I.call (h':=hh) (g':=g) (d':=d) (t':=t) (ch:=[]) un hok bare (fun b z=>absurd z (by simp)),r,q⟩
end
noncomputable def zk4(sp:Sp)(dvs:List V)(E:XK)(t:TA):TE:=fun U H Q=>t U H fun vs H1=>sp (vs++dvs) H1 Q E
noncomputable def yjr(C:Addr)(m:Str)(sp:Sp)(dvs:List V)(E:XK)(ta:TE)(t:TA):TE:=fun U H Q=>ta U H fun x H1=>∃a dx fs,x= .ref a/\H1 a=some (.ins C dx fs)/\fs.lookup m=none /\
 t U H1 fun vs H2=>sp (x::(vs++dvs)) H2 Q E
noncomputable def yi7(C:Addr)(sp:Sp)(dvs:List V)(E:XK)(t:TA):TE:=fun U H Q=>t U H fun vs H1=>∀x dx,H1 x=none->H1 dx=none->dx≠x ->
 sp (.ref x::(vs++dvs)) (upd (upd H1 dx (.own x)) x (.ins C dx [])) (fun v H2=>v= .non/\Q (.ref x) H2) E
noncomputable def zcc(K:Zlh)(fd:Zot)(ps:List Str)(ds:List Zll):Prop :=
 ∀(s:Zlo) (us:List Zll),K.In s.heap->(us++ds).length=ps.length->Zvy s fd ⟨us,[]⟩ (ps.zip (us++ds))
theorem zcc.all{K:Zlh}{fd:Zot}{ps:List Str}(h:∀us:List Zll,us.length=ps.length->Zpf fd ⟨us,[]⟩=pure (ps.zip us)):zcc K fd ps []:=fun s us _ hl=>by
 rw[Zm1] at hl ⊢
 exact .of_eq (h us hl)
noncomputable def zju(CX:CXT)(X:Cx)(E:XK):Prop:=∀(pins:List (Addr×Obj)) (U:St) (H:Hp) (s:Zlo) (e:Zll) (s':Zlo),Inv X pins U H s->CX X.stack H s E e s'->X.xe e s'
section
variable{X:Cx}{CX:CXT}{k:Nat}{f C:Addr}{fd:Zot}{ps:List Str}{sp:Sp}{dvs:List V}{ds:List Zll}{E:XK}{x m:Str}{p pos apos:Pos}{e o:Expr}{es:List Expr}{ta:TE}{t:TA}
theorem zsb{pins:List (Addr×Obj)}{U:St}{H:Hp}{s:Zlo}{Q:VK}{us:List Zll}{vs:List V}(F:FnOk X.prog X.w X.K X.mg X.base CX k f fd ps sp)(hr:Room k X.A)(hb:zcc X.K fd ps ds)(hd:Vals dvs ds)(hx:zju CX X E)
  (I:Inv X pins U H s) (r:Vals vs us) (h:sp (vs++dvs) H Q E):Zl8 (Zmh X.prog X.w) X.A (call (.ref f) us) (EP X pins U Q) X.xe s:=by
 have r2:Vals (vs++dvs) (us++ds):=r.append hd
 have hl:(us++ds).length=ps.length:=by rw[<- r2.length];exact F.len _ _ _ _ h
 refine Zxj (Zqx (F.run X.A X.stack s H ⟨us,[]⟩ (us++ds) (vs++dvs) Q E hr I.env0 (hb s us I.kIn hl) r2 h) fun r s' hq=>?_)
 cases r with
 | error e=>exact hx pins U H s e s' I hq
 | ok fl =>
  cases fl with
  | ret u=>exact I.after hq
  | next=>exact Zpm hq
  | brk=>exact Zpm hq
  | cont=>exact Zpm hq
theorem yhs(F:FnOk X.prog X.w X.K X.mg X.base CX k f fd ps sp)(hr:Room k X.A)(hg:Gl X x)(hm:X.mg x=some (.ref f))(hk:Zqy X.K (.ref f)=true)(hb:zcc X.K fd ps ds)(hd:Vals dvs ds)(hx:zju CX X E)
  (ha:PA X (e::es) t) (hdb:(x == ("__debug__" : Str))=false:=by decide) (he:Zmk (e::es) X.env=(false,eval e X.env)::Zmk es X.env:=by rfl) (hpl:(Zpk pos (Zmk es X.env)).any (·.1)=false:=by rfl) :
  PE X (.Call (.Name x p) (e::es) [] pos) (zk4 sp dvs E t):=by
 intro pins s U H Q I h
 refine Zra (zt2 I hg hm ?_ hdb)
 refine Zqn (h₀:=X.base) I.ok.mod.kin hk (thn (ha pos pins s U H _ I h) fun us s1 ⟨vs,H1,I1,r,q⟩=>⟨I1.kIn,?_⟩) he hpl
 exact zsb F hr hb hd hx I1 r q
theorem zou{pl:Sem Bool}(he:PE X o ta)(c:Cls X.K C)(hm:Meth X.K C m f)(F:FnOk X.prog X.w X.K X.mg X.base CX k f fd ps sp)(hr:Room k X.A)(hb:zcc X.K fd ps ds)(hd:Vals dvs ds)(hx:zju CX X E)(ha:PA X (e::es) t)
  (hst:Zmk (e::es) X.env=(false,eval e X.env)::Zmk es X.env:=by rfl) (hpl:(Zpk pos (Zmk es X.env)).any (·.1)=false:=by rfl)
  (ht:eval (.Call (.Attribute o m apos) (e::es) [] pos) X.env=(do
   let ov <- eval o X.env
   Zxv apos.atName
   let (f,first) <- Zwu [ov] (Zu8 ov m pl)
   Zwk pos f first (Zpk pos (Zmk (e::es) X.env)) (Zp8 pos (Zoj [] X.env))):=by rfl) :
  PE X (.Call (.Attribute o m apos) (e::es) [] pos) (yjr C m sp dvs E ta t):=by
 intro pins s U H Q I h
 refine Zq1 (pl:=pl) (thn (he pins s U H _ I h) fun u s1 hz9=>?_) ht
 obtain⟨x,H1,I1,rx,a,dx,fs,ex,ea,l,q⟩:=hz9
 subst ex
 obtain rfl:u=Znh a:=rx
 refine zj1 I1 ea c hm l ?_
 refine Zqn (first:=[.ref a]) (h₀:=X.base) I.ok.mod.kin hm.kp (thn (ha pos pins s1 U H1 _ I1 q) fun us s2 ⟨vs,H2,I2,r,q2⟩=>⟨I2.kIn,?_⟩) hst hpl
 exact zsb (us:=.ref a::us) (vs:=.ref a::vs) F hr hb hd hx I2 (.cons rfl r) q2
structure Mk(K:Zlh)(C f:Addr):Prop where
 makes:Zx4 K C=true
 init:Zmy K (.ref C) "__init__" = some (some (.ref f))
 fn:Zwd K (.ref f)=true
 kp:Zqy K (.ref C)=true
theorem yee{pins:List (Addr×Obj)}{U:St}{H:Hp}{s:Zlo}{Q:VK}{us:List Zll}{vs:List V}(M:Mk X.K C f)(F:FnOk X.prog X.w X.K X.mg X.base CX k f fd ps sp)(hr:Room (k+1) X.A)(hb:zcc X.K fd ps ds)(hd:Vals dvs ds)
  (hx:zju CX X E) (I:Inv X pins U H s) (r:Vals vs us)
  (h:∀x dx,H x=none->H dx=none->dx≠x->sp (.ref x::(vs++dvs)) (upd (upd H dx (.own x)) x (.ins C dx [])) (fun v H2=>v= .non/\Q (.ref x) H2) E) :
  Zl8 (Zmh X.prog X.w) X.A (call (.ref C) us) (EP X pins U Q) X.xe s:=by
 have hq:=h (s.heap.objs.size+1) s.heap.objs.size (I.hok.fresh (Zrc _)) (I.hok.fresh (Zlt _)) (Zmb (Znv _))
 have I2:=Inv.made (C:=C) I
 have r2:Vals (V.ref (s.heap.objs.size+1)::(vs++dvs)) (Znh (s.heap.objs.size+1)::(us++ds)):=.cons rfl (r.append hd)
 have hl:(Znh (s.heap.objs.size+1)::us++ds).length=ps.length:=by
  have e:=r2.length
  rw[F.len _ _ _ _ hq] at e
  exact e.symm
 refine Zxj (yeo (f:=f) I.kIn M.makes M.init (beq_iff_eq.mp M.fn) (Zqx (F.run _ X.stack _ _ ⟨Znh (s.heap.objs.size+1)::us,[]⟩ (Znh (s.heap.objs.size+1)::(us++ds)) _ _ E (hr.make C us [])
  (I2.env0.make C us []) (hb _ (Znh (s.heap.objs.size+1)::us) I2.kIn hl) r2 hq) fun r s' hq'=>?_))
 cases r with
 | error e=>exact hx pins U _ _ e s' I2 hq'
 | ok fl =>
  cases fl with
  | ret u =>
   obtain⟨v,H',I3,rv,ev,q3⟩:=I2.after hq'
   subst ev
   exact⟨rv,⟨V.ref (s.heap.objs.size+1),H',I3,rfl,q3⟩⟩
  | next=>exact Zpm hq'
  | brk=>exact Zpm hq'
  | cont=>exact Zpm hq'
theorem zl3(M:Mk X.K C f)(F:FnOk X.prog X.w X.K X.mg X.base CX k f fd ps sp)(hr:Room (k+1) X.A)(hg:Gl X x)(hm:X.mg x=some (.ref C))(hb:zcc X.K fd ps ds)(hd:Vals dvs ds)(hx:zju CX X E)
  (ha:PA X (e::es) t) (hdb:(x == ("__debug__" : Str))=false:=by decide) (he:Zmk (e::es) X.env=(false,eval e X.env)::Zmk es X.env:=by rfl) (hpl:(Zpk pos (Zmk es X.env)).any (·.1)=false:=by rfl) :
  PE X (.Call (.Name x p) (e::es) [] pos) (yi7 C sp dvs E t):=by
 intro pins s U H Q I h
 refine Zra (zt2 I hg hm ?_ hdb)
 refine Zqn (h₀:=X.base) I.ok.mod.kin M.kp (thn (ha pos pins s U H _ I h) fun us s1 ⟨vs,H1,I1,r,q⟩=>⟨I1.kIn,?_⟩) he hpl
 exact yee M F hr hb hd hx I1 r q
end
noncomputable def PK(X:Cx)(kws:List Zte)(t:TA):Prop :=
 ∀(pos:Pos) (pins:List (Addr×Obj)) (s:Zlo) (U:St) (H:Hp) (Q:List V->Hp->Prop),Inv X pins U H s->t U H Q->Zl8 (Zmh X.prog X.w) X.A (evalAll ((Zp8 pos (Zoj kws X.env)).map (·.2))) (AP X pins U Q) X.xe s
section
variable{X:Cx}{CX:CXT}{k:Nat}{f C:Addr}{fd:Zot}{ps ks:List Str}{sp:Sp}{E:XK}{x m:Str}{p pos apos kpos:Pos}{e o:Expr}{es:List Expr}{kws:List Zte}{te ta:TE}{t tk:TA}{nm:Option Str}
theorem ykc:PK X [] tNil:=fun _ _ _ _ H Q I h=>wpAny_evalAll_nil ⟨[],H,I,.nil,h⟩
theorem ygv(ha:PE X e te)(hr:PK X kws t):PK X (⟨nm,e,kpos⟩::kws) (za8 te t):=by
 intro pos pins s U H Q I h
 show Zl8 _ _ (evalAll ((do let v <- eval e X.env;Zxv pos;pure v)::(Zp8 pos (Zoj kws X.env)).map (·.2))) _ _ s
 refine wpAny_evalAll_cons (Zli (thn (ha pins s U H _ I h) fun u s1 ⟨x,H1,I1,r1,q1⟩=>Zli (Zs8 (Zln ?_))))
 refine thn (hr pos pins s1 U H1 _ I1 q1) fun us s2 hz9=>?_
 obtain⟨xs,H2,I2,r2,q2⟩:=hz9
 exact⟨x::xs,H2,I2,.cons r1 r2,q2⟩
structure KBinds(K:Zlh)(fd:Zot)(ps ks:List Str)(g:List Zll->List Zll->List Zll)(gV:List V->List V->List V):Prop where
 to:∀(s:Zlo) (us ws:List Zll),K.In s.heap->(g us ws).length=ps.length->Zvy s fd ⟨us,ks.zip ws⟩ (ps.zip (g us ws))
 rel:∀{vs:List V} {us:List Zll} {zs:List V} {ws:List Zll},Vals vs us->Vals zs ws->Vals (gV vs zs) (g us ws)
variable{g:List Zll->List Zll->List Zll}{gV:List V->List V->List V}
end
structure FnScope(N P:List Str)(sc:Scope):Prop where
 kind:sc.kind= .function
 co:sc.isCoroutine=false
 gen:sc.isGenerator=false
 nd:N.Nodup
 pre:N.take P.length=P
 par:∀x∈P,sc.names.lookup x=some .local\/sc.names.lookup x=some .cell
 nofree:∀y∈sc.names,y.2 ≠ .free
theorem zro{kindOf:Str->Option Zna}{x:Str}:∀{binds:List (Str×Zll)} {m:Str->Option Zll},(∀v,(x,v)∉binds)->Yay kindOf binds m x=m x
 | [],_,_=>rfl
 | (n,v)::r,m,h=>by
  unfold Yay
  rw[zro fun w hw=>h w (Zlp _ hw)]
  split
  .have:x≠n:=by rintro rfl;exact h v Zls
   simp[this]
  .rfl
theorem zsg{kindOf:Str->Option Zna}{x:Str}:∀{binds:List (Str×Zll)} {m:Str->Option Zll},(∀v,(x,v)∉binds)->Yaz kindOf binds m x=m x
 | [],_,_=>rfl
 | (n,v)::r,m,h=>by
  unfold Yaz
  rw[zsg fun w hw=>h w (Zlp _ hw)]
  split
  .rfl
  .have:x≠n:=by rintro rfl;exact h v Zls
   simp[this]
theorem ztg{kindOf:Str->Option Zna}{x:Str}{v:Zll}:∀{P:List Str} {vs:List Zll} {i:Nat} {m:Str->Option Zll},P.Nodup->P[i]? = some x->vs[i]? = some v->kindOf x=some .local ->
  Yay kindOf (P.zip vs) m x=some v
 | [],_,_,_,_,h,_,_=>by simp at h
 | _::_,[],_,_,_,_,h,_=>by simp at h
 | p::P,w::vs,0,m,nd,h1,h2,hk=>by
  simp at h1 h2;subst h1;subst h2
  show Yay kindOf ((p,w)::P.zip vs) m p=_
  unfold Yay
  rw[zro fun v hv=>(Zn3.mp nd).1 (Zvd hv).1,if_pos hk]
  simp
 | p::P,w::vs,i+1,m,nd,h1,h2,hk=>by
  show Yay kindOf ((p,w)::P.zip vs) m x=_
  unfold Yay
  exact ztg (i:=i) (Zn3.mp nd).2 (by simpa using h1) (by simpa using h2) hk
theorem zq9{kindOf:Str->Option Zna}{x:Str}{v:Zll}:∀{P:List Str} {vs:List Zll} {i:Nat} {m:Str->Option Zll},P.Nodup->P[i]? = some x->vs[i]? = some v->kindOf x≠some .local ->
  Yaz kindOf (P.zip vs) m x=some v
 | [],_,_,_,_,h,_,_=>by simp at h
 | _::_,[],_,_,_,_,h,_=>by simp at h
 | p::P,w::vs,0,m,nd,h1,h2,hk=>by
  simp at h1 h2;subst h1;subst h2
  show Yaz kindOf ((p,w)::P.zip vs) m p=_
  unfold Yaz
  rw[zsg fun v hv=>(Zn3.mp nd).1 (Zvd hv).1,if_neg hk]
  simp
 | p::P,w::vs,i+1,m,nd,h1,h2,hk=>by
  show Yaz kindOf ((p,w)::P.zip vs) m x=_
  unfold Yaz
  exact zq9 (i:=i) (Zn3.mp nd).2 (by simpa using h1) (by simpa using h2) hk
noncomputable def start(N:List Str)(vs:List V):St:=vs.map some++Ztn (N.length - vs.length) none
noncomputable def cxOf(CX:CXT)(P:Zmi)(w:Zng)(K:Zlh)(mg:Str->Option Zll)(base:Heap)(N:List Str)(qual:Str)(scope:Scope)(f:Addr)(cd:Zll)(A:Zmu)(outer:List Env)(s:Zlo)(H:Hp)(E:XK):Cx where
 prog:=P
 w:=w
 K:=K
 mg:=mg
 base:=base
 A:=A.deeper (Ztk qual scope s.heap.objs.size f cd)
 N:=N
 s₀:=s
 H0:=H
 env:=Ztk qual scope s.heap.objs.size f cd
 outer:=outer
 stack:=Ztk qual scope s.heap.objs.size f cd::outer
 ex:=[]
 calm:=true
 fn:=fun _=>true
 pn:=[]
 xe:=fun e s'=>Zl8 (Zmh P w) (A.deeper (Ztk qual scope s.heap.objs.size f cd)) (leaving (Ztk qual scope s.heap.objs.size f cd) e) (fun _ s''=>CX outer H s E e s'') (fun e' s''=>CX outer H s E e' s'') s'
theorem zu2{sc:Scope}{n:Nat}{x:Str}(h:sc.names.lookup x=some .cell):∃c,(Ycm n sc.names []).lookup x=some c:=by
 have q:=Zv3 sc.names n [] (.inl h)
 exact Zpj.mp q
theorem yb5{CX:CXT}{P:Zmi}{w:Zng}{K:Zlh}{mg:Str->Option Zll}{base:Heap}{N ps:List Str}{qual:Str}{scope:Scope}{f:Addr}{cd:Zll}{A:Zmu}{outer:List Env}{s s1:Zlo}{H:Hp}{E:XK}{us:List Zll}{vs:List V}
  (S:FnScope N ps scope) (hd:A.handled=none) (e0:Env0 P w K mg base A outer s H) (hl:vs.length=ps.length) (r:Vals vs us)
  (x:InCallC s s.heap.objs.size (Yay (Ztk qual scope s.heap.objs.size f cd).kindOf (ps.zip us) fun _=>none) (Ycm (s.heap.objs.size+1) scope.names []) (Yaz (Ztk qual scope s.heap.objs.size f cd).kindOf (ps.zip us) fun _=>none) s1) :
  Inv (cxOf CX P w K mg base N qual scope f cd A outer s H E) [] (start N vs) H s1:=by
 have hpl:ps.length<=N.length:=by have:=congrArg Zm7 S.pre;rw[Znk] at this;omega
 obtain⟨h1,tk,rfl,hk⟩:=x.done
 have noA:∀b:Addr,b∉(cxOf CX P w K mg base N qual scope f cd A outer s H E).ex:=fun b z=>absurd (show b∈([]:List Addr) from z) (by simp)
 refine⟨⟨e0.mod,S.kind,rfl,rfl,Zlt _,fun y z c h1 h2=>?_,fun y hy=>?_,fun y c _ h=>?_,fun _=>hd,Around.frames_deeper e0.frames,.inr ⟨rfl,rfl⟩,fun b z=>absurd z (noA b),e0.bs,e0.bsz,fun b _ _=>noA b,fun b z=>absurd z (noA b),e0.funs,e0.frf⟩,
  rfl,e0.bare,Un.kept hk,⟨_,x.toInCall.ns,fun i y v h1 h2 h3=>?_⟩,fun y c h=>⟨_,x.cell y c h⟩,e0.hok.fresh (Zlt _),fun y c h=>?_,fun p hp=>absurd (show p∈([]:List (Addr×Obj)) from hp) (by simp),e0.hok.kept hk,?_⟩
 .exact name_of_addr x.apart (Zpp h1) (Zpp h2)
 .have hy:scope.names.lookup y=some .cell\/scope.names.lookup y=some .free:=hy
  rcases hy with hy | hy
  .exact zu2 hy
  .exact absurd rfl (S.nofree _ (Zpp hy))
 .exact Zuz (x.above y c (Zpp h))
 .have hi:i<vs.length:=by
   unfold start at h2
   by_cases hi:i<vs.length
   .exact hi
   .rw[Znx (by simpa using hi)] at h2
    rw[Zqt] at h2
    split at h2 <;> cases h2
  have ha:vs[i]? = some v:=by
   unfold start at h2
   rw[Zn4 (by simpa using hi),Zlx] at h2
   cases e:vs[i]? with
   | none=>rw[e] at h2;cases h2
   | some a=>rw[e] at h2;cases h2;rfl
  obtain⟨u,hu,rv⟩:=r.get ha
  have hp:ps[i]? = some y:=by
   rw[<- S.pre,Zwi (by omega)];exact h1
  have ndP:ps.Nodup:=by rw[<- S.pre];exact S.nd.sublist (Zyl _ _)
  refine⟨u,rv,?_⟩
  rcases S.par y (Zlv hp) with k | k
  .exact .inl ⟨k,ztg ndP hp hu k⟩
  .obtain⟨c,e⟩:=zu2 (n:=s.heap.objs.size+1) k
   refine .inr ⟨.inl k,c,e,?_⟩
   have q:=x.cell y c e
   rw[zq9 ndP hp hu (by show scope.names.lookup y≠_;rw[k];decide)] at q
   exact q
 .exact e0.hok.fresh (Zuz (x.above y c (Zpp h)))
 .unfold start
  show _=N.length
  rw[Zlw,Zlm,Zrg]
  omega
theorem yms{CX:CXT}{P:Zmi}{w:Zng}{K:Zlh}{mg:Str->Option Zll}{base:Heap}{k:Nat}{f:Addr}{name qual:Str}{params:Arguments}{body:List Stmt}{scope:Scope}{dV kV doc pm cdv ct oc:Zll}{an od:Option Addr}
  {osl:Array (Option Zll)} {N ps:List Str} {sp:Sp} (lk:K.lookup f=some ⟨oc,od,.func (Zmx name qual params body scope dV kV doc pm an cdv ct),osl⟩) (hcd:Zs6 K cdv qual=true) (S:FnScope N ps scope)
  (len:∀vs H Q E,sp vs H Q E->vs.length=ps.length)
  (hbody:∀(A:Zmu) (outer:List Env) (s:Zlo) (H:Hp) (vs:List V) (Q:VK) (E:XK),Room k (A.deeper (Ztk qual scope s.heap.objs.size f cdv))->sp vs H Q E ->
   ∃t,PSs (cxOf CX P w K mg base N qual scope f cdv A outer s H E) body t/\t { nx:=fun _ H'=>Q .non H',rt:=Q } (start N vs) H) :
  FnOk P w K mg base CX (k+1) f (Zmx name qual params body scope dV kV doc pm an cdv ct) ps sp:=by
 refine⟨len,fun A outer s H args us vs Q E hr e0 hb r hsp=>?_⟩
 have hl:=len _ _ _ _ hsp
 have KX:K.In s.heap:=e0.mod.kin.keeps fun b o e=>(e0.bs b o e).1
 have lim:s.heap.NoLimit:=e0.mod.nolimit.keeps fun b o e=>(e0.bs b o e).1
 have hkind:∀y∈ps.zip us,scope.names.lookup y.1=some .local\/(scope.names.lookup y.1=some .cell/\((Ycm (s.heap.objs.size+1) scope.names []).lookup y.1).isSome=true):=fun⟨n,v⟩ hy=>by
  rcases S.par n (Zvd hy).1 with q | q
  .exact .inl q
  .exact .inr ⟨q,Zv3 _ _ _ (.inl q)⟩
 refine codeAny_call_function hr.depth (KX _ _ lk) rfl S.co S.gen rfl (PySem.W.codeRec_of KX hcd) (hb _ _ _ _ ?_)
 refine wpAny_newFunctionEnv_cells S.kind hkind fun env he s1 x=>?_
 subst he
 refine⟨lim.keeps x.toInCall.keep,codeAny_func ?_⟩
 obtain⟨t,ht,hq⟩:=hbody A outer s H vs Q E (hr.deeper _) hsp
 have I:Inv (cxOf CX P w K mg base N qual scope f cdv A outer s H E) [] (start N vs) H s1:=yb5 S hr.hd e0 hl r x
 refine Zn1 (ht [] s1 (start N vs) H _ I hq) (fun fl s' hs=>?_) fun e s' hs=>hs
 have fin:∀{U':St} {H':Hp} {v:V} {u:Zll},Inv (cxOf CX P w K mg base N qual scope f cdv A outer s H E) [] U' H' s'->RelV v u->Q v H'->CE outer P w H s Q u s' :=
  fun {U' H' v u} J rv q=>⟨v,H',J.os,J.bare,J.base,J.hok,rv,q⟩
 cases fl with
 | ret u =>
  obtain⟨v,U',H',J,rv,q⟩:=hs
  exact fin J rv q
 | next =>
  obtain⟨U',H',J,q⟩:=hs
  exact fin (v:=V.non) (u:=Znw) J rfl q
 | brk =>
  obtain⟨_,_,_,q⟩:=hs
  exact Zpm q
 | cont =>
  obtain⟨_,_,_,q⟩:=hs
  exact Zpm q
section
variable{X:Cx}{x:Str}{p pos:Pos}{e:Expr}{es:List Expr}{t:TA}{id T:String}{r:List V->Hp->VK->Prop}
noncomputable def tCB(r:List V->Hp->VK->Prop)(t:TA):TE:=fun U H Q=>t U H fun vs H1=>r vs H1 Q
theorem zar(hc:zb4 X (.builtin id) r)(hg:Gl X x)(hm:X.mg x=none)(hv:Zsn x=some (.builtin id))(ha:PA X (e::es) t)(hn:x ≠ "__name__" := by decide)(hdb:(x == ("__debug__" : Str))=false:=by decide)
  (he:Zmk (e::es) X.env=(false,eval e X.env)::Zmk es X.env:=by rfl) (hpl:(Zpk pos (Zmk es X.env)).any (·.1)=false:=by rfl):PE X (.Call (.Name x p) (e::es) [] pos) (tCB r t):=by
 intro pins s U H Q I h
 refine Zra (zod I hg hm hv ?_ hn hdb)
 exact Yb5 (thn (ha pos pins s U H _ I h) fun us s1 ⟨vs,H1,I1,r1,q1⟩=>hc pins s1 U H1 vs us Q I1 r1 q1) he hpl
theorem zbx(hc:zb4 X (.type T) r)(hg:Gl X x)(hm:X.mg x=none)(hv:Zsn x=some (.type T))(ha:PA X (e::es) t)(hn:x ≠ "__name__" := by decide)(hdb:(x == ("__debug__" : Str))=false:=by decide)
  (he:Zmk (e::es) X.env=(false,eval e X.env)::Zmk es X.env:=by rfl) (hpl:(Zpk pos (Zmk es X.env)).any (·.1)=false:=by rfl):PE X (.Call (.Name x p) (e::es) [] pos) (tCB r t):=by
 intro pins s U H Q I h
 refine Zra (zod I hg hm hv ?_ hn hdb)
 exact Zq5 (thn (ha pos pins s U H _ I h) fun us s1 ⟨vs,H1,I1,r1,q1⟩=>hc pins s1 U H1 vs us Q I1 r1 q1) he hpl
end
end L2
namespace HT
open PySem PyProof.Rows
section
open PySem.SeqAt
open PySem.AutoSeq1 (wpAny_loadPart')
open PySem.MeetsSeq PySem.MeetsSeq2 PySem.MeetsSeq3
end
section
variable{prog:Zmi}{w:Zng}{A:Zmu}{E:Zll->Zlo->Prop}{s:Zlo}
noncomputable def sIx(n d:Nat):Option Int->Nat
 | none=>d
 | some v=>if v<0 then (v+(n:Int)).toNat else min v.toNat n
theorem sIx_le(n d:Nat)(hd:d<=n)(o:Option Int):sIx n d o<=n:=by
 cases o with
 | none=>exact hd
 | some v =>
  show(if v<0 then (v+(n:Int)).toNat else min v.toNat n)<=n
  by_cases hv:v<0
  .rw[if_pos hv];omega
  .rw[if_neg hv];exact Nat.min_le_right _ _
end
end HT
namespace L2
open PySem PySem.Spec PyProof.Rows
noncomputable abbrev TO:=St->Hp->(Option Int->Hp->Prop)->Prop
noncomputable def PO(X:Cx)(e:Option Expr)(t:TO):Prop :=
 ∀(pins:List (Addr×Obj)) (s:Zlo) (U:St) (H:Hp) (Q:Option Int->Hp->Prop),Inv X pins U H s->t U H Q ->
  Zl8 (Zmh X.prog X.w) X.A (evalPart e X.env) (fun u s'=>∃o H',Inv X pins U H' s'/\IsPart u o/\Q o H') X.xe s
noncomputable def zm4:TO:=fun _ H Q=>Q none H
noncomputable def yb3(t:TE):TO:=fun U H Q=>t U H fun x H1=>∃i,x= .int i/\Q (some i) H1
section
variable{X:Cx}{e:Expr}{te:TE}{lo hi:Option Expr}{tl th:TO}{pos p2:Pos}
theorem zbu:PO X none zm4:=by
 intro pins s U H Q I h
 rw[Ydh]
 exact Zln ⟨none,H,I,.none,h⟩
theorem zbf(h:PE X e te):PO X (some e) (yb3 te):=by
 intro pins s U H Q I hw
 rw[evalPart_some]
 refine thn (h pins s U H _ I hw) fun u s1 hz9=>?_
 obtain⟨x,H1,I1,r1,q1⟩:=hz9
 obtain⟨i,rfl,q⟩:=q1
 obtain⟨t,rfl⟩:=r1
 exact⟨some i,H1,I1,.int i t,q⟩
noncomputable def SlR(X:Cx)(r:V->Option Int->Option Int->Hp->VK->Prop):Prop :=
 ∀(pins:List (Addr×Obj)) (s:Zlo) (U:St) (H:Hp) (x:V) (v vl vu:Zll) (lo hi:Option Int) (sl:Addr) (Q:VK),Inv X pins U H s->RelV x v->s.heap.IsSliceOf sl vl vu .none->IsPart vl lo->IsPart vu hi->r x lo hi H Q ->
  ∃T id,Yat (.type T) "__getitem__" = pure (some (.builtin id))/\s.TypeIs v T/\Zl8 (Zmh X.prog X.w) X.A (Zxz v (.ref sl)) (EP X pins U Q) X.xe s
noncomputable def tSl(r:V->Option Int->Option Int->Hp->VK->Prop)(te:TE)(tl th:TO):TE:=fun U H Q=>te U H fun x H1=>tl U H1 fun l H2=>th U H2 fun u H3=>r x l u H3 Q
theorem za4{r:V->Option Int->Option Int->Hp->VK->Prop}(hr:SlR X r)(he:PE X e te)(hl:PO X lo tl)(hu:PO X hi th):PE X (.Subscript e (.Slice lo hi none p2) pos) (tSl r te tl th):=by
 intro pins s U H Q I h
 refine Ya5 (thn (he pins s U H _ I h) fun v s1 hz9=>?_)
 obtain⟨x,H1,I1,r1,q1⟩:=hz9
 refine wpAny_Slice (thn (hl pins s1 U H1 _ I1 q1) fun vl s2 ⟨l,H2,I2,pl,q2⟩=>thn (hu pins s2 U H2 _ I2 q2) fun vu s3 hz9=>?_)
 obtain⟨u,H3,I3,pu,q3⟩:=hz9
 rw[Ydh]
 refine Zln ?_
 have I4:Inv X pins U H3 { s3 with heap:=s3.heap.push { cls:=.type "slice", data:=.fields #[vl,vu,.none] } }:=I3.kept (t':=s3.toks) fun b ob q=>Zlu _ q
 obtain⟨T,id,hT,ht,hg⟩:=hr pins { s3 with heap:=s3.heap.push { cls:=.type "slice", data:=.fields #[vl,vu,.none] } } U H3 x v vl vu l u s3.heap.objs.size Q I4 r1 (Yan ..) pl pu q3
 show Zl8 (Zmh X.prog X.w) X.A (Zxu e (.Slice lo hi none p2) v (.ref s3.heap.objs.size)) (EP X pins U Q) X.xe { s3 with heap:=s3.heap.push { cls:=.type "slice", data:=.fields #[vl,vu,.none] } }
 exact tail_any (ops:=[.ref s3.heap.objs.size,v]) ht hT hg (by with_unfolding_all rfl)
noncomputable def cutV(xs:List V)(lo hi:Option Int):List V:=(xs.drop (HT.sIx xs.length 0 lo)).take (HT.sIx xs.length xs.length hi - HT.sIx xs.length 0 lo)
theorem zuh(xs:List V)(lo hi:Option Int):(cutV xs lo hi).length<=xs.length:=by
 unfold cutV
 rw[Znk,Zmo]
 omega
end
noncomputable def ixN(n:Nat)(i:Int):Option Nat:=if 0<=i then (if i<n then some i.toNat else none) else if -(n:Int)<=i then some (i+n).toNat else none
noncomputable def atI{α:Type}(xs:List α)(i:Int):Option α:=(ixN xs.length i).bind fun j=>xs[j]?
theorem yir{n:Nat}{i:Int}{j:Nat}(h:ixN n i=some j):seqIndex? i n=some j/\j<n /\ -(n:Int)<=i/\i<n:=by
 unfold ixN at h
 by_cases h0:0<=i
 .rw[if_pos h0] at h
  by_cases h1:i<n
  .rw[if_pos h1] at h
   have e:i.toNat=j:=Zni h
   exact⟨by rw[seqIndex_of h0 h1,e],by omega,by omega,h1⟩
  .rw[if_neg h1] at h;cases h
 .rw[if_neg h0] at h
  by_cases h1 : -(n:Int)<=i
  .rw[if_pos h1] at h
   have e:(i+n).toNat=j:=Zni h
   exact⟨by rw[seqIndex_neg (by omega) h1,e],by omega,h1,by omega⟩
  .rw[if_neg h1] at h;cases h
theorem zue{α:Type}{xs:List α}{i:Int}{v:α}(h:atI xs i=some v):∃j,seqIndex? i xs.length=some j/\xs[j]? = some v/\j<xs.length /\ -(xs.length:Int)<=i/\i<xs.length:=by
 unfold atI at h
 cases e:ixN xs.length i with
 | none=>rw[e] at h;cases h
 | some j =>
  rw[e] at h
  obtain⟨h1,h2,h3,h4⟩:=yir e
  exact⟨j,h1,h,h2,h3,h4⟩
theorem zix{α:Type}{xs:List α}{j:Nat}{v:α}(h:xs[j]? = some v):atI xs (j:Int)=some v:=by
 have hj:j<xs.length:=(Zlq.mp h).1
 have e:ixN xs.length (j:Int)=some j:=by
  unfold ixN
  rw[if_pos (by omega),if_pos (by omega)];simp
 unfold atI;rw[e];exact h
noncomputable def yjc(b:Expr):Prop:=∀o i,Zws b false o i=operate [o,i] (Zxz o i)
noncomputable def IxR(X:Cx)(r:R2):Prop :=
 ∀(value slice:Expr) (pins:List (Addr×Obj)) (s:Zlo) (U:St) (H:Hp) (x y:V) (v u:Zll) (Q:VK),Inv X pins U H s->RelV x v->RelV y u->r x y H Q ->
  Zws slice false v u=operate [v,u] (Zxz v u)->Zl8 (Zmh X.prog X.w) X.A (Zxu value slice v u) (EP X pins U Q) X.xe s
noncomputable def MtR(X:Cx)(id:String)(r:V->List V->Hp->VK->Prop):Prop :=
 ∀(pins:List (Addr×Obj)) (s:Zlo) (U:St) (H:Hp) (x:V) (xs:List V) (v:Zll) (us:List Zll) (Q:VK),Inv X pins U H s->RelV x v->Vals xs us->r x xs H Q ->
  Zl8 (Zmh X.prog X.w) X.A (call (.builtin id) (v::us)) (EP X pins U Q) X.xe s
section
variable{X:Cx}{a b:Expr}{ta tb:TE}{pos:Pos}
theorem za7{r:R2}(hr:IxR X r)(ha:PE X a ta)(hb:PE X b tb)(hs:yjc b):PE X (.Subscript a b pos) (tOp r ta tb):=by
 intro pins s U H Q I h
 exact Ya5 (binT ha hb I h fun v u s2 x y H2 I2 rx ry q=>hr a b pins s2 U H2 x y v u Q I2 rx ry q (hs _ _))
noncomputable def rIxL(K:Zlh):R2:=fun x y H Q=>∃p xs i v,x= .ref p/\y= .int i/\SqL K H p xs/\atI xs i=some v/\Q v H
noncomputable def rIxT(K:Zlh):R2:=fun x y H Q=>∃p xs i v,x= .ref p/\y= .int i/\SqT K H p xs/\atI xs i=some v/\Q v H
noncomputable def rIxS:R2:=fun x y H Q=>∃z i c,x= .str z/\y= .int i/\z.length<=sizeLine/\atI z.cps.toList i=some c/\Q (.str ⟨#[c]⟩) H
theorem zaz:IxR X (rIxL X.K):=by
 intro value slice pins s U H x y v u Q I rx ry h hs
 obtain⟨p,xs,i,z,rfl,rfl,hq,he,q⟩:=h
 cases rx
 obtain⟨t,rfl⟩:=ry
 obtain⟨its,r,pl,hz⟩:=I.list hq
 obtain⟨j,h1,h2,h3,h4,h5⟩:=zue he
 obtain⟨w,ew,rw'⟩:=r.get h2
 have hl:=r.length
 have hn:=zr6
 have fin:EP X pins U Q w s:=⟨z,H,I,rw',q⟩
 by_cases h0:0<=i
 .have hj:i.toNat=j:=by
   rw[seqIndex_of h0 h5] at h1
   exact Zni h1
  exact item_listR pl.isList h0 (by omega) (by rw[hj];simpa using ew) fin hs
 .have hj:(i+(its.toArray.size:Int)).toNat=j:=by
   rw[seqIndex_neg (by omega) h4] at h1
   rw[Zmq,<- hl]
   exact Zni h1
  exact Zyg (x:=w) pl.isList.typeIs slot_list_getitem.lookup
   (wpAny_getItem_list_neg (Q:=fun r s'=>r=w/\EP X pins U Q r s') pl.isList (by omega) (by rw[Zmq] <;> omega) (by omega) (by rw[hj];simpa using ew) ⟨rfl,fin⟩) hs
theorem zdf:IxR X (rIxT X.K):=by
 intro value slice pins s U H x y v u Q I rx ry h hs
 obtain⟨p,xs,i,z,rfl,rfl,hq,he,q⟩:=h
 cases rx
 obtain⟨t,rfl⟩:=ry
 obtain⟨its,r,pl,hz⟩:=I.tuple hq
 obtain⟨j,h1,h2,h3,h4,h5⟩:=zue he
 obtain⟨w,ew,rw'⟩:=r.get h2
 have hl:=r.length
 have hn:=zr6
 have fin:EP X pins U Q w s:=⟨z,H,I,rw',q⟩
 exact Zyg (x:=w) pl.typeIs slot_tuple_getitem.lookup
  (getItem_tuple (j:=j) (Q:=fun r s'=>r=w/\EP X pins U Q r s') pl (by omega) (by omega) (by rw[Zmq,<- hl];exact h1) (by simpa using ew) ⟨rfl,fin⟩) hs
theorem znc:IxR X rIxS:=by
 intro value slice pins s U H x y v u Q I rx ry h hs
 obtain⟨z,i,c,rfl,rfl,hz,he,q⟩:=h
 obtain⟨t,rfl⟩:=rx
 obtain⟨t',rfl⟩:=ry
 obtain⟨j,h1,h2,h3,h4,h5⟩:=zue he
 have hl:z.cps.toList.length=z.length:=by simp[Zyz]
 rw[hl] at h1 h4 h5
 have hn:=zr6
 exact tail_any (Zo0 s z t) slot_str_getitem.lookup (getItem_str (c:=c) (by
  have e1:decide (i< -(2 ^ 63:Int))=false:=decide_eq_false (by omega)
  have e2:decide (i ≥ 2 ^ 63)=false:=decide_eq_false (by omega)
  rw[e1,e2,Zwo]) (by rw[h1];simpa using h2) ⟨.str ⟨#[c]⟩,H,I.tok _,⟨_,rfl⟩,q⟩) hs
theorem zse(lo hi:Option Int)(n:Nat):(Zsg lo hi none n).1=((HT.sIx n 0 lo:Nat):Int)/\(Zsg lo hi none n).2.1=((HT.sIx n n hi:Nat):Int)/\(Zsg lo hi none n).2.2=1:=by
 refine⟨?_,?_,rfl⟩
 .cases lo with
  | none=>simp[Zsg,HT.sIx]
  | some i =>
   simp only[Zsg,HT.sIx,Zx5,show(1:Int)>0 by decide,if_true]
   by_cases h:i<0
   .simp only[h,if_true] <;> omega
   .simp only[h,if_false] <;> omega
 .cases hi with
  | none=>simp[Zsg,HT.sIx]
  | some i =>
   simp only[Zsg,HT.sIx,Zx5,show(1:Int)>0 by decide,if_true]
   by_cases h:i<0
   .simp only[h,if_true] <;> omega
   .simp only[h,if_false] <;> omega
theorem zp8(its:List Zll)(lo hi:Option Int):slicePick its.toArray lo hi none=((its.drop (HT.sIx its.length 0 lo)).take (HT.sIx its.length its.length hi - HT.sIx its.length 0 lo)).toArray:=by
 obtain⟨h1,h2,h3⟩:=zse lo hi its.toArray.size
 unfold slicePick
 rw[h1,h2,h3]
 simp only[sliceRange_one,pick_run,Zmq] <;> rfl
noncomputable def rSlL(K:Zlh):V->Option Int->Option Int->Hp->VK->Prop:=fun x lo hi H Q=>∃a xs,x= .ref a/\SqL K H a xs /\ ∀p,H p=none->Q (.ref p) (upd H p (.lst (cutV xs lo hi)))
theorem zma:SlR X (rSlL X.K):=by
 intro pins s U H x v vl vu lo hi sl Q I rx hs pl pu h
 obtain⟨a,xs,rfl,hx,q⟩:=h
 cases rx
 obtain⟨its,r,ht,hz⟩:=I.list hx
 have hlen:=r.length
 refine⟨"list", _,slot_list_getitem.lookup,ht.isList.typeIs,?_⟩
 refine wpAny_getItem_list_slice ht.isList hs pl pu .none (by simp) ?_ (by rw[Zmq] <;> omega)
 rw[zp8,<- hlen]
 refine⟨.ref s.heap.objs.size,_,I.laid (t':=s.toks) (o:=.lst (cutV xs lo hi)) (fun b ob q=>Zlu _ q) (Zlt _) ?_,rfl,q _ (I.hok.fresh (Zlt _))⟩
 exact⟨Znm (zuh xs lo hi) hz,_,0,(r.drop (HT.sIx xs.length 0 lo)).take (HT.sIx xs.length xs.length hi - HT.sIx xs.length 0 lo),Zl3 _ rfl⟩
theorem zdu:zb4 X (.builtin "len") (fun xs H Q=>∃p ys,xs=[.ref p]/\(SqL X.K H p ys\/SqT X.K H p ys)/\Q (.int ys.length) H):=by
 intro pins s U H xs us Q I r h
 obtain⟨p,ys,rfl,hq,q⟩:=h
 obtain⟨u,rfl,rx⟩:=zhi r
 cases rx
 have hn:=zr6
 rcases hq with hq | hq
 .obtain⟨its,r',pl,hz⟩:=I.list hq
  have hlen:=r'.length
  exact Calls.call_len_list pl.isList (by simp only[Zmq] <;> omega) ⟨.int ys.length,H,I.tok _,⟨s.toks+1,by rw[Zmq,hlen]⟩,q⟩
 .obtain⟨its,r',pl,hz⟩:=I.tuple hq
  have hlen:=r'.length
  exact len_tuple pl (by simp only[Zmq] <;> omega) ⟨.int ys.length,H,I.tok _,⟨s.toks+1,by rw[Zmq,hlen]⟩,q⟩
theorem zbm:zb4 X (.builtin "len") (fun xs H Q=>∃z,xs=[.str z]/\z.length<=sizeLine/\Q (.int z.length) H):=by
 intro pins s U H xs us Q I r h
 obtain⟨z,rfl,hz,q⟩:=h
 obtain⟨u,rfl,t,rfl⟩:=zhi r
 have hn:=zr6
 exact len_str (by omega) ⟨.int z.length,H,I.tok _,⟨_,rfl⟩,q⟩
theorem zpc:zb4 X (.type "tuple") (fun xs H Q=>∃p ys,xs=[.ref p]/\((SqL X.K H p ys /\ ∀l,H l=none->Q (.ref l) (upd H l (.tup ys)))\/(SqT X.K H p ys/\Q (.ref p) H))):=by
 intro pins s U H xs us Q I r h
 obtain⟨p,ys,rfl,h⟩:=h
 obtain⟨u,rfl,rx⟩:=zhi r
 cases rx
 rcases h with ⟨hq,q⟩ | ⟨hq,q⟩
 .obtain⟨its,r',pl,hz⟩:=I.list hq
  have hlen:=r'.length
  refine call_tuple_list pl.isList (fun h' kp=>?_) (by simp only[Zmq] <;> omega)
  have I1:Inv X pins U H { s with heap:=h' }:=I.kept (t':=s.toks) kp
  have I2:Inv X pins U (upd H h'.objs.size (.tup ys)) { s with heap:=h'.push { cls:=.type "tuple", data:=.seq its.toArray } } :=
   I1.laid (t':=s.toks) (fun b o e=>Zlu _ e) (Zlt _) (show zed X.prog X.w _ _ _ (.tup ys) from⟨hz,its,r',Ycr _ _⟩)
  exact⟨.ref h'.objs.size,_,I2,rfl,q _ (I1.hok.fresh (Zlt _))⟩
 .obtain⟨its,r',pl,hz⟩:=I.tuple hq
  exact call_tuple_same pl ⟨.ref p,H,I,rfl,q⟩
noncomputable def tyV(K:Zlh)(T:String)(x:V)(H:Hp):Prop:=match x with
 | .str _=>T = "str"
 | .int _=>T = "int"
 | .ref p=>(T = "list" /\ ∃xs,SqL K H p xs)\/(T = "tuple" /\ ∃o,K.lookup p=some o/\o.cls= .type "tuple" /\ o.dict=none) \/
   (T = "dict" /\ ((∃kvs,H p=some (.dK kvs)) \/ ∃kvs,H p=some (.dT kvs)))\/(T = "set" /\ ∃S n,H p=some (.set S n))
 | _=>False
theorem ygr{pins:List (Addr×Obj)}{U:St}{H:Hp}{s:Zlo}{T:String}{x:V}{v:Zll}(I:Inv X pins U H s)(r:RelV x v)(ty:tyV X.K T x H) :
  s.TypeIs v T /\ ∀a,v= .ref a-> ∃ob,s.heap.get? a=some ob/\ob.dict=none:=by
 cases x with
 | str z =>
  obtain⟨t,rfl⟩:=r
  cases (show T = "str" from ty)
  exact⟨Zo0 s z t,fun _ e=>nomatch e⟩
 | int i =>
  obtain⟨t,rfl⟩:=r
  cases (show T = "int" from ty)
  exact⟨typeIs_int s i t,fun _ e=>nomatch e⟩
 | ref p =>
  cases r
  rcases ty with ⟨rfl,xs,hq⟩ | ⟨rfl,o,hk,hc,hd⟩ | ⟨rfl,hk⟩ | ⟨rfl,S,n,hk⟩
  .obtain⟨its,_,pl,_⟩:=I.list hq
   refine⟨pl.isList.typeIs,fun a e=>?_⟩
   cases e
   obtain⟨o,n,e,c,hd,_⟩:=pl
   exact⟨o,e,hd⟩
  .refine⟨⟨o,I.kIn p o hk,hc⟩,fun a e=>?_⟩
   cases e
   exact⟨o,I.kIn _ o hk,hd⟩
  .have z:∃o,s.heap.get? p=some o/\o.ExactDict:=by
    rcases hk with ⟨kvs,hk⟩ | ⟨kvs,hk⟩
    .obtain⟨_,_,_,_,o,_,_,e,ex,_⟩:=I.hok p _ hk
     exact⟨o,e,ex⟩
    .obtain⟨_,_,_,_,o,_,_,e,ex,_⟩:=I.hok p _ hk
     exact⟨o,e,ex⟩
   obtain⟨o,e,ex⟩:=z
   refine⟨⟨o,e,ex.1⟩,fun a e2=>?_⟩
   cases e2
   exact⟨o,e,ex.2.1⟩
  .obtain⟨o,_,_,_,e,ex,_⟩:=I.hok p _ hk
   refine⟨⟨o,e,ex.1⟩,fun a e2=>?_⟩
   cases e2
   exact⟨o,e,ex.2.1⟩
 | _=>exact Zpm ty
noncomputable def tBM0(K:Zlh)(T:String)(r:V->List V->Hp->VK->Prop)(to:TE):TE:=fun U H Q=>to U H fun x H1=>tyV K T x H1/\r x [] H1 Q
noncomputable def tBM(K:Zlh)(T:String)(r:V->List V->Hp->VK->Prop)(to:TE)(t:TA):TE:=fun U H Q=>to U H fun x H1=>tyV K T x H1/\t U H1 fun xs H2=>r x xs H2 Q
variable{o e:Expr}{es:List Expr}{to:TE}{t:TA}{name:Str}{apos cpos:Pos}{T id:String}{r:V->List V->Hp->VK->Prop}
theorem zol(pa:PlainAttrs T)(slot:Slot T name id)(hty:typeOf (.builtin id)=pure (.type "method_descriptor"))(hm:MtR X id r)(ho:PE X o to)
  (hbase:Zrb o name X.env (eval o X.env)=eval o X.env:=by rfl) (hline:(apos.endLine == cpos.line)=true:=by rfl):PE X (.Call (.Attribute o name apos) [] [] cpos) (tBM0 X.K T r to):=by
 intro pins s U H Q I h
 refine wpAny_Call_method0_late hbase hline (thn (ho pins s U H _ I h) fun v s1 hz9=>?_)
 obtain⟨x,H1,I1,r1,ty,q1⟩:=hz9
 obtain⟨h1,h2⟩:=ygr I1 r1 ty
 exact⟨T,id,pa,slot,hty,h1,h2,Zq0 rfl (PySem.evalArgs_none (hm pins s1 U H1 x [] v [] Q I1 r1 .nil q1))⟩
theorem zdc(pa:PlainAttrs T)(slot:Slot T name id)(hty:typeOf (.builtin id)=pure (.type "method_descriptor"))(hm:MtR X id r)(ho:PE X o to)(ha:PA X (e::es) t)
  (hbase:Zrb o name X.env (eval o X.env)=eval o X.env:=by rfl)
  (hfew:((Zpk cpos (Zmk (e::es) X.env)).all (fun x=>!x.1)&&(Zp8 cpos (Zoj [] X.env)).all (fun x=>x.1.isSome)
   && decide ((e::es).length+([]:List Zte).length+(if ([]:List Zte).isEmpty then 0 else 1)<30))=true:=by rfl)
  (hline:(apos.endLine == cpos.line)=true:=by rfl) (hs:Zmk (e::es) X.env=(false,eval e X.env)::Zmk es X.env:=by rfl) (hplain:(Zpk cpos (Zmk es X.env)).any (·.1)=false:=by rfl) :
  PE X (.Call (.Attribute o name apos) (e::es) [] cpos) (tBM X.K T r to t):=by
 intro pins s U H Q I h
 refine Zyf hbase hfew hline rfl (thn (ho pins s U H _ I h) fun v s1 hz9=>?_)
 obtain⟨x,H1,I1,r1,ty,q1⟩:=hz9
 obtain⟨h1,h2⟩:=ygr I1 r1 ty
 refine⟨T,id,pa,slot,hty,h1,h2,?_⟩
 have hA:=ha cpos pins s1 U H1 _ I1 q1
 rw[hs] at hA ⊢
 refine Zq0 (by show(false||(Zpk cpos (Zmk es X.env)).any (·.1))=false;rw[hplain] <;> rfl) (Ztg ?_)
 refine thn hA fun us s2 hz9=>?_
 obtain⟨vs,H2,I2,r2,q2⟩:=hz9
 exact hm pins s2 U H2 x vs v us Q I2 r1 r2 q2
end
noncomputable def MtM(X:Cx)(id:String)(r:V->List V->Hp->VK->Prop):Prop :=
 ∀(pins:List (Addr×Obj)) (s:Zlo) (U:St) (H:Hp) (x:V) (xs:List V) (v:Zll) (us:List Zll) (Q:VK),Inv X pins U H s->RelV x v->Vals xs us->r x xs H Q ->
  Zl8 (Zmh X.prog X.w) X.A (call (.builtin id) (v::us)) (EP X pins U Q) X.xe s
theorem Vals.one:∀{x:V} {us:List Zll},Vals [x] us-> ∃u,us=[u]/\RelV x u
 | _,_,.cons r .nil=>⟨_,rfl,r⟩
theorem Vals.zero:∀{us:List Zll},Vals [] us->us=[]
 | _,.nil=>rfl
section
variable{X:Cx}{pins:List (Addr×Obj)}{U:St}{H:Hp}{s:Zlo}{l b:Addr}{xs ys zs:List V}
theorem Inv.lset{its its':List Zll}{n:Nat}{f:Array Zll->Array Zll}{t':Nat}(I:Inv X pins U H s)(hH:H l=some (.lst xs))
  (e:s.heap.get? l=some { cls:=.type "list", data:=.seq its.toArray n }) (hf:f its.toArray=its'.toArray) (hv:Vals ys its') (hz:ys.length<=sizeLine) :
  Inv X pins U (upd H l (.lst ys)) { s with heap:=s.heap.update l (Zqp f),toks:=t' }:=by
 have q:=Ydo e f
 rw[hf] at q
 refine I.write (x:=l) (e:=l) (by rw[hH];exact trivial) (.inl rfl) (fun b' u hb hu=>(Znp s.heap (Zqp f) (Zne hb)).trans hu) ⟨_,q⟩ ?_
 exact⟨hz,its',_,hv,q⟩
theorem Inv.lnew{its:List Zll}{t':Nat}(I:Inv X pins U H s)(hv:Vals ys its)(hz:ys.length<=sizeLine) :
  Inv X pins U (upd H s.heap.objs.size (.lst ys)) { s with heap:=s.heap.push { cls:=.type "list", data:=.seq its.toArray },toks:=t' } :=
 I.laid (fun _ _ q=>Zlu _ q) (Zlt _) ⟨hz,its,0,hv,Zl3 _ rfl⟩
theorem Inv.fresh(I:Inv X pins U H s):H s.heap.objs.size=none:=I.hok.fresh (Zlt _)
theorem Inv.lstM(I:Inv X pins U H s)(hH:H l=some (.lst xs)):xs.length<=sizeLine /\ ∃(its:List Zll) (n:Nat),Vals xs its/\xs.length=its.length/\s.heap.get? l=some { cls:=.type "list", data:=.seq its.toArray n }:=by
 obtain⟨z,its,n,r,e⟩:=I.hok l _ hH
 exact⟨z,its,n,r,r.length,e⟩
theorem yda{n:Nat}(h:n<=sizeLine):Zrr n=false:=by
 unfold Zrr
 exact decide_eq_false (by omega)
end
section
variable{X:Cx}
noncomputable def zuj:V->List V->Hp->VK->Prop:=fun x vs H Q=>∃l xs y,x= .ref l/\vs=[y]/\H l=some (.lst xs)/\xs.length<sizeLine/\Q .non (upd H l (.lst (xs++[y])))
theorem zcq:MtM X "list.append" zuj:=by
 intro pins s U H x vs v us Q I rx rv h
 obtain⟨l,xs,y,rfl,rfl,hH,hz,q⟩:=h
 cases rx
 obtain⟨u,rfl,ru⟩:=rv.one
 obtain⟨z,its,n,r,hl,e⟩:=I.lstM hH
 refine Zrn Zn7 ⟨_,e,rfl⟩ F.entry_list_append (F.args_list_append_2 _ _) (PySem.list_append l its.toArray n u (by rw[Zmq];omega)) ⟨e,?_⟩
 refine⟨.non,_,I.lset (its':=its++[u]) hH e (by simp) (r.append (.cons ru .nil)) ?_,rfl,q⟩
 rw[Zlw,Znf]
 omega
noncomputable def zz5:V->List V->Hp->VK->Prop:=fun x vs H Q=>∃l b xs zs,x= .ref l/\vs=[.ref b]/\H l=some (.lst xs)/\H b=some (.lst zs)/\xs.length+zs.length<=sizeLine/\Q .non (upd H l (.lst (xs++zs)))
theorem yci:MtM X "list.extend" zz5:=by
 intro pins s U H x vs v us Q I rx rv h
 obtain⟨l,b,xs,zs,rfl,rfl,hH,hB,hz,q⟩:=h
 cases rx
 obtain⟨u,rfl,ru⟩:=rv.one
 cases ru
 obtain⟨z,its,n,r,hl,e⟩:=I.lstM hH
 obtain⟨z2,its2,n2,r2,hl2,e2⟩:=I.lstM hB
 have hsz:its.toArray.size+its2.toArray.size<=sizeLine:=by rw[Zmq,Zmq];omega
 have hlong:¬ (!its.toArray.isEmpty&&Zrr (its.toArray.size+its2.toArray.size))=true:=by
  rw[yda hsz,Zz8]
  exact Zmc
 refine Zrn Zzm ⟨_,e,rfl⟩ F.entry_list_extend (F.args_list_extend_2 _ _)
  (AutoSeq1.list_extend_list_list_0 l its.toArray n b its2.toArray n2 hlong (by rw[Zmq];omega) (by omega)) ⟨e,e2,?_⟩
 refine⟨.non,_,I.lset (its':=its++its2) hH e (by simp) (r.append r2) ?_,rfl,q⟩
 rw[Zlw]
 omega
noncomputable def yfu:V->List V->Hp->VK->Prop:=fun x vs H Q=>∃l xs,x= .ref l/\vs=[]/\H l=some (.lst xs)/\Q .non (upd H l (.lst []))
theorem ydq:MtM X "list.clear" yfu:=by
 intro pins s U H x vs v us Q I rx rv h
 obtain⟨l,xs,rfl,rfl,hH,q⟩:=h
 cases rx
 have hus:=rv.zero
 subst hus
 obtain⟨z,its,n,r,hl,e⟩:=I.lstM hH
 refine Zrn Zz3 ⟨_,e,rfl⟩ F.entry_list_clear (F.args_list_clear_1 _) (AutoSeq1.list_clear_list_0 l its.toArray n (by rw[Zmq];omega)) ⟨e,?_⟩
 exact⟨.non,_,I.lset (its':=[]) (ys:=[]) hH e rfl .nil (Zmt _),rfl,q⟩
end
end L2
namespace Att
open PySem PySem.W PySem.Calls PyProof.Rows
theorem zmu{P:Params}{h:Heap}:∀(ns:List Int) (vs:List Zll),WellAll P h vs (ns.map WData.int)->Zz2 vs ns:=by
 intro ns
 induction ns with
 | nil =>
  intro vs w
  rw[Zp6] at w
  cases w
  exact .nil
 | cons n ns ih =>
  intro vs w
  rw[Zl0] at w
  cases w with
  | cons a b =>
   cases a
   exact .cons _ _ (ih _ b)
theorem ya5{l:OpenLaw}{n:Nat}(hn:l.most=some n){P:Params}{h:Heap}{args:List WData}{vals:List Zll}
  (hpre:l.row.toRowW.claim.pre args=true) (hwl:WellAll P h vals args) :
  ∃a vs ns,vals=[Znh a]/\args=[WData.list (ns.map WData.int)]/\h.get? a=some { cls:=.type "list", data:=.seq vs.toArray }/\Zz2 vs ns/\ns.length<=n:=by
 have hsh:WShape.hasAll [] args [.list .int]=true:=(pre_splitW hpre).1
 have hc:l.pre.holds [] { args:=args }=true:=(pre_splitW hpre).2
 obtain⟨d,r,rfl,h1,h2⟩:=hasAllW_cons hsh
 obtain rfl:=hasAllW_nil h2
 obtain⟨xs,rfl,h3⟩:=hasW_list h1
 obtain⟨ns,rfl⟩:=items_int h3
 have hlen:ns.length<=n:=by
  unfold OpenLaw.pre at hc
  have h4:(WTm.not (.lt (.lit (.int (n:Int))) (.len (.arg 0)))).holds [] { args:=[.list (ns.map .int)] }=true:=by
   have h4:=(holds_andW hc).1
   rw[hn] at h4
   exact h4
  have h5:=condW_of h4 (w_not (w_lt w_lit (w_len_list (w_arg rfl))))
  rw[Zlm] at h5
  refine Nat.le_of_not_lt fun q=>?_
  have q':(n:Int)<((ns.length:Nat):Int):=by omega
  first
   | (rw[decide_eq_true q'] at h5;exact absurd h5 (by decide))
   | (simp at h5;omega)
 cases hwl with
 | cons w1 w2 =>
  cases w2
  cases w1 with
  | list ho hall=>exact⟨_,_,ns,rfl,rfl,ho,zmu ns _ hall,hlen⟩
theorem yba(l:OpenLaw)(args:List WData):l.row.toRowW.claim.post args (.bool true) args=true :=
 postW_of (r:=l.row.toRowW) (X:=(true == true))
  (show WShape.has [] (.bool true) .bool=true by first | rfl | decide | simp[WShape.has,WShape.arms,WShape.armsAll])
  (show(WTm.eq .res (.lit (.bool true))).value [] { args:=args,res:=some (.bool true),after:=args }=some (.bool (true == true)) from w_eq_bool (w_res rfl) w_lit) rfl
theorem attach_call{l:OpenLaw}{n:Nat}{q:Zmi}{loose:List Str}{XP:(Str->Option Zll)->Heap->Prop}{YP:Zng->Heap->Prop}{d:DefRec}
  (hn:l.most=some n) (hdf:d.params.defaults=[])
  (call:∀(w:Zng) (s₀ s₁:Zlo) (mg mb:Str->Option Zll) (fa:Addr) (o:Obj) (pm cd doc:Zll) (a:Addr) (vs:List Zll) (ns:List Int),
   Ground q loose [] XP w s₀ mg mb s₁.heap->YP w s₁.heap ->
   s₁.heap.get? fa=some o->o.data= .func (docDef d.name d.params d.body d.scope pm cd doc)->s₁.heap.CodeRec cd d.name->mg d.name=some (.ref fa) ->
   s₁.heap.get? a=some { cls:=.type "list", data:=.seq vs.toArray }->Zz2 vs ns->ns.length<=n->s₁.gens= #[] ->
   Zty (Zmh l.prog w) Zww (.call (.ref fa) ⟨[.ref a],[]⟩) (fun r s'=>r= .ok (.ret (.bool true))/\OldK s₁.heap s'.heap/\s'.os=s₁.os/\Zuy s'.gens) s₁) :
  WalkO q loose XP YP l.row.toRowW d [] (fun f vs=>Zx3 f vs):=by
 intro w s₀ s₁ mg mb G Y fa o pm cd doc dV kV ho hd hcd hD hmg hg args vals as hpre hlay hrd hwl hlo
 obtain rfl:dV= .none:=Dflts.none hD hdf
 obtain rfl:kV= .none:=Dflts.noKw hD
 obtain⟨a,vs,ns,rfl,rfl,hobj,hints,hlen⟩:=ya5 hn hpre hwl
 refine enter_call (Zqx (call w s₀ s₁ mg mb fa o pm cd doc a vs ns G Y ho (fd_plain hd) hcd hmg hobj hints hlen hg) fun r s' hq=>?_)
 obtain⟨rfl,h2,h3,h4⟩:=hq
 exact⟨.inl ⟨.bool true,.bool true,[],rfl,fun _=>rfl,.bool true,yba l _,fun _=>⟨Ybi,fun _ hm=>(nomatch hm)⟩⟩,h2,h3,h4⟩
section
variable{prog:Zmi}{w:Zng}{A:Zmu}{E:Zll->Zlo->Prop}{s:Zlo}{K:Frag}
end
end Att
namespace L2
open PySem PySem.Spec PyProof.Rows
theorem zs2:∀{vs:List Zll} {ns:List Int},Zz2 vs ns->Vals (ns.map V.int) vs
 | _,_,.nil=>.nil
 | _,_,.cons n t h=>.cons ⟨t,rfl⟩ (zs2 h)
noncomputable def Only(H:Hp):Prop:=∀b,H b=none \/ ∃o xs,H b=some (.frz o (.lst xs))
theorem yej {P : Zmi} {w : Zng} {K : Zlh} {mg mb : Str -> Option Zll} {CX : CXT} {k : Nat} {fa a : Addr} {fd : Zot} {x : Str} {sp : Sp} {s₁ : Zlo} {vs : List Zll} {ns : List Int}
  (KX:K.In s₁.heap) (hns:s₁.heap.Ns Zpo mg) (hb:s₁.heap.Ns Yax mb) (hbb:∀x:Str,x ≠ "__name__" -> mb x=Zsn x) (hlim:s₁.heap.NoLimit) (hg:s₁.gens= #[])
  (ha:s₁.heap.get? a=some { cls:=.type "list", data:=.seq vs.toArray }) (hi:Zz2 vs ns) (hl:ns.length<=sizeLine) (hr:Room k Zww)
  (F:∀base:Heap,K.In base->base.Ns Zpo mg->FnOk P w K mg base CX k fa fd [x] sp) (hbind:∀(s:Zlo) (u:Zll),Zvy s fd ⟨[u],[]⟩ [(x,u)])
  (hsp:∀H:Hp,Only H->SqL K H a (ns.map V.int)->sp [.ref a] H (fun v _=>v= .bl true) fun _ _ _=>False)
  (hCX:∀H e s',CX [] H s₁ (fun _ _ _=>False) e s'->False) :
  Zty (Zmh P w) Zww (.call (.ref fa) ⟨[.ref a],[]⟩) (fun r s'=>r= .ok (.ret (.bool true))/\OldK s₁.heap s'.heap/\s'.os=s₁.os/\Zuy s'.gens) s₁:=by
 have rv:=zs2 hi
 have lenV:=hi.length
 -- from an abstract heap in which nothing but the script may be tracked
 have core:∀H:Hp,Only H->SqL K H a (ns.map V.int)->HOk P w H s₁.heap->(∀b,H b≠none->b=a)->(H a≠none->K.lookup a=none) ->
   Zty (Zmh P w) Zww (.call (.ref fa) ⟨[.ref a],[]⟩) (fun r s'=>r= .ok (.ret (.bool true))/\OldK s₁.heap s'.heap/\s'.os=s₁.os/\Zuy s'.gens) s₁:=by
  intro H hO hS hok hA hK
  have base_of:∀{b:Addr} {o:Obj},s₁.heap.get? b=some o->H b=none->(hidT s₁.heap H).get? b=some o:=fun e n=>yex e n
  have noA:∀{b:Addr} {o:Obj} {es:Array DictEntry} {ep:Nat},s₁.heap.get? b=some o->o.data= .dict es ep->H b=none:=fun {b o es ep} e d=>by
   cases q:H b with
   | none=>rfl
   | some u =>
    have e':b=a:=hA b (by rw[q];simp)
    subst e'
    rw[ha] at e;cases e
    have d':Data.seq vs.toArray _=Data.dict es ep:=d
    cases d'
  have nsK:∀{b:Addr} {m:Str->Option Zll},s₁.heap.Ns b m->(hidT s₁.heap H).Ns b m:=fun {b m} ⟨o,es,ep,e,d,r⟩=>⟨o,es,ep,base_of e (noA e d),d,r⟩
  have hKb:K.In (hidT s₁.heap H):=fun b o e=>base_of (KX b o e) (by
   cases q:H b with
   | none=>rfl
   | some u =>
    have e':b=a:=hA b (by rw[q];simp)
    subst e'
    rw[hK (by rw[q];simp)] at e;cases e)
  have hM:Mod K mg (hidT s₁.heap H):=⟨hKb,nsK hns,⟨mb,nsK hb,hbb⟩,let ⟨mc,h1,h2⟩:=hlim;⟨mc,nsK h1,h2⟩⟩
  have e0:Env0 P w K mg (hidT s₁.heap H) Zww [] s₁ H:=⟨rfl,hM,fun b o e=>yhz e,Zxc (zyu _ _),trivial,fun b hb=>absurd (show b∈([]:List Addr) from hb) (by simp),hok,.of_eq hg⟩
  refine Zqx ((F _ hKb (nsK hns)).run Zww [] s₁ H ⟨[.ref a],[]⟩ [.ref a] [.ref a] _ _ hr e0 (hbind s₁ (.ref a)) (.cons rfl .nil) (hsp H hO hS)) fun r s' h=>?_
  cases r with
  | error e=>exact(hCX H e s' h).elim
  | ok fl =>
   cases fl with
   | next=>exact Zpm h
   | brk=>exact Zpm h
   | cont=>exact Zpm h
   | ret u =>
    obtain⟨v,H',os,bare,un,hok',r',q⟩:=h
    have q':v= .bl true:=q
    subst q'
    obtain rfl:u=Zqk true:=r'
    refine⟨rfl,OldK.of_keep fun b o e=>?_,os,bare⟩
    cases q:H b with
    | none=>exact un.keep b o e q (by intro z;exact absurd (show b∈([]:List Addr) from z) (by simp)) (by simp)
    | some u =>
     rcases hO b with z | ⟨ob,xs,z⟩
     .rw[q] at z;cases z
     .have z2:=un.frzs b ob _ z
      obtain⟨e1,_⟩:=hok b _ z
      obtain⟨e2,_⟩:=hok' b _ z2
      rw[e] at e1;cases e1
      exact e2
 cases hk:K.lookup a with
 | some o =>
  -- the script is one of the module's own objects
  have e:=KX a o hk
  rw[ha] at e
  cases e
  refine core (fun _=>none) (fun _=>.inl rfl) (.inr ⟨_,vs.toArray,_,hk,rfl,rfl,rfl,by rw[Zmq,lenV];exact hl,by simpa using rv⟩) (fun b u z=>by have z':(none:Option HO)=some u:=z;cases z') (fun b z=>absurd rfl z) fun z=>absurd rfl z
 | none =>
  refine core (fun b=>if b=a then some (.frz { cls:=.type "list", data:=.seq vs.toArray } (.lst (ns.map V.int))) else none) (fun b=>?_) (.inl (.inr ⟨{ cls:=.type "list", data:=.seq vs.toArray },if_pos rfl⟩)) (fun b u z=>?_) (fun b z=>?_) fun _=>hk
  .by_cases hb:b=a
   .exact .inr ⟨_,_,if_pos hb⟩
   .exact .inl (if_neg hb)
  .by_cases hb:b=a
   .have z':=(if_pos hb).symm.trans z
    cases z'
    subst hb
    exact⟨ha,by rw[Zlm];exact hl,vs,_,rv,ha⟩
   .have z':=(if_neg hb).symm.trans z
    cases z'
  .by_cases hb:b=a
   .exact hb
   .exact absurd (if_neg hb) z
theorem walk_of{l:Zum}{n k:Nat}{q:Zmi}{loose:List Str}{XP:(Str->Option Zll)->Heap->Prop}{YP:Zng->Heap->Prop}{d:DefRec}{K:Params->Zlh}{CX:Zng->CXT}{sp:Zng->Sp}{x:Str}
  (hn:l.most=some n) (hn2:n<=sizeLine) (hdf:d.params.defaults=[]) (hr:Room k Zww)
  (hY:∀(w:Zng) (h:Heap),YP w h->(K w.params).In h)
  (F:∀(w:Zng) (mg:Str->Option Zll) (fa:Addr) (h:Heap),(K w.params).In h->h.Ns Zpo mg->mg d.name=some (.ref fa) ->
   ∃fd:Zot,(∀(s:Zlo) (u:Zll),Zvy s fd ⟨[u],[]⟩ [(x,u)]) /\
    ∀base:Heap,(K w.params).In base->base.Ns Zpo mg->FnOk l.prog w (K w.params) mg base (CX w) k fa fd [x] (sp w))
  (hsp:∀(w:Zng) (H:Hp) (a:Addr) (ns:List Int),ns.length<=n->Only H->SqL (K w.params) H a (ns.map V.int)->sp w [.ref a] H (fun v _=>v= .bl true) fun _ _ _=>False)
  (hCX:∀(w:Zng) (H:Hp) (s:Zlo) (e:Zll) (s':Zlo),CX w [] H s (fun _ _ _=>False) e s'->False) :
  Zy0 q loose XP YP l.row.toRowW d [] (fun f vs=>Zx3 f vs):=by
 refine Att.attach_call hn hdf fun w s₀ s₁ mg mb fa o pm cd doc a vs ns G Y ho hd hcd hmg hobj hints hlen hg=>?_
 have KX:=hY w _ Y
 obtain⟨fd,hb,hF⟩:=F w mg fa _ KX G.T.g hmg
 exact yej KX G.T.g G.T.b G.T.builtins G.T.nolimit hg hobj hints (Znm hlen hn2) hr hF hb (fun H hO hS=>hsp w H a ns hlen hO hS) fun H e s'=>hCX w H s₁ e s'
noncomputable def zbr(s:Stmt):Arguments:=match s with
 | .FunctionDef _ a _ _ _ _ _ _ _ _=>a
 | _=>{ posonlyargs:=[],args:=[],vararg:=none,kwonlyargs:=[],kw_defaults:=[],kwarg:=none,defaults:=[] }
noncomputable def za9(s:Stmt):List Stmt:=match s with
 | .FunctionDef _ _ b _ _ _ _ _ _ _=>b
 | _=>[]
noncomputable def zae(s:Stmt):Scope:=match s with
 | .FunctionDef _ _ _ _ _ _ sc _ _ _=>sc
 | _=>{ kind:=.function,names:=[],isGenerator:=false,isCoroutine:=false }
noncomputable abbrev CX0:CXT:=fun _ _ _ _ _ _=>False
noncomputable abbrev E0:XK:=fun _ _ _=>False
theorem zke{X:Cx}:zju CX0 X E0:=fun _ _ _ _ _ _ _ h=>h.elim
structure Fun(K:Zlh)(x qual:Str)(st:Stmt)(f:Addr)(fd:Zot):Prop where
 ex:∃(oc:Zll) (od:Option Addr) (kV doc pm:Zll) (an:Option Addr) (cdv ct:Zll) (osl:Array (Option Zll)),
  fd=Zmx x qual (zbr st) (za9 st) (zae st) .none kV doc pm an cdv ct/\K.lookup f=some ⟨oc,od,.func fd,osl⟩/\Zs6 K cdv qual=true
 kp:Zqy K (.ref f)=true
section
variable{P:Zmi}{w:Zng}{K:Zlh}{mg:Str->Option Zll}{base:Heap}
theorem Fun.ok{x qual:Str}{st:Stmt}{f:Addr}{fd:Zot}{N ps:List Str}{k:Nat}{sp:Sp}(F:Fun K x qual st f fd)(S:FnScope N ps (zae st))(len:∀vs H Q E,sp vs H Q E->vs.length=ps.length)
  (hbody:∀(cdv:Zll) (A:Zmu) (outer:List Env) (s:Zlo) (H:Hp) (vs:List V) (Q:VK) (E:XK),Room k (A.deeper (Ztk qual (zae st) s.heap.objs.size f cdv))->sp vs H Q E ->
   ∃t,PSs (cxOf CX0 P w K mg base N qual (zae st) f cdv A outer s H E).nox (za9 st) t/\t { nx:=fun _ H'=>Q .non H',rt:=Q } (start N vs) H):FnOk P w K mg base CX0 (k+1) f fd ps sp:=by
 obtain⟨oc,od,kV,doc,pm,an,cdv,ct,osl,rfl,lk,hcd⟩:=F.ex
 refine yms lk hcd S len fun A outer s H vs Q E hr hsp=>?_
 obtain⟨t,h,q⟩:=hbody cdv A outer s H vs Q E hr hsp
 exact⟨t,h.nox,q⟩
theorem Fun.binds{x qual:Str}{st:Stmt}{f:Addr}{fd:Zot}{ps:List Str}(F:Fun K x qual st f fd)
  (h:∀(kV doc pm:Zll) (an:Option Addr) (cdv ct:Zll) (us:List Zll),us.length=ps.length->Zpf (Zmx x qual (zbr st) (za9 st) (zae st) .none kV doc pm an cdv ct) ⟨us,[]⟩=pure (ps.zip us)):zcc K fd ps []:=by
 obtain⟨oc,od,kV,doc,pm,an,cdv,ct,osl,rfl,lk,hcd⟩:=F.ex
 exact .all (h kV doc pm an cdv ct)
theorem fun_mk{x qual:Str}{st:Stmt}{f:Addr}{oc:Zll}{od an:Option Addr}{osl:Array (Option Zll)}{kV doc pm cdv ct:Zll}(l:K.lookup f=some ⟨oc,od,.func (Zmx x qual (zbr st) (za9 st) (zae st) .none kV doc pm an cdv ct),osl⟩)
  (c:Zs6 K cdv qual=true) (k:Zqy K (.ref f)=true):Fun K x qual st f (Zmx x qual (zbr st) (za9 st) (zae st) .none kV doc pm an cdv ct):=⟨⟨oc,od,kV,doc,pm,an,cdv,ct,osl,rfl,l,c⟩,k⟩
end
theorem yca{A:Zmu}{k:Nat}(hr:Room k A):A.units+1<Zr6:=Zua (Nat.add_le_add_left (by decide:1<=64) _) hr.units
section
variable{X:Cx}
theorem pv(i:Nat){x:Str}{pos:Pos}(hN:X.N[i]? = some x:=by rfl)(hv:Vis X.env.scope x:=by first | exact Zo6 rfl | exact Zy2 (Zo6 rfl) | exact Zy2 (Zy2 rfl))(hd:(x == ("__debug__" : Str))=false:=by decide)
  (hcd:(x == ("__classdict__" : Str))=false:=by decide):PE X (.Name x pos) (tVar i):=ymj hN hv hd hcd
end
theorem iteF{A B:Prop}(h:B):if false=true then A else B:=by
 rw[if_neg Zmc]
 exact h
theorem iteT{A B:Prop}(h:A):if true=true then A else B:=by
 rw[if_pos rfl]
 exact h
noncomputable def Same(H H':Hp):Prop:=∀b o,H b=some o->H' b=some o
theorem Same.refl(H:Hp):Same H H:=fun _ _ h=>h
theorem Same.trans{H H1 H2:Hp}(a:Same H H1)(b:Same H1 H2):Same H H2:=fun c o h=>b c o (a c o h)
theorem Same.free{H H':Hp}(e:Same H H'){l:Addr}(h:H' l=Yaj):H l=Yaj:=by
 cases q:H l with
 | none=>rfl
 | some o =>
  rw[e l o q] at h
  cases h
theorem Same.seq{K:Zlh}{H H':Hp}{a:Addr}{xs:List V}(e:Same H H')(h:SqL K H a xs):SqL K H' a xs:=by
 rcases h with (h | ⟨o,h⟩) | h
 .exact .inl (.inl (e _ _ h))
 .exact .inl (.inr ⟨o,e _ _ h⟩)
 .exact .inr h
section
variable{κ:Type}[DecidableEq κ]
noncomputable def valV(kvs:List (κ×V))(k:κ):Option V:=(kvs.find? fun kv=>decide (kv.1=k)).map (·.2)
noncomputable def putK(kvs:List (κ×V))(k:κ)(v:V):List (κ×V) :=
 if (kvs.any fun kv=>decide (kv.1=k))=true then kvs.map (fun kv=>if kv.1=k then (kv.1,v) else kv) else kvs++[(k,v)]
theorem zpt{p:κ×V}{r:List (κ×V)}{k:κ}(e:p.1=k):valV (p::r) k=some p.2:=by simp[valV,Zn5,e]
theorem zo8{p:κ×V}{r:List (κ×V)}{k:κ}(e:¬ p.1=k):valV (p::r) k=valV r k:=by simp[valV,Zn5,e]
theorem zp6(k:κ):∀kvs:List (κ×V),(kvs.any fun kv=>decide (kv.1=k))=(valV kvs k).isSome
 | []=>rfl
 | p::r=>by
  rw[Zp9]
  by_cases e:p.1=k
  .simp only[zpt e,decide_eq_true e,Zw4,Option.isSome_some]
  .rw[zo8 e,decide_eq_false e,Zsr];exact zp6 k r
theorem ziw(kvs:List (κ×V))(k:κ)(v:V):(putK kvs k v).length<=kvs.length+1:=by
 unfold putK
 split
 .rw[Zlm];omega
 .rw[Zlw,Zl1,Zm6];omega
theorem yet{kvs:List (κ×V)}{k:κ}(v:V)(h:valV kvs k=none):putK kvs k v=kvs++[(k,v)]:=by
 unfold putK
 rw[zp6,h]
 exact if_neg (by decide)
theorem RelO.isSome_eq{o:Option V}{u:Option Zll}(r:RelO o u):o.isSome=u.isSome:=by
 cases o with
 | none=>cases u with
  | none=>rfl
  | some _=>exact(show False from r).elim
 | some _=>cases u with
  | none=>exact(show False from r).elim
  | some _=>rfl
theorem RelO.getD{o:Option V}{u:Option Zll}{d:V}{d':Zll}(r:RelO o u)(rd:RelV d d'):RelV (o.getD d) (u.getD d'):=by
 cases o with
 | none=>cases u with
  | none=>exact rd
  | some _=>exact(show False from r).elim
 | some _=>cases u with
  | none=>exact(show False from r).elim
  | some _=>exact r
theorem KV.val{kvs:List (κ×V)}{vs:List (κ×Zll)}(r:KV kvs vs)(k:κ):RelO (valV kvs k) (Zwr vs k):=by
 unfold KV at r
 induction r with
 | nil=>exact Zsi
 | @cons p q ps qs h t ih =>
  obtain⟨h1,h2⟩:=h
  by_cases e:p.1=k
  .have e':q.1=k:=h1.symm.trans e
   have b:Zwr (q::qs) k=some q.2:=by simp[Zwr,Zn5,e']
   rw[zpt e,b];exact h2
  .have e':¬ q.1=k:=fun z=>e (h1.trans z)
   have b:Zwr (q::qs) k=Zwr qs k:=by simp[Zwr,Zn5,e']
   rw[zo8 e,b];exact ih
theorem KV.any{kvs:List (κ×V)}{vs:List (κ×Zll)}(r:KV kvs vs)(k:κ):(kvs.any fun kv=>decide (kv.1=k))=vs.any fun kv=>decide (kv.1=k):=by
 unfold KV at r
 induction r with
 | nil=>rfl
 | cons h t ih=>rw[Zp9,Zp9,ih,h.1]
theorem KV.repl{kvs:List (κ×V)}{vs:List (κ×Zll)}(r:KV kvs vs)(k:κ){y:V}{u:Zll}(ry:RelV y u) :
  KV (kvs.map fun kv=>if kv.1=k then (kv.1,y) else kv) (vs.map fun kv=>if kv.1=k then (kv.1,u) else kv):=by
 unfold KV at r ⊢
 induction r with
 | nil=>exact .nil
 | @cons p q ps qs h t ih =>
  rw[Zl0,Zl0]
  refine .cons ?_ ih
  obtain⟨h1,h2⟩:=h
  by_cases e:p.1=k
  .rw[if_pos e,if_pos (h1.symm.trans e)];exact⟨h1,ry⟩
  .rw[if_neg e,if_neg (fun z=>e (h1.trans z))];exact⟨h1,h2⟩
theorem KV.put{kvs:List (κ×V)}{vs:List (κ×Zll)}(r:KV kvs vs)(k:κ){y:V}{u:Zll}(ry:RelV y u):KV (putK kvs k y) (stored vs k u):=by
 unfold putK stored
 rw[r.any k]
 by_cases e:(vs.any fun kv=>decide (kv.1=k))=true
 .rw[if_pos e,if_pos e];exact r.repl k ry
 .rw[if_neg e,if_neg e];exact Yai r ⟨rfl,ry⟩
theorem KV.length{kvs:List (κ×V)}{vs:List (κ×Zll)}(r:KV kvs vs):kvs.length=vs.length:=Zv5 r
end
theorem zyi{P:Zmi}{w:Zng}{k:Key}{u:Zll}(r:RelV (kV k) u):(zav P w).is k u=true:=by
 cases k with
 | inl i=>obtain⟨t,e⟩:=(show ∃t,u=Zwx i t from r);subst e;exact zml P w i t
 | inr x=>obtain⟨t,e⟩:=(show ∃t,u=Zt1 x t from r);subst e;exact zmc P w x t
theorem zqu{P:Zmi}{w:Zng}:∀{ks:List Key} {us:List Zll},Vals (ks.map kV) us->ItemsAre (zav P w) ks us
 | [],_,r=>by rw[Zp6] at r;cases r;exact .nil
 | k::ks,_,r=>by
  rw[Zl0] at r
  cases r with
  | cons h t=>exact .cons (zyi h) (zqu t)
noncomputable abbrev KT(H:Hp):List (List Key×V)->List (List Key×Addr×Zll)->Prop:=Paired fun p q=>p.1=q.1/\H q.2.1=some (.tup (p.1.map kV))/\RelV p.2 q.2.2
theorem KT.val{H:Hp}{kvs:List (List Key×V)}{xs:List (List Key×Addr×Zll)}(r:KT H kvs xs)(k:List Key):RelO (valV kvs k) ((Zzs xs k).map (·.2)):=by
 induction r with
 | nil=>exact Zsi
 | @cons p q ps qs h t ih =>
  obtain⟨h1,_,h2⟩:=h
  by_cases e:p.1=k
  .have e':q.1=k:=h1.symm.trans e
   have b:Zzs (q::qs) k=some q.2:=by simp[Zzs,Zn5,e']
   rw[zpt e,b];exact h2
  .have e':¬ q.1=k:=fun z=>e (h1.trans z)
   have b:Zzs (q::qs) k=Zzs qs k:=by simp[Zzs,Zn5,e']
   rw[zo8 e,b];exact ih
theorem KT.repl{H:Hp}{kvs:List (List Key×V)}{xs:List (List Key×Addr×Zll)}(r:KT H kvs xs)(k:List Key){y:V}{u:Zll}(ry:RelV y u) :
  KT H (kvs.map fun kv=>if kv.1=k then (kv.1,y) else kv) (xs.map (putAt k u)):=by
 induction r with
 | nil=>exact .nil
 | @cons p q ps qs h t ih =>
  rw[Zl0,Zl0]
  refine .cons ?_ ih
  obtain⟨h1,h2,h3⟩:=h
  unfold putAt
  by_cases e:p.1=k
  .rw[if_pos e,if_pos (h1.symm.trans e)];exact⟨h1,h2,ry⟩
  .rw[if_neg e,if_neg (fun z=>e (h1.trans z))];exact⟨h1,h2,h3⟩
theorem KT.put{H:Hp}{kvs:List (List Key×V)}{xs:List (List Key×Addr×Zll)}(r:KT H kvs xs)(k:List Key){b:Addr}{y:V}{u:Zll}(hb:H b=some (.tup (k.map kV)))(ry:RelV y u) :
  KT H (putK kvs k y) (storedH xs k b u):=by
 have e:(kvs.any fun kv=>decide (kv.1=k))=(Zzs xs k).isSome:=by
  rw[zp6,(r.val k).isSome_eq,Zxn]
 unfold putK storedH
 rw[e]
 by_cases q:(Zzs xs k).isSome=true
 .rw[if_pos q,if_pos q];exact r.repl k ry
 .rw[if_neg q,if_neg q];exact Yai r ⟨rfl,hb,ry⟩
theorem KT.keeps{H H':Hp}{kvs:List (List Key×V)}{xs:List (List Key×Addr×Zll)}(r:KT H kvs xs)(ht:∀b ys,H b=some (.tup ys)->H' b=some (.tup ys)):KT H' kvs xs :=
 Paired.mapP r fun _ _ z=>⟨z.1,ht _ _ z.2.1,z.2.2⟩
section
variable{P:Zmi}{w:Zng}{H:Hp}{h:Heap}{a:Addr}
theorem ymg{u:HO}(ok:HOk P w H h)(e:Rd H a u):zed P w H h a u:=e.ok ok
theorem zx1{kvs:List (Key×V)}(ok:HOk P w H h)(e:Rd H a (.dK kvs)):kvs.length<=sizeLine/\(a == Zqi)=false /\ ∃vs,KV kvs vs/\h.DictOf (zav P w) a vs :=
 show zed P w H h a (.dK kvs) from ymg ok e
theorem yj6{kvs:List (Key×V)}(ok:HOk P w H h)(e:H a=some (.dK kvs)):kvs.length<=sizeLine/\(a == Zqi)=false /\ ∃vs,KV kvs vs/\h.DictOf (zav P w) a vs:=zx1 ok (.inl e)
theorem zsz{ks:List Key}(ok:HOk P w H h)(e:H a=some (.tup (ks.map kV))):(Zu4 (zav P w)).is h ks a:=by
 obtain⟨_,its,r,o,h1,h2,n,h3⟩:=(show zed P w H h a (.tup (ks.map kV)) from ok a _ e)
 exact⟨o,its.toArray,n,h1,h2,h3,by simpa using zqu r⟩
theorem zwz{kvs:List (List Key×V)}(ok:HOk P w H h)(e:Rd H a (.dT kvs)):kvs.length<=sizeLine/\(a == Zqi)=false /\
  ∃xs,KT H kvs xs/\h.DictOfH (Zu4 (zav P w)) a xs:=by
 obtain⟨z,y,xs,r,o,es,ep,h1,h2,h3,h4,h5⟩:=(show zed P w H h a (.dT kvs) from ymg ok e)
 refine⟨z,y,xs,r,o,es,ep,h1,h2,h3,h4,fun x hx=>?_,h5⟩
 have all:∀{l:List (List Key×V)} {m:List (List Key×Addr×Zll)},KT H l m-> ∀x∈m,(Zu4 (zav P w)).is h x.1 x.2.1:=by
  intro l m q
  induction q with
  | nil=>intro x hx;exact nomatch hx
  | @cons p q ps qs hq t ih =>
   intro x hx
   rcases Zly.mp hx with e | hx
   .subst e
    exact zsz ok (by rw[<- hq.1];exact hq.2.1)
   .exact ih x hx
 exact all r x hx
theorem ymo{kvs:List (List Key×V)}(ok:HOk P w H h)(e:H a=some (.dT kvs)):kvs.length<=sizeLine/\(a == Zqi)=false /\
  ∃xs,KT H kvs xs/\h.DictOfH (Zu4 (zav P w)) a xs:=zwz ok (.inl e)
end
noncomputable def DGet(H:Hp)(a:Addr)(y:V)(r:Option V):Prop :=
 (∃kvs k,Rd H a (.dK kvs)/\y=kV k/\r=valV kvs k) \/ ∃kvs k b,Rd H a (.dT kvs)/\y= .ref b/\H b=some (.tup (k.map kV))/\r=valV kvs k
noncomputable def DPut(H:Hp)(a:Addr)(y v:V)(H':Hp):Prop :=
 (∃kvs k,H a=some (.dK kvs)/\y=kV k/\kvs.length<sizeLine/\H'=upd H a (.dK (putK kvs k v))) \/
 ∃kvs k b,H a=some (.dT kvs)/\y= .ref b/\H b=some (.tup (k.map kV))/\kvs.length<sizeLine/\H'=upd H a (.dT (putK kvs k v))
theorem DGet.k{H:Hp}{a:Addr}{kvs:List (Key×V)}{k:Key}(e:H a=some (.dK kvs)):DGet H a (kV k) (valV kvs k):=.inl ⟨kvs,k,.inl e,rfl,rfl⟩
theorem DGet.t{H:Hp}{a b:Addr}{kvs:List (List Key×V)}{k:List Key}(e:H a=some (.dT kvs))(eb:H b=some (.tup (k.map kV))):DGet H a (.ref b) (valV kvs k):=.inr ⟨kvs,k,b,.inl e,rfl,eb,rfl⟩
theorem DPut.t{H:Hp}{a b:Addr}{kvs:List (List Key×V)}{k:List Key}{v:V}(e:H a=some (.dT kvs))(eb:H b=some (.tup (k.map kV)))(hl:kvs.length<sizeLine) :
  DPut H a (.ref b) v (upd H a (.dT (putK kvs k v))):=.inr ⟨kvs,k,b,e,rfl,eb,hl,rfl⟩
section
variable{X:Cx}{pins:List (Addr×Obj)}{U:St}{H:Hp}{s:Zlo}{a:Addr}{y v:V}{u r:Zll}{o:Option V}{A:Zmu}{E:Zll->Zlo->Prop}
theorem Inv.big(I:Inv X pins U H s):Zqi<s.heap.objs.size:=by
 have h:Zpo<s.heap.objs.size:=(I.mod.glob.keeps I.bk).lt
 exact Yb8 (by decide) h
theorem ybd{Q:Zll->Zlo->Prop}(hu:A.units+1<Zr6)(I:Inv X pins U H s)(g:DGet H a y (some v))(ry:RelV y u)(h:∀w' s',Inv X pins U H s'->RelV v w'->Q w' s') :
  Zl8 (Zmh X.prog X.w) A (Zxz (.ref a) u) Q E s:=by
 rcases g with ⟨kvs,k,e,ey,l⟩ | ⟨kvs,k,b,e,ey,eb,l⟩
 .subst ey
  obtain⟨z,hd,vs,rel,dd⟩:=zx1 I.hok e
  obtain⟨w',hw,rw'⟩:=RelO.some_of (v:=v) (o:=Zwr vs k) (by rw[l];exact rel.val k)
  exact wpAny_getItem_of (zyi ry) dd.mapOf hw (h w' _ (I.tok _) rw')
 .subst ey
  cases (show u=Znh b from ry)
  obtain⟨z,hd,xs,rel,dd⟩:=zwz I.hok e
  obtain⟨w',hw,rw'⟩:=RelO.some_of (v:=v) (o:=(Zzs xs k).map (·.2)) (by rw[l];exact rel.val k)
  obtain⟨p,hp,hp2⟩:=Option.map_eq_some_iff.mp hw
  refine wpAny_getItem_heap (Zsm hu) (zsz I.hok eb) dd hp ?_
  rw[hp2]
  exact h w' _ (I.tok _) rw'
theorem yih{Q:Zll->Zlo->Prop}(hu:A.units+1<Zr6)(I:Inv X pins U H s)(g:DGet H a y o)(ry:RelV y u)(h:∀s',Inv X pins U H s'->Q (.bool (!o.isSome)) s') :
  Zl8 (Zmh X.prog X.w) A (Zop .NotIn u (.ref a)) Q E s:=by
 rcases g with ⟨kvs,k,e,ey,l⟩ | ⟨kvs,k,b,e,ey,eb,l⟩
 .subst ey
  obtain⟨z,hd,vs,rel,dd⟩:=zx1 I.hok e
  refine wpAny_notIn_of (zyi ry) hd dd.mapOf ?_
  rw[<- (rel.val k).isSome_eq,<- l]
  exact h _ (I.tok _)
 .subst ey
  cases (show u=Znh b from ry)
  obtain⟨z,hd,xs,rel,dd⟩:=zwz I.hok e
  refine wpAny_notIn_heap (Zsm hu) (zsz I.hok eb) hd dd ?_
  have q:=(rel.val k).isSome_eq
  rw[Zxn] at q
  rw[<- q,<- l]
  exact h _ (I.tok _)
theorem ztu{h':Heap}{t':Nat}{ob:HO}(I:Inv X pins U H s)(mu:Mut (H a))(hs:Zog a s.heap h')(he:∃q,h'.get? a=some q)(new:zed X.prog X.w (upd H a ob) h' a ob) :
  Inv X pins U (upd H a ob) { s with heap:=h',toks:=t' } :=
 I.write (x:=a) (e:=a) mu (.inl rfl) (fun b q hb z=>(hs.2 b hb).trans z) he new
theorem ygk{P:Zmi}{w:Zng}{H':Hp}{h':Heap}{kvs:List (Key×V)}{vs:List (Key×Zll)}(z:kvs.length<=sizeLine)(hd:(a == Zqi)=false)(rel:KV kvs vs)(dd:h'.DictOf (zav P w) a vs) :
  zed P w H' h' a (.dK kvs):=⟨z,hd,vs,rel,dd⟩
theorem ybf{H':Hp}{Q:Unit->Zlo->Prop}(hu:A.units+1<Zr6)(I:Inv X pins U H s)(g:DPut H a y v H')(ry:RelV y u)(rv:RelV v r)(h:∀s',Inv X pins U H' s'->Q () s') :
  Zl8 (Zmh X.prog X.w) A (setItem (.ref a) u r) Q E s:=by
 rcases g with ⟨kvs,k,e,ey,l,eH⟩ | ⟨kvs,k,b,e,ey,eb,l,eH⟩
 .subst ey eH
  obtain⟨z,hd,vs,rel,dd⟩:=yj6 I.hok e
  have hz:vs.length<=sizeLine:=by rw[<- rel.length];exact z
  have hl:(putK kvs k v).length<=sizeLine:=by have:=ziw kvs k v;omega
  refine wpAny_setItem_pairs (hsz:=hz) (zyi ry) dd fun h' dd' hs=>h _ ?_
  have he:∃q,h'.get? a=some q:=let ⟨q,_,_,hq,_⟩:=dd';⟨q,hq⟩
  exact ztu I (by rw[e];exact Zsi) hs he (ygk hl hd (rel.put k rv) dd')
 .subst ey eH
  cases (show u=Znh b from ry)
  obtain⟨z,hd,xs,rel,dd⟩:=ymo I.hok e
  have hz:xs.length<=sizeLine:=by rw[<- Zv5 rel];exact z
  have hl:(putK kvs k v).length<=sizeLine:=by have:=ziw kvs k v;omega
  refine wpAny_setItem_heap (hsz:=hz) (Zsm hu) (zsz I.hok eb) dd fun h' dd' hs=>h _ ?_
  obtain⟨q,es,ep,hq,h2,h3,h4,_,h5⟩:=dd'
  refine ztu I (by rw[e];exact Zsi) hs ⟨q,hq⟩ ⟨hl,hd,_,(rel.put k eb rv).keeps fun c ys ec=>?_,q,es,ep,hq,h2,h3,h4,h5⟩
  rw[zat (ym9 ec e (fun z=>nomatch z))]
  exact ec
end
noncomputable def NoSl(i:Expr):Prop:=∀ov iv,Zws i false ov iv=operate [ov,iv] (Zxz ov iv)
theorem yia{prog:Zmi}{w:Zng}{A:Zmu}{E:Zll->Zlo->Prop}{s:Zlo}{env:Env}{value slice:Expr}{pos:Pos}{T id:String}{Q:Zll->Zlo->Prop}
  (hl:Yat (.type T) "__getitem__" = pure (some (.builtin id))) (hs:NoSl slice)
  (h:Zl8 (Zmh prog w) A (eval value env) (fun o s₁=>Zl8 (Zmh prog w) A (eval slice env) (fun i s₂=>s₂.TypeIs o T/\Zl8 (Zmh prog w) A (Zxz o i) Q E s₂) E s₁) E s) :
  Zl8 (Zmh prog w) A (eval (.Subscript value slice pos) env) Q E s:=by
 refine Ya5 (Zn1 h (fun o s₁ h₁=>Zn1 h₁ (fun i s₂ h₂=>?_) fun _ _ x=>x) fun _ _ x=>x)
 obtain⟨hT,h₂⟩:=h₂
 unfold Zxu
 refine Zli ?_
 rw[getitemInPython_of_ne hT.not_modules]
 refine Zli (Ztv hT hl ?_)
 have fin:Zl8 (Zmh prog w) A (Zws slice false o i) (fun r s₃=>Zl8 (Zmh prog w) A (letTemporaryGo value o r >>= fun _=>pure r) Q E s₃) E s₂:=by
  rw[hs o i]
  exact wpAny_operating (Zn1 h₂ (fun r s₃ h₃=>Zli (wpAny_letTemporaryGo (Zln h₃))) fun _ _ x=>x)
 first
  | exact Zln (Zli fin)
  | exact Zli (Zln (Zli fin))
  | exact Zli fin
theorem ztl{X:Cx}{pins:List (Addr×Obj)}{U:St}{H:Hp}{s:Zlo}{a:Addr}{y:V}{o:Option V}(I:Inv X pins U H s)(g:DGet H a y o):s.TypeIs (.ref a) "dict" := by
 rcases g with ⟨kvs,k,e,_,_⟩ | ⟨kvs,k,b,e,_,_,_⟩
 .obtain⟨_,_,vs,_,dd⟩:=zx1 I.hok e
  exact dd.typeIs
 .obtain⟨_,_,xs,_,dd⟩:=zwz I.hok e
  exact dd.typeIs
noncomputable def yjw(td ty:TE):TE:=fun U H Q=>td U H fun x H1=>ty U H1 fun y H2=>∃a v,x= .ref a/\DGet H2 a y (some v)/\Q v H2
noncomputable def ybj(ty td:TE):TE:=fun U H Q=>ty U H fun y H1=>td U H1 fun x H2=>∃a o,x= .ref a/\DGet H2 a y o/\Q (.bl (!o.isSome)) H2
noncomputable def ylp(td ty tv:TE):TS:=fun D U H=>tv U H fun v H1=>td U H1 fun x H2=>ty U H2 fun y H3=>∃a H4,x= .ref a/\DPut H3 a y v H4/\D.nx U H4
section
variable{X:Cx}{o i e value:Expr}{pos pos' tpos:Pos}{td ty tv:TE}
theorem yh1(hu:X.A.units+1<Zr6)(ho:PE X o td)(hi:PE X i ty)(hs:NoSl i):PE X (.Subscript o i pos) (yjw td ty):=by
 intro pins s U H Q I h
 refine yia PySem.F.slot_dict_getitem.lookup hs (thn (ho pins s U H _ I h) fun u s1 ⟨x,H1,I1,rx,q1⟩=>thn (hi pins s1 U H1 _ I1 q1) fun iv s2 hz9=>?_)
 obtain⟨y,H2,I2,ry,a,v,ex,g,q2⟩:=hz9
 subst ex
 obtain rfl:u=Znh a:=rx
 exact⟨ztl I2 g,ybd hu I2 g ry fun w' s3 I3 rw'=>⟨v,H2,I3,rw',q2⟩⟩
theorem zze(hu:X.A.units+1<Zr6)(hi:PE X i ty)(ho:PE X o td):PC X .NotIn i o (ybj ty td):=by
 intro pins s U H Q I h
 refine thn (hi pins s U H _ I h) fun iv s1 ⟨y,H1,I1,ry,q1⟩=>thn (ho pins s1 U H1 _ I1 q1) fun u s2 hz9=>?_
 obtain⟨x,H2,I2,rx,a,ov,ex,g,q2⟩:=hz9
 subst ex
 obtain rfl:u=Znh a:=rx
 exact yih hu I2 g ry fun s3 I3=>⟨.bl (!ov.isSome),H2,I3,rfl,q2⟩
theorem yhk(hu:X.A.units+1<Zr6)(ho:PE X o td)(hi:PE X i ty)(hv:PE X value tv)(hs:Zs0 value (some (.Subscript o i pos')) pos.line X.env=pure false) :
  PS X (.Assign [.Subscript o i pos'] value pos) (ylp td ty tv):=by
 intro pins s U H D I h
 refine wpAny_Assign_Subscript (thn (hv pins s U H _ I h) fun r s1 ⟨v,H1,I1,rv,q1⟩=>thn (ho pins s1 U H1 _ I1 q1) fun u s2 ⟨x,H2,I2,rx,q2⟩=>thn (hi pins s2 U H2 _ I2 q2) fun iv s3 hz9=>?_) hs
 obtain⟨y,H3,I3,ry,a,H4,ex,g,q3⟩:=hz9
 subst ex
 obtain rfl:u=Znh a:=rx
 exact ybf hu I3 g ry rv fun s4 I4=>⟨U,H4,I4,q3⟩
end
theorem yeu{P:Zmi}{w:Zng}{H:Hp}(h:Heap)(hb:Zqi<h.objs.size):zed P w H (h.push { cls:=.type "dict", data:=.dict #[] }) h.objs.size (.dK []) :=
 ⟨Zmt _,beq_eq_false_iff_ne.mpr (Zne (Zmb hb)),[],.nil,Ycs h⟩
theorem yek{P:Zmi}{w:Zng}{H:Hp}(h:Heap)(hb:Zqi<h.objs.size):zed P w H (h.push { cls:=.type "dict", data:=.dict #[] }) h.objs.size (.dT []) :=
 ⟨Zmt _,beq_eq_false_iff_ne.mpr (Zne (Zmb hb)),[],.nil,_,#[],0,Zl3 _ rfl,⟨rfl,rfl,rfl⟩,rfl,rfl,Zrd⟩
noncomputable def ygj:TE:=fun _ H Q=>∀p,H p=none->Q (.ref p) (upd H p (.dK []))
noncomputable def yfs:TE:=fun _ H Q=>∀p,H p=none->Q (.ref p) (upd H p (.dT []))
section
variable{X:Cx}{pos:Pos}
theorem ydz:PE X (.Dict [] [] pos) ygj:=fun pins s U H Q I h =>
 Ybn ⟨.ref s.heap.objs.size,_,I.laid (a:=s.heap.objs.size) (o:=.dK []) (t':=s.toks) (fun _ _ q=>Zlu _ q) (Zlt _) (yeu s.heap I.big),rfl,h _ (I.hok.fresh (Zlt _))⟩
theorem ydp:PE X (.Dict [] [] pos) yfs:=fun pins s U H Q I h =>
 Ybn ⟨.ref s.heap.objs.size,_,I.laid (a:=s.heap.objs.size) (o:=.dT []) (t':=s.toks) (fun _ _ q=>Zlu _ q) (Zlt _) (yek s.heap I.big),rfl,h _ (I.hok.fresh (Zlt _))⟩
end
structure M1(X:Cx)(o:Expr)(m:Str)(apos:Pos)(e:Expr)(cpos:Pos):Prop where
 base:Zrb o m X.env (eval o X.env)=eval o X.env
 few:((Zpk cpos (Zmk [e] X.env)).all (fun x=>!x.1)&&(Zp8 cpos (Zoj [] X.env)).all (fun x=>x.1.isSome)
  && decide (([e]:List Expr).length+([]:List Zte).length+(if ([]:List Zte).isEmpty then 0 else 1)<30))=true
 line:(apos.endLine == cpos.line)=true
 trees:Zpk cpos (Zmk [e] X.env)=[(false,eval e X.env)]
structure M2(X:Cx)(o:Expr)(m:Str)(apos:Pos)(e f:Expr)(cpos:Pos):Prop where
 base:Zrb o m X.env (eval o X.env)=eval o X.env
 few:((Zpk cpos (Zmk [e,f] X.env)).all (fun x=>!x.1)&&(Zp8 cpos (Zoj [] X.env)).all (fun x=>x.1.isSome)
  && decide (([e,f]:List Expr).length+([]:List Zte).length+(if ([]:List Zte).isEmpty then 0 else 1)<30))=true
 line:(apos.endLine == cpos.line)=true
 trees:Zpk cpos (Zmk [e,f] X.env)=[(false,eval e X.env),(false,eval f X.env)]
noncomputable def IsD(H:Hp)(a:Addr):Prop:=(∃kvs,Rd H a (.dK kvs)) \/ ∃kvs,Rd H a (.dT kvs)
theorem ylk{X:Cx}{pins:List (Addr×Obj)}{U:St}{H:Hp}{s:Zlo}{a:Addr}(I:Inv X pins U H s)(d:IsD H a) :
  s.TypeIs (.ref a) "dict" /\ (∀b,Znh a= .ref b-> ∃ob,s.heap.get? b=some ob/\ob.dict=none)/\(a == Zqi)=false:=by
 rcases d with ⟨kvs,e⟩ | ⟨kvs,e⟩
 .obtain⟨_,hd,vs,_,dd⟩:=zx1 I.hok e
  refine⟨dd.typeIs,fun b q=>?_,hd⟩
  cases q
  obtain⟨ob,_,_,h1,h2,_⟩:=dd
  exact⟨ob,h1,h2.2.1⟩
 .obtain⟨_,hd,xs,_,dd⟩:=zwz I.hok e
  refine⟨dd.typeIs,fun b q=>?_,hd⟩
  cases q
  obtain⟨ob,_,_,h1,h2,_⟩:=dd
  exact⟨ob,h1,h2.2.1⟩
section
variable{X:Cx}{pins:List (Addr×Obj)}{U:St}{H:Hp}{s:Zlo}{a:Addr}{y d:V}{u r:Zll}{o:Option V}{A:Zmu}{E:Zll->Zlo->Prop}
theorem ykh{Q:Zll->Zlo->Prop}(hu:A.units+1<Zr6)(I:Inv X pins U H s)(g:DGet H a y o)(ry:RelV y u)(rd:RelV d r)(h:∀w' s',Inv X pins U H s'->RelV (o.getD d) w'->Q w' s') :
  Zl8 (Zmh X.prog X.w) A (call (.builtin "dict.get") [.ref a,u,r]) Q E s:=by
 rcases g with ⟨kvs,k,e,ey,l⟩ | ⟨kvs,k,b,e,ey,eb,l⟩
 .subst ey
  obtain⟨z,hd,vs,rel,dd⟩:=zx1 I.hok e
  refine Zyw Zst dd.typeIs Zv4 (Zvp _ _ _) (meets_dict_get_default (zav X.prog X.w) a (zyi ry) hd r) ⟨_,dd.mapOf,h _ _ (I.tok _) ?_⟩
  rw[l]
  exact(rel.val k).getD rd
 .subst ey
  cases (show u=Znh b from ry)
  obtain⟨z,hd,xs,rel,dd⟩:=zwz I.hok e
  refine Zyw Zst dd.typeIs Zv4 (Zvp _ _ _) (meetsH_dict_get_default (Zu4 (zav X.prog X.w)) a b hd r) ⟨Zsm hu,k,xs,zsz I.hok eb,dd,h _ _ (I.tok _) ?_⟩
  rw[l]
  exact(rel.val k).getD rd
end
noncomputable def yf5(td ty tx:TE):TE:=fun U H Q=>td U H fun x H1=>∃a,x= .ref a/\IsD H1 a/\ty U H1 fun y H2=>tx U H2 fun z H3=>∃o,DGet H3 a y o/\Q (o.getD z) H3
section
variable{X:Cx}{o e f:Expr}{apos cpos:Pos}{td ty tx:TE}
theorem zvb(hu:X.A.units+1<Zr6)(ho:PE X o td)(he:PE X e ty)(hf:PE X f tx)(m:M2 X o "get" apos e f cpos):PE X (.Call (.Attribute o "get" apos) [e,f] [] cpos) (yf5 td ty tx):=by
 intro pins s U H Q I h
 refine wpAny_Call_method m.base m.few m.line PySem.F.plainAttrs_dict Zst PySem.F.type_dict_get (thn (ho pins s U H _ I h) fun u s1 hz9=>?_)
 obtain⟨x,H1,I1,rx,a,ex,d,q1⟩:=hz9
 subst ex
 obtain rfl:u=Znh a:=rx
 obtain⟨t1,t2,_⟩:=ylk I1 d
 refine⟨t1,t2,?_⟩
 rw[m.trees]
 refine Zq0 rfl (Ztg (Zpe (thn (he pins s1 U H1 _ I1 q1) fun iv s2 ⟨y,H2,I2,ry,q2⟩ =>
  Zpe (thn (hf pins s2 U H2 _ I2 q2) fun fv s3 ⟨z,H3,I3,rz,ov,g,q3⟩=>Zud ?_))))
 exact ykh hu I3 g ry rz fun w' s4 I4 rw'=>⟨_,H3,I4,rw',q3⟩
end
end L2
namespace L2
open PySem PySem.Spec PyProof.Rows PySem.Builtin PySem.Builtin.Str
noncomputable def T(l:List Nat):Str:=⟨l.toArray⟩
theorem zet(l:List Nat):(T l).cps.toList=l:=by simp[T]
theorem ybu{a b:List Nat}:T a=T b↔a=b:=by
 constructor
 .intro h
  have:=congrArg (fun x:Str=>x.cps.toList) h
  simpa[T] using this
 .rintro rfl;rfl
theorem zb5(l:List Nat):(T l).length=l.length:=by simp[T,Zyz]
theorem yhv(a b:List Nat):T a++T b=T (a++b):=by
 show Yc4 (T a) (T b)=_
 simp[Yc4,T]
theorem zu0(a b:List Nat):decide ((V.str (T a))=V.str (T b))=decide (a=b):=by
 by_cases h:a=b
 .subst h;simp
 .rw[decide_eq_false h,decide_eq_false]
  intro q;injection q with q;exact h (ybu.mp q)
noncomputable def cutL(xs:List Nat)(lo hi:Option Int):List Nat:=(xs.drop (HT.sIx xs.length 0 lo)).take (HT.sIx xs.length xs.length hi - HT.sIx xs.length 0 lo)
theorem zks(lo hi:Option Int)(n:Nat):strSliceIndices lo hi 1 n=(Zl6 (HT.sIx n n hi - HT.sIx n 0 lo)).map (HT.sIx n 0 lo + ·):=by
 have h1:(1:Int)>0:=by decide
 have a:∀(v:Int) (d:Nat),max 0 (min (if v<0 then v+(n:Int) else v) (n:Int))=((HT.sIx n d (some v):Nat):Int):=by
  intro v d
  show _=(((if v<0 then (v+(n:Int)).toNat else min v.toNat n):Nat):Int)
  by_cases hv:v<0
  .simp only[if_pos hv];lia
  .simp only[if_neg hv];lia
 have key:∀(p q:Nat),sliceRange (p:Int) (q:Int) 1=(Zl6 (q - p)).map (p + ·):=by
  intro p q
  unfold sliceRange
  simp only[h1,if_true]
  have e:(if (p:Int)<(q:Int) then ((q:Int) - p+1 - 1) / 1 else 0).toNat=q - p:=by
   split <;> lia
  rw[e]
  refine Zrz fun k _=>?_
  lia
 unfold strSliceIndices
 simp only[h1,if_true]
 cases lo with
 | none =>
  cases hi with
  | none=>exact key 0 n
  | some v=>dsimp only;rw[a v n];exact key 0 _
 | some u =>
  cases hi with
  | none=>dsimp only;rw[a u 0];exact key _ n
  | some v=>dsimp only;rw[a u 0,a v n];exact key _ _
theorem ya7(n:Nat)(o:Option Int):HT.sIx n n o<=n:=HT.sIx_le n n (Zlt _) o
theorem ycn(x:List Nat)(lo hi:Option Int):Zw6 (T x) lo hi=T (cutL x lo hi):=by
 have hlen:(T x).length=x.length:=zb5 x
 have hle:=ya7 x.length hi
 have e:(strSliceIndices lo hi 1 (T x).length).filterMap ((T x).cps[·]?)=cutL x lo hi:=by
  rw[zks,hlen]
  unfold cutL
  generalize hp:HT.sIx x.length 0 lo=p
  generalize HT.sIx x.length x.length hi=q at hle ⊢
  by_cases hpq:p<=q
  .have:=StrLaws.picks x (q - p) p (by lia)
   rw[<- this]
   simp[T]
  .have:q - p=0:=by lia
   rw[this];simp
 unfold Zw6
 split
 .rename_i h
  have h2:(strSliceIndices lo hi 1 (T x).length).length=(T x).length:=by
   simp only[Zmd,beq_iff_eq] at h;exact h.2
  rw[zks,hlen,Zlm,Zm2] at h2
  have h3:HT.sIx x.length 0 lo<=x.length:=HT.sIx_le _ 0 (Zmt _) lo
  unfold cutL
  by_cases hx:x.length=0
  .have:x=[]:=Zrk hx
   subst this;simp
  .have e1:HT.sIx x.length 0 lo=0:=by lia
   have e2:HT.sIx x.length x.length hi=x.length:=by lia
   rw[e1,e2];simp
 .rw[e];rfl
section
variable{X:Cx}
noncomputable def zz4:V->List V->Hp->VK->Prop:=fun x vs H Q=>∃z,x= .str z/\vs=[]/\z.length<=5592405/\Q (.str (Ydl z)) H
theorem zql:MtR X "str.lower" zz4:=by
 intro pins s U H x xs v us Q I rx rs h
 obtain⟨z,rfl,rfl,hz,q⟩:=h
 obtain⟨t,rfl⟩:=rx
 cases rs
 exact SCL.lower hz fun _=>⟨.str _,H,I.tok _,⟨_,rfl⟩,q⟩
theorem zl1:∀(l:List (Str×Tok)),Vals ((l.map (·.1)).map V.str) (Ych l)
 | []=>.nil
 | p::r=>.cons ⟨p.2,rfl⟩ (zl1 r)
theorem zmg:∀{ys:List Str} {us:List Zll},Vals (ys.map V.str) us->StrsAre us ys
 | [],_,h=>by cases h;exact .nil
 | y::r,_,h=>by
  cases h with
  | cons a b =>
   obtain⟨t,rfl⟩:=a
   exact .cons y t (zmg b)
noncomputable def ybx:V->List V->Hp->VK->Prop:=fun x vs H Q=>∃z y,x= .str z/\vs=[.str y]/\(y.length == 0)=false/\z.length+2<=sizeLine /\ ∀p,H p=none->Q (.ref p) (upd H p (.lst ((Zt9 z y).map V.str)))
theorem yaj(x y:Str):(Zt9 x y).length<=x.length+2:=by
 unfold Zt9
 split
 .simp
 .split
  .simp
  .rw[Zzq]
   have:=Zwb x y 0 x.length (x.length+1)
   lia
theorem zli:MtR X "str.split" ybx:=by
 intro pins s U H x xs v us Q I rx rs h
 obtain⟨z,y,rfl,rfl,hy,hz,q⟩:=h
 obtain⟨t,rfl⟩:=rx
 obtain⟨u,rfl,ru⟩:=Vals.one rs
 obtain⟨u,rfl⟩:=ru
 have hlen:=yaj z y
 have fin:∀(l:List (Str×Tok)) (k:Nat),l.map (·.1)=Zt9 z y ->
   EP X pins U Q (.ref s.heap.objs.size) { s with heap:=s.heap.push { cls:=.type "list", data:=.seq (Ych l).toArray },toks:=k }:=fun l k e=>by
  have v1:=zl1 l
  rw[e] at v1
  exact⟨.ref s.heap.objs.size,_,I.lnew v1 (by rw[Zlm];lia),rfl,q _ I.fresh⟩
 have hn:(partsBetween z (occurrences z y 0 z.length (z.length+1)) y.length).length<=sizeLine:=by
  have e1:=Zwb z y 0 z.length (z.length+1)
  rw[Zzq];lia
 cases h1:(decide (z.length<y.length)||decide (strKind z<strKind y))
 .cases hf:(occurrences z y 0 z.length (z.length+1)).isEmpty
  .refine Zrn Zoa (Zo0 _ _ _) Zqg (Zuw _ _) (meets_str_split_sep z y t u h1 hy hf (by lia) hn) ?_
   show wants (EP X pins U Q) X.xe _ { s with toks:=_,heap:=s.heap.push { cls:=.type "list", data:=.seq (strsFrom s.toks (partsBetween z (occurrences z y 0 z.length (z.length+1)) y.length)).toArray } }
   rw[strsFrom_eq]
   exact fin (numbered s.toks _) _ ((Ycz _ _).trans ((if_neg (ne_true_of_eq_false h1)).trans (if_neg (ne_true_of_eq_false hf))).symm)
  .exact Zrn Zoa (Zo0 _ _ _) Zqg (Zuw _ _) (meets_str_split_not_found z y t u h1 hy hf)
    (fin [(z,t)] s.toks ((if_neg (ne_true_of_eq_false h1)).trans (if_pos hf)).symm)
 .exact Zrn Zoa (Zo0 _ _ _) Zqg (Zuw _ _) (meets_str_split_cannot_occur z y t u h1)
   (fin [(z,t)] s.toks (if_pos h1).symm)
noncomputable def zy5(K:Zlh):V->List V->Hp->VK->Prop:=fun x vs H Q=>∃z p ys,x= .str z/\vs=[.ref p]/\SqL K H p (ys.map V.str)/\(ys.map (·.length)).sum+ys.length*z.length<=16777216/\Q (.str (Zvc z ys)) H
theorem zi7:MtR X "str.join" (zy5 X.K):=by
 intro pins s U H x xs v us Q I rx rs h
 obtain⟨z,p,ys,rfl,rfl,hl,hz,q⟩:=h
 obtain⟨t,rfl⟩:=rx
 obtain⟨u,rfl,ru⟩:=Vals.one rs
 cases ru
 obtain⟨its,r,pl,_⟩:=I.list hl
 refine join_list pl.isList (ys:=ys) (by simpa using zmg r) hz fun t' k=>⟨.str _,H,I.tok _,⟨_,by show _=Zt1 (Zvc z ys) t';rw[<- Zwc];rfl⟩,q⟩
noncomputable def rSlS:V->Option Int->Option Int->Hp->VK->Prop:=fun x lo hi H Q=>∃l,x= .str (T l)/\l.length<=sizeLine/\Q (.str (T (cutL l lo hi))) H
theorem zcv:SlR X rSlS:=by
 intro pins s U H x v vl vu lo hi sl Q I rx hs pl pu h
 obtain⟨l,rfl,hz,q⟩:=h
 obtain⟨t,rfl⟩:=rx
 refine⟨"str", _,F.slot_str_getitem.lookup,Zo0 _ _ _,?_⟩
 have hz':(T l).length<=sizeLine:=by rw[zb5];exact hz
 have fin:(Zw6 (T l) lo hi).length<=sizeLine /\ ∀t' k,EP X pins U Q (.str (Zw6 (T l) lo hi) t') { s with toks:=k } :=
  ⟨Znm (Txt.slice_le _ _ _) hz',fun t' k=>⟨.str _,H,I.tok _,⟨_,by rw[ycn]⟩,q⟩⟩
 obtain⟨o,ho,hc,hd⟩:=hs
 cases pl with
 | none =>
  cases pu with
  | none=>exact Zq9 (l:=none) (u:=none) (st:=none) ⟨o,ho,hc,hd⟩ rfl (Ztw fin)
  | int j uj=>exact Zq9 (l:=none) (u:=some (j,uj)) (st:=none) ⟨o,ho,hc,hd⟩ rfl (Ztw fin)
 | int i ui =>
  cases pu with
  | none=>exact Zq9 (l:=some (i,ui)) (u:=none) (st:=none) ⟨o,ho,hc,hd⟩ rfl (Ztw fin)
  | int j uj=>exact Zq9 (l:=some (i,ui)) (u:=some (j,uj)) (st:=none) ⟨o,ho,hc,hd⟩ rfl (Ztw fin)
end
noncomputable def Its(x:Str):It:=⟨fun i _=>i<x.cps.toList.length,fun i H v H'=>H'=H /\ ∃c,x.cps.toList[i]? = some c/\v= .str (T [c]),fun i _=>x.cps.toList.length<=i⟩
theorem zqt{P:Zmi}{w:Zng}{K:Zlh}{tg:Expr}{it:Addr}{n:Nat}{R:Nat->Zll->Prop}{St:Nat->Heap->Prop}{J:It}
  (W:∀A':Zmu,A'.handled=none->Zyy P w A' it [it] [it] n R St) (hself:∀(A':Zmu) (i:Nat) (s:Zlo) (Q:Zll->Zlo->Prop) (E:Zll->Zlo->Prop),St i s.heap->Q (.ref it) s->Zl8 (Zmh P w) A' (Zyu (.ref it)) Q E s) (ho:∀i h,St i h-> ∃o T vs,h.get? it=some o/\o.cls= .type T/\o.data= .fields vs/\["enumerate", "zip", "dict_itemiterator", "dict_reverseitemiterator", "odict_iterator", "itertools.zip_longest", "itertools.pairwise"].contains T=false)
  (hgo:∀i H,J.go i H->i<n) (hst:∀i H,J.stop i H->n<=i) (hy:∀i v H,i<n->R i v-> ∃x,RelV x v/\J.yld i H x H):Turn P w K tg J [it] it (fun i h=>i<=n/\St i h) where
 mem:=by simp
 obj:=fun i h st b hb=>by
  have e:b=it:=by simpa using hb
  subst e
  obtain⟨o,T,vs,e,c,d,_⟩:=ho i h st.2
  exact⟨o,e,fun v z=>by rw[d] at z;cases z⟩
 keep:=fun i h h' st k=>⟨st.1,by
  have W0:=W ({}:Zmu) rfl
  exact W0.frame i h h' st.2 fun b hb o e=>k b hb o e⟩
 item:=by
  intro X hP hw hK hc i pins s U H E I hf st hg
  subst hP hw hK
  obtain⟨f0,f1,f2,f3,f4,f5⟩:=hf it (by simp)
  have hi:=hgo i H hg
  refine(W X.A (I.ok.hd hc)).item i s _ _ hi st.2 fun v h' tk hv st' kk=>?_
  obtain⟨x,rx,yx⟩:=hy i v H hi hv
  have I1:Inv X pins U H { s with heap:=h',toks:=tk }:=I.turned (fun b o hb e=>kk b o (by simpa using hb) e) f0 f1 f3 f4 f5
  obtain⟨o,T,vs,e,c,d,nz⟩:=ho _ _ st'
  exact⟨v,rfl,yje (s:={ s with heap:=h',toks:=tk }) (n:=T) e c d nz ⟨x,H,I1,rx,yx,⟨hi,st'⟩,fun b hb=>(hf b hb).1⟩⟩
 done:=by
  intro X hP hw hK hc i pins s U H E I hf st hg
  subst hP hw hK
  obtain⟨f0,f1,f2,f3,f4,f5⟩:=hf it (by simp)
  have e:i=n:=Nat.le_antisymm st.1 (hst i H hg)
  subst e
  exact(W X.A (I.ok.hd hc)).done s _ _ st.2 fun h' tk kk=>⟨rfl,I.turned (fun b o hb e=>kk b o (by simpa using hb) e) f0 f1 f3 f4 f5⟩
 self:=fun A i s Q E st h=>hself A i s Q E st.2 h
section
variable{X:Cx}{tg:Expr}
noncomputable def iStr(tl:TE):TI:=fun U H R=>tl U H fun x H1=>∃z,x= .str z/\R (Its z) H1
theorem ya0{l:Expr}{tl:TE}(hl:PE X l tl):PI X tg l (iStr tl):=by
 intro pins s U H R I h
 refine thn (hl pins s U H _ I h) fun v s1 hz9=>?_
 obtain⟨x,H1,I1,r1,q1⟩:=hz9
 obtain⟨z,e,q⟩:=q1
 subst e
 obtain⟨t,rfl⟩:=r1
 have fin:∀(o:Obj) (St:Nat->Heap->Prop),Turn X.prog X.w X.K tg (Its z) [s1.heap.objs.size] s1.heap.objs.size (fun i h=>i<=z.cps.size/\St i h)->St 0 (s1.heap.push o) ->
   PIE X pins U tg R (.ref s1.heap.objs.size) { s1 with heap:=s1.heap.push o }:=fun o St Tn st=>by
  refine⟨s1.heap.objs.size,[s1.heap.objs.size],_,_,H1,rfl,I1.kept (t':=s1.toks) fun b o e=>Zlu _ e,Tn,⟨Zmt _,st⟩,fun b hb=>?_,q⟩
  have e:b=s1.heap.objs.size:=by simpa using hb
  subst e
  exact I1.fpOk (Zlt _) (I1.hok.fresh (Zlt _))
 have hgo:∀i H,(Its z).go i H->i<z.cps.size:=fun i _ h=>by simpa[Its] using h
 have hst:∀i H,(Its z).stop i H->z.cps.size<=i:=fun i _ h=>by simpa[Its] using h
 have hy:∀i v H,i<z.cps.size->SignAt z i v-> ∃x,RelV x v/\(Its z).yld i H x H:=fun i v H hi ⟨c,u,hc,e⟩=>by
  subst e
  exact⟨.str (T [c]),⟨u,rfl⟩,rfl,c,by simpa using hc,rfl⟩
 cases ha:z.cps.all (· < 128)
 .refine wpAny_pyIter_wide ha (fin _ _ (zqt (n:=z.cps.size) (R:=SignAt z) (St:=fun i h=>h.IsStrIter s1.heap.objs.size "str_iterator" z t i) (fun A' hA=>Walks.strWide hA _ z t) (fun _ _ _ _ _ st q=>wpAny_pyIter_striter_wide st q) (fun i h st=>?_) hgo hst hy) ⟨_,Zl3 _ rfl,rfl,rfl⟩)
  obtain⟨o,e,c,d⟩:=st
  exact⟨o,_,_,e,c,d,by decide⟩
 .refine wpAny_pyIter_ascii ha (fin _ _ (zqt (n:=z.cps.size) (R:=SignAt z) (St:=fun i h=>h.IsStrIter s1.heap.objs.size "str_ascii_iterator" z t i) (fun A' hA=>Walks.strAscii hA _ z t) (fun _ _ _ _ _ st q=>wpAny_pyIter_striter_ascii st q) (fun i h st=>?_) hgo hst hy) ⟨_,Zl3 _ rfl,rfl,rfl⟩)
  obtain⟨o,e,c,d⟩:=st
  exact⟨o,_,_,e,c,d,by decide⟩
end
end L2
namespace L2
open PySem PySem.Spec PyProof.Rows
noncomputable def clos(cells:List (Str×Addr)):List (Str×Zna)->List (Str×Addr)->List (Str×Addr)
 | [],acc=>acc
 | (n,k)::r,acc=>if k == .free then (match cells.lookup n with | some c=>clos cells r ((n,c)::acc) | none=>clos cells r acc) else clos cells r acc
theorem zly{cells:List (Str×Addr)}:∀(names:List (Str×Zna)) (acc:List (Str×Addr)),(∀x c,acc.lookup x=some c->cells.lookup x=some c)-> ∀x c,(clos cells names acc).lookup x=some c->cells.lookup x=some c
 | [],_,h=>h
 | (n,k)::r,acc,h=>by
  intro x c
  unfold clos
  split
  .cases e:cells.lookup n with
   | none=>exact zly r acc h x c
   | some d =>
    refine zly r _ (fun y z hy=>?_) x c
    rw[Znu] at hy
    cases q:y == n with
    | true =>
     rw[q] at hy
     have:y=n:=by simpa using q
     subst this
     simpa[e] using hy
    | false=>rw[q] at hy;exact h y z hy
  .exact zly r acc h x c
theorem zlt{cells:List (Str×Addr)}:∀(names:List (Str×Zna)) (acc:List (Str×Addr)) (x:Str),(acc.lookup x).isSome=true->((clos cells names acc).lookup x).isSome=true
 | [],_,_,h=>h
 | (n,k)::r,acc,x,h=>by
  unfold clos
  split
  .cases e:cells.lookup n with
   | none=>exact zlt r acc x h
   | some d =>
    refine zlt r _ x ?_
    rw[Znu]
    cases q:x == n with
    | true=>rfl
    | false=>exact h
  .exact zlt r acc x h
theorem zln{cells:List (Str×Addr)}:∀(names:List (Str×Zna)) (acc:List (Str×Addr)) (x:Str),(x,Zm5)∈names->(cells.lookup x).isSome=true->((clos cells names acc).lookup x).isSome=true
 | (n,k)::r,acc,x,hm,hs=>by
  unfold clos
  rcases Zly.mp hm with e | hm
  .cases e
   simp only[beq_self_eq_true,if_true]
   obtain⟨c,hc⟩:=Zpj.mp hs
   rw[hc]
   refine zlt r _ _ ?_
   simp[Znu]
  .split
   .cases e:cells.lookup n with
    | none=>exact zln r acc x hm hs
    | some d=>exact zln r _ x hm hs
   .exact zln r acc x hm hs
theorem zw3{scope:Scope}{env:Env}(h:∀x,(x,Zm5)∈scope.names->(env.cells.lookup x).isSome=true):closureFor scope env=pure (clos env.cells scope.names []):=by
 have gen:∀(names:List (Str×Zna)) (acc:List (Str×Addr)),(∀x,(x,Zm5)∈names->(env.cells.lookup x).isSome=true) ->
   (Zx0 names acc (fun(p:Str×Zna) (r:List (Str×Addr))=>(if p.2 == Zm5 then (do let c <- cellOf env p.1;pure (Zqj ((p.1,c)::r))) else pure (Zqj r):Sem (ForInStep (List (Str×Addr))))))=pure (clos env.cells names acc):=by
  intro names
  induction names with
  | nil=>intro acc _;rfl
  | cons p r ih =>
   obtain⟨n,k⟩:=p
   intro acc hh
   rw[Zs7]
   unfold clos
   cases hk:k == Zm5 with
   | false =>
    simp only[hk,Zl5,if_false]
    exact ih acc fun x hx=>hh x (Zlp _ hx)
   | true =>
    have hk':k= .free:=by simpa using hk
    subst hk'
    obtain⟨c,hc⟩:=Zpj.mp (hh n Zls)
    have e:cellOf env n=pure c:=by unfold cellOf;rw[hc]
    simp only[beq_self_eq_true,if_true,e,hc]
    exact ih _ fun x hx=>hh x (Zlp _ hx)
 exact(congrArg (fun(m:Sem (List (Str×Addr)))=>m >>= fun cs=>pure cs) (gen scope.names [] h)).trans rfl
noncomputable def lcS(nt:Nat)(cs:List Nat)(U:St):St:=Ztn nt none++cs.map fun i=>(U[i]?).getD none
noncomputable def lcCx(X:Cx)(N':List Str)(scope:Scope)(s:Zlo)(H:Hp)(C:Addr)(fp:List Addr):Cx :=
 { X with N:=N',s₀:=s,H0:=H,env:=Ydj scope (clos X.env.cells scope.names []) C X.env,outer:=X.stack,stack:=X.stack,ex:=fp,fn:=fun _=>false,pn:=[],xe:=fun _ _=>False }
noncomputable def lcOk(Nx:List Str)(sc scope:Scope)(N':List Str)(nt:Nat)(cs:List Nat):Bool :=
 decide (scope.kind= .function)&&(scope.names.all fun p=>match p.2 with
  | .cell=>false
  | .local=>decide (scope.names.lookup p.1=some .local)
  | .free=>decide (sc.names.lookup p.1=some .cell)||decide (sc.names.lookup p.1=some .free)
  | _=>true)&&decide (N'.length=nt+cs.length)&&(((N'.drop nt).zip cs).all fun p=>decide (Nx[p.2]? = some p.1)&&decide (scope.names.lookup p.1=some .free)&&(decide (sc.names.lookup p.1=some .cell)||decide (sc.names.lookup p.1=some .free)))
structure LcOk(X:Cx)(scope:Scope)(N':List Str)(nt:Nat)(cs:List Nat):Prop where
 kind:scope.kind= .function
 nocell:∀y∈scope.names,y.2 ≠ .cell
 loc:∀y∈scope.names,y.2= .local->scope.names.lookup y.1=some .local
 fr:∀x,(x,Zm5)∈scope.names->X.env.kindOf x=some .cell\/X.env.kindOf x=some .free
 len:N'.length=nt+cs.length
 cap:∀j i,cs[j]? = some i-> ∃x,N'[nt+j]? = some x/\X.N[i]? = some x/\scope.names.lookup x=some .free/\Vis X.env.scope x/\X.env.kindOf x≠some .local
theorem LcOk.of{X:Cx}{scope:Scope}{N':List Str}{nt:Nat}{cs:List Nat}{Nx:List Str}{sc:Scope}(hN:X.N=Nx)(hs:X.env.scope=sc)(h:lcOk Nx sc scope N' nt cs=true):LcOk X scope N' nt cs:=by
 subst hN hs
 unfold lcOk at h
 simp only[Zmd,decide_eq_true_eq,Zpy] at h
 obtain⟨⟨⟨h1,h2⟩,h3⟩,h4⟩:=h
 refine⟨h1,fun y hy e=>?_,fun y hy e=>?_,fun x hx=>?_,h3,fun j i e=>?_⟩
 .have:=h2 y hy;rw[e] at this;exact Zmc this
 .have:=h2 y hy;rw[e] at this;exact of_decide_eq_true this
 .have:=h2 _ hx
  simp only[Zr0,decide_eq_true_eq] at this
  exact this
 .have hj:j<cs.length:=(Zlq.mp e).1
  have hd:(N'.drop nt).length=cs.length:=by rw[Zmo,h3];lia
  have hx:(N'.drop nt)[j]? = some ((N'.drop nt)[j]'(by lia)):=by simp[hd,hj]
  generalize (N'.drop nt)[j]'(by lia)=x at hx
  have hz:(x,i)∈(N'.drop nt).zip cs:=by
   refine Zlv (i:=j) ?_
   rw[Zv7]
   exact⟨hx,e⟩
  have q:=h4 _ hz
  simp only[Zmd,Zr0,decide_eq_true_eq] at q
  refine⟨x,by rw[Zp2] at hx;exact hx,q.1.1,q.1.2,?_,fun z=>?_⟩
  .exact q.2.elim (fun z=>.inr (.inl z)) fun z=>.inr (.inr z)
  .have z':X.env.scope.names.lookup x=some .local:=z
   rcases q.2 with y | y <;> · rw[z'] at y;cases y
theorem zkn{env:Env}:∀{names:List (Str×Zna)} {x:Str},names.lookup x=some .free ->
  (names.map fun(n,k)=>if (k == Zm5&&env.scope.kind == .function&&env.kindOf n == some .cell) then (n,Zql) else (n,k)).lookup x=some .cell \/
  (names.map fun(n,k)=>if (k == Zm5&&env.scope.kind == .function&&env.kindOf n == some .cell) then (n,Zql) else (n,k)).lookup x=some .free
 | [],_,h=>by simp at h
 | (n,k)::r,x,h=>by
  have ih:=@zkn env r x
  show Znz x ((if (k == Zm5&&env.scope.kind == .function&&env.kindOf n == some .cell)=true then (n,Zql) else (n,k))::_)=_\/Znz x ((if (k == Zm5&&env.scope.kind == .function&&env.kindOf n == some .cell)=true then (n,Zql) else (n,k))::_)=_
  cases hx:x == n with
  | true =>
   simp only[Znu,hx] at h
   cases h
   by_cases hc:(Zm5 == Zm5&&env.scope.kind == .function&&env.kindOf n == some .cell)=true
   .rw[if_pos hc];left;simp only[Znu,hx]
   .rw[if_neg hc];right;simp only[Znu,hx]
  | false =>
   simp only[Znu,hx] at h
   by_cases hc:(k == Zm5&&env.scope.kind == .function&&env.kindOf n == some .cell)=true
   .rw[if_pos hc];simp only[Znu,hx];exact ih h
   .rw[if_neg hc];simp only[Znu,hx];exact ih h
theorem zhp{env:Env}:∀{names:List (Str×Zna)} {x:Str} {q:Zna},(∀y∈names,y.2 ≠ .cell)->(q= .cell\/q= .free) ->
  (names.map fun(n,k)=>if (k == Zm5&&env.scope.kind == .function&&env.kindOf n == some .cell) then (n,Zql) else (n,k)).lookup x=some q->(x,Zm5)∈names
 | [],_,_,_,_,h=>by simp at h
 | (n,k)::r,x,q,hn,hq,h=>by
  have ih:=@zhp env r x q (fun y hy=>hn y (Zlp _ hy)) hq
  have h':Znz x ((if (k == Zm5&&env.scope.kind == .function&&env.kindOf n == some .cell)=true then (n,Zql) else (n,k))::(r.map fun(n,k)=>if (k == Zm5&&env.scope.kind == .function&&env.kindOf n == some .cell) then (n,Zql) else (n,k)))=some q:=h
  cases hx:x == n with
  | true =>
   have e:x=n:=by simpa using hx
   subst e
   by_cases hc:(k == Zm5&&env.scope.kind == .function&&env.kindOf x == some .cell)=true
   .simp only[Zmd,beq_iff_eq] at hc
    rw[hc.1.1];exact Zls
   .rw[if_neg hc] at h'
    simp only[Znu,beq_self_eq_true] at h'
    cases h'
    rcases hq with rfl | rfl
    .exact absurd rfl (hn (x,.cell) Zls)
    .exact Zls
  | false =>
   refine Zlp _ (ih ?_)
   by_cases hc:(k == Zm5&&env.scope.kind == .function&&env.kindOf n == some .cell)=true
   .rw[if_pos hc] at h';simp only[Znu,hx] at h';exact h'
   .rw[if_neg hc] at h';simp only[Znu,hx] at h';exact h'
section
variable{X:Cx}{pins:List (Addr×Obj)}{U:St}{H:Hp}{s s':Zlo}{scope:Scope}{N':List Str}{nt:Nat}{cs:List Nat}{C:Addr}{fp:List Addr}{h':Heap}{t':Nat}
theorem yfh(I:Inv X pins U H s)(L:LcOk X scope N' nt cs)(hf:∀b∈fp,FpOk X pins H b)(hC:s.heap.objs.size<=C)(k:∀b u,s.heap.get? b=some u->h'.get? b=some u)(hns:h'.Ns C fun _=>none)(fpo:∀b∈fp,b<s.heap.objs.size) :
  Inv (lcCx X N' scope s H C fp) [] (lcS nt cs U) H { s with heap:=h',toks:=t' }:=by
 have hfree:H C=none:=I.hok.fresh hC
 have csub:∀x c,(clos X.env.cells scope.names []).lookup x=some c->X.env.cells.lookup x=some c:=zly _ _ fun x c h=>by simp at h
 have chas:∀x,(x,Zm5)∈scope.names->((clos X.env.cells scope.names []).lookup x).isSome=true:=fun x hx=>by
  refine zln _ _ x hx ?_
  obtain⟨c,e⟩:=I.ok.has x (L.fr x hx)
  rw[e];rfl
 have I4:Inv X pins U H { s with heap:=h',toks:=t' }:=I.kept k
 refine⟨⟨I.ok.mod,L.kind,I.ok.glob,I.ok.blt,hC,fun x y c h1 h2=>I.ok.inj x y c (csub x c h1) (csub y c h2),fun x hx=>?_,fun x c hx=>(nomatch hx),I.ok.hd,I.ok.frames,.inl rfl,fun b hb=>⟨?_,fun x c e=>?_⟩,I.bs,Znm I.ok.bsz I.sz,fun b o e hb=>?_,fun b hb=>?_,I.stack,I.stkFree⟩,
  rfl,I.bare,Un.kept k,⟨_,hns,fun i x v e1 e2 e3=>?_⟩,fun x c e=>?_,hfree,fun x c e=>I.freeC x c (csub x c e),fun p hp=>absurd (show p∈([]:List (Addr×Obj)) from hp) (by simp),I4.hok,?_⟩
 .have hx':(x,Zm5)∈scope.names:=by
   rcases hx with hx | hx
   .exact zhp (env:=X.env) L.nocell (.inl rfl) hx
   .exact zhp (env:=X.env) L.nocell (.inr rfl) hx
  exact Zpj.mp (chas x hx')
 .exact Zmb (Zmf (fpo b hb) hC)
 .exact(hf b hb).2.2.2.2.1 x c (csub x c e)
 .obtain⟨f0,f1,f2,f3,_⟩:=hf b hb
  rcases f3 with z | z
  .exact I.ok.noex b o e z
  .exact absurd (Zmf (Zl4 e) (Znm I.ok.bsz z)) (Znn _)
 .obtain⟨f0,f1,f2,f3,_⟩:=hf b hb
  intro z
  rcases Zly.mp (I.stkSub b z) with q | q
  .exact f1 q
  .exact f2 q
 ·-- a captured name
  have e2':(lcS nt cs U)[i]? = some (some v):=e2
  unfold lcS at e2'
  by_cases hi:i<nt
  .rw[Zn4 (by simpa using hi),Zqt] at e2'
   split at e2' <;> cases e2'
  .rw[Znx (by simpa using hi),Zrg,Zlx] at e2'
   cases ej:cs[i - nt]? with
   | none=>rw[ej] at e2';cases e2'
   | some j =>
    rw[ej] at e2'
    have e2'':(U[j]?).getD none=some v:=Zni e2'
    have hσ:U[j]? = some (some v):=by
     cases q:U[j]? with
     | none=>rw[q] at e2'';cases e2''
     | some z=>rw[q] at e2'';exact congrArg some e2''
    obtain⟨y,y1,y2,y3,y4,y5⟩:=L.cap _ _ ej
    have hxy:x=y:=by
     have e1':N'[i]? = some x:=e1
     rw[show nt+(i - nt)=i by lia,e1'] at y1
     exact Zni y1
    subst hxy
    obtain⟨m,hn,hl⟩:=I4.loc
    obtain⟨u,r,l⟩:=hl j x v y2 hσ y4
    refine⟨u,r,.inr ⟨zkn (env:=X.env) y3,?_⟩⟩
    rcases l with ⟨l,_⟩ | ⟨_,c,hc,hcell⟩
    .exact absurd l y5
    .refine⟨c,?_,hcell⟩
     obtain⟨d,hd⟩:=Zpj.mp (chas x (Zpp y3))
     have:=csub x d hd
     rw[hc] at this
     cases this
     exact hd
 .exact I4.cell x c (csub x c e)
 .show(lcS nt cs U).length=N'.length
  unfold lcS
  rw[L.len];simp
theorem yd2{U2:St}{H2:Hp}(I:Inv X pins U H s)(hf:∀b∈fp,FpOk X pins H b)(J:Inv (lcCx X N' scope s H C fp) [] U2 H2 s'):Inv X pins U H2 s' :=
 I.call' (ch:=fp) J.os J.base J.hok J.bare fun b hb=>by
  obtain⟨f0,f1,f2,f3,f4,f5⟩:=hf b hb
  exact⟨f3,f1,f4,f5⟩
end
noncomputable def PIfs(X:Cx)(ifs:List Expr)(t:TT):Prop :=
 ∀(pins:List (Addr×Obj)) (s:Zlo) (U:St) (H:Hp) (Q:Bool->Hp->Prop),Inv X pins U H s->t U H Q ->
  Zl8 (Zmh X.prog X.w) X.A (Zx0 ifs true fun c r=>if r=true then do let ok <- isTrue c X.env (eval c X.env);pure (Zqj ok) else pure (Zqj r)) (TP X pins U Q) X.xe s
noncomputable def zxk:TT:=fun _ H Q=>Q true H
theorem zcb{X:Cx}:PIfs X [] zxk:=fun _ _ _ H _ I h=>wpAny_tests_nil ⟨H,I,h⟩
theorem zg1{X:Cx}{c:Expr}{t:TT}(h:PT X c t):PIfs X [c] t:=fun pins s U H Q I hq=>wpAny_tests_one (h pins s U H Q I hq)
noncomputable def LCG(nt:Nat)(cs:List Nat)(g:TG)(tt:TT)(te:TE)(U:St)(Q:VK)(J:It)(H1:Hp):Prop:=∀l,H1 l=none-> ∃W:Nat->Nat->Hp->Prop,(∃m,W 0 m (upd H1 l (.lst []))) /\ ∀i m H2,W i m H2 ->
 (J.stop i H2/\Q (.ref l) H2)\/(J.go i H2 /\ ∃N:Hp->Prop,(∀H',N H'-> ∃m',m'<m/\W (i+1) m' H') /\ ∀x H3,J.yld i H2 x H3->g x (lcS nt cs U) H3 fun U2 H4 =>
  (U2.length=nt+cs.length/\U2.drop nt=(lcS nt cs U).drop nt)/\tt U2 H4 fun b H5=>if b=true then te U2 H5 fun y H6=>∃xs,H6 l=some (.lst xs)/\xs.length<sizeLine/\N (upd H6 l (.lst (xs++[y]))) else N H5)
noncomputable def tLC(nt:Nat)(cs:List Nat)(wi:TI)(g:TG)(tt:TT)(te:TE):TE:=fun U H Q=>wi U H fun J H1=>LCG nt cs g tt te U Q J H1
theorem yiy {prog : Zmi} {w : Zng} {A : Zmu} {R : Yco -> Zlo -> Prop} {s : Zlo} {elt target iter : Expr} {ifs : List Expr} {scope : Scope} {pos : Pos} {it acc : Zll} {env : Env} (I : Nat -> Zlo -> Prop)
  (turn:∀n s,I n s->Zl8 (Zmh prog w) A (Zu6 it) (fun r s₁=>match r with
   | none=>R (.ok .next) s₁
   | some v=>Zl8 (Zmh prog w) A (Ztx target it v) (fun _ s₁'=>Zl8 (Zmh prog w) A (Yae target env v) (fun _ s₂ =>
     Zl8 (Zmh prog w) A (Zx0 ifs true fun c r=>if r=true then do let ok <- isTrue c env (eval c env);pure (Zqj ok) else pure (Zqj r)) (fun ok s₃ =>
      if ok=true then Zl8 (Zmh prog w) A (eval elt env) (fun x s₄ =>
       Zl8 (Zmh prog w) A (call (.builtin "list.append") [acc,x]) (fun _ s₅=>∃m,m<n/\I m s₅) (fun _ _=>False) s₄) (fun _ _=>False) s₃
      else ∃m,m<n/\I m s₃) (fun _ _=>False) s₂) (fun _ _=>False) s₁') (fun _ _=>False) s₁) (fun _ _=>False) s)
  (n:Nat) (h:I n s):Zty (Zmh prog w) A (.compLoop (.ListComp elt [⟨target,iter,ifs,0⟩] scope pos) 0 it acc env) R s:=by
 refine codeAny_loop rfl I (fun n s hI=>?_) n h
 show Zl8 _ A ((compTurn (.ListComp elt [⟨target,iter,ifs,0⟩] scope pos) 0 it acc env).onRaise (fun x=>do noteFrame x env;theTreesLotGoes x)) _ _ s
 refine wpAny_noted ?_
 rw[compTurn_list]
 refine Zli (Zs8 (Zli (Zn1 (turn n s hI) (fun r s₁ h₁=>?_) fun _ _ h'=>h'.elim)))
 cases r with
 | none=>exact Zln h₁
 | some v =>
  refine Zli (Zn1 h₁ (fun _ s₁' h₁'=>?_) fun _ _ h'=>h'.elim)
  refine Zli (Zn1 h₁' (fun _ s₂ h₂=>Zli (Zn1 h₂ (fun ok s₃ h₃=>?_) fun _ _ h'=>h'.elim)) fun _ _ h'=>h'.elim)
  cases ok with
  | false=>exact Zln ⟨rfl,h₃⟩
  | true =>
   exact Zli (Zli (Zn1 h₃ (fun x s₄ h₄=>Zli (Zn1 h₄ (fun _ s₅ h₅=>Zln (Zln ⟨rfl,h₅⟩)) fun _ _ h'=>h'.elim)) fun _ _ h'=>h'.elim))
section
variable{X:Cx}{elt target iter:Expr}{ifs:List Expr}{scope:Scope}{pos:Pos}{N':List Str}{nt:Nat}{cs:List Nat}{wi:TI}{g:TG}{tt:TT}{te:TE}
theorem zzh{use:Option (Zll->Sem Unit)}{QQ:Zll->Zlo->Prop}{p2:Pos}(hc:X.calm=true)(L:LcOk X scope N' nt cs)(hi:PI X target iter wi)
  (hg:∀s H C fp,PG (lcCx X N' scope s H C fp) target g) (ht:∀s H C fp,PIfs (lcCx X N' scope s H C fp) ifs tt) (he:∀s H C fp,PE (lcCx X N' scope s H C fp) elt te)
  {pins:List (Addr×Obj)} {s:Zlo} {U:St} {H:Hp} {Q:VK} (I:Inv X pins U H s) (h:tLC nt cs wi g tt te U H Q)
  (fin:∀(l:Addr) (H':Hp) (s':Zlo) (C:Addr),Inv X pins U H' s'->FpOk X pins H' C->(∃m,s'.heap.Ns C m)->Q (.ref l) H'->compPost (Zmh X.prog X.w) X.A X.xe use QQ (.ref l) C (.ok .next) s')
  (hs:∀x,Zs2 iter X.env x=pure x:=by intro _;rfl) :
  Zl8 (Zmh X.prog X.w) X.A (Ydi (.ListComp elt [⟨target,iter,ifs,0⟩] scope pos) scope X.env p2 (newList []) false (eval iter X.env) use) QQ X.xe s:=by
 have hcl:closureFor scope X.env=pure (clos X.env.cells scope.names []):=zw3 fun x hx=>by
  obtain⟨c,e⟩:=I.ok.has x (L.fr x hx)
  rw[e];rfl
 refine wpAny_comprehension_free (env:=X.env) rfl hs hcl L.kind L.loc (thn (hi pins s U H _ I h) fun v s1 h1=>thn h1 fun itv s2 h2=>?_)
 obtain⟨it,fp,tn,J,H1,e,I2,T,st2,f2,R⟩:=h2
 subst e
 refine Zo7 ?_
 have hv:Vals [] ([]:List Zll):=.nil
 have I3:=I2.lnew (t':=s2.toks) hv (Zmt _)
 have hfr:H1 s2.heap.objs.size=none:=I2.fresh
 have ne3:∀b∈fp,b≠s2.heap.objs.size:=fun b hb z=>by
  obtain⟨o,e,_⟩:=T.obj _ _ st2 b hb
  have:=Zl4 e
  rw[z] at this
  exact Znn _ this
 have f3:∀b∈fp,FpOk X pins (upd H1 s2.heap.objs.size (.lst [])) b:=fun b hb=>⟨by rw[zat (ne3 b hb)];exact(f2 b hb).1,(f2 b hb).2⟩
 obtain⟨W,⟨m0,w0⟩,turn⟩:=R _ hfr
 refine wpAny_newFunctionEnv L.nocell (by intro y hy;simp at hy) (fun h4 hns hsb=>?_) L.kind
 dsimp only at hns hsb ⊢
 generalize hH3:s2.heap.push { cls:=.type "list", dict:=none,data:=.seq ([]:List Zll).toArray }=h3 at hns hsb I3 ⊢
 have hsz3:h3.objs.size=s2.heap.objs.size+1:=by rw[<- hH3,Zmv]
 have up4:∀b u,h3.get? b=some u->h4.get? b=some u:=fun b u e=>hsb.extBut b u (Zmb (Zl4 e)) (Zlu _ e)
 have fpo:∀b∈fp,b<h3.objs.size:=fun b hb=>by
  obtain⟨o,e,_⟩:=T.obj _ _ st2 b hb
  exact Zmf (Zl4 e) (by rw[hsz3];exact Zrc _)
 have up3:∀b u,s2.heap.get? b=some u->h3.get? b=some u:=fun b u e=>hH3 ▸ Zlu _ e
 have J4:Inv (lcCx X N' scope { s2 with heap:=h3 } (upd H1 s2.heap.objs.size (.lst [])) h3.objs.size fp) [] (lcS nt cs U) (upd H1 s2.heap.objs.size (.lst [])) { s2 with heap:=h4,toks:=s2.toks+([]:List (Str×Zll)).length } :=
  yfh (t':=s2.toks+([]:List (Str×Zll)).length) I3 L f3 (Zlt _) up4 (by simpa using hns) fpo
 have st4:tn 0 h4:=T.keep _ _ _ st2 fun b hb o e=>up4 b o (up3 b o e)
 generalize hs3:({ s2 with heap:=h3 }:Zlo)=s3 at I3 J4
 generalize hX':lcCx X N' scope s3 (upd H1 s2.heap.objs.size (.lst [])) h3.objs.size fp=X' at J4
 have hg':PG X' target g:=hX' ▸ hg _ _ _ _
 have ht':PIfs X' ifs tt:=hX' ▸ ht _ _ _ _
 have he':PE X' elt te:=hX' ▸ he _ _ _ _
 have stat:∀{H':Hp},(∀b∈fp,H' b=none)-> ∀b∈fp,FpOk X' [] H' b:=fun hn b hb=>by
  subst hX'
  refine⟨hn b hb,Zmb (fpo b hb),J4.ok.exfs b hb,.inl hb,(J4.ok.exf b hb).2,fun p hp=>absurd (show p∈([]:List (Addr×Obj)) from hp) (by simp)⟩
 have loop : Zty (Zmh X.prog X.w) X.A (.compLoop (.ListComp elt [⟨target, iter, ifs, 0⟩] scope pos) 0 (.ref it) (.ref s2.heap.objs.size) (Ydj scope (clos X.env.cells scope.names []) h3.objs.size X.env))
   (compPost (Zmh X.prog X.w) X.A X.xe use QQ (.ref s2.heap.objs.size) h3.objs.size) { s2 with heap:=h4,toks:=s2.toks+([]:List (Str×Zll)).length }:=by
  have eA:X'.A=X.A:=by subst hX';rfl
  have eP:X'.prog=X.prog:=by subst hX';rfl
  have eW:X'.w=X.w:=by subst hX';rfl
  have eK:X'.K=X.K:=by subst hX';rfl
  have eC:X'.calm=true:=by subst hX';exact hc
  have eE:X'.env=Ydj scope (clos X.env.cells scope.names []) h3.objs.size X.env:=by subst hX';rfl
  have eX:X'.xe=fun _ _=>False:=by subst hX';rfl
  refine yiy (fun n s'=>∃i H',Inv X' [] (lcS nt cs U) H' s'/\tn i s'.heap/\(∀b∈fp,H' b=none)/\W i n H') ?_ m0 ⟨0,_,J4,st4,fun b hb=>(f3 b hb).1,w0⟩
  rintro n s5 ⟨i,H5,J5,st5,fr5,w5⟩
  rcases turn i n H5 w5 with ⟨stop,qn⟩ | ⟨go,N,hN,step⟩
  .have d:=T.done X' eP eW eK eC i [] s5 (lcS nt cs U) H5 (fun _ _=>False) J5 (stat fr5) st5 stop
   rw[eA] at d
   refine thn d fun r s6 hz9=>?_
   obtain⟨hr,J6⟩:=hz9
   subst hr
   have I6:Inv X pins U H5 s6:=by subst hX';subst hs3;exact yd2 I3 f3 J6
   refine fin _ H5 s6 h3.objs.size I6 ?_ ?_ qn
   .have hn:H5 h3.objs.size=none:=by subst hX';exact J6.free
    subst hs3
    exact I3.fpOk (Zlt _) hn
   .obtain⟨m,hm,_⟩:=J6.loc
    subst hX'
    exact⟨m,hm⟩
  .have d:=T.item X' eP eW eK eC i [] s5 (lcS nt cs U) H5 (fun _ _=>False) J5 (stat fr5) st5 go
   rw[eA] at d
   refine thn d fun r s6 hz9=>?_
   obtain⟨u,hr,h6⟩:=hz9
   subst hr
   refine thn h6 fun _ s7 hz9=>?_
   obtain⟨x,H7,J7,r7,y7,st7,fr7⟩:=hz9
   have J7':=J7.pinned (stat fr7) (T.obj _ _ st7)
   have a:=hg' _ s7 (lcS nt cs U) H7 x u _ J7' r7 (step x H7 y7)
   rw[eA,eP,eW,eE,eX] at a
   refine thn a fun _ s8 ⟨U8,H8,J8,⟨e8,d8⟩,q8⟩=>?_
   have b:=ht' _ s8 U8 H8 _ J8 q8
   rw[eA,eP,eW,eE,eX] at b
   have again:∀{s9:Zlo} {H9:Hp},Inv X' ([]++zry fp s7.heap) U8 H9 s9->N H9-> ∃m,m<n /\ ∃i H',Inv X' [] (lcS nt cs U) H' s9/\tn i s9.heap/\(∀b∈fp,H' b=none)/\W i m H':=fun {s9 H9} J9 n9=>by
    obtain⟨m',hm,w9⟩:=hN H9 n9
    refine⟨m',hm,i+1,H9,?_,T.keep _ _ _ st7 fun b hb o e=>(J9.pin (b,o) (Zmw _ (Zmw _ (zif hb e)))).1,fun b hb=>?_,w9⟩
    .refine J9.unpinned.weak ?_ fun j v ej=>?_
     .rw[e8];unfold lcS;simp
     .by_cases hj:j<nt
      .unfold lcS at ej
       rw[Zn4 (by simpa using hj),Zqt] at ej
       split at ej <;> cases ej
      .have z:=congrArg (fun l:St=>l[j - nt]?) d8
       simp only[Zp2] at z
       rw[show nt+(j - nt)=j by omega] at z
       rw[z];exact ej
    .obtain⟨o,e,_⟩:=T.obj _ _ st7 b hb
     exact(J9.pin (b,o) (Zmw _ (Zmw _ (zif hb e)))).2.1
   refine thn b fun ok s9 hz9=>?_
   obtain⟨H9,J9,q9⟩:=hz9
   cases ok with
   | false =>
    rw[if_neg Zmc] at q9 ⊢
    exact again J9 q9
   | true =>
    rw[if_pos rfl] at q9 ⊢
    have c:=he' _ s9 U8 H9 _ J9 q9
    rw[eA,eP,eW,eE,eX] at c
    refine thn c fun y sA hz9=>?_
    obtain⟨vy,HA,JA,ry,xs,hl,hz,nA⟩:=hz9
    have ap:=zcq (X:=X') _ sA U8 HA (.ref s2.heap.objs.size) [vy] (.ref s2.heap.objs.size) [y] (fun _ H'=>N H') JA rfl (.cons ry .nil) ⟨_,xs,vy,rfl,rfl,hl,hz,nA⟩
    rw[eA,eP,eW,eX] at ap
    refine thn ap fun _ sB hz9=>?_
    obtain⟨_,HB,JB,_,nB⟩:=hz9
    exact again JB nB
 exact codeAny_compStart_list loop (T.self X.A 0 _ _ _ st4 loop)
theorem zg7(hc:X.calm=true)(L:LcOk X scope N' nt cs)(hi:PI X target iter wi)
  (hg:∀s H C fp,PG (lcCx X N' scope s H C fp) target g) (ht:∀s H C fp,PIfs (lcCx X N' scope s H C fp) ifs tt) (he:∀s H C fp,PE (lcCx X N' scope s H C fp) elt te)
  (hs:∀x,Zs2 iter X.env x=pure x:=by intro _;rfl):PE X (.ListComp elt [⟨target,iter,ifs,0⟩] scope pos) (tLC nt cs wi g tt te):=by
 intro pins s U H Q I h
 rw[eval_ListComp]
 refine zzh (use:=none) hc L hi hg ht he I h (fun l H' s' C I' f ⟨m,hm⟩ q=>⟨m,hm,fun h' hs'=>?_⟩) hs
 obtain⟨f0,f1,f2,f3,f4,f5⟩:=f
 exact⟨.ref l,H',I'.turned (t':=s'.toks) (fun b o hb e=>hs'.extBut b o hb e) f0 f1 f3 f4 f5,rfl,q⟩
theorem zqe{i:Nat}{y:Str}{py spos:Pos}(hN:X.N.Nodup)(hy:X.N[i]? = some y)(hx:Loc X.env.scope y)(hc:X.calm=true)(L:LcOk X scope N' nt cs)(hi:PI X target iter wi)
  (hg:∀s H C fp,PG (lcCx X N' scope s H C fp) target g) (ht:∀s H C fp,PIfs (lcCx X N' scope s H C fp) ifs tt) (he:∀s H C fp,PE (lcCx X N' scope s H C fp) elt te)
  (hsw:Zs0 (.ListComp elt [⟨target,iter,ifs,0⟩] scope pos) (some (.Name y py)) spos.line X.env=pure true:=by rfl)
  (hs:∀x,Zs2 iter X.env x=pure x:=by intro _;rfl) (hf:X.fn y=true\/X.env.scope.names.lookup y=some .local:=by first | exact .inl rfl | exact .inr rfl | assumption) :
  PS X (.Assign [.Name y py] (.ListComp elt [⟨target,iter,ifs,0⟩] scope pos) spos) (tAsg (tLC nt cs wi g tt te) (zin i)):=by
 intro pins s U H D I h
 rw[exec_Assign_Name_used _ _ _ _ hsw]
 refine Zli (Zs8 (Zli ?_))
 show Zl8 _ X.A (do let _ <- Ydi (.ListComp elt [⟨target,iter,ifs,0⟩] scope pos) scope X.env _ (newList []) false (eval iter X.env) (some (Yae (.Name y py) X.env))) _ _ s
 refine Zli (thn (zzh (QQ:=fun _ s'=>SP X pins D .next s') (use:=some (Yae (.Name y py) X.env)) hc L hi hg ht he I h (fun l H' s' C I' f hm q=>?_) hs) (fun _ s' hq=>Zln (Zln hq)))
 show Zl8 _ X.A (Yae (.Name y py) X.env (.ref l)) _ _ _
 refine Yar (zqv I' hN hy hx (v:=.ref l) rfl (fun s2 I2 hz9=>?_) hf)
 obtain⟨a,hsb,ha⟩:=hz9
 obtain⟨m,hm⟩:=hm
 obtain⟨f0,f1,f2,f3,f4,f5⟩:=f
 have hCa:C≠a:=by
  rcases ha with rfl | ha
  .exact f1
  .exact fun z=>f4 y a ha z.symm
 refine⟨m,hm.sameBut hsb hCa,fun h' hs'=>?_⟩
 exact⟨_,H',I2.turned (t':=s2.toks) (fun b o hb e=>hs'.extBut b o hb e) f0 f1 f3 f4 f5,q⟩
end
section
variable{X:Cx}{a b:Expr}{ta tb:TE}{pos:Pos}
theorem zk7:zb4 X (.builtin "isinstance") (fun xs H Q=>∃x,xs=[.int x,.ty "int"]/\Q (.bl true) H):=by
 intro pins s U H xs us Q I r h
 obtain⟨x,rfl,q⟩:=h
 obtain⟨u,v,rfl,⟨t,rfl⟩,rfl⟩:=zth r
 exact IsiPair.int_int ⟨.bl true,H,I,rfl,q⟩
theorem zj2:zb4 X (.builtin "isinstance") (fun xs H Q=>∃x,xs=[.int x,.ty "bool"]/\Q (.bl false) H):=by
 intro pins s U H xs us Q I r h
 obtain⟨x,rfl,q⟩:=h
 obtain⟨u,v,rfl,⟨t,rfl⟩,rfl⟩:=zth r
 exact IsiPair.int_bool ⟨.bl false,H,I.tok _,rfl,q⟩
theorem zjr:zb4 X (.builtin "isinstance") (fun xs H Q=>∃p ys,xs=[.ref p,.ty "list"]/\SqL X.K H p ys/\Q (.bl true) H):=by
 intro pins s U H xs us Q I r h
 obtain⟨p,ys,rfl,hq,q⟩:=h
 obtain⟨u,v,rfl,rfl,rfl⟩:=zth r
 obtain⟨its,_,pl,_⟩:=I.list hq
 obtain⟨o,n,e,c,hd,_⟩:=pl
 exact IsiPair.list_list e c ⟨.bl true,H,I,rfl,q⟩
theorem zja:zb4 X (.builtin "isinstance") (fun xs H Q=>∃p ys,xs=[.ref p,.ty "tuple"]/\SqT X.K H p ys/\Q (.bl true) H):=by
 intro pins s U H xs us Q I r h
 obtain⟨p,ys,rfl,hq,q⟩:=h
 obtain⟨u,v,rfl,rfl,rfl⟩:=zth r
 obtain⟨its,_,⟨o,e,c,_⟩,_⟩:=I.tuple hq
 exact IsiPair.tuple_tuple e c ⟨.bl true,H,I,rfl,q⟩
end
theorem SqL.same{K:Zlh}{H H':Hp}{a:Addr}{xs:List V}(e:Same H H')(h:SqL K H a xs):SqL K H' a xs:=e.seq h
theorem SqT.same{K:Zlh}{H H':Hp}{a:Addr}{xs:List V}(e:Same H H')(h:SqT K H a xs):SqT K H' a xs:=by
 rcases h with (h | ⟨o,h⟩) | h
 .exact .inl (.inl (e _ _ h))
 .exact .inl (.inr ⟨o,e _ _ h⟩)
 .exact .inr h
theorem Same.upd{H:Hp}{l:Addr}{o:HO}(h:H l=none):Same H (upd H l o):=fun b u e=>by rw[zat (zbi e h)];exact e
end L2
namespace L2
open PySem
end L2
namespace L2
open PySem PySem.Spec PyProof.Rows
section
variable{X:Cx}{pins:List (Addr×Obj)}{U:St}{H:Hp}{s:Zlo}{h':Heap}{t':Nat}{wr:List Addr}
theorem Inv.turns(I:Inv X pins U H s)(hf:∀b∈wr,FpOk X pins H b)(k:∀b o,b∉wr->s.heap.get? b=some o->h'.get? b=some o):Inv X pins U H { s with heap:=h',toks:=t' }:=by
 have nw:∀b u,H b=some u->b∉wr:=fun b u e z=>by have:=(hf b z).1;rw[e] at this;cases this
 have nL:X.env.locals∉wr:=fun z=>(hf _ z).2.1 rfl
 refine I.step (g':=s.gens) (d':=s.drawn) (ch:=wr) (fun b hb=>?_) (fun b o _ _ hc e _=>k b o hc e) (fun b o _ _ hc e _=>⟨o.slots,k b o hc e⟩) (fun _ _ _ _ n=>n)
  (fun b o hc e=>⟨o,k b o hc e⟩) (fun _ _ e=>e) (fun _ _ _ e=>e) (fun b ps e=>⟨#[],by rw[e];simp⟩) (fun m hm=>?_) (fun b u e=>?_) I.bare
 .obtain⟨f0,f1,f2,f3,f4,f5⟩:=hf b hb
  exact⟨f3,f1,f4,f5⟩
 .obtain⟨o,es,ep,ho,r⟩:=hm
  exact⟨o,es,ep,k _ o nL ho,r⟩
 .refine(I.hok b u e).stay (fun c v hc q=>k c v ?_ q) (fun _ q=>q) fun _ _ q=>q
  rcases hc with z | z
  .rw[z];exact nw b u e
  .exact nw c _ z
theorem Inv.turnsT(I:Inv X pins U H s){T0:Addr}{vs:List V}{vals:Array Zll}(hf:∀b∈wr,FpOk X pins H b)(k:∀b o,b∉wr->s.heap.get? b=some o->h'.get? b=some o)(hT:s.heap.objs.size<=T0)(ht:h'.IsTuple T0 vals)(hv:Vals vs vals.toList)
  (hz:vs.length<=sizeLine):Inv X pins U (upd H T0 (.tup vs)) { s with heap:=h',toks:=t' }:=by
 have nw:∀b u,H b=some u->b∉wr:=fun b u e z=>by have:=(hf b z).1;rw[e] at this;cases this
 have nL:X.env.locals∉wr:=fun z=>(hf _ z).2.1 rfl
 have fresh:H T0=none:=I.hok.fresh hT
 have ne:∀b o,s.heap.get? b=some o->b≠T0:=fun b o e=>Zmb (Zmf (Zl4 e) hT)
 refine I.step (g':=s.gens) (d':=s.drawn) (ch:=wr) (fun b hb=>?_) (fun b o _ _ hc e _=>k b o hc e) (fun b o _ _ hc e _=>⟨o.slots,k b o hc e⟩) (fun b o _ e n=>by rw[zat (ne b o e)];exact n)
  (fun b o hc e=>⟨o,k b o hc e⟩) (fun b xs e=>by rw[zat (zbi e fresh)];exact e) (fun b o u e=>by rw[zat (zbi e fresh)];exact e) (fun b ps e=>⟨#[],by rw[zat (zbi e fresh),e];simp⟩) (fun m hm=>?_) (fun b u e=>?_) I.bare
 .obtain⟨f0,f1,f2,f3,f4,f5⟩:=hf b hb
  exact⟨f3,f1,f4,f5⟩
 .obtain⟨o,es,ep,ho,r⟩:=hm
  exact⟨o,es,ep,k _ o nL ho,r⟩
 .by_cases hb:b=T0
  .subst hb
   rw[zal] at e
   cases e
   have ht2:h'.IsTuple b vals.toList.toArray:=by simpa using ht
   exact⟨hz,vals.toList,hv,ht2⟩
  .rw[zat hb] at e
   refine(I.hok b u e).stay (fun c v hc q=>k c v ?_ q) (fun c q=>by rw[zat (zbi q fresh)];exact q) fun c xs q=>by rw[zat (zbi q fresh)];exact q
   rcases hc with z | z
   .rw[z];exact nw b u e
   .exact nw c _ z
end
end L2
namespace L2
open PySem
end L2
namespace L2
open PySem PySem.Spec PyProof.Rows
structure ZipAp(z TI TO i1 i2:Addr)(fp1 fp2:List Addr):Prop where
 TIz:TI≠z
 TOz:TO≠z
 i1z:i1≠z
 i2z:i2≠z
 TITO:TI≠TO
 TIi1:TI≠i1
 TIi2:TI≠i2
 TOi1:TO≠i1
 TOi2:TO≠i2
 i12:i1≠i2
 m1:i1∈fp1
 m2:i2∈fp2
 f1:∀b∈fp1,b≠z/\b≠TO/\b≠i2
 f2:∀b∈fp2,b≠z/\b≠TO/\b≠i1
end L2
namespace L2
open PySem
end L2
namespace L2
open PySem PySem.Spec PyProof.Rows
inductive D where
 | non | bl (b:Bool) | int (i:Int) | str (l:List Nat) | lst (xs:List D) | tup (xs:List D) | dct (ks vs:List D) | dctT (ks vs:List D) | ins (C:Addr) (ns:List Str) (vs:List D)
noncomputable instance:Inhabited D:=⟨.non⟩
noncomputable instance:DecidableEq D:=Ydx D
mutual
noncomputable def D.dep:D->Nat
 | .lst a=>D.deps a+1
 | .tup a=>D.deps a+1
 | _=>0
noncomputable def D.deps:List D->Nat
 | []=>0
 | a::x=>max a.dep (D.deps x)
end
mutual
noncomputable def D.nb:D->Bool
 | .bl _=>false
 | .dct _ _=>false
 | .dctT _ _=>false
 | .ins _ _ _=>false
 | .lst a=>D.nbs a
 | .tup a=>D.nbs a
 | _=>true
noncomputable def D.nbs:List D->Bool
 | []=>true
 | a::x=>a.nb&&D.nbs x
end
noncomputable def D.isK:D->Bool
 | .int _=>true | .str _=>true | _=>false
noncomputable def D.key:D->Key
 | .int i=>.inl i | .str l=>.inr (T l) | _=>.inl 0
noncomputable def D.isT:D->Bool
 | .tup l=>l.all D.isK | _=>false
noncomputable def D.tkey:D->List Key
 | .tup l=>l.map D.key | _=>[]
noncomputable def D.isInt:D->Bool
 | .int _=>true
 | _=>false
noncomputable def ygd(ds:List D):Bool:=ds.any D.isInt
section
variable(K:Zlh)(H:Hp)
mutual
noncomputable def Rep:D->V->Prop
 | .non,v=>v= .non
 | .bl b,v=>v= .bl b
 | .int i,v=>v= .int i
 | .str l,v=>v= .str (T l) /\ ∀c∈l,c<128
 | .lst ds,v=>∃p xs,v= .ref p/\SqL K H p xs/\Reps ds xs
 | .tup ds,v=>∃p xs,v= .ref p/\SqT K H p xs/\Reps ds xs/\(ygd ds=true->H p=some (.tup xs))
 | .dct ks vs,v=>∃p kv,v= .ref p/\H p=some (.dK kv)/\Reps ks (kv.map fun q=>kV q.1)/\Reps vs (kv.map fun q=>q.2)
 | .dctT ks vs,v=>∃p kv,v= .ref p/\(∃o,H p=some (.frz o (.dT kv)))/\(ks.all D.isT=true/\(kv.map fun q=>q.1)=ks.map D.tkey)/\Reps vs (kv.map fun q=>q.2)
 | .ins C ns vs,v=>∃x dx fs,v= .ref x/\H x=some (.ins C dx fs)/\H dx=some (.own x)/\fs.map (fun q=>q.1)=ns/\Reps vs (fs.map fun q=>q.2)
noncomputable def Reps:List D->List V->Prop
 | [],xs=>xs=[]
 | d::ds,xs=>∃x r,xs=x::r/\Rep d x/\Reps ds r
end
end
section
variable{K:Zlh}{H H':Hp}
mutual
theorem Rep.mono(s:Same H H'):∀{d:D} {v:V},Rep K H d v->Rep K H' d v
 | .non,_,h=>by simpa[Rep] using h
 | .bl _,_,h=>by simpa[Rep] using h
 | .int _,_,h=>by simpa[Rep] using h
 | .str _,_,h=>by simpa[Rep] using h
 | .lst ds,_,h=>by
  rw[Rep] at h ⊢
  obtain⟨p,xs,e,q,r⟩:=h
  exact⟨p,xs,e,SqL.same s q,Reps.mono s r⟩
 | .tup ds,_,h=>by
  rw[Rep] at h ⊢
  obtain⟨p,xs,e,q,r,t⟩:=h
  exact⟨p,xs,e,SqT.same s q,Reps.mono s r,fun z=>s _ _ (t z)⟩
 | .dct ks vs,_,h=>by
  rw[Rep] at h ⊢
  obtain⟨p,kv,e,q,r1,r2⟩:=h
  exact⟨p,kv,e,s _ _ q,Reps.mono s r1,Reps.mono s r2⟩
 | .dctT ks vs,_,h=>by
  rw[Rep] at h ⊢
  obtain⟨p,kv,e,⟨o,q⟩,r1,r2⟩:=h
  exact⟨p,kv,e,⟨o,s _ _ q⟩,r1,Reps.mono s r2⟩
 | .ins C ns vs,_,h=>by
  rw[Rep] at h ⊢
  obtain⟨x,dx,fs,e,q1,q2,hn,r⟩:=h
  exact⟨x,dx,fs,e,s _ _ q1,s _ _ q2,hn,Reps.mono s r⟩
theorem Reps.mono(s:Same H H'):∀{ds:List D} {xs:List V},Reps K H ds xs->Reps K H' ds xs
 | [],_,h=>by simpa[Reps] using h
 | d::ds,_,h=>by
  rw[Reps] at h ⊢
  obtain⟨x,r,e,a,b⟩:=h
  exact⟨x,r,e,Rep.mono s a,Reps.mono s b⟩
end
theorem Reps.nil:Reps K H [] []:=by rw[Reps]
theorem Reps.cons{d:D}{ds:List D}{x:V}{xs:List V}(a:Rep K H d x)(b:Reps K H ds xs):Reps K H (d::ds) (x::xs):=by rw[Reps];exact⟨x,xs,rfl,a,b⟩
theorem Reps.length:∀{ds:List D} {xs:List V},Reps K H ds xs->ds.length=xs.length
 | [],_,h=>by rw[Reps] at h;subst h;rfl
 | d::ds,_,h=>by
  rw[Reps] at h
  obtain⟨x,r,rfl,_,b⟩:=h
  simp[b.length]
theorem Reps.get:∀{ds:List D} {xs:List V} {i:Nat} {x:V},Reps K H ds xs->xs[i]? = some x-> ∃d,ds[i]? = some d/\Rep K H d x
 | [],_,_,_,h,e=>by rw[Reps] at h;subst h;simp at e
 | d::ds,_,0,_,h,e=>by
  rw[Reps] at h
  obtain⟨y,r,rfl,a,_⟩:=h
  cases e
  exact⟨d,rfl,a⟩
 | d::ds,_,i+1,_,h,e=>by
  rw[Reps] at h
  obtain⟨y,r,rfl,_,b⟩:=h
  exact Reps.get (i:=i) b e
theorem Reps.get':∀{ds:List D} {xs:List V} {i:Nat} {d:D},Reps K H ds xs->ds[i]? = some d-> ∃x,xs[i]? = some x/\Rep K H d x:=fun {ds xs i d} h e=>by
 have hl:=h.length
 have hi:=(Zlq.mp e).1
 obtain⟨d',e',r⟩:=h.get (i:=i) (x:=xs[i]'(by lia)) (Zlj _)
 rw[e] at e';cases e'
 exact⟨_,Zlj _,r⟩
theorem Reps.append:∀{ds es:List D} {xs ys:List V},Reps K H ds xs->Reps K H es ys->Reps K H (ds++es) (xs++ys)
 | [],_,_,_,h,h2=>by rw[Reps] at h;subst h;exact h2
 | d::ds,_,_,_,h,h2=>by
  rw[Reps] at h
  obtain⟨y,r,rfl,a,b⟩:=h
  exact Reps.cons a (Reps.append b h2)
theorem Reps.snoc{ds:List D}{xs:List V}{d:D}{x:V}(h:Reps K H ds xs)(a:Rep K H d x):Reps K H (ds++[d]) (xs++[x]):=h.append (.cons a .nil)
theorem Reps.drop:∀(n:Nat) {ds:List D} {xs:List V},Reps K H ds xs->Reps K H (ds.drop n) (xs.drop n)
 | 0,_,_,h=>h
 | n+1,[],_,h=>by rw[Reps] at h;subst h;exact Reps.nil
 | n+1,d::ds,_,h=>by
  rw[Reps] at h
  obtain⟨y,r,rfl,_,b⟩:=h
  exact Reps.drop n b
theorem Reps.take:∀(n:Nat) {ds:List D} {xs:List V},Reps K H ds xs->Reps K H (ds.take n) (xs.take n)
 | 0,_,_,h=>Reps.nil
 | n+1,[],_,h=>by rw[Reps] at h;subst h;exact Reps.nil
 | n+1,d::ds,_,h=>by
  rw[Reps] at h
  obtain⟨y,r,rfl,a,b⟩:=h
  exact Reps.cons a (Reps.take n b)
theorem Rep.lst{ds:List D}{p:Addr}{xs:List V}(q:SqL K H p xs)(r:Reps K H ds xs):Rep K H (.lst ds) (.ref p):=by rw[Rep];exact⟨p,xs,rfl,q,r⟩
theorem Rep.tup{ds:List D}{p:Addr}{xs:List V}(q:SqT K H p xs)(r:Reps K H ds xs)(t:ygd ds=true->H p=some (.tup xs)):Rep K H (.tup ds) (.ref p):=by rw[Rep];exact⟨p,xs,rfl,q,r,t⟩
theorem Rep.tupN{ds:List D}{p:Addr}{xs:List V}(q:H p=some (.tup xs))(r:Reps K H ds xs):Rep K H (.tup ds) (.ref p):=Rep.tup (SqT.of q) r fun _=>q
theorem Rep.int{i:Int}:Rep K H (.int i) (.int i):=by rw[Rep]
theorem Rep.bl{b:Bool}:Rep K H (.bl b) (.bl b):=by rw[Rep]
theorem Rep.str{l:List Nat}(h:∀c∈l,c<128):Rep K H (.str l) (.str (T l)):=by rw[Rep];exact⟨rfl,h⟩
theorem Rep.non:Rep K H .non .non:=by rw[Rep]
theorem Rep.of_int{i:Int}{v:V}(h:Rep K H (.int i) v):v= .int i:=by rw[Rep] at h;exact h
theorem Rep.of_bl{b:Bool}{v:V}(h:Rep K H (.bl b) v):v= .bl b:=by rw[Rep] at h;exact h
theorem Rep.of_str{l:List Nat}{v:V}(h:Rep K H (.str l) v):v= .str (T l):=by rw[Rep] at h;exact h.1
theorem Rep.asc{l:List Nat}{v:V}(h:Rep K H (.str l) v):∀c∈l,c<128:=by rw[Rep] at h;exact h.2
theorem Rep.of_non{v:V}(h:Rep K H .non v):v= .non:=by rw[Rep] at h;exact h
theorem Rep.of_lst{ds:List D}{v:V}(h:Rep K H (.lst ds) v):∃p xs,v= .ref p/\SqL K H p xs/\Reps K H ds xs:=by rw[Rep] at h;exact h
theorem Rep.of_tup{ds:List D}{v:V}(h:Rep K H (.tup ds) v):∃p xs,v= .ref p/\SqT K H p xs/\Reps K H ds xs:=by rw[Rep] at h;obtain⟨p,xs,e,q,r,_⟩:=h;exact⟨p,xs,e,q,r⟩
theorem Rep.of_dct{ks vs:List D}{v:V}(h:Rep K H (.dct ks vs) v):∃p kv,v= .ref p/\H p=some (.dK kv)/\Reps K H ks (kv.map fun q=>kV q.1)/\Reps K H vs (kv.map fun q=>q.2):=by rw[Rep] at h;exact h
theorem Rep.of_ins{C:Addr}{ns:List Str}{vs:List D}{v:V}(h:Rep K H (.ins C ns vs) v):∃x dx fs,v= .ref x/\H x=some (.ins C dx fs)/\H dx=some (.own x)/\fs.map (fun q=>q.1)=ns/\Reps K H vs (fs.map fun q=>q.2):=by rw[Rep] at h;exact h
theorem Rep.dct{ks vs:List D}{p:Addr}{kv:List (Key×V)}(q:H p=some (.dK kv))(r1:Reps K H ks (kv.map fun q=>kV q.1))(r2:Reps K H vs (kv.map fun q=>q.2)):Rep K H (.dct ks vs) (.ref p):=by rw[Rep];exact⟨p,kv,rfl,q,r1,r2⟩
theorem Rep.ins{C x dx:Addr}{fs:List (Str×V)}{vs:List D}(q1:H x=some (.ins C dx fs))(q2:H dx=some (.own x))(r:Reps K H vs (fs.map fun q=>q.2)):Rep K H (.ins C (fs.map fun q=>q.1) vs) (.ref x):=by rw[Rep];exact⟨x,dx,fs,rfl,q1,q2,rfl,r⟩
end
noncomputable def NT:HO->Prop
 | .tup _=>False
 | _=>True
structure Ext(G H0 F H:Hp):Prop where
 gf:Same G F
 fh:Same F H
 hh:Same H0 H
 no:∀b o,H0 b=some o->NT o->F b=G b
theorem Ext.refl{G H:Hp}(s:Same G H):Ext G H G H:=⟨Same.refl _,s,Same.refl _,fun _ _ _ _=>rfl⟩
theorem Ext.trans{G H F1 H1 F2 H2:Hp}(a:Ext G H F1 H1)(b:Ext F1 H1 F2 H2):Ext G H F2 H2 :=
 ⟨a.gf.trans b.gf,b.fh,a.hh.trans b.hh,fun c o e n=>(b.no c o (a.hh c o e) n).trans (a.no c o e n)⟩
theorem Ext.newF{G H0 F H:Hp}(x:Ext G H0 F H){p:Addr}{o:HO}(hp:H p=none):Ext G H0 (upd F p o) (upd H p o):=by
 have fp:F p=none:=x.fh.free hp
 refine⟨x.gf.trans (Same.upd fp),fun b u e=>?_,x.hh.trans (Same.upd hp),fun b u e n=>?_⟩
 .by_cases hb:b=p
  .subst hb;rw[zal] at e ⊢;exact e
  .rw[zat hb] at e ⊢;exact x.fh b u e
 .have hb:b≠p:=fun z=>by subst z;have:=x.hh b u e;rw[hp] at this;cases this
  rw[zat hb];exact x.no b u e n
theorem Ext.newO{G H0 F H:Hp}(x:Ext G H0 F H){p:Addr}{o:HO}(hp:H p=none):Ext G H0 F (upd H p o) :=
 ⟨x.gf,x.fh.trans (Same.upd hp),x.hh.trans (Same.upd hp),x.no⟩
theorem Ext.write{G H0 F H:Hp}(x:Ext G H0 F H){p:Addr}{o:HO}(fp:F p=none)(hp:H0 p=none):Ext G H0 F (upd H p o) :=
 ⟨x.gf,fun b u e=>by rw[zat (zbi e fp)];exact x.fh b u e,fun b u e=>by rw[zat (zbi e hp)];exact x.hh b u e,x.no⟩
theorem Ext.freeze{G H0 F H:Hp}(x:Ext G H0 F H){p:Addr}{o:HO}(fp:F p=none)(hp:H0 p=none)(e:H p=some o):Ext G H0 (upd F p o) H:=by
 refine⟨x.gf.trans (Same.upd fp),fun b u q=>?_,x.hh,fun b u q n=>?_⟩
 .by_cases hb:b=p
  .subst hb;rw[zal] at q;cases q;exact e
  .rw[zat hb] at q;exact x.fh b u q
 .rw[zat (zbi q hp)];exact x.no b u q n
inductive Sl where
 | un | d (x:D) | o (p:Addr) (xs:List D) | oo (p:Addr) (qs:List (Addr×List D)) | g (v:V) (as:List Addr) (W:Hp->Hp->Prop)
noncomputable def Sl.ads:Sl->List Addr
 | .un=>[] | .d _=>[] | .o p _=>[p] | .oo p qs=>p::qs.map (·.1) | .g _ as _=>as
noncomputable def OwnL(K:Zlh)(H0 F H:Hp)(p:Addr)(xs:List D):Prop:=H0 p=none/\F p=none /\ ∃vs,H p=some (.lst vs)/\Reps K F xs vs
noncomputable def Stab(as:List Addr)(W:Hp->Hp->Prop):Prop:=∀F1 H1 F2 H2:Hp,Same F1 F2->(∀a∈as,H2 a=H1 a)->W F1 H1->W F2 H2
noncomputable def SlOk(K:Zlh)(H0 F H:Hp)(ov:Option V):Sl->Prop
 | .un=>True
 | .d x=>∃v,ov=some v/\Rep K F x v
 | .o p xs=>ov=some (.ref p)/\OwnL K H0 F H p xs
 | .oo p qs=>ov=some (.ref p)/\H0 p=none/\F p=none/\H p=some (.lst (qs.map fun q=>V.ref q.1)) /\ ∀q∈qs,OwnL K H0 F H q.1 q.2
 | .g v as W=>ov=some v/\(∀a∈as,H0 a=none/\F a=none /\ ∃o,H a=some o/\NT o)/\W F H/\Stab as W
structure Sat(K:Zlh)(G H0 L F H:Hp)(U:St)(ss:List Sl):Prop where
 ext:Ext G H0 F H
 fl:Same L F
 len:U.length=ss.length
 ok:∀(i:Nat) s,ss[i]? = some s->SlOk K H0 F H (U.getD i none) s
 nd:∀(i:Nat) s,ss[i]? = some s->s.ads.Nodup
 ne:∀(i j:Nat) s s',i≠j->ss[i]? = some s->ss[j]? = some s'-> ∀p∈s.ads,p∉s'.ads
section
variable{K:Zlh}{H0 F H F' H':Hp}
theorem OwnL.ext2{p:Addr}{xs:List D}(h:OwnL K H0 F H p xs)(e:Ext F H F' H'):OwnL K H0 F' H' p xs:=by
 obtain⟨h0,fp,vs,hp,r⟩:=h
 exact⟨h0,(e.no p _ hp trivial).trans fp,vs,e.hh p _ hp,r.mono e.gf⟩
theorem SlOk.ext2{ov:Option V}{s:Sl}(h:SlOk K H0 F H ov s)(e:Ext F H F' H'):SlOk K H0 F' H' ov s:=by
 cases s with
 | un=>trivial
 | d x=>obtain⟨v,ev,r⟩:=h;exact⟨v,ev,r.mono e.gf⟩
 | o p xs=>exact⟨h.1,h.2.ext2 e⟩
 | oo p qs =>
  obtain⟨ev,h0,fp,hp,hq⟩:=h
  exact⟨ev,h0,(e.no p _ hp trivial).trans fp,e.hh p _ hp,fun q hm=>(hq q hm).ext2 e⟩
 | g v as W =>
  obtain⟨ev,ha,hw,st⟩:=h
  refine⟨ev,fun a hm=>?_,st _ _ _ _ e.gf (fun a hm=>?_) hw,st⟩
  .obtain⟨h0,fa,o,ho,nt⟩:=ha a hm
   exact⟨h0,(e.no a _ ho nt).trans fa,o,e.hh a _ ho,nt⟩
  .obtain⟨h0,fa,o,ho,nt⟩:=ha a hm
   rw[e.hh a _ ho,ho]
theorem OwnL.updNe{p a:Addr}{o:HO}{xs:List D}(h:OwnL K H0 F H p xs)(hn:p≠a):OwnL K H0 F (upd H a o) p xs:=by
 obtain⟨h0,fp,vs,hp,r⟩:=h
 exact⟨h0,fp,vs,by rw[zat hn];exact hp,r⟩
theorem SlOk.updNe{ov:Option V}{s:Sl}{a:Addr}{o:HO}(h:SlOk K H0 F H ov s)(hn:a∉s.ads):SlOk K H0 F (upd H a o) ov s:=by
 cases s with
 | un=>trivial
 | d x=>exact h
 | o p xs=>exact⟨h.1,h.2.updNe fun z=>hn (by simp[Sl.ads,z])⟩
 | oo p qs =>
  obtain⟨ev,h0,fp,hp,hq⟩:=h
  refine⟨ev,h0,fp,by rw[zat fun z=>hn (by simp[Sl.ads,z])];exact hp,fun q hm=>(hq q hm).updNe fun z=>hn ?_⟩
  rw[<- z]
  exact Zlp _ (Znb hm)
 | g v as W =>
  obtain⟨ev,ha,hw,st⟩:=h
  have hne:∀b∈as,b≠a:=fun b hm z=>hn (by rw[<- z];exact hm)
  refine⟨ev,fun b hm=>?_,st _ _ _ _ (Same.refl _) (fun b hm=>zat (hne b hm)) hw,st⟩
  obtain⟨h0,fa,x,ho,nt⟩:=ha b hm
  exact⟨h0,fa,x,by rw[zat (hne b hm)];exact ho,nt⟩
theorem OwnL.frz{p a:Addr}{o:HO}{xs:List D}(h:OwnL K H0 F H p xs)(fa:F a=none)(hn:p≠a):OwnL K H0 (upd F a o) H p xs:=by
 obtain⟨h0,fp,vs,hp,r⟩:=h
 exact⟨h0,by rw[zat hn];exact fp,vs,hp,r.mono (Same.upd fa)⟩
theorem SlOk.frz{ov:Option V}{s:Sl}{a:Addr}{o:HO}(h:SlOk K H0 F H ov s)(fa:F a=none)(hn:a∉s.ads):SlOk K H0 (upd F a o) H ov s:=by
 cases s with
 | un=>trivial
 | d x=>obtain⟨v,ev,r⟩:=h;exact⟨v,ev,r.mono (Same.upd fa)⟩
 | o p xs=>exact⟨h.1,h.2.frz fa fun z=>hn (by simp[Sl.ads,z])⟩
 | oo p qs =>
  obtain⟨ev,h0,fp,hp,hq⟩:=h
  refine⟨ev,h0,by rw[zat fun z=>hn (by simp[Sl.ads,z])];exact fp,hp,fun q hm=>(hq q hm).frz fa fun z=>hn ?_⟩
  rw[<- z]
  exact Zlp _ (Znb hm)
 | g v as W =>
  obtain⟨ev,ha,hw,st⟩:=h
  have hne:∀b∈as,b≠a:=fun b hm z=>hn (by rw[<- z];exact hm)
  refine⟨ev,fun b hm=>?_,st _ _ _ _ (Same.upd fa) (fun _ _=>rfl) hw,st⟩
  obtain⟨h0,fb,x,ho,nt⟩:=ha b hm
  exact⟨h0,by rw[zat (hne b hm)];exact fb,x,ho,nt⟩
theorem SlOk.live{ov:Option V}{s:Sl}(h:SlOk K H0 F H ov s){p:Addr}(hp:p∈s.ads):H p≠none:=by
 cases s with
 | un=>simp[Sl.ads] at hp
 | d x=>simp[Sl.ads] at hp
 | o q xs =>
  obtain⟨_,_,_,vs,hq,_⟩:=h
  simp[Sl.ads] at hp;subst hp;rw[hq];simp
 | oo q qs =>
  obtain⟨ev,h0,fp,hq,hqs⟩:=h
  rcases Zly.mp hp with rfl | hp
  .rw[hq];simp
  .obtain⟨r,hr,rfl⟩:=Zl2.mp hp
   obtain⟨_,_,vs,hv,_⟩:=hqs r hr
   rw[hv];simp
 | g v as W =>
  obtain⟨ev,ha,hw,st⟩:=h
  obtain⟨_,_,x,ho,_⟩:=ha p hp
  rw[ho];simp
end
section
variable{K:Zlh}{G H0 L F H F' H':Hp}{U:St}{ss:List Sl}
theorem Sat.ext2(S:Sat K G H0 L F H U ss)(e:Ext F H F' H'):Sat K G H0 L F' H' U ss :=
 ⟨S.ext.trans e,S.fl.trans e.gf,S.len,fun i s hs=>(S.ok i s hs).ext2 e,S.nd,S.ne⟩
theorem Sat.get(S:Sat K G H0 L F H U ss){i:Nat}{s:Sl}(hs:ss[i]? = some s)(hn:s ≠ .un):∃v,U[i]? = some (some v)/\SlOk K H0 F H (some v) s:=by
 have hi:i<U.length:=by rw[S.len];exact(Zlq.mp hs).1
 have:=S.ok i s hs
 rw[Zlk,Zlj hi] at this
 simp only[Zpt] at this
 cases hv:U[i] with
 | none =>
  rw[hv] at this
  cases s with
  | un=>exact absurd rfl hn
  | d x=>obtain⟨v,ev,_⟩:=this;cases ev
  | o p xs=>obtain⟨ev,_⟩:=this;cases ev
  | oo p qs=>obtain⟨ev,_⟩:=this;cases ev
  | g v as W=>obtain⟨ev,_⟩:=this;cases ev
 | some v =>
  rw[hv] at this
  exact⟨v,by rw[Zlj hi,hv],this⟩
theorem Sat.getD(S:Sat K G H0 L F H U ss){i:Nat}{x:D}(hs:ss[i]? = some (.d x)):∃v,U[i]? = some (some v)/\Rep K F x v:=by
 obtain⟨v,e,w,ew,r⟩:=S.get hs (by intro z;cases z)
 cases ew
 exact⟨v,e,r⟩
theorem Sat.getO(S:Sat K G H0 L F H U ss){i:Nat}{p:Addr}{xs:List D}(hs:ss[i]? = some (.o p xs)):U[i]? = some (some (.ref p))/\OwnL K H0 F H p xs:=by
 obtain⟨v,e,ew,r⟩:=S.get hs (by intro z;cases z)
 cases ew
 exact⟨e,r⟩
theorem zc5{U:St}{i:Nat}{v:Option V}(h:i<U.length):(U.set i v).getD i none=v:=by
 rw[Zlk,Zn2 h];rfl
theorem zfo{U:St}{i j:Nat}{v:Option V}(h:i≠j):(U.set i v).getD j none=U.getD j none:=by
 rw[Zlk,Zoz h,Zlk]
theorem zhk{i j:Nat}{s t:Sl}(h:(ss.set i s)[j]? = some t):(i=j/\t=s/\i<ss.length)\/(i≠j/\ss[j]? = some t):=by
 by_cases hj:i=j
 .subst hj
  have hi:=(Zlq.mp h).1
  rw[Zzj] at hi
  rw[Zn2 hi] at h
  exact .inl ⟨rfl,(Zni h).symm,hi⟩
 .rw[Zoz hj] at h;exact .inr ⟨hj,h⟩
theorem Sat.put{U':St}(S:Sat K G H0 L F H U ss){i:Nat}{s:Sl}(ex:Ext G H0 F' H')(fl:Same L F')(hl:U'.length=U.length)(hσ:∀j,j≠i->U'.getD j none=U.getD j none)(hi:i<ss.length->SlOk K H0 F' H' (U'.getD i none) s)
  (nd:s.ads.Nodup) (dj:∀(j:Nat) s',j≠i->ss[j]? = some s'-> ∀p∈s.ads,p∉s'.ads) (st:∀(j:Nat) s',j≠i->ss[j]? = some s'->SlOk K H0 F' H' (U.getD j none) s'):Sat K G H0 L F' H' U' (ss.set i s):=by
 refine⟨ex,fl,by rw[Zzj,hl,S.len],fun j t ht=>?_,fun j t ht=>?_,fun j k t u hjk ht hu=>?_⟩
 .rcases zhk ht with ⟨rfl,rfl,hlt⟩ | ⟨hj,ht⟩
  .exact hi hlt
  .rw[hσ j (Zne hj)];exact st j t (Zne hj) ht
 .rcases zhk ht with ⟨rfl,rfl,_⟩ | ⟨hj,ht⟩
  .exact nd
  .exact S.nd j t ht
 .rcases zhk ht with ⟨rfl,rfl,_⟩ | ⟨hj,ht'⟩
  .rcases zhk hu with ⟨rfl,rfl,_⟩ | ⟨hk,hu'⟩
   .exact absurd rfl hjk
   .exact dj k u (Zne hk) hu'
  .rcases zhk hu with ⟨rfl,rfl,_⟩ | ⟨hk,hu'⟩
   .exact fun p hp hp'=>dj j t (Zne hj) ht' p hp' hp
   .exact S.ne j k t u hjk ht' hu'
theorem Sat.setD(S:Sat K G H0 L F H U ss){i:Nat}{x:D}{v:V}(r:Rep K F x v):Sat K G H0 L F H (U.set i (some v)) (ss.set i (.d x)) :=
 S.put S.ext S.fl (by simp) (fun j hj=>zfo (Zne hj)) (fun hi=>by rw[zc5 (by rw[S.len];exact hi)];exact⟨v,rfl,r⟩) (by simp[Sl.ads]) (fun _ _ _ _ p hp=>by simp[Sl.ads] at hp) fun j s' _ h=>S.ok j s' h
theorem Sat.setO(S:Sat K G H0 L F H U ss){i:Nat}{xs:List D}{p:Addr}(r:OwnL K H0 F H p xs)(hne:∀(j:Nat) s',j≠i->ss[j]? = some s'->p∉s'.ads):Sat K G H0 L F H (U.set i (some (.ref p))) (ss.set i (.o p xs)) :=
 S.put S.ext S.fl (by simp) (fun j hj=>zfo (Zne hj)) (fun hi=>by rw[zc5 (by rw[S.len];exact hi)];exact⟨rfl,r⟩) (by simp[Sl.ads]) (fun j s' hj h q hq=>by simp[Sl.ads] at hq;subst hq;exact hne j s' hj h) fun j s' _ h=>S.ok j s' h
theorem Sat.write(S:Sat K G H0 L F H U ss){i:Nat}{xs ys:List D}{p:Addr}{vs:List V}(hs:ss[i]? = some (.o p xs))(r:Reps K F ys vs):Sat K G H0 L F (upd H p (.lst vs)) U (ss.set i (.o p ys)):=by
 obtain⟨e,h0,fp,ws,hp,_⟩:=S.getO hs
 have hget:U.getD i none=some (.ref p):=by rw[Zlk,e];rfl
 refine S.put (S.ext.write fp h0) S.fl rfl (fun _ _=>rfl) (fun _=>by rw[hget];exact⟨rfl,h0,fp,vs,zal,r⟩) (by simp[Sl.ads]) (fun j s' hj h q hq=>?_) fun j s' hj h=>(S.ok j s' h).updNe (S.ne i j _ s' (Zne hj) hs h p (by simp[Sl.ads]))
 simp[Sl.ads] at hq;subst hq
 exact S.ne i j _ s' (Zne hj) hs h q (by simp[Sl.ads])
theorem Sat.freeze(S:Sat K G H0 L F H U ss){i:Nat}{p:Addr}{xs:List D}(hs:ss[i]? = some (.o p xs)):∃F',Sat K G H0 L F' H U (ss.set i (.d (.lst xs))):=by
 obtain⟨e,h0,fp,vs,hp,r⟩:=S.getO hs
 have hget:U.getD i none=some (.ref p):=by rw[Zlk,e];rfl
 exact⟨upd F p (.lst vs),S.put (S.ext.freeze fp h0 hp) (S.fl.trans (Same.upd fp)) rfl (fun _ _=>rfl) (fun _=>by rw[hget];exact⟨_,rfl,Rep.lst (SqL.of zal) (r.mono (Same.upd fp))⟩) (by simp[Sl.ads]) (fun _ _ _ _ q hq=>by simp[Sl.ads] at hq)
  fun j s' hj h=>(S.ok j s' h).frz fp (S.ne i j _ s' (Zne hj) hs h p (by simp[Sl.ads]))⟩
theorem Sat.raise(S:Sat K G H0 L F H U ss):Sat K G H0 F F H U ss:=⟨S.ext,Same.refl _,S.len,S.ok,S.nd,S.ne⟩
theorem Sat.lower{L':Hp}(S:Sat K G H0 L' F H U ss)(h:Same L L'):Sat K G H0 L F H U ss:=⟨S.ext,h.trans S.fl,S.len,S.ok,S.nd,S.ne⟩
end
section
variable(K:Zlh)(G H0 L:Hp)(ss:List Sl)
noncomputable def Ev(t:TE)(d:D):Prop:=∀F H U Q,Sat K G H0 L F H U ss->(∀v F' H',Ext F H F' H'->Rep K F' d v->Q v H')->t U H Q
noncomputable def EvO(t:TE)(ds:List D):Prop:=∀F H U Q,Sat K G H0 L F H U ss->(∀p vs F' H',Ext F H F' H'->H p=none->F' p=none->H' p=some (.lst vs)->Reps K F' ds vs->Q (.ref p) H')->t U H Q
noncomputable def EvL(t:TE)(ds:List D):Prop:=∀F H U Q,Sat K G H0 L F H U ss->(∀p vs F' H',Ext F H F' H'->SqL K H' p vs->Reps K F' ds vs->Q (.ref p) H')->t U H Q
noncomputable def EvB(t:TE)(d:D):Prop:=∀F H U Q,Sat K G H0 L F H U ss->(∀v F' H',Ext F H F' H'->Rep K H' d v->Q v H')->t U H Q
noncomputable def EvT(t:TT)(b:Bool):Prop:=∀F H U (Q:Bool->Hp->Prop),Sat K G H0 L F H U ss->(∀F' H',Ext F H F' H'->Q b H')->t U H Q
noncomputable def EvA(t:TA)(ds:List D):Prop:=∀F H U (Q:List V->Hp->Prop),Sat K G H0 L F H U ss->(∀vs F' H',Ext F H F' H'->Reps K H' ds vs->Q vs H')->t U H Q
noncomputable def EvAF(t:TA)(ds:List D):Prop:=∀F H U (Q:List V->Hp->Prop),Sat K G H0 L F H U ss->(∀vs F' H',Ext F H F' H'->Reps K F' ds vs->Q vs H')->t U H Q
end
section
variable{K:Zlh}{G H0 L:Hp}{ss:List Sl}{t ta tb:TE}{d d1 d2:D}{ds es:List D}
theorem EvO.ev(h:EvO K G H0 L ss t ds):Ev K G H0 L ss t (.lst ds):=fun F H U Q S q=>h F H U Q S fun p vs F' H' e hp fp hp' r=>q _ _ _ (e.freeze fp hp hp') (Rep.lst (SqL.of zal) (r.mono (Same.upd fp)))
theorem EvO.l(h:EvO K G H0 L ss t ds):EvL K G H0 L ss t ds:=fun F H U Q S q=>h F H U Q S fun p vs F' H' e hp fp hp' r=>q _ _ _ _ e (SqL.of hp') r
theorem Ev.l(h:Ev K G H0 L ss t (.lst ds)):EvL K G H0 L ss t ds:=fun F H U Q S q=>h F H U Q S fun v F' H' e r=>by
 obtain⟨p,xs,rfl,sq,rs⟩:=r.of_lst
 exact q _ _ _ _ e (SqL.same e.fh sq) rs
theorem Ev.b(h:Ev K G H0 L ss t d):EvB K G H0 L ss t d:=fun F H U Q S q=>h F H U Q S fun v F' H' e r=>q _ _ _ e (r.mono e.fh)
theorem EvL.b(h:EvL K G H0 L ss t ds):EvB K G H0 L ss t (.lst ds):=fun F H U Q S q=>h F H U Q S fun p vs F' H' e sq r=>q _ _ _ e (Rep.lst sq (r.mono e.fh))
theorem zac{i:Nat}(hs:ss[i]? = some (.d d)):Ev K G H0 L ss (tVar i) d:=fun F H U Q S q=>by
 obtain⟨v,e,r⟩:=S.getD hs
 exact⟨v,e,q _ _ _ (Ext.refl S.ext.fh) r⟩
theorem zef{i:Nat}{p:Addr}(hs:ss[i]? = some (.o p ds)):EvL K G H0 L ss (tVar i) ds:=fun F H U Q S q=>by
 obtain⟨e,h0,fp,vs,hp,r⟩:=S.getO hs
 exact⟨.ref p,e,q _ _ _ _ (Ext.refl S.ext.fh) (SqL.of hp) r⟩
theorem zaj{i:Int}:Ev K G H0 L ss (tC (.int i)) (.int i):=fun F H U Q S q=>q _ _ _ (Ext.refl S.ext.fh) Rep.int
theorem ybq{b:Bool}:Ev K G H0 L ss (tC (.bl b)) (.bl b):=fun F H U Q S q=>q _ _ _ (Ext.refl S.ext.fh) Rep.bl
theorem za5{x:Str}{l:List Nat}(h:x=T l)(ha:∀c∈l,c<128):Ev K G H0 L ss (tC (.str x)) (.str l):=fun F H U Q S q=>by subst h;exact q _ _ _ (Ext.refl S.ext.fh) (Rep.str ha)
theorem zen{r:R2}{w:V}(a:EvB K G H0 L ss ta d1)(b:EvB K G H0 L ss tb d2)(hr:∀H x y (Q:VK),Rep K H d1 x->Rep K H d2 y->Q w H->r x y H Q)(hw:∀F H x y,Rep K H d1 x->Rep K H d2 y->Rep K F d w):Ev K G H0 L ss (tOp r ta tb) d:=fun F H U Q S q =>
 a F H U _ S fun x F1 H1 e1 r1=>b F1 H1 U _ (S.ext2 e1) fun y F2 H2 e2 r2=>hr H2 x y Q (r1.mono e2.hh) r2 (q _ _ _ (e1.trans e2) (hw _ _ _ _ (r1.mono e2.hh) r2))
theorem zcg{i j:Int}(a:EvB K G H0 L ss ta (.int i))(b:EvB K G H0 L ss tb (.int j)):Ev K G H0 L ss (tOp (rI0 fun i j=>.int (i+j)) ta tb) (.int (i+j)) :=
 zen a b (fun H x y Q r1 r2 q=>⟨i,j,r1.of_int,r2.of_int,q⟩) fun _ _ _ _ _ _=>Rep.int
theorem ykd{i j:Int}(a:EvB K G H0 L ss ta (.int i))(b:EvB K G H0 L ss tb (.int j)):Ev K G H0 L ss (tOp (rI0 fun i j=>.int (i - j)) ta tb) (.int (i - j)) :=
 zen a b (fun H x y Q r1 r2 q=>⟨i,j,r1.of_int,r2.of_int,q⟩) fun _ _ _ _ _ _=>Rep.int
theorem zwt{C:Int->Int->Prop}{g:Int->Int->Int}{i j:Int}(a:EvB K G H0 L ss ta (.int i))(b:EvB K G H0 L ss tb (.int j))(hC:C i j):Ev K G H0 L ss (tOp (rI C fun i j=>.int (g i j)) ta tb) (.int (g i j)) :=
 zen a b (fun H x y Q r1 r2 q=>⟨i,j,r1.of_int,r2.of_int,hC,q⟩) fun _ _ _ _ _ _=>Rep.int
theorem zo6{g:Int->Int->Bool}{i j:Int}(a:EvB K G H0 L ss ta (.int i))(b:EvB K G H0 L ss tb (.int j)):Ev K G H0 L ss (tOp (rI0 fun i j=>.bl (g i j)) ta tb) (.bl (g i j)) :=
 zen a b (fun H x y Q r1 r2 q=>⟨i,j,r1.of_int,r2.of_int,q⟩) fun _ _ _ _ _ _=>Rep.bl
theorem zvh{i j:Int}(a:EvB K G H0 L ss ta (.int i))(b:EvB K G H0 L ss tb (.int j)):Ev K G H0 L ss (tOp rEq ta tb) (.bl (decide (i=j))) :=
 zen (w:=.bl (decide (i=j))) a b (fun H x y Q r1 r2 q=>by rw[r1.of_int,r2.of_int];exact⟨rfl,by simpa using q⟩) fun _ _ _ _ _ _=>Rep.bl
theorem zux{i j:Int}(a:EvB K G H0 L ss ta (.int i))(b:EvB K G H0 L ss tb (.int j)):Ev K G H0 L ss (tOp rNe ta tb) (.bl (!decide (i=j))) :=
 zen (w:=.bl (!decide (i=j))) a b (fun H x y Q r1 r2 q=>by rw[r1.of_int,r2.of_int];exact⟨rfl,by simpa using q⟩) fun _ _ _ _ _ _=>Rep.bl
theorem zcy{l m:List Nat}(a:EvB K G H0 L ss ta (.str l))(b:EvB K G H0 L ss tb (.str m)):Ev K G H0 L ss (tOp rEq ta tb) (.bl (decide (l=m))) :=
 zen (w:=.bl (decide (l=m))) a b (fun H x y Q r1 r2 q=>by rw[r1.of_str,r2.of_str];exact⟨rfl,by rw[zu0];exact q⟩) fun _ _ _ _ _ _=>Rep.bl
theorem zrg{l m:List Nat}(a:EvB K G H0 L ss ta (.str l))(b:EvB K G H0 L ss tb (.str m)):Ev K G H0 L ss (tOp rNe ta tb) (.bl (!decide (l=m))) :=
 zen (w:=.bl (!decide (l=m))) a b (fun H x y Q r1 r2 q=>by rw[r1.of_str,r2.of_str];exact⟨rfl,by rw[zu0];exact q⟩) fun _ _ _ _ _ _=>Rep.bl
theorem zfh{l m:List Nat}(a:EvB K G H0 L ss ta (.str l))(b:EvB K G H0 L ss tb (.str m))(hz:l.length+m.length<=sizeLine) :
  Ev K G H0 L ss (tOp (fun x y H Q=>∃i j,x= .str i/\y= .str j/\i.length+j.length<=sizeLine/\Q (.str (i++j)) H) ta tb) (.str (l++m)) :=
 zen (w:=.str (T (l++m))) a b (fun H x y Q r1 r2 q=>⟨_,_,r1.of_str,r2.of_str,by rw[zb5,zb5];exact hz,by rw[yhv];exact q⟩) fun _ _ _ _ r1 r2=>Rep.str fun c hc=>(Zme.mp hc).elim (r1.asc c) (r2.asc c)
theorem ybe{α:Type}{xs:List α}{i:Int}{x:α}(h:atI xs i=some x):x∈xs:=by
 unfold atI at h
 cases hx:ixN xs.length i with
 | none=>rw[hx] at h;cases h
 | some j=>rw[hx] at h;exact Zlv h
theorem zmf{l:List Nat}{i:Int}{c:Nat}(a:EvB K G H0 L ss ta (.str l))(b:EvB K G H0 L ss tb (.int i))(hz:l.length<=sizeLine)(hc:atI l i=some c):Ev K G H0 L ss (tOp rIxS ta tb) (.str [c]) :=
 zen (w:=.str (T [c])) a b (fun H x y Q r1 r2 q=>⟨_,_,c,r1.of_str,r2.of_int,by rw[zb5];exact hz,by rw[zet];exact hc,q⟩) fun _ _ _ _ r1 r2=>Rep.str fun c' hc'=>by
  rw[Zlz.mp hc']
  exact r1.asc c (ybe hc)
theorem Reps.atI{H:Hp}{ds:List D}{vs:List V}{i:Int}{d:D}(r:Reps K H ds vs)(h:L2.atI ds i=some d):∃v,L2.atI vs i=some v/\Rep K H d v:=by
 unfold L2.atI at h ⊢
 rw[r.length] at h
 cases hx:ixN vs.length i with
 | none=>rw[hx] at h;cases h
 | some j=>rw[hx] at h;exact r.get' h
theorem zbs{i:Int}(a:EvL K G H0 L ss ta ds)(b:EvB K G H0 L ss tb (.int i))(hc:atI ds i=some d):Ev K G H0 L ss (tOp (rIxL K) ta tb) d:=fun F H U Q S q =>
 a F H U _ S fun p vs F1 H1 e1 sq r1=>b F1 H1 U _ (S.ext2 e1) fun y F2 H2 e2 r2=>by
  obtain⟨v,hv,rv⟩:=r1.atI hc
  exact⟨p,vs,i,v,rfl,r2.of_int,SqL.same e2.hh sq,hv,q _ _ _ (e1.trans e2) (rv.mono e2.gf)⟩
theorem zdg{i:Int}(a:Ev K G H0 L ss ta (.tup ds))(b:EvB K G H0 L ss tb (.int i))(hc:atI ds i=some d):Ev K G H0 L ss (tOp (rIxT K) ta tb) d:=fun F H U Q S q =>
 a F H U _ S fun x F1 H1 e1 r1=>b F1 H1 U _ (S.ext2 e1) fun y F2 H2 e2 r2=>by
  obtain⟨p,vs,rfl,sq,rs⟩:=r1.of_tup
  obtain⟨v,hv,rv⟩:=rs.atI hc
  exact⟨p,vs,i,v,rfl,r2.of_int,SqT.same (e1.fh.trans e2.hh) sq,hv,q _ _ _ (e1.trans e2) (rv.mono e2.gf)⟩
theorem zpe:EvA K G H0 L ss tNil []:=fun F H U Q S q=>q _ _ _ (Ext.refl S.ext.fh) Reps.nil
theorem zlh{t:TA}(a:EvB K G H0 L ss ta d)(b:EvA K G H0 L ss t ds):EvA K G H0 L ss (za8 ta t) (d::ds):=fun F H U Q S q =>
 a F H U _ S fun x F1 H1 e1 r1=>b F1 H1 U _ (S.ext2 e1) fun vs F2 H2 e2 r2=>q _ _ _ (e1.trans e2) (Reps.cons (r1.mono e2.hh) r2)
theorem zaf:EvAF K G H0 L ss tNil []:=fun F H U Q S q=>q _ _ _ (Ext.refl S.ext.fh) Reps.nil
theorem zab{t:TA}(a:Ev K G H0 L ss ta d)(b:EvAF K G H0 L ss t ds):EvAF K G H0 L ss (za8 ta t) (d::ds):=fun F H U Q S q =>
 a F H U _ S fun x F1 H1 e1 r1=>b F1 H1 U _ (S.ext2 e1) fun vs F2 H2 e2 r2=>q _ _ _ (e1.trans e2) (Reps.cons (r1.mono e2.gf) r2)
theorem zhv{t:TA}(a:EvAF K G H0 L ss t ds)(hz:ds.length<=sizeLine):Ev K G H0 L ss (tTup t) (.tup ds):=fun F H U Q S q =>
 a F H U _ S fun vs F1 H1 e1 r1=>⟨by rw[<- r1.length];exact hz,fun p hp=>q _ _ _ (e1.newF hp) (Rep.tupN (zal) (r1.mono (Same.upd (e1.fh.free hp))))⟩
theorem zbv{t:TA}(a:EvAF K G H0 L ss t ds)(hz:ds.length<=sizeLine):EvO K G H0 L ss (tLst t) ds:=fun F H U Q S q =>
 a F H U _ S fun vs F1 H1 e1 r1=>⟨by rw[<- r1.length];exact hz,fun p hp=>q p vs F1 _ (e1.newO hp) (e1.hh.free hp) (e1.fh.free hp) zal r1⟩
theorem zan{b:Bool}(a:Ev K G H0 L ss t (.bl b)):EvT K G H0 L ss (yc5 t) b:=fun F H U Q S q=>a F H U _ S fun v F' H' e r=>⟨b,r.of_bl,q _ _ e⟩
theorem zk6{b:Bool}(a:Ev K G H0 L ss t (.bl b)):EvT K G H0 L ss (tB t) b:=fun F H U Q S q=>a F H U _ S fun v F' H' e r=>⟨b,r.of_bl,q _ _ e⟩
theorem zh1{u:TT}{b:Bool}(a:EvT K G H0 L ss u b):EvT K G H0 L ss (tNot u) (!b):=fun F H U Q S q=>a F H U _ S fun F' H' e=>q _ _ e
theorem ze9{u v:TT}{b c:Bool}(a:EvT K G H0 L ss u b)(h:b=true->EvT K G H0 L ss v c):EvT K G H0 L ss (tAnd u v) (b&&c):=fun F H U Q S q=>a F H U _ S fun F' H' e=>by
 cases b with
 | false=>exact iteF (q _ _ e)
 | true=>exact iteT (h rfl _ _ _ _ (S.ext2 e) fun F'' H'' e'=>q _ _ (e.trans e'))
theorem zkm{u v:TT}{b c:Bool}(a:EvT K G H0 L ss u b)(h:b=false->EvT K G H0 L ss v c):EvT K G H0 L ss (tOr u v) (b||c):=fun F H U Q S q=>a F H U _ S fun F' H' e=>by
 cases b with
 | true=>exact iteT (q _ _ e)
 | false=>exact iteF (h rfl _ _ _ _ (S.ext2 e) fun F'' H'' e'=>q _ _ (e.trans e'))
theorem znb{b c:Bool}(a:Ev K G H0 L ss ta (.bl b))(h:b=true->Ev K G H0 L ss tb (.bl c)):Ev K G H0 L ss (ykf ta tb) (.bl (b&&c)):=fun F H U Q S q=>a F H U _ S fun v F' H' e r=>by
 refine⟨b,r.of_bl,?_⟩
 cases b with
 | false=>exact iteF (q _ _ _ e Rep.bl)
 | true=>exact iteT (h rfl _ _ _ _ (S.ext2 e) fun v F'' H'' e' r'=>q _ _ _ (e.trans e') r')
theorem ylr{b c:Bool}(a:Ev K G H0 L ss ta (.bl b))(h:b=false->Ev K G H0 L ss tb (.bl c)):Ev K G H0 L ss (tOrV ta tb) (.bl (b||c)):=fun F H U Q S q=>a F H U _ S fun v F' H' e r=>by
 refine⟨b,r.of_bl,?_⟩
 cases b with
 | true=>exact iteT (q _ _ _ e Rep.bl)
 | false=>exact iteF (h rfl _ _ _ _ (S.ext2 e) fun v F'' H'' e' r'=>q _ _ _ (e.trans e') r')
theorem ybo{b:Bool}(a:Ev K G H0 L ss ta (.bl b)):Ev K G H0 L ss (yly ta) (.bl (!b)):=fun F H U Q S q=>a F H U _ S fun v F' H' e r=>⟨b,r.of_bl,q _ _ _ e Rep.bl⟩
end
noncomputable def SpD(K:Zlh)(pre:List D->Prop)(res:List D->D):Sp:=fun vs H Q _=>∃G ds,Same G H/\Reps K G ds vs/\pre ds /\ ∀v G' H',Ext G H G' H'->Rep K G' (res ds) v->Q v H'
noncomputable def SpO(K:Zlh)(pre:List D->Prop)(res:List D->List D):Sp:=fun vs H Q _=>∃G ds,Same G H/\Reps K G ds vs/\pre ds /\ ∀p ws G' H',Ext G H G' H'->H p=none->G' p=none->H' p=some (.lst ws)->Reps K G' (res ds) ws->Q (.ref p) H'
noncomputable def D.flat:D->Bool
 | .lst _=>false | .tup _=>false | .dct _ _=>false | .dctT _ _=>false | .ins _ _ _=>false | _=>true
theorem Rep.flat{K:Zlh}{H H':Hp}{d:D}{v:V}(f:d.flat=true)(r:Rep K H d v):Rep K H' d v:=by
 cases d with
 | lst _=>cases f
 | tup _=>cases f
 | dct _ _=>cases f
 | dctT _ _=>cases f
 | ins _ _ _=>cases f
 | non=>rw[r.of_non];exact Rep.non
 | bl b=>rw[r.of_bl];exact Rep.bl
 | int i=>rw[r.of_int];exact Rep.int
 | str l=>rw[r.of_str];exact Rep.str r.asc
section
variable{K:Zlh}{G H0 L:Hp}{ss:List Sl}{t:TA}{ds:List D}{pre:List D->Prop}{E:XK}
theorem zbn{res:List D->D}(a:EvAF K G H0 L ss t ds)(hp:pre ds):Ev K G H0 L ss (zk4 (SpD K pre res) [] E t) (res ds):=fun F H U Q S q =>
 a F H U _ S fun vs F1 H1 e1 r1=>⟨F1,ds,e1.fh,by rw[Zm1];exact r1,hp,fun v G' H' e2 r=>q _ _ _ (e1.trans e2) r⟩
theorem za0{res:List D->List D}(a:EvAF K G H0 L ss t ds)(hp:pre ds):EvO K G H0 L ss (zk4 (SpO K pre res) [] E t) (res ds):=fun F H U Q S q =>
 a F H U _ S fun vs F1 H1 e1 r1=>⟨F1,ds,e1.fh,by rw[Zm1];exact r1,hp,fun p ws G' H' e2 h1 h2 h3 r=>q _ _ _ _ (e1.trans e2) (e1.hh.free h1) h2 h3 r⟩
end
section
variable(K:Zlh)(G H0 L:Hp)
noncomputable def Nx(P:St->Hp->Prop)(ss:List Sl):Prop:=∀F H U,Sat K G H0 L F H U ss->P U H
noncomputable def Go(E:Ends)(ss:List Sl)(t:TS):Prop:=∀F H U,Sat K G H0 L F H U ss->t E U H
noncomputable def Tg(g:TG)(d:D)(ss ss':List Sl):Prop:=∀F H U v (Q:St->Hp->Prop),Sat K G H0 L F H U ss->Rep K F d v->(∀U' , Sat K G H0 L F H U' ss'->Q U' H)->g v U H Q
noncomputable def Tgs(g:TGs)(ds:List D)(ss ss':List Sl):Prop:=∀F H U vs (Q:St->Hp->Prop),Sat K G H0 L F H U ss->Reps K F ds vs->(∀U' , Sat K G H0 L F H U' ss'->Q U' H)->g vs U H Q
noncomputable def At(I:List Sl->Prop):St->Hp->Prop:=fun U H=>∃ss F,Sat K G H0 L F H U ss/\I ss
end
noncomputable def RtD(K:Zlh)(G H0:Hp)(rt:VK)(d:D):Prop:=∀v F H,Ext G H0 F H->Rep K F d v->rt v H
noncomputable def RtO(K:Zlh)(G H0:Hp)(rt:VK)(ds:List D):Prop:=∀p vs F H,Ext G H0 F H->H0 p=none->F p=none->H p=some (.lst vs)->Reps K F ds vs->rt (.ref p) H
section
variable{K:Zlh}{G H0 L:Hp}{ss ss':List Sl}{E:Ends}{t u:TS}{te:TE}{d:D}{ds:List D}{P:St->Hp->Prop}
theorem zak(h:Go K G H0 L { E with nx:=u E } ss t):Go K G H0 L E ss (tSeq t u):=h
theorem zbd{i:Nat}(a:Ev K G H0 L ss te d)(h:Nx K G H0 L E.nx (ss.set i (.d d))):Go K G H0 L E ss (tAsg te (zin i)):=fun F H U S=>a F H U _ S fun v F' H' e r=>h F' H' _ ((S.ext2 e).setD r)
theorem Sat.notin{F H:Hp}{U:St}{p:Addr}(S:Sat K G H0 L F H U ss)(hp:H p=none)(j:Nat)(s:Sl)(h:ss[j]? = some s):p∉s.ads:=fun z=>(S.ok j s h).live z hp
theorem Sat.newO{F H F' H':Hp}{U:St}{p:Addr}{vs:List V}{i:Nat}(S:Sat K G H0 L F H U ss)(e:Ext F H F' H')(hp:H p=none)(fp:F' p=none)(hp':H' p=some (.lst vs))(r:Reps K F' ds vs):Sat K G H0 L F' H' (U.set i (some (.ref p))) (ss.set i (.o p ds)) :=
 (S.ext2 e).setO ⟨S.ext.hh.free hp,fp,vs,hp',r⟩ fun j s _ h=>S.notin hp j s h
theorem za6{i:Nat}(a:EvO K G H0 L ss te ds)(h:∀p,Nx K G H0 L E.nx (ss.set i (.o p ds))):Go K G H0 L E ss (tAsg te (zin i)):=fun F H U S=>a F H U _ S fun p vs F' H' e hp fp hp' r=>h p F' H' _ (S.newO e hp fp hp' r)
theorem zcj{c:TT}{b:Bool}(a:EvT K G H0 L ss c b)(h1:b=true->Go K G H0 L E ss t)(h2:b=false->Go K G H0 L E ss u):Go K G H0 L E ss (tIfS c t u):=fun F H U S=>a F H U _ S fun F' H' e=>by
 cases b with
 | true=>exact iteT (h1 rfl F' H' U (S.ext2 e))
 | false=>exact iteF (h2 rfl F' H' U (S.ext2 e))
theorem za3(h:Nx K G H0 L E.nx ss):Go K G H0 L E ss ykg:=h
theorem zaw(a:Ev K G H0 L ss te d)(h:RtD K G H0 E.rt d):Go K G H0 L E ss (tRet te):=fun F H U S=>a F H U _ S fun v F' H' e r=>h v F' H' (S.ext.trans e) r
theorem zf2(a:EvO K G H0 L ss te ds)(h:RtO K G H0 E.rt ds):Go K G H0 L E ss (tRet te):=fun F H U S=>a F H U _ S fun p vs F' H' e hp fp hp' r=>h p vs F' H' (S.ext.trans e) (S.ext.hh.free hp) fp hp' r
theorem zi4{i:Nat}{p:Addr}(hs:ss[i]? = some (.o p ds))(h:RtO K G H0 E.rt ds):Go K G H0 L E ss (tRet (tVar i)):=fun F H U S=>by
 obtain⟨e,h0,fp,vs,hp,r⟩:=S.getO hs
 exact⟨.ref p,e,h p vs F H S.ext h0 fp hp r⟩
theorem zbb{i:Nat}{p:Addr}(hs:ss[i]? = some (.o p ds))(h:Nx K G H0 L P (ss.set i (.d (.lst ds)))):Nx K G H0 L P ss:=fun F H U S=>by
 obtain⟨F',S'⟩:=S.freeze hs
 exact h F' H U S'
theorem zaq(h:Go K G H0 L E ss t):Nx K G H0 L (t E) ss:=h
theorem ydc{I:List Sl->Prop}(h:I ss):Nx K G H0 L (At K G H0 L I) ss:=fun F H U S=>⟨ss,F,S,h⟩
theorem zhu(I:List Sl->Prop)(h1:∀N:St->Hp->Prop,(∀ss,I ss->Nx K G H0 L N ss)->Go K G H0 L { E with nx:=N } ss t)(h2:∀ss,I ss->Go K G H0 L E ss u):Go K G H0 L E ss (tSeq t u):=h1 _ h2
theorem zax{i:Nat}:Tg K G H0 L (zin i) d ss (ss.set i (.d d)):=fun F H U v Q S r q=>q _ (S.setD r)
theorem znf:Tgs K G H0 L gNil [] ss ss:=fun F H U vs Q S r q=>by
 rw[Reps] at r
 exact⟨r,q _ S⟩
theorem zc4{g:TG}{gs:TGs}{ss1 ss2:List Sl}(a:Tg K G H0 L g d ss ss1)(b:Tgs K G H0 L gs ds ss1 ss2):Tgs K G H0 L (yhg g gs) (d::ds) ss ss2:=fun F H U vs Q S r q=>by
 rw[Reps] at r
 obtain⟨x,xs,rfl,r1,r2⟩:=r
 exact⟨x,xs,rfl,a F H U x _ S r1 fun U' S'=>b F H U' xs _ S' r2 q⟩
theorem zq0{g:TGs}{n:Nat}(hn:ds.length=n)(a:Tgs K G H0 L g ds ss ss'):Tg K G H0 L (gTup K n g) (.tup ds) ss ss':=fun F H U v Q S r q=>by
 obtain⟨p,xs,rfl,sq,rs⟩:=r.of_tup
 exact⟨p,xs,rfl,SqT.same S.ext.fh sq,by rw[<- rs.length];exact hn,a F H U xs _ S rs q⟩
theorem zd8{i:Nat}{p:Addr}{t1:TE}(hs:ss[i]? = some (.o p ds))(a:Ev K G H0 L ss t1 d)(hz:ds.length<sizeLine)(h:Nx K G H0 L E.nx (ss.set i (.o p (ds++[d])))) :
  Go K G H0 L E ss (zys (tBM K "list" zuj (tVar i) (za8 t1 tNil))):=fun F H U S=>by
 obtain⟨e,h0,fp,vs,hp,r⟩:=S.getO hs
 refine⟨.ref p,e,.inl ⟨rfl,_,SqL.of hp⟩,a F H U _ S fun v F' H' e' r'=>?_⟩
 have S':=S.ext2 e'
 obtain⟨e2,h02,fp2,vs',hp2,r2⟩:=S'.getO hs
 exact⟨p,vs',v,rfl,rfl,hp2,by rw[<- r2.length];exact hz,h F' _ U (S'.write hs (r2.snoc r'))⟩
theorem ydh{i:Nat}{p:Addr}(hs:ss[i]? = some (.o p ds))(h:Nx K G H0 L E.nx (ss.set i (.o p []))) :
  Go K G H0 L E ss (zys (tBM0 K "list" yfu (tVar i))):=fun F H U S=>by
 obtain⟨e,h0,fp,vs,hp,r⟩:=S.getO hs
 exact⟨.ref p,e,.inl ⟨rfl,_,SqL.of hp⟩,p,vs,rfl,rfl,hp,h F _ U (S.write hs Reps.nil)⟩
theorem Rep.itl{F H:Hp}{p:Addr}(h:Same F H)(r:Rep K F (.lst ds) (.ref p)):∃vs,SqL K H p vs/\Reps K F ds vs:=by
 obtain⟨q,xs,e,sq,rs⟩:=r.of_lst
 cases e
 exact⟨xs,SqL.same h sq,rs⟩
theorem zit{tl:TE}{g:TG}{tb:TS}{α:Type}(enc:α->D)(xs:List α)(I:Nat->List Sl->Prop)(a:Ev K G H0 L ss tl (.lst (xs.map enc)))(h0:I 0 ss)
  (hs:∀L' k x ss,Same L L'->xs[k]? = some x->I k ss-> ∃ss',Tg K G H0 L' g (enc x) ss ss' /\ ∀N,(∀ss,I (k+1) ss->Nx K G H0 L' N ss)->Go K G H0 L' { E with nx:=N,ct:=N,bk:=E.nx } ss' tb)
  (hd:∀ss,I xs.length ss->Nx K G H0 L E.nx ss):Go K G H0 L E ss (tFor (zuu K tl) g tb):=fun F H U S =>
 a F H U _ S fun v F1 H1 e1 r1=>by
  obtain⟨p,vs,rfl,sq,rs⟩:=r1.of_lst
  refine⟨p,rfl,⟨vs,SqL.same e1.fh sq⟩,?_⟩
  refine⟨fun i m U' H'=>m=xs.length - i/\i<=xs.length/\At K G H0 F1 (I i) U' H',⟨_,rfl,Zmt _,ss,F1,(S.ext2 e1).raise,h0⟩,?_⟩
  rintro i m U' H' ⟨rfl,hi,ss1,F2,S2,h2⟩
  have rp:Rep K F2 (.lst (xs.map enc)) (.ref p):=r1.mono S2.fl
  obtain⟨ws,sq2,rs2⟩:=rp.itl S2.ext.fh
  have hlen:ws.length=xs.length:=by rw[<- rs2.length,Zlm]
  by_cases hlt:i<xs.length
  .refine .inr ⟨⟨ws,ws[i]'(by lia),sq2,Zlj _⟩,fun U'' H''=>At K G H0 F1 (I (i+1)) U'' H'',fun U'' H'' h=>⟨xs.length - (i+1),by lia,rfl,hlt,h⟩,fun x H'' y=>?_⟩
   obtain⟨rfl,y⟩:=y
   have hx:=y ws sq2
   obtain⟨dx,hdx,rx⟩:=rs2.get hx
   rw[Zlx,Zlj hlt] at hdx
   cases hdx
   obtain⟨ss',tg,go⟩:=hs F1 i _ ss1 (S.fl.trans e1.gf) (Zlj hlt) h2
   exact tg F2 _ U' x _ S2 rx fun U3 S3=>go _ (fun ss h=>ydc h) F2 _ U3 S3
  .have e:i=xs.length:=by lia
   subst e
   exact .inl ⟨⟨ws,sq2,by lia⟩,hd ss1 h2 F2 H' U' (S2.lower (S.fl.trans e1.gf))⟩
theorem yg2{i0:Nat}{p:Addr}{g:TG}{tb:TS}{α:Type}(enc:α->D)(xs:List α)(I:Nat->List Sl->Prop)(h0:I 0 ss)(hI:∀k ss,I k ss->ss[i0]? = some (.o p (xs.map enc)))
  (hs:∀k x ss,xs[k]? = some x->I k ss-> ∃ss',Tg K G H0 L g (enc x) ss ss' /\ ∀N,(∀ss,I (k+1) ss->Nx K G H0 L N ss)->Go K G H0 L { E with nx:=N,ct:=N,bk:=E.nx } ss' tb)
  (hd:∀ss,I xs.length ss->Nx K G H0 L E.nx ss):Go K G H0 L E ss (tFor (zuu K (tVar i0)) g tb):=fun F H U S=>by
 obtain⟨e,q0,fp,vs,hp,r⟩:=S.getO (hI 0 ss h0)
 refine⟨.ref p,e,p,rfl,⟨vs,SqL.of hp⟩,?_⟩
 refine⟨fun i m U' H'=>m=xs.length - i/\i<=xs.length/\At K G H0 L (I i) U' H',⟨_,rfl,Zmt _,ss,F,S,h0⟩,?_⟩
 rintro i m U' H' ⟨rfl,hi,ss1,F2,S2,h2⟩
 obtain⟨e2,q2,fp2,ws,hp2,rs2⟩:=S2.getO (hI i ss1 h2)
 have sq2:SqL K H' p ws:=SqL.of hp2
 have hlen:ws.length=xs.length:=by rw[<- rs2.length,Zlm]
 by_cases hlt:i<xs.length
 .refine .inr ⟨⟨ws,ws[i]'(by lia),sq2,Zlj _⟩,fun U'' H''=>At K G H0 L (I (i+1)) U'' H'',fun U'' H'' h=>⟨xs.length - (i+1),by lia,rfl,hlt,h⟩,fun x H'' y=>?_⟩
  obtain⟨rfl,y⟩:=y
  have hx:=y ws sq2
  obtain⟨dx,hdx,rx⟩:=rs2.get hx
  rw[Zlx,Zlj hlt] at hdx
  cases hdx
  obtain⟨ss',tg,go⟩:=hs i _ ss1 (Zlj hlt) h2
  exact tg F2 _ U' x _ S2 rx fun U3 S3=>go _ (fun ss h=>ydc h) F2 _ U3 S3
 .have e:i=xs.length:=by lia
  subst e
  exact .inl ⟨⟨ws,sq2,by lia⟩,hd ss1 h2 F2 H' U' S2⟩
theorem zlo{ta:TA}{j:Nat}{tb:TS}{n:Int}(I:Nat->List Sl->Prop)(a:EvA K G H0 L ss ta [.int n])(hb : -(2 ^ 62)<=n/\n<2 ^ 62)(h0:I 0 ss)
  (hs:∀(k:Nat) ss,(k:Int)<n->I k ss-> ∀N,(∀ss,I (k+1) ss->Nx K G H0 L N ss)->Go K G H0 L { E with nx:=N,ct:=N,bk:=E.nx } (ss.set j (.d (.int (k:Int)))) tb)
  (hd:∀ss,I n.toNat ss->Nx K G H0 L E.nx ss) {ti:TI} (hti:∀U H R,(ta U H fun vs H1=>∃m:Int,vs=[.int m] /\ -(2 ^ 62)<=m/\m<2 ^ 62/\R (Itr 0 m.toNat) H1)->ti U H R):Go K G H0 L E ss (tFor ti (zin j) tb):=fun F H U S=>by
 refine hti U H _ (a F H U _ S fun vs F1 H1 e1 r1=>?_)
 rw[Reps] at r1
 obtain⟨x,r,rfl,rx,r1⟩:=r1
 rw[Reps] at r1
 subst r1
 rw[rx.of_int]
 refine⟨n,rfl,hb.1,hb.2,fun i m U' H'=>m=n.toNat - i/\i<=n.toNat/\At K G H0 L (I i) U' H',⟨_,rfl,Zmt _,ss,F1,S.ext2 e1,h0⟩,?_⟩
 rintro i m U' H' ⟨rfl,hi,ss1,F2,S2,h2⟩
 by_cases hlt:i<n.toNat
 .refine .inr ⟨hlt,fun U'' H''=>At K G H0 L (I (i+1)) U'' H'',fun U'' H'' h=>⟨n.toNat - (i+1),by lia,rfl,hlt,h⟩,fun x H'' y=>?_⟩
  obtain⟨rfl,rfl⟩:=y
  refine hs i ss1 (by omega) h2 _ (fun ss h=>ydc h) F2 _ _ ?_
  have e:(0:Int)+(i:Int)=(i:Int):=by lia
  rw[e]
  exact S2.setD Rep.int
 .have e:i=n.toNat:=by lia
  subst e
  exact .inl ⟨Zlt _,hd ss1 h2 F2 H' U' S2⟩
end
mutual
noncomputable def D.toP:D->Zpl
 | .non=>.none
 | .bl b=>.bool b
 | .int i=>.int i
 | .str l=>.str (T l)
 | .lst a=>.list (D.toPs a)
 | .tup a=>.tuple (D.toPs a)
 | .dct _ _=>.none
 | .dctT _ _=>.none
 | .ins _ _ _=>.none
noncomputable def D.toPs:List D->List Zpl
 | []=>[]
 | a::x=>a.toP::D.toPs x
end
mutual
theorem D.toP_depth:∀d:D,d.toP.depth=d.dep
 | .non=>rfl
 | .bl _=>rfl
 | .int _=>rfl
 | .str _=>rfl
 | .lst a=>by simp[D.toP,Zzx,D.dep,D.toPs_depth a]
 | .tup a=>by simp[D.toP,Zzx,D.dep,D.toPs_depth a]
 | .dct _ _=>rfl
 | .dctT _ _=>rfl
 | .ins _ _ _=>rfl
theorem D.toPs_depth:∀a:List D,Zyj (D.toPs a)=D.deps a
 | []=>rfl
 | d::a=>by simp[D.toPs,Zyj,D.deps,D.toP_depth d,D.toPs_depth a]
end
mutual
theorem D.eqv:∀d e:D,d.nb=true->e.nb=true->Zp5 d.toP e.toP=decide (d=e)
 | .non,e,_,h2=>by cases e <;> simp[D.toP,Zp5,D.nb] at h2 ⊢
 | .bl _,_,h1,_=>by simp[D.nb] at h1
 | .dct _ _,_,h1,_=>by simp[D.nb] at h1
 | .dctT _ _,_,h1,_=>by simp[D.nb] at h1
 | .ins _ _ _,_,h1,_=>by simp[D.nb] at h1
 | .int i,e,_,h2=>by
  cases e <;> simp[D.toP,Zp5,D.nb] at h2 ⊢
  exact Bool.beq_eq_decide_eq _ _
 | .str l,e,_,h2=>by
  cases e <;> simp[D.toP,Zp5,D.nb] at h2 ⊢
  rename_i m
  rw[Zmj];simp[ybu]
 | .lst a,e,h1,h2=>by
  cases e with
  | lst b =>
   simp only[D.nb] at h1 h2
   simp only[D.toP,Zp5,D.lst.injEq]
   exact D.eqvs a b h1 h2
  | _=>simp[D.toP,Zp5,D.nb] at h2 ⊢
 | .tup a,e,h1,h2=>by
  cases e with
  | tup b =>
   simp only[D.nb] at h1 h2
   simp only[D.toP,Zp5,D.tup.injEq]
   exact D.eqvs a b h1 h2
  | _=>simp[D.toP,Zp5,D.nb] at h2 ⊢
theorem D.eqvs:∀a b:List D,D.nbs a=true->D.nbs b=true->Ztq (D.toPs a) (D.toPs b)=decide (a=b)
 | [],b,_,_=>by cases b <;> simp[D.toPs,Ztq]
 | d::a,b,h1,h2=>by
  cases b with
  | nil=>simp[D.toPs,Ztq]
  | cons e b =>
   simp only[D.nbs,Zmd] at h1 h2
   simp only[D.toPs,Ztq,D.eqv d e h1.1 h2.1,D.eqvs a b h1.2 h2.2,Zol]
   by_cases x:d=e <;> by_cases y:a=b <;> simp[x,y]
end
section
variable{X:Cx}{pins:List (Addr×Obj)}{U:St}{H:Hp}{s:Zlo}
theorem yh2{l:List Nat}(h:∀c∈l,c<128):Zzw (T l)=true:=by
 unfold Zzw T
 simp
 intro c hc
 have:=h c hc
 lia
mutual
theorem Inv.reads(I:Inv X pins U H s):∀{d:D} {v:V} {u:Zll},d.nb=true->Rep X.K H d v->RelV v u->(∃as,Ydn s.heap u d.toP as)/\d.toP.canLay0=true
 | .non,_,_,_,r,q=>by rw[r.of_non] at q;cases q;exact⟨⟨_,Reads.none⟩,rfl⟩
 | .bl b,_,_,n,_,_=>by simp[D.nb] at n
 | .dct _ _,_,_,n,_,_=>by simp[D.nb] at n
 | .dctT _ _,_,_,n,_,_=>by simp[D.nb] at n
 | .ins _ _ _,_,_,n,_,_=>by simp[D.nb] at n
 | .int i,_,_,_,r,q=>by rw[r.of_int] at q;obtain⟨t,rfl⟩:=q;exact⟨⟨_,Reads.int i t⟩,rfl⟩
 | .str l,_,_,_,r,q=>by
  have ha:=r.asc
  rw[r.of_str] at q;obtain⟨t,rfl⟩:=q
  exact⟨⟨_,Reads.str _ t⟩,yh2 ha⟩
 | .lst ds,_,_,nn,r,q=>by
  obtain⟨p,xs,rfl,sq,rs⟩:=r.of_lst
  cases q
  obtain⟨its,rv,⟨o,n,e,c,_,hd⟩,_⟩:=I.list sq
  obtain⟨⟨as,ra⟩,hc⟩:=I.readsAll (by simpa[D.nb] using nn) rs rv
  exact⟨⟨_,Reads.list e c hd (by simpa using ra)⟩,by simpa[D.toP,Zq2] using hc⟩
 | .tup ds,_,_,nn,r,q=>by
  obtain⟨p,xs,rfl,sq,rs⟩:=r.of_tup
  cases q
  obtain⟨its,rv,⟨o,e,c,n,hd⟩,_⟩:=I.tuple sq
  obtain⟨⟨as,ra⟩,hc⟩:=I.readsAll (by simpa[D.nb] using nn) rs rv
  exact⟨⟨_,Reads.tuple e c hd (by simpa using ra)⟩,by simpa[D.toP,Zq2] using hc⟩
theorem Inv.readsAll(I:Inv X pins U H s):∀{ds:List D} {vs:List V} {us:List Zll},D.nbs ds=true->Reps X.K H ds vs->Vals vs us->(∃as,Ydm s.heap us (D.toPs ds) as)/\Zxm (D.toPs ds)=true
 | [],_,_,_,r,q=>by
  rw[Reps] at r;subst r
  cases q
  exact⟨⟨_,ReadsAll.nil⟩,rfl⟩
 | d::ds,_,_,n,r,q=>by
  simp only[D.nbs,Zmd] at n
  rw[Reps] at r
  obtain⟨x,xs,rfl,r1,r2⟩:=r
  cases q with
  | cons q1 q2 =>
   obtain⟨⟨as,a⟩,hc⟩:=I.reads n.1 r1 q1
   obtain⟨⟨bs,b⟩,hc2⟩:=I.readsAll n.2 r2 q2
   exact⟨⟨_,ReadsAll.cons a b⟩,by simp[D.toPs,Zxm,hc,hc2]⟩
end
end
noncomputable def rEqD(K:Zlh):R2:=fun x y H Q=>∃d e,Rep K H d x/\Rep K H e y/\d.nb=true/\e.nb=true/\d.dep<=60/\Q (.bl (decide (d=e))) H
noncomputable def rNeD(K:Zlh):R2:=fun x y H Q=>∃d e,Rep K H d x/\Rep K H e y/\d.nb=true/\e.nb=true/\d.dep<=60/\Q (.bl (!decide (d=e))) H
section
variable{X:Cx}
theorem ygu(hu:X.A.units+64<Zr6):OpR X (Zop .Eq) (rEqD X.K):=by
 intro pins s U H x y v u Q I rx ry h
 obtain⟨d,e,r1,r2,n1,n2,hd,q⟩:=h
 obtain⟨⟨as,a⟩,c1⟩:=I.reads n1 r1 rx
 obtain⟨⟨bs,b⟩,c2⟩:=I.reads n2 r2 ry
 have h1:=D.toP_depth d
 refine SeqAt.compareEq_reads a b c1 c2 (by lia) ?_
 rw[D.eqv d e n1 n2]
 exact⟨.bl _,H,I,rfl,q⟩
theorem zz3(hu:X.A.units+64<Zr6):OpR X (Zop .NotEq) (rNeD X.K):=by
 intro pins s U H x y v u Q I rx ry h
 obtain⟨d,e,r1,r2,n1,n2,hd,q⟩:=h
 obtain⟨⟨as,a⟩,c1⟩:=I.reads n1 r1 rx
 obtain⟨⟨bs,b⟩,c2⟩:=I.reads n2 r2 ry
 have h1:=D.toP_depth d
 refine SeqAt.compareNe_reads a b c1 c2 (by lia) ?_
 rw[D.eqv d e n1 n2]
 exact⟨.bl _,H,I,rfl,q⟩
theorem zpb(d:D)(hd:d.nb=true):∀ds:List D,D.nbs ds=true->((D.toPs ds).any fun y=>Zp5 y d.toP)=decide (d∈ds)
 | [],_=>by simp[D.toPs]
 | e::ds,h=>by
  simp only[D.nbs,Zmd] at h
  rw[D.toPs,Zp9,zpb d hd ds h.2,D.eqv e d h.1 hd]
  by_cases x:e=d
  .subst x;simp
  .have:¬ d=e:=fun z=>x z.symm
   simp[x,this]
noncomputable def rInD(K:Zlh)(neg:Bool):R2:=fun x y H Q=>∃d ds,Rep K H d x/\(Rep K H (.lst ds) y\/Rep K H (.tup ds) y)/\d.nb=true/\D.nbs ds=true/\d.dep<=60/\Q (.bl (if neg then !decide (d∈ds) else decide (d∈ds))) H
theorem zqq(hu:X.A.units+64<Zr6):OpR X (Zop .In) (rInD X.K false):=by
 intro pins s U H x y v u Q I rx ry h
 obtain⟨d,ds,r1,r2,n1,n2,hd,q⟩:=h
 obtain⟨⟨as,a⟩,c1⟩:=I.reads n1 r1 rx
 have h1:=D.toP_depth d
 have fin:EP X pins U Q (.bool ((D.toPs ds).any fun y=>Zp5 y d.toP)) s:=by rw[zpb d n1 ds n2];exact⟨.bl _,H,I,rfl,q⟩
 rcases r2 with r2 | r2
 .obtain⟨⟨bs,b⟩,c2⟩:=I.reads (by simpa[D.nb] using n2) r2 ry
  rw[D.toP] at b c2
  exact SeqAt.in_list_reads b a (by simpa[Zq2] using c2) c1 (by lia) fin
 .obtain⟨⟨bs,b⟩,c2⟩:=I.reads (by simpa[D.nb] using n2) r2 ry
  rw[D.toP] at b c2
  exact SeqAt.in_tuple_reads b a (by simpa[Zq2] using c2) c1 (by lia) fin
theorem zrw(hu:X.A.units+64<Zr6):OpR X (Zop .NotIn) (rInD X.K true):=by
 intro pins s U H x y v u Q I rx ry h
 obtain⟨d,ds,r1,r2,n1,n2,hd,q⟩:=h
 obtain⟨⟨as,a⟩,c1⟩:=I.reads n1 r1 rx
 have h1:=D.toP_depth d
 have fin:EP X pins U Q (.bool (!(D.toPs ds).any fun y=>Zp5 y d.toP)) s:=by rw[zpb d n1 ds n2];exact⟨.bl _,H,I,rfl,q⟩
 rcases r2 with r2 | r2
 .obtain⟨⟨bs,b⟩,c2⟩:=I.reads (by simpa[D.nb] using n2) r2 ry
  rw[D.toP] at b c2
  exact SeqAt.notIn_list_reads b a (by simpa[Zq2] using c2) c1 (by lia) fin
 .obtain⟨⟨bs,b⟩,c2⟩:=I.reads (by simpa[D.nb] using n2) r2 ry
  rw[D.toP] at b c2
  exact SeqAt.notIn_tuple_reads b a (by simpa[Zq2] using c2) c1 (by lia) fin
end
section
variable{K:Zlh}{G H0 L:Hp}{ss:List Sl}{t ta tb:TE}{d d1 d2:D}{ds es:List D}
theorem ygp(a:EvB K G H0 L ss ta d1)(b:EvB K G H0 L ss tb d2)(n1:d1.nb=true)(n2:d2.nb=true)(hd:d1.dep<=60):Ev K G H0 L ss (tOp (rEqD K) ta tb) (.bl (decide (d1=d2))) :=
 zen (w:=.bl (decide (d1=d2))) a b (fun H x y Q r1 r2 q=>⟨d1,d2,r1,r2,n1,n2,hd,q⟩) fun _ _ _ _ _ _=>Rep.bl
theorem ya6(a:EvB K G H0 L ss ta d1)(b:EvB K G H0 L ss tb d2)(n1:d1.nb=true)(n2:d2.nb=true)(hd:d1.dep<=60):Ev K G H0 L ss (tOp (rNeD K) ta tb) (.bl (!decide (d1=d2))) :=
 zen (w:=.bl (!decide (d1=d2))) a b (fun H x y Q r1 r2 q=>⟨d1,d2,r1,r2,n1,n2,hd,q⟩) fun _ _ _ _ _ _=>Rep.bl
theorem yk1(a:EvB K G H0 L ss ta d)(b:EvB K G H0 L ss tb (.lst ds))(n1:d.nb=true)(n2:D.nbs ds=true)(hd:d.dep<=60):Ev K G H0 L ss (tOp (rInD K false) ta tb) (.bl (decide (d∈ds))) :=
 zen (w:=.bl (decide (d∈ds))) a b (fun H x y Q r1 r2 q=>⟨d,ds,r1,.inl r2,n1,n2,hd,q⟩) fun _ _ _ _ _ _=>Rep.bl
theorem ya8(a:EvB K G H0 L ss ta d)(b:EvB K G H0 L ss tb (.tup ds))(n1:d.nb=true)(n2:D.nbs ds=true)(hd:d.dep<=60):Ev K G H0 L ss (tOp (rInD K false) ta tb) (.bl (decide (d∈ds))) :=
 zen (w:=.bl (decide (d∈ds))) a b (fun H x y Q r1 r2 q=>⟨d,ds,r1,.inr r2,n1,n2,hd,q⟩) fun _ _ _ _ _ _=>Rep.bl
theorem ztd(a:EvB K G H0 L ss ta d)(b:EvB K G H0 L ss tb (.tup ds))(n1:d.nb=true)(n2:D.nbs ds=true)(hd:d.dep<=60):Ev K G H0 L ss (tOp (rInD K true) ta tb) (.bl (!decide (d∈ds))) :=
 zen (w:=.bl (!decide (d∈ds))) a b (fun H x y Q r1 r2 q=>⟨d,ds,r1,.inr r2,n1,n2,hd,q⟩) fun _ _ _ _ _ _=>Rep.bl
end
theorem D.nbs_map{α:Type}{enc:α->D}(h:∀x,(enc x).nb=true):∀xs:List α,D.nbs (xs.map enc)=true
 | []=>rfl
 | x::xs=>by simp[D.nbs,h x,D.nbs_map h xs]
theorem D.deps_map{α:Type}{enc:α->D}{n:Nat}(h:∀x,(enc x).dep<=n):∀xs:List α,D.deps (xs.map enc)<=n
 | []=>Zmt _
 | x::xs=>by
  have h1:=h x
  have h2:=D.deps_map h xs
  simp only[Zl0,D.deps];lia
theorem D.nb_lst{ds:List D}:(D.lst ds).nb=D.nbs ds:=by rw[D.nb]
theorem D.dep_lst{ds:List D}:(D.lst ds).dep=D.deps ds+1:=by rw[D.dep]
noncomputable def ItOk(K:Zlh)(J:It)(F' H':Hp)(n:Nat)(y:Nat->D):Prop:=∀F2 H2,Same F' F2->Same H' H2->Same F2 H2 ->
 (∀i,i<n->J.go i H2 /\ ∀x H3,J.yld i H2 x H3-> ∃F3,Ext F2 H2 F3 H3/\Rep K F3 (y i) x)/\J.stop n H2
noncomputable def EvI(K:Zlh)(G H0 L:Hp)(ss:List Sl)(wi:TI)(n:Nat)(y:Nat->D):Prop:=∀F H U R,Sat K G H0 L F H U ss->(∀F' H' J,Ext F H F' H'->ItOk K J F' H' n y->R J H')->wi U H R
section
variable{K:Zlh}{G H0 L:Hp}{ss:List Sl}
theorem zvc{tl:TE}{ds:List D}(a:EvL K G H0 L ss tl ds):EvI K G H0 L ss (zuu K tl) ds.length fun i=>ds.getD i .non:=fun F H U R S q =>
 a F H U _ S fun p vs F' H' e sq r=>⟨p,rfl,⟨vs,sq⟩,q F' H' _ e fun F2 H2 f1 h1 fh=>by
  have sq2:=SqL.same h1 sq
  have hl:=r.length
  refine⟨fun i hi=>⟨⟨vs,vs[i]'(by lia),sq2,Zlj _⟩,fun x H3 y=>?_⟩,⟨vs,sq2,by lia⟩⟩
  obtain⟨rfl,y⟩:=y
  obtain⟨d,hd,rd⟩:=r.get (y vs sq2)
  refine⟨F2,Ext.refl fh,?_⟩
  show Rep K F2 (ds.getD i D.non) x
  rw[Zlk,hd]
  exact rd.mono f1⟩
theorem yi6{tl:TE}{l:List Nat}(a:EvB K G H0 L ss tl (.str l)):EvI K G H0 L ss (iStr tl) l.length fun i=>.str [l.getD i 0]:=fun F H U R S q =>
 a F H U _ S fun v F' H' e r=>by
  have ha:=r.asc
  rw[r.of_str]
  refine⟨T l,rfl,q F' H' _ e fun F2 H2 f1 h1 fh=>?_⟩
  have ez:(T l).cps.toList=l:=zet l
  refine⟨fun i hi=>⟨by show i<_;rw[ez];exact hi,fun x H3 y=>?_⟩,by show _<=_;rw[ez];exact Zlt _⟩
  obtain⟨rfl,c,hc,rfl⟩:=y
  rw[ez] at hc
  refine⟨F2,Ext.refl fh,?_⟩
  have:l.getD i 0=c:=by rw[Zlk,hc];rfl
  show Rep K F2 (D.str [l.getD i 0]) _
  rw[this]
  exact Rep.str fun c' h'=>by rw[Zlz.mp h'];exact ha c (Zlv hc)
noncomputable def lcSl(nt:Nat)(cs:List Nat)(ss:List Sl):List Sl:=Ztn nt .un++cs.map fun i=>ss.getD i .un
theorem Sat.lc{F H:Hp}{U:St}{nt:Nat}{cs:List Nat}(S:Sat K G H0 L F H U ss)(hc:cs.Nodup):Sat K G H0 L F H (lcS nt cs U) (lcSl nt cs ss):=by
 have cut:∀(i:Nat) s,(lcSl nt cs ss)[i]? = some s->s= .un \/ ∃j,nt<=i/\cs[i - nt]? = some j/\ss[j]? = some s:=by
  intro i s h
  unfold lcSl at h
  by_cases hi:i<nt
  .rw[Zn4 (by simpa using hi),Zqt,if_pos hi] at h
   exact .inl (Zni h).symm
  .rw[Znx (by simpa using hi),Zrg,Zlx] at h
   cases hj:cs[i - nt]? with
   | none=>rw[hj] at h;cases h
   | some j =>
    rw[hj] at h
    have h:ss.getD j .un=s:=Zni h
    rw[Zlk] at h
    cases hs:ss[j]? with
    | none=>rw[hs] at h;exact .inl h.symm
    | some s'=>rw[hs] at h;exact .inr ⟨j,by lia,rfl,by rw[hs];exact congrArg some h⟩
 have val:∀(i j:Nat),nt<=i->cs[i - nt]? = some j->(lcS nt cs U).getD i none=U.getD j none:=by
  intro i j hi hj
  unfold lcS
  rw[Zlk,Znx (by simpa using hi),Zrg,Zlx,hj]
  simp[Zlk]
 refine⟨S.ext,S.fl,by unfold lcS lcSl;simp,fun i s h=>?_,fun i s h=>?_,fun i j s s' hij h h' p hp=>?_⟩
 .rcases cut i s h with rfl | ⟨j,hi,hj,hs⟩
  .trivial
  .rw[val i j hi hj];exact S.ok j s hs
 .rcases cut i s h with rfl | ⟨j,hi,hj,hs⟩
  .simp[Sl.ads]
  .exact S.nd j s hs
 .rcases cut i s h with rfl | ⟨k,hi,hk,hs⟩
  .simp[Sl.ads] at hp
  .rcases cut j s' h' with rfl | ⟨m,hj,hm,hs'⟩
   .simp[Sl.ads]
   .have:k≠m:=fun z=>by
     subst z
     obtain⟨l1,e1⟩:=Zlq.mp hk
     obtain⟨l2,e2⟩:=Zlq.mp hm
     have:=(Zy8 hc).mp (e1.trans e2.symm)
     lia
    exact S.ne k m s s' this hs hs' p hp
noncomputable def GK(nt:Nat)(g:TG):Prop:=∀v U H (Q Q':St->Hp->Prop),(∀U' H',Q U' H'->U'.length=U.length->U'.drop nt=U.drop nt->Q' U' H')->g v U H Q->g v U H Q'
noncomputable def GKs(nt:Nat)(g:TGs):Prop:=∀v U H (Q Q':St->Hp->Prop),(∀U' H',Q U' H'->U'.length=U.length->U'.drop nt=U.drop nt->Q' U' H')->g v U H Q->g v U H Q'
theorem zbo{nt i:Nat}(h:i<nt):GK nt (zin i):=fun v U H Q Q' f q=>f _ _ q (by simp) (by rw[List.drop_set_of_lt h])
theorem ztp{nt:Nat}:GKs nt gNil:=fun v U H Q Q' f q=>⟨q.1,f _ _ q.2 rfl rfl⟩
theorem zim{nt:Nat}{g:TG}{gs:TGs}(a:GK nt g)(b:GKs nt gs):GKs nt (yhg g gs):=fun vs U H Q Q' f q=>by
 obtain⟨v,r,e,q⟩:=q
 exact⟨v,r,e,a v U H _ _ (fun U' H' q1 l1 d1=>b r U' H' Q Q' (fun U'' H'' q2 l2 d2=>f _ _ q2 (l2.trans l1) (d2.trans d1)) q1) q⟩
theorem yau{nt n:Nat}{gs:TGs}(b:GKs nt gs):GK nt (gTup K n gs):=fun v U H Q Q' f q=>by
 obtain⟨a,xs,e,sq,hn,q⟩:=q
 exact⟨a,xs,e,sq,hn,b xs U H Q Q' f q⟩
theorem zox{wi:TI}{g:TG}{tt:TT}{te:TE}{nt:Nat}{cs:List Nat}{n:Nat}{y:Nat->D}(p:Nat->Bool)(f:Nat->D)(a:EvI K G H0 L ss wi n y)(hk:GK nt g)(hc:cs.Nodup)(hz:n<sizeLine)
  (hs:∀i,i<n-> ∃ss',Tg K G H0 L g (y i) (lcSl nt cs ss) ss'/\EvT K G H0 L ss' tt (p i)/\(p i=true->Ev K G H0 L ss' te (f i))) :
  EvO K G H0 L ss (tLC nt cs wi g tt te) (((Zl6 n).filter p).map f):=fun F H U Q S q =>
 a F H U _ S fun F1 H1 J e1 it=>by
  intro l hl
  have S1:=S.ext2 e1
  refine⟨fun i m H2=>m=n - i/\i<=n /\ ∃F2 vs,Ext F1 H1 F2 H2/\F2 l=none/\H2 l=some (.lst vs)/\Reps K F2 (((Zl6 i).filter p).map f) vs/\vs.length<=i,
   ⟨n,by lia,Zmt _,F1,[],(Ext.refl e1.fh).newO hl,e1.fh.free hl,zal,Reps.nil,Zlt _⟩,?_⟩
  rintro i m H2 ⟨rfl,hi,F2,vs,e2,fl,hl2,rs,hvs⟩
  obtain⟨it1,it2⟩:=it F2 H2 e2.gf e2.hh e2.fh
  by_cases hlt:i<n
  .obtain⟨go,yl⟩:=it1 i hlt
   refine .inr ⟨go,fun H'=>∃F2 vs,Ext F1 H1 F2 H'/\F2 l=none/\H' l=some (.lst vs)/\Reps K F2 (((Zl6 (i+1)).filter p).map f) vs/\vs.length<=i+1,fun H' h=>⟨n - (i+1),by omega,rfl,hlt,h⟩,fun x H3 yx=>?_⟩
   obtain⟨F3,e3,rx⟩:=yl x H3 yx
   obtain⟨ss',tg,evt,ev⟩:=hs i hlt
   have S3:=((S1.ext2 e2).ext2 e3).lc (nt:=nt) hc
   have hl3:H3 l=some (.lst vs):=e3.hh l _ hl2
   have fl3:F3 l=none:=(e3.no l _ hl2 trivial).trans fl
   have base:=tg F3 H3 (lcS nt cs U) x (fun U2 H4=>H4=H3/\Sat K G H0 L F3 H3 U2 ss') S3 rx fun U' S'=>⟨rfl,S'⟩
   have fin:∀U2,Sat K G H0 L F3 H3 U2 ss'->tt U2 H3 fun b H5=>if b=true then te U2 H5 fun y H6=>∃xs,H6 l=some (.lst xs)/\xs.length<sizeLine/\(∃F2 vs,Ext F1 H1 F2 (upd H6 l (.lst (xs++[y])))/\F2 l=none/\(upd H6 l (.lst (xs++[y]))) l=some (.lst vs)/\Reps K F2 (((Zl6 (i+1)).filter p).map f) vs/\vs.length<=i+1) else ∃F2 vs,Ext F1 H1 F2 H5/\F2 l=none/\H5 l=some (.lst vs)/\Reps K F2 (((Zl6 (i+1)).filter p).map f) vs/\vs.length<=i+1:=fun U2 S2=>by
    refine evt F3 H3 U2 _ S2 fun F5 H5 e5=>?_
    have S5:=S2.ext2 e5
    have hl5:H5 l=some (.lst vs):=e5.hh l _ hl3
    have fl5:F5 l=none:=(e5.no l _ hl3 trivial).trans fl3
    have gf:Same F2 F5:=e3.gf.trans e5.gf
    cases hp:p i with
    | false =>
     refine iteF ⟨F5,vs,(e2.trans e3).trans e5,fl5,hl5,?_,by lia⟩
     rw[Zo3,Zp3,Zpx,hp]
     simpa using rs.mono gf
    | true =>
     refine iteT (ev hp F5 H5 U2 _ S5 fun v F6 H6 e6 rv=>?_)
     have hl6:H6 l=some (.lst vs):=e6.hh l _ hl5
     have fl6:F6 l=none:=(e6.no l _ hl5 trivial).trans fl5
     refine⟨vs,hl6,by lia,F6,vs++[v],(((e2.trans e3).trans e5).trans e6).write fl6 hl,fl6,zal,?_,by simp;omega⟩
     rw[Zo3,Zp3,Zpx,hp,if_pos rfl,Znc]
     exact(rs.mono (gf.trans e6.gf)).snoc rv
   refine hk x (lcS nt cs U) H3 _ _ (fun U2 H4 h l1 d1=>?_) base
   obtain⟨rfl,S2⟩:=h
   exact⟨⟨by rw[l1];unfold lcS;simp,d1⟩,fin U2 S2⟩
  .have e:i=n:=by lia
   subst e
   exact .inl ⟨it2,q l vs F2 H2 (e1.trans e2) (e1.hh.free hl) fl hl2 rs⟩
end
end L2
namespace L2
open PySem PySem.W PyProof.Rows
noncomputable def runT{α:Type}(lt:Nat->Nat->Bool):KasT α->α
 | .ret a=>a
 | .ask i j k=>runT lt (k (lt i j))
theorem zf6{α β:Type}(lt:Nat->Nat->Bool)(f:α->KasT β):∀t:KasT α,runT lt (t.bind f)=runT lt (f (runT lt t))
 | .ret _=>rfl
 | .ask i j k=>zf6 lt f (k (lt i j))
section
variable(key:Nat->Int)
noncomputable def ltK(i j:Nat):Bool:=decide (key i<key j)
noncomputable def kk(p:Array Nat)(i:Nat):Int:=key (p.getD i 0)
noncomputable def Up(p:Array Nat)(n:Nat):Prop:=∀i j,i<=j->j<n->kk key p i<=kk key p j
noncomputable def Dn(p:Array Nat)(n:Nat):Prop:=∀i j,i<=j->j<n->kk key p j<=kk key p i
variable{key}
theorem yl2(p:Array Nat):Up key p 1:=fun i j h1 h2=>by
 have:i=j:=by lia
 subst this;exact Zr3 _
theorem Up.snoc{p:Array Nat}{n:Nat}(h:Up key p n)(h0:0<n)(hn:kk key p (n - 1)<=kk key p n):Up key p (n+1):=fun i j h1 h2=>by
 by_cases hj:j<n
 .exact h i j h1 hj
 .have:j=n:=by lia
  subst this
  by_cases hi:i=j
  .subst hi;exact Zr3 _
  .exact Zu2 (h i (j - 1) (by lia) (by omega)) hn
theorem Dn.snoc{p:Array Nat}{n:Nat}(h:Dn key p n)(h0:0<n)(hn:kk key p n<=kk key p (n - 1)):Dn key p (n+1):=fun i j h1 h2=>by
 by_cases hj:j<n
 .exact h i j h1 hj
 .have:j=n:=by lia
  subst this
  by_cases hi:i=j
  .subst hi;exact Zr3 _
  .exact Zu2 hn (h i (j - 1) (by lia) (by omega))
theorem zut(p:Array Nat):∀(f n:Nat),0<n->Up key p n->n<=runT (ltK key) (kas_asc p f n)/\runT (ltK key) (kas_asc p f n)<=n+f/\Up key p (runT (ltK key) (kas_asc p f n)) /\
  (runT (ltK key) (kas_asc p f n)<n+f->kk key p (runT (ltK key) (kas_asc p f n))<kk key p (runT (ltK key) (kas_asc p f n) - 1))
 | 0,n,h0,h=>⟨Zlt _,Zlt _,h,fun z=>absurd z (Znn _)⟩
 | f+1,n,h0,h=>by
  have e0:runT (ltK key) (kas_asc p (f+1) n)=if kk key p n<kk key p (n - 1) then n else runT (ltK key) (kas_asc p f (n+1)):=by
   show runT (ltK key) (if ltK key (p.getD n 0) (p.getD (n - 1) 0)=true then KasT.ret n else kas_asc p f (n+1))=_
   by_cases hc:kk key p n<kk key p (n - 1)
   .have e:ltK key (p.getD n 0) (p.getD (n - 1) 0)=true:=decide_eq_true hc
    rw[e,if_pos rfl,if_pos hc];rfl
   .have e:ltK key (p.getD n 0) (p.getD (n - 1) 0)=false:=decide_eq_false hc
    rw[e,if_neg Zmc,if_neg hc]
  rw[e0]
  by_cases hc:kk key p n<kk key p (n - 1)
  .rw[if_pos hc]
   exact⟨Zlt _,by lia,h,fun _=>hc⟩
  .rw[if_neg hc]
   have:=zut p f (n+1) (by lia) (h.snoc h0 (by lia))
   exact⟨by lia,by lia,this.2.2.1,fun z=>this.2.2.2 (by omega)⟩
theorem zvd{p:Array Nat}{i j:Nat}(hj:j<=p.size)(k:Nat):(kas_rev p i j).getD k 0=if i<=k/\k<j then p.getD (i+j - 1 - k) 0 else p.getD k 0:=by
 have h:=getElem?_mirror_all (xs:=p) (i:=i) hj k
 unfold kas_rev
 have e:∀(q:Array Nat) (m:Nat),q.getD m 0=(q[m]?).getD 0:=fun q m=>by simp[Znr]
 rw[e,e,e,h]
 split <;> rfl
theorem zhb(p:Array Nat)(i j:Nat):(kas_rev p i j).size=p.size:=mirror_size _ _ _ _
theorem zls(p:Array Nat)(i j:Nat):(kas_rev p i j).Perm p:=mirror_perm _ _ _ _
theorem ziy{p:Array Nat}{i j:Nat}(hj:j<=p.size){c:Int}(hc:∀k,i<=k->k<j->kk key p k=c)(k:Nat):kk key (kas_rev p i j) k=kk key p k:=by
 unfold kk
 rw[zvd hj]
 split
 .rename_i h
  have h1:=hc (i+j - 1 - k) (by omega) (by omega)
  have h2:=hc k h.1 h.2
  unfold kk at h1 h2
  rw[h1,h2]
 .rfl
theorem zoa{p:Array Nat}{n:Nat}(hn:n<=p.size)(k:Nat)(hk:k<n):kk key (kas_rev p 0 n) k=kk key p (n - 1 - k):=by
 unfold kk
 rw[zvd hn,if_pos ⟨Zmt _,hk⟩,show 0+n - 1 - k=n - 1 - k by lia]
theorem Dn.rev{p:Array Nat}{n:Nat}(h:Dn key p n)(hn:n<=p.size):Up key (kas_rev p 0 n) n:=fun i j h1 h2=>by
 rw[zoa hn i (by lia),zoa hn j h2]
 exact h _ _ (by omega) (by omega)
theorem zlx:∀(f:Nat) (p:Array Nat) (n q:Nat),0<n->q<n->n+f<=p.size->Dn key p n->(∀k,n - 1 - q<=k->k<n->kk key p k=kk key p (n - 1)) ->
  ∃p' n' q',runT (ltK key) (kas_desc f p n q)=(p',n',q')/\p'.size=p.size/\p'.Perm p/\n<=n'/\n'<=n+f/\q'<n'/\Dn key p' n'/\(∀k,n' - 1 - q'<=k->k<n'->kk key p' k=kk key p' (n' - 1))
 | 0,p,n,q,h0,hq,hs,hd,he=>⟨p,n,q,rfl,rfl,Zrh _,Zlt _,Zlt _,hq,hd,he⟩
 | f+1,p,n,q,h0,hq,hs,hd,he=>by
  unfold kas_desc
  simp only[runT]
  by_cases hc:kk key p n<kk key p (n - 1)
  .have e:ltK key (p.getD n 0) (p.getD (n - 1) 0)=true:=decide_eq_true hc
   rw[e,if_pos rfl]
   by_cases hq0:q>0
   .rw[if_pos hq0]
    have ks:=ziy (key:=key) (p:=p) (i:=n - (q+1)) (j:=n) (by lia) (c:=kk key p (n - 1)) (fun k h1 h2=>he k (by lia) h2)
    have hd':Dn key (kas_rev p (n - (q+1)) n) (n+1):=by
     intro i j h1 h2
     rw[ks,ks]
     exact(hd.snoc h0 (Zu3 hc)) i j h1 h2
    obtain⟨p',n',q',e1,e2,e3,e4,e5,e6,e7,e8⟩:=zlx f (kas_rev p (n - (q+1)) n) (n+1) 0 (by lia) (by lia) (by rw[zhb];lia) hd' (fun k h1 h2=>by
     have:k=n+1 - 1:=by lia
     rw[this])
    exact⟨p',n',q',e1,by rw[e2,zhb],e3.trans (zls _ _ _),by lia,by lia,e6,e7,e8⟩
   .rw[if_neg hq0]
    obtain⟨p',n',q',e1,e2,e3,e4,e5,e6,e7,e8⟩:=zlx f p (n+1) 0 (by lia) (by lia) (by lia) (hd.snoc h0 (Zu3 hc)) (fun k h1 h2=>by
     have:k=n+1 - 1:=by lia
     rw[this])
    exact⟨p',n',q',e1,e2,e3,by lia,by lia,e6,e7,e8⟩
  .have e:ltK key (p.getD n 0) (p.getD (n - 1) 0)=false:=decide_eq_false hc
   rw[e,if_neg Zmc]
   simp only[runT]
   by_cases hd2:kk key p (n - 1)<kk key p n
   .have e2:ltK key (p.getD (n - 1) 0) (p.getD n 0)=true:=decide_eq_true hd2
    rw[e2,if_pos rfl]
    exact⟨p,n,q,rfl,rfl,Zrh _,Zlt _,by lia,hq,hd,he⟩
   .have e2:ltK key (p.getD (n - 1) 0) (p.getD n 0)=false:=decide_eq_false hd2
    rw[e2,if_neg Zmc]
    have heq:kk key p n=kk key p (n - 1):=by lia
    obtain⟨p',n',q',e1,e2,e3,e4,e5,e6,e7,e8⟩:=zlx f p (n+1) (q+1) (by lia) (by lia) (by lia) (hd.snoc h0 (by lia)) (fun k h1 h2=>by
     by_cases hk:k=n
     .subst hk;rfl
     .rw[he k (by lia) (by lia)];exact heq.symm)
    exact⟨p',n',q',e1,e2,e3,by lia,by lia,e6,e7,e8⟩
noncomputable def Good(key:Nat->Int)(p:Array Nat)(nrem:Nat)(r:Nat×Array Nat):Prop:=1<=r.1/\r.1<=nrem/\r.2.size=p.size/\r.2.Perm p/\Up key r.2 r.1
theorem zv5{p:Array Nat}{n nrem:Nat}(h0:0<n)(hn:n<=nrem)(hs:nrem<=p.size)(hd:Dn key p n):Good key p nrem (runT (ltK key) (kas_tail3 n nrem p)):=by
 unfold kas_tail3
 rw[zf6]
 simp only[runT]
 have:=zut (key:=key) (kas_rev p 0 n) (nrem - n) n h0 (hd.rev (by lia))
 refine⟨?_,?_,zhb _ _ _,zls _ _ _,this.2.2.1⟩
 .show 1<=runT (ltK key) (kas_asc (kas_rev p 0 n) (nrem - n) n);lia
 .show runT (ltK key) (kas_asc (kas_rev p 0 n) (nrem - n) n)<=nrem;lia
theorem Good.perm{p q:Array Nat}{nrem:Nat}{r:Nat×Array Nat}(h:Good key p nrem r)(hp:p.Perm q)(hs:p.size=q.size):Good key q nrem r:=⟨h.1,h.2.1,h.2.2.1.trans hs,h.2.2.2.1.trans hp,h.2.2.2.2⟩
theorem zkp{p:Array Nat}{n nrem:Nat}(h0:0<n)(hn:n<nrem)(hs:nrem<=p.size)(hd:Dn key p (n+1)):Good key p nrem (runT (ltK key) (kas_descPart n nrem p)):=by
 unfold kas_descPart
 rw[zf6]
 obtain⟨p',n',q',e1,e2,e3,e4,e5,e6,e7,e8⟩:=zlx (key:=key) (nrem - (n+1)) p (n+1) 0 (by lia) (by lia) (by lia) hd (fun k h1 h2=>by
  have:k=n+1 - 1:=by lia
  rw[this])
 rw[e1]
 dsimp only
 by_cases hq:q'>0
 .rw[if_pos hq]
  have ks:=ziy (key:=key) (p:=p') (i:=n' - (q'+1)) (j:=n') (by lia) (c:=kk key p' (n' - 1)) (fun k h1 h2=>e8 k (by lia) h2)
  refine(zv5 (p:=kas_rev p' (n' - (q'+1)) n') (by lia) (by omega) (by rw[zhb];lia) ?_).perm ((zls _ _ _).trans e3) (by rw[zhb,e2])
  intro i j h1 h2
  rw[ks,ks];exact e7 i j h1 h2
 .rw[if_neg hq]
  exact(zv5 (by lia) (by omega) (by lia) e7).perm e3 e2
theorem zza{p:Array Nat}{nrem:Nat}(h1:1<=nrem)(hs:nrem<=p.size):Good key p nrem (runT (ltK key) (kas_count nrem p)):=by
 unfold kas_count
 rw[zf6]
 have a:=zut (key:=key) p (nrem - 1) 1 (by lia) (yl2 p)
 generalize runT (ltK key) (kas_asc p (nrem - 1) 1)=n at a
 obtain⟨a1,a2,a3,a4⟩:=a
 by_cases hn:n=nrem
 .subst hn
  rw[if_pos (by simp)]
  exact⟨a1,Zlt _,rfl,Zrh _,a3⟩
 .rw[if_neg (by simpa using hn)]
  have hlt:n<nrem:=by lia
  have dd:=a4 (by lia)
  by_cases h2:n>1
  .rw[if_pos h2]
   simp only[runT]
   by_cases hc:kk key p 0<kk key p (n - 1)
   .have e:ltK key (p.getD 0 0) (p.getD (n - 1) 0)=true:=decide_eq_true hc
    rw[e,if_pos rfl]
    exact⟨a1,by show n<=nrem;lia,rfl,Zrh _,a3⟩
   .have e:ltK key (p.getD 0 0) (p.getD (n - 1) 0)=false:=decide_eq_false hc
    rw[e,if_neg Zmc]
    have same:∀k,0<=k->k<n->kk key p k=kk key p 0:=fun k _ hk=>by
     have:=a3 0 k (by omega) hk
     have:=a3 k (n - 1) (by lia) (by lia)
     lia
    have ks:=ziy (key:=key) (p:=p) (i:=0) (j:=n) (by lia) same
    refine(zkp (p:=kas_rev p 0 n) (by lia) hlt (by rw[zhb];exact hs) ?_).perm (zls _ _ _) (zhb _ _ _)
    intro i j hi hj
    rw[ks,ks]
    by_cases hjn:j<n
    .rw[same j (by lia) hjn,same i (by lia) (by lia)];exact Zr3 _
    .have:j=n:=by lia
     subst this
     by_cases hij:i=j
     .subst hij;exact Zr3 _
     .rw[same i (by lia) (by lia),<- same (j - 1) (by lia) (by lia)];lia
  .rw[if_neg h2]
   have:n=1:=by lia
   subst this
   refine zkp (by lia) hlt hs ?_
   intro i j hi hj
   by_cases hij:i=j
   .subst hij;exact Zr3 _
   .have h0:i=0:=by lia
    have h1':j=1:=by lia
    subst h0 h1'
    have:kk key p 1<kk key p (1 - 1):=dd
    simpa using Zu3 this
theorem zms{p:Array Nat}{k:Nat}(hu:Up key p k):∀(f l r:Nat),l<=r->r<=k->r - l<=f->(∀i,i<l->kk key p i<=kk key p k)->(∀i,r<=i->i<k->kk key p k<=kk key p i) ->
  runT (ltK key) (kas_place p k f l r)<=k/\(∀i,i<runT (ltK key) (kas_place p k f l r)->kk key p i<=kk key p k)/\(∀i,runT (ltK key) (kas_place p k f l r)<=i->i<k->kk key p k<=kk key p i)
 | 0,l,r,h1,h2,h3,h4,h5=>by
  have:l=r:=by lia
  subst this
  exact⟨by simp[kas_place,runT];omega,h4,h5⟩
 | f+1,l,r,h1,h2,h3,h4,h5=>by
  unfold kas_place
  by_cases hlr:l ≥ r
  .have:l=r:=by lia
   subst this
   rw[if_pos hlr]
   exact⟨h2,h4,h5⟩
  .rw[if_neg hlr]
   simp only[runT]
   by_cases hc:kk key p k<kk key p ((l+r) / 2)
   .have e:ltK key (p.getD k 0) (p.getD ((l+r) / 2) 0)=true:=decide_eq_true hc
    rw[e,if_pos rfl]
    exact zms hu f l ((l+r) / 2) (by lia) (by lia) (by omega) h4 (fun i hi hk=>Zu2 (Zu3 hc) (hu _ _ hi hk))
   .have e:ltK key (p.getD k 0) (p.getD ((l+r) / 2) 0)=false:=decide_eq_false hc
    rw[e,if_neg Zmc]
    exact zms hu f ((l+r) / 2+1) r (by lia) h2 (by omega) (fun i hi=>Zu2 (hu i ((l+r) / 2) (by lia) (by lia)) (by lia)) h5
theorem yec{p:Array Nat}{k d:Nat}(hk:k<p.size)(hd:d<=k)(i:Nat):(bubble p k d).getD i 0=if i=k - d then p.getD k 0 else if k - d<i/\i<=k then p.getD (i - 1) 0 else p.getD i 0:=by
 have h:=getElem?_bubble hk d hd i
 have e:∀(q:Array Nat) (m:Nat),q.getD m 0=(q[m]?).getD 0:=fun q m=>by simp[Znr]
 rw[e,e,e,e,h]
 split
 .rfl
 .split <;> rfl
theorem yax : ∀ (f : Nat) (p : Array Nat) (k : Nat), k + f <= p.size -> Up key p k -> (runT (ltK key) (kas_bin f p k)).size = p.size /\ (runT (ltK key) (kas_bin f p k)).Perm p /\ Up key (runT (ltK key) (kas_bin f p k)) (k + f)
 | 0,p,k,h,hu=>⟨rfl,Zrh _,hu⟩
 | f+1,p,k,h,hu=>by
  unfold kas_bin
  rw[zf6]
  obtain⟨g1,g2,g3⟩:=zms hu k 0 k (Zmt _) (Zlt _) (by lia) (fun i hi=>absurd hi (Nat.not_lt_zero _)) (fun i h1 h2=>by lia)
  generalize runT (ltK key) (kas_place p k k 0 k)=l at g1 g2 g3
  have hb:∀i,kk key (bubble p k (k - l)) i=if i=l then kk key p k else if l<i/\i<=k then kk key p (i - 1) else kk key p i:=fun i=>by
   unfold kk
   rw[yec (by lia) (by lia),show k - (k - l)=l by lia]
   split
   .rfl
   .split <;> rfl
  have hu':Up key (bubble p k (k - l)) (k+1):=by
   intro i j hij hj
   rw[hb,hb]
   by_cases hi1:i=l
   .rw[if_pos hi1]
    by_cases hj1:j=l
    .rw[if_pos hj1];exact Zr3 _
    .rw[if_neg hj1,if_pos ⟨by lia,by lia⟩]
     exact g3 (j - 1) (by lia) (by lia)
   .rw[if_neg hi1]
    by_cases hi2:l<i/\i<=k
    .rw[if_pos hi2]
     rw[if_neg (by lia),if_pos ⟨by lia,by lia⟩]
     exact hu _ _ (by omega) (by lia)
    .rw[if_neg hi2]
     have hil:i<l:=by lia
     by_cases hj1:j=l
     .rw[if_pos hj1];exact g2 i hil
     .rw[if_neg hj1]
      by_cases hj2:l<j/\j<=k
      .rw[if_pos hj2];exact hu _ _ (by lia) (by lia)
      .rw[if_neg hj2];exact hu _ _ hij (by lia)
  obtain⟨b1,b2,b3⟩:=yax f (bubble p k (k - l)) (k+1) (by rw[bubble_size];lia) hu'
  exact⟨by rw[b1,bubble_size],b2.trans (bubble_perm _ _ _),by rw[show k+(f+1)=k+1+f by lia];exact b3⟩
theorem yd3{n:Nat}(h:1<=n):(runT (ltK key) (kas_sort n)).size=n/\(runT (ltK key) (kas_sort n)).Perm (Zl6 n).toArray/\Up key (runT (ltK key) (kas_sort n)) n:=by
 unfold kas_sort
 rw[zf6]
 have hsz:(Zuq (Zl6 n)).size=n:=by simp
 obtain⟨c1,c2,c3,c4,c5⟩:=zza (key:=key) (p:=Zuq (Zl6 n)) h (by rw[hsz];exact Zlt _)
 generalize runT (ltK key) (kas_count n (Zuq (Zl6 n)))=r at c1 c2 c3 c4 c5
 obtain⟨m,p⟩:=r
 dsimp only at c1 c2 c3 c4 c5 ⊢
 rw[hsz] at c3
 by_cases hm:m<n
 .rw[if_pos hm]
  have e:max m 1=m:=by lia
  rw[e]
  obtain⟨b1,b2,b3⟩:=yax (key:=key) (n - m) p m (by lia) c5
  exact⟨by rw[b1,c3],b2.trans c4,by rw[show n=m+(n - m) by lia];rw[show m+(n - m) - m=n - m by lia];exact b3⟩
 .rw[if_neg hm]
  have:m=n:=by lia
  subst this
  exact⟨c3,c4,c5⟩
end
section
variable{prog:Zmi}{w:Zng}{A:Zmu}{E:Zll->Zlo->Prop}{s:Zlo}
noncomputable def zjp(h h':Heap):Prop:=∀b o,h.get? b=some o->h'.get? b=some o
noncomputable def ybs(prog:Zmi)(w:Zng)(A:Zmu)(s:Zlo)(vs:List Zll)(Out:Array Zll->Prop):Prop :=
 ∃κ,(∀(Q:Yah->Zlo->Prop) (E:Zll->Zlo->Prop),Q κ s->Zl8 (Zmh prog w) A (Yde vs.toArray) Q E s) /\
  ∀(Q:Ycn->Zlo->Prop) (E:Zll->Zlo->Prop),(∀st',Ydg st'=none->(Zx2 st').size=vs.length->Out ((Zx2 st').map (·.2))->Q st' s)->Zl8 (Zmh prog w) A (sortRuns'.run (Zxk κ (vs.toArray.zip vs.toArray) #[] 7 none)) (fun r s'=>Q r.2 s') E s
theorem zn9{a:Addr}{vs:List Zll}{n0:Nat}{P:Zy1->Zlo->Prop}(Out:Array Zll->Prop)(ho:s.heap.get? a=some (Zu5 "list" vs.toArray n0))(hz:vs.length<=sizeLine)
  (hs:2<=vs.length-> ∀h',(∀b o,b≠a->s.heap.get? b=some o->h'.get? b=some o)->ybs prog w A { s with heap:=h' } vs Out) (h1:vs.length<2->Out vs.toArray)
  (h:∀out c h',(∀b o,b≠a->s.heap.get? b=some o->h'.get? b=some o)->h'.get? a=some (Zu5 "list" out c)->out.size=vs.length->Out out->P (.done (.ret .none)) { s with heap:=h' }) :
  Zl8 (Zmh prog w) A (Zmz.«list.sort» ⟨[.ref a],[]⟩) P E s:=by
 have alt:a<s.heap.objs.size:=Zl4 ho
 rw[list_sort_plain]
 refine Zli (listItems_at ho rfl ?_)
 refine Zli (Zxy ho rfl ?_ (by simpa using hz) (Zmt _))
 generalize hg1:s.heap.update a (Zqp fun _=>(#[]:Array Zll))=g1
 have k1:∀b o,b≠a->s.heap.get? b=some o->g1.get? b=some o:=fun b o hb e=>by rw[<- hg1];exact(Znp _ _ (Zne hb)).trans e
 obtain⟨e1,ho1⟩:∃e1,g1.get? a=some (Zu5 "list" #[] e1):=by rw[<- hg1];exact⟨_,Yck ho fun _=>#[]⟩
 have sz1:g1.objs.size=s.heap.objs.size:=by rw[<- hg1,Zza]
 refine Zli (Zzp ho1 rfl ?_)
 refine Zli (wpAny_newTuple ?_ (by show vs.length<=_;exact hz))
 refine Zli (Zxt ?_ (Zmt _))
 refine Zos ?_
 dsimp only
 generalize hg3:(g1.push { cls:=.type "tuple", data:=.seq vs.toArray }).push { cls:=.type "list", data:=.seq #[] }=g3
 have k3:∀b o,g1.get? b=some o->g3.get? b=some o:=fun b o e=>by rw[<- hg3];exact Zlu _ (Zlu _ e)
 have ho3:=k3 a _ ho1
 have keep:∀b o,b≠a->s.heap.get? b=some o->g3.get? b=some o:=fun b o hb e=>k3 b o (k1 b o hb e)
 have fin:∀(st':Ycn),Ydg st'=none->(Zx2 st').size=vs.length->Out ((Zx2 st').map (·.2))->P (.done (.ret .none)) { s with heap:=g3.update a (Zqp fun _=>(Zx2 st').map (·.2)) }:=fun st' hf hsz hO=>by
  obtain⟨c2,hc2⟩:∃c2,(g3.update a (Zqp fun _=>(Zx2 st').map (·.2))).get? a=some (Zu5 "list" ((Zx2 st').map (·.2)) c2):=⟨_,Yck ho3 fun _=>(Zx2 st').map (·.2)⟩
  exact h _ c2 _ (fun b o hb e=>(Znp _ _ (Zne hb)).trans (keep b o hb e)) hc2 (by simpa using hsz) hO
 have hsz:vs.toArray.size=vs.length:=by simp
 by_cases h2:vs.length<2
 .rw[if_pos (by omega),if_pos (by omega)]
  refine Zli (Zln ?_)
  rw[StateT.run_pure]
  refine Zli (Zln ?_)
  have eo:(Zx2 (Zxk general' (vs.toArray.zip vs.toArray) #[] 7 none)).map (·.2)=vs.toArray:=by
   show(vs.toArray.zip vs.toArray).map (·.2)=vs.toArray
   apply Zss.mp
   rw[Zyo]
   have:(vs.toArray.zip vs.toArray).toList=vs.zip vs:=by simp
   rw[this]
   simp[List.map_snd_zip]
  dsimp only
  refine Zli (Zzp ho3 rfl ?_)
  refine Zli (Zxy ho3 rfl ?_ (Zmt _) (by rw[eo];simp only[Zmq];lia))
  simp only[bne_self_eq_false,Zl5,if_false]
  exact Zln (fin (Zxk general' (vs.toArray.zip vs.toArray) #[] 7 none) rfl (by show(vs.toArray.zip vs.toArray).size=_;simp) (by rw[eo];exact h1 h2))
 .rw[if_neg (by omega),if_neg (by omega)]
  obtain⟨κ,hk,hr⟩:=hs (by lia) g3 keep
  refine Zli (hk _ _ ?_)
  refine Zli (Zn1 (hr (fun st' s'=>s'={ s with heap:=g3 }/\Ydg st'=none/\(Zx2 st').size=vs.length/\Out ((Zx2 st').map (·.2))) (fun _ _=>False) fun st' hf hsz hO=>⟨rfl,hf,hsz,hO⟩) ?_ fun _ _ x=>x.elim)
  rintro⟨⟨⟩,st'⟩ s' ⟨rfl,hf,hsz,hO⟩
  dsimp only at hf hsz hO ⊢
  refine Zli (Zzp ho3 rfl ?_)
  refine Zli (Zxy ho3 rfl ?_ (Zmt _) (by simp only[Zzn];lia))
  rw[hf]
  simp only[bne_self_eq_false,Zl5,if_false]
  exact Zln (fin st' hf hsz hO)
theorem ztv{l:Addr}{vs:List Zll}{Q:Zll->Zlo->Prop}(Out:Array Zll->Prop)(hl:s.heap.IsList l vs.toArray)(hz:vs.length<=sizeLine)
  (hs:2<=vs.length-> ∀h',zjp s.heap h'->ybs prog w A.in1.in1 { s with heap:=h' } vs Out) (h1:vs.length<2->Out vs.toArray)
  (h:∀out c h',zjp s.heap h'->h'.get? (s.heap.objs.size+1)=some (Zu5 "list" out c)->out.size=vs.length->Out out->Q (.ref (s.heap.objs.size+1)) { s with heap:=h' }) :
  Zl8 (Zmh prog w) A (call (.builtin "sorted") [.ref l]) Q E s:=by
 refine Zvw kind_sorted plain_sorted entry_sorted (args_sorted1 _) ?_
 unfold Zmz.«sorted»
 refine Zli (m:=checkCount "sorted" 1 1 _) (Zln ?_)
 refine Zli (collect_list hl ?_ hz)
 refine Zli (Zxt ?_ hz)
 generalize hg1:(s.heap.push (Zu5 "list" #[] 0)).update s.heap.objs.size (Zqp (· ++ vs.toArray))=g1
 have sz1:g1.objs.size=s.heap.objs.size+1:=by rw[<- hg1,Zza,size_push']
 have k1:zjp s.heap g1:=fun b o e=>by
  have hlt:=Zl4 e
  rw[<- hg1]
  exact(Znp _ _ (Ztc hlt)).trans (Zlu _ e)
 dsimp only
 have ho:(g1.push { cls:=.type "list", data:=.seq vs.toArray }).get? (s.heap.objs.size+1)=some (Zu5 "list" vs.toArray 0):=by rw[<- sz1];exact Zl3 _ rfl
 have k2:zjp s.heap (g1.push { cls:=.type "list", data:=.seq vs.toArray }):=fun b o e=>Zlu _ (k1 b o e)
 rw[sz1]
 have ne:∀b o,s.heap.get? b=some o->b≠s.heap.objs.size+1:=fun b o e=>Zmb (Zo1 (Zl4 e))
 refine Zli (Zos (Zqq Ycw ⟨_,ho,rfl⟩ Ycl (zn9 (s:={ s with heap:=g1.push { cls:=.type "list", data:=.seq vs.toArray } }) Out ho hz
  (fun h2 h' k=>hs h2 h' fun b o e=>k b o (ne b o e) (k2 b o e)) h1 fun out c h' k hc hsz hO=>⟨_,rfl,?_⟩) (Yc3 _)))
 exact Zln ⟨_,rfl,h out c h' (fun b o e=>k b o (ne b o e) (k2 b o e)) hc hsz hO⟩
end
noncomputable def InR{α:Type}(n:Nat)(P:α->Prop):KasT α->Prop
 | .ret a=>P a
 | .ask i j k=>i<n/\j<n /\ ∀b,InR n P (k b)
theorem InR.bind{α β:Type}{n:Nat}{f:α->KasT β}{P:α->Prop}{Q:β->Prop}(hf:∀a,P a->InR n Q (f a)):∀{t:KasT α},InR n P t->InR n Q (t.bind f)
 | .ret a,h=>hf a h
 | .ask i j k,h=>⟨h.1,h.2.1,fun b=>InR.bind hf (h.2.2 b)⟩
theorem zvo{α:Type}{cmp:Nat->Nat->(Bool->Zlo->Prop)->Zlo->Prop}{lt:Nat->Nat->Bool}{Q:α->Zlo->Prop}{s:Zlo}{n:Nat}{P:α->Prop}(h:∀i j C,i<n->j<n->C (lt i j) s->cmp i j C s):∀{t:KasT α},InR n P t->Q (runT lt t) s->t.kasWp cmp Q s
 | .ret _,_,q=>q
 | .ask i j k,r,q=>h i j _ r.1 r.2.1 (zvo h (r.2.2 _) q)
noncomputable def Ent(n:Nat)(p:Array Nat):Prop:=∀i,p.getD i 0<n
theorem Ent.perm{n:Nat}{p q:Array Nat}(h:Ent n p)(hp:q.Perm p)(hn:0<n):Ent n q:=fun i=>by
 have e:∀(q:Array Nat) (m:Nat),q.getD m 0=(q[m]?).getD 0:=fun q m=>by simp[Znr]
 rw[e]
 cases hq:q[i]? with
 | none=>exact hn
 | some x =>
  have hx:x∈q:=Array.mem_of_getElem? hq
  have hx2:x∈p:=hp.mem_iff.mp hx
  obtain⟨j,hj,ej⟩:=Array.mem_iff_getElem.mp hx2
  have:=h j
  rw[e,Zl9 hj,ej] at this
  exact this
theorem Ent.rev{n:Nat}{p:Array Nat}(h:Ent n p)(hn:0<n)(i j:Nat):Ent n (kas_rev p i j):=h.perm (mirror_perm _ _ _ _) hn
section
variable{n:Nat}(hn:0<n)
theorem zyx{p:Array Nat}(h:Ent n p):∀f m,InR n (fun _:Nat=>True) (kas_asc p f m)
 | 0,_=>trivial
 | f+1,m=>⟨h _,h _,fun b=>by cases b <;> simp only[if_true,Zl5,if_false];exact zyx h f (m+1);trivial⟩
include hn in
theorem zo0:∀f {p:Array Nat} m q,Ent n p->InR n (fun r:Array Nat×Nat×Nat=>Ent n r.1) (kas_desc f p m q)
 | 0,_,_,_,h=>h
 | f+1,p,m,q,h=>⟨h _,h _,fun b=>by
   cases b with
   | true =>
    simp only[if_true]
    split
    .exact zo0 f _ _ (h.rev hn _ _)
    .exact zo0 f _ _ h
   | false =>
    simp only[Zl5,if_false]
    exact⟨h _,h _,fun c=>by
     cases c with
     | true=>simp only[if_true];exact h
     | false=>simp only[Zl5,if_false];exact zo0 f _ _ h⟩⟩
include hn in
theorem zu6{p:Array Nat}(h:Ent n p)(m r:Nat):InR n (fun r:Nat×Array Nat=>Ent n r.2) (kas_tail3 m r p):=by
 unfold kas_tail3
 refine InR.bind (P:=fun _:Nat=>True) (fun a _=>?_) (zyx (h.rev hn _ _) _ _)
 exact h.rev hn _ _
include hn in
theorem zl2{p:Array Nat}(h:Ent n p)(m r:Nat):InR n (fun r:Nat×Array Nat=>Ent n r.2) (kas_descPart m r p):=by
 unfold kas_descPart
 refine InR.bind (fun a ha=>?_) (zo0 hn _ _ _ h)
 split
 .exact zu6 hn (ha.rev hn _ _) _ _
 .exact zu6 hn ha _ _
include hn in
theorem yeq{p:Array Nat}(h:Ent n p)(r:Nat):InR n (fun r:Nat×Array Nat=>Ent n r.2) (kas_count r p):=by
 unfold kas_count
 refine InR.bind (fun m _=>?_) (zyx h _ _)
 split
 .exact h
 .split
  .refine⟨h _,h _,fun b=>?_⟩
   cases b with
   | true=>simp only[if_true];exact h
   | false=>simp only[Zl5,if_false];exact zl2 hn (h.rev hn _ _) _ _
  .exact zl2 hn h _ _
theorem zva{p:Array Nat}(h:Ent n p)(k:Nat):∀f l r,InR n (fun _:Nat=>True) (kas_place p k f l r)
 | 0,_,_=>trivial
 | f+1,l,r=>by
  unfold kas_place
  split
  .trivial
  .exact⟨h _,h _,fun b=>by cases b <;> simp only[if_true,Zl5,if_false] <;> exact zva h k f _ _⟩
include hn in
theorem yfr:∀f {p:Array Nat} k,Ent n p->InR n (fun q:Array Nat=>Ent n q) (kas_bin f p k)
 | 0,_,_,h=>h
 | f+1,p,k,h=>by
  unfold kas_bin
  exact InR.bind (fun l _=>yfr f _ (h.perm (bubble_perm _ _ _) hn)) (zva h k _ _ _)
include hn in
theorem yid:InR n (fun q:Array Nat=>Ent n q) (kas_sort n):=by
 unfold kas_sort
 have h0:Ent n (Zuq (Zl6 n)):=fun i=>by
  have e:∀(q:Array Nat) (m:Nat),q.getD m 0=(q[m]?).getD 0:=fun q m=>by simp[Znr]
  rw[e]
  by_cases hi:i<n
  .simp[hi]
  .simp[hi];exact hn
 refine InR.bind (fun r hr=>?_) (yeq hn h0 n)
 split
 .exact yfr hn _ _ hr
 .exact hr
end
section
variable{prog:Zmi}{w:Zng}{A:Zmu}{s:Zlo}
noncomputable def OutK(key:Nat->Int)(vs:List Zll)(out:Array Zll):Prop:=∃p:List Nat,p.Perm (Zl6 vs.length)/\out.toList=p.map (fun i=>vs.getD i Znw)/\p.Pairwise fun i j=>key i<=key j
theorem zt3{κ:Yah}{vs:List Zll}{key:Nat->Int}(h2:2<=vs.length)(h64:vs.length<64)
  (hk:∀(Q:Yah->Zlo->Prop) (E:Zll->Zlo->Prop),Q κ s->Zl8 (Zmh prog w) A (Yde vs.toArray) Q E s)
  (hlt:∀i j (C:Bool->Zlo->Prop),i<vs.length->j<vs.length->C (decide (key i<key j)) s->Zl8 (Zmh prog w) A (keyLt' κ (vs.getD i Znw) (vs.getD j Znw)) C (fun _ _=>False) s) :
  ybs prog w A s vs (OutK key vs):=by
 refine⟨κ,hk,fun Q E hQ=>?_⟩
 obtain⟨s1,s2,s3⟩:=yd3 (key:=key) (n:=vs.length) (by lia)
 refine kat_run (Q:=fun st' s'=>Q st' s') (G:=fun p s'=>s'=s/\p=runT (ltK key) (kas_sort vs.length)) rfl h2 h64 (fun p st' s' hp har hf hG=>?_) (zvo (lt:=ltK key) (fun i j C hi hj hc=>hlt i j C hi hj hc) (yid (n:=vs.length) (by lia)) ⟨rfl,rfl⟩)
 obtain⟨rfl,rfl⟩:=hG
 have hout:=kat_snds rfl har
 refine hQ st' hf (by rw[har,Zzn,s1]) ⟨(runT (ltK key) (kas_sort vs.length)).toList,?_,?_,?_⟩
 .have:=s2.toList
  simpa using this
 .rw[hout]
 .generalize runT (ltK key) (kas_sort vs.length)=q at s1 s3
  rw[Zoo]
  intro i j hi hj hij
  have h:=s3 i j (by lia) (by simpa[s1] using hj)
  unfold kk at h
  have e:∀m (hm:m<q.toList.length),q.getD m 0=q.toList[m]:=fun m hm=>by
   have hm':m<q.size:=by simpa using hm
   simp[Zq4,hm']
  rw[e i hi,e j hj] at h
  exact h
end
noncomputable def D.fo:D->List Int
 | .str l=>l.map Ztf
 | .int i=>[i]
 | _=>[]
noncomputable def D.ord:D->List (List Int)
 | .tup ds=>ds.map D.fo
 | .lst ds=>ds.map D.fo
 | d=>[d.fo]
noncomputable def D.leB(a b:D):Bool:=decide (a.ord<=b.ord)
noncomputable def zgn(ds:List D):List D:=ds.mergeSort D.leB
inductive Ty where | s | i
noncomputable def Ty.ok:Ty->D->Bool
 | .s,.str _=>true
 | .i,.int _=>true
 | _,_=>false
noncomputable def shOk:List Ty->List D->Bool
 | [],[]=>true
 | t::ts,d::ds=>t.ok d&&shOk ts ds
 | _,_=>false
noncomputable def zg6(ds:List D):Prop:=(∀d∈ds,Ty.ok .s d=true)\/(∀d∈ds,Ty.ok .i d=true) \/ ∃t ts,∀d∈ds,∃es,d= .tup es/\shOk (t::ts) es=true
theorem yas{l m:List Nat}(h:l.map Ztf=m.map Ztf):l=m:=by
 induction l generalizing m with
 | nil=>cases m with
  | nil=>rfl
  | cons _ _=>simp at h
 | cons a l ih=>cases m with
  | nil=>simp at h
  | cons b m =>
   simp only[Zl0,Zol,Zxs] at h
   rw[show a=b by lia,ih h.2]
theorem ofNat_lt(l m:List Nat):l<m↔l.map Ztf<m.map Ztf:=by
 induction l generalizing m with
 | nil=>cases m <;> simp
 | cons a l ih=>cases m with
  | nil=>simp
  | cons b m =>
   simp only[Zl0,Zpg,ih m,Zxs]
   constructor
   .rintro(h | ⟨h,x⟩)
    .exact .inl (by lia)
    .exact .inr ⟨by lia,x⟩
   .rintro(h | ⟨h,x⟩)
    .exact .inl (by lia)
    .exact .inr ⟨by lia,x⟩
theorem zv8{t:Ty}{d e:D}(h1:t.ok d=true)(h2:t.ok e=true)(h:d.fo=e.fo):d=e:=by
 cases t <;> cases d <;> simp[Ty.ok] at h1 <;> cases e <;> simp[Ty.ok] at h2
 .rw[yas h]
 .simp[D.fo] at h;rw[h]
theorem ycg:∀{ts:List Ty} {ds es:List D},shOk ts ds=true->shOk ts es=true->ds.map D.fo=es.map D.fo->ds=es
 | [],ds,es,h1,h2,_=>by cases ds <;> cases es <;> simp[shOk] at h1 h2;rfl
 | t::ts,ds,es,h1,h2,h=>by
  cases ds with
  | nil=>simp[shOk] at h1
  | cons d ds=>cases es with
   | nil=>simp[shOk] at h2
   | cons e es =>
    simp only[shOk,Zmd] at h1 h2
    simp only[Zl0,Zol] at h
    rw[zv8 h1.1 h2.1 h.1,ycg h1.2 h2.2 h.2]
theorem yjy(x y:List Int):[x]<[y]↔x<y:=by simp[Zpg]
theorem yhp{ds:List D}(h:zg6 ds){a b:D}(ha:a∈ds)(hb:b∈ds)(e:a.ord=b.ord):a=b:=by
 rcases h with h | h | ⟨t,ts,h⟩
 .have h1:=h a ha
  have h2:=h b hb
  cases a <;> simp[Ty.ok] at h1
  cases b <;> simp[Ty.ok] at h2
  simp only[D.ord,Zol,and_true] at e
  exact zv8 (t:=.s) rfl rfl e
 .have h1:=h a ha
  have h2:=h b hb
  cases a <;> simp[Ty.ok] at h1
  cases b <;> simp[Ty.ok] at h2
  simp only[D.ord,Zol,and_true] at e
  exact zv8 (t:=.i) rfl rfl e
 .obtain⟨es,rfl,h1⟩:=h a ha
  obtain⟨fs,rfl,h2⟩:=h b hb
  simp only[D.ord] at e
  rw[ycg h1 h2 e]
theorem yay(a b c:D)(h1:a.leB b=true)(h2:b.leB c=true):a.leB c=true:=decide_eq_true (Yam (of_decide_eq_true h1) (of_decide_eq_true h2))
theorem zy3(a b:D):(a.leB b||b.leB a)=true:=by
 rcases List.le_total a.ord b.ord with h | h
 .simp[D.leB,h]
 .simp[D.leB,h]
theorem zbw(ds:List D):(zgn ds).Perm ds:=List.mergeSort_perm _ _
theorem zh7(ds:List D):(zgn ds).Pairwise fun a b=>a.leB b=true:=List.pairwise_mergeSort yay zy3 ds
theorem zpz{ds es:List D}(h:zg6 ds)(hp:es.Perm ds)(hs:es.Pairwise fun a b=>a.leB b=true):es=zgn ds:=by
 refine Ydr (le:=fun a b=>a.leB b=true) (fun a b ha hb h1 h2=>?_) hs (zh7 ds) (hp.trans (zbw ds).symm)
 exact yhp h (hp.mem_iff.mp ha) ((zbw ds).mem_iff.mp hb) (Zu0 (of_decide_eq_true h1) (of_decide_eq_true h2))
noncomputable def rk(ds:List D)(i:Nat):Int:=((ds.filter fun d=>decide (d.ord<(ds.getD i .non).ord)).length:Nat)
theorem zgz{α:Type}{p q:α->Bool}(h:∀x,p x=true->q x=true):∀l:List α,(l.filter p).length<=(l.filter q).length
 | []=>Zlt _
 | x::l=>by
  have ih:=zgz h l
  simp only[Zpx]
  cases hp:p x with
  | false =>
   cases hq:q x with
   | false=>simpa using ih
   | true=>simp;lia
  | true=>rw[h x hp];simp;omega
theorem zjh{α:Type}{p q:α->Bool}(h:∀x,p x=true->q x=true){y:α}(hy:q y=true)(hn:p y=false):∀l:List α,y∈l->(l.filter p).length<(l.filter q).length
 | [],hm=>by simp at hm
 | x::l,hm=>by
  have le:=zgz h l
  simp only[Zpx]
  rcases Zly.mp hm with rfl | hm
  .rw[hy,hn];simp;lia
  .have ih:=zjh h hy hn l hm
   cases hp:p x with
   | false =>
    cases hq:q x with
    | false=>simpa using ih
    | true=>simp;lia
   | true=>rw[h x hp];simp;omega
theorem yh9{ds:List D}{i j:Nat}(hi:i<ds.length):decide (rk ds i<rk ds j)=decide ((ds.getD i .non).ord<(ds.getD j .non).ord):=by
 have hm:ds.getD i .non∈ds:=by rw[Zlk,Zlj hi];exact Znl _
 unfold rk
 generalize ds.getD i .non=a at hm
 generalize ds.getD j .non=b
 by_cases h:a.ord<b.ord
 .rw[decide_eq_true h]
  refine decide_eq_true ?_
  have:=zjh (p:=fun d:D=>decide (d.ord<a.ord)) (q:=fun d:D=>decide (d.ord<b.ord)) (fun x hx=>decide_eq_true (Zwm (of_decide_eq_true hx) h)) (y:=a) (decide_eq_true h) (decide_eq_false (Zsd _)) ds hm
  lia
 .rw[decide_eq_false h]
  refine decide_eq_false ?_
  have:=zgz (p:=fun d:D=>decide (d.ord<b.ord)) (q:=fun d:D=>decide (d.ord<a.ord)) (fun x hx=>by
   have hx:=of_decide_eq_true hx
   refine decide_eq_true ?_
   by_cases hxa:x.ord<a.ord
   .exact hxa
   .exact absurd hx (Zqm.mpr (Yam (Zqm.mp h) (Zqm.mp hxa)))) ds
  lia
theorem yls{ds:List D}{i j:Nat}(hi:i<ds.length)(hj:j<ds.length)(h:rk ds i<=rk ds j):(ds.getD i .non).leB (ds.getD j .non)=true:=by
 have:=yh9 (ds:=ds) (i:=j) (j:=i) hj
 rw[decide_eq_false (by lia)] at this
 exact decide_eq_true (Zqm.mp (of_decide_eq_false this.symm))
section
variable{prog:Zmi}{w:Zng}{A:Zmu}{E:Zll->Zlo->Prop}{s:Zlo}
noncomputable def FV:D->Zll->Prop
 | .str l,u=>∃t,u= .str (T l) t
 | .int i,u=>∃t,u= .int i t
 | _,_=>False
theorem yhl{t:Ty}{d e:D}{u v:Zll}(h1:t.ok d=true)(h2:t.ok e=true)(ru:FV d u)(rv:FV e v){Q:Bool->Zlo->Prop}(q:Q (decide (d=e)) s):Zl8 (Zmh prog w) A (eqBool u v) Q E s:=by
 cases t <;> cases d <;> simp[Ty.ok] at h1 <;> cases e <;> simp[Ty.ok] at h2
 .obtain⟨t,rfl⟩:=ru
  obtain⟨t',rfl⟩:=rv
  refine Yc5 _ _ _ _ prog w E Q ?_
  rename_i l m
  have:(T l == T m)=decide (D.str l=D.str m):=by
   rw[Zmj];simp[ybu]
  rw[this];exact q
 .obtain⟨t,rfl⟩:=ru
  obtain⟨t',rfl⟩:=rv
  refine Yc8 _ _ _ _ prog w E Q ?_
  rename_i i j
  have:(i == j)=decide (D.int i=D.int j):=by
   rw[Zmj];simp
  rw[this];exact q
theorem yab{t:Ty}{d e:D}{u v:Zll}(h1:t.ok d=true)(h2:t.ok e=true)(ru:FV d u)(rv:FV e v)(f:Bool){Q:Bool->Zlo->Prop}(q:Q (decide (d.fo<e.fo)) s):Zl8 (Zmh prog w) A (oneLt' f u v) Q E s:=by
 cases t <;> cases d <;> simp[Ty.ok] at h1 <;> cases e <;> simp[Ty.ok] at h2
 .obtain⟨t,rfl⟩:=ru
  obtain⟨t',rfl⟩:=rv
  rename_i l m
  have ee:decide ((T l).cps.toList<(T m).cps.toList)=decide ((D.str l).fo<(D.str m).fo):=by
   rw[zet,zet,Zmj,decide_eq_true_eq,decide_eq_true_eq]
   exact ofNat_lt l m
  cases f with
  | true=>exact oneLt_str (by rw[ee];exact q)
  | false=>exact kat_one _ _ (lt_str (by show Q _ _;rw[ee];exact q))
 .obtain⟨t,rfl⟩:=ru
  obtain⟨t',rfl⟩:=rv
  rename_i i j
  have ee:decide (i<j)=decide ((D.int i).fo<(D.int j).fo):=by
   rw[Zmj]
   simp[D.fo,Zpg]
  cases f with
  | true=>exact oneLt_int (by rw[ee];exact q)
  | false=>exact kat_one _ _ (lt_int (by show Q _ _;rw[ee];exact q))
inductive FVs:List D->List Zll->Prop
 | nil:FVs [] []
 | cons {d ds u us}:FV d u->FVs ds us->FVs (d::ds) (u::us)
theorem zwg {b : Bool} {Q : Bool -> Zlo -> Prop} : ∀ {ts : List Ty} {ds es : List D} {us vs : List Zll} (i : Nat), shOk ts ds = true -> shOk ts es = true -> FVs ds us -> FVs es vs -> Q (decide (ds.map D.fo < es.map D.fo)) s -> KatLex prog w A b false Q (us.zip vs) i s
 | [],ds,es,_,_,i,h1,h2,r1,r2,q=>by
  cases ds <;> cases es <;> simp[shOk] at h1 h2
  cases r1;cases r2
  exact kat_nil (by simpa using q)
 | t::ts,ds,es,_,_,i,h1,h2,r1,r2,q=>by
  cases r1 with
  | nil=>simp[shOk] at h1
  | cons a1 a2 =>
   cases r2 with
   | nil=>simp[shOk] at h2
   | cons b1 b2 =>
    rename_i d ds u us e es v vs
    simp only[shOk,Zmd] at h1 h2
    rw[Zr7]
    refine kat_cons (yhl h1.1 h2.1 a1 b1 ?_)
    by_cases hde:d=e
    .subst hde
     rw[decide_eq_true rfl]
     refine kat_yes (zwg (i+1) h1.2 h2.2 a2 b2 ?_)
     have:decide (ds.map D.fo<es.map D.fo)=decide ((d::ds).map D.fo<(d::es).map D.fo):=by
      rw[Zmj]
      simp only[decide_eq_true_eq,Zl0,Zpg]
      exact⟨fun h=>.inr ⟨trivial,h⟩,fun h=>h.elim (fun z=>absurd z (Zsd _)) fun z=>z.2⟩
     rw[this];exact q
    .rw[decide_eq_false hde]
     refine kat_no (yab h1.1 h2.1 a1 b1 _ ?_)
     have hf:¬ d.fo=e.fo:=fun z=>hde (zv8 h1.1 h2.1 z)
     have:decide (d.fo<e.fo)=decide ((d::ds).map D.fo<(e::es).map D.fo):=by
      rw[Zmj]
      simp only[decide_eq_true_eq,Zl0,Zpg]
      exact⟨fun h=>.inl h,fun h=>h.elim id fun z=>absurd z.1 hf⟩
     rw[this];exact q
end
structure MI(R:Nat->Nat->Prop)(ua ub o:List Nat)(i j:Nat):Prop where
 hi:i<=ua.length
 hj:j<=ub.length
 pw:o.Pairwise R
 pa:∀x∈o,∀y∈ua.drop i,R x y
 pb:∀x∈o,∀y∈ub.drop j,R x y
 pm:o.Perm (ua.take i++ub.take j)
noncomputable def Seg(key:Nat->Int)(p:Array Nat)(i j:Nat):Prop:=∀s t,i<=s->s<=t->t<j->kk key p s<=kk key p t
noncomputable def Runs(key:Nat->Int)(p:Array Nat):List (Nat×Nat×Nat)->Nat->Nat->Prop
 | [],lo,hi=>lo=hi
 | r::l,lo,hi=>r.1=lo/\0<r.2.1/\Seg key p lo (lo+r.2.1)/\Runs key p l (lo+r.2.1) hi
theorem Vals.pick{xs:List V}{us:List Zll}(r:Vals xs us):∀p:List Nat,(∀i∈p,i<xs.length)->Vals (p.map fun i=>xs.getD i .non) (p.map fun i=>us.getD i Znw)
 | [],_=>.nil
 | i::p,h=>by
  have hi:=h i Zls
  obtain⟨u,hu,ru⟩:=r.get (Zlj hi)
  refine .cons ?_ (Vals.pick r p fun j hj=>h j (Zlp _ hj))
  show RelV (xs.getD i .non) (us.getD i Znw)
  rw[Zlk,Zlj hi,Zlk,hu]
  exact ru
theorem Reps.pick{K:Zlh}{H:Hp}{ds:List D}{xs:List V}(r:Reps K H ds xs):∀p:List Nat,(∀i∈p,i<ds.length)->Reps K H (p.map fun i=>ds.getD i .non) (p.map fun i=>xs.getD i .non)
 | [],_=>Reps.nil
 | i::p,h=>by
  have hi:=h i Zls
  obtain⟨u,hu,ru⟩:=r.get' (Zlj hi)
  refine Reps.cons ?_ (Reps.pick r p fun j hj=>h j (Zlp _ hj))
  show Rep K H (ds.getD i .non) (xs.getD i .non)
  rw[Zlk,Zlj hi,Zlk,hu]
  exact ru
section
variable{X:Cx}{pins:List (Addr×Obj)}{U:St}{H:Hp}{s:Zlo}
theorem FV.of{t:Ty}{d:D}{x:V}{u:Zll}(ht:t.ok d=true)(r:Rep X.K H d x)(q:RelV x u):FV d u:=by
 cases t <;> cases d <;> simp[Ty.ok] at ht
 .rw[r.of_str] at q;exact q
 .rw[r.of_int] at q;exact q
theorem FVs.of:∀{ts:List Ty} {ds:List D} {xs:List V} {us:List Zll},shOk ts ds=true->Reps X.K H ds xs->Vals xs us->FVs ds us
 | [],ds,_,_,ht,r,q=>by
  cases ds <;> simp[shOk] at ht
  rw[Reps] at r;subst r;cases q;exact .nil
 | t::ts,ds,_,_,ht,r,q=>by
  cases ds with
  | nil=>simp[shOk] at ht
  | cons d ds =>
   simp only[shOk,Zmd] at ht
   rw[Reps] at r
   obtain⟨x,xs,rfl,r1,r2⟩:=r
   cases q with
   | cons q1 q2=>exact .cons (FV.of ht.1 r1 q1) (FVs.of ht.2 r2 q2)
noncomputable def TV(h:Heap)(es:List D)(u:Zll):Prop:=∃a o its n,u= .ref a/\h.get? a=some o/\o.cls= .type "tuple" /\ o.data= .seq its n/\FVs es its.toList
theorem Inv.tv(I:Inv X pins U H s){ts:List Ty}{es:List D}{x:V}{u:Zll}(ht:shOk ts es=true)(r:Rep X.K H (.tup es) x)(q:RelV x u):TV s.heap es u:=by
 obtain⟨p,xs,rfl,sq,rs⟩:=r.of_tup
 cases q
 obtain⟨its,rv,⟨o,e,c,n,hd⟩,_⟩:=I.tuple sq
 exact⟨p,o,its.toArray,n,rfl,e,c,hd,by simpa using FVs.of ht rs rv⟩
theorem zvn{ds:List D}{xs:List V}{us:List Zll}(rs:Reps X.K H ds xs)(rv:Vals xs us){i:Nat}(hi:i<us.length):∃x,Rep X.K H (ds.getD i .non) x/\RelV x (us.getD i Znw)/\ds.getD i .non∈ds:=by
 have l1:=rs.length
 have l2:=rv.length
 obtain⟨x,hx,r⟩:=rs.get' (Zlj (show i<ds.length by lia))
 obtain⟨u,hu,ru⟩:=rv.get hx
 refine⟨x,?_,?_,?_⟩
 .rw[Zlk,Zlj (show i<ds.length by lia)];exact r
 .rw[Zlk,hu];exact ru
 .rw[Zlk,Zlj (show i<ds.length by lia)];exact Znl _
theorem zwc{us:List Zll}{v:Zll}(h:v∈us):∃i,i<us.length/\v=us.getD i Znw:=by
 obtain⟨i,hi,e⟩:=Zts h
 exact⟨i,hi,by rw[Zlk,Zlj hi];exact e.symm⟩
noncomputable def Ty.tv:Ty->Zll
 | .s=>.type "str"
 | .i=>.type "int"
noncomputable def yjv(prog:Zmi)(w:Zng)(A:Zmu)(s:Zlo)(vs:List Zll)(key:Nat->Int):Prop :=
 ∃κ,(∀(Q:Yah->Zlo->Prop) (E:Zll->Zlo->Prop),Q κ s->Zl8 (Zmh prog w) A (Yde vs.toArray) Q E s) /\
  ∀i j (C:Bool->Zlo->Prop),i<vs.length->j<vs.length->C (decide (key i<key j)) s->Zl8 (Zmh prog w) A (keyLt' κ (vs.getD i Znw) (vs.getD j Znw)) C (fun _ _=>False) s
theorem yao {h' : Heap} {ds : List D} {xs : List V} {us : List Zll} {A' : Zmu} (I : Inv X pins U H s) (rs : Reps X.K H ds xs) (rv : Vals xs us) (hal : zg6 ds) (h2 : 2 <= us.length) (k : zjp s.heap h') :
  yjv X.prog X.w A' { s with heap:=h' } us (rk ds):=by
 have l1:=rs.length
 have l2:=rv.length
 have flat:∀(t:Ty) (T0:Zll),(∀d u,t.ok d=true->FV d u->typeOf u=pure T0)->(T0 != Zpw "tuple")=true->(T0 == T0)=true->(∀d∈ds,t.ok d=true)->yjv X.prog X.w A' { s with heap:=h' } us (rk ds):=fun t T0 hty hT1 hT2 ht=>by
  have fv:∀i,i<us.length->FV (ds.getD i .non) (us.getD i Znw)/\t.ok (ds.getD i .non)=true:=fun i hi=>by
   obtain⟨x,r,q,hm⟩:=zvn rs rv hi
   exact⟨FV.of (ht _ hm) r q,ht _ hm⟩
  refine⟨oneType',fun Q E q=>kas_kind h2 (T:=T0) (fun v hv=>?_) hT1 hT2 q,fun i j C hi hj hC=>?_⟩
  .obtain⟨i,hi,rfl⟩:=zwc hv
   obtain⟨f,o⟩:=fv i hi
   rw[hty _ _ o f]
   exact .now
  .obtain⟨f1,o1⟩:=fv i hi
   obtain⟨f2,o2⟩:=fv j hj
   rw[keyLt'_oneType]
   refine yab o1 o2 f1 f2 true ?_
   rw[yh9 (by lia)] at hC
   have e:∀d:D,t.ok d=true->d.ord=[d.fo]:=fun d hd=>by cases t <;> cases d <;> simp[Ty.ok] at hd <;> rfl
   rw[e _ o1,e _ o2] at hC
   have:decide ((ds.getD i .non).fo<(ds.getD j .non).fo)=decide ([(ds.getD i .non).fo]<[(ds.getD j .non).fo]):=by
    rw[Zmj,decide_eq_true_eq,decide_eq_true_eq];exact(yjy _ _).symm
   rw[this];exact hC
 rcases hal with ht | ht | ⟨t,ts,ht⟩
 .exact flat .s (.type "str") (fun d u hd f=>by cases d <;> simp[Ty.ok] at hd;obtain⟨t,rfl⟩:=f;rfl) (by decide) (by decide) ht
 .exact flat .i (.type "int") (fun d u hd f=>by cases d <;> simp[Ty.ok] at hd;obtain⟨t,rfl⟩:=f;rfl) (by decide) (by decide) ht
 .have tv : ∀ i, i < us.length -> ∃ es, ds.getD i .non = .tup es /\ shOk (t :: ts) es = true /\ TV h' es (us.getD i Znw) := fun i hi => by
   obtain⟨x,r,q,hm⟩:=zvn rs rv hi
   obtain⟨es,e,ho⟩:=ht _ hm
   rw[e] at r
   obtain⟨a,o,its,n,eu,ho',hc,hd,fv⟩:=I.tv ho r q
   exact⟨es,e,ho,a,o,its,n,eu,k a o ho',hc,hd,fv⟩
  obtain⟨T0,hT0,hb,hbb⟩:∃T0:Zll,(T0=t.tv)/\(T0 != Zpw "tuple")=true/\(T0 == T0)=true:=⟨t.tv,rfl,by cases t <;> decide,by cases t <;> decide⟩
  have hfs : ∀ (l : List Zll), (∀ v ∈ l, ∃ es, shOk (t :: ts) es = true /\ TV h' es v) -> ∃ fs, KatTups h' l fs /\ fs.length = l.length /\ ∀ f ∈ fs, typeOf f = pure T0 := by
   intro l
   induction l with
   | nil=>intro _;exact⟨[],KatTups.nil,rfl,by simp⟩
   | cons v l ih =>
    intro h
    obtain⟨fs,h1,h2,h3⟩:=ih fun u hu=>h u (Zlp _ hu)
    obtain⟨es,ho,a,o,its,n,rfl,hg,hc,hd,fv⟩:=h v Zls
    cases es with
    | nil=>simp[shOk] at ho
    | cons d es =>
     simp only[shOk,Zmd] at ho
     cases hits:its.toList with
     | nil=>rw[hits] at fv;cases fv
     | cons f fr =>
      rw[hits] at fv
      cases fv with
      | cons fd _ =>
       have h0:its[0]? = some f:=by
        have:its.toList[0]? = some f:=by rw[hits];rfl
        simpa using this
       refine⟨f::fs,KatTups.cons hg hc hd h0 h1,by simp[h2],fun g hgm=>?_⟩
       rcases Zly.mp hgm with rfl | hgm
       .cases t <;> cases d <;> simp[Ty.ok] at ho
        .obtain⟨t',rfl⟩:=fd;rw[hT0];rfl
        .obtain⟨t',rfl⟩:=fd;rw[hT0];rfl
       .exact h3 g hgm
  obtain⟨fs,hk1,hk2,hk3⟩:=hfs us fun v hv=>by
   obtain⟨i,hi,rfl⟩:=zwc hv
   obtain⟨es,_,ho,tvv⟩:=tv i hi
   exact⟨es,ho,tvv⟩
  refine⟨tuples' (T0 != Zpw "tuple"),fun Q E q=>kat_kind (s:={ s with heap:=h' }) (T:=T0) hk1 (by lia) (fun v hv=>?_) hbb q,fun i j C hi hj hC=>?_⟩
  .rw[hk3 v hv];exact .now
  .obtain⟨es,e1,o1,a,o,its,n,eu,hg,hc,hd,fv⟩:=tv i hi
   obtain⟨es',e1',o1',a',o',its',n',eu',hg',hc',hd',fv'⟩:=tv j hj
   rw[eu,eu']
   rw[yh9 (by lia),e1,e1'] at hC
   have sz:∀{ts:List Ty} {es:List D} {us:List Zll},shOk ts es=true->FVs es us->us.length=ts.length:=by
    intro ts
    induction ts with
    | nil=>intro es us h f;cases f with
     | nil=>rfl
     | cons _ _=>simp[shOk] at h
    | cons t ts ih=>intro es us h f;cases f with
     | nil=>simp[shOk] at h
     | cons _ f=>simp only[shOk,Zmd] at h;simp[ih h.2 f]
   have z1:=sz o1 fv
   have z2:=sz o1' fv'
   refine kat_lt (s:={ s with heap:=h' }) hg hd hg' hd' ?_
   rw[decide_eq_false (by simp at z1 z2;lia)]
   exact zwg 0 o1 o1' fv fv' hC
theorem zn4{r:Nat->Int}{us:List Zll}(h:us.length<2):OutK r us us.toArray:=by
 refine⟨Zl6 us.length,Ydq _,?_,?_⟩
 .match us,h with
  | [],_=>rfl
  | [v],_=>rfl
 .match us,h with
  | [],_=>simp
  | [v],_=>simp
end
end L2
namespace L2
open PySem PySem.W PySem.Spec PyProof.Rows
noncomputable def cutD(xs:List D)(lo hi:Option Int):List D:=(xs.drop (HT.sIx xs.length 0 lo)).take (HT.sIx xs.length xs.length hi - HT.sIx xs.length 0 lo)
theorem Reps.cut{K:Zlh}{H:Hp}{ds:List D}{xs:List V}(lo hi:Option Int)(h:Reps K H ds xs):Reps K H (cutD ds lo hi) (cutV xs lo hi):=by
 unfold cutD cutV
 rw[<- h.length]
 exact(h.drop _).take _
section
variable{K:Zlh}{G H0 L:Hp}{ss:List Sl}{t ta tb:TE}{d:D}{ds:List D}
theorem zpw(a:EvL K G H0 L ss t ds):Ev K G H0 L ss (tCB (fun xs H Q=>∃p ys,xs=[.ref p]/\(SqL K H p ys\/SqT K H p ys)/\Q (.int ys.length) H) (za8 t tNil)) (.int ds.length):=fun F H U Q S q =>
 a F H U _ S fun p vs F' H' e sq r=>⟨p,vs,rfl,.inl sq,q _ _ _ e (by rw[<- r.length];exact Rep.int)⟩
theorem zft{l:List Nat}(a:EvB K G H0 L ss t (.str l))(hz:l.length<=sizeLine):Ev K G H0 L ss (tCB (fun xs H Q=>∃z:Str,xs=[.str z]/\z.length<=sizeLine/\Q (.int z.length) H) (za8 t tNil)) (.int l.length):=fun F H U Q S q =>
 a F H U _ S fun v F' H' e r=>by
  rw[r.of_str]
  exact⟨T l,rfl,by rw[zb5];exact hz,q _ _ _ e (by rw[zb5];exact Rep.int)⟩
noncomputable def EvP(K:Zlh)(G H0 L:Hp)(ss:List Sl)(t:TO)(o:Option Int):Prop:=∀F H U (Q:Option Int->Hp->Prop),Sat K G H0 L F H U ss->(∀F' H',Ext F H F' H'->Q o H')->t U H Q
theorem zdx:EvP K G H0 L ss zm4 none:=fun F H U Q S q=>q _ _ (Ext.refl S.ext.fh)
theorem zba{i:Int}(a:EvB K G H0 L ss t (.int i)):EvP K G H0 L ss (yb3 t) (some i):=fun F H U Q S q=>a F H U _ S fun v F' H' e r=>⟨i,r.of_int,q _ _ e⟩
theorem zmq{tl th:TO}{lo hi:Option Int}(a:EvL K G H0 L ss t ds)(b:EvP K G H0 L ss tl lo)(c:EvP K G H0 L ss th hi):EvO K G H0 L ss (tSl (rSlL K) t tl th) (cutD ds lo hi):=fun F H U Q S q =>
 a F H U _ S fun p vs F1 H1 e1 sq r=>b F1 H1 U _ (S.ext2 e1) fun F2 H2 e2=>c F2 H2 U _ ((S.ext2 e1).ext2 e2) fun F3 H3 e3 =>
  ⟨p,vs,rfl,SqL.same e3.hh (SqL.same e2.hh sq),fun l hl=>q l _ F3 _ (((e1.trans e2).trans e3).newO hl) (((e1.trans e2).trans e3).hh.free hl) (((e1.trans e2).trans e3).fh.free hl) zal (((r.mono e2.gf).mono e3.gf).cut lo hi)⟩
theorem zfm{tl th:TO}{lo hi:Option Int}{l:List Nat}(a:EvB K G H0 L ss t (.str l))(b:EvP K G H0 L ss tl lo)(c:EvP K G H0 L ss th hi)(hz:l.length<=sizeLine):Ev K G H0 L ss (tSl rSlS t tl th) (.str (cutL l lo hi)):=fun F H U Q S q =>
 a F H U _ S fun v F1 H1 e1 r=>b F1 H1 U _ (S.ext2 e1) fun F2 H2 e2=>c F2 H2 U _ ((S.ext2 e1).ext2 e2) fun F3 H3 e3 =>
  ⟨l,r.of_str,hz,q _ _ _ ((e1.trans e2).trans e3) (Rep.str fun c hc=>r.asc c (Ztl (Zrp hc)))⟩
noncomputable def glue(z:List Nat):List (List Nat)->List Nat
 | []=>[]
 | [x]=>x
 | x::y::r=>x++z++glue z (y::r)
end
theorem zzx(z:List Nat):∀ls:List (List Nat),Zvc (T z) (ls.map T)=T (glue z ls)
 | []=>rfl
 | [x]=>rfl
 | x::y::r=>by
  have ih:=zzx z (y::r)
  rw[Zl0] at ih
  rw[Zl0,Zl0]
  show T x++T z++Zvc (T z) (T y::r.map T)=_
  rw[ih,yhv,yhv];rfl
theorem zpp{z:List Nat}(hz:∀c∈z,c<128):∀{ls:List (List Nat)},(∀l∈ls,∀c∈l,c<128)-> ∀c∈glue z ls,c<128
 | [],_,c,h=>by cases h
 | [x],hl,c,h=>hl x Zls c h
 | x::y::r,hl,c,h=>by
  rw[glue] at h
  rcases Zme.mp h with h | h
  .rcases Zme.mp h with h | h
   .exact hl x Zls c h
   .exact hz c h
  .exact zpp hz (ls:=y::r) (fun l hm=>hl l (Zlp _ hm)) c h
theorem Reps.strs{K:Zlh}{H:Hp}:∀{ls:List (List Nat)} {vs:List V},Reps K H (ls.map D.str) vs->vs=(ls.map T).map V.str /\ ∀l∈ls,∀c∈l,c<128
 | [],vs,h=>by rw[Zp6,Reps] at h;subst h;exact⟨rfl,by simp⟩
 | l::ls,vs,h=>by
  rw[Zl0,Reps] at h
  obtain⟨x,xs,rfl,h1,h2⟩:=h
  obtain⟨e,ha⟩:=h2.strs
  refine⟨by rw[h1.of_str,e];rfl,fun m hm=>?_⟩
  rcases Zly.mp hm with rfl | hm
  .exact h1.asc
  .exact ha m hm
section
variable{K:Zlh}{G H0 L:Hp}{ss:List Sl}{t ta tb:TE}{d:D}{ds:List D}
theorem zkg{z:List Nat}{ls:List (List Nat)}(a:EvB K G H0 L ss ta (.str z))(b:EvL K G H0 L ss t (ls.map D.str))(hz:(ls.map Zm7).sum+ls.length*z.length<=16777216):Ev K G H0 L ss (tBM K "str" (zy5 K) ta (za8 t tNil)) (.str (glue z ls)):=fun F H U Q S q =>
 a F H U _ S fun v F1 H1 e1 r1=>by
  rw[r1.of_str]
  refine⟨rfl,b F1 H1 U _ (S.ext2 e1) fun p vs F2 H2 e2 sq r2=>?_⟩
  obtain⟨rfl,ha⟩:=r2.strs
  refine⟨T z,p,ls.map T,rfl,rfl,sq,?_,?_⟩
  .rw[Zm0,Zlm,zb5,show((fun x:Str=>x.length)∘T)=Zm7 from funext fun l=>zb5 l];exact hz
  .rw[zzx]
   exact q _ _ _ (e1.trans e2) (Rep.str (zpp r1.asc ha))
theorem yl8(a:EvL K G H0 L ss t ds):Ev K G H0 L ss (tCB (fun xs H Q=>∃p ys,xs=[.ref p,.ty "list"]/\SqL K H p ys/\Q (.bl true) H) (za8 t (za8 (tC (.ty "list")) tNil))) (.bl true):=fun F H U Q S q =>
 a F H U _ S fun p vs F1 H1 e1 sq r1=>⟨p,vs,rfl,sq,q _ _ _ e1 Rep.bl⟩
theorem yjn(a:EvB K G H0 L ss t (.tup ds)):Ev K G H0 L ss (tCB (fun xs H Q=>∃p ys,xs=[.ref p,.ty "tuple"]/\SqT K H p ys/\Q (.bl true) H) (za8 t (za8 (tC (.ty "tuple")) tNil))) (.bl true):=fun F H U Q S q =>
 a F H U _ S fun v F1 H1 e1 r1=>by
  obtain⟨p,vs,rfl,sq,_⟩:=r1.of_tup
  exact⟨p,vs,rfl,sq,q _ _ _ e1 Rep.bl⟩
end
noncomputable def stripL(goes:Nat->Bool)(l:List Nat):List Nat:=((l.dropWhile goes).reverse.dropWhile goes).reverse
theorem zdl(g:Nat->Bool):∀l:List Nat,l.drop (l.takeWhile g).length=l.dropWhile g
 | []=>rfl
 | x::l=>by
  rw[Zrx,Zon]
  cases g x with
  | true=>simp only[if_true,Zl1,Zpv];exact zdl g l
  | false=>rfl
theorem ygx(l y:List Nat):Zwa (T l) (T y)=T (stripL y.contains l):=by
 have ct:(T y).cps.contains=y.contains:=by funext c;simp[T]
 have key:Zvo y.contains true true (T l)=T (stripL y.contains l):=by
  unfold Zvo PySem.stripLo PySem.stripHi
  simp only[if_true,zet,zb5]
  rw[zdl]
  have h1:(l.takeWhile y.contains).length+(l.dropWhile y.contains).length=l.length:=by
   rw[<- Zlw,Zq6]
  have e:Zs4 (T l) (l.takeWhile y.contains).length (l.length - ((l.dropWhile y.contains).reverse.takeWhile y.contains).length)=T ((l.drop (l.takeWhile y.contains).length).take (l.length - ((l.dropWhile y.contains).reverse.takeWhile y.contains).length - (l.takeWhile y.contains).length)):=by
   unfold Zs4
   congr 1
   apply Zss.mp
   rw[Zth]
   show Zw2 (T l).cps.toList _ _=_
   rw[zet]
  rw[e,zdl]
  congr 1
  unfold stripL
  have h2:=zdl y.contains (l.dropWhile y.contains).reverse
  rw[<- h2]
  have h3:((l.dropWhile y.contains).reverse.takeWhile y.contains).length<=(l.dropWhile y.contains).length:=by
   have:=(List.takeWhile_sublist (p:=y.contains) (l:=(l.dropWhile y.contains).reverse)).length_le
   simpa using this
  rw[List.drop_reverse,Zro]
  congr 1;omega
 unfold Zwa Txt.stripBy
 rw[ct]
 split
 .rename_i h
  rw[<- key]
  unfold stripSame at h
  simp only[Zmd,beq_iff_eq] at h
  unfold Zvo
  rw[h.2,h.1]
  unfold Zs4
  have:(T l).cps.extract 0 (T l).length=(T l).cps:=by
   show(T l).cps.extract 0 (T l).cps.size=_
   simp
  rw[this]
 .exact key
noncomputable def zyr:V->List V->Hp->VK->Prop:=fun x vs H Q=>∃z y,x= .str z/\vs=[.str y]/\z.length<=sizeLine/\Q (.str (Zwa z y)) H
section
variable{X:Cx}
theorem zmj:MtR X "str.strip" zyr:=by
 intro pins s U H x xs v us Q I rx rs h
 obtain⟨z,y,rfl,rfl,hz,q⟩:=h
 obtain⟨t,rfl⟩:=rx
 obtain⟨u,rfl,ru⟩:=Vals.one rs
 obtain⟨u,rfl⟩:=ru
 exact SC.stripChars (fun t' k=>⟨.str _,H,I.tok _,⟨_,rfl⟩,q⟩) hz
end
section
variable{K:Zlh}{G H0 L:Hp}{ss:List Sl}{t ta tb:TE}{d:D}{ds:List D}
theorem zpl{l y:List Nat}(a:EvB K G H0 L ss ta (.str l))(b:EvB K G H0 L ss t (.str y))(hz:l.length<=sizeLine):Ev K G H0 L ss (tBM K "str" zyr ta (za8 t tNil)) (.str (stripL y.contains l)):=fun F H U Q S q =>
 a F H U _ S fun v F1 H1 e1 r1=>by
  rw[r1.of_str]
  refine⟨rfl,b F1 H1 U _ (S.ext2 e1) fun v2 F2 H2 e2 r2=>?_⟩
  refine⟨T l,T y,rfl,by rw[r2.of_str],by rw[zb5];exact hz,?_⟩
  rw[ygx]
  refine q _ _ _ (e1.trans e2) (Rep.str fun c hc=>r1.asc c ?_)
  unfold stripL at hc
  exact(Zo5 _).subset (Zsv.mp ((Zo5 _).subset (Zsv.mp hc)))
end
noncomputable def rAll(K:Zlh):List V->Hp->VK->Prop:=fun xs H Q=>∃p,∃bs:List Bool,xs=[.ref p]/\SqL K H p (bs.map V.bl)/\Q (.bl (bs.all id)) H
noncomputable def rAny(K:Zlh):List V->Hp->VK->Prop:=fun xs H Q=>∃p,∃bs:List Bool,xs=[.ref p]/\SqL K H p (bs.map V.bl)/\Q (.bl (bs.any id)) H
section
variable{X:Cx}{prog:Zmi}{w:Zng}{A:Zmu}{E:Zll->Zlo->Prop}{s:Zlo}
theorem zwf{h':Heap}{o:Obj}{k:Nat}(hk:∀b x,b∉[s.heap.objs.size]->(s.heap.push o).get? b=some x->h'.get? b=some x):zjp s.heap h':=fun b x e=>by
 refine hk b x (fun hm=>?_) (Zlu _ e)
 have h1:=Zl4 e
 rw[Zlz.mp hm] at h1
 exact Znn _ h1
theorem ztk:∀{bs:List Bool} {us:List Zll},Vals (bs.map V.bl) us->us=bs.map Zqk
 | [],_,.nil=>rfl
 | b::bs,_,.cons r1 r2=>by rw[ztk r2];cases r1;rfl
theorem zyg:∀bs:List Bool,((Zl6 bs.length).all fun i=>(bs[i]?).getD true)=bs.all id:=fun bs=>by
 rw[Zmj,Zpy,Zpy]
 constructor
 .intro h b hb
  obtain⟨i,hi,e⟩:=Zts hb
  have:=h i (Zm3.mpr hi)
  rw[Zlj hi,Zpt,e] at this
  exact this
 .intro h i hi
  have hi':=Zm3.mp hi
  rw[Zlj hi',Zpt]
  exact h _ (Znl hi')
theorem zxm:∀bs:List Bool,((Zl6 bs.length).any fun i=>(bs[i]?).getD false)=bs.any id:=fun bs=>by
 rw[Zmj,Zow,Zow]
 constructor
 .rintro⟨i,hi,h⟩
  have hi':=Zm3.mp hi
  rw[Zlj hi',Zpt] at h
  exact⟨_,Znl hi',h⟩
 .rintro⟨b,hb,h⟩
  obtain⟨i,hi,e⟩:=Zts hb
  refine⟨i,Zm3.mpr hi,?_⟩
  rw[Zlj hi,Zpt,e];exact h
theorem zpo(hc:X.calm=true):zb4 X (.builtin "all") (rAll X.K):=by
 intro pins s U H xs us Q I r h
 obtain⟨p,bs,rfl,hq,q⟩:=h
 obtain⟨u,rfl,ru⟩:=zhi r
 cases ru
 obtain⟨its,rv,pl,_⟩:=I.list hq
 obtain rfl:=ztk rv
 have hl:=pl.isList
 have hlt:p<s.heap.objs.size:=by obtain⟨_,e,_⟩:=hl;exact Zl4 e
 refine call_all_walk (Zqh hl ⟨s.heap.objs.size,[s.heap.objs.size,p],[s.heap.objs.size],(bs.map Zqk).toArray.size,_,_,fun i=>(bs[i]?).getD true,rfl,
  Ybp (A:=X.A.in1) (I.ok.hd hc) _ p (Zmb hlt) _,⟨⟨_,Zl3 _ rfl,rfl,rfl⟩,hl.push _⟩,fun i v s' Q' E' hP hQ=>?_,fun h' tk hk=>?_⟩)
 .have hP':(bs.map Zqk)[i]? = some v:=by simpa using hP
  rw[Zlx] at hP'
  cases hb:bs[i]? with
  | none=>rw[hb] at hP';cases hP'
  | some b =>
   rw[hb] at hP'
   cases hP'
   simp only[hb,Zpt] at hQ
   exact Zn0 hQ
 .have e:((Zl6 (bs.map Zqk).toArray.size).all fun i=>(bs[i]?).getD true)=bs.all id:=by
   rw[Zmq,Zlm];exact zyg bs
  rw[e]
  exact⟨.bl _,H,I.kept (zwf (k:=0) hk),rfl,q⟩
theorem zuy(hc:X.calm=true):zb4 X (.builtin "any") (rAny X.K):=by
 intro pins s U H xs us Q I r h
 obtain⟨p,bs,rfl,hq,q⟩:=h
 obtain⟨u,rfl,ru⟩:=zhi r
 cases ru
 obtain⟨its,rv,pl,_⟩:=I.list hq
 obtain rfl:=ztk rv
 have hl:=pl.isList
 have hlt:p<s.heap.objs.size:=by obtain⟨_,e,_⟩:=hl;exact Zl4 e
 refine call_any_walk (Zqh hl ⟨s.heap.objs.size,[s.heap.objs.size,p],[s.heap.objs.size],(bs.map Zqk).toArray.size,_,_,fun i=>(bs[i]?).getD false,rfl,
  Ybp (A:=X.A.in1) (I.ok.hd hc) _ p (Zmb hlt) _,⟨⟨_,Zl3 _ rfl,rfl,rfl⟩,hl.push _⟩,fun i v s' Q' E' hP hQ=>?_,fun h' tk hk=>?_⟩)
 .have hP':(bs.map Zqk)[i]? = some v:=by simpa using hP
  rw[Zlx] at hP'
  cases hb:bs[i]? with
  | none=>rw[hb] at hP';cases hP'
  | some b =>
   rw[hb] at hP'
   cases hP'
   simp only[hb,Zpt] at hQ
   exact Zn0 hQ
 .have e:((Zl6 (bs.map Zqk).toArray.size).any fun i=>(bs[i]?).getD false)=bs.any id:=by
   rw[Zmq,Zlm];exact zxm bs
  rw[e]
  exact⟨.bl _,H,I.kept (zwf (k:=0) hk),rfl,q⟩
noncomputable def two(x y:Str)(t u:Tok):Array Zll:=#[.str x t,.str y u]
theorem zvt{x y:Str}{t u:Tok}:∀(i:Nat) (v:Zll),(two x y t u)[i]? = some v-> ∃k,v= .str (if i=0 then x else y) k
 | 0,v,h=>⟨t,by simp[two] at h;simp[h.symm]⟩
 | 1,v,h=>⟨u,by simp[two] at h;simp[h.symm]⟩
 | i+2,v,h=>by simp[two] at h
theorem zo1{x y:Str}{t u:Tok}{Q:Zll->Zlo->Prop}(hh:A.handled=none)
  (h:∀h' tk,zjp s.heap h'->Q (if y.cps.toList<x.cps.toList then .str y u else .str x t) { s with heap:=h',toks:=tk }):Zl8 (Zmh prog w) A (call (.builtin "min") [.str x t,.str y u]) Q E s:=by
 have hT:(s.heap.push { cls:=.type "tuple", data:=.seq (two x y t u) }).IsTuple s.heap.objs.size (two x y t u):=⟨_,Zl3 _ rfl,rfl,0,rfl⟩
 have hsz:(s.heap.push { cls:=.type "tuple", data:=.seq (two x y t u) }).objs.size=s.heap.objs.size+1:=Zmv ..
 refine call_min_two (Zz9 hT ?_)
 refine⟨_,[_,s.heap.objs.size],[_],_,_,_,fun i j=>decide ((if i=0 then x else y).cps.toList<(if j=0 then x else y).cps.toList),rfl,Ya1 (A:=A.in1) hh _ s.heap.objs.size (Zmb (by rw[Zmv];lia)) (two x y t u),⟨⟨_,Zl3 _ rfl,rfl,rfl⟩,hT.push _⟩,fun c hc=>?_,by simp[two],?_,fun v h' tk hP hk=>?_⟩
 .show c<((s.heap.push _).push _).objs.size
  rw[Zmv,Zmv]
  simp only[Zly,Zno,or_false] at hc
  rcases hc with rfl | rfl
  .rw[Zmv];exact Znv _
  .exact Zo1 (Znv _)
 .intro i j vi vj s' Q' E' hi hj hq
  obtain⟨k1,rfl⟩:=zvt i vi hi
  obtain⟨k2,rfl⟩:=zvt j vj hj
  exact Yaw (op:=.Lt) (Zo0 _ _ _) (Zo0 _ _ _) F.slot_str_lt F.entry_str_lt (F.args_str_lt_2 _ _) (gives_str_lt _ _ _ _) (fun e=>nomatch e) hq
 .have hold:zjp s.heap h':=fun c o e=>by
   have h1:=Zl4 e
   refine hk c o (fun hm=>?_) (Zlu _ (Zlu _ e))
   rw[Zlz.mp hm,Zmv] at h1;exact absurd (Zy3 h1) (Znn _)
  have:=h h' tk hold
  have hsz2:(two x y t u).size - 1=1:=by simp[two]
  have hP':(two x y t u)[Zt0 (fun i j=>decide ((if i=0 then x else y).cps.toList<(if j=0 then x else y).cps.toList)) 1]? = some v:=by rw[<- hsz2];exact hP
  by_cases hyx:y.cps.toList<x.cps.toList
  .have e:Zt0 (fun i j=>decide ((if i=0 then x else y).cps.toList<(if j=0 then x else y).cps.toList)) 1=1:=by simp[Zt0,hyx]
   rw[e] at hP'
   rw[if_pos hyx] at this
   simp[two] at hP'
   rw[<- hP'];exact this
  .have e:Zt0 (fun i j=>decide ((if i=0 then x else y).cps.toList<(if j=0 then x else y).cps.toList)) 1=0:=by simp[Zt0,hyx]
   rw[e] at hP'
   rw[if_neg hyx] at this
   simp[two] at hP'
   rw[<- hP'];exact this
theorem zpy{x y:Str}{t u:Tok}{Q:Zll->Zlo->Prop}(hh:A.handled=none)
  (h:∀h' tk,zjp s.heap h'->Q (if x.cps.toList<y.cps.toList then .str y u else .str x t) { s with heap:=h',toks:=tk }):Zl8 (Zmh prog w) A (call (.builtin "max") [.str x t,.str y u]) Q E s:=by
 have hT:(s.heap.push { cls:=.type "tuple", data:=.seq (two x y t u) }).IsTuple s.heap.objs.size (two x y t u):=⟨_,Zl3 _ rfl,rfl,0,rfl⟩
 have hsz:(s.heap.push { cls:=.type "tuple", data:=.seq (two x y t u) }).objs.size=s.heap.objs.size+1:=Zmv ..
 refine call_max_two (Zz9 hT ?_)
 refine⟨_,[_,s.heap.objs.size],[_],_,_,_,fun i j=>decide ((if j=0 then x else y).cps.toList<(if i=0 then x else y).cps.toList),rfl,Ya1 (A:=A.in1) hh _ s.heap.objs.size (Zmb (by rw[Zmv];lia)) (two x y t u),⟨⟨_,Zl3 _ rfl,rfl,rfl⟩,hT.push _⟩,fun c hc=>?_,by simp[two],?_,fun v h' tk hP hk=>?_⟩
 .show c<((s.heap.push _).push _).objs.size
  rw[Zmv,Zmv]
  simp only[Zly,Zno,or_false] at hc
  rcases hc with rfl | rfl
  .rw[Zmv];exact Znv _
  .exact Zo1 (Znv _)
 .intro i j vi vj s' Q' E' hi hj hq
  obtain⟨k1,rfl⟩:=zvt i vi hi
  obtain⟨k2,rfl⟩:=zvt j vj hj
  exact Yaw (op:=.Gt) (Zo0 _ _ _) (Zo0 _ _ _) F.slot_str_gt F.entry_str_gt (F.args_str_gt_2 _ _) (gives_str_gt _ _ _ _) (fun e=>nomatch e) hq
 .have hold:zjp s.heap h':=fun c o e=>by
   have h1:=Zl4 e
   refine hk c o (fun hm=>?_) (Zlu _ (Zlu _ e))
   rw[Zlz.mp hm,Zmv] at h1;exact absurd (Zy3 h1) (Znn _)
  have:=h h' tk hold
  have hsz2:(two x y t u).size - 1=1:=by simp[two]
  have hP':(two x y t u)[Zt0 (fun i j=>decide ((if j=0 then x else y).cps.toList<(if i=0 then x else y).cps.toList)) 1]? = some v:=by rw[<- hsz2];exact hP
  by_cases hyx:x.cps.toList<y.cps.toList
  .have e:Zt0 (fun i j=>decide ((if j=0 then x else y).cps.toList<(if i=0 then x else y).cps.toList)) 1=1:=by simp[Zt0,hyx]
   rw[e] at hP'
   rw[if_pos hyx] at this
   simp[two] at hP'
   rw[<- hP'];exact this
  .have e:Zt0 (fun i j=>decide ((if j=0 then x else y).cps.toList<(if i=0 then x else y).cps.toList)) 1=0:=by simp[Zt0,hyx]
   rw[e] at hP'
   rw[if_neg hyx] at this
   simp[two] at hP'
   rw[<- hP'];exact this
theorem zqr(hc:X.calm=true):zb4 X (.builtin "min") (fun xs H Q=>∃l m:List Nat,xs=[.str (T l),.str (T m)]/\Q (.str (T (if m<l then m else l))) H):=by
 intro pins s U H xs us Q I r h
 obtain⟨l,m,rfl,q⟩:=h
 obtain⟨u,w',rfl,⟨t,rfl⟩,⟨t',rfl⟩⟩:=zth r
 refine zo1 (I.ok.hd hc) fun h' tk k=>⟨_,H,I.kept k,?_,q⟩
 rw[zet,zet]
 split <;> exact⟨_,rfl⟩
theorem zrv(hc:X.calm=true):zb4 X (.builtin "max") (fun xs H Q=>∃l m:List Nat,xs=[.str (T l),.str (T m)]/\Q (.str (T (if l<m then m else l))) H):=by
 intro pins s U H xs us Q I r h
 obtain⟨l,m,rfl,q⟩:=h
 obtain⟨u,w',rfl,⟨t,rfl⟩,⟨t',rfl⟩⟩:=zth r
 refine zpy (I.ok.hd hc) fun h' tk k=>⟨_,H,I.kept k,?_,q⟩
 rw[zet,zet]
 split <;> exact⟨_,rfl⟩
end
end L2
namespace L2
open PySem PySem.W PySem.Spec PyProof.Rows PySem.Calls
open PySem.MeetsSeq PySem.MeetsSeq2 PySem.MeetsSeq3
section
variable{K:Zlh}{G H0 L:Hp}{ss:List Sl}{t ta tb:TE}{d:D}{ds es:List D}
theorem Reps.bools{H:Hp}:∀{bs:List Bool} {vs:List V},Reps K H (bs.map D.bl) vs->vs=bs.map V.bl
 | [],vs,h=>by rw[Zp6,Reps] at h;exact h
 | b::bs,vs,h=>by
  rw[Zl0,Reps] at h
  obtain⟨x,xs,rfl,h1,h2⟩:=h
  rw[h1.of_bl,h2.bools];rfl
theorem yjm{bs:List Bool}(a:EvL K G H0 L ss t (bs.map D.bl)):Ev K G H0 L ss (tCB (rAll K) (za8 t tNil)) (.bl (bs.all id)):=fun F H U Q S q =>
 a F H U _ S fun p vs F1 H1 e1 sq r1=>⟨p,bs,rfl,by rw[r1.bools] at sq;exact sq,q _ _ _ e1 Rep.bl⟩
theorem yj8{bs:List Bool}(a:EvL K G H0 L ss t (bs.map D.bl)):Ev K G H0 L ss (tCB (rAny K) (za8 t tNil)) (.bl (bs.any id)):=fun F H U Q S q =>
 a F H U _ S fun p vs F1 H1 e1 sq r1=>⟨p,bs,rfl,by rw[r1.bools] at sq;exact sq,q _ _ _ e1 Rep.bl⟩
noncomputable def minL(l m:List Nat):List Nat:=if m<l then m else l
noncomputable def maxL(l m:List Nat):List Nat:=if l<m then m else l
theorem zzo{l m:List Nat}(a:EvB K G H0 L ss ta (.str l))(b:EvB K G H0 L ss tb (.str m)):Ev K G H0 L ss (tCB (fun xs H Q=>∃l m:List Nat,xs=[.str (T l),.str (T m)]/\Q (.str (T (if m<l then m else l))) H) (za8 ta (za8 tb tNil))) (.str (minL l m)):=fun F H U Q S q =>
 a F H U _ S fun v F1 H1 e1 r1=>b F1 H1 U _ (S.ext2 e1) fun v2 F2 H2 e2 r2=>⟨l,m,by rw[r1.of_str,r2.of_str],q _ _ _ (e1.trans e2) (Rep.str (by unfold minL;split;exact r2.asc;exact r1.asc))⟩
theorem zzm{l m:List Nat}(a:EvB K G H0 L ss ta (.str l))(b:EvB K G H0 L ss tb (.str m)):Ev K G H0 L ss (tCB (fun xs H Q=>∃l m:List Nat,xs=[.str (T l),.str (T m)]/\Q (.str (T (if l<m then m else l))) H) (za8 ta (za8 tb tNil))) (.str (maxL l m)):=fun F H U Q S q =>
 a F H U _ S fun v F1 H1 e1 r1=>b F1 H1 U _ (S.ext2 e1) fun v2 F2 H2 e2 r2=>⟨l,m,by rw[r1.of_str,r2.of_str],q _ _ _ (e1.trans e2) (Rep.str (by unfold maxL;split;exact r2.asc;exact r1.asc))⟩
end
end L2
namespace L2
open PySem PySem.W PySem.Spec PyProof.Rows
noncomputable def slots(n:Nat)(ds:List D):List Sl:=ds.map Sl.d++Ztn (n - ds.length) .un
section
variable{K:Zlh}{H:Hp}{vs:List V}{Q:VK}{X:XK}{N:List Str}{t:TS}{pre:List D->Prop}
theorem ze5{G:Hp}{ds:List D}(sm:Same G H)(r:Reps K G ds vs)(hN:vs.length<=N.length):Sat K G H G G H (start N vs) (slots N.length ds):=by
 have hl:=r.length
 have ads:∀(i:Nat) s,(slots N.length ds)[i]? = some s->s.ads=[]:=fun i s hs=>by
  have hm:=Zlv hs
  unfold slots at hm
  rcases Zme.mp hm with h | h
  .obtain⟨d,_,rfl⟩:=Zl2.mp h;rfl
  .rw[Zwj h];rfl
 refine⟨Ext.refl sm,Same.refl _,?_,fun i s hs=>?_,fun i s hs=>by rw[ads i s hs];exact Zrd,fun i j s s' _ hs _ p hp=>by rw[ads i s hs] at hp;cases hp⟩
 .unfold start slots;simp;lia
 .by_cases hi:i<ds.length
  .have e:(slots N.length ds)[i]? = some (.d ds[i]):=by
    unfold slots
    rw[Zn4 (by simpa using hi),Zlx,Zlj hi];rfl
   rw[e] at hs
   cases hs
   obtain⟨v,hv,rv⟩:=r.get' (Zlj hi)
   refine⟨v,?_,rv⟩
   unfold start
   rw[Zlk,Zn4 (by simp;lia),Zlx,hv];rfl
  .have hm:s= .un:=by
    unfold slots at hs
    rw[Znx (by simp;lia)] at hs
    exact Zwj (Zlv hs)
   rw[hm];trivial
theorem yf7{res:List D->D}(h:SpD K pre res vs H Q X)(hN:vs.length<=N.length)(body:∀G ds,pre ds->RtD K G H Q (res ds)->Go K G H G { nx:=fun _ H'=>Q .non H',rt:=Q } (slots N.length ds) t):t { nx:=fun _ H'=>Q .non H',rt:=Q } (start N vs) H:=by
 obtain⟨G,ds,sm,r,hp,q⟩:=h
 exact body G ds hp (fun v F H' e r=>q v F H' e r) G H _ (ze5 sm r hN)
theorem yj0{res:List D->List D}(h:SpO K pre res vs H Q X)(hN:vs.length<=N.length)(body:∀G ds,pre ds->RtO K G H Q (res ds)->Go K G H G { nx:=fun _ H'=>Q .non H',rt:=Q } (slots N.length ds) t):t { nx:=fun _ H'=>Q .non H',rt:=Q } (start N vs) H:=by
 obtain⟨G,ds,sm,r,hp,q⟩:=h
 exact body G ds hp (fun p ws F H' e h1 h2 h3 r=>q p ws F H' e h1 h2 h3 r) G H _ (ze5 sm r hN)
theorem zqi{res:List D->D}{n:Nat}(hpre:∀ds,pre ds->ds.length=n)(h:SpD K pre res vs H Q X):vs.length=n:=by
 obtain⟨G,ds,sm,r,hp,q⟩:=h
 rw[<- r.length];exact hpre ds hp
theorem yco{res:List D->List D}{n:Nat}(hpre:∀ds,pre ds->ds.length=n)(h:SpO K pre res vs H Q X):vs.length=n:=by
 obtain⟨G,ds,sm,r,hp,q⟩:=h
 rw[<- r.length];exact hpre ds hp
end
section
variable{K:Zlh}{G H0 L:Hp}{ss:List Sl}{t ta tb:TE}{d:D}{ds es:List D}{i j:Int}
theorem zb9(a:EvB K G H0 L ss ta (.int i))(b:EvB K G H0 L ss tb (.int j))(h:0<j):Ev K G H0 L ss (tOp (rI (fun _ j=>0<j) fun i j=>.int (i % j)) ta tb) (.int (i % j)):=zwt (C:=fun _ j=>0<j) (g:=fun i j=>i % j) a b h
theorem zsk(a:EvB K G H0 L ss ta (.int i))(b:EvB K G H0 L ss tb (.int j))(h:CMul i j):Ev K G H0 L ss (tOp (rI CMul fun i j=>.int (i*j)) ta tb) (.int (i*j)):=zwt (C:=CMul) (g:=fun i j=>i*j) a b h
theorem zec(a:EvB K G H0 L ss ta (.int i))(b:EvB K G H0 L ss tb (.int j))(h:CDiv i j):Ev K G H0 L ss (tOp (rI CDiv fun i j=>.int (i / j)) ta tb) (.int (i / j)):=zwt (C:=CDiv) (g:=fun i j=>i / j) a b h
theorem yjh(a:EvB K G H0 L ss ta (.int i))(b:EvB K G H0 L ss tb (.int j)):Ev K G H0 L ss (tOp (rI0 fun i j=>.bl (decide (i<j))) ta tb) (.bl (decide (i<j))):=zo6 (g:=fun i j=>decide (i<j)) a b
end
theorem yb6(n d:Nat){a:Int}(h:0<=a):HT.sIx n d (some a)=min a.toNat n:=by
 show(if a<0 then (a+(n:Int)).toNat else min a.toNat n)=_
 rw[if_neg (by lia)]
theorem zri(m:List D){b:Int}(h:0<=b):cutD m (some b) none=m.drop b.toNat:=by
 unfold cutD
 rw[yb6 _ _ h,show HT.sIx m.length m.length none=m.length from rfl,Zo4 (by rw[Zmo];lia)]
 by_cases hh:b.toNat<=m.length
 .rw[Ztd hh]
 .rw[Zvb (by lia),Zy9,Znj (by lia)]
theorem zpa(m:List D){a b:Int}(h:0<=a)(h2:a<=b):cutD m (some a) (some b)=(m.drop a.toNat).take (b.toNat - a.toNat):=by
 unfold cutD
 rw[yb6 _ _ h,yb6 _ _ (by lia)]
 by_cases h3:a.toNat<=m.length
 .rw[Ztd h3]
  by_cases h4:b.toNat<=m.length
  .rw[Ztd h4]
  .rw[Zvb (by lia),Zo4 (by simp),Zo4 (by simp;lia)]
 .rw[Znj (as:=m) (i:=a.toNat) (by lia),Znj (by omega)];simp
theorem zve{α β:Type}(xs:List α)(z:α)(p:α->Bool)(f:α->β):((Zl6 xs.length).filter fun i=>p (xs.getD i z)).map (fun i=>f (xs.getD i z))=(xs.filter p).map f:=by
 have e:xs=(Zl6 xs.length).map fun i=>xs.getD i z:=by
  refine Zom fun i=>?_
  rw[Zlx]
  by_cases hi:i<xs.length
  .rw[Zn8 hi,Zlj hi];simp[Zlk,hi]
  .rw[Zms (by lia),Zms (by simp;lia)];rfl
 conv=>rhs;rw[e]
 rw[Zzl,Zm0]
 rfl
section
variable{K:Zlh}{G H0 L:Hp}{ss:List Sl}
theorem ziv{α:Type}(xs:List α)(enc:α->D)(p:α->Bool)(f:α->D){tl:TE}{g:TG}{tt:TT}{te:TE}{nt:Nat}{cs:List Nat}(a:EvL K G H0 L ss tl (xs.map enc))(hk:GK nt g)(hc:cs.Nodup)(hz:xs.length<sizeLine)
  (hs:∀x∈xs,∃ss',Tg K G H0 L g (enc x) (lcSl nt cs ss) ss'/\EvT K G H0 L ss' tt (p x)/\(p x=true->Ev K G H0 L ss' te (f x))) :
  EvO K G H0 L ss (tLC nt cs (zuu K tl) g tt te) ((xs.filter p).map f):=by
 cases xs with
 | nil =>
  have:=zox (p:=fun _=>true) (f:=fun _=>.non) (tt:=tt) (te:=te) (zvc a) hk hc (by simpa using hz) (fun i hi=>by simp at hi)
  simpa using this
 | cons z zs =>
  have hl:((z::zs).map enc).length=(z::zs).length:=by simp
  have:=zox (p:=fun i=>p ((z::zs).getD i z)) (f:=fun i=>f ((z::zs).getD i z)) (tt:=tt) (te:=te) (zvc a) hk hc (by rw[hl];exact hz) (fun i hi=>by
   rw[hl] at hi
   have hm:(z::zs).getD i z∈(z::zs):=by
    rw[Zlk,Zlj hi];exact Znl hi
   have e:((z::zs).map enc).getD i .non=enc ((z::zs).getD i z):=by
    rw[Zlk,Zlx,Zlk,Zlj hi];rfl
   rw[e]
   exact hs _ hm)
  rw[hl,zve] at this
  exact this
theorem zwr:EvT K G H0 L ss zxk true:=fun F H U Q S q=>q _ _ (Ext.refl S.ext.fh)
theorem zei{α:Type}(xs:List α)(enc:α->D)(f:α->D){tl:TE}{g:TG}{te:TE}{nt:Nat}{cs:List Nat}(a:EvL K G H0 L ss tl (xs.map enc))(hk:GK nt g)(hc:cs.Nodup)(hz:xs.length<sizeLine)
  (hs:∀x∈xs,∃ss',Tg K G H0 L g (enc x) (lcSl nt cs ss) ss'/\Ev K G H0 L ss' te (f x)) :
  EvO K G H0 L ss (tLC nt cs (zuu K tl) g zxk te) (xs.map f):=by
 have:=ziv xs enc (fun _=>true) f a hk hc hz (tt:=zxk) (te:=te) fun x hx=>by
  obtain⟨ss',h1,h2⟩:=hs x hx
  exact⟨ss',h1,zwr,fun _=>h2⟩
 rw[show xs.filter (fun _=>true)=xs from Zxr.mpr (by simp)] at this
 exact this
theorem zwv{α:Type}{z:List Nat}{xs:List α}{g:α->List Nat}{ta t:TE}(a:EvB K G H0 L ss ta (.str z))(b:EvL K G H0 L ss t (xs.map fun x=>D.str (g x)))(hz:((xs.map g).map Zm7).sum+xs.length*z.length<=16777216):Ev K G H0 L ss (tBM K "str" (zy5 K) ta (za8 t tNil)) (.str (glue z (xs.map g))):=by
 refine zkg a ?_ (by rw[Zlm (f:=g)];exact hz)
 rw[Zm0];exact b
theorem zti{α:Type}{xs:List α}{g:α->Bool}{t:TE}(b:EvL K G H0 L ss t (xs.map fun x=>D.bl (g x))):Ev K G H0 L ss (tCB (rAll K) (za8 t tNil)) (.bl (xs.all g)):=by
 have:=yjm (K:=K) (G:=G) (H0:=H0) (L:=L) (ss:=ss) (t:=t) (bs:=xs.map g) (by rw[Zm0];exact b)
 rw[List.all_map] at this
 exact this
theorem zy2{α:Type}{xs:List α}{g:α->Bool}{t:TE}(b:EvL K G H0 L ss t (xs.map fun x=>D.bl (g x))):Ev K G H0 L ss (tCB (rAny K) (za8 t tNil)) (.bl (xs.any g)):=by
 have:=yj8 (K:=K) (G:=G) (H0:=H0) (L:=L) (ss:=ss) (t:=t) (bs:=xs.map g) (by rw[Zm0];exact b)
 rw[List.any_map] at this
 exact this
theorem zby{x:Str}(ha:∀c∈x.cps.toList,c<128):Ev K G H0 L ss (tC (.str x)) (.str x.cps.toList):=za5 (by cases x;rfl) ha
end
theorem zv1:∀ls:List (List Nat),glue [] ls=ls.flatten
 | []=>rfl
 | [x]=>by simp[glue]
 | x::y::r=>by rw[glue,zv1 (y::r)];simp
theorem zwu{α:Type}(xs:List α)(g:α->Nat):glue [] (xs.map fun x=>[g x])=xs.map g:=by
 rw[zv1]
 induction xs with
 | nil=>rfl
 | cons x xs ih=>simp[ih]
theorem Reps.cat{K:Zlh}{H:Hp}:∀{ds es:List D} {xs ys:List V},Reps K H ds xs->Reps K H es ys->Reps K H (ds++es) (xs++ys)
 | [],es,xs,ys,h,k=>by rw[Reps] at h;subst h;exact k
 | d::ds,es,xs,ys,h,k=>by
  rw[Reps] at h
  obtain⟨x,xs',rfl,h1,h2⟩:=h
  exact Reps.cons h1 (h2.cat k)
section
variable{K:Zlh}{G H0 L:Hp}{ss:List Sl}{E:Ends}{ds es:List D}
theorem ya9{i:Nat}{p:Addr}{t1:TE}(hs:ss[i]? = some (.o p ds))(a:EvO K G H0 L ss t1 es)(hz:ds.length+es.length<=sizeLine)(h:Nx K G H0 L E.nx (ss.set i (.o p (ds++es)))) :
  Go K G H0 L E ss (zys (tBM K "list" zz5 (tVar i) (za8 t1 tNil))):=fun F H U S=>by
 obtain⟨e,h0,fp,vs,hp,r⟩:=S.getO hs
 refine⟨.ref p,e,.inl ⟨rfl,_,SqL.of hp⟩,a F H U _ S fun b zs F' H' e' hb fb hb' r'=>?_⟩
 have S':=S.ext2 e'
 obtain⟨e2,h02,fp2,vs',hp2,r2⟩:=S'.getO hs
 exact⟨p,b,vs',zs,rfl,rfl,hp2,hb',by rw[<- r2.length,<- r'.length];exact hz,h F' _ U (S'.write hs (r2.cat r'))⟩
end
end L2
namespace L2T
open PySem
theorem zoq(xs:Array Nat)(hp:xs.toList.Pairwise (· < ·))(i k x y:Nat)(hik:i<k)(hx:xs[i]? = some x)(hy:xs[k]? = some y):x<y:=by
 rw[<- Zmg] at hx hy
 obtain⟨hi',hx'⟩:=Zlq.mp hx
 obtain⟨hk',hy'⟩:=Zlq.mp hy
 have h:=Zoo.mp hp i k hi' hk' hik
 rw[hx',hy'] at h;exact h
theorem yes(xs:Array Nat)(j:Nat)(hp:xs.toList.Pairwise (· < ·)):∀(fuel lo hi:Nat),hi - lo<=fuel->lo<=hi->hi<=xs.size ->
  (∀i x,i<lo->xs[i]? = some x->x<j)->(∀i x,hi<=i->xs[i]? = some x->j<=x) ->
  (Zrj xs j fuel lo hi<=xs.size)/\(∀i x,i<Zrj xs j fuel lo hi->xs[i]? = some x->x<j)/\(∀i x,Zrj xs j fuel lo hi<=i->xs[i]? = some x->j<=x):=by
 intro fuel
 induction fuel with
 | zero =>
  intro lo hi hf hl hs h1 h2
  have:lo=hi:=by lia
  subst this
  exact⟨hs,h1,h2⟩
 | succ fuel ih =>
  intro lo hi hf hl hs h1 h2
  unfold Zrj
  by_cases hlt:lo<hi
  .rw[if_pos hlt]
   have hm:(lo+hi) / 2<xs.size:=by lia
   have hgm:xs[(lo+hi) / 2]? = some xs[(lo+hi) / 2]:=Zl9 hm
   have hgd:xs.getD ((lo+hi) / 2) j=xs[(lo+hi) / 2]:=by simp[Zq4,hm]
   have hmono:=zoq xs hp
   dsimp only
   rw[hgd]
   by_cases hc:xs[(lo+hi) / 2]<j
   .rw[if_pos hc]
    refine ih _ _ (by omega) (by lia) hs ?_ h2
    intro i x hi' hx
    by_cases he:i=(lo+hi) / 2
    .subst he;rw[hgm] at hx;cases hx;exact hc
    .have:=hmono i ((lo+hi) / 2) x _ (by lia) hx hgm;lia
   .rw[if_neg hc]
    refine ih _ _ (by omega) (by lia) (by lia) h1 ?_
    intro i x hi' hx
    by_cases he:i=(lo+hi) / 2
    .subst he;rw[hgm] at hx;cases hx;lia
    .have:=hmono ((lo+hi) / 2) i _ x (by lia) hgm hx;lia
  .rw[if_neg hlt]
   have:lo=hi:=by lia
   subst this
   exact⟨hs,h1,h2⟩
theorem zie(xs:Array Nat)(j:Nat)(hp:xs.toList.Pairwise (· < ·)) :
  Zml xs j<=xs.size/\(∀i x,i<Zml xs j->xs[i]? = some x->x<j)/\(∀i x,Zml xs j<=i->xs[i]? = some x->j<=x):=by
 unfold Zml
 exact yes xs j hp xs.size 0 xs.size (by lia) (by lia) (by lia) (fun i x h=>by lia) (fun i x h hx=>by
  have:=(Zo8.mp hx).1;lia)
theorem zgm(xs:Array Nat)(j:Nat)(hp:xs.toList.Pairwise (· < ·)):xs[Zml xs j]? = some j↔j∈xs.toList:=by
 obtain⟨h0,h1,h2⟩:=zie xs j hp
 constructor
 .intro h;rw[<- Zmg] at h;exact Zlv h
 .intro h
  obtain⟨i,hi⟩:=Zmr.mp h
  rw[Zmg] at hi
  rcases Zph i (Zml xs j) with hc | hc
  .have:=h1 i j hc hi;lia
  .have hib:=(Zo8.mp hi).1
   have hb:Zml xs j<xs.size:=by lia
   have hg:xs[Zml xs j]? = some xs[Zml xs j]:=Zl9 hb
   have h3:=h2 _ _ (Zlt _) hg
   rcases Zph (Zml xs j) i with hd | hd
   .have:=zoq xs hp _ _ _ _ hd hg hi
    lia
   .have:i=Zml xs j:=by lia
    rw[<- this];exact hi
theorem zmh(xs:Array Nat)(j:Nat)(hp:xs.toList.Pairwise (· < ·)):Zv2 xs j=true↔j∈xs.toList:=by
 unfold Zv2
 rw[beq_iff_eq]
 exact zgm xs j hp
theorem yfo(xs:Array Nat)(i j:Nat)(hp:xs.toList.Pairwise (· < ·))(h:xs[i]? = some j):Zml xs j=i:=by
 have hm:=(zgm xs j hp).mpr (by rw[<- Zmg] at h;exact Zlv h)
 rw[<- Zmg] at h hm
 obtain⟨hi,hx⟩:=Zlq.mp h
 obtain⟨hk,hy⟩:=Zlq.mp hm
 rcases Zup (Zml xs j) i with hc | hc | hc
 .have:=Zoo.mp hp _ _ hk hi hc;lia
 .exact hc
 .have:=Zoo.mp hp _ _ hi hk hc;lia
theorem zb1{α:Type}(xs:Array α)(p:Nat)(x:α)(hp:p<=xs.size):(Zma xs p x).toList=xs.toList.take p++x::xs.toList.drop p:=by
 simp[Zma,Zth,Zw2,Zo4]
theorem zfz{α:Type}(xs:Array α)(p:Nat):(Zw8 xs p).toList=xs.toList.take p++xs.toList.drop (p+1):=by
 simp[Zw8,Zth,Zw2,Zo4]
theorem znp(xs:Array Nat)(j:Nat)(hp:xs.toList.Pairwise (· < ·))(hj:j∉xs.toList) :
  (Zma xs (Zml xs j) j).toList.Pairwise (· < ·):=by
 obtain⟨h0,h1,h2⟩:=zie xs j hp
 rw[zb1 _ _ _ h0,Zxe,Zt5]
 have ht:∀x∈xs.toList.take (Zml xs j),x<j:=by
  intro x hx
  obtain⟨i,hi⟩:=Zmr.mp hx
  rw[Zr9] at hi
  split at hi
  .rename_i hlt;exact h1 i x hlt (by rw[<- Zmg];exact hi)
  .cases hi
 have hd:∀x∈xs.toList.drop (Zml xs j),j<x:=by
  intro x hx
  obtain⟨i,hi⟩:=Zmr.mp hx
  rw[Zp2] at hi
  have:=h2 _ x (Nat.le_add_right _ i) (by rw[<- Zmg];exact hi)
  have hne:x≠j:=fun e=>hj (e ▸ Zlv hi)
  lia
 refine⟨hp.sublist (Zyl _ _),⟨hd,hp.sublist (Zyn _ _)⟩,?_⟩
 intro x hx y hy
 rcases Zly.mp hy with rfl | hy
 .exact ht x hx
 .have:=ht x hx;have:=hd y hy;lia
structure TOk(t:Zlr):Prop where
 pl:t.place.toList.Pairwise (· < ·)
 du:t.dummies.toList.Pairwise (· < ·)
 ple:∀j∈t.place.toList,j<=t.mask
 dle:∀j∈t.dummies.toList,j<=t.mask
 dis:∀j∈t.dummies.toList,j∉t.place.toList
 pow:∃k,t.mask+1=2 ^ (k+3)
 big:t.mask<=8191
theorem zhm{t:Zlr}(h:TOk t)(j i:Nat):t.slot j= .live i↔t.place[i]? = some j:=by
 unfold Zyh
 dsimp only
 by_cases hc:t.place[Zml t.place j]? = some j
 .rw[if_pos (by rw[beq_iff_eq];exact hc)]
  constructor
  .intro he;cases he;exact hc
  .intro hi;rw[yfo _ _ _ h.pl hi]
 .rw[if_neg (by rw[beq_iff_eq];exact hc)]
  constructor
  .intro he;split at he <;> cases he
  .intro hi;exact absurd ((zgm _ _ h.pl).mpr (by rw[<- Zmg] at hi;exact Zlv hi)) hc
theorem zii{t:Zlr}(h:TOk t)(j:Nat):t.slot j= .dummy↔j∈t.dummies.toList:=by
 unfold Zyh
 dsimp only
 by_cases hc:t.place[Zml t.place j]? = some j
 .rw[if_pos (by rw[beq_iff_eq];exact hc)]
  constructor
  .intro he;cases he
  .intro hi;exact absurd ((zgm _ _ h.pl).mp hc) (h.dis j hi)
 .rw[if_neg (by rw[beq_iff_eq];exact hc)]
  by_cases hd:Zv2 t.dummies j=true
  .rw[if_pos hd];exact⟨fun _=>(zmh _ _ h.du).mp hd,fun _=>rfl⟩
  .rw[if_neg hd];exact⟨fun he=>(by cases he),fun he=>absurd ((zmh _ _ h.du).mpr he) hd⟩
theorem zgl{t:Zlr}(h:TOk t)(j:Nat):t.slot j= .empty↔(j∉t.place.toList/\j∉t.dummies.toList):=by
 constructor
 .intro he
  refine⟨fun hm=>?_,fun hm=>?_⟩
  .obtain⟨i,hi⟩:=Zmr.mp hm
   rw[Zmg] at hi
   rw[(zhm h j i).mpr hi] at he;cases he
  .rw[(zii h j).mpr hm] at he;cases he
 .rintro⟨h1,h2⟩
  cases hs:t.slot j with
  | empty=>rfl
  | dummy=>exact absurd ((zii h j).mp hs) h2
  | live i =>
   have:=(zhm h j i).mp hs
   rw[<- Zmg] at this
   exact absurd (Zlv this) h1
theorem zw8:∀(n:Nat) (L:List Nat),(∀x,x<n->x∈L)->n<=L.length:=by
 intro n
 induction n with
 | zero=>intro L _;exact Zmt _
 | succ n ih =>
  intro L h
  have hn:n∈L:=h n (by lia)
  have h1:=ih (L.erase n) (fun x hx=>(Zxf (by lia)).mpr (h x (by lia)))
  have h2:=Zwh hn
  have h3:0<L.length:=Zq3 hn
  lia
theorem zoo{t:Zlr}(h:TOk t)(hr:t.fill<=t.mask):∃e,e<=t.mask/\t.slot e= .empty:=by
 refine Zru fun hc=>?_
 have hall:∀x,x<t.mask+1->x∈t.place.toList++t.dummies.toList:=by
  intro x hx
  refine Zru fun hn=>hc ⟨x,by lia,(zgl h x).mpr ?_⟩
  rw[Zme] at hn
  exact⟨fun a=>hn (.inl a),fun a=>hn (.inr a)⟩
 have:=zw8 _ _ hall
 simp only[Zyi,Zlw,Zm4] at this hr
 lia
noncomputable def lcg:Nat->Nat->Nat
 | 0,x=>x
 | n+1,x=>lcg n (5*x+1)
theorem zuf(m n x:Nat):lcg (m+n) x=lcg n (lcg m x):=by
 induction m generalizing x with
 | zero=>simp[lcg]
 | succ m ih=>rw[Nat.succ_add];exact ih _
theorem yh7:∀k,∃u v,∀x,lcg (2 ^ k) x=(1+2 ^ (k+2)*u)*x+2 ^ k*(2*v+1):=by
 intro k
 induction k with
 | zero=>exact⟨1,0,fun x=>by simp[lcg]⟩
 | succ k ih =>
  obtain⟨u,v,h⟩:=ih
  refine⟨u+2 ^ (k+1)*u*u,v+2 ^ k*u*(2*v+1),fun x=>?_⟩
  have e:2 ^ (k+1)=2 ^ k+2 ^ k:=by lia
  conv=>lhs;rw[e]
  rw[zuf,h,h]
  have e1:2 ^ (k+2)=4*2 ^ k:=by rw[Znt,Znt];lia
  have e2:2 ^ (k+1+2)=8*2 ^ k:=by rw[Znt,Znt,Znt];lia
  rw[e1,e2,e]
  generalize 2 ^ k=a
  grind
theorem yg9:∀k x e,∃s,s<2 ^ k/\lcg s x % 2 ^ k=e % 2 ^ k:=by
 intro k
 induction k with
 | zero=>intro x e;exact⟨0,by simp,by simp[Nat.mod_one]⟩
 | succ k ih =>
  intro x e
  obtain⟨s,hs,he⟩:=ih x e
  have e2:2 ^ (k+1)=2*2 ^ k:=by lia
  have hpos:0<2 ^ k:=Zzy k
  by_cases hc:lcg s x % 2 ^ (k+1)=e % 2 ^ (k+1)
  .exact⟨s,by lia,hc⟩
  .refine⟨s+2 ^ k,by lia,?_⟩
   rw[zuf]
   obtain⟨u,v,h⟩:=yh7 k
   rw[h]
   generalize lcg s x=y at *
   have h3:(1+2 ^ (k+2)*u)*y+2 ^ k*(2*v+1)=y+2 ^ k+2 ^ (k+1)*(2*u*y+v):=by
    have e1:2 ^ (k+2)=4*2 ^ k:=by rw[Znt,Znt];lia
    rw[e1,e2];generalize 2 ^ k=a;grind
   rw[h3,Zwf,e2]
   rw[e2] at hc
   generalize ha:2 ^ k=a at *
   -- y ≡ e mod a,not mod 2a
   have hy:=Zvq y a
   have hE:=Zvq e a
   rw[he] at hy
   generalize y / a=p at *
   generalize e / a=q at *
   generalize hr:e % a=r at *
   have hra:r<a:=by rw[<- hr];exact Zrw _ hpos
   subst hy
   have h5:∀z,(r+a*z) % (2*a)=if z % 2=0 then r else r+a:=by
    intro z
    have hz:=Zvq z 2
    have h6:r+a*z=r+a*(z % 2)+(2*a)*(z / 2):=by
     conv=>lhs;rw[<- hz]
     generalize z % 2=z1;generalize z / 2=z2;grind
    rw[h6,Zwf]
    rcases Zv6 z with h7 | h7
    .rw[h7,if_pos rfl];simp;exact Zsw (by lia)
    .rw[h7,if_neg (by lia)];simp;exact Zsw (by lia)
   have h7:r+a*p+a=r+a*(p+1):=by grind
   rw[<- hE] at hc ⊢
   rw[h7,h5,h5]
   rw[h5,h5] at hc
   by_cases hp2:p % 2=0 <;> by_cases hq2:q % 2=0 <;> simp only[hp2,hq2,if_true,if_false] at hc <;>
    (have:(p+1) % 2=0\/(p+1) % 2=1:=Zv6 _) <;> grind
end L2T
namespace L2T
open PySem SetTable
noncomputable def advM(mask:Nat)(p:Probe):Probe :=
 if p.more>0 then { p with j:=p.j+1,more:=p.more - 1 } else
 let (i,perturb):=leap mask p.i p.perturb
 { p with j:=i,more:=runEnd mask i - i,i,perturb }
theorem zew(t:Zlr)(p:Probe):t.advance p=advM t.mask p:=rfl
noncomputable def stM(mask i perturb:Nat):Probe:={ j:=i,more:=runEnd mask i - i,i,perturb,dummy:=none }
noncomputable def prM(mask:Nat)(h:Int):Nat->Probe
 | 0=>stM mask (bits h % (mask+1)) (bits h)
 | n+1=>advM mask (prM mask h n)
noncomputable def posM(mask:Nat)(h:Int)(n:Nat):Nat:=(prM mask h n).j
noncomputable def lpM(mask:Nat)(h:Int):Nat->Nat×Nat
 | 0=>(bits h % (mask+1),bits h)
 | m+1=>leap mask (lpM mask h m).1 (lpM mask h m).2
noncomputable def lpS(mask:Nat)(h:Int)(m:Nat):Probe:=stM mask (lpM mask h m).1 (lpM mask h m).2
theorem yi9(mask:Nat):∀(r:Nat) (p:Probe) (F:Nat->Probe),(∀n,F (n+1)=advM mask (F n))->F 0=p->r<=p.more->F r={ p with j:=p.j+r,more:=p.more - r }:=by
 intro r
 induction r with
 | zero=>intro p F hF h0 hr;rw[h0];rfl
 | succ r ih =>
  intro p F hF h0 hr
  rw[hF,ih p F hF h0 (by lia)]
  unfold advM
  rw[if_pos (by show p.more - r>0;lia)]
  show({ p with j:=p.j+r+1,more:=p.more - r - 1 }:Probe)=_
  congr 1
theorem yck(mask i:Nat):runEnd mask i - i<=9:=by unfold runEnd;split <;> lia
theorem ybh(mask:Nat)(h:Int)(n m:Nat)(hs:prM mask h n=lpS mask h m) :
  prM mask h (n+(runEnd mask (lpM mask h m).1 - (lpM mask h m).1)+1)=lpS mask h (m+1) /\
  ∀r,r<=runEnd mask (lpM mask h m).1 - (lpM mask h m).1->posM mask h (n+r)=(lpM mask h m).1+r:=by
 have hrun:=fun r hr=>yi9 mask r (lpS mask h m) (fun k=>prM mask h (n+k)) (fun k=>rfl) hs hr
 refine⟨?_,fun r hr=>?_⟩
 .show advM mask (prM mask h (n+(runEnd mask (lpM mask h m).1 - (lpM mask h m).1)))=_
  rw[hrun (runEnd mask (lpM mask h m).1 - (lpM mask h m).1) (Zlt _)]
  unfold advM
  rw[if_neg (by show ¬ (lpS mask h m).more - (runEnd mask (lpM mask h m).1 - (lpM mask h m).1)>0;show ¬ (runEnd mask (lpM mask h m).1 - (lpM mask h m).1) - (runEnd mask (lpM mask h m).1 - (lpM mask h m).1)>0;lia)]
  rfl
 .unfold posM
  rw[hrun r hr];rfl
theorem yjb(mask:Nat)(h:Int):∀m,∃n,n<=10*m/\prM mask h n=lpS mask h m:=by
 intro m
 induction m with
 | zero=>exact⟨0,by lia,rfl⟩
 | succ m ih =>
  obtain⟨n,hn,he⟩:=ih
  have:=yck mask (lpM mask h m).1
  exact⟨_,by lia,(ybh mask h n m he).1⟩
theorem yjg(h:Int):bits h<2 ^ 64:=by
 unfold bits
 have:h % (2 ^ 64:Int)<2 ^ 64:=Zmp _ (by decide)
 lia
theorem yk2(mask:Nat)(h:Int):∀m,(lpM mask h m).2=bits h / 32 ^ m:=by
 intro m
 induction m with
 | zero=>simp[lpM]
 | succ m ih=>show(lpM mask h m).2 / 32=_;rw[ih,Nat.div_div_eq_div_mul,Znt]
theorem yiw(mask:Nat)(h:Int)(m:Nat)(hm:13<=m):(lpM mask h m).2=0:=by
 rw[yk2]
 have h1:=yjg h
 have h2:32 ^ 13<=32 ^ m:=Zxo (by decide) hm
 exact Nat.div_eq_of_lt (by have:(32:Nat) ^ 13=2 ^ 65:=(by decide);lia)
theorem ymr(mask:Nat)(h:Int)(m:Nat):(lpM mask h m).1<mask+1:=by
 cases m with
 | zero=>exact Zrw _ (by lia)
 | succ m=>exact Zrw _ (by lia)
theorem ykl(mask:Nat)(h:Int):∀s,(lpM mask h (13+s)).1=lcg s (lpM mask h 13).1 % (mask+1):=by
 intro s
 induction s with
 | zero=>exact(Zsw (ymr mask h 13)).symm
 | succ s ih =>
  show((lpM mask h (13+s)).1*5+1+(lpM mask h (13+s)).2 / 32) % (mask+1)=_
  rw[yiw mask h (13+s) (by lia),ih,zuf]
  show _=(5*lcg s (lpM mask h 13).1+1) % (mask+1)
  generalize lcg s (lpM mask h 13).1=y
  simp[Nat.add_mod,Nat.mul_mod,Yb7]
theorem yf9(mask k:Nat)(hk:mask+1=2 ^ k)(h:Int)(e:Nat)(he:e<=mask):∃m,m<=13+mask/\(lpM mask h m).1=e:=by
 obtain⟨s,hs,hl⟩:=yg9 k (lpM mask h 13).1 e
 refine⟨13+s,by lia,?_⟩
 rw[ykl,hk,hl,<- hk]
 exact Zsw (by lia)
theorem yai(mask k:Nat)(hk:mask+1=2 ^ k)(h:Int)(e:Nat)(he:e<=mask):∃n,n<10*turns mask/\posM mask h n=e:=by
 obtain⟨m,hm,hl⟩:=yf9 mask k hk h e he
 obtain⟨n,hn,hp⟩:=yjb mask h m
 refine⟨n,by unfold turns;lia,?_⟩
 unfold posM;rw[hp];exact hl
noncomputable def zub(p q:Probe):Prop:=p.j=q.j/\p.more=q.more/\p.i=q.i/\p.perturb=q.perturb
theorem zqc(mask:Nat){p q:Probe}(h:zub p q):zub (advM mask p) (advM mask q):=by
 obtain⟨h1,h2,h3,h4⟩:=h
 unfold advM
 rw[h2,h3,h4,h1]
 split
 .exact⟨rfl,rfl,rfl,rfl⟩
 .exact⟨rfl,rfl,rfl,rfl⟩
theorem zmr(mask:Nat)(p:Probe):(advM mask p).dummy=p.dummy:=by
 unfold advM;split <;> rfl
theorem zvz (t : Zlr) (hashAt : Nat -> Int) (h : Int) : ∀ (fuel : Nat) (p : Probe) (n : Nat), zub p (prM t.mask h n) ->
    (∃N,n<=N/\N<n+fuel/\t.slot (posM t.mask h N)= .empty) ->
    ∃m,n<=m/\(∀q,n<=q->q<m->t.slot (posM t.mask h q) ≠ .empty /\ ∀i,t.slot (posM t.mask h q)= .live i->hashAt i≠h) /\
      ∃d,(d=p.dummy \/ ∃q,n<=q/\q<m/\d=some (posM t.mask h q)/\t.slot (posM t.mask h q)= .dummy) /\
      ((t.slot (posM t.mask h m)= .empty/\probe.go t hashAt h fuel p=some (.empty (posM t.mask h m) d)) \/
       (∃i nx,t.slot (posM t.mask h m)= .live i/\hashAt i=h/\probe.go t hashAt h fuel p=some (.candidate (posM t.mask h m) i nx)/\zub nx (prM t.mask h (m+1))/\nx.dummy=d)):=by
  intro fuel
  induction fuel with
  | zero=>rintro p n hs ⟨N,h1,h2,_⟩;omega
  | succ fuel ih =>
    rintro p n hs ⟨N,h1,h2,h3⟩
    have hj:p.j=posM t.mask h n:=hs.1
    unfold probe.go
    rw[hj]
    cases hsl:t.slot (posM t.mask h n) with
    | empty =>
      exact⟨n,Zlt _,fun q a b=>by lia,p.dummy,.inl rfl,.inl ⟨hsl,rfl⟩⟩
    | dummy =>
      have hN:N≠n:=fun e=>by subst e;rw[hsl] at h3;cases h3
      have hs':zub (t.advance { p with dummy:=some (posM t.mask h n) }) (prM t.mask h (n+1)):=by
        rw[zew];exact zqc _ (p:={ p with dummy:=some (posM t.mask h n) }) ⟨hs.1,hs.2.1,hs.2.2.1,hs.2.2.2⟩
      obtain⟨m,hm,hq,d,hd,hr⟩:=ih _ (n+1) hs' ⟨N,by lia,by lia,h3⟩
      refine⟨m,by lia,?_,d,?_,?_⟩
      · intro q a b
        rcases Zub a with e | e
        · subst e;exact⟨(by rw[hsl];exact fun x=>(by cases x)),fun i hi=>by rw[hsl] at hi;cases hi⟩
        · exact hq q e b
      · rcases hd with hd | ⟨q,a,b,c,e⟩
        · refine .inr ⟨n,Zlt _,by lia,?_,hsl⟩
          rw[hd,zew,zmr]
        · exact .inr ⟨q,by lia,b,c,e⟩
      · rw[hj] at hr;exact hr
    | live i =>
      dsimp only
      by_cases hh:hashAt i=h
      · refine⟨n,Zlt _,fun q a b=>by lia,p.dummy,.inl rfl,.inr ⟨i,t.advance p,hsl,hh,?_,?_,?_⟩⟩
        · rw[if_pos (by rw[hh];exact beq_self_eq_true h)]
        · rw[zew];exact zqc _ hs
        · rw[zew,zmr]
      · have hN:N≠n:=fun e=>by subst e;rw[hsl] at h3;cases h3
        obtain⟨m,hm,hq,d,hd,hr⟩:=ih (t.advance p) (n+1) (by rw[zew];exact zqc _ hs) ⟨N,by lia,by lia,h3⟩
        refine⟨m,by lia,?_,d,?_,?_⟩
        · intro q a b
          rcases Zub a with e | e
          · subst e;exact⟨(by rw[hsl];exact fun x=>(by cases x)),fun i' hi=>by rw[hsl] at hi;cases hi;exact hh⟩
          · exact hq q e b
        · rcases hd with hd | ⟨q,a,b,c,e⟩
          · exact .inl (by rw[hd,zew,zmr])
          · exact .inr ⟨q,by lia,b,c,e⟩
        · rw[if_neg (by rw[beq_iff_eq];exact hh)];exact hr
noncomputable def zph(t:Zlr)(h:Int)(j:Nat):Prop:=∃n,posM t.mask h n=j /\ ∀m,m<n->t.slot (posM t.mask h m) ≠ .empty
theorem zoj(mask k:Nat)(hk:mask+1=2 ^ k)(h:Int):∀n,posM mask h n<=mask:=by
 have key:∀n,(prM mask h n).j+(prM mask h n).more<=mask:=by
  intro n
  have hst:∀i p,i<mask+1->(stM mask i p).j+(stM mask i p).more<=mask:=by
   intro i p hi;show i+(runEnd mask i - i)<=mask;unfold runEnd;split <;> lia
  induction n with
  | zero=>exact hst _ _ (Zrw _ (by lia))
  | succ n ih =>
   show(advM mask (prM mask h n)).j+(advM mask (prM mask h n)).more<=mask
   unfold advM
   split
   .show(prM mask h n).j+1+((prM mask h n).more - 1)<=mask;lia
   .exact hst _ (leap mask (prM mask h n).i (prM mask h n).perturb).2 (Zrw _ (by lia))
 intro n
 have:=key n
 unfold posM;lia
structure SOk{α:Type}(t:Zlr)(es:List (Int×α)):Prop where
 ok:TOk t
 room:t.fill*5<t.mask*3
 size:t.place.size=es.length
 reach:∀c∈t.place.toList.zip es,zph t c.2.1 c.1
theorem yae(mask:Nat)(owner:Array (Option Nat))(h:Int):∀(fuel m n:Nat),prM mask h n=lpS mask h m ->
  (∀q,q<n->owner.getD (posM mask h q) (some 0)≠none)->(∃M,m<=M/\M<m+fuel/\owner.getD (lpM mask h M).1 (some 0)=none) ->
  ∃j n',layClean.free mask owner fuel (lpM mask h m).1 (lpM mask h m).2=some j/\posM mask h n'=j/\owner.getD j (some 0)=none /\ ∀q,q<n'->owner.getD (posM mask h q) (some 0)≠none:=by
 intro fuel
 induction fuel with
 | zero=>rintro m n hs hq ⟨M,a,b,c⟩;omega
 | succ fuel ih =>
  rintro m n hs hq ⟨M,a,b,c⟩
  obtain⟨hnx,hrun⟩:=ybh mask h n m hs
  unfold layClean.free
  cases hf:(Zl6 (runEnd mask (lpM mask h m).1+1 - (lpM mask h m).1)).find? (fun k=>(owner.getD ((lpM mask h m).1+k) (some 0)).isNone) with
  | some k =>
   obtain⟨h1,h2,h3⟩:=List.find?_range_eq_some.mp hf
   rw[Zm3] at h2
   dsimp only
   refine⟨_,n+k,rfl,hrun k (by lia),by simpa using h1,?_⟩
   intro q hqq
   rcases Zph q n with hl | hl
   .exact hq q hl
   .have:=h3 (q - n) (by lia)
    have e:=hrun (q - n) (by omega)
    rw[show n+(q - n)=q by lia] at e
    rw[e]
    intro hc;rw[hc] at this;simp at this
  | none =>
   rw[List.find?_eq_none] at hf
   have hocc:∀k,k<=runEnd mask (lpM mask h m).1 - (lpM mask h m).1->owner.getD ((lpM mask h m).1+k) (some 0)≠none:=by
    intro k hk hc
    have hle:(lpM mask h m).1<=runEnd mask (lpM mask h m).1:=by unfold runEnd;split <;> lia
    exact hf k (Zm3.mpr (by lia)) (by rw[hc];rfl)
   have hM:M≠m:=fun e=>by subst e;exact hocc 0 (Zmt _) c
   dsimp only
   refine ih (m+1) _ hnx ?_ ⟨M,by lia,by lia,c⟩
   intro q hqq
   rcases Zph q n with hl | hl
   .exact hq q hl
   .have e:=hrun (q - n) (by lia)
    rw[show n+(q - n)=q by lia] at e
    rw[e]
    exact hocc _ (by lia)
theorem zwd{α β:Type}{f g:α->Option β}:∀l:List α,(∀x∈l,f x=g x)->l.filterMap f=l.filterMap g:=by
 intro l
 induction l with
 | nil=>intro _;rfl
 | cons x l ih=>intro h;simp only[Zn9,h x (.head _),ih (fun y hy=>h y (.tail _ hy))]
theorem yfk{α:Type}:∀l:List α,(Zl6 l.length).filterMap (fun i=>l[i]?)=l:=by
 intro l
 induction l with
 | nil=>rfl
 | cons x l ih =>
  rw[Zl1,Zsx,Znq (b:=x) (by rfl),List.filterMap_map]
  congr 1
noncomputable def zgy(mask:Nat)(owner:Array (Option Nat)):List (Nat×Nat):=(Zl6 (mask+1)).filterMap fun j=>(owner.getD j none).map (j,·)
theorem yju{α β:Type}[DecidableEq α](f f':α->Option β)(x:α)(v:β)(h0:f x=none)(h1:f' x=some v)(h2:∀y,y≠x->f' y=f y) :
  ∀l:List α,l.Nodup->x∈l->(l.filterMap f').Perm (v::l.filterMap f):=by
 intro l
 induction l with
 | nil=>intro _ h;cases h
 | cons y l ih =>
  intro hn hx
  rw[Zn3] at hn
  by_cases he:y=x
  .subst he
   rw[Znq h1,Zqo h0]
   have:l.filterMap f'=l.filterMap f:=by
    refine zwd _ fun z hz=>h2 z (fun e=>hn.1 (e ▸ hz))
   rw[this]
  .have hx':x∈l:=by rcases Zly.mp hx with e | e;exact absurd e.symm he;exact e
   have hi:=ih hn.2 hx'
   cases hf:f y with
   | none=>rw[Zqo (by rw[h2 y he];exact hf),Zqo hf];exact hi
   | some b =>
    rw[Znq (by rw[h2 y he];exact hf),Znq hf]
    exact(hi.cons b).trans (Zus _ _ _)
theorem ymb{α β:Type}(f:α->Option β):∀l:List α,(∀x∈l,f x≠none)->(l.filterMap f).length=l.length:=by
 intro l
 induction l with
 | nil=>intro _;rfl
 | cons x l ih =>
  intro h
  cases hf:f x with
  | none=>exact absurd hf (h x (.head _))
  | some b=>rw[Znq hf,Zl1,Zl1,ih (fun y hy=>h y (.tail _ hy))]
structure LInv(mask:Nat)(hs:List Int)(owner:Array (Option Nat)):Prop where
 size:owner.size=mask+1
 perm:((zgy mask owner).map (·.2)).Perm (Zl6 hs.length)
 reach:∀j i,owner.getD j none=some i-> ∃h,hs[i]? = some h /\ ∃n,posM mask h n=j /\ ∀q,q<n->owner.getD (posM mask h q) (some 0)≠none
theorem zll(owner:Array (Option Nat))(j k x:Nat)(d:Option Nat)(hj:j<owner.size):(owner.setIfInBounds j (some k)).getD x d=if x=j then some k else owner.getD x d:=by
 simp only[Znr,Array.getElem?_setIfInBounds]
 by_cases h:x=j
 .subst h;simp[hj]
 .rw[if_neg (fun e=>h e.symm),if_neg h]
theorem zp1(owner:Array (Option Nat))(j:Nat)(hj:j<owner.size):owner.getD j (some 0)=owner.getD j none:=by
 simp[Zq4,hj]
theorem yc9(mask k:Nat)(hk:mask+1=2 ^ k)(hs:List Int)(owner:Array (Option Nat))(h:Int)(inv:LInv mask hs owner)(hroom:hs.length<mask+1) :
  ∃j,layClean.free mask owner (turns mask) (bits h % (mask+1)) (bits h)=some j/\LInv mask (hs++[h]) (owner.setIfInBounds j (some hs.length)):=by
 have hex:∃e,e<=mask/\owner.getD e none=none:=by
  refine Zru fun hc=>?_
  have hl:=ymb (fun j=>(owner.getD j none).map (fun i=>(j,i))) (Zl6 (mask+1)) (fun x hx hn=>hc ⟨x,by have:=Zm3.mp hx;lia,by simpa using hn⟩)
  have hp:=inv.perm.length_eq
  rw[Zlm] at hp
  unfold zgy at hp
  rw[hl] at hp
  simp at hp;lia
 obtain⟨e,he,hn⟩:=hex
 obtain⟨M,hM,hMe⟩:=yf9 mask k hk h e he
 obtain⟨j,n',hf,hp,hj,hq⟩:=yae mask owner h (turns mask) 0 0 rfl (fun q hq=>by lia)
  ⟨M,by lia,by unfold turns;lia,by rw[hMe,zp1 _ _ (by rw[inv.size];lia)];exact hn⟩
 have hjm:j<=mask:=by rw[<- hp];exact zoj mask k hk h n'
 have hjs:j<owner.size:=by rw[inv.size];lia
 refine⟨j,hf,?_,?_,?_⟩
 .simp[inv.size]
 .have hone:(zgy mask (owner.setIfInBounds j (some hs.length))).Perm ((j,hs.length)::zgy mask owner):=by
   unfold zgy
   refine yju _ _ j (j,hs.length) ?_ ?_ ?_ _ List.nodup_range (Zm3.mpr (by lia))
   .rw[<- zp1 _ _ hjs,hj];rfl
   .rw[zll _ _ _ _ _ hjs,if_pos rfl];rfl
   .intro y hy;rw[zll _ _ _ _ _ hjs,if_neg hy]
  refine(hone.map _).trans ?_
  rw[Zl0,Zlw,Znf,Zo3]
  exact((Yds _ inv.perm)).trans (List.perm_append_comm (l₁:=[hs.length]))
 .intro x i hx
  rw[zll _ _ _ _ _ hjs] at hx
  have hne:∀y,owner.getD y (some 0)≠none->(owner.setIfInBounds j (some hs.length)).getD y (some 0)≠none:=by
   intro y hy;rw[zll _ _ _ _ _ hjs];split
   .exact fun c=>by cases c
   .exact hy
  by_cases hxj:x=j
  .rw[if_pos hxj] at hx
   cases hx
   refine⟨h,by simp,n',by rw[hp,hxj],fun q hqq=>hne _ (hq q hqq)⟩
  .rw[if_neg hxj] at hx
   obtain⟨h',e1,n,e2,e3⟩:=inv.reach x i hx
   refine⟨h',?_,n,e2,fun q hqq=>hne _ (e3 q hqq)⟩
   rw[Zn4 (Zlq.mp e1).1];exact e1
theorem yer(mask k:Nat)(hk:mask+1=2 ^ k):∀(hs done:List Int) (owner:Array (Option Nat)),LInv mask done owner->(done++hs).length<=mask ->
  ∃owner',hs.foldl (fun acc h=>do
    let (owner,k) <- acc
    let j <- layClean.free mask owner (turns mask) (bits h % (mask+1)) (bits h)
    pure (owner.setIfInBounds j (some k),k+1)) (some (owner,done.length))=some (owner',(done++hs).length)/\LInv mask (done++hs) owner':=by
 intro hs
 induction hs with
 | nil=>intro done owner inv _;exact⟨owner,by simp,by simpa using inv⟩
 | cons h hs ih =>
  intro done owner inv hl
  obtain⟨j,hf,inv'⟩:=yc9 mask k hk done owner h inv (by simp at hl;lia)
  obtain⟨ow,h1,h2⟩:=ih (done++[h]) _ inv' (by simpa using hl)
  refine⟨ow,?_,by simpa using h2⟩
  rw[List.foldl_cons]
  simp only[Zw1,Zx6,hf,Zyk]
  rw[show(done++h::hs).length=(done++[h]++hs).length by simp,<- h1]
  simp
theorem zy9(mask k:Nat)(hk:mask+1=2 ^ k)(hs:Array Int)(hl:hs.size<=mask):∃owner,layClean mask hs=some owner/\LInv mask hs.toList owner:=by
 obtain⟨ow,h1,h2⟩:=yer mask k hk hs.toList [] (Zze (mask+1) none) ⟨by simp,by
   have:zgy mask (Zze (mask+1) none)=[]:=by
    unfold zgy
    rw[List.filterMap_eq_nil_iff]
    intro x hx
    simp[Znr,Zv9]
    split <;> simp
   rw[this];simp,fun j i h=>by
   simp[Znr,Zv9] at h
   split at h <;> simp at h⟩ (by simpa using hl)
 refine⟨ow,?_,by simpa using h2⟩
 unfold layClean
 rw[<- Array.foldl_toList]
 rw[show(([]:List Int).length)=0 from rfl] at h1
 rw[h1];rfl
theorem zy7(g:Nat->Option Nat):∀l:List Nat,((l.filterMap fun j=>(g j).map (j,·)).map (·.1)).Sublist l:=by
 intro l
 induction l with
 | nil=>exact Yca
 | cons x l ih =>
  cases hg:g x with
  | none=>rw[Zqo (by rw[hg];rfl)];exact ih.cons x
  | some v=>rw[Znq (b:=(x,v)) (by rw[hg];rfl)];exact ih.cons_cons x
theorem yln{α:Type}(g:Nat->Option α):∀L:List (Nat×Nat),(∀p∈L,g p.2≠none)-> ∀c∈(L.map (·.1)).zip ((L.map (·.2)).filterMap g),∃p∈L,c.1=p.1/\g p.2=some c.2:=by
 intro L
 induction L with
 | nil=>intro _ c hc;simp at hc
 | cons p L ih =>
  intro h c hc
  cases hg:g p.2 with
  | none=>exact absurd hg (h p (.head _))
  | some v =>
   rw[Zl0,Zl0,Znq hg,Zr7] at hc
   rcases Zly.mp hc with e | e
   .exact⟨p,.head _,by rw[e],by rw[e];exact hg⟩
   .obtain⟨p',h1,h2⟩:=ih (fun q hq=>h q (.tail _ hq)) c e
    exact⟨p',.tail _ h1,h2⟩
theorem yh0{α:Type}(mask k:Nat)(hk:mask+1=2 ^ (k+3))(hb:mask<=8191)(finger moves:Nat)(led plain:Bool)(es:Array (Int×α))(hroom:es.size*5<mask*3) :
  ∃t order,laid mask finger moves led plain (es.map (·.1))=some (t,order)/\t.mask=mask/\t.dummies= #[]/\t.led=led/\t.plain=plain/\t.finger=finger/\t.moves=moves /\
   order.toList.Perm (Zl6 es.size)/\(order.filterMap (es[·]?)).toList.Perm es.toList/\(order.filterMap (es[·]?)).size=es.size/\SOk t (order.filterMap (es[·]?)).toList:=by
 obtain⟨ow,h1,inv⟩:=zy9 mask _ hk (es.map (·.1)) (by simp;lia)
 have hlen:(es.map (·.1)).toList.length=es.size:=by simp
 have hperm:=inv.perm
 rw[hlen] at hperm
 unfold laid
 rw[h1]
 have hL:(Zl6 (mask+1)).filterMap (fun j=>(ow.getD j none).map (j,·))=zgy mask ow:=rfl
 simp only[Zw1,Zx6,Zyk,hL]
 refine⟨_,_,rfl,rfl,rfl,rfl,rfl,rfl,rfl,hperm,?_⟩
 have hlist:((((zgy mask ow).map (·.2)).toArray).filterMap (es[·]?)).toList=((zgy mask ow).map (·.2)).filterMap (es[·]?):=by simp
 have hp2:((((zgy mask ow).map (·.2)).toArray).filterMap (es[·]?)).toList.Perm es.toList:=by
  rw[hlist]
  refine(hperm.filterMap _).trans ?_
  have:(Zl6 es.size).filterMap (fun i=>es[i]?)=es.toList:=by
   have h:=yfk es.toList
   rw[Zm4] at h
   rw[<- h]
   refine zwd _ fun x _=>(Zmg ..).symm ▸ ?_
   simp
  rw[this]
 refine⟨hp2,?_,?_⟩
 .rw[<- Zm4,hp2.length_eq,Zm4]
 .have hsub:=zy7 (fun j=>ow.getD j none) (Zl6 (mask+1))
  have htok:TOk { mask:=mask,place:=((zgy mask ow).map (·.1)).toArray,dummies:=#[],finger:=finger,led:=led,moves:=moves,plain:=plain }:=by
   refine⟨?_,by simp,?_,by simp,by simp,⟨k,hk⟩,hb⟩
   .show(((zgy mask ow).map (·.1)).toArray).toList.Pairwise (· < ·)
    exact Zut hsub List.pairwise_lt_range
   .intro j hj
    have:=hsub.subset hj
    rw[Zm3] at this
    show j<=mask;lia
  have hmem:∀j,ow.getD j none≠none->j∈(zgy mask ow).map (·.1):=by
   intro j hj
   have hjs:j<ow.size:=by
    refine Zzh fun c=>hj ?_
    simp[Zq4,Nat.not_lt.mpr c]
   cases hg:ow.getD j none with
   | none=>exact absurd hg hj
   | some i=>exact Zl2.mpr ⟨(j,i),Zr8.mpr ⟨j,Zm3.mpr (by rw[<- inv.size];exact hjs),by rw[hg];rfl⟩,rfl⟩
  have hlt:∀p∈zgy mask ow,ow.getD p.1 none=some p.2:=by
   intro p hp
   obtain⟨j,_,hj⟩:=Zr8.mp hp
   cases hg:ow.getD j none with
   | none=>rw[hg] at hj;cases hj
   | some i=>rw[hg] at hj;cases hj;exact hg
  have hin:∀p∈zgy mask ow,p.2<es.size:=by
   intro p hp
   have:p.2∈(zgy mask ow).map (·.2):=Zl2.mpr ⟨p,hp,rfl⟩
   exact Zm3.mp (hperm.mem_iff.mp this)
  refine⟨htok,?_,?_,?_⟩
  .show(((zgy mask ow).map (·.1)).toArray.size+0)*5<mask*3
   have:=hperm.length_eq
   simp at this ⊢
   rw[this];exact hroom
  .rw[hp2.length_eq]
   have:=hperm.length_eq
   simp at this ⊢
   exact this
  .intro c hc
   rw[hlist] at hc
   obtain⟨p,hp,e1,e2⟩:=yln (fun i=>es[i]?) (zgy mask ow) (fun p hp=>by
    rw[Zl9 (hin p hp)];exact fun c=>by cases c) c hc
   obtain⟨h',a1,n,a2,a3⟩:=inv.reach p.1 p.2 (hlt p hp)
   have hh:h'=c.2.1:=by
    rw[Zyo,Zlx,Zmg,e2] at a1
    simpa using a1.symm
   subst hh
   refine⟨n,by rw[e1];exact a2,fun m hm hc=>?_⟩
   have:=(zgl htok _).mp hc
   refine this.1 (hmem _ ?_)
   have h3:=a3 m hm
   rwa [zp1 _ _ (by rw[inv.size];exact Nat.lt_succ_of_le (zoj mask _ hk _ _))] at h3
theorem zxi(t t':Zlr)(h1:t'.place=t.place)(h2:t'.dummies=t.dummies)(j:Nat):t'.slot j=t.slot j:=by
 unfold slot;rw[h1,h2]
theorem zkf{t t':Zlr}(hm:t'.mask=t.mask)(h:∀j,t.slot j ≠ .empty->t'.slot j ≠ .empty){x:Int}{j:Nat}(hr:zph t x j):zph t' x j:=by
 obtain⟨n,h1,h2⟩:=hr
 exact⟨n,by rw[hm];exact h1,fun m hm'=>by rw[hm];exact h _ (h2 m hm')⟩
theorem zqs{α:Type}{t t':Zlr}{es:List (Int×α)}(h:SOk t es)(hm:t'.mask=t.mask)(h1:t'.place=t.place)(h2:t'.dummies=t.dummies):SOk t' es:=by
 obtain⟨⟨a1,a2,a3,a4,a5,a6,a7⟩,b,c,d⟩:=h
 refine⟨⟨by rw[h1];exact a1,by rw[h2];exact a2,by rw[h1,hm];exact a3,by rw[h2,hm];exact a4,by rw[h1,h2];exact a5,by rw[hm];exact a6,by rw[hm];exact a7⟩,?_,by rw[h1];exact c,?_⟩
 .unfold fill at *;rw[h1,h2,hm];exact b
 .rw[h1];intro x hx
  exact zkf hm (fun j hj=>by rw[zxi t t' h1 h2];exact hj) (d x hx)
theorem zqp{α:Type}(finger moves:Nat)(led:Bool):SOk (α:=α) (fresh finger moves led) []:=by
 refine⟨⟨by simp[Zpa],by simp[Zpa],by simp[Zpa],by simp[Zpa],by simp[Zpa],⟨0,by simp[Zpa]⟩,by simp[Zpa]⟩,by simp[Zpa,Zyi],by simp[Zpa],?_⟩
 intro c hc;simp at hc
theorem zsa(n:Nat):∀(fuel size:Nat),(∃k,size=2 ^ (k+3))->n<size*2 ^ fuel ->
  (∃k,sizeAbove.go n fuel size=2 ^ (k+3))/\n<sizeAbove.go n fuel size/\(sizeAbove.go n fuel size<=size\/sizeAbove.go n fuel size<=2*n):=by
 intro fuel
 induction fuel with
 | zero=>intro size hk hn;unfold sizeAbove.go;exact⟨hk,by simpa using hn,.inl (Zlt _)⟩
 | succ fuel ih =>
  intro size hk hn
  unfold sizeAbove.go
  by_cases hc:size<=n
  .rw[if_pos hc]
   obtain⟨k,hk⟩:=hk
   obtain⟨h1,h2,h3⟩:=ih (size*2) ⟨k+1,by rw[hk,Znt,Znt,Znt,Znt,Znt,Znt,Znt]⟩ (by
    rw[Znt] at hn;rw[Nat.mul_assoc,Yb7 2];exact hn)
   refine⟨h1,h2,.inr ?_⟩
   rcases h3 with h3 | h3 <;> omega
  .rw[if_neg hc]
   exact⟨hk,by lia,.inl (Zlt _)⟩
theorem zkv(n:Nat)(hn:n<=4095):(∃k,sizeAbove n - 1+1=2 ^ (k+3))/\n<=sizeAbove n - 1/\7<=sizeAbove n - 1/\sizeAbove n - 1<=8191/\sizeAbove n<=8192:=by
 obtain⟨⟨k,h1⟩,h2,h3⟩:=zsa n 64 8 ⟨0,by decide⟩ (Zua hn (by decide))
 have h1':sizeAbove n=2 ^ (k+3):=h1
 have h2':n<sizeAbove n:=h2
 have h3':sizeAbove n<=8\/sizeAbove n<=2*n:=h3
 have hk:8<=2 ^ (k+3):=by rw[Nat.pow_add];have:=Zzy k;lia
 refine⟨⟨k,by omega⟩,by omega,by omega,by omega,by omega⟩
theorem zs7{α:Type}(t:Zlr)(es:Array (Int×α))(wanted:Nat)(h1:2*es.size<=wanted)(h2:wanted<=4095) :
  ∃t' order,t.relaid (es.map (·.1)) wanted=some (t',order)/\t'.dummies= #[]/\t'.mask=sizeAbove wanted - 1/\t'.led=t.led/\t'.plain=t.plain /\
   order.toList.Perm (Zl6 es.size)/\(order.filterMap (es[·]?)).toList.Perm es.toList/\(order.filterMap (es[·]?)).size=es.size/\SOk t' (order.filterMap (es[·]?)).toList:=by
 obtain⟨⟨k,hk⟩,a,b,c,_⟩:=zkv wanted h2
 obtain⟨t',order,e1,e2,e3,e4,e5,e6,e7,e8,e9,e10,e11⟩:=yh0 (sizeAbove wanted - 1) k hk c t.finger (t.movedTo (sizeAbove wanted - 1)) t.led t.plain es (by lia)
 exact⟨t',order,e1,e3,e2,e4,e5,e8,e9,e10,e11⟩
theorem yah{α β:Type}:∀(p:Nat) (l:List α) (m:List β),(l.zip m).take p=(l.take p).zip (m.take p):=by
 intro p
 induction p with
 | zero=>intro l m;simp
 | succ p ih=>intro l m;cases l with
  | nil=>simp
  | cons a l=>cases m with
   | nil=>simp
   | cons b m=>simp[ih]
theorem ya1{α β:Type}:∀(p:Nat) (l:List α) (m:List β),(l.zip m).drop p=(l.drop p).zip (m.drop p):=by
 intro p
 induction p with
 | zero=>intro l m;simp
 | succ p ih=>intro l m;cases l with
  | nil=>simp
  | cons a l=>cases m with
   | nil=>simp
   | cons b m=>simp[ih]
theorem zwy{α β:Type}(p:Nat)(a:α)(b:β):∀(l:List α) (m:List β),l.length=m.length ->
  (l.take p++a::l.drop p).zip (m.take p++b::m.drop p)=(l.zip m).take p++(a,b)::(l.zip m).drop p:=by
 intro l m h
 rw[List.zip_append (by simp[h]),Zr7,<- yah,<- ya1]
theorem zb2{α:Type}(p:Nat)(a:α)(l:List α):(l.take p++a::l.drop p).Perm (a::l):=by
 have h:(l.take p++a::l.drop p).Perm (a::(l.take p++l.drop p)):=Zy5
 rw[Zrf] at h;exact h
theorem zs9(xs:Array Nat)(i:Nat)(j:Nat)(hp:xs.toList.Pairwise (· < ·))(h:xs[i]? = some j)(x:Nat):x∈(eraseAt xs i).toList↔x∈xs.toList/\x≠j:=by
 rw[zfz]
 rw[<- Zmg] at h
 obtain⟨hi,hx⟩:=Zlq.mp h
 have hsp:xs.toList=xs.toList.take i++j::xs.toList.drop (i+1):=by
  rw[<- hx,Zw0,Zrf]
 have hp':=hp
 rw[hsp,Zxe,Zt5] at hp'
 obtain⟨p1,⟨p2,p3⟩,p4⟩:=hp'
 rw[Zme]
 constructor
 .rintro(h1 | h1)
  .have:=p4 x h1 j (.head _);exact⟨Zrp h1,by lia⟩
  .have:=p2 x h1;exact⟨Ztl h1,by lia⟩
 .rintro⟨h1,h2⟩
  rw[hsp,Zme] at h1
  rcases h1 with h1 | h1
  .exact .inl h1
  .rcases Zly.mp h1 with e | e
   .exact absurd e h2
   .exact .inr e
theorem yf1{α:Type}(t:Zlr)(es:Array (Int×α))(h:Int)(x:α)(s:Nat)(ok:SOk t es.toList)(hs:t.slot s= .empty\/t.slot s= .dummy)(hm:s<=t.mask)(hr:zph t h s) :
  TOk (t.put s).1/\(t.put s).1.mask=t.mask/\(t.put s).1.place.size=(insertAt es (t.put s).2 (h,x)).size /\
  (∀c∈(t.put s).1.place.toList.zip (insertAt es (t.put s).2 (h,x)).toList,zph (t.put s).1 c.2.1 c.1) /\
  (t.put s).1.fill<=t.fill+1/\(t.slot s= .dummy->(t.put s).1.fill=t.fill)/\(insertAt es (t.put s).2 (h,x)).toList.Perm ((h,x)::es.toList) /\
  (t.put s).1.led=t.led/\(t.put s).1.plain=t.plain:=by
 obtain⟨⟨a1,a2,a3,a4,a5,a6,a7⟩,b,c,d⟩:=ok
 have tok:TOk t:=⟨a1,a2,a3,a4,a5,a6,a7⟩
 have hnp:s∉t.place.toList:=by
  rcases hs with hs | hs
  .exact((zgl tok s).mp hs).1
  .exact a5 s ((zii tok s).mp hs)
 have hb:=(zie t.place s a1).1
 have hbe:below t.place s<=es.size:=by have:t.place.size=es.size:=(by simpa using c);lia
 have hd':∀y,y∈(if has t.dummies s=true then eraseAt t.dummies (below t.dummies s) else t.dummies).toList↔y∈t.dummies.toList/\y≠s:=by
  intro y
  by_cases hh:has t.dummies s=true
  .rw[if_pos hh]
   exact zs9 t.dummies _ s a2 ((zgm _ _ a2).mpr ((zmh _ _ a2).mp hh)) y
  .rw[if_neg hh]
   exact⟨fun hy=>⟨hy,fun e=>hh ((zmh _ _ a2).mpr (e ▸ hy))⟩,fun hy=>hy.1⟩
 have hpl:(t.put s).1.place.toList=t.place.toList.take (below t.place s)++s::t.place.toList.drop (below t.place s):=zb1 _ _ _ hb
 have hmp:∀y,y∈(t.put s).1.place.toList↔y=s\/y∈t.place.toList:=by
  intro y;rw[hpl,(zb2 _ _ _).mem_iff,Zly]
 have hmd:∀y,y∈(t.put s).1.dummies.toList↔y∈t.dummies.toList/\y≠s:=hd'
 have htok:TOk (t.put s).1:=by
  refine⟨znp _ _ a1 hnp,?_,?_,?_,?_,a6,a7⟩
  .show(if has t.dummies s=true then eraseAt t.dummies (below t.dummies s) else t.dummies).toList.Pairwise (· < ·)
   split
   .rw[zfz]
    refine Zut ?_ a2
    have:(t.dummies.toList.take (below t.dummies s)++t.dummies.toList.drop (below t.dummies s+1)).Sublist (t.dummies.toList.take (below t.dummies s)++t.dummies.toList.drop (below t.dummies s)) :=
     Ycc (Ycb _) (by rw[<- Zn6];exact Zyn _ _)
    rw[Zrf] at this;exact this
   .exact a2
  .intro j hj;rcases(hmp j).mp hj with e | e
   .rw[e];exact hm
   .exact a3 j e
  .intro j hj;exact a4 j ((hmd j).mp hj).1
  .intro j hj hc
   rcases(hmp j).mp hc with e | e
   .exact((hmd j).mp hj).2 e
   .exact a5 j ((hmd j).mp hj).1 e
 have hmono:∀j,t.slot j ≠ .empty->(t.put s).1.slot j ≠ .empty:=by
  intro j hj hc
  obtain⟨c1,c2⟩:=(zgl htok j).mp hc
  refine hj ((zgl tok j).mpr ⟨fun e=>c1 ((hmp j).mpr (.inr e)),fun e=>?_⟩)
  by_cases he:j=s
  .exact c1 ((hmp j).mpr (.inl he))
  .exact c2 ((hmd j).mpr ⟨e,he⟩)
 refine⟨htok,rfl,?_,?_,?_,?_,?_,rfl,rfl⟩
 .show(insertAt t.place (below t.place s) s).size=(insertAt es (below t.place s) (h,x)).size
  rw[<- Zm4,<- Zm4,zb1 _ _ _ hb,zb1 _ _ _ hbe,(zb2 _ _ _).length_eq,(zb2 _ _ _).length_eq]
  simpa using c
 .intro e he
  rw[hpl] at he
  have he':e∈(t.place.toList.take (below t.place s)++s::t.place.toList.drop (below t.place s)).zip (insertAt es (below t.place s) (h,x)).toList:=he
  rw[zb1 _ _ _ hbe,zwy _ _ _ _ _ (by simpa using c),(zb2 _ _ _).mem_iff,Zly] at he'
  rcases he' with e1 | e1
  .rw[e1];exact zkf (t:=t) (t':=(t.put s).1) rfl hmono hr
  .exact zkf (t:=t) (t':=(t.put s).1) rfl hmono (d e e1)
 .show(insertAt t.place (below t.place s) s).size+(if has t.dummies s=true then eraseAt t.dummies (below t.dummies s) else t.dummies).size<=t.fill+1
  have h1:(insertAt t.place (below t.place s) s).size=t.place.size+1:=by
   rw[<- Zm4,zb1 _ _ _ hb,(zb2 _ _ _).length_eq];simp
  have h2:(if has t.dummies s=true then eraseAt t.dummies (below t.dummies s) else t.dummies).size<=t.dummies.size:=by
   split
   .rw[<- Zm4,zfz];simp;omega
   .exact Zlt _
  unfold fill;lia
 .intro hdm
  show(insertAt t.place (below t.place s) s).size+(if has t.dummies s=true then eraseAt t.dummies (below t.dummies s) else t.dummies).size=t.fill
  have h1:(insertAt t.place (below t.place s) s).size=t.place.size+1:=by
   rw[<- Zm4,zb1 _ _ _ hb,(zb2 _ _ _).length_eq];simp
  have hin:=(zii tok s).mp hdm
  rw[if_pos ((zmh _ _ a2).mpr hin)]
  have hlt:=(Zo8.mp ((zgm _ _ a2).mpr hin)).1
  have h2:(eraseAt t.dummies (below t.dummies s)).size+1=t.dummies.size:=by
   rw[<- Zm4,zfz];simp;lia
  unfold fill;lia
 .show(insertAt es (below t.place s) (h,x)).toList.Perm ((h,x)::es.toList)
  rw[zb1 _ _ _ hbe];exact zb2 _ _ _
end L2T
namespace L2
open PySem PySem.Spec PyProof.Rows L2T
inductive SK where
 | one (k:Key)
 | many (ks:List Key)
 deriving DecidableEq
noncomputable def SK.flat:SK->Bool
 | .one _=>true
 | .many _=>false
section
variable(prog:Zmi)(w:Zng)
noncomputable def SK.is(h:Heap):SK->Zll->Prop
 | .one k,v=>(zav prog w).is k v=true
 | .many ks,v=>∃a,v= .ref a/\Zse (zav prog w) h ks a
noncomputable def SK.hash:SK->Int
 | .one k=>(zav prog w).hash k
 | .many ks=>tupleKeyHash (zav prog w) ks
inductive Es(h:Heap):List SK->List (Int×Zll)->Prop
 | nil:Es h [] []
 | cons {k:SK} {e:Int×Zll} {ks:List SK} {es:List (Int×Zll)}:e.1=k.hash prog w->k.is prog w h e.2->Es h ks es->Es h (k::ks) (e::es)
noncomputable def zjm(h h':Heap):Prop:=∀b o,o.cls= .type "tuple" -> h.get? b=some o->h'.get? b=some o
noncomputable def led0:Bool:=!w.params.followText "set-order"
structure SetO(h:Heap)(o:Obj)(ks:List SK)(es:Array (Int×Zll))(ep:Nat)(t:Zlr):Prop where
 ex:o.ExactSet
 data:o.data= .set es ep t
 tab:SOk t es.toList
 ent:Es prog w h ks es.toList
 nod:ks.Nodup
 small:ks.length<=1000
 led:t.led=led0 w
 kind:∃f,∀k∈ks,k.flat=f
noncomputable def SetE(h:Heap)(a:Addr)(ks:List SK)(es:Array (Int×Zll)):Prop:=∃o ep t,h.get? a=some o/\SetO prog w h o ks es ep t
end
section
variable{prog:Zmi}{w:Zng}{h h':Heap}
theorem SK.is_mono{k:SK}{v:Zll}(K:zjm h h')(x:k.is prog w h v):k.is prog w h' v:=by
 cases k with
 | one k=>exact x
 | many ks =>
  obtain⟨a,rfl,o,its,n,e,c,d,i⟩:=x
  exact⟨a,rfl,o,its,n,K a o c e,c,d,i⟩
theorem Es.mono{ks:List SK}{es:List (Int×Zll)}(K:zjm h h')(x:Es prog w h ks es):Es prog w h' ks es:=by
 induction x with
 | nil=>exact .nil
 | cons a b _ ih=>exact .cons a (SK.is_mono K b) ih
theorem Es.length{ks:List SK}{es:List (Int×Zll)}(x:Es prog w h ks es):ks.length=es.length:=by
 induction x with
 | nil=>rfl
 | cons a b _ ih=>simp[ih]
theorem Es.get{ks:List SK}{es:List (Int×Zll)}(x:Es prog w h ks es):∀(i:Nat) (e:Int×Zll),es[i]? = some e-> ∃k,ks[i]? = some k/\e.1=k.hash prog w/\k.is prog w h e.2:=by
 induction x with
 | nil=>intro i e he;simp at he
 | cons a b _ ih =>
  intro i e he
  cases i with
  | zero=>simp at he;subst he;exact⟨_,rfl,a,b⟩
  | succ i=>exact ih i e he
theorem Es.perm{ks:List SK}{es es':List (Int×Zll)}(x:Es prog w h ks es)(p:es'.Perm es):∃ks',ks'.Perm ks/\Es prog w h ks' es':=by
 have p':=p.symm
 clear p
 induction p' generalizing ks with
 | nil=>exact⟨ks,.refl _,x⟩
 | cons e _ ih =>
  cases x with
  | cons a b y =>
   obtain⟨k2,q,z⟩:=ih y
   exact⟨_::k2,q.cons _,.cons a b z⟩
 | swap e f l =>
  cases x with
  | cons a b y=>cases y with
   | cons c d z=>exact⟨_::_::_,Zus _ _ _,.cons c d (.cons a b z)⟩
 | trans _ _ ih1 ih2 =>
  obtain⟨k1,q1,z1⟩:=ih1 x
  obtain⟨k2,q2,z2⟩:=ih2 z1
  exact⟨k2,q2.trans q1,z2⟩
theorem SetO.fits{o:Obj}{ks:List SK}{es:Array (Int×Zll)}{ep:Nat}{t:Zlr}(S:SetO prog w h o ks es ep t):t.fits es.size=true:=by
 have h1:=S.tab.size
 have h2:=S.tab.room
 simp only[Zsb,Zmd,beq_iff_eq,decide_eq_true_eq]
 exact⟨by simpa using h1,by lia⟩
theorem SetO.mono{o:Obj}{ks:List SK}{es:Array (Int×Zll)}{ep:Nat}{t:Zlr}(K:zjm h h')(S:SetO prog w h o ks es ep t):SetO prog w h' o ks es ep t :=
 ⟨S.ex,S.data,S.tab,S.ent.mono K,S.nod,S.small,S.led,S.kind⟩
theorem zeo{a:Addr}{o:Obj}{es:Array (Int×Zll)}{ep:Nat}{t:Zlr}(ho:h.get? a=some o)(hd:o.ExactSet)(hs:Zog a h h'):zjm h h':=by
 intro b u c e
 have hne:b≠a:=by
  rintro rfl
  rw[ho] at e;cases e
  rw[hd.1] at c;exact absurd c (by decide)
 exact(hs.2 b hne).trans e
end
theorem zvm(b:Addr):isSame (.ref b) (.ref b)=pure true:=by
 show(if (b == b)=true then (pure true:Sem Bool) else _)=_
 rw[if_pos (beq_self_eq_true b)]
section
variable{prog:Zmi}{w:Zng}{A:Zmu}{E:Zll->Zlo->Prop}{s:Zlo}
theorem zi6{M:Zy4}{a:Addr}{o:Obj}{ks:List SK}{es:Array (Int×Zll)}{ep:Nat}{t:Zlr}{Q:Array (Int×Zll)×Nat×Zlr->Zlo->Prop}
  (ho:s.heap.get? a=some o) (S:SetO prog w s.heap o ks es ep t) (q:Q (es,ep,t) s):Zl8 (Zmh prog w) A (setState a) Q E s :=
 Zvg ho S.data S.fits q
theorem yfz{ks:List Key}{v:Zll}{a:Addr}{Q:Bool->Zlo->Prop}(hk:Zse (zav prog w) s.heap ks a)(h:Q false s):Zl8 (Zmh prog w) A (Zs1 8 (.ref a)) Q E s:=by
 have hT:=hk.typeIs
 obtain⟨o,its,n,ho,_,hd,hi⟩:=hk
 unfold Zs1
 refine Zli (Zyp hT ?_)
 show Zl8 _ _ ((if ("tuple" == "tuple")=true then pure true else isSubtype (.type "tuple") (.type "tuple")) >>= _) Q E s
 refine Zli (Zln ?_)
 show Zl8 _ _ (seqItems? (.ref a) >>= _) Q E s
 refine Zli (Zuf ho hd ?_)
 show Zl8 _ _ (Zx0 its _ _ >>= _) Q E s
 refine Zli ?_
 rw[<- Zr5]
 refine Zr1 _ (fun rest r s'=>r.1=none/\s'=s /\ ∀v∈rest,Zuh v=true) _ ?_ ?_ _ _ ⟨rfl,rfl,hi.byValue⟩
 .rintro v rest r s' ⟨hr,rfl,hall⟩
  have hv:=hall v Zls
  have e:Zs1 7 v=pure false:=by
   cases v <;> first | rfl | (simp[Zuh] at hv)
  show Zl8 _ _ (Zs1 7 v >>= _) _ _ _
  rw[e]
  refine Zli (Zln ?_)
  simp only[Zl5,if_false]
  exact Zln ⟨rfl,rfl,fun u hu'=>hall u (Zlp _ hu')⟩
 .rintro⟨r1,r2⟩ s' ⟨hr,rfl,_⟩
  simp only at hr
  subst hr
  exact Zln h
theorem ydk{kk:List Key}{a:Addr}{Q:Bool->Zlo->Prop}(hk:Zse (zav prog w) s.heap kk a)(h:Q false s) :
  ∀ys:List Zll,(∀y∈ys,∃b ks,y= .ref b/\Zse (zav prog w) s.heap ks b)->Zl8 (Zmh prog w) A (Yav (.ref a) ys) Q E s:=by
 intro ys hys
 unfold Yav
 refine Zli ?_
 refine Zr1 _ (fun rest r s'=>r.1=none/\s'=s /\ ∀y∈rest,∃b ks,y= .ref b/\Zse (zav prog w) s.heap ks b) _ ?_ ?_ _ _ ⟨rfl,rfl,hys⟩
 .rintro y rest r s' ⟨hr,rfl,hall⟩
  obtain⟨b,ks,rfl,hb⟩:=hall y Zls
  have hrest:∀y∈rest,∃b ks,y= .ref b/\Zse (zav prog w) s'.heap ks b:=fun y hy=>hall y (Zlp _ hy)
  dsimp only
  by_cases hab:(a == b)=true
  .rw[if_pos (by rw[hab];rfl)]
   exact Zln ⟨rfl,rfl,hrest⟩
  .rw[if_neg (by rw[Zzd] at hab;rw[hab];simp[Zuh])]
   refine Zli (Zys hk ?_)
   simp only[Zsq,Zl5,if_false]
   refine Zli (Zys hb ?_)
   simp only[Zsq,Zl5,if_false]
   refine Zli (yfz (v:=.none) hk ?_)
   simp only[Zl5,if_false]
   refine Zli (yfz (v:=.none) hb ?_)
   simp only[Zl5,if_false]
   exact Zln ⟨rfl,rfl,hrest⟩
 .rintro⟨r1,r2⟩ s' ⟨hr,rfl,_⟩
  simp only at hr
  subst hr
  exact Zln h
theorem zvl{a:Addr}{o:Obj}{ks:List SK}{es:Array (Int×Zll)}{ep:Nat}{t:Zlr}{x:Zll}{kk:List Key}{adding:Bool}{Q:SetFound->Zlo->Prop}(hu:A.units<Zr6)
  (ho:s.heap.get? a=some o) (S:SetO prog w s.heap o ks es ep t) (hk:∀k∈ks,k.flat=false) (hx:(SK.many kk).is prog w s.heap x)
  (found:∀i,ks[i]? = some (.many kk)->Q (.there (if adding then none else some i)) s)
  (free:SK.many kk∉ks-> ∀sl wd,sl<=t.mask->zph t (SK.hash prog w (.many kk)) sl->(wd=true->t.slot sl= .dummy)->(wd=false->t.slot sl= .empty)->Q (.free sl wd) s) :
  ∀(fuel n:Nat) (stand:Option SetTable.Probe),(stand=none->n=0) ->
   (∀p,stand=some p->zub p (prM t.mask (SK.hash prog w (.many kk)) n)/\(p.dummy=none \/ ∃q,q<n/\p.dummy=some (posM t.mask (SK.hash prog w (.many kk)) q)/\t.slot (posM t.mask (SK.hash prog w (.many kk)) q)= .dummy)) ->
   (∀q,q<n->t.slot (posM t.mask (SK.hash prog w (.many kk)) q) ≠ .empty /\ ∀i,t.slot (posM t.mask (SK.hash prog w (.many kk)) q)= .live i->ks[i]? ≠ some (.many kk)) ->
   (∃N,n<=N/\N<n+fuel/\N<10*Zrv t.mask/\t.slot (posM t.mask (SK.hash prog w (.many kk)) N)= .empty) ->
   Zl8 (Zmh prog w) A (Ydd a x (SK.hash prog w (.many kk)) adding fuel stand) Q E s:=by
 generalize hH:SK.hash prog w (.many kk)=hh at *
 have tok:=S.tab.ok
 obtain⟨kp,hpow⟩:=tok.pow
 obtain⟨ax,rfl,hax⟩:=hx
 have hgw:t.gaveWay=false:=by
  unfold SetTable.gaveWay
  rw[Znt] at hpow
  rw[beq_eq_false_iff_ne];lia
 have hent:∀(i:Nat) (h:Int) (y:Zll),es[i]? = some (h,y)-> ∃(b:Addr) (k2:List Key),y=Znh b/\Zse (zav prog w) s.heap k2 b/\ks[i]? = some (SK.many k2)/\h=SK.hash prog w (SK.many k2):=by
  intro i h y he
  obtain⟨k,h1,h2,h3⟩:=S.ent.get i (h,y) (by rw[Zmg];exact he)
  have hf:=hk k (Zlv h1)
  cases k with
  | one k=>simp[SK.flat] at hf
  | many k2=>obtain⟨b,rfl,hb⟩:=h3;exact⟨b,k2,rfl,hb,h1,h2⟩
 intro fuel
 induction fuel with
 | zero=>rintro n stand _ _ _ ⟨N,h1,h2,_⟩;lia
 | succ fuel ih =>
  rintro n stand hst hsp hq ⟨N,n1,n2,n3,n4⟩
  unfold Ydd
  refine Zli (zi6 (M:=Zmh prog w) ho S ?_)
  dsimp only
  rw[hgw]
  simp only[Zl5,if_false]
  have hstart:zub (stand.getD (t.probeStart hh)) (prM t.mask hh n)/\((stand.getD (t.probeStart hh)).dummy=none \/ ∃q,q<n/\(stand.getD (t.probeStart hh)).dummy=some (posM t.mask hh q)/\t.slot (posM t.mask hh q)= .dummy):=by
   cases stand with
   | none=>rw[hst rfl];exact⟨⟨rfl,rfl,rfl,rfl⟩,.inl rfl⟩
   | some p=>exact hsp p rfl
  obtain⟨m,m1,m2,d,hd,hr⟩:=zvz t (fun i=>(es[i]?.map (·.1)).getD 0) hh (10*Zrv t.mask) _ n hstart.1 ⟨N,n1,by lia,n4⟩
  have hd':d=none \/ ∃q,q<m/\d=some (posM t.mask hh q)/\t.slot (posM t.mask hh q)= .dummy:=by
   rcases hd with hd | ⟨q,q1,q2,q3,q4⟩
   .rcases hstart.2 with e | ⟨q,q1,q2,q3⟩
    .exact .inl (hd.trans e)
    .exact .inr ⟨q,by lia,hd.trans q2,q3⟩
   .exact .inr ⟨q,q2,q3,q4⟩
  have hne:∀q,q<m->t.slot (posM t.mask hh q) ≠ .empty:=fun q hqm=>by
   rcases Zph q n with hl | hl
   .exact(hq q hl).1
   .exact(m2 q hl hqm).1
  rcases hr with ⟨hemp,hr⟩ | ⟨i,nx,hlive,hhash,hr,hsn,hdn⟩
  ·-- an empty slot: it is not there
   have habs:SK.many kk∉ks:=by
    intro hin
    obtain⟨i,hi⟩:=Zmr.mp hin
    have hil:i<ks.length:=(Zlq.mp hi).1
    have hie:i<es.size:=by have:=S.ent.length;simp at this;lia
    have hip:i<t.place.size:=by have:=S.tab.size;simp at this;lia
    have hpl:t.place[i]? = some t.place[i]:=Zl9 hip
    have hes:es[i]? = some es[i]:=Zl9 hie
    obtain⟨b,k2,hy,hb,hki,hhi⟩:=hent i es[i].1 es[i].2 hes
    have hkk:k2=kk:=by rw[hi] at hki;cases hki;rfl
    subst hkk
    have hreach:=S.tab.reach (t.place[i],es[i]) (by
     rw[Zmr]
     refine⟨i,?_⟩
     rw[Zv7]
     exact⟨by rw[Zmg];exact hpl,by rw[Zmg];exact hes⟩)
    obtain⟨n',e1,e2⟩:=hreach
    dsimp only at e1 e2
    rw[hhi,hH] at e1 e2
    have hl:t.slot (posM t.mask hh n')= .live i:=by rw[e1];exact(zhm tok _ i).mpr hpl
    rcases Zup n' m with c | c | c
    .rcases Zph n' n with c2 | c2
     .exact(hq n' c2).2 i hl hi
     .refine(m2 n' c2 c).2 i hl ?_
      rw[hes];show es[i].1=hh;rw[hhi,hH]
    .subst c;rw[hl] at hemp;cases hemp
    .exact e2 m c hemp
   generalize hX:t.probe _ hh _=pX
   have hX2:=hX.symm.trans hr
   subst hX2
   rcases hd' with rfl | ⟨q,q1,rfl,q2⟩
   .exact Zln (free habs _ false (zoj _ _ hpow hh m) ⟨m,rfl,hne⟩ (fun e=>by cases e) (fun _=>hemp))
   .dsimp only
    rw[q2]
    have:(adding&&(Zva != Zva))=false:=by cases adding <;> decide
    rw[this]
    simp only[Zl5,if_false]
    exact Zln (free habs _ true (zoj _ _ hpow hh q) ⟨q,rfl,fun m' hm'=>hne m' (by lia)⟩ (fun _=>q2) (fun e=>by cases e))
  .have hpl:=(zhm tok _ i).mp hlive
   have hip:i<t.place.size:=(Zo8.mp hpl).1
   have hie:i<es.size:=by have:=S.tab.size;simp at this;lia
   have hes:es[i]? = some es[i]:=Zl9 hie
   obtain⟨b,k2,hy,hb,hki,hhi⟩:=hent i es[i].1 es[i].2 hes
   generalize hX:t.probe _ hh _=pX
   have hX2:=hX.symm.trans hr
   subst hX2
   dsimp only
   have hall:∀y∈(es.filter (·.1 == hh)).toList.map (·.2),∃(b:Addr) (k3:List Key),y=Znh b/\Zse (zav prog w) s.heap k3 b:=by
    intro y hy
    obtain⟨e,he,rfl⟩:=Zl2.mp hy
    have he':=(Array.mem_filter.mp (Zti.mp he)).1
    obtain⟨j,hj⟩:=Zmr.mp (Zti.mpr he')
    rw[Zmg] at hj
    obtain⟨b,k3,hy,hb,_⟩:=hent j e.1 e.2 hj
    exact⟨b,k3,hy,hb⟩
   by_cases hl:t.led=true
   case' pos=>simp only[hl,Zsq,Zl5,if_false]
   case' neg =>
    rw[Zzd] at hl
    simp only[hl,Zz7,if_true]
    refine Zli (ydk hax ?_ _ hall)
    simp only[Zl5,if_false]
   all_goals
     rw[hes]
     dsimp only
     rw[hy]
     refine Zli (Zos (wpAny_eqBool_tuple hu hb hax ?_))
     refine Zli (zi6 (M:=Zmh prog w) ho S ?_)
     dsimp only
     by_cases hkk:k2=kk
     .subst hkk
      have hQ:=found i hki
      rw[decide_eq_true rfl]
      cases adding with
      | true=>exact Zln hQ
      | false =>
       have hsm:t.sameMemory t.moves t.mask=some true:=by unfold Zwl;simp
       simp only[Ztp,Zl5,if_false,hsm,if_true,hlive,hes,hy]
       have hself:=zvm b
       rw[hself]
       exact Zli (Zln (Zli (Zln (Zln hQ))))
     .rw[decide_eq_false hkk]
      have hsm:t.sameMemory t.moves t.mask=some true:=by unfold Zwl;simp
      simp only[Zz8,Zl5,if_false,hsm,if_true,hlive,hes,hy]
      have hself:=zvm b
      rw[hself]
      refine Zli (Zln (Zli (Zln ?_)))
      have hmN:m<N:=by
       refine Zzh fun c=>?_
       rcases Zub c with e | e
       .rw[<- e,n4] at hlive;cases hlive
       .exact hne N e n4
      refine ih (m+1) (some nx) (fun e=>by cases e) (fun p hp=>?_) (fun q hqm=>?_) ⟨N,by lia,by lia,n3,n4⟩
      .cases hp
       refine⟨hsn,?_⟩
       rw[hdn]
       rcases hd' with e | ⟨q,q1,q2,q3⟩
       .exact .inl e
       .exact .inr ⟨q,by lia,q2,q3⟩
      .rcases Zph q m with c | c
       .refine⟨hne q c,fun j hj hkj=>?_⟩
        rcases Zph q n with c2 | c2
        .exact(hq q c2).2 j hj hkj
        .have hpj:=(zhm tok _ j).mp hj
         have hjp:j<t.place.size:=(Zo8.mp hpj).1
         have hje:j<es.size:=by have:=S.tab.size;simp at this;lia
         have hej:es[j]? = some es[j]:=Zl9 hje
         obtain⟨_,k3,_,_,hkj',hhj⟩:=hent j es[j].1 es[j].2 hej
         rw[hkj] at hkj';cases hkj'
         refine(m2 q c2 c).2 j hj ?_
         rw[hej];show es[j].1=hh;rw[hhj,hH]
       .have:q=m:=by lia
        subst this
        refine⟨by rw[hlive];exact fun e=>(by cases e),fun j hj hkj=>?_⟩
        rw[hlive] at hj;cases hj
        rw[hki] at hkj;cases hkj;exact hkk rfl
end
section
variable{prog:Zmi}{w:Zng}{h:Heap}
theorem zm7{a:Addr}{o:Obj}{es:Array (Int×Zll)}{ep:Nat}{t:Zlr}(ho:h.get? a=some o)(hd:o.data= .set es ep t)(e1:Array (Int×Zll))(t1:Zlr) :
  (h.update a (Zun e1 t1)).get? a=some { o with data:=.set e1 (ep+1) t1 }:=by
 have z:=Zor (Zun e1 t1) ho (by rw[putSet_of e1 t1 hd];rfl)
 rw[putSet_of e1 t1 hd] at z
 exact z
theorem Es.flats{ks:List SK}{es:List (Int×Zll)}(x:Es prog w h ks es)(hf:∀k∈ks,k.flat=true):ElemsOf (zav prog w) es:=by
 intro e he
 obtain⟨i,hi⟩:=Zmr.mp he
 obtain⟨k,a,b,c⟩:=x.get i e hi
 have hk:=hf k (Zlv a)
 cases k with
 | many _=>simp[SK.flat] at hk
 | one k =>
  refine⟨⟨k,c,b⟩,?_⟩
  rcases zbj c with ⟨j,t,_,e2⟩ | ⟨y,t,_,e2⟩ <;> rw[e2] <;> rfl
theorem zq4{k:Key}{x:Zll}(hx:SK.is prog w h (.one k) x):x.scannable=true:=by
 rcases zbj hx with ⟨j,t,_,e2⟩ | ⟨y,t,_,e2⟩ <;> rw[e2] <;> rfl
theorem Es.idx{ks:List SK}{es:List (Int×Zll)}(x:Es prog w h ks es)(hf:∀k∈ks,k.flat=true)(k:Key) :
  (∀j,es.findIdx? (fun e=>(zav prog w).is k e.2)=some j->ks[j]? = some (.one k))/\(es.findIdx? (fun e=>(zav prog w).is k e.2)=none->SK.one k∉ks):=by
 constructor
 .intro j hj
  obtain⟨h1,h2,_⟩:=List.findIdx?_eq_some_iff_getElem.mp hj
  obtain⟨k',a,b,c⟩:=x.get j es[j] (Zlj h1)
  have hk:=hf k' (Zlv a)
  cases k' with
  | many _=>simp[SK.flat] at hk
  | one k'=>rw[a,(zav prog w).inj _ _ _ c h2]
 .intro hn hin
  obtain⟨i,hi⟩:=Zmr.mp hin
  have hil:i<es.length:=by rw[<- x.length];exact(Zlq.mp hi).1
  obtain⟨k',a,b,c⟩:=x.get i es[i] (Zlj hil)
  rw[hi] at a;cases a
  have:=List.findIdx?_eq_none_iff.mp hn es[i] (Znl hil)
  rw[show(zav prog w).is k es[i].2=true from c] at this;cases this
theorem ybm{es:Array (Int×Zll)}{t:Zlr}(ok:SOk t es.toList)(hh:Int)(x:Zll) :
  ∃sl wd,layNew t es hh x=(Zma es (t.put sl).2 (hh,x),(t.put sl).1,wd,false)/\sl<=t.mask/\zph t hh sl/\(wd=true->t.slot sl= .dummy)/\(wd=false->t.slot sl= .empty):=by
 obtain⟨kp,hpow⟩:=ok.ok.pow
 obtain⟨e,he,hemp⟩:=zoo ok.ok (by have:=ok.room;lia)
 obtain⟨N,hN,hp⟩:=yai t.mask _ hpow hh e he
 obtain⟨m,m1,m2,d,hd,hr⟩:=zvz t (fun _=>hh+1) hh (10*Zrv t.mask) (t.probeStart hh) 0 ⟨rfl,rfl,rfl,rfl⟩ ⟨N,Zmt _,by lia,by rw[hp];exact hemp⟩
 rcases hr with ⟨h1,h2⟩ | ⟨i,nx,_,h2,_⟩
 .have hfs:t.freeSlot hh=some (d.getD (posM t.mask hh m),d.isSome):=by
   unfold SetTable.freeSlot SetTable.probe
   rw[h2]
  have key:∃sl wd,t.freeSlot hh=some (sl,wd)/\sl<=t.mask/\zph t hh sl/\(wd=true->t.slot sl= .dummy)/\(wd=false->t.slot sl= .empty):=by
   rcases hd with hd | ⟨q,q1,q2,q3,q4⟩
   .have:d=none:=hd
    subst this
    exact⟨_,_,hfs,zoj _ _ hpow hh m,⟨m,rfl,fun q hq=>(m2 q (Zmt _) hq).1⟩,(fun e=>by cases e),fun _=>h1⟩
   .subst q3
    exact⟨_,_,hfs,zoj _ _ hpow hh q,⟨q,rfl,fun q' hq=>(m2 q' (Zmt _) (by lia)).1⟩,(fun _=>q4),(fun e=>by cases e)⟩
  obtain⟨sl,wd,f1,f2,f3,f4,f5⟩:=key
  refine⟨sl,wd,?_,f2,f3,f4,f5⟩
  have hs:t.slot sl= .empty\/t.slot sl= .dummy:=by cases wd with
   | true=>exact .inr (f4 rfl)
   | false=>exact .inl (f5 rfl)
  obtain⟨g1,g2,g3,g4,g5,_⟩:=yf1 t es hh x sl ok hs f2 f3
  have hfit:(t.put sl).1.fits (Zma es (t.put sl).2 (hh,x)).size=true:=by
   simp only[Zsb,Zmd,beq_iff_eq,decide_eq_true_eq]
   refine⟨g3,?_⟩
   have:=ok.room
   rw[g2];lia
  unfold layNew
  rw[f1]
  show(_,(t.put sl).1.orStandIn _,wd,!(t.put sl).1.fits _)=_
  unfold SetTable.orStandIn
  have hfit':(t.put sl).1.fits (Zma es (Zml t.place sl) (hh,x)).size=true:=hfit
  rw[hfit'];rfl
 .lia
theorem zts(t:Zlr)(es:Array (Int×Zll))(wanted:Nat)(h1:2*es.size<=wanted)(h2:wanted<=4095) :
  ∃t' es',Zxx t es wanted=(es',t',false)/\t'.led=t.led/\t'.plain=t.plain/\es'.toList.Perm es.toList/\SOk t' es'.toList:=by
 obtain⟨t',order,e1,e2,e3,e4,e5,e6,e7,e8,e9⟩:=zs7 t es wanted h1 h2
 refine⟨t',_,?_,e4,e5,e7,e9⟩
 unfold Zxx
 rw[e1]
 dsimp only
 have c1:coversAll order es.size=true:=List.isPerm_iff.mpr e6
 have c2:t'.fits (order.filterMap (es[·]?)).size=true:=by
  simp only[Zsb,Zmd,beq_iff_eq,decide_eq_true_eq]
  exact⟨by rw[e9.size,Zm4],by have:=e9.room;lia⟩
 rw[c1,c2];rfl
end
section
variable{prog:Zmi}{w:Zng}{A:Zmu}{E:Zll->Zlo->Prop}{s:Zlo}
theorem zwe{t:Zlr}{es:List (Int×Zll)}(ok:SOk t es)(hh:Int):∃N,0<=N/\N<0+100000/\N<10*Zrv t.mask/\t.slot (posM t.mask hh N)= .empty:=by
 obtain⟨kp,hpow⟩:=ok.ok.pow
 obtain⟨e,he,hemp⟩:=zoo ok.ok (by have:=ok.room;lia)
 obtain⟨N,hN,hp⟩:=yai t.mask _ hpow hh e he
 have hb:=ok.ok.big
 refine⟨N,Zmt _,?_,hN,by rw[hp];exact hemp⟩
 unfold Zrv at hN;lia
theorem zom{es:Array (Int×Zll)}{k:Key}{x:Zll}{ks:List SK}(hx:SK.is prog w s.heap (.one k) x)(ent:Es prog w s.heap ks es.toList)(hf:∀k∈ks,k.flat=true)(hs:ks.length<=1000):byScan x es=true :=
 byScan_of (knd:=zav prog w) (zq4 hx) (by have:=ent.length;simp at this;unfold scanBound;lia) (ent.flats hf)
theorem zmi{es:Array (Int×Zll)}{a:Addr}:byScan (.ref a) es=false:=rfl
theorem ykn{a:Addr}{o:Obj}{ks:List SK}{es:Array (Int×Zll)}{ep:Nat}{t:Zlr}{x:Zll}{k:SK}{Q:Option Nat->Zlo->Prop}(hu:A.units<Zr6)
  (ho:s.heap.get? a=some o) (S:SetO prog w s.heap o ks es ep t) (hk:∀k'∈ks,k'.flat=k.flat) (hx:k.is prog w s.heap x)
  (q:∀r:Option Nat,(∀i,r=some i->ks[i]? = some k)->(r=none->k∉ks)->Q r s):Zl8 (Zmh prog w) A (Yci a x (k.hash prog w)) Q E s:=by
 unfold Yci setFindIn
 refine Zli (zi6 (M:=Zmh prog w) ho S ?_)
 dsimp only
 cases k with
 | one k =>
  rw[zom hx S.ent hk S.small,if_pos rfl]
  refine Zli (Zvh ?_)
  refine Zli (Ybm (knd:=zav prog w) hx ho S.data S.fits (S.ent.flats hk) ?_)
  obtain⟨i1,i2⟩:=S.ent.idx hk k
  cases hr:es.toList.findIdx? (fun e=>(zav prog w).is k e.2) with
  | none=>exact Zln (q none (fun i e=>by cases e) fun _=>i2 hr)
  | some j=>exact Zln (q (some (0+j)) (fun i e=>by cases e;rw[Zsc];exact i1 j hr) fun e=>by cases e)
 | many kk =>
  obtain⟨ax,rfl,hax⟩:=hx
  rw[zmi]
  simp only[Zl5,if_false]
  unfold setSearch
  refine Zli (zvl hu ho S hk ⟨ax,rfl,hax⟩ (fun i hi=>?_) (fun hn sl wd _ _ _ _=>?_) 100000 0 none (fun _=>rfl) (fun p hp=>by cases hp) (fun q hq=>by lia) (zwe S.tab _))
  .exact Zln (q (some i) (fun j e=>by cases e;exact hi) fun e=>by cases e)
  .exact Zln (q none (fun i e=>by cases e) fun _=>hn)
theorem yku{k:SK}{x:Zll}{Q:Bool->Zlo->Prop}(hx:k.is prog w s.heap x)(q:∀b,Q b s):Zl8 (Zmh prog w) A (Zzr 8 x) Q E s:=by
 cases k with
 | one k=>rw[Zyv 8 (zq4 hx)];exact Zln (q _)
 | many kk =>
  obtain⟨a,rfl,hk⟩:=hx
  have hT:=hk.typeIs
  obtain⟨o,its,n,ho,_,hd,hi⟩:=hk
  unfold Zzr
  refine Zli (Ztv hT F.slot_tuple_hash.lookup ?_)
  show Zl8 _ _ (seqItems? (.ref a) >>= _) Q E s
  refine Zli (Zuf ho hd ?_)
  show Zl8 _ _ (Zx0 its _ _ >>= _) Q E s
  refine Zli ?_
  rw[<- Zr5]
  refine Zr1 _ (fun rest r s'=>r.1=none/\s'=s /\ ∀v∈rest,Zuh v=true/\v.scannable=true) _ ?_ ?_ _ _ ⟨rfl,rfl,?_⟩
  .rintro v rest r s' ⟨hr,rfl,hall⟩
   have hv:=hall v Zls
   show Zl8 _ _ (Zzr 7 v >>= _) _ _ _
   rw[Zyv 7 hv.2]
   refine Zli (Zln ?_)
   cases plainKind v with
   | true =>
    simp only[Zsq,Zl5,if_false]
    exact Zln ⟨rfl,rfl,fun u hu'=>hall u (Zlp _ hu')⟩
   | false =>
    simp only[Zz7,if_true]
    exact Zln (Zln (q false))
  .rintro⟨r1,r2⟩ s' ⟨hr,rfl,_⟩
   simp only at hr
   subst hr
   exact Zln (q true)
  .intro v hv
   refine⟨hi.byValue v hv,?_⟩
   clear hd
   generalize its.toList=vs at hi hv
   induction hi with
   | nil=>cases hv
   | cons h1 _ ih =>
    rcases Zly.mp hv with rfl | hv
    .rcases zbj h1 with ⟨j,t,_,e2⟩ | ⟨y,t,_,e2⟩ <;> rw[e2] <;> rfl
    .exact ih hv
end
section
variable{prog:Zmi}{w:Zng}{h:Heap}
noncomputable def zbq(b:Bool)(t:Zlr):Zlr:=if b then t else { t with plain:=false }
theorem zhr(b:Bool)(t:Zlr):(zbq b t).mask=t.mask:=by cases b <;> rfl
theorem zje(b:Bool)(t:Zlr):(zbq b t).place=t.place:=by cases b <;> rfl
theorem zmv(b:Bool)(t:Zlr):(zbq b t).dummies=t.dummies:=by cases b <;> rfl
theorem ztz(b:Bool)(t:Zlr):(zbq b t).led=t.led:=by cases b <;> rfl
theorem zkr(b:Bool)(t:Zlr):(zbq b t).fill=t.fill:=by cases b <;> rfl
theorem zqw{o:Obj}{ks:List SK}{es:Array (Int×Zll)}{ep:Nat}{t:Zlr}{x:Zll}{k:SK}{sl:Nat}{wd:Bool}(S:SetO prog w h o ks es ep t)(hx:k.is prog w h x)
  (h1:sl<=t.mask) (h2:zph t (k.hash prog w) sl) (h3:wd=true->t.slot sl= .dummy) (h4:wd=false->t.slot sl= .empty) (bv:Bool) :
  (Zma es (t.put sl).2 (k.hash prog w,x)).size=es.size+1/\(zbq bv (t.put sl).1).fits (Zma es (t.put sl).2 (k.hash prog w,x)).size=true/\(zbq bv (t.put sl).1).led=led0 w /\
  (Zma es (t.put sl).2 (k.hash prog w,x)).toList.Perm ((k.hash prog w,x)::es.toList)/\(∃k1,k1.Perm (k::ks)/\Es prog w h k1 (Zma es (t.put sl).2 (k.hash prog w,x)).toList) /\
  ((wd=true\/(zbq bv (t.put sl).1).tooFull=false)->SOk (zbq bv (t.put sl).1) (Zma es (t.put sl).2 (k.hash prog w,x)).toList):=by
 have hs:t.slot sl= .empty\/t.slot sl= .dummy:=by cases wd with
  | true=>exact .inr (h3 rfl)
  | false=>exact .inl (h4 rfl)
 obtain⟨g1,g2,g3,g4,g5,g6,g7,g8,g9⟩:=yf1 t es (k.hash prog w) x sl S.tab hs h1 h2
 have hroom:=S.tab.room
 have hsz:(Zma es (t.put sl).2 (k.hash prog w,x)).size=es.size+1:=by
  have:=g7.length_eq;simpa using this
 refine⟨hsz,?_,?_,g7,?_,?_⟩
 .simp only[Zsb,Zmd,beq_iff_eq,decide_eq_true_eq]
  rw[zje,zkr,zhr]
  exact⟨g3,by rw[g2];lia⟩
 .rw[ztz,g8];exact S.led
 .exact(Es.cons (e:=(k.hash prog w,x)) rfl hx S.ent).perm g7
 .intro hc
  refine zqs (t:=(t.put sl).1) ⟨g1,?_,by rw[g3,Zm4],g4⟩ (zhr ..) (zje ..) (zmv ..)
  rcases hc with hc | hc
  .rw[g6 (h3 hc),g2];exact hroom
  .unfold SetTable.tooFull at hc
   rw[zkr,zhr] at hc
   simpa using hc
theorem SetO.newk{o:Obj}{ks:List SK}{es:Array (Int×Zll)}{ep:Nat}{t:Zlr}(S:SetO prog w h o ks es ep t){k:SK}(hk:∀k'∈ks,k'.flat=k.flat)(hn:k∉ks)(hr:ks.length+1<=1000)
  {h':Heap} {k1:List SK} {e1:Array (Int×Zll)} {ep1:Nat} {t1:Zlr} (p:k1.Perm (k::ks)) (ok:SOk t1 e1.toList) (en:Es prog w h' k1 e1.toList) (hl:t1.led=led0 w) :
  SetO prog w h' { o with data:=.set e1 ep1 t1 } k1 e1 ep1 t1 :=
 ⟨S.ex,rfl,ok,en,p.nodup_iff.mpr (Zn3.mpr ⟨hn,S.nod⟩),by rw[p.length_eq];simpa using hr,hl,k.flat,fun k' hk'=>by
  rcases Zly.mp (p.mem_iff.mp hk') with rfl | e
  .rfl
  .exact hk k' e⟩
end
section
variable{prog:Zmi}{w:Zng}{A:Zmu}{E:Zll->Zlo->Prop}{s:Zlo}
theorem zce{n:Nat}(h:n<=1001):n<=sizeLine:=by rw[Zl7];lia
theorem znj{n:Nat}(h:n<=4095):¬ SetTable.sizeAbove n>sizeLine:=by
 obtain⟨_,_,_,_,h5⟩:=zkv n h
 rw[Zl7];lia
theorem zfr{n:Nat}(h:n<=1000):2*n<=Zo9 n/\Zo9 n<=4095:=by
 unfold Zo9
 rw[if_neg (by lia)];lia
theorem yjs {a : Addr} {o : Obj} {ks : List SK} {es : Array (Int × Zll)} {ep : Nat} {t : Zlr} {x : Zll} {k : SK} {Q : Bool -> Zlo -> Prop} (hu : A.units < Zr6)
  (ho:s.heap.get? a=some o) (S:SetO prog w s.heap o ks es ep t) (hk:∀k'∈ks,k'.flat=k.flat) (hx:k.is prog w s.heap x) (hr:ks.length+1<=1000)
  (q:∀h' k1 e1,Zog a s.heap h'->SetE prog w h' a k1 e1->k1.Perm (if k∈ks then ks else k::ks)->(∀e∈e1.toList,e∈es.toList\/e=(k.hash prog w,x))->Q (decide (k∉ks)) { s with heap:=h' }) :
  Zl8 (Zmh prog w) A (Zv0 a x (k.hash prog w)) Q E s:=by
 have hlen:es.size=ks.length:=by have:=S.ent.length;simp at this;lia
 have old:k∈ks->Q false s:=fun hin=>by
  have:=q s.heap ks es (Zpz _ _) ⟨o,ep,t,ho,S⟩ (by rw[if_pos hin]) (fun e he=>.inl he)
  rw[decide_eq_false (by simpa using hin)] at this
  exact this
 have new:k∉ks-> ∀h' e1 ep1 t1 k1,Zog a s.heap h'->h'.get? a=some { o with data:=.set e1 ep1 t1 }->k1.Perm (k::ks)->SOk t1 e1.toList->Es prog w s.heap k1 e1.toList->t1.led=led0 w->e1.toList.Perm ((k.hash prog w,x)::es.toList)->Q true { s with heap:=h' }:=fun hn h' e1 ep1 t1 k1 hs hg p ok en hl hp=>by
  have hK:zjm s.heap h':=zeo (es:=es) (ep:=ep) (t:=t) ho S.ex hs
  have:=q h' k1 e1 hs ⟨_,ep1,t1,hg,S.newk hk hn hr p ok (en.mono hK) hl⟩ (by rw[if_neg hn];exact p) (fun e he=>by
   rcases Zly.mp (hp.mem_iff.mp he) with z | z
   .exact .inr z
   .exact .inl z)
  rw[decide_eq_true hn] at this
  exact this
 unfold Zv0 Ycx
 refine Zos (Zli (zi6 (M:=Zmh prog w) ho S ?_))
 dsimp only
 cases k with
 | one k =>
  rw[zom hx S.ent hk S.small,if_pos rfl]
  unfold setAddByScan
  refine Zli (Zli (Zvh ?_))
  refine Zli (Ybm (knd:=zav prog w) hx ho S.data S.fits (S.ent.flats hk) ?_)
  obtain⟨i1,i2⟩:=S.ent.idx hk k
  cases hi:es.toList.findIdx? (fun e=>(zav prog w).is k e.2) with
  | some j=>exact Zln (Zln (old (Zlv (i1 j hi))))
  | none =>
   have hn:=i2 hi
   obtain⟨sl,wd,f1,f2,f3,f4,f5⟩:=ybm S.tab (SK.hash prog w (.one k)) x
   dsimp only
   rw[f1]
   refine Zli (Zln (a:=()) ?_)
   dsimp only
   have fin:∀(gw:Bool->Sem Unit) (hgw:∀(s:Zlo) (Q:Unit->Zlo->Prop),Q () s->Zl8 (Zmh prog w) A (gw false) Q E s) (bv:Bool),Zl8 (Zmh prog w) A (do
     Ydb a (Zma es (t.put sl).2 (SK.hash prog w (.one k),x)) (zbq bv (t.put sl).1)
     if (!wd&&(zbq bv (t.put sl).1).tooFull)=true then do
      gw (Zxx (zbq bv (t.put sl).1) (Zma es (t.put sl).2 (SK.hash prog w (.one k),x)) (Zo9 (Zma es (t.put sl).2 (SK.hash prog w (.one k),x)).size)).2.2
      Ydb a (Zxx (zbq bv (t.put sl).1) (Zma es (t.put sl).2 (SK.hash prog w (.one k),x)) (Zo9 (Zma es (t.put sl).2 (SK.hash prog w (.one k),x)).size)).1
       (Zxx (zbq bv (t.put sl).1) (Zma es (t.put sl).2 (SK.hash prog w (.one k),x)) (Zo9 (Zma es (t.put sl).2 (SK.hash prog w (.one k),x)).size)).2.1
      pure (some true)
     else pure (some true)) (fun r s'=>Zl8 (Zmh prog w) A (match r with | some added=>pure added | none=>Ycx a x (SK.hash prog w (.one k)) 99999) Q E s') E s:=by
    intro gw hgw bv
    obtain⟨p1,p2,p3,p7,⟨k1,p4,p5⟩,p6⟩:=zqw (bv:=bv) S (k:=.one k) hx f2 f3 f4 f5
    refine Zli (Zrm ho S.data ?_ (zce (by lia)))
    have g1:=zm7 ho S.data (Zma es (t.put sl).2 (SK.hash prog w (.one k),x)) (zbq bv (t.put sl).1)
    have sb1:=Zof s.heap a (Zun (Zma es (t.put sl).2 (SK.hash prog w (.one k),x)) (zbq bv (t.put sl).1))
    by_cases hc:(!wd&&(zbq bv (t.put sl).1).tooFull)=true
    .rw[if_pos hc]
     obtain⟨t2,e2,r1,r2,_,r4,r5⟩:=zts (zbq bv (t.put sl).1) (Zma es (t.put sl).2 (SK.hash prog w (.one k),x)) (Zo9 (Zma es (t.put sl).2 (SK.hash prog w (.one k),x)).size)
      (zfr (by lia)).1 (zfr (by lia)).2
     rw[r1]
     refine Zli (hgw _ _ ?_)
     have z2:e2.size=es.size+1:=by rw[<- p1];have:=r4.length_eq;simpa using this
     refine Zli (Zrm g1 rfl ?_ (zce (by show e2.size<=1001;lia)))
     obtain⟨k2,q1,q2⟩:=p5.perm r4
     refine Zln (Zln (new hn _ e2 _ t2 k2 (sb1.trans (Zof _ a _)) (zm7 g1 rfl e2 t2) (q1.trans p4) r5 q2 (by rw[r2];exact p3) (r4.trans p7)))
    .rw[if_neg hc]
     refine Zln (Zln (new hn _ _ _ _ k1 sb1 g1 p4 (p6 ?_) p5 p3 p7))
     cases wd with
     | true=>exact .inl rfl
     | false=>exact .inr (by simpa using hc)
   split
   .refine Zli (yku (k:=.one k) hx fun b=>?_)
    exact fin _ (fun _ _ q=>Zln q) b
   .exact Zli (Zln (fin _ (fun _ _ q=>Zln q) true))
 | many kk =>
  obtain⟨ax,rfl,hax⟩:=hx
  rw[zmi]
  simp only[Zl5,if_false]
  unfold setSearch
  refine Zli (zvl hu ho S hk ⟨ax,rfl,hax⟩ (fun i hi=>?_) (fun hn sl wd f2 f3 f4 f5=>?_) 100000 0 none (fun _=>rfl) (fun p hp=>by cases hp) (fun q hq=>by lia) (zwe S.tab _))
  .exact Zln (old (Zlv hi))
  .dsimp only
   refine Zli (zi6 (M:=Zmh prog w) ho S ?_)
   dsimp only
   have fin:∀bv:Bool,Zl8 (Zmh prog w) A (do
     Ydb a (Zma es (t.put sl).2 (SK.hash prog w (.many kk),.ref ax)) (zbq bv (t.put sl).1)
     if (!wd&&(zbq bv (t.put sl).1).tooFull)=true then do
      setRelay a (Zo9 (es.size+1))
      pure true
     else pure true) Q E s:=by
    intro bv
    obtain⟨p1,p2,p3,p7,⟨k1,p4,p5⟩,p6⟩:=zqw (bv:=bv) S (k:=.many kk) ⟨ax,rfl,hax⟩ f2 f3 f4 f5
    refine Zli (Zrm ho S.data ?_ (zce (by lia)))
    have g1:=zm7 ho S.data (Zma es (t.put sl).2 (SK.hash prog w (.many kk),.ref ax)) (zbq bv (t.put sl).1)
    have sb1:=Zof s.heap a (Zun (Zma es (t.put sl).2 (SK.hash prog w (.many kk),.ref ax)) (zbq bv (t.put sl).1))
    by_cases hc:(!wd&&(zbq bv (t.put sl).1).tooFull)=true
    .rw[if_pos hc]
     obtain⟨t2,order,r1,_,_,r2,_,_,r4,r6,r5⟩:=zs7 (zbq bv (t.put sl).1) (Zma es (t.put sl).2 (SK.hash prog w (.many kk),.ref ax)) (Zo9 (es.size+1))
      (by rw[p1];exact(zfr (by lia)).1) (zfr (by lia)).2
     unfold setRelay
     refine Zli (Zli (Zvg g1 rfl p2 ?_))
     dsimp only
     rw[if_neg (znj (zfr (by lia)).2)]
     rw[r1]
     refine Zli (Zoi (fun h=>absurd h (by rw[r6];simp)) (fun _=>Zln ?_))
     dsimp only
     refine Zrm g1 rfl ?_ (zce (by rw[r6,p1];lia))
     obtain⟨k2,q1,q2⟩:=p5.perm r4
     exact Zln (new hn _ _ _ t2 k2 (sb1.trans (Zof _ a _)) (zm7 g1 rfl _ t2) (q1.trans p4) r5 q2 (by rw[r2];exact p3) (r4.trans p7))
    .rw[if_neg hc]
     refine Zln (new hn _ _ _ _ k1 sb1 g1 p4 (p6 ?_) p5 p3 p7)
     cases wd with
     | true=>exact .inl rfl
     | false=>exact .inr (by simpa using hc)
   split
   .refine Zli (yku (k:=.many kk) ⟨ax,rfl,hax⟩ fun b=>?_)
    exact fin b
   .exact Zli (Zln (fin true))
end
theorem zea:Slot "set_iterator" "__next__" "set_iterator.__next__" :=
 .of (owner:="set_iterator") (n:="__next__") (by rw[Ycg,Zyx];kernel_rfl) (by decide +kernel) (by decide +kernel)
  (by decide +kernel) (by first | exact .inl (by decide +kernel) | exact .inr (by decide +kernel)) (by rw[Yc0];kernel_rfl)
theorem zpq:Yab table "set_iterator.__next__" = some Zmz.«set_iterator.__next__»:=entryFor_of_tree (by kernel_rfl)
theorem zu1:Manifest.owners.lookup (String.ofList ['r','o','t','a','r','e','t','i','_','t','e','s'].reverse)=some Manifest.sig_set_iterator:=by kernel_rfl
theorem zr4(a:Zll):Yaf "set_iterator.__next__" ⟨[a],[]⟩:=by
 unfold Yaf
 rw[Ydc (id:="set_iterator.__next__") (n:=['_','_','t','x','e','n','_','_']) (o:=['r','o','t','a','r','e','t','i','_','t','e','s']) (by kernel_rfl) zu1];kernel_rfl
theorem zkt:Slot "set_iterator" "__iter__" "set_iterator.__iter__" :=
 .of (owner:="set_iterator") (n:="__iter__") (by rw[Ycg,Zyx];kernel_rfl) (by decide +kernel) (by decide +kernel)
  (by decide +kernel) (by first | exact .inl (by decide +kernel) | exact .inr (by decide +kernel)) (by rw[Yc0];kernel_rfl)
theorem zpu:Yab table "set_iterator.__iter__" = some Zmz.«dict_keyiterator.__iter__» :=
 Zw5 (id':="dict_keyiterator.__iter__") (by kernel_rfl) rfl (by decide +kernel) (by kernel_rfl)
theorem zrq(a:Zll):Yaf "set_iterator.__iter__" ⟨[a],[]⟩:=by
 unfold Yaf
 rw[Ydc (id:="set_iterator.__iter__") (n:=['_','_','r','e','t','i','_','_']) (o:=['r','o','t','a','r','e','t','i','_','t','e','s']) (by kernel_rfl) zu1];kernel_rfl
theorem zqf:Yab table "set.__iter__" = some Zmz.«frozenset.__iter__» :=
 Zw5 (id':="frozenset.__iter__") (by kernel_rfl) rfl (by decide +kernel) (by kernel_rfl)
noncomputable def zd3(w:Zng):Bool:=w.params.followText "set-order"
section
variable{prog:Zmi}{w:Zng}{A:Zmu}{E:Zll->Zlo->Prop}{s:Zlo}
theorem zof{α:Type}{l:List α}{i:Nat}(h:i<l.length):(l[i]::l.eraseIdx i).Perm l:=by
 rw[List.eraseIdx_eq_take_drop_succ]
 have e:(l.take i++l[i]::l.drop (i+1)).Perm (l[i]::(l.take i++l.drop (i+1))):=Zy5
 rw[Zw0,Zrf] at e
 exact e.symm
theorem yc4{src:Source}{n:Nat}{Q:Nat->Zlo->Prop}(hn:n≠0)(q:∀i d,i<n->Q i { s with drawn:=d }):Zl8 (Zmh prog w) A (choose src n) Q E s :=
 fun _ _ _=>⟨hn,q _ _ (Zrw _ (Nat.pos_of_ne_zero hn))⟩
theorem yga{α:Type}:∀(n:Nat) (xs:List α) (s:Zlo) (Q:List α->Zlo->Prop),xs.length<=n->(∀l d,l.Perm xs->Q l { s with drawn:=d })->Zl8 (Zmh prog w) A (drawOrder n xs) Q E s:=by
 intro n
 induction n with
 | zero =>
  intro xs s Q hl q
  have:xs=[]:=Zrk (by lia)
  subst this
  exact Zln (q [] s.drawn (.refl _))
 | succ n ih =>
  intro xs s Q hl q
  cases xs with
  | nil=>exact Zln (q [] s.drawn (.refl _))
  | cons x xs =>
   unfold drawOrder
   refine Zli (yc4 (by simp) fun i d hi=>?_)
   rw[Zlj hi]
   dsimp only
   refine Zli (ih _ _ _ ?_ fun l d' hp=>?_)
   .rw[Zvr hi];simp at hl ⊢;omega
   .refine Zln (q _ d' ?_)
    exact(hp.cons _).trans (zof hi)
theorem yhq{α:Type}(next:Nat->Nat):∀(fuel k:Nat) (left:List α) (out:Array α),left.length<=fuel->(Zvk next fuel k left out).toList.Perm (out.toList++left):=by
 intro fuel
 induction fuel with
 | zero =>
  intro k left out hl
  have:left=[]:=Zrk (by lia)
  subst this
  unfold Zvk
  simp
 | succ fuel ih =>
  intro k left out hl
  unfold Zvk
  cases left with
  | nil=>simp
  | cons x l =>
   have hi:next k % (x::l).length<(x::l).length:=Zrw _ (by simp)
   rw[Zlj hi]
   dsimp only
   refine(ih _ _ _ (by rw[Zvr hi];lia)).trans ?_
   rw[Zyd,Zpn]
   exact Ydt _ (zof hi)
theorem zrd{α:Type}(next:Nat->Nat)(xs:Array α):(Zsh next xs).toList.Perm xs.toList:=by
 unfold Zsh
 exact(yhq next xs.size 0 xs.toList #[] (by simp)).trans (by simp)
noncomputable def zkj(w:Zng)(a:Addr)(es:Array (Int×Zll))(ep:Nat)(t:Zlr)(slot given:Nat):Option (Zll×Nat) :=
 if zd3 w then ((Zsh (w.params.setOrder a ep) es)[given]?).map fun e=>(e.2,slot) else
  match es[Zml t.place slot]?,t.place[Zml t.place slot]? with
  | some (_,x),some j=>some (x,j+1)
  | _,_=>none
structure SetL(w:Zng)(o:Obj)(es:Array (Int×Zll))(ep:Nat)(t:Zlr):Prop where
 data:o.data= .set es ep t
 tab:SOk t es.toList
 led:t.led=led0 w
theorem SetO.lite{o:Obj}{ks:List SK}{h:Heap}{es:Array (Int×Zll)}{ep:Nat}{t:Zlr}(S:SetO prog w h o ks es ep t):SetL w o es ep t:=⟨S.data,S.tab,S.led⟩
theorem SetL.fits{o:Obj}{es:Array (Int×Zll)}{ep:Nat}{t:Zlr}(S:SetL w o es ep t):t.fits es.size=true:=by
 have h1:=S.tab.size
 have h2:=S.tab.room
 simp only[Zsb,Zmd,beq_iff_eq,decide_eq_true_eq]
 exact⟨by simpa using h1,by lia⟩
theorem zjg{a:Addr}{o:Obj}{es:Array (Int×Zll)}{ep:Nat}{t:Zlr}{Q:Array (Int×Zll)×Nat×Zlr->Zlo->Prop}
  (ho:s.heap.get? a=some o) (S:SetL w o es ep t) (q:Q (es,ep,t) s):Zl8 (Zmh prog w) A (setState a) Q E s:=Zvg ho S.data S.fits q
theorem zv3{o:Obj}{es:Array (Int×Zll)}{ep:Nat}{t:Zlr}(S:SetL w o es ep t):t.led= !zd3 w:=S.led
theorem zqo{a:Addr}{o:Obj}{es:Array (Int×Zll)}{ep:Nat}{t:Zlr}{slot given:Nat}{Q:Option (Zll×Nat)->Zlo->Prop}(ho:s.heap.get? a=some o)(S:SetL w o es ep t)
  (hd:zd3 w=false->(!t.plain&&decide (es.size>1))=false) (q:Q (zkj w a es ep t slot given) s):Zl8 (Zmh prog w) A (setNext a slot given ep) Q E s:=by
 unfold setNext
 refine Zli (zjg ho S ?_)
 dsimp only
 unfold Zvj
 refine Zli (Zli (Zp4 (Zln ?_)))
 show Zl8 _ _ (if zd3 w=true then _ else _) Q E s
 unfold zkj at q
 cases hb:zd3 w with
 | true =>
  rw[hb] at q
  simp only[if_true,bne_self_eq_false,Zl5,if_false]
  unfold setWalk
  refine Zli (Zli (zjg ho S ?_))
  dsimp only
  unfold Zvj
  refine Zli (Zli (Zp4 (Zln ?_)))
  show Zl8 _ _ (if zd3 w=true then _ else _) _ E s
  rw[hb,if_pos rfl]
  refine Zli (Zp4 (Zln ?_))
  exact Zln q
 | false =>
  rw[hb] at q
  simp only[Zl5,if_false]
  refine Zoi (fun h=>absurd (show(!t.plain&&decide (es.size>1))=true from h) (by rw[hd hb];simp)) (fun _=>?_)
  have hld:=zv3 S
  rw[hb] at hld
  exact Zli (Zoi (fun h=>absurd h (by rw[hld];simp)) (fun _=>Zln (Zln q)))
noncomputable def zh2(h:Heap)(I a:Addr)(first:Zll)(i n ep:Nat):Prop:=∃o,h.get? I=some o/\o.cls= .type "set_iterator" /\ o.data= .fields #[first,.int i 0,.ref a,.int n 0,.int ep 0]
theorem zh2.typeIs{I a:Addr}{first:Zll}{i n ep:Nat}(x:zh2 s.heap I a first i n ep):s.TypeIs (.ref I) "set_iterator" := let ⟨o,ho,hc,_⟩:=x;⟨o,ho,hc⟩
theorem zh2.at{h h':Heap}{I a:Addr}{first:Zll}{i n ep:Nat}(x:zh2 h I a first i n ep)(k:∀o,h.get? I=some o->h'.get? I=some o):zh2 h' I a first i n ep:=let ⟨o,ho,r⟩:=x;⟨o,k o ho,r⟩
theorem ygf{h1:Heap}{Q:Option Zll->Zlo->Prop}{P:Zy1->Zlo->Prop}(hh:A.handled=none)(q:∀h',(∀b o,h1.get? b=some o->h'.get? b=some o)->Q none { s with heap:=h' }) :
  Zl8 (Zmh prog w) A.in1 (do raiseNew (<- newExc (.type "StopIteration") [])) P (fun e s'=>Zl8 (Zmh prog w) A (do if <- isInstance e (.type "StopIteration") then pure none else throw e) Q E s') { s with heap:=h1 }:=by
 refine Zli ?_
 simp only[newExc,newTuple]
 refine Zli (Zo7 ?_ (by size_fits))
 refine Zli (m:=Yc1 _ _) (Zzo (a:=Znw) (by first | rfl | (simp only[Yc1];rfl)) ?_)
 refine Zo7 ?_ (by size_fits)
 simp only[raiseNew]
 refine Zli (wpAny_handled ?_)
 rw[show A.in1.handled=none from hh]
 refine Zli (Zln (wpAny_throw ?_))
 refine Zli (Ztj (T:="StopIteration") (b:=true) ⟨_,Zl3 _ rfl,rfl⟩ isSubtype_stop ?_)
 exact Zln (q _ fun b o e=>Zlu _ (Zlu _ e))
end
section
variable{prog:Zmi}{w:Zng}{A:Zmu}{E:Zll->Zlo->Prop}{s:Zlo}
theorem zji{I a:Addr}{first:Zll}{i n ep:Nat}{Q:Option Zll->Zlo->Prop}(hit:zh2 s.heap I a first i n ep)
  (h:Zl8 (Zmh prog w) A.in1 (Zmz.«set_iterator.__next__» ⟨[.ref I],[]⟩) (fun fin s'=>∃r,fin= .done (.ret r)/\Q (some r) s')
   (fun e s'=>Zl8 (Zmh prog w) A (do if <- isInstance e (.type "StopIteration") then pure none else throw e) Q E s') s):Zl8 (Zmh prog w) A (Zu6 (.ref I)) Q E s:=by
 unfold Zu6
 refine Zli (wpAny_attempt (wpAny_callSpecial?_slot (name:=Zw7 "__next__") hit.typeIs zea (Zqq zea hit.typeIs zpq (Zn1 h ?_ ?_) (zr4 _))))
 .rintro fin s' ⟨r,rfl,q⟩
  exact⟨r,rfl,Zln q⟩
 .intro e s' q
  exact q
theorem zs4{I a:Addr}{o:Obj}{es:Array (Int×Zll)}{ep:Nat}{t:Zlr}{slot i nx:Nat}{x:Zll}{Q:Option Zll->Zlo->Prop}(hit:zh2 s.heap I a (.int slot 0) i es.size ep)
  (ho:s.heap.get? a=some o) (S:SetL w o es ep t) (hd:zd3 w=false->(!t.plain&&decide (es.size>1))=false) (hn:zkj w a es ep t slot i=some (x,nx))
  (q:∀h',zh2 h' I a (.int nx 0) (i+1) es.size ep->Zog I s.heap h'->Q (some x) { s with heap:=h' }):Zl8 (Zmh prog w) A (Zu6 (.ref I)) Q E s:=by
 refine zji hit ?_
 obtain⟨oi,hoi,hc,hdi⟩:=id hit
 unfold Zmz.«set_iterator.__next__»
 refine Zli (Zln ?_)
 refine Zli (Zug hoi hdi ?_)
 dsimp only
 refine Zli (Zpb ho S.data S.fits ?_)
 rw[if_neg (by simp)]
 refine Zli (zqo ho S hd ?_)
 simp only[Zqc]
 rw[hn]
 dsimp only
 refine Zli (Zrq hoi hdi (by simp) ?_)
 have g1:(s.heap.update I (Ybg (·.setIfInBounds 0 (Zp0 nx)))).get? I=some _:=Zor _ hoi (Zri (Zov hdi _))
 have d1:=Zov hdi (·.setIfInBounds 0 (Zp0 nx))
 refine Zli (Zrq g1 d1 (by simp) ?_)
 refine Zln ⟨x,rfl,q _ ⟨_,Zor _ g1 (Zri (Zov d1 _)),?_,?_⟩ ((Zof ..).trans (Zof ..))⟩
 .exact(Zuo ..).trans ((Zuo ..).trans hc)
 .rw[Zov d1];simp[Zp0]
theorem zvg{I a:Addr}{o:Obj}{es:Array (Int×Zll)}{ep:Nat}{t:Zlr}{slot i:Nat}{Q:Option Zll->Zlo->Prop}(hh:A.handled=none)(hit:zh2 s.heap I a (.int slot 0) i es.size ep)
  (ho:s.heap.get? a=some o) (S:SetL w o es ep t) (hd:zd3 w=false->(!t.plain&&decide (es.size>1))=false) (hn:zkj w a es ep t slot i=none)
  (q:∀h',(∀b o,b≠I->s.heap.get? b=some o->h'.get? b=some o)->Q none { s with heap:=h' }):Zl8 (Zmh prog w) A (Zu6 (.ref I)) Q E s:=by
 refine zji hit ?_
 obtain⟨oi,hoi,hc,hdi⟩:=id hit
 unfold Zmz.«set_iterator.__next__»
 refine Zli (Zln ?_)
 refine Zli (Zug hoi hdi ?_)
 dsimp only
 refine Zli (Zpb ho S.data S.fits ?_)
 rw[if_neg (by simp)]
 refine Zli (zqo ho S hd ?_)
 simp only[Zqc]
 rw[hn]
 dsimp only
 refine Zli (Zrq hoi hdi (by simp) ?_)
 exact ygf hh fun h' k=>q h' fun b o hb e=>k b o ((Znp _ _ (Zne hb)).trans e)
noncomputable def zp7(h:Heap)(p:Addr)(pl:List Nat):Prop:=∃o n,h.get? p=some o/\o.data= .seq (pl.map fun(i:Nat)=>Zp0 i).toArray n
theorem zw4{I a p:Addr}{o:Obj}{es:Array (Int×Zll)}{ep:Nat}{t:Zlr}{i:Nat}{pl:List Nat}{e:Int×Zll}{j:Nat}{Q:Option Zll->Zlo->Prop}(hit:zh2 s.heap I a (.ref p) i es.size ep)
  (hp:zp7 s.heap p pl) (ho:s.heap.get? a=some o) (S:SetL w o es ep t) (hj:pl[i]? = some j) (he:es[j]? = some e)
  (q:∀h',zh2 h' I a (.ref p) (i+1) es.size ep->Zog I s.heap h'->Q (some e.2) { s with heap:=h' }):Zl8 (Zmh prog w) A (Zu6 (.ref I)) Q E s:=by
 refine zji hit ?_
 obtain⟨oi,hoi,hc,hdi⟩:=id hit
 obtain⟨op,np,hop,hdp⟩:=hp
 unfold Zmz.«set_iterator.__next__»
 refine Zli (Zln ?_)
 refine Zli (Zug hoi hdi ?_)
 dsimp only
 refine Zli (Zpb ho S.data S.fits ?_)
 rw[if_neg (by simp)]
 refine Zli (Zuf hop hdp ?_)
 dsimp only
 have hpl:(pl.map fun(i:Nat)=>Zp0 i).toArray[(i:Int).toNat]? = some (.int j 0):=by
  simp[hj,Zp0]
 rw[hpl]
 dsimp only
 unfold setNextDrawn
 refine Zli (Zli (zjg ho S ?_))
 simp only[Zqc,bne_self_eq_false,Zl5,if_false,he]
 refine Zln ?_
 refine Zli (Zrq hoi hdi (by simp) ?_)
 refine Zln ⟨e.2,rfl,q _ ⟨_,Zor _ hoi (Zri (Zov hdi _)),?_,?_⟩ (Zof ..)⟩
 .exact(Zuo ..).trans hc
 .rw[Zov hdi];simp[Zp0]
theorem zyp{I a p:Addr}{o:Obj}{es:Array (Int×Zll)}{ep:Nat}{t:Zlr}{i:Nat}{pl:List Nat}{Q:Option Zll->Zlo->Prop}(hh:A.handled=none)(hit:zh2 s.heap I a (.ref p) i es.size ep)
  (hp:zp7 s.heap p pl) (ho:s.heap.get? a=some o) (S:SetL w o es ep t) (hj:pl[i]? = none)
  (q:∀h',(∀b o,b≠I->s.heap.get? b=some o->h'.get? b=some o)->Q none { s with heap:=h' }):Zl8 (Zmh prog w) A (Zu6 (.ref I)) Q E s:=by
 refine zji hit ?_
 obtain⟨oi,hoi,hc,hdi⟩:=id hit
 obtain⟨op,np,hop,hdp⟩:=hp
 unfold Zmz.«set_iterator.__next__»
 refine Zli (Zln ?_)
 refine Zli (Zug hoi hdi ?_)
 dsimp only
 refine Zli (Zpb ho S.data S.fits ?_)
 rw[if_neg (by simp)]
 refine Zli (Zuf hop hdp ?_)
 dsimp only
 have hpl:(pl.map fun(i:Nat)=>Zp0 i).toArray[(i:Int).toNat]? = none:=by
  simp at hj;simp[hj]
 rw[hpl]
 dsimp only
 refine Zli (Zrq hoi hdi (by simp) ?_)
 have g1:(s.heap.update I (Ybg (·.setIfInBounds 0 (Zp0 0)))).get? I=some _:=Zor _ hoi (Zri (Zov hdi _))
 have d1:=Zov hdi (·.setIfInBounds 0 (Zp0 0))
 refine Zli (Zrq g1 d1 (by simp) ?_)
 exact ygf hh fun h' k=>q h' fun b o hb e=>k b o ((Znp _ _ (Zne hb)).trans ((Znp _ _ (Zne hb)).trans e))
theorem ydl(xs:Array Nat)(hp:xs.toList.Pairwise (· < ·))(j i:Nat)(hi:i<=xs.size)(h1:∀k x,k<i->xs[k]? = some x->x<j)(h2:∀k x,i<=k->xs[k]? = some x->j<=x):Zml xs j=i:=by
 obtain⟨b0,b1,b2⟩:=zie xs j hp
 rcases Zup (Zml xs j) i with c | c | c
 .have hg:xs[Zml xs j]? = some (xs[Zml xs j]'(by lia)):=Zl9 _
  have:=h1 _ _ c hg
  have:=b2 _ _ (Zlt _) hg
  lia
 .exact c
 .have hg:xs[i]? = some (xs[i]'(by lia)):=Zl9 _
  have:=h2 _ _ (Zlt _) hg
  have:=b1 _ _ c hg
  lia
noncomputable def zi8(t:Zlr)(i:Nat):Nat:=if i=0 then 0 else t.place.getD (i - 1) 0+1
theorem yk5{a:Addr}{es:Array (Int×Zll)}{ep:Nat}{t:Zlr}(ok:SOk t es.toList)(hb:zd3 w=false)(i:Nat)(hi:i<=es.size) :
  zkj w a es ep t (zi8 t i) i=(es[i]?).map fun e=>(e.2,zi8 t (i+1)):=by
 have hsz:t.place.size=es.size:=by simpa using ok.size
 have hbel:Zml t.place (zi8 t i)=i:=by
  refine ydl _ ok.ok.pl _ _ (by lia) (fun k x hk hx=>?_) (fun k x hk hx=>?_)
  .unfold zi8
   rw[if_neg (by lia)]
   have hl:i - 1<t.place.size:=by lia
   have hg:t.place[i - 1]? = some (t.place[i - 1]):=Zl9 hl
   have e:t.place.getD (i - 1) 0=t.place[i - 1]:=by simp[Zq4,hl]
   rw[e]
   rcases Zph k (i - 1) with c | c
   .have:=zoq t.place ok.ok.pl k (i - 1) x _ c hx hg;lia
   .have:k=i - 1:=by lia
    subst this;rw[hg] at hx;cases hx;lia
  .unfold zi8
   split
   .lia
   .have hl:i - 1<t.place.size:=by lia
    have hg:t.place[i - 1]? = some (t.place[i - 1]):=Zl9 hl
    have e:t.place.getD (i - 1) 0=t.place[i - 1]:=by simp[Zq4,hl]
    rw[e]
    have:=zoq t.place ok.ok.pl (i - 1) k _ x (by lia) hg hx;lia
 unfold zkj
 rw[hb,hbel]
 simp only[Zl5,if_false]
 by_cases hc:i<es.size
 .have h1:es[i]? = some es[i]:=Zl9 hc
  have h2:t.place[i]? = some (t.place[i]'(by lia)):=Zl9 _
  rw[h1,h2]
  show some (es[i].2,_)=some (es[i].2,zi8 t (i+1))
  unfold zi8
  rw[if_neg (by lia)]
  have e:t.place.getD (i+1 - 1) 0=t.place[i]'(by lia):=by
   have hl:i<t.place.size:=by lia
   simp[Zq4,hl]
  rw[e]
 .have h1:es[i]? = none:=Zwp (by lia)
  rw[h1];rfl
end
noncomputable def zge(h h':Heap):Prop:=∀b o,h.get? b=some o->h'.get? b=some o
theorem zge.T{h h':Heap}(k:zge h h'):zjm h h':=fun b o _ e=>k b o e
section
variable{prog:Zmi}{w:Zng}{A:Zmu}{E:Zll->Zlo->Prop}{s:Zlo}
theorem zia{I a:Addr}{first:Zll}{i n ep:Nat}{Q:Zll->Zlo->Prop}(hit:zh2 s.heap I a first i n ep)(q:Q (.ref I) s):Zl8 (Zmh prog w) A (Zyu (.ref I)) Q E s:=by
 refine Yaq hit.typeIs zkt (Zqq zkt hit.typeIs zpu ?_ (zrq _))
 show Zl8 _ _ (ret (.ref I)) _ _ s
 exact Zln ⟨_,rfl, "set_iterator", _,hit.typeIs,zea.lookup,q⟩
noncomputable def zz7(prog:Zmi)(w:Zng)(A:Zmu)(I a:Addr)(fp:List Addr)(vs:List Zll)(St:Nat->Heap->Prop):Prop :=
 Zyy prog w A I fp [I] vs.length (fun i v=>vs[i]? = some v) St
theorem ym2{a I:Addr}{o:Obj}{es:Array (Int×Zll)}{ep:Nat}{t:Zlr}(S:SetL w o es ep t)(hb:zd3 w=true)(hne:a≠I)(hh:A.handled=none) :
  zz7 prog w A I a [I,a] ((Zsh (w.params.setOrder a ep) es).toList.map (·.2)) (fun i h=>zh2 h I a (.int (0:Nat) 0) i es.size ep/\h.get? a=some o):=by
 have hn:∀i,zkj w a es ep t 0 i=((((Zsh (w.params.setOrder a ep) es).toList.map (·.2))[i]?).map fun v=>(v,0)):=fun i=>by
  unfold zkj
  rw[hb,if_pos rfl,Zlx,Zmg,Option.map_map];rfl
 have hd:zd3 w=false->(!t.plain&&decide (es.size>1))=false:=fun e=>by rw[hb] at e;cases e
 refine⟨fun b hb=>by simp at hb;simp[hb],fun i h h' st k=>⟨st.1.at fun o e=>k I (by simp) o e,k a (by simp) o st.2⟩,fun i s Q E hi st q=>?_,fun s Q E st q=>?_,fun i s Q E st q=>zia st.1 q⟩
 .refine zs4 st.1 st.2 S hd (x:=((Zsh (w.params.setOrder a ep) es).toList.map (·.2))[i]) (nx:=0) (by rw[hn,Zlj hi];rfl) fun h' it' sb=>?_
  exact q _ h' s.toks (Zlj hi) ⟨it',(sb.2 a hne).trans st.2⟩ fun b o hb e=>(sb.2 b (by simpa using hb)).trans e
 .refine zvg hh st.1 st.2 S hd (by rw[hn,Zms (Zlt _)];rfl) fun h' k=>q h' s.toks fun b o hb e=>k b o (by simpa using hb) e
theorem ym7{a I:Addr}{o:Obj}{es:Array (Int×Zll)}{ep:Nat}{t:Zlr}(S:SetL w o es ep t)(hb:zd3 w=false)(hd:(!t.plain&&decide (es.size>1))=false)(hne:a≠I)(hh:A.handled=none) :
  zz7 prog w A I a [I,a] (es.toList.map (·.2)) (fun i h=>zh2 h I a (.int (zi8 t i) 0) i es.size ep/\h.get? a=some o):=by
 have hl:(es.toList.map (·.2)).length=es.size:=by simp
 refine⟨fun b hb=>by simp at hb;simp[hb],fun i h h' st k=>⟨st.1.at fun o e=>k I (by simp) o e,k a (by simp) o st.2⟩,fun i s Q E hi st q=>?_,fun s Q E st q=>?_,fun i s Q E st q=>zia st.1 q⟩
 .rw[hl] at hi
  have he:es[i]? = some es[i]:=Zl9 hi
  refine zs4 st.1 st.2 S (fun _=>hd) (x:=es[i].2) (nx:=zi8 t (i+1)) (by rw[yk5 S.tab hb i (by lia),he];rfl) fun h' it' sb=>?_
  exact q _ h' s.toks (by rw[Zlx,Zmg,he];rfl) ⟨it',(sb.2 a hne).trans st.2⟩ fun b o hb e=>(sb.2 b (by simpa using hb)).trans e
 .rw[hl] at st
  refine zvg hh st.1 st.2 S (fun _=>hd) (by rw[yk5 S.tab hb _ (Zlt _),Zwp (Zlt _)];rfl) fun h' k=>q h' s.toks fun b o hb e=>k b o (by simpa using hb) e
theorem ym0{a I p:Addr}{o:Obj}{es:Array (Int×Zll)}{ep:Nat}{t:Zlr}(S:SetL w o es ep t){pl:List Nat}(hp:pl.Perm (Zl6 es.size))(hne:a≠I)(hnp:p≠I)(hh:A.handled=none) :
  zz7 prog w A I a [I,a,p] (pl.map fun j=>(es.getD j (0,.none)).2) (fun i h=>zh2 h I a (.ref p) i es.size ep/\h.get? a=some o/\zp7 h p pl):=by
 refine⟨fun b hb=>by simp at hb;simp[hb],fun i h h' st k=>⟨st.1.at fun o e=>k I (by simp) o e,k a (by simp) o st.2.1,let ⟨op,n,e1,e2⟩:=st.2.2;⟨op,n,k p (by simp) op e1,e2⟩⟩,fun i s Q E hi st q=>?_,fun s Q E st q=>?_,fun i s Q E st q=>zia st.1 q⟩
 .rw[Zlm] at hi
  have hj:pl[i]? = some pl[i]:=Zlj hi
  have hjl:pl[i]<es.size:=Zm3.mp (hp.mem_iff.mp (Znl hi))
  have he:es[pl[i]]? = some es[pl[i]]:=Zl9 hjl
  refine zw4 st.1 st.2.2 st.2.1 S hj he fun h' it' sb=>?_
  refine q _ h' s.toks ?_ ⟨it',(sb.2 a hne).trans st.2.1,?_⟩ fun b o hb e=>(sb.2 b (by simpa using hb)).trans e
  .rw[Zlx,hj]
   show some (es.getD pl[i] (0,.none)).2=_
   simp[Zq4,hjl]
  .obtain⟨op,n,e1,e2⟩:=st.2.2
   exact⟨op,n,(sb.2 p hnp).trans e1,e2⟩
 .rw[Zlm] at st
  refine zyp hh st.1 st.2.2 st.2.1 S (Zms (Zlt _)) fun h' k=>q h' s.toks fun b o hb e=>k b o (by simpa using hb) e
theorem ztw{es:Array (Int×Zll)}{pl:List Nat}(hp:pl.Perm (Zl6 es.size)):(pl.map fun j=>(es.getD j (0,Znw)).2).Perm (es.toList.map (·.2)):=by
 refine(hp.map _).trans ?_
 have:(Zl6 es.size).map (fun j=>(es.getD j (0,Znw)).2)=es.toList.map (·.2):=by
  refine Zom fun i=>?_
  rw[Zlx,Zlx]
  by_cases hi:i<es.size
  .rw[Zn8 hi,Zlj (by simpa using hi)];simp[Zq4,hi]
  .rw[Zms (by simpa using hi),Zms (by simpa using hi)];rfl
 rw[this]
theorem zch{h:Heap}{o:Obj}:zge h (h.push o):=fun b u e=>Zlu _ e
theorem yk9{a:Addr}{o:Obj}{ks:List SK}{es:Array (Int×Zll)}{ep:Nat}{t:Zlr}{Q:Zll->Zlo->Prop}(ho:s.heap.get? a=some o)(S0:SetO prog w s.heap o ks es ep t)
  (q:∀(h1:Heap) (d:Zya) (I:Addr) (fp:List Addr) (vs:List Zll),(∀A':Zmu,A'.handled=none-> ∃St,Zyy prog w A' I fp [I] vs.length (fun i v=>vs[i]? = some v) St/\St 0 h1)->vs.Perm (es.toList.map (·.2))->zge s.heap h1->s.heap.objs.size<=I->I<h1.objs.size->(∀b∈fp,b=a\/s.heap.objs.size<=b) ->
   Q (.ref I) { s with heap:=h1,drawn:=d }):Zl8 (Zmh prog w) A (Zyu (.ref a)) Q E s:=by
 have S:=S0.lite
 have hT:s.TypeIs (.ref a) "set" := ⟨o,ho,S0.ex.1⟩
 have halt:a<s.heap.objs.size:=Zl4 ho
 refine Yaq hT Ybj (Zqq Ybj hT zqf ?_ (F.args_set_iter_1 _))
 unfold Zmz.«frozenset.__iter__»
 refine Zli (Zln ?_)
 unfold Zre
 refine Zli (Zli (Zpb ho S.data S.fits (Zln ?_)))
 unfold setDrawn
 refine Zli (Zli (zjg ho S ?_))
 dsimp only
 unfold Zvj
 refine Zli (Zli (Zp4 (Zln ?_)))
 refine Zln ?_
 show Zl8 _ _ (if (!zd3 w&&(!t.plain&&decide (es.size>1)))=true then _ else _) _ _ s
 have hsm:es.size<=1000:=by have:=S0.small;have:=S0.ent.length;simp at this;lia
 by_cases hc:(!zd3 w&&(!t.plain&&decide (es.size>1)))=true
 .rw[if_pos hc]
  refine Zli (yga _ _ _ _ (by simp) fun pl d hp=>?_)
  unfold newTuple
  refine Zli (Zo7 ?_ (by show(pl.map fun(i:Nat)=>Zp0 i).length<=sizeLine;rw[Zlm,hp.length_eq,Zm2];exact zce (by lia)))
  refine Zli (Zsy (Zlu _ ho) S.data S.fits ?_)
  unfold newFields
  refine Zli (Zo7 (Zln ⟨_,rfl, "set_iterator", _,⟨_,Zl3 _ rfl,rfl⟩,zea.lookup,?_⟩))
  show Q (.ref (s.heap.push { cls:=.type "tuple", data:=.seq (pl.map fun(i:Nat)=>Zp0 i).toArray }).objs.size) _
  have g1:(s.heap.push { cls:=.type "tuple", data:=.seq (pl.map fun(i:Nat)=>Zp0 i).toArray }).get? s.heap.objs.size=some { cls:=.type "tuple", data:=.seq (pl.map fun(i:Nat)=>Zp0 i).toArray }:=Zl3 _ rfl
  have k1:zge s.heap (s.heap.push { cls:=.type "tuple", data:=.seq (pl.map fun(i:Nat)=>Zp0 i).toArray }):=zch
  have z1:(s.heap.push { cls:=.type "tuple", data:=.seq (pl.map fun(i:Nat)=>Zp0 i).toArray }).objs.size=s.heap.objs.size+1:=Zmv ..
  refine q _ d _ [(s.heap.push { cls:=.type "tuple", data:=.seq (pl.map fun(i:Nat)=>Zp0 i).toArray }).objs.size,a,s.heap.objs.size] _ (fun A' hh=>⟨_,ym0 (p:=s.heap.objs.size) S hp (by rw[z1];exact Zmb (Zo1 halt)) (by rw[z1];exact Zmb (Znv _)) hh,
   ⟨_,Zl3 _ rfl,rfl,by simp[Zp0]⟩,zch _ _ (k1 _ _ ho),⟨_,0,zch _ _ g1,rfl⟩⟩) (ztw hp) (fun b u e=>zch _ _ (k1 _ _ e)) ?_ ?_ ?_
  .rw[z1];lia
  .exact Nat.lt_of_lt_of_eq (Znv _) (Zmv ..).symm
  .intro b hb
   simp only[Zly,Zno,or_false] at hb
   rcases hb with rfl | rfl | rfl
   .exact .inr (by rw[z1];lia)
   .exact .inl rfl
   .exact .inr (Zlt _)
 .rw[if_neg hc]
  refine Zli (Zln ?_)
  refine Zli (Zsy ho S.data S.fits ?_)
  unfold newFields
  refine Zli (Zo7 (Zln ⟨_,rfl, "set_iterator", _,⟨_,Zl3 _ rfl,rfl⟩,zea.lookup,?_⟩))
  have it0:zh2 (s.heap.push { cls:=.type "set_iterator", data:=.fields [Zp0 0,Zp0 0,Znh a,Zp0 es.size,Zp0 ep].toArray }) s.heap.objs.size a (.int (0:Nat) 0) 0 es.size ep :=
   ⟨_,Zl3 _ rfl,rfl,by simp[Zp0]⟩
  have hfp:∀b∈[s.heap.objs.size,a],b=a\/s.heap.objs.size<=b:=by
   intro b hb
   simp only[Zly,Zno,or_false] at hb
   rcases hb with rfl | rfl
   .exact .inr (Zlt _)
   .exact .inl rfl
  cases hb:zd3 w with
  | true =>
   exact q _ s.drawn _ [s.heap.objs.size,a] _ (fun A' hh=>⟨_,ym2 S hb (Zmb halt) hh,it0,zch _ _ ho⟩) ((zrd _ _).map _) zch (Zlt _) (by rw[Zmv];exact Znv _) hfp
  | false =>
   rw[hb] at hc
   exact q _ s.drawn _ [s.heap.objs.size,a] _ (fun A' hh=>⟨_,ym7 S hb (by simpa using hc) (Zmb halt) hh,it0,zch _ _ ho⟩) (.refl _) zch (Zlt _) (by rw[Zmv];exact Znv _) hfp
theorem zxz:Yat (.type "set") "__len__" = pure (some (.builtin "set.__len__")):=F.slot_set_len.lookup
theorem yl4{a:Addr}{Q:Bool->Zlo->Prop}(hT:s.TypeIs (.ref a) "set")(q:Q false s):Zl8 (Zmh prog w) A (Ztt (.ref a)) Q E s:=by
 unfold Ztt
 refine Zli (Ztv hT zxz ?_)
 generalize hid:("set.__len__" : String)=id0
 wp_delta
 rw[show splitId id0=some ("set", "__len__") from by subst hid;decide +kernel]
 subst hid
 refine Zli (Ztj (T:="set") (b:=true) hT Zvz ?_)
 refine Zoi (fun e=>absurd e (by decide)) (fun _=>?_)
 refine Zoi (fun _=>?_) (fun e=>absurd (by decide +kernel) e)
 exact Zli (Zyp hT (Zln q))
theorem zzb{a:Addr}{o:Obj}{ks:List SK}{es:Array (Int×Zll)}{ep:Nat}{t:Zlr}{Q:List Zll->Zlo->Prop}(hh:A.handled=none)(ho:s.heap.get? a=some o)(S0:SetO prog w s.heap o ks es ep t)
  (q:∀(vs:List Zll) (h':Heap) (d:Zya) (tk:Nat),vs.Perm (es.toList.map (·.2))->zge s.heap h'->s.heap.objs.size<h'.objs.size->Q vs { s with heap:=h',drawn:=d,toks:=tk }):Zl8 (Zmh prog w) A (collect (.ref a)) Q E s:=by
 have halt:a<s.heap.objs.size:=Zl4 ho
 unfold collect
 refine Zli (Ycu (Zqe F.entry_proto_collect ?_))
 rw[Zqa F.plain_proto_collect _]
 show Zl8 _ A.in1 (newList [] >>= fun l=>again (.builtin "list.__iadd__" ⟨[l,.ref a],[]⟩)) _ _ s
 refine Zli (Zo7 ?_)
 refine Zln ⟨Zu7 Zz4 _,Zqe F.entry_list_iadd ?_⟩
 rw[Zqa Zz4 _]
 generalize hN:s.heap.push { cls:=.type "list", data:=.seq ([]:List Zll).toArray }=hL
 have hLg:hL.get? s.heap.objs.size=some { cls:=.type "list", data:=.seq ([]:List Zll).toArray }:=by rw[<- hN];exact Zl3 _ rfl
 have hLs:hL.objs.size=s.heap.objs.size+1:=by rw[<- hN,Zmv]
 have k0:zge s.heap hL:=by rw[<- hN];exact zch
 show Zl8 _ A.in1 (Ztu (.ref s.heap.objs.size) (.ref a) (.ref s.heap.objs.size)) _ _ _
 unfold Ztu
 refine Zli (Zyp (T:="set") ⟨o,k0 a o ho,S0.ex.1⟩ ?_)
 have h1:Zue (.ref s.heap.objs.size) (.ref a)=false:=by
  simp only[Zue,beq_eq_false_iff_ne];exact Ztc halt
 have h2:(Zpw "set" == Zpw "list")=false:=by decide
 have h3:(Zpw "set" == Zpw "tuple")=false:=by decide
 simp only[h1,h2,h3,Zwo,Zl5,if_false]
 refine Zli (yk9 (s:={ s with heap:=hL }) (k0 a o ho) (S0.mono k0.T) fun h1 d I fp vs hW hvs k1 hI1 hI2 hfp=>?_)
 refine Zli (Zos (yl4 ⟨o,k1 a o (k0 a o ho),S0.ex.1⟩ ?_))
 refine Zoi (fun _=>?_) (fun e=>absurd (by decide +kernel) e)
 refine Zli (Zvh ?_)
 refine Zli ?_
 show Zl8 _ A.in1 (updateSeq s.heap.objs.size (·.push .none) >>= fun _=>updateSeq s.heap.objs.size (·.pop)) _ _ _
 have hS1:=k1 _ _ hLg
 refine Zli (Ycf hS1 rfl ?_)
 have hS2:=Zor (Zqp (·.push Znw)) hS1 rfl
 refine Ycf hS2 rfl ?_
 have hS3:=Zor (Zqp (·.pop)) hS2 rfl
 generalize hG:(h1.update s.heap.objs.size (Zqp (·.push Znw))).update s.heap.objs.size (Zqp (·.pop))=h2 at hS3 ⊢
 have k2:∀b u,b≠s.heap.objs.size->h1.get? b=some u->h2.get? b=some u:=fun b u hb e=>by
  rw[<- hG];exact(Znp _ _ (Zne hb)).trans ((Znp _ _ (Zne hb)).trans e)
 have hSf:s.heap.objs.size∉fp:=fun hm=>by
  rcases hfp _ hm with e | e
  .rw[<- e] at halt;exact Znn _ halt
  .have e':hL.objs.size<=s.heap.objs.size:=e
   rw[hLs] at e';lia
 obtain⟨St,W,st0⟩:=hW A.in1 (by simp[hh])
 have st2:=W.frame 0 h1 h2 st0 fun b hb u e=>k2 b u (fun x=>hSf (x ▸ hb)) e
 refine Zln ⟨Zu7 F.plain_extend_loop _,codeAny_extend_loopS (A:=A) W.toS (by rw[hvs.length_eq];simp;exact zce (by have:=S0.small;have:=S0.ent.length;simp at this;lia)) _ hSf _ vs.length 0 _ _ _ rfl (Zmt _) st2 hS3 (ItemsOf.nil _) fun s' acc c hm hS' hacc=>?_⟩
 show Zl8 _ A (load s.heap.objs.size >>= _) _ _ s'
 refine Zli (wpAny_load hS' ?_)
 have ev:acc.toList=vs:=by
  refine Zom fun i=>?_
  by_cases hi:i<acc.size
  .have e1:acc[i]? = some acc[i]:=Zl9 hi
   rw[hacc.2 i _ e1,Zlj (by simpa using hi)];simp
  .rw[Zms (by simpa using hi),Zms (by have:=hacc.1;lia)]
 have es':=Moved.eq_with hm
 refine Zln ?_
 show Q acc.toList s'
 rw[ev,es']
 refine q vs s'.heap d s'.toks hvs (fun b u e=>?_) (Zl4 hS')
 have hb:=Zl4 e
 have hb1:b≠s.heap.objs.size:=Zmb hb
 have hb2:b≠I:=fun x=>by
  have e':hL.objs.size<=I:=hI1
  rw[hLs,<- x] at e'
  exact Znn _ (Yb8 hb e')
 exact hm.heap b u (by simp[hb1,hb2]) (k2 b u hb1 (k1 b u (k0 b u e)))
end
section
variable{prog:Zmi}{w:Zng}{A:Zmu}{E:Zll->Zlo->Prop}{s:Zlo}
theorem yjk{k:SK}{x:Zll}{Q:Int->Zlo->Prop}(hu:A.units<Zr6)(hx:k.is prog w s.heap x)(q:∀tk,Q (k.hash prog w) { s with toks:=tk }):Zl8 (Zmh prog w) A (pyHash x) Q E s:=by
 cases k with
 | one k=>exact(zav prog w).pyHash hx (q _)
 | many kk=>obtain⟨a,rfl,hk⟩:=hx;exact wpAny_pyHash_tuple hu hk (q _)
structure Part(prog:Zmi)(w:Zng)(k0:List SK)(items:Array Zll)(i:Nat)(ks:List SK)(es:Array (Int×Zll)):Prop where
 mem:∀k,k∈ks ↔ ∃j:Nat,j<i/\k0[j]? = some k
 len:ks.length<=i
 ent:∀e∈es.toList,∃j:Nat,items[j]? = some e.2
theorem yfc {S I l : Addr} {items : Array Zll} {k0 : List SK} {f : Bool} {R : Yco -> Zlo -> Prop} (hu : A.units + 1 < Zr6) (hh : A.handled = none) (hSI : S ≠ I) (hSl : S ≠ l) (hIl : l ≠ I)
  (hlen:k0.length=items.size) (hn:items.size<=1000) (hf:∀k∈k0,k.flat=f) :
  ∀(m i:Nat) (s:Zlo) (ks:List SK) (es:Array (Int×Zll)),items.size - i=m->i<=items.size->s.heap.IsListIter I l i->s.heap.IsList l items->SetE prog w s.heap S ks es->Part prog w k0 items i ks es ->
   (∀(j:Nat) (v:Zll) (k:SK),items[j]? = some v->k0[j]? = some k->k.is prog w s.heap v) ->
   (∀s' ks' es',(∀b o,b≠I->b≠S->s.heap.get? b=some o->s'.heap.get? b=some o)->(∃tk,s'={ s with heap:=s'.heap,toks:=tk })->SetE prog w s'.heap S ks' es'->Part prog w k0 items items.size ks' es'->R (.ok (.ret .none)) s') ->
   Zty (Zmh prog w) A (.builtin "set.update.loop" ⟨[.ref S,.ref I],[]⟩) R s:=by
 intro m
 induction m with
 | zero =>
  intro i s ks es hk hi hit hl hS hp hkey hR
  have hin:i=items.size:=by lia
  subst hin
  refine Zqe Zxg ?_
  rw[Zqa Zs3 _]
  show Zl8 _ A.in1 (Zu6 (.ref I) >>= _) _ _ s
  refine Zli (Zyq (by simp[hh]) hit hl (by simp) fun h' he=>?_)
  show Zl8 _ A.in1 (ret Znw) _ _ _
  obtain⟨o,ep,t,ho,So⟩:=hS
  have kT:zjm s.heap h':=fun b u c e=>he b u (fun z=>by
   obtain⟨oi,h1,h2,_⟩:=hit
   rw[z,h1] at e;cases e;rw[h2] at c;exact absurd c (by decide)) e
  exact Zln (hR _ ks es (fun b u h1 _ e=>he b u h1 e) ⟨s.toks,rfl⟩ ⟨o,ep,t,he S o hSI ho,So.mono kT⟩ hp)
 | succ m ih =>
  intro i s ks es hk hi hit hl hS hp hkey hR
  have hlt:i<items.size:=by lia
  have hv:items[i]? = some items[i]:=Zl9 hlt
  have hki:k0[i]? = some (k0[i]'(by lia)):=Zlj _
  have hx:=hkey i _ _ hv hki
  have hfi:=hf _ (Zlv hki)
  generalize k0[i]'(by lia)=k at hki hx hfi
  refine Zqe Zxg ?_
  rw[Zqa Zs3 _]
  show Zl8 _ A.in1 (Zu6 (.ref I) >>= _) _ _ s
  refine Zli (Zye hit hl hv fun h1 hit1 sb1=>?_)
  have kT1:zjm s.heap h1:=fun b u c e=>(sb1.2 b (fun z=>by
   obtain⟨oi,g1,g2,_⟩:=hit
   rw[z,g1] at e;cases e;rw[g2] at c;exact absurd c (by decide))).trans e
  obtain⟨o,ep,t,ho,So⟩:=hS
  have ho1:h1.get? S=some o:=(sb1.2 S hSI).trans ho
  show Zl8 _ A.in1 (Zwu [items[i]] (setAdd S items[i]) >>= _) _ _ _
  refine Zli (Zos ?_)
  unfold setAdd
  refine Zos (Zli (yjk (by simp only[Zsl];omega) (SK.is_mono kT1 hx) fun tk=>?_))
  have kin:∀k'∈ks,k'.flat=k.flat:=fun k' hk'=>by
   obtain⟨j,_,hj⟩:=(hp.mem k').mp hk'
   rw[hf _ (Zlv hj),hfi]
  refine yjs (s:={ s with heap:=h1,toks:=tk }) (by simp only[Zsl];omega) ho1 (So.mono kT1) kin (SK.is_mono kT1 hx) (by have:=hp.len;lia) fun h2 k2 e2 sb2 S2 p2 en2=>?_
  have hp2:Part prog w k0 items (i+1) k2 e2:=by
   refine⟨fun k'=>?_,?_,fun e he=>?_⟩
   .rw[p2.mem_iff]
    constructor
    .intro hm
     have hm':k'∈k::ks:=by
      split at hm
      .exact Zlp _ hm
      .exact hm
     rcases Zly.mp hm' with e | e
     .exact⟨i,by lia,by rw[e];exact hki⟩
     .obtain⟨j,hj,hkj⟩:=(hp.mem k').mp e;exact⟨j,by lia,hkj⟩
    .rintro⟨j,hj,hkj⟩
     have hm':k'=k\/k'∈ks:=by
      rcases Zph j i with c | c
      .exact .inr ((hp.mem k').mpr ⟨j,c,hkj⟩)
      .have:j=i:=by lia
       subst this;rw[hki] at hkj;cases hkj;exact .inl rfl
     split
     .rename_i hin
      rcases hm' with e | e
      .rw[e];exact hin
      .exact e
     .rcases hm' with e | e
      .rw[e];exact Zls
      .exact Zlp _ e
   .rw[p2.length_eq]
    have:=hp.len
    split
    .lia
    .simp;omega
   .rcases en2 e he with z | z
    .exact hp.ent e z
    .exact⟨i,by rw[z];exact hv⟩
  have k12:zjm h1 h2:=zeo (es:=es) (ep:=ep) (t:=t) ho1 So.ex sb2
  refine Zln ⟨Zu7 Zs3 _,ih (i+1) _ k2 e2 (by lia) hlt ?_ ?_ S2 hp2 (fun j v k' h3 h4=>SK.is_mono (fun b u c e=>k12 b u c (kT1 b u c e)) (hkey j v k' h3 h4)) fun s' k3 e3 kp ⟨tk',hs'⟩ S3 p3=>?_⟩
  .exact hit1.at fun u e=>(sb2.2 I (Zne hSI)).trans e
  .exact(hl.extBut sb1.extBut hIl).at fun u e=>(sb2.2 l (Zne hSl)).trans e
  .refine hR s' k3 e3 (fun b u h3 h4 e=>kp b u h3 h4 ((sb2.2 b h4).trans ((sb1.2 b h3).trans e))) ⟨tk',?_⟩ S3 p3
   rw[hs']
end
section
variable{prog:Zmi}{w:Zng}{A:Zmu}{E:Zll->Zlo->Prop}{s:Zlo}
theorem ydd{h:Heap}{a:Addr}{led:Bool}(hl:led=led0 w)(hg:h.get? a=some { cls:=.type "set", dict:=none,data:=.set #[] 0 (.fresh 0 0 led) }):SetE prog w h a [] #[] :=
 ⟨_,0,_,hg,⟨rfl,rfl,rfl⟩,rfl,zqp 0 0 led,.nil,Zrd,by simp,hl,true,fun k hk=>by cases hk⟩
theorem zz0(a:Zll){Q1:Zll->Zlo->Prop}(h:Q1 (.ref s.heap.objs.size) { s with heap:=s.heap.push { cls:=.type "set", dict:=none,data:=.set #[] 0 (.fresh 0 0 (led0 w)) } }) :
  Zty (Zmh prog w) A (.call (.builtin "set.__new__") ⟨[.type "set", a],[]⟩) (wants Q1 E) s:=by
 refine Zwv ?_
 show Zl8 _ A.in1 (do Ybo "set.__new__" ⟨[.type "set", a],[]⟩;again (.builtin "set.__new__" ⟨[.type "set", a],[]⟩)) _ _ s
 refine Zli (Zzo (F.newCall_set_1 a) (Zln ⟨Zu7 Ybk _,Zqe F.entry_set_new ?_⟩))
 rw[Zqa Ybk _]
 unfold Zmz.«set.__new__» Zzc
 have hsub:=Zvz
 obtain⟨hp,g,d,tk,os⟩:=s
 dsimp only
 wp_walk
 refine Zp4 (Zln ?_)
 dsimp only
 simp only[newObj]
 refine Zli (wpAny_alloc (Zln ?_))
 exact Zln h
theorem zx2{l:Addr}{items:Array Zll}{k0:List SK}{f:Bool}{Q:Zll->Zlo->Prop}(hu:A.units+16<Zr6)(hh:A.handled=none)(hl:s.heap.IsList l items)(hlen:k0.length=items.size)(hn:items.size<=1000)(hf:∀k∈k0,k.flat=f)
  (hkey:∀(j:Nat) (v:Zll) (k:SK),items[j]? = some v->k0[j]? = some k->k.is prog w s.heap v)
  (q:∀h' tk ks es,zge s.heap h'->SetE prog w h' s.heap.objs.size ks es->Part prog w k0 items items.size ks es->Q (.ref s.heap.objs.size) { s with heap:=h',toks:=tk }) :
  Zl8 (Zmh prog w) A (call (.type "set") [.ref l]) Q E s:=by
 obtain⟨c,tl,hmro⟩:=Zqv.mro
 have hmade:=Zqv.made
 have hsub:=Zqv.sub
 refine Zxj (Zwv ?_)
 show Zl8 _ _ (callAny (.type "set") _) _ _ _
 refine Zln ⟨Zyb _ (by decide +kernel),Zqe Zz5 ?_⟩
 rw[Zxi (Zyt "set" [.ref l] []) rfl]
 have h1:=Zqv.notType
 have h2:=Zqv.canCreate
 have hct:=F.typeCall_set_1 (.ref l)
 repeat (any_goals (first | assumption | wp_step))
 refine Zqx (zz0 (.ref l) (E:=E) (Q1:=fun obj s1=>obj= .ref s.heap.objs.size/\s1={ s with heap:=s.heap.push { cls:=.type "set", dict:=none,data:=.set #[] 0 (.fresh 0 0 (led0 w)) } }) ⟨rfl,rfl⟩) fun r s1 hr=>?_
 cases r with
 | error e=>exact hr
 | ok fl =>
  cases fl with
  | ret obj =>
   obtain⟨rfl,rfl⟩:=hr
   generalize hN:s.heap.push { cls:=.type "set", dict:=none,data:=.set #[] 0 (.fresh 0 0 (led0 w)) }=hp1
   have hS:hp1.get? s.heap.objs.size=some { cls:=.type "set", dict:=none,data:=.set #[] 0 (.fresh 0 0 (led0 w)) }:=by rw[<- hN];exact Zl3 _ rfl
   have k1:zge s.heap hp1:=by rw[<- hN];exact zch
   have z1:hp1.objs.size=s.heap.objs.size+1:=by rw[<- hN,Zmv]
   have hT:Zzf { s with heap:=hp1 } (.ref s.heap.objs.size) "set" := ⟨_,hS,rfl⟩
   have hli:=Zqv.init.lookup
   have hbi:=Zqv.init.bind (.ref s.heap.objs.size)
   repeat (any_goals (first | assumption | wp_step))
   refine Zqx (Zt8 (R:=wants (fun r s2=>r= .none /\ ∃h' tk ks es,s2={ s with heap:=h',toks:=tk }/\zge s.heap h'/\SetE prog w h' s.heap.objs.size ks es/\Part prog w k0 items items.size ks es) E)
    Zqv.init.plain F.entry_set_init (check_set_init_1 hT ?_)) fun r2 s2 hr2=>?_
   .obtain⟨ol,hol,hcl,nl,hdl⟩:=id hl
    obtain⟨ocls,odict,odata,oslots⟩:=ol
    simp only at hcl hdl
    subst hcl;subst hdl
    have hol':=k1 _ _ hol
    have hsls:=F.sub_list_set
    have hslf:=F.sub_list_frozenset
    have hne:(Zpw "list" == Zpw "dict")=false:=by decide
    have hl1:hp1.IsList l items:=⟨_,hol',rfl,nl,rfl⟩
    unfold Zmz.«set.__init__» noKeywords Zzb
    generalize hPI:Zyu=PI
    wp_walk
    subst hPI
    refine Zqh hl1 ?_
    refine Zli (Ycu ?_)
    have hlS:l<s.heap.objs.size:=Zl4 hol
    have hIt:(hp1.push { cls:=.type "list_iterator", data:=.fields #[.ref l,.int 0 0] }).IsListIter hp1.objs.size l 0:=⟨_,Zl3 _ rfl,rfl,rfl⟩
    refine yfc (S:=s.heap.objs.size) (I:=hp1.objs.size) (l:=l) (items:=items) (k0:=k0) (f:=f) ?hu ?hh ?n1 ?n2 ?n3 hlen hn hf (items.size - 0) 0 _ [] #[] (by lia) (Zmt _) hIt (hl1.push _) (ydd rfl (zch _ _ hS)) ⟨fun k=>⟨(fun h=>by cases h),(fun⟨j,hj,_⟩=>by lia)⟩,by simp,(fun e he=>by cases he)⟩ (fun j v k a b=>SK.is_mono (fun b u _ e=>zch _ _ (k1 _ _ e)) (hkey j v k a b)) ?hR
    case hu=>simp only[Zsl];lia
    case hh=>simp[hh]
    case n1=>rw[z1];exact Zmb (Znv _)
    case n2=>exact Ztc hlS
    case n3=>rw[z1];exact Zmb (Zo1 hlS)
    case hR =>
     intro s' ks' es' kp ⟨tk',hs'⟩ S' p'
     show Zl8 _ _ _ _ _ _
     refine Zln ?_
     show Zl8 _ _ (ret Znw) _ _ _
     refine Zln ⟨rfl,s'.heap,tk',ks',es',hs',fun b o e=>?_,S',p'⟩
     have hb:=Zl4 e
     exact kp b o (by rw[z1];exact Zmb (Zo1 hb)) (Zmb hb) (zch _ _ (k1 _ _ e))
   .cases r2 with
    | error e=>exact hr2
    | ok fl2 =>
     cases fl2 with
     | ret r =>
      obtain⟨rfl,h',tk,ks,es,rfl,a1,a2,a3⟩:=hr2
      repeat (any_goals (first | assumption | wp_step))
      exact q _ _ _ _ a1 a2 a3
     | _=>exact hr2.elim
  | _=>exact hr.elim
end
section
variable{prog:Zmi}{w:Zng}{A:Zmu}{E:Zll->Zlo->Prop}{s:Zlo}
theorem zz9{Q:Bool->Zlo->Prop}(q:Q (zd3 w) s):Zl8 (Zmh prog w) A Zvj Q E s:=by
 unfold Zvj
 exact Zli (Zp4 (Zln q))
theorem zsj{a:Addr}{o:Obj}{es:Array (Int×Zll)}{ep:Nat}{t:Zlr}{Q:Array (Int×Zll)->Zlo->Prop}(ho:s.heap.get? a=some o)(S:SetL w o es ep t)
  (q:∀(e1:Array (Int×Zll)) (d:Zya),e1.toList.Perm es.toList->Q e1 { s with drawn:=d }):Zl8 (Zmh prog w) A (setWalk a) Q E s:=by
 unfold setWalk
 refine Zli (zjg ho S ?_)
 dsimp only
 refine Zli (zz9 ?_)
 cases hb:zd3 w with
 | true =>
  rw[if_pos rfl]
  refine Zli (Zp4 (Zln ?_))
  exact q _ s.drawn (zrd _ _)
 | false =>
  simp only[Zl5,if_false]
  refine Zoi (fun _=>?_) (fun _=>?_)
  .refine Zli (yga _ _ _ _ (by simp) fun l d hp=>Zln (q l.toArray d (by simpa using hp)))
  .have hld:=zv3 S
   rw[hb] at hld
   exact Zli (Zoi (fun h=>absurd h (by rw[hld];simp)) (fun _=>Zln (Zln (q es s.drawn (.refl _)))))
theorem yhy{Q:Bool->Zlo->Prop}(q:∀b,Q b s):∀sets:List Addr,(∀a∈sets,∃ks es,SetE prog w s.heap a ks es)->Zl8 (Zmh prog w) A (setsQuiet sets) Q E s:=by
 intro sets hs
 unfold setsQuiet
 refine Zli ?_
 refine Zr1 _ (fun rest r s'=>r.1=none/\s'=s /\ ∀a∈rest,∃ks es,SetE prog w s.heap a ks es) _ ?_ ?_ _ _ ⟨rfl,rfl,hs⟩
 .rintro a rest r s' ⟨hr,rfl,hall⟩
  obtain⟨ks,es,o,ep,t,ho,So⟩:=hall a Zls
  have hrest:∀a∈rest,∃ks es,SetE prog w s'.heap a ks es:=fun y hy=>hall y (Zlp _ hy)
  refine Zli (Zpb ho So.data So.fits ?_)
  refine Zli ?_
  rw[<- Zr5]
  have hel:∀e∈es.toList,∃k,SK.is prog w s'.heap k e.2:=fun e he=>by
   obtain⟨i,hi⟩:=Zmr.mp he
   obtain⟨k,_,_,c⟩:=So.ent.get i e hi
   exact⟨k,c⟩
  refine Zr1 _ (fun rest r s1=>r.1=none/\s1=s' /\ ∀e∈rest,∃k,SK.is prog w s'.heap k e.2) _ ?_ ?_ _ _ ⟨rfl,rfl,hel⟩
  .rintro⟨hv,x⟩ rest r s1 ⟨hr1,rfl,hall1⟩
   obtain⟨k,hk⟩:=hall1 _ Zls
   have hrest1:∀e∈rest,∃k,SK.is prog w s1.heap k e.2:=fun y hy=>hall1 y (Zlp _ hy)
   cases k with
   | one k =>
    have:∀a,x ≠ .ref a:=fun a e=>by
     rcases zbj hk with ⟨j,t,_,e2⟩ | ⟨y,t,_,e2⟩ <;> (rw[show x=_ from e2] at e;cases e)
    cases x with
    | ref a=>exact absurd rfl (this a)
    | _=>exact Zln ⟨rfl,rfl,hrest1⟩
   | many kk =>
    obtain⟨b,e,hb⟩:=hk
    have e':x= .ref b:=e
    subst e'
    refine Zli (Ztv hb.typeIs F.slot_tuple_eq.lookup ?_)
    rw[if_pos (by decide +kernel)]
    exact Zln (Zln (Zln (q false)))
  .rintro⟨r1,r2⟩ s1 ⟨hr1,rfl,_⟩
   simp only at hr1
   subst hr1
   exact Zln ⟨rfl,rfl,hrest⟩
 .rintro⟨r1,r2⟩ s' ⟨hr,rfl,_⟩
  simp only at hr
  subst hr
  exact Zln (q true)
theorem yil {a f : Addr} {others : List Addr} {o : Obj} {ks kf : List SK} {es ef : Array (Int × Zll)} {ep : Nat} {t : Zlr} {Q : Array (Int × Zll) -> Zlo -> Prop} (ho : s.heap.get? a = some o) (S : SetO prog w s.heap o ks es ep t)
  (hoth:∀b∈others,∃k e,SetE prog w s.heap b k e) (hf:SetE prog w s.heap f kf ef)
  (q:∀(e1:Array (Int×Zll)) (h':Heap) (d:Zya),e1.toList.Perm es.toList->Zog f s.heap h'->SetE prog w h' f kf ef->Q e1 { s with heap:=h',drawn:=d }) :
  Zl8 (Zmh prog w) A (Zxw a others (some f)) Q E s:=by
 unfold Zxw
 refine Zli (zi6 (M:=Zmh prog w) ho S ?_)
 dsimp only
 refine Zli (zz9 ?_)
 refine Zoi (fun _=>?_) (fun _=>?_)
 .exact zsj ho S.lite fun e1 d hp=>q e1 s.heap d hp (Zpz _ _) hf
 .refine Zli (yhy (fun b=>?_) (a::others) fun b hb=>?_)
  .refine Zoi (fun _=>?_) (fun _=>?_)
   .exact zsj ho S.lite fun e1 d hp=>q e1 s.heap d hp (Zpz _ _) hf
   .refine Zli (Zvh ?_)
    obtain⟨of,epf,tf,hof,Sf⟩:=hf
    refine Zli (zi6 (M:=Zmh prog w) hof Sf ?_)
    dsimp only
    refine Zoi (fun _=>?_) (fun _=>?_)
    .have hz:ef.size<=sizeLine:=zce (by have:=Sf.small;have:=Sf.ent.length;simp at this;lia)
     refine Zli (Zrm hof Sf.data (Zln ?_) hz)
     have sb:=Zof s.heap f (Zun ef { tf with led:=tf.led&&t.led,plain:=tf.plain&&t.plain })
     refine q es _ s.drawn (.refl _) sb ⟨_,epf+1,{ tf with led:=tf.led&&t.led,plain:=tf.plain&&t.plain },zm7 hof Sf.data _ _,?_⟩
     exact⟨Sf.ex,rfl,zqs Sf.tab rfl rfl rfl,Sf.ent.mono (zeo (es:=ef) (ep:=epf) (t:=tf) hof Sf.ex sb),Sf.nod,Sf.small,by
      show(tf.led&&t.led)=_
      rw[Sf.led,S.led];simp,Sf.kind⟩
    .exact Zln (q es s.heap s.drawn (.refl _) (Zpz _ _) ⟨of,epf,tf,hof,Sf⟩)
  .rcases Zly.mp hb with rfl | hb
   .exact⟨ks,es,o,ep,t,ho,S⟩
   .exact hoth b hb
end
section
variable{prog:Zmi}{w:Zng}{A:Zmu}{E:Zll->Zlo->Prop}{s:Zlo}
theorem SetE.mono{h h':Heap}{a:Addr}{ks:List SK}{es:Array (Int×Zll)}(x:SetE prog w h a ks es)(g:∀o,h.get? a=some o->h'.get? a=some o)(K:zjm h h'):SetE prog w h' a ks es :=
 let ⟨o,ep,t,ho,S⟩:=x;⟨o,ep,t,g o ho,S.mono K⟩
theorem SetE.typeIs{a:Addr}{ks:List SK}{es:Array (Int×Zll)}(x:SetE prog w s.heap a ks es):s.TypeIs (.ref a) "set" := let ⟨o,_,_,ho,S⟩:=x;⟨o,ho,S.ex.1⟩
theorem SetE.keepT{h h':Heap}{a:Addr}{ks:List SK}{es:Array (Int×Zll)}(x:SetE prog w h a ks es)(sb:Zog a h h'):zjm h h' :=
 let ⟨_,ep,t,ho,S⟩:=x;zeo (es:=es) (ep:=ep) (t:=t) ho S.ex sb
theorem ydx{Q:Zll->Zlo->Prop}(q:SetE prog w (s.heap.push { cls:=.type "set", dict:=none,data:=.set #[] 0 (.fresh 0 0 (led0 w)) }) s.heap.objs.size [] #[]->Q (.ref s.heap.objs.size) { s with heap:=s.heap.push { cls:=.type "set", dict:=none,data:=.set #[] 0 (.fresh 0 0 (led0 w)) } }) :
  Zl8 (Zmh prog w) A (newSet (.type "set")) Q E s:=by
 unfold newSet
 refine Zli (zz9 ?_)
 dsimp only
 simp only[newObj]
 refine Zli (wpAny_alloc (Zln (q ?_)))
 exact⟨_,0,_,Zl3 _ rfl,⟨rfl,rfl,rfl⟩,rfl,zqp 0 0 _,.nil,Zrd,by simp,rfl,true,fun k hk=>by cases hk⟩
theorem yle{a:Addr}{ks:List SK}{es:Array (Int×Zll)}{Q:Zll->Zlo->Prop}(x:SetE prog w s.heap a ks es)(q:Q (.type "set") s):Zl8 (Zmh prog w) A (Ztm a) Q E s:=by
 unfold Ztm
 exact Zli (Ztj x.typeIs Zvz (Zln q))
theorem yhu{a:Addr}{ks:List SK}{es:Array (Int×Zll)}{Q:Bool->Zlo->Prop}(x:SetE prog w s.heap a ks es)(q:Q true s):Zl8 (Zmh prog w) A (Zou (.ref a)) Q E s:=by
 unfold Zou
 exact Zli (Ztj x.typeIs Zvz (Zln q))
theorem ych{a:Addr}{ks:List SK}{es:Array (Int×Zll)}{Q:Nat->Zlo->Prop}(x:SetE prog w s.heap a ks es)(q:Q es.size s):Zl8 (Zmh prog w) A (Zre a) Q E s:=by
 obtain⟨o,ep,t,ho,S⟩:=x
 unfold Zre
 exact Zli (Zpb ho S.data S.fits (Zln q))
structure Took(kb:List SK)(p:SK->Bool)(es0:List (Int×Zll))(kd:List SK)(kr:List SK)(er:Array (Int×Zll)):Prop where
 mem:∀k,k∈kr↔k∈kb\/(k∈kd/\p k=true)
 len:kr.length<=kb.length+kd.length
 ent:∀e∈er.toList,e∈es0
theorem zzz {r : Addr} {ks kb : List SK} {es0 : List (Int × Zll)} {f : Bool} {p : SK -> Bool} {hp : Heap} (body : Int × Zll -> Sem (ForInStep Unit)) (hf : ∀ k ∈ ks, k.flat = f) (hg : ∀ k ∈ kb, k.flat = f) (hn : kb.length + ks.length <= 1000)
  (hb:∀(e:Int×Zll) (k:SK) (s:Zlo) (kr:List SK) (er:Array (Int×Zll)) (Q:ForInStep Unit->Zlo->Prop),k∈ks->e.1=k.hash prog w->k.is prog w s.heap e.2->SetE prog w s.heap r kr er->(∀k'∈kr,k'.flat=k.flat)->kr.length+1<=1000 ->
   (∀b o,b≠r->hp.get? b=some o->s.heap.get? b=some o)->zjm hp s.heap ->
   (∀h' k1 e1,Zog r s.heap h'->SetE prog w h' r k1 e1->(∀k',k'∈k1↔k'∈kr\/(k'=k/\p k=true))->k1.length<=kr.length+1->(∀e'∈e1.toList,e'∈er.toList\/e'=e)->Q (.yield ()) { s with heap:=h' }) ->
   Zl8 (Zmh prog w) A (body e) Q E s) :
  ∀(l:List (Int×Zll)) (kl kd:List SK) (s:Zlo) (kr:List SK) (er:Array (Int×Zll)) (Q:Unit->Zlo->Prop),Es prog w hp kl l->(∀e∈l,e∈es0)->kd++kl=ks->zjm hp s.heap->(∀b o,b≠r->hp.get? b=some o->s.heap.get? b=some o)->SetE prog w s.heap r kr er->Took kb p es0 kd kr er ->
   (∀h' k1 e1,Zog r s.heap h'->SetE prog w h' r k1 e1->Took kb p es0 ks k1 e1->Q () { s with heap:=h' }) ->
   Zl8 (Zmh prog w) A (Zx0 l () fun e _=>body e) Q E s:=by
 intro l
 induction l with
 | nil =>
  intro kl kd s kr er Q x hin hks K Kb hr tk q
  cases x
  rw[Zm1] at hks;subst hks
  exact Zln (q s.heap kr er (Zpz _ _) hr tk)
 | cons e l ih =>
  intro kl kd s kr er Q x hin hks K Kb hr tk q
  cases x with
  | @cons k _ kl' _ h1 h2 x' =>
   rw[Zs7]
   have hkf:k.flat=f:=hf k (by rw[<- hks];simp)
   refine Zli (hb e k s kr er _ (by rw[<- hks];simp) h1 (SK.is_mono K h2) hr (fun k' hk'=>?_) ?_ Kb K fun h' k1 e1 sb S1 m1 l1 en1=>?_)
   .rw[hkf]
    rcases(tk.mem k').mp hk' with z | z
    .exact hg k' z
    .exact hf k' (by rw[<- hks];exact Zoy _ z.1)
   .have:=tk.len
    have hl:ks.length=kd.length+(k::kl').length:=by rw[<- hks,Zlw]
    simp at hl;lia
   .have kT:=hr.keepT sb
    refine ih kl' (kd++[k]) { s with heap:=h' } k1 e1 Q x' (fun e' he'=>hin e' (Zlp _ he')) (by rw[<- hks];simp) (fun b o c z=>kT b o c (K b o c z)) (fun b o hb' z=>(sb.2 b hb').trans (Kb b o hb' z)) S1 ⟨fun k'=>?_,?_,fun e' he'=>?_⟩ fun h2 k2 e2 sb2 S2 t2=>q h2 k2 e2 (sb.trans sb2) S2 t2
    .rw[m1,tk.mem,Zme,Zlz]
     constructor
     .rintro((c | ⟨a,b⟩) | ⟨rfl,b⟩)
      .exact .inl c
      .exact .inr ⟨.inl a,b⟩
      .exact .inr ⟨.inr rfl,b⟩
     .rintro(c | ⟨a | rfl,b⟩)
      .exact .inl (.inl c)
      .exact .inl (.inr ⟨a,b⟩)
      .exact .inr ⟨rfl,b⟩
    .have:=tk.len;simp;lia
    .rcases en1 e' he' with z | z
     .exact tk.ent e' z
     .rw[z];exact hin e Zls
end
section
variable{prog:Zmi}{w:Zng}{A:Zmu}{E:Zll->Zlo->Prop}{s:Zlo}
theorem ygt{nm:String}{a:Addr}{o:Obj}{es:Array (Int×Zll)}{ep:Nat}{t:Zlr}{Q:Unit->Zlo->Prop}(ho:s.heap.get? a=some o)(S:SetL w o es ep t)(q:Q () s):Zl8 (Zmh prog w) A (Zoq nm a ep) Q E s:=by
 unfold Zoq
 refine Zli (Zsy ho S.data S.fits ?_)
 simp only[bne_self_eq_false,Zl5,if_false]
 exact Zln q
theorem ykw{wk ak r:Addr}{kw ka:List SK}{ew ea:Array (Int×Zll)}{nm:String}{ep:Nat}{ow:Obj}{tw:Zlr}{f:Bool}{Q:Unit->Zlo->Prop}(body:Int×Zll->Sem (ForInStep Unit))(neg:Bool)(hu:A.units<Zr6)
  (hbody:∀(h:Int) (x:Zll) (s:Zlo) (Q:ForInStep Unit->Zlo->Prop),
   Zl8 (Zmh prog w) A (Yci ak x h) (fun rr s1 =>
    ((rr.isSome != neg)=true->Zl8 (Zmh prog w) A (Zv0 r x h) (fun _ s2=>Zl8 (Zmh prog w) A (Zoq nm wk ep) (fun _ s3=>Q (.yield ()) s3) E s2) E s1) /\
    ((rr.isSome != neg)=false->Zl8 (Zmh prog w) A (Zoq nm wk ep) (fun _ s3=>Q (.yield ()) s3) E s1)) E s->Zl8 (Zmh prog w) A (body (h,x)) Q E s)
  (hw:s.heap.get? wk=some ow) (Sw:SetO prog w s.heap ow kw ew ep tw) (xa:SetE prog w s.heap ak ka ea) (xr:SetE prog w s.heap r [] #[]) (hwr:wk≠r) (har:ak≠r) (hfw:∀k∈kw,k.flat=f) (hfa:∀k∈ka,k.flat=f)
  (e1:Array (Int×Zll)) (he1:e1.toList.Perm ew.toList)
  (q:∀h' kr er,Zog r s.heap h'->SetE prog w h' r kr er->(∀k,k∈kr↔k∈kw/\(decide (k∈ka) != neg)=true)->(∀e∈er.toList,e∈ew.toList)->Q () { s with heap:=h' }) :
  Zl8 (Zmh prog w) A (Zx0 e1 () fun e _=>body e) Q E s:=by
 obtain⟨k1,p1,x1⟩:=Sw.ent.perm he1
 rw[<- Zr5]
 refine zzz (r:=r) (ks:=k1) (kb:=[]) (es0:=ew.toList) (f:=f) (p:=fun k=>decide (k∈ka) != neg) (hp:=s.heap) body (fun k hk=>hfw k (p1.mem_iff.mp hk)) (fun k hk=>by cases hk) (by have:=p1.length_eq;have:=Sw.small;simp;lia) ?_ e1.toList k1 [] s [] #[] Q x1 (fun e he=>he1.mem_iff.mp he) (by simp) (fun _ _ _ e=>e) (fun _ _ _ e=>e) xr ⟨fun k=>by simp,by simp,fun e he=>by simp at he⟩ fun h' kr er sb S' tk=>q h' kr er sb S' (fun k=>by rw[tk.mem,p1.mem_iff];simp) tk.ent
 rintro⟨hh,x⟩ k s1 kr er Q1 hk0 h1 h2 S1 hk1 hr1 Kb K q1
 dsimp only at h1 h2
 subst h1
 have hin:k∈kw:=p1.mem_iff.mp hk0
 obtain⟨oa,epa,ta,hoa,Sa⟩:=xa
 have hoa1:=Kb ak oa har hoa
 have Sa1:=Sa.mono K
 have hw1:=Kb wk ow hwr hw
 refine hbody _ _ _ _ (ykn hu hoa1 Sa1 (fun k' hk'=>by rw[hfa k' hk',hfw k hin]) h2 fun rr f1 f2=>?_)
 have hrr:rr.isSome=decide (k∈ka):=by
  cases rr with
  | none=>exact(decide_eq_false (f2 rfl)).symm
  | some i=>exact(decide_eq_true (Zlv (f1 i rfl))).symm
 rw[hrr]
 obtain⟨or,epr,tr,hor,Sr⟩:=id S1
 refine⟨fun hp=>?_,fun hp=>?_⟩
 .refine yjs hu hor Sr hk1 h2 hr1 fun h' k2 e2 sb S2 p2 en2=>?_
  refine ygt ((sb.2 wk hwr).trans hw1) Sw.lite (q1 h' k2 e2 sb S2 (fun k'=>?_) ?_ en2)
  .rw[p2.mem_iff]
   split
   .rename_i hkr
    exact⟨.inl,fun z=>z.elim id fun z=>z.1 ▸ hkr⟩
   .rw[Zly]
    exact⟨fun z=>z.elim (fun z=>.inr ⟨z,hp⟩) .inl,fun z=>z.elim .inr fun z=>.inl z.1⟩
  .rw[p2.length_eq];split <;> simp
 .refine ygt hw1 Sw.lite (q1 s1.heap kr er (Zpz _ _) S1 (fun k'=>⟨.inl,fun z=>z.elim id fun z=>?_⟩) (by lia) fun e he=>.inl he)
  have h3:(decide (k∈ka) != neg)=true:=z.2
  rw[hp] at h3;cases h3
theorem yht {a b : Addr} {ka kb : List SK} {ea eb : Array (Int × Zll)} {f : Bool} {nm : String} {Q : Zll -> Zlo -> Prop} (hu : A.units < Zr6) (hab : a ≠ b) (xa : SetE prog w s.heap a ka ea) (xb : SetE prog w s.heap b kb eb)
  (hfa:∀k∈ka,k.flat=f) (hfb:∀k∈kb,k.flat=f)
  (q:∀(h':Heap) (d:Zya) (r:Addr) kr er,zge s.heap h'->s.heap.objs.size<=r->SetE prog w h' r kr er->(∀k,k∈kr↔k∈ka/\k∈kb)->(∀e∈er.toList,e∈ea.toList\/e∈eb.toList)->Q (.ref r) { s with heap:=h',drawn:=d }) :
  Zl8 (Zmh prog w) A (Zsp nm a (.ref b)) Q E s:=by
 have hba:(Znh b == Znh a)=false:=by
  rw[beq_eq_false_iff_ne];exact fun e=>by cases e;exact hab rfl
 unfold Zsp
 rw[hba]
 simp only[Zl5,if_false]
 refine Zli (yle xa ?_)
 refine Zli (ydx fun xr=>?_)
 generalize hN:s.heap.push { cls:=.type "set", dict:=none,data:=.set #[] 0 (.fresh 0 0 (led0 w)) }=h1 at xr ⊢
 have k1:zge s.heap h1:=by rw[<- hN];exact zch
 have xa1:SetE prog w h1 a ka ea:=xa.mono (fun o e=>k1 a o e) k1.T
 have xb1:SetE prog w h1 b kb eb:=xb.mono (fun o e=>k1 b o e) k1.T
 have hra:a≠s.heap.objs.size:=let ⟨_,_,_,ho,_⟩:=xa;Zmb (Zl4 ho)
 have hrb:b≠s.heap.objs.size:=let ⟨_,_,_,ho,_⟩:=xb;Zmb (Zl4 ho)
 refine Zli (Zln ?_)
 refine Zli (Zos ?_)
 refine Zli (yhu (s:={ s with heap:=h1 }) xb1 ?_)
 simp only[if_true]
 refine Zli (Zln ?_)
 refine Zli (ych (s:={ s with heap:=h1 }) xb1 ?_)
 refine Zli (ych (s:={ s with heap:=h1 }) xa1 ?_)
 have fin : ∀ (wk ak : Addr) (kw kk : List SK) (ew ek : Array (Int × Zll)), SetE prog w h1 wk kw ew -> SetE prog w h1 ak kk ek -> wk ≠ s.heap.objs.size -> ak ≠ s.heap.objs.size -> (∀ k ∈ kw, k.flat = f) -> (∀ k ∈ kk, k.flat = f) ->
   (∀k,k∈kw/\k∈kk↔k∈ka/\k∈kb)->(∀e∈ew.toList,e∈ea.toList\/e∈eb.toList) ->
   Zl8 (Zmh prog w) A (do
    let was <- setEpoch wk
    for (h,x) in <- Zxw wk [ak,s.heap.objs.size] (some s.heap.objs.size) do
     Zwu [x] do
      if (<- Yci ak x h).isSome then
       let _ <- Zv0 s.heap.objs.size x h
     Zoq nm wk was) (fun _ s'=>Zl8 (Zmh prog w) A (pure (Znh s.heap.objs.size)) Q E s') E { s with heap:=h1 }:=by
  intro wk ak kw kk ew ek xw xk hw hk f1 f2 hm he
  obtain⟨ow,epw,tw,how,Sw⟩:=id xw
  refine Zli (Zsy how Sw.data Sw.fits ?_)
  refine Zli (yil how Sw (fun c hc=>?_) xr fun e1 h2 d p2 sb2 xr2=>?_)
  .simp only[Zly,Zno,or_false] at hc
   rcases hc with rfl | rfl
   .exact⟨_,_,xk⟩
   .exact⟨_,_,xr⟩
  .have kT:=xr.keepT sb2
   refine Zli (ykw (s:={ s with heap:=h2,drawn:=d }) (wk:=wk) (ak:=ak) (nm:=nm) (ep:=epw) (f:=f) _ false hu ?_ ((sb2.2 wk hw).trans how) (Sw.mono kT) (xk.mono (fun o e=>(sb2.2 ak hk).trans e) kT) xr2 hw hk f1 f2 e1 p2 fun h3 kr er sb3 S3 m3 en3=>?_)
   .intro h x s1 Q1 hq
    refine Zli (Zos (Zli (Zn1 hq (fun rr s2 hr=>?_) fun _ _ z=>z)))
    cases hrr:rr.isSome with
    | true =>
     rw[if_pos rfl]
     exact Zli (Zn1 (hr.1 (by rw[hrr];rfl)) (fun _ s3 z=>Zln (Zli (Zn1 z (fun _ _ y=>Zln y) fun _ _ y=>y))) fun _ _ z=>z)
    | false =>
     simp only[Zl5,if_false]
     exact Zln (Zli (Zn1 (hr.2 (by rw[hrr];rfl)) (fun _ _ y=>Zln y) fun _ _ y=>y))
   .refine Zln (Zln ?_)
    refine q h3 d _ kr er (fun b o e=>?_) (Zlt _) S3 (fun k=>?_) (fun e z=>he e (en3 e z))
    .have hb:b≠s.heap.objs.size:=Zmb (Zl4 e)
     exact(sb3.2 b hb).trans ((sb2.2 b hb).trans (k1 b o e))
    .rw[m3,<- hm];simp
 split
 .exact fin a b ka kb ea eb xa1 xb1 hra hrb hfa hfb (fun k=>Iff.rfl) (fun e h=>.inl h)
 .exact fin b a kb ka eb ea xb1 xa1 hrb hra hfb hfa (fun k=>And.comm) (fun e h=>.inr h)
end
section
variable{prog:Zmi}{w:Zng}{A:Zmu}{E:Zll->Zlo->Prop}{s:Zlo}
theorem zsw:Yab table "set.__and__" = some Zmz.«frozenset.__and__»:=Zw5 (id':="frozenset.__and__") (by kernel_rfl) rfl (by decide +kernel) (by kernel_rfl)
end
section
variable{prog:Zmi}{w:Zng}{A:Zmu}{E:Zll->Zlo->Prop}{s:Zlo}
noncomputable def ygl(prog:Zmi)(w:Zng)(s:Zlo)(ea eb:Array (Int×Zll))(m:SK->Prop)(Q:Zll->Zlo->Prop):Prop :=
 ∀(h':Heap) (d:Zya) (r:Addr) kr er,zge s.heap h'->s.heap.objs.size<=r->SetE prog w h' r kr er->(∀k,k∈kr↔m k)->(∀e∈er.toList,e∈ea.toList\/e∈eb.toList)->Q (.ref r) { s with heap:=h',drawn:=d }
theorem ym4{a b:Addr}{ka kb:List SK}{ea eb:Array (Int×Zll)}{f:Bool}{Q:Zll->Zlo->Prop}(hu:A.units+8<Zr6)(hab:a≠b)(xa:SetE prog w s.heap a ka ea)(xb:SetE prog w s.heap b kb eb)
  (hfa:∀k∈ka,k.flat=f) (hfb:∀k∈kb,k.flat=f) (q:ygl prog w s ea eb (fun k=>k∈ka/\k∈kb) Q):Zl8 (Zmh prog w) A (Zqr .BitAnd (.ref a) (.ref b)) Q E s:=by
 refine wpAny_binaryOp_same (op:=.BitAnd) xa.typeIs xb.typeIs F.fills_set_and Ycd (Zqq Ycd xa.typeIs zsw ?_ (F.args_set_and_2 _ _))
 show Zl8 _ _ (Zto "__and__" _ >>= _) _ _ _
 unfold Zto
 refine Zli (Zli (Zln (Zln ?_)))
 show Zl8 _ _ ((Zou (.ref a) <&&> Zou (.ref b)) >>= _) _ _ _
 refine Zli (Zli (yhu xa ?_))
 show Zl8 _ _ (Zou (.ref b)) _ _ _
 refine yhu xb ?_
 simp only[Zsq,Zl5,if_false]
 refine Zli (Zln ?_)
 refine Zli (yht (f:=f) (by simp only[Zsl];lia) hab xa xb hfa hfb fun h' d r kr er K hr S m en=>Zln ⟨_,rfl,fun e=>(by cases e),q h' d r kr er K hr S m en⟩)
end
noncomputable def D.kk:D->Key
 | .int i=>.inl i
 | .str l=>.inr (T l)
 | _=>.inl 0
noncomputable def D.fl:D->Bool
 | .int _=>true
 | .str _=>true
 | _=>false
noncomputable def D.sk:D->SK
 | .tup ds=>.many (ds.map D.kk)
 | d=>.one d.kk
noncomputable def D.hk:Bool->D->Bool
 | true,d=>d.fl
 | false,.tup ds=>ds.all D.fl
 | false,_=>false
theorem yf0{d e:D}(h1:d.fl=true)(h2:e.fl=true)(h:d.kk=e.kk):d=e:=by
 cases d <;> simp[D.fl] at h1 <;> cases e <;> simp[D.fl] at h2 <;> simp[D.kk] at h
 .rw[h]
 .rw[ybu] at h;rw[h]
theorem zy8:∀{ds es:List D},ds.all D.fl=true->es.all D.fl=true->ds.map D.kk=es.map D.kk->ds=es
 | [],[],_,_,_=>rfl
 | [],_::_,_,_,h=>by simp at h
 | _::_,[],_,_,h=>by simp at h
 | d::ds,e::es,h1,h2,h=>by
  simp only[Zt6,Zmd] at h1 h2
  simp only[Zl0,Zol] at h
  rw[yf0 h1.1 h2.1 h.1,zy8 h1.2 h2.2 h.2]
theorem yki{f:Bool}{d e:D}(h1:d.hk f=true)(h2:e.hk f=true)(h:d.sk=e.sk):d=e:=by
 cases f with
 | true =>
  simp only[D.hk] at h1 h2
  have e1:d.sk= .one d.kk:=by cases d <;> first | rfl | simp[D.fl] at h1
  have e2:e.sk= .one e.kk:=by cases e <;> first | rfl | simp[D.fl] at h2
  rw[e1,e2] at h
  injection h with h
  exact yf0 h1 h2 h
 | false =>
  cases d <;> simp[D.hk] at h1
  cases e <;> simp[D.hk] at h2
  simp[D.sk] at h
  rw[zy8 (by simpa using h1) (by simpa using h2) h]
theorem zl6{f:Bool}{d:D}(h:d.hk f=true):d.sk.flat=f:=by
 cases f with
 | true=>cases d <;> simp[D.hk,D.fl] at h <;> rfl
 | false=>cases d <;> simp[D.hk] at h;rfl
section
variable(P:Zmi)(w:Zng)
noncomputable def zpf(p:Addr)(ks:List SK)(xs:List V):HO:=.ext fun h=>∃o es ep t,h.get? p=some o/\o.ExactSet/\SetL w o es ep t/\es.toList.map (·.1)=ks.map (SK.hash P w)/\Vals xs (es.toList.map (·.2))/\ks.Nodup/\ks.length<=1000
end
section
variable{X:Cx}{pins:List (Addr×Obj)}{U:St}{H:Hp}{s:Zlo}
theorem Inv.drw(I:Inv X pins U H s)(d:Zya):Inv X pins U H { s with drawn:=d }:=⟨I.ok,I.os,I.bare,I.base,I.loc,I.cell,I.free,I.freeC,I.pin,I.hok,I.len⟩
theorem ykj{d:D}{x:V}{u:Zll}(hf:d.fl=true)(r:Rep X.K H d x)(q:RelV x u):(zav X.prog X.w).is d.kk u=true:=by
 cases d <;> simp[D.fl] at hf
 .rw[r.of_int] at q;obtain⟨t,rfl⟩:=q;exact zml ..
 .rw[r.of_str] at q;obtain⟨t,rfl⟩:=q;exact zmc ..
theorem ygo:∀{ds:List D} {xs:List V} {us:List Zll},ds.all D.fl=true->Reps X.K H ds xs->Vals xs us->ItemsAre (zav X.prog X.w) (ds.map D.kk) us
 | [],_,_,_,r,q=>by rw[Reps] at r;subst r;cases q;exact .nil
 | d::ds,_,_,hf,r,q=>by
  rw[Reps] at r
  obtain⟨x,xs,rfl,r1,r2⟩:=r
  simp only[Zt6,Zmd] at hf
  cases q with
  | cons q1 q2=>exact .cons (ykj hf.1 r1 q1) (ygo hf.2 r2 q2)
theorem Inv.sk(I:Inv X pins U H s){f:Bool}{d:D}{x:V}{u:Zll}(hf:d.hk f=true)(r:Rep X.K H d x)(q:RelV x u):d.sk.is X.prog X.w s.heap u:=by
 cases f with
 | true =>
  have e1:d.sk= .one d.kk:=by cases d <;> first | rfl | simp[D.hk,D.fl] at hf
  rw[e1];exact ykj (by simpa[D.hk] using hf) r q
 | false =>
  cases d <;> simp[D.hk] at hf
  rename_i ds
  obtain⟨p,xs,rfl,sq,rs⟩:=r.of_tup
  cases q
  obtain⟨its,rv,⟨o,e,c,n,hd⟩,_⟩:=I.tuple sq
  exact⟨p,rfl,o,its.toArray,n,e,c,hd,by simpa using ygo (by simpa using hf) rs rv⟩
theorem yma(I:Inv X pins U H s){f:Bool}:∀{ds:List D} {xs:List V} {es:List (Int×Zll)},(∀d∈ds,d.hk f=true)->Reps X.K H ds xs->Vals xs (es.map (·.2))->es.map (·.1)=(ds.map D.sk).map (SK.hash X.prog X.w)->Es X.prog X.w s.heap (ds.map D.sk) es
 | [],_,es,_,r,q,_=>by
  rw[Reps] at r;subst r
  cases es with
  | nil=>exact .nil
  | cons _ _=>cases q
 | d::ds,_,es,hf,r,q,hh=>by
  rw[Reps] at r
  obtain⟨x,xs,rfl,r1,r2⟩:=r
  cases es with
  | nil=>cases q
  | cons e es =>
   simp only[Zl0,Zol] at hh
   cases q with
   | cons q1 q2=>exact .cons hh.1 (I.sk (hf d Zls) r1 q1) (yma I (fun d' h=>hf d' (Zlp _ h)) r2 q2 hh.2)
theorem Inv.setE(I:Inv X pins U H s){f:Bool}{a:Addr}{ds:List D}{xs:List V}(e:H a=some (zpf X.prog X.w a (ds.map D.sk) xs))(hf:∀d∈ds,d.hk f=true)(r:Reps X.K H ds xs) :
  ∃es,SetE X.prog X.w s.heap a (ds.map D.sk) es/\Vals xs (es.toList.map (·.2)):=by
 obtain⟨⟨o,es,ep,t,ho,hx,S,hh,rv,hn,hl⟩,_,_⟩:=I.hok a _ e
 exact⟨es,⟨o,ep,t,ho,hx,S.data,S.tab,yma I hf r rv hh,hn,hl,S.led,f,fun k hk=>by
  obtain⟨d,hd,rfl⟩:=Zl2.mp hk
  exact zl6 (hf d hd)⟩,rv⟩
noncomputable def Src(da:List D)(xa:List V)(db:List D)(xb:List V)(dr:List D)(xr:List V):Prop :=
 dr.length=xr.length /\ ∀(i:Nat) d x,dr[i]? = some d->xr[i]? = some x-> ∃j:Nat,(da[j]? = some d/\xa[j]? = some x)\/(db[j]? = some d/\xb[j]? = some x)
theorem Src.reps{K:Zlh}{F:Hp}{da db dr:List D}{xa xb xr:List V}(h:Src da xa db xb dr xr)(ra:Reps K F da xa)(rb:Reps K F db xb):Reps K F dr xr:=by
 obtain⟨hl,h⟩:=h
 induction dr generalizing xr with
 | nil=>cases xr with
  | nil=>exact Reps.nil
  | cons _ _=>simp at hl
 | cons d dr ih=>cases xr with
  | nil=>simp at hl
  | cons x xr =>
   refine Reps.cons ?_ (ih (by simpa using hl) fun i d' x' h1 h2=>h (i+1) d' x' h1 h2)
   obtain⟨j,⟨h1,h2⟩ | ⟨h1,h2⟩⟩:=h 0 d x rfl rfl
   .obtain⟨x',e,r⟩:=ra.get' h1
    rw[h2] at e;cases e;exact r
   .obtain⟨x',e,r⟩:=rb.get' h1
    rw[h2] at e;cases e;exact r
theorem Src.mem{da db dr:List D}{xa xb xr:List V}(h:Src da xa db xb dr xr){d:D}(hd:d∈dr):d∈da\/d∈db:=by
 obtain⟨i,hi⟩:=Zmr.mp hd
 have hil:=(Zlq.mp hi).1
 obtain⟨j,⟨h1,_⟩ | ⟨h1,_⟩⟩:=h.2 i d (xr[i]'(by have:=h.1;lia)) hi (Zlj _)
 .exact .inl (Zlv h1)
 .exact .inr (Zlv h1)
theorem ygg{h:Heap}{k k':SK}{v:Zll}(a:k.is X.prog X.w h v)(b:k'.is X.prog X.w h v)(hf:k.flat=k'.flat):k=k':=by
 cases k <;> cases k' <;> simp[SK.flat] at hf
 .exact congrArg _ ((zav X.prog X.w).inj _ _ _ a b)
 .obtain⟨u,e1,i1⟩:=a
  obtain⟨v,e2,i2⟩:=b
  rw[e1] at e2;cases e2
  exact congrArg _ (i1.inj i2)
theorem yk3{h':Heap}{f:Bool}{da db:List D}{xa xb:List V}{ea eb:List (Int×Zll)}(K':zjm s.heap h')(Ea:Es X.prog X.w s.heap (da.map D.sk) ea)(Eb:Es X.prog X.w s.heap (db.map D.sk) eb)(va:Vals xa (ea.map (·.2)))(vb:Vals xb (eb.map (·.2)))
  (hfa:∀d∈da,d.hk f=true) (hfb:∀d∈db,d.hk f=true):∀{kr:List SK} {er:List (Int×Zll)},Es X.prog X.w h' kr er->(∀k∈kr,k.flat=f)->(∀e∈er,e∈ea\/e∈eb) ->
  ∃dr xr,dr.map D.sk=kr/\Vals xr (er.map (·.2))/\Src da xa db xb dr xr:=by
 intro kr er x
 induction x with
 | nil=>intro _ _;exact⟨[],[],rfl,.nil,rfl,fun i d x h=>by simp at h⟩
 | @cons k e kr er h1 h2 _ ih =>
  intro hk hin
  obtain⟨dr,xr,a,b,c⟩:=ih (fun k h=>hk k (Zlp _ h)) fun e h=>hin e (Zlp _ h)
  have pick:∀(dz:List D) (xz:List V) (ez:List (Int×Zll)),Es X.prog X.w s.heap (dz.map D.sk) ez->Vals xz (ez.map (·.2))->(∀d∈dz,d.hk f=true)->e∈ez-> ∃(j:Nat) (d:D) (x:V),dz[j]? = some d/\xz[j]? = some x/\d.sk=k/\RelV x e.2:=by
   intro dz xz ez E1 v1 hf1 hm
   obtain⟨j,hj⟩:=Zmr.mp hm
   obtain⟨k',g1,g2,g3⟩:=E1.get j e hj
   rw[Zlx] at g1
   cases hd:dz[j]? with
   | none=>rw[hd] at g1;cases g1
   | some d =>
    rw[hd] at g1
    have g1':d.sk=k':=by simpa using g1
    have hjl:j<xz.length:=by
     have:=v1.length
     have:=(Zlq.mp hj).1
     simp at *;lia
    obtain⟨u,hu,ru⟩:=v1.get (Zlj hjl)
    rw[Zlx,hj] at hu
    have hu':e.2=u:=by simpa using hu
    refine⟨j,d,_,hd,Zlj hjl,?_,by rw[hu'];exact ru⟩
    rw[g1']
    refine ygg (SK.is_mono K' g3) h2 ?_
    rw[<- g1',zl6 (hf1 d (Zlv hd)),hk k Zls]
  rcases hin e Zls with hm | hm
  .obtain⟨j,d,y,p1,p2,p3,p4⟩:=pick da xa ea Ea va hfa hm
   refine⟨d::dr,y::xr,by rw[Zl0,p3,a],.cons p4 b,by simp[c.1],fun i d' x' q1 q2=>?_⟩
   cases i with
   | zero=>simp at q1 q2;subst q1;subst q2;exact⟨j,.inl ⟨p1,p2⟩⟩
   | succ i=>exact c.2 i d' x' q1 q2
  .obtain⟨j,d,y,p1,p2,p3,p4⟩:=pick db xb eb Eb vb hfb hm
   refine⟨d::dr,y::xr,by rw[Zl0,p3,a],.cons p4 b,by simp[c.1],fun i d' x' q1 q2=>?_⟩
   cases i with
   | zero=>simp at q1 q2;subst q1;subst q2;exact⟨j,.inr ⟨p1,p2⟩⟩
   | succ i=>exact c.2 i d' x' q1 q2
theorem zvf{h':Heap}{r:Addr}{H':Hp}{dr:List D}{xr:List V}{er:Array (Int×Zll)}(S:SetE X.prog X.w h' r (dr.map D.sk) er)(v:Vals xr (er.toList.map (·.2))):zed X.prog X.w H' h' r (zpf X.prog X.w r (dr.map D.sk) xr):=by
 obtain⟨o,ep,t,ho,S⟩:=S
 refine⟨⟨o,er,ep,t,ho,S.ex,S.lite,?_,v,S.nod,S.small⟩,⟨o,ho⟩,?_⟩
 .have:=S.ent
  generalize dr.map D.sk=kr at this
  generalize er.toList=el at this
  induction this with
  | nil=>rfl
  | cons a _ _ ih=>simp[a,ih]
 .rintro h1 h2 ⟨o,es,ep,t,ho,r⟩ k
  exact⟨o,es,ep,t,k o ho,r⟩
end
section
variable(P:Zmi)(w:Zng)(K:Zlh)
noncomputable def zh5(f:Bool):List V->Hp->VK->Prop:=fun vs H Q=>∃a xs ds,vs=[.ref a]/\SqL K H a xs/\Reps K H ds xs/\(∀d∈ds,d.hk f=true)/\ds.length<=1000 /\
 ∀r dr xr,H r=none->dr.Nodup->(∀d,d∈dr↔d∈ds)->Src ds xs [] [] dr xr->Q (.ref r) (upd H r (zpf P w r (dr.map D.sk) xr))
noncomputable def zw1(f:Bool)(m:List D->List D->D->Prop):R2:=fun x y H Q=>∃a b da db xa xb,x= .ref a/\y= .ref b/\a≠b/\H a=some (zpf P w a (da.map D.sk) xa)/\H b=some (zpf P w b (db.map D.sk) xb) /\
 Reps K H da xa/\Reps K H db xb/\(∀d∈da,d.hk f=true)/\(∀d∈db,d.hk f=true)/\da.length+db.length<=1000 /\
 ∀r dr xr,H r=none->dr.Nodup->(∀d,d∈dr↔m da db d)->Src da xa db xb dr xr->Q (.ref r) (upd H r (zpf P w r (dr.map D.sk) xr))
noncomputable def mAnd(da db:List D)(d:D):Prop:=d∈da/\d∈db
noncomputable def yd8(f:Bool):List V->Hp->VK->Prop:=fun vs H Q=>∃a xs ds,vs=[.ref a]/\H a=some (zpf P w a (ds.map D.sk) xs)/\Reps K H ds xs/\(∀d∈ds,d.hk f=true)/\Q (.int ds.length) H
end
theorem zv9{f:Bool}{ds:List D}(hf:∀d∈ds,d.hk f=true){d:D}(hd:d.hk f=true):d.sk∈ds.map D.sk↔d∈ds:=by
 constructor
 .intro h
  obtain⟨e,he,h2⟩:=Zl2.mp h
  rw[<- yki (hf e he) hd h2];exact he
 .exact fun h=>Znb h
theorem zvw{dr:List D}(h:(dr.map D.sk).Nodup):dr.Nodup:=by
 unfold Zm9 at *
 rw[Zq7] at h
 exact h.imp fun a e=>a (congrArg _ e)
section
variable{X:Cx}
theorem zd7{f:Bool}(hc:X.calm=true)(hu:X.A.units+64<Zr6):zb4 X (.type "set") (zh5 X.prog X.w X.K f):=by
 intro pins s U H vs us Q I r h
 obtain⟨a,xs,ds,rfl,hq,rs,hf,hl,q⟩:=h
 obtain⟨u,rfl,ru⟩:=zhi r
 cases ru
 obtain⟨its,rv,pl,_⟩:=I.list hq
 have l1:=rs.length
 have l2:=rv.length
 have hk0:∀k∈ds.map D.sk,k.flat=f:=fun k hk=>by obtain⟨d,hd,rfl⟩:=Zl2.mp hk;exact zl6 (hf d hd)
 have hkey:∀(j:Nat) (v:Zll) (k:SK),its.toArray[j]? = some v->(ds.map D.sk)[j]? = some k->k.is X.prog X.w s.heap v:=fun j v k h1 h2=>by
  rw[Zlx] at h2
  cases hd:ds[j]? with
  | none=>rw[hd] at h2;cases h2
  | some d =>
   rw[hd] at h2
   have:d.sk=k:=by simpa using h2
   subst this
   obtain⟨x,hx,rx⟩:=rs.get' hd
   obtain⟨u,hu',ru⟩:=rv.get hx
   have h1':its[j]? = some v:=by simpa using h1
   rw[h1'] at hu';cases hu'
   exact I.sk (hf d (Zlv hd)) rx ru
 refine zx2 (k0:=ds.map D.sk) (f:=f) (by lia) (I.ok.hd hc) pl.isList (by simp;lia) (by simp;lia) hk0 hkey fun h' tk ks es K' S p=>?_
 have hex:∀(kr:List SK) (el:List (Int×Zll)),Es X.prog X.w h' kr el->(∀k∈kr,k.flat=f)->(∀e∈el,∃j:Nat,its.toArray[j]? = some e.2)-> ∃dr xr,dr.map D.sk=kr/\Vals xr (el.map (·.2))/\Src ds xs [] [] dr xr:=by
  intro kr el en
  induction en with
  | nil=>intro _ _;exact⟨[],[],rfl,.nil,rfl,fun i d x h=>by simp at h⟩
  | @cons k e kr er g1 g2 _ ih =>
   intro hkk hent
   obtain⟨dr,xr,a1,b1,c1⟩:=ih (fun k h=>hkk k (Zlp _ h)) fun e h=>hent e (Zlp _ h)
   obtain⟨j,hj⟩:=hent e Zls
   have hj':its[j]? = some e.2:=by simpa using hj
   have hjl:=(Zlq.mp hj').1
   have hjd:ds[j]? = some (ds[j]'(by lia)):=Zlj _
   obtain⟨x,hx,rx⟩:=rs.get' hjd
   obtain⟨u,hu',ru⟩:=rv.get hx
   rw[hj'] at hu';cases hu'
   have hdk:=hf _ (Zlv hjd)
   have hsk:(ds[j]'(by lia)).sk=k:=ygg (SK.is_mono K'.T (I.sk hdk rx ru)) g2 (by rw[zl6 hdk,hkk k Zls])
   refine⟨_::dr,x::xr,by rw[Zl0,hsk,a1],.cons ru b1,by simp[c1.1],fun i d' x' q1 q2=>?_⟩
   cases i with
   | zero=>simp at q1 q2;subst q1;subst q2;exact⟨j,.inl ⟨hjd,hx⟩⟩
   | succ i=>exact c1.2 i d' x' q1 q2
 obtain⟨dr,xr,e1,v1,src⟩:=hex ks es.toList (let ⟨_,_,_,_,T⟩:=S;T.ent) (fun k hk=>by
   obtain⟨j,_,hj⟩:=(p.mem k).mp hk
   exact hk0 k (Zlv hj)) p.ent
 subst e1
 have hnod:dr.Nodup:=by obtain⟨_,_,_,_,T⟩:=S;exact zvw T.nod
 have hdr:∀d∈dr,d.hk f=true:=fun d hd=>by
  rcases src.mem hd with z | z
  .exact hf d z
  .cases z
 refine⟨.ref s.heap.objs.size,_,I.laid (t':=tk) K' (Zlt _) (zvf S v1),rfl,q _ dr xr (I.hok.fresh (Zlt _)) hnod (fun d=>⟨fun h=>(src.mem h).elim id (fun z=>by cases z),fun h=>?_⟩) src⟩
 refine(zv9 hdr (hf d h)).mp ((p.mem d.sk).mpr ?_)
 obtain⟨j,hj⟩:=Zmr.mp h
 exact⟨j,by have:=(Zlq.mp hj).1;simp;lia,by rw[Zlx,hj];rfl⟩
theorem yin{op:Ydp}{f:Bool}{m:List D->List D->D->Prop}(mk:List SK->List SK->SK->Prop)
  (hm:∀(da db:List D) (d:D),(∀d∈da,d.hk f=true)->(∀d∈db,d.hk f=true)->d.hk f=true->(mk (da.map D.sk) (db.map D.sk) d.sk↔m da db d)) (hsub:∀da db d,m da db d->d∈da\/d∈db)
  (hw:∀(s:Zlo) (a b:Addr) (ka kb:List SK) (ea eb:Array (Int×Zll)) (Q:Zll->Zlo->Prop),a≠b->SetE X.prog X.w s.heap a ka ea->SetE X.prog X.w s.heap b kb eb->(∀k∈ka,k.flat=f)->(∀k∈kb,k.flat=f)->ka.length+kb.length<=1000 ->
   ygl X.prog X.w s ea eb (mk ka kb) Q->Zl8 (Zmh X.prog X.w) X.A (Zqr op (.ref a) (.ref b)) Q X.xe s) (hmk:∀ka kb k,mk ka kb k->k∈ka\/k∈kb):OpR X (Zqr op) (zw1 X.prog X.w X.K f m):=by
 intro pins s U H x y v u Q I rx ry h
 obtain⟨a,b,da,db,xa,xb,rfl,rfl,hab,ha,hb,ra,rb,hfa,hfb,hl,q⟩:=h
 cases rx
 cases ry
 obtain⟨ea,Sa,va⟩:=I.setE ha hfa ra
 obtain⟨eb,Sb,vb⟩:=I.setE hb hfb rb
 have fk:∀(dz:List D),(∀d∈dz,d.hk f=true)-> ∀k∈dz.map D.sk,k.flat=f:=fun dz hz k hk=>by obtain⟨d,hd,rfl⟩:=Zl2.mp hk;exact zl6 (hz d hd)
 refine hw s a b _ _ ea eb _ hab Sa Sb (fk da hfa) (fk db hfb) (by simpa using hl) fun h' d r kr er K' hr S mm en=>?_
 obtain⟨_,_,_,_,Ta⟩:=Sa
 obtain⟨_,_,_,_,Tb⟩:=Sb
 obtain⟨o,ep,t,ho,T⟩:=id S
 have hkr:∀k∈kr,k.flat=f:=fun k hk=>by
  rcases hmk _ _ _ ((mm k).mp hk) with z | z
  .exact fk da hfa k z
  .exact fk db hfb k z
 obtain⟨dr,xr,e1,v1,src⟩:=yk3 (f:=f) K'.T Ta.ent Tb.ent va vb hfa hfb T.ent hkr en
 subst e1
 have hdr:∀d∈dr,d.hk f=true:=fun d hd=>(src.mem hd).elim (hfa d) (hfb d)
 refine⟨.ref r,_,(I.laid (t':=s.toks) K' hr (zvf S v1)).drw d,rfl,q r dr xr (I.hok.fresh hr) (zvw T.nod) (fun d=>⟨fun h=>?_,fun h=>?_⟩) src⟩
 .exact(hm da db d hfa hfb (hdr d h)).mp ((mm d.sk).mp (Znb h))
 .have hdk:d.hk f=true:=(hsub da db d h).elim (hfa d) (hfb d)
  exact(zv9 hdr hdk).mp ((mm d.sk).mpr ((hm da db d hfa hfb hdk).mpr h))
theorem ybl{f:Bool}(hu:X.A.units+64<Zr6):OpR X (Zqr .BitAnd) (zw1 X.prog X.w X.K f mAnd) :=
 yin (fun ka kb k=>k∈ka/\k∈kb) (fun da db d h1 h2 h3=>by rw[zv9 h1 h3,zv9 h2 h3];rfl) (fun da db d h=>.inl h.1) (fun s a b ka kb ea eb Q hab Sa Sb ha hb _ q=>ym4 (f:=f) (by lia) hab Sa Sb ha hb q) fun ka kb k h=>.inl h.1
theorem zs8{f:Bool}:zb4 X (.builtin "len") (yd8 X.prog X.w X.K f):=by
 intro pins s U H vs us Q I r h
 obtain⟨a,xs,ds,rfl,ha,rs,hf,q⟩:=h
 obtain⟨u,rfl,ru⟩:=zhi r
 cases ru
 obtain⟨es,⟨o,ep,t,ho,S⟩,v⟩:=I.setE ha hf rs
 have hl:es.size=ds.length:=by have:=S.ent.length;simp at this;lia
 have hs:=S.small
 simp at hs
 refine call_len_set ho S.ex S.data S.fits (by lia) ⟨.int ds.length,H,I.tok _,⟨_,by rw[hl]⟩,q⟩
end
end L2
namespace L2
open PySem PySem.W PyProof.Rows L2T
section
variable{prog:Zmi}{w:Zng}{A:Zmu}{E:Zll->Zlo->Prop}{s:Zlo}
theorem zrl{a:Addr}{o:Obj}{ks:List SK}{es:Array (Int×Zll)}{ep:Nat}{t:Zlr}{Q:Zll->Zlo->Prop}(Out:List Zll->Array Zll->Prop)(hh:A.handled=none)(ho:s.heap.get? a=some o)(S:SetO prog w s.heap o ks es ep t)
  (hs:∀(vs:List Zll) (h':Heap) (d:Zya) (tk:Nat),vs.Perm (es.toList.map (·.2))->2<=vs.length->zjp s.heap h'->ybs prog w A.in1.in1 { s with heap:=h',drawn:=d,toks:=tk } vs (Out vs)) (h1:∀vs:List Zll,vs.Perm (es.toList.map (·.2))->vs.length<2->Out vs vs.toArray)
  (h:∀(vs:List Zll) out c h' (d:Zya) (tk:Nat) (l:Addr),vs.Perm (es.toList.map (·.2))->zjp s.heap h'->s.heap.objs.size<=l->h'.get? l=some (Zu5 "list" out c)->out.size=vs.length->Out vs out->Q (.ref l) { s with heap:=h',drawn:=d,toks:=tk }) :
  Zl8 (Zmh prog w) A (call (.builtin "sorted") [.ref a]) Q E s:=by
 refine Zvw kind_sorted plain_sorted entry_sorted (args_sorted1 _) ?_
 unfold Zmz.«sorted»
 refine Zli (m:=checkCount "sorted" 1 1 _) (Zln ?_)
 refine Zli (zzb (by simp[hh]) ho S fun vs g1 d tk hp K1 hlt=>?_)
 have hz:vs.length<=sizeLine:=by
  have:=hp.length_eq
  have:=S.small
  have:=S.ent.length
  simp at *
  exact zce (by lia)
 refine Zli (Zxt ?_ hz)
 dsimp only
 have hl:s.heap.objs.size<=g1.objs.size:=Zuz hlt
 have hg:(g1.push { cls:=.type "list", data:=.seq vs.toArray }).get? g1.objs.size=some (Zu5 "list" vs.toArray 0):=Zl3 _ rfl
 have k2:zjp s.heap (g1.push { cls:=.type "list", data:=.seq vs.toArray }):=fun b u e=>Zlu _ (K1 b u e)
 have ne:∀b u,s.heap.get? b=some u->b≠g1.objs.size:=fun b u e=>Zmb (Zl4 (K1 b u e))
 refine Zli (Zos (Zqq Ycw ⟨_,hg,rfl⟩ Ycl (zn9 (s:={ s with heap:=g1.push { cls:=.type "list", data:=.seq vs.toArray },drawn:=d,toks:=tk }) (Out vs) hg hz
  (fun h2 h' k=>hs vs h' d tk hp h2 fun b u e=>k b u (ne b u e) (k2 b u e)) (h1 vs hp) fun out c h' k hc hsz hO=>⟨_,rfl,?_⟩) (Yc3 _)))
 exact Zln ⟨_,rfl,h vs out c h' d tk _ hp (fun b u e=>k b u (ne b u e) (k2 b u e)) hl hc hsz hO⟩
end
theorem zg6.perm{ds es:List D}(h:zg6 ds)(p:es.Perm ds):zg6 es:=by
 rcases h with h | h | ⟨t,ts,h⟩
 .exact .inl fun d hd=>h d (p.mem_iff.mp hd)
 .exact .inr (.inl fun d hd=>h d (p.mem_iff.mp hd))
 .exact .inr (.inr ⟨t,ts,fun d hd=>h d (p.mem_iff.mp hd)⟩)
theorem zg6.sub{ds es:List D}(h:zg6 ds)(p:∀d∈es,d∈ds):zg6 es:=by
 rcases h with h | h | ⟨t,ts,h⟩
 .exact .inl fun d hd=>h d (p d hd)
 .exact .inr (.inl fun d hd=>h d (p d hd))
 .exact .inr (.inr ⟨t,ts,fun d hd=>h d (p d hd)⟩)
theorem zmo{ds es:List D}(h:zg6 ds)(p:es.Perm ds):zgn es=zgn ds:=zpz h ((zbw es).trans p) (zh7 es)
theorem Src.refl{ds:List D}{xs:List V}(h:ds.length=xs.length):Src ds xs [] [] ds xs:=⟨h,fun i d x h1 h2=>⟨i,.inl ⟨h1,h2⟩⟩⟩
theorem zss{us us':List Zll}(p:us'.Perm us):∀{ds:List D} {xs:List V},ds.length=xs.length->Vals xs us-> ∃ds' xs',Vals xs' us'/\ds'.Perm ds/\Src ds xs [] [] ds' xs':=by
 have p':=p.symm
 clear p
 induction p' with
 | nil=>intro ds xs hl v;exact⟨ds,xs,v,.refl _,Src.refl hl⟩
 | cons e _ ih =>
  intro ds xs hl v
  cases v with
  | @cons x _ xs _ v1 v2 =>
   cases ds with
   | nil=>simp at hl
   | cons d ds =>
    obtain⟨d2,x2,a,b,c⟩:=ih (by simpa using hl) v2
    refine⟨d::d2,x::x2,.cons v1 a,b.cons _,by simp[c.1],fun i d' x' h1 h2=>?_⟩
    cases i with
    | zero=>simp at h1 h2;subst h1;subst h2;exact⟨0,.inl ⟨rfl,rfl⟩⟩
    | succ i =>
     obtain⟨j,hj⟩:=c.2 i d' x' h1 h2
     exact⟨j+1,hj.elim (fun z=>.inl z) fun z=>by simp at z⟩
 | swap e f l =>
  intro ds xs hl v
  cases v with
  | @cons x _ xs _ v1 v2=>cases v2 with
   | @cons y _ xs _ v2 v3 =>
    match ds,hl with
    | d::d1::ds,hl =>
     refine⟨d1::d::ds,y::x::xs,.cons v2 (.cons v1 v3),Zus _ _ _,by simpa using hl,fun i d' x' h1 h2=>?_⟩
     match i with
     | 0=>simp at h1 h2;subst h1;subst h2;exact⟨1,.inl ⟨rfl,rfl⟩⟩
     | 1=>simp at h1 h2;subst h1;subst h2;exact⟨0,.inl ⟨rfl,rfl⟩⟩
     | i+2=>exact⟨i+2,.inl ⟨h1,h2⟩⟩
 | trans _ _ ih1 ih2 =>
  intro ds xs hl v
  obtain⟨d1,x1,a1,b1,c1⟩:=ih1 hl v
  obtain⟨d2,x2,a2,b2,c2⟩:=ih2 c1.1 a1
  refine⟨d2,x2,a2,b2.trans b1,c2.1,fun i d' x' h1 h2=>?_⟩
  obtain⟨j,hj⟩:=c2.2 i d' x' h1 h2
  rcases hj with ⟨g1,g2⟩ | ⟨g1,_⟩
  .exact c1.2 j d' x' g1 g2
  .simp at g1
noncomputable def EvS(P:Zmi)(w:Zng)(K:Zlh)(G H0 L:Hp)(ss:List Sl)(t:TE)(ds:List D):Prop:=∀F H U Q,Sat K G H0 L F H U ss ->
 (∀p xs F' H' ds',Ext F H F' H'->H p=none->F' p=none->H' p=some (zpf P w p (ds'.map D.sk) xs)->Reps K F' ds' xs->ds'.Nodup->(∀d,d∈ds'↔d∈ds)->Q (.ref p) H')->t U H Q
theorem znh{α:Type}[DecidableEq α]:∀{a b:List α},a.Nodup->(∀x∈a,x∈b)->a.length<=b.length
 | [],_,_,_=>Zmt _
 | x::a,b,hn,h=>by
  rw[Zn3] at hn
  have h1:=znh (b:=b.erase x) hn.2 fun y hy=>(Zxf (show y≠x from fun e=>hn.1 (by rw[<- e];exact hy))).mpr (h y (Zlp _ hy))
  have hx:=h x Zls
  have:=Zwh hx
  have:=Zq3 hx
  simp;lia
section
variable{P:Zmi}{w:Zng}{K:Zlh}{G H0 L:Hp}{ss:List Sl}{t ta tb:TE}{f:Bool}{ds da db dr:List D}
theorem zi2(a:EvL K G H0 L ss t ds)(hf:∀d∈ds,d.hk f=true)(hl:ds.length<=1000):EvS P w K G H0 L ss (tCB (zh5 P w K f) (za8 t tNil)) ds:=fun F H U Q S q =>
 a F H U _ S fun p vs F' H' e sq r=>⟨p,vs,ds,rfl,sq,r.mono e.fh,hf,hl,fun l dr xr hl' hn hm src =>
  q l xr F' _ dr (e.newO hl') (e.hh.free hl') (e.fh.free hl') zal (src.reps r Reps.nil) hn hm⟩
theorem ymi{m:List D->List D->D->Prop}(hcong:∀a a' b b' d,(∀d,d∈a↔d∈a')->(∀d,d∈b↔d∈b')->(m a b d↔m a' b' d))(a:EvS P w K G H0 L ss ta da)(b:EvS P w K G H0 L ss tb db)(hfa:∀d∈da,d.hk f=true)(hfb:∀d∈db,d.hk f=true)
  (hl:da.length+db.length<=1000) (hm:∀d,d∈dr↔m da db d):EvS P w K G H0 L ss (tOp (zw1 P w K f m) ta tb) dr:=fun F H U Q S q =>
 a F H U _ S fun p xs F1 H1 d1 e1 hp fp hp1 r1 n1 m1=>b F1 H1 U _ (S.ext2 e1) fun p2 xs2 F2 H2 d2 e2 hp2 fp2 hpp2 r2 n2 m2=>by
  have hne:p≠p2:=fun z=>by rw[<- z,hp1] at hp2;cases hp2
  have l1:=znh n1 fun x h=>(m1 x).mp h
  have l2:=znh n2 fun x h=>(m2 x).mp h
  refine⟨p,p2,d1,d2,xs,xs2,rfl,rfl,hne,e2.hh p _ hp1,hpp2,(r1.mono e2.gf).mono e2.fh,r2.mono e2.fh,fun d h=>hfa d ((m1 d).mp h),fun d h=>hfb d ((m2 d).mp h),by lia,fun r dr' xr hr hn hmm src=>?_⟩
  have e12:=e1.trans e2
  exact q r xr F2 _ dr' (e12.newO hr) (e12.hh.free hr) (e12.fh.free hr) zal (src.reps (r1.mono e2.gf) r2) hn fun d=>by rw[hmm,hm];exact hcong _ _ _ _ _ m1 m2
theorem zz8(a:EvS P w K G H0 L ss ta da)(b:EvS P w K G H0 L ss tb db)(hfa:∀d∈da,d.hk f=true)(hfb:∀d∈db,d.hk f=true)(hl:da.length+db.length<=1000)(hm:∀d,d∈dr↔d∈da/\d∈db):EvS P w K G H0 L ss (tOp (zw1 P w K f mAnd) ta tb) dr :=
 ymi (m:=mAnd) (fun a a' b b' d h1 h2=>by unfold mAnd;rw[h1,h2]) a b hfa hfb hl hm
theorem zsl(dd:List D)(a:EvS P w K G H0 L ss t ds)(hf:∀d∈ds,d.hk f=true)(hn:dd.Nodup)(hm:∀d,d∈dd↔d∈ds):Ev K G H0 L ss (tCB (yd8 P w K f) (za8 t tNil)) (.int dd.length):=fun F H U Q S q =>
 a F H U _ S fun p xs F' H' d1 e hp fp hp1 r n1 m1=>⟨p,xs,d1,rfl,hp1,r.mono e.fh,fun d h=>hf d ((m1 d).mp h),by
  have hp:dd.Perm d1:=(Zqb hn n1).mpr fun d=>by rw[hm,m1]
  rw[<- hp.length_eq]
  exact q _ F' H' e Rep.int⟩
end
noncomputable def ded:List D->List D
 | []=>[]
 | d::ds=>if d∈ds then ded ds else d::ded ds
theorem zcf{d:D}:∀{ds:List D},d∈ded ds↔d∈ds
 | []=>Iff.rfl
 | e::ds=>by
  unfold ded
  split
  .rw[zcf,Zly]
   exact⟨.inr,fun h=>h.elim (fun z=>z ▸ by assumption) id⟩
  .rw[Zly,Zly,zcf]
theorem zct:∀ds:List D,(ded ds).Nodup
 | []=>Zrd
 | e::ds=>by
  unfold ded
  split
  .exact zct ds
  .rw[Zn3,zcf];exact⟨by assumption,zct ds⟩
theorem zm1:∀ds:List D,(ded ds).length<=ds.length
 | []=>Zlt _
 | e::ds=>by
  have:=zm1 ds
  unfold ded
  split <;> simp <;> omega
noncomputable def zxu(K:Zlh):R2:=fun x y H Q=>∃l b xs zs,x= .ref l/\y= .ref b/\SqL K H l xs/\SqL K H b zs/\xs.length+zs.length<=sizeLine /\ ∀p,H p=none->Q (.ref p) (upd H p (.lst (xs++zs)))
theorem zos{X:Cx}:OpR X (Zqr .Add) (zxu X.K):=by
 intro pins s U H x y v u Q I rx ry h
 obtain⟨l,b,xs,zs,rfl,rfl,hl,hb,hz,q⟩:=h
 cases rx
 cases ry
 obtain⟨its,r,pl,_⟩:=I.list hl
 obtain⟨its2,r2,pl2,_⟩:=I.list hb
 have z1:=r.length
 have z2:=r2.length
 obtain⟨⟨cls,dd,data,sl⟩,ho,hc,n,hd⟩:=pl.isList
 obtain⟨⟨cls2,dd2,data2,sl2⟩,ho2,hc2,n2,hd2⟩:=pl2.isList
 dsimp only at hc hd hc2 hd2
 subst hc;subst hd;subst hc2;subst hd2
 refine concat_meets ⟨_,ho,rfl⟩ ⟨_,ho2,rfl⟩ noFill_list_add seq_list_add PySem.F.slot_list_add PySem.F.entry_list_add (PySem.F.args_list_add_2 _ _) (list_addW l b its.toArray its2.toArray n n2 dd dd2 sl sl2 (by simp;lia)) ⟨ho,ho2,?_⟩
 have ea:its.toArray++its2.toArray=(its++its2).toArray:=by simp
 rw[ea]
 exact⟨.ref _,_,I.lnew (t':=s.toks) (r.append r2) (by rw[Zlw];omega),rfl,q _ I.fresh⟩
section
variable{K:Zlh}{G H0 L:Hp}{ss:List Sl}{ta tb:TE}{da db:List D}
theorem zor(a:EvL K G H0 L ss ta da)(b:EvL K G H0 L ss tb db)(hz:da.length+db.length<=sizeLine):EvO K G H0 L ss (tOp (zxu K) ta tb) (da++db):=fun F H U Q S q =>
 a F H U _ S fun p vs F1 H1 e1 sq1 r1=>b F1 H1 U _ (S.ext2 e1) fun p2 vs2 F2 H2 e2 sq2 r2=>by
  have l1:=r1.length
  have l2:=r2.length
  refine⟨p,p2,vs,vs2,rfl,rfl,SqL.same e2.hh sq1,sq2,by lia,fun l hl=>?_⟩
  have e12:=e1.trans e2
  exact q l _ F2 _ (e12.newO hl) (e12.hh.free hl) (e12.fh.free hl) zal ((r1.mono e2.gf).append r2)
theorem zpn{d:D}{v:V}(r:∀H,Rep K H d v):Ev K G H0 L ss (tC v) d:=fun F H U Q S q=>q _ _ _ (Ext.refl S.ext.fh) (r _)
end
theorem zsi{K:Zlh}{H:Hp}:∀(ls:List (List Nat)),(∀l∈ls,∀c∈l,c<128)->Reps K H (ls.map .str) (ls.map fun l=>.str (T l))
 | [],_=>Reps.nil
 | l::ls,h=>Reps.cons (Rep.str (h l Zls)) (zsi ls fun l' hl=>h l' (Zlp _ hl))
theorem zoe:∀{ls:List (List Nat)} {us:List Zll},ls.length=us.length->(∀(i:Nat) (l:List Nat) (u:Zll),ls[i]? = some l->us[i]? = some u-> ∃t,u= .str (T l) t)->Vals (ls.map fun l=>V.str (T l)) us
 | [],us,hl,_=>by cases us with
  | nil=>exact .nil
  | cons _ _=>simp at hl
 | l::ls,us,hl,h=>by cases us with
  | nil=>simp at hl
  | cons u us=>exact .cons (h 0 l u rfl rfl) (zoe (by simpa using hl) fun i l' u' h1 h2=>h (i+1) l' u' h1 h2)
noncomputable def TupK(K:Zlh)(a:Addr)(ls:List (List Nat)):Prop:=∀H,Rep K H (.tup (ls.map .str)) (.ref a)
theorem yaw{K:Zlh}{a:Addr}{o:Obj}{its:Array Zll}{n:Nat}{ls:List (List Nat)}(hk:K.lookup a=some o)(hc:o.cls= .type "tuple")(hd:o.data= .seq its n)(hl:ls.length=its.size)(hs:ls.length<=1000)(ha:∀l∈ls,∀c∈l,c<128)
  (h:∀(i:Nat) (l:List Nat) (u:Zll),ls[i]? = some l->its.toList[i]? = some u-> ∃t,u= .str (T l) t):TupK K a ls:=fun H =>
 Rep.tup (.inr ⟨o,its,n,hk,hc,hd,by rw[<- hl];exact zce (by lia),zoe (by simpa using hl) h⟩) (zsi ls ha) fun z=>by
  obtain⟨d,hd,hi⟩:=Zow.mp z
  obtain⟨l,_,rfl⟩:=Zl2.mp hd
  cases hi
mutual
noncomputable def D.nl:D->Bool
 | .lst _=>false
 | .dct _ _=>false
 | .dctT _ _=>false
 | .ins _ _ _=>false
 | .tup a=>D.nls a
 | _=>true
noncomputable def D.nls:List D->Bool
 | []=>true
 | a::x=>a.nl&&D.nls x
end
noncomputable def ygb:V->List V->Hp->VK->Prop:=fun x vs H Q=>∃z,x= .str z/\vs=[]/\Zvx (Zzu z).length=false/\Q (.str (Zzu z)) H
theorem zwl{X:Cx}:MtR X "str.upper" ygb:=by
 intro pins s U H x xs v us Q I rx rs h
 obtain⟨z,rfl,rfl,hz,q⟩:=h
 obtain⟨t,rfl⟩:=rx
 cases rs
 exact SC.upper hz ⟨.str _,H,I.tok _,⟨_,rfl⟩,q⟩
end L2
namespace L2
open PySem PySem.W PySem.Spec PyProof.Rows
noncomputable def SpR(K:Zlh)(pre:List D->Prop)(R:List D->List D->Prop):Sp:=fun vs H Q _=>∃G ds,Same G H/\Reps K G ds vs/\pre ds /\ ∀rs,R ds rs-> ∀p ws G' H',Ext G H G' H'->H p=none->G' p=none->H' p=some (.lst ws)->Reps K G' rs ws->Q (.ref p) H'
section
variable{K:Zlh}{H:Hp}{vs:List V}{Q:VK}{X:XK}{N:List Str}{t:TS}{pre:List D->Prop}{R:List D->List D->Prop}
theorem yjo(h:SpR K pre R vs H Q X)(hN:vs.length<=N.length)(body:∀G ds,pre ds->(∀rs,R ds rs->RtO K G H Q rs)->Go K G H G { nx:=fun _ H'=>Q .non H',rt:=Q } (slots N.length ds) t):t { nx:=fun _ H'=>Q .non H',rt:=Q } (start N vs) H:=by
 obtain⟨G,ds,sm,r,hp,q⟩:=h
 exact body G ds hp (fun rs hR p ws F H' e h1 h2 h3 r=>q rs hR p ws F H' e h1 h2 h3 r) G H _ (ze5 sm r hN)
theorem zzn{n:Nat}(hpre:∀ds,pre ds->ds.length=n)(h:SpR K pre R vs H Q X):vs.length=n:=by
 obtain⟨G,ds,sm,r,hp,q⟩:=h
 rw[<- r.length];exact hpre ds hp
end
section
variable{K:Zlh}{G H0 L:Hp}{ss:List Sl}{t:TA}{ds:List D}{pre:List D->Prop}{R:List D->List D->Prop}{E:XK}{D0:Ends}
theorem ybk{i:Nat}(a:EvAF K G H0 L ss t ds)(hp:pre ds)(h:∀rs,R ds rs-> ∀p,Nx K G H0 L D0.nx (ss.set i (.o p rs))):Go K G H0 L D0 ss (tAsg (zk4 (SpR K pre R) [] E t) (zin i)):=fun F H U S =>
 a F H U _ S fun vs F1 H1 e1 r1=>⟨F1,ds,e1.fh,by rw[Zm1];exact r1,hp,fun rs hR p ws G' H' e2 h1 h2 h3 r=>h rs hR p _ _ _ (S.newO (e1.trans e2) (e1.hh.free h1) h2 h3 r)⟩
end
end L2
namespace L2
open PySem PySem.W PyProof.Rows L2T
section
variable{K:Zlh}{G H0 L:Hp}{ss:List Sl}{ta tb t:TE}
theorem ye0{i j:Int}(a:EvB K G H0 L ss ta (.int i))(b:EvB K G H0 L ss tb (.int j)):Ev K G H0 L ss (tOp (rI0 fun i j=>.bl (decide (j<i))) ta tb) (.bl (decide (j<i))):=zo6 (g:=fun i j=>decide (j<i)) a b
theorem ymx{i j:Int}(a:EvB K G H0 L ss ta (.int i))(b:EvB K G H0 L ss tb (.int j)):Ev K G H0 L ss (tOp (rI0 fun i j=>.bl (decide (i<=j))) ta tb) (.bl (decide (i<=j))):=zo6 (g:=fun i j=>decide (i<=j)) a b
end
end L2
namespace L2
open PySem PySem.W PySem.Spec PyProof.Rows
section
variable{K:Zlh}{G H0 L:Hp}{ss:List Sl}{t:TA}{ds:List D}{pre:List D->Prop}{R:List D->D->Prop}{E:XK}{D0:Ends}{ta tb te:TE}{i j:Int}
theorem ylb(a:EvB K G H0 L ss te (.int i)):Ev K G H0 L ss (tCB (fun xs H Q=>∃x,xs=[.int x,.ty "int"]/\Q (.bl true) H) (za8 te (za8 (tC (.ty "int")) tNil))) (.bl true):=fun F H U Q S q =>
 a F H U _ S fun v F1 H1 e1 r1=>⟨i,by rw[r1.of_int],q _ _ _ e1 Rep.bl⟩
theorem yhb(a:EvB K G H0 L ss te (.int i)):Ev K G H0 L ss (tCB (fun xs H Q=>∃x,xs=[.int x,.ty "bool"]/\Q (.bl false) H) (za8 te (za8 (tC (.ty "bool")) tNil))) (.bl false):=fun F H U Q S q =>
 a F H U _ S fun v F1 H1 e1 r1=>⟨i,by rw[r1.of_int],q _ _ _ e1 Rep.bl⟩
theorem yhh(a:EvB K G H0 L ss te (.int i)):Ev K G H0 L ss (tCB (fun xs H Q=>∃i,xs=[.int i]/\Q (.int (if i<0 then -i else i)) H) (za8 te tNil)) (.int (if i<0 then -i else i)):=fun F H U Q S q =>
 a F H U _ S fun v F1 H1 e1 r1=>⟨i,by rw[r1.of_int],q _ _ _ e1 Rep.int⟩
theorem yb2(a:EvB K G H0 L ss te (.int i)):Ev K G H0 L ss (tUn (rU fun i=>.int (-i)) te) (.int (-i)):=fun F H U Q S q =>
 a F H U _ S fun v F1 H1 e1 r1=>⟨i,by rw[r1.of_int],q _ _ _ e1 Rep.int⟩
theorem yk6(a:EvB K G H0 L ss ta (.int i))(b:EvB K G H0 L ss tb (.int j))(h:CPow i j):Ev K G H0 L ss (tOp (rI CPow fun i j=>.int (i ^ j.toNat)) ta tb) (.int (i ^ j.toNat)):=zwt (C:=CPow) (g:=fun i j=>i ^ j.toNat) a b h
end
end L2
namespace L2
open PySem PySem.W PySem.Spec PyProof.Rows PySem.Builtin PySem.Builtin.Str PySem.StrLaws
noncomputable def posL(z:Nat):Nat->List Nat->List Nat
 | _,[]=>[]
 | a,x::l=>if x=z then a::posL z (a+1) l else posL z (a+1) l
theorem yam(pre l:List Nat)(z:Nat):subAt (T (pre++l)) (T [z]) pre.length=decide (l.head? = some z):=by
 rw[Zmj,decide_eq_true_eq]
 have h:=subAt_one (T (pre++l)) z pre.length
 have e:(⟨#[z]⟩:Str)=T [z]:=rfl
 rw[e] at h
 have hc:(T (pre++l)).cps.toList=pre++l:=zet _
 rw[hc] at h
 have hl:(T (pre++l)).length=pre.length+l.length:=by rw[zb5,Zlw]
 have hz:(T [z]).length=1:=zb5 _
 have hg:(pre++l)[pre.length]? = l.head?:=by
  rw[Znx (Zlt _),Zxb];cases l <;> rfl
 rw[hg,hl,hz] at h
 constructor
 .intro hs
  by_cases hl0:l=[]
  .subst hl0
   exfalso
   unfold subAt at hs
   simp[T,Zyz] at hs
  .have:1<=l.length:=by cases l with | nil=>exact absurd rfl hl0 | cons _ _=>simp
   exact h.mp ⟨by lia,hs⟩
 .intro hs
  exact(h.mpr hs).2
theorem zlj(z:Nat)(n:Nat):∀(l pre:List Nat) (free:Nat) (acc:Array Nat),free<=pre.length ->
  (Zx0 (Zso pre.length (l.length+1)) (acc,free) (occBody (T (pre++l)) (T [z]) (pre.length+l.length) n)).run.fst.toList=acc.toList++(posL z pre.length l).take (n - acc.size)
 | [],pre,free,acc,hf=>by
  rw[Zm6,Zsc,Zsu,List.range'_zero,Zs7]
  unfold occBody
  rw[if_neg (by rintro⟨⟨_,h⟩,_⟩;rw[zb5] at h;simp at h;lia)]
  show acc.toList=_
  simp[posL]
 | x::l,pre,free,acc,hf=>by
  rw[Zl1,Zsu,Zs7]
  have hs:=yam pre (x::l) z
  have e2:pre++x::l=(pre++[x])++l:=by simp
  have e3:pre.length+(l.length+1)=(pre++[x]).length+l.length:=by simp;lia
  have e4:pre.length+1=(pre++[x]).length:=by simp
  have hz:(T [z]).length=1:=zb5 _
  conv=>lhs;unfold occBody
  by_cases hx:x=z
  .have hs':subAt (T (pre++x::l)) (T [z]) pre.length=true:=by rw[hs];simp[hx]
   by_cases hn:acc.size<n
   .rw[if_pos ⟨⟨⟨hn,hf⟩,by rw[hz];lia⟩,hs'⟩]
    show(Zx0 (Zso (pre.length+1) (l.length+1)) (acc.push pre.length,pre.length+(T [z]).length) (occBody (T (pre++x::l)) (T [z]) (pre.length+(l.length+1)) n)).run.fst.toList=_
    rw[e2,e3,e4,zlj z n l (pre++[x]) _ _ (by rw[hz];simp)]
    rw[posL,if_pos hx,Zyd,Array.size_push,<- e4]
    rw[show n - acc.size=(n - (acc.size+1))+1 by lia,Zo2,Zpn]
    rfl
   .rw[if_neg (by rintro⟨⟨⟨h,_⟩,_⟩,_⟩;exact hn h)]
    show(Zx0 (Zso (pre.length+1) (l.length+1)) (acc,free) (occBody (T (pre++x::l)) (T [z]) (pre.length+(l.length+1)) n)).run.fst.toList=_
    rw[e2,e3,e4,zlj z n l (pre++[x]) _ _ (by simp;lia),show n - acc.size=0 by lia]
    simp
  .have hs':¬ subAt (T (pre++x::l)) (T [z]) pre.length=true:=by rw[hs];simp[hx]
   rw[if_neg (by rintro⟨_,h⟩;exact hs' h)]
   show(Zx0 (Zso (pre.length+1) (l.length+1)) (acc,free) (occBody (T (pre++x::l)) (T [z]) (pre.length+(l.length+1)) n)).run.fst.toList=_
   rw[e2,e3,e4,zlj z n l (pre++[x]) _ _ (by simp;lia),posL,if_neg hx,<- e4]
theorem yh6(z n:Nat)(l:List Nat):occurrences (T l) (T [z]) 0 (T l).length n=(posL z 0 l).take n:=by
 rw[occ_eq,zb5]
 have:=zlj z n l [] 0 #[] (Zlt _)
 simpa using this
noncomputable def za1(z:Nat):Nat->List Nat->List (List Nat)
 | 0,l=>[l]
 | n+1,l=>match l.dropWhile (· != z) with
  | []=>[l]
  | _::b=>l.takeWhile (· != z)::za1 z n b
noncomputable def zwq(s:Str):Nat->List Nat->List Str
 | a,[]=>[strSub s a s.length]
 | a,p::r=>strSub s a p::zwq s (p+1) r
theorem zon(s:Str):∀(ps:List Nat) (a:Nat),(((a::ps.map (· + 1)).zip (ps++[s.length])).map fun(i,j)=>strSub s i j)=zwq s a ps
 | [],a=>rfl
 | p::r,a=>by
  show strSub s a p::_=strSub s a p::_
  rw[<- zon s r (p+1)]
  rfl
theorem zl7(a b c:List Nat):strSub (T (a++b++c)) a.length (a.length+b.length)=T b:=by
 unfold strSub T
 congr 1
 apply Zss.mp
 simp[List.take_append]
theorem zv7{z:Nat}:∀{l:List Nat} (a:Nat),z∉l->posL z a l=[]
 | [],_,_=>rfl
 | x::l,a,h=>by
  rw[posL,if_neg (fun e=>h (by simp[e])),zv7 _ fun h'=>h (Zlp _ h')]
theorem ycj{z:Nat}:∀(l b:List Nat) (a:Nat),z∉l->posL z a (l++z::b)=(a+l.length)::posL z (a+l.length+1) b
 | [],b,a,_=>by simp[posL]
 | x::l,b,a,h=>by
  rw[Zrl,posL,if_neg (fun e=>h (by simp[e])),ycj l b (a+1) fun h'=>h (Zlp _ h')]
  rw[Zl1,show a+1+l.length=a+(l.length+1) by lia]
theorem zgk{z:Nat}:∀l:List Nat,(l.dropWhile (· != z)=[]/\z∉l) \/ ∃b,l.dropWhile (· != z)=z::b/\l=l.takeWhile (· != z)++z::b/\z∉l.takeWhile (· != z)
 | []=>.inl ⟨rfl,by simp⟩
 | x::l=>by
  by_cases hx:x=z
  .subst hx;exact .inr ⟨l,by simp,by simp,by simp⟩
  .have e1:(x::l).dropWhile (· != z)=l.dropWhile (· != z):=by simp[Zon,hx]
   have e2:(x::l).takeWhile (· != z)=x::l.takeWhile (· != z):=by simp[Zrx,hx]
   rw[e1,e2]
   rcases zgk (z:=z) l with ⟨h1,h2⟩ | ⟨b,h1,h2,h3⟩
   .exact .inl ⟨h1,by simp[h2];exact fun e=>hx e.symm⟩
   .refine .inr ⟨b,h1,by rw[Zrl,<- h2],?_⟩
    simp only[Zly,not_or]
    exact⟨fun e=>hx e.symm,h3⟩
theorem zn1(z:Nat):∀(n:Nat) (pre l:List Nat),zwq (T (pre++l)) pre.length ((posL z pre.length l).take n)=(za1 z n l).map T
 | 0,pre,l=>by
  have:=zl7 pre l []
  rw[Zm1] at this
  show[strSub (T (pre++l)) pre.length (T (pre++l)).length]=[T l]
  rw[zb5,Zlw,this]
 | n+1,pre,l=>by
  rcases zgk (z:=z) l with ⟨h1,h2⟩ | ⟨b,h1,h2,h3⟩
  .rw[zv7 _ h2,za1,h1]
   have:=zl7 pre l []
   rw[Zm1] at this
   show[strSub (T (pre++l)) pre.length (T (pre++l)).length]=[T l]
   rw[zb5,Zlw,this]
  .have e:za1 z (n+1) l=l.takeWhile (· != z)::za1 z n b:=by rw[za1,h1]
   rw[e]
   generalize l.takeWhile (· != z)=a at h2 h3
   subst h2
   rw[ycj _ _ _ h3,Zo2]
   show strSub _ pre.length (pre.length+a.length)::zwq _ (pre.length+a.length+1) _=T a::(za1 z n b).map T
   have e1:=zl7 pre a (z::b)
   rw[Zpn] at e1
   rw[e1]
   congr 1
   have:=zn1 z n (pre++a++[z]) b
   have e2:pre++a++[z]++b=pre++(a++z::b):=by simp
   have e3:(pre++a++[z]).length=pre.length+a.length+1:=by simp;lia
   rw[e2,e3] at this
   exact this
theorem zm6(z n:Nat)(l:List Nat):partsBetween (T l) (occurrences (T l) (T [z]) 0 (T l).length n) (T [z]).length=(za1 z n l).map T:=by
 have e:=zon (T l) ((posL z 0 l).take n) 0
 have h:=zn1 z n [] l
 rw[yh6,zb5]
 unfold partsBetween
 exact e.trans h
theorem zh0(z:Nat):∀n l,(za1 z n l).length<=n+1
 | 0,l=>Zlt _
 | n+1,l=>by
  unfold za1
  split
  .simp
  .rw[Zl1];have:=zh0 z n ‹_›;lia
end L2
namespace L2
open PySem PySem.W PySem.Spec PyProof.Rows PySem.Builtin PySem.Builtin.Str
noncomputable def zz6:V->List V->Hp->VK->Prop:=fun x vs H Q=>∃(l:List Nat) (z:Nat) (k:Int),x= .str (T l)/\vs=[.str (T [z]),.int k]/\0<=k/\k<1000/\z<128/\(∀c∈l,c<128)/\l.length<=sizeLine /\ ∀p,H p=none->Q (.ref p) (upd H p (.lst (((za1 z k.toNat l).map T).map V.str)))
theorem zu7{l:List Nat}(h:∀c∈l,c<128):Zod (T l)=1:=by
 unfold Zod
 rw[if_pos]
 rw[Array.all_eq_true_iff_forall_mem]
 intro c hc
 have:c∈l:=by simpa[T] using hc
 have:=h c this
 simp;lia
theorem ycf{X:Cx}:MtR X "str.split" zz6:=by
 intro pins s U H x xs v us Q I rx rs h
 obtain⟨l,z,k,rfl,rfl,hk0,hk1,hz,hl,hlen,q⟩:=h
 obtain⟨t,rfl⟩:=rx
 obtain⟨u1,u2,rfl,⟨u,rfl⟩,⟨u',rfl⟩⟩:=zth rs
 have hk:(decide (k< -(2 ^ 63:Int))||decide (k ≥ 2 ^ 63))=false:=by simp;lia
 have hlim:Ycj (T l) k=k.toNat:=by unfold Ycj;rw[if_neg (by lia)]
 have hpl:=zh0 z k.toNat l
 have fin:∀(zs:List (Str×Tok)) (m:Nat),zs.map (·.1)=(za1 z k.toNat l).map T ->
   EP X pins U Q (.ref s.heap.objs.size) { s with heap:=s.heap.push { cls:=.type "list", data:=.seq (Ych zs).toArray },toks:=m }:=fun zs m e=>by
  have v1:=zl1 zs
  rw[e] at v1
  exact⟨.ref s.heap.objs.size,_,I.lnew v1 (by rw[Zlm,Zlm,Zl7];lia),rfl,q _ I.fresh⟩
 have hp:=zm6 z k.toNat l
 have k1:Zod (T l)=1:=zu7 hl
 have k2:Zod (T [z])=1:=zu7 (by intro c hc;rw[Zlz.mp hc];exact hz)
 cases h1:(decide ((T l).length<(T [z]).length)||decide (Zod (T l)<Zod (T [z])))
 .cases hf:(occurrences (T l) (T [z]) 0 (T l).length (Ycj (T l) k)).isEmpty
  .refine Zrn Zoa (Zo0 _ _ _) Zqg (Zuv _ _ _) (meets_str_split_sep_max (T l) (T [z]) k t u u' hk h1 (by rw[zb5];rfl) hf (by rw[zb5];exact hlen) (by rw[hlim,hp,Zlm,Zl7];lia)) ?_
   rw[strsFrom_eq]
   exact fin (numbered s.toks _) _ ((Ycz _ _).trans (by rw[hlim];exact hp))
  .refine Zrn Zoa (Zo0 _ _ _) Zqg (Zuv _ _ _) (meets_str_split_max_not_found (T l) (T [z]) k t u u' hk h1 (by rw[zb5];rfl) hf) (fin [(T l,t)] s.toks ?_)
   rw[<- hp,<- hlim]
   have:occurrences (T l) (T [z]) 0 (T l).length (Ycj (T l) k)=[]:=Zy6.mp hf
   rw[this]
   have:=zl7 [] l []
   simp only[Zry,Zm1,Zm6,Zsc] at this
   show[T l]=[strSub (T l) 0 (T l).length]
   rw[zb5,this]
 .refine Zrn Zoa (Zo0 _ _ _) Zqg (Zuv _ _ _) (meets_str_split_max_cannot_occur (T l) (T [z]) k t u u' hk h1) (fin [(T l,t)] s.toks ?_)
  rw[k1,k2,zb5,zb5] at h1
  simp at h1
  subst h1
  cases k.toNat <;> rfl
theorem zmn{z c:Nat}:∀{n:Nat} {l p:List Nat},p∈za1 z n l->c∈p->c∈l
 | 0,l,p,h,hc=>by rw[za1,Zlz] at h;subst h;exact hc
 | n+1,l,p,h,hc=>by
  rcases zgk (z:=z) l with ⟨h1,h2⟩ | ⟨b,h1,h2,h3⟩
  .rw[za1,h1] at h
   have h:p∈[l]:=h
   rw[Zlz] at h;subst h;exact hc
  .rw[za1,h1] at h
   have h:p∈l.takeWhile (· != z)::za1 z n b:=h
   rw[h2]
   rcases Zly.mp h with h | h
   .subst h;exact Zoy _ hc
   .exact Zmw _ (Zlp _ (zmn h hc))
theorem zt6{z:Nat}{a b c:List Nat}(ha:z∉a)(hb:z∉b):za1 z 2 (a++z::(b++z::c))=[a,b,c]:=by
 have tw:∀(x y:List Nat),z∉x->(x++z::y).dropWhile (· != z)=z::y/\(x++z::y).takeWhile (· != z)=x:=by
  intro x y hx
  induction x with
  | nil=>simp
  | cons w x ih =>
   have hw:w≠z:=fun e=>hx (by simp[e])
   have:=ih fun h=>hx (Zlp _ h)
   rw[Zrl,Zon,Zrx]
   simp[hw,this]
 have s1:za1 z 2 (a++z::(b++z::c))=a::za1 z 1 (b++z::c):=by
  rw[za1,(tw a _ ha).1,(tw a _ ha).2]
 have s2:za1 z 1 (b++z::c)=b::za1 z 0 c:=by
  conv=>lhs;rw[za1,(tw b _ hb).1,(tw b _ hb).2]
 rw[s1,s2];rfl
section
variable{K:Zlh}{G H0 L:Hp}{ss:List Sl}{ta tb tc t1 t2 te:TE}{ds:List D}
theorem yg0{H:Hp}:∀{ls:List (List Nat)},(∀l∈ls,∀c∈l,c<128)->Reps K H (ls.map D.str) ((ls.map T).map V.str)
 | [],_=>Reps.nil
 | l::ls,h=>Reps.cons (Rep.str (h l Zls)) (yg0 fun m hm=>h m (Zlp _ hm))
theorem zw9{l:List Nat}{z:Nat}{k:Int}(a:EvB K G H0 L ss ta (.str l))(b:EvB K G H0 L ss t1 (.str [z]))(c:EvB K G H0 L ss t2 (.int k))(hk:0<=k/\k<1000)(hl:l.length<=sizeLine):EvO K G H0 L ss (tBM K "str" zz6 ta (za8 t1 (za8 t2 tNil))) ((za1 z k.toNat l).map D.str):=fun F H U Q S q =>
 a F H U _ S fun v F1 H1 e1 r1=>by
  rw[r1.of_str]
  refine⟨rfl,b F1 H1 U _ (S.ext2 e1) fun v2 F2 H2 e2 r2=>c F2 H2 U _ ((S.ext2 e1).ext2 e2) fun v3 F3 H3 e3 r3=>?_⟩
  have ha:=r1.asc
  have hz:=r2.asc
  rw[r2.of_str,r3.of_int]
  refine⟨l,z,k,rfl,rfl,hk.1,hk.2,hz z (by simp),ha,hl,fun p hp=>?_⟩
  have e:=(e1.trans e2).trans e3
  exact q p _ F3 _ (e.newO hp) (e.hh.free hp) (e.fh.free hp) zal (yg0 fun m hm c hc=>ha c (zmn hm hc))
theorem zw0(a:EvL K G H0 L ss te ds)(hz:ds.length<=sizeLine):Ev K G H0 L ss (tCB (fun xs H Q=>∃p ys,xs=[.ref p]/\((SqL K H p ys /\ ∀l,H l=none->Q (.ref l) (upd H l (.tup ys)))\/(SqT K H p ys/\Q (.ref p) H))) (za8 te tNil)) (.tup ds):=fun F H U Q S q =>
 a F H U _ S fun p vs F' H' e sq r=>⟨p,vs,rfl,.inl ⟨sq,fun l hl=>by
  exact q _ _ _ (e.newF hl) (Rep.tupN (zal) (r.mono (Same.upd (e.fh.free hl))))⟩⟩
end
end L2
namespace L2
open PySem PySem.W PySem.Spec PyProof.Rows
noncomputable def SpG{α:Type}(K:Zlh)(pre:α->List D->Prop)(res:α->D):Sp:=fun vs H Q _=>∃(G:Hp) (ds:List D) (x:α),Same G H/\Reps K G ds vs/\pre x ds /\ ∀v G' H',Ext G H G' H'->Rep K G' (res x) v->Q v H'
section
variable{α:Type}{K:Zlh}{H:Hp}{vs:List V}{Q:VK}{X:XK}{N:List Str}{t:TS}{pre:α->List D->Prop}{res:α->D}
theorem yl7(h:SpG K pre res vs H Q X)(hN:vs.length<=N.length)(body:∀G ds x,pre x ds->RtD K G H Q (res x)->Go K G H G { nx:=fun _ H'=>Q .non H',rt:=Q } (slots N.length ds) t):t { nx:=fun _ H'=>Q .non H',rt:=Q } (start N vs) H:=by
 obtain⟨G,ds,x,sm,r,hp,q⟩:=h
 exact body G ds x hp (fun v F H' e r=>q v F H' e r) G H _ (ze5 sm r hN)
theorem zy1{n:Nat}(hpre:∀x ds,pre x ds->ds.length=n)(h:SpG K pre res vs H Q X):vs.length=n:=by
 obtain⟨G,ds,x,sm,r,hp,q⟩:=h
 rw[<- r.length];exact hpre x ds hp
end
section
variable{X:Cx}
noncomputable def rLeS:R2:=fun x y H Q=>∃i j,x= .str i/\y= .str j/\Q (.bl (!decide (j.cps.toList<i.cps.toList))) H
theorem zrb:OpR X (Zop .LtE) rLeS:=by
 intro pins s U H x y v u Q I rx ry h
 obtain⟨i,j,rfl,rfl,q⟩:=h
 obtain⟨t,rfl⟩:=rx
 obtain⟨t',rfl⟩:=ry
 exact compareOp_gives (op:=.LtE) (Zo0 s i t) (Zo0 s j t') F.slot_str_le F.entry_str_le (F.args_str_le_2 _ _) (gives_str_le i j t t') (fun e=>nomatch e) (zbp I q rfl)
end
section
variable{α:Type}{K:Zlh}{G H0 L:Hp}{ss:List Sl}{ta tb tc te:TE}{t:TA}{ds:List D}{E:XK}{pre:α->List D->Prop}{res:α->D}
theorem zdr(x:α)(a:EvAF K G H0 L ss t ds)(hp:pre x ds):Ev K G H0 L ss (zk4 (SpG K pre res) [] E t) (res x):=fun F H U Q S q =>
 a F H U _ S fun vs F1 H1 e1 r1=>⟨F1,ds,x,e1.fh,by rw[Zm1];exact r1,hp,fun v G' H' e2 r=>q _ _ _ (e1.trans e2) r⟩
theorem ztf{i j k:Int}(a:EvB K G H0 L ss ta (.int i))(b:EvB K G H0 L ss tb (.int j))(c:EvB K G H0 L ss tc (.int k)):Ev K G H0 L ss (zvk (rI0 fun i j=>.bl (decide (i<=j))) (rI0 fun i j=>.bl (decide (i<=j))) ta tb tc) (.bl (decide (i<=j)&&decide (j<=k))):=fun F H U Q S q =>
 a F H U _ S fun v F1 H1 e1 r1=>b F1 H1 U _ (S.ext2 e1) fun v2 F2 H2 e2 r2=>by
  rw[r1.of_int,r2.of_int]
  refine⟨i,j,rfl,rfl,_,rfl,?_⟩
  by_cases h:i<=j
  .rw[if_pos (decide_eq_true h)]
   refine c F2 H2 U _ ((S.ext2 e1).ext2 e2) fun v3 F3 H3 e3 r3=>?_
   rw[r3.of_int]
   refine⟨j,k,rfl,rfl,q _ F3 H3 ((e1.trans e2).trans e3) ?_⟩
   rw[decide_eq_true h,Zrs];exact Rep.bl
  .rw[if_neg (by rw[decide_eq_false h];decide)]
   refine q _ F2 H2 (e1.trans e2) ?_
   rw[decide_eq_false h,Ztp];exact Rep.bl
theorem ycs{i j k:List Nat}(a:EvB K G H0 L ss ta (.str i))(b:EvB K G H0 L ss tb (.str j))(c:EvB K G H0 L ss tc (.str k)):Ev K G H0 L ss (zvk rLeS rLeS ta tb tc) (.bl (!decide (j<i) && !decide (k<j))):=fun F H U Q S q =>
 a F H U _ S fun v F1 H1 e1 r1=>b F1 H1 U _ (S.ext2 e1) fun v2 F2 H2 e2 r2=>by
  rw[r1.of_str,r2.of_str]
  refine⟨T i,T j,rfl,rfl,_,rfl,?_⟩
  rw[zet,zet]
  by_cases h:j<i
  .rw[if_neg (by rw[decide_eq_true h];decide)]
   refine q _ F2 H2 (e1.trans e2) ?_
   rw[decide_eq_true h];exact Rep.bl
  .rw[if_pos (by rw[decide_eq_false h];rfl)]
   refine c F2 H2 U _ ((S.ext2 e1).ext2 e2) fun v3 F3 H3 e3 r3=>?_
   rw[r3.of_str]
   refine⟨T j,T k,rfl,rfl,q _ F3 H3 ((e1.trans e2).trans e3) ?_⟩
   rw[decide_eq_false h,zet,zet];exact Rep.bl
theorem ylf{c:Nat}(a:EvB K G H0 L ss te (.str [c])):Ev K G H0 L ss (tCB (fun xs H Q=>∃x:Str,xs=[.str x]/\x.length=1/\Q (.int (x.cps.getD 0 0:Nat)) H) (za8 te tNil)) (.int c):=fun F H U Q S q =>
 a F H U _ S fun v F1 H1 e1 r1=>⟨T [c],by rw[r1.of_str],zb5 _,q _ _ _ e1 Rep.int⟩
theorem yg3{b:Bool}(a:EvB K G H0 L ss te (.bl b)):Ev K G H0 L ss (tCB (fun xs H Q=>(∃i,xs=[.int i]/\Q (.int i) H) \/ ∃k:Bool,xs=[.bl k]/\Q (.int (if k then 1 else 0)) H) (za8 te tNil)) (.int (if b then 1 else 0)):=fun F H U Q S q =>
 a F H U _ S fun v F1 H1 e1 r1=>.inr ⟨b,by rw[r1.of_bl],q _ _ _ e1 Rep.int⟩
theorem ygn{c:Nat}{l:List Nat}(a:EvB K G H0 L ss ta (.str [c]))(b:EvB K G H0 L ss tb (.str l)):Ev K G H0 L ss (tOp (fun x y H Q=>∃i j,x= .str i/\y= .str j/\Q (.bl (!(Zux j i 0 j.length 1).isEmpty)) H) ta tb) (.bl (decide (c∈l))):=fun F H U Q S q =>
 a F H U _ S fun v F1 H1 e1 r1=>b F1 H1 U _ (S.ext2 e1) fun v2 F2 H2 e2 r2=>by
  rw[r1.of_str,r2.of_str]
  refine⟨T [c],T l,rfl,rfl,?_⟩
  have:=StrLaws.found_one (T l) c
  rw[zet] at this
  rw[show T [c]=⟨#[c]⟩ from rfl,this]
  exact q _ F2 H2 (e1.trans e2) Rep.bl
end
section
variable{K:Zlh}{G H0 L:Hp}{ss:List Sl}
theorem zmx(l:List Nat)(f:Nat->D){tl:TE}{g:TG}{te:TE}{nt:Nat}{cs:List Nat}(a:EvB K G H0 L ss tl (.str l))(hk:GK nt g)(hc:cs.Nodup)(hz:l.length<sizeLine)
  (hs:∀c∈l,∃ss',Tg K G H0 L g (.str [c]) (lcSl nt cs ss) ss'/\Ev K G H0 L ss' te (f c)) :
  EvO K G H0 L ss (tLC nt cs (iStr tl) g zxk te) (l.map f):=by
 have:=zox (p:=fun _=>true) (f:=fun i=>f (l.getD i 0)) (tt:=zxk) (te:=te) (yi6 a) hk hc hz (fun i hi=>by
  have hm:l.getD i 0∈l:=by rw[Zlk,Zlj hi];exact Znl hi
  obtain⟨ss',h1,h2⟩:=hs _ hm
  exact⟨ss',h1,zwr,fun _=>h2⟩)
 have e:=zve l 0 (fun _=>true) f
 rw[show l.filter (fun _=>true)=l from Zxr.mpr (by simp)] at e
 rw[<- e];exact this
end
theorem zuo(g:Nat->Bool):∀(l:List Nat) (x:Nat),(l.dropWhile g).head? = some x->g x=false
 | [],x,h=>by simp at h
 | y::l,x,h=>by
  rw[Zon] at h
  cases hy:g y with
  | true=>rw[hy,if_pos rfl] at h;exact zuo g l x h
  | false =>
   rw[hy,if_neg (by decide)] at h
   simp at h;subst h;exact hy
theorem zzp(g:Nat->Bool):∀l:List Nat,(∀x,l.head? = some x->g x=false)->l.dropWhile g=l
 | [],_=>rfl
 | y::l,h=>by rw[Zon,h y rfl,if_neg (by decide)]
theorem zx5(g:Nat->Bool)(l:List Nat):stripL g (stripL g l)=stripL g l:=by
 have hA:=zuo g l
 unfold stripL
 generalize l.dropWhile g=A at hA
 have hB:((A.reverse.dropWhile g).reverse).dropWhile g=(A.reverse.dropWhile g).reverse:=by
  refine zzp g _ fun x hx=>hA x ?_
  have hp:(A.reverse.dropWhile g).reverse <+: A:=by
   rw[<- List.reverse_suffix,Zro];exact List.dropWhile_suffix g
  obtain⟨t,ht⟩:=hp
  rw[<- ht]
  cases hq:(A.reverse.dropWhile g).reverse with
  | nil=>rw[hq] at hx;simp at hx
  | cons y r=>rw[hq] at hx;simpa using hx
 rw[hB,Zro]
 rw[zzp g (A.reverse.dropWhile g) (zuo g _)]
theorem yac{g:Nat->Bool}{l:List Nat}{c:Nat}(h:c∈stripL g l):c∈l:=by
 unfold stripL at h
 exact(Zo5 _).subset (Zsv.mp ((Zo5 _).subset (Zsv.mp h)))
theorem zun{a b:D}(ha:a.isK=true)(hb:b.isK=true)(h:a.key=b.key):a=b:=by
 cases a <;> cases b <;> simp[D.isK,D.key] at * <;> first | exact h | exact ybu.mp h
theorem zp5{K:Zlh}{H:Hp}{d:D}{v:V}(hk:d.isK=true)(r:Rep K H d v):v=kV d.key:=by
 cases d <;> simp[D.isK] at hk
 .exact r.of_int
 .exact r.of_str
noncomputable abbrev DD:=List (D×D)
noncomputable def valD(kvs:DD)(k:D):Option D:=(kvs.find? fun kv=>decide (kv.1=k)).map (·.2)
noncomputable def putD(kvs:DD)(k d:D):DD:=if (kvs.any fun kv=>decide (kv.1=k))=true then kvs.map (fun kv=>if kv.1=k then (kv.1,d) else kv) else kvs++[(k,d)]
inductive Dks(K:Zlh)(F:Hp):DD->List (Key×V)->Prop
 | nil:Dks K F [] []
 | cons {k d:D} {v:V} {kvs:DD} {xs:List (Key×V)} (hk:k.isK=true) (hr:Rep K F k (kV k.key)) (r:Rep K F d v) (t:Dks K F kvs xs):Dks K F ((k,d)::kvs) ((k.key,v)::xs)
section
variable{K:Zlh}{F F':Hp}{kvs:DD}{xs:List (Key×V)}
theorem Dks.mono(h:Dks K F kvs xs)(s:Same F F'):Dks K F' kvs xs:=by
 induction h with
 | nil=>exact .nil
 | cons hk hr r t ih=>exact .cons hk (hr.mono s) (r.mono s) ih
theorem yem{k:D}(hk:k.isK=true):k.flat=true:=by cases k <;> simp[D.isK] at hk <;> rfl
theorem yhi{K:Zlh}{H F:Hp}{k:D}{v:V}(hk:k.isK=true)(r:Rep K H k v):Rep K F k (kV k.key):=by
 rw[<- zp5 hk r];exact r.flat (yem hk)
theorem Dks.val(h:Dks K F kvs xs){k:D}(hk:k.isK=true):(valD kvs k=none/\valV xs k.key=none) \/ ∃d v,valD kvs k=some d/\valV xs k.key=some v/\Rep K F d v:=by
 induction h with
 | nil=>exact .inl ⟨rfl,rfl⟩
 | @cons k' d v kvs xs hk' hr' r t ih =>
  by_cases e:k'=k
  .subst e
   exact .inr ⟨d,v,by simp[valD],by simp[valV],r⟩
  .have e2:k'.key≠k.key:=fun z=>e (zun hk' hk z)
   have h1:valD ((k',d)::kvs) k=valD kvs k:=by simp[valD,Zn5,e]
   have h2:valV ((k'.key,v)::xs) k.key=valV xs k.key:=by simp[valV,Zn5,e2]
   rw[h1,h2];exact ih
end
theorem ydi(kvs:DD)(k d:D):(putD kvs k d).length<=kvs.length+1:=by
 unfold putD;split <;> simp
noncomputable def dW(K:Zlh)(p:Addr)(kvs:DD):Hp->Hp->Prop:=fun F H=>∃xs,H p=some (.dK xs)/\Dks K F kvs xs
noncomputable def dsl(K:Zlh)(p:Addr)(kvs:DD):Sl:=.g (.ref p) [p] (dW K p kvs)
theorem yi8(K:Zlh)(p:Addr)(kvs:DD):Stab [p] (dW K p kvs):=fun F1 H1 F2 H2 sf hh ⟨xs,h1,h2⟩=>⟨xs,by rw[hh p (by simp)];exact h1,h2.mono sf⟩
section
variable{K:Zlh}{G H0 L:Hp}{ss:List Sl}{i:Nat}{p:Addr}{kvs:DD}{E:Ends}{ty td tv tx:TE}{k d z:D}
theorem Sat.getM{F H:Hp}{U:St}(S:Sat K G H0 L F H U ss)(hs:ss[i]? = some (dsl K p kvs)):U[i]? = some (some (.ref p))/\H0 p=none/\F p=none /\ ∃xs,H p=some (.dK xs)/\Dks K F kvs xs:=by
 obtain⟨v,e,ew,ha,hw,st⟩:=S.get hs (by intro z;cases z)
 cases ew
 obtain⟨h0,fp,_⟩:=ha p (by simp)
 exact⟨e,h0,fp,hw⟩
end
end L2
namespace L2
open PySem PySem.Spec PyProof.Rows
section
variable{X:Cx}
noncomputable def ybg:V->List V->Hp->VK->Prop:=fun x vs H Q=>∃a kvs k z,x= .ref a/\vs=[kV k,z]/\H a=some (.dK kvs)/\kvs.length<sizeLine/\(∀v,valV kvs k=some v->Q v H)/\(valV kvs k=none->Q z (upd H a (.dK (putK kvs k z))))
theorem zps:MtR X "dict.setdefault" ybg:=by
 intro pins s U H x xs v us Q I rx rs h
 obtain⟨a,kvs,k,z,rfl,rfl,e,hl,q1,q2⟩:=h
 obtain rfl:v=Znh a:=rx
 obtain⟨u1,u2,rfl,ry,rz⟩:=zth rs
 obtain⟨hz,hd,vs,rel,dd⟩:=yj6 I.hok e
 have hzz:vs.length<=sizeLine:=by rw[<- rel.length];exact hz
 refine Zyw PySem.F.slot_dict_setdefault dd.typeIs PySem.F.entry_dict_setdefault (PySem.F.args_dict_setdefault_3 _ _ _) (kt_meets_setdefault (zav X.prog X.w) a (zyi ry) hd u2) ⟨vs,dd,hzz,fun v' hv=>?_,fun hn h' dd' hs=>?_⟩
 .have r:=rel.val k
  rw[hv] at r
  cases hk:valV kvs k with
  | none=>rw[hk] at r;exact r.elim
  | some w'=>rw[hk] at r;exact⟨w',H,I.tok _,r,q1 w' hk⟩
 .have hk:valV kvs k=none:=by
   have r:=rel.val k
   rw[hn] at r
   cases hk:valV kvs k with
   | none=>rfl
   | some w'=>rw[hk] at r;exact r.elim
  have hl2:(putK kvs k z).length<=sizeLine:=by have:=ziw kvs k z;lia
  have he:∃q,h'.get? a=some q:=let ⟨q,_,_,hq,_⟩:=dd';⟨q,hq⟩
  exact⟨z,_,ztu I (by rw[e];exact Zsi) hs he (ygk hl2 hd (rel.put k rz) dd'),rz,q2 hk⟩
end
end L2
namespace L2
open PySem PySem.W PySem.Spec PyProof.Rows
theorem SlOk.live2{K:Zlh}{H0 F H:Hp}{ov:Option V}{s:Sl}(h:SlOk K H0 F H ov s){p:Addr}(hp:p∈s.ads):∃o,H p=some o/\NT o:=by
 cases s with
 | un=>simp[Sl.ads] at hp
 | d x=>simp[Sl.ads] at hp
 | o q xs =>
  obtain⟨_,_,_,vs,hq,_⟩:=h
  simp[Sl.ads] at hp;subst hp;exact⟨_,hq,trivial⟩
 | oo q qs =>
  obtain⟨ev,h0,fp,hq,hqs⟩:=h
  rcases Zly.mp hp with rfl | hp
  .exact⟨_,hq,trivial⟩
  .obtain⟨r,hr,rfl⟩:=Zl2.mp hp
   obtain⟨_,_,vs,hv,_⟩:=hqs r hr
   exact⟨_,hv,trivial⟩
 | g v as W =>
  obtain⟨ev,ha,hw,st⟩:=h
  obtain⟨_,_,x,ho⟩:=ha p hp
  exact⟨x,ho⟩
noncomputable abbrev KQ:=List (D×Addr×List D)
noncomputable def dat(q:D×Addr×List D):D×List D:=(q.1,q.2.2)
noncomputable def raw(q:D×Addr×List D):Key×V:=(q.1.key,.ref q.2.1)
noncomputable def appD:List (D×List D)->D->D->List (D×List D)
 | [],k,d=>[(k,[d])]
 | kv::r,k,d=>if kv.1=k then (kv.1,kv.2++[d])::r else kv::appD r k d
theorem zyv{kqs:KQ}{k:D}(hk:k.isK=true)(hks:∀q∈kqs,q.1.isK=true):(valV (kqs.map raw) k.key=none /\ ∀d,appD (kqs.map dat) k d=kqs.map dat++[(k,[d])]) \/
  ∃j a ds,kqs[j]? = some (k,a,ds)/\valV (kqs.map raw) k.key=some (.ref a) /\ ∀d,(kqs.set j (k,a,ds++[d])).map dat=appD (kqs.map dat) k d:=by
 induction kqs with
 | nil=>exact .inl ⟨rfl,fun _=>rfl⟩
 | cons q r ih =>
  obtain⟨k',a',ds'⟩:=q
  by_cases e:k'=k
  .subst e
   refine .inr ⟨0,a',ds',rfl,by simp[valV,raw],fun d=>?_⟩
   show(k',ds'++[d])::r.map dat=appD ((k',ds')::r.map dat) k' d
   rw[appD,if_pos rfl]
  .have e2:k'.key≠k.key:=fun z=>e (zun (hks _ Zls) hk z)
   have hv:valV (((k',a',ds')::r).map raw) k.key=valV (r.map raw) k.key:=by simp[valV,raw,Zn5,e2]
   have ha:∀d,appD (((k',a',ds')::r).map dat) k d=(k',ds')::appD (r.map dat) k d:=fun d=>by
    show appD ((k',ds')::r.map dat) k d=_
    rw[appD,if_neg e]
   rw[hv]
   rcases ih fun q hq=>hks q (Zlp _ hq) with ⟨h1,h2⟩ | ⟨j,a,ds,h1,h2,h3⟩
   .exact .inl ⟨h1,fun d=>by rw[ha,h2];rfl⟩
   .refine .inr ⟨j+1,a,ds,h1,h2,fun d=>?_⟩
    rw[ha,<- h3];rfl
noncomputable def lW(K:Zlh)(p:Addr)(kqs:KQ):Hp->Hp->Prop:=fun F H=>H p=some (.dK (kqs.map raw)) /\ ∀q∈kqs,q.1.isK=true/\Rep K F q.1 (kV q.1.key) /\ ∃vs,H q.2.1=some (.lst vs)/\Reps K F q.2.2 vs
noncomputable def dls(K:Zlh)(p:Addr)(kqs:KQ):Sl:=.g (.ref p) (p::kqs.map (·.2.1)) (lW K p kqs)
theorem zto(K:Zlh)(p:Addr)(kqs:KQ):Stab (p::kqs.map (·.2.1)) (lW K p kqs):=fun F1 H1 F2 H2 sf hh ⟨h1,h2⟩ =>
 ⟨by rw[hh p (by simp)];exact h1,fun q hq=>by
  obtain⟨a,kr,vs,b,c⟩:=h2 q hq
  exact⟨a,kr.mono sf,vs,by rw[hh q.2.1 (Zlp _ (Znb hq))];exact b,c.mono sf⟩⟩
section
variable{K:Zlh}{G H0 L:Hp}{ss:List Sl}{i:Nat}{p:Addr}{kqs:KQ}{E:Ends}{tk tv:TE}{k d:D}
theorem Sat.getL{F H:Hp}{U:St}(S:Sat K G H0 L F H U ss)(hs:ss[i]? = some (dls K p kqs)):U[i]? = some (some (.ref p))/\(∀a∈p::kqs.map (·.2.1),H0 a=none/\F a=none)/\lW K p kqs F H:=by
 obtain⟨v,e,ew,ha,hw,st⟩:=S.get hs (by intro z;cases z)
 cases ew
 exact⟨e,fun a h=>⟨(ha a h).1,(ha a h).2.1⟩,hw⟩
theorem yfd(h:∀p,Nx K G H0 L E.nx (ss.set i (dls K p []))):Go K G H0 L E ss (tAsg ygj (zin i)):=fun F H U S p hp=>by
 have e:=(Ext.refl S.ext.fh).newO (o:=.dK []) hp
 have S':=S.ext2 e
 refine h p F _ _ (S'.put S'.ext S'.fl (by simp) (fun j hj=>zfo (Zne hj)) (fun hi=>?_) (by simp[dls,Sl.ads]) (fun j s' hj hs q hq=>?_) fun j s' hj hs=>S'.ok j s' hs)
 .rw[zc5 (by rw[S.len];exact hi)]
  exact⟨rfl,fun a ha=>by rw[Zlz.mp ha];exact⟨S.ext.hh.free hp,S.ext.fh.free hp,_,zal,trivial⟩,⟨zal,fun _ h=>by cases h⟩,zto K p []⟩
 .have:q=p:=by simpa[dls,Sl.ads] using hq
  subst this
  exact fun hin=>(S.ok j s' hs).live hin hp
theorem yfi{α:Type}{xs:List α}{i:Nat}{x:α}(h:xs[i]? = some x):xs.set i x=xs:=by
 refine Zom fun n=>?_
 by_cases hn:i=n
 .subst hn;rw[Zn2 (Zlq.mp h).1,h]
 .rw[Zoz hn]
theorem Sat.appL{F H:Hp}{U:St}(S:Sat K G H0 L F H U ss){j:Nat}{a:Addr}{ds es:List D}{vs:List V}(hs:ss[i]? = some (dls K p kqs))(hj:kqs[j]? = some (k,a,ds))(r:Reps K F es vs) :
  Sat K G H0 L F (upd H a (.lst vs)) U (ss.set i (dls K p (kqs.set j (k,a,es)))):=by
 obtain⟨e,hoff,hp,hq⟩:=S.getL hs
 have hget:U.getD i none=some (.ref p):=by rw[Zlk,e];rfl
 have hnd:(p::kqs.map (·.2.1)).Nodup:=S.nd i _ hs
 have hm:=Zlv hj
 have ham:a∈p::kqs.map (·.2.1):=Zlp _ (Zl2.mpr ⟨_,hm,rfl⟩)
 obtain⟨a0,af⟩:=hoff a ham
 have hpa:p≠a:=fun z=>(Zn3.mp hnd).1 (z ▸ Zl2.mpr ⟨_,hm,rfl⟩)
 have mset:∀{β:Type} (f:D×Addr×List D->β),f (k,a,es)=f (k,a,ds)->(kqs.set j (k,a,es)).map f=kqs.map f:=fun {β} f hf=>by
  rw[List.map_set]
  refine Zom fun n=>?_
  by_cases hn:j=n
  .subst hn
   rw[Zn2 (by rw[Zlm];exact(Zlq.mp hj).1),Zlx,hj,hf];rfl
  .rw[Zoz hn]
 have hads:(dls K p (kqs.set j (k,a,es))).ads=p::kqs.map (·.2.1):=by show p::(kqs.set j (k,a,es)).map (·.2.1)=_;rw[mset (·.2.1) rfl]
 have hdup:∀n z,kqs[n]? = some z->n≠j->z.2.1≠a:=fun n z hn hnj hz=>by
  have h2:(kqs.map (·.2.1)).Nodup:=(Zn3.mp hnd).2
  unfold Zm9 at h2
  rw[Zoo] at h2
  have hnl:=(Zlq.mp hn)
  have hjl:=(Zlq.mp hj)
  have e1:(kqs.map (·.2.1))[n]'(by simpa using hnl.1)=a:=by rw[Zy7,hnl.2];exact hz
  have e2:(kqs.map (·.2.1))[j]'(by simpa using hjl.1)=a:=by rw[Zy7,hjl.2]
  rcases Zph n j with c | c
  .exact h2 n j (by simpa using hnl.1) (by simpa using hjl.1) c (e1.trans e2.symm)
  .exact h2 j n (by simpa using hjl.1) (by simpa using hnl.1) (by lia) (e2.trans e1.symm)
 refine S.put (S.ext.write af a0) S.fl rfl (fun _ _=>rfl) (fun _=>?_) (by rw[hads];exact hnd) (fun n s' hn h z hz=>?_) fun n s' hn h=>(S.ok n s' h).updNe (S.ne i n _ s' (Zne hn) hs h a ham)
 .rw[hget]
  refine⟨rfl,fun b hb=>?_,⟨by rw[zat hpa,mset raw rfl];exact hp,fun z hz=>?_⟩,zto _ _ _⟩
  .have hb:b∈p::(kqs.set j (k,a,es)).map (·.2.1):=hb
   rw[mset (·.2.1) rfl] at hb
   obtain⟨b0,bf⟩:=hoff b hb
   refine⟨b0,bf,?_⟩
   by_cases hba:b=a
   .subst hba;exact⟨_,zal,trivial⟩
   .rw[zat hba]
    exact(S.ok i _ hs).live2 (p:=b) hb
  .obtain⟨n,hn⟩:=Zmr.mp hz
   by_cases hnj:j=n
   .subst hnj
    rw[Zn2 (Zlq.mp hj).1] at hn
    cases hn
    exact⟨(hq _ hm).1,(hq _ hm).2.1,vs,zal,r⟩
   .rw[Zoz hnj] at hn
    obtain⟨z1,kr,ws,z2,z3⟩:=hq z (Zlv hn)
    exact⟨z1,kr,ws,by rw[zat (hdup n z hn (Zne hnj))];exact z2,z3⟩
 .have hz:z∈(dls K p (kqs.set j (k,a,es))).ads:=hz
  rw[hads] at hz
  exact S.ne i n _ s' (Zne hn) hs h z hz
theorem Sat.keyL{F H:Hp}{U:St}(S:Sat K G H0 L F H U ss){l:Addr}(hs:ss[i]? = some (dls K p kqs))(hk:k.isK=true)(kr:Rep K F k (kV k.key))(hl:H l=none) :
  Sat K G H0 L F (upd (upd H l (.lst [])) p (.dK ((kqs++[(k,l,[])]).map raw))) U (ss.set i (dls K p (kqs++[(k,l,[])]))):=by
 have S2:=S.ext2 ((Ext.refl S.ext.fh).newO (o:=.lst []) hl)
 obtain⟨e,hoff,hp,hq⟩:=S2.getL hs
 have hget:U.getD i none=some (.ref p):=by rw[Zlk,e];rfl
 have hnd:(p::kqs.map (·.2.1)).Nodup:=S.nd i _ hs
 obtain⟨p0,pf⟩:=hoff p Zls
 have hnl:∀b∈p::kqs.map (·.2.1),b≠l:=fun b hb z=>(S.ok i _ hs).live (p:=b) hb (z ▸ hl)
 have hpl:p≠l:=hnl p Zls
 have hads:(dls K p (kqs++[(k,l,[])])).ads=(p::kqs.map (·.2.1))++[l]:=by show p::Yal (fun q:D×Addr×List D=>q.2.1) (kqs++[(k,l,[])])=_;rw[Znc];rfl
 refine S2.put (S2.ext.write pf p0) S2.fl rfl (fun _ _=>rfl) (fun _=>?_) ?_ (fun n s' hn h z hz=>?_) fun n s' hn h=>(S2.ok n s' h).updNe (S2.ne i n _ s' (Zne hn) hs h p Zls)
 .rw[hget]
  refine⟨rfl,fun b hb=>?_,⟨zal,fun z hz=>?_⟩,zto _ _ _⟩
  .have hb:b∈(dls K p (kqs++[(k,l,[])])).ads:=hb
   rw[hads] at hb
   rcases Zme.mp hb with hb | hb
   .obtain⟨b0,bf⟩:=hoff b hb
    refine⟨b0,bf,?_⟩
    by_cases hbp:b=p
    .subst hbp;exact⟨_,zal,trivial⟩
    .rw[zat hbp]
     exact(S2.ok i _ hs).live2 (p:=b) hb
   .rw[Zlz.mp hb]
    exact⟨S.ext.hh.free hl,S.ext.fh.free hl,HO.lst [],by rw[zat (Zne hpl)];exact zal,trivial⟩
  .rcases Zme.mp hz with hz | hz
   .obtain⟨z1,zr,ws,z2,z3⟩:=hq z hz
    have hzp:z.2.1≠p:=fun e=>(Zn3.mp hnd).1 (e ▸ Znb hz)
    exact⟨z1,zr,ws,by rw[zat hzp];exact z2,z3⟩
   .rw[Zlz.mp hz]
    exact⟨hk,kr,[],by rw[zat (Zne hpl)];exact zal,Reps.nil⟩
 .rw[hads]
  exact List.nodup_append.mpr ⟨hnd,by simp,fun x hx y hy e=>by rw[Zlz.mp hy] at e;exact hnl x hx e⟩
 .have hz:z∈(dls K p (kqs++[(k,l,[])])).ads:=hz
  rw[hads] at hz
  rcases Zme.mp hz with hz | hz
  .exact S.ne i n _ s' (Zne hn) hs h z hz
  .rw[Zlz.mp hz]
   exact fun hin=>(S.ok n s' h).live hin hl
theorem yis(hs:ss[i]? = some (dls K p kqs))(b:EvB K G H0 L ss tk k)(hk:k.isK=true)(a:∀kqs',Ev K G H0 L (ss.set i (dls K p kqs')) tv d)(hz:kqs.length<sizeLine)(hz2:∀q∈kqs,q.2.2.length<sizeLine)
  (h:∀kqs',kqs'.map dat=appD (kqs.map dat) k d->Nx K G H0 L E.nx (ss.set i (dls K p kqs'))) :
  Go K G H0 L E ss (zys (tBM K "list" zuj (tBM K "dict" ybg (tVar i) (za8 tk (za8 (tLst tNil) tNil))) (za8 tv tNil))):=fun F H U S=>by
 obtain⟨e,hoff,hp,hq⟩:=S.getL hs
 have hks:∀q∈kqs,q.1.isK=true:=fun q hm=>(hq q hm).1
 have hil:i<ss.length:=(Zlq.mp hs).1
 refine⟨.ref p,e,.inr (.inr (.inl ⟨rfl,.inl ⟨_,hp⟩⟩)),b F H U _ S fun v F1 H1 e1 r1=>⟨Zmt _,fun l hl=>?_⟩⟩
 have S1:=S.ext2 e1
 have S2:=S1.ext2 ((Ext.refl S1.ext.fh).newO (o:=.lst []) hl)
 obtain⟨_,_,hp2,hq2⟩:=S2.getL hs
 refine⟨p,kqs.map raw,k.key,.ref l,rfl,by rw[zp5 hk r1],hp2,by rw[Zlm];exact hz,fun v' hv'=>?_,fun hn=>?_⟩
 .rcases zyv hk hks with ⟨h1,_⟩ | ⟨j,q,ds,h1,h2,h3⟩
  .rw[h1] at hv';cases hv'
  .rw[h2] at hv';cases hv'
   obtain⟨_,_,ws,hw,_⟩:=hq2 _ (Zlv h1)
   have es:ss.set i (dls K p kqs)=ss:=yfi hs
   have S2':Sat K G H0 L F1 (upd H1 l (.lst [])) U (ss.set i (dls K p kqs)):=by rw[es];exact S2
   refine⟨.inl ⟨rfl,_,SqL.of hw⟩,a kqs F1 _ U _ S2' fun w F3 H3 e3 r3=>?_⟩
   have S3:=S2.ext2 e3
   obtain⟨_,_,_,hq3⟩:=S3.getL hs
   obtain⟨_,_,ws3,hw3,rs3⟩:=hq3 _ (Zlv h1)
   refine⟨q,ws3,w,rfl,rfl,hw3,by rw[<- rs3.length];exact hz2 _ (Zlv h1),h _ (h3 d) F3 _ U (S3.appL hs h1 (rs3.snoc r3))⟩
 .rcases zyv hk hks with ⟨h1,h2⟩ | ⟨j,q,ds,h1,h2,h3⟩
  .have S4:=S1.keyL (k:=k) hs hk (yhi hk r1) hl
   have eput:putK (kqs.map raw) k.key (.ref l)=(kqs++[(k,l,[])]).map raw:=by rw[yet _ hn,Znc];rfl
   rw[eput]
   have hs4:(ss.set i (dls K p (kqs++[(k,l,[])])))[i]? = some (dls K p (kqs++[(k,l,[])])):=Zn2 hil
   obtain⟨_,_,_,hq4⟩:=S4.getL hs4
   have hj:(kqs++[(k,l,([]:List D))])[kqs.length]? = some (k,l,[]):=by rw[Znx (Zlt _),Zxb];rfl
   obtain⟨_,_,ws,hw,_⟩:=hq4 _ (Zlv hj)
   refine⟨.inl ⟨rfl,_,SqL.of hw⟩,a _ F1 _ U _ S4 fun w F3 H3 e3 r3=>?_⟩
   have S5:=S4.ext2 e3
   obtain⟨_,_,_,hq5⟩:=S5.getL hs4
   obtain⟨_,_,ws5,hw5,rs5⟩:=hq5 _ (Zlv hj)
   have S6:=S5.appL hs4 hj (rs5.snoc r3)
   rw[List.set_set] at S6
   refine⟨l,ws5,w,rfl,rfl,hw5,by rw[<- rs5.length];show 0<_;rw[Zl7];decide,h _ ?_ F3 _ U S6⟩
   rw[h2,List.set_append_right _ _ (Zlt _),Zxb,Znc]
   rfl
  .rw[h2] at hn;cases hn
end
end L2
namespace L2
open PySem PySem.Spec PyProof.Rows
noncomputable def Ite(K:Zlh)(a:Addr):It :=
 ⟨fun i H=>∃xs x,SqL K H a xs/\xs[i]? = some x,fun i H x H'=>∃T0 vs,x= .ref T0/\H T0=none/\H'=upd H T0 (.tup vs) /\ ∀xs,SqL K H a xs-> ∃y,xs[i]? = some y/\vs=[.int i,y],fun i H=>∃xs,SqL K H a xs/\xs.length=i⟩
theorem zwx{P:Zmi}{w:Zng}{K:Zlh}{elts:List Expr}{kk:Nat}{tp:Pos}(a it e:Addr)(hae:a≠e)(hai:a≠it)(hei:e≠it) :
  Turn P w K (.Tuple elts kk tp) (Ite K a) [e,it] e (fun i h=>(∃old,IsEnum h e it i old)/\h.IsListIter it a i) where
 mem:=by simp
 obj:=fun i h st b hb=>by
  obtain⟨⟨old,ho⟩,oi,hoi,_,hdi⟩:=st
  rcases Zly.mp hb with rfl | hb
  .exact⟨_,ho,fun v z=>by cases z⟩
  .rw[Zlz.mp hb]
   exact⟨oi,hoi,fun v z=>by rw[hdi] at z;cases z⟩
 keep:=fun i h h' st k=>⟨let ⟨old,ho⟩:=st.1;⟨old,k e (by simp) _ ho⟩,st.2.at fun o x=>k it (by simp) o x⟩
 item:=by
  intro X hP hw hK hc i pins s U H E I hf st hg
  subst hP hw hK
  obtain⟨xs,x,hq,hx⟩:=hg
  obtain⟨its,rv,p,hz⟩:=I.list hq
  obtain⟨u,hu,ru⟩:=rv.get hx
  have hil:i<its.length:=(Zlq.mp hu).1
  have W0:=Zsa (A:=X.A) (Zv8 (prog:=X.prog) (w:=X.w) (A:=X.A.in1) (show X.A.in1.handled=none from I.ok.hd hc) it a hai its.toArray) e hei (by simp[hei,Zne hae]) (by simp)
  refine W0.item i s _ _ (by simpa using hil) ⟨st.1,st.2,p.isList⟩ fun T0 vals h1 tk hp hle ht mid kk=>?_
  obtain⟨t,v,hv,rfl⟩:=hp
  have hv:its[i]? = some v:=by simpa using hv
  rw[hu] at hv;cases hv
  have fresh:H T0=none:=I.hok.fresh hle
  have I1:Inv X pins U (upd H T0 (.tup [.int i,x])) { s with heap:=h1,toks:=tk }:=I.turnsT (wr:=[e,it]) hf kk hle ht (.cons ⟨t,rfl⟩ (.cons ru .nil)) (by rw[Zl7];simp)
  refine⟨.ref T0,rfl,W0.go elts _ tp i T0 _ _ _ mid fun h2 st2 k2=>?_⟩
  have hlt:∀b∈[e,it],b≠T0:=fun b hb z=>by
   obtain⟨⟨old,ho⟩,oi,hoi,_,hdi⟩:=st
   rcases Zly.mp hb with rfl | hb
   .exact absurd (Zmf (Zl4 ho) (z ▸ hle)) (Znn _)
   .rw[Zlz.mp hb] at z
    exact absurd (Zmf (Zl4 hoi) (z ▸ hle)) (Znn _)
  have hf1:∀b∈[e,it],FpOk X pins (upd H T0 (.tup [.int i,x])) b:=fun b hb=>⟨by rw[zat (hlt b hb)];exact(hf b hb).1,(hf b hb).2⟩
  exact⟨.ref T0,_,I1.turns (t':=tk) hf1 k2,rfl,⟨T0,_,rfl,fresh,rfl,fun ys hy=>⟨x,by rw[I.list_inj hy hq];exact hx,rfl⟩⟩,⟨st2.1,st2.2.1⟩,fun b hb=>by rw[zat (hlt b hb)];exact(hf b hb).1⟩
 done:=by
  intro X hP hw hK hc i pins s U H E I hf st hg
  subst hP hw hK
  obtain⟨xs,hq,hx⟩:=hg
  obtain⟨its,rv,p,hz⟩:=I.list hq
  have hl:=rv.length
  have hs:its.toArray.size=i:=by simp;lia
  have W0:=Zsa (A:=X.A) (Zv8 (prog:=X.prog) (w:=X.w) (A:=X.A.in1) (show X.A.in1.handled=none from I.ok.hd hc) it a hai its.toArray) e hei (by simp[hei,Zne hae]) (by simp)
  rw[hs] at W0
  exact W0.done s _ _ ⟨st.1,st.2,p.isList⟩ fun h1 tk kk=>⟨rfl,I.turns (wr:=[e,it]) hf kk⟩
 self:=fun A i s Q E st h=>Zsz st.1.choose_spec h
section
variable{X:Cx}{e:Expr}{ta:TA}{elts:List Expr}{kk:Nat}{tp p pos:Pos}
noncomputable def iEnL(K:Zlh)(ta:TA):TI:=fun U H R=>ta U H fun vs H1=>∃a,vs=[.ref a]/\(∃xs,SqL K H1 a xs)/\R (Ite K a) H1
theorem zs3(hg:Gl X "enumerate")(hm:X.mg "enumerate" = none)(hA:PA X [e] ta)(hs:Zmk [e] X.env=[(false,eval e X.env)]:=by rfl) :
  PI X (.Tuple elts kk tp) (.Call (.Name "enumerate" p) [e] [] pos) (iEnL X.K ta):=by
 intro pins s U H R I h
 refine Call_ (zod I hg hm Yc2 (Zq5 (thn (hA pos pins s U H _ I h) fun us s1 hz9=>?_) hs rfl))
 obtain⟨vs,H1,I1,r1,q1⟩:=hz9
 obtain⟨a,rfl,⟨xs,hq⟩,q⟩:=q1
 obtain⟨u,rfl,ru⟩:=zhi r1
 cases ru
 obtain⟨its,rv,p,hz⟩:=I1.list hq
 refine call_enumerate_list p.isList fun h1 hen hit hsz hk=>?_
 have I2:Inv X pins U H1 { s1 with heap:=h1 }:=I1.kept (t':=s1.toks) hk
 refine Zsz hen ?_
 have hlt:a<s1.heap.objs.size:=by obtain⟨o,ho,_⟩:=p.isList;exact Zl4 ho
 refine⟨s1.heap.objs.size+1,[s1.heap.objs.size+1,s1.heap.objs.size],_,_,H1,rfl,I2,zwx a s1.heap.objs.size (s1.heap.objs.size+1) (Zmb (Zo1 hlt)) (Zmb hlt) (Zzg _),⟨⟨_,hen⟩,hit⟩,fun b hb=>?_,q⟩
 rcases Zly.mp hb with rfl | hb
 .exact I1.fpOk (Zrc _) (I1.hok.fresh (Zrc _))
 .rw[Zlz.mp hb]
  exact I1.fpOk (Zlt _) (I1.hok.fresh (Zlt _))
end
end L2
namespace L2
open PySem PySem.W PySem.Spec PyProof.Rows
section
variable{K:Zlh}{G H0 L:Hp}{ss:List Sl}{i:Nat}{p:Addr}{kqs:KQ}{kvs:DD}{E:Ends}{tk tv:TE}{k d:D}
noncomputable def frzL(q:D×Addr×List D):D×D:=(q.1,.lst q.2.2)
theorem Sat.freezeL{F H:Hp}{U:St}(S:Sat K G H0 L F H U ss)(hs:ss[i]? = some (dls K p kqs)):∃F',Sat K G H0 L F' H U (ss.set i (dsl K p (kqs.map frzL))):=by
 obtain⟨e,hoff,hp,hq⟩:=S.getL hs
 have hget:U.getD i none=some (.ref p):=by rw[Zlk,e];rfl
 have hnd:(p::kqs.map (·.2.1)).Nodup:=S.nd i _ hs
 have off:∀b,b∈kqs.map (·.2.1)->H0 b=none/\F b=none:=fun b hb=>hoff b (Zlp _ hb)
 let F':Hp:=fun b=>if b∈kqs.map (·.2.1) then H b else F b
 have fin:∀b,b∈kqs.map (·.2.1)->F' b=H b:=fun b hb=>if_pos hb
 have fout:∀b,b∉kqs.map (·.2.1)->F' b=F b:=fun b hb=>if_neg hb
 have ff:Same F F':=fun b o h=>by
  have:b∉kqs.map (·.2.1):=fun hb=>by rw[(off b hb).2] at h;cases h
  rw[fout b this];exact h
 have fh:Same F' H:=fun b o h=>by
  by_cases hb:b∈kqs.map (·.2.1)
  .rw[fin b hb] at h;exact h
  .rw[fout b hb] at h;exact S.ext.fh b o h
 have ex:Ext G H0 F' H:=⟨S.ext.gf.trans ff,fh,S.ext.hh,fun b o h n=>by
  have:b∉kqs.map (·.2.1):=fun hb=>by rw[(off b hb).1] at h;cases h
  rw[fout b this];exact S.ext.no b o h n⟩
 obtain⟨p0,pf⟩:=hoff p Zls
 refine⟨F',S.put ex (S.fl.trans ff) rfl (fun _ _=>rfl) (fun _=>?_) (by simp[dsl,Sl.ads]) (fun j s' hj h q hq=>?_) fun j s' hj h=>?_⟩
 .rw[hget]
  refine⟨rfl,fun a ha=>by rw[Zlz.mp ha];exact⟨p0,by rw[fout p (Zn3.mp hnd).1];exact pf,_,hp,trivial⟩,⟨_,hp,?_⟩,yi8 _ _ _⟩
  have key:∀zs:KQ,(∀z∈zs,z∈kqs)->Dks K F' (zs.map frzL) (zs.map raw):=by
   intro zs
   induction zs with
   | nil=>intro _;exact .nil
   | cons z zs ih =>
    intro hz
    obtain⟨z1,kr,vs,hv,r⟩:=hq z (hz z Zls)
    exact .cons z1 (kr.mono ff) (Rep.lst (SqL.of ((fin z.2.1 (Zl2.mpr ⟨z,hz z Zls,rfl⟩)).trans hv)) (r.mono ff)) (ih fun y hy=>hz y (Zlp _ hy))
  exact key kqs fun z h=>h
 .have:q=p:=by simpa[dsl,Sl.ads] using hq
  subst this
  exact S.ne i j _ s' (Zne hj) hs h q Zls
 .have dis:∀b∈s'.ads,b∉kqs.map (·.2.1):=fun b hb hb2=>S.ne i j _ s' (Zne hj) hs h b (Zlp _ hb2) hb
  have own:∀{b:Addr} {xs:List D},b∈s'.ads->OwnL K H0 F H b xs->OwnL K H0 F' H b xs:=fun hb ⟨a1,a2,vs,a3,a4⟩=>⟨a1,by rw[fout _ (dis _ hb)];exact a2,vs,a3,a4.mono ff⟩
  have ok:=S.ok j s' h
  cases s' with
  | un=>trivial
  | d x=>obtain⟨v,ev,r⟩:=ok;exact⟨v,ev,r.mono ff⟩
  | o b xs=>exact⟨ok.1,own (by simp[Sl.ads]) ok.2⟩
  | oo b zs =>
   obtain⟨a1,a2,a3,a4,a5⟩:=ok
   exact⟨a1,a2,by rw[fout b (dis b (by simp[Sl.ads]))];exact a3,a4,fun z hz=>own (by simp[Sl.ads];exact .inr ⟨_,hz⟩) (a5 z hz)⟩
  | g v as W =>
   obtain⟨a1,a2,a3,a4⟩:=ok
   refine⟨a1,fun b hb=>?_,a4 _ _ _ _ ff (fun _ _=>rfl) a3,a4⟩
   obtain⟨b1,b2,b3⟩:=a2 b hb
   exact⟨b1,by rw[fout b (dis b hb)];exact b2,b3⟩
theorem zxv{N:St->Hp->Prop}(hs:ss[i]? = some (dls K p kqs))(h:Nx K G H0 L N (ss.set i (dsl K p (kqs.map frzL)))):Nx K G H0 L N ss:=fun F H U S=>by
 obtain⟨F',S'⟩:=S.freezeL hs
 exact h F' H U S'
theorem yg7{tl:TE}{g:TG}{tb:TS}{α:Type}(enc:α->D)(xs:List α)(I:Nat->List Sl->Prop)(a:Ev K G H0 L ss tl (.lst (xs.map enc)))(h0:I 0 ss)
  (hs:∀L' k x ss,Same L L'->xs[k]? = some x->I k ss-> ∃ss',Tg K G H0 L' g (.tup [.int k,enc x]) ss ss' /\ ∀N,(∀ss,I (k+1) ss->Nx K G H0 L' N ss)->Go K G H0 L' { E with nx:=N,ct:=N,bk:=E.nx } ss' tb)
  (hd:∀ss,I xs.length ss->Nx K G H0 L E.nx ss):Go K G H0 L E ss (tFor (iEnL K (za8 tl tNil)) g tb):=fun F H U S =>
 a F H U _ S fun v F1 H1 e1 r1=>by
  obtain⟨p,vs,rfl,sq,rs⟩:=r1.of_lst
  refine⟨p,rfl,⟨vs,SqL.same e1.fh sq⟩,?_⟩
  refine⟨fun i m U' H'=>m=xs.length - i/\i<=xs.length/\At K G H0 F1 (I i) U' H',⟨_,rfl,Zmt _,ss,F1,(S.ext2 e1).raise,h0⟩,?_⟩
  rintro i m U' H' ⟨rfl,hi,ss1,F2,S2,h2⟩
  have rp:Rep K F2 (.lst (xs.map enc)) (.ref p):=r1.mono S2.fl
  obtain⟨ws,sq2,rs2⟩:=rp.itl S2.ext.fh
  have hlen:ws.length=xs.length:=by rw[<- rs2.length,Zlm]
  by_cases hlt:i<xs.length
  .refine .inr ⟨⟨ws,ws[i]'(by lia),sq2,Zlj _⟩,fun U'' H''=>At K G H0 F1 (I (i+1)) U'' H'',fun U'' H'' h=>⟨xs.length - (i+1),by lia,rfl,hlt,h⟩,fun x H'' y=>?_⟩
   obtain⟨T0,us,rfl,hf,rfl,y⟩:=y
   obtain⟨w,hx,rfl⟩:=y ws sq2
   obtain⟨dx,hdx,rx⟩:=rs2.get hx
   rw[Zlx,Zlj hlt] at hdx
   cases hdx
   obtain⟨ss',tg,go⟩:=hs F1 i _ ss1 (S.fl.trans e1.gf) (Zlj hlt) h2
   have e3:Ext F2 H' (upd F2 T0 (.tup [.int i,w])) (upd H' T0 (.tup [.int i,w])):=(Ext.refl S2.ext.fh).newF hf
   have rt:Rep K (upd F2 T0 (.tup [.int i,w])) (.tup [.int i,enc xs[i]]) (.ref T0):=Rep.tupN (zal) (Reps.cons Rep.int (Reps.cons (rx.mono e3.gf) Reps.nil))
   exact tg _ _ U' _ _ (S2.ext2 e3) rt fun U3 S3=>go _ (fun ss h=>ydc h) _ _ U3 S3
  .have e:i=xs.length:=by lia
   subst e
   exact .inl ⟨⟨ws,sq2,hlen⟩,hd ss1 h2 F2 H' U' (S2.lower (S.fl.trans e1.gf))⟩
end
end L2
namespace L2
open PySem PySem.Spec PyProof.Rows
section
variable{X:Cx}{e:Expr}{ta:TA}{elts:List Expr}{kk:Nat}{tp p pos:Pos}
theorem zog{body:List Stmt}{h₀:Ydu}{hs:List Ydu}{t:TS}(hx:X.xe=fun _ _=>False)(hb:PSs X body t):PS X (.Try body (h₀::hs) [] [] pos) t:=by
 intro pins s U H D I h
 refine wpAny_Try_except (Zn1 (hb pins s U H D I h) (fun f s1 q=>?_) fun e s1 z=>?_)
 .cases f with
  | next=>exact Zsf q
  | _=>exact q
 .rw[hx] at z;exact z.elim
end
open AutoSeq1 (wpAny_loadPart')
theorem znn(a b:Zll):checkTypeCall "enumerate" ⟨[a],[("start", b)]⟩=pure ():=by kernel_rfl
theorem zpi(a b:Zll):Ybo "enumerate.__new__" ⟨[.type "enumerate", a],[("start", b)]⟩=pure ():=by kernel_rfl
theorem zuq(l:Addr)(items:Array Zll)(n:Nat)(dct:Option Addr)(sl:Array (Option Zll))(t:Tok) :
  Meets (Zmz.«enumerate.__new__» ⟨[.type "enumerate", .ref l],[("start", .int 1 t)]⟩) (fun _ R s=>s.heap.get? l=some { cls:=.type "list", dict:=dct,data:=.seq items n,slots:=sl } /\
   R (.ok (.ret (.ref (s.heap.push { cls:=.type "list_iterator", data:=.fields #[.ref l,.int 0 0] }).objs.size)))
    { s with heap:=(s.heap.push { cls:=.type "list_iterator", data:=.fields #[.ref l,.int 0 0] }).push { cls:=.type "enumerate", data:=.fields #[.none,.bool false,.ref s.heap.objs.size,Zp0 1,.none,.none] } }) :=
 .of_wp fun prog w A R s h=>by
  obtain⟨hp,g,d,tk,os⟩:=s
  obtain⟨hl,h⟩:=h
  have hsub:=sub_enumerate;have hL:Heap.IsList (Shared.heap ⟨hp,g,d,tk,os⟩) l items:=⟨_,hl,rfl,n,rfl⟩
  wp_walk using Zq8 hl
  refine wpAny_stack_any fun st=>Zln ?_
  split
  .rename_i c _ _ _ _ _
   cases (c == Zpw "enumerate") <;> (wp_walk using Zq8 hl,Zqh hL;exact⟨_,rfl,h⟩)
  .wp_walk using Zq8 hl,Zqh hL
   exact⟨_,rfl,h⟩
noncomputable abbrev zxq(h:Heap)(l:Addr):Heap:=(h.push { cls:=.type "list_iterator", data:=.fields #[.ref l,.int 0 0] }).push { cls:=.type "enumerate", data:=.fields #[.none,.bool false,.ref h.objs.size,Zp0 1,.none,.none] }
theorem znl(a b c:Zll):Yaf "object.__init__" ⟨[a,b],[("start", c)]⟩:=by unfold Yaf;kernel_rfl
theorem zx0(obj a c:Zll):Meets (Zmz.«object.__init__» ⟨[obj,a],[("start", c)]⟩) (fun _ R s=>s.TypeIs obj "enumerate" /\ R (.ok (.ret .none)) s):=by
 refine Meets.of_wp fun prog w A R s hs=>?_
 obtain⟨hT,hq⟩:=hs
 have hl:=Zuu.init.lookup;have hm:=Zuu.made
 have hne:(some "enumerate.__new__" != some "object.__new__")=true:=by decide
 repeat (any_goals (first | assumption | wp_step))
 exact⟨_,rfl,hq⟩
section
variable{prog:Zmi}{w:Zng}{A:Zmu}{E:Zll->Zlo->Prop}{s:Zlo}
theorem ycc{l:Addr}{items:Array Zll}{t:Tok}{Q:Zll->Zlo->Prop}(hL:s.heap.IsList l items)
  (h:∀h',IsEnum h' (s.heap.objs.size+1) s.heap.objs.size 1 .none->h'.IsListIter s.heap.objs.size l 0->h'.objs.size=s.heap.objs.size+2 ->
   (∀b o,s.heap.get? b=some o->h'.get? b=some o)->Q (.ref (s.heap.objs.size+1)) { s with heap:=h' }) :
  Zl8 (Zmh prog w) A (call (.type "enumerate") [.ref l] [("start", .int 1 t)]) Q E s:=by
 obtain⟨⟨c,dct,dt,sl⟩,hl,hc,n,hd⟩:=hL
 replace hc:c= .type "list" := hc;replace hd:dt= .seq items n:=hd
 subst hc hd
 have ft:=Zuu
 obtain⟨c,tl,hmro⟩:=ft.mro
 have hmade:=ft.made;have hsub:=ft.sub;have hct:=znn (.ref l) (.int 1 t)
 refine Zxj (Zwv ?_)
 show Zl8 _ _ (callAny (.type "enumerate") _) _ _ _
 refine Zln ⟨Zyb _ (by decide +kernel),Zqe Zz5 ?_⟩
 rw[Zxi (Zyt "enumerate" [.ref l] _) (units_type_call_type "enumerate" [.ref l] _)]
 have h1:=ft.notType;have h2:=ft.canCreate
 repeat (any_goals (first | assumption | wp_step))
 have hz:(s.heap.push { cls:=.type "list_iterator", data:=.fields #[.ref l,.int 0 0] }).objs.size=s.heap.objs.size+1:=Zmv ..
 have he:IsEnum ((s.heap.push { cls:=.type "list_iterator", data:=.fields #[.ref l,.int 0 0] }).push
   { cls:=.type "enumerate", data:=.fields #[.none,.bool false,.ref s.heap.objs.size,Zp0 1,.none,.none] }) (s.heap.objs.size+1) s.heap.objs.size 1 .none:=by
  have:=Zl3 (s.heap.push { cls:=.type "list_iterator", data:=.fields #[.ref l,.int 0 0] })
   (o:={ cls:=.type "enumerate", data:=.fields #[.none,.bool false,.ref s.heap.objs.size,Zp0 1,.none,.none] }) rfl
  rw[hz] at this;exact this
 have hu:=h _ he ⟨_,Zlu _ (Zl3 _ rfl),rfl,rfl⟩ (by rw[Zmv,hz]) fun b o x=>Zlu _ (Zlu _ x)
 have hT:Zzf { s with heap:=zxq s.heap l } (.ref (s.heap.objs.size+1)) "enumerate" := ⟨_,he,rfl⟩
 have hm:=zuq l items n dct sl t prog w A.in1 (fun r s'=>r= .ok (.ret (.ref (s.heap.objs.size+1)))/\s'={ s with heap:=zxq s.heap l }) s ⟨hl,by rw[hz],rfl⟩
 refine Zqx (Zt8 (R:=fun r s'=>r= .ok (.ret (.ref (s.heap.objs.size+1)))/\s'={ s with heap:=zxq s.heap l }) ft.plain F.entry_enumerate_new (Zzo (zpi _ _) hm)) fun r s₁ hr=>?_
 obtain⟨rfl,rfl⟩:=hr
 have hli:=ft.init.lookup;have hbi:=ft.init.bind (.ref (s.heap.objs.size+1))
 show Zl8 _ _ _ _ _ _
 repeat (any_goals (first | assumption | wp_step))
 have hm2:=zx0 (.ref (s.heap.objs.size+1)) (.ref l) (.int 1 t) prog w A.in1 (fun r s'=>r= .ok (.ret .none)/\s'={ s with heap:=zxq s.heap l }) { s with heap:=zxq s.heap l } ⟨hT,rfl,rfl⟩
 refine Zqx (Zt8 (R:=fun r s'=>r= .ok (.ret .none)/\s'={ s with heap:=zxq s.heap l }) ft.init.plain F.entry_object_init (ft.init.check _ _ _ _ _ _ _ _ hT (znl _ _ _) hm2)) fun r₂ s₂ hr₂=>?_
 obtain⟨rfl,rfl⟩:=hr₂
 show Zl8 _ _ _ _ _ _
 repeat (any_goals (first | assumption | wp_step))
end
theorem zmy{prog:Zmi}{w:Zng}{A:Zmu}{it:Addr}{fp:List Addr}{n:Nat}{P:Nat->Zll->Prop}{St:Nat->Heap->Prop}(D:Ydv prog w A it fp n P St) :
  Ydv prog w A it fp (n+1) (fun i v=>P (i - 1) v) (fun i h=>1<=i/\St (i - 1) h) where
 live:=fun i h st=>D.live _ _ st.2
 frame:=fun i h h' st k=>⟨st.1,D.frame _ _ _ st.2 k⟩
 item:=fun i s Q E hi st hQ=>D.item (i - 1) s Q E (by omega) st.2 fun x h' tk a b c=>hQ x h' tk a ⟨by lia,by rw[show i+1 - 1=(i - 1)+1 by lia];exact b⟩ c
 done:=fun s Q E st hE=>D.done s Q E (by simpa using st.2) hE
noncomputable def Ite1(K:Zlh)(a:Addr):It :=
 ⟨fun i H=>∃xs x,SqL K H a xs/\xs[i]? = some x,fun i H x H'=>∃T0 vs,x= .ref T0/\H T0=none/\H'=upd H T0 (.tup vs) /\ ∀xs,SqL K H a xs-> ∃y,xs[i]? = some y/\vs=[.int ((i+1:Nat):Int),y],fun i H=>∃xs,SqL K H a xs/\xs.length=i⟩
theorem zyn{P:Zmi}{w:Zng}{K:Zlh}{elts:List Expr}{kk:Nat}{tp:Pos}(a it e:Addr)(hae:a≠e)(hai:a≠it)(hei:e≠it) :
  Turn P w K (.Tuple elts kk tp) (Ite1 K a) [e,it] e (fun i h=>(∃old,IsEnum h e it ((i+1:Nat):Int) old)/\h.IsListIter it a i) where
 mem:=by simp
 obj:=fun i h st b hb=>by
  obtain⟨⟨old,ho⟩,oi,hoi,_,hdi⟩:=st
  rcases Zly.mp hb with rfl | hb
  .exact⟨_,ho,fun v z=>by cases z⟩
  .rw[Zlz.mp hb]
   exact⟨oi,hoi,fun v z=>by rw[hdi] at z;cases z⟩
 keep:=fun i h h' st k=>⟨let ⟨old,ho⟩:=st.1;⟨old,k e (by simp) _ ho⟩,st.2.at fun o x=>k it (by simp) o x⟩
 item:=by
  intro X hP hw hK hc i pins s U H E I hf st hg
  subst hP hw hK
  obtain⟨xs,x,hq,hx⟩:=hg
  obtain⟨its,rv,p,hz⟩:=I.list hq
  obtain⟨u,hu,ru⟩:=rv.get hx
  have hil:i<its.length:=(Zlq.mp hu).1
  have W0:=Zsa (A:=X.A) (zmy (Zv8 (prog:=X.prog) (w:=X.w) (A:=X.A.in1) (show X.A.in1.handled=none from I.ok.hd hc) it a hai its.toArray)) e hei (by simp[hei,Zne hae]) (by simp)
  refine W0.item (i+1) s _ _ (by simpa using hil) ⟨st.1,Zzz _ _,st.2,p.isList⟩ fun T0 vals h1 tk hp hle ht mid kk=>?_
  obtain⟨t,v,hv,rfl⟩:=hp
  have hv:its[i]? = some v:=by simpa using hv
  rw[hu] at hv;cases hv
  have fresh:H T0=none:=I.hok.fresh hle
  have I1:Inv X pins U (upd H T0 (.tup [.int ((i+1:Nat):Int),x])) { s with heap:=h1,toks:=tk }:=I.turnsT (wr:=[e,it]) hf kk hle ht (.cons ⟨t,rfl⟩ (.cons ru .nil)) (by rw[Zl7];simp)
  refine⟨.ref T0,rfl,W0.go elts _ tp (i+1) T0 _ _ _ mid fun h2 st2 k2=>?_⟩
  have hlt:∀b∈[e,it],b≠T0:=fun b hb z=>by
   obtain⟨⟨old,ho⟩,oi,hoi,_,hdi⟩:=st
   rcases Zly.mp hb with rfl | hb
   .exact absurd (Zmf (Zl4 ho) (z ▸ hle)) (Znn _)
   .rw[Zlz.mp hb] at z
    exact absurd (Zmf (Zl4 hoi) (z ▸ hle)) (Znn _)
  have hf1:∀b∈[e,it],FpOk X pins (upd H T0 (.tup [.int ((i+1:Nat):Int),x])) b:=fun b hb=>⟨by rw[zat (hlt b hb)];exact(hf b hb).1,(hf b hb).2⟩
  exact⟨.ref T0,_,I1.turns (t':=tk) hf1 k2,rfl,⟨T0,_,rfl,fresh,rfl,fun ys hy=>⟨x,by rw[I.list_inj hy hq];exact hx,rfl⟩⟩,⟨st2.1,st2.2.2.1⟩,fun b hb=>by rw[zat (hlt b hb)];exact(hf b hb).1⟩
 done:=by
  intro X hP hw hK hc i pins s U H E I hf st hg
  subst hP hw hK
  obtain⟨xs,hq,hx⟩:=hg
  obtain⟨its,rv,p,hz⟩:=I.list hq
  have hl:=rv.length
  have hs:its.toArray.size=i:=by simp;lia
  have W0:=Zsa (A:=X.A) (zmy (Zv8 (prog:=X.prog) (w:=X.w) (A:=X.A.in1) (show X.A.in1.handled=none from I.ok.hd hc) it a hai its.toArray)) e hei (by simp[hei,Zne hae]) (by simp)
  rw[hs] at W0
  exact W0.done s _ _ ⟨st.1,Zzz _ _,st.2,p.isList⟩ fun h1 tk kk=>⟨rfl,I.turns (wr:=[e,it]) hf kk⟩
 self:=fun A i s Q E st h=>Zsz st.1.choose_spec h
section
variable{M:Zy4}{A:Zmu}{E:Zll->Zlo->Prop}{s:Zlo}{env:Env}
theorem zmw{pos:Pos}{T:String}{e:Expr}{rest:List Expr}{kws:List Zte}{Q:Zll->Zlo->Prop}
  (h:Zl8 M A (Zwt (Zpk pos (Zmk (e::rest) env))) (fun vs s₁=>Zl8 M A (evalAll ((Zp8 pos (Zoj kws env)).map (·.2)))
   (fun kvs s₂=>Zl8 M A (call (.type T) vs (((Zp8 pos (Zoj kws env)).filterMap (·.1)).zip kvs)) Q E s₂) E s₁) E s)
  (he:Zpk pos (Zmk (e::rest) env)=(false,eval e env)::Zpk pos (Zmk rest env)) (hplain:(Zpk pos (Zmk (e::rest) env)).any (·.1)=false)
  (hall:(Zp8 pos (Zoj kws env)).all (·.1.isSome)=true) (hkw:(Zp8 pos (Zoj kws env)).any (·.1.isNone)=false) :
  Zl8 M A (Zwk pos (.type T) [] (Zpk pos (Zmk (e::rest) env)) (Zp8 pos (Zoj kws env))) Q E s:=by
 have h2:Zl8 M A (evalArgs (.type T) true (Zpk pos (Zmk (e::rest) env)) (Zp8 pos (Zoj kws env))) (fun a s₁=>Zl8 M A (call (.type T) ([]++a.pos) a.kw) Q E s₁) E s:=by
  rw[he] at h ⊢
  exact evalArgs_kwB hall h
 unfold Zwk
 refine Zli (Zos (Zn1 h2 (fun a s₁ h₁=>Zli (Zs8 ?_)) fun _ _ x=>x))
 simp only[hplain,hkw,Zwo];refine Zli (Zln ?_)
 exact Zli (Zn1 h₁ (fun r s₂ hr=>Zli (Zos (wpAny_point (Zln hr)))) fun _ _ x=>x)
end
section
variable{X:Cx}{e ke:Expr}{ta:TA}{elts:List Expr}{kk:Nat}{tp p pos kp:Pos}
noncomputable def iEn1(K:Zlh)(ta:TA):TI:=fun U H R=>ta U H fun vs H1=>∃a,vs=[.ref a]/\(∃xs,SqL K H1 a xs)/\R (Ite1 K a) H1
theorem yfp(hg:Gl X "enumerate")(hm:X.mg "enumerate" = none)(hA:PA X [e] ta)(hk:PE X ke (tC (.int 1)))(hs:Zmk [e] X.env=[(false,eval e X.env)]:=by rfl) :
  PI X (.Tuple elts kk tp) (.Call (.Name "enumerate" p) [e] [⟨some "start", ke,kp⟩] pos) (iEn1 X.K ta):=by
 intro pins s U H R I h
 refine Zra (zod I hg hm Yc2 ?_)
 refine zmw (rest:=[]) (thn (hA pos pins s U H _ I h) fun us s1 hz9=>?_) (by rw[hs];rfl) (by rw[hs];rfl) rfl rfl
 obtain⟨vs,H1,I1,r1,q1⟩:=hz9
 obtain⟨a,rfl,hl,q⟩:=q1
 refine thn (ygv hk ykc pos pins s1 U H1 (fun zs H2=>zs=[.int 1]/\H2=H1) I1 ⟨rfl,rfl⟩) fun ws s2 hz9=>?_
 obtain⟨zs,H2,I2,r2,e2,e3⟩:=hz9
 subst e2 e3
 obtain⟨w',rfl,rw'⟩:=zhi r2
 obtain⟨t,rfl⟩:=rw'
 obtain⟨u,rfl,ru⟩:=zhi r1
 cases ru
 obtain⟨xs,hq⟩:=hl
 obtain⟨its,rv,p,hz⟩:=I2.list hq
 refine ycc p.isList fun h1 hen hit hsz hk=>?_
 have I3:Inv X pins U H2 { s2 with heap:=h1 }:=I2.kept (t':=s2.toks) hk
 refine Zsz hen ?_
 have hlt:a<s2.heap.objs.size:=by obtain⟨o,ho,_⟩:=p.isList;exact Zl4 ho
 refine⟨s2.heap.objs.size+1,[s2.heap.objs.size+1,s2.heap.objs.size],_,_,H2,rfl,I3,zyn a s2.heap.objs.size (s2.heap.objs.size+1) (Zmb (Zo1 hlt)) (Zmb hlt) (Zzg _),⟨⟨_,hen⟩,hit⟩,fun b hb=>?_,q⟩
 rcases Zly.mp hb with rfl | hb
 .exact I2.fpOk (Zrc _) (I2.hok.fresh (Zrc _))
 .rw[Zlz.mp hb]
  exact I2.fpOk (Zlt _) (I2.hok.fresh (Zlt _))
end
end L2
namespace L2
open PySem PySem.Spec PyProof.Rows PySem.Builtin PySem.Builtin.Str
section
variable{X:Cx}
noncomputable def zui:V->List V->Hp->VK->Prop:=fun x vs H Q=>∃(l:List Nat) (z:Nat),x= .str (T l)/\vs=[.str (T [z])]/\Q (.bl (decide (l.head? = some z))) H
theorem yff(l:List Nat)(z:Nat):Yag (T l) (T [z])=decide (l.head? = some z):=by
 have h:=yam [] l z
 rw[Zry,Zm6] at h
 unfold Yag
 rw[h,zb5,zb5]
 cases l with
 | nil=>rfl
 | cons x l=>simp
theorem zp4:MtR X "str.startswith" zui:=by
 intro pins s U H x xs v us Q I rx rs h
 obtain⟨l,z,rfl,rfl,q⟩:=h
 obtain⟨t,rfl⟩:=rx
 obtain⟨u,rfl,ru⟩:=Vals.one rs
 obtain⟨u,rfl⟩:=ru
 refine SC.startswith ⟨.bl (decide (l.head? = some z)),H,I,?_,q⟩
 rw[yff];rfl
noncomputable def zwp(K:Zlh):V->List V->Hp->VK->Prop:=fun x vs H Q=>∃z p ys,x= .str z/\vs=[.ref p]/\SqT K H p (ys.map V.str)/\z.length<=16/\(ys.map (·.length)).sum+ys.length<=1048576/\Q (.str (Zvc z ys)) H
theorem yc1:MtR X "str.join" (zwp X.K):=by
 intro pins s U H x xs v us Q I rx rs h
 obtain⟨z,p,ys,rfl,rfl,hl,hz,hw,q⟩:=h
 obtain⟨t,rfl⟩:=rx
 obtain⟨u,rfl,ru⟩:=Vals.one rs
 cases ru
 obtain⟨its,r,pl,_⟩:=I.tuple hl
 refine join_tupleW pl (ys:=ys) (by simpa using zmg r) hz hw fun t' k=>⟨.str _,H,I.tok _,⟨_,by show _=Zt1 (Zvc z ys) t';rw[<- Zwc];rfl⟩,q⟩
end
noncomputable def zbg(z:Nat)(l:List Nat):List (List Nat):=za1 z (l.length+1) l
theorem ye1{z:Nat}{l:List Nat}(hz:z<128)(hl:∀c∈l,c<128):Zt9 (T l) (T [z])=(zbg z l).map T:=by
 have hp:=zm6 z (l.length+1) l
 have k1:strKind (T l)=1:=zu7 hl
 have k2:strKind (T [z])=1:=zu7 (by intro c hc;rw[Zlz.mp hc];exact hz)
 unfold Zt9 zbg
 rw[zb5] at hp ⊢
 split
 .rename_i h
  rw[k1,k2,zb5] at h
  simp at h
  subst h
  rfl
 .split
  .rename_i h2 h
   rw[<- hp]
   have e:occurrences (T l) (T [z]) 0 l.length (l.length+1)=[]:=Zy6.mp h
   rw[e]
   have:=zl7 [] l []
   simp only[Zry,Zm1,Zm6,Zsc] at this
   show[T l]=[strSub (T l) 0 (T l).length]
   rw[zb5,this]
  .exact hp
theorem zxp{z n:Nat}:∀{l:List Nat},z∉l->za1 z n l=[l]:=fun {l} h=>by
 cases n with
 | zero=>rfl
 | succ n =>
  rcases zgk (z:=z) l with ⟨h1,_⟩ | ⟨b,_,h2,_⟩
  .rw[za1,h1]
  .exact absurd (by rw[h2];simp) h
theorem ztt{z n:Nat}{a b:List Nat}(ha:z∉a):za1 z (n+1) (a++z::b)=a::za1 z n b:=by
 have tw:(a++z::b).dropWhile (· != z)=z::b/\(a++z::b).takeWhile (· != z)=a:=by
  induction a with
  | nil=>simp
  | cons w x ih =>
   have hw:w≠z:=fun e=>ha (by simp[e])
   have:=ih fun h=>ha (Zlp _ h)
   rw[Zrl,Zon,Zrx]
   simp[hw,this]
 rw[za1,tw.1,tw.2]
theorem zid{z:Nat}:∀{ps:List (List Nat)} {n:Nat},ps≠[]->(∀p∈ps,z∉p)->ps.length<=n+1->za1 z n (glue [z] ps)=ps
 | [],_,h,_,_=>absurd rfl h
 | [p],n,_,hz,_=>by
  have:glue [z] [p]=p:=rfl
  rw[this];exact zxp (hz p (by simp))
 | p::q::r,0,_,_,hn=>by simp at hn
 | p::q::r,n+1,_,hz,hn=>by
  have:glue [z] (p::q::r)=p++z::glue [z] (q::r):=by simp[glue]
  rw[this,ztt (hz p (by simp)),zid (by simp) (fun x hx=>hz x (Zlp _ hx)) (by simpa using hn)]
section
variable{K:Zlh}{G H0 L:Hp}{ss:List Sl}{ta tb tc t t1 t2 te:TE}{ds:List D}{E:Ends}
theorem zzd{l:List Nat}{z:Nat}(a:EvB K G H0 L ss ta (.str l))(b:EvB K G H0 L ss t (.str [z])):Ev K G H0 L ss (tBM K "str" zui ta (za8 t tNil)) (.bl (decide (l.head? = some z))):=fun F H U Q S q =>
 a F H U _ S fun v F1 H1 e1 r1=>by
  rw[r1.of_str]
  refine⟨rfl,b F1 H1 U _ (S.ext2 e1) fun v2 F2 H2 e2 r2=>?_⟩
  exact⟨l,z,rfl,by rw[r2.of_str],q _ _ _ (e1.trans e2) Rep.bl⟩
theorem zih{l:List Nat}{z:Nat}(a:EvB K G H0 L ss ta (.str l))(b:EvB K G H0 L ss t (.str [z]))(hl:l.length+2<=sizeLine):EvO K G H0 L ss (tBM K "str" ybx ta (za8 t tNil)) ((zbg z l).map D.str):=fun F H U Q S q =>
 a F H U _ S fun v F1 H1 e1 r1=>by
  rw[r1.of_str]
  refine⟨rfl,b F1 H1 U _ (S.ext2 e1) fun v2 F2 H2 e2 r2=>?_⟩
  have ha:=r1.asc
  have hz:=r2.asc
  rw[r2.of_str]
  refine⟨T l,T [z],rfl,rfl,by rw[zb5];rfl,by rw[zb5];exact hl,fun p hp=>?_⟩
  rw[ye1 (hz z (by simp)) ha]
  have e:=e1.trans e2
  exact q p _ F2 _ (e.newO hp) (e.hh.free hp) (e.fh.free hp) zal (yg0 fun m hm c hc=>ha c (zmn hm hc))
theorem yfl{z:List Nat}{ls:List (List Nat)}(a:EvB K G H0 L ss ta (.str z))(b:Ev K G H0 L ss t (.tup (ls.map D.str)))(hz:z.length<=16)(hw:(ls.map Zm7).sum+ls.length<=1048576):Ev K G H0 L ss (tBM K "str" (zwp K) ta (za8 t tNil)) (.str (glue z ls)):=fun F H U Q S q =>
 a F H U _ S fun v F1 H1 e1 r1=>by
  rw[r1.of_str]
  refine⟨rfl,b F1 H1 U _ (S.ext2 e1) fun v2 F2 H2 e2 r2=>?_⟩
  obtain⟨p,vs,rfl,sq,rs⟩:=r2.of_tup
  obtain⟨rfl,ha⟩:=rs.strs
  refine⟨T z,p,ls.map T,rfl,rfl,SqT.same e2.fh sq,by rw[zb5];exact hz,?_,?_⟩
  .rw[Zm0,Zlm,show((fun x:Str=>x.length)∘T)=Zm7 from funext fun l=>zb5 l];exact hw
  .rw[zzx]
   exact q _ _ _ (e1.trans e2) (Rep.str (zpp r1.asc ha))
theorem zzc{tl:TE}(a:Ev K G H0 L ss tl (.lst ds)):EvI K G H0 L ss (iEn1 K (za8 tl tNil)) ds.length fun i=>.tup [.int ((i+1:Nat):Int),ds.getD i .non]:=fun F H U R S q =>
 a F H U _ S fun v F1 H1 e1 r1=>by
  obtain⟨p,vs,rfl,sq,rs⟩:=r1.of_lst
  refine⟨p,rfl,⟨vs,SqL.same e1.fh sq⟩,q F1 H1 _ e1 fun F2 H2 f1 h1 fh=>?_⟩
  have rp:Rep K F2 (.lst ds) (.ref p):=r1.mono f1
  obtain⟨ws,sq2,rs2⟩:=rp.itl fh
  have hlen:=rs2.length
  refine⟨fun i hi=>⟨⟨ws,ws[i]'(by lia),sq2,Zlj _⟩,fun x H3 y=>?_⟩,⟨ws,sq2,by lia⟩⟩
  obtain⟨T0,us,rfl,hf,rfl,y⟩:=y
  obtain⟨w,hx,rfl⟩:=y ws sq2
  obtain⟨dx,hdx,rx⟩:=rs2.get hx
  have e3:Ext F2 H2 (upd F2 T0 (.tup [.int ((i+1:Nat):Int),w])) (upd H2 T0 (.tup [.int ((i+1:Nat):Int),w])):=(Ext.refl fh).newF hf
  refine⟨_,e3,?_⟩
  show Rep K _ (.tup [.int ((i+1:Nat):Int),ds.getD i .non]) _
  rw[Zlk,hdx]
  exact Rep.tupN (zal) (Reps.cons Rep.int (Reps.cons (rx.mono e3.gf) Reps.nil))
end
noncomputable def SpGO{α:Type}(K:Zlh)(pre:α->List D->Prop)(res:α->List D):Sp:=fun vs H Q _=>∃(G:Hp) (ds:List D) (x:α),Same G H/\Reps K G ds vs/\pre x ds /\
 ∀p ws G' H',Ext G H G' H'->H p=none->G' p=none->H' p=some (.lst ws)->Reps K G' (res x) ws->Q (.ref p) H'
section
variable{α:Type}{K:Zlh}{H:Hp}{vs:List V}{Q:VK}{X:XK}{N:List Str}{t:TS}{pre:α->List D->Prop}{res:α->List D}
theorem yio(h:SpGO K pre res vs H Q X)(hN:vs.length<=N.length)(body:∀G ds x,pre x ds->RtO K G H Q (res x)->Go K G H G { nx:=fun _ H'=>Q .non H',rt:=Q } (slots N.length ds) t):t { nx:=fun _ H'=>Q .non H',rt:=Q } (start N vs) H:=by
 obtain⟨G,ds,x,sm,r,hp,q⟩:=h
 exact body G ds x hp (fun p ws F H' e h1 h2 h3 h4=>q p ws F H' e h1 h2 h3 h4) G H _ (ze5 sm r hN)
theorem zu9{n:Nat}(hpre:∀x ds,pre x ds->ds.length=n)(h:SpGO K pre res vs H Q X):vs.length=n:=by
 obtain⟨G,ds,x,sm,r,hp,q⟩:=h
 rw[<- r.length];exact hpre x ds hp
end
section
variable{α:Type}{K:Zlh}{G H0 L:Hp}{ss:List Sl}{t:TA}{ds:List D}{E:XK}{pre:α->List D->Prop}{res:α->List D}
theorem zib(x:α)(a:EvAF K G H0 L ss t ds)(hp:pre x ds):EvO K G H0 L ss (zk4 (SpGO K pre res) [] E t) (res x):=fun F H U Q S q =>
 a F H U _ S fun vs F1 H1 e1 r1=>⟨F1,ds,x,e1.fh,by rw[Zm1];exact r1,hp,fun p ws G' H' e2 h1 h2 h3 r=>q _ _ _ _ (e1.trans e2) (e1.hh.free h1) h2 h3 r⟩
end
end L2
namespace L2
open PySem PySem.W PySem.Spec PyProof.Rows
structure ITell(K:Zlh)(C:Addr):Prop where
 ha:findIn K (.ref C) "__class__" = some (some (.builtin "object.__class__"))
 hn:specialIn K (.builtin "object.__class__") "__get__" = some (some (.builtin "getset_descriptor.__get__"))
 tk:takesIn K (.builtin "object.__class__")=some true
 hm:mroIn K C (.type "object")=some true
noncomputable def isl(x C dx:Addr)(fs:List (Str×V)):Sl:=.g (.ref x) [] fun F _=>F x=some (.ins C dx fs)/\F dx=some (.own x)
theorem yc7(x C dx:Addr)(fs:List (Str×V)):Stab [] fun F _=>F x=some (.ins C dx fs)/\F dx=some (.own x):=fun F1 H1 F2 H2 sf _ h=>⟨sf _ _ h.1,sf _ _ h.2⟩
noncomputable def SpI(K:Zlh)(C:Addr)(pre:List (Str×V)->List D->Prop)(res:List (Str×V)->List D->D):Sp:=fun vs H Q _=>∃G ds x dx fs ws,Same G H/\vs= .ref x::ws/\G x=some (.ins C dx fs)/\G dx=some (.own x)/\Reps K G ds ws/\pre fs ds /\
 ∀v G' H',Ext G H G' H'->Rep K G' (res fs ds) v->Q v H'
noncomputable def zj8(C:Addr)(n1 n2:Str):Sp:=fun vs H Q _=>∃(x dx:Addr) (u v:V),vs=[.ref x,u,v]/\H x=some (.ins C dx [])/\H dx=some (.own x)/\Q .non (upd H x (.ins C dx [(n1,u),(n2,v)]))
section
variable{K:Zlh}{G H0 L F H:Hp}{ss:List Sl}{U:St}{x C dx:Addr}{fs:List (Str×V)}{ds:List D}{ws:List V}
theorem Sat.cons0{s:Sl}{ov:Option V}(S:Sat K G H0 L F H U ss)(h:SlOk K H0 F H ov s)(ha:s.ads=[]):Sat K G H0 L F H (ov::U) (s::ss):=by
 refine⟨S.ext,S.fl,by simp[S.len],fun i t ht=>?_,fun i t ht=>?_,fun i j t u hij ht hu p hp hq=>?_⟩
 .cases i with
  | zero=>cases ht;exact h
  | succ i=>exact S.ok i t ht
 .cases i with
  | zero=>cases ht;rw[ha];exact Zrd
  | succ i=>exact S.nd i t ht
 .cases i with
  | zero=>cases ht;rw[ha] at hp;cases hp
  | succ i =>
   cases j with
   | zero=>cases hu;rw[ha] at hq;cases hq
   | succ j=>exact S.ne i j t u (by lia) ht hu p hp hq
theorem zyf{N:List Str}(sm:Same G H)(gx:G x=some (.ins C dx fs))(gd:G dx=some (.own x))(r:Reps K G ds ws)(hN:ws.length+1<=N.length):Sat K G H G G H (start N (.ref x::ws)) (isl x C dx fs::slots (N.length - 1) ds):=by
 cases N with
 | nil=>simp at hN
 | cons n N =>
  have S:=ze5 (N:=N) sm r (by simpa using hN)
  have e:start (n::N) (.ref x::ws)=some (.ref x)::start N ws:=by
   unfold start;simp
  rw[e]
  have e2:(n::N).length - 1=N.length:=by simp
  rw[e2]
  exact S.cons0 ⟨rfl,(fun a ha=>absurd ha Zno),⟨gx,gd⟩,yc7 x C dx fs⟩ rfl
variable{vs:List V}{Q:VK}{E:XK}{N:List Str}{t:TS}{pre:List (Str×V)->List D->Prop}{res:List (Str×V)->List D->D}
theorem zbe{n:Nat}(hpre:∀fs ds,pre fs ds->ds.length+1=n)(h:SpI K C pre res vs H Q E):vs.length=n:=by
 obtain⟨G,ds,x,dx,fs,ws,sm,rfl,gx,gd,r,hp,q⟩:=h
 rw[Zl1,<- r.length];exact hpre fs ds hp
theorem zfx(h:SpI K C pre res vs H Q E)(hN:vs.length<=N.length)(body:∀G ds x dx fs,pre fs ds->RtD K G H Q (res fs ds)->Go K G H G { nx:=fun _ H'=>Q .non H',rt:=Q } (isl x C dx fs::slots (N.length - 1) ds) t) :
  t { nx:=fun _ H'=>Q .non H',rt:=Q } (start N vs) H:=by
 obtain⟨G,ds,x,dx,fs,ws,sm,rfl,gx,gd,r,hp,q⟩:=h
 exact body G ds x dx fs hp (fun v F H' e r=>q v F H' e r) G H _ (zyf sm gx gd r (by simpa using hN))
end
section
variable{K:Zlh}{G H0 L:Hp}{ss:List Sl}{i:Nat}{x C dx:Addr}{fs:List (Str×V)}{d:D}{ds:List D}{t:TA}{E:XK}{D0:Ends}{pre:List (Str×V)->List D->Prop}{res:List (Str×V)->List D->D}
theorem Sat.getI{F H:Hp}{U:St}(S:Sat K G H0 L F H U ss)(hs:ss[i]? = some (isl x C dx fs)):U[i]? = some (some (.ref x))/\F x=some (.ins C dx fs)/\F dx=some (.own x):=by
 obtain⟨v,e,ew,ha,hw,st⟩:=S.get hs (by intro z;cases z)
 cases ew
 exact⟨e,hw⟩
theorem zww{f:Str}{v:V}(hs:ss[i]? = some (isl x C dx fs))(c:Cls K C)(n:zbt K C f)(l:fs.lookup f=some v)(r:∀F,Rep K F d v):Ev K G H0 L ss (tFld K (tVar i) f) d:=fun F H U Q S q=>by
 obtain⟨e,fx,fd⟩:=S.getI hs
 exact⟨_,e,x,C,dx,fs,v,rfl,S.ext.fh _ _ fx,c,n,l,q _ F H (Ext.refl S.ext.fh) (r F)⟩
theorem zlq{m:Str}(hs:ss[i]? = some (isl x C dx fs))(l:fs.lookup m=none)(a:EvAF K G H0 L ss t ds)(hp:pre fs ds):Ev K G H0 L ss (yjr C m (SpI K C pre res) [] E (tVar i) t) (res fs ds):=fun F H U Q S q=>by
 obtain⟨e,fx,fd⟩:=S.getI hs
 refine⟨_,e,x,dx,fs,rfl,S.ext.fh _ _ fx,l,a F H U _ S fun vs F1 H1 e1 r1=>⟨F1,ds,x,dx,fs,vs,e1.fh,by rw[Zm1],e1.gf _ _ fx,e1.gf _ _ fd,r1,hp,fun v G' H' e2 r=>q v G' H' (e1.trans e2) r⟩⟩
theorem upd2{H:Hp}{a:Addr}{o u:HO}:upd (upd H a o) a u=upd H a u:=by
 funext b
 by_cases h:b=a
 .subst h;rw[zal,zal]
 .rw[zat h,zat h,zat h]
end
section
variable{K:Zlh}{F H:Hp}
theorem yj9{k:D}{q:Key}(r:Rep K F k (kV q)):k.isK=true/\k.key=q:=by
 cases q with
 | inl i =>
  have r:Rep K F k (V.int i):=r
  cases k <;> simp[Rep] at r
  subst r;exact⟨rfl,rfl⟩
 | inr x =>
  have r:Rep K F k (V.str x):=r
  cases k <;> simp[Rep] at r
  exact⟨rfl,by rw[r.1];rfl⟩
theorem yf3:∀{kv:List (Key×V)} {ks vs:List D},Reps K F ks (kv.map fun q=>kV q.1)->Reps K F vs (kv.map fun q=>q.2)->Dks K F (ks.zip vs) kv
 | [],ks,vs,r1,r2=>by
  cases ks with
  | nil=>exact .nil
  | cons k ks=>rw[Reps] at r1;obtain⟨_,_,e,_⟩:=r1;cases e
 | (q,v)::kv,ks,vs,r1,r2=>by
  cases ks with
  | nil=>rw[Reps] at r1;cases r1
  | cons k ks =>
   cases vs with
   | nil=>rw[Reps] at r2;cases r2
   | cons d vs =>
    rw[Reps] at r1 r2
    obtain⟨x,r,e,a,b⟩:=r1
    cases e
    obtain⟨x,r,e,a2,b2⟩:=r2
    cases e
    obtain⟨h1,rfl⟩:=yj9 a
    exact .cons h1 a a2 (yf3 b b2)
theorem Dks.reps{kvs:DD}{xs:List (Key×V)}(h:Dks K F kvs xs):Reps K F (kvs.map (·.1)) (xs.map fun q=>kV q.1)/\Reps K F (kvs.map (·.2)) (xs.map fun q=>q.2):=by
 induction h with
 | nil=>exact⟨Reps.nil,Reps.nil⟩
 | cons hk hr r t ih=>exact⟨Reps.cons hr ih.1,Reps.cons r ih.2⟩
end
noncomputable def D.dic(kvs:DD):D:=.dct (kvs.map (·.1)) (kvs.map (·.2))
theorem yik(kvs:DD):(kvs.map (·.1)).zip (kvs.map (·.2))=kvs:=by
 induction kvs with
 | nil=>rfl
 | cons a l ih=>rw[Zl0,Zl0,Zr7,ih]
theorem Rep.of_dic{K:Zlh}{F:Hp}{kvs:DD}{v:V}(r:Rep K F (D.dic kvs) v):∃p xs,v= .ref p/\F p=some (.dK xs)/\Dks K F kvs xs:=by
 obtain⟨p,kv,e,h,r1,r2⟩:=r.of_dct
 have:=yf3 r1 r2
 rw[yik] at this
 exact⟨p,kv,e,h,this⟩
section
variable{K:Zlh}{G H0 L:Hp}{ss:List Sl}{i:Nat}{p:Addr}{kvs:DD}{E:Ends}{ty td tv tx:TE}{k d z:D}
theorem zw7{N:St->Hp->Prop}(hs:ss[i]? = some (dsl K p kvs))(h:Nx K G H0 L N (ss.set i (.d (D.dic kvs)))):Nx K G H0 L N ss:=fun F H U S=>by
 obtain⟨e,h0,fp,xs,hp,dk⟩:=S.getM hs
 have hget:U.getD i none=some (.ref p):=by rw[Zlk,e];rfl
 have dk2:=dk.mono (Same.upd (o:=.dK xs) fp)
 obtain⟨r1,r2⟩:=dk2.reps
 exact h _ H U (S.put (S.ext.freeze fp h0 hp) (S.fl.trans (Same.upd fp)) rfl (fun _ _=>rfl) (fun _=>by rw[hget];exact⟨_,rfl,Rep.dct zal r1 r2⟩) (by simp[Sl.ads]) (fun _ _ _ _ q hq=>by simp[Sl.ads] at hq)
  fun j s' hj h=>(S.ok j s' h).frz fp (S.ne i j _ s' (Zne hj) hs h p (by simp[dsl,Sl.ads])))
theorem zq5(a:Ev K G H0 L ss td (D.dic kvs))(b:EvB K G H0 L ss ty k)(c:Ev K G H0 L ss tx z)(hk:k.isK=true):Ev K G H0 L ss (yf5 td ty tx) ((valD kvs k).getD z):=fun F H U Q S q =>
 a F H U _ S fun x F1 H1 e1 r1=>by
  obtain⟨p,xs,rfl,hp,dk⟩:=r1.of_dic
  refine⟨p,rfl,.inl ⟨xs,.inl (e1.fh _ _ hp)⟩,b F1 H1 U _ (S.ext2 e1) fun v F2 H2 e2 r2=>c F2 H2 U _ ((S.ext2 e1).ext2 e2) fun w F3 H3 e3 r3=>?_⟩
  have e:=(e1.trans e2).trans e3
  have dk2:=dk.mono (e2.gf.trans e3.gf)
  refine⟨valV xs k.key,by rw[zp5 hk r2];exact DGet.k (e3.fh _ _ (e3.gf _ _ (e2.gf _ _ hp))),q _ F3 H3 e ?_⟩
  rcases dk2.val hk with ⟨h1,h2⟩ | ⟨d',u,h1,h2,ru⟩ <;> rw[h1,h2]
  .exact r3
  .exact ru
end
end L2
namespace L2
open PySem PySem.Spec PyProof.Rows
end L2
namespace L2
open PySem PySem.W PySem.Spec PyProof.Rows
end L2
namespace L2
open PySem PySem.W PySem.Spec PyProof.Rows PySem.Calls Builtin Builtin.ObjectAttr Builtin.Getset_descriptor
structure XTell(K:Zlh)(C:Addr):Prop where
 ga:findIn K (.ref C) "__getattribute__" = some (some (.builtin "BaseException.__getattribute__"))
 gt:findIn K (.ref C) "__getattr__" = some none
 mb:mroIn K C (.type "BaseException")=some true
 fc:findIn K (.ref C) "__class__" = some (some (.builtin "object.__class__"))
 sp:specialIn K (.builtin "object.__class__") "__get__" = some (some (.builtin "getset_descriptor.__get__"))
 tk:takesIn K (.builtin "object.__class__")=some true
 mo:mroIn K C (.type "object")=some true
 dc:hasDictIn K C=true
end L2
namespace L2
open PySem PySem.W PyProof.Rows
end L2
namespace L2
open PySem PySem.W PySem.Spec PyProof.Rows
noncomputable abbrev QS:=List (Addr×List D)
section
variable{K:Zlh}{G H0 L:Hp}{ss:List Sl}{i:Nat}{p:Addr}{kqs:KQ}{kvs:DD}{qs:QS}{E:Ends}{D0:XK}{t:TA}{te ta td:TE}{d:D}{ds:List D}{dss:List (List D)}{pre:List D->Prop}{res:List D->List (List D)}
mutual
noncomputable def D.nm:D->Bool
 | .lst _=>false
 | .dct ks vs=>D.nms ks&&D.nms vs
 | .dctT _ _=>false
 | .ins _ _ _=>false
 | .tup a=>D.nms a
 | _=>true
noncomputable def D.nms:List D->Bool
 | []=>true
 | a::x=>a.nm&&D.nms x
end
noncomputable def cut(F:Hp)(as:List Addr):Hp:=fun b=>if b∈as then none else F b
end
section
variable{K:Zlh}{G H0 L:Hp}{ss:List Sl}{i:Nat}{E:Ends}{te tk tv:TE}{k d:D}{c:TT}{tb:TS}
theorem yd4(I:Nat->List Sl->Prop)(m0:Nat)(h0:I m0 ss)
  (hs:∀m ss,I m ss-> ∃b,EvT K G H0 L ss c b/\(b=true-> ∀N:St->Hp->Prop,(∀m' ss,m'<m->I m' ss->Nx K G H0 L N ss)->Go K G H0 L { E with nx:=N,ct:=N,bk:=E.nx } ss tb)/\(b=false->Nx K G H0 L E.nx ss)):Go K G H0 L E ss (ygi c tb):=fun F H U S =>
 ⟨fun m U' H'=>At K G H0 L (I m) U' H',⟨m0,ss,F,S,h0⟩,fun m U' H' ⟨ss1,F1,S1,h1⟩=>by
  obtain⟨b,ev,ht,hf⟩:=hs m ss1 h1
  refine ev F1 H' U' _ S1 fun F2 H2 e2=>?_
  cases b with
  | true =>
   rw[if_pos rfl]
   exact⟨fun U'' H''=>∃m',m'<m/\At K G H0 L (I m') U'' H'',fun U'' H'' h=>h,ht rfl _ (fun m' ss hm hI=>fun F3 H3 U3 S3=>⟨m',hm,ss,F3,S3,hI⟩) F2 H2 U' (S1.ext2 e2)⟩
  | false =>
   rw[if_neg Zmc]
   exact hf rfl F2 H2 U' (S1.ext2 e2)⟩
end
end L2
namespace L2
open PySem PySem.Spec PyProof.Rows
theorem zm3{M:Zy4}{Γ:_root_.PySem.Ctx}{p:Pos}{t:Sem Zy1}{fs:List Frame}{s s':Zlo}{e:End}(h:_root_.PySem.Runs M Γ p t fs s e s'):s.toks<=s'.toks:=by
 induction h <;> first | exact Zlt _ | assumption | lia | (simp only[Zv1] at *;lia) | (dsimp at *;omega)
theorem zxd{M:Zy4}{Γ:_root_.PySem.Ctx}{p:Pos}{g:Nat}{r:Resume}{s s':Zlo}{res:GenResult}(h:Wakes M Γ p g r s res s'):s.toks<=s'.toks:=by
 unfold Wakes at h
 cases hg:s.gens[g]? with
 | none=>simp only[hg] at h
 | some gs =>
  simp only[hg] at h
  cases gs with
  | fresh c =>
   cases r with
   | send v =>
    by_cases hv:v= .none
    .subst hv
     obtain⟨e1,s1,h1,_,_,rfl⟩:=h
     have:=zm3 h1
     simpa[Zv1] using this
    .have h2:res= .justStarted/\s'=s:=by cases v <;> first | exact absurd rfl hv | exact h
     rw[h2.2];exact Zlt _
   | throw x=>obtain⟨_,rfl⟩:=h;exact Zlt _
  | suspended k0 _ c0 p0 fs _ =>
   obtain⟨e1,s1,h1,_,_,rfl⟩:=h
   have:=zm3 h1
   simpa[Zv1] using this
  | running=>obtain⟨_,rfl⟩:=h;exact Zlt _
  | finished=>obtain⟨_,rfl⟩:=h;exact Zlt _
theorem yh5{α:Type}{M:Zy4}{Γ:_root_.PySem.Ctx}{Q:α->Pos->Zlo->Prop}{E:Zll->Pos->Zlo->Prop}{n:Nat}(t:Sem α):∀(p:Pos) (s:Zlo),n<=s.toks->Sem.wp M Γ t Q E p s ->
  Sem.wp M Γ t (fun a p' s'=>Q a p' s'/\n<=s'.toks) (fun e p' s'=>E e p' s'/\n<=s'.toks) p s:=by
 induction t with
 | pure x=>exact fun p s hn h=>⟨h,hn⟩
 | raise v=>exact fun p s hn h=>⟨h,hn⟩
 | unsupported | finish | yield | fork | await | register=>exact fun p s hn h=>h
 | rule _ k ih | «at» _ k ih | alloc _ k ih | loadIfAlive _ k ih | point _ k ih | ask k ih | os _ _ k ih | handled _ k ih | newGen _ k ih | stack k ih | thread k ih=>exact fun p s hn h=>ih _ _ _ hn h
 | fresh k ih=>exact fun p s hn h=>ih _ _ _ (Nat.le_succ_of_le hn) h
 | load a _ k ih | genState a k ih=>exact fun p s hn ⟨o,ho,h⟩=>⟨o,ho,ih _ _ _ hn h⟩
 | update a _ f k ih | choose _ _ k ih=>exact fun p s hn ⟨ha,h⟩=>⟨ha,ih _ _ _ hn h⟩
 | call c h g l k ih=>exact fun p s hn ⟨r,s1,h1,h2⟩=>⟨r,s1,h1,ih r p s1 (Znm hn (zm3 h1)) h2⟩
 | resume g r l k ih=>exact fun p s hn ⟨res,s1,hw,h⟩=>⟨res,s1,hw,ih _ _ _ (Znm hn (zxd hw)) h⟩
theorem thnT{α:Type}{t:Sem α}{Q Q':α->Zlo->Prop}{M:Zy4}{A:Zmu}{E:Zll->Zlo->Prop}{s:Zlo}{n:Nat}(hn:n<=s.toks)(h:Zl8 M A t Q E s)(hQ:∀a s',n<=s'.toks->Q a s'->Q' a s'):Zl8 M A t Q' E s:=fun Γ p hΓ =>
 Sem.wp_mono M Γ t (fun a _ s' ⟨h1,h2⟩=>hQ a s' h2 h1) (fun e _ s' ⟨h1,_⟩=>h1) p s (yh5 t p s hn (h Γ p hΓ))
section
variable(X:Cx)
noncomputable def PET(e:Expr)(t:TE):Prop :=
 ∀(pins:List (Addr×Obj)) (s:Zlo) (U:St) (H:Hp) (Q:VK),Inv X pins U H s->1<=s.toks->t U H Q->Zl8 (Zmh X.prog X.w) X.A (eval e X.env) (EP X pins U Q) X.xe s
noncomputable def PAT(es:List Expr)(t:TA):Prop :=
 ∀(pos:Pos) (pins:List (Addr×Obj)) (s:Zlo) (U:St) (H:Hp) (Q:List V->Hp->Prop),Inv X pins U H s->1<=s.toks->t U H Q->Zl8 (Zmh X.prog X.w) X.A (Zwt (Zpk pos (Zmk es X.env))) (AP X pins U Q) X.xe s
noncomputable def PST(st:Stmt)(t:TS):Prop :=
 ∀(pins:List (Addr×Obj)) (s:Zlo) (U:St) (H:Hp) (D:Ends),Inv X pins U H s->1<=s.toks->t D U H->Zl8 (Zmh X.prog X.w) X.A (exec st X.env) (SP X pins D) X.xe s
noncomputable def PSsT(st:List Stmt)(t:TS):Prop :=
 ∀(pins:List (Addr×Obj)) (s:Zlo) (U:St) (H:Hp) (D:Ends),Inv X pins U H s->1<=s.toks->t D U H->Zl8 (Zmh X.prog X.w) X.A (execs st X.env) (SP X pins D) X.xe s
noncomputable def PSB(st:Stmt)(t:TS):Prop :=
 ∀(pins:List (Addr×Obj)) (s:Zlo) (U:St) (H:Hp) (D:Ends),Inv X pins U H s->t D U H->Zl8 (Zmh X.prog X.w) X.A (exec st X.env) (fun f s'=>SP X pins D f s'/\1<=s'.toks) X.xe s
end
section
variable{X:Cx}{st:Stmt}{rest:List Stmt}{t u:TS}{a b e o:Expr}{es:List Expr}{ta tb te to:TE}{tr:TA}{pos:Pos}
theorem ycr(h1:PSB X st t)(h2:PSsT X rest u):PSs X (st::rest) (tSeq t u):=by
 intro pins s U H D I h
 refine Zr2 (thn (h1 pins s U H { D with nx:=u D } I h) fun f s1 hz9=>?_)
 obtain⟨q,ht⟩:=hz9
 cases f with
 | next =>
  obtain⟨U',H',I',q⟩:=q
  exact h2 pins s1 U' H' D I' ht q
 | ret v=>exact q
 | brk=>exact q
 | cont=>exact q
theorem zgf(h1:PS X st t)(h2:PSsT X rest u):PSsT X (st::rest) (tSeq t u):=by
 intro pins s U H D I hs h
 refine Zr2 (thnT hs (h1 pins s U H { D with nx:=u D } I h) fun f s1 ht q=>?_)
 cases f with
 | next =>
  obtain⟨U',H',I',q⟩:=q
  exact h2 pins s1 U' H' D I' ht q
 | ret v=>exact q
 | brk=>exact q
 | cont=>exact q
theorem yad(h1:PST X st t)(h2:PSs X rest u):PSsT X (st::rest) (tSeq t u):=by
 intro pins s U H D I hs h
 refine Zr2 (thn (h1 pins s U H { D with nx:=u D } I hs h) fun f s1 q=>?_)
 cases f with
 | next =>
  obtain⟨U',H',I',q⟩:=q
  exact h2 pins s1 U' H' D I' q
 | ret v=>exact q
 | brk=>exact q
 | cont=>exact q
theorem yi2{i:Nat}{x c:Str}{j:Nat}{p2 pos':Pos}(hN:X.N.Nodup)(hi:X.N[i]? = some x)(hx:Loc X.env.scope x)(hs:Zs0 (.Constant (.str c) j p2) (some (.Name x pos')) pos.line X.env=pure false:=by rfl)(hf:X.fn x=true\/X.env.scope.names.lookup x=some .local:=by first | exact .inl rfl | exact .inr rfl | assumption) :
  PSB X (.Assign [.Name x pos'] (.Constant (.str c) j p2) pos) (tAsg (tC (.str c)) (zin i)):=by
 intro pins s U H D I h
 refine Zvi (Zr4 ?_) hs
 refine thnT (n:=1) (Nat.succ_le_succ (Zmt _)) (zik (I.tok _) hN hi hx (show RelV (.str c) _ from⟨_,rfl⟩) (fun s2 I2=>(⟨_,H,I2,h⟩:SP X pins D .next s2)) hf) fun f s' ht q=>⟨q,ht⟩
theorem yg8{i:Nat}{x:Str}{e:Expr}{te:TE}{pos':Pos}(hN:X.N.Nodup)(hi:X.N[i]? = some x)(hx:Loc X.env.scope x)(he:PET X e te)(hs:Zs0 e (some (.Name x pos')) pos.line X.env=pure false:=by rfl)(hf:X.fn x=true\/X.env.scope.names.lookup x=some .local:=by first | exact .inl rfl | exact .inr rfl | assumption) :
  PST X (.Assign [.Name x pos'] e pos) (tAsg te (zin i)):=by
 intro pins s U H D I ht h
 refine Zvi (thn (he pins s U H _ I ht h) fun v s1 hz9=>?_) hs
 obtain⟨y,H1,I1,r1,q1⟩:=hz9
 exact zik I1 hN hi hx r1 (fun s2 I2=>⟨_,H1,I2,q1⟩) hf
theorem ylh{op:Ydp}{r:R2}(ho:OpR X (Zqr op) r)(ha:PE X a ta)(hb:PET X b tb):PET X (.BinOp a op b pos) (tOp r ta tb):=by
 intro pins s U H Q I hs h
 refine wpAny_BinOp (thnT hs (ha pins s U H _ I h) fun v s1 ht hz9=>?_)
 obtain⟨x,H1,I1,r1,q1⟩:=hz9
 refine thn (hb pins s1 U H1 _ I1 ht q1) fun u s2 hz9=>?_
 obtain⟨y,H2,I2,r2,q2⟩:=hz9
 exact ho pins s2 U H2 x y v u Q I2 r1 r2 q2
theorem yi4(h:PAT X es tr):PET X (.List es pos) (tLst tr):=by
 intro pins s U H Q I hs hq
 refine Yaa (thn (h pos pins s U H _ I hs hq) fun us s1 ⟨xs,H1,I1,r,z,q⟩=>⟨by rw[<- r.length];exact z,?_⟩)
 have hf:H1 s1.heap.objs.size=none:=I1.hok.fresh (Zlt _)
 exact⟨.ref s1.heap.objs.size,upd H1 s1.heap.objs.size (.lst xs),I1.laid (t':=s1.toks) (fun b u e=>Zlu _ e) (Zlt _) ⟨z,us,0,r,Zl3 _ rfl⟩,rfl,q _ hf⟩
theorem yep(ha:PE X e te)(hr:PAT X es tr)(hs:Zmk (e::es) X.env=(false,eval e X.env)::Zmk es X.env:=by rfl):PAT X (e::es) (za8 te tr):=by
 intro pos pins s U H Q I ht h
 rw[hs]
 show Zl8 _ _ (Zwt ((false,eval e X.env)::Zpk pos (Zmk es X.env))) _ _ s
 refine Zpe (thnT ht (ha pins s U H _ I h) fun u s1 ht1 hz9=>?_)
 obtain⟨x,H1,I1,r1,q1⟩:=hz9
 refine thn (hr pos pins s1 U H1 _ I1 ht1 q1) fun us s2 hz9=>?_
 obtain⟨xs,H2,I2,r2,q2⟩:=hz9
 exact⟨x::xs,H2,I2,.cons r1 r2,q2⟩
theorem yew(ha:PET X e te)(hr:PA X es tr)(hs:Zmk (e::es) X.env=(false,eval e X.env)::Zmk es X.env:=by rfl):PAT X (e::es) (za8 te tr):=by
 intro pos pins s U H Q I ht h
 rw[hs]
 show Zl8 _ _ (Zwt ((false,eval e X.env)::Zpk pos (Zmk es X.env))) _ _ s
 refine Zpe (thn (ha pins s U H _ I ht h) fun u s1 hz9=>?_)
 obtain⟨x,H1,I1,r1,q1⟩:=hz9
 refine thn (hr pos pins s1 U H1 _ I1 q1) fun us s2 hz9=>?_
 obtain⟨xs,H2,I2,r2,q2⟩:=hz9
 exact⟨x::xs,H2,I2,.cons r1 r2,q2⟩
noncomputable def yka(c d:Str)(to:TE):TE:=fun U H Q=>to U H fun x H1=>∃z,x= .str z/\z.length<=1048576/\Q (.str (Txt.replace z c d)) H1
theorem yey{c d:Str}{j1 j2:Nat}{p1 p2 apos cpos:Pos}(ho:PE X o to)(hcd:(c == d)=false)(hd:d.length<=14)
  (hbase:Zrb o "replace" X.env (eval o X.env)=eval o X.env:=by rfl)
  (hfew:((Zpk cpos (Zmk [.Constant (.str c) j1 p1,.Constant (.str d) j2 p2] X.env)).all (fun x=>!x.1)&&(Zp8 cpos (Zoj [] X.env)).all (fun x=>x.1.isSome)
   && decide (([.Constant (.str c) j1 p1,.Constant (.str d) j2 p2]:List Expr).length+([]:List Zte).length+(if ([]:List Zte).isEmpty then 0 else 1)<30))=true:=by rfl)
  (hline:(apos.endLine == cpos.line)=true:=by rfl)
  (hs:Zmk [.Constant (.str c) j1 p1,.Constant (.str d) j2 p2] X.env=[(false,eval (.Constant (.str c) j1 p1) X.env),(false,eval (.Constant (.str d) j2 p2) X.env)]:=by rfl) :
  PET X (.Call (.Attribute o "replace" apos) [.Constant (.str c) j1 p1,.Constant (.str d) j2 p2] [] cpos) (yka c d to):=by
 intro pins s U H Q I hs1 h
 refine Zyf hbase hfew hline rfl (thnT hs1 (ho pins s U H _ I h) fun v s1 ht hz9=>?_)
 obtain⟨x,H1,I1,r1,z,hx,hz,q1⟩:=hz9
 subst hx
 obtain⟨tk,rfl⟩:=r1
 refine⟨"str", "str.replace", PySem.F.plainAttrs_str,PySem.F.slot_str_replace,PySem.F.type_str_replace,Zo0 _ _ _,(fun _ e=>nomatch e),?_⟩
 rw[hs]
 refine Zq0 rfl (Ztg ?_)
 show Zl8 _ _ (Zwt [(false,eval (.Constant (.str c) j1 p1) X.env),(false,eval (.Constant (.str d) j2 p2) X.env)]) _ _ s1
 refine Zpe (Zr4 (Zpe (Zr4 ?_)))
 refine Zud ?_
 exact SC.replaceW (u:=s1.toks) (v:=s1.toks+1) (Ztc ht) (Nat.succ_ne_zero _) (Zmb (Znv _)) hcd hz hd fun t' k=>⟨.str _,H1,I1.tok _,⟨_,rfl⟩,q1⟩
end
end L2
namespace L2
open PySem PySem.W PySem.Spec PyProof.Rows
theorem yhc{l:List Nat}(h:∀c∈l,c<128):Zzu (T l)=T (l.map up1):=by
 rw[upper_ascii (by simpa[T] using h)]
 simp[T]
theorem yen{l:List Nat}(h:∀c∈l,c<128):Ydl (T l)=T (l.map lo1):=by
 rw[lower_ascii (by simpa[T] using h)]
 simp[T]
theorem yl5:∀c,c<128->up1 c<128:=by decide +kernel
theorem yky:∀c,c<128->lo1 c<128:=by decide +kernel
theorem dbl_mem{c:Nat}:∀{l:List Nat} {x:Nat},x∈Zqf c l->x∈l
 | [],_,h=>by cases h
 | k::r,x,h=>by
  rw[Zqf] at h
  split at h
  .rcases Zly.mp h with rfl | h
   .exact Zls
   .rcases Zly.mp h with rfl | h
    .exact Zls
    .exact Zlp _ (dbl_mem h)
  .rcases Zly.mp h with rfl | h
   .exact Zls
   .exact Zlp _ (dbl_mem h)
theorem zus(c:Nat):∀l:List Nat,(Zqf c l).length<=2*l.length
 | []=>Zlt _
 | k::r=>by
  have:=zus c r
  rw[Zqf]
  split <;> simp only[Zl1] <;> lia
section
variable{K:Zlh}{G H0 L:Hp}{ss:List Sl}{ta:TE}{l:List Nat}
theorem zqd(a:EvB K G H0 L ss ta (.str l))(hl:l.length<=100000):Ev K G H0 L ss (tBM0 K "str" zz4 ta) (.str (l.map lo1)):=fun F H U Q S q =>
 a F H U _ S fun v F1 H1 e1 r1=>by
  rw[r1.of_str]
  refine⟨rfl,T l,rfl,rfl,by rw[zb5];lia,?_⟩
  rw[yen r1.asc]
  exact q _ _ _ e1 (Rep.str fun z hz=>by
   obtain⟨c,hc,rfl⟩:=Zl2.mp hz
   exact yky c (r1.asc c hc))
theorem zsd(a:EvB K G H0 L ss ta (.str l))(hl:l.length<=100000):Ev K G H0 L ss (tBM0 K "str" ygb ta) (.str (l.map up1)):=fun F H U Q S q =>
 a F H U _ S fun v F1 H1 e1 r1=>by
  rw[r1.of_str]
  have e:=yhc r1.asc
  refine⟨rfl,T l,rfl,rfl,?_,?_⟩
  .rw[e,zb5,Zlm]
   unfold Zvx
   exact decide_eq_false (by rw[Zl7];lia)
  rw[e]
  exact q _ _ _ e1 (Rep.str fun z hz=>by
   obtain⟨c,hc,rfl⟩:=Zl2.mp hz
   exact yl5 c (r1.asc c hc))
theorem yhw{c d:Str}(hc:c=⟨#[32]⟩)(hd:d=⟨#[32,32]⟩)(a:EvB K G H0 L ss ta (.str l))(hl:l.length<=100000):Ev K G H0 L ss (yka c d ta) (.str (Zqf 32 l)):=fun F H U Q S q =>
 a F H U _ S fun v F1 H1 e1 r1=>by
  rw[r1.of_str]
  refine⟨T l,rfl,by rw[zb5];lia,?_⟩
  rw[replace_dbl _ _ _ 32 hc hd,zet]
  exact q _ _ _ e1 (Rep.str fun z hz=>r1.asc z (dbl_mem hz))
end
structure CMeth(K:Zlh)(C:Addr)(m:Str)(f:Addr):Prop where
 ga:specialIn K (.ref C) "__getattribute__" = some (some (.builtin "type.__getattribute__"))
 rd:readsIn K C (.type "type")=true
 fc:findCls K (.ref C) (.type "type") m=some (.val (.ref f))
 kp:keepIn K (.ref f)=true
section
variable{X:Cx}{CX:CXT}{C f:Addr}{m x:Str}{k:Nat}{fd:Zot}{ps:List Str}{sp:Sp}{ds:List Zll}{dvs:List V}{E:XK}{e:Expr}{es:List Expr}{t:TA}{p apos pos:Pos}
theorem zyk{pl:Sem Bool}(hg:Gl X x)(hm:X.mg x=some (.ref C))(M:CMeth X.K C m f)(F:FnOk X.prog X.w X.K X.mg X.base CX k f fd ps sp)(hr:Room k X.A)(hb:zcc X.K fd ps ds)(hd:Vals dvs ds)(hx:zju CX X E)(ha:PA X (e::es) t)
  (hdb:(x == ("__debug__" : Str))=false:=by decide) (hst:Zmk (e::es) X.env=(false,eval e X.env)::Zmk es X.env:=by rfl) (hpl:(Zpk pos (Zmk es X.env)).any (·.1)=false:=by rfl)
  (ht:eval (.Call (.Attribute (.Name x p) m apos) (e::es) [] pos) X.env=(do
   let ov <- eval (.Name x p) X.env
   Zxv apos.atName
   let (f,first) <- Zwu [ov] (Zu8 ov m pl)
   Zwk pos f first (Zpk pos (Zmk (e::es) X.env)) (Zp8 pos (Zoj [] X.env))):=by rfl) :
  PE X (.Call (.Attribute (.Name x p) m apos) (e::es) [] pos) (zk4 sp dvs E t):=by
 intro pins s U H Q I h
 refine Zq1 (pl:=pl) (thn (zee (v:=.ref C) hg hm rfl hdb pins s U H (fun v H1=>v= .ref C/\H1=H) I ⟨rfl,rfl⟩) fun u s1 hz9=>?_) ht
 obtain⟨v,H1,I1,rx,ev,eh⟩:=hz9
 subst ev eh
 obtain rfl:u=Znh C:=rx
 refine method_cls I1.kIn M.ga (cls_value I1.kIn M.rd M.fc rfl ?_)
 refine Zqn (first:=[]) (h₀:=X.base) I.ok.mod.kin M.kp (thn (ha pos pins _ U _ _ (I1.tok _) h) fun us s2 ⟨vs,H2,I2,r,q2⟩=>⟨I2.kIn,?_⟩) hst hpl
 exact zsb F hr hb hd hx I2 r q2
end
noncomputable def yag(C:Addr)(n1 n2:Str)(c:V):Sp:=fun vs H Q _=>∃(x dx:Addr) (u:V),vs=[.ref x,u]/\H x=some (.ins C dx [])/\H dx=some (.own x)/\Q .non (upd H x (.ins C dx [(n1,u),(n2,c)]))
section
variable{K:Zlh}{G H0 L:Hp}{ss:List Sl}{i:Nat}{C:Addr}{t:TA}{E:XK}{D0:Ends}{c:V}
theorem yjl{i j:Nat}{d1 d2:D}(a:EvAF K G H0 L ss t [d1,d2])(h:Nx K G H0 L D0.nx ((ss.set i (.d d1)).set j (.d d2))):Go K G H0 L D0 ss (tPar i j t):=fun F H U S =>
 a F H U _ S fun vs F1 H1 e1 r1=>by
  rw[Reps] at r1
  obtain⟨v1,r,rfl,rv1,r1⟩:=r1
  rw[Reps] at r1
  obtain⟨v2,r',rfl,rv2,r1⟩:=r1
  rw[Reps] at r1
  subst r1
  exact⟨v1,v2,rfl,h F1 H1 _ (((S.ext2 e1).setD rv1).setD rv2)⟩
end
theorem zwh:∀{a b:List D},a.all D.isK=true->b.all D.isK=true->a.map D.key=b.map D.key->a=b
 | [],[],_,_,_=>rfl
 | [],_::_,_,_,h=>by cases h
 | _::_,[],_,_,h=>by cases h
 | x::a,y::b,ha,hb,h=>by
  rw[Zt6,Zmd] at ha hb
  rw[Zl0,Zl0] at h
  injection h with h1 h2
  rw[zun ha.1 hb.1 h1,zwh ha.2 hb.2 h2]
theorem zow{a b:D}(ha:a.isT=true)(hb:b.isT=true)(h:a.tkey=b.tkey):a=b:=by
 cases a <;> simp only[D.isT] at ha <;> try (cases ha;done)
 cases b <;> simp only[D.isT] at hb <;> try (cases hb;done)
 rw[zwh ha hb h]
theorem zjx{K:Zlh}{H:Hp}:∀{l:List D} {vs:List V},l.all D.isK=true->Reps K H l vs->vs=(l.map D.key).map kV
 | [],vs,_,r=>by rw[Reps] at r;subst r;rfl
 | d::l,vs,h,r=>by
  rw[Zt6,Zmd] at h
  rw[Reps] at r
  obtain⟨v,r',rfl,rv,r⟩:=r
  rw[Zl0,Zl0,zp5 h.1 rv,zjx h.2 r]
inductive Dkt(K:Zlh)(F:Hp):DD->List (List Key×V)->Prop
 | nil:Dkt K F [] []
 | cons {k d:D} {v:V} {kvs:DD} {xs:List (List Key×V)} (hk:k.isT=true) (r:Rep K F d v) (t:Dkt K F kvs xs):Dkt K F ((k,d)::kvs) ((k.tkey,v)::xs)
section
variable{K:Zlh}{F F':Hp}{kvs:DD}{xs:List (List Key×V)}
theorem Dkt.mono(h:Dkt K F kvs xs)(s:Same F F'):Dkt K F' kvs xs:=by
 induction h with
 | nil=>exact .nil
 | cons hk r t ih=>exact .cons hk (r.mono s) ih
theorem Dkt.length(h:Dkt K F kvs xs):kvs.length=xs.length:=by
 induction h with
 | nil=>rfl
 | cons hk r t ih=>simp[ih]
theorem Dkt.val(h:Dkt K F kvs xs){k:D}(hk:k.isT=true):(valD kvs k=none/\valV xs k.tkey=none) \/ ∃d v,valD kvs k=some d/\valV xs k.tkey=some v/\Rep K F d v:=by
 induction h with
 | nil=>exact .inl ⟨rfl,rfl⟩
 | @cons k' d v kvs xs hk' r t ih =>
  by_cases e:k'=k
  .subst e
   exact .inr ⟨d,v,by simp[valD],by simp[valV],r⟩
  .have e2:k'.tkey≠k.tkey:=fun z=>e (zow hk' hk z)
   have h1:valD ((k',d)::kvs) k=valD kvs k:=by simp[valD,Zn5,e]
   have h2:valV ((k'.tkey,v)::xs) k.tkey=valV xs k.tkey:=by simp[valV,Zn5,e2]
   rw[h1,h2];exact ih
theorem Dkt.any(h:Dkt K F kvs xs){k:D}(hk:k.isT=true):(kvs.any fun kv=>decide (kv.1=k))=xs.any fun kv=>decide (kv.1=k.tkey):=by
 induction h with
 | nil=>rfl
 | @cons k' d v kvs xs hk' r t ih =>
  rw[Zp9,Zp9,ih]
  congr 1
  by_cases e:k'=k
  .subst e;simp
  .have e2:k'.tkey≠k.tkey:=fun z=>e (zow hk' hk z)
   rw[decide_eq_false e,decide_eq_false e2]
theorem Dkt.snoc(h:Dkt K F kvs xs){k d:D}{v:V}(hk:k.isT=true)(r:Rep K F d v):Dkt K F (kvs++[(k,d)]) (xs++[(k.tkey,v)]):=by
 induction h with
 | nil=>exact .cons hk r .nil
 | cons hk' r' t ih=>exact .cons hk' r' ih
theorem Dkt.put(h:Dkt K F kvs xs){k d:D}{v:V}(hk:k.isT=true)(r:Rep K F d v):Dkt K F (putD kvs k d) (putK xs k.tkey v):=by
 unfold putD putK
 rw[h.any hk]
 by_cases hc:(xs.any fun kv=>decide (kv.1=k.tkey))=true
 .rw[if_pos hc,if_pos hc]
  clear hc
  induction h with
  | nil=>exact .nil
  | @cons k' d' v' kvs xs hk' r' t ih =>
   rw[Zl0,Zl0]
   by_cases e:k'=k
   .subst e;rw[if_pos rfl,if_pos rfl];exact .cons hk' r ih
   .have e2:k'.tkey≠k.tkey:=fun z=>e (zow hk' hk z)
    rw[if_neg e,if_neg e2];exact .cons hk' r' ih
 .rw[if_neg hc,if_neg hc];exact h.snoc hk r
end
noncomputable def tsl(K:Zlh)(b:Addr)(ds:List D):Sl:=.g (.ref b) [] fun F _=>∃vs,F b=some (.tup vs)/\Reps K F ds vs
theorem ydr(K:Zlh)(b:Addr)(ds:List D):Stab [] fun F _=>∃vs,F b=some (.tup vs)/\Reps K F ds vs:=fun F1 H1 F2 H2 sf _ ⟨vs,h,r⟩=>⟨vs,sf _ _ h,r.mono sf⟩
noncomputable def dWT(K:Zlh)(p:Addr)(kvs:DD):Hp->Hp->Prop:=fun F H=>∃xs,H p=some (.dT xs)/\Dkt K F kvs xs
noncomputable def dslT(K:Zlh)(p:Addr)(kvs:DD):Sl:=.g (.ref p) [p] (dWT K p kvs)
theorem zuw(K:Zlh)(p:Addr)(kvs:DD):Stab [p] (dWT K p kvs):=fun F1 H1 F2 H2 sf hh ⟨xs,h1,h2⟩=>⟨xs,by rw[hh p (by simp)];exact h1,h2.mono sf⟩
section
variable{K:Zlh}{G H0 L:Hp}{ss:List Sl}{i j:Nat}{p b:Addr}{kvs:DD}{E:Ends}{ty td tv tx:TE}{t:TA}{k d z:D}{ds:List D}
theorem Sat.getT{F H:Hp}{U:St}(S:Sat K G H0 L F H U ss)(hs:ss[i]? = some (tsl K b ds)):U[i]? = some (some (.ref b)) /\ ∃vs,F b=some (.tup vs)/\Reps K F ds vs:=by
 obtain⟨v,e,ew,ha,hw,st⟩:=S.get hs (by intro z;cases z)
 cases ew
 exact⟨e,hw⟩
theorem yaq(a:EvAF K G H0 L ss t ds)(hz:ds.length<=sizeLine)(h:∀b,Nx K G H0 L E.nx (ss.set i (tsl K b ds))):Go K G H0 L E ss (tAsg (tTup t) (zin i)):=fun F H U S =>
 a F H U _ S fun vs F1 H1 e1 r1=>⟨by rw[<- r1.length];exact hz,fun p hp=>by
  have e:=e1.newF (o:=.tup vs) hp
  have S4:=S.ext2 e
  refine h p _ _ _ (S4.put S4.ext S4.fl (by simp) (fun j hj=>zfo (Zne hj)) (fun hi=>?_) (by simp[tsl,Sl.ads]) (fun j s' hj hs q hq=>by simp[tsl,Sl.ads] at hq) fun j s' hj hs=>S4.ok j s' hs)
  rw[zc5 (by rw[S.len];exact hi)]
  exact⟨rfl,(fun a ha=>absurd ha Zno),⟨vs,zal,r1.mono (Same.upd (e1.fh.free hp))⟩,ydr K p ds⟩⟩
theorem Sat.getMT{F H:Hp}{U:St}(S:Sat K G H0 L F H U ss)(hs:ss[i]? = some (dslT K p kvs)):U[i]? = some (some (.ref p))/\H0 p=none/\F p=none /\ ∃xs,H p=some (.dT xs)/\Dkt K F kvs xs:=by
 obtain⟨v,e,ew,ha,hw,st⟩:=S.get hs (by intro z;cases z)
 cases ew
 obtain⟨h0,fp,_⟩:=ha p (by simp)
 exact⟨e,h0,fp,hw⟩
theorem Sat.writeMT{F H:Hp}{U:St}{kvs':DD}{xs:List (List Key×V)}(S:Sat K G H0 L F H U ss)(hs:ss[i]? = some (dslT K p kvs))(r:Dkt K F kvs' xs):Sat K G H0 L F (upd H p (.dT xs)) U (ss.set i (dslT K p kvs')):=by
 obtain⟨e,h0,fp,ys,hp,_⟩:=S.getMT hs
 have hget:U.getD i none=some (.ref p):=by rw[Zlk,e];rfl
 refine S.put (S.ext.write fp h0) S.fl rfl (fun _ _=>rfl) (fun _=>?_) (by simp[dslT,Sl.ads]) (fun j s' hj h q hq=>?_) fun j s' hj h=>(S.ok j s' h).updNe (S.ne i j _ s' (Zne hj) hs h p (by simp[dslT,Sl.ads]))
 .rw[hget]
  exact⟨rfl,fun a ha=>by rw[Zlz.mp ha];exact⟨h0,fp,_,zal,trivial⟩,⟨xs,zal,r⟩,zuw K p kvs'⟩
 .have:q=p:=by simpa[dslT,Sl.ads] using hq
  subst this
  exact S.ne i j _ s' (Zne hj) hs h q (by simp[dslT,Sl.ads])
theorem ydg(h:∀p,Nx K G H0 L E.nx (ss.set i (dslT K p []))):Go K G H0 L E ss (tAsg yfs (zin i)):=fun F H U S p hp=>by
 have e:=(Ext.refl S.ext.fh).newO (o:=.dT []) hp
 have S':=S.ext2 e
 refine h p F _ _ (S'.put S'.ext S'.fl (by simp) (fun j hj=>zfo (Zne hj)) (fun hi=>?_) (by simp[dslT,Sl.ads]) (fun j s' hj hs q hq=>?_) fun j s' hj hs=>S'.ok j s' hs)
 .rw[zc5 (by rw[S.len];exact hi)]
  exact⟨rfl,fun a ha=>by rw[Zlz.mp ha];exact⟨S.ext.hh.free hp,S.ext.fh.free hp,_,zal,trivial⟩,⟨[],zal,.nil⟩,zuw K p []⟩
 .have:q=p:=by simpa[dslT,Sl.ads] using hq
  subst this
  exact fun hin=>(S.ok j s' hs).live hin hp
theorem ye5(hs:ss[i]? = some (dslT K p kvs))(hj:ss[j]? = some (tsl K b ds))(hk:ds.all D.isK=true)(hv:valD kvs (.tup ds)=some d):Ev K G H0 L ss (yjw (tVar i) (tVar j)) d:=fun F H U Q S q=>by
 obtain⟨e,_,_,xs,hp,dk⟩:=S.getMT hs
 obtain⟨e2,vs,hb,r⟩:=S.getT hj
 refine⟨_,e,_,e2,?_⟩
 rcases dk.val (k:=.tup ds) hk with ⟨h1,_⟩ | ⟨d',w,h1,h2,rw'⟩
 .rw[h1] at hv;cases hv
 .rw[h1] at hv;cases hv
  refine⟨p,w,rfl,?_,q w F H (Ext.refl S.ext.fh) rw'⟩
  rw[<- h2]
  exact DGet.t hp (by rw[S.ext.fh _ _ hb,zjx hk r];rfl)
theorem zx8(hs:ss[i]? = some (dslT K p kvs))(hj:ss[j]? = some (tsl K b ds))(hk:ds.all D.isK=true):Ev K G H0 L ss (ybj (tVar j) (tVar i)) (.bl (!(valD kvs (.tup ds)).isSome)):=fun F H U Q S q=>by
 obtain⟨e,_,_,xs,hp,dk⟩:=S.getMT hs
 obtain⟨e2,vs,hb,r⟩:=S.getT hj
 refine⟨_,e2,_,e,p,valV xs (D.tup ds).tkey,rfl,DGet.t hp (by rw[S.ext.fh _ _ hb,zjx hk r];rfl),q _ F H (Ext.refl S.ext.fh) ?_⟩
 have:(valV xs (D.tup ds).tkey).isSome=(valD kvs (.tup ds)).isSome:=by
  rcases dk.val (k:=.tup ds) hk with ⟨h1,h2⟩ | ⟨d',w,h1,h2,_⟩ <;> rw[h1,h2] <;> rfl
 rw[this];exact Rep.bl
theorem yfm(hs:ss[i]? = some (dslT K p kvs))(hj:ss[j]? = some (tsl K b ds))(hk:ds.all D.isK=true)(a:Ev K G H0 L ss tv d)(hz:kvs.length<sizeLine)(h:Nx K G H0 L E.nx (ss.set i (dslT K p (putD kvs (.tup ds) d)))):Go K G H0 L E ss (ylp (tVar i) (tVar j) tv):=fun F H U S =>
 a F H U _ S fun v F1 H1 e1 r1=>by
  have S1:=S.ext2 e1
  obtain⟨e,_,_,xs,hp,dk⟩:=S1.getMT hs
  obtain⟨e2,vs,hb,r⟩:=S1.getT hj
  refine⟨_,e,_,e2,p,_,rfl,DPut.t (k:=(D.tup ds).tkey) (v:=v) hp (by rw[S1.ext.fh _ _ hb,zjx hk r];rfl) (by rw[<- dk.length];exact hz),h F1 _ U (S1.writeMT hs (dk.put hk r1))⟩
end
noncomputable def MOk(X:Cx)(E:XK)(m:Str)(C:Addr)(sp:Sp):Prop:=∃f fd ps k,Cls X.K C/\Meth X.K C m f/\FnOk X.prog X.w X.K X.mg X.base CX0 k f fd ps sp/\Room k X.A/\zcc X.K fd ps []
noncomputable def MOks(X:Cx)(E:XK)(m:Str)(fam:List (Addr×Sp)):Prop:=∀q∈fam,MOk X E m q.1 q.2
theorem yaz{X:Cx}{E:XK}{m:Str}:MOks X E m []:=fun _ h=>nomatch h
theorem zdq{X:Cx}{E:XK}{m:Str}{C f:Addr}{sp:Sp}{fd:Zot}{ps:List Str}{k:Nat}{fam:List (Addr×Sp)}(c:Cls X.K C)(hm:Meth X.K C m f)(F:FnOk X.prog X.w X.K X.mg X.base CX0 k f fd ps sp)(hr:Room k X.A)(hb:zcc X.K fd ps [])(r:MOks X E m fam) :
  MOks X E m ((C,sp)::fam):=fun q h=>by
 rcases Zly.mp h with rfl | h
 .exact⟨f,fd,ps,k,c,hm,F,hr,hb⟩
 .exact r q h
noncomputable def zsc(fam:List (Addr×Sp))(m:Str)(E:XK)(ta:TE)(t:TA):TE:=fun U H Q=>ta U H fun x H1=>∃a C dx fs sp,x= .ref a/\H1 a=some (.ins C dx fs)/\(C,sp)∈fam/\fs.lookup m=none/\t U H1 fun vs H2=>sp (.ref a::vs) H2 Q E
section
variable{X:Cx}{E:XK}{m:Str}{apos pos:Pos}{e o:Expr}{es:List Expr}{ta:TE}{t:TA}{fam:List (Addr×Sp)}
theorem yd7{pl:Sem Bool}(he:PE X o ta)(M:MOks X E m fam)(hx:zju CX0 X E)(ha:PA X (e::es) t)
  (hst:Zmk (e::es) X.env=(false,eval e X.env)::Zmk es X.env:=by rfl) (hpl:(Zpk pos (Zmk es X.env)).any (·.1)=false:=by rfl)
  (ht:eval (.Call (.Attribute o m apos) (e::es) [] pos) X.env=(do
   let ov <- eval o X.env
   Zxv apos.atName
   let (f,first) <- Zwu [ov] (Zu8 ov m pl)
   Zwk pos f first (Zpk pos (Zmk (e::es) X.env)) (Zp8 pos (Zoj [] X.env))):=by rfl) :
  PE X (.Call (.Attribute o m apos) (e::es) [] pos) (zsc fam m E ta t):=by
 intro pins s U H Q I h
 refine Zq1 (pl:=pl) (thn (he pins s U H _ I h) fun u s1 hz9=>?_) ht
 obtain⟨x,H1,I1,rx,a,C,dx,fs,sp,ex,ea,hf,l,q⟩:=hz9
 subst ex
 obtain rfl:u=Znh a:=rx
 obtain⟨f,fd,ps,k,c,hm,F,hr,hb⟩:=M _ hf
 refine zj1 I1 ea c hm l ?_
 refine Zqn (first:=[.ref a]) (h₀:=X.base) I.ok.mod.kin hm.kp (thn (ha pos pins s1 U H1 _ I1 q) fun us s2 ⟨vs,H2,I2,r,q2⟩=>⟨I2.kIn,?_⟩) hst hpl
 exact zsb (us:=.ref a::us) (vs:=.ref a::vs) (dvs:=[]) F hr hb .nil hx I2 (.cons rfl r) (by rw[Zm1];exact q2)
theorem yaf{pl:Sem Bool}(he:PE X o ta)(M:MOks X E m fam)(hx:zju CX0 X E)
  (ht:eval (.Call (.Attribute o m apos) [] [] pos) X.env=(do
   let ov <- eval o X.env
   Zxv apos.atName
   let (f,first) <- Zwu [ov] (Zu8 ov m pl)
   Zwk pos f first (Zpk pos (Zmk [] X.env)) (Zp8 pos (Zoj [] X.env))):=by rfl) :
  PE X (.Call (.Attribute o m apos) [] [] pos) (zsc fam m E ta tNil):=by
 intro pins s U H Q I h
 refine Zq1 (pl:=pl) (thn (he pins s U H _ I h) fun u s1 hz9=>?_) ht
 obtain⟨x,H1,I1,rx,a,C,dx,fs,sp,ex,ea,hf,l,q⟩:=hz9
 subst ex
 obtain rfl:u=Znh a:=rx
 obtain⟨f,fd,ps,k,c,hm,F,hr,hb⟩:=M _ hf
 refine zj1 I1 ea c hm l ?_
 exact PySem.W.callWith_K0 (first:=[.ref a]) I1.kIn hm.kp (zsb (us:=[.ref a]) (vs:=[.ref a]) (dvs:=[]) F hr hb .nil hx I1 (.cons rfl .nil) q)
end
section
variable{K:Zlh}{G H0 L:Hp}{ss:List Sl}{i:Nat}{C:Addr}{ta:TE}{t:TA}{E:XK}{D0:Ends}{c:V}{ns:List Str}{vs ds:List D}{d:D}{pre:List (Str×V)->List D->Prop}{res:List (Str×V)->List D->D}
theorem zlk{n1 n2:Str}{w:Int}{l:List Nat}(a:EvAF K G H0 L ss t [.int w,.str l]):Ev K G H0 L ss (yi7 C (zj8 C n1 n2) [] E t) (.ins C [n1,n2] [.int w,.str l]):=fun F H U Q S q =>
 a F H U _ S fun vs F1 H1 e1 r1=>by
  have r0:=r1
  rw[Reps] at r1
  obtain⟨v1,r,rfl,rv1,r1⟩:=r1
  rw[Reps] at r1
  obtain⟨v2,r',rfl,rv2,r1⟩:=r1
  rw[Reps] at r1
  subst r1
  intro x dx hx hdx hne
  refine⟨x,dx,v1,v2,rfl,zal,by rw[zat hne];exact zal,rfl,?_⟩
  rw[upd2]
  have e2:=(Ext.refl e1.fh).newF (o:=.own x) hdx
  have hx2:upd H1 dx (.own x) x=none:=by rw[zat (Zne hne)];exact hx
  have e3:=e2.newF (o:=.ins C dx [(n1,v1),(n2,v2)]) hx2
  exact q _ _ _ (e1.trans e3) (Rep.ins (fs:=[(n1,v1),(n2,v2)]) zal (by rw[zat hne];exact zal) (r0.mono e3.gf))
theorem ydy{n1 n2:Str}{w:Int}{l:List Nat}(hl:∀c∈l,c<128)(a:EvAF K G H0 L ss t [.int w]):Ev K G H0 L ss (yi7 C (yag C n1 n2 (.str (T l))) [] E t) (.ins C [n1,n2] [.int w,.str l]):=fun F H U Q S q =>
 a F H U _ S fun vs F1 H1 e1 r1=>by
  rw[Reps] at r1
  obtain⟨v1,r,rfl,rv1,r1⟩:=r1
  rw[Reps] at r1
  subst r1
  intro x dx hx hdx hne
  refine⟨x,dx,v1,rfl,zal,by rw[zat hne];exact zal,rfl,?_⟩
  rw[upd2]
  have e2:=(Ext.refl e1.fh).newF (o:=.own x) hdx
  have hx2:upd H1 dx (.own x) x=none:=by rw[zat (Zne hne)];exact hx
  have e3:=e2.newF (o:=.ins C dx [(n1,v1),(n2,.str (T l))]) hx2
  exact q _ _ _ (e1.trans e3) (Rep.ins (fs:=[(n1,v1),(n2,.str (T l))]) zal (by rw[zat hne];exact zal) (Reps.cons (rv1.mono e3.gf) (Reps.cons (Rep.str hl) Reps.nil)))
theorem yav{f:Str}{n1 n2:Str}{w l:D}(a:Ev K G H0 L ss ta (.ins C [n1,n2] [w,l]))(cl:Cls K C)(n:zbt K C f)(hf:(f=n1/\d=w)\/((f == n1)=false/\f=n2/\d=l)):Ev K G H0 L ss (tFld K ta f) d:=fun F H U Q S q =>
 a F H U _ S fun v F1 H1 e1 r1=>by
  obtain⟨x,dx,fs,rfl,hx,hd,hn,rv⟩:=r1.of_ins
  match fs,hn,rv with
  | [(a1,v1),(a2,v2)],hn,rv =>
   simp only[Zl0,Zp6,Zol,and_true] at hn
   obtain⟨rfl,rfl⟩:=hn
   rw[Zl0,Zl0,Zp6,Reps] at rv
   obtain⟨_,_,e,ra,rv⟩:=rv
   cases e
   rw[Reps] at rv
   obtain⟨_,_,e,rb,rv⟩:=rv
   cases e
   rcases hf with ⟨rfl,rfl⟩ | ⟨hne,rfl,rfl⟩
   .exact⟨x,C,dx,_,v1,rfl,e1.fh _ _ hx,cl,n,by simp[Znz],q _ F1 H1 e1 ra⟩
   .exact⟨x,C,dx,_,v2,rfl,e1.fh _ _ hx,cl,n,by simp only[Znz,hne];simp,q _ F1 H1 e1 rb⟩
  | [],hn,rv=>cases hn
  | [_],hn,rv=>simp at hn
  | _::_::_::_,hn,rv=>simp at hn
theorem zdn{fam:List (Addr×Sp)}{m:Str}{n1 n2:Str}{w:Int}{l:List Nat}(a:Ev K G H0 L ss ta (.ins C [n1,n2] [.int w,.str l]))(hm:(C,SpI K C pre res)∈fam)(h1:(m == n1)=false)(h2:(m == n2)=false)(b:EvAF K G H0 L ss t ds)
  (hp:pre [(n1,.int w),(n2,.str (T l))] ds):Ev K G H0 L ss (zsc fam m E ta t) (res [(n1,.int w),(n2,.str (T l))] ds):=fun F H U Q S q =>
 a F H U _ S fun v F1 H1 e1 r1=>by
  obtain⟨x,dx,fs,rfl,hx,hd,hn,rv⟩:=r1.of_ins
  match fs,hn,rv with
  | [(a1,v1),(a2,v2)],hn,rv =>
   simp only[Zl0,Zp6,Zol,and_true] at hn
   obtain⟨rfl,rfl⟩:=hn
   rw[Zl0,Zl0,Zp6,Reps] at rv
   obtain⟨_,_,e,ra,rv⟩:=rv
   cases e
   rw[Reps] at rv
   obtain⟨_,_,e,rb,rv⟩:=rv
   cases e
   cases ra.of_int
   cases rb.of_str
   refine⟨x,C,dx,_,_,rfl,e1.fh _ _ hx,hm,by simp only[Znz,h1,h2],?_⟩
   have S1:=S.ext2 e1
   exact b F1 H1 U _ S1 fun ws F2 H2 e2 r2=>⟨F2,ds,x,dx,_,ws,e2.fh,rfl,e2.gf _ _ hx,e2.gf _ _ hd,r2,hp,fun v G' H' e3 r=>q v G' H' ((e1.trans e2).trans e3) r⟩
  | [],hn,rv=>cases hn
  | [_],hn,rv=>simp at hn
  | _::_::_::_,hn,rv=>simp at hn
end
noncomputable def yeg(xs:List V)(H:Hp)(Q:V->Hp->Prop):Prop:=∃i:Int,xs=[.int i]/\i.natAbs.log2<1920/\Q (.str (Zw7 (toString i))) H
noncomputable def yev(xs:List V)(H:Hp)(Q:V->Hp->Prop):Prop:=∃(x:Str) (n:Int),xs=[.str x]/\PySem.intText? x=some n/\x.length<=640/\Q (.int n) H
section
variable{X:Cx}
theorem zrs:zb4 X (.type "str") yeg:=by
 intro pins s U H xs us Q I r h
 obtain⟨i,rfl,hi,q⟩:=h
 obtain⟨u,rfl,t,rfl⟩:=zhi r
 exact P.str_of_int hi ⟨.str _,H,I.tok _,⟨_,rfl⟩,q⟩
theorem zsr:zb4 X (.type "int") yev:=by
 intro pins s U H xs us Q I r h
 obtain⟨x,n,rfl,hn,hl,q⟩:=h
 obtain⟨u,rfl,t,rfl⟩:=zhi r
 exact KIN.call_text hn hl ⟨.int n,H,I.tok _,⟨_,rfl⟩,q⟩
end
noncomputable def numL(n:Nat):List Nat:=(Ztb 10 n).map Yct
theorem zzj(n:Nat):Zw7 (toString (n:Int))=T (numL n):=by
 have h:=KIN.signs_num n
 have e:∀x y:Str,x.cps.toList=y.cps.toList->x=y:=fun x y h=>by
  cases x;cases y;congr 1;exact Zss.mp h
 exact e _ _ (by rw[h,zet];rfl)
theorem zg4(n:Nat):∀c∈numL n,48<=c/\c<=57:=fun c hc=>by
 obtain⟨ch,hch,e⟩:=Zl2.mp hc
 have r:=digit_range (Nat.isDigit_of_mem_toDigits (by decide) (by decide) hch)
 rw[<- e]
 exact r
theorem zv2(n:Nat):Zqw (numL n)=n:=KIN.val_back n
theorem zr9:∀n:Nat,0<n-> ∃c r,numL n=c::r/\49<=c/\c<=57:=fun n=>by
 induction n using Nat.strongRecOn with
 | _ m ih =>
  intro h0
  by_cases h:m<10
  .unfold numL
   rw[Nat.toDigits_of_lt_base h]
   exact⟨_,[],rfl,(show ∀k:Nat,k<10->0<k->49<=(Ybh k).toNat/\(Ybh k).toNat<=57 by decide) m h h0⟩
  .have hm:m % 10<10:=Zrw m (by decide)
   have t:Ztb 10 (m / 10)++Ztb 10 (m % 10)=Ztb 10 (10*(m / 10)+m % 10):=Nat.toDigits_append_toDigits (by decide) (by omega) hm
   rw[Nat.div_add_mod] at t
   obtain⟨c,r,e,h1⟩:=ih (m / 10) (by omega) (by omega)
   refine⟨c,r++numL (m % 10),?_,h1⟩
   show(Ztb 10 m).map Yct=_
   rw[<- t,Znc]
   show numL (m / 10)++numL (m % 10)=_
   rw[e];rfl
theorem yeb{n:Nat}(h:n<10 ^ 10):(numL n).length<=10:=by
 have:=KT.len_num (n:=(n:Int)) (by omega) (by have:((10:Int) ^ 10)=((10 ^ 10:Nat):Int):=rfl;rw[this];exact Int.ofNat_lt.mpr h)
 rw[zzj,zb5] at this
 exact this
section
variable{K:Zlh}{G H0 L:Hp}{ss:List Sl}{te:TE}
theorem zzs{i:Int}(a:EvB K G H0 L ss te (.int i))(h0:0<=i)(h1:i<10 ^ 10):Ev K G H0 L ss (tCB yeg (za8 te tNil)) (.str (numL i.toNat)):=fun F H U Q S q =>
 a F H U _ S fun v F1 H1 e1 r1=>⟨i,by rw[r1.of_int],by
  have hb:i.natAbs<2 ^ 1920:=by
   have h2:i.natAbs<10 ^ 10:=by omega
   exact Zmf h2 (Znm (show 10 ^ 10<=2 ^ 64 by decide) (Zxo (by decide) (by decide)))
  by_cases z:i.natAbs=0
  .rw[z];decide
  .exact(Nat.log2_lt z).mpr hb,by
  obtain⟨n,rfl⟩:=Int.eq_ofNat_of_zero_le h0
  rw[zzj]
  exact q _ _ _ e1 (Rep.str fun c hc=>by have:=(zg4 n c hc).2;omega)⟩
theorem yb9{l:List Nat}(a:EvB K G H0 L ss te (.str l))(h:∀c∈l,48<=c/\c<=57)(h1:l≠[])(h2:l.length<=640):Ev K G H0 L ss (tCB yev (za8 te tNil)) (.int (Zqw l:Nat)):=fun F H U Q S q =>
 a F H U _ S fun v F1 H1 e1 r1=>by
  have e:=PySem.intText_digits (x:=T l) (by rw[zet];exact h) (by rw[zet];exact h1) (by rw[zb5];omega)
  rw[zet] at e
  exact⟨T l,_,by rw[r1.of_str],e,by rw[zb5];exact h2,q _ _ _ e1 Rep.int⟩
end
section
variable{K:Zlh}{G H0 L:Hp}{ss:List Sl}{C:Addr}{ta tb:TE}{ns:List Str}{vs:List D}{d:D}
theorem ymm{u:TT}{b:Bool}(a:EvT K G H0 L ss u b)(h1:b=true->Ev K G H0 L ss ta d)(h2:b=false->Ev K G H0 L ss tb d):Ev K G H0 L ss (tIf u ta tb) d:=fun F H U Q S q=>a F H U _ S fun F' H' e=>by
 cases b with
 | false=>exact iteF (h2 rfl _ _ _ _ (S.ext2 e) fun v F'' H'' e' r=>q _ _ _ (e.trans e') r)
 | true=>exact iteT (h1 rfl _ _ _ _ (S.ext2 e) fun v F'' H'' e' r=>q _ _ _ (e.trans e') r)
end
end L2
namespace My
open PySem L2 PyProof.Rows
noncomputable def ymp(acc:List Nat)(c:Nat):List Nat:=if c≠32\/(acc≠[]/\acc.getLast? ≠ some 32) then acc++[lo1 c] else acc
noncomputable def trim(r:List Nat):List Nat:=if r≠[]/\r.getLast? = some 32 then r.dropLast else r
noncomputable def plain(l:List Nat):List Nat:=trim (l.foldl ymp [])
noncomputable def ymu:List (List Nat)->List Nat
 | []=>[]
 | [p]=>p
 | p::q::r=>p++32::ymu (q::r)
noncomputable def ynn(acc:List Nat)(c:Nat):List Nat:=if c≠32\/(acc≠[]/\acc.getLast? ≠ some 32) then acc++[c] else acc
noncomputable def yni(acc:List Nat):Prop:=acc=[]\/acc.getLast? = some 32
noncomputable def up:List Nat:=(Zl6 26).map (65 + ·)
noncomputable def dn:List Nat:=(Zl6 26).map (97 + ·)
end My
namespace My
open PySem L2 PyProof.Rows
structure Asc(n:Nat)(l:List Nat):Prop where
 lt:∀c∈l,c<128
 len:l.length<=n
end My
namespace My
open PySem L2 PyProof.Rows
noncomputable def sV(c:Nat):V:=.str (T [c])
end My
namespace My
open PySem L2 PyProof.Rows
noncomputable def cpl:List Nat->List Nat->Nat
 | a::x,b::y=>if a=b then cpl x y+1 else 0
 | _,_=>0
theorem zu4:∀p q,cpl p q=cpl q p
 | [],[]=>rfl
 | [],_::_=>rfl
 | _::_,[]=>rfl
 | a::x,b::y=>by
  unfold cpl
  by_cases h:a=b
  .subst h;rw[if_pos rfl,if_pos rfl,zu4 x y]
  .rw[if_neg h,if_neg (fun e=>h e.symm)]
theorem zvj:∀p q,cpl p q<=p.length/\cpl p q<=q.length
 | [],[]=>by simp[cpl]
 | [],_::_=>by simp[cpl]
 | _::_,[]=>by simp[cpl]
 | a::x,b::y=>by
  have:=zvj x y
  unfold cpl
  split <;> simp <;> omega
theorem yfw:∀(a:Nat) (p q:List Nat),p.take a=q.take a->a<=p.length->a<=q.length->(¬ (a<p.length/\a<q.length)\/p[a]? ≠ q[a]?)->cpl p q=a
 | 0,p,q,_,_,_,h=>by
  cases p with
  | nil=>cases q <;> rfl
  | cons x p =>
   cases q with
   | nil=>rfl
   | cons y q =>
    rcases h with h | h
    .simp at h
    .unfold cpl;rw[if_neg];intro e;apply h;simp[e]
 | a+1,p,q,e,h1,h2,h=>by
  cases p with
  | nil=>simp at h1
  | cons x p =>
   cases q with
   | nil=>simp at h2
   | cons y q =>
    simp only[Zo2,Zol] at e
    obtain⟨rfl,e⟩:=e
    unfold cpl
    rw[if_pos rfl,yfw a p q e (by simpa using h1) (by simpa using h2) (by simpa using h)]
noncomputable def zuk(F S:List Nat):Bool:=decide (F.drop 1=S.drop 1)||decide (F.drop 1=S)||decide (F=S.drop 1)
noncomputable def near(p q:List Nat):Bool:=zuk (p.drop (cpl p q)) (q.drop (cpl p q))
theorem zxn(F S:List Nat):zuk F S=zuk S F:=by
 rw[Zmj]
 simp only[zuk,Zr0,decide_eq_true_eq]
 constructor
 .rintro((h | h) | h)
  .exact .inl (.inl h.symm)
  .exact .inr h.symm
  .exact .inl (.inr h.symm)
 .rintro((h | h) | h)
  .exact .inl (.inl h.symm)
  .exact .inr h.symm
  .exact .inl (.inr h.symm)
theorem ybn(p q:List Nat):near p q=near q p:=by
 unfold near;rw[zu4 q p,zxn]
theorem ydw(F S:List Nat):(decide (F=S)||(decide (F.drop 1=S)||(decide (F=S.drop 1)||decide (F.drop 1=S.drop 1))))=zuk F S:=by
 rw[Zmj]
 simp only[zuk,Zr0,decide_eq_true_eq]
 constructor
 .rintro(h | h | h | h)
  .subst h;exact .inl (.inl rfl)
  .exact .inl (.inr h)
  .exact .inr h
  .exact .inl (.inl h)
 .rintro((h | h) | h)
  .exact .inr (.inr (.inr h))
  .exact .inr (.inl h)
  .exact .inr (.inr (.inl h))
theorem yan(n d:Nat){a:Int}(h:0<=a):HT.sIx n d (some a)=min a.toNat n:=by
 show(if a<0 then (a+(n:Int)).toNat else min a.toNat n)=_
 rw[if_neg (by lia)]
theorem zm9(m:List Nat){a:Int}(h:0<=a):cutL m none (some a)=m.take a.toNat:=by
 unfold cutL
 have e2:HT.sIx m.length 0 none=0:=rfl
 rw[yan _ _ h,e2,Zz1,Nat.sub_zero,<- List.take_eq_take_min]
theorem zf9(m:List Nat){b:Int}(h:0<=b):cutL m (some b) none=m.drop b.toNat:=by
 unfold cutL
 have e2:HT.sIx m.length m.length none=m.length:=rfl
 rw[yan _ _ h,e2,Zo4 (by rw[Zmo];lia)]
 by_cases hh:b.toNat<=m.length
 .rw[Ztd hh]
 .rw[Zvb (by lia),Zy9,Znj (by lia)]
theorem zdb{m:List Nat}{lo hi:Option Int}{c:Nat}(h:c∈cutL m lo hi):c∈m:=Ztl (Zrp h)
end My
namespace My
open PySem L2 PyProof.Rows
theorem zvr:∀p q:List Nat,p.take (cpl p q)=q.take (cpl p q)
 | [],[]=>rfl
 | [],_::_=>by simp[cpl]
 | _::_,[]=>by simp[cpl]
 | a::x,b::y=>by
  unfold cpl
  by_cases h:a=b
  .subst h;rw[if_pos rfl,Zo2,Zo2,zvr x y]
  .rw[if_neg h];rfl
noncomputable def zp0(F S:List Nat):Prop:=F=S\/F.drop 1=S\/F=S.drop 1\/F.drop 1=S.drop 1
theorem zmp(F S:List Nat):zuk F S=true↔zp0 F S:=by
 rw[<- ydw]
 simp only[zp0,Zr0,decide_eq_true_eq]
theorem zn6:∀F S:List Nat,zp0 F S->zp0 (F.drop (cpl F S)) (S.drop (cpl F S))
 | [],[],h=>by simpa[cpl] using h
 | [],_::_,h=>by simpa[cpl] using h
 | _::_,[],h=>by simpa[cpl] using h
 | a::x,b::y,h=>by
  unfold cpl
  by_cases e:a=b
  .subst e
   rw[if_pos rfl,Zpv,Zpv]
   refine zn6 x y ?_
   rcases h with h | h | h | h
   .exact .inl (Zx9 h).2
   .have h:x=a::y:=h
    exact .inr (.inl (by rw[h];rfl))
   .have h:a::x=y:=h
    exact .inr (.inr (.inl (by rw[<- h];rfl)))
   .have h:x=y:=h
    exact .inl h
  .rw[if_neg e];exact h
theorem ycq:∀(k:Nat) (p q:List Nat),k<=p.length->k<=q.length->p.take k=q.take k->cpl p q=k+cpl (p.drop k) (q.drop k)
 | 0,p,q,_,_,_=>by simp
 | k+1,[],q,h,_,_=>by simp at h
 | k+1,a::x,[],_,h,_=>by simp at h
 | k+1,a::x,b::y,h1,h2,h=>by
  rw[Zo2,Zo2] at h
  obtain⟨e,h5⟩:=Zx9 h
  subst e
  rw[Zpv,Zpv]
  show(if a=a then cpl x y+1 else 0)=_
  rw[if_pos rfl,ycq k x y (by simpa using h1) (by simpa using h2) h5]
  lia
noncomputable def frm(a b:List Nat):D:=.tup [.str a,.str b]
theorem yb7{a b c d:List Nat}(h:frm a b=frm c d):a=c/\b=d:=by
 unfold frm at h
 simpa using h
noncomputable def zko(p:List Nat)(k:Nat):List D:=[frm (p.take k) (p.drop k),frm (p.take k) (p.drop (k+1))]
noncomputable def zde(p:List Nat):List D:=(Zl6 (p.length+1)).flatMap (zko p)
theorem zj4(p:List Nat)(m:Nat):((Zl6 m).flatMap (zko p)).length=2*m:=by
 induction m with
 | zero=>rfl
 | succ m ih=>rw[Zo3,Zpu,Zlw,ih];simp[zko];lia
theorem yde(p:List Nat):∀d∈zde p,d.hk false=true:=by
 intro d hd
 obtain⟨k,_,h⟩:=Zpd.mp hd
 unfold zko at h
 simp only[Zly,Zno,or_false] at h
 rcases h with rfl | rfl <;> rfl
theorem zcr{p:List Nat}{a b:List Nat}:frm a b∈zde p ↔ ∃k,k<=p.length/\a=p.take k/\(b=p.drop k\/b=p.drop (k+1)):=by
 unfold zde
 rw[Zpd]
 constructor
 .rintro⟨k,hk,h⟩
  rw[Zm3] at hk
  unfold zko at h
  simp only[Zly,Zno,or_false] at h
  rcases h with h | h
  .obtain⟨h1,h2⟩:=yb7 h
   exact⟨k,by lia,h1,.inl h2⟩
  .obtain⟨h1,h2⟩:=yb7 h
   exact⟨k,by lia,h1,.inr h2⟩
 .rintro⟨k,hk,rfl,h⟩
  refine⟨k,Zm3.mpr (by lia),?_⟩
  unfold zko
  rcases h with rfl | rfl <;> simp
theorem zxj{p:List Nat}{d:D}(h:d∈zde p):∃a b,d=frm a b:=by
 obtain⟨k,_,h⟩:=Zpd.mp h
 unfold zko at h
 simp only[Zly,Zno,or_false] at h
 rcases h with rfl | rfl <;> exact⟨_,_,rfl⟩
theorem zne(p q:List Nat):(∃d,d∈zde p/\d∈zde q)↔near p q=true:=by
 unfold near
 rw[zmp]
 constructor
 .rintro⟨d,h1,h2⟩
  obtain⟨a,b,rfl⟩:=zxj h1
  obtain⟨k,hk,e1,b1⟩:=zcr.mp h1
  obtain⟨j,hj,e2,b2⟩:=zcr.mp h2
  have hkj:k=j:=by
   have:=congrArg Zm7 (e1.symm.trans e2)
   rw[Znk,Znk] at this
   lia
  subst hkj
  have ht:=e1.symm.trans e2
  have hc:=ycq k p q hk hj ht
  have hn:zp0 (p.drop k) (q.drop k):=by
   unfold zp0
   rw[Zn6,Zn6]
   rcases b1 with b1 | b1 <;> rcases b2 with b2 | b2
   .exact .inl (b1.symm.trans b2)
   .exact .inr (.inr (.inl (b1.symm.trans b2)))
   .exact .inr (.inl (b1.symm.trans b2))
   .exact .inr (.inr (.inr (b1.symm.trans b2)))
  have:=zn6 _ _ hn
  rw[Zn6,Zn6,<- hc] at this
  exact this
 .intro h
  have hl:=zvj p q
  have ht:=zvr p q
  generalize cpl p q=c at *
  unfold zp0 at h
  rw[Zn6,Zn6] at h
  rcases h with h | h | h | h
  .exact⟨frm (p.take c) (p.drop c),zcr.mpr ⟨c,hl.1,rfl,.inl rfl⟩,zcr.mpr ⟨c,hl.2,ht,.inl h⟩⟩
  .exact⟨frm (p.take c) (p.drop (c+1)),zcr.mpr ⟨c,hl.1,rfl,.inr rfl⟩,zcr.mpr ⟨c,hl.2,ht,.inl h⟩⟩
  .exact⟨frm (p.take c) (p.drop c),zcr.mpr ⟨c,hl.1,rfl,.inl rfl⟩,zcr.mpr ⟨c,hl.2,ht,.inr h⟩⟩
  .exact⟨frm (p.take c) (p.drop (c+1)),zcr.mpr ⟨c,hl.1,rfl,.inr rfl⟩,zcr.mpr ⟨c,hl.2,ht,.inr h⟩⟩
noncomputable def ymq(p q:List Nat):List D:=(ded (zde p)).filter fun d=>decide (d∈zde q)
end My
namespace L2
open PySem PySem.W PyProof.Rows
noncomputable def zur(K:Zlh):List V->Hp->VK->Prop:=fun vs H Q=>∃a xs ds,vs=[.ref a]/\SqL K H a xs/\Reps K H ds xs/\zg6 ds/\ds.length<64 /\
 ∀l (p:List Nat),p.Perm (Zl6 ds.length)->p.map (fun i=>ds.getD i .non)=zgn ds->H l=none->Q (.ref l) (upd H l (.lst (p.map fun i=>xs.getD i .non)))
section
variable{X:Cx}{pins:List (Addr×Obj)}{U:St}{H:Hp}{s:Zlo}
theorem yap{h':Heap}{ds:List D}{xs:List V}{us:List Zll}{A':Zmu}(I:Inv X pins U H s)(rs:Reps X.K H ds xs)(rv:Vals xs us)(hal:zg6 ds)(h2:2<=us.length)(h64:us.length<64)(k:zjp s.heap h') :
  ybs X.prog X.w A' { s with heap:=h' } us (OutK (rk ds) us):=by
 obtain⟨κ,hk,hlt⟩:=yao (A':=A') I rs rv hal h2 k
 exact zt3 h2 h64 hk hlt
theorem zpv:zb4 X (.builtin "sorted") (zur X.K):=by
 intro pins s U H xs us Q I r h
 obtain⟨a,vs,ds,rfl,hq,rs,hal,h64,q⟩:=h
 obtain⟨u,rfl,ru⟩:=zhi r
 cases ru
 obtain⟨its,rv,pl,hz⟩:=I.list hq
 have l1:=rs.length
 have l2:=rv.length
 refine ztv (OutK (rk ds) its) pl.isList (by lia) (fun h2 h' k=>yap I rs rv hal h2 (by lia) k) (fun h1=>?_) fun out c h' k hc hsz hO=>?_
 .exact zn4 h1
 .obtain⟨p,hp,ho,hs⟩:=hO
  have hmem:∀i∈p,i<its.length:=fun i hi=>Zm3.mp (hp.mem_iff.mp hi)
  have hpm:(p.map fun i=>ds.getD i .non).Perm ds:=by
   have h1:=hp.map (fun i=>ds.getD i D.non)
   have h2:(Zl6 its.length).map (fun i=>ds.getD i D.non)=ds:=by
    rw[<- l2,<- l1]
    refine Zom fun i=>?_
    rw[Zlx]
    by_cases hi:i<ds.length
    .rw[Zn8 hi,Zlj hi]
     simp[Zlk,hi]
    .rw[Zms (by simpa using hi),Zms (by simpa using hi)];rfl
   rw[h2] at h1;exact h1
  have hso:(p.map fun i=>ds.getD i .non).Pairwise fun a b=>a.leB b=true:=by
   rw[Zq7]
   refine Zt7 (fun {i j} hi hj h=>yls (by have:=hmem i hi;lia) (by have:=hmem j hj;lia) h) hs
  have eD:=zpz hal hpm hso
  have hv:=rv.pick p (by rw[l2];exact hmem)
  rw[<- ho] at hv
  have hplen:p.length=its.length:=by rw[hp.length_eq,Zm2]
  refine⟨.ref (s.heap.objs.size+1),_,I.laid (t':=s.toks) k (Zrc _) (show zed X.prog X.w _ _ _ (.lst _) from⟨by rw[Zlm];lia,out.toList,c,hv,by simpa[Zu5] using hc⟩),rfl,q _ p (by rw[l1,l2];exact hp) eD (I.hok.fresh (Zrc _))⟩
end
section
variable{K:Zlh}{G H0 L:Hp}{ss:List Sl}{t:TE}{ds:List D}
theorem zsv(a:EvL K G H0 L ss t ds)(hal:zg6 ds)(h64:ds.length<64):EvO K G H0 L ss (tCB (zur K) (za8 t tNil)) (zgn ds):=fun F H U Q S q =>
 a F H U _ S fun p vs F' H' e sq r=>⟨p,vs,ds,rfl,sq,r.mono e.fh,hal,h64,fun l pm hp hs hl=>by
  have hmem:∀i∈pm,i<ds.length:=fun i hi=>Zm3.mp (hp.mem_iff.mp hi)
  have:=r.pick pm hmem
  rw[hs] at this
  exact q l _ F' _ (e.newO hl) (e.hh.free hl) (e.fh.free hl) zal this⟩
end
section
variable(P:Zmi)(w:Zng)(K:Zlh)
noncomputable def zg5(f:Bool):List V->Hp->VK->Prop:=fun vs H Q=>∃a xs ds,vs=[.ref a]/\H a=some (zpf P w a (ds.map D.sk) xs)/\Reps K H ds xs/\(∀d∈ds,d.hk f=true)/\zg6 ds/\ds.length<64 /\
 ∀l xr,H l=none->Src ds xs [] [] (zgn ds) xr->Q (.ref l) (upd H l (.lst xr))
end
section
variable{X:Cx}
theorem zdm{f:Bool}(hc:X.calm=true):zb4 X (.builtin "sorted") (zg5 X.prog X.w X.K f):=by
 intro pins s U H vs us Q I r h
 obtain⟨a,xs,ds,rfl,ha,rs,hf,hal,h64,q⟩:=h
 obtain⟨u,rfl,ru⟩:=zhi r
 cases ru
 obtain⟨es,⟨o,ep,t,ho,S⟩,v⟩:=I.setE ha hf rs
 refine zrl (fun vs out=>∃ds' xs',Vals xs' vs/\ds'.Perm ds/\Src ds xs [] [] ds' xs'/\OutK (rk ds') vs out) (I.ok.hd hc) ho S (fun vs h' d tk hp h2 k=>?_) (fun vs hp h1=>?_) fun vs out c h' d tk l hp k hl hcell hsz hO=>?_
 .obtain⟨d2,x2,v2,p2,s2⟩:=zss hp rs.length v
  obtain⟨κ,z1,z2⟩:=yap (A':=X.A.in1.in1) ((I.kept (h':=h') (t':=tk) k).drw d) (s2.reps rs Reps.nil) v2 (hal.perm p2) h2 (by have:=p2.length_eq;have:=s2.1;have:=v2.length;lia) (fun _ _ e=>e)
  exact⟨κ,z1,fun Q E hQ=>z2 Q E fun st' e1 e2 e3=>hQ st' e1 e2 ⟨d2,x2,v2,p2,s2,e3⟩⟩
 .obtain⟨d2,x2,v2,p2,s2⟩:=zss hp rs.length v
  exact⟨d2,x2,v2,p2,s2,zn4 h1⟩
 .obtain⟨d2,x2,v2,p2,s2,p,hpp,hout,hsort⟩:=hO
  have l1:=s2.1
  have l2:=v2.length
  have rs2:Reps X.K H d2 x2:=s2.reps rs Reps.nil
  have hmem:∀i∈p,i<vs.length:=fun i hi=>Zm3.mp (hpp.mem_iff.mp hi)
  have hpm:(p.map fun i=>d2.getD i .non).Perm d2:=by
   have g1:=hpp.map (fun i=>d2.getD i D.non)
   have g2:(Zl6 vs.length).map (fun i=>d2.getD i D.non)=d2:=by
    rw[<- l2,<- l1]
    refine Zom fun i=>?_
    rw[Zlx]
    by_cases hi:i<d2.length
    .rw[Zn8 hi,Zlj hi]
     simp[Zlk,hi]
    .rw[Zms (by simpa using hi),Zms (by simpa using hi)];rfl
   rw[g2] at g1;exact g1
  have hso:(p.map fun i=>d2.getD i .non).Pairwise fun a b=>a.leB b=true:=by
   rw[Zq7]
   exact Zt7 (fun {i j} hi hj h=>yls (by have:=hmem i hi;lia) (by have:=hmem j hj;lia) h) hsort
  have eD:(p.map fun i=>d2.getD i .non)=zgn ds:=zpz hal (hpm.trans p2) hso
  have hv:=v2.pick p (by rw[l2];exact hmem)
  rw[<- hout] at hv
  have hplen:p.length=vs.length:=by rw[hpp.length_eq,Zm2]
  have hz:x2.length<=1000:=by
   have:=p2.length_eq
   have:=S.small
   simp at *;lia
  refine⟨.ref l,_,(I.laid (t':=tk) (h':=h') k hl (show zed X.prog X.w _ _ _ (.lst (p.map fun i=>x2.getD i .non)) from⟨by rw[Zlm,hplen,<- l2];exact zce (by lia),out.toList,c,hv,by simpa[Zu5] using hcell⟩)).drw d,rfl,q l _ (I.hok.fresh hl) ⟨?_,fun i d' x' h1 h2=>?_⟩⟩
  .rw[<- eD];simp
  .rw[<- eD,Zlx] at h1
   rw[Zlx] at h2
   cases hp:p[i]? with
   | none=>rw[hp] at h1;cases h1
   | some j =>
    rw[hp] at h1 h2
    have hj:=hmem j (Zlv hp)
    have e1:d2[j]? = some d':=by
     have:d2.getD j .non=d':=by simpa using h1
     rw[Zlk,Zlj (by lia)] at this
     rw[Zlj (by lia)];simpa using this
    have e2:x2[j]? = some x':=by
     have:x2.getD j .non=x':=by simpa using h2
     rw[Zlk,Zlj (by lia)] at this
     rw[Zlj (by lia)];simpa using this
    obtain⟨j',hj'⟩:=s2.2 j d' x' e1 e2
    exact⟨j',hj'⟩
end
section
variable{P:Zmi}{w:Zng}{K:Zlh}{G H0 L:Hp}{ss:List Sl}{t ta tb:TE}{f:Bool}{ds da db dr:List D}
theorem zg2(dd:List D)(a:EvS P w K G H0 L ss t ds)(hf:∀d∈ds,d.hk f=true)(hal:zg6 ds)(hn:dd.Nodup)(h64:dd.length<64)(hm:∀d,d∈dd↔d∈ds):EvO K G H0 L ss (tCB (zg5 P w K f) (za8 t tNil)) (zgn dd):=fun F H U Q S q =>
 a F H U _ S fun p xs F' H' d1 e hp fp hp1 r n1 m1=>⟨p,xs,d1,rfl,hp1,r.mono e.fh,fun d h=>hf d ((m1 d).mp h),hal.sub fun d h=>(m1 d).mp h,by rw[<- ((Zqb hn n1).mpr fun d=>by rw[hm,m1]).length_eq];exact h64,fun l xr hl src=>by
  have hp:dd.Perm d1:=(Zqb hn n1).mpr fun d=>by rw[hm,m1]
  rw[<- zmo (hal.sub fun d h=>(m1 d).mp h) hp] at src
  exact q l xr F' _ (e.newO hl) (e.hh.free hl) (e.fh.free hl) zal (src.reps r Reps.nil)⟩
end
end L2
namespace L2
open PySem PySem.W PySem.Spec PyProof.Rows
section
variable{X:Cx}
noncomputable def yjt(K:Zlh):List V->Hp->VK->Prop:=fun xs H Q=>∃d kvs ds,xs=[.ref d]/\H d=some (.dK kvs)/\Reps K H ds (kvs.map fun q=>kV q.1)/\zg6 ds/\ds.length<64 /\
 ∀l (pm:List Nat),pm.Perm (Zl6 ds.length)->(pm.map fun i=>ds.getD i .non)=zgn ds->H l=none->Q (.ref l) (upd H l (.lst (pm.map fun i=>(kvs.map fun q=>kV q.1).getD i .non)))
end
end L2
namespace L2
theorem zpg{α:Type}{P:List α->Prop}(h0:P [])(hs:∀xs x,P xs->P (xs++[x]))(xs:List α):P xs:=by
 have:∀ys:List α,P ys.reverse:=by
  intro ys
  induction ys with
  | nil=>exact h0
  | cons y ys ih=>rw[List.reverse_cons];exact hs _ _ ih
 have:=this xs.reverse
 rwa [Zro] at this
section
variable{α β γ:Type}[DecidableEq α][DecidableEq β][DecidableEq γ]{f:α->β}{g:α->γ}{xs:List α}{x:α}
noncomputable def yj2(f:α->β)(acc:List α)(x:α):List α:=if (acc.any fun y=>decide (f y=f x))=true then acc else acc++[x]
noncomputable def ylq(f:α->β)(xs:List α):List α:=xs.foldl (yj2 f) []
noncomputable def ynd(f:α->β)(xs:List α):List (List α):=(ylq f xs).map fun h=>xs.filter fun t=>decide (f t=f h)
noncomputable def ynk(xs:List α)(f:α->β)(g:α->γ):Prop:=∀a∈xs,∀b∈xs,(f a=f b↔g a=g b)
noncomputable def ym8(k l:β)(f:α->β):α->β:=fun t=>if f t=l then k else f t
variable{enc:α->D}{encB:β->D}
noncomputable def dA(enc:α->D)(encB:β->D)(xs:List α)(f:α->β):DD:=xs.map fun t=>(enc t,encB (f t))
noncomputable def grpD(enc:α->D)(encB:β->D)(f:α->β)(xs:List α):List (D×List D):=(ylq f xs).map fun h=>(encB (f h),(xs.filter fun t=>decide (f t=f h)).map enc)
end
end L2
namespace L2
open PySem PySem.W PyProof.Rows
noncomputable def ykt(K:Zlh)(sp:Sp):List V->Hp->VK->Prop:=fun vs H Q=>∃a xs ks,vs=[.ref a]/\SqL K H a xs/\ks.length=xs.length/\zg6 ks /\ ∃J:Hp->Prop,J H /\
 (∀(i:Nat) x k H',xs[i]? = some x->ks[i]? = some k->J H'->sp [x] H' (fun v H''=>J H''/\Same H' H''/\Rep K H'' k v) E0) /\
 ∀l (p:List Nat) H',J H'->p.Perm (Zl6 ks.length)->p.map (fun i=>ks.getD i .non)=zgn ks->H' l=none->Q (.ref l) (upd H' l (.lst (p.map fun i=>xs.getD i .non)))
noncomputable def yna(K:Zlh)(sp:Sp)(te:TE):TE:=fun U H Q=>te U H fun v H1=>ykt K sp [v] H1 Q
section
variable{X:Cx}{pins:List (Addr×Obj)}{U:St}{H:Hp}{s:Zlo}{l I0 S:Addr}{xs:List V}{ks:List D}{q:Addr}{J:Hp->Prop}{R:Yco->Zlo->Prop}{lt:Nat->Nat->Bool}
noncomputable def ItAt(o:Obj)(l:Addr)(j:Nat):Prop:=o.cls= .type "list_iterator" /\ o.data= .fields #[.ref l,.int (j:Int) 0]
end
end L2
namespace L2
open PySem PySem.W PySem.Spec PyProof.Rows PySem.Calls
open PySem.MeetsSeq PySem.MeetsSeq2 PySem.MeetsSeq3
open AutoSeq1 (wpAny_loadPart')
inductive LexC(prog:Zmi)(w:Zng)(A:Zmu)(s:Zlo):List Zll->List Zll->Bool->Prop
 | nil:LexC prog w A s [] [] false
 | eq {u v:Zll} {us vs:List Zll} {r:Bool} (h:∀(E:Zll->Zlo->Prop) (Q:Bool->Zlo->Prop),Q true s->Zl8 (Zmh prog w) A (eqBool u v) Q E s) (t:LexC prog w A s us vs r):LexC prog w A s (u::us) (v::vs) r
 | ne {u v:Zll} {us vs:List Zll} {r:Bool} (h:∀(E:Zll->Zlo->Prop) (Q:Bool->Zlo->Prop),Q false s->Zl8 (Zmh prog w) A (eqBool u v) Q E s) (g:∀(E:Zll->Zlo->Prop) (Q:Zll->Zlo->Prop),Q (.bool r) s->Zl8 (Zmh prog w) A (richCompare .Lt u v) Q E s):LexC prog w A s (u::us) (v::vs) r
end L2
namespace L2
open PySem PySem.W PyProof.Rows
section
variable{X:Cx}{pins:List (Addr×Obj)}{U:St}{H:Hp}{s:Zlo}{A':Zmu}
noncomputable def D.hd:D->D
 | .tup (h::_)=>h
 | d=>d
end
noncomputable def ynb(K:Zlh):List V->Hp->VK->Prop:=fun vs H Q=>∃a xs ds t ts,vs=[.ref a]/\SqL K H a xs/\Reps K H ds xs/\(∀d∈ds,∃es r,d= .tup [.tup es,r]/\shOk (t::ts) es=true/\d.nb=true/\d.dep<=60)/\(∀d∈ds,∀e∈ds,d.hd=e.hd->d=e) /\
 ∀l (p:List Nat),p.Perm (Zl6 ds.length)->p.map (fun i=>(ds.map D.hd).getD i .non)=zgn (ds.map D.hd)->H l=none->Q (.ref l) (upd H l (.lst (p.map fun i=>xs.getD i .non)))
end L2
namespace L2
open PySem PySem.W PySem.Spec PyProof.Rows PySem.Calls
noncomputable def keyD(a b:Int)(xs:List Int):D:=.tup [.int a,.int b,.lst (xs.map .int)]
noncomputable def yne(X:Cx)(N:List Str)(qual:Str)(scope:Scope)(f c':Addr)(cl:List (Str×Addr))(A:Zmu)(s:Zlo)(H:Hp):Cx where
 prog:=X.prog
 w:=X.w
 K:=X.K
 mg:=X.mg
 base:=X.base
 A:=A.deeper (envX qual scope s.heap.objs.size f (.ref c') cl)
 N:=N
 s₀:=s
 H0:=H
 env:=envX qual scope s.heap.objs.size f (.ref c') cl
 outer:=X.stack
 stack:=envX qual scope s.heap.objs.size f (.ref c') cl::X.stack
 ex:=[]
 calm:=true
 fn:=fun _=>false
 pn:=[]
 xe:=fun _ _=>False
noncomputable def ynf(H:Hp)(c' P:Addr)(q:Str):Prop:=∃oc vs t,H c'=some (.frz oc (.own P))/\oc.data= .fields vs/\vs[1]? = some (.str q t)
end L2
namespace L2
open PySem PySem.W PyProof.Rows PySem.Spec PySem.Calls
noncomputable def one(f:V->Hp->Prop):List V->Hp->Prop
 | [v],H=>f v H
 | _,_=>False
noncomputable def ynm(K:Zlh):List V->Hp->VK->Prop:=fun vs H Q=>∃a ns,vs=[.ref a]/\SqL K H a (ns.map V.int)/\ns≠[] /\ ∀m,m∈ns->(∀n∈ns,n<=m)->Q (.int m) H
noncomputable def ynl(K:Zlh)(ta tk:TE):TE:=fun U H Q=>ta U H fun v H1=>tk U H1 fun dv H2=>∃(a:Addr) (ns:List Int) (d:Int),v= .ref a/\dv= .int d/\SqL K H2 a (ns.map V.int)/\(∀m,m∈ns->(∀n∈ns,n<=m)->Q (.int m) H2)/\(ns=[]->Q (.int d) H2)
end L2
namespace L2
open PySem PySem.W PySem.Spec PyProof.Rows PySem.Calls
noncomputable def kI(ks:List (Int×Int×List Int))(i:Nat):List Int:=match ks[i]? with
 | some k=>k.1::k.2.1::k.2.2
 | none=>[]
noncomputable def yng(K:Zlh)(P:Addr)(pos:Pos)(q:Str)(i:Nat)(te ta:TE):TE:=fun U H Q=>ta U H fun v H1=>∃a xs vy ks n,v= .ref a/\SqL K H1 a xs/\U[i]? = some (some vy)/\H1 P=some (.tab #[] pos q)/\0<xs.length/\ks.length=xs.length/\(∀k∈ks,k.2.2.length=n) /\
 (∀(j:Nat) x k H',xs[j]? = some x->ks[j]? = some k->Same H1 H'->te [some x,some vy] H' (fun y H2=>Same H' H2/\Rep K H2 (keyD k.1 k.2.1 k.2.2) y)) /\
 (∀(j:Nat) x H',xs[j]? = some x->(∀m,m<xs.length-> ¬ kI ks m<kI ks j/\(m<j->kI ks j<kI ks m))->Same H1 H'->Q x H')
end L2
namespace L2
open PySem PySem.W PySem.Spec PyProof.Rows
structure LamAt(base:Heap)(mg:Str->Option Zll)(fl:Zot)(T:Addr):Prop where
 ex:∃c,fl.code= .ref c/\CodeHd base c T
 bt:base.BuiltinsAt mg T
end L2
namespace L2
open PySem PySem.Spec PyProof.Rows
noncomputable abbrev HasT(H:Hp)(T:Addr)(pos:Pos)(q:Str):Prop:=H T=some (.tab #[] pos q)
noncomputable def SpDT(K:Zlh)(T:Addr)(pos:Pos)(q:Str)(pre:List D->Prop)(res:List D->D):Sp:=fun vs H Q _=>∃G ds,Same G H/\HasT G T pos q/\Reps K G ds vs/\pre ds /\ ∀v G' H',Ext G H G' H'->Rep K G' (res ds) v->Q v H'
noncomputable def RtPO(K:Zlh)(G H0:Hp)(rt:VK)(l:Int)(ds:List D):Prop:=∀a p vs F H,Ext G H0 F H->H0 p=none->F p=none->F a=some (.tup [.int l,.ref p])->H p=some (.lst vs)->Reps K F ds vs->rt (.ref a) H
noncomputable def SpPT(K:Zlh)(T:Addr)(pos:Pos)(q:Str)(pre:List D->Prop)(res:List D->Int×List D):Sp:=fun vs H Q _=>∃G ds,Same G H/\HasT G T pos q/\Reps K G ds vs/\pre ds/\RtPO K G H Q (res ds).1 (res ds).2
structure FX(K:Zlh)(mg:Str->Option Zll)(n:Str)(s:Stmt)(ps:List Str)(f:Addr)(d:Zot):Prop where
 F:Fun K n n s f d
 B:zcc K d ps []
 M:mg n=some (.ref f)
noncomputable def Bd(n:Str)(s:Stmt)(ps:List Str):Prop:=∀(kV doc pm:Zll) (an:Option Addr) (cdv ct:Zll) (us:List Zll),us.length=ps.length->Zpf (Zmx n n (zbr s) (za9 s) (zae s) .none kV doc pm an cdv ct) ⟨us,[]⟩=pure (ps.zip us)
theorem fx_mk{K:Zlh}{h:Heap}{mg:Str->Option Zll}{n:Str}{s:Stmt}{ps:List Str}{g:Addr}{oc kV doc pm cdv ct:Zll}{od an:Option Addr}{osl:Array (Option Zll)}(X:K.In h)(G:h.Ns Zpo mg)(b:Bd n s ps)(a:PySem.W.nsIn K Zpo n=some (some (.ref g)))
  (l:K.lookup g=some ⟨oc,od,.func (Zmx n n (zbr s) (za9 s) (zae s) .none kV doc pm an cdv ct),osl⟩) (c:Zs6 K cdv n=true) (k:Zqy K (.ref g)=true):FX K mg n s ps g (Zmx n n (zbr s) (za9 s) (zae s) .none kV doc pm an cdv ct) :=
 ⟨fun_mk l c k,(fun_mk l c k).binds b,PySem.W.mg_of X G a⟩
theorem FX.bt{K:Zlh}{mg:Str->Option Zll}{n x:Str}{s:Stmt}{f:Addr}{d:Zot}(b:Bd n s [x])(z:FX K mg n s [x] f d)(t:Zlo)(v:Zll):Zvy t d ⟨[v],[]⟩ [(x,v)]:=by
 obtain⟨oc,od,kV,dc,pm,an,cdv,ct,osl,rfl,l,_⟩:=z.F.ex
 exact .of_eq (b kV dc pm an cdv ct [v] rfl)
theorem zbh{N P:List Str}{sc:Scope}(h:(decide (sc.kind= .function)&&(!sc.isCoroutine&&(!sc.isGenerator&&(decide N.Nodup&&(decide (N.take P.length=P)&&(P.all (fun x=>decide (sc.names.lookup x=some .local\/sc.names.lookup x=some .cell))&&sc.names.all fun y=>decide (y.2 ≠ .free)))))))=true):FnScope N P sc:=by
 simp only[Zmd,decide_eq_true_eq,Zuj,Zpy] at h
 exact⟨h.1,h.2.1,h.2.2.1,h.2.2.2.1,h.2.2.2.2.1,h.2.2.2.2.2.1,h.2.2.2.2.2.2⟩
section
variable{X:Cx}{pos:Pos}{i:Nat}{x:Str}
theorem pgn(i:Nat)(hN:X.N.Nodup)(hi:X.N[i]? = some x:=by rfl)(hx:Loc X.env.scope x:=by exact Zo6 rfl)(hf:X.fn x=true\/X.env.scope.names.lookup x=some .local:=by first | exact .inl rfl | exact .inr rfl | assumption):PG X (.Name x pos) (zin i):=zbk hN hi hx hf
theorem psn(i:Nat){e:Expr}{te:TE}{pos':Pos}(hN:X.N.Nodup)(he:PE X e te)(hi:X.N[i]? = some x:=by rfl)(hx:Loc X.env.scope x:=by exact Zo6 rfl)(hs:Zs0 e (some (.Name x pos')) pos.line X.env=pure false:=by rfl)(hf:X.fn x=true\/X.env.scope.names.lookup x=some .local:=by first | exact .inl rfl | exact .inr rfl | assumption):PS X (.Assign [.Name x pos'] e pos) (tAsg te (zin i)):=ygq hN hi hx he hs hf
theorem pcX{k kk:Nat}{f:Addr}{fd:Zot}{ps:List Str}{sp:Sp}{e:Expr}{es:List Expr}{t:TA}{p:Pos}{st:Stmt}(F:FnOk X.prog X.w X.K X.mg X.base CX0 k f fd ps sp)(hr:Room kk X.A)(z:FX X.K X.mg x st ps f fd)(ha:PA X (e::es) t)(hle:k<=kk:=by decide)(hg:Gl X x:=by rfl)(hdb:(x == ("__debug__" : Str))=false:=by decide)(he:Zmk (e::es) X.env=(false,eval e X.env)::Zmk es X.env:=by rfl)(hpl:(Zpk pos (Zmk es X.env)).any (·.1)=false:=by rfl):PE X (.Call (.Name x p) (e::es) [] pos) (zk4 sp [] E0 t) :=
 yhs F (hr.mono hle) hg z.M z.F.kp z.B .nil zke ha hdb he hpl
end
section
variable{P:Zmi}{w:Zng}{K:Zlh}{mg:Str->Option Zll}{base:Heap}{x qual:Str}{st:Stmt}{f:Addr}{fd:Zot}{N ps:List Str}{k:Nat}
theorem yak{sc:Scope}(S:FnScope N ps sc):ps.length<=N.length:=by
 have:=congrArg Zm7 S.pre
 rw[Znk] at this
 omega
theorem okD{pre:List D->Prop}{res:List D->D}(F:Fun K x qual st f fd)(S:FnScope N ps (zae st))(hl:∀ds,pre ds->ds.length=ps.length)
  (hb:∀(cdv:Zll) (A:Zmu) (outer:List Env) (s:Zlo) (H:Hp) (Q:VK) (E:XK),Room k (A.deeper (Ztk qual (zae st) s.heap.objs.size f cdv))-> ∃t,PSs (cxOf CX0 P w K mg base N qual (zae st) f cdv A outer s H E).nox (za9 st) t /\ ∀G ds,pre ds->RtD K G H Q (res ds)->Go K G H G { nx:=fun _ H'=>Q .non H',rt:=Q } (slots N.length ds) t):FnOk P w K mg base CX0 (k+1) f fd ps (SpD K pre res) :=
 F.ok S (fun vs H Q E h=>zqi hl h) fun cdv A outer s H vs Q E hr h=>let ⟨t,p,b⟩:=hb cdv A outer s H Q E hr;⟨t,p,yf7 h (by rw[zqi hl h];exact yak S) b⟩
theorem okO{pre:List D->Prop}{res:List D->List D}(F:Fun K x qual st f fd)(S:FnScope N ps (zae st))(hl:∀ds,pre ds->ds.length=ps.length)
  (hb:∀(cdv:Zll) (A:Zmu) (outer:List Env) (s:Zlo) (H:Hp) (Q:VK) (E:XK),Room k (A.deeper (Ztk qual (zae st) s.heap.objs.size f cdv))-> ∃t,PSs (cxOf CX0 P w K mg base N qual (zae st) f cdv A outer s H E).nox (za9 st) t /\ ∀G ds,pre ds->RtO K G H Q (res ds)->Go K G H G { nx:=fun _ H'=>Q .non H',rt:=Q } (slots N.length ds) t):FnOk P w K mg base CX0 (k+1) f fd ps (SpO K pre res) :=
 F.ok S (fun vs H Q E h=>yco hl h) fun cdv A outer s H vs Q E hr h=>let ⟨t,p,b⟩:=hb cdv A outer s H Q E hr;⟨t,p,yj0 h (by rw[yco hl h];exact yak S) b⟩
theorem okR{pre:List D->Prop}{R:List D->List D->Prop}(F:Fun K x qual st f fd)(S:FnScope N ps (zae st))(hl:∀ds,pre ds->ds.length=ps.length)
  (hb:∀(cdv:Zll) (A:Zmu) (outer:List Env) (s:Zlo) (H:Hp) (Q:VK) (E:XK),Room k (A.deeper (Ztk qual (zae st) s.heap.objs.size f cdv))-> ∃t,PSs (cxOf CX0 P w K mg base N qual (zae st) f cdv A outer s H E).nox (za9 st) t /\ ∀G ds,pre ds->(∀rs,R ds rs->RtO K G H Q rs)->Go K G H G { nx:=fun _ H'=>Q .non H',rt:=Q } (slots N.length ds) t):FnOk P w K mg base CX0 (k+1) f fd ps (SpR K pre R) :=
 F.ok S (fun vs H Q E h=>zzn hl h) fun cdv A outer s H vs Q E hr h=>let ⟨t,p,b⟩:=hb cdv A outer s H Q E hr;⟨t,p,yjo h (by rw[zzn hl h];exact yak S) b⟩
theorem okG{α:Type}{pre:α->List D->Prop}{res:α->D}(F:Fun K x qual st f fd)(S:FnScope N ps (zae st))(hl:∀q ds,pre q ds->ds.length=ps.length)
  (hb:∀(cdv:Zll) (A:Zmu) (outer:List Env) (s:Zlo) (H:Hp) (Q:VK) (E:XK),Room k (A.deeper (Ztk qual (zae st) s.heap.objs.size f cdv))-> ∃t,PSs (cxOf CX0 P w K mg base N qual (zae st) f cdv A outer s H E).nox (za9 st) t /\ ∀G ds q,pre q ds->RtD K G H Q (res q)->Go K G H G { nx:=fun _ H'=>Q .non H',rt:=Q } (slots N.length ds) t):FnOk P w K mg base CX0 (k+1) f fd ps (SpG K pre res) :=
 F.ok S (fun vs H Q E h=>zy1 hl h) fun cdv A outer s H vs Q E hr h=>let ⟨t,p,b⟩:=hb cdv A outer s H Q E hr;⟨t,p,yl7 h (by rw[zy1 hl h];exact yak S) b⟩
theorem okGO{α:Type}{pre:α->List D->Prop}{res:α->List D}(F:Fun K x qual st f fd)(S:FnScope N ps (zae st))(hl:∀q ds,pre q ds->ds.length=ps.length)
  (hb:∀(cdv:Zll) (A:Zmu) (outer:List Env) (s:Zlo) (H:Hp) (Q:VK) (E:XK),Room k (A.deeper (Ztk qual (zae st) s.heap.objs.size f cdv))-> ∃t,PSs (cxOf CX0 P w K mg base N qual (zae st) f cdv A outer s H E).nox (za9 st) t /\ ∀G ds q,pre q ds->RtO K G H Q (res q)->Go K G H G { nx:=fun _ H'=>Q .non H',rt:=Q } (slots N.length ds) t):FnOk P w K mg base CX0 (k+1) f fd ps (SpGO K pre res) :=
 F.ok S (fun vs H Q E h=>zu9 hl h) fun cdv A outer s H vs Q E hr h=>let ⟨t,p,b⟩:=hb cdv A outer s H Q E hr;⟨t,p,yio h (by rw[zu9 hl h];exact yak S) b⟩
end
end L2
namespace L2
open PySem PySem.W PySem.Spec PyProof.Rows
end L2
namespace My
open PySem L2 PyProof.Rows
noncomputable def top(i:Nat):Stmt:=Zzv.main.body.getD i (.Pass ⟨0,0,0,0⟩)
noncomputable abbrev zhq:Stmt:=top 7
noncomputable abbrev zgj:List Str:=["text"]
theorem zxg:FnScope ["text"] zgj (zae zhq):=zbh (by decide +kernel)
noncomputable abbrev zjj:Stmt:=top 8
noncomputable abbrev zhw:List Str:=["sign"]
theorem zym:FnScope ["sign"] zhw (zae zjj):=zbh (by decide +kernel)
noncomputable abbrev zh8:Stmt:=top 9
noncomputable abbrev zh6:List Str:=["text"]
theorem zxf:FnScope ["text"] zh6 (zae zh8):=zbh (by decide +kernel)
noncomputable abbrev zgs:Stmt:=top 10
noncomputable abbrev zdk:List Str:=["one", "field", "other"]
theorem zq2:FnScope ["one", "field", "other"] zdk (zae zgs):=zbh (by decide +kernel)
noncomputable abbrev zwn:Stmt:=top 11
noncomputable abbrev zrf:List Str:=["facts"]
theorem yha:FnScope ["facts"] zrf (zae zwn):=zbh (by decide +kernel)
noncomputable abbrev zev:Stmt:=top 12
noncomputable abbrev zgg:List Str:=["book"]
theorem zi1:FnScope ["book", "names", "told"] zgg (zae zev):=zbh (by decide +kernel)
noncomputable abbrev zdo:Stmt:=top 22
noncomputable abbrev zcs:List Str:=["row"]
theorem zmt:FnScope ["row"] zcs (zae zdo):=zbh (by decide +kernel)
noncomputable abbrev zfc:Stmt:=top 23
noncomputable abbrev zdh:List Str:=["text"]
theorem zkl:FnScope ["text", "rows"] zdh (zae zfc):=zbh (by decide +kernel)
noncomputable abbrev zjq:Stmt:=top 24
noncomputable abbrev zh9:List Str:=["row"]
theorem zoh:FnScope ["row", "words"] zh9 (zae zjq):=zbh (by decide +kernel)
noncomputable abbrev zc0:Stmt:=top 25
noncomputable abbrev zck:List Str:=["number", "row"]
theorem zk2:FnScope ["number", "row"] zck (zae zc0):=zbh (by decide +kernel)
noncomputable abbrev ze0:Stmt:=top 26
noncomputable abbrev zfl:List Str:=["text"]
theorem zsh:FnScope ["text"] zfl (zae ze0):=zbh (by decide +kernel)
noncomputable abbrev zlg:Stmt:=top 34
noncomputable abbrev zil:List Str:=["some", "others"]
theorem zsq:FnScope ["some", "others"] zil (zae zlg):=zbh (by decide +kernel)
noncomputable abbrev zfv:Stmt:=top 30
noncomputable abbrev zd0:List Str:=["text"]
theorem zep:FnScope ["text", "plain", "forms", "place"] zd0 (zae zfv):=zbh (by decide +kernel)
noncomputable abbrev zg9:Stmt:=top 36
noncomputable abbrev ze1:List Str:=["texts"]
theorem zht:FnScope ["texts", "forms", "text"] ze1 (zae zg9):=zbh (by decide +kernel)
noncomputable abbrev zgd:Stmt:=top 28
noncomputable abbrev zgi:List Str:=["text"]
theorem zmm:FnScope ["text", "words"] zgi (zae zgd):=zbh (by decide +kernel)
noncomputable abbrev zfk:Stmt:=top 35
noncomputable abbrev ze8:List Str:=["texts"]
theorem zr5:FnScope ["texts"] ze8 (zae zfk):=zbh (by decide +kernel)
noncomputable abbrev zgo:Stmt:=top 13
noncomputable abbrev zgp:List Str:=["book", "card", "field"]
theorem ztx:FnScope ["book", "card", "field"] zgp (zae zgo):=zbh (by decide +kernel)
noncomputable abbrev zfw:Stmt:=top 37
noncomputable abbrev zdv:List Str:=["book", "one", "other"]
theorem zhd:FnScope ["book", "one", "other", "names", "formers"] zdv (zae zfw):=zbh (by decide +kernel)
noncomputable def zkh(i j:Nat):Stmt:=match top i with
 | .ClassDef _ _ _ b _ _ _ _ _ _ _=>b.getD j (.Pass ⟨0,0,0,0⟩)
 | s=>s
noncomputable abbrev Zbn:Stmt:=zkh 38 0
noncomputable abbrev ztj:List Str:=["self", "weight", "field"]
theorem zd5:FnScope ["self", "weight", "field"] ztj (zae Zbn):=zbh (by decide +kernel)
noncomputable abbrev Zbf:Stmt:=zkh 38 1
noncomputable abbrev zqj:List Str:=["self", "book", "one", "other"]
theorem zds:FnScope ["self", "book", "one", "other"] zqj (zae Zbf):=zbh (by decide +kernel)
noncomputable abbrev Zaq:Stmt:=zkh 39 0
noncomputable abbrev zk8:List Str:=["self", "texts", "others"]
theorem zj0:FnScope ["self", "texts", "others"] zk8 (zae Zaq):=zbh (by decide +kernel)
noncomputable abbrev Zar:Stmt:=zkh 39 1
noncomputable abbrev zle:List Str:=["self"]
theorem zkd:FnScope ["self"] zle (zae Zar):=zbh (by decide +kernel)
noncomputable abbrev Zam:Stmt:=zkh 40 0
noncomputable abbrev zla:List Str:=["self", "texts", "others"]
theorem zj6:FnScope ["self", "texts", "others"] zla (zae Zam):=zbh (by decide +kernel)
noncomputable abbrev Zas:Stmt:=zkh 40 1
noncomputable abbrev zlc:List Str:=["self"]
theorem zj7:FnScope ["self"] zlc (zae Zas):=zbh (by decide +kernel)
noncomputable abbrev Zao:Stmt:=zkh 41 0
noncomputable abbrev zld:List Str:=["self", "texts", "others"]
theorem zkc:FnScope ["self", "texts", "others"] zld (zae Zao):=zbh (by decide +kernel)
noncomputable abbrev Zal:Stmt:=zkh 41 1
noncomputable abbrev zk3:List Str:=["self"]
theorem zjy:FnScope ["self"] zk3 (zae Zal):=zbh (by decide +kernel)
noncomputable abbrev Zai:Stmt:=zkh 42 0
noncomputable abbrev zj5:List Str:=["self", "texts", "others"]
theorem zjl:FnScope ["self", "texts", "others"] zj5 (zae Zai):=zbh (by decide +kernel)
noncomputable abbrev Zaj:Stmt:=zkh 42 1
noncomputable abbrev zkb:List Str:=["self"]
theorem zjt:FnScope ["self"] zkb (zae Zaj):=zbh (by decide +kernel)
noncomputable abbrev Zbh:Stmt:=zkh 43 0
noncomputable abbrev zpj:List Str:=["self", "weight"]
theorem zni:FnScope ["self", "weight"] zpj (zae Zbh):=zbh (by decide +kernel)
noncomputable abbrev Zaz:Stmt:=zkh 43 1
noncomputable abbrev zmk:List Str:=["self", "book", "one", "other"]
theorem zk5:FnScope ["self", "book", "one", "other"] zmk (zae Zaz):=zbh (by decide +kernel)
noncomputable abbrev Zah:Stmt:=zkh 43 2
noncomputable abbrev zjn:List Str:=["self"]
theorem ziz:FnScope ["self"] zjn (zae Zah):=zbh (by decide +kernel)
noncomputable abbrev zgx:Stmt:=top 44
noncomputable abbrev zfp:List Str:=["weight", "field", "word"]
theorem zr1:FnScope ["weight", "field", "word"] zfp (zae zgx):=zbh (by decide +kernel)
noncomputable abbrev zey:Stmt:=top 45
noncomputable abbrev zdi:List Str:=["word"]
theorem zq7:FnScope ["word"] zdi (zae zey):=zbh (by decide +kernel)
noncomputable abbrev zg3:Stmt:=top 46
noncomputable abbrev zfa:List Str:=["row"]
theorem zhj:FnScope ["row", "words", "amount"] zfa (zae zg3):=zbh (by decide +kernel)
noncomputable abbrev zc7:Stmt:=top 47
noncomputable abbrev zci:List Str:=["number", "row"]
theorem zk1:FnScope ["number", "row"] zci (zae zc7):=zbh (by decide +kernel)
noncomputable abbrev zdz:Stmt:=top 48
noncomputable abbrev zd4:List Str:=["text"]
theorem zqa:FnScope ["text"] zd4 (zae zdz):=zbh (by decide +kernel)
noncomputable abbrev zha:Stmt:=top 15
noncomputable abbrev ze7:List Str:=["rules", "book", "one", "other"]
theorem zcw:FnScope ["rules", "book", "one", "other", "answers", "total", "rule", "asked"] ze7 (zae zha):=zbh (by decide +kernel)
noncomputable abbrev zc8:Stmt:=top 16
noncomputable abbrev zcl:List Str:=["book"]
theorem zek:FnScope ["book", "facts", "fact"] zcl (zae zc8):=zbh (by decide +kernel)
noncomputable abbrev zfy:Stmt:=top 17
noncomputable abbrev zd2:List Str:=["rules", "book"]
theorem zbz:FnScope ["rules", "book", "cards", "facts", "weights", "place", "one", "other", "weight"] zd2 (zae zfy):=zbh (by decide +kernel)
noncomputable abbrev zer:Stmt:=top 50
noncomputable abbrev zc9:List Str:=["_law_script", "_law_k"]
theorem znm:FnScope ["_law_script", "_law_k"] zc9 (zae zer):=zbh (by decide +kernel)
noncomputable abbrev zgt:Stmt:=top 51
noncomputable abbrev zff:List Str:=["_law_found"]
theorem zrt:FnScope ["_law_found"] zff (zae zgt):=zbh (by decide +kernel)
noncomputable abbrev zf0:Stmt:=top 52
noncomputable abbrev zd1:List Str:=["_law_cell", "_law_many"]
theorem zc1:FnScope ["_law_cell", "_law_many", "_law_found", "_law_number", "_law_k"] zd1 (zae zf0):=zbh (by decide +kernel)
noncomputable abbrev zez:Stmt:=top 53
noncomputable abbrev zfi:List Str:=["_law_cell", "_law_many"]
theorem zb0:FnScope ["_law_cell", "_law_many", "_law_letters", "_law_draws", "_law_size", "_law_at", "_law_base", "_law_cards_here", "_law_k", "_law_sign"] zfi (zae zez):=zbh (by decide +kernel)
noncomputable abbrev zf5:Stmt:=top 54
noncomputable abbrev zf4:List Str:=["_law_draw", "_law_more"]
theorem zb3:FnScope ["_law_draw", "_law_more", "_law_signs", "_law_draws", "_law_text", "_law_at", "_law_sign", "_law_some"] zf4 (zae zf5):=zbh (by decide +kernel)
noncomputable abbrev zg0:Stmt:=top 55
noncomputable abbrev zfd:List Str:=["_law_cell", "_law_draw"]
theorem zs5:FnScope ["_law_cell", "_law_draw"] zfd (zae zg0):=zbh (by decide +kernel)
noncomputable abbrev zhe:Stmt:=top 56
noncomputable abbrev zfq:List Str:=["_law_cells", "_law_cards_here", "_law_cell"]
theorem zb8:FnScope ["_law_cells", "_law_cards_here", "_law_cell", "_law_facts_here", "_law_one", "_law_draws", "_law_card", "_law_other", "_law_fact"] zfq (zae zhe):=zbh (by decide +kernel)
noncomputable abbrev zgw:Stmt:=top 57
noncomputable abbrev ze3:List Str:=["_law_cell", "_law_field_here"]
theorem zca:FnScope ["_law_cell", "_law_field_here", "_law_rules_here", "_law_draw", "_law_sort", "_law_where", "_law_weight_here"] ze3 (zae zgw):=zbh (by decide +kernel)
noncomputable abbrev zjw:Stmt:=top 58
noncomputable abbrev zhn:List Str:=["_law_rule"]
theorem zoi:FnScope ["_law_rule", "_law_way"] zhn (zae zjw):=zbh (by decide +kernel)
noncomputable abbrev ze2:Stmt:=top 59
noncomputable abbrev ze4:List Str:=["_law_facts_here", "_law_card", "_law_field_here"]
theorem zra:FnScope ["_law_facts_here", "_law_card", "_law_field_here"] ze4 (zae ze2):=zbh (by decide +kernel)
noncomputable abbrev zcx:Stmt:=top 60
noncomputable abbrev zdt:List Str:=["_law_texts_here"]
theorem zqk:FnScope ["_law_texts_here"] zdt (zae zcx):=zbh (by decide +kernel)
noncomputable abbrev zf7:Stmt:=top 61
noncomputable abbrev zga:List Str:=["_law_mine", "_law_others"]
theorem zt7:FnScope ["_law_mine", "_law_others"] zga (zae zf7):=zbh (by decide +kernel)
noncomputable abbrev zic:Stmt:=top 62
noncomputable abbrev zgb:List Str:=["_law_one", "_law_other"]
theorem zgr:FnScope ["_law_one", "_law_other", "_law_at"] zgb (zae zic):=zbh (by decide +kernel)
noncomputable abbrev zd9:Stmt:=top 63
noncomputable abbrev zdw:List Str:=["_law_sort", "_law_mine", "_law_others"]
theorem zeq:FnScope ["_law_sort", "_law_mine", "_law_others", "_law_text"] zdw (zae zd9):=zbh (by decide +kernel)
noncomputable abbrev zfu:Stmt:=top 64
noncomputable abbrev zd6:List Str:=["_law_rules_here", "_law_facts_here", "_law_one", "_law_other"]
theorem zbl:FnScope ["_law_rules_here", "_law_facts_here", "_law_one", "_law_other", "_law_weight_here", "_law_sort", "_law_field_here", "_law_number", "_law_its", "_law_speaks_here"] zd6 (zae zfu):=zbh (by decide +kernel)
noncomputable abbrev zgc:Stmt:=top 65
noncomputable abbrev zhs:List Str:=["_law_rules_here", "_law_facts_here"]
theorem zeu:FnScope ["_law_rules_here", "_law_facts_here", "_law_cards_here", "_law_due_here", "_law_one", "_law_other", "_law_weight_here"] zhs (zae zgc):=zbh (by decide +kernel)
noncomputable abbrev zxs:Stmt:=top 66
noncomputable abbrev zy0:List Str:=["_law_script"]
theorem zh4:FnScope ["_law_script", "_law_first", "_law_cell", "_law_facts_here", "_law_rows", "_law_book", "_law_rules_here", "_law_due_here", "_law_again", "_law_found", "_law_one"] zy0 (zae zxs):=zbh (by decide +kernel)
set_option genInjectivity false in
set_option genSizeOf false in
structure Ad where
 (Zaa Zae Zad Zab Zhf Zac Zc3 Zbg Ze7 Zgj Zge Zch Zh1 Zfl Zb5 Zcg Zgf Zbu Zd2 Zfw Zcs Zen Zfc Zec Zfe Zc4 Zag Zaf Za3 Zba Za8 Za6 Zbc Za4 Zax Zaw Zbk Zbd Zap Zei Zcf Zd3 Zbw Zdb Zd4 Zbz Zcv Zcd Zdz Zcr Zeb Zfq Zed Zeh Zd7 Zgc Zea Zb6 Zfd Zfm Zct Zda Zgd Zji:Addr)
 (Zi8 Zio Zi7 Zhg Zhe Zi6:Zll)
 (Ze6 Zgl Zgg Zcj Zhx Zfo Zb4 Zci Zgh Zbx Zek Zfx Zc2 Zd8 Zfi Zeg Zfg Zc1 Za0 Zat Za7 Za2 Za1 Za9 Zbb Za5 Zay Zav Zbl Zbe Zan Zej Zck Zee Zbv Zcx Zd5 Zby Zc8 Zca Zem Zc9 Zdx Zfp Zeo Zel Zd6 Zgb Zef Zcy Zff Zfa Zcw Zc7 Zgi Zip:Zot)
structure Tx(K:Zlh)(mg:Str->Option Zll)(ad0:Ad):Prop where
 Zif:mg "Former" = some (.ref ad0.Zaa)
 Zj0:mg "Like" = some (.ref ad0.Zae)
 Zjp:mg "Near" = some (.ref ad0.Zad)
 Zi3:mg "Other" = some (.ref ad0.Zab)
 Zjn:mg "Rule" = some (.ref ad0.Zhf)
 Zka:mg "Same" = some (.ref ad0.Zac)
 Zdf:Cls K ad0.Zac
 Zi4:Mk K ad0.Zac ad0.Zag
 Zdg:Cls K ad0.Zae
 Ziv:Mk K ad0.Zae ad0.Zag
 Zdm:Cls K ad0.Zad
 Ziw:Mk K ad0.Zad ad0.Zag
 Zb8:Cls K ad0.Zab
 Zii:Mk K ad0.Zab ad0.Zag
 Zdc:Cls K ad0.Zaa
 Zhz:Mk K ad0.Zaa ad0.Zbk
 Zce:zbt K ad0.Zac "field"
 Zcc:zbt K ad0.Zae "field"
 Zcb:zbt K ad0.Zad "field"
 Zb2:zbt K ad0.Zab "field"
 Zcp:zbt K ad0.Zaa "field"
 Zcl:Meth K ad0.Zaa "sort_word" ad0.Zap
 Zc5:Meth K ad0.Zab "sort_word" ad0.Zaw
 Zdo:Meth K ad0.Zad "sort_word" ad0.Za4
 Zdr:Meth K ad0.Zae "sort_word" ad0.Za6
 Zdw:Meth K ad0.Zac "sort_word" ad0.Zba
 Zes:Meth K ad0.Zaa "speaks" ad0.Zbd
 Zfb:Meth K ad0.Zab "speaks" ad0.Zaf
 Zfy:Meth K ad0.Zad "speaks" ad0.Zaf
 Zfu:Meth K ad0.Zae "speaks" ad0.Zaf
 Zfv:Meth K ad0.Zac "speaks" ad0.Zaf
 Zdh:zbt K ad0.Zac "weight"
 Zdi:zbt K ad0.Zae "weight"
 Zdj:zbt K ad0.Zad "weight"
 Zco:zbt K ad0.Zab "weight"
 Zb7:zbt K ad0.Zaa "weight"
 Zgx:CMeth K ad0.Zhf "__init__" ad0.Zag
 Zdt:Meth K ad0.Zae "speaks_by" ad0.Za8
 Zdn:Meth K ad0.Zad "speaks_by" ad0.Zbc
 Zc0:Meth K ad0.Zab "speaks_by" ad0.Zax
 Zds:Meth K ad0.Zac "speaks_by" ad0.Za3
 Zhj:mg "FIELDS" = some (.ref ad0.Zc3)
 Zgw:TupK K ad0.Zc3 [[110,97,109,101],[102,111,114,109,101,114],[119,97,121],[100,97,121],[109,97,114,107]]
 Zep:mg "PAIR_FIELDS" = some (.ref ad0.Zbg)
 Zeq:TupK K ad0.Zbg [[115,97,109,101],[97,112,97,114,116]]
 Zhw:mg "FIGURES" = some ad0.Zi8
 Zk8:RelV (.str (T [48,49,50,51,52,53,54,55,56,57])) ad0.Zi8
 Zgq:mg "GREATEST" = some ad0.Zio
 Ziq:RelV (.int 1000000000) ad0.Zio
 Zht:mg "LETTERS" = some ad0.Zi7
 Zk4:RelV (.str (T [97,98,99,100,101,102,103,104,105,106,107,108,109,110,111,112,113,114,115,116,117,118,119,120,121,122])) ad0.Zi7
 Zfs:mg "LONGEST_NAME" = some ad0.Zhg
 Zi2:RelV (.int 12) ad0.Zhg
 Zft:mg "LONGEST_TEXT" = some ad0.Zhe
 Ziz:RelV (.int 40) ad0.Zhe
 Zh0:mg "NO_SIGN" = some ad0.Zi6
 Zk6:RelV (.int 37) ad0.Zi6
 Zgk:FX K mg "is_name" zhq zgj ad0.Ze7 ad0.Ze6
 Zg2:FX K mg "is_sign" zjj zhw ad0.Zgj ad0.Zgl
 Zg3:FX K mg "is_text" zh8 zh6 ad0.Zge ad0.Zgg
 Zf3:FX K mg "pair_fact" zgs zdk ad0.Zch ad0.Zcj
 Zir:FX K mg "tidy" zwn zrf ad0.Zh1 ad0.Zhx
 Zgs:FX K mg "cards_of" zev zgg ad0.Zfl ad0.Zfo
 Zdk:FX K mg "is_passed_by" zdo zcs ad0.Zb5 ad0.Zb4
 Zdy:FX K mg "told_rows" zfc zdh ad0.Zcg ad0.Zci
 Zg0:FX K mg "fact_of" zjq zh9 ad0.Zgf ad0.Zgh
 Zcq:FX K mg "numbered_fact" zc0 zck ad0.Zbu ad0.Zbx
 Zfz:FX K mg "read_book" ze0 zfl ad0.Zd2 ad0.Zek
 Zb9:FX K mg "shares" zlg zil ad0.Zfw ad0.Zfx
 Zfr:FX K mg "near_forms" zfv zd0 ad0.Zcs ad0.Zc2
 Zd0:FX K mg "all_forms" zg9 ze1 ad0.Zen ad0.Zd8
 Zfk:FX K mg "plain_of" zgd zgi ad0.Zfc ad0.Zfi
 Zbi:FX K mg "plains_of" zfk ze8 ad0.Zec ad0.Zeg
 Zau:FX K mg "texts_of" zgo zgp ad0.Zfe ad0.Zfg
 Zcu:FX K mg "was_called" zfw zdv ad0.Zc4 ad0.Zc1
 Zb0:Fun K "__init__" "Rule.__init__" Zbn ad0.Zag ad0.Za0
 Zb1:zcc K ad0.Za0 ["self", "weight", "field"] []
 Zbs:Fun K "speaks" "Rule.speaks" Zbf ad0.Zaf ad0.Zat
 Zbr:zcc K ad0.Zat ["self", "book", "one", "other"] []
 Zew:Fun K "speaks_by" "Same.speaks_by" Zaq ad0.Za3 ad0.Za7
 Ze4:zcc K ad0.Za7 ["self", "texts", "others"] []
 Ze5:Fun K "sort_word" "Same.sort_word" Zar ad0.Zba ad0.Za2
 Zer:zcc K ad0.Za2 ["self"] []
 Ze2:Fun K "speaks_by" "Like.speaks_by" Zam ad0.Za8 ad0.Za1
 Zet:zcc K ad0.Za1 ["self", "texts", "others"] []
 Zev:Fun K "sort_word" "Like.sort_word" Zas ad0.Za6 ad0.Za9
 Ze0:zcc K ad0.Za9 ["self"] []
 Zex:Fun K "speaks_by" "Near.speaks_by" Zao ad0.Zbc ad0.Zbb
 Ze1:zcc K ad0.Zbb ["self", "texts", "others"] []
 Zeu:Fun K "sort_word" "Near.sort_word" Zal ad0.Za4 ad0.Za5
 Ze3:zcc K ad0.Za5 ["self"] []
 Zdp:Fun K "speaks_by" "Other.speaks_by" Zai ad0.Zax ad0.Zay
 Zdu:zcc K ad0.Zay ["self", "texts", "others"] []
 Zdv:Fun K "sort_word" "Other.sort_word" Zaj ad0.Zaw ad0.Zav
 Zdq:zcc K ad0.Zav ["self"] []
 Zgn:Fun K "__init__" "Former.__init__" Zbh ad0.Zbk ad0.Zbl
 Zgo:zcc K ad0.Zbl ["self", "weight"] []
 Ze9:Fun K "speaks" "Former.speaks" Zaz ad0.Zbd ad0.Zbe
 Zfn:zcc K ad0.Zbe ["self", "book", "one", "other"] []
 Zdd:Fun K "sort_word" "Former.sort_word" Zah ad0.Zap ad0.Zan
 Zcz:zcc K ad0.Zan ["self"] []
 Zf1:FX K mg "made_rule" zgx zfp ad0.Zei ad0.Zej
 Zf9:FX K mg "is_amount" zey zdi ad0.Zcf ad0.Zck
 Zf7:FX K mg "read_rule" zg3 zfa ad0.Zd3 ad0.Zee
 Zcm:FX K mg "numbered_rule" zc7 zci ad0.Zbw ad0.Zbv
 Zfh:FX K mg "read_rules" zdz zd4 ad0.Zdb ad0.Zcx
 Zf4:FX K mg "weight_of" zha ze7 ad0.Zd4 ad0.Zd5
 Zcn:FX K mg "facts_by_card" zc8 zcl ad0.Zbz ad0.Zby
 Zfj:FX K mg "weights_of" zfy zd2 ad0.Zcv ad0.Zc8
 Zbt:FX K mg "_law_cell_at" zer zc9 ad0.Zcd ad0.Zca
 Zf6:FX K mg "_law_whole" zgt zff ad0.Zdz ad0.Zem
 Zbq:FX K mg "_law_stream" zf0 zd1 ad0.Zcr ad0.Zc9
 Zf8:FX K mg "_law_cards" zez zfi ad0.Zeb ad0.Zdx
 Zgt:FX K mg "_law_bent" zf5 zf4 ad0.Zfq ad0.Zfp
 Zd1:FX K mg "_law_field" zg0 zfd ad0.Zed ad0.Zeo
 Zf2:FX K mg "_law_facts" zhe zfq ad0.Zeh ad0.Zel
 Zf0:FX K mg "_law_rules" zgw ze3 ad0.Zd7 ad0.Zd6
 Zg1:FX K mg "_law_row" zjw zhn ad0.Zgc ad0.Zgb
 Zbm:FX K mg "_law_texts" ze2 ze4 ad0.Zea ad0.Zef
 Zde:FX K mg "_law_plains" zcx zdt ad0.Zb6 ad0.Zcy
 Zdl:FX K mg "_law_meet" zf7 zga ad0.Zfd ad0.Zff
 Zgr:FX K mg "_law_near" zic zgb ad0.Zfm ad0.Zfa
 Zc6:FX K mg "_law_speaks" zd9 zdw ad0.Zct ad0.Zcw
 Ze8:FX K mg "_law_weight" zfu zd6 ad0.Zda ad0.Zc7
 Zg4:FX K mg "_law_due" zgc zhs ad0.Zgd ad0.Zgi
 Zim:FX K mg "law" zxs zy0 ad0.Zji ad0.Zip
 Zky:mg "abs" = none
 Zin:mg "all" = none
 Zjh:mg "any" = none
 Zj4:mg "bool" = none
 Zga:mg "enumerate" = none
 Zh2:mg "int" = none
 Zb3:mg "isinstance" = none
 Zbj:mg "len" = none
 Zjz:mg "list" = none
 Zjk:mg "max" = none
 Zjj:mg "min" = none
 Zkt:mg "ord" = none
 Zgu:mg "range" = none
 Zf5:mg "set" = none
 Zez:mg "sorted" = none
 Zjl:mg "str" = none
 Zh3:mg "tuple" = none
section
variable{P:Zmi}{w:Zng}{K:Zlh}{mg:Str->Option Zll}{base:Heap}{ad0:Ad}
noncomputable def zpd(ds:List D):Prop:=∃(ns:List Int) (k:Int),ds=[.lst (ns.map .int),.int k]/\0<=k
noncomputable def zhc:List D->D
 | [.lst xs,.int k]=>xs.getD k.toNat (.int 0)
 | _=>.non
theorem znq(Z:Tx K mg ad0):FnOk P w K mg base CX0 1 ad0.Zcd ad0.Zca zc9 (SpD K zpd zhc):=by
 refine okD Z.Zbt.F znm (by rintro ds ⟨ns,k,rfl,_⟩;rfl) fun cdv A outer s H Q E hr=>⟨_,(zag (zcn (zas ycy (pv 1) (zar zdu (by rfl) Z.Zbj Zps (zaa (pv 0) zad)) (zay _)) (zah (zao (za7 (show IxR _ (rIxL K) from zaz) (pv 0) (pv 1) (fun _ _=>rfl)))) za2)
   (zah (zao zai))),fun G ds hp rt=>?_⟩
 obtain⟨ns,k,rfl,hk⟩:=hp
 have ll:(ns.map D.int).length=ns.length:=by simp
 refine zak (zcj (zan (zo6 (g:=fun i j=>decide (i<j)) (zac rfl).b (zpw (zac rfl).l).b)) (fun hb=>?_) (fun hb=>?_))
 .simp only[decide_eq_true_eq] at hb
  have hk2:k.toNat<ns.length:=by omega
  refine zaw (zbs (d:=.int (ns.getD k.toNat 0)) (zac rfl).l (zac rfl).b ?_) ?_
  .have:=zix (xs:=ns.map D.int) (j:=k.toNat) (v:=D.int (ns.getD k.toNat 0)) (by rw[Zlx,Zlk];simp[hk2])
   rw[show((k.toNat:Nat):Int)=k by omega] at this
   exact this
  .have e:zhc [D.lst (ns.map D.int),D.int k]= .int (ns.getD k.toNat 0):=by
    simp[zhc,Zlk,Zlx,hk2]
   rw[e] at rt;exact rt
 .simp only[decide_eq_false_iff_not] at hb
  have e:zhc [D.lst (ns.map D.int),D.int k]= .int 0:=by
   simp[zhc,Zlk,Zlx,show ns[k.toNat]? = none from Zms (by omega)]
  rw[e] at rt
  refine za3 ?_
  ((try dsimp only);refine zaq ?_)
  exact zaw zaj rt
theorem small{n:Nat}(h:n<=1000):n<=sizeLine:=by rw[Zl7];omega
theorem zpk{α:Type}(xs:List α)(z:α)(x:Int){n:Int}(hn:(xs.length:Int)=n)(h0:0<n):atI xs (x % n)=some (xs.getD (x % n).toNat z):=by
 have h1:=Znd x (show n≠0 by omega)
 have h2:=Zmp x h0
 have:=zix (xs:=xs) (j:=(x % n).toNat) (v:=xs.getD (x % n).toNat z) (by rw[Zlk,Zlj (by omega)];rfl)
 rw[show(((x % n).toNat:Nat):Int)=x % n by omega] at this
 exact this
noncomputable def S(x:Str):D:=.str x.cps.toList
noncomputable def ze6:List D:=[S "same", S "apart"]
noncomputable def yjj:List D:=[S "name", S "former", S "way", S "day", S "mark"]
noncomputable abbrev Fct:=List Nat×List Nat×List Nat
noncomputable def encF(f:Fct):D:=.tup [.str f.1,.str f.2.1,.str f.2.2]
noncomputable def unF:D->Fct
 | .tup [.str a,.str b,.str c]=>(a,b,c)
 | _=>([],[],[])
theorem zfb(fs:List Fct):(fs.map encF).map unF=fs:=by
 rw[Zm0,show(unF∘encF)=id from rfl,Zve]
theorem yfq{f g:Fct}(h:encF f=encF g):f=g:=congrArg unF h
theorem zp9{fs:List Fct}{f:Fct}:encF f∈fs.map encF↔f∈fs :=
 ⟨fun h=>by obtain⟨g,hg,e⟩:=Zl2.mp h;rw[<- yfq e];exact hg,fun h=>Znb h⟩
theorem alF(fs:List Fct):zg6 (fs.map encF):=.inr (.inr ⟨.s,[.s,.s],fun d hd=>by
 obtain⟨f,_,rfl⟩:=Zl2.mp hd;exact⟨_,rfl,rfl⟩⟩)
theorem hkF(fs:List Fct):∀d∈fs.map encF,d.hk false=true:=by
 intro d hd;obtain⟨f,_,rfl⟩:=Zl2.mp hd;rfl
theorem ygh{ds:List D}{fs:List Fct}(h:∀d∈ds,d∈fs.map encF):(ds.map unF).map encF=ds:=by
 rw[Zm0]
 conv=>rhs;rw[<- Zve ds]
 exact Zrz fun d hd=>by obtain⟨f,_,rfl⟩:=Zl2.mp (h d hd);rfl
noncomputable def Bk(b:List Fct):Prop:=b.Nodup/\zgn (b.map encF)=b.map encF
noncomputable def mkB(fs:List Fct):List Fct:=(zgn (fs.map encF)).map unF
theorem ybb(fs:List Fct):(mkB fs).map encF=zgn (fs.map encF):=ygh fun d hd=>(zbw _).mem_iff.mp hd
theorem yix(fs:List Fct)(f:Fct):f∈mkB fs↔f∈fs:=by rw[<- zp9,ybb,(zbw _).mem_iff,zp9]
theorem yg4(fs:List Fct):(mkB fs).length=fs.length:=by unfold mkB;rw[Zlm,(zbw _).length_eq,Zlm]
theorem ye2(fs:List Fct):zgn (fs.map encF)=(mkB fs).map encF:=(ybb fs).symm
noncomputable def yc8(K:Zlh):Sp:=fun vs H Q _=>∃(a:Addr) (ns:List Int),vs=[.ref a]/\SqL K H a (ns.map V.int)/\ns.length<=63 /\ ∀H',Q (.bl true) H'
theorem zrh{K:Zlh}{H:Hp}:∀ns:List Int,Reps K H (ns.map D.int) (ns.map V.int)
 | []=>Reps.nil
 | n::ns=>Reps.cons Rep.int (zrh ns)
noncomputable def dedF(fs:List Fct):List Fct:=(ded (fs.map encF)).map unF
theorem zqn(fs:List Fct):(dedF fs).map encF=ded (fs.map encF):=ygh fun d hd=>zcf.mp hd
theorem ye9(fs:List Fct)(f:Fct):f∈dedF fs↔f∈fs:=by rw[<- zp9,zqn,zcf,zp9]
noncomputable def bkD(b:List Fct):D:=.lst (b.map encF)
theorem ye3(fs:List Fct):(dedF fs).length<=fs.length:=by
 unfold dedF
 rw[Zlm]
 have:=zm1 (fs.map encF)
 rwa [Zlm] at this
noncomputable def isPw(l:List Nat):Bool:=decide (D.str l∈ze6)
theorem ymv:ze6=[[115,97,109,101],[97,112,97,114,116]].map D.str:=by
 unfold ze6 S
 rw[show("same" : Str).cps.toList=[115,97,109,101] by decide +kernel,show("apart" : Str).cps.toList=[97,112,97,114,116] by decide +kernel]
 rfl
noncomputable def nmD(fs:List Fct):List D:=fs.map (fun f=>.str f.1)++(fs.filter fun f=>isPw f.2.1).map fun f=>.str f.2.2
noncomputable def ycm(ds:List D):Prop:=∃fs:List Fct,ds=[bkD fs]/\fs.length<=500/\(ded (nmD fs)).length<64
noncomputable def zki(fs:List Fct):List D:=zgn (ded (nmD fs))
theorem zkk{fs:List Fct}:∀d∈nmD fs,∃l,d= .str l:=by
 intro d hd
 rcases Zme.mp hd with z | z <;> obtain⟨f,_,rfl⟩:=Zl2.mp z <;> exact⟨_,rfl⟩
theorem hkS{ds:List D}(h:∀d∈ds,∃l,d= .str l):∀d∈ds,d.hk true=true:=by
 intro d hd;obtain⟨l,rfl⟩:=h d hd;rfl
theorem alS{ds:List D}(h:∀d∈ds,∃l,d= .str l):zg6 ds:=.inl fun d hd=>by obtain⟨l,rfl⟩:=h d hd;rfl
noncomputable def yb8:List D->List D
 | [.lst b]=>zki (b.map unF)
 | _=>[]
theorem znw(b:List Fct):yb8 [bkD b]=zki b:=by
 show zki ((b.map encF).map unF)=_
 rw[zfb]
theorem ztm(Z:Tx K mg ad0):FnOk P w K mg base CX0 1 ad0.Zfl ad0.Zfo zgg (SpO K ycm yb8):=by
 refine okO Z.Zgs.F zi1 (by rintro ds ⟨c,rfl,_⟩;rfl) fun cdv A outer s H Q E hr=>⟨_,(zag (zqe (i:=1) zi1.nd rfl (Zo6 rfl) rfl (LcOk.of (Nx:=(["book", "names", "told"]:List Str)) (sc:=zae zev) (N':=(["fact"]:List Str)) (nt:=1) (cs:=[]) rfl rfl (by decide +kernel)) (zbc (pv 0)) (fun _ _ _ _=>(zbk (i:=0) (show Zm9 (["fact"]:List Str) by decide +kernel) rfl (Zo6 rfl))) (fun _ _ _ _=>zcb) (fun _ _ _ _=>(za7 (show IxR _ (rIxT K) from zdf) (pv 0) zai (fun _ _=>rfl))))
   (zag (zqe (i:=2) zi1.nd rfl (Zo6 rfl) rfl (LcOk.of (Nx:=(["book", "names", "told"]:List Str)) (sc:=zae zev) (N':=(["fact"]:List Str)) (nt:=1) (cs:=[]) rfl rfl (by decide +kernel)) (zbc (pv 0)) (fun _ _ _ _=>(zbk (i:=0) (show Zm9 (["fact"]:List Str) by decide +kernel) rfl (Zo6 rfl))) (fun _ _ _ _=>(zg1 (zas (show OpR _ _ (rInD K false) from zqq hr.units) (za7 (show IxR _ (rIxT K) from zdf) (pv 0) zai (fun _ _=>rfl)) (zee (v:=.ref ad0.Zbg) (by rfl) Z.Zep rfl) (by with_unfolding_all rfl)))) (fun _ _ _ _=>(za7 (show IxR _ (rIxT K) from zdf) (pv 0) zai (fun _ _=>rfl))))
   (zah (zao (zar (show zb4 _ _ (zg5 P w K true) from zdm rfl) (by rfl) Z.Zez Zuk (zaa (zbx (show zb4 _ _ (zh5 P w K true) from zd7 rfl hr.units) (by rfl) Z.Zf5 Zt4 (zaa (zau (show OpR _ _ (zxu K) from zos) (pv 1) (pv 2)) zad)) zad)))))),fun G ds hp rt=>?_⟩
 obtain⟨fs,rfl,hf,h64⟩:=hp
 rw[znw] at rt
 have hz:fs.length<sizeLine:=by rw[Zl7];omega
 have h3:=Zoc (fun f:Fct=>isPw f.2.1) fs
 refine zak (za6 (zei fs encF (fun f=>.str f.1) (zac rfl).l (zbo (by decide)) (by decide) hz fun f hf=>⟨_,zax,zdg (zac rfl) zaj.b rfl⟩) fun p=>?_)
 ((try dsimp only);refine zaq ?_)
 refine zak (za6 (ziv fs encF (fun f=>isPw f.2.1) (fun f=>.str f.2.2) (zac rfl).l (zbo (by decide)) (by decide) hz fun f hf=>⟨_,zax,?_,fun _=>zdg (zac rfl) zaj.b rfl⟩) fun p2=>?_)
 .show EvT _ _ _ _ _ _ (decide (D.str f.2.1∈ze6))
  rw[ymv]
  exact zan (ya8 (zdg (zac rfl) zaj.b rfl).b (zpn Z.Zeq).b rfl rfl (by simp[D.dep]))
 ((try dsimp only);refine zaq ?_)
 have hl2:(nmD fs).length<=1000:=by
  unfold nmD
  rw[Zlw,Zlm,Zlm];omega
 refine zf2 (zg2 (ded (nmD fs)) (zi2 (EvO.l (zor (zef rfl) (zef rfl) ?_)) (hkS zkk) hl2) (hkS zkk) (alS zkk) (zct _) h64 fun d=>zcf) rt
 rw[Zlm,Zlm,Zl7];omega
noncomputable def M:Int:=4294967311
noncomputable def num(c:Int):Nat->Int
 | 0=>c % M+48271
 | k+1=>(num c k*num c k+69621*num c k+k) % M
theorem yi3(c:Int):∀k,0<=num c k/\num c k<M+48271
 | 0=>⟨by have:=Znd c (show M≠0 by decide);show 0<=c % M+48271;omega,by have:=Zmp c (show 0<M by decide);show c % M+48271<M+48271;omega⟩
 | k+1=>⟨Znd _ (by decide),by have:=Zmp (num c k*num c k+69621*num c k+k) (show 0<M by decide);show _ % M<M+48271;omega⟩
noncomputable def zcp(c:Int)(m:Nat):List D:=(Zl6 m).map fun i=>.int (num c (i+2))
noncomputable def zhy(ds:List D):Prop:=∃c m:Int,ds=[.int c,.int m]/\0<=m/\m<=1000
noncomputable def zf8:List D->List D
 | [.int c,.int m]=>zcp c m.toNat
 | _=>[]
theorem zes(Z:Tx K mg ad0):FnOk P w K mg base CX0 1 ad0.Zcr ad0.Zc9 zd1 (SpO K zhy zf8):=by
 refine okO Z.Zbq.F zc1 (by rintro ds ⟨c,m,rfl,_⟩;rfl) fun cdv A outer s H Q E hr=>⟨_,(zag (psn 2 zc1.nd (zco zad))
   (zag (psn 3 zc1.nd (zau zcd (zau zb7 (pv 0) zai) zai))
   (zag (zem Zm8 rfl (zjs (by rfl) Z.Zgu (zaa (zau zcd (pv 1) zai) zad)) (pgn 4 zc1.nd) (zag (psn 3 zc1.nd (zau zb7 (zau zcd (zau zcd (zau zqz (pv 3) (pv 3)) (zau zqz zai (pv 3))) (pv 4)) zai))
   (zah (zel (zdc Zny Zn7 Zoh zcq (pv 2) (zaa (pv 3) zad))))))
   (zah (zao (za4 zma (pv 2) (zbf zai) zbu)))))),fun G ds hp rt=>?_⟩
 obtain⟨c,m,rfl,hm0,hm1⟩:=hp
 refine zak (za6 (zbv zaf (by decide)) fun p=>?_)
 ((try dsimp only);refine zaq ?_)
 refine zak (zbd (zcg (zb9 (zac rfl).b zaj.b (by decide)).b zaj.b) ?_)
 ((try dsimp only);refine zaq ?_)
 refine zak (zlo (n:=m+1) (fun k ss=>∃v4,ss=[.d (.int c),.d (.int m),.o p ((Zl6 k).map fun i=>.int (num c (i+1))),.d (.int (num c k)),v4]) (zlh (zcg (zac rfl).b zaj.b).b zpe) ⟨by omega,by omega⟩ ⟨.un,rfl⟩ ?_ ?_ (fun _ _ _ h=>h))
 .rintro k ss hk ⟨v4,rfl⟩ N hN
  have hr:=yi3 c k
  rw[show M=4294967311 from rfl] at hr
  refine zak (zbd (zb9 (zcg (zcg (zsk (zac rfl).b (zac rfl).b ?_).b (zsk zaj.b (zac rfl).b ?_).b).b (zac rfl).b).b zaj.b (by decide)) ?_)
  .exact .inl ⟨by omega,by omega⟩
  .exact .inl ⟨by decide,by decide⟩
  ·((try dsimp only);refine zaq ?_)
   refine zd8 rfl (zac rfl) ?_ ?_
   .rw[Zlm,Zm2,Zl7];omega
   .refine hN _ ⟨.d (.int k),?_⟩
    rw[Zo3,Znc]
    rfl
 .rintro ss ⟨v4,rfl⟩
  ((try dsimp only);refine zaq ?_)
  refine zf2 (zmq (zef rfl) (zba zaj.b) zdx) ?_
  have e:cutD ((Zl6 (m+1).toNat).map fun i=>D.int (num c (i+1))) (some 1) none=zf8 [.int c,.int m]:=by
   rw[zri _ (by decide),show(m+1).toNat=m.toNat+1 by omega]
   show Yc9 1 _=zcp c m.toNat
   rw[Zsx,Zl0,Zpv,Zz1,Zm0]
   rfl
  rw[e];exact rt
theorem zc2(c:Int)(m:Nat)(i:Nat)(h:i<m):atI (zcp c m) (i:Int)=some (.int (num c (i+2))) :=
 zix (by unfold zcp;rw[Zlx,Zn8 h];rfl)
noncomputable def cardAt(cs:List (List Nat))(x:Int):List Nat:=cs.getD (x % cs.length).toNat []
theorem zv0(cs:List (List Nat))(x:Int)(h:cs≠[]):atI (cs.map D.str) (x % cs.length)=some (.str (cardAt cs x)):=by
 have hl:0<cs.length:=Ztr.mpr h
 have h1:=Znd x (show(cs.length:Int)≠0 by omega)
 have h2:=Zmp x (show(0:Int)<cs.length by omega)
 have:=zix (xs:=cs.map D.str) (j:=(x % cs.length).toNat) (v:=.str (cardAt cs x)) (by unfold cardAt;rw[Zlx,Zlk,Zlj (by omega)];rfl)
 rw[show(((x % cs.length).toNat:Nat):Int)=x % cs.length by omega] at this
 exact this
noncomputable def lets:List Nat:=("abcdefghijklmnopqrstuvwxyz" : Str).cps.toList
theorem zl0:lets.length=26:=by decide +kernel
theorem zz1:∀c∈lets,c<128:=by decide +kernel
noncomputable def zjb(x:Int):Nat:=lets.getD (x % 26).toNat 0
theorem zzf(x:Int):atI lets (x % 26)=some (zjb x):=zpk lets 0 x (by rw[zl0];rfl) (by decide)
noncomputable def zi0(c:Int):Int:=1+num c 2 % 12
theorem zhz(c:Int):1<=zi0 c/\zi0 c<=12:=by unfold zi0;omega
noncomputable def cat_(c:Int):Int:=num c 3 % zi0 c
theorem zzl(c:Int):0<=cat_ c/\cat_ c<zi0 c:=by
 have:=zhz c
 exact⟨Znd _ (by omega),Zmp _ (by omega)⟩
noncomputable def zhx(c:Int):List Nat:=(Zl6 (zi0 c).toNat).map fun i=>zjb (num c (i+4))
noncomputable def zs1(c:Int)(k:Nat):List Nat:=cutL (zhx c) none (some (cat_ c))++[zjb (num c ((2+cat_ c).toNat+2)+7*k)]++cutL (zhx c) (some (cat_ c+1)) none
noncomputable def cardsN(c many:Int):List (List Nat):=(Zl6 many.toNat).map (zs1 c)
noncomputable def zop(ds:List D):Prop:=∃c m:Int,ds=[.int c,.int m]/\0<=m/\m<=100
noncomputable def zlr:List D->List D
 | [.int c,.int m]=>(cardsN c m).map .str
 | _=>[]
theorem zyb(c:Int)(m:Nat)(i:Int)(h0:0<=i)(h:i<m):atI (zcp c m) i=some (.int (num c (i.toNat+2))):=by
 have:=zc2 c m i.toNat (by omega)
 rw[show((i.toNat:Nat):Int)=i by omega] at this
 exact this
theorem zw2(c:Int):cutD (zcp c 14) (some 2) (some (2+zi0 c))=(Zl6 (zi0 c).toNat).map fun i=>.int (num c (i+4)):=by
 have h:=zhz c
 rw[zpa _ (by decide) (by omega)]
 unfold zcp
 refine Zom fun i=>?_
 rw[Zr9]
 by_cases hi:i<(zi0 c).toNat
 .rw[if_pos (by omega),Zp2,Zlx,Zlx,Zn8 (by omega),Zn8 hi]
  show some (D.int (num c (2+i+2)))=some (D.int (num c (i+4)))
  rw[show 2+i+2=i+4 by omega]
 .rw[if_neg (by omega),Zms (by simp;omega)]
theorem zzw(c:Int):(zhx c).length<=12:=by
 have:=zhz c
 unfold zhx;rw[Zlm,Zm2];omega
theorem zfe(l:List Nat)(lo hi:Option Int):(cutL l lo hi).length<=l.length:=by unfold cutL;rw[Znk,Zmo];omega
theorem zst(Z:Tx K mg ad0):FnOk P w K mg base CX0 2 ad0.Zeb ad0.Zdx zfi (SpO K zop zlr):=by
 have Zbp:=zes (P:=P) (w:=w) (base:=base) Z
 refine okO Z.Zf8.F zb0 (by rintro ds ⟨c,m,rfl,_⟩;rfl) fun cdv A outer s H Q E hr=>⟨_,(zag (ygq (i:=2) zb0.nd rfl (Zy2 rfl) zap)
   (zag (psn 3 zb0.nd (pcX Zbp hr Z.Zbq (zaa (pv 0) (zaa zai zad))))
   (zag (psn 4 zb0.nd (zau zcd zai (zau zb7 (za7 (show IxR _ (rIxL K) from zaz) (pv 3) zai (fun _ _=>rfl)) zai)))
   (zag (psn 5 zb0.nd (zau zb7 (za7 (show IxR _ (rIxL K) from zaz) (pv 3) zai (fun _ _=>rfl)) (pv 4)))
   (zag (psn 6 zb0.nd (zdc Zmm Zpr Zpq zi7 zap (zaa (zg7 rfl (LcOk.of (Nx:=(["_law_cell", "_law_many", "_law_letters", "_law_draws", "_law_size", "_law_at", "_law_base", "_law_cards_here", "_law_k", "_law_sign"]:List Str)) (sc:=zae zez) (N':=(["_law_draw", "_law_letters"]:List Str)) (nt:=1) (cs:=[2]) rfl rfl (by decide +kernel)) (zbc (za4 zma (pv 3) (zbf zai) (zbf (zau zcd zai (pv 4))))) (fun _ _ _ _=>(zbk (i:=0) (show Zm9 (["_law_draw", "_law_letters"]:List Str) by decide +kernel) rfl (Zo6 rfl))) (fun _ _ _ _=>zcb) (fun _ _ _ _=>(za7 znc (pv 1) (zau zb7 (pv 0) zai) (fun _ _=>rfl)))) zad)))
   (zag (psn 7 zb0.nd (zco zad))
   (zag (zem Zm8 rfl (zjs (by rfl) Z.Zgu (zaa (pv 1) zad)) (pgn 8 zb0.nd) (zag (psn 9 zb0.nd (za7 znc (pv 2) (zau zb7 (zau zcd (za7 (show IxR _ (rIxL K) from zaz) (pv 3) (zau zcd zai (pv 5)) (fun _ _=>rfl)) (zau zqz zai (pv 8))) zai) (fun _ _=>rfl)))
   (zah (zel (zdc Zny Zn7 Zoh zcq (pv 7) (zaa (zau zb6 (zau zb6 (za4 zcv (pv 6) zbu (zbf (pv 5))) (pv 9)) (za4 zcv (pv 6) (zbf (zau zcd (pv 5) zai)) zbu)) zad))))))
   (zah (zao (pv 7)))))))))),fun G ds hp rt=>?_⟩
 obtain⟨c,m,rfl,hm0,hm1⟩:=hp
 have hz:=zhz c
 have ha:=zzl c
 have hbl:=zzw c
 have h12:(12:Nat)<=sizeLine:=small (by decide)
 refine zak (zbd (zby zz1) ?_)
 ((try dsimp only);refine zaq ?_)
 refine zak (za6 (za0 (pre:=zhy) (res:=zf8) (zab (zac rfl) (zab zaj zaf)) ⟨c,14,rfl,by decide,by decide⟩) fun p=>?_)
 ((try dsimp only);refine zaq ?_)
 refine zak (zbd (d:=.int (zi0 c)) (zcg zaj.b (zb9 (zbs (zef rfl) zaj.b (zc2 c 14 0 (by decide))).b zaj.b (by decide)).b) ?_)
 ((try dsimp only);refine zaq ?_)
 refine zak (zbd (d:=.int (cat_ c)) (zb9 (zbs (zef rfl) zaj.b (zc2 c 14 1 (by decide))).b (zac rfl).b (by omega)) ?_)
 ((try dsimp only);refine zaq ?_)
 refine zak (zbd (d:=.str (zhx c)) ?_ ?_)
 .unfold zhx
  rw[<- zwu]
  refine zwv (xs:=Zl6 (zi0 c).toNat) (z:=[]) (g:=fun i=>[zjb (num c (i+4))]) ?a (EvO.l ?b) ?c
  case a=>exact(za5 (by decide +kernel) (by decide)).b
  case b =>
   refine zei (Zl6 (zi0 c).toNat) (fun i=>.int (num c (i+4))) _ ?b1 (zbo (by decide)) (by decide) ?b2 ?b3
   case b1 =>
    rw[<- zw2]
    exact EvO.l (zmq (zef rfl) (zba zaj.b) (zba (zcg zaj.b (zac rfl).b).b))
   case b2=>rw[Zm2,Zl7];omega
   case b3 =>
    intro i hi
    refine⟨_,zax,?_⟩
    exact zmf (zac rfl).b (zb9 (zac rfl).b zaj.b (by decide)).b (small (by rw[zl0];decide)) (zzf _)
  case c =>
   simp only[Zm0,Zm2,Zm6,Yb6,Yb9]
   rw[show(Zm7∘fun i=>[zjb (num c (i+4))])=fun _=>1 from rfl,Zzi,Zwz,Zm2];omega
 ((try dsimp only);refine zaq ?_)
 refine zak (za6 (zbv zaf (small (by decide))) fun q=>?_)
 ((try dsimp only);refine zaq ?_)
 refine zak (zlo (n:=m) (fun k ss=>∃v8 v9,ss=[.d (.int c),.d (.int m),.d (.str lets),.o p (zcp c 14),.d (.int (zi0 c)),.d (.int (cat_ c)),.d (.str (zhx c)),.o q ((Zl6 k).map fun k=>.str (zs1 c k)),v8,v9]) (zlh (zac rfl).b zpe) ⟨by omega,by omega⟩ ⟨.un,.un,rfl⟩ ?_ ?_ (fun _ _ _ h=>h))
 .rintro k ss hk ⟨v8,v9,rfl⟩ N hN
  refine zak (zbd (d:=.str [zjb (num c ((2+cat_ c).toNat+2)+7*k)]) (zmf (zac rfl).b (zb9 (zcg (zbs (zef rfl) (zcg zaj.b (zac rfl).b).b (zyb c 14 _ (by omega) (by omega))).b (zsk zaj.b (zac rfl).b (.inl ⟨by decide,by decide⟩)).b).b zaj.b (by decide)).b (small (by rw[zl0];decide)) (zzf _)) ?_)
  ((try dsimp only);refine zaq ?_)
  refine zd8 (d:=.str (zs1 c k)) rfl (zfh (zfh (zfm (zac rfl).b zdx (zba (zac rfl).b) (by omega)).b (zac rfl).b ?_).b (zfm (zac rfl).b (zba (zcg (zac rfl).b zaj.b).b) zdx (by omega)).b ?_) ?_ ?_
  .have:=zfe (zhx c) none (some (cat_ c))
   exact small (by simp only[Zl1,Zm6];omega)
  .have:=zfe (zhx c) none (some (cat_ c))
   have:=zfe (zhx c) (some (cat_ c+1)) none
   exact small (by simp only[Zlw,Zl1,Zm6];omega)
  .rw[Zlm,Zm2,Zl7];omega
  .refine hN _ ⟨.d (.int k),.d (.str [zjb (num c ((2+cat_ c).toNat+2)+7*k)]),?_⟩
   rw[Zo3,Znc]
   rfl
 .rintro ss ⟨v8,v9,rfl⟩
  ((try dsimp only);refine zaq ?_)
  refine zi4 rfl ?_
  have e:((Zl6 m.toNat).map fun k=>D.str (zs1 c k))=zlr [.int c,.int m]:=by
   show _=(cardsN c m).map D.str
   unfold cardsN
   rw[Zm0];rfl
  rw[e];exact rt
theorem zny(x:Int):zjb x∈lets:=by
 have h1:=Znd x (show(26:Int)≠0 by decide)
 have h2:=Zmp x (show(0:Int)<26 by decide)
 unfold zjb
 rw[Zlk,Zlj (by rw[zl0];omega)]
 exact Znl _
noncomputable def ziq:List Nat:=((Zl6 95).map (· + 32)).filter (· != 37)
noncomputable def flds:List (List Nat):=[[110,97,109,101],[102,111,114,109,101,114],[119,97,121],[100,97,121],[109,97,114,107]]
noncomputable def prs:List (List Nat):=[[115,97,109,101],[97,112,97,114,116]]
noncomputable def zky(n:List Nat):Prop:=1<=n.length/\n.length<=12 /\ ∀c∈n,c∈lets
noncomputable instance(n:List Nat):Decidable (zky n):=by unfold zky;exact inferInstance
noncomputable def zy4(t:List Nat):Prop:=1<=t.length/\t.length<=40/\t=stripL [32].contains t /\ ∀c∈t,c∈ziq
noncomputable def preS(ds:List D):Prop:=∃l,ds=[.str l]/\l.length<=1000
noncomputable def zw5(l:List Nat):Bool:=(decide ((1:Int)<=(l.length:Int))&&decide ((l.length:Int)<=12))&&l.all fun c=>decide (c∈lets)
noncomputable def zjz:List D->D
 | [.str l]=>.bl (zw5 l)
 | _=>.non
theorem zxr(Z:Tx K mg ad0):FnOk P w K mg base CX0 1 ad0.Ze7 ad0.Ze6 zgj (SpD K preS zjz):=by
 refine okD Z.Zgk.F zxg (by rintro ds ⟨c,rfl,_⟩;rfl) fun cdv A outer s H Q E hr=>⟨_,(zah (zao (zm2 (zwi zzr zzr zai (zar zbm (by rfl) Z.Zbj Zps (zaa (pv 0) zad)) (zee (by rfl) Z.Zfs Z.Zi2)) (zku (zar (zpo rfl) (by rfl) Z.Zin Ydk (zaa (zg7 rfl (LcOk.of (Nx:=(["text"]:List Str)) (sc:=zae zhq) (N':=(["sign"]:List Str)) (nt:=1) (cs:=[]) rfl rfl (by decide +kernel)) (ya0 (pv 0)) (fun _ _ _ _=>(zbk (i:=0) (show Zm9 (["sign"]:List Str) by decide +kernel) rfl (Zo6 rfl))) (fun _ _ _ _=>zcb) (fun _ _ _ _=>(zda zrn (pv 0) (zee (by rfl) Z.Zht Z.Zk4) (by with_unfolding_all rfl)))) zad)))))),fun G ds hp rt=>?_⟩
 obtain⟨l,rfl,hl⟩:=hp
 have rt:RtD K G H Q (.bl (zw5 l)):=rt
 have hz:l.length<=sizeLine:=small hl
 exact zaw (znb (ztf zaj.b (zft (zac rfl).b hz).b zaj.b) fun _=>zti (xs:=l) (g:=fun c=>decide (c∈lets)) (EvO.l (zmx l (fun c=>.bl (decide (c∈lets))) (zac rfl).b (zbo (by decide)) (by decide) (by rw[Zl7];omega) fun c hc=>⟨_,zax,ygn (zac rfl).b (za5 (l:=lets) (by decide +kernel) zz1).b⟩))) rt
theorem zrp{l:List Nat}(h:zky l):zw5 l=true:=by
 unfold zw5
 obtain⟨h1,h2,h3⟩:=h
 rw[decide_eq_true (show(1:Int)<=(l.length:Int) by omega),decide_eq_true (show(l.length:Int)<=12 by omega)]
 simp only[Zrs,Zpy,decide_eq_true_eq]
 exact h3
noncomputable def preC(ds:List D):Prop:=∃c:Nat,ds=[.str [c]]
noncomputable def zul(c:Nat):Bool:=(!decide ([c]<[32]) && !decide ([126]<[c])) && !decide ((c:Int)=37)
noncomputable def ybw:List D->D
 | [.str [c]]=>.bl (zul c)
 | _=>.non
theorem zx6(Z:Tx K mg ad0):FnOk P w K mg base CX0 1 ad0.Zgj ad0.Zgl zhw (SpD K preC ybw):=by
 refine okD Z.Zg2.F zym (by rintro ds ⟨c,rfl⟩;rfl) fun cdv A outer s H Q E hr=>⟨_,(zah (zao (zm2 (zwi zrb zrb zap (pv 0) zap) (zku (zda zo3 (zar yfa (by rfl) Z.Zkt boot_ord (zaa (pv 0) zad)) (zee (by rfl) Z.Zh0 Z.Zk6) (zay _)))))),fun G ds hp rt=>?_⟩
 obtain⟨c,rfl⟩:=hp
 have rt:RtD K G H Q (.bl (zul c)):=rt
 exact zaw (znb (ycs (za5 (l:=[32]) (by decide +kernel) (by decide)).b (zac rfl).b (za5 (l:=[126]) (by decide +kernel) (by decide)).b) fun _=>zux (ylf (zac rfl).b).b zaj.b) rt
theorem zyw:∀c∈ziq,zul c=true:=by decide +kernel
noncomputable def zpr(l:List Nat):Bool:=(decide ((1:Int)<=(l.length:Int))&&decide ((l.length:Int)<=40))&&(decide (l=stripL [32].contains l)&&l.all fun c=>zul c)
noncomputable def zt8:List D->D
 | [.str l]=>.bl (zpr l)
 | _=>.non
theorem zw6(Z:Tx K mg ad0):FnOk P w K mg base CX0 2 ad0.Zge ad0.Zgg zh6 (SpD K preS zt8):=by
 have Zk5:=zx6 (P:=P) (w:=w) (base:=base) Z
 refine okD Z.Zg3.F zxf (by rintro ds ⟨c,rfl,_⟩;rfl) fun cdv A outer s H Q E hr=>⟨_,(zag (zcn (zkq (yd5 zzr zzr zai (zar zbm (by rfl) Z.Zbj Zps (zaa (pv 0) zad)) (zee (by rfl) Z.Zft Z.Ziz))) (zah (zao zs0)) za2)
   (zah (zao (zm2 (zda zdd (pv 0) (zdc Zmm Zvu Zvs zmj (pv 0) (zaa zap zad)) (zay _)) (zku (zar (zpo rfl) (by rfl) Z.Zin Ydk (zaa (zg7 rfl (LcOk.of (Nx:=(["text"]:List Str)) (sc:=zae zh8) (N':=(["sign"]:List Str)) (nt:=1) (cs:=[]) rfl rfl (by decide +kernel)) (ya0 (pv 0)) (fun _ _ _ _=>(zbk (i:=0) (show Zm9 (["sign"]:List Str) by decide +kernel) rfl (Zo6 rfl))) (fun _ _ _ _=>zcb) (fun _ _ _ _=>(pcX Zk5 hr Z.Zg2 (zaa (pv 0) zad)))) zad))))))),fun G ds hp rt=>?_⟩
 obtain⟨l,rfl,hl⟩:=hp
 have rt:RtD K G H Q (.bl (zpr l)):=rt
 have hz:l.length<=sizeLine:=small hl
 refine zak (zcj (zh1 (zan (ztf zaj.b (zft (zac rfl).b hz).b zaj.b))) (fun hb=>?_) (fun hb=>?_))
 .have e:zpr l=false:=by
   unfold zpr
   rw[Zuj] at hb
   rw[hb,Ztp]
  rw[e] at rt
  exact zaw ybq rt
 .refine za3 ?_
  ((try dsimp only);refine zaq ?_)
  have e:zpr l=(decide (l=stripL [32].contains l)&&l.all fun c=>zul c):=by
   unfold zpr
   rw[Zyc] at hb
   rw[hb,Zrs]
  rw[e] at rt
  exact zaw (znb (zcy (zac rfl).b (zpl (zac rfl).b (za5 (l:=[32]) (by decide +kernel) (by decide)).b hz).b) fun _=>zti (xs:=l) (g:=fun c=>zul c) (EvO.l (zmx l (fun c=>.bl (zul c)) (zac rfl).b (zbo (by decide)) (by decide) (by rw[Zl7];omega) fun c hc=>⟨_,zax,zbn (pre:=preC) (res:=ybw) (zab (zac rfl) zaf) ⟨c,rfl⟩⟩))) rt
theorem yct{l:List Nat}(h:zy4 l):zpr l=true:=by
 unfold zpr
 obtain⟨h1,h2,h3,h4⟩:=h
 rw[decide_eq_true (show(1:Int)<=(l.length:Int) by omega),decide_eq_true (show(l.length:Int)<=40 by omega),decide_eq_true h3]
 simp only[Zrs,Zpy]
 exact fun c hc=>zyw c (h4 c hc)
noncomputable def yif(ds:List D):Prop:=∃a f b,ds=[.str a,.str f,.str b]
noncomputable def yeh:List D->D
 | [.str a,.str f,.str b]=>.tup [.str (minL a b),.str f,.str (maxL a b)]
 | _=>.non
theorem zq3(Z:Tx K mg ad0):FnOk P w K mg base CX0 1 ad0.Zch ad0.Zcj zdk (SpD K yif yeh):=by
 refine okD Z.Zf3.F zq2 (by rintro ds ⟨a,f,b,rfl⟩;rfl) fun cdv A outer s H Q E hr=>⟨_,(zah (zao (zhf (zaa (zar (zqr rfl) (by rfl) Z.Zjj boot_min (zaa (pv 0) (zaa (pv 2) zad))) (zaa (pv 1) (zaa (zar (zrv rfl) (by rfl) Z.Zjk boot_max (zaa (pv 0) (zaa (pv 2) zad))) zad)))))),fun G ds hp rt=>?_⟩
 obtain⟨a,f,b,rfl⟩:=hp
 exact zaw (zhv (zab (zzo (zac rfl).b (zac rfl).b) (zab (zac rfl) (zab (zzm (zac rfl).b (zac rfl).b) zaf))) (small (by simp))) rt
noncomputable abbrev Row:=List Nat×List Nat×List Nat
noncomputable def rowL(x:Row):List Nat:=x.1++32::(x.2.1++32::x.2.2)
noncomputable def zjf(x:Row):Prop:=zky x.1/\((x.2.1∈flds/\zy4 x.2.2)\/(x.2.1∈prs/\zky x.2.2/\x.1≠x.2.2))
noncomputable def yk4(x:Row)(ds:List D):Prop:=ds=[.str (rowL x)]/\zjf x
noncomputable def znk(x:Row):D:=if x.2.1∈prs then .tup [.str (minL x.1 x.2.2),.str x.2.1,.str (maxL x.1 x.2.2)] else .tup [.str x.1,.str x.2.1,.str x.2.2]
theorem zm5:∀f∈flds,f∉prs:=by decide +kernel
theorem zr3:∀f∈prs,f∉flds:=by decide +kernel
theorem zre:∀f∈flds++prs,32∉f/\f.length<=6:=by decide +kernel
theorem yhr:32∉lets:=by decide +kernel
theorem zv6{f:List Nat}{ls:List (List Nat)}:decide (D.str f∈ls.map D.str)=decide (f∈ls):=by
 congr 1
 rw[Zl2]
 apply propext
 exact⟨fun⟨g,hg,e⟩=>by injection e with e;rw[<- e];exact hg,fun h=>⟨f,h,rfl⟩⟩
theorem zxe(Z:Tx K mg ad0):FnOk P w K mg base CX0 3 ad0.Zgf ad0.Zgh zh9 (SpG K yk4 znk):=by
 have Zi5:FnOk P w K mg base CX0 2 ad0.Ze7 ad0.Ze6 zgj (SpD K preS zjz):=(zxr Z).mono (by decide)
 have Zk9:=zw6 (P:=P) (w:=w) (base:=base) Z
 have Zkf:FnOk P w K mg base CX0 2 ad0.Zch ad0.Zcj zdk (SpD K yif yeh):=(zq3 Z).mono (by decide)
 refine okG Z.Zg0.F zoh (by rintro x ds ⟨rfl,_⟩;rfl) fun cdv A outer s H Q E hr=>⟨_,(zag (psn 1 zoh.nd (zdc Zmm Zoa Zrt ycf (pv 0) (zaa zap (zaa zai zad))))
   (zag (zcn (PW.pt (zsu (zas ycy (zar zdu (by rfl) Z.Zbj Zps (zaa (pv 1) zad)) zai (zay _)) (zmz (zkq (zhg (pcX Zi5 hr Z.Zgk (zaa (za7 (show IxR _ (rIxL K) from zaz) (pv 1) zai (fun _ _=>rfl)) zad))))))) (zah zjc) za2)
   (zag (zcn (PW.pt (zir (zas (show OpR _ _ (rInD K false) from zqq hr.units) (za7 (show IxR _ (rIxL K) from zaz) (pv 1) zai (fun _ _=>rfl)) (zee (v:=.ref ad0.Zc3) (by rfl) Z.Zhj rfl) (by with_unfolding_all rfl)) (zgq (zhg (pcX Zk9 hr Z.Zg3 (zaa (za7 (show IxR _ (rIxL K) from zaz) (pv 1) zai (fun _ _=>rfl)) zad)))))) (zah (zao (zbx zpc (by rfl) Z.Zh3 boot_tuple (zaa (pv 1) zad)))) za2)
   (zag (zcn (PW.pt (zir (zas (show OpR _ _ (rInD K false) from zqq hr.units) (za7 (show IxR _ (rIxL K) from zaz) (pv 1) zai (fun _ _=>rfl)) (zee (v:=.ref ad0.Zbg) (by rfl) Z.Zep rfl) (by with_unfolding_all rfl)) (zir (zhg (pcX Zi5 hr Z.Zgk (zaa (za7 (show IxR _ (rIxL K) from zaz) (pv 1) zai (fun _ _=>rfl)) zad))) (zgq (zas zo3 (za7 (show IxR _ (rIxL K) from zaz) (pv 1) zai (fun _ _=>rfl)) (za7 (show IxR _ (rIxL K) from zaz) (pv 1) zai (fun _ _=>rfl)) (zay _)))))) (zah (zao (pcX Zkf hr Z.Zf3 (zaa (za7 (show IxR _ (rIxL K) from zaz) (pv 1) zai (fun _ _=>rfl)) (zaa (za7 (show IxR _ (rIxL K) from zaz) (pv 1) zai (fun _ _=>rfl)) (zaa (za7 (show IxR _ (rIxL K) from zaz) (pv 1) zai (fun _ _=>rfl)) zad)))))) za2)
   (zah zjc))))),fun G ds x hp rt=>?_⟩
 obtain⟨rfl,hx⟩:=hp
 obtain⟨c,f,t⟩:=x
 unfold rowL
 obtain⟨hc,hft⟩:=hx
 dsimp only at hc hft rt ⊢
 have hfm:f∈flds++prs:=by
  rcases hft with h | h
  .exact Zoy _ h.1
  .exact Zmw _ h.1
 obtain⟨hf32,hfl⟩:=zre f hfm
 have hc32:32∉c:=fun h=>yhr (hc.2.2 _ h)
 have htl:t.length<=40:=by
  rcases hft with h | h
  .exact h.2.2.1
  .have:=h.2.1.2.1;omega
 have hcl:=hc.2.1
 have sp:=zt6 (z:=32) (c:=t) hc32 hf32
 refine zak (za6 (ds:=[.str c,.str f,.str t]) (by
  have e:[D.str c,.str f,.str t]=(za1 32 (2:Int).toNat (c++32::(f++32::t))).map D.str:=by
   rw[show(2:Int).toNat=2 from rfl,sp];rfl
  rw[e]
  exact zw9 (zac rfl).b (za5 (l:=[32]) (by decide +kernel) (by decide)).b zaj.b ⟨by decide,by decide⟩ (by simp[Zl7];omega)) fun p=>zbb (i:=1) rfl ?_)
 ((try dsimp only);refine zaq ?_)
 have callN:zjz [.str c]= .bl true:=by show D.bl (zw5 c)=_;rw[zrp hc]
 refine zak (zcj (b:=(decide ((([D.str c,D.str f,D.str t].length:Nat):Int)<3) || !true)) (zkm (zan (yjh (zpw (zac rfl).l).b zaj.b)) fun _=>zh1 (zk6 (by
  rw[<- callN]
  exact zbn (pre:=preS) (res:=zjz) (zab (zbs (zac rfl).l zaj.b rfl) zaf) ⟨c,rfl,by omega⟩))) (fun hb=>by simp at hb) (fun _=>?_))
 refine za3 ?_
 ((try dsimp only);refine zaq ?_)
 have inT:∀{ls:List (List Nat)} {k:Addr} (h:TupK K k ls) {L0:Hp} {ss:List Sl} (hs:ss[1]? = some (.d (.lst [.str c,.str f,.str t]))),Ev K G H L0 ss (tOp (rInD K false) (tOp (rIxL K) (tVar 1) (tC (.int 1))) (tC (.ref k))) (.bl (decide (f∈ls))):=fun {ls k} h {L0 ss} hs=>by
  rw[<- zv6]
  exact ya8 (zbs (zac hs).l zaj.b rfl).b (zpn h).b rfl (D.nbs_map (fun _=>rfl) ls) (by simp[D.dep])
 rcases hft with ⟨h1,h2⟩ | ⟨h1,h2,h3⟩
 .have callT:zt8 [.str t]= .bl true:=by show D.bl (zpr t)=_;rw[yct h2]
  refine zak (zcj (b:=(decide (f∈flds)&&true)) (ze9 (zan (inT Z.Zgw rfl)) fun _=>zk6 (by
   rw[<- callT]
   exact zbn (pre:=preS) (res:=zt8) (zab (zbs (zac rfl).l zaj.b rfl) zaf) ⟨t,rfl,by omega⟩)) (fun _=>?_) (fun hb=>by rw[decide_eq_true h1] at hb;cases hb))
  have e:znk (c,f,t)= .tup [.str c,.str f,.str t]:=by unfold znk;rw[if_neg (zm5 f h1)]
  rw[e] at rt
  exact zaw (zw0 (zac rfl).l (small (by simp))) rt
 .refine zak (zcj (b:=(decide (f∈flds)&&true)) (ze9 (zan (inT Z.Zgw rfl)) fun hb=>by rw[decide_eq_false (zr3 f h1)] at hb;cases hb) (fun hb=>by rw[decide_eq_false (zr3 f h1)] at hb;cases hb) (fun _=>?_))
  refine za3 ?_
  ((try dsimp only);refine zaq ?_)
  have callN2:zjz [.str t]= .bl true:=by show D.bl (zw5 t)=_;rw[zrp h2]
  refine zak (zcj (b:=(decide (f∈prs)&&(true && !decide (c=t)))) (ze9 (zan (inT Z.Zeq rfl)) fun _=>ze9 (zk6 (by
   rw[<- callN2]
   exact zbn (pre:=preS) (res:=zjz) (zab (zbs (zac rfl).l zaj.b rfl) zaf) ⟨t,rfl,by omega⟩)) fun _=>zan (zrg (zbs (zac rfl).l zaj.b rfl).b (zbs (zac rfl).l zaj.b rfl).b)) (fun _=>?_) (fun hb=>by rw[decide_eq_true h1,decide_eq_false h3] at hb;cases hb))
  have e:znk (c,f,t)=yeh [.str c,.str f,.str t]:=by unfold znk;rw[if_pos h1];rfl
  rw[e] at rt
  exact zaw (zbn (pre:=yif) (res:=yeh) (zab (zbs (zac rfl).l zaj.b rfl) (zab (zbs (zac rfl).l zaj.b rfl) (zab (zbs (zac rfl).l zaj.b rfl) zaf))) ⟨c,f,t,rfl⟩) rt
noncomputable def yme(ds:List D):Prop:=∃fs:List Fct,ds=[bkD fs]/\fs.length<=500/\(dedF fs).length<64
noncomputable def ztr:List D->List D
 | [.lst b]=>(mkB (dedF (b.map unF))).map encF
 | _=>[]
theorem zl8(b:List Fct):ztr [bkD b]=(mkB (dedF b)).map encF:=by
 show(mkB (dedF ((b.map encF).map unF))).map encF=_
 rw[zfb]
theorem yg5(Z:Tx K mg ad0):FnOk P w K mg base CX0 1 ad0.Zh1 ad0.Zhx zrf (SpO K yme ztr):=by
 refine okO Z.Zir.F yha (by rintro ds ⟨c,rfl,_⟩;rfl) fun cdv A outer s H Q E hr=>⟨_,(zah (zao (zar (show zb4 _ _ (zg5 P w K false) from zdm rfl) (by rfl) Z.Zez Zuk (zaa (zbx (show zb4 _ _ (zh5 P w K false) from zd7 rfl hr.units) (by rfl) Z.Zf5 Zt4 (zaa (pv 0) zad)) zad)))),fun G ds hp rt=>?_⟩
 obtain⟨fs,rfl,hf,h64⟩:=hp
 rw[zl8,<- ye2,zqn] at rt
 exact zf2 (zg2 (ded (fs.map encF)) (zi2 (zac rfl).l (hkF fs) (by rw[Zlm];omega)) (hkF fs) (alF fs) (zct _) (by rw[<- zqn,Zlm];exact h64) fun d=>zcf) rt
noncomputable def zhl(l:List Nat):Bool:=decide (stripL [32].contains l=[])||decide (l.head? = some 35)
noncomputable def preL(ds:List D):Prop:=∃l,ds=[.str l]/\l.length<=1000000
noncomputable def ybr:List D->D
 | [.str l]=>.bl (zhl l)
 | _=>.non
theorem zmd(Z:Tx K mg ad0):FnOk P w K mg base CX0 1 ad0.Zb5 ad0.Zb4 zcs (SpD K preL ybr):=by
 refine okD Z.Zdk.F zmt (by rintro ds ⟨c,rfl,_⟩;rfl) fun cdv A outer s H Q E hr=>⟨_,(zah (zao (yjq (zda zdd (zdc Zmm Zvu Zvs zmj (pv 0) (zaa zap zad)) zap (zay _)) (zku (zdc Zmm F.slot_str_startswith F.type_str_startswith (show MtR _ _ zui from zp4) (pv 0) (zaa zap zad)))))),fun G ds hp rt=>?_⟩
 obtain⟨l,rfl,hl⟩:=hp
 have rt:RtD K G H Q (.bl (zhl l)):=rt
 exact zaw (ylr (zcy (zpl (zac rfl).b (za5 (l:=[32]) (by decide +kernel) (by decide)).b (by rw[Zl7];omega)).b (za5 (l:=[]) (by decide +kernel) (by decide)).b) fun _=>zzd (zac rfl).b (za5 (l:=[35]) (by decide +kernel) (by decide)).b) rt
noncomputable def lnAt(l:List Nat)(i:Nat):List Nat:=(zbg 10 l).getD i []
noncomputable def zi3(l:List Nat):List Nat:=(Zl6 (zbg 10 l).length).filter fun i=>!zhl (lnAt l i)
noncomputable def numD(l:List Nat)(i:Nat):D:=.tup [.int ((i+1:Nat):Int),.str (lnAt l i)]
noncomputable def zoz:List D->List D
 | [.str l]=>(zi3 l).map (numD l)
 | _=>[]
theorem zjk{z:Nat}:∀{n:Nat} {l p:List Nat},p∈za1 z n l->p.length<=l.length
 | 0,l,p,h=>by rw[za1,Zlz] at h;subst h;exact Zlt _
 | n+1,l,p,h=>by
  rcases zgk (z:=z) l with ⟨h1,h2⟩ | ⟨b,h1,h2,h3⟩
  .rw[za1,h1] at h
   have h:p∈[l]:=h
   rw[Zlz] at h;subst h;exact Zlt _
  .rw[za1,h1] at h
   have h:p∈l.takeWhile (· != z)::za1 z n b:=h
   have hl:=congrArg Zm7 h2
   rw[Zlw,Zl1] at hl
   rcases Zly.mp h with h | h
   .subst h;omega
   .have:=zjk h;omega
theorem zkx(Z:Tx K mg ad0):FnOk P w K mg base CX0 2 ad0.Zcg ad0.Zci zdh (SpO K preL zoz):=by
 have Zix:=zmd (P:=P) (w:=w) (base:=base) Z
 refine okO Z.Zdy.F zkl (by rintro ds ⟨c,rfl,_⟩;rfl) fun cdv A outer s H Q E hr=>⟨_,(zag (psn 1 zkl.nd (zdc Zmm Zoa Zrt zli (pv 0) (zaa zap zad)))
   (zah (zao (zg7 rfl (LcOk.of (Nx:=(["text", "rows"]:List Str)) (sc:=zae zfc) (N':=(["number", "row"]:List Str)) (nt:=2) (cs:=[]) rfl rfl (by decide +kernel)) (yfp (by rfl) Z.Zga (zaa (pv 1) zad) zai) (fun _ _ _ _=>(show PG _ _ (gTup K 2 _) from zru rfl (zc6 (zbk (i:=0) (show Zm9 (["number", "row"]:List Str) by decide +kernel) rfl (Zo6 rfl)) (zc6 (zbk (i:=1) (show Zm9 (["number", "row"]:List Str) by decide +kernel) rfl (Zo6 rfl)) znd)))) (fun _ _ _ _=>(zg1 (zkq (zhg (pcX Zix hr Z.Zdk (zaa (pv 1) zad)))))) (fun _ _ _ _=>(zhf (zaa (pv 0) (zaa (pv 1) zad)))))))),fun G ds hp rt=>?_⟩
 obtain⟨l,rfl,hl⟩:=hp
 refine zak (za6 (zih (zac rfl).b (za5 (l:=[10]) (by decide +kernel) (by decide)).b (by rw[Zl7];omega)) fun p=>zbb (i:=1) rfl ?_)
 ((try dsimp only);refine zaq ?_)
 have hsl:(zbg 10 l).length<=l.length+2:=zh0 10 _ l
 refine zf2 (ds:=(zi3 l).map (numD l)) ?_ rt
 have hn:((zbg 10 l).map D.str).length=(zbg 10 l).length:=Zlm ..
 unfold zi3
 rw[<- hn]
 refine zox (fun i=>!zhl (lnAt l i)) (numD l) (zzc (ds:=(zbg 10 l).map D.str) (zac rfl)) (yau (zim (zbo (by decide)) (zim (zbo (by decide)) ztp))) (by decide) (by rw[Zlm,Zl7];omega) fun i hi=>?_
 rw[Zlm] at hi
 have eg:((zbg 10 l).map D.str).getD i .non= .str (lnAt l i):=by
  unfold lnAt
  rw[Zlk,Zlk,Zlx,Zlj hi];rfl
 have hm:lnAt l i∈zbg 10 l:=by
  unfold lnAt
  rw[Zlk,Zlj hi];exact Znl _
 rw[eg]
 exact⟨_,zq0 rfl (zc4 zax (zc4 zax znf)),zh1 (zk6 (zbn (pre:=preL) (res:=ybr) (zab (zac rfl) zaf) ⟨_,rfl,by have:=zjk hm;omega⟩)),fun _=>zhv (zab (zac rfl) (zab (zac rfl) zaf)) (small (by simp))⟩
noncomputable def yj7(x:Row)(ds:List D):Prop:=∃n:Int,ds=[.int n,.str (rowL x)]/\zjf x
theorem zk9(Z:Tx K mg ad0):FnOk P w K mg base CX0 4 ad0.Zbu ad0.Zbx zck (SpG K yj7 znk):=by
 have Zla:=zxe (P:=P) (w:=w) (base:=base) Z
 refine okG Z.Zcq.F zk2 (by rintro x ds ⟨n,rfl,_⟩;rfl) fun cdv A outer s H Q E hr=>⟨_,(zah (zog rfl (zah (zao (pcX Zla hr Z.Zg0 (zaa (pv 1) zad)))))),fun G ds x hp rt=>?_⟩
 obtain⟨n,rfl,hx⟩:=hp
 exact zaw (zdr (pre:=yk4) (res:=znk) x (zab (zac rfl) zaf) ⟨rfl,hx⟩) rt
noncomputable abbrev Ln:=List Nat×Option Row
noncomputable def LnOk(p:Ln):Prop:=10∉p.1/\p.1.length<=100/\match p.2 with
 | none=>zhl p.1=true
 | some x=>p.1=rowL x/\zjf x
noncomputable def foF(x:Row):Fct:=if x.2.1∈prs then (minL x.1 x.2.2,x.2.1,maxL x.1 x.2.2) else x
theorem zz2(x:Row):znk x=encF (foF x):=by
 unfold znk foF
 split <;> rfl
noncomputable def zdj(ls:List Ln):List Fct:=ls.filterMap fun p=>p.2.map foF
noncomputable def txtOf(ls:List Ln):List Nat:=glue [10] (ls.map (·.1))
noncomputable def yjp(ls:List Ln)(ds:List D):Prop:=ds=[.str (txtOf ls)]/\ls≠[]/\ls.length<=400/\(∀p∈ls,LnOk p)/\(dedF (zdj ls)).length<64
noncomputable def ycu(ls:List Ln):List D:=(mkB (dedF (zdj ls))).map encF
theorem yd0{x:Row}(h:zjf x):∃c t,rowL x=c::t/\c∈lets:=by
 obtain⟨⟨h1,_,h3⟩,_⟩:=h
 unfold rowL
 cases hx:x.1 with
 | nil=>rw[hx] at h1;simp at h1
 | cons c t=>exact⟨c,_,rfl,h3 c (by rw[hx];simp)⟩
theorem znx{c:Nat}{t:List Nat}(h:c≠32):stripL [32].contains (c::t)≠[]:=by
 unfold stripL
 have e:(c::t).dropWhile [32].contains=c::t:=by
  rw[Zon]
  simp[h]
 rw[e]
 intro z
 have z:=List.reverse_eq_nil_iff.mp z
 have:c∈(c::t).reverse:=by simp
 have hs:∀l:List Nat,l.dropWhile [32].contains=[]-> ∀x∈l,x=32:=fun l=>by
  induction l with
  | nil=>intro _ x hx;cases hx
  | cons a l ih =>
   intro hl x hx
   rw[Zon] at hl
   split at hl
   .rename_i ha
    rcases Zly.mp hx with rfl | hx
    .simpa using ha
    .exact ih hl x hx
   .cases hl
 exact h (hs _ z c this)
theorem yd9{x:Row}(h:zjf x):zhl (rowL x)=false:=by
 obtain⟨c,t,e,hc⟩:=yd0 h
 have hc2:c≠32/\c≠35:=(show ∀c∈lets,c≠32/\c≠35 by decide +kernel) c hc
 unfold zhl
 rw[e,decide_eq_false (znx hc2.1)]
 simp[hc2.2]
theorem zvs{ls:List (List Nat)}{n:Nat}(h:∀l∈ls,l.length<=n):(ls.map Zm7).sum<=n*ls.length:=by
 induction ls with
 | nil=>simp
 | cons a l ih =>
  have h1:=h a Zls
  have h2:=ih fun x hx=>h x (Zlp _ hx)
  simp only[Zl0,Zqs,Zl1]
  rw[Ycp];omega
theorem zqh(z:List Nat):∀ls:List (List Nat),(glue z ls).length<=(ls.map Zm7).sum+z.length*ls.length
 | []=>by simp[glue]
 | [a]=>by simp[glue]
 | a::b::r=>by
  have:=zqh z (b::r)
  simp only[glue,Zlw,Zl0,Zqs,Zl1,Ycp,Zx7] at this ⊢
  omega
theorem yi0{ls:List Ln}(h:∀p∈ls,LnOk p)(hl:ls.length<=400):(txtOf ls).length<=100000:=by
 unfold txtOf
 have h1:=zqh [10] (ls.map (·.1))
 have h2:=zvs (ls:=ls.map (·.1)) (n:=100) (by intro l hm;obtain⟨p,hp,rfl⟩:=Zl2.mp hm;exact(h p hp).2.1)
 simp only[Zlm,Zl1,Zm6] at h1 h2
 omega
theorem ybv{ls:List Ln}(h:∀p∈ls,LnOk p)(h0:ls≠[]):zbg 10 (txtOf ls)=ls.map (·.1):=by
 unfold zbg txtOf
 refine zid (by simpa using h0) (by intro q hq;obtain⟨p,hp,rfl⟩:=Zl2.mp hq;exact(h p hp).1) ?_
 have:∀qs:List (List Nat),qs.length<=(glue [10] qs).length+1:=fun qs=>by
  induction qs with
  | nil=>simp
  | cons a r ih =>
   cases r with
   | nil=>simp
   | cons b r=>simp only[glue,Zlw,Zl1,Zm6] at ih ⊢;omega
 have:=this (ls.map (·.1))
 omega
theorem ztc(Z:Tx K mg ad0):FnOk P w K mg base CX0 5 ad0.Zd2 ad0.Zek zfl (SpGO K yjp ycu):=by
 have Zlg:=yg5 (P:=P) (w:=w) (base:=base) Z
 have Zg6:=zkx (P:=P) (w:=w) (base:=base) Z
 have Zik:=zk9 (P:=P) (w:=w) (base:=base) Z
 refine okGO Z.Zfz.F zsh (by rintro x ds ⟨rfl,_⟩;rfl) fun cdv A outer s H Q E hr=>⟨_,(zah (zao (pcX Zlg hr Z.Zir (zaa (zg7 rfl (LcOk.of (Nx:=(["text"]:List Str)) (sc:=zae ze0) (N':=(["number", "row"]:List Str)) (nt:=2) (cs:=[]) rfl rfl (by decide +kernel)) (zbc (pcX Zg6 hr Z.Zdy (zaa (pv 0) zad))) (fun _ _ _ _=>(show PG _ _ (gTup K 2 _) from zru rfl (zc6 (zbk (i:=0) (show Zm9 (["number", "row"]:List Str) by decide +kernel) rfl (Zo6 rfl)) (zc6 (zbk (i:=1) (show Zm9 (["number", "row"]:List Str) by decide +kernel) rfl (Zo6 rfl)) znd)))) (fun _ _ _ _=>zcb) (fun _ _ _ _=>(pcX Zik hr Z.Zcq (zaa (pv 0) (zaa (pv 1) zad))))) zad)))),fun G ds ls hp rt=>?_⟩
 obtain⟨rfl,h0,hl,hok,h64⟩:=hp
 have hsp:=ybv hok h0
 have htl:=yi0 hok hl
 generalize txtOf ls=tx at hsp htl
 have hln:∀i (hi:i<ls.length),lnAt tx i=(ls[i]).1:=fun i hi=>by
  unfold lnAt
  rw[hsp,Zlk,Zlx,Zlj hi];rfl
 have hmem:∀i∈zi3 tx,∃x:Row,lnAt tx i=rowL x/\zjf x/\(ls.getD i ([],none)).2=some x:=fun i hi=>by
  unfold zi3 at hi
  obtain⟨h1,h2⟩:=Zns.mp hi
  rw[Zm3,hsp,Zlm] at h1
  rw[hln i h1] at h2 ⊢
  have ho:=hok _ (Znl h1)
  rw[Zlk,Zlj h1]
  show ∃x:Row,ls[i].1=rowL x/\zjf x/\ls[i].2=some x
  obtain⟨_,_,ho⟩:=ho
  cases e:ls[i].2 with
  | none =>
   rw[e] at ho
   have ho:zhl ls[i].1=true:=ho
   rw[ho] at h2;cases h2
  | some x =>
   rw[e] at ho
   have ho:ls[i].1=rowL x/\zjf x:=ho
   exact⟨x,ho.1,ho.2,rfl⟩
 let rw':Nat->Row:=fun i=>((ls.getD i ([],none)).2).getD ([],[],[])
 have hfs:(zi3 tx).map (fun i=>foF (rw' i))=zdj ls:=by
  have key:∀(ms:List Ln) (off:Nat),(∀p∈ms,LnOk p)->(∀j,j<ms.length->ls[off+j]? = ms[j]?)->off+ms.length=ls.length->((Zso off ms.length).filter fun i=>!zhl (lnAt tx i)).map (fun i=>foF (rw' i))=zdj ms:=by
   intro ms
   induction ms with
   | nil=>intro off _ _ _;rfl
   | cons p ms ih =>
    intro off hms hat hlen
    have h1:=ih (off+1) (fun q hq=>hms q (Zlp _ hq)) (fun j hj=>by rw[show off+1+j=off+(j+1) by omega,hat (j+1) (by simpa using hj)];rfl) (by simp at hlen ⊢;omega)
    have hp:=hms p Zls
    have hat0:ls[off]? = some p:=by have:=hat 0 (by simp);simpa using this
    have hoff:off<ls.length:=(Zlq.mp hat0).1
    have e0:ls[off]=p:=by rw[Zlj hoff] at hat0;exact Zni hat0
    have el:lnAt tx off=p.1:=by rw[hln off hoff,e0]
    have er:rw' off=p.2.getD ([],[],[]):=by show((ls.getD off ([],none)).2).getD _=_;rw[Zlk,hat0];rfl
    rw[Zl1,Zsu,Zpx]
    obtain⟨_,_,hp⟩:=hp
    cases e:p.2 with
    | none =>
     rw[e] at hp
     have hp:zhl p.1=true:=hp
     rw[if_neg (by rw[el,hp];decide),h1]
     unfold zdj
     rw[Zn9,e];rfl
    | some x =>
     rw[e] at hp
     have hp:p.1=rowL x/\zjf x:=hp
     rw[if_pos (by rw[el,hp.1,yd9 hp.2];rfl),Zl0,h1,er,e]
     unfold zdj
     rw[Zn9,e];rfl
  unfold zi3
  rw[hsp,Zlm,Zxd]
  exact key ls 0 hok (fun j hj=>by rw[Zsc]) (by omega)
 have hrl:(zdj ls).length<=400:=by
  unfold zdj
  have:=Zwg (fun p:Ln=>p.2.map foF) ls
  omega
 have htn:(zi3 tx).length<=400:=by rw[<- hfs,Zlm] at hrl;exact hrl
 show Go _ _ _ _ _ _ _
 have rt:RtO K G H Q ((mkB (dedF (zdj ls))).map encF):=rt
 rw[<- zl8] at rt
 refine zf2 (za0 (pre:=yme) (res:=ztr) (zab (EvO.ev ?_) zaf) ⟨zdj ls,rfl,by omega,h64⟩) rt
 rw[<- hfs,Zm0]
 refine zei (zi3 tx) (numD tx) _ (EvO.l (za0 (pre:=preL) (res:=zoz) (zab (zac rfl) zaf) ⟨tx,rfl,by omega⟩)) (yau (zim (zbo (by decide)) (zim (zbo (by decide)) ztp))) (by decide) (by rw[Zl7];omega) fun i hi=>?_
 obtain⟨x,e1,e2,e3⟩:=hmem i hi
 refine⟨_,zq0 rfl (zc4 zax (zc4 zax znf)),?_⟩
 have er:rw' i=x:=by show((ls.getD i ([],none)).2).getD _=x;rw[e3];rfl
 show Ev _ _ _ _ _ _ (encF (foF (rw' i)))
 rw[er,<- zz2]
 refine zdr (pre:=yj7) (res:=znk) x (zab (zac rfl) (zab (by rw[<- e1];exact zac rfl) zaf)) ⟨_,rfl,e2⟩
noncomputable abbrev Lnk:=List Nat×List Nat
noncomputable def encS(c:List Nat):D:=.str c
theorem zu5(a b:List Nat)(h:encS a=encS b):a=b:=by unfold encS at h;injection h
noncomputable def unS:D->List Nat
 | .str l=>l
 | _=>[]
theorem zf1(xs:List (List Nat)):(xs.map encS).map unS=xs:=by rw[Zm0];exact Zve xs
noncomputable def encN(n:Nat):D:=.int n
noncomputable def encK(l:Lnk):D:=.tup [.str l.1,.str l.2]
noncomputable def unK:D->Lnk
 | .tup [.str a,.str b]=>(a,b)
 | _=>([],[])
noncomputable def ufS(f:List Nat->List Nat)(l:Lnk):List Nat->List Nat:=ym8 (minL (f l.1) (f l.2)) (maxL (f l.1) (f l.2)) f
noncomputable def ufF(ls:List Lnk):List Nat->List Nat:=ls.foldl ufS id
theorem ymz(a b:List Nat):(minL a b=a/\maxL a b=b)\/(minL a b=b/\maxL a b=a):=by
 unfold minL maxL
 by_cases h1:a<b
 .rw[if_pos h1,if_neg (List.lt_asymm h1)]
  exact .inl ⟨rfl,rfl⟩
 .by_cases h2:b<a
  .rw[if_pos h2,if_neg h1]
   exact .inr ⟨rfl,rfl⟩
  .have:a=b:=Zu0 (Zqm.mp h2) (Zqm.mp h1)
   rw[if_neg h1,if_neg h2]
   exact .inl ⟨rfl,this⟩
theorem zxh{α:Type}{xs:List α}(h:xs.Nodup){k:Nat}{x:α}(hk:xs[k]? = some x):x∉xs.take k:=fun hm=>by
 obtain⟨j,hj⟩:=Zmr.mp hm
 have hjk:j<k:=by
  have:=(Zlq.mp hj).1
  rw[Znk] at this;omega
 rw[Zr9,if_pos hjk] at hj
 have h1:=(Zlq.mp hj)
 have h2:=(Zlq.mp hk)
 unfold Zm9 at h
 rw[Zoo] at h
 exact h j k h1.1 h2.1 hjk (h1.2.trans h2.2.symm)
noncomputable def tpF(b:List Fct)(w:List Nat):List Lnk:=(b.filter fun f=>decide (f.2.1=w)).map fun f=>(f.1,f.2.2)
noncomputable def ynh:List Nat:=("same" : Str).cps.toList
noncomputable def ync:List Nat:=("apart" : Str).cps.toList
noncomputable def ynj:List Nat:=("mark" : Str).cps.toList
noncomputable def cardsL(b:List Fct):List (List Nat):=(zki b).map unS
theorem zxa(b:List Fct):∀d∈zki b,∃l,d= .str l:=fun d hd=>zkk d (zcf.mp ((zbw _).mem_iff.mp hd))
theorem ygm{ds:List D}(h:∀d∈ds,∃l,d= .str l):(ds.map unS).map encS=ds:=by
 rw[Zm0]
 conv=>rhs;rw[<- Zve ds]
 exact Zrz fun d hd=>by obtain⟨l,rfl⟩:=h d hd;rfl
theorem zij(b:List Fct):(cardsL b).map encS=zki b:=ygm (zxa b)
theorem yla{xs:List (List Nat)}(h:(xs.map encS).Nodup):xs.Nodup:=by
 unfold Zm9 at *
 rw[Zq7] at h
 exact h.imp fun a e=>a (congrArg encS e)
theorem zsf(b:List Fct):(cardsL b).Nodup:=yla (by rw[zij];exact(zbw _).nodup_iff.mpr (zct _))
theorem zj9(b:List Fct):(cardsL b).length<=2*b.length:=by
 unfold cardsL zki
 rw[Zlm,(zbw _).length_eq]
 have h1:=zm1 (nmD b)
 have h2:(nmD b).length<=2*b.length:=by
  unfold nmD
  have:=Zoc (fun f:Fct=>isPw f.2.1) b
  rw[Zlw,Zlm,Zlm];omega
 omega
theorem ya3(c:List Nat):(encS c).nb=true:=rfl
theorem ztb{c:List Nat}{cs:List (List Nat)}:encS c∈cs.map encS↔c∈cs :=
 ⟨fun h=>by obtain⟨g,hg,e⟩:=Zl2.mp h;rw[<- zu5 _ _ e];exact hg,fun h=>Znb h⟩
noncomputable def zej(a b:List (List Nat)):Bool:=a.any fun x=>decide (encS x∈b.map encS)
theorem zpm{a b:List (List Nat)}:zej a b=true ↔ ∃x,x∈a/\x∈b:=by
 unfold zej
 rw[Zow]
 constructor
 .rintro⟨x,hx,h⟩;exact⟨x,hx,ztb.mp (of_decide_eq_true h)⟩
 .rintro⟨x,hx,h⟩;exact⟨x,hx,decide_eq_true (ztb.mpr h)⟩
theorem zgv{a b a' b':List (List Nat)}(h1:∀x,x∈a↔x∈a')(h2:∀x,x∈b↔x∈b'):zej a b=zej a' b':=by
 rw[Zmj,zpm,zpm]
 simp only[h1,h2]
noncomputable def zq6(ds:List D):Prop:=∃a b:List (List Nat),ds=[.lst (a.map encS),.lst (b.map encS)]/\a.length+b.length<=1000
noncomputable def zns:List D->D
 | [.lst a,.lst b]=>.bl (zej (a.map unS) (b.map unS))
 | _=>.non
theorem zfn(a b:List (List Nat)):zns [.lst (a.map encS),.lst (b.map encS)]= .bl (zej a b):=by
 show D.bl (zej ((a.map encS).map unS) ((b.map encS).map unS))=_
 rw[zf1,zf1]
theorem hkE(a:List (List Nat)):∀d∈a.map encS,d.hk true=true:=by
 intro d hd;obtain⟨l,_,rfl⟩:=Zl2.mp hd;rfl
theorem zjv(Z:Tx K mg ad0):FnOk P w K mg base CX0 1 ad0.Zfw ad0.Zfx zil (SpD K zq6 zns):=by
 refine okD Z.Zb9.F zsq (by rintro ds ⟨c,d,rfl,_⟩;rfl) fun cdv A outer s H Q E hr=>⟨_,(zah (zao (zda yel (zar (show zb4 _ _ (yd8 P w K true) from zs8) (by rfl) Z.Zbj Zps (zaa (zau (show OpR _ _ (zw1 P w K true mAnd) from ybl hr.units) (zbx (show zb4 _ _ (zh5 P w K true) from zd7 rfl hr.units) (by rfl) Z.Zf5 Zt4 (zaa (pv 0) zad)) (zbx (show zb4 _ _ (zh5 P w K true) from zd7 rfl hr.units) (by rfl) Z.Zf5 Zt4 (zaa (pv 1) zad))) zad)) zai (zay _)))),fun G ds hp rt=>?_⟩
 obtain⟨a,b,rfl,hl⟩:=hp
 rw[zfn] at rt
 have hm:∀d,d∈(a.map encS).filter (fun d=>decide (d∈b.map encS))↔d∈a.map encS/\d∈b.map encS:=fun d=>by rw[Zns,decide_eq_true_eq]
 have e:decide ((0:Int)<((ded ((a.map encS).filter fun d=>decide (d∈b.map encS))).length:Nat))=zej a b:=by
  rw[Zmj,decide_eq_true_eq,zpm]
  constructor
  .intro h
   obtain⟨d,hd⟩:=Zu1 (l:=ded ((a.map encS).filter fun d=>decide (d∈b.map encS))) (by omega)
   obtain⟨h1,h2⟩:=(hm d).mp (zcf.mp hd)
   obtain⟨x,hx,rfl⟩:=Zl2.mp h1
   exact⟨x,hx,ztb.mp h2⟩
  .rintro⟨x,h1,h2⟩
   have:encS x∈ded ((a.map encS).filter fun d=>decide (d∈b.map encS)):=zcf.mpr ((hm _).mpr ⟨Znb h1,Znb h2⟩)
   have:=Zq3 this
   omega
 rw[<- e] at rt
 refine zaw (ye0 (zsl (f:=true) (ded ((a.map encS).filter fun d=>decide (d∈b.map encS))) (zz8 (dr:=(a.map encS).filter fun d=>decide (d∈b.map encS)) (zi2 (zac rfl).l (hkE a) (by rw[Zlm];omega)) (zi2 (zac rfl).l (hkE b) (by rw[Zlm];omega)) (hkE a) (hkE b) (by rw[Zlm,Zlm];omega) hm) (fun d hd=>hkE a d ((hm d).mp hd).1) (zct _) fun d=>zcf).b zaj.b) rt
noncomputable def txF(b:List Fct)(c f:List Nat):List (List Nat):=(b.filter fun x=>decide (x.1=c)&&decide (x.2.1=f)).map fun x=>x.2.2
noncomputable def srtS(a:List (List Nat)):List (List Nat):=(zgn (a.map encS)).map unS
theorem zwm(a:List (List Nat)):(srtS a).map encS=zgn (a.map encS):=ygm fun d hd=>by obtain⟨x,_,rfl⟩:=Zl2.mp ((zbw _).mem_iff.mp hd);exact⟨_,rfl⟩
theorem zgu(a:List (List Nat))(x:List Nat):x∈srtS a↔x∈a:=by rw[<- ztb,zwm,(zbw _).mem_iff,ztb]
theorem zc3(a:List (List Nat)):(srtS a).length=a.length:=by unfold srtS;rw[Zlm,(zbw _).length_eq,Zlm]
theorem zeg(b:List Fct)(c f:List Nat):(txF b c f).length<=b.length:=by unfold txF;rw[Zlm];exact Zoc ..
noncomputable def zjd(ds:List D):Prop:=∃(b:List Fct) (c f:List Nat),ds=[bkD b,encS c,encS f]/\b.length<=60
noncomputable def zlb:List D->List D
 | [.lst b,.str c,.str f]=>(srtS (txF (b.map unF) c f)).map encS
 | _=>[]
theorem zcm(b:List Fct)(c f:List Nat):zlb [bkD b,encS c,encS f]=(srtS (txF b c f)).map encS:=by
 show(srtS (txF ((b.map encF).map unF) c f)).map encS=_
 rw[zfb]
theorem ymd{K:Zlh}{b:List Fct}{c f:List Nat}:(txF b c f).map encS=(b.filter fun x=>decide (x.1=c)&&decide (x.2.1=f)).map fun x=>D.str x.2.2:=by unfold txF;rw[Zm0];rfl
theorem zfs(Z:Tx K mg ad0):FnOk P w K mg base CX0 1 ad0.Zfe ad0.Zfg zgp (SpO K zjd zlb):=by
 refine okO Z.Zau.F ztx (by rintro ds ⟨c,a,b,rfl,_⟩;rfl) fun cdv A outer s H Q E hr=>⟨_,(zah (zao (zar (show zb4 _ _ (zur K) from zpv) (by rfl) Z.Zez Zuk (zaa (zg7 rfl (LcOk.of (Nx:=(["book", "card", "field"]:List Str)) (sc:=zae zgo) (N':=(["fact", "card", "field"]:List Str)) (nt:=1) (cs:=[1,2]) rfl rfl (by decide +kernel)) (zbc (pv 0)) (fun _ _ _ _=>(zbk (i:=0) (show Zm9 (["fact", "card", "field"]:List Str) by decide +kernel) rfl (Zo6 rfl))) (fun _ _ _ _=>(zg1 (PW.pt (zir (zas zdd (za7 (show IxR _ (rIxT K) from zdf) (pv 0) zai (fun _ _=>rfl)) (pv 1) (zay _)) (zgq (zas zdd (za7 (show IxR _ (rIxT K) from zdf) (pv 0) zai (fun _ _=>rfl)) (pv 2) (zay _))))))) (fun _ _ _ _=>(za7 (show IxR _ (rIxT K) from zdf) (pv 0) zai (fun _ _=>rfl)))) zad)))),fun G ds hp rt=>?_⟩
 obtain⟨b,c,f,rfl,hb⟩:=hp
 rw[zcm,zwm] at rt
 refine zf2 (zsv (EvO.l ?_) (alS fun d hd=>by obtain⟨x,_,rfl⟩:=Zl2.mp hd;exact⟨_,rfl⟩) (by rw[Zlm];have:=zeg b c f;omega)) rt
 rw[ymd (K:=K)]
 exact ziv b encF (fun x=>decide (x.1=c)&&decide (x.2.1=f)) (fun x=>.str x.2.2) (zac rfl).l (zbo (by decide)) (by decide) (by rw[Zl7];omega) fun x hx=>⟨_,zax,ze9 (zan (zcy (zdg (zac rfl) zaj.b rfl).b (zac rfl).b)) fun _=>zan (zcy (zdg (zac rfl) zaj.b rfl).b (zac rfl).b),fun _=>zdg (zac rfl) zaj.b rfl⟩
noncomputable def plF(l:List Nat):List Nat:=glue [32] ((zbg 32 (l.map lo1)).filter fun p=>!decide (p=[]))
theorem zjo(z:Nat):∀(n:Nat) (l:List Nat),((za1 z n l).map Zm7).sum+(za1 z n l).length<=l.length+1
 | 0,l=>by rw[za1];simp
 | n+1,l=>by
  rw[za1]
  cases h:l.dropWhile (· != z) with
  | nil =>
   have e:=Zq6 (p:=(· != z)) (l:=l)
   rw[h,Zm1] at e
   simp
  | cons x b =>
   have ih:=zjo z n b
   have e:=congrArg Zm7 (Zq6 (p:=(· != z)) (l:=l))
   rw[h,Zlw,Zl1] at e
   simp only[Zl0,Zqs,Zl1]
   omega
theorem zuc(z:Nat):∀ls:List (List Nat),(glue [z] ls).length<=(ls.map Zm7).sum+ls.length
 | []=>Zmt _
 | [x]=>by simp[glue]
 | x::y::r=>by
  have ih:=zuc z (y::r)
  rw[glue]
  simp only[Zlw,Zl0,Zqs,Zl1,Zm6] at ih ⊢
  omega
theorem zig(p:List Nat->Bool):∀ls:List (List Nat),((ls.filter p).map Zm7).sum+(ls.filter p).length<=(ls.map Zm7).sum+ls.length
 | []=>Zlt _
 | x::r=>by
  have ih:=zig p r
  by_cases h:p x=true
  .rw[Zqu h]
   simp only[Zl0,Zqs,Zl1] at ih ⊢
   omega
  .rw[Zoe h]
   simp only[Zl0,Zqs,Zl1] at ih ⊢
   omega
theorem zl5(l:List Nat):(plF l).length<=l.length+1:=by
 unfold plF zbg
 have h1:=zuc 32 ((za1 32 ((l.map lo1).length+1) (l.map lo1)).filter fun p=>!decide (p=[]))
 have h2:=zig (fun p=>!decide (p=[])) (za1 32 ((l.map lo1).length+1) (l.map lo1))
 have h3:=zjo 32 ((l.map lo1).length+1) (l.map lo1)
 rw[Zlm] at h1 h2 h3
 rw[Zlm]
 omega
noncomputable def yi5(ds:List D):Prop:=∃l:List Nat,ds=[encS l]/\l.length<=1000
noncomputable def yjd:List D->D
 | [.str l]=>encS (plF l)
 | _=>.non
theorem zme(Z:Tx K mg ad0):FnOk P w K mg base CX0 1 ad0.Zfc ad0.Zfi zgi (SpD K yi5 yjd):=by
 refine okD Z.Zfk.F zmm (by rintro ds ⟨c,rfl,_⟩;rfl) fun cdv A outer s H Q E hr=>⟨_,(zag (zqe (i:=1) zmm.nd rfl (Zo6 rfl) rfl (LcOk.of (Nx:=(["text", "words"]:List Str)) (sc:=zae zgd) (N':=(["word"]:List Str)) (nt:=1) (cs:=[]) rfl rfl (by decide +kernel)) (zbc (zdc Zmm Zoa Zrt zli (zol Zmm Zvv Zvt zql (pv 0)) (zaa zap zad))) (fun _ _ _ _=>(zbk (i:=0) (show Zm9 (["word"]:List Str) by decide +kernel) rfl (Zo6 rfl))) (fun _ _ _ _=>(zg1 (zas zo3 (pv 0) zap (zay _)))) (fun _ _ _ _=>(pv 0)))
   (zah (zao (zdc Zmm Zpr Zpq zi7 zap (zaa (pv 1) zad))))),fun G ds hp rt=>?_⟩
 obtain⟨l,rfl,hl⟩:=hp
 have rt:RtD K G H Q (encS (plF l)):=rt
 have hs:=zjo 32 ((l.map lo1).length+1) (l.map lo1)
 rw[Zlm] at hs
 have hsl:(zbg 32 (l.map lo1)).length<=1001:=by unfold zbg;rw[Zlm];omega
 refine zak (za6 (ds:=((zbg 32 (l.map lo1)).filter fun p=>!decide (p=[])).map D.str) (ziv (zbg 32 (l.map lo1)) D.str (fun p=>!decide (p=[])) D.str (EvO.l (zih (z:=32) (zqd (zac rfl).b (by omega)).b (za5 (l:=[32]) (by decide +kernel) (by decide)).b (by rw[Zlm,Zl7];omega))) (zbo (by decide)) (by decide) (by rw[Zl7];omega) fun p hp=>⟨_,zax,zan (zrg (m:=[]) (zac rfl).b (za5 (l:=[]) (by decide +kernel) (by decide)).b),fun _=>zac rfl⟩) fun p=>?_)
 ((try dsimp only);refine zaq ?_)
 have h2:=zig (fun p=>!decide (p=[])) (zbg 32 (l.map lo1))
 have h3:((zbg 32 (l.map lo1)).map Zm7).sum+(zbg 32 (l.map lo1)).length<=l.length+1:=by unfold zbg;rw[Zlm];exact hs
 exact zaw (zkg (z:=[32]) (ls:=(zbg 32 (l.map lo1)).filter fun p=>!decide (p=[])) (za5 (l:=[32]) (by decide +kernel) (by decide)).b (zef rfl) (by simp only[Znf,Zx7];omega)) rt
noncomputable def zum(ds:List D):Prop:=∃a:List (List Nat),ds=[.lst (a.map encS)]/\a.length<=1000 /\ ∀l∈a,l.length<=1000
noncomputable def zmb:List D->List D
 | [.lst a]=>((a.map unS).map plF).map encS
 | _=>[]
theorem zcz(a:List (List Nat)):zmb [.lst (a.map encS)]=(a.map plF).map encS:=by
 show(((a.map encS).map unS).map plF).map encS=_
 rw[zf1]
theorem zho(Z:Tx K mg ad0):FnOk P w K mg base CX0 2 ad0.Zec ad0.Zeg ze8 (SpO K zum zmb):=by
 have Zhi:=zme (P:=P) (w:=w) (base:=base) Z
 refine okO Z.Zbi.F zr5 (by rintro ds ⟨c,rfl,_⟩;rfl) fun cdv A outer s H Q E hr=>⟨_,(zah (zao (zg7 rfl (LcOk.of (Nx:=(["texts"]:List Str)) (sc:=zae zfk) (N':=(["text"]:List Str)) (nt:=1) (cs:=[]) rfl rfl (by decide +kernel)) (zbc (pv 0)) (fun _ _ _ _=>(zbk (i:=0) (show Zm9 (["text"]:List Str) by decide +kernel) rfl (Zo6 rfl))) (fun _ _ _ _=>zcb) (fun _ _ _ _=>(pcX Zhi hr Z.Zfk (zaa (pv 0) zad)))))),fun G ds hp rt=>?_⟩
 obtain⟨a,rfl,ha,hl⟩:=hp
 rw[zcz,Zm0] at rt
 exact zf2 (zei a encS (fun l=>encS (plF l)) (zac rfl).l (zbo (by decide)) (by decide) (by rw[Zl7];omega) fun l hla=>⟨_,zax,zbn (pre:=yi5) (res:=yjd) (ds:=[encS l]) (zab (zac rfl) zaf) ⟨l,rfl,hl l hla⟩⟩) rt
noncomputable def fld(w:Int)(f:List Nat):List (Str×V):=[("weight", .int w),("field", .str (T f))]
noncomputable def zf3(fs:List (Str×V)):List Nat:=match fs.lookup ("field" : Str) with | some (.str z)=>z.cps.toList | _=>[]
theorem yjz{k:Str}{v:V}{r:List (Str×V)}:Znz k ((k,v)::r)=some v:=by simp[Znz]
theorem zt9{k a:Str}{v:V}{r:List (Str×V)}(h:(k == a)=false):Znz k ((a,v)::r)=Znz k r:=by simp only[Znz,h]
theorem zgh(w:Int)(f:List Nat):(fld w f).lookup ("field" : Str)=some (.str (T f)):=(zt9 (by decide +kernel)).trans yjz
theorem zo7(w:Int)(f:List Nat){m:Str}(h1:(m == ("weight" : Str))=false)(h2:(m == ("field" : Str))=false):(fld w f).lookup m=none:=(zt9 h1).trans ((zt9 h2).trans rfl)
theorem zi9(w:Int)(f:List Nat):zf3 (fld w f)=f:=by
 unfold zf3
 rw[zgh]
 exact zet f
noncomputable def nmL:List Nat:=("name" : Str).cps.toList
noncomputable def fmL:List Nat:=("former" : Str).cps.toList
theorem zrj:∀c∈nmL,c<128:=by decide +kernel
theorem ye6:T nmL = "name" := by decide +kernel
theorem yce:∀c∈fmL,c<128:=by decide +kernel
theorem yiz:T fmL = "former" := by decide +kernel
theorem zrr(Z:Tx K mg ad0):FnOk P w K mg base CX0 1 ad0.Zag ad0.Za0 ["self", "weight", "field"] (zj8 ad0.Zac "weight" "field"):=by
 refine Z.Zb0.ok zd5 (fun vs H Q E h=>by obtain⟨x,dx,u,v,rfl,_⟩:=h;rfl) (fun cdv A outer s H vs Q E hr h=>⟨_,(zag (ziu (pv 0) (pv 1) (by rfl))
   (zah (ziu (pv 0) (pv 2) (by rfl)))),?_⟩)
 obtain⟨x,dx,u,v,rfl,hx,hd,q⟩:=h
 refine⟨_,rfl,_,rfl,x,ad0.Zac,dx,[],rfl,hx,Z.Zdf,Z.Zdh,by decide,?_⟩
 refine⟨_,rfl,_,rfl,x,ad0.Zac,dx,[("weight", u)],rfl,zal,Z.Zdf,Z.Zce,(show 1<1000 by decide),?_⟩
 rw[upd2];exact q
theorem zsy(Z:Tx K mg ad0):FnOk P w K mg base CX0 1 ad0.Zag ad0.Za0 ["self", "weight", "field"] (zj8 ad0.Zae "weight" "field"):=by
 refine Z.Zb0.ok zd5 (fun vs H Q E h=>by obtain⟨x,dx,u,v,rfl,_⟩:=h;rfl) (fun cdv A outer s H vs Q E hr h=>⟨_,(zag (ziu (pv 0) (pv 1) (by rfl))
   (zah (ziu (pv 0) (pv 2) (by rfl)))),?_⟩)
 obtain⟨x,dx,u,v,rfl,hx,hd,q⟩:=h
 refine⟨_,rfl,_,rfl,x,ad0.Zae,dx,[],rfl,hx,Z.Zdg,Z.Zdi,by decide,?_⟩
 refine⟨_,rfl,_,rfl,x,ad0.Zae,dx,[("weight", u)],rfl,zal,Z.Zdg,Z.Zcc,(show 1<1000 by decide),?_⟩
 rw[upd2];exact q
theorem zr7(Z:Tx K mg ad0):FnOk P w K mg base CX0 1 ad0.Zag ad0.Za0 ["self", "weight", "field"] (zj8 ad0.Zad "weight" "field"):=by
 refine Z.Zb0.ok zd5 (fun vs H Q E h=>by obtain⟨x,dx,u,v,rfl,_⟩:=h;rfl) (fun cdv A outer s H vs Q E hr h=>⟨_,(zag (ziu (pv 0) (pv 1) (by rfl))
   (zah (ziu (pv 0) (pv 2) (by rfl)))),?_⟩)
 obtain⟨x,dx,u,v,rfl,hx,hd,q⟩:=h
 refine⟨_,rfl,_,rfl,x,ad0.Zad,dx,[],rfl,hx,Z.Zdm,Z.Zdj,by decide,?_⟩
 refine⟨_,rfl,_,rfl,x,ad0.Zad,dx,[("weight", u)],rfl,zal,Z.Zdm,Z.Zcb,(show 1<1000 by decide),?_⟩
 rw[upd2];exact q
theorem zqm(Z:Tx K mg ad0):FnOk P w K mg base CX0 1 ad0.Zag ad0.Za0 ["self", "weight", "field"] (zj8 ad0.Zab "weight" "field"):=by
 refine Z.Zb0.ok zd5 (fun vs H Q E h=>by obtain⟨x,dx,u,v,rfl,_⟩:=h;rfl) (fun cdv A outer s H vs Q E hr h=>⟨_,(zag (ziu (pv 0) (pv 1) (by rfl))
   (zah (ziu (pv 0) (pv 2) (by rfl)))),?_⟩)
 obtain⟨x,dx,u,v,rfl,hx,hd,q⟩:=h
 refine⟨_,rfl,_,rfl,x,ad0.Zab,dx,[],rfl,hx,Z.Zb8,Z.Zco,by decide,?_⟩
 refine⟨_,rfl,_,rfl,x,ad0.Zab,dx,[("weight", u)],rfl,zal,Z.Zb8,Z.Zb2,(show 1<1000 by decide),?_⟩
 rw[upd2];exact q
theorem zso(Z:Tx K mg ad0):FnOk P w K mg base CX0 1 ad0.Zag ad0.Za0 ["self", "weight", "field"] (zj8 ad0.Zaa "weight" "field"):=by
 refine Z.Zb0.ok zd5 (fun vs H Q E h=>by obtain⟨x,dx,u,v,rfl,_⟩:=h;rfl) (fun cdv A outer s H vs Q E hr h=>⟨_,(zag (ziu (pv 0) (pv 1) (by rfl))
   (zah (ziu (pv 0) (pv 2) (by rfl)))),?_⟩)
 obtain⟨x,dx,u,v,rfl,hx,hd,q⟩:=h
 refine⟨_,rfl,_,rfl,x,ad0.Zaa,dx,[],rfl,hx,Z.Zdc,Z.Zb7,by decide,?_⟩
 refine⟨_,rfl,_,rfl,x,ad0.Zaa,dx,[("weight", u)],rfl,zal,Z.Zdc,Z.Zcp,(show 1<1000 by decide),?_⟩
 rw[upd2];exact q
theorem znr(Z:Tx K mg ad0):FnOk P w K mg base CX0 2 ad0.Zbk ad0.Zbl ["self", "weight"] (yag ad0.Zaa "weight" "field" (.str (T nmL))):=by
 have Zhn:=zso (P:=P) (w:=w) (base:=base) Z
 refine Z.Zgn.ok zni (fun vs H Q E h=>by obtain⟨x,dx,u,rfl,_⟩:=h;rfl) (fun cdv A outer s H vs Q E hr h=>⟨_,(zah (zel (zyk (by rfl) Z.Zjn Z.Zgx Zhn (hr.mono (by decide)) Z.Zb1 .nil zke (zaa (pv 0) (zaa (pv 1) (zaa zap zad)))))),?_⟩)
 obtain⟨x,dx,u,rfl,hx,hd,q⟩:=h
 rw[ye6] at q
 exact⟨_,rfl,_,rfl,x,dx,u,_,rfl,hx,hd,q⟩
noncomputable def yf4(ds:List D):Prop:=∃a b:List D,ds=[.lst a,.lst b]/\a.length+b.length<=1000/\(∀d∈a,d.hk false=true) /\ ∀d∈b,d.hk false=true
noncomputable def yfv:List D->D
 | [.lst a,.lst b]=>.bl (a.any fun d=>decide (d∈b))
 | _=>.non
theorem zyh(Z:Tx K mg ad0):FnOk P w K mg base CX0 1 ad0.Zfw ad0.Zfx zil (SpD K yf4 yfv):=by
 refine Z.Zb9.F.ok zsq (fun vs H Q E h=>zqi (n:=2) (by rintro ds ⟨c,d,rfl,_⟩;rfl) h) (fun cdv A outer s H vs Q E hr h=>⟨_,(zah (zao (zda yel (zar (show zb4 _ _ (yd8 P w K false) from zs8) (by rfl) Z.Zbj Zps (zaa (zau (show OpR _ _ (zw1 P w K false mAnd) from ybl hr.units) (zbx (show zb4 _ _ (zh5 P w K false) from zd7 rfl hr.units) (by rfl) Z.Zf5 Zt4 (zaa (pv 0) zad)) (zbx (show zb4 _ _ (zh5 P w K false) from zd7 rfl hr.units) (by rfl) Z.Zf5 Zt4 (zaa (pv 1) zad))) zad)) zai (zay _)))),?_⟩)
 refine yf7 h (by rw[zqi (n:=2) (by rintro ds ⟨c,d,rfl,_⟩;rfl) h];decide) fun G ds hp rt=>?_
 obtain⟨a,b,rfl,hl,ha,hb⟩:=hp
 have rt:RtD K G H Q (.bl (a.any fun d=>decide (d∈b))):=rt
 have hm:∀d,d∈a.filter (fun d=>decide (d∈b))↔d∈a/\d∈b:=fun d=>by rw[Zns,decide_eq_true_eq]
 have e:decide ((0:Int)<((ded (a.filter fun d=>decide (d∈b))).length:Nat))=a.any fun d=>decide (d∈b):=by
  rw[Zmj,decide_eq_true_eq,Zow]
  constructor
  .intro h
   obtain⟨d,hd⟩:=Zu1 (l:=ded (a.filter fun d=>decide (d∈b))) (by omega)
   obtain⟨h1,h2⟩:=(hm d).mp (zcf.mp hd)
   exact⟨d,h1,decide_eq_true h2⟩
  .rintro⟨d,h1,h2⟩
   have:d∈ded (a.filter fun d=>decide (d∈b)):=zcf.mpr ((hm _).mpr ⟨h1,of_decide_eq_true h2⟩)
   have:=Zq3 this
   omega
 rw[<- e] at rt
 refine zaw (ye0 (zsl (f:=false) (ded (a.filter fun d=>decide (d∈b))) (zz8 (dr:=a.filter fun d=>decide (d∈b)) (zi2 (zac rfl).l ha (by omega)) (zi2 (zac rfl).l hb (by omega)) ha hb hl hm) (fun d hd=>ha d ((hm d).mp hd).1) (zct _) fun d=>zcf).b zaj.b) rt
noncomputable def yke(ds:List D):Prop:=∃l,ds=[encS l]/\l.length<=100
noncomputable def yl6:List D->List D
 | [.str l]=>zde (plF l)
 | _=>[]
theorem zo5(Z:Tx K mg ad0):FnOk P w K mg base CX0 2 ad0.Zcs ad0.Zc2 zd0 (SpO K yke yl6):=by
 have Zhi:=zme (P:=P) (w:=w) (base:=base) Z
 refine okO Z.Zfr.F zep (by rintro ds ⟨l,rfl,_⟩;rfl) fun cdv A outer s H Q E hr=>⟨_,(zag (psn 1 zep.nd (pcX Zhi hr Z.Zfk (zaa (pv 0) zad)))
   (zag (psn 2 zep.nd (zco zad))
   (zag (zem Zm8 rfl (zjs (by rfl) Z.Zgu (zaa (zau zcd (zar zbm (by rfl) Z.Zbj Zps (zaa (pv 1) zad)) zai) zad)) (pgn 3 zep.nd) (zag (zel (zdc Zny Zn7 Zoh zcq (pv 2) (zaa (zhf (zaa (za4 zcv (pv 1) zbu (zbf (pv 3))) (zaa (za4 zcv (pv 1) (zbf (pv 3)) zbu) zad))) zad)))
   (zah (zel (zdc Zny Zn7 Zoh zcq (pv 2) (zaa (zhf (zaa (za4 zcv (pv 1) zbu (zbf (pv 3))) (zaa (za4 zcv (pv 1) (zbf (zau zcd (pv 3) zai)) zbu) zad))) zad))))))
   (zah (zao (pv 2)))))),fun G ds hp rt=>?_⟩
 obtain⟨l,rfl,A1⟩:=hp
 have rt:RtO K G H Q (zde (plF l)):=rt
 refine zak (zbd (d:=.str (plF l)) (zbn (pre:=yi5) (res:=yjd) (ds:=[encS l]) (zab (zac rfl) zaf) ⟨l,rfl,by omega⟩) ?_)
 ((try dsimp only);refine zaq ?_)
 have hpl:=zl5 l
 generalize plF l=p at hpl rt
 have hz:p.length<=sizeLine:=small (by omega)
 refine zak (za6 (zbv zaf (small (by decide))) fun q=>?_)
 ((try dsimp only);refine zaq ?_)
 refine zak (zlo (n:=(p.length:Int)+1) (fun k ss=>∃v,ss=[.d (encS l),.d (.str p),.o q ((Zl6 k).flatMap (zko p)),v]) (zlh (zcg (zft (zac rfl).b hz).b zaj.b).b zpe) ⟨by omega,by omega⟩ ⟨.un,rfl⟩ ?_ ?_ (fun _ _ _ h=>h))
 .rintro k ss hk ⟨v,rfl⟩ N hN
  have hlen:=zj4 p k
  have c1:cutL p none (some (k:Int))=p.take k:=by rw[zm9 _ (Zuc _),Zqc]
  have c2:cutL p (some (k:Int)) none=p.drop k:=by rw[zf9 _ (Zuc _),Zqc]
  have c3:cutL p (some ((k:Int)+1)) none=p.drop (k+1):=by rw[zf9 _ (by omega),show((k:Int)+1).toNat=k+1 by omega]
  refine zak (zd8 (d:=frm (p.take k) (p.drop k)) rfl (by
   unfold frm;rw[<- c1,<- c2]
   exact zhv (zab (zfm (zac rfl).b zdx (zba (zac rfl).b) hz) (zab (zfm (zac rfl).b (zba (zac rfl).b) zdx hz) zaf)) (small (by simp))) (by rw[hlen,Zl7];omega) ?_)
  ((try dsimp only);refine zaq ?_)
  refine zd8 (d:=frm (p.take k) (p.drop (k+1))) rfl (by
   unfold frm;rw[<- c1,<- c3]
   exact zhv (zab (zfm (zac rfl).b zdx (zba (zac rfl).b) hz) (zab (zfm (zac rfl).b (zba (zcg (zac rfl).b zaj.b).b) zdx hz) zaf)) (small (by simp))) (by rw[Zlw,hlen,Zl7];simp;omega) (hN _ ⟨.d (.int k),?_⟩)
  rw[Zo3,Zpu,Zp1]
  show _=[_,_,Sl.o q (_++[frm _ _,frm _ _]),_]
  rw[Zpn];rfl
 .rintro ss ⟨v,rfl⟩
  ((try dsimp only);refine zaq ?_)
  refine zi4 (i:=2) rfl ?_
  rw[show((p.length:Int)+1).toNat=p.length+1 by omega]
  exact rt
noncomputable def zdy(a:List (List Nat)):List D:=a.flatMap fun l=>zde (plF l)
theorem zj3{a:List (List Nat)}{n:Nat}(h:∀l∈a,l.length<=n):(zdy a).length<=a.length*(2*(n+2)):=by
 induction a with
 | nil=>simp[zdy]
 | cons x r ih =>
  have i:=ih fun l hl=>h l (Zlp _ hl)
  have e:(zdy (x::r)).length=(zde (plF x)).length+(zdy r).length:=by unfold zdy;rw[Zsk,Zlw]
  have e2:(zde (plF x)).length=2*((plF x).length+1):=by unfold zde;rw[zj4]
  have hx:=h x Zls
  have hp:=zl5 x
  rw[e,e2,Zl1,Zx8]
  omega
theorem zrk(a:List (List Nat)):∀d∈zdy a,d.hk false=true:=by
 intro d hd
 obtain⟨l,_,hl⟩:=Zpd.mp hd
 exact yde _ d hl
noncomputable def yii(ds:List D):Prop:=∃a:List (List Nat),ds=[.lst (a.map encS)]/\a.length<=14 /\ ∀l∈a,l.length<=15
noncomputable def yfe:List D->List D
 | [.lst a]=>zdy (a.map unS)
 | _=>[]
theorem zm0(a:List (List Nat)):yfe [.lst (a.map encS)]=zdy a:=by
 show zdy ((a.map encS).map unS)=_
 rw[zf1]
theorem zsm(Z:Tx K mg ad0):FnOk P w K mg base CX0 3 ad0.Zen ad0.Zd8 ze1 (SpO K yii yfe):=by
 have Zjw:=zo5 (P:=P) (w:=w) (base:=base) Z
 refine okO Z.Zd0.F zht (by rintro ds ⟨l,rfl,_⟩;rfl) fun cdv A outer s H Q E hr=>⟨_,(zag (psn 1 zht.nd (zco zad))
   (zag (zem Zm8 rfl (zbc (pv 0)) (pgn 2 zht.nd) (zah (zel (zdc Zny Zzm F.type_list_extend yci (pv 1) (zaa (pcX Zjw hr Z.Zfr (zaa (pv 2) zad)) zad)))))
   (zah (zao (pv 1))))),fun G ds hp rt=>?_⟩
 obtain⟨a,rfl,ha,ht⟩:=hp
 rw[zm0] at rt
 refine zak (za6 (zbv zaf (small (by decide))) fun q=>?_)
 ((try dsimp only);refine zaq ?_)
 refine zak (zit encS a (fun k ss=>∃v:Sl,ss=[.d (.lst (a.map encS)),.o q (zdy (a.take k)),v]) (zac rfl) ⟨.un,rfl⟩ ?_ ?_)
 .rintro L' k x ss hL hk ⟨v,rfl⟩
  refine⟨_,zax,fun N hN=>?_⟩
  have hx:=ht x (Zlv hk)
  have l1:=zj3 (a:=a.take k) (n:=15) fun l hl=>ht l (Zrp hl)
  have l2:(a.take k).length<=14:=by rw[Znk];omega
  have l3:(zde (plF x)).length=2*((plF x).length+1):=by unfold zde;rw[zj4]
  have hp:=zl5 x
  have e:zdy (a.take (k+1))=zdy (a.take k)++zde (plF x):=by
   unfold zdy
   rw[Zob,hk,Zpu]
   show _++List.flatMap _ [x]=_
   rw[Zp1]
  refine ya9 (es:=zde (plF x)) rfl (za0 (pre:=yke) (res:=yl6) (ds:=[encS x]) (zab (zac rfl) zaf) ⟨x,rfl,by omega⟩) (by rw[Zl7,l3];omega) (hN _ ⟨.d (encS x),?_⟩)
  rw[e];rfl
 rintro ss ⟨v,rfl⟩
 ((try dsimp only);refine zaq ?_)
 rw[Zpc]
 exact zi4 rfl rt
noncomputable def zeb(a b:List (List Nat)):Bool:=a.any fun x=>b.any fun y=>near x y
theorem zcu{a b:List (List Nat)}:zeb a b=true ↔ ∃x,x∈a /\ ∃y,y∈b/\near x y=true:=by
 unfold zeb
 simp only[Zow]
theorem zxo{a b a' b':List (List Nat)}(h1:∀x,x∈a↔x∈a')(h2:∀x,x∈b↔x∈b'):zeb a b=zeb a' b':=by
 rw[Zmj,zcu,zcu]
 simp only[h1,h2]
theorem zty(a b:List (List Nat)):((zdy a).any fun d=>decide (d∈zdy b))=zeb (a.map plF) (b.map plF):=by
 rw[Zmj,zcu,Zow]
 constructor
 .rintro⟨d,h1,h2⟩
  obtain⟨x,hx,h1⟩:=Zpd.mp h1
  obtain⟨y,hy,h2⟩:=Zpd.mp (of_decide_eq_true h2)
  exact⟨_,Znb hx,_,Znb hy,(zne _ _).mp ⟨d,h1,h2⟩⟩
 .rintro⟨x',hx',y',hy',h⟩
  obtain⟨x,hx,rfl⟩:=Zl2.mp hx'
  obtain⟨y,hy,rfl⟩:=Zl2.mp hy'
  obtain⟨d,h1,h2⟩:=(zne _ _).mpr h
  exact⟨d,Zpd.mpr ⟨x,hx,h1⟩,decide_eq_true (Zpd.mpr ⟨y,hy,h2⟩)⟩
noncomputable def zte(fs:List (Str×V))(ds:List D):Prop:=∃a b:List (List Nat),ds=[.lst (a.map encS),.lst (b.map encS)]/\a.length<=14/\b.length<=14/\(∀l∈a,l.length<=15) /\ ∀l∈b,l.length<=15
noncomputable def byN(a b:List (List Nat)):Bool:=zeb (a.map plF) (b.map plF)
noncomputable def byO(a b:List (List Nat)):Bool:=!decide (a=[])&&(!decide (b=[]) && !zej (a.map plF) (b.map plF))
noncomputable def ycd(fs:List (Str×V)):List D->D
 | [.lst a,.lst b]=>.bl (byN (a.map unS) (b.map unS))
 | _=>.non
noncomputable def yal(fs:List (Str×V)):List D->D
 | [.lst a,.lst b]=>.bl (byO (a.map unS) (b.map unS))
 | _=>.non
theorem zn2(fs:List (Str×V))(a b:List (List Nat)):ycd fs [.lst (a.map encS),.lst (b.map encS)]= .bl (byN a b):=by
 show D.bl (byN ((a.map encS).map unS) ((b.map encS).map unS))=_
 rw[zf1,zf1]
theorem zn5(fs:List (Str×V))(a b:List (List Nat)):yal fs [.lst (a.map encS),.lst (b.map encS)]= .bl (byO a b):=by
 show D.bl (byO ((a.map encS).map unS) ((b.map encS).map unS))=_
 rw[zf1,zf1]
theorem zx4(Z:Tx K mg ad0):FnOk P w K mg base CX0 4 ad0.Zbc ad0.Zbb ["self", "texts", "others"] (SpI K ad0.Zad zte ycd):=by
 have Zks:=zyh (P:=P) (w:=w) (base:=base) Z
 have Zid:=zsm (P:=P) (w:=w) (base:=base) Z
 refine Z.Zex.ok zkc (fun vs H Q E h=>zbe (n:=3) (by rintro fs ds ⟨c,d,rfl,_⟩;rfl) h) (fun cdv A outer s H vs Q E hr h=>⟨_,(zah (zao (pcX Zks hr Z.Zb9 (zaa (pcX Zid hr Z.Zd0 (zaa (pv 1) zad)) (zaa (pcX Zid hr Z.Zd0 (zaa (pv 2) zad)) zad))))),?_⟩)
 refine zfx h (by rw[zbe (n:=3) (by rintro fs ds ⟨c,d,rfl,_⟩;rfl) h];decide) fun G ds x dx fs hp rt=>?_
 obtain⟨a,b,rfl,l1,l2,h1,h2⟩:=hp
 rw[zn2] at rt
 unfold byN at rt
 rw[<- zty] at rt
 have f1:=zj3 h1
 have f2:=zj3 h2
 have g1:a.length*(2*(15+2))<=14*(2*(15+2)):=Zxp _ l1
 have g2:b.length*(2*(15+2))<=14*(2*(15+2)):=Zxp _ l2
 refine zaw (zbn (pre:=yf4) (res:=yfv) (ds:=[.lst (zdy a),.lst (zdy b)]) (zab (EvO.ev ?_) (zab (EvO.ev ?_) zaf)) ⟨_,_,rfl,by omega,zrk a,zrk b⟩) rt
 .rw[<- zm0]
  exact za0 (pre:=yii) (res:=yfe) (zab (zac rfl) zaf) ⟨a,rfl,l1,h1⟩
 .rw[<- zm0]
  exact za0 (pre:=yii) (res:=yfe) (zab (zac rfl) zaf) ⟨b,rfl,l2,h2⟩
theorem zqb(a:List (List Nat)):(D.lst (a.map encS)).nb=true:=by rw[D.nb_lst];exact D.nbs_map ya3 a
theorem zlu(a:List (List Nat)):(D.lst (a.map encS)).dep<=60:=by
 rw[D.dep_lst]
 have:=D.deps_map (enc:=encS) (n:=0) (fun c=>Zxc rfl) a
 omega
theorem zlm(a:List (List Nat)):decide (D.lst (a.map encS)= .lst [])=decide (a=[]):=by
 cases a <;> simp
theorem zup(Z:Tx K mg ad0):FnOk P w K mg base CX0 3 ad0.Zax ad0.Zay ["self", "texts", "others"] (SpI K ad0.Zab zte yal):=by
 have Zey:=zjv (P:=P) (w:=w) (base:=base) Z
 have Zbo:=zho (P:=P) (w:=w) (base:=base) Z
 refine Z.Zdp.ok zjl (fun vs H Q E h=>zbe (n:=3) (by rintro fs ds ⟨c,d,rfl,_⟩;rfl) h) (fun cdv A outer s H vs Q E hr h=>⟨_,(zag (zcn (PW.pt (zsu (zas (show OpR _ _ (rEqD K) from ygu hr.units) (pv 1) (zco zad) (zay _)) (zmz (zas (show OpR _ _ (rEqD K) from ygu hr.units) (pv 2) (zco zad) (zay _))))) (zah (zao zs0)) za2)
   (zah (zao (ycb (pcX Zey hr Z.Zb9 (zaa (pcX Zbo hr Z.Zbi (zaa (pv 1) zad)) (zaa (pcX Zbo hr Z.Zbi (zaa (pv 2) zad)) zad))))))),?_⟩)
 refine zfx h (by rw[zbe (n:=3) (by rintro fs ds ⟨c,d,rfl,_⟩;rfl) h];decide) fun G ds x dx fs hp rt=>?_
 obtain⟨a,b,rfl,l1,l2,h1,h2⟩:=hp
 rw[zn5] at rt
 unfold byO at rt
 have t:=zkm (K:=K) (G:=G) (H0:=H) (L:=G) (ss:=[isl x ad0.Zab dx fs,.d (.lst (a.map encS)),.d (.lst (b.map encS))]) (zan (ygp (d1:=.lst (a.map encS)) (d2:=.lst []) (zac (i:=1) rfl).b (EvO.ev (zbv zaf (small (by decide)))).b (zqb a) rfl (zlu a))) fun _=>zan (ygp (d1:=.lst (b.map encS)) (d2:=.lst []) (zac (i:=2) rfl).b (EvO.ev (zbv zaf (small (by decide)))).b (zqb b) rfl (zlu b))
 rw[zlm,zlm] at t
 refine zak (zcj t (fun hb=>?_) (fun hb=>za3 ?_))
 .refine zaw ybq ?_
  have e:(!decide (a=[])&&(!decide (b=[]) && !zej (a.map plF) (b.map plF)))=false:=by
   rcases Bool.or_eq_true_iff.mp hb with h | h <;> rw[h] <;> simp
  rw[e] at rt
  exact rt
 ((try dsimp only);refine zaq ?_)
 obtain⟨e1,e2⟩:=Zxh.mp hb
 rw[e1,e2] at rt
 refine zaw (ybo ?_) rt
 rw[<- zfn]
 refine zbn (pre:=zq6) (res:=zns) (zab (EvO.ev ?_) (zab (EvO.ev ?_) zaf)) ⟨a.map plF,b.map plF,rfl,by rw[Zlm,Zlm];omega⟩
 .rw[<- zcz]
  exact za0 (pre:=zum) (res:=zmb) (zab (zac rfl) zaf) ⟨a,rfl,by omega,fun l hl=>by have:=h1 l hl;omega⟩
 .rw[<- zcz]
  exact za0 (pre:=zum) (res:=zmb) (zab (zac rfl) zaf) ⟨b,rfl,by omega,fun l hl=>by have:=h2 l hl;omega⟩
noncomputable def yat(fs:List (Str×V)):List D->D
 | [.lst a,.lst b]=>.bl (zej ((a.map unS).map plF) ((b.map unS).map plF))
 | _=>.non
noncomputable def ygs(fs:List (Str×V))(ds:List D):D:=zns ds
theorem zn7(fs:List (Str×V))(a b:List (List Nat)):yat fs [.lst (a.map encS),.lst (b.map encS)]= .bl (zej (a.map plF) (b.map plF)):=by
 show D.bl (zej (((a.map encS).map unS).map plF) (((b.map encS).map unS).map plF))=_
 rw[zf1,zf1]
theorem zx9(Z:Tx K mg ad0):FnOk P w K mg base CX0 2 ad0.Za3 ad0.Za7 ["self", "texts", "others"] (SpI K ad0.Zac zte ygs):=by
 have Zey:=zjv (P:=P) (w:=w) (base:=base) Z
 refine Z.Zew.ok zj0 (fun vs H Q E h=>zbe (n:=3) (by rintro fs ds ⟨c,d,rfl,_⟩;rfl) h) (fun cdv A outer s H vs Q E hr h=>⟨_,(zah (zao (pcX Zey hr Z.Zb9 (zaa (pv 1) (zaa (pv 2) zad))))),?_⟩)
 refine zfx h (by rw[zbe (n:=3) (by rintro fs ds ⟨c,d,rfl,_⟩;rfl) h];decide) fun G ds x dx fs hp rt=>?_
 obtain⟨a,b,rfl,l1,l2,h1,h2⟩:=hp
 exact zaw (zbn (pre:=zq6) (res:=zns) (zab (zac rfl) (zab (zac rfl) zaf)) ⟨a,b,rfl,by omega⟩) rt
theorem zxc(Z:Tx K mg ad0):FnOk P w K mg base CX0 3 ad0.Za8 ad0.Za1 ["self", "texts", "others"] (SpI K ad0.Zae zte yat):=by
 have Zey:=zjv (P:=P) (w:=w) (base:=base) Z
 have Zbo:=zho (P:=P) (w:=w) (base:=base) Z
 refine Z.Ze2.ok zj6 (fun vs H Q E h=>zbe (n:=3) (by rintro fs ds ⟨c,d,rfl,_⟩;rfl) h) (fun cdv A outer s H vs Q E hr h=>⟨_,(zah (zao (pcX Zey hr Z.Zb9 (zaa (pcX Zbo hr Z.Zbi (zaa (pv 1) zad)) (zaa (pcX Zbo hr Z.Zbi (zaa (pv 2) zad)) zad))))),?_⟩)
 refine zfx h (by rw[zbe (n:=3) (by rintro fs ds ⟨c,d,rfl,_⟩;rfl) h];decide) fun G ds x dx fs hp rt=>?_
 obtain⟨a,b,rfl,l1,l2,h1,h2⟩:=hp
 rw[zn7,<- zfn] at rt
 refine zaw (zbn (pre:=zq6) (res:=zns) (zab (EvO.ev ?_) (zab (EvO.ev ?_) zaf)) ⟨a.map plF,b.map plF,rfl,by rw[Zlm,Zlm];omega⟩) rt
 .rw[<- zcz]
  exact za0 (pre:=zum) (res:=zmb) (zab (zac rfl) zaf) ⟨a,rfl,by omega,fun l hl=>by have:=h1 l hl;omega⟩
 .rw[<- zcz]
  exact za0 (pre:=zum) (res:=zmb) (zab (zac rfl) zaf) ⟨b,rfl,by omega,fun l hl=>by have:=h2 l hl;omega⟩
noncomputable def zio(fs:List (Str×V))(ds:List D):Prop:=∃(w:Int) (f:List Nat) (b:List Fct) (x y:List Nat),fs=fld w f/\ds=[bkD b,encS x,encS y]/\b.length<=14/\(∀c∈f,c<128) /\ ∀g∈b,g.2.2.length<=15
noncomputable def sayS(b:List Fct)(f x y:List Nat):Bool:=zej (txF b x f) (txF b y f)
noncomputable def sayL(b:List Fct)(f x y:List Nat):Bool:=zej ((txF b x f).map plF) ((txF b y f).map plF)
noncomputable def zwo(fs:List (Str×V)):List D->D
 | [.lst b,.str x,.str y]=>.bl (sayS (b.map unF) (zf3 fs) x y)
 | _=>.non
noncomputable def zvi(fs:List (Str×V)):List D->D
 | [.lst b,.str x,.str y]=>.bl (sayL (b.map unF) (zf3 fs) x y)
 | _=>.non
theorem zok(w:Int)(f:List Nat)(b:List Fct)(x y:List Nat):zwo (fld w f) [bkD b,encS x,encS y]= .bl (sayS b f x y):=by
 show D.bl (sayS ((b.map encF).map unF) (zf3 (fld w f)) x y)=_
 rw[zfb,zi9]
theorem zn8(w:Int)(f:List Nat)(b:List Fct)(x y:List Nat):zvi (fld w f) [bkD b,encS x,encS y]= .bl (sayL b f x y):=by
 show D.bl (sayL ((b.map encF).map unF) (zf3 (fld w f)) x y)=_
 rw[zfb,zi9]
noncomputable def sayN(b:List Fct)(f x y:List Nat):Bool:=byN (txF b x f) (txF b y f)
noncomputable def sayO(b:List Fct)(f x y:List Nat):Bool:=byO (txF b x f) (txF b y f)
theorem zzq(a:List (List Nat)):decide (srtS a=[])=decide (a=[]):=by
 have:=zc3 a
 rw[Zmj,decide_eq_true_eq,decide_eq_true_eq,<- Zwn,this,Zwn]
noncomputable def zvv(fs:List (Str×V)):List D->D
 | [.lst b,.str x,.str y]=>.bl (sayN (b.map unF) (zf3 fs) x y)
 | _=>.non
noncomputable def zwa(fs:List (Str×V)):List D->D
 | [.lst b,.str x,.str y]=>.bl (sayO (b.map unF) (zf3 fs) x y)
 | _=>.non
theorem zob(w:Int)(f:List Nat)(b:List Fct)(x y:List Nat):zvv (fld w f) [bkD b,encS x,encS y]= .bl (sayN b f x y):=by
 show D.bl (sayN ((b.map encF).map unF) (zf3 (fld w f)) x y)=_
 rw[zfb,zi9]
theorem znz(w:Int)(f:List Nat)(b:List Fct)(x y:List Nat):zwa (fld w f) [bkD b,encS x,encS y]= .bl (sayO b f x y):=by
 show D.bl (sayO ((b.map encF).map unF) (zf3 (fld w f)) x y)=_
 rw[zfb,zi9]
theorem zdp{b:List Fct}{n:Nat}(h:∀g∈b,g.2.2.length<=n)(c f:List Nat):∀l∈srtS (txF b c f),l.length<=n:=fun l hl=>by
 have hl:=(zgu _ _).mp hl
 unfold txF at hl
 obtain⟨g,hg,rfl⟩:=Zl2.mp hl
 exact h g (Zns.mp hg).1
theorem znt(Z:Tx K mg ad0):FnOk P w K mg base CX0 3 ad0.Zaf ad0.Zat ["self", "book", "one", "other"] (SpI K ad0.Zac zio zwo):=by
 have Zak:=zfs (P:=P) (w:=w) (base:=base) Z
 have Zg9:=zx9 (P:=P) (w:=w) (base:=base) Z
 refine Z.Zbs.ok zds (fun vs H Q E h=>zbe (n:=4) (by rintro fs ds ⟨w,f,b,x,y,rfl,rfl,_⟩;rfl) h) (fun cdv A outer s H vs Q E hr h=>⟨_,(zah (zao (zou (C:=ad0.Zac) (pv 0) Z.Zdf Z.Zds Zg9 (hr.mono (by decide)) Z.Ze4 .nil zke (zaa (pcX Zak hr Z.Zau (zaa (pv 1) (zaa (pv 2) (zaa (zis (pv 0) (by rfl)) zad)))) (zaa (pcX Zak hr Z.Zau (zaa (pv 1) (zaa (pv 3) (zaa (zis (pv 0) (by rfl)) zad)))) zad))))),?_⟩)
 refine zfx h (by rw[zbe (n:=4) (by rintro fs ds ⟨w,f,b,x,y,rfl,rfl,_⟩;rfl) h];decide) fun G ds xx dx fs hp rt=>?_
 obtain⟨wt,f,b,x,y,rfl,rfl,hb,hf,ht⟩:=hp
 have e:sayS b f x y=zej (srtS (txF b x f)) (srtS (txF b y f)):=zgv (fun z=>(zgu _ _).symm) fun z=>(zgu _ _).symm
 rw[zok,e,<- zfn] at rt
 have l1:=zeg b x f
 have l2:=zeg b y f
 have hfl:∀{L0:Hp},Ev K G H L0 [isl xx ad0.Zac dx (fld wt f),.d (bkD b),.d (encS x),.d (encS y)] (tFld K (tVar 0) "field") (encS f):=zww rfl Z.Zdf Z.Zce (zgh wt f) fun F=>Rep.str hf
 refine zaw (zlq (pre:=zte) (res:=ygs) (ds:=[.lst ((srtS (txF b x f)).map encS),.lst ((srtS (txF b y f)).map encS)]) rfl (zo7 wt f (by decide +kernel) (by decide +kernel)) (zab (EvO.ev ?_) (zab (EvO.ev ?_) zaf)) ⟨_,_,rfl,by rw[zc3];omega,by rw[zc3];omega,fun l hl=>by have:=zdp ht x f l hl;omega,fun l hl=>by have:=zdp ht y f l hl;omega⟩) rt
 .rw[<- zcm]
  exact za0 (pre:=zjd) (res:=zlb) (ds:=[bkD b,encS x,encS f]) (zab (zac rfl) (zab (zac rfl) (zab hfl zaf))) ⟨b,x,f,rfl,by omega⟩
 .rw[<- zcm]
  exact za0 (pre:=zjd) (res:=zlb) (ds:=[bkD b,encS y,encS f]) (zab (zac rfl) (zab (zac rfl) (zab hfl zaf))) ⟨b,y,f,rfl,by omega⟩
theorem znv(Z:Tx K mg ad0):FnOk P w K mg base CX0 4 ad0.Zaf ad0.Zat ["self", "book", "one", "other"] (SpI K ad0.Zae zio zvi):=by
 have Zak:=zfs (P:=P) (w:=w) (base:=base) Z
 have Zg5:=zxc (P:=P) (w:=w) (base:=base) Z
 refine Z.Zbs.ok zds (fun vs H Q E h=>zbe (n:=4) (by rintro fs ds ⟨w,f,b,x,y,rfl,rfl,_⟩;rfl) h) (fun cdv A outer s H vs Q E hr h=>⟨_,(zah (zao (zou (C:=ad0.Zae) (pv 0) Z.Zdg Z.Zdt Zg5 (hr.mono (by decide)) Z.Zet .nil zke (zaa (pcX Zak hr Z.Zau (zaa (pv 1) (zaa (pv 2) (zaa (zis (pv 0) (by rfl)) zad)))) (zaa (pcX Zak hr Z.Zau (zaa (pv 1) (zaa (pv 3) (zaa (zis (pv 0) (by rfl)) zad)))) zad))))),?_⟩)
 refine zfx h (by rw[zbe (n:=4) (by rintro fs ds ⟨w,f,b,x,y,rfl,rfl,_⟩;rfl) h];decide) fun G ds xx dx fs hp rt=>?_
 obtain⟨wt,f,b,x,y,rfl,rfl,hb,hf,ht⟩:=hp
 have em:∀(c:List Nat) (z:List Nat),z∈(txF b c f).map plF↔z∈(srtS (txF b c f)).map plF:=fun c z=>by
  rw[Zl2,Zl2]
  simp only[zgu]
 have e:sayL b f x y=zej ((srtS (txF b x f)).map plF) ((srtS (txF b y f)).map plF):=zgv (em x) (em y)
 rw[zn8,e,<- zn7 (fld wt f)] at rt
 have l1:=zeg b x f
 have l2:=zeg b y f
 have hfl:∀{L0:Hp},Ev K G H L0 [isl xx ad0.Zae dx (fld wt f),.d (bkD b),.d (encS x),.d (encS y)] (tFld K (tVar 0) "field") (encS f):=zww rfl Z.Zdg Z.Zcc (zgh wt f) fun F=>Rep.str hf
 refine zaw (zlq (pre:=zte) (res:=yat) (ds:=[.lst ((srtS (txF b x f)).map encS),.lst ((srtS (txF b y f)).map encS)]) rfl (zo7 wt f (by decide +kernel) (by decide +kernel)) (zab (EvO.ev ?_) (zab (EvO.ev ?_) zaf)) ⟨_,_,rfl,by rw[zc3];omega,by rw[zc3];omega,fun l hl=>by have:=zdp ht x f l hl;omega,fun l hl=>by have:=zdp ht y f l hl;omega⟩) rt
 .rw[<- zcm]
  exact za0 (pre:=zjd) (res:=zlb) (ds:=[bkD b,encS x,encS f]) (zab (zac rfl) (zab (zac rfl) (zab hfl zaf))) ⟨b,x,f,rfl,by omega⟩
 .rw[<- zcm]
  exact za0 (pre:=zjd) (res:=zlb) (ds:=[bkD b,encS y,encS f]) (zab (zac rfl) (zab (zac rfl) (zab hfl zaf))) ⟨b,y,f,rfl,by omega⟩
theorem znu(Z:Tx K mg ad0):FnOk P w K mg base CX0 5 ad0.Zaf ad0.Zat ["self", "book", "one", "other"] (SpI K ad0.Zad zio zvv):=by
 have Zak:=zfs (P:=P) (w:=w) (base:=base) Z
 have Zhb:=zx4 (P:=P) (w:=w) (base:=base) Z
 refine Z.Zbs.ok zds (fun vs H Q E h=>zbe (n:=4) (by rintro fs ds ⟨w,f,b,x,y,rfl,rfl,_⟩;rfl) h) (fun cdv A outer s H vs Q E hr h=>⟨_,(zah (zao (zou (C:=ad0.Zad) (pv 0) Z.Zdm Z.Zdn Zhb (hr.mono (by decide)) Z.Ze1 .nil zke (zaa (pcX Zak hr Z.Zau (zaa (pv 1) (zaa (pv 2) (zaa (zis (pv 0) (by rfl)) zad)))) (zaa (pcX Zak hr Z.Zau (zaa (pv 1) (zaa (pv 3) (zaa (zis (pv 0) (by rfl)) zad)))) zad))))),?_⟩)
 refine zfx h (by rw[zbe (n:=4) (by rintro fs ds ⟨w,f,b,x,y,rfl,rfl,_⟩;rfl) h];decide) fun G ds xx dx fs hp rt=>?_
 obtain⟨wt,f,b,x,y,rfl,rfl,hb,hf,ht⟩:=hp
 have em:∀(c:List Nat) (z:List Nat),z∈(txF b c f).map plF↔z∈(srtS (txF b c f)).map plF:=fun c z=>by
  rw[Zl2,Zl2]
  simp only[zgu]
 have e:sayN b f x y=byN (srtS (txF b x f)) (srtS (txF b y f)):=zxo (em x) (em y)
 rw[zob,e,<- zn2 (fld wt f)] at rt
 have l1:=zeg b x f
 have l2:=zeg b y f
 have hfl:∀{L0:Hp},Ev K G H L0 [isl xx ad0.Zad dx (fld wt f),.d (bkD b),.d (encS x),.d (encS y)] (tFld K (tVar 0) "field") (encS f):=zww rfl Z.Zdm Z.Zcb (zgh wt f) fun F=>Rep.str hf
 refine zaw (zlq (pre:=zte) (res:=ycd) (ds:=[.lst ((srtS (txF b x f)).map encS),.lst ((srtS (txF b y f)).map encS)]) rfl (zo7 wt f (by decide +kernel) (by decide +kernel)) (zab (EvO.ev ?_) (zab (EvO.ev ?_) zaf)) ⟨_,_,rfl,by rw[zc3];omega,by rw[zc3];omega,fun l hl=>by have:=zdp ht x f l hl;omega,fun l hl=>by have:=zdp ht y f l hl;omega⟩) rt
 .rw[<- zcm]
  exact za0 (pre:=zjd) (res:=zlb) (ds:=[bkD b,encS x,encS f]) (zab (zac rfl) (zab (zac rfl) (zab hfl zaf))) ⟨b,x,f,rfl,by omega⟩
 .rw[<- zcm]
  exact za0 (pre:=zjd) (res:=zlb) (ds:=[bkD b,encS y,encS f]) (zab (zac rfl) (zab (zac rfl) (zab hfl zaf))) ⟨b,y,f,rfl,by omega⟩
theorem zna(Z:Tx K mg ad0):FnOk P w K mg base CX0 4 ad0.Zaf ad0.Zat ["self", "book", "one", "other"] (SpI K ad0.Zab zio zwa):=by
 have Zak:=zfs (P:=P) (w:=w) (base:=base) Z
 have Zgv:=zup (P:=P) (w:=w) (base:=base) Z
 refine Z.Zbs.ok zds (fun vs H Q E h=>zbe (n:=4) (by rintro fs ds ⟨w,f,b,x,y,rfl,rfl,_⟩;rfl) h) (fun cdv A outer s H vs Q E hr h=>⟨_,(zah (zao (zou (C:=ad0.Zab) (pv 0) Z.Zb8 Z.Zc0 Zgv (hr.mono (by decide)) Z.Zdu .nil zke (zaa (pcX Zak hr Z.Zau (zaa (pv 1) (zaa (pv 2) (zaa (zis (pv 0) (by rfl)) zad)))) (zaa (pcX Zak hr Z.Zau (zaa (pv 1) (zaa (pv 3) (zaa (zis (pv 0) (by rfl)) zad)))) zad))))),?_⟩)
 refine zfx h (by rw[zbe (n:=4) (by rintro fs ds ⟨w,f,b,x,y,rfl,rfl,_⟩;rfl) h];decide) fun G ds xx dx fs hp rt=>?_
 obtain⟨wt,f,b,x,y,rfl,rfl,hb,hf,ht⟩:=hp
 have em:∀(c:List Nat) (z:List Nat),z∈(txF b c f).map plF↔z∈(srtS (txF b c f)).map plF:=fun c z=>by
  rw[Zl2,Zl2]
  simp only[zgu]
 have e:sayO b f x y=byO (srtS (txF b x f)) (srtS (txF b y f)):=by
  unfold sayO byO
  rw[zzq,zzq,zgv (em x) (em y)]
 rw[znz,e,<- zn5 (fld wt f)] at rt
 have l1:=zeg b x f
 have l2:=zeg b y f
 have hfl:∀{L0:Hp},Ev K G H L0 [isl xx ad0.Zab dx (fld wt f),.d (bkD b),.d (encS x),.d (encS y)] (tFld K (tVar 0) "field") (encS f):=zww rfl Z.Zb8 Z.Zb2 (zgh wt f) fun F=>Rep.str hf
 refine zaw (zlq (pre:=zte) (res:=yal) (ds:=[.lst ((srtS (txF b x f)).map encS),.lst ((srtS (txF b y f)).map encS)]) rfl (zo7 wt f (by decide +kernel) (by decide +kernel)) (zab (EvO.ev ?_) (zab (EvO.ev ?_) zaf)) ⟨_,_,rfl,by rw[zc3];omega,by rw[zc3];omega,fun l hl=>by have:=zdp ht x f l hl;omega,fun l hl=>by have:=zdp ht y f l hl;omega⟩) rt
 .rw[<- zcm]
  exact za0 (pre:=zjd) (res:=zlb) (ds:=[bkD b,encS x,encS f]) (zab (zac rfl) (zab (zac rfl) (zab hfl zaf))) ⟨b,x,f,rfl,by omega⟩
 .rw[<- zcm]
  exact za0 (pre:=zjd) (res:=zlb) (ds:=[bkD b,encS y,encS f]) (zab (zac rfl) (zab (zac rfl) (zab hfl zaf))) ⟨b,y,f,rfl,by omega⟩
noncomputable def zg8(b:List Fct)(x y:List Nat):Bool:=zej ((txF b x nmL).map plF) ((txF b y fmL).map plF)
noncomputable def yiq(ds:List D):Prop:=∃(b:List Fct) (x y:List Nat),ds=[bkD b,encS x,encS y]/\b.length<=60 /\ ∀g∈b,g.2.2.length<=900
noncomputable def ye7:List D->D
 | [.lst b,.str x,.str y]=>.bl (zg8 (b.map unF) x y)
 | _=>.non
theorem zm8(b:List Fct)(x y:List Nat):ye7 [bkD b,encS x,encS y]= .bl (zg8 b x y):=by
 show D.bl (zg8 ((b.map encF).map unF) x y)=_
 rw[zfb]
theorem zpx(Z:Tx K mg ad0):FnOk P w K mg base CX0 3 ad0.Zc4 ad0.Zc1 zdv (SpD K yiq ye7):=by
 have Zey:=zjv (P:=P) (w:=w) (base:=base) Z
 have Zbo:=zho (P:=P) (w:=w) (base:=base) Z
 have Zak:=zfs (P:=P) (w:=w) (base:=base) Z
 refine okD Z.Zcu.F zhd (by rintro ds ⟨b,x,y,rfl,_⟩;rfl) fun cdv A outer s H Q E hr=>⟨_,(zag (psn 3 zhd.nd (pcX Zak hr Z.Zau (zaa (pv 0) (zaa (pv 1) (zaa zap zad)))))
   (zag (psn 4 zhd.nd (pcX Zak hr Z.Zau (zaa (pv 0) (zaa (pv 2) (zaa zap zad)))))
   (zah (zao (pcX Zey hr Z.Zb9 (zaa (pcX Zbo hr Z.Zbi (zaa (pv 3) zad)) (zaa (pcX Zbo hr Z.Zbi (zaa (pv 4) zad)) zad))))))),fun G ds hp rt=>?_⟩
 obtain⟨b,x,y,rfl,hb,ht⟩:=hp
 have em:∀(c f:List Nat) (z:List Nat),z∈(txF b c f).map plF↔z∈(srtS (txF b c f)).map plF:=fun c f z=>by
  rw[Zl2,Zl2]
  simp only[zgu]
 have e:zg8 b x y=zej ((srtS (txF b x nmL)).map plF) ((srtS (txF b y fmL)).map plF):=zgv (em x nmL) (em y fmL)
 rw[zm8,e,<- zfn] at rt
 have l1:=zeg b x nmL
 have l2:=zeg b y fmL
 have s1:=zdp ht x nmL
 have s2:=zdp ht y fmL
 refine zak (za6 (ds:=(srtS (txF b x nmL)).map encS) (by rw[<- zcm b x nmL];exact za0 (pre:=zjd) (res:=zlb) (ds:=[bkD b,encS x,encS nmL]) (zab (zac rfl) (zab (zac rfl) (zab (za5 (l:=nmL) ye6.symm zrj) zaf))) ⟨b,x,nmL,rfl,hb⟩) fun p=>zbb (i:=3) rfl ?_)
 ((try dsimp only);refine zaq ?_)
 refine zak (za6 (ds:=(srtS (txF b y fmL)).map encS) (by rw[<- zcm b y fmL];exact za0 (pre:=zjd) (res:=zlb) (ds:=[bkD b,encS y,encS fmL]) (zab (zac rfl) (zab (zac rfl) (zab (za5 (l:=fmL) yiz.symm yce) zaf))) ⟨b,y,fmL,rfl,hb⟩) fun p2=>zbb (i:=4) rfl ?_)
 ((try dsimp only);refine zaq ?_)
 have k1:=zc3 (txF b x nmL)
 have k2:=zc3 (txF b y fmL)
 generalize srtS (txF b x nmL)=a1 at *
 generalize srtS (txF b y fmL)=a2 at *
 refine zaw (zbn (pre:=zq6) (res:=zns) (zab (EvO.ev ?_) (zab (EvO.ev ?_) zaf)) ⟨_,_,rfl,by rw[Zlm,Zlm];omega⟩) rt
 .rw[<- zcz a1]
  exact za0 (pre:=zum) (res:=zmb) (zab (zac rfl) zaf) ⟨a1,rfl,by omega,fun l hl=>by have:=s1 l hl;omega⟩
 .rw[<- zcz a2]
  exact za0 (pre:=zum) (res:=zmb) (zab (zac rfl) zaf) ⟨a2,rfl,by omega,fun l hl=>by have:=s2 l hl;omega⟩
noncomputable def sayF(b:List Fct)(x y:List Nat):Bool:=zg8 b x y||zg8 b y x
noncomputable def zvp(fs:List (Str×V)):List D->D
 | [.lst b,.str x,.str y]=>.bl (sayF (b.map unF) x y)
 | _=>.non
theorem zn3(fs:List (Str×V))(b:List Fct)(x y:List Nat):zvp fs [bkD b,encS x,encS y]= .bl (sayF b x y):=by
 show D.bl (sayF ((b.map encF).map unF) x y)=_
 rw[zfb]
theorem zlf(Z:Tx K mg ad0):FnOk P w K mg base CX0 4 ad0.Zbd ad0.Zbe ["self", "book", "one", "other"] (SpI K ad0.Zaa zio zvp):=by
 have Zhq:=zpx (P:=P) (w:=w) (base:=base) Z
 refine Z.Ze9.ok zk5 (fun vs H Q E h=>zbe (n:=4) (by rintro fs ds ⟨w,f,b,x,y,rfl,rfl,_⟩;rfl) h) (fun cdv A outer s H vs Q E hr h=>⟨_,(zah (zao (yjq (pcX Zhq hr Z.Zcu (zaa (pv 1) (zaa (pv 2) (zaa (pv 3) zad)))) (zku (pcX Zhq hr Z.Zcu (zaa (pv 1) (zaa (pv 3) (zaa (pv 2) zad)))))))),?_⟩)
 refine zfx h (by rw[zbe (n:=4) (by rintro fs ds ⟨w,f,b,x,y,rfl,rfl,_⟩;rfl) h];decide) fun G ds xx dx fs hp rt=>?_
 obtain⟨wt,f,b,x,y,rfl,rfl,hb,hf,ht⟩:=hp
 have hb:b.length<=60:=by omega
 have ht:∀g∈b,g.2.2.length<=900:=fun g hg=>by have:=ht g hg;omega
 rw[zn3] at rt
 refine zaw (ylr ?_ fun _=>?_) rt
 .rw[<- zm8]
  exact zbn (pre:=yiq) (res:=ye7) (ds:=[bkD b,encS x,encS y]) (zab (zac rfl) (zab (zac rfl) (zab (zac rfl) zaf))) ⟨b,x,y,rfl,hb,ht⟩
 .rw[<- zm8]
  exact zbn (pre:=yiq) (res:=ye7) (ds:=[bkD b,encS y,encS x]) (zab (zac rfl) (zab (zac rfl) (zab (zac rfl) zaf))) ⟨b,y,x,rfl,hb,ht⟩
noncomputable def zam:Nat->List Nat
 | 0=>("same" : Str).cps.toList
 | 1=>("like" : Str).cps.toList
 | 2=>("near" : Str).cps.toList
 | 3=>("other" : Str).cps.toList
 | _=>("former" : Str).cps.toList
theorem zxl:∀s t:Nat,s<5->t<5->zam s=zam t->s=t:=by
 have h:∀s:Fin 5,∀t:Fin 5,zam s=zam t->s=t:=by decide +kernel
 intro s t hs ht e
 exact congrArg Fin.val (h ⟨s,hs⟩ ⟨t,ht⟩ e)
noncomputable def zi5(fs:List (Str×V))(ds:List D):Prop:=ds=[]
theorem zsp(Z:Tx K mg ad0):FnOk P w K mg base CX0 1 ad0.Zba ad0.Za2 ["self"] (SpI K ad0.Zac zi5 fun _ _=>.str (zam 0)):=by
 refine Z.Ze5.ok zkd (fun vs H Q E h=>zbe (n:=1) (by rintro fs ds rfl;rfl) h) (fun cdv A outer s H vs Q E hr h=>⟨_,(zah (zao zap)),?_⟩)
 refine zfx h (by rw[zbe (n:=1) (by rintro fs ds rfl;rfl) h];decide) fun G ds xx dx fs hp rt=>?_
 exact zaw (zby (by decide +kernel)) rt
theorem zta(Z:Tx K mg ad0):FnOk P w K mg base CX0 1 ad0.Za6 ad0.Za9 ["self"] (SpI K ad0.Zae zi5 fun _ _=>.str (zam 1)):=by
 refine Z.Zev.ok zj7 (fun vs H Q E h=>zbe (n:=1) (by rintro fs ds rfl;rfl) h) (fun cdv A outer s H vs Q E hr h=>⟨_,(zah (zao zap)),?_⟩)
 refine zfx h (by rw[zbe (n:=1) (by rintro fs ds rfl;rfl) h];decide) fun G ds xx dx fs hp rt=>?_
 exact zaw (zby (by decide +kernel)) rt
theorem zsn(Z:Tx K mg ad0):FnOk P w K mg base CX0 1 ad0.Za4 ad0.Za5 ["self"] (SpI K ad0.Zad zi5 fun _ _=>.str (zam 2)):=by
 refine Z.Zeu.ok zjy (fun vs H Q E h=>zbe (n:=1) (by rintro fs ds rfl;rfl) h) (fun cdv A outer s H vs Q E hr h=>⟨_,(zah (zao zap)),?_⟩)
 refine zfx h (by rw[zbe (n:=1) (by rintro fs ds rfl;rfl) h];decide) fun G ds xx dx fs hp rt=>?_
 exact zaw (zby (by decide +kernel)) rt
theorem zot(Z:Tx K mg ad0):FnOk P w K mg base CX0 1 ad0.Zaw ad0.Zav ["self"] (SpI K ad0.Zab zi5 fun _ _=>.str (zam 3)):=by
 refine Z.Zdv.ok zjt (fun vs H Q E h=>zbe (n:=1) (by rintro fs ds rfl;rfl) h) (fun cdv A outer s H vs Q E hr h=>⟨_,(zah (zao zap)),?_⟩)
 refine zfx h (by rw[zbe (n:=1) (by rintro fs ds rfl;rfl) h];decide) fun G ds xx dx fs hp rt=>?_
 exact zaw (zby (by decide +kernel)) rt
theorem zno(Z:Tx K mg ad0):FnOk P w K mg base CX0 1 ad0.Zap ad0.Zan ["self"] (SpI K ad0.Zaa zi5 fun _ _=>.str (zam 4)):=by
 refine Z.Zdd.ok ziz (fun vs H Q E h=>zbe (n:=1) (by rintro fs ds rfl;rfl) h) (fun cdv A outer s H vs Q E hr h=>⟨_,(zah (zao zap)),?_⟩)
 refine zfx h (by rw[zbe (n:=1) (by rintro fs ds rfl;rfl) h];decide) fun G ds xx dx fs hp rt=>?_
 exact zaw (zby (by decide +kernel)) rt
theorem zfj(a v:D)(r:DD)(k:D):valD ((a,v)::r) k=if a=k then some v else valD r k:=by
 unfold valD
 rw[Zn5]
 by_cases h:a=k <;> simp[h]
theorem zvx(k d k':D):∀kvs:DD,valD (kvs.map fun kv=>if kv.1=k then (kv.1,d) else kv) k'=if k=k' then (if (kvs.any fun kv=>decide (kv.1=k))=true then some d else none) else valD kvs k'
 | []=>by simp[valD]
 | (a,v)::r=>by
  have ih:=zvx k d k' r
  rw[Zl0,Zp9]
  by_cases h:a=k
  .subst h
   rw[if_pos rfl,zfj,zfj,ih]
   by_cases h2:a=k'
   .rw[if_pos h2,if_pos h2,decide_eq_true rfl,Zw4,if_pos rfl]
   .rw[if_neg h2,if_neg h2,if_neg h2,if_neg h2]
  .rw[if_neg h,zfj,zfj,ih,decide_eq_false h,Zsr]
   by_cases h2:a=k'
   .rw[if_pos h2,if_pos h2,if_neg (fun z=>h (h2.trans z.symm))]
   .rw[if_neg h2,if_neg h2]
theorem zuv(k d k':D):∀kvs:DD,(kvs.any fun kv=>decide (kv.1=k))=false->valD (kvs++[(k,d)]) k'=if k=k' then some d else valD kvs k'
 | [],_=>by rw[Zry,zfj]
 | (a,v)::r,h=>by
  rw[Zp9,Zxh] at h
  have ih:=zuv k d k' r h.2
  have hak:=of_decide_eq_false h.1
  rw[Zrl,zfj,zfj,ih]
  by_cases h2:a=k'
  .rw[if_pos h2,if_pos h2,if_neg (fun z=>hak (h2.trans z.symm))]
  .rw[if_neg h2,if_neg h2]
theorem zvy(kvs:DD)(k d k':D):valD (putD kvs k d) k'=if k=k' then some d else valD kvs k':=by
 unfold putD
 by_cases h:(kvs.any fun kv=>decide (kv.1=k))=true
 .rw[if_pos h,zvx,if_pos h]
 .rw[if_neg h]
  exact zuv k d k' kvs (Bool.eq_false_iff.mpr h)
noncomputable abbrev Rl:=Nat×List Nat×Int
noncomputable def cOf(c1 c2 c3 c4 c5:Addr):Nat->Addr
 | 0=>c1 | 1=>c2 | 2=>c3 | 3=>c4 | _=>c5
noncomputable def fEf(r:Rl):List Nat:=if r.1<4 then r.2.1 else nmL
noncomputable def zh3(s:Nat)(b:List Fct)(f x y:List Nat):Bool:=match s with
 | 0=>sayS b f x y | 1=>sayL b f x y | 2=>sayN b f x y | 3=>sayO b f x y | _=>sayF b x y
theorem yei(r:Rl)(b:List Fct)(x y:List Nat):zh3 r.1 b (fEf r) x y=zh3 r.1 b r.2.1 x y:=by
 unfold fEf
 split
 .rfl
 .rename_i h
  match hs:r.1,h with
  | 0,h=>exact absurd (by decide) h
  | 1,h=>exact absurd (by decide) h
  | 2,h=>exact absurd (by decide) h
  | 3,h=>exact absurd (by decide) h
  | _+4,h=>rfl
noncomputable def insR(c1 c2 c3 c4 c5:Addr)(r:Rl):D:=.ins (cOf c1 c2 c3 c4 c5 r.1) ["weight", "field"] [.int r.2.2,.str (fEf r)]
noncomputable def totR(rs:List Rl)(b:List Fct)(x y:List Nat):Int:=rs.foldl (fun t r=>if zh3 r.1 b (fEf r) x y=true then t+r.2.2 else t) 0
theorem zyy(rs:List Rl)(b:List Fct)(x y:List Nat)(k:Nat)(r:Rl)(hk:rs[k]? = some r):totR (rs.take (k+1)) b x y=if zh3 r.1 b (fEf r) x y=true then totR (rs.take k) b x y+r.2.2 else totR (rs.take k) b x y:=by
 unfold totR
 rw[Zob,hk,Zui]
 rfl
noncomputable def yl9(c1 c2 c3 c4 c5:Addr)(q:List Rl×List Fct×List Nat×List Nat)(ds:List D):Prop:=ds=[.lst (q.1.map (insR c1 c2 c3 c4 c5)),bkD q.2.1,encS q.2.2.1,encS q.2.2.2]/\q.1.length<=20/\(∀r∈q.1,r.1<5 /\ ∀c∈fEf r,c<128)/\q.2.1.length<=14 /\ ∀g∈q.2.1,g.2.2.length<=15
noncomputable def ymn(q:List Rl×List Fct×List Nat×List Nat):D:=.int (totR q.1 q.2.1 q.2.2.1 q.2.2.2)
section
variable{G H0 L:Hp}{ss:List Sl}{ta:TE}{t:TA}{r:Rl}
theorem yhj(c1 c2 c3 c4 c5:Addr)(hr:r.1<5)(a:Ev K G H0 L ss ta (insR c1 c2 c3 c4 c5 r)) :
  Ev K G H0 L ss (zsc [(c1,SpI K c1 zi5 fun _ _=>.str (zam 0)),(c2,SpI K c2 zi5 fun _ _=>.str (zam 1)),(c3,SpI K c3 zi5 fun _ _=>.str (zam 2)),(c4,SpI K c4 zi5 fun _ _=>.str (zam 3)),(c5,SpI K c5 zi5 fun _ _=>.str (zam 4))] "sort_word" E0 ta tNil) (.str (zam r.1)):=by
 obtain⟨s,f,wt⟩:=r
 match s,hr,a with
 | 0,_,a=>exact zdn (pre:=zi5) (res:=fun _ _=>.str (zam 0)) (ds:=[]) a (by simp[cOf]) (by decide +kernel) (by decide +kernel) zaf rfl
 | 1,_,a=>exact zdn (pre:=zi5) (res:=fun _ _=>.str (zam 1)) (ds:=[]) a (by simp[cOf]) (by decide +kernel) (by decide +kernel) zaf rfl
 | 2,_,a=>exact zdn (pre:=zi5) (res:=fun _ _=>.str (zam 2)) (ds:=[]) a (by simp[cOf]) (by decide +kernel) (by decide +kernel) zaf rfl
 | 3,_,a=>exact zdn (pre:=zi5) (res:=fun _ _=>.str (zam 3)) (ds:=[]) a (by simp[cOf]) (by decide +kernel) (by decide +kernel) zaf rfl
 | 4,_,a=>exact zdn (pre:=zi5) (res:=fun _ _=>.str (zam 4)) (ds:=[]) a (by simp[cOf]) (by decide +kernel) (by decide +kernel) zaf rfl
theorem ydt(c1 c2 c3 c4 c5:Addr){b:List Fct}{x y:List Nat}(hr:r.1<5)(hf:∀c∈fEf r,c<128)(hb:b.length<=14)(ht:∀g∈b,g.2.2.length<=15)(a:Ev K G H0 L ss ta (insR c1 c2 c3 c4 c5 r))(q:EvAF K G H0 L ss t [bkD b,encS x,encS y]) :
  Ev K G H0 L ss (zsc [(c1,SpI K c1 zio zwo),(c2,SpI K c2 zio zvi),(c3,SpI K c3 zio zvv),(c4,SpI K c4 zio zwa),(c5,SpI K c5 zio zvp)] "speaks" E0 ta t) (.bl (zh3 r.1 b (fEf r) x y)):=by
 obtain⟨s,f,wt⟩:=r
 have hp:zio (fld wt (fEf (s,f,wt))) [bkD b,encS x,encS y]:=⟨wt,fEf (s,f,wt),b,x,y,rfl,rfl,hb,hf,ht⟩
 match s,hr,a,hp with
 | 0,_,a,hp =>
  have e:=zok wt (fEf (0,f,wt)) b x y
  show Ev _ _ _ _ _ _ (.bl (sayS b (fEf (0,f,wt)) x y))
  rw[<- e];exact zdn (pre:=zio) (res:=zwo) a (by simp[cOf]) (by decide +kernel) (by decide +kernel) q hp
 | 1,_,a,hp =>
  have e:=zn8 wt (fEf (1,f,wt)) b x y
  show Ev _ _ _ _ _ _ (.bl (sayL b (fEf (1,f,wt)) x y))
  rw[<- e];exact zdn (pre:=zio) (res:=zvi) a (by simp[cOf]) (by decide +kernel) (by decide +kernel) q hp
 | 2,_,a,hp =>
  have e:=zob wt (fEf (2,f,wt)) b x y
  show Ev _ _ _ _ _ _ (.bl (sayN b (fEf (2,f,wt)) x y))
  rw[<- e];exact zdn (pre:=zio) (res:=zvv) a (by simp[cOf]) (by decide +kernel) (by decide +kernel) q hp
 | 3,_,a,hp =>
  have e:=znz wt (fEf (3,f,wt)) b x y
  show Ev _ _ _ _ _ _ (.bl (sayO b (fEf (3,f,wt)) x y))
  rw[<- e];exact zdn (pre:=zio) (res:=zwa) a (by simp[cOf]) (by decide +kernel) (by decide +kernel) q hp
 | 4,_,a,hp =>
  have e:=zn3 (fld wt (fEf (4,f,wt))) b x y
  show Ev _ _ _ _ _ _ (.bl (sayF b x y))
  rw[<- e];exact zdn (pre:=zio) (res:=zvp) a (by simp[cOf]) (by decide +kernel) (by decide +kernel) q hp
end
theorem ykb(Z:Tx K mg ad0)(s:Nat):Cls K (cOf ad0.Zac ad0.Zae ad0.Zad ad0.Zab ad0.Zaa s)/\zbt K (cOf ad0.Zac ad0.Zae ad0.Zad ad0.Zab ad0.Zaa s) "weight" /\ zbt K (cOf ad0.Zac ad0.Zae ad0.Zad ad0.Zab ad0.Zaa s) "field" := by
 match s with
 | 0=>exact⟨Z.Zdf,Z.Zdh,Z.Zce⟩
 | 1=>exact⟨Z.Zdg,Z.Zdi,Z.Zcc⟩
 | 2=>exact⟨Z.Zdm,Z.Zdj,Z.Zcb⟩
 | 3=>exact⟨Z.Zb8,Z.Zco,Z.Zb2⟩
 | _+4=>exact⟨Z.Zdc,Z.Zb7,Z.Zcp⟩
theorem zqx(Z:Tx K mg ad0):FnOk P w K mg base CX0 6 ad0.Zd4 ad0.Zd5 ze7 (SpG K (yl9 ad0.Zac ad0.Zae ad0.Zad ad0.Zab ad0.Zaa) ymn):=by
 have Zg7:=zsp (P:=P) (w:=w) (base:=base) Z
 have Zha:=zta (P:=P) (w:=w) (base:=base) Z
 have Zhc:=zsn (P:=P) (w:=w) (base:=base) Z
 have Zgy:=zot (P:=P) (w:=w) (base:=base) Z
 have Zgp:=zno (P:=P) (w:=w) (base:=base) Z
 have Zhm:=znt (P:=P) (w:=w) (base:=base) Z
 have Zho:=znv (P:=P) (w:=w) (base:=base) Z
 have Zhl:=znu (P:=P) (w:=w) (base:=base) Z
 have Zhk:=zna (P:=P) (w:=w) (base:=base) Z
 have Zgz:=zlf (P:=P) (w:=w) (base:=base) Z
 refine okG Z.Zf4.F zcw (by rintro q ds ⟨rfl,_⟩;rfl) fun cdv A outer s H Q E hr=>⟨_,(zag (psn 4 zcw.nd ydp)
   (zag (psn 5 zcw.nd zai)
   (zag (zem Zm8 rfl (zbc (pv 0)) (pgn 6 zcw.nd) (zag (psn 7 zcw.nd (zhf (zaa (yaf (pv 6) (zdq Z.Zdf Z.Zdw Zg7 (hr.mono (by decide)) Z.Zer (zdq Z.Zdg Z.Zdr Zha (hr.mono (by decide)) Z.Ze0 (zdq Z.Zdm Z.Zdo Zhc (hr.mono (by decide)) Z.Ze3 (zdq Z.Zb8 Z.Zc5 Zgy (hr.mono (by decide)) Z.Zdq (zdq Z.Zdc Z.Zcl Zgp (hr.mono (by decide)) Z.Zcz yaz))))) zke) (zaa (zis (pv 6) (by rfl)) zad))))
   (zag (zcn (yj3 (zze (yca hr) (pv 7) (pv 4)) (by with_unfolding_all rfl)) (zah (yhk (yca hr) (pv 4) (pv 7) (yd7 (pv 6) (zdq Z.Zdf Z.Zfv Zhm (hr.mono (by decide)) Z.Zbr (zdq Z.Zdg Z.Zfu Zho (hr.mono (by decide)) Z.Zbr (zdq Z.Zdm Z.Zfy Zhl (hr.mono (by decide)) Z.Zbr (zdq Z.Zb8 Z.Zfb Zhk (hr.mono (by decide)) Z.Zbr (zdq Z.Zdc Z.Zes Zgz (hr.mono (by decide)) Z.Zfn yaz))))) zke (zaa (pv 1) (zaa (pv 2) (zaa (pv 3) zad)))) rfl)) za2)
   (zah (zcn (zhg (yh1 (yca hr) (pv 4) (pv 7) (fun _ _=>rfl))) (zah (psn 5 zcw.nd (zau zcd (pv 5) (zis (pv 6) (by rfl))))) za2)))))
   (zah (zao (pv 5)))))),fun G ds q hp rt=>?_⟩
 obtain⟨rs,b,x,y⟩:=q
 obtain⟨rfl,hl,hrs,hb,ht⟩:=hp
 have hl:rs.length<=20:=hl
 have hb:b.length<=14:=hb
 have rt:RtD K G H Q (.int (totR rs b x y)):=rt
 refine zak (ydg fun p=>?_)
 ((try dsimp only);refine zaq ?_)
 refine zak (zbd (d:=.int 0) zaj ?_)
 ((try dsimp only);refine zaq ?_)
 refine zak (zit (insR ad0.Zac ad0.Zae ad0.Zad ad0.Zab ad0.Zaa) rs (fun k ss=>∃(kvs:DD) (v6 v7:Sl),ss=[.d (.lst (rs.map (insR ad0.Zac ad0.Zae ad0.Zad ad0.Zab ad0.Zaa))),.d (bkD b),.d (encS x),.d (encS y),dslT K p kvs,.d (.int (totR (rs.take k) b x y)),v6,v7]/\kvs.length<=k /\ ∀s f v,s<5->valD kvs (.tup [.str (zam s),.str f])=some v->v= .bl (zh3 s b f x y)) (zac rfl) ⟨[],.un,.un,rfl,Zlt _,fun _ _ _ _ h=>by cases h⟩ ?_ ?_)
 .rintro L' k r ss hL hk ⟨kvs,v6,v7,rfl,hkl,hin⟩
  refine⟨_,zax,fun N hN=>?_⟩
  obtain⟨hr5,hfa⟩:=hrs r (Zlv hk)
  have hk20:k<rs.length:=(Zlq.mp hk).1
  have hc:=ykb Z r.1
  have hm:=zyy rs b x y k r hk
  refine zak (yaq (i:=7) (ds:=[.str (zam r.1),.str (fEf r)]) (zab (yhj ad0.Zac ad0.Zae ad0.Zad ad0.Zab ad0.Zaa hr5 (zac rfl)) (zab (yav (zac rfl) hc.1 hc.2.2 (.inr ⟨by decide +kernel,rfl,rfl⟩)) zaf)) (small (by simp)) fun b7=>?_)
  ((try dsimp only);refine zaq ?_)
  refine zhu (fun ss=>∃kvs':DD,ss=[.d (.lst (rs.map (insR ad0.Zac ad0.Zae ad0.Zad ad0.Zab ad0.Zaa))),.d (bkD b),.d (encS x),.d (encS y),dslT K p kvs',.d (.int (totR (rs.take k) b x y)),.d (insR ad0.Zac ad0.Zae ad0.Zad ad0.Zab ad0.Zaa r),tsl K b7 [.str (zam r.1),.str (fEf r)]]/\kvs'.length<=k+1/\(∀s f v,s<5->valD kvs' (.tup [.str (zam s),.str f])=some v->v= .bl (zh3 s b f x y))/\valD kvs' (.tup [.str (zam r.1),.str (fEf r)])=some (.bl (zh3 r.1 b (fEf r) x y))) (fun N2 hN2=>zcj (zan (zx8 rfl rfl rfl)) (fun h=>?_) (fun h=>?_)) ?_
  .refine yfm rfl rfl rfl (ydt ad0.Zac ad0.Zae ad0.Zad ad0.Zab ad0.Zaa hr5 hfa hb ht (zac rfl) (zab (zac rfl) (zab (zac rfl) (zab (zac rfl) zaf)))) (by rw[Zl7];omega) (hN2 _ ⟨_,rfl,?_,fun s f v hs hv=>?_,?_⟩)
   .exact Znm (ydi _ _ _) (by omega)
   .rw[zvy] at hv
    split at hv
    .rename_i e
     injection hv with hv
     injection e with e
     injection e with e1 e2
     injection e1 with e1
     injection e2 with e2 _
     injection e2 with e2
     rw[<- hv,zxl _ _ hr5 hs e1,e2]
    .exact hin s f v hs hv
   .rw[zvy,if_pos rfl]
  .refine za3 (hN2 _ ⟨kvs,rfl,by omega,hin,?_⟩)
   cases z:valD kvs (.tup [.str (zam r.1),.str (fEf r)]) with
   | none=>rw[z] at h;cases h
   | some v=>rw[hin _ _ _ hr5 z]
  rintro ss ⟨kvs',rfl,hkl',hin',hv'⟩
  refine zcj (zk6 (ye5 rfl rfl rfl hv')) (fun h=>?_) (fun h=>?_)
  .refine zbd (d:=.int (totR (rs.take k) b x y+r.2.2)) (zcg (zac rfl).b (yav (zac rfl) hc.1 hc.2.1 (.inl ⟨rfl,rfl⟩)).b) (hN _ ⟨kvs',.d (insR ad0.Zac ad0.Zae ad0.Zad ad0.Zab ad0.Zaa r),tsl K b7 [.str (zam r.1),.str (fEf r)],?_,hkl',hin'⟩)
   rw[hm,if_pos h];rfl
  .refine za3 (hN _ ⟨kvs',.d (insR ad0.Zac ad0.Zae ad0.Zad ad0.Zab ad0.Zaa r),tsl K b7 [.str (zam r.1),.str (fEf r)],?_,hkl',hin'⟩)
   rw[hm,if_neg (by rw[h];decide)]
 rintro ss ⟨kvs,v6,v7,rfl,_,_⟩
 ((try dsimp only);refine zaq ?_)
 rw[Zpc]
 exact zaw (zac rfl) rt
noncomputable def figs:List Nat:=[48,49,50,51,52,53,54,55,56,57]
theorem yij:∀c∈figs,c<128:=by decide
theorem yip{c:Nat}(h:48<=c/\c<=57):c∈figs:=by
 have:∀k:Nat,k<58->48<=k->k∈figs:=by decide
 exact this c (by omega) h.1
noncomputable def ygy(ds:List D):Prop:=∃n:Nat,ds=[.str (numL n)]/\0<n/\n<=1000000000
theorem zws{n:Nat}(h:n<=1000000000):(numL n).length<=10:=yeb (Zua h (by decide))
theorem zqy(Z:Tx K mg ad0):FnOk P w K mg base CX0 1 ad0.Zcf ad0.Zck zdi (SpD K ygy fun _=>.bl true):=by
 refine okD Z.Zf9.F zq7 (by rintro ds ⟨n,rfl,_⟩;rfl) fun cdv A outer s H Q E hr=>⟨_,(zag (zcn (PW.pt (zsu (zas zdd (pv 0) zap (zay _)) (zsu (zas zdd (za7 znc (pv 0) zai (fun _ _=>rfl)) zap (zay _)) (zmz (zas yel (zar zbm (by rfl) Z.Zbj Zps (zaa (pv 0) zad)) (zar zbm (by rfl) Z.Zbj Zps (zaa (zbx (show zb4 _ _ yeg from zrs) (by rfl) Z.Zjl boot_str (zaa (zee (by rfl) Z.Zgq Z.Ziq) zad)) zad)) (zay _)))))) (zah (zao zs0)) za2)
   (zah (zao (zm2 (zar (zpo rfl) (by rfl) Z.Zin Ydk (zaa (zg7 rfl (LcOk.of (Nx:=(["word"]:List Str)) (sc:=zae zey) (N':=(["sign"]:List Str)) (nt:=1) (cs:=[]) rfl rfl (by decide +kernel)) (ya0 (pv 0)) (fun _ _ _ _=>(zbk (i:=0) (show Zm9 (["sign"]:List Str) by decide +kernel) rfl (Zo6 rfl))) (fun _ _ _ _=>zcb) (fun _ _ _ _=>(zda zrn (pv 0) (zee (by rfl) Z.Zhw Z.Zk8) (by with_unfolding_all rfl)))) zad)) (zku (zda zzr (zbx (show zb4 _ _ yev from zsr) (by rfl) Z.Zh2 Yac (zaa (pv 0) zad)) (zee (by rfl) Z.Zgq Z.Ziq) (zay _))))))),fun G ds hp rt=>?_⟩
 obtain⟨n,rfl,h0,h1⟩:=hp
 have hl:=zws h1
 have hd:=zg4 n
 have hv:=zv2 n
 obtain⟨c,r,e,hc⟩:=zr9 n h0
 generalize numL n=l at *
 have hz:l.length<=sizeLine:=by rw[Zl7];omega
 have hne:l≠[]:=by rw[e];simp
 have g10:(numL (1000000000:Int).toNat).length=10:=by decide +kernel
 have hat:atI l 0=some c:=by rw[e];exact zix (xs:=c::r) (j:=0) rfl
 refine zak (zcj (b:=(decide (l=[])||(decide ([c]=[48])||decide (((numL (1000000000:Int).toNat).length:Int)<(l.length:Int))))) (zkm (zan (zcy (zac rfl).b (za5 (l:=[]) rfl (by simp)).b)) fun _=>zkm (zan (zcy (zmf (zac rfl).b zaj.b hz hat).b (za5 (l:=[48]) (by decide +kernel) (by decide)).b)) fun _=>zan (ye0 (zft (zac rfl).b hz).b (zft (zzs zaj.b (by decide) (by decide)).b (by rw[g10];decide)).b)) (fun hb=>?_) (fun _=>za3 ?_))
 .rw[decide_eq_false hne,Zsr,decide_eq_false (fun z=>by injection z with z;omega),Zsr,g10] at hb
  have:=of_decide_eq_true hb
  omega
 ((try dsimp only);refine zaq ?_)
 have ea:(l.all (fun c=>decide (c∈figs))&&decide ((((Zqw l:Nat):Int))<=1000000000))=true:=by
  rw[Zmd]
  exact⟨Zpy.mpr fun c hc=>decide_eq_true (yip (hd c hc)),decide_eq_true (by rw[hv];omega)⟩
 have rt':RtD K G H Q (.bl (l.all (fun c=>decide (c∈figs))&&decide ((((Zqw l:Nat):Int))<=1000000000))):=by rw[ea];exact rt
 exact zaw (znb (zti (xs:=l) (g:=fun c=>decide (c∈figs)) (EvO.l (zmx l (fun c=>.bl (decide (c∈figs))) (zac rfl).b (zbo (by decide)) (by decide) (by rw[Zl7];omega) fun c hc=>⟨_,zax,ygn (zac rfl).b (za5 (l:=figs) (by decide +kernel) yij).b⟩))) fun _=>ymx (yb9 (zac rfl).b hd hne (by omega)).b zaj.b) rt'
noncomputable def ruOk(r:Rl):Prop:=r.1<5/\(∀c∈r.2.1,c<128)/\(r.1=4->r.2.1=nmL)
noncomputable def ymt(c1 c2 c3 c4 c5:Addr)(r:Rl)(ds:List D):Prop:=ds=[.int r.2.2,.str r.2.1,.str (zam r.1)]/\ruOk r
theorem zyj:∀n:Nat,n<5-> ∀c∈zam n,c<128:=by decide +kernel
theorem zfg:∀n:Nat,n<5-> ∀m:Nat,m<5->(zam n=zam m↔n=m):=by decide +kernel
theorem zr2(Z:Tx K mg ad0):FnOk P w K mg base CX0 4 ad0.Zei ad0.Zej zfp (SpG K (ymt ad0.Zac ad0.Zae ad0.Zad ad0.Zab ad0.Zaa) (insR ad0.Zac ad0.Zae ad0.Zad ad0.Zab ad0.Zaa)):=by
 have Zh8:=zrr (P:=P) (w:=w) (base:=base) Z
 have Zh9:=zsy (P:=P) (w:=w) (base:=base) Z
 have Zh7:=zr7 (P:=P) (w:=w) (base:=base) Z
 have Zhs:=zqm (P:=P) (w:=w) (base:=base) Z
 have Zhd:=znr (P:=P) (w:=w) (base:=base) Z
 refine okG Z.Zf1.F zr1 (by rintro q ds ⟨rfl,_⟩;rfl) fun cdv A outer s H Q E hr=>⟨_,(zag (zcn (zas zdd (pv 2) zap (zay _)) (zah (zao (zl3 Z.Zi4 Zh8 (hr.mono (by decide)) (by rfl) Z.Zka Z.Zb1 .nil zke (zaa (pv 0) (zaa (pv 1) zad))))) za2)
   (zag (zcn (zas zdd (pv 2) zap (zay _)) (zah (zao (zl3 Z.Ziv Zh9 (hr.mono (by decide)) (by rfl) Z.Zj0 Z.Zb1 .nil zke (zaa (pv 0) (zaa (pv 1) zad))))) za2)
   (zag (zcn (zas zdd (pv 2) zap (zay _)) (zah (zao (zl3 Z.Ziw Zh7 (hr.mono (by decide)) (by rfl) Z.Zjp Z.Zb1 .nil zke (zaa (pv 0) (zaa (pv 1) zad))))) za2)
   (zag (zcn (zas zdd (pv 2) zap (zay _)) (zah (zao (zl3 Z.Zii Zhs (hr.mono (by decide)) (by rfl) Z.Zi3 Z.Zb1 .nil zke (zaa (pv 0) (zaa (pv 1) zad))))) za2)
   (zag (zcn (PW.pt (zir (zas zdd (pv 2) zap (zay _)) (zgq (zas zdd (pv 1) zap (zay _))))) (zah (zao (zl3 Z.Zhz Zhd (hr.mono (by decide)) (by rfl) Z.Zif Z.Zgo .nil zke (zaa (pv 0) zad)))) za2)
   (zah zjc)))))),fun G ds r hp rt=>?_⟩
 obtain⟨rfl,h5,hfa,hf4⟩:=hp
 obtain⟨n,f,wt⟩:=r
 have h5:n<5:=h5
 have two:∀{L0:Hp} {ss:List Sl},ss[0]? = some (.d (.int wt))->ss[1]? = some (.d (.str f))->EvAF K G H L0 ss (za8 (tVar 0) (za8 (tVar 1) tNil)) [.int wt,.str f]:=fun e1 e2=>zab (zac e1) (zab (zac e2) zaf)
 have wd:∀{L0:Hp} {ss:List Sl} (m:Nat) (x:Str),m<5->x=T (zam m)->ss[2]? = some (.d (.str (zam n)))->EvT K G H L0 ss (yc5 (tOp rEq (tVar 2) (tC (.str x)))) (decide (zam n=zam m)):=fun m x hm hx e=>zan (zcy (zac e).b (za5 hx (zyj m hm)).b)
 refine zak (zcj (wd 0 _ (by decide) (by decide +kernel) rfl) (fun hb=>?_) (fun hb0=>za3 ?_))
 .cases (zfg n h5 0 (by decide)).mp (of_decide_eq_true hb)
  exact zaw (zlk (two rfl rfl)) rt
 ((try dsimp only);refine zaq ?_)
 refine zak (zcj (wd 1 _ (by decide) (by decide +kernel) rfl) (fun hb=>?_) (fun hb1=>za3 ?_))
 .cases (zfg n h5 1 (by decide)).mp (of_decide_eq_true hb)
  exact zaw (zlk (two rfl rfl)) rt
 ((try dsimp only);refine zaq ?_)
 refine zak (zcj (wd 2 _ (by decide) (by decide +kernel) rfl) (fun hb=>?_) (fun hb2=>za3 ?_))
 .cases (zfg n h5 2 (by decide)).mp (of_decide_eq_true hb)
  exact zaw (zlk (two rfl rfl)) rt
 ((try dsimp only);refine zaq ?_)
 refine zak (zcj (wd 3 _ (by decide) (by decide +kernel) rfl) (fun hb=>?_) (fun hb3=>za3 ?_))
 .cases (zfg n h5 3 (by decide)).mp (of_decide_eq_true hb)
  exact zaw (zlk (two rfl rfl)) rt
 ((try dsimp only);refine zaq ?_)
 have no:∀m,m<5->decide (zam n=zam m)=false->n≠m:=fun m hm h z=>of_decide_eq_false h ((zfg n h5 m hm).mpr z)
 have hn:n=4:=by
  have:=no 0 (by decide) hb0;have:=no 1 (by decide) hb1;have:=no 2 (by decide) hb2;have:=no 3 (by decide) hb3
  omega
 subst hn
 cases hf4 rfl
 refine zak (zcj (b:=(decide (zam 4=zam 4)&&decide (nmL=nmL))) (ze9 (wd 4 _ (by decide) (by decide +kernel) rfl) fun _=>zan (zcy (zac rfl).b (za5 ye6.symm zrj).b)) (fun _=>zaw (ydy zrj (zab (zac rfl) zaf)) rt) (fun hb=>?_))
 rw[decide_eq_true rfl,decide_eq_true rfl] at hb
 cases hb
theorem ycl{G H0 L:Hp}{ss:List Sl}{te:TE}{d d':D}(a:Ev K G H0 L ss te d)(h:d=d'):Ev K G H0 L ss te d':=h ▸ a
noncomputable def forL:List Nat:=("for" : Str).cps.toList
noncomputable def agL:List Nat:=("against" : Str).cps.toList
noncomputable def wayL(w:Int):List Nat:=if w<0 then agL else forL
noncomputable def rowW(r:Rl):List (List Nat):=[wayL r.2.2,numL r.2.2.natAbs,r.2.1,zam r.1]
noncomputable def rowR(r:Rl):List Nat:=glue [32] (rowW r)
theorem zp2:∀f∈flds,32∉f/\10∉f/\f.length<=6:=by decide +kernel
theorem zlz:∀n:Nat,n<5->32∉zam n/\10∉zam n/\(zam n).length<=6:=by decide +kernel
theorem zu3(w:Int):32∉wayL w/\10∉wayL w/\(wayL w).length<=7/\(∀c∈wayL w,c<128):=by
 unfold wayL
 split <;> decide +kernel
noncomputable def RuOk(r:Rl):Prop:=ruOk r/\r.2.1∈flds/\r.2.2≠0/\r.2.2.natAbs<=1000000000
theorem yft(n:Nat)(z:Nat)(hz:z<48):z∉numL n:=fun h=>by have:=(zg4 n z h).1;omega
theorem zxx{r:Rl}(h:RuOk r):zbg 32 (rowR r)=rowW r:=by
 obtain⟨⟨h5,_⟩,hf,_⟩:=h
 unfold zbg rowR
 refine zid (by unfold rowW;simp) (fun p hp=>?_) ?_
 .unfold rowW at hp
  simp only[Zly,Zno,or_false] at hp
  rcases hp with rfl | rfl | rfl | rfl
  .exact(zu3 _).1
  .exact yft _ 32 (by decide)
  .exact(zp2 _ hf).1
  .exact(zlz _ h5).1
 .show 4<=_
  have:(glue [32] (rowW r)).length ≥ 3:=by
   unfold rowW
   simp[glue]
   omega
  omega
theorem zlv{r:Rl}(h:RuOk r):(rowR r).length<=40:=by
 obtain⟨⟨h5,_⟩,hf,_,hn⟩:=h
 have a:=(zu3 r.2.2).2.2.1
 have b:=zws hn
 have c:=(zp2 _ hf).2.2
 have d:=(zlz _ h5).2.2
 unfold rowR rowW
 simp[glue]
 omega
noncomputable def ymy(c1 c2 c3 c4 c5:Addr)(r:Rl)(ds:List D):Prop:=ds=[.str (rowR r)]/\RuOk r
theorem zq1(Z:Tx K mg ad0):FnOk P w K mg base CX0 5 ad0.Zd3 ad0.Zee zfa (SpG K (ymy ad0.Zac ad0.Zae ad0.Zad ad0.Zab ad0.Zaa) (insR ad0.Zac ad0.Zae ad0.Zad ad0.Zab ad0.Zaa)):=by
 have Zkd:FnOk P w K mg base CX0 4 ad0.Zcf ad0.Zck zdi (SpD K ygy fun _=>.bl true):=(zqy Z).mono (by decide)
 have Zkg:=zr2 (P:=P) (w:=w) (base:=base) Z
 refine okG Z.Zf7.F zhj (by rintro q ds ⟨rfl,_⟩;rfl) fun cdv A outer s H Q E hr=>⟨_,(zag (psn 1 zhj.nd (zdc Zmm Zoa Zrt zli (pv 0) (zaa zap zad)))
   (zag (zcn (PW.pt (zsu (zas zo3 (zar zdu (by rfl) Z.Zbj Zps (zaa (pv 1) zad)) zai (zay _)) (zmz (zas (show OpR _ _ (rInD K true) from zrw hr.units) (za7 (show IxR _ (rIxL K) from zaz) (pv 1) zai (fun _ _=>rfl)) (zhf (zaa zap (zaa zap zad))) (by with_unfolding_all rfl))))) (zah zjc) za2)
   (zag (zcn (PW.pt (zsu (zkq (zhg (pcX Zkd hr Z.Zf9 (zaa (za7 (show IxR _ (rIxL K) from zaz) (pv 1) zai (fun _ _=>rfl)) zad)))) (zmz (zas (show OpR _ _ (rInD K true) from zrw hr.units) (za7 (show IxR _ (rIxL K) from zaz) (pv 1) zai (fun _ _=>rfl)) (zee (v:=.ref ad0.Zc3) (by rfl) Z.Zhj rfl) (by with_unfolding_all rfl))))) (zah zjc) za2)
   (zag (psn 2 zhj.nd (zbx (show zb4 _ _ yev from zsr) (by rfl) Z.Zh2 Yac (zaa (za7 (show IxR _ (rIxL K) from zaz) (pv 1) zai (fun _ _=>rfl)) zad)))
   (zah (zao (pcX Zkg hr Z.Zf1 (zaa (ydu (zas zdd (za7 (show IxR _ (rIxL K) from zaz) (pv 1) zai (fun _ _=>rfl)) zap (zay _)) (pv 2) (ygz ycp (pv 2))) (zaa (za7 (show IxR _ (rIxL K) from zaz) (pv 1) zai (fun _ _=>rfl)) (zaa (za7 (show IxR _ (rIxL K) from zaz) (pv 1) zai (fun _ _=>rfl)) zad)))))))))),fun G ds r hp rt=>?_⟩
 obtain⟨rfl,hR⟩:=hp
 have hs:=zxx hR
 have hl:=zlv hR
 obtain⟨hru,hf,hw0,hw1⟩:=hR
 refine zak (za6 (ds:=(rowW r).map D.str) (by rw[<- hs];exact zih (zac rfl).b (za5 (l:=[32]) (by decide +kernel) (by decide)).b (by rw[Zl7];omega)) fun p=>zbb (i:=1) rfl ?_)
 ((try dsimp only);refine zaq ?_)
 have ix:∀{L0:Hp} {ss:List Sl} (j:Int) (l:List Nat),ss[1]? = some (.d (.lst ((rowW r).map D.str)))->atI ((rowW r).map D.str) j=some (.str l)->Ev K G H L0 ss (tOp (rIxL K) (tVar 1) (tC (.int j))) (.str l):=fun j l e h=>zbs (zac e).l zaj.b h
 have hway:wayL r.2.2=forL\/wayL r.2.2=agL:=by unfold wayL;split;exact .inr rfl;exact .inl rfl
 refine zak (zcj (b:=(!decide ((((rowW r).map D.str).length:Int)=4) || !decide (D.str (wayL r.2.2)∈[D.str forL,D.str agL]))) (zkm (zan (zux (zpw (zac rfl).l).b zaj.b)) fun _=>zan (ztd (ix 0 _ rfl rfl).b (zhv (zab (za5 (l:=forL) (by decide +kernel) (by decide +kernel)) (zab (za5 (l:=agL) (by decide +kernel) (by decide +kernel)) zaf)) (small (by simp))).b rfl rfl (by simp[D.dep]))) (fun hb=>?_) (fun _=>za3 ?_))
 .exfalso
  have e1:decide ((((rowW r).map D.str).length:Int)=4)=true:=decide_eq_true rfl
  have e2:decide (D.str (wayL r.2.2)∈[D.str forL,D.str agL])=true:=decide_eq_true (by rcases hway with h | h <;> rw[h] <;> simp)
  rw[e1,e2] at hb
  cases hb
 ((try dsimp only);refine zaq ?_)
 refine zak (zcj (b:=(!true || !decide (r.2.1∈flds))) (zkm (zh1 (zk6 (zbn (pre:=ygy) (res:=fun _=>.bl true) (zab (ix 1 _ rfl rfl) zaf) ⟨_,rfl,by omega,hw1⟩))) fun _=>zan (by
  rw[<- zv6]
  exact ztd (ix 2 _ rfl rfl).b (zpn Z.Zgw).b rfl (D.nbs_map (fun _=>rfl) flds) (by simp[D.dep]))) (fun hb=>?_) (fun _=>za3 ?_))
 .rw[decide_eq_true hf] at hb
  cases hb
 ((try dsimp only);refine zaq ?_)
 obtain⟨c,q,e,_⟩:=zr9 r.2.2.natAbs (by omega)
 have hv:(((Zqw (numL r.2.2.natAbs):Nat)):Int)=r.2.2.natAbs:=by rw[zv2]
 refine zak (zbd (d:=.int (r.2.2.natAbs:Int)) (by rw[<- hv];exact yb9 (ix 1 _ rfl rfl).b (zg4 _) (by rw[e];simp) (by have:=zws hw1;omega)) ?_)
 ((try dsimp only);refine zaq ?_)
 refine zaw (zdr r (zab (ymm (b:=decide (wayL r.2.2=forL)) (zan (zcy (ix 0 _ rfl rfl).b (za5 (l:=forL) (by decide +kernel) (by decide +kernel)).b)) (fun hb=>?_) (fun hb=>?_)) (zab (ix 2 _ rfl rfl) (zab (ix 3 _ rfl rfl) zaf))) ⟨rfl,hru⟩) rt
 .have h:((r.2.2.natAbs:Nat):Int)=r.2.2:=by
   have:=of_decide_eq_true hb
   unfold wayL at this
   split at this
   .exact absurd this (by decide +kernel)
   .omega
  exact ycl (zac rfl) (congrArg D.int h)
 .have h : -((r.2.2.natAbs:Nat):Int)=r.2.2:=by
   have:=of_decide_eq_false hb
   unfold wayL at this
   split at this
   .omega
   .exact absurd rfl this
  exact ycl (yb2 (zac rfl).b) (congrArg D.int h)
noncomputable def ym1(c1 c2 c3 c4 c5:Addr)(r:Rl)(ds:List D):Prop:=∃n:Int,ds=[.int n,.str (rowR r)]/\RuOk r
theorem zk0(Z:Tx K mg ad0):FnOk P w K mg base CX0 6 ad0.Zbw ad0.Zbv zci (SpG K (ym1 ad0.Zac ad0.Zae ad0.Zad ad0.Zab ad0.Zaa) (insR ad0.Zac ad0.Zae ad0.Zad ad0.Zab ad0.Zaa)):=by
 have Zkc:=zq1 (P:=P) (w:=w) (base:=base) Z
 refine okG Z.Zcm.F zk1 (by rintro x ds ⟨n,rfl,_⟩;rfl) fun cdv A outer s H Q E hr=>⟨_,(zah (zog rfl (zah (zao (pcX Zkc hr Z.Zf7 (zaa (pv 1) zad)))))),fun G ds x hp rt=>?_⟩
 obtain⟨n,rfl,hx⟩:=hp
 exact zaw (zdr x (zab (zac rfl) zaf) ⟨rfl,hx⟩) rt
noncomputable abbrev LnR:=List Nat×Option Rl
noncomputable def ybt(p:LnR):Prop:=10∉p.1/\p.1.length<=100/\match p.2 with
 | none=>zhl p.1=true
 | some x=>p.1=rowR x/\RuOk x
noncomputable def zex(ls:List LnR):List Rl:=ls.filterMap fun p=>p.2
noncomputable def txtR(ls:List LnR):List Nat:=glue [10] (ls.map (·.1))
noncomputable def yfx(c1 c2 c3 c4 c5:Addr)(ls:List LnR)(ds:List D):Prop:=ds=[.str (txtR ls)]/\ls≠[]/\ls.length<=400 /\ ∀p∈ls,ybt p
noncomputable def zwb(c1 c2 c3 c4 c5:Addr)(ls:List LnR):List D:=(zex ls).map (insR c1 c2 c3 c4 c5)
theorem zyo(x:Rl):∃c t,rowR x=c::t/\(c=102\/c=97):=by
 have h:∃c t,wayL x.2.2=c::t/\(c=102\/c=97):=by
  unfold wayL
  split
  .exact⟨97,agL.tail,by decide +kernel,.inr rfl⟩
  .exact⟨102,forL.tail,by decide +kernel,.inl rfl⟩
 obtain⟨c,t,e,hc⟩:=h
 unfold rowR rowW
 rw[e]
 exact⟨c,_,rfl,hc⟩
theorem zzu(x:Rl):zhl (rowR x)=false:=by
 obtain⟨c,t,e,hc⟩:=zyo x
 have hc2:c≠32/\c≠35:=by omega
 unfold zhl
 rw[e,decide_eq_false (znx hc2.1)]
 simp[hc2.2]
theorem yed{ls:List LnR}(h:∀p∈ls,ybt p)(hl:ls.length<=400):(txtR ls).length<=100000:=by
 unfold txtR
 have h1:=zqh [10] (ls.map (·.1))
 have h2:=zvs (ls:=ls.map (·.1)) (n:=100) (by intro l hm;obtain⟨p,hp,rfl⟩:=Zl2.mp hm;exact(h p hp).2.1)
 simp only[Zlm,Zl1,Zm6] at h1 h2
 omega
theorem zxb{ls:List LnR}(h:∀p∈ls,ybt p)(h0:ls≠[]):zbg 10 (txtR ls)=ls.map (·.1):=by
 unfold zbg txtR
 refine zid (by simpa using h0) (by intro q hq;obtain⟨p,hp,rfl⟩:=Zl2.mp hq;exact(h p hp).1) ?_
 have:∀qs:List (List Nat),qs.length<=(glue [10] qs).length+1:=fun qs=>by
  induction qs with
  | nil=>simp
  | cons a r ih =>
   cases r with
   | nil=>simp
   | cons b r=>simp only[glue,Zlw,Zl1,Zm6] at ih ⊢;omega
 have:=this (ls.map (·.1))
 omega
theorem zov(Z:Tx K mg ad0):FnOk P w K mg base CX0 7 ad0.Zdb ad0.Zcx zd4 (SpGO K (yfx ad0.Zac ad0.Zae ad0.Zad ad0.Zab ad0.Zaa) (zwb ad0.Zac ad0.Zae ad0.Zad ad0.Zab ad0.Zaa)):=by
 have Zg6:FnOk P w K mg base CX0 6 ad0.Zcg ad0.Zci zdh (SpO K preL zoz):=(zkx Z).mono (by decide)
 have Zis:=zk0 (P:=P) (w:=w) (base:=base) Z
 refine okGO Z.Zfh.F zqa (by rintro x ds ⟨rfl,_⟩;rfl) fun cdv A outer s H Q E hr=>⟨_,(zah (zao (zg7 rfl (LcOk.of (Nx:=(["text"]:List Str)) (sc:=zae zdz) (N':=(["number", "row"]:List Str)) (nt:=2) (cs:=[]) rfl rfl (by decide +kernel)) (zbc (pcX Zg6 hr Z.Zdy (zaa (pv 0) zad))) (fun _ _ _ _=>(show PG _ _ (gTup K 2 _) from zru rfl (zc6 (zbk (i:=0) (show Zm9 (["number", "row"]:List Str) by decide +kernel) rfl (Zo6 rfl)) (zc6 (zbk (i:=1) (show Zm9 (["number", "row"]:List Str) by decide +kernel) rfl (Zo6 rfl)) znd)))) (fun _ _ _ _=>zcb) (fun _ _ _ _=>(pcX Zis hr Z.Zcm (zaa (pv 0) (zaa (pv 1) zad))))))),fun G ds ls hp rt=>?_⟩
 obtain⟨rfl,h0,hl,hok⟩:=hp
 have hsp:=zxb hok h0
 have htl:=yed hok hl
 generalize txtR ls=tx at hsp htl
 have hln:∀i (hi:i<ls.length),lnAt tx i=(ls[i]).1:=fun i hi=>by
  unfold lnAt
  rw[hsp,Zlk,Zlx,Zlj hi];rfl
 have hmem:∀i∈zi3 tx,∃x:Rl,lnAt tx i=rowR x/\RuOk x/\(ls.getD i ([],none)).2=some x:=fun i hi=>by
  unfold zi3 at hi
  obtain⟨h1,h2⟩:=Zns.mp hi
  rw[Zm3,hsp,Zlm] at h1
  rw[hln i h1] at h2 ⊢
  have ho:=hok _ (Znl h1)
  rw[Zlk,Zlj h1]
  show ∃x:Rl,ls[i].1=rowR x/\RuOk x/\ls[i].2=some x
  obtain⟨_,_,ho⟩:=ho
  cases e:ls[i].2 with
  | none =>
   rw[e] at ho
   have ho:zhl ls[i].1=true:=ho
   rw[ho] at h2;cases h2
  | some x =>
   rw[e] at ho
   have ho:ls[i].1=rowR x/\RuOk x:=ho
   exact⟨x,ho.1,ho.2,rfl⟩
 let rw':Nat->Rl:=fun i=>((ls.getD i ([],none)).2).getD (0,[],0)
 have hfs:(zi3 tx).map (fun i=>rw' i)=zex ls:=by
  have key:∀(ms:List LnR) (off:Nat),(∀p∈ms,ybt p)->(∀j,j<ms.length->ls[off+j]? = ms[j]?)->off+ms.length=ls.length->((Zso off ms.length).filter fun i=>!zhl (lnAt tx i)).map (fun i=>rw' i)=zex ms:=by
   intro ms
   induction ms with
   | nil=>intro off _ _ _;rfl
   | cons p ms ih =>
    intro off hms hat hlen
    have h1:=ih (off+1) (fun q hq=>hms q (Zlp _ hq)) (fun j hj=>by rw[show off+1+j=off+(j+1) by omega,hat (j+1) (by simpa using hj)];rfl) (by simp at hlen ⊢;omega)
    have hp:=hms p Zls
    have hat0:ls[off]? = some p:=by have:=hat 0 (by simp);simpa using this
    have hoff:off<ls.length:=(Zlq.mp hat0).1
    have e0:ls[off]=p:=by rw[Zlj hoff] at hat0;exact Zni hat0
    have el:lnAt tx off=p.1:=by rw[hln off hoff,e0]
    have er:rw' off=p.2.getD (0,[],0):=by show((ls.getD off ([],none)).2).getD _=_;rw[Zlk,hat0];rfl
    rw[Zl1,Zsu,Zpx]
    obtain⟨_,_,hp⟩:=hp
    cases e:p.2 with
    | none =>
     rw[e] at hp
     have hp:zhl p.1=true:=hp
     rw[if_neg (by rw[el,hp];decide),h1]
     unfold zex
     rw[Zn9,e]
    | some x =>
     rw[e] at hp
     have hp:p.1=rowR x/\RuOk x:=hp
     rw[if_pos (by rw[el,hp.1,zzu x];rfl),Zl0,h1,er,e]
     unfold zex
     rw[Zn9,e];rfl
  unfold zi3
  rw[hsp,Zlm,Zxd]
  exact key ls 0 hok (fun j hj=>by rw[Zsc]) (by omega)
 have hrl:(zex ls).length<=400:=by
  unfold zex
  have:=Zwg (fun p:LnR=>p.2) ls
  omega
 have htn:(zi3 tx).length<=400:=by rw[<- hfs,Zlm] at hrl;exact hrl
 have rt:RtO K G H Q ((zex ls).map (insR ad0.Zac ad0.Zae ad0.Zad ad0.Zab ad0.Zaa)):=rt
 refine zf2 ?_ rt
 rw[<- hfs,Zm0]
 refine zei (zi3 tx) (numD tx) _ (EvO.l (za0 (pre:=preL) (res:=zoz) (zab (zac rfl) zaf) ⟨tx,rfl,by omega⟩)) (yau (zim (zbo (by decide)) (zim (zbo (by decide)) ztp))) (by decide) (by rw[Zl7];omega) fun i hi=>?_
 obtain⟨x,e1,e2,e3⟩:=hmem i hi
 refine⟨_,zq0 rfl (zc4 zax (zc4 zax znf)),?_⟩
 have er:rw' i=x:=by show((ls.getD i ([],none)).2).getD _=x;rw[e3];rfl
 show Ev _ _ _ _ _ _ (insR ad0.Zac ad0.Zae ad0.Zad ad0.Zab ad0.Zaa (rw' i))
 rw[er]
 exact zdr x (zab (zac rfl) (zab (by rw[<- e1];exact zac rfl) zaf)) ⟨_,rfl,e2⟩
noncomputable def ylu(ds:List D):Prop:=∃b:List Fct,ds=[bkD b]/\b.length<=300
noncomputable def lkD(g:List (D×List D))(k:D):List D:=((g.find? fun q=>decide (q.1=k)).map (·.2)).getD []
theorem ylx(g:List (D×List D))(k d k':D):lkD (appD g k d) k'=if k=k' then lkD g k++[d] else lkD g k':=by
 induction g with
 | nil =>
  rw[appD]
  unfold lkD
  by_cases h:k=k'
  .simp[h]
  .simp[h]
 | cons q g ih =>
  rw[appD]
  by_cases h1:q.1=k
  .rw[if_pos h1]
   unfold lkD
   by_cases h2:k=k'
   .rw[if_pos h2];simp[h1,h2]
   .have:¬ q.1=k':=fun z=>h2 (h1.symm.trans z)
    rw[if_neg h2];simp[this]
  .rw[if_neg h1]
   by_cases h3:q.1=k'
   .have h2:¬ k=k':=fun z=>h1 (h3.trans z.symm)
    rw[if_neg h2]
    unfold lkD;simp[h3]
   .have e1:∀g',lkD (q::g') k'=lkD g' k':=fun g'=>by unfold lkD;simp[h3]
    have e2:lkD (q::g) k=lkD g k:=by unfold lkD;simp[h1]
    rw[e1,e1,e2];exact ih
theorem ye4(g:List (D×List D))(k d:D):(appD g k d).length<=g.length+1:=by
 induction g with
 | nil=>rw[appD];simp
 | cons q g ih =>
  rw[appD]
  split
  .simp
  .simp only[Zl1];omega
theorem ya4{g:List (D×List D)}{k d:D}{n:Nat}(h:∀q∈g,q.2.length<=n):∀q∈appD g k d,q.2.length<=n+1:=by
 induction g with
 | nil =>
  rw[appD]
  intro q hq
  rw[Zlz.mp hq];simp
 | cons a g ih =>
  rw[appD]
  have h1:=h a Zls
  split
  .intro q hq
   rcases Zly.mp hq with rfl | hq
   .simp;omega
   .have:=h q (Zlp _ hq);omega
  .intro q hq
   rcases Zly.mp hq with rfl | hq
   .omega
   .exact ih (fun z hz=>h z (Zlp _ hz)) q hq
noncomputable def fcF(b:List Fct)(x:List Nat):List Fct:=b.filter fun f=>decide (f.1=x)
noncomputable def fbG(b:List Fct):List (D×List D):=b.foldl (fun g f=>appD g (encS f.1) (encF f)) []
theorem zlw(b:List Fct)(f:Fct):fbG (b++[f])=appD (fbG b) (encS f.1) (encF f):=by
 unfold fbG
 rw[Zui];rfl
theorem ym5(b:List Fct)(x:List Nat):lkD (fbG b) (encS x)=(fcF b x).map encF:=by
 unfold fcF
 induction b using zpg with
 | h0=>rfl
 | hs b f ih =>
  rw[zlw,ylx,Zp3]
  by_cases h:f.1=x
  .subst h
   rw[if_pos rfl,ih,Zqu (by simp),Zzk,Znc];rfl
  .rw[if_neg fun z=>h (zu5 _ _ z),ih,Zoe (by simp[h]),Zzk,Zm1]
noncomputable def fbD(b:List Fct):DD:=(fbG b).map fun q=>(q.1,D.lst q.2)
theorem yf2(b:List Fct)(x:List Nat):(valD (fbD b) (encS x)).getD (.lst [])=bkD (fcF b x):=by
 unfold bkD
 rw[<- ym5]
 unfold valD fbD lkD
 rw[List.find?_map]
 show(Ybf _ (Ybf _ (Ycq (fun q:D×List D=>decide (q.1=encS x)) (fbG b)))).getD _=_
 cases Ycq (fun q:D×List D=>decide (q.1=encS x)) (fbG b) <;> rfl
theorem yh3(b:List Fct):(fbG b).length<=b.length:=by
 induction b using zpg with
 | h0=>exact Zlt _
 | hs b f ih =>
  rw[zlw,Zlw,Znf]
  have h1:=ye4 (fbG b) (encS f.1) (encF f)
  omega
theorem yfb(b:List Fct):∀q∈fbG b,q.2.length<=b.length:=by
 induction b using zpg with
 | h0=>intro q hq;cases hq
 | hs b f ih =>
  rw[zlw,Zlw,Znf]
  exact ya4 ih
noncomputable def yiv:List D->D
 | [.lst b]=>D.dic (fbD (b.map unF))
 | _=>.non
theorem zr8(b:List Fct):yiv [bkD b]=D.dic (fbD b):=by
 show D.dic (fbD ((b.map encF).map unF))=_
 rw[zfb]
theorem zkz(Z:Tx K mg ad0):FnOk P w K mg base CX0 1 ad0.Zbz ad0.Zby zcl (SpD K ylu yiv):=by
 refine okD Z.Zcn.F zek (by rintro ds ⟨c,rfl,_⟩;rfl) fun cdv A outer s H Q E hr=>⟨_,(zag (psn 1 zek.nd ydz)
   (zag (zem Zm8 rfl (zbc (pv 0)) (pgn 2 zek.nd) (zah (zel (zdc Zny Zn7 Zoh zcq (zdc F.plainAttrs_dict F.slot_dict_setdefault F.type_dict_setdefault zps (pv 1) (zaa (za7 (show IxR _ (rIxT K) from zdf) (pv 2) zai (fun _ _=>rfl)) (zaa (zco zad) zad))) (zaa (pv 2) zad)))))
   (zah (zao (pv 1))))),fun G ds hp rt=>?_⟩
 obtain⟨b,rfl,hbl⟩:=hp
 rw[zr8] at rt
 have hz:∀{n:Nat},n<=10000->n<sizeLine:=fun h=>by rw[Zl7];omega
 refine zak (yfd fun p=>?_)
 ((try dsimp only);refine zaq ?_)
 refine zak (zit encF b (fun k ss=>∃(kqs:KQ) (v:Sl),ss=[.d (bkD b),dls K p kqs,v]/\kqs.map dat=fbG (b.take k)) (zac rfl) ⟨[],_,rfl,rfl⟩ ?_ ?_)
 .rintro L' k f ss hL hk ⟨kqs,v,rfl,hq⟩
  refine⟨_,zax,fun N hN=>?_⟩
  have et:b.take (k+1)=b.take k++[f]:=by rw[Zob,hk];rfl
  have hkl:=(Zlq.mp hk).1
  have htl:(b.take k).length<=300:=by rw[Znk];omega
  have hgl:=yh3 (b.take k)
  have hgi:=yfb (b.take k)
  have hkq:kqs.length<=(b.take k).length:=by rw[<- hq,Zlm] at hgl;exact hgl
  have hki:∀z∈kqs,z.2.2.length<=(b.take k).length:=fun z hz=>by
   have:dat z∈fbG (b.take k):=by rw[<- hq];exact Znb hz
   exact hgi _ this
  refine yis (i:=1) (k:=encS f.1) (d:=encF f) rfl (zdg (zac rfl) zaj.b rfl).b rfl (fun kqs'=>zac rfl) (hz (by omega)) (fun z hzm=>hz (by have:=hki z hzm;omega)) fun kq1 he1=>hN _ ⟨kq1,_,rfl,?_⟩
  rw[he1,hq,et,zlw]
 rintro ss ⟨kqs,v,rfl,hq⟩
 rw[Zpc] at hq
 refine zxv (i:=1) rfl ?_
 refine zw7 (i:=1) rfl ?_
 ((try dsimp only);refine zaq ?_)
 have e:kqs.map frzL=fbD b:=by
  unfold fbD
  rw[<- hq,Zm0];rfl
 rw[<- e] at rt
 exact zaw (zac rfl) rt
noncomputable def wtW(rs:List Rl)(b:List Fct)(x y:List Nat):Int:=totR rs (fcF b x++fcF b y) x y
noncomputable abbrev Wt:=List Nat×List Nat×Int
noncomputable def encW(t:Wt):D:=.tup [.str t.1,.str t.2.1,.int t.2.2]
noncomputable def innW(rs:List Rl)(b:List Fct)(x:List Nat)(ys:List (List Nat)):List Wt:=(ys.filter fun y=>!decide (wtW rs b x y=0)).map fun y=>(x,y,wtW rs b x y)
noncomputable def wtsK(rs:List Rl)(b:List Fct)(cs:List (List Nat))(k:Nat):List Wt:=(Zl6 k).flatMap fun i=>innW rs b (cs.getD i []) (cs.drop (i+1))
theorem zu8(rs:List Rl)(b:List Fct)(x:List Nat)(ys:List (List Nat)):(innW rs b x ys).length<=ys.length:=by unfold innW;rw[Zlm];exact Zoc ..
theorem zvu(rs:List Rl)(b:List Fct)(cs:List (List Nat)):∀k,(wtsK rs b cs k).length<=k*cs.length
 | 0=>by unfold wtsK;simp
 | k+1=>by
  have ih:=zvu rs b cs k
  have h:=zu8 rs b (cs.getD k []) (cs.drop (k+1))
  rw[Zmo] at h
  have e:wtsK rs b cs (k+1)=wtsK rs b cs k++innW rs b (cs.getD k []) (cs.drop (k+1)):=by unfold wtsK;rw[Zo3,Zpu,Zp1]
  rw[e,Zlw,Zx8]
  omega
noncomputable def ymh(c1 c2 c3 c4 c5:Addr)(q:List Rl×List Fct)(ds:List D):Prop:=ds=[.lst (q.1.map (insR c1 c2 c3 c4 c5)),bkD q.2]/\q.1.length<=20/\(∀r∈q.1,r.1<5 /\ ∀c∈fEf r,c<128)/\(q.2.length<=14 /\ ∀g∈q.2,g.2.2.length<=15)/\(ded (nmD q.2)).length<64
noncomputable def yez(q:List Rl×List Fct):List D:=(wtsK q.1 q.2 (cardsL q.2) (cardsL q.2).length).map encW
theorem ymf(b:List Fct){x y:List Nat}(h:x≠y):(fcF b x++fcF b y).length<=b.length:=by
 unfold fcF
 rw[Zlw]
 induction b with
 | nil=>simp
 | cons f r ih =>
  by_cases h1:f.1=x
  .have h2:¬ f.1=y:=fun z=>h (h1.symm.trans z)
   rw[Zqu (by simp[h1]),Zoe (by simp[h2]),Zl1,Zl1];omega
  .by_cases h2:f.1=y
   .rw[Zoe (by simp[h1]),Zqu (by simp[h2]),Zl1,Zl1];omega
   .rw[Zoe (by simp[h1]),Zoe (by simp[h2]),Zl1];omega
theorem ycw{α:Type}{xs:List α}(h:xs.Nodup){k j:Nat}{x y:α}(hk:xs[k]? = some x)(hj:(xs.drop (k+1))[j]? = some y):x≠y:=fun e=>by
 rw[Zp2] at hj
 subst e
 exact zxh h hj (Zlv (i:=k) (by rw[Zwi (by omega)];exact hk))
theorem zp3(Z:Tx K mg ad0):FnOk P w K mg base CX0 7 ad0.Zcv ad0.Zc8 zd2 (SpGO K (ymh ad0.Zac ad0.Zae ad0.Zad ad0.Zab ad0.Zaa) yez):=by
 have Zk1:=ztm (P:=P) (w:=w) (base:=base) Z
 have Zit:=zkz (P:=P) (w:=w) (base:=base) Z
 have Zke:=zqx (P:=P) (w:=w) (base:=base) Z
 refine okGO Z.Zfj.F zbz (by rintro q ds ⟨rfl,_⟩;rfl) fun cdv A outer s H Q E hr=>⟨_,(zag (psn 2 zbz.nd (pcX Zk1 hr Z.Zgs (zaa (pv 1) zad)))
   (zag (psn 3 zbz.nd (pcX Zit hr Z.Zcn (zaa (pv 1) zad)))
   (zag (psn 4 zbz.nd (zco zad))
   (zag (zem Zm8 rfl (zs3 (by rfl) Z.Zga (zaa (pv 2) zad)) (zru rfl (zc6 (pgn 5 zbz.nd) (zc6 (pgn 6 zbz.nd) znd))) (zah (zem Zm8 rfl (zbc (za4 zma (pv 2) (zbf (zau zcd (pv 5) zai)) zbu)) (pgn 7 zbz.nd) (zag (psn 8 zbz.nd (pcX Zke hr Z.Zf4 (zaa (pv 0) (zaa (zau (show OpR _ _ (zxu K) from zos) (zvb (yca hr) (pv 3) (pv 6) (zco zad) ⟨by rfl,by rfl,by rfl,by rfl⟩) (zvb (yca hr) (pv 3) (pv 7) (zco zad) ⟨by rfl,by rfl,by rfl,by rfl⟩)) (zaa (pv 6) (zaa (pv 7) zad))))))
   (zah (zcn (zas zo3 (pv 8) zai (zay _)) (zah (zel (zdc Zny Zn7 Zoh zcq (pv 4) (zaa (zhf (zaa (pv 6) (zaa (pv 7) (zaa (pv 8) zad)))) zad)))) za2))))))
   (zah (zao (pv 4))))))),fun G ds q hp rt=>?_⟩
 obtain⟨rs,b⟩:=q
 obtain⟨rfl,hl,hrs,⟨hb,htx⟩,h64⟩:=hp
 have hb:b.length<=14:=hb
 have htx:∀g∈b,g.2.2.length<=15:=htx
 have rt:RtO K G H Q ((wtsK rs b (cardsL b) (cardsL b).length).map encW):=rt
 refine zak (za6 (ds:=(cardsL b).map encS) (by rw[zij,<- znw];exact za0 (pre:=ycm) (res:=yb8) (ds:=[bkD b]) (zab (zac rfl) zaf) ⟨b,rfl,by omega,h64⟩) fun pc=>zbb (i:=2) rfl ?_)
 ((try dsimp only);refine zaq ?_)
 refine zak (zbd (d:=D.dic (fbD b)) (by rw[<- zr8];exact zbn (pre:=ylu) (res:=yiv) (ds:=[bkD b]) (zab (zac rfl) zaf) ⟨b,rfl,by omega⟩) ?_)
 ((try dsimp only);refine zaq ?_)
 have hcl:=zj9 b
 have hnd:=zsf b
 generalize cardsL b=cs at hcl hnd rt
 refine zak (za6 (zbv zaf (small (by decide))) fun p=>?_)
 ((try dsimp only);refine zaq ?_)
 refine zak (yg7 encS cs (fun k ss=>∃v5 v6 v7 v8:Sl,ss=[.d (.lst (rs.map (insR ad0.Zac ad0.Zae ad0.Zad ad0.Zab ad0.Zaa))),.d (bkD b),.d (.lst (cs.map encS)),.d (D.dic (fbD b)),.o p ((wtsK rs b cs k).map encW),v5,v6,v7,v8]) (zac rfl) ⟨.un,.un,.un,.un,rfl⟩ ?_ ?_)
 .rintro L' k x ss hL hk ⟨v5,v6,v7,v8,rfl⟩
  refine⟨_,zq0 rfl (zc4 zax (zc4 zax znf)),fun N hN=>?_⟩
  have hkl:=(Zlq.mp hk).1
  have hwl:=zvu rs b cs k
  have hwb:(wtsK rs b cs k).length<=14400:=Znm hwl (Zwe (show k<=120 by omega) (show cs.length<=120 by omega))
  have hdl:(cs.drop (k+1)).length<=120:=by rw[Zmo];omega
  have ec:cutD (cs.map encS) (some ((k:Int)+1)) none=(cs.drop (k+1)).map encS:=by rw[zri _ (by omega),show((k:Int)+1).toNat=k+1 by omega,Yak]
  have ek:wtsK rs b cs (k+1)=wtsK rs b cs k++innW rs b x (cs.drop (k+1)):=by
   unfold wtsK
   rw[Zo3,Zpu,Zp1,Zlk,hk];rfl
  refine zit encS (cs.drop (k+1)) (fun j ss=>∃v7 v8:Sl,ss=[.d (.lst (rs.map (insR ad0.Zac ad0.Zae ad0.Zad ad0.Zab ad0.Zaa))),.d (bkD b),.d (.lst (cs.map encS)),.d (D.dic (fbD b)),.o p ((wtsK rs b cs k++innW rs b x ((cs.drop (k+1)).take j)).map encW),.d (.int k),.d (encS x),v7,v8]) (by rw[<- ec];exact EvO.ev (zmq (zac rfl).l (zba (zcg (zac rfl).b zaj.b).b) zdx)) ⟨v7,v8,by rw[Zz0,show innW rs b x []=[] from rfl,Zm1];rfl⟩ ?_ ?_
  .rintro L2 j y ss hL2 hj ⟨v7,v8,rfl⟩
   refine⟨_,zax,fun N2 hN2=>?_⟩
   have hne:=ycw hnd hk hj
   have hfl:=ymf b hne
   rw[Zlw] at hfl
   have hil:=zu8 rs b x ((cs.drop (k+1)).take j)
   rw[Znk] at hil
   have ei:innW rs b x ((cs.drop (k+1)).take (j+1))=innW rs b x ((cs.drop (k+1)).take j)++(if wtW rs b x y=0 then [] else [(x,y,wtW rs b x y)]):=by
    unfold innW
    rw[Zob,hj,Zp3,Znc]
    congr 1
    by_cases h:wtW rs b x y=0 <;> simp[h]
   have em:(fcF b x++fcF b y).map encF=(fcF b x).map encF++(fcF b y).map encF:=Znc ..
   have lf:∀z,((fcF b z).map encF).length=(fcF b z).length:=fun z=>Zlm ..
   refine zak (zbd (d:=.int (wtW rs b x y)) (zdr (pre:=yl9 ad0.Zac ad0.Zae ad0.Zad ad0.Zab ad0.Zaa) (res:=ymn) (rs,fcF b x++fcF b y,x,y) (ds:=[.lst (rs.map (insR ad0.Zac ad0.Zae ad0.Zad ad0.Zab ad0.Zaa)),bkD (fcF b x++fcF b y),encS x,encS y]) (zab (zac rfl) (zab (EvO.ev (by
    show EvO _ _ _ _ _ _ ((fcF b x++fcF b y).map encF)
    rw[em]
    refine zor (da:=(fcF b x).map encF) (db:=(fcF b y).map encF) (Ev.l ?_) (Ev.l ?_) (by rw[lf x,lf y,Zl7];omega)
    .show Ev _ _ _ _ _ _ (bkD (fcF b x))
     rw[<- yf2];exact zq5 (zac rfl) (zac rfl).b (EvO.ev (zbv zaf (by decide))) rfl
    .show Ev _ _ _ _ _ _ (bkD (fcF b y))
     rw[<- yf2];exact zq5 (zac rfl) (zac rfl).b (EvO.ev (zbv zaf (by decide))) rfl)) (zab (zac rfl) (zab (zac rfl) zaf)))) ⟨rfl,hl,hrs,by show(fcF b x++fcF b y).length<=14;rw[Zlw];omega,fun g hg=>htx g ((Zme.mp hg).elim (fun z=>(Zns.mp z).1) fun z=>(Zns.mp z).1)⟩) ?_)
   ((try dsimp only);refine zaq ?_)
   refine zcj (zan (zux (zac rfl).b zaj.b)) (fun h=>?_) (fun h=>?_)
   .have h0:¬ wtW rs b x y=0:=by simpa using h
    rw[if_neg h0] at ei
    refine zd8 (d:=encW (x,y,wtW rs b x y)) rfl (zhv (zab (zac rfl) (zab (zac rfl) (zab (zac rfl) zaf))) (small (by simp))) (by rw[Zl7,Zlm,Zlw];omega) (hN2 _ ⟨.d (encS y),.d (.int (wtW rs b x y)),?_⟩)
    rw[ei,<- Zpn,Znc (l₂:=[_])];rfl
   .have h0:wtW rs b x y=0:=by simpa using h
    rw[if_pos h0,Zm1] at ei
    refine za3 (hN2 _ ⟨.d (encS y),.d (.int (wtW rs b x y)),?_⟩)
    rw[ei];rfl
  rintro ss ⟨v7,v8,rfl⟩
  rw[Zpc,<- ek]
  exact hN _ ⟨_,_,_,_,rfl⟩
 rintro ss ⟨v5,v6,v7,v8,rfl⟩
 ((try dsimp only);refine zaq ?_)
 exact zi4 (i:=4) rfl rt
noncomputable abbrev bmod:Int:=4
theorem zrm(Z:Tx K mg ad0):FnOk P w K mg base CX0 1 ad0.Zdz ad0.Zem zff (SpD K (fun ds=>∃c:Int,ds=[.int c]) fun _=>.bl true):=by
 refine okD Z.Zf6.F zrt (by rintro ds ⟨c,rfl⟩;rfl) fun cdv A outer s H Q E hr=>⟨_,(zah (zao (zm2 (zar zk7 (by rfl) Z.Zb3 Ztz (zaa (pv 0) (zaa (zo4 (v:=.ty "int") (by rfl) Z.Zh2 Yac rfl) zad))) (zku (ycb (zar zj2 (by rfl) Z.Zb3 Ztz (zaa (pv 0) (zaa (zo4 (v:=.ty "bool") (by rfl) Z.Zj4 boot_bool rfl) zad)))))))),fun G ds hp rt=>?_⟩
 obtain⟨c,rfl⟩:=hp
 exact zaw (znb (ylb (zac rfl).b) fun _=>ybo (yhb (zac rfl).b)) rt
noncomputable def sg71:List Nat:=[97,98,99,100,101,102,103,104,105,106,107,108,109,110,111,112,113,114,115,116,117,118,119,120,121,122,65,66,67,68,69,70,71,72,73,74,75,76,77,78,79,80,81,82,83,84,85,86,87,88,89,90,48,49,50,51,52,53,54,55,56,57,46,45,39,35,126,64,91,96,123]
theorem zlp:sg71.length=71:=by decide +kernel
theorem yib:∀c∈sg71,c<128:=by decide +kernel
noncomputable def sgn(x:Int):Nat:=sg71.getD (x % 71).toNat 0
theorem yj4(x:Int):atI sg71 (x % 71)=some (sgn x):=zpk sg71 0 x (by rw[zlp];rfl) (by decide)
noncomputable def bsz(d:Int):Int:=num d 2 % bmod
theorem ztn(d:Int):0<=bsz d/\bsz d<=3:=by unfold bsz bmod;omega
noncomputable def tx0(d:Int):List Nat:=(Zl6 (1+bsz d).toNat).map fun i=>sgn (num d (i+3))
theorem yby(d:Int):(tx0 d).length=(1+bsz d).toNat:=by unfold tx0;simp
noncomputable def tx1(d:Int):List Nat:=if num d 2 / 9 % 3=1 then cutL (tx0 d) none (some 3)++[32]++cutL (tx0 d) (some 3) none++[98] else tx0 d
theorem zug(d:Int):1<=(tx1 d).length/\(tx1 d).length<=6:=by
 have h0:=yby d
 have h1:=ztn d
 unfold tx1
 split
 .rw[zm9 _ (by decide),zf9 _ (by decide)]
  simp only[Zlw,Znf,Znk,Zmo];omega
 .omega
theorem ye8(d:Int):cutD (zcp d 10) (some 1) (some (2+bsz d))=(Zl6 (1+bsz d).toNat).map fun i=>.int (num d (i+3)):=by
 have h:=ztn d
 rw[zpa _ (by decide) (by omega)]
 unfold zcp
 refine Zom fun i=>?_
 rw[Zr9]
 by_cases hi:i<(1+bsz d).toNat
 .rw[if_pos (by omega),Zp2,Zlx,Zlx,Zn8 (by omega),Zn8 hi]
  show some (D.int (num d (1+i+2)))=some (D.int (num d (i+3)))
  rw[show 1+i+2=i+3 by omega]
 .rw[if_neg (by omega),Zms (by simp;omega)]
noncomputable def tat(d m:Int):Int:=m / 10 % (tx1 d).length
theorem yit(d m:Int):0<=tat d m/\tat d m<(tx1 d).length:=by
 have h:=zug d
 exact⟨Znd _ (by omega),Zmp _ (by omega)⟩
noncomputable def zka(t:List Nat)(a:Int)(s:Nat):List (List Nat):=[t,t,t.map up1,t.map lo1,cutL t none (some a)++[s]++cutL t (some (a+1)) none,cutL t none (some a)++[s]++cutL t (some a) none,
 cutL t none (some a)++cutL t (some (a+1)) none,Zqf 32 t,t,(cutL t none (some a)).map up1++cutL t (some a) none]
theorem zzi{t:List Nat}{a:Int}{s:Nat}(h:t.length<=6):∀l∈zka t a s,l.length<=15:=by
 have h1:=zfe t none (some a)
 have h2:=zfe t (some a) none
 have h3:=zfe t (some (a+1)) none
 have h4:=zus 32 t
 intro l hl
 unfold zka at hl
 simp only[Zly,Zno,or_false] at hl
 rcases hl with rfl | rfl | rfl | rfl | rfl | rfl | rfl | rfl | rfl | rfl <;> (try simp only[Zlw,Zlm,Znf,Zl1,Zm6]) <;> omega
theorem yd6(p:Nat->Bool)(l:List Nat):(stripL p l).length<=l.length:=by
 unfold stripL
 rw[Zxq]
 have h1:=(Zo5 p (l:=(l.dropWhile p).reverse)).length_le
 have h2:=(Zo5 p (l:=l)).length_le
 rw[Zxq] at h1
 omega
noncomputable def zn0(d m:Int):List Nat:=(zka (tx1 d) (tat d m) (sgn (m / 400))).getD (m % 10).toNat []
noncomputable def yjf(d m:Int):List Nat:=stripL [32].contains (zn0 d m)
noncomputable def bentL(d m:Int):List Nat:=if yjf d m=[] then [126] else yjf d m
theorem ykq(xs:List (List Nat))(m:Int)(h:xs.length=10):atI (xs.map D.str) (m % 10)=some (.str (xs.getD (m % 10).toNat [])):=by
 have h1:=Znd m (show(10:Int)≠0 by decide)
 have h2:=Zmp m (show(0:Int)<10 by decide)
 have:=zix (xs:=xs.map D.str) (j:=(m % 10).toNat) (v:=.str (xs.getD (m % 10).toNat [])) (by rw[Zlx,Zlk,Zlj (by omega)];rfl)
 rw[show(((m % 10).toNat:Nat):Int)=m % 10 by omega] at this
 exact this
theorem zvq(d m:Int):(zn0 d m).length<=15:=by
 have h:=zug d
 unfold zn0
 rw[Zlk]
 cases e:(zka (tx1 d) (tat d m) (sgn (m / 400)))[(m % 10).toNat]? with
 | none=>simp
 | some l=>exact zzi h.2 l (Zlv e)
theorem zv4(d m:Int):(bentL d m).length<=15:=by
 unfold bentL
 split
 .simp
 .have:=yd6 [32].contains (zn0 d m)
  have:=zvq d m
  unfold yjf;omega
noncomputable def ylg(ds:List D):Prop:=∃d m:Int,ds=[.int d,.int m]
noncomputable def yml:List D->D
 | [.int d,.int m]=>.str (bentL d m)
 | _=>.non
theorem zt1(Z:Tx K mg ad0):FnOk P w K mg base CX0 2 ad0.Zfq ad0.Zfp zf4 (SpD K ylg yml):=by
 have Zbp:=zes (P:=P) (w:=w) (base:=base) Z
 refine okD Z.Zgt.F zb3 (by rintro ds ⟨c,m,rfl⟩;rfl) fun cdv A outer s H Q E hr=>⟨_,(ycr (yi2 (i:=2) zb3.nd rfl (Zy2 rfl))
   (zgf (psn 3 zb3.nd (pcX Zbp hr Z.Zbq (zaa (pv 0) (zaa zai zad))))
   (zgf (psn 4 zb3.nd (zdc Zmm Zpr Zpq zi7 zap (zaa (zg7 rfl (LcOk.of (Nx:=(["_law_draw", "_law_more", "_law_signs", "_law_draws", "_law_text", "_law_at", "_law_sign", "_law_some"]:List Str)) (sc:=zae zf5) (N':=(["_law_one", "_law_signs"]:List Str)) (nt:=1) (cs:=[2]) rfl rfl (by decide +kernel)) (zbc (za4 zma (pv 3) (zbf zai) (zbf (zau zcd zai (zau zb7 (za7 (show IxR _ (rIxL K) from zaz) (pv 3) zai (fun _ _=>rfl)) zai))))) (fun _ _ _ _=>(zbk (i:=0) (show Zm9 (["_law_one", "_law_signs"]:List Str) by decide +kernel) rfl (Zo6 rfl))) (fun _ _ _ _=>zcb) (fun _ _ _ _=>(za7 znc (pv 1) (zau zb7 (pv 0) zai) (fun _ _=>rfl)))) zad)))
   (zgf (zcn (zas zdd (zau zb7 (zau zeh (za7 (show IxR _ (rIxL K) from zaz) (pv 3) zai (fun _ _=>rfl)) zai) zai) zai (zay _)) (zah (psn 4 zb3.nd (zau zb6 (zau zb6 (zau zb6 (za4 zcv (pv 4) zbu (zbf zai)) zap) (za4 zcv (pv 4) (zbf zai) zbu)) zap))) za2)
   (zgf (psn 5 zb3.nd (zau zb7 (zau zeh (pv 1) zai) (zar zbm (by rfl) Z.Zbj Zps (zaa (pv 4) zad))))
   (zgf (psn 6 zb3.nd (za7 znc (pv 2) (zau zb7 (zau zeh (pv 1) zai) zai) (fun _ _=>rfl)))
   (zgf (psn 7 zb3.nd (zco (zaa (pv 4) (zaa (pv 4) (zaa (zol Zmm Yap Yao zwl (pv 4)) (zaa (zol Zmm Zvv Zvt zql (pv 4)) (zaa (zau zb6 (zau zb6 (za4 zcv (pv 4) zbu (zbf (pv 5))) (pv 6)) (za4 zcv (pv 4) (zbf (zau zcd (pv 5) zai)) zbu)) (zaa (zau zb6 (zau zb6 (za4 zcv (pv 4) zbu (zbf (pv 5))) (pv 6)) (za4 zcv (pv 4) (zbf (pv 5)) zbu)) zad))))))))
   (yad (yg8 (i:=7) zb3.nd rfl (Zo6 rfl) (ylh (show OpR _ _ (zxu K) from zos) (pv 7) (yi4 (yep (zau zb6 (za4 zcv (pv 4) zbu (zbf (pv 5))) (za4 zcv (pv 4) (zbf (zau zcd (pv 5) zai)) zbu)) (yew (yey (pv 4) (by decide +kernel) (by decide +kernel)) (zaa (pv 4) (zaa (zau zb6 (zol Zmm Yap Yao zwl (za4 zcv (pv 4) zbu (zbf (pv 5)))) (za4 zcv (pv 4) (zbf (pv 5)) zbu)) zad)))))))
   (zag (psn 4 zb3.nd (zdc Zmm Zvu Zvs zmj (za7 (show IxR _ (rIxL K) from zaz) (pv 7) (zau zb7 (pv 1) zai) (fun _ _=>rfl)) (zaa zap zad)))
   (zag (zcn (zas zdd (pv 4) zap (zay _)) (zah (zao zap)) za2)
   (zah (zao (pv 4))))))))))))),fun G ds hp rt=>?_⟩
 obtain⟨d,m,rfl⟩:=hp
 have rt:RtD K G H Q (.str (bentL d m)):=rt
 have hb:=ztn d
 refine zak (zbd (d:=.str sg71) (za5 (l:=sg71) (by decide +kernel) yib) ?_)
 ((try dsimp only);refine zaq ?_)
 refine zak (za6 (ds:=zcp d 10) (za0 (pre:=zhy) (res:=zf8) (zab (zac rfl) (zab zaj zaf)) ⟨d,10,rfl,by decide,by decide⟩) fun p=>zbb (i:=3) rfl ?_)
 ((try dsimp only);refine zaq ?_)
 refine zak (zbd (d:=.str (tx0 d)) ?_ ?_)
 .unfold tx0
  rw[<- zwu]
  refine zwv (xs:=Zl6 (1+bsz d).toNat) (z:=[]) (g:=fun i=>[sgn (num d (i+3))]) ?a (EvO.l ?b) ?c
  case a=>exact(za5 (by decide +kernel) (by decide)).b
  case b =>
   refine zei (Zl6 (1+bsz d).toNat) (fun i=>.int (num d (i+3))) _ ?b1 (zbo (by decide)) (by decide) ?b2 ?b3
   case b1 =>
    rw[<- ye8]
    exact EvO.l (zmq (zac rfl).l (zba zaj.b) (zba (zcg zaj.b (zb9 (zbs (zac rfl).l zaj.b (zc2 d 10 0 (by decide))).b zaj.b (by decide)).b).b))
   case b2=>rw[Zm2,Zl7];omega
   case b3 =>
    intro i hi
    exact⟨_,zax,zmf (zac rfl).b (zb9 (zac rfl).b zaj.b (by decide)).b (small (by rw[zlp];decide)) (yj4 _)⟩
  case c =>
   simp only[Zm0,Zm2,Zm6,Yb6,Yb9]
   rw[show(Zm7∘fun i=>[sgn (num d (i+3))])=fun _=>1 from rfl,Zzi,Zwz,Zm2];omega
 ((try dsimp only);refine zaq ?_)
 have l0:=yby d
 have hc1:=zfe (tx0 d) none (some 3)
 have hc2:=zfe (tx0 d) (some 3) none
 refine zhu (fun ss=>ss=[.d (.int d),.d (.int m),.d (.str sg71),.d (.lst (zcp d 10)),.d (.str (tx1 d)),.un,.un,.un]) (fun N hN=>zcj (zan (zvh (zb9 (zec (zbs (zac rfl).l zaj.b (zc2 d 10 0 (by decide))).b zaj.b ⟨by decide,by decide⟩).b zaj.b (by decide)).b zaj.b)) (fun hb=>zbd (d:=.str (cutL (tx0 d) none (some 3)++[32]++cutL (tx0 d) (some 3) none++[98])) (zfh (zfh (zfh (zfm (zac rfl).b zdx (zba zaj.b) (small (by omega))).b (za5 (l:=[32]) (by decide +kernel) (by decide)).b (small (by simp;omega))).b (zfm (zac rfl).b (zba zaj.b) zdx (small (by omega))).b (small (by simp;omega))).b (za5 (l:=[98]) (by decide +kernel) (by decide)).b (small (by simp;omega))) (hN _ ?_)) (fun hb=>za3 (hN _ ?_))) ?_
 .unfold tx1
  rw[if_pos (of_decide_eq_true hb)];rfl
 .unfold tx1
  rw[if_neg (of_decide_eq_false hb)];rfl
 rintro ss rfl
 have ht:=zug d
 have ha:=yit d m
 refine zak (zbd (d:=.int (tat d m)) (zb9 (zec (zac rfl).b zaj.b ⟨by decide,by decide⟩).b (zft (zac rfl).b (small (by omega))).b (by omega)) ?_)
 ((try dsimp only);refine zaq ?_)
 refine zak (zbd (d:=.str [sgn (m / 400)]) (zmf (zac rfl).b (zb9 (zec (zac rfl).b zaj.b ⟨by decide,by decide⟩).b zaj.b (by decide)).b (small (by rw[zlp];decide)) (yj4 _)) ?_)
 ((try dsimp only);refine zaq ?_)
 have eb:bentL d m=if stripL [32].contains ((zka (tx1 d) (tat d m) (sgn (m / 400))).getD (m % 10).toNat [])=[] then [126] else stripL [32].contains ((zka (tx1 d) (tat d m) (sgn (m / 400))).getD (m % 10).toNat []):=rfl
 have hpl:=zvq d m
 unfold zn0 at hpl
 rw[eb] at rt
 generalize tx1 d=t at ht ha rt hpl
 generalize tat d m=a at ha rt hpl
 generalize sgn (m / 400)=sg at rt hpl
 have h1:=zfe t none (some a)
 have h2:=zfe t (some a) none
 have h3:=zfe t (some (a+1)) none
 have z:∀{n:Nat},n<=1000->n<=sizeLine:=fun h=>small h
 have sl1:∀{L0:Hp} {ss:List Sl},ss[4]? = some (.d (.str t))->ss[5]? = some (.d (.int a))->Ev K G H L0 ss (tSl rSlS (tVar 4) zm4 (yb3 (tVar 5))) (.str (cutL t none (some a))):=fun e1 e2=>zfm (zac e1).b zdx (zba (zac e2).b) (z (by omega))
 have sl2:∀{L0:Hp} {ss:List Sl},ss[4]? = some (.d (.str t))->ss[5]? = some (.d (.int a))->Ev K G H L0 ss (tSl rSlS (tVar 4) (yb3 (tVar 5)) zm4) (.str (cutL t (some a) none)):=fun e1 e2=>zfm (zac e1).b (zba (zac e2).b) zdx (z (by omega))
 have sl3:∀{L0:Hp} {ss:List Sl},ss[4]? = some (.d (.str t))->ss[5]? = some (.d (.int a))->Ev K G H L0 ss (tSl rSlS (tVar 4) (yb3 (tOp (rI0 fun i j=>.int (i+j)) (tVar 5) (tC (.int 1)))) zm4) (.str (cutL t (some (a+1)) none)):=fun e1 e2=>zfm (zac e1).b (zba (zcg (zac e2).b zaj.b).b) zdx (z (by omega))
 refine zak (za6 (ds:=[t,t,t.map up1,t.map lo1,cutL t none (some a)++[sg]++cutL t (some (a+1)) none,cutL t none (some a)++[sg]++cutL t (some a) none].map D.str) (zbv (zab (zac rfl) (zab (zac rfl) (zab (zsd (zac rfl).b (by omega)) (zab (zqd (zac rfl).b (by omega)) (zab (zfh (zfh (sl1 rfl rfl).b (zac rfl).b (z (by first | omega | (simp;omega)))).b (sl3 rfl rfl).b (z (by first | omega | (simp;omega)))) (zab (zfh (zfh (sl1 rfl rfl).b (zac rfl).b (z (by first | omega | (simp;omega)))).b (sl2 rfl rfl).b (z (by first | omega | (simp;omega)))) zaf)))))) (z (by simp))) fun p1=>?_)
 ((try dsimp only);refine zaq ?_)
 have hdl:=zus 32 t
 refine zak (za6 (ds:=[t,t,t.map up1,t.map lo1,cutL t none (some a)++[sg]++cutL t (some (a+1)) none,cutL t none (some a)++[sg]++cutL t (some a) none].map D.str++[cutL t none (some a)++cutL t (some (a+1)) none,Zqf 32 t,t,(cutL t none (some a)).map up1++cutL t (some a) none].map D.str) (zor (zef rfl) (EvO.l (zbv (zab (zfh (sl1 rfl rfl).b (sl3 rfl rfl).b (z (by first | omega | (simp;omega)))) (zab (yhw (by decide +kernel) (by decide +kernel) (zac rfl).b (by omega)) (zab (zac rfl) (zab (zfh (zsd (sl1 rfl rfl).b (by omega)).b (sl2 rfl rfl).b (z (by first | omega | (simp;omega)))) zaf)))) (z (by simp)))) (z (by simp))) fun p2=>?_)
 ((try dsimp only);refine zaq ?_)
 refine zak (zbd (d:=.str (stripL [32].contains ((zka t a sg).getD (m % 10).toNat []))) (zpl (zbs (zef (ds:=(zka t a sg).map D.str) rfl) (zb9 (zac rfl).b zaj.b (by decide)).b (ykq (zka t a sg) m rfl)).b (za5 (l:=[32]) (by decide +kernel) (by decide)).b (z (by omega))) ?_)
 ((try dsimp only);refine zaq ?_)
 generalize stripL [32].contains ((zka t a sg).getD (m % 10).toNat [])=r at rt
 refine zak (zcj (zan (zcy (l:=r) (m:=[]) (zac rfl).b (za5 (l:=[]) (by decide +kernel) (by decide)).b)) (fun hb=>?_) (fun hb=>za3 ?_))
 .rw[if_pos (of_decide_eq_true hb)] at rt
  exact zaw (za5 (l:=[126]) (by decide +kernel) (by decide)) rt
 ((try dsimp only);refine zaq ?_)
 rw[if_neg (of_decide_eq_false hb)] at rt
 exact zaw (zac rfl) rt
theorem ym3(c:Nat):(lo1 c != 32)=(c != 32):=by
 unfold lo1
 split
 .rename_i h
  have:65<=c/\c<=90:=by simpa using h
  rw[bne_iff_ne.mpr (by omega),bne_iff_ne.mpr (by omega)]
 .rfl
theorem zrx(f:Nat->Nat)(z:Nat)(hf:∀c,(f c != z)=(c != z)):∀(n:Nat) (l:List Nat),za1 z n (l.map f)=(za1 z n l).map (Yal f)
 | 0,l=>rfl
 | n+1,l=>by
  have hp:((· != z)∘f)=(· != z):=funext hf
  rw[za1,za1,List.takeWhile_map,List.dropWhile_map,hp]
  cases h:l.dropWhile (· != z) with
  | nil=>rfl
  | cons x b =>
   show(l.takeWhile (· != z)).map f::za1 z n (b.map f)=_
   rw[zrx f z hf n b];rfl
theorem zwj(f:Nat->Nat)(z:Nat)(hz:f z=z):∀ls:List (List Nat),glue [z] (ls.map (Yal f))=(glue [z] ls).map f
 | []=>rfl
 | [x]=>rfl
 | x::y::r=>by
  have ih:=zwj f z hz (y::r)
  rw[Zl0,Zl0,glue,glue,Znc,Znc,<- ih]
  show _++[z]++_=_++[f z]++_
  rw[hz];rfl
theorem yks(l:List Nat):(glue [32] ((zbg 32 l).filter fun p=>!decide (p=[]))).map lo1=plF l:=by
 unfold plF zbg
 rw[zrx lo1 32 ym3,Zlm,Zzl]
 rw[<- zwj lo1 32 (by decide)]
 congr 2
 refine Zym fun p _=>?_
 show(!decide (p=[]))= !decide (p.map lo1=[])
 cases p <;> simp
noncomputable def zoc:List (List Nat):=[("name" : Str).cps.toList,("former" : Str).cps.toList,("way" : Str).cps.toList,("day" : Str).cps.toList,("mark" : Str).cps.toList]
noncomputable def fldL(c d:Int):List Nat:=zoc.getD ((c+d % 2*(d / 2)) % 5).toNat []
noncomputable def yic(ds:List D):Prop:=∃c d:Int,ds=[.int c,.int d]
noncomputable def yji:List D->D
 | [.int c,.int d]=>.str (fldL c d)
 | _=>.non
theorem zkw(Z:Tx K mg ad0):FnOk P w K mg base CX0 1 ad0.Zed ad0.Zeo zfd (SpD K yic yji):=by
 refine okD Z.Zd1.F zs5 (by rintro ds ⟨c,d,rfl⟩;rfl) fun cdv A outer s H Q E hr=>⟨_,(zah (zao (za7 (show IxR _ (rIxL K) from zaz) (zco (zaa zap (zaa zap (zaa zap (zaa zap (zaa zap zad)))))) (zau zb7 (zau zcd (pv 0) (zau zqz (zau zb7 (pv 1) zai) (zau zeh (pv 1) zai))) zai) (fun _ _=>rfl)))),fun G ds hp rt=>?_⟩
 obtain⟨c,d,rfl⟩:=hp
 have rt:RtD K G H Q (.str (fldL c d)):=rt
 have hat:=zpk (zoc.map D.str) .non (c+d % 2*(d / 2)) (n:=5) rfl (by decide)
 have e:(zoc.map D.str).getD ((c+d % 2*(d / 2)) % 5).toNat .non= .str (fldL c d):=by
  unfold fldL
  rw[Zlk,Zlk,Zlx,Zlj (show((c+d % 2*(d / 2)) % 5).toNat<zoc.length by show _<5;omega)]
  rfl
 rw[e] at hat
 exact zaw (zbs (ds:=zoc.map D.str) (EvO.l (zbv (zab (zby (by decide)) (zab (zby (by decide)) (zab (zby (by decide)) (zab (zby (by decide)) (zab (zby (by decide)) zaf))))) (small (by decide)))) (zb9 (zcg (zac rfl).b (zsk (zb9 (zac rfl).b zaj.b (by decide)).b (zec (zac rfl).b zaj.b ⟨by decide,by decide⟩).b (.inl ⟨by omega,by omega⟩)).b).b zaj.b (by decide)).b hat) rt
noncomputable def yfn:List D->List D
 | [.lst b,.str c,.str f]=>(txF (b.map unF) c f).map encS
 | _=>[]
theorem zs6(b:List Fct)(c f:List Nat):yfn [bkD b,encS c,encS f]=(txF b c f).map encS:=by
 show(txF ((b.map encF).map unF) c f).map encS=_
 rw[zfb]
theorem zrc(Z:Tx K mg ad0):FnOk P w K mg base CX0 1 ad0.Zea ad0.Zef ze4 (SpO K zjd yfn):=by
 refine okO Z.Zbm.F zra (by rintro ds ⟨c,a,b,rfl,_⟩;rfl) fun cdv A outer s H Q E hr=>⟨_,(zah (zao (zg7 rfl (LcOk.of (Nx:=(["_law_facts_here", "_law_card", "_law_field_here"]:List Str)) (sc:=zae ze2) (N':=(["_law_fact", "_law_card", "_law_field_here"]:List Str)) (nt:=1) (cs:=[1,2]) rfl rfl (by decide +kernel)) (zbc (pv 0)) (fun _ _ _ _=>(zbk (i:=0) (show Zm9 (["_law_fact", "_law_card", "_law_field_here"]:List Str) by decide +kernel) rfl (Zo6 rfl))) (fun _ _ _ _=>(zg1 (PW.pt (zir (zas zdd (za7 (show IxR _ (rIxT K) from zdf) (pv 0) zai (fun _ _=>rfl)) (pv 1) (zay _)) (zgq (zas zdd (za7 (show IxR _ (rIxT K) from zdf) (pv 0) zai (fun _ _=>rfl)) (pv 2) (zay _))))))) (fun _ _ _ _=>(za7 (show IxR _ (rIxT K) from zdf) (pv 0) zai (fun _ _=>rfl)))))),fun G ds hp rt=>?_⟩
 obtain⟨b,c,f,rfl,hb⟩:=hp
 rw[zs6,ymd (K:=K)] at rt
 exact zf2 (ziv b encF (fun x=>decide (x.1=c)&&decide (x.2.1=f)) (fun x=>.str x.2.2) (zac rfl).l (zbo (by decide)) (by decide) (by rw[Zl7];omega) fun x hx=>⟨_,zax,ze9 (zan (zcy (zdg (zac rfl) zaj.b rfl).b (zac rfl).b)) fun _=>zan (zcy (zdg (zac rfl) zaj.b rfl).b (zac rfl).b),fun _=>zdg (zac rfl) zaj.b rfl⟩) rt
noncomputable def yi1(ds:List D):Prop:=∃a:List (List Nat),ds=[.lst (a.map encS)]/\a.length<=1000 /\ ∀l∈a,l.length<=900
theorem zo2(Z:Tx K mg ad0):FnOk P w K mg base CX0 1 ad0.Zb6 ad0.Zcy zdt (SpO K yi1 zmb):=by
 refine okO Z.Zde.F zqk (by rintro ds ⟨c,rfl,_⟩;rfl) fun cdv A outer s H Q E hr=>⟨_,(zah (zao (zg7 rfl (LcOk.of (Nx:=(["_law_texts_here"]:List Str)) (sc:=zae zcx) (N':=(["_law_text"]:List Str)) (nt:=1) (cs:=[]) rfl rfl (by decide +kernel)) (zbc (pv 0)) (fun s1 H1 C1 fp1=>(zbk (i:=0) (show Zm9 (["_law_text"]:List Str) by decide +kernel) rfl (Zo6 rfl))) (fun s1 H1 C1 fp1=>zcb) (fun s1 H1 C1 fp1=>(show PE _ _ (tBM0 K "str" zz4 _) from zol Zmm Zvv Zvt zql (show PE _ _ (tBM K "str" (zy5 K) _ _) from zdc Zmm Zpr Zpq (show MtR _ _ (zy5 K) from zi7) zap (zaa (zg7 rfl (LcOk.of (Nx:=(["_law_text"]:List Str)) (sc:=({ kind:=.function,names:=[(".0", .local),("_law_text", .local)],isGenerator:=false,isCoroutine:=false }:Scope)) (N':=(["_law_word"]:List Str)) (nt:=1) (cs:=[]) rfl rfl (by decide +kernel)) (show PI _ _ _ (zuu K _) from zbc (show PE _ _ (tBM K "str" ybx _ _) from zdc Zmm Zoa Zrt zli (pv (X:=lcCx (cxOf CX0 P w K mg base (["_law_texts_here"]:List Str) "_law_plains" (zae zcx) ad0.Zb6 cdv A outer s H E).nox (["_law_text"]:List Str) ({ kind:=.function,names:=[(".0", .local),("_law_text", .local)],isGenerator:=false,isCoroutine:=false }:Scope) s1 H1 C1 fp1) 0) (zaa zap zad))) (fun _ _ _ _=>(zbk (i:=0) (show Zm9 (["_law_word"]:List Str) by decide +kernel) rfl (Zo6 rfl))) (fun _ _ _ _=>(zg1 (zas zo3 (pv 0) zap (zay _)))) (fun _ _ _ _=>(pv 0))) zad))))))),fun G ds hp rt=>?_⟩
 obtain⟨a,rfl,ha,hl⟩:=hp
 rw[zcz,Zm0] at rt
 refine zf2 (zei a encS (fun l=>encS (plF l)) (zac rfl).l (zbo (by decide)) (by decide) (by rw[Zl7];omega) fun l hla=>⟨_,zax,?_⟩) rt
 have hl:=hl l hla
 have h3:((zbg 32 l).map Zm7).sum+(zbg 32 l).length<=l.length+1:=by unfold zbg;exact zjo 32 _ l
 have h2:=zig (fun p=>!decide (p=[])) (zbg 32 l)
 have h4:=zuc 32 ((zbg 32 l).filter fun p=>!decide (p=[]))
 unfold encS
 rw[<- yks]
 exact zqd (zkg (z:=[32]) (ls:=(zbg 32 l).filter fun p=>!decide (p=[])) (za5 (l:=[32]) (by decide +kernel) (by decide)).b (EvO.l (ziv (zbg 32 l) D.str (fun p=>!decide (p=[])) D.str (EvO.l (zih (z:=32) (zac rfl).b (za5 (l:=[32]) (by decide +kernel) (by decide)).b (by rw[Zl7];omega))) (zbo (by decide)) (by decide) (by rw[Zl7];omega) fun p hp=>⟨_,zax,zan (zrg (m:=[]) (zac rfl).b (za5 (l:=[]) (by decide +kernel) (by decide)).b),fun _=>zac rfl⟩)) (by simp only[Znf,Zx7];omega)).b (by omega)
theorem zt4(Z:Tx K mg ad0):FnOk P w K mg base CX0 1 ad0.Zfd ad0.Zff zga (SpD K zq6 zns):=by
 refine okD Z.Zdl.F zt7 (by rintro ds ⟨c,d,rfl,_⟩;rfl) fun cdv A outer s H Q E hr=>⟨_,(zah (zao (zar (zuy rfl) (by rfl) Z.Zjh boot_any (zaa (zg7 rfl (LcOk.of (Nx:=(["_law_mine", "_law_others"]:List Str)) (sc:=zae zf7) (N':=(["_law_text", "_law_others"]:List Str)) (nt:=1) (cs:=[1]) rfl rfl (by decide +kernel)) (zbc (pv 0)) (fun _ _ _ _=>(zbk (i:=0) (show Zm9 (["_law_text", "_law_others"]:List Str) by decide +kernel) rfl (Zo6 rfl))) (fun _ _ _ _=>zcb) (fun _ _ _ _=>(zda (show OpR _ _ (rInD K false) from zqq hr.units) (pv 0) (pv 1) (by with_unfolding_all rfl)))) zad)))),fun G ds hp rt=>?_⟩
 obtain⟨a,b,rfl,hl⟩:=hp
 rw[zfn] at rt
 exact zaw (zy2 (xs:=a) (g:=fun x=>decide (encS x∈b.map encS)) (EvO.l (zei a encS (fun x=>.bl (decide (encS x∈b.map encS))) (zac rfl).l (zbo (by decide)) (by decide) (by rw[Zl7];omega) fun x hx=>⟨_,zax,yk1 (d:=encS x) (zac rfl).b (zac rfl).b rfl (D.nbs_map ya3 b) (by show 0<=60;decide)⟩))) rt
theorem yg1{p q:List Nat}(h:p.length=q.length):near p q=decide (p.drop (cpl p q+1)=q.drop (cpl p q+1)):=by
 have c:=zvj p q
 unfold near
 generalize cpl p q=k at c
 rw[Zmj,zmp,decide_eq_true_eq]
 unfold zp0
 rw[Zn6,Zn6]
 have e1:(p.drop k).length=(q.drop k).length:=by rw[Zmo,Zmo,h]
 constructor
 .rintro(z | z | z | z)
  .have:=congrArg (Yc9 1) z
   rwa [Zn6,Zn6] at this
  .have l:=congrArg Zm7 z
   rw[Zmo,Zmo] at l
   rw[Znj (by omega),Znj (by omega)]
  .have l:=congrArg Zm7 z
   rw[Zmo,Zmo] at l
   rw[Znj (by omega),Znj (by omega)]
  .exact z
 .exact fun z=>.inr (.inr (.inr z))
theorem yg6{p q:List Nat}(h:p.length<q.length):near p q=decide (p.drop (cpl p q)=q.drop (cpl p q+1)):=by
 have c:=zvj p q
 unfold near
 generalize cpl p q=k at c
 rw[Zmj,zmp,decide_eq_true_eq]
 unfold zp0
 rw[Zn6,Zn6]
 constructor
 .rintro(z | z | z | z)
  .have l:=congrArg Zm7 z
   rw[Zmo,Zmo] at l
   omega
  .have l:=congrArg Zm7 z
   rw[Zmo,Zmo] at l
   omega
  .exact z
  .have l:=congrArg Zm7 z
   rw[Zmo,Zmo] at l
   rw[Znj (by omega),Znj (by omega)]
 .exact fun z=>.inr (.inr (.inl z))
noncomputable def yl1(ds:List D):Prop:=∃a b:List Nat,ds=[encS a,encS b]/\a.length<=1000/\b.length<=1000
noncomputable def ylw:List D->D
 | [.str a,.str b]=>.bl (near a b)
 | _=>.non
theorem zyz{l:List Nat}{k:Nat}(h:k<l.length):atI l (k:Int)=some (l.getD k 0):=zix (by rw[Zlj h,Zlk,Zlj h];rfl)
theorem zua(Z:Tx K mg ad0):FnOk P w K mg base CX0 1 ad0.Zfm ad0.Zfa zgb (SpD K yl1 ylw):=by
 refine okD Z.Zgr.F zgr (by rintro ds ⟨c,d,rfl,_⟩;rfl) fun cdv A outer s H Q E hr=>⟨_,(zag (zcn (zas yel (zar zbm (by rfl) Z.Zbj Zps (zaa (pv 0) zad)) (zar zbm (by rfl) Z.Zbj Zps (zaa (pv 1) zad)) (zay _)) (zah (yjx (i:=0) (j:=1) rfl zgr.nd rfl rfl (by decide) rfl rfl (zaa (pv 1) (zaa (pv 0) zad)) rfl)) za2)
   (zag (psn 2 zgr.nd zai)
   (zag (ydj Zm8 (PW.pt (zir (zas ycy (pv 2) (zar zbm (by rfl) Z.Zbj Zps (zaa (pv 0) zad)) (zay _)) (zgq (zas zdd (za7 znc (pv 0) (pv 2) (fun _ _=>rfl)) (za7 znc (pv 1) (pv 2) (fun _ _=>rfl)) (zay _))))) (zah (psn 2 zgr.nd (zau zcd (pv 2) zai))))
   (zag (zcn (zas zdd (zar zbm (by rfl) Z.Zbj Zps (zaa (pv 0) zad)) (zar zbm (by rfl) Z.Zbj Zps (zaa (pv 1) zad)) (zay _)) (zah (zao (zda zdd (za4 zcv (pv 0) (zbf (zau zcd (pv 2) zai)) zbu) (za4 zcv (pv 1) (zbf (zau zcd (pv 2) zai)) zbu) (zay _)))) za2)
   (zah (zao (zda zdd (za4 zcv (pv 0) (zbf (pv 2)) zbu) (za4 zcv (pv 1) (zbf (zau zcd (pv 2) zai)) zbu) (zay _)))))))),fun G ds hp rt=>?_⟩
 obtain⟨a,b,rfl,ha,hb⟩:=hp
 have rt:RtD K G H Q (.bl (near a b)):=rt
 refine zhu (fun ss=>∃p q:List Nat,ss=[.d (encS p),.d (encS q),.un]/\p.length<=q.length/\near p q=near a b/\p.length<=1000/\q.length<=1000) (fun N hN=>zcj (zan (ye0 (zft (zac rfl).b (small ha)).b (zft (zac rfl).b (small hb)).b)) (fun h=>?_) (fun h=>?_)) ?_
 .have h:=of_decide_eq_true h
  exact yjl (zab (zac rfl) (zab (zac rfl) zaf)) (hN _ ⟨b,a,rfl,by omega,ybn _ _,hb,ha⟩)
 .have h:=of_decide_eq_false h
  exact za3 (hN _ ⟨a,b,rfl,by omega,rfl,ha,hb⟩)
 rintro ss ⟨p,q,rfl,hpq,e,hp,hq⟩
 rw[<- e] at rt
 refine zak (zbd (d:=.int 0) zaj ?_)
 ((try dsimp only);refine zaq ?_)
 have zp:p.length<=sizeLine:=small hp
 have zq:q.length<=sizeLine:=small hq
 refine zak (yd4 (fun m ss=>∃k:Nat,ss=[.d (encS p),.d (encS q),.d (.int k)]/\k<=p.length/\p.take k=q.take k/\m=p.length - k) (p.length - 0) ⟨0,rfl,Zmt _,rfl,rfl⟩ ?_)
 rintro m ss ⟨k,rfl,hk,ht,rfl⟩
 refine⟨decide ((k:Int)<(p.length:Int))&&decide ([p.getD k 0]=[q.getD k 0]),ze9 (zan (yjh (zac rfl).b (zft (zac rfl).b zp).b)) fun hb=>?_,fun hb N hN=>?_,fun hb=>?_⟩
 .have hb:=of_decide_eq_true hb
  exact zan (zcy (zmf (zac rfl).b (zac rfl).b zp (zyz (by omega))).b (zmf (zac rfl).b (zac rfl).b zq (zyz (by omega))).b)
 .obtain⟨h1,h2⟩:=Bool.and_eq_true_iff.mp hb
  have h1:=of_decide_eq_true h1
  have h2:=of_decide_eq_true h2
  refine zbd (d:=.int ((k:Int)+1)) (zcg (zac rfl).b zaj.b) (hN (p.length - (k+1)) _ (by omega) ⟨k+1,rfl,by omega,?_,rfl⟩)
  have c1:p[k]? = some (p.getD k 0):=by rw[Zlk,Zlj (by omega)];rfl
  have c2:q[k]? = some (q.getD k 0):=by rw[Zlk,Zlj (by omega)];rfl
  rw[Zob,Zob,ht,c1,c2]
  injection h2 with h2
  rw[h2]
 .have hc:cpl p q=k:=by
   refine yfw k p q ht hk (by omega) ?_
   rcases Bool.and_eq_false_iff.mp hb with h | h
   .have h:=of_decide_eq_false h
    exact .inl (by omega)
   .have h:=of_decide_eq_false h
    by_cases hk2:k<p.length
    .refine .inr fun z=>h ?_
     rw[Zlk,Zlk,z]
    .exact .inl (by omega)
  subst hc
  ((try dsimp only);refine zaq ?_)
  have c1:∀l:List Nat,cutL l (some ((cpl p q:Int)+1)) none=l.drop (cpl p q+1):=fun l=>by rw[zf9 _ (by omega),show((cpl p q:Int)+1).toNat=cpl p q+1 by omega]
  have c2:∀l:List Nat,cutL l (some (cpl p q:Int)) none=l.drop (cpl p q):=fun l=>by rw[zf9 _ (Zuc _),Zqc]
  refine zak (zcj (zan (zvh (zft (zac rfl).b zp).b (zft (zac rfl).b zq).b)) (fun h=>?_) (fun h=>za3 ?_))
  .have h:p.length=q.length:=by have:=of_decide_eq_true h;omega
   rw[yg1 h,<- c1,<- c1] at rt
   exact zaw (zcy (zfm (zac rfl).b (zba (zcg (zac rfl).b zaj.b).b) zdx zp).b (zfm (zac rfl).b (zba (zcg (zac rfl).b zaj.b).b) zdx zq).b) rt
  ((try dsimp only);refine zaq ?_)
  have h:p.length<q.length:=by have:=of_decide_eq_false h;omega
  rw[yg6 h,<- c1,<- c2] at rt
  exact zaw (zcy (zfm (zac rfl).b (zba (zac rfl).b) zdx zp).b (zfm (zac rfl).b (zba (zcg (zac rfl).b zaj.b).b) zdx zq).b) rt
theorem yb4{α:Type}{P:α->Prop}{l:List α}{k:Nat}{x:α}(hk:l[k]? = some x)(h:∀y∈l.take k,P y)(hx:P x):∀y∈l.take (k+1),P y:=by
 intro y hy
 rw[Zob,hk] at hy
 rcases Zme.mp hy with hy | hy
 .exact h y hy
 .have:y=x:=by simpa using hy
  rw[this];exact hx
theorem yc6:∀c∈sg71,c∈ziq:=by decide +kernel
theorem yef:∀c∈ziq,up1 c∈ziq:=by decide +kernel
theorem yc0:∀c∈ziq,lo1 c∈ziq:=by decide +kernel
theorem zr0(x:Int):sgn x∈ziq:=by
 have h0:=Znd x (show(71:Int)≠0 by decide)
 have h1:=Zmp x (show(0:Int)<71 by decide)
 have hl:=zlp
 refine yc6 _ ?_
 unfold sgn
 rw[Zlk,Zlj (by omega)]
 exact Znl _
theorem yb0(d:Int):∀c∈tx1 d,c∈ziq:=by
 have h0:∀c∈tx0 d,c∈ziq:=fun c hc=>by
  obtain⟨i,_,rfl⟩:=Zl2.mp hc
  exact zr0 _
 intro c hc
 unfold tx1 at hc
 split at hc
 .simp only[Zme,Zlz] at hc
  rcases hc with ((hc | rfl) | hc) | rfl
  .exact h0 c (zdb hc)
  .decide +kernel
  .exact h0 c (zdb hc)
  .decide +kernel
 .exact h0 c hc
theorem dbl_mem{t:List Nat}{c:Nat}(h:c∈Zqf 32 t):c∈t:=by
 induction t with
 | nil=>exact h
 | cons x t ih =>
  unfold Zqf at h
  split at h
  .simp only[Zly] at h
   rcases h with h | h | h
   .rw[h];exact Zls
   .rw[h];exact Zls
   .exact Zlp _ (ih h)
  .rcases Zly.mp h with rfl | h
   .exact Zls
   .exact Zlp _ (ih h)
theorem zt0{t:List Nat}{a:Int}{s:Nat}(ht:∀c∈t,c∈ziq)(hs:s∈ziq):∀l∈zka t a s,∀c∈l,c∈ziq:=by
 intro l hl c hc
 have up:∀{u:List Nat},(∀c∈u,c∈ziq)->c∈u.map up1->c∈ziq:=fun hu h=>by obtain⟨x,hx,rfl⟩:=Zl2.mp h;exact yef x (hu x hx)
 unfold zka at hl
 simp only[Zly,Zno,or_false] at hl
 rcases hl with rfl | rfl | rfl | rfl | rfl | rfl | rfl | rfl | rfl | rfl
 .exact ht c hc
 .exact ht c hc
 .exact up ht hc
 .obtain⟨x,hx,rfl⟩:=Zl2.mp hc;exact yc0 x (ht x hx)
 .simp only[Zme,Zlz] at hc
  rcases hc with (hc | rfl) | hc
  .exact ht c (zdb hc)
  .exact hs
  .exact ht c (zdb hc)
 .simp only[Zme,Zlz] at hc
  rcases hc with (hc | rfl) | hc
  .exact ht c (zdb hc)
  .exact hs
  .exact ht c (zdb hc)
 .rcases Zme.mp hc with hc | hc <;> exact ht c (zdb hc)
 .exact ht c (dbl_mem hc)
 .exact ht c hc
 .rcases Zme.mp hc with hc | hc
  .exact up (fun c hc=>ht c (zdb hc)) hc
  .exact ht c (zdb hc)
theorem yiu(d m:Int):zy4 (bentL d m):=by
 have hl:=zv4 d m
 unfold bentL at hl ⊢
 split
 .refine⟨by decide,by decide,by decide +kernel,fun c hc=>?_⟩
  rw[Zlz.mp hc];decide +kernel
 .rename_i hne
  rw[if_neg hne] at hl
  refine⟨Ztr.mpr hne,by omega,(zx5 _ _).symm,fun c hc=>?_⟩
  have hc:=yac hc
  unfold zn0 at hc
  rw[Zlk] at hc
  cases e:(zka (tx1 d) (tat d m) (sgn (m / 400)))[(m % 10).toNat]? with
  | none=>rw[e] at hc;cases hc
  | some l=>rw[e] at hc;exact zt0 (yb0 d) (zr0 _) l (Zlv e) c hc
theorem yc2(c:Int)(k:Nat):zky (zs1 c k):=by
 have h1:=zhz c
 have h2:=zzl c
 have hb:(zhx c).length=(zi0 c).toNat:=by unfold zhx;rw[Zlm,Zm2]
 have hl:∀x∈zhx c,x∈lets:=fun x hx=>by obtain⟨i,_,rfl⟩:=Zl2.mp hx;exact zny _
 have e1:cutL (zhx c) none (some (cat_ c))=(zhx c).take (cat_ c).toNat:=zm9 _ h2.1
 have e2:cutL (zhx c) (some (cat_ c+1)) none=(zhx c).drop (cat_ c+1).toNat:=zf9 _ (by omega)
 have len:(zs1 c k).length=(zi0 c).toNat:=by
  unfold zs1
  rw[e1,e2,Zlw,Zlw,Znk,Zmo,Znf,hb]
  omega
 refine⟨by omega,by omega,fun x hx=>?_⟩
 unfold zs1 at hx
 simp only[Zme,Zlz] at hx
 rcases hx with (hx | rfl) | hx
 .exact hl x (zdb hx)
 .exact zny _
 .exact hl x (zdb hx)
theorem ybc(cs:List (List Nat))(x:Int)(h:cs≠[]):cardAt cs x∈cs:=by
 obtain⟨y,hy,e⟩:=Zl2.mp (ybe (zv0 cs x h))
 injection e with e
 rw[<- e];exact hy
theorem ylt(a b:List Nat):minL (minL a b) (maxL a b)=minL a b/\maxL (minL a b) (maxL a b)=maxL a b:=by
 unfold minL maxL
 by_cases h:b<a
 .have h2:¬ a<b:=fun z=>Zsd _ (Zwm h z)
  simp[h,h2]
 .by_cases h2:a<b
  .simp[h,h2]
  .simp[h,h2]
theorem zy6(c d:Int):fldL c d∈flds:=by
 have h0:=Znd (c+d % 2*(d / 2)) (show(5:Int)≠0 by decide)
 have h1:=Zmp (c+d % 2*(d / 2)) (show(0:Int)<5 by decide)
 have:∀w∈zoc,w∈flds:=by decide +kernel
 refine this _ ?_
 unfold fldL
 rw[Zlk,Zlj (by show _<5;omega)]
 exact Znl _
noncomputable def pwL:List (List Nat):=[("same" : Str).cps.toList,("apart" : Str).cps.toList]
theorem ymw(x:Int):∃l,atI ze6 (x % 2)=some (.str l)/\l∈prs:=by
 have h:=zpk pwL [] x (n:=2) rfl (by decide)
 have h0:=Znd x (show(2:Int)≠0 by decide)
 have h1:=Zmp x (show(0:Int)<2 by decide)
 rcases(by omega:x % 2=0\/x % 2=1) with e | e <;> rw[e]
 .exact⟨_,rfl,by decide +kernel⟩
 .exact⟨_,rfl,by decide +kernel⟩
noncomputable def ycv(cs:List (List Nat))(f:Fct):Prop:=zjf f/\foF f=f/\f.2.2.length<=15/\f.1∈cs/\(f.2.1∈prs->f.2.2∈cs)
noncomputable def ylc(ds:List D):Prop:=∃(ns:List Int) (cs:List (List Nat)) (c:Int),ds=[.lst (ns.map .int),.lst (cs.map .str),.int c]/\ns.length<=14/\cs≠[] /\ ∀x∈cs,zky x
noncomputable def ykk(ds rs:List D):Prop:=∀(ns:List Int) (cs:List (List Nat)) (c:Int),ds=[.lst (ns.map .int),.lst (cs.map .str),.int c]-> ∃b:List Fct,rs=b.map encF/\b.length<=14 /\ ∀f∈b,ycv cs f
theorem zrz(Z:Tx K mg ad0):FnOk P w K mg base CX0 3 ad0.Zeh ad0.Zel zfq (SpR K ylc ykk):=by
 have Zbp:=zes (P:=P) (w:=w) (base:=base) Z
 have Zg8:=zkw (P:=P) (w:=w) (base:=base) Z
 have Zk3:=zt1 (P:=P) (w:=w) (base:=base) Z
 refine okR Z.Zf2.F zb8 (by rintro ds ⟨ns,cs,c,rfl,_⟩;rfl) fun cdv A outer s H Q E hr=>⟨_,(zag (psn 3 zb8.nd (zco zad))
   (zag (zem Zm8 rfl (zbc (pv 0)) (pgn 4 zb8.nd) (zag (psn 5 zb8.nd (pcX Zbp hr Z.Zbq (zaa (pv 4) (zaa zai zad))))
   (zag (psn 6 zb8.nd (za7 (show IxR _ (rIxL K) from zaz) (pv 1) (zau zb7 (zau zb7 (za7 (show IxR _ (rIxL K) from zaz) (pv 5) zai (fun _ _=>rfl)) zai) (zar zdu (by rfl) Z.Zbj Zps (zaa (pv 1) zad))) (fun _ _=>rfl)))
   (zag (psn 7 zb8.nd (za7 (show IxR _ (rIxL K) from zaz) (pv 1) (zau zb7 (zau zeh (za7 (show IxR _ (rIxL K) from zaz) (pv 5) zai (fun _ _=>rfl)) zai) (zar zdu (by rfl) Z.Zbj Zps (zaa (pv 1) zad))) (fun _ _=>rfl)))
   (zag (psn 8 zb8.nd (zhf (zaa (pv 6) (zaa (pcX Zg8 hr Z.Zd1 (zaa (pv 2) (zaa (zau zeh (za7 (show IxR _ (rIxL K) from zaz) (pv 5) zai (fun _ _=>rfl)) zai) zad))) (zaa (pcX Zk3 hr Z.Zgt (zaa (zau zcd (zau zeh (pv 2) zai) (zau zb7 (za7 (show IxR _ (rIxL K) from zaz) (pv 5) zai (fun _ _=>rfl)) zai)) (zaa (za7 (show IxR _ (rIxL K) from zaz) (pv 5) zai (fun _ _=>rfl)) zad))) zad)))))
   (zag (zcn (PW.pt (zir (zas zdd (zau zb7 (za7 (show IxR _ (rIxL K) from zaz) (pv 5) zai (fun _ _=>rfl)) zai) zai (zay _)) (zgq (zas zo3 (pv 6) (pv 7) (zay _))))) (zah (psn 8 zb8.nd (zhf (zaa (zar (zqr rfl) (by rfl) Z.Zjj boot_min (zaa (pv 6) (zaa (pv 7) zad))) (zaa (za7 (show IxR _ (rIxL K) from zaz) (zco (zaa zap (zaa zap zad))) (zau zb7 (zau zeh (za7 (show IxR _ (rIxL K) from zaz) (pv 5) zai (fun _ _=>rfl)) zai) zai) (fun _ _=>rfl)) (zaa (zar (zrv rfl) (by rfl) Z.Zjk boot_max (zaa (pv 6) (zaa (pv 7) zad))) zad)))))) za2)
   (zah (zel (zdc Zny Zn7 Zoh zcq (pv 3) (zaa (pv 8) zad))))))))))
   (zah (zao (pv 3))))),fun G ds hp rt=>?_⟩
 obtain⟨ns,cs,c,rfl,hnl,hcs,hcn⟩:=hp
 have hlm:((cs.map D.str).length:Int)=cs.length:=by simp
 have hl0:0<cs.length:=Ztr.mpr hcs
 refine zak (za6 (zbv zaf (small (by decide))) fun p=>?_)
 ((try dsimp only);refine zaq ?_)
 refine zak (zit D.int ns (fun k ss=>∃(fs:List Fct) (v4 v5 v6 v7 v8:Sl),ss=[.d (.lst (ns.map .int)),.d (.lst (cs.map .str)),.d (.int c),.o p (fs.map encF),v4,v5,v6,v7,v8]/\fs.length<=k /\ ∀f∈fs,ycv cs f) (zac rfl) ⟨[],.un,.un,.un,.un,.un,rfl,Zlt _,fun _ h=>by cases h⟩ ?_ ?_)
 .rintro L' k x ss hL hk ⟨fs,v4,v5,v6,v7,v8,rfl,hfl,hfg⟩
  refine⟨_,zax,fun N hN=>?_⟩
  have hk63:k<14:=by have:=(Zlq.mp hk).1;omega
  refine zak (za6 (ds:=zcp x 4) (za0 (pre:=zhy) (res:=zf8) (zab (zac rfl) (zab zaj zaf)) ⟨x,4,rfl,by decide,by decide⟩) fun pd=>zbb (i:=5) rfl ?_)
  ((try dsimp only);refine zaq ?_)
  have x0:=zc2 x 4 0 (by decide)
  have x1:=zc2 x 4 1 (by decide)
  have x2:=zc2 x 4 2 (by decide)
  have x3:=zc2 x 4 3 (by decide)
  have card:∀{L0:Hp} {ss:List Sl} {d:Int} {t:TE},ss[1]? = some (.d (.lst (cs.map .str)))->EvB K G H L0 ss t (.int d)->Ev K G H L0 ss (tOp (rIxL K) (tVar 1) (tOp (rI (fun _ j=>0<j) fun i j=>.int (i % j)) t (tCB (fun xs H Q=>∃p ys,xs=[.ref p]/\(SqL K H p ys\/SqT K H p ys)/\Q (.int ys.length) H) (za8 (tVar 1) tNil)))) (.str (cardAt cs d)):=fun {L0 ss d t} h1 a =>
   zbs (zac h1).l (zb9 a (Ev.b (by rw[<- hlm];exact zpw (zac h1).l)) (by omega)).b (zv0 cs d hcs)
  refine zak (zbd (card rfl (zb9 (zbs (zac rfl).l zaj.b x0).b zaj.b (by decide)).b) ?_)
  ((try dsimp only);refine zaq ?_)
  refine zak (zbd (card rfl (zec (zbs (zac rfl).l zaj.b x3).b zaj.b ⟨by decide,by decide⟩).b) ?_)
  ((try dsimp only);refine zaq ?_)
  have i1:=ybc cs (num x (0+2) % 8) hcs
  have i2:=ybc cs (num x (3+2) / 6) hcs
  generalize cardAt cs (num x (0+2) % 8)=c1 at i1
  generalize cardAt cs (num x (3+2) / 6)=c2 at i2
  have hfd:=zy6 c (num x (0+2) / 8)
  have hbo:=yiu (c / 5+num x (1+2) % 2) (num x (2+2))
  have hbl:=zv4 (c / 5+num x (1+2) % 2) (num x (2+2))
  refine zak (zbd (d:=encF (c1,fldL c (num x (0+2) / 8),bentL (c / 5+num x (1+2) % 2) (num x (2+2)))) (zhv (zab (zac rfl) (zab (zbn (pre:=yic) (res:=yji) (zab (zac rfl) (zab (zec (zbs (zac rfl).l zaj.b x0).b zaj.b ⟨by decide,by decide⟩) zaf)) ⟨_,_,rfl⟩) (zab (zbn (pre:=ylg) (res:=yml) (zab (zcg (zec (zac rfl).b zaj.b ⟨by decide,by decide⟩).b (zb9 (zbs (zac rfl).l zaj.b x1).b zaj.b (by decide)).b) (zab (zbs (zac rfl).l zaj.b x2) zaf)) ⟨_,_,rfl⟩) zaf))) (small (by simp))) ?_)
  ((try dsimp only);refine zaq ?_)
  have g1:ycv cs (c1,fldL c (num x (0+2) / 8),bentL (c / 5+num x (1+2) % 2) (num x (2+2))):=⟨⟨hcn _ i1,.inl ⟨hfd,hbo⟩⟩,if_neg (zm5 _ hfd),hbl,i1,fun z=>absurd z (zm5 _ hfd)⟩
  generalize bentL (c / 5+num x (1+2) % 2) (num x (2+2))=bt at g1
  generalize fldL c (num x (0+2) / 8)=fl at g1
  refine zhu (fun ss=>∃g:Fct,ss=[.d (.lst (ns.map .int)),.d (.lst (cs.map .str)),.d (.int c),.o p (fs.map encF),.d (.int x),.d (.lst (zcp x 4)),.d (.str c1),.d (.str c2),.d (encF g)]/\ycv cs g) (fun N' hN'=>zcj (ze9 (zan (zvh (zb9 (zbs (zac rfl).l zaj.b x3).b zaj.b (by decide)).b zaj.b)) fun _=>zan (zrg (zac rfl).b (zac rfl).b)) (fun hb=>?_) (fun hb=>?_)) ?_
  .rw[Zmd] at hb
   obtain⟨pl,hpl,hpr⟩:=ymw (num x (1+2) / 2)
   have mm:=ylt c1 c2
   have hcc:¬ c1=c2:=by have:=hb.2;simpa using this
   have hmc:minL c1 c2∈cs/\maxL c1 c2∈cs/\minL c1 c2≠maxL c1 c2:=by
    rcases ymz c1 c2 with ⟨a,b⟩ | ⟨a,b⟩ <;> rw[a,b]
    .exact⟨i1,i2,hcc⟩
    .exact⟨i2,i1,fun z=>hcc z.symm⟩
   have hn2:=hcn _ hmc.2.1
   refine zbd (d:=encF (minL c1 c2,pl,maxL c1 c2)) (zhv (zab (zzo (zac rfl).b (zac rfl).b) (zab (zbs (ds:=ze6) (EvO.l (zbv (zab (zby (by decide)) (zab (zby (by decide)) zaf)) (small (by decide)))) (zb9 (zec (zbs (zac rfl).l zaj.b x1).b zaj.b ⟨by decide,by decide⟩).b zaj.b (by decide)).b hpl) (zab (zzm (zac rfl).b (zac rfl).b) zaf))) (small (by simp))) (hN' _ ⟨_,rfl,⟨hcn _ hmc.1,.inr ⟨hpr,hn2,hmc.2.2⟩⟩,?_,by have:=hn2.2.1;show(maxL c1 c2).length<=15;omega,hmc.1,fun _=>hmc.2.1⟩)
   unfold foF
   rw[if_pos hpr]
   show(minL (minL c1 c2) (maxL c1 c2),pl,maxL (minL c1 c2) (maxL c1 c2))=_
   rw[mm.1,mm.2]
  .exact za3 (hN' _ ⟨_,rfl,g1⟩)
  rintro ss ⟨g,rfl,hgg⟩
  refine zd8 rfl (zac rfl) (by rw[Zlm,Zl7];omega) (hN _ ⟨fs++[g],_,_,_,_,_,by rw[Znc];rfl,by rw[Zlw,Znf];omega,fun f hf=>?_⟩)
  rcases Zme.mp hf with hf | hf
  .exact hfg f hf
  .rw[Zlz.mp hf];exact hgg
 .rintro ss ⟨fs,v4,v5,v6,v7,v8,rfl,hfl,hfg⟩
  ((try dsimp only);refine zaq ?_)
  refine zi4 (i:=3) rfl (rt _ fun ns' cs' c' e=>⟨fs,rfl,by omega,fun f hf=>?_⟩)
  have e2:cs=cs':=by
   injection e with _ e
   injection e with e _
   injection e with e
   exact List.map_inj_right (f:=D.str) (fun _ _ z=>by injection z) |>.mp e
  rw[<- e2]
  exact hfg f hf
theorem zud{x:Row}(h:zjf x):(rowL x).length<=61:=by
 obtain⟨h1,h2⟩:=h
 have h3:=h1.2.1
 have h4:x.2.1∈flds++prs:=by
  rcases h2 with h | h
  .exact Zoy _ h.1
  .exact Zmw _ h.1
 have h5:=(zre _ h4).2
 have h6:x.2.2.length<=40:=by
  rcases h2 with h | h
  .exact h.2.2.1
  .have:=h.2.1.2.1;omega
 unfold rowL
 simp;omega
theorem yea{x:Row}(h:zjf x):10∉rowL x:=by
 obtain⟨h1,h2⟩:=h
 have hl:10∉lets:=by decide +kernel
 have hs:10∉ziq:=by decide +kernel
 have hw:∀f∈flds++prs,10∉f:=by decide +kernel
 have h4:x.2.1∈flds++prs:=by
  rcases h2 with h | h
  .exact Zoy _ h.1
  .exact Zmw _ h.1
 unfold rowL
 intro z
 simp only[Zme,Zly] at z
 rcases z with z | z | z | z | z
 .exact hl (h1.2.2 _ z)
 .cases z
 .exact hw _ h4 z
 .cases z
 .rcases h2 with h | h
  .exact hs (h.2.2.2.2 _ z)
  .exact hl (h.2.1.2.2 _ z)
theorem ykp{x:Row}(h:zjf x):LnOk (rowL x,some x):=⟨yea h,by have:=zud h;show(rowL x).length<=100;omega,rfl,h⟩
theorem ydv{b:List Fct}(h:∀g∈b,g.2.2.length<=15)(c f:List Nat):∀l∈txF b c f,l.length<=15:=fun l hl=>by
 unfold txF at hl
 obtain⟨g,hg,rfl⟩:=Zl2.mp hl
 exact h g (Zns.mp hg).1
noncomputable def dueR(rs:List Rl)(b:List Fct)(x y:List Nat):Int:=rs.foldl (fun t r=>if zh3 r.1 b r.2.1 x y=true then t+r.2.2 else t) 0
theorem ydo(rs:List Rl)(b:List Fct)(x y:List Nat):totR rs b x y=dueR rs b x y:=by
 unfold totR dueR
 congr 1
 funext t r
 rw[yei]
theorem yb1(rs:List Rl)(b:List Fct)(x y:List Nat)(k:Nat)(r:Rl)(hk:rs[k]? = some r):dueR (rs.take (k+1)) b x y=if zh3 r.1 b r.2.1 x y=true then dueR (rs.take k) b x y+r.2.2 else dueR (rs.take k) b x y:=by
 unfold dueR
 rw[Zob,hk,Zui]
 rfl
noncomputable def zhh(r:Rl):D:=.tup [.str (zam r.1),.str r.2.1,.int r.2.2]
noncomputable def ylv(ds:List D):Prop:=∃c f:Int,ds=[.int c,.int f]
noncomputable def yko(ds rs:List D):Prop:=∃rows:List Rl,rs=rows.map zhh/\rows.length<=6 /\ ∀r∈rows,RuOk r
noncomputable def ygc:List D:=[.str (zam 0),.str (zam 1),.str (zam 2),.str (zam 3),.str (zam 4)]
theorem ydn(x:Int):atI ygc (x % 5)=some (.str (zam (x % 5).toNat)):=by
 have h0:=Znd x (show(5:Int)≠0 by decide)
 have h1:=Zmp x (show(0:Int)<5 by decide)
 rcases(by omega:x % 5=0\/x % 5=1\/x % 5=2\/x % 5=3\/x % 5=4) with e | e | e | e | e <;> rw[e] <;> rfl
theorem yh8:∀f∈flds,∀c∈f,c<128:=by decide +kernel
theorem yk0:nmL∈flds:=by decide +kernel
theorem zsx(Z:Tx K mg ad0):FnOk P w K mg base CX0 2 ad0.Zd7 ad0.Zd6 ze3 (SpR K ylv yko):=by
 have Zbp:=zes (P:=P) (w:=w) (base:=base) Z
 have Zg8:=zkw (P:=P) (w:=w) (base:=base) Z
 refine okR Z.Zf0.F zca (by rintro ds ⟨c,f,rfl⟩;rfl) fun cdv A outer s H Q E hr=>⟨_,(zag (psn 2 zca.nd (zco zad))
   (zag (zem Zm8 rfl (zbc (pcX Zbp hr Z.Zbq (zaa (pv 0) (zaa (zau zb7 (pv 0) zai) zad)))) (pgn 3 zca.nd) (zag (psn 4 zca.nd (za7 (show IxR _ (rIxL K) from zaz) (zco (zaa zap (zaa zap (zaa zap (zaa zap (zaa zap zad)))))) (zau zb7 (pv 3) zai) (fun _ _=>rfl)))
   (zag (psn 5 zca.nd (pcX Zg8 hr Z.Zd1 (zaa (pv 1) (zaa (zau zb7 (zau zeh (pv 3) zai) zai) zad))))
   (zag (zcn (zas zdd (pv 4) zap (zay _)) (zah (psn 5 zca.nd zap)) za2)
   (zag (psn 6 zca.nd (zau zcd (zau zb7 (zau zqz (pv 3) zai) (zau yl0 zai zai)) zai))
   (zag (zcn (zas zdd (zau zb7 (zau zeh (pv 3) zai) zai) zai (zay _)) (zah (psn 6 zca.nd (za7 (show IxR _ (rIxL K) from zaz) (zco (zaa (zau yli zai (pv 6)) (zaa (ygz ycp zai) (zaa (ygz ycp zai) zad)))) (zau zb7 (zau zeh (pv 3) zai) zai) (fun _ _=>rfl)))) za2)
   (zah (zel (zdc Zny Zn7 Zoh zcq (pv 2) (zaa (zhf (zaa (pv 4) (zaa (pv 5) (zaa (pv 6) zad)))) zad))))))))))
   (zah (zao (pv 2))))),fun G ds hp rt=>?_⟩
 obtain⟨c,f,rfl⟩:=hp
 refine zak (za6 (zbv zaf (small (by decide))) fun p=>?_)
 ((try dsimp only);refine zaq ?_)
 have m0:=Znd c (show(7:Int)≠0 by decide)
 have m1:=Zmp c (show(0:Int)<7 by decide)
 have es:zcp c (c % 7).toNat=((Zl6 (c % 7).toNat).map fun i=>num c (i+2)).map D.int:=by unfold zcp;rw[Zm0];rfl
 refine zak (zit D.int ((Zl6 (c % 7).toNat).map fun i=>num c (i+2)) (fun k ss=>∃(rs:List Rl) (v3 v4 v5 v6:Sl),ss=[.d (.int c),.d (.int f),.o p (rs.map zhh),v3,v4,v5,v6]/\rs.length<=k /\ ∀r∈rs,RuOk r) (EvO.ev (by
  rw[<- es]
  exact za0 (pre:=zhy) (res:=zf8) (ds:=[.int c,.int (c % 7)]) (zab (zac rfl) (zab (zb9 (zac rfl).b zaj.b (by decide)) zaf)) ⟨c,c % 7,rfl,m0,by omega⟩)) ⟨[],.un,.un,.un,.un,rfl,Zlt _,fun r h=>by cases h⟩ ?_ ?_)
 .rintro L' k d ss hL hk ⟨rs,v3,v4,v5,v6,rfl,hl,hf⟩
  refine⟨_,zax,fun N hN=>?_⟩
  have hkl:=(Zlq.mp hk).1
  rw[Zlm,Zm2] at hkl
  have s0:=Znd d (show(5:Int)≠0 by decide)
  have s1:=Zmp d (show(0:Int)<5 by decide)
  have hs5:(d % 5).toNat<5:=by omega
  refine zak (zbd (d:=.str (zam (d % 5).toNat)) (zbs (ds:=ygc) (EvO.l (zbv (zab (zby (by decide)) (zab (zby (by decide)) (zab (zby (by decide)) (zab (zby (by decide)) (zab (zby (by decide)) zaf))))) (small (by decide)))) (zb9 (zac rfl).b zaj.b (by decide)).b (ydn d)) ?_)
  ((try dsimp only);refine zaq ?_)
  generalize (d % 5).toNat=sn at hs5
  have hfd:=zy6 f (d / 5 % 4)
  refine zak (zbd (d:=.str (fldL f (d / 5 % 4))) (zbn (pre:=yic) (res:=yji) (zab (zac rfl) (zab (zb9 (zec (zac rfl).b zaj.b ⟨by decide,by decide⟩).b zaj.b (by decide)) zaf)) ⟨_,_,rfl⟩) ?_)
  ((try dsimp only);refine zaq ?_)
  generalize fldL f (d / 5 % 4)=wh at hfd
  refine zhu (fun ss=>∃wh2:List Nat,ss=[.d (.int c),.d (.int f),.o p (rs.map zhh),.d (.int d),.d (.str (zam sn)),.d (.str wh2),v6]/\wh2∈flds/\(sn=4->wh2=nmL)) (fun N2 hN2=>zcj (b:=decide (zam sn=zam 4)) (zan (zcy (m:=zam 4) (zac rfl).b (zby (by decide)).b)) (fun hb=>?_) (fun hb=>?_)) ?_
  .exact zbd (d:=.str nmL) (zby (by decide)) (hN2 _ ⟨nmL,rfl,yk0,fun _=>rfl⟩)
  .refine za3 (hN2 _ ⟨wh,rfl,hfd,fun z=>?_⟩)
   subst z
   rw[decide_eq_true rfl] at hb;cases hb
  rintro ss ⟨wh2,rfl,hw1,hw2⟩
  have p9:0<(10:Int) ^ (9:Int).toNat:=by decide
  have e9:(10:Int) ^ (9:Int).toNat=1000000000:=by decide
  have q0:=Znd (d*48271) (show(10:Int) ^ (9:Int).toNat≠0 by decide)
  have q1:=Zmp (d*48271) p9
  refine zak (zbd (zcg (zb9 (zsk (zac rfl).b zaj.b (.inr ⟨by decide,by decide⟩)).b (yk6 zaj.b zaj.b ⟨by decide,by decide,by decide⟩).b p9).b zaj.b) ?_)
  ((try dsimp only);refine zaq ?_)
  rw[e9] at q0 q1 ⊢
  generalize d*48271 % 1000000000=w1 at q0 q1
  refine zhu (fun ss=>∃w2:Int,ss=[.d (.int c),.d (.int f),.o p (rs.map zhh),.d (.int d),.d (.str (zam sn)),.d (.str wh2),.d (.int w2)]/\w2≠0/\w2.natAbs<=1000000000) (fun N2 hN2=>zcj (zan (zvh (zb9 (zec (zac rfl).b zaj.b ⟨by decide,by decide⟩).b zaj.b (by decide)).b zaj.b)) (fun hb=>?_) (fun hb=>za3 (hN2 _ ⟨_,rfl,by omega,by omega⟩))) ?_
  .have h0:=Znd (d / 40) (show(3:Int)≠0 by decide)
   have h1:=Zmp (d / 40) (show(0:Int)<3 by decide)
   have hat:∃z:Int,atI [D.int (0 - (w1+1)),.int (-1),.int (-1)] (d / 40 % 3)=some (.int z)/\z≠0/\z.natAbs<=1000000000:=by
    rcases(by omega:d / 40 % 3=0\/d / 40 % 3=1\/d / 40 % 3=2) with e | e | e <;> rw[e]
    .exact⟨_,rfl,by omega,by omega⟩
    .exact⟨_,rfl,by decide,by decide⟩
    .exact⟨_,rfl,by decide,by decide⟩
   obtain⟨z,hz,z1,z2⟩:=hat
   exact zbd (d:=.int z) (zbs (EvO.l (zbv (zab (ykd zaj.b (zac rfl).b) (zab (yb2 zaj.b) (zab (yb2 zaj.b) zaf))) (small (by simp)))) (zb9 (zec (zac rfl).b zaj.b ⟨by decide,by decide⟩).b zaj.b (by decide)).b hz) (hN2 _ ⟨z,rfl,z1,z2⟩)
  rintro ss ⟨w2,rfl,z1,z2⟩
  refine zd8 (d:=zhh (sn,wh2,w2)) rfl (zhv (zab (zac rfl) (zab (zac rfl) (zab (zac rfl) zaf))) (small (by simp))) (by rw[Zl7,Zlm];omega) (hN _ ⟨rs++[(sn,wh2,w2)],.d (.int d),.d (.str (zam sn)),.d (.str wh2),.d (.int w2),by rw[Znc];rfl,by rw[Zlw,Znf];omega,fun r hr=>?_⟩)
  rcases Zme.mp hr with h | h
  .exact hf r h
  .rw[Zlz.mp h]
   exact⟨⟨hs5,yh8 _ hw1,hw2⟩,hw1,z1,z2⟩
 rintro ss ⟨rs,v3,v4,v5,v6,rfl,hl,hf⟩
 ((try dsimp only);refine zaq ?_)
 rw[Zlm,Zm2] at hl
 exact zi4 (i:=2) rfl (rt _ ⟨rs,rfl,by omega,hf⟩)
noncomputable def yll(r:Rl)(ds:List D):Prop:=ds=[zhh r]/\RuOk r
noncomputable def ylm(r:Rl):D:=.str (rowR r)
theorem zyc(Z:Tx K mg ad0):FnOk P w K mg base CX0 1 ad0.Zgc ad0.Zgb zhn (SpG K yll ylm):=by
 refine okG Z.Zg1.F zoi (by rintro q ds ⟨rfl,_⟩;rfl) fun cdv A outer s H Q E hr=>⟨_,(zag (psn 1 zoi.nd (za7 (show IxR _ (rIxL K) from zaz) (zco (zaa zap (zaa zap zad))) (zbx ya2 (by rfl) Z.Zh2 Yac (zaa (zda ycy (za7 (show IxR _ (rIxT K) from zdf) (pv 0) zai (fun _ _=>rfl)) zai (zay _)) zad)) (fun _ _=>rfl)))
   (zah (zao (zdc Zmm Zpr Zpq zi7 zap (zaa (zco (zaa (pv 1) (zaa (zbx (show zb4 _ _ yeg from zrs) (by rfl) Z.Zjl boot_str (zaa (zar ycx (by rfl) Z.Zky boot_abs (zaa (za7 (show IxR _ (rIxT K) from zdf) (pv 0) zai (fun _ _=>rfl)) zad)) zad)) (zaa (za7 (show IxR _ (rIxT K) from zdf) (pv 0) zai (fun _ _=>rfl)) (zaa (za7 (show IxR _ (rIxT K) from zdf) (pv 0) zai (fun _ _=>rfl)) zad))))) zad))))),fun G ds r hp rt=>?_⟩
 obtain⟨rfl,hR⟩:=hp
 have hlen:=zlv hR
 obtain⟨hru,hf,hw0,hw1⟩:=hR
 have rt:RtD K G H Q (.str (glue [32] (rowW r))):=rt
 have hat:atI [D.str forL,.str agL] (if decide (r.2.2<0)=true then 1 else 0)=some (.str (wayL r.2.2)):=by
  unfold wayL
  by_cases h:r.2.2<0
  .rw[if_pos h,if_pos (decide_eq_true h)];rfl
  .rw[if_neg h,if_neg (by rw[decide_eq_false h];decide)];rfl
 refine zak (zbd (d:=.str (wayL r.2.2)) (zbs (ds:=[D.str forL,.str agL]) (EvO.l (zbv (zab (zby (by decide)) (zab (zby (by decide)) zaf)) (small (by decide)))) (Ev.b (yg3 (Ev.b (yjh (i:=r.2.2) (Ev.b (zdg (ds:=[.str (zam r.1),.str r.2.1,.int r.2.2]) (i:=2) (d:=.int r.2.2) (zac (i:=0) rfl) zaj.b (show atI [D.str (zam r.1),D.str r.2.1,D.int r.2.2] 2=some (D.int r.2.2) from rfl))) (zaj (i:=0)).b)))) hat) ?_)
 ((try dsimp only);refine zaq ?_)
 have habs:(if r.2.2<0 then -r.2.2 else r.2.2)=(r.2.2.natAbs:Int):=by split <;> omega
 refine zaw (zkg (ls:=rowW r) (za5 (l:=[32]) (by decide +kernel) (by decide)).b (EvO.l (zbv (ds:=(rowW r).map D.str) (zab (zac rfl) (zab (d:=.str (numL r.2.2.natAbs)) ?_ (zab (zdg (d:=.str r.2.1) (zac rfl) zaj.b rfl) (zab (zdg (d:=.str (zam r.1)) (zac rfl) zaj.b rfl) zaf)))) (small (by simp[rowW])))) ?_) rt
 .have:=zzs (K:=K) (G:=G) (H0:=H) (L:=G) (ss:=[.d (zhh r),.d (.str (wayL r.2.2))]) (i:=(r.2.2.natAbs:Int)) (Ev.b (by rw[<- habs];exact yhh (i:=r.2.2) (Ev.b (zdg (d:=.int r.2.2) (zac (i:=0) rfl) zaj.b (show atI [D.str (zam r.1),D.str r.2.1,D.int r.2.2] 2=some (D.int r.2.2) from rfl))))) (by omega) (by omega)
  rw[show((r.2.2.natAbs:Int)).toNat=r.2.2.natAbs by omega] at this
  exact this
 .have h1:=(zu3 r.2.2).2.2.1
  have h2:=zws hw1
  have h3:=(zp2 _ hf).2.2
  have h4:=(zlz r.1 hru.1).2.2
  show([wayL r.2.2,numL r.2.2.natAbs,r.2.1,zam r.1].map Zm7).sum+4*1<=16777216
  simp only[Zl0,Zp6,Zqs,List.sum_nil]
  omega
noncomputable def spk(s:Nat)(a b:List (List Nat)):Bool:=match s with
 | 0=>zej a b | 1=>zej (a.map plF) (b.map plF) | 2=>zeb (a.map plF) (b.map plF) | 3=>byO a b | _=>zej (a.map plF) (b.map plF)
noncomputable def yho(q:Nat×List (List Nat)×List (List Nat))(ds:List D):Prop:=ds=[.str (zam q.1),.lst (q.2.1.map encS),.lst (q.2.2.map encS)]/\q.1<5/\(q.2.1.length<=14 /\ ∀l∈q.2.1,l.length<=15)/\q.2.2.length<=14 /\ ∀l∈q.2.2,l.length<=15
noncomputable def yhd(q:Nat×List (List Nat)×List (List Nat)):D:=.bl (spk q.1 q.2.1 q.2.2)
section
variable{G H0 L:Hp}{ss:List Sl}{tb t1 t2:TE}{E:XK}
theorem zq8{b:List Fct}{c f:List Nat}(hb:b.length<=14)(a1:Ev K G H0 L ss tb (bkD b))(a2:Ev K G H0 L ss t1 (encS c))(a3:Ev K G H0 L ss t2 (encS f)):EvO K G H0 L ss (zk4 (SpO K zjd yfn) [] E (za8 tb (za8 t1 (za8 t2 tNil)))) ((txF b c f).map encS):=by
 rw[<- zs6]
 exact za0 (pre:=zjd) (res:=yfn) (ds:=[bkD b,encS c,encS f]) (zab a1 (zab a2 (zab a3 zaf))) ⟨b,c,f,rfl,by omega⟩
theorem yf6{a:List (List Nat)}(ha:a.length<=14)(hl:∀l∈a,l.length<=15)(e:Ev K G H0 L ss t1 (.lst (a.map encS))):EvO K G H0 L ss (zk4 (SpO K yi1 zmb) [] E (za8 t1 tNil)) ((a.map plF).map encS):=by
 rw[<- zcz]
 exact za0 (pre:=yi1) (res:=zmb) (ds:=[.lst (a.map encS)]) (zab e zaf) ⟨a,rfl,by omega,fun l h=>by have:=hl l h;omega⟩
theorem zt5{a b:List (List Nat)}(h:a.length+b.length<=1000)(e1:Ev K G H0 L ss t1 (.lst (a.map encS)))(e2:Ev K G H0 L ss t2 (.lst (b.map encS))):Ev K G H0 L ss (zk4 (SpD K zq6 zns) [] E (za8 t1 (za8 t2 tNil))) (.bl (zej a b)):=by
 rw[<- zfn]
 exact zbn (pre:=zq6) (res:=zns) (zab e1 (zab e2 zaf)) ⟨a,b,rfl,h⟩
end
theorem w_is{n m:Nat}(h5:n<5)(hm:m<5)(h:decide (zam n=zam m)=true):n=m:=(zfg n h5 m hm).mp (of_decide_eq_true h)
theorem w_no{n m:Nat}(h5:n<5)(hm:m<5)(h:decide (zam n=zam m)=false):n≠m:=fun z=>of_decide_eq_false h ((zfg n h5 m hm).mpr z)
theorem zqg(Z:Tx K mg ad0):FnOk P w K mg base CX0 3 ad0.Zct ad0.Zcw zdw (SpG K yho yhd):=by
 have Zhu:=zo2 (P:=P) (w:=w) (base:=base) Z
 have Zhh:=zt4 (P:=P) (w:=w) (base:=base) Z
 have Zku:=zua (P:=P) (w:=w) (base:=base) Z
 refine okG Z.Zc6.F zeq (by rintro q ds ⟨rfl,_⟩;rfl) fun cdv A outer s H Q E hr=>⟨_,(zag (zcn (zas zdd (pv 0) zap (zay _)) (zah (zao (pcX Zhh hr Z.Zdl (zaa (pv 1) (zaa (pv 2) zad))))) za2)
   (zag (psn 1 zeq.nd (pcX Zhu hr Z.Zde (zaa (pv 1) zad)))
   (zag (psn 2 zeq.nd (pcX Zhu hr Z.Zde (zaa (pv 2) zad)))
   (zag (zcn (zas zdd (pv 0) zap (zay _)) (zah (zao (zm2 (zda (show OpR _ _ (rNeD K) from zz3 hr.units) (pv 1) (zco zad) (zay _)) (zm2 (zda (show OpR _ _ (rNeD K) from zz3 hr.units) (pv 2) (zco zad) (zay _)) (zku (ycb (pcX Zhh hr Z.Zdl (zaa (pv 1) (zaa (pv 2) zad))))))))) za2)
   (zag (zcn (zas zo3 (pv 0) zap (zay _)) (zah (zao (pcX Zhh hr Z.Zdl (zaa (pv 1) (zaa (pv 2) zad))))) za2)
   (zag (zem Zm8 rfl (zbc (pv 1)) (zbk (i:=3) zeq.nd rfl (Zy2 rfl)) (zah (zcn (zhg (zar (zuy rfl) (by rfl) Z.Zjh boot_any (zaa (zg7 rfl (LcOk.of (Nx:=(["_law_sort", "_law_mine", "_law_others", "_law_text"]:List Str)) (sc:=zae zd9) (N':=(["_law_another", "_law_text"]:List Str)) (nt:=1) (cs:=[3]) rfl rfl (by decide +kernel)) (zbc (pv 2)) (fun _ _ _ _=>(zbk (i:=0) (show Zm9 (["_law_another", "_law_text"]:List Str) by decide +kernel) rfl (Zo6 rfl))) (fun _ _ _ _=>zcb) (fun _ _ _ _=>(pcX Zku hr Z.Zgr (zaa (pv 1) (zaa (pv 0) zad))))) zad))) (zah (zao zs0)) za2)))
   (zah (zao zs0)))))))),fun G ds q hp rt=>?_⟩
 obtain⟨n,a,b⟩:=q
 obtain⟨rfl,h5,⟨ha,hla⟩,hb,hlb⟩:=hp
 have hb:b.length<=14:=hb
 have ha:a.length<=14:=ha
 have h5:n<5:=h5
 have rt:RtD K G H Q (.bl (spk n a b)):=rt
 refine zak (zcj (zan (zcy (m:=zam 0) (zac rfl).b (zby (by decide)).b)) (fun h0=>?_) (fun h0=>za3 ?_))
 .obtain rfl:=w_is h5 (by decide) h0
  exact zaw (zt5 (by omega) (zac rfl) (zac rfl)) rt
 have h0:=w_no h5 (by decide) h0
 ((try dsimp only);refine zaq ?_)
 refine zak (za6 (ds:=(a.map plF).map encS) (yf6 ha hla (zac rfl)) fun p1=>zbb (i:=1) rfl ?_)
 ((try dsimp only);refine zaq ?_)
 refine zak (za6 (ds:=(b.map plF).map encS) (yf6 hb hlb (zac rfl)) fun p2=>zbb (i:=2) rfl ?_)
 ((try dsimp only);refine zaq ?_)
 have r1:(a.map plF).length<=14:=by rw[Zlm];exact ha
 have r2:(b.map plF).length<=14:=by rw[Zlm];exact hb
 refine zak (zcj (zan (zcy (m:=zam 3) (zac rfl).b (zby (by decide)).b)) (fun h3=>?_) (fun h3=>za3 ?_))
 .obtain rfl:=w_is h5 (by decide) h3
  have e:byO a b=(!decide (D.lst ((a.map plF).map encS)= .lst [])&&(!decide (D.lst ((b.map plF).map encS)= .lst []) && !zej (a.map plF) (b.map plF))):=by
   rw[zlm,zlm]
   unfold byO
   have n:∀l:List (List Nat),decide (l.map plF=[])=decide (l=[]):=fun l=>by cases l <;> simp
   rw[n,n]
  have rt:RtD K G H Q (.bl (byO a b)):=rt
  rw[e] at rt
  exact zaw (znb (ya6 (d1:=.lst ((a.map plF).map encS)) (d2:=.lst []) (zac rfl).b (EvO.ev (zbv zaf (small (by decide)))).b (zqb _) rfl (zlu _)) fun _=>znb (ya6 (d1:=.lst ((b.map plF).map encS)) (d2:=.lst []) (zac rfl).b (EvO.ev (zbv zaf (small (by decide)))).b (zqb _) rfl (zlu _)) fun _=>ybo (zt5 (by omega) (zac rfl) (zac rfl))) rt
 have h3:=w_no h5 (by decide) h3
 ((try dsimp only);refine zaq ?_)
 refine zak (zcj (zan (zrg (m:=zam 2) (zac rfl).b (zby (by decide)).b)) (fun h2=>?_) (fun h2=>za3 ?_))
 .have h2:n≠2:=w_no h5 (by decide) (by simpa using h2)
  have e:spk n a b=zej (a.map plF) (b.map plF):=by
   match n,h0,h2,h3 with
   | 0,h,_,_=>exact absurd rfl h
   | 1,_,_,_=>rfl
   | 2,_,h,_=>exact absurd rfl h
   | 3,_,_,h=>exact absurd rfl h
   | _+4,_,_,_=>rfl
  rw[e] at rt
  exact zaw (zt5 (by omega) (zac rfl) (zac rfl)) rt
 ((try dsimp only);refine zaq ?_)
 obtain rfl:n=2:=w_is h5 (by decide) (by simpa using h2)
 have rt:RtD K G H Q (.bl (zeb (a.map plF) (b.map plF))):=rt
 have q1:∀l∈a.map plF,l.length<=1000:=fun l hl=>by
  obtain⟨z,hz,rfl⟩:=Zl2.mp hl
  have:=hla z hz;have:=zl5 z;omega
 have q2:∀l∈b.map plF,l.length<=1000:=fun l hl=>by
  obtain⟨z,hz,rfl⟩:=Zl2.mp hl
  have:=hlb z hz;have:=zl5 z;omega
 generalize a.map plF=A1 at *
 generalize b.map plF=A2 at *
 refine zak (zit encS A1 (fun k ss=>∃v7:Sl,ss=[.d (.str (zam 2)),.d (.lst (A1.map encS)),.d (.lst (A2.map encS)),v7] /\ ∀u∈A1.take k,∀v∈A2,near u v=false) (zac rfl) ⟨.un,rfl,fun _ h=>by cases h⟩ ?_ ?_)
 .rintro L' k u ss hL hk ⟨v7,rfl,hno⟩
  refine⟨_,zax,fun N hN=>?_⟩
  have hu:=Zlv hk
  refine zcj (b:=A2.any fun v=>near u v) (zk6 (zy2 (xs:=A2) (g:=fun v=>near u v) (EvO.l (zei A2 encS (fun v=>.bl (near u v)) (zac rfl).l (zbo (by decide)) (by decide) (by rw[Zl7];omega) fun v hv=>⟨_,zax,zbn (pre:=yl1) (res:=ylw) (ds:=[encS u,encS v]) (zab (zac rfl) (zab (zac rfl) zaf)) ⟨u,v,rfl,q1 u hu,q2 v hv⟩⟩)))) (fun h=>?_) (fun h=>?_)
  .obtain⟨v,hv,hn⟩:=Zow.mp h
   rw[zcu.mpr ⟨u,hu,v,hv,hn⟩] at rt
   exact zaw ybq rt
  .refine za3 (hN _ ⟨_,rfl,yb4 hk hno fun v hv=>?_⟩)
   cases z:near u v with
   | false=>rfl
   | true =>
    have:(A2.any fun v=>near u v)=true:=Zow.mpr ⟨v,hv,z⟩
    rw[h] at this;cases this
 rintro ss ⟨v7,rfl,hno⟩
 ((try dsimp only);refine zaq ?_)
 rw[Zpc] at hno
 have e:zeb A1 A2=false:=by
  cases z:zeb A1 A2 with
  | false=>rfl
  | true =>
   obtain⟨x,hx,y,hy,n⟩:=zcu.mp z
   rw[hno x hx y hy] at n
   cases n
 rw[e] at rt
 exact zaw ybq rt
noncomputable def ylo(q:List Rl×List Fct×List Nat×List Nat)(ds:List D):Prop:=ds=[.lst (q.1.map zhh),bkD q.2.1,encS q.2.2.1,encS q.2.2.2]/\q.1.length<=6/\(∀r∈q.1,RuOk r)/\q.2.1.length<=14 /\ ∀g∈q.2.1,g.2.2.length<=15
noncomputable def ylj(q:List Rl×List Fct×List Nat×List Nat):D:=.int (dueR q.1 q.2.1 q.2.2.1 q.2.2.2)
theorem yhm{n:Nat}(h5:n<5)(h4:n≠4)(b:List Fct)(f x y:List Nat):zh3 n b f x y=spk n (txF b x f) (txF b y f):=by
 match n,h5,h4 with
 | 0,_,_=>rfl
 | 1,_,_=>rfl
 | 2,_,_=>rfl
 | 3,_,_=>rfl
 | 4,_,h=>exact absurd rfl h
theorem zo9(Z:Tx K mg ad0):FnOk P w K mg base CX0 4 ad0.Zda ad0.Zc7 zd6 (SpG K ylo ylj):=by
 have Zd9:=zrc (P:=P) (w:=w) (base:=base) Z
 have Zhv:=zqg (P:=P) (w:=w) (base:=base) Z
 refine okG Z.Ze8.F zbl (by rintro q ds ⟨rfl,_⟩;rfl) fun cdv A outer s H Q E hr=>⟨_,(zag (psn 4 zbl.nd zai)
   (zag (zem Zm8 rfl (zbc (pv 0)) (zru rfl (zc6 (pgn 5 zbl.nd) (zc6 (pgn 6 zbl.nd) (zc6 (pgn 7 zbl.nd) znd)))) (zag (psn 8 zbl.nd (pcX Zd9 hr Z.Zbm (zaa (pv 1) (zaa (pv 3) (zaa (pv 6) zad)))))
   (zag (zcn (zas zdd (pv 5) zap (zay _)) (zah (psn 8 zbl.nd (pcX Zd9 hr Z.Zbm (zaa (pv 1) (zaa (pv 3) (zaa zap zad)))))) za2)
   (zag (psn 9 zbl.nd (pcX Zhv hr Z.Zc6 (zaa (pv 5) (zaa (pcX Zd9 hr Z.Zbm (zaa (pv 1) (zaa (pv 2) (zaa (pv 6) zad)))) (zaa (pv 8) zad)))))
   (zag (zcn (PW.pt (zir (zas zdd (pv 5) zap (zay _)) (zgq (zkq (zhg (pv 9)))))) (zah (psn 9 zbl.nd (pcX Zhv hr Z.Zc6 (zaa (pv 5) (zaa (pcX Zd9 hr Z.Zbm (zaa (pv 1) (zaa (pv 3) (zaa zap zad)))) (zaa (pcX Zd9 hr Z.Zbm (zaa (pv 1) (zaa (pv 2) (zaa zap zad)))) zad)))))) za2)
   (zah (zcn (zhg (pv 9)) (zah (psn 4 zbl.nd (zau zcd (pv 4) (pv 7)))) za2)))))))
   (zah (zao (pv 4))))),fun G ds q hp rt=>?_⟩
 obtain⟨rs,b,x,y⟩:=q
 obtain⟨rfl,hl,hrs,hb,ht⟩:=hp
 have hb:b.length<=14:=hb
 have rt:RtD K G H Q (.int (dueR rs b x y)):=rt
 have lx:∀c f,(txF b c f).length<=14:=fun c f=>by have:=zeg b c f;omega
 have tl:∀c f,∀l∈txF b c f,l.length<=15:=fun c f=>ydv ht c f
 refine zak (zbd (d:=.int 0) zaj ?_)
 ((try dsimp only);refine zaq ?_)
 refine zak (zit zhh rs (fun k ss=>∃v5 v6 v7 v8 v9:Sl,ss=[.d (.lst (rs.map zhh)),.d (bkD b),.d (encS x),.d (encS y),.d (.int (dueR (rs.take k) b x y)),v5,v6,v7,v8,v9]) (zac rfl) ⟨.un,.un,.un,.un,.un,rfl⟩ ?_ ?_)
 .rintro L' k r ss hL hk ⟨v5,v6,v7,v8,v9,rfl⟩
  obtain⟨⟨h5,hch,h4⟩,hfl,hw0,hw1⟩:=hrs r (Zlv hk)
  obtain⟨n,f,wt⟩:=r
  have h5:n<5:=h5
  have h4:n=4->f=nmL:=h4
  have em:=yb1 rs b x y k _ hk
  refine⟨_,zq0 rfl (zc4 zax (zc4 zax (zc4 zax znf))),fun N hN=>?_⟩
  generalize dueR (rs.take k) b x y=t0 at em
  have em:dueR (rs.take (k+1)) b x y=if zh3 n b f x y=true then t0+wt else t0:=em
  let f2:List Nat:=if n=4 then fmL else f
  refine zak (za6 (ds:=(txF b y f).map encS) (zq8 hb (zac rfl) (zac rfl) (zac rfl)) fun p1=>zbb (i:=8) rfl ?_)
  ((try dsimp only);refine zaq ?_)
  refine zhu (fun ss=>ss=[.d (.lst (rs.map zhh)),.d (bkD b),.d (encS x),.d (encS y),.d (.int t0),.d (.str (zam n)),.d (.str f),.d (.int wt),.d (.lst ((txF b y f2).map encS)),v9]) (fun N2 hN2=>zcj (b:=decide (zam n=zam 4)) (zan (zcy (m:=zam 4) (zac rfl).b (zby (by decide)).b)) (fun h=>?_) (fun h=>?_)) ?_
  .obtain rfl:=w_is h5 (by decide) h
   exact za6 (ds:=(txF b y fmL).map encS) (zq8 hb (zac rfl) (zac rfl) (za5 (l:=fmL) yiz.symm yce)) fun p2=>zbb (i:=8) rfl (hN2 _ rfl)
  .have h:=w_no h5 (by decide) h
   refine za3 (hN2 _ ?_)
   show _=[_,_,_,_,_,_,_,_,Sl.d (.lst ((txF b y (if n=4 then fmL else f)).map encS)),_]
   rw[if_neg h];rfl
  rintro ss rfl
  refine zak (zbd (d:=.bl (spk n (txF b x f) (txF b y f2))) (zdr (pre:=yho) (res:=yhd) (n,txF b x f,txF b y f2) (zab (zac rfl) (zab (EvO.ev (zq8 hb (zac rfl) (zac rfl) (zac rfl))) (zab (zac rfl) zaf))) ⟨rfl,h5,⟨lx x f,tl x f⟩,lx y f2,tl y f2⟩) ?_)
  ((try dsimp only);refine zaq ?_)
  refine zhu (fun ss=>∃v8:Sl,ss=[.d (.lst (rs.map zhh)),.d (bkD b),.d (encS x),.d (encS y),.d (.int t0),.d (.str (zam n)),.d (.str f),.d (.int wt),v8,.d (.bl (zh3 n b f x y))]) (fun N2 hN2=>zcj (b:=decide (zam n=zam 4) && !spk n (txF b x f) (txF b y f2)) (ze9 (zan (zcy (m:=zam 4) (zac rfl).b (zby (by decide)).b)) fun _=>zh1 (zk6 (zac rfl))) (fun h=>?_) (fun h=>?_)) ?_
  .rw[Zmd] at h
   obtain rfl:=w_is h5 (by decide) h.1
   obtain rfl:=h4 rfl
   have e:spk 4 (txF b y nmL) (txF b x fmL)=zh3 4 b nmL x y:=by
    have h2:(!zg8 b x y)=true:=h.2
    show zg8 b y x=(zg8 b x y||zg8 b y x)
    rw[Zuj] at h2
    rw[h2,Zsr]
   refine zbd (d:=.bl (spk 4 (txF b y nmL) (txF b x fmL))) (zdr (pre:=yho) (res:=yhd) (4,txF b y nmL,txF b x fmL) (zab (zac rfl) (zab (EvO.ev (zq8 hb (zac rfl) (zac rfl) (za5 (l:=nmL) ye6.symm zrj))) (zab (EvO.ev (zq8 hb (zac rfl) (zac rfl) (za5 (l:=fmL) yiz.symm yce))) zaf))) ⟨rfl,h5,⟨lx _ _,tl _ _⟩,lx _ _,tl _ _⟩) (hN2 _ ⟨.d (.lst ((txF b y f2).map encS)),?_⟩)
   rw[e];rfl
  .have e:spk n (txF b x f) (txF b y f2)=zh3 n b f x y:=by
    by_cases hn:n=4
    .subst hn
     obtain rfl:=h4 rfl
     rw[decide_eq_true rfl,Zrs,Zyc] at h
     have h:zg8 b x y=true:=h
     show zg8 b x y=(zg8 b x y||zg8 b y x)
     rw[h,Zw4]
    .show spk n (txF b x f) (txF b y (if n=4 then fmL else f))=_
     rw[if_neg hn,yhm h5 hn]
   refine za3 (hN2 _ ⟨.d (.lst ((txF b y f2).map encS)),?_⟩)
   rw[e];rfl
  rintro ss ⟨v8,rfl⟩
  refine zcj (zk6 (zac rfl)) (fun h=>?_) (fun h=>?_)
  .rw[if_pos h] at em
   exact zbd (d:=.int (t0+wt)) (zcg (zac rfl).b (zac rfl).b) (hN _ ⟨_,_,_,_,_,by rw[em];rfl⟩)
  .rw[if_neg (by rw[h];decide)] at em
   exact za3 (hN _ ⟨_,_,_,_,_,by rw[em]⟩)
 rintro ss ⟨v5,v6,v7,v8,v9,rfl⟩
 ((try dsimp only);refine zaq ?_)
 rw[Zpc]
 exact zaw (zac rfl) rt
noncomputable def duI(rs:List Rl)(b:List Fct)(x:List Nat)(ys:List (List Nat)):List Wt:=(ys.filter fun y=>decide (x<y) && !decide (dueR rs b x y=0)).map fun y=>(x,y,dueR rs b x y)
noncomputable def dueW(rs:List Rl)(b:List Fct)(cs xs:List (List Nat)):List Wt:=xs.flatMap fun x=>duI rs b x cs
theorem zyq(rs:List Rl)(b:List Fct)(x:List Nat)(ys:List (List Nat)):(duI rs b x ys).length<=ys.length:=by unfold duI;rw[Zlm];exact Zoc ..
theorem zoy(rs:List Rl)(b:List Fct)(cs:List (List Nat)):∀xs,(dueW rs b cs xs).length<=xs.length*cs.length
 | []=>by unfold dueW;simp
 | x::xs=>by
  have ih:=zoy rs b cs xs
  have h:=zyq rs b x cs
  have e:dueW rs b cs (x::xs)=duI rs b x cs++dueW rs b cs xs:=by unfold dueW;rw[Zsk]
  rw[e,Zlw,Zl1,Zx8];omega
section
variable{G H0 L:Hp}{ss:List Sl}{ta tb:TE}
theorem ykz{l m:List Nat}(a:EvB K G H0 L ss ta (.str l))(b:EvB K G H0 L ss tb (.str m)):Ev K G H0 L ss (tOp (fun x y H Q=>∃i j,x= .str i/\y= .str j/\Q (.bl (decide (i.cps.toList<j.cps.toList))) H) ta tb) (.bl (decide (l<m))) :=
 zen (w:=.bl (decide (l<m))) a b (fun H x y Q r1 r2 q=>by rw[r1.of_str,r2.of_str];exact⟨_,_,rfl,rfl,by rw[zet,zet];exact q⟩) fun _ _ _ _ _ _=>Rep.bl
end
noncomputable def yk8(q:List Rl×List Fct)(ds:List D):Prop:=ds=[.lst (q.1.map zhh),bkD q.2]/\q.1.length<=6/\(∀r∈q.1,RuOk r)/\(q.2.length<=14 /\ ∀g∈q.2,g.2.2.length<=15)/\(ded (nmD q.2)).length<64
noncomputable def ykm(q:List Rl×List Fct):List D:=(dueW q.1 q.2 (cardsL q.2) (cardsL q.2)).map encW
theorem zya(Z:Tx K mg ad0):FnOk P w K mg base CX0 5 ad0.Zgd ad0.Zgi zhs (SpGO K yk8 ykm):=by
 have Zju:=zo9 (P:=P) (w:=w) (base:=base) Z
 refine okGO Z.Zg4.F zeu (by rintro q ds ⟨rfl,_⟩;rfl) fun cdv A outer s H Q E hr=>⟨_,(zag (psn 2 zeu.nd (zau (show OpR _ _ (zxu K) from zos) (zg7 rfl (LcOk.of (Nx:=(["_law_rules_here", "_law_facts_here", "_law_cards_here", "_law_due_here", "_law_one", "_law_other", "_law_weight_here"]:List Str)) (sc:=zae zgc) (N':=(["_law_fact"]:List Str)) (nt:=1) (cs:=[]) rfl rfl (by decide +kernel)) (zbc (pv 1)) (fun _ _ _ _=>(zbk (i:=0) (show Zm9 (["_law_fact"]:List Str) by decide +kernel) rfl (Zo6 rfl))) (fun _ _ _ _=>zcb) (fun _ _ _ _=>(za7 (show IxR _ (rIxT K) from zdf) (pv 0) zai (fun _ _=>rfl)))) (zg7 rfl (LcOk.of (Nx:=(["_law_rules_here", "_law_facts_here", "_law_cards_here", "_law_due_here", "_law_one", "_law_other", "_law_weight_here"]:List Str)) (sc:=zae zgc) (N':=(["_law_fact"]:List Str)) (nt:=1) (cs:=[]) rfl rfl (by decide +kernel)) (zbc (pv 1)) (fun _ _ _ _=>(zbk (i:=0) (show Zm9 (["_law_fact"]:List Str) by decide +kernel) rfl (Zo6 rfl))) (fun _ _ _ _=>(zg1 (zas (show OpR _ _ (rInD K false) from zqq hr.units) (za7 (show IxR _ (rIxT K) from zdf) (pv 0) zai (fun _ _=>rfl)) (zhf (zaa zap (zaa zap zad))) (by with_unfolding_all rfl)))) (fun _ _ _ _=>(za7 (show IxR _ (rIxT K) from zdf) (pv 0) zai (fun _ _=>rfl))))))
   (zag (psn 3 zeu.nd (zco zad))
   (zag (zem Zm8 rfl (zbc (zar (show zb4 _ _ (zg5 P w K true) from zdm rfl) (by rfl) Z.Zez Zuk (zaa (zbx (show zb4 _ _ (zh5 P w K true) from zd7 rfl hr.units) (by rfl) Z.Zf5 Zt4 (zaa (pv 2) zad)) zad))) (pgn 4 zeu.nd) (zah (zem Zm8 rfl (zbc (zar (show zb4 _ _ (zg5 P w K true) from zdm rfl) (by rfl) Z.Zez Zuk (zaa (zbx (show zb4 _ _ (zh5 P w K true) from zd7 rfl hr.units) (by rfl) Z.Zf5 Zt4 (zaa (pv 2) zad)) zad))) (pgn 5 zeu.nd) (zag (psn 6 zeu.nd (pcX Zju hr Z.Ze8 (zaa (pv 0) (zaa (pv 1) (zaa (pv 4) (zaa (pv 5) zad))))))
   (zah (zcn (PW.pt (zir (zas yar (pv 4) (pv 5) (zay _)) (zgq (zas zo3 (pv 6) zai (zay _))))) (zah (zel (zdc Zny Zn7 Zoh zcq (pv 3) (zaa (zhf (zaa (pv 4) (zaa (pv 5) (zaa (pv 6) zad)))) zad)))) za2))))))
   (zah (zao (pv 3)))))),fun G ds q hp rt=>?_⟩
 obtain⟨rs,b⟩:=q
 obtain⟨rfl,hl,hrs,⟨hb,htx⟩,h64⟩:=hp
 have hb:b.length<=14:=hb
 have htx:∀g∈b,g.2.2.length<=15:=htx
 have rt:RtO K G H Q ((dueW rs b (cardsL b) (cardsL b)).map encW):=rt
 have hz:b.length<sizeLine:=by rw[Zl7];omega
 have h3:=Zoc (fun f:Fct=>isPw f.2.1) b
 refine zak (za6 (ds:=nmD b) (zor (EvO.l (zei b encF (fun f=>.str f.1) (zac rfl).l (zbo (by decide)) (by decide) hz fun f hf=>⟨_,zax,zdg (zac rfl) zaj.b rfl⟩)) (EvO.l (ziv b encF (fun f=>isPw f.2.1) (fun f=>.str f.2.2) (zac rfl).l (zbo (by decide)) (by decide) hz fun f hf=>⟨_,zax,zan (ya8 (d:=.str f.2.1) (ds:=ze6) (zdg (zac rfl) zaj.b rfl).b (zhv (zab (zby (by decide)) (zab (zby (by decide)) zaf)) (small (by decide))).b rfl rfl (by simp[D.dep])),fun _=>zdg (zac rfl) zaj.b rfl⟩)) (by rw[Zlm,Zlm,Zl7];omega)) fun p2=>zbb (i:=2) rfl ?_)
 ((try dsimp only);refine zaq ?_)
 have hl2:(nmD b).length<=1000:=by
  unfold nmD
  rw[Zlw,Zlm,Zlm];omega
 have hsrc:∀{L0:Hp} {ss:List Sl},ss[2]? = some (.d (.lst (nmD b)))->EvO K G H L0 ss (tCB (zg5 P w K true) (za8 (tCB (zh5 P w K true) (za8 (tVar 2) tNil)) tNil)) ((cardsL b).map encS):=fun h=>by
  rw[zij]
  exact zg2 (ded (nmD b)) (zi2 (zac h).l (hkS zkk) hl2) (hkS zkk) (alS zkk) (zct _) h64 fun d=>zcf
 have hcl:=zj9 b
 generalize cardsL b=cs at hcl hsrc rt
 refine zak (za6 (zbv zaf (small (by decide))) fun p=>?_)
 ((try dsimp only);refine zaq ?_)
 refine zak (zit encS cs (fun k ss=>∃v4 v5 v6:Sl,ss=[.d (.lst (rs.map zhh)),.d (bkD b),.d (.lst (nmD b)),.o p ((dueW rs b cs (cs.take k)).map encW),v4,v5,v6]) (EvO.ev (hsrc rfl)) ⟨.un,.un,.un,rfl⟩ ?_ ?_)
 .rintro L' k x ss hL hk ⟨v4,v5,v6,rfl⟩
  refine⟨_,zax,fun N hN=>?_⟩
  have hkl:=(Zlq.mp hk).1
  have hwl:=zoy rs b cs (cs.take k)
  rw[Znk] at hwl
  have hwb:(dueW rs b cs (cs.take k)).length<=14400:=Znm hwl (Zwe (show min k cs.length<=120 by omega) (show cs.length<=120 by omega))
  have ek:dueW rs b cs (cs.take (k+1))=dueW rs b cs (cs.take k)++duI rs b x cs:=by
   unfold dueW
   rw[Zob,hk,Zpu]
   congr 1
   exact Zp1 ..
  refine zit encS cs (fun j ss=>∃v5 v6:Sl,ss=[.d (.lst (rs.map zhh)),.d (bkD b),.d (.lst (nmD b)),.o p ((dueW rs b cs (cs.take k)++duI rs b x (cs.take j)).map encW),.d (encS x),v5,v6]) (EvO.ev (hsrc rfl)) ⟨v5,v6,by rw[Zz0,show duI rs b x []=[] from rfl,Zm1];rfl⟩ ?_ ?_
  .rintro L2 j y ss hL2 hj ⟨v5,v6,rfl⟩
   refine⟨_,zax,fun N2 hN2=>?_⟩
   have hil:=zyq rs b x (cs.take j)
   rw[Znk] at hil
   have ei:duI rs b x (cs.take (j+1))=duI rs b x (cs.take j)++(if (decide (x<y) && !decide (dueR rs b x y=0))=true then [(x,y,dueR rs b x y)] else []):=by
    unfold duI
    rw[Zob,hj,Zp3,Znc]
    congr 1
    show([y].filter _).map _=_
    rw[Zpx]
    split <;> rfl
   refine zak (zbd (d:=.int (dueR rs b x y)) (zdr (pre:=ylo) (res:=ylj) (rs,b,x,y) (zab (zac rfl) (zab (zac rfl) (zab (zac rfl) (zab (zac rfl) zaf)))) ⟨rfl,hl,hrs,hb,htx⟩) ?_)
   ((try dsimp only);refine zaq ?_)
   refine zcj (ze9 (zan (ykz (zac rfl).b (zac rfl).b)) fun _=>zan (zux (zac rfl).b zaj.b)) (fun h=>?_) (fun h=>?_)
   .rw[if_pos h] at ei
    refine zd8 (d:=encW (x,y,dueR rs b x y)) rfl (zhv (zab (zac rfl) (zab (zac rfl) (zab (zac rfl) zaf))) (small (by simp))) (by rw[Zl7,Zlm,Zlw];omega) (hN2 _ ⟨.d (encS y),.d (.int (dueR rs b x y)),?_⟩)
    rw[ei,<- Zpn,Znc (l₂:=[_])];rfl
   .rw[if_neg (by rw[h];decide),Zm1] at ei
    refine za3 (hN2 _ ⟨.d (encS y),.d (.int (dueR rs b x y)),?_⟩)
    rw[ei];rfl
  rintro ss ⟨v5,v6,rfl⟩
  rw[Zpc,<- ek]
  exact hN _ ⟨_,_,_,rfl⟩
 rintro ss ⟨v4,v5,v6,rfl⟩
 ((try dsimp only);refine zaq ?_)
 rw[Zpc]
 exact zi4 (i:=3) rfl rt
theorem ymc{b b':List Fct}(h:∀f,f∈b↔f∈b')(c f t:List Nat):t∈txF b c f↔t∈txF b' c f:=by
 unfold txF
 simp only[Zl2,Zns,h]
theorem mapm{a a':List (List Nat)}(h:∀x,x∈a↔x∈a')(x:List Nat):x∈a.map plF↔x∈a'.map plF:=by simp only[Zl2,h]
theorem yge{a a':List (List Nat)}(h:∀x,x∈a↔x∈a'):decide (a=[])=decide (a'=[]):=by
 rw[decide_eq_decide,Zur,Zur]
 simp only[h]
theorem ykx{b b':List Fct}{x y:List Nat}(hx:∀g t,t∈txF b x g↔t∈txF b' x g)(hy:∀g t,t∈txF b y g↔t∈txF b' y g)(n:Nat)(f:List Nat):zh3 n b f x y=zh3 n b' f x y:=by
 match n with
 | 0=>exact zgv (hx f) (hy f)
 | 1=>exact zgv (mapm (hx f)) (mapm (hy f))
 | 2 =>
  show zeb _ _=zeb _ _
  rw[Zmj,zcu,zcu]
  simp only[mapm (hx f),mapm (hy f)]
 | 3 =>
  show byO _ _=byO _ _
  unfold byO
  rw[yge (hx f),yge (hy f),zgv (mapm (hx f)) (mapm (hy f))]
 | _+4 =>
  show(zg8 b x y||zg8 b y x)=(zg8 b' x y||zg8 b' y x)
  unfold zg8
  rw[zgv (mapm (hx nmL)) (mapm (hy fmL)),zgv (mapm (hy nmL)) (mapm (hx fmL))]
theorem ymk{b b':List Fct}{x y:List Nat}(hx:∀g t,t∈txF b x g↔t∈txF b' x g)(hy:∀g t,t∈txF b y g↔t∈txF b' y g)(rs:List Rl):totR rs b x y=totR rs b' x y:=by
 unfold totR
 congr 1
 funext t r
 rw[ykx hx hy]
theorem yf8(b:List Fct)(x y z f:List Nat)(hz:z=x\/z=y)(t:List Nat):t∈txF (fcF b x++fcF b y) z f↔t∈txF b z f:=by
 unfold txF fcF
 simp only[Zl2,Zns,Zme,Zmd,decide_eq_true_eq]
 constructor
 .rintro⟨u,⟨hu,h1,h2⟩,e⟩
  exact⟨u,⟨hu.elim (fun q=>q.1) fun q=>q.1,h1,h2⟩,e⟩
 .rintro⟨u,⟨hu,h1,h2⟩,e⟩
  exact⟨u,⟨hz.elim (fun q=>.inl ⟨hu,h1.trans q⟩) fun q=>.inr ⟨hu,h1.trans q⟩,h1,h2⟩,e⟩
theorem yl3{b b':List Fct}(h:∀f,f∈b↔f∈b')(rs:List Rl)(x y:List Nat):wtW rs b x y=dueR rs b' x y:=by
 unfold wtW
 rw[<- ydo]
 exact ymk (fun g t=>(yf8 b x y x g (.inl rfl) t).trans (ymc h x g t)) (fun g t=>(yf8 b x y y g (.inr rfl) t).trans (ymc h y g t)) rs
theorem ydb{b b':List Fct}(h:∀f,f∈b↔f∈b'):cardsL b=cardsL b':=by
 have p:(ded (nmD b)).Perm (ded (nmD b')):=(Zqb (zct _) (zct _)).mpr fun d=>by
  rw[zcf,zcf]
  unfold nmD
  simp only[Zme,Zl2,Zns,h]
 unfold cardsL zki
 rw[zmo (alS fun d hd=>zkk d (zcf.mp hd)) p]
theorem yfj(b:List Fct):(cardsL b).Pairwise (· < ·):=by
 have h:((cardsL b).map encS).Pairwise fun a b=>a.leB b=true:=by rw[zij];exact zh7 _
 rw[Zq7] at h
 refine(List.pairwise_and_iff.mpr ⟨h,zsf b⟩).imp fun {a c} hh=>?_
 have h1:¬ [c.map Ztf]<[a.map Ztf]:=Zqm.mpr (of_decide_eq_true hh.1)
 have h2:¬ c<a:=fun z=>h1 (Zpg.mpr (.inl ((ofNat_lt c a).mp z)))
 by_cases h3:a<c
 .exact h3
 .exact absurd (Zu0 (Zqm.mp h2) (Zqm.mp h3)) hh.2
theorem yig{rs:List Rl}{b b':List Fct}(hw:∀x y,wtW rs b' x y=dueR rs b x y){x:List Nat}{r pre:List (List Nat)}(hp:∀p∈pre,p<x)(hr:∀y∈r,x<y):duI rs b x (pre++x::r)=innW rs b' x r:=by
 unfold duI innW
 rw[Zp3,List.filter_eq_nil_iff.mpr (fun p h=>by rw[decide_eq_false fun z=>Zsd _ (Zwm z (hp p h))];simp),Zry,Zoe (by rw[decide_eq_false (Zsd _)];simp),Zym fun y hy=>(by rw[hw,decide_eq_true (hr y hy),Zrs]:(decide (x<y) && !decide (dueR rs b x y=0))= !decide (wtW rs b' x y=0))]
 exact Zrz fun y _=>by rw[hw]
theorem yfg(rs:List Rl)(b:List Fct)(x:List Nat)(r:List (List Nat)):wtsK rs b (x::r) (x::r).length=innW rs b x r++wtsK rs b r r.length:=by
 unfold wtsK
 rw[Zl1,Zsx,Zsk,List.flatMap_map]
 rfl
theorem ybp{rs:List Rl}{b b':List Fct}(hw:∀x y,wtW rs b' x y=dueR rs b x y):∀cs pre:List (List Nat),(∀p∈pre,∀c∈cs,p<c)->cs.Pairwise (· < ·)->wtsK rs b' cs cs.length=dueW rs b (pre++cs) cs
 | [],_,_,_=>rfl
 | x::r,pre,hp,hs=>by
  have h1:=Zt5.mp hs
  have ih:=ybp hw r (pre++[x]) (fun p hq c hc=>(Zme.mp hq).elim (fun q=>hp p q c (Zlp _ hc)) fun q=>by rw[Zlz.mp q];exact h1.1 c hc) h1.2
  rw[Zpn] at ih
  rw[yfg,ih,<- yig hw (fun p h=>hp p h x Zls) h1.1]
  unfold dueW
  rw[Zsk];rfl
noncomputable def lnsB:List Fct->List Ln
 | []=>[([],none)]
 | f::b=>(f::b).map fun f=>(rowL f,some f)
theorem ydm(b:List Fct):txtOf (lnsB b)=glue [10] (b.map rowL):=by
 cases b with
 | nil=>rfl
 | cons f b=>unfold txtOf lnsB;rw[Zm0];rfl
theorem zwk:zhl []=true:=by decide +kernel
theorem yja{b:List Fct}(h:∀f∈b,zjf f):∀p∈lnsB b,LnOk p:=by
 cases b with
 | nil=>intro p hp;rw[Zlz.mp hp];exact⟨by simp,by simp,zwk⟩
 | cons f b=>intro p hp;obtain⟨g,hg,rfl⟩:=Zl2.mp hp;exact ykp (h g hg)
theorem zx3{b:List Fct}(h:∀f∈b,foF f=f):zdj (lnsB b)=b:=by
 have key:∀l:List Fct,(∀f∈l,foF f=f)->zdj (l.map fun f=>(rowL f,some f))=l:=fun l=>by
  induction l with
  | nil=>intro _;rfl
  | cons f l ih =>
   intro h
   have:=ih fun g hg=>h g (Zlp _ hg)
   unfold zdj at this ⊢
   rw[Zl0,Znq (b:=f) (by show some (foF f)=some f;rw[h f Zls]),this]
 cases b with
 | nil=>rfl
 | cons f b=>exact key _ h
theorem ydf(b:List Fct):(lnsB b).length<=b.length+1:=by cases b <;> simp[lnsB]
theorem yh4(b:List Fct):lnsB b≠[]:=by cases b <;> simp[lnsB]
noncomputable def lnsR:List Rl->List LnR
 | []=>[([],none)]
 | f::b=>(f::b).map fun f=>(rowR f,some f)
theorem yd1(b:List Rl):txtR (lnsR b)=glue [10] (b.map rowR):=by
 cases b with
 | nil=>rfl
 | cons f b=>unfold txtR lnsR;rw[Zm0];rfl
theorem yhf{r:Rl}(h:RuOk r):10∉rowR r:=by
 have h1:=(zu3 r.2.2).2.1
 have h2:=yft r.2.2.natAbs 10 (by decide)
 have h3:=(zp2 _ h.2.1).2.1
 have h4:=(zlz r.1 h.1.1).2.1
 unfold rowR rowW
 simp only[glue,Zme,Zlz]
 rintro((z | z) | (z | z) | (z | z) | z)
 .exact h1 z
 .cases z
 .exact h2 z
 .cases z
 .exact h3 z
 .cases z
 .exact h4 z
theorem yhn{b:List Rl}(h:∀f∈b,RuOk f):∀p∈lnsR b,ybt p:=by
 cases b with
 | nil=>intro p hp;rw[Zlz.mp hp];exact⟨by simp,by simp,zwk⟩
 | cons f b =>
  intro p hp
  obtain⟨g,hg,rfl⟩:=Zl2.mp hp
  exact⟨yhf (h g hg),by have:=zlv (h g hg);show(rowR g).length<=100;omega,rfl,h g hg⟩
theorem zxt(b:List Rl):zex (lnsR b)=b:=by
 have key:∀l:List Rl,zex (l.map fun f=>(rowR f,some f))=l:=fun l=>by
  induction l with
  | nil=>rfl
  | cons f l ih=>unfold zex at ih ⊢;rw[Zl0,Zn9];show f::_=_;rw[ih]
 cases b with
 | nil=>rfl
 | cons f b=>exact key _
theorem yds(b:List Rl):(lnsR b).length<=b.length+1:=by cases b <;> simp[lnsR]
theorem yhe(b:List Rl):lnsR b≠[]:=by cases b <;> simp[lnsR]
theorem nbW(t:Wt):(encW t).nb=true:=rfl
theorem dpW(t:Wt):(encW t).dep<=1:=by unfold encW;simp[D.dep,D.deps]
theorem yj5(Z:Tx K mg ad0):FnOk P w K mg base CX0 21 ad0.Zji ad0.Zip zy0 (yc8 K):=by
 have Zgm:=znq (P:=P) (w:=w) (base:=base) Z
 have Zkj:=zrm (P:=P) (w:=w) (base:=base) Z
 have Zki:=zst (P:=P) (w:=w) (base:=base) Z
 have Zko:=zrz (P:=P) (w:=w) (base:=base) Z
 have Zkp:=zsx (P:=P) (w:=w) (base:=base) Z
 have Zle:=zyc (P:=P) (w:=w) (base:=base) Z
 have Zk7:=zya (P:=P) (w:=w) (base:=base) Z
 have Zkk:=ztc (P:=P) (w:=w) (base:=base) Z
 have Zjt:=zov (P:=P) (w:=w) (base:=base) Z
 have Zjs:=zp3 (P:=P) (w:=w) (base:=base) Z
 refine Z.Zim.F.ok zh4 (fun vs H Q E h=>by obtain⟨a,ns,rfl,_⟩:=h;rfl) (fun cdv A outer s H vs Q E hr h=>⟨_,(zag (psn 1 zh4.nd (pcX Zgm hr Z.Zbt (zaa (pv 0) (zaa zai zad))))
   (zag (psn 2 zh4.nd (pcX Zgm hr Z.Zbt (zaa (pv 0) (zaa zai zad))))
   (zag (psn 3 zh4.nd (pcX Zko hr Z.Zf2 (zaa (za4 zma (pv 0) (zbf zai) (zbf zai)) (zaa (pcX Zki hr Z.Zf8 (zaa (zau zeh (pv 1) zai) (zaa (zau zcd zai (zau zb7 (pv 1) zai)) zad))) (zaa (pv 2) zad)))))
   (zag (psn 4 zh4.nd (pcX Zkp hr Z.Zf0 (zaa (pcX Zgm hr Z.Zbt (zaa (pv 0) (zaa zai zad))) (zaa (pv 2) zad))))
   (zag (psn 5 zh4.nd (pcX Zkk hr Z.Zfz (zaa (zdc Zmm Zpr Zpq zi7 zap (zaa (zg7 rfl (LcOk.of (Nx:=(["_law_script", "_law_first", "_law_cell", "_law_facts_here", "_law_rows", "_law_book", "_law_rules_here", "_law_due_here", "_law_again", "_law_found", "_law_one"]:List Str)) (sc:=zae zxs) (N':=(["_law_fact"]:List Str)) (nt:=1) (cs:=[]) rfl rfl (by decide +kernel)) (zbc (pv 3)) (fun _ _ _ _=>(zbk (i:=0) (show Zm9 (["_law_fact"]:List Str) by decide +kernel) rfl (Zo6 rfl))) (fun _ _ _ _=>zcb) (fun _ _ _ _=>(show PE _ _ (tBM K "str" (zwp K) _ _) from zdc Zmm Zpr Zpq (show MtR _ _ (zwp K) from yc1) zap (zaa (pv 0) zad)))) zad)) zad)))
   (zag (psn 6 zh4.nd (pcX Zjt hr Z.Zfh (zaa (zdc Zmm Zpr Zpq zi7 zap (zaa (zg7 rfl (LcOk.of (Nx:=(["_law_script", "_law_first", "_law_cell", "_law_facts_here", "_law_rows", "_law_book", "_law_rules_here", "_law_due_here", "_law_again", "_law_found", "_law_one"]:List Str)) (sc:=zae zxs) (N':=(["_law_row_here"]:List Str)) (nt:=1) (cs:=[]) rfl rfl (by decide +kernel)) (zbc (pv 4)) (fun _ _ _ _=>(zbk (i:=0) (show Zm9 (["_law_row_here"]:List Str) by decide +kernel) rfl (Zo6 rfl))) (fun _ _ _ _=>zcb) (fun _ _ _ _=>(pcX Zle hr Z.Zg1 (zaa (pv 0) zad)))) zad)) zad)))
   (zag (psn 7 zh4.nd (pcX Zk7 hr Z.Zg4 (zaa (pv 4) (zaa (pv 3) zad))))
   (zag (zem Zm8 rfl (zjs (by rfl) Z.Zgu (zaa zai zad)) (pgn 8 zh4.nd) (zag (psn 9 zh4.nd (pcX Zjs hr Z.Zfj (zaa (pv 6) (zaa (pv 5) zad))))
   (zag (zcn (PW.pt (zsu (zkq (zhg (zar (show zb4 _ _ (fun xs H Q=>∃p ys,xs=[.ref p,.ty "list"]/\SqL K H p ys/\Q (.bl true) H) from zjr) (by rfl) Z.Zb3 Ztz (zaa (pv 9) (zaa (zo4 (v:=.ty "list") (by rfl) Z.Zjz boot_list rfl) zad))))) (zmz (zas (show OpR _ _ (rNeD K) from zz3 hr.units) (pv 9) (pv 7) (zay _))))) (zah (zao zs0)) za2)
   (zag (zem Zm8 rfl (zbc (pv 9)) (pgn 10 zh4.nd) (zah (zcn (PW.pt (zsu (zkq (zhg (zar (show zb4 _ _ (fun xs H Q=>∃p ys,xs=[.ref p,.ty "tuple"]/\SqT K H p ys/\Q (.bl true) H) from zja) (by rfl) Z.Zb3 Ztz (zaa (pv 10) (zaa (zo4 (v:=.ty "tuple") (by rfl) Z.Zh3 boot_tuple rfl) zad))))) (zmz (zkq (zhg (pcX Zkj hr Z.Zf6 (zaa (za7 (show IxR _ (rIxT K) from zdf) (pv 10) zai (fun _ _=>rfl)) zad))))))) (zah (zao zs0)) za2)))
   (zah (zel (zol Zny Zz3 F.type_list_clear ydq (pv 9))))))))
   (zah (zao zs0)))))))))),?_⟩)
 obtain⟨a,ns,rfl,sq,hl,hQ⟩:=h
 have r:Reps K H [.lst (ns.map .int)] [.ref a]:=Reps.cons (Rep.lst sq (zrh ns)) Reps.nil
 have rt:RtD K H H Q (.bl true):=fun v F H' e r=>by rw[r.of_bl];exact hQ H'
 refine(?_:Go K H H H _ (slots 11 [.lst (ns.map .int)]) _) H H _ (ze5 (Same.refl H) r (by simp))
 have cell:∀k:Int,∃i,zhc [.lst (ns.map .int),.int k]= .int i:=fun k=>by
  show ∃i,(ns.map D.int).getD k.toNat (.int 0)= .int i
  rw[Zlk,Zlx]
  cases ns[k.toNat]? <;> exact⟨_,rfl⟩
 obtain⟨i0,ei0⟩:=cell 0
 obtain⟨i1,ei1⟩:=cell 1
 obtain⟨i2,ei2⟩:=cell 2
 refine zak (zbd (d:=.int i0) (by rw[<- ei0];exact zbn (pre:=zpd) (res:=zhc) (zab (zac rfl) (zab zaj zaf)) ⟨ns,0,rfl,by omega⟩) ?_)
 ((try dsimp only);refine zaq ?_)
 refine zak (zbd (d:=.int i1) (by rw[<- ei1];exact zbn (pre:=zpd) (res:=zhc) (zab (zac rfl) (zab zaj zaf)) ⟨ns,1,rfl,by omega⟩) ?_)
 ((try dsimp only);refine zaq ?_)
 have m0:=Znd i0 (show(4:Int)≠0 by decide)
 have m1:=Zmp i0 (show(0:Int)<4 by decide)
 have hcl:(cardsN (i0 / 4) (2+i0 % 4)).length=(2+i0 % 4).toNat:=by unfold cardsN;simp
 have hcn:∀x∈cardsN (i0 / 4) (2+i0 % 4),zky x:=fun x hx=>by
  unfold cardsN at hx
  obtain⟨k,_,rfl⟩:=Zl2.mp hx
  exact yc2 _ _
 have hcall:∀{X0:XK} {L0:Hp} {ss:List Sl},ss[1]? = some (.d (.int i0))->EvO K H H L0 ss (zk4 (SpO K zop zlr) [] X0 (za8 (tOp (rI CDiv fun i j=>.int (i / j)) (tVar 1) (tC (.int 4))) (za8 (tOp (rI0 fun i j=>.int (i+j)) (tC (.int 2)) (tOp (rI (fun _ j=>0<j) fun i j=>.int (i % j)) (tVar 1) (tC (.int 4)))) tNil))) ((cardsN (i0 / 4) (2+i0 % 4)).map .str):=fun h =>
  za0 (pre:=zop) (res:=zlr) (zab (zec (zac h).b zaj.b ⟨by decide,by decide⟩) (zab (zcg zaj.b (zb9 (zac h).b zaj.b (by decide)).b) zaf)) ⟨i0 / 4,2+i0 % 4,rfl,by omega,by omega⟩
 generalize cardsN (i0 / 4) (2+i0 % 4)=cs at hcl hcn hcall
 have hc0:cs≠[]:=fun z=>by rw[z,Zm6] at hcl;omega
 generalize hxs:(ns.drop 3).take 14=xs
 have hxl:xs.length<=14:=by rw[<- hxs];simp;omega
 have exs:cutD (ns.map D.int) (some 3) (some 17)=xs.map D.int:=by
  rw[zpa _ (by decide) (by decide),<- hxs,List.map_take,Yak];rfl
 refine zak (ybk (i:=3) (pre:=ylc) (R:=ykk) (ds:=[.lst (xs.map .int),.lst (cs.map .str),.int i1]) (zab (by rw[<- exs];exact(zmq (zac rfl).l (zba zaj.b) (zba zaj.b)).ev) (zab (EvO.ev (hcall rfl)) (zab (zac rfl) zaf))) ⟨xs,cs,i1,rfl,hxl,hc0,hcn⟩ fun rs hR pb=>zbb (i:=3) rfl ?_)
 obtain⟨b,rfl,hbl,hbf⟩:=hR xs cs i1 rfl
 ((try dsimp only);refine zaq ?_)
 refine zak (ybk (i:=4) (pre:=ylv) (R:=yko) (ds:=[.int i2,.int i1]) (zab (by rw[<- ei2];exact zbn (pre:=zpd) (res:=zhc) (zab (zac rfl) (zab zaj zaf)) ⟨ns,2,rfl,by omega⟩) (zab (zac rfl) zaf)) ⟨i2,i1,rfl⟩ fun rs hR pr=>zbb (i:=4) rfl ?_)
 obtain⟨rows,rfl,hrl,hro⟩:=hR
 ((try dsimp only);refine zaq ?_)
 have hrf:∀r∈rows,r.1<5 /\ ∀c∈fEf r,c<128:=fun r hr=>⟨(hro r hr).1.1,by unfold fEf;split;exact(hro r hr).1.2.1;exact zrj⟩
 have hbt:∀g∈b,g.2.2.length<=15:=fun g hg=>(hbf g hg).2.2.1
 have hfa:=zx3 fun f hf=>(hbf f hf).2.1
 have hdl:=ye3 b
 have e1:=ydf b
 have em:∀f,f∈mkB (dedF b)↔f∈b:=fun f=>by rw[yix,ye9]
 have eR:ycu (lnsB b)=(mkB (dedF b)).map encF:=by unfold ycu;rw[hfa]
 have hrow:∀f∈b,glue [32] [f.1,f.2.1,f.2.2]=rowL f:=fun f hf=>by unfold rowL;simp[glue]
 have hs1:=zvs (ls:=b.map rowL) (n:=61) (by intro l hm;obtain⟨p,hp,rfl⟩:=Zl2.mp hm;exact zud (hbf p hp).1)
 have hs2:=zvs (ls:=rows.map rowR) (n:=40) (by intro l hm;obtain⟨p,hp,rfl⟩:=Zl2.mp hm;exact zlv (hro p hp))
 rw[Zlm] at hs1 hs2
 refine zak (za6 (ds:=(mkB (dedF b)).map encF) (by
  rw[<- eR]
  refine zib (pre:=yjp) (res:=ycu) (lnsB b) (zab (d:=.str (txtOf (lnsB b))) ?_ zaf) ⟨rfl,yh4 b,by omega,yja fun f hf=>(hbf f hf).1,by rw[hfa];omega⟩
  rw[ydm]
  refine zkg (z:=[10]) (ls:=b.map rowL) (za5 (l:=[10]) (by decide +kernel) (by decide)).b ?_ (by rw[Zlm];simp only[Zl1,Zm6];omega)
  rw[Zm0]
  refine EvO.l (zei b encF (fun f=>.str (rowL f)) (zac rfl).l (zbo (by decide)) (by decide) (by rw[Zl7];omega) fun f hf=>⟨_,zax,?_⟩)
  have:=zud (hbf f hf).1
  rw[<- hrow f hf] at this ⊢
  refine yfl (ls:=[f.1,f.2.1,f.2.2]) (za5 (l:=[32]) (by decide +kernel) (by decide)).b (zac rfl) (by decide) ?_
  simp[glue] at this ⊢
  omega) fun pk=>zbb (i:=5) rfl ?_)
 ((try dsimp only);refine zaq ?_)
 have eQ:zwb ad0.Zac ad0.Zae ad0.Zad ad0.Zab ad0.Zaa (lnsR rows)=rows.map (insR ad0.Zac ad0.Zae ad0.Zad ad0.Zab ad0.Zaa):=by unfold zwb;rw[zxt]
 have e2:=yds rows
 refine zak (za6 (ds:=rows.map (insR ad0.Zac ad0.Zae ad0.Zad ad0.Zab ad0.Zaa)) (by
  rw[<- eQ]
  refine zib (pre:=yfx ad0.Zac ad0.Zae ad0.Zad ad0.Zab ad0.Zaa) (res:=zwb ad0.Zac ad0.Zae ad0.Zad ad0.Zab ad0.Zaa) (lnsR rows) (zab (d:=.str (txtR (lnsR rows))) ?_ zaf) ⟨rfl,yhe rows,by omega,yhn hro⟩
  rw[yd1]
  refine zkg (z:=[10]) (ls:=rows.map rowR) (za5 (l:=[10]) (by decide +kernel) (by decide)).b ?_ (by rw[Zlm];simp only[Zl1,Zm6];omega)
  rw[Zm0]
  exact EvO.l (zei rows zhh (fun r=>.str (rowR r)) (zac rfl).l (zbo (by decide)) (by decide) (by rw[Zl7];omega) fun r hr=>⟨_,zax,zdr (pre:=yll) (res:=ylm) r (zab (zac rfl) zaf) ⟨rfl,hro r hr⟩⟩)) fun pq=>zbb (i:=6) rfl ?_)
 ((try dsimp only);refine zaq ?_)
 have h64:(ded (nmD b)).length<64:=by
  have h1:=zm1 (nmD b)
  have h3:=Zoc (fun f:Fct=>isPw f.2.1) b
  unfold nmD at h1 ⊢
  rw[Zlw,Zlm,Zlm] at h1
  omega
 have hkl:(mkB (dedF b)).length<=14:=by rw[yg4];omega
 have h64k:(ded (nmD (mkB (dedF b)))).length<64:=by
  have h1:=zm1 (nmD (mkB (dedF b)))
  have h3:=Zoc (fun f:Fct=>isPw f.2.1) (mkB (dedF b))
  unfold nmD at h1 ⊢
  rw[Zlw,Zlm,Zlm] at h1
  omega
 have hkt:∀g∈mkB (dedF b),g.2.2.length<=15:=fun g hg=>hbt g ((em g).mp hg)
 have eW:yez (rows,mkB (dedF b))=(dueW rows b (cardsL b) (cardsL b)).map encW:=by
  unfold yez
  show(wtsK rows (mkB (dedF b)) (cardsL (mkB (dedF b))) (cardsL (mkB (dedF b))).length).map encW=_
  rw[ydb em,ybp (fun x y=>yl3 em rows x y) (cardsL b) [] (fun p hp=>by cases hp) (yfj b)]
  rfl
 refine zak (za6 (ds:=(dueW rows b (cardsL b) (cardsL b)).map encW) (zib (pre:=yk8) (res:=ykm) (rows,b) (zab (zac rfl) (zab (zac rfl) zaf)) ⟨rfl,hrl,hro,⟨hbl,hbt⟩,h64⟩) fun pd=>zbb (i:=7) rfl ?_)
 ((try dsimp only);refine zaq ?_)
 have hwl:(dueW rows b (cardsL b) (cardsL b)).length<=14400:=by
  have h1:=zoy rows b (cardsL b) (cardsL b)
  have h2:=zj9 b
  exact Znm h1 (Zwe (show(cardsL b).length<=120 by omega) (show(cardsL b).length<=120 by omega))
 generalize dueW rows b (cardsL b) (cardsL b)=W at eW hwl
 generalize mkB (dedF b)=bk at eW hkl hkt h64k
 have nb:(D.lst (W.map encW)).nb=true:=by rw[D.nb_lst];exact D.nbs_map nbW W
 have dp:(D.lst (W.map encW)).dep<=60:=by rw[D.dep_lst];have:=D.deps_map dpW W;omega
 refine zak (zlo (n:=2) (fun k ss=>∃(v8 v9 v10:Sl),ss=[.d (.lst (ns.map .int)),.d (.int i0),.d (.int i1),.d (bkD b),.d (.lst (rows.map zhh)),.d (bkD bk),.d (.lst (rows.map (insR ad0.Zac ad0.Zae ad0.Zad ad0.Zab ad0.Zaa))),.d (.lst (W.map encW)),v8,v9,v10]) (zlh zaj.b zpe) ⟨by decide,by decide⟩ ⟨_,_,_,rfl⟩ ?_ ?_ (fun _ _ _ h=>h))
 .rintro k ss hk ⟨v8,v9,v10,rfl⟩ N hN
  refine zak (za6 (ds:=W.map encW) (by
   rw[<- eW]
   exact zib (pre:=ymh ad0.Zac ad0.Zae ad0.Zad ad0.Zab ad0.Zaa) (res:=yez) (rows,bk) (zab (zac rfl) (zab (zac rfl) zaf)) ⟨rfl,by show rows.length<=20;omega,hrf,⟨hkl,hkt⟩,h64k⟩) fun pf=>?_)
  ((try dsimp only);refine zaq ?_)
  refine zak (zcj (b:=(!true || !decide (D.lst (W.map encW)= .lst (W.map encW)))) (zkm (zh1 (zk6 (yl8 (zef rfl)))) fun _=>zan (ya6 (zef rfl).b (zac rfl).b nb nb dp)) (fun hb=>by simp at hb) (fun _=>za3 ?_))
  ((try dsimp only);refine zaq ?_)
  refine zak (yg2 (i0:=9) (p:=pf) encW W (fun j ss=>∃v10:Sl,ss=[.d (.lst (ns.map .int)),.d (.int i0),.d (.int i1),.d (bkD b),.d (.lst (rows.map zhh)),.d (bkD bk),.d (.lst (rows.map (insR ad0.Zac ad0.Zae ad0.Zad ad0.Zab ad0.Zaa))),.d (.lst (W.map encW)),.d (.int (k:Int)),.o pf (W.map encW),v10]) ⟨_,rfl⟩ (by rintro j ss ⟨v10,rfl⟩;rfl) ?_ ?_)
  .rintro j t ss hj ⟨v10,rfl⟩
   refine⟨_,zax,fun N2 hN2=>?_⟩
   exact zcj (b:=(!true || !true)) (zkm (zh1 (zk6 (yjn (ds:=[.str t.1,.str t.2.1,.int t.2.2]) (zac rfl).b))) fun _=>zh1 (zk6 (zbn (pre:=fun ds=>∃c:Int,ds=[.int c]) (res:=fun _=>.bl true) (ds:=[.int t.2.2]) (zab (zdg (ds:=[.str t.1,.str t.2.1,.int t.2.2]) (zac rfl) zaj.b rfl) zaf) ⟨t.2.2,rfl⟩))) (fun hb=>by simp at hb) (fun _=>za3 (hN2 _ ⟨_,rfl⟩))
  rintro ss ⟨v10,rfl⟩
  ((try dsimp only);refine zaq ?_)
  exact ydh (p:=pf) rfl (zbb (i:=9) rfl (hN _ ⟨_,_,_,rfl⟩))
 rintro ss ⟨v8,v9,v10,rfl⟩
 ((try dsimp only);refine zaq ?_)
 exact zaw ybq rt
end
theorem lb1{n:Str}{s:Stmt}{ps:List Str}(hp:ps.length=1)(h:∀(kV doc pm:Zll) (an:Option Addr) (cdv ct a0:Zll),Zpf (Zmx n n (zbr s) (za9 s) (zae s) .none kV doc pm an cdv ct) ⟨[a0],[]⟩=pure (ps.zip [a0])):Bd n s ps:=fun kV doc pm an cdv ct us hl=>match us,hl.trans hp with
 | [a0],_=>h kV doc pm an cdv ct a0
theorem lb2{n:Str}{s:Stmt}{ps:List Str}(hp:ps.length=2)(h:∀(kV doc pm:Zll) (an:Option Addr) (cdv ct a0 a1:Zll),Zpf (Zmx n n (zbr s) (za9 s) (zae s) .none kV doc pm an cdv ct) ⟨[a0,a1],[]⟩=pure (ps.zip [a0,a1])):Bd n s ps:=fun kV doc pm an cdv ct us hl=>match us,hl.trans hp with
 | [a0,a1],_=>h kV doc pm an cdv ct a0 a1
theorem lb3{n:Str}{s:Stmt}{ps:List Str}(hp:ps.length=3)(h:∀(kV doc pm:Zll) (an:Option Addr) (cdv ct a0 a1 a2:Zll),Zpf (Zmx n n (zbr s) (za9 s) (zae s) .none kV doc pm an cdv ct) ⟨[a0,a1,a2],[]⟩=pure (ps.zip [a0,a1,a2])):Bd n s ps:=fun kV doc pm an cdv ct us hl=>match us,hl.trans hp with
 | [a0,a1,a2],_=>h kV doc pm an cdv ct a0 a1 a2
theorem lb4{n:Str}{s:Stmt}{ps:List Str}(hp:ps.length=4)(h:∀(kV doc pm:Zll) (an:Option Addr) (cdv ct a0 a1 a2 a3:Zll),Zpf (Zmx n n (zbr s) (za9 s) (zae s) .none kV doc pm an cdv ct) ⟨[a0,a1,a2,a3],[]⟩=pure (ps.zip [a0,a1,a2,a3])):Bd n s ps:=fun kV doc pm an cdv ct us hl=>match us,hl.trans hp with
 | [a0,a1,a2,a3],_=>h kV doc pm an cdv ct a0 a1 a2 a3
theorem Zk2:Bd "is_name" zhq zgj:=lb1 rfl fun _ _ _ _ _ _ _=>rfl
theorem Zk0:Bd "is_sign" zjj zhw:=lb1 rfl fun _ _ _ _ _ _ _=>rfl
theorem Zkz:Bd "is_text" zh8 zh6:=lb1 rfl fun _ _ _ _ _ _ _=>rfl
theorem Zjo:Bd "pair_fact" zgs zdk:=lb3 rfl fun _ _ _ _ _ _ _ _ _=>rfl
theorem Zlf:Bd "tidy" zwn zrf:=lb1 rfl fun _ _ _ _ _ _ _=>rfl
theorem Zkr:Bd "cards_of" zev zgg:=lb1 rfl fun _ _ _ _ _ _ _=>rfl
theorem Zil:Bd "is_passed_by" zdo zcs:=lb1 rfl fun _ _ _ _ _ _ _=>rfl
theorem Zj7:Bd "told_rows" zfc zdh:=lb1 rfl fun _ _ _ _ _ _ _=>rfl
theorem Zkv:Bd "fact_of" zjq zh9:=lb1 rfl fun _ _ _ _ _ _ _=>rfl
theorem Zig:Bd "numbered_fact" zc0 zck:=lb2 rfl fun _ _ _ _ _ _ _ _=>rfl
theorem Zkb:Bd "read_book" ze0 zfl:=lb1 rfl fun _ _ _ _ _ _ _=>rfl
theorem Zld:Bd "shares" zlg zil:=lb2 rfl fun _ _ _ _ _ _ _ _=>rfl
theorem Zjc:Bd "near_forms" zfv zd0:=lb1 rfl fun _ _ _ _ _ _ _=>rfl
theorem Zjy:Bd "all_forms" zg9 ze1:=lb1 rfl fun _ _ _ _ _ _ _=>rfl
theorem Zkq:Bd "plain_of" zgd zgi:=lb1 rfl fun _ _ _ _ _ _ _=>rfl
theorem Zjm:Bd "plains_of" zfk ze8:=lb1 rfl fun _ _ _ _ _ _ _=>rfl
theorem Zkl:Bd "texts_of" zgo zgp:=lb3 rfl fun _ _ _ _ _ _ _ _ _=>rfl
theorem Zjf:Bd "was_called" zfw zdv:=lb3 rfl fun _ _ _ _ _ _ _ _ _=>rfl
theorem Zjr(kV doc pm:Zll)(an:Option Addr)(cdv ct:Zll)(us:List Zll)(hl:us.length=(["self", "weight", "field"]:List Str).length):Zpf (Zmx "__init__" "Rule.__init__" (zbr Zbn) (za9 Zbn) (zae Zbn) .none kV doc pm an cdv ct) ⟨us,[]⟩=pure ((["self", "weight", "field"]:List Str).zip us):=match us,hl with
 | [_,_,_],_=>rfl
theorem Ziu(kV doc pm:Zll)(an:Option Addr)(cdv ct:Zll)(us:List Zll)(hl:us.length=(["self", "book", "one", "other"]:List Str).length):Zpf (Zmx "speaks" "Rule.speaks" (zbr Zbf) (za9 Zbf) (zae Zbf) .none kV doc pm an cdv ct) ⟨us,[]⟩=pure ((["self", "book", "one", "other"]:List Str).zip us):=match us,hl with
 | [_,_,_,_],_=>rfl
theorem Zic(kV doc pm:Zll)(an:Option Addr)(cdv ct:Zll)(us:List Zll)(hl:us.length=(["self", "texts", "others"]:List Str).length):Zpf (Zmx "speaks_by" "Same.speaks_by" (zbr Zaq) (za9 Zaq) (zae Zaq) .none kV doc pm an cdv ct) ⟨us,[]⟩=pure ((["self", "texts", "others"]:List Str).zip us):=match us,hl with
 | [_,_,_],_=>rfl
theorem Zh4(kV doc pm:Zll)(an:Option Addr)(cdv ct:Zll)(us:List Zll)(hl:us.length=(["self"]:List Str).length):Zpf (Zmx "sort_word" "Same.sort_word" (zbr Zar) (za9 Zar) (zae Zar) .none kV doc pm an cdv ct) ⟨us,[]⟩=pure ((["self"]:List Str).zip us):=match us,hl with
 | [_],_=>rfl
theorem Zia(kV doc pm:Zll)(an:Option Addr)(cdv ct:Zll)(us:List Zll)(hl:us.length=(["self", "texts", "others"]:List Str).length):Zpf (Zmx "speaks_by" "Like.speaks_by" (zbr Zam) (za9 Zam) (zae Zam) .none kV doc pm an cdv ct) ⟨us,[]⟩=pure ((["self", "texts", "others"]:List Str).zip us):=match us,hl with
 | [_,_,_],_=>rfl
theorem Zh5(kV doc pm:Zll)(an:Option Addr)(cdv ct:Zll)(us:List Zll)(hl:us.length=(["self"]:List Str).length):Zpf (Zmx "sort_word" "Like.sort_word" (zbr Zas) (za9 Zas) (zae Zas) .none kV doc pm an cdv ct) ⟨us,[]⟩=pure ((["self"]:List Str).zip us):=match us,hl with
 | [_],_=>rfl
theorem Zh6(kV doc pm:Zll)(an:Option Addr)(cdv ct:Zll)(us:List Zll)(hl:us.length=(["self", "texts", "others"]:List Str).length):Zpf (Zmx "speaks_by" "Near.speaks_by" (zbr Zao) (za9 Zao) (zae Zao) .none kV doc pm an cdv ct) ⟨us,[]⟩=pure ((["self", "texts", "others"]:List Str).zip us):=match us,hl with
 | [_,_,_],_=>rfl
theorem Zib(kV doc pm:Zll)(an:Option Addr)(cdv ct:Zll)(us:List Zll)(hl:us.length=(["self"]:List Str).length):Zpf (Zmx "sort_word" "Near.sort_word" (zbr Zal) (za9 Zal) (zae Zal) .none kV doc pm an cdv ct) ⟨us,[]⟩=pure ((["self"]:List Str).zip us):=match us,hl with
 | [_],_=>rfl
theorem Zhr(kV doc pm:Zll)(an:Option Addr)(cdv ct:Zll)(us:List Zll)(hl:us.length=(["self", "texts", "others"]:List Str).length):Zpf (Zmx "speaks_by" "Other.speaks_by" (zbr Zai) (za9 Zai) (zae Zai) .none kV doc pm an cdv ct) ⟨us,[]⟩=pure ((["self", "texts", "others"]:List Str).zip us):=match us,hl with
 | [_,_,_],_=>rfl
theorem Zhy(kV doc pm:Zll)(an:Option Addr)(cdv ct:Zll)(us:List Zll)(hl:us.length=(["self"]:List Str).length):Zpf (Zmx "sort_word" "Other.sort_word" (zbr Zaj) (za9 Zaj) (zae Zaj) .none kV doc pm an cdv ct) ⟨us,[]⟩=pure ((["self"]:List Str).zip us):=match us,hl with
 | [_],_=>rfl
theorem Ziy(kV doc pm:Zll)(an:Option Addr)(cdv ct:Zll)(us:List Zll)(hl:us.length=(["self", "weight"]:List Str).length):Zpf (Zmx "__init__" "Former.__init__" (zbr Zbh) (za9 Zbh) (zae Zbh) .none kV doc pm an cdv ct) ⟨us,[]⟩=pure ((["self", "weight"]:List Str).zip us):=match us,hl with
 | [_,_],_=>rfl
theorem Zie(kV doc pm:Zll)(an:Option Addr)(cdv ct:Zll)(us:List Zll)(hl:us.length=(["self", "book", "one", "other"]:List Str).length):Zpf (Zmx "speaks" "Former.speaks" (zbr Zaz) (za9 Zaz) (zae Zaz) .none kV doc pm an cdv ct) ⟨us,[]⟩=pure ((["self", "book", "one", "other"]:List Str).zip us):=match us,hl with
 | [_,_,_,_],_=>rfl
theorem Zhp(kV doc pm:Zll)(an:Option Addr)(cdv ct:Zll)(us:List Zll)(hl:us.length=(["self"]:List Str).length):Zpf (Zmx "sort_word" "Former.sort_word" (zbr Zah) (za9 Zah) (zae Zah) .none kV doc pm an cdv ct) ⟨us,[]⟩=pure ((["self"]:List Str).zip us):=match us,hl with
 | [_],_=>rfl
theorem Zj6:Bd "made_rule" zgx zfp:=lb3 rfl fun _ _ _ _ _ _ _ _ _=>rfl
theorem Zj5:Bd "is_amount" zey zdi:=lb1 rfl fun _ _ _ _ _ _ _=>rfl
theorem Zj8:Bd "read_rule" zg3 zfa:=lb1 rfl fun _ _ _ _ _ _ _=>rfl
theorem Zih:Bd "numbered_rule" zc7 zci:=lb2 rfl fun _ _ _ _ _ _ _ _=>rfl
theorem Zjg:Bd "read_rules" zdz zd4:=lb1 rfl fun _ _ _ _ _ _ _=>rfl
theorem Zj9:Bd "weight_of" zha ze7:=lb4 rfl fun _ _ _ _ _ _ _ _ _ _=>rfl
theorem Zij:Bd "facts_by_card" zc8 zcl:=lb1 rfl fun _ _ _ _ _ _ _=>rfl
theorem Zje:Bd "weights_of" zfy zd2:=lb2 rfl fun _ _ _ _ _ _ _ _=>rfl
theorem Zi1:Bd "_law_cell_at" zer zc9:=lb2 rfl fun _ _ _ _ _ _ _ _=>rfl
theorem Zjv:Bd "_law_whole" zgt zff:=lb1 rfl fun _ _ _ _ _ _ _=>rfl
theorem Zjd:Bd "_law_stream" zf0 zd1:=lb2 rfl fun _ _ _ _ _ _ _ _=>rfl
theorem Zjx:Bd "_law_cards" zez zfi:=lb2 rfl fun _ _ _ _ _ _ _ _=>rfl
theorem Zkn:Bd "_law_bent" zf5 zf4:=lb2 rfl fun _ _ _ _ _ _ _ _=>rfl
theorem Zj2:Bd "_law_field" zg0 zfd:=lb2 rfl fun _ _ _ _ _ _ _ _=>rfl
theorem Zj3:Bd "_law_facts" zhe zfq:=lb3 rfl fun _ _ _ _ _ _ _ _ _=>rfl
theorem Zjq:Bd "_law_rules" zgw ze3:=lb2 rfl fun _ _ _ _ _ _ _ _=>rfl
theorem Zkx:Bd "_law_row" zjw zhn:=lb1 rfl fun _ _ _ _ _ _ _=>rfl
theorem Zj1:Bd "_law_texts" ze2 ze4:=lb3 rfl fun _ _ _ _ _ _ _ _ _=>rfl
theorem Zi9:Bd "_law_plains" zcx zdt:=lb1 rfl fun _ _ _ _ _ _ _=>rfl
theorem Zkh:Bd "_law_meet" zf7 zga:=lb2 rfl fun _ _ _ _ _ _ _ _=>rfl
theorem Zkm:Bd "_law_near" zic zgb:=lb2 rfl fun _ _ _ _ _ _ _ _=>rfl
theorem Zja:Bd "_law_speaks" zd9 zdw:=lb3 rfl fun _ _ _ _ _ _ _ _ _=>rfl
theorem Zjb:Bd "_law_weight" zfu zd6:=lb4 rfl fun _ _ _ _ _ _ _ _ _ _=>rfl
theorem Zkw:Bd "_law_due" zgc zhs:=lb2 rfl fun _ _ _ _ _ _ _ _=>rfl
theorem Zlb:Bd "law" zxs zy0:=lb1 rfl fun _ _ _ _ _ _ _=>rfl
theorem all_mk{l:Zum}{w:Zng}{K:Zlh}{mg:Str->Option Zll}{fa Zaa Zae Zad Zab Zhf Zac Zc3 Zbg Ze7 Zgj Zge Zch Zh1 Zfl Zb5 Zcg Zgf Zbu Zd2 Zfw Zcs Zen Zfc Zec Zfe Zc4 Zag Zaf Za3 Zba Za8 Za6 Zbc Za4 Zax Zaw Zbk Zbd Zap Zei Zcf Zd3 Zbw Zdb Zd4 Zbz Zcv Zcd Zdz Zcr Zeb Zfq Zed Zeh Zd7 Zgc Zea Zb6 Zfd Zfm Zct Zda Zgd Zji:Addr}{t_FIGURES t_GREATEST t_LETTERS t_LONGEST_NAME t_LONGEST_TEXT t_NO_SIGN:Tok}{Ze6 Zgl Zgg Zcj Zhx Zfo Zb4 Zci Zgh Zbx Zek Zfx Zc2 Zd8 Zfi Zeg Zfg Zc1 Za0 Zat Za7 Za2 Za1 Za9 Zbb Za5 Zay Zav Zbl Zbe Zan Zej Zck Zee Zbv Zcx Zd5 Zby Zc8 Zca Zem Zc9 Zdx Zfp Zeo Zel Zd6 Zgb Zef Zcy Zff Zfa Zcw Zc7 Zgi Zip:Zot}(hfa:mg "law" = some (.ref fa))(Zif:mg "Former" = some (.ref Zaa))(Zj0:mg "Like" = some (.ref Zae))(Zjp:mg "Near" = some (.ref Zad))(Zi3:mg "Other" = some (.ref Zab))(Zjn:mg "Rule" = some (.ref Zhf))(Zka:mg "Same" = some (.ref Zac))(Zdf:Cls K Zac)(Zi4:Mk K Zac Zag)(Zdg:Cls K Zae)(Ziv:Mk K Zae Zag)(Zdm:Cls K Zad)(Ziw:Mk K Zad Zag)(Zb8:Cls K Zab)(Zii:Mk K Zab Zag)(Zdc:Cls K Zaa)(Zhz:Mk K Zaa Zbk)(Zce:zbt K Zac "field")(Zcc:zbt K Zae "field")(Zcb:zbt K Zad "field")(Zb2:zbt K Zab "field")(Zcp:zbt K Zaa "field")(Zcl:Meth K Zaa "sort_word" Zap)(Zc5:Meth K Zab "sort_word" Zaw)(Zdo:Meth K Zad "sort_word" Za4)(Zdr:Meth K Zae "sort_word" Za6)(Zdw:Meth K Zac "sort_word" Zba)(Zes:Meth K Zaa "speaks" Zbd)(Zfb:Meth K Zab "speaks" Zaf)(Zfy:Meth K Zad "speaks" Zaf)(Zfu:Meth K Zae "speaks" Zaf)(Zfv:Meth K Zac "speaks" Zaf)(Zdh:zbt K Zac "weight")(Zdi:zbt K Zae "weight")(Zdj:zbt K Zad "weight")(Zco:zbt K Zab "weight")(Zb7:zbt K Zaa "weight")(Zgx:CMeth K Zhf "__init__" Zag)(Zdt:Meth K Zae "speaks_by" Za8)(Zdn:Meth K Zad "speaks_by" Zbc)(Zc0:Meth K Zab "speaks_by" Zax)(Zds:Meth K Zac "speaks_by" Za3)(Zhj:mg "FIELDS" = some (.ref Zc3))(Zgw:TupK K Zc3 [[110,97,109,101],[102,111,114,109,101,114],[119,97,121],[100,97,121],[109,97,114,107]])(Zep:mg "PAIR_FIELDS" = some (.ref Zbg))(Zeq:TupK K Zbg [[115,97,109,101],[97,112,97,114,116]])(Zhw:mg "FIGURES" = some (.str (T [48,49,50,51,52,53,54,55,56,57]) t_FIGURES))(Zgq:mg "GREATEST" = some (.int 1000000000 t_GREATEST))(Zht:mg "LETTERS" = some (.str (T [97,98,99,100,101,102,103,104,105,106,107,108,109,110,111,112,113,114,115,116,117,118,119,120,121,122]) t_LETTERS))(Zfs:mg "LONGEST_NAME" = some (.int 12 t_LONGEST_NAME))(Zft:mg "LONGEST_TEXT" = some (.int 40 t_LONGEST_TEXT))(Zh0:mg "NO_SIGN" = some (.int 37 t_NO_SIGN))(Zgk:FX K mg "is_name" zhq zgj Ze7 Ze6)(Zg2:FX K mg "is_sign" zjj zhw Zgj Zgl)(Zg3:FX K mg "is_text" zh8 zh6 Zge Zgg)(Zf3:FX K mg "pair_fact" zgs zdk Zch Zcj)(Zir:FX K mg "tidy" zwn zrf Zh1 Zhx)(Zgs:FX K mg "cards_of" zev zgg Zfl Zfo)(Zdk:FX K mg "is_passed_by" zdo zcs Zb5 Zb4)(Zdy:FX K mg "told_rows" zfc zdh Zcg Zci)(Zg0:FX K mg "fact_of" zjq zh9 Zgf Zgh)(Zcq:FX K mg "numbered_fact" zc0 zck Zbu Zbx)(Zfz:FX K mg "read_book" ze0 zfl Zd2 Zek)(Zb9:FX K mg "shares" zlg zil Zfw Zfx)(Zfr:FX K mg "near_forms" zfv zd0 Zcs Zc2)(Zd0:FX K mg "all_forms" zg9 ze1 Zen Zd8)(Zfk:FX K mg "plain_of" zgd zgi Zfc Zfi)(Zbi:FX K mg "plains_of" zfk ze8 Zec Zeg)(Zau:FX K mg "texts_of" zgo zgp Zfe Zfg)(Zcu:FX K mg "was_called" zfw zdv Zc4 Zc1)(Zb0:Fun K "__init__" "Rule.__init__" Zbn Zag Za0)(Zb1:zcc K Za0 ["self", "weight", "field"] [])(Zbs:Fun K "speaks" "Rule.speaks" Zbf Zaf Zat)(Zbr:zcc K Zat ["self", "book", "one", "other"] [])(Zew:Fun K "speaks_by" "Same.speaks_by" Zaq Za3 Za7)(Ze4:zcc K Za7 ["self", "texts", "others"] [])(Ze5:Fun K "sort_word" "Same.sort_word" Zar Zba Za2)(Zer:zcc K Za2 ["self"] [])(Ze2:Fun K "speaks_by" "Like.speaks_by" Zam Za8 Za1)(Zet:zcc K Za1 ["self", "texts", "others"] [])(Zev:Fun K "sort_word" "Like.sort_word" Zas Za6 Za9)(Ze0:zcc K Za9 ["self"] [])(Zex:Fun K "speaks_by" "Near.speaks_by" Zao Zbc Zbb)(Ze1:zcc K Zbb ["self", "texts", "others"] [])(Zeu:Fun K "sort_word" "Near.sort_word" Zal Za4 Za5)(Ze3:zcc K Za5 ["self"] [])(Zdp:Fun K "speaks_by" "Other.speaks_by" Zai Zax Zay)(Zdu:zcc K Zay ["self", "texts", "others"] [])(Zdv:Fun K "sort_word" "Other.sort_word" Zaj Zaw Zav)(Zdq:zcc K Zav ["self"] [])(Zgn:Fun K "__init__" "Former.__init__" Zbh Zbk Zbl)(Zgo:zcc K Zbl ["self", "weight"] [])(Ze9:Fun K "speaks" "Former.speaks" Zaz Zbd Zbe)(Zfn:zcc K Zbe ["self", "book", "one", "other"] [])(Zdd:Fun K "sort_word" "Former.sort_word" Zah Zap Zan)(Zcz:zcc K Zan ["self"] [])(Zf1:FX K mg "made_rule" zgx zfp Zei Zej)(Zf9:FX K mg "is_amount" zey zdi Zcf Zck)(Zf7:FX K mg "read_rule" zg3 zfa Zd3 Zee)(Zcm:FX K mg "numbered_rule" zc7 zci Zbw Zbv)(Zfh:FX K mg "read_rules" zdz zd4 Zdb Zcx)(Zf4:FX K mg "weight_of" zha ze7 Zd4 Zd5)(Zcn:FX K mg "facts_by_card" zc8 zcl Zbz Zby)(Zfj:FX K mg "weights_of" zfy zd2 Zcv Zc8)(Zbt:FX K mg "_law_cell_at" zer zc9 Zcd Zca)(Zf6:FX K mg "_law_whole" zgt zff Zdz Zem)(Zbq:FX K mg "_law_stream" zf0 zd1 Zcr Zc9)(Zf8:FX K mg "_law_cards" zez zfi Zeb Zdx)(Zgt:FX K mg "_law_bent" zf5 zf4 Zfq Zfp)(Zd1:FX K mg "_law_field" zg0 zfd Zed Zeo)(Zf2:FX K mg "_law_facts" zhe zfq Zeh Zel)(Zf0:FX K mg "_law_rules" zgw ze3 Zd7 Zd6)(Zg1:FX K mg "_law_row" zjw zhn Zgc Zgb)(Zbm:FX K mg "_law_texts" ze2 ze4 Zea Zef)(Zde:FX K mg "_law_plains" zcx zdt Zb6 Zcy)(Zdl:FX K mg "_law_meet" zf7 zga Zfd Zff)(Zgr:FX K mg "_law_near" zic zgb Zfm Zfa)(Zc6:FX K mg "_law_speaks" zd9 zdw Zct Zcw)(Ze8:FX K mg "_law_weight" zfu zd6 Zda Zc7)(Zg4:FX K mg "_law_due" zgc zhs Zgd Zgi)(Zim:FX K mg "law" zxs zy0 Zji Zip)(Zky:mg "abs" = none)(Zin:mg "all" = none)(Zjh:mg "any" = none)(Zj4:mg "bool" = none)(Zga:mg "enumerate" = none)(Zh2:mg "int" = none)(Zb3:mg "isinstance" = none)(Zbj:mg "len" = none)(Zjz:mg "list" = none)(Zjk:mg "max" = none)(Zjj:mg "min" = none)(Zkt:mg "ord" = none)(Zgu:mg "range" = none)(Zf5:mg "set" = none)(Zez:mg "sorted" = none)(Zjl:mg "str" = none)(Zh3:mg "tuple" = none) :
  ∃fd:Zot,(∀(s:Zlo) (v:Zll),Zvy s fd ⟨[v],[]⟩ [("_law_script", v)]) /\ ∀base:Heap,K.In base->base.Ns Zpo mg->FnOk l.prog w K mg base CX0 21 fa fd ["_law_script"] (yc8 K):=by
 have e:=hfa.symm.trans Zim.M
 cases e
 exact⟨_,Zim.bt Zlb,fun base _ _=>yj5 (ad0:=⟨Zaa,Zae,Zad,Zab,Zhf,Zac,Zc3,Zbg,Ze7,Zgj,Zge,Zch,Zh1,Zfl,Zb5,Zcg,Zgf,Zbu,Zd2,Zfw,Zcs,Zen,Zfc,Zec,Zfe,Zc4,Zag,Zaf,Za3,Zba,Za8,Za6,Zbc,Za4,Zax,Zaw,Zbk,Zbd,Zap,Zei,Zcf,Zd3,Zbw,Zdb,Zd4,Zbz,Zcv,Zcd,Zdz,Zcr,Zeb,Zfq,Zed,Zeh,Zd7,Zgc,Zea,Zb6,Zfd,Zfm,Zct,Zda,Zgd,_,_,_,_,_,_,_,Ze6,Zgl,Zgg,Zcj,Zhx,Zfo,Zb4,Zci,Zgh,Zbx,Zek,Zfx,Zc2,Zd8,Zfi,Zeg,Zfg,Zc1,Za0,Zat,Za7,Za2,Za1,Za9,Zbb,Za5,Zay,Zav,Zbl,Zbe,Zan,Zej,Zck,Zee,Zbv,Zcx,Zd5,Zby,Zc8,Zca,Zem,Zc9,Zdx,Zfp,Zeo,Zel,Zd6,Zgb,Zef,Zcy,Zff,Zfa,Zcw,Zc7,Zgi,Zip⟩) ⟨Zif,Zj0,Zjp,Zi3,Zjn,Zka,Zdf,Zi4,Zdg,Ziv,Zdm,Ziw,Zb8,Zii,Zdc,Zhz,Zce,Zcc,Zcb,Zb2,Zcp,Zcl,Zc5,Zdo,Zdr,Zdw,Zes,Zfb,Zfy,Zfu,Zfv,Zdh,Zdi,Zdj,Zco,Zb7,Zgx,Zdt,Zdn,Zc0,Zds,Zhj,Zgw,Zep,Zeq,Zhw,⟨_,rfl⟩,Zgq,⟨_,rfl⟩,Zht,⟨_,rfl⟩,Zfs,⟨_,rfl⟩,Zft,⟨_,rfl⟩,Zh0,⟨_,rfl⟩,Zgk,Zg2,Zg3,Zf3,Zir,Zgs,Zdk,Zdy,Zg0,Zcq,Zfz,Zb9,Zfr,Zd0,Zfk,Zbi,Zau,Zcu,Zb0,Zb1,Zbs,Zbr,Zew,Ze4,Ze5,Zer,Ze2,Zet,Zev,Ze0,Zex,Ze1,Zeu,Ze3,Zdp,Zdu,Zdv,Zdq,Zgn,Zgo,Ze9,Zfn,Zdd,Zcz,Zf1,Zf9,Zf7,Zcm,Zfh,Zf4,Zcn,Zfj,Zbt,Zf6,Zbq,Zf8,Zgt,Zd1,Zf2,Zf0,Zg1,Zbm,Zde,Zdl,Zgr,Zc6,Ze8,Zg4,Zim,Zky,Zin,Zjh,Zj4,Zga,Zh2,Zb3,Zbj,Zjz,Zjk,Zjj,Zkt,Zgu,Zf5,Zez,Zjl,Zh3⟩⟩
theorem Zlc{K:Zlh}{q_FIELDS:Addr}{od_FIELDS:Option Addr}{nn_FIELDS:Nat}{sl_FIELDS:Array (Option Zll)}{t0_FIELDS t1_FIELDS t2_FIELDS t3_FIELDS t4_FIELDS:Tok}(l_FIELDS:K.lookup q_FIELDS=some ⟨.type "tuple", od_FIELDS,.seq #[.str (T [110,97,109,101]) t0_FIELDS,.str (T [102,111,114,109,101,114]) t1_FIELDS,.str (T [119,97,121]) t2_FIELDS,.str (T [100,97,121]) t3_FIELDS,.str (T [109,97,114,107]) t4_FIELDS] nn_FIELDS,sl_FIELDS⟩):TupK K q_FIELDS [[110,97,109,101],[102,111,114,109,101,114],[119,97,121],[100,97,121],[109,97,114,107]]:=yaw l_FIELDS rfl rfl rfl (by decide) (by decide) (fun i l u h1 h2=>by rcases i with _ | _ | _ | _ | _ | i <;> simp at h1 h2 <;> (subst h1;subst h2;exact⟨_,rfl⟩))
theorem Zi0{K:Zlh}{q_PAIR_FIELDS:Addr}{od_PAIR_FIELDS:Option Addr}{nn_PAIR_FIELDS:Nat}{sl_PAIR_FIELDS:Array (Option Zll)}{t0_PAIR_FIELDS t1_PAIR_FIELDS:Tok}(l_PAIR_FIELDS:K.lookup q_PAIR_FIELDS=some ⟨.type "tuple", od_PAIR_FIELDS,.seq #[.str (T [115,97,109,101]) t0_PAIR_FIELDS,.str (T [97,112,97,114,116]) t1_PAIR_FIELDS] nn_PAIR_FIELDS,sl_PAIR_FIELDS⟩):TupK K q_PAIR_FIELDS [[115,97,109,101],[97,112,97,114,116]]:=yaw l_PAIR_FIELDS rfl rfl rfl (by decide) (by decide) (fun i l u h1 h2=>by rcases i with _ | _ | i <;> simp at h1 h2 <;> (subst h1;subst h2;exact⟨_,rfl⟩))
theorem walk{l:Zum}{q:Zmi}{loose:List Str}{XP:(Str->Option Zll)->Heap->Prop}{YP:Zng->Heap->Prop}{d:DefRec}{K:Params->Zlh}(hn:l.most=some 63)(hdf:d.params.defaults=[])
  (hY:∀(w:Zng) (h:Heap),YP w h->(K w.params).In h)
  (F:∀(w:Zng) (mg:Str->Option Zll) (fa:Addr) (h:Heap),(K w.params).In h->h.Ns Zpo mg->mg d.name=some (.ref fa) ->
   ∃fd:Zot,(∀(s:Zlo) (u:Zll),Zvy s fd ⟨[u],[]⟩ [("_law_script", u)]) /\ ∀base:Heap,(K w.params).In base->base.Ns Zpo mg->FnOk l.prog w (K w.params) mg base CX0 21 fa fd ["_law_script"] (yc8 (K w.params))) :
  Zy0 q loose XP YP l.row.toRowW d [] (fun f vs=>Zx3 f vs) :=
 L2.walk_of (n:=63) (k:=21) (x:="_law_script") (CX:=fun _=>CX0) (sp:=fun w=>yc8 (K w.params)) hn (by decide) hdf ⟨rfl,by decide,by decide,rfl⟩ hY F (fun _ _ a ns hl _ hS=>⟨a,ns,rfl,hS,hl,fun _=>rfl⟩) fun _ _ _ _ _ z=>z
end My
namespace PySem.W.Fast
noncomputable def tw765960830414565597:Unit:=()
noncomputable def tw9335978856451973152:Unit:=()
noncomputable def tw14209384525138984844:Unit:=()
noncomputable def tw4977503322698705282:Unit:=()
noncomputable def tw11917187053602313525:Unit:=()
noncomputable def tw11851505225466658055:Unit:=()
noncomputable def tw10410354666165755576:Unit:=()
noncomputable def tw14543287375255761650:Unit:=()
noncomputable def tw6204184749101503943:Unit:=()
noncomputable def tw3802544614160860847:Unit:=()
noncomputable def tw13036547881713142694:Unit:=()
noncomputable def tw2663698598398149571:Unit:=()
noncomputable def tw11578466671982521660:Unit:=()
noncomputable def tw10892563883856374977:Unit:=()
noncomputable def tw10210175400429211221:Unit:=()
noncomputable def tw7420683872080003311:Unit:=()
noncomputable def tw2362858770851775826:Unit:=()
noncomputable def tw7059276936501552731:Unit:=()
noncomputable def tw6828075285195060884:Unit:=()
noncomputable def tw8976047139696643270:Unit:=()
noncomputable def tw11063168733720285428:Unit:=()
noncomputable def tw3003560857958567170:Unit:=()
noncomputable def tw3798820976872474527:Unit:=()
noncomputable def tw10919397600801877667:Unit:=()
noncomputable def tw2654429929938453365:Unit:=()
noncomputable def tw6651623581427422054:Unit:=()
noncomputable def tw14662800912976698146:Unit:=()
noncomputable def tw16224787001635088552:Unit:=()
noncomputable def tw15934511787687249722:Unit:=()
noncomputable def tw6407653395642119840:Unit:=()
noncomputable def tw8649212812699514283:Unit:=()
noncomputable def tw15729026199114035991:Unit:=()
noncomputable def tw4950043548275066341:Unit:=()
noncomputable def tw9193230391484083211:Unit:=()
noncomputable def tw16211422362832696488:Unit:=()
noncomputable def tw4284823907944765805:Unit:=()
noncomputable def tw11575707803167425822:Unit:=()
noncomputable def tw7762986256163082305:Unit:=()
noncomputable def tw741350465822205357:Unit:=()
noncomputable def tw2608883723868003833:Unit:=()
noncomputable def tw12588633155404595643:Unit:=()
noncomputable def tw4307841617905052310:Unit:=()
noncomputable def tw15643161582747715119:Unit:=()
noncomputable def tw18006742426194404361:Unit:=()
noncomputable def tw7551183809574402850:Unit:=()
noncomputable def tw13700391301691364194:Unit:=()
noncomputable def tw4889640093821442469:Unit:=()
noncomputable def tw17576074119571181152:Unit:=()
noncomputable def tw9093298381042107317:Unit:=()
noncomputable def tw10098190472019106487:Unit:=()
noncomputable def tw15986586178716034328:Unit:=()
noncomputable def tw90058996782112085:Unit:=()
noncomputable def tw12238983476580100327:Unit:=()
noncomputable def tw1957024008886080464:Unit:=()
noncomputable def tw15207392351949501643:Unit:=()
noncomputable def tw13163976938596790839:Unit:=()
noncomputable def tw3650420984500140838:Unit:=()
end PySem.W.Fast
open PySem PySem.W PyProof.Rows
set_option maxRecDepth 100000 in
set_option maxHeartbeats 0 in
theorem PySem.Challenge.cw_folk_k24_whole_weights_of_texts_holds : PySem.Challenge.rw_folk_k24_whole_weights_of_texts.Holds := by
 w_on;o_law;k_head;(case hw=>w_witness2)
 k_fill
 refine My.walk (l:=Zqz) rfl rfl (fun w h Y=>PySem.W.kIn_of Y) ?F
 case F =>
  intro w mg fa h KX G hmg
  refine' My.all_mk hmg (mg_of KX G ?a_Former) (mg_of KX G ?a_Like) (mg_of KX G ?a_Near) (mg_of KX G ?a_Other) (mg_of KX G ?a_Rule) (mg_of KX G ?a_Same) ⟨?cl0_Same,?cl1_Same,?cl2_Same,?cl3_Same⟩ ⟨?mk_Same,?me_Same_init,?mf18,?mc_Same⟩ ⟨?cl0_Like,?cl1_Like,?cl2_Like,?cl3_Like⟩ ⟨?mk_Like,?me_Like_init,?mf18,?mc_Like⟩ ⟨?cl0_Near,?cl1_Near,?cl2_Near,?cl3_Near⟩ ⟨?mk_Near,?me_Near_init,?mf18,?mc_Near⟩ ⟨?cl0_Other,?cl1_Other,?cl2_Other,?cl3_Other⟩ ⟨?mk_Other,?me_Other_init,?mf18,?mc_Other⟩ ⟨?cl0_Former,?cl1_Former,?cl2_Former,?cl3_Former⟩ ⟨?mk_Former,?me_Former_init,?mf28,?mc_Former⟩ ((show Zmy _ _ _=some none from ?na_Same_field)) ((show Zmy _ _ _=some none from ?na_Like_field)) ((show Zmy _ _ _=some none from ?na_Near_field)) ((show Zmy _ _ _=some none from ?na_Other_field)) ((show Zmy _ _ _=some none from ?na_Former_field)) ⟨?me_Former_sort_word,?mf30,?k30⟩ ⟨?me_Other_sort_word,?mf27,?k27⟩ ⟨?me_Near_sort_word,?mf25,?k25⟩ ⟨?me_Like_sort_word,?mf23,?k23⟩ ⟨?me_Same_sort_word,?mf21,?k21⟩ ⟨?me_Former_speaks,?mf29,?k29⟩ ⟨?me_Other_speaks,?mf19,?k19⟩ ⟨?me_Near_speaks,?mf19,?k19⟩ ⟨?me_Like_speaks,?mf19,?k19⟩ ⟨?me_Same_speaks,?mf19,?k19⟩ ((show Zmy _ _ _=some none from ?na_Same_weight)) ((show Zmy _ _ _=some none from ?na_Like_weight)) ((show Zmy _ _ _=some none from ?na_Near_weight)) ((show Zmy _ _ _=some none from ?na_Other_weight)) ((show Zmy _ _ _=some none from ?na_Former_weight)) ⟨?ca0_Rule_init,?ca1_Rule_init,?ca2_Rule_init,?k18⟩ ⟨?me_Like_speaks_by,?mf22,?k22⟩ ⟨?me_Near_speaks_by,?mf24,?k24⟩ ⟨?me_Other_speaks_by,?mf26,?k26⟩ ⟨?me_Same_speaks_by,?mf20,?k20⟩ (mg_of KX G ?a_FIELDS) (My.Zlc ?l_FIELDS) (mg_of KX G ?a_PAIR_FIELDS) (My.Zi0 ?l_PAIR_FIELDS) (mg_of KX G ?a_FIGURES) (mg_of KX G ?a_GREATEST) (mg_of KX G ?a_LETTERS) (mg_of KX G ?a_LONGEST_NAME) (mg_of KX G ?a_LONGEST_TEXT) (mg_of KX G ?a_NO_SIGN) (L2.fx_mk KX G My.Zk2 ?a0 ?l0 ?c0 ?k0) (L2.fx_mk KX G My.Zk0 ?a1 ?l1 ?c1 ?k1) (L2.fx_mk KX G My.Zkz ?a2 ?l2 ?c2 ?k2) (L2.fx_mk KX G My.Zjo ?a3 ?l3 ?c3 ?k3) (L2.fx_mk KX G My.Zlf ?a4 ?l4 ?c4 ?k4) (L2.fx_mk KX G My.Zkr ?a5 ?l5 ?c5 ?k5) (L2.fx_mk KX G My.Zil ?a6 ?l6 ?c6 ?k6) (L2.fx_mk KX G My.Zj7 ?a7 ?l7 ?c7 ?k7) (L2.fx_mk KX G My.Zkv ?a8 ?l8 ?c8 ?k8) (L2.fx_mk KX G My.Zig ?a9 ?l9 ?c9 ?k9) (L2.fx_mk KX G My.Zkb ?a10 ?l10 ?c10 ?k10) (L2.fx_mk KX G My.Zld ?a11 ?l11 ?c11 ?k11) (L2.fx_mk KX G My.Zjc ?a12 ?l12 ?c12 ?k12) (L2.fx_mk KX G My.Zjy ?a13 ?l13 ?c13 ?k13) (L2.fx_mk KX G My.Zkq ?a14 ?l14 ?c14 ?k14) (L2.fx_mk KX G My.Zjm ?a15 ?l15 ?c15 ?k15) (L2.fx_mk KX G My.Zkl ?a16 ?l16 ?c16 ?k16) (L2.fx_mk KX G My.Zjf ?a17 ?l17 ?c17 ?k17) (L2.fun_mk (st:=My.Zbn) ?l18 ?c18 ?k18) ((L2.fun_mk (st:=My.Zbn) ?l18 ?c18 ?k18).binds My.Zjr) (L2.fun_mk (st:=My.Zbf) ?l19 ?c19 ?k19) ((L2.fun_mk (st:=My.Zbf) ?l19 ?c19 ?k19).binds My.Ziu) (L2.fun_mk (st:=My.Zaq) ?l20 ?c20 ?k20) ((L2.fun_mk (st:=My.Zaq) ?l20 ?c20 ?k20).binds My.Zic) (L2.fun_mk (st:=My.Zar) ?l21 ?c21 ?k21) ((L2.fun_mk (st:=My.Zar) ?l21 ?c21 ?k21).binds My.Zh4) (L2.fun_mk (st:=My.Zam) ?l22 ?c22 ?k22) ((L2.fun_mk (st:=My.Zam) ?l22 ?c22 ?k22).binds My.Zia) (L2.fun_mk (st:=My.Zas) ?l23 ?c23 ?k23) ((L2.fun_mk (st:=My.Zas) ?l23 ?c23 ?k23).binds My.Zh5) (L2.fun_mk (st:=My.Zao) ?l24 ?c24 ?k24) ((L2.fun_mk (st:=My.Zao) ?l24 ?c24 ?k24).binds My.Zh6) (L2.fun_mk (st:=My.Zal) ?l25 ?c25 ?k25) ((L2.fun_mk (st:=My.Zal) ?l25 ?c25 ?k25).binds My.Zib) (L2.fun_mk (st:=My.Zai) ?l26 ?c26 ?k26) ((L2.fun_mk (st:=My.Zai) ?l26 ?c26 ?k26).binds My.Zhr) (L2.fun_mk (st:=My.Zaj) ?l27 ?c27 ?k27) ((L2.fun_mk (st:=My.Zaj) ?l27 ?c27 ?k27).binds My.Zhy) (L2.fun_mk (st:=My.Zbh) ?l28 ?c28 ?k28) ((L2.fun_mk (st:=My.Zbh) ?l28 ?c28 ?k28).binds My.Ziy) (L2.fun_mk (st:=My.Zaz) ?l29 ?c29 ?k29) ((L2.fun_mk (st:=My.Zaz) ?l29 ?c29 ?k29).binds My.Zie) (L2.fun_mk (st:=My.Zah) ?l30 ?c30 ?k30) ((L2.fun_mk (st:=My.Zah) ?l30 ?c30 ?k30).binds My.Zhp) (L2.fx_mk KX G My.Zj6 ?a31 ?l31 ?c31 ?k31) (L2.fx_mk KX G My.Zj5 ?a32 ?l32 ?c32 ?k32) (L2.fx_mk KX G My.Zj8 ?a33 ?l33 ?c33 ?k33) (L2.fx_mk KX G My.Zih ?a34 ?l34 ?c34 ?k34) (L2.fx_mk KX G My.Zjg ?a35 ?l35 ?c35 ?k35) (L2.fx_mk KX G My.Zj9 ?a36 ?l36 ?c36 ?k36) (L2.fx_mk KX G My.Zij ?a37 ?l37 ?c37 ?k37) (L2.fx_mk KX G My.Zje ?a38 ?l38 ?c38 ?k38) (L2.fx_mk KX G My.Zi1 ?a39 ?l39 ?c39 ?k39) (L2.fx_mk KX G My.Zjv ?a40 ?l40 ?c40 ?k40) (L2.fx_mk KX G My.Zjd ?a41 ?l41 ?c41 ?k41) (L2.fx_mk KX G My.Zjx ?a42 ?l42 ?c42 ?k42) (L2.fx_mk KX G My.Zkn ?a43 ?l43 ?c43 ?k43) (L2.fx_mk KX G My.Zj2 ?a44 ?l44 ?c44 ?k44) (L2.fx_mk KX G My.Zj3 ?a45 ?l45 ?c45 ?k45) (L2.fx_mk KX G My.Zjq ?a46 ?l46 ?c46 ?k46) (L2.fx_mk KX G My.Zkx ?a47 ?l47 ?c47 ?k47) (L2.fx_mk KX G My.Zj1 ?a48 ?l48 ?c48 ?k48) (L2.fx_mk KX G My.Zi9 ?a49 ?l49 ?c49 ?k49) (L2.fx_mk KX G My.Zkh ?a50 ?l50 ?c50 ?k50) (L2.fx_mk KX G My.Zkm ?a51 ?l51 ?c51 ?k51) (L2.fx_mk KX G My.Zja ?a52 ?l52 ?c52 ?k52) (L2.fx_mk KX G My.Zjb ?a53 ?l53 ?c53 ?k53) (L2.fx_mk KX G My.Zkw ?a54 ?l54 ?c54 ?k54) (L2.fx_mk KX G My.Zlb ?a55 ?l55 ?c55 ?k55) (mg_none_of KX G ?y_abs) (mg_none_of KX G ?y_all) (mg_none_of KX G ?y_any) (mg_none_of KX G ?y_bool) (mg_none_of KX G ?y_enumerate) (mg_none_of KX G ?y_int) (mg_none_of KX G ?y_isinstance) (mg_none_of KX G ?y_len) (mg_none_of KX G ?y_list) (mg_none_of KX G ?y_max) (mg_none_of KX G ?y_min) (mg_none_of KX G ?y_ord) (mg_none_of KX G ?y_range) (mg_none_of KX G ?y_set) (mg_none_of KX G ?y_sorted) (mg_none_of KX G ?y_str) (mg_none_of KX G ?y_tuple)
  (case a_Former | a_Like | a_Near | a_Other | a_Rule | a_Same | me_Same_init | me_Like_init | me_Near_init | me_Other_init | me_Former_init | me_Former_sort_word | me_Other_sort_word | me_Near_sort_word | me_Like_sort_word | me_Same_sort_word | me_Former_speaks | me_Other_speaks | me_Near_speaks | me_Like_speaks | me_Same_speaks | me_Like_speaks_by | me_Near_speaks_by | me_Other_speaks_by | me_Same_speaks_by | a_FIELDS | a_PAIR_FIELDS | a_FIGURES | a_GREATEST | a_LETTERS | a_LONGEST_NAME | a_LONGEST_TEXT | a_NO_SIGN | a0 | l0 | c0 | k0 | a1 | l1 | c1 | k1 | a2 | l2 | c2 | k2 | a3 | l3 | c3 | k3 | a4 | l4 | c4 | k4 | a5 | l5 | c5 | k5 | a6 | l6 | c6 | k6 | a7 | l7 | c7 | k7 | a8 | l8 | c8 | k8 | a9 | l9 | c9 | k9 | a10 | l10 | c10 | k10 | a11 | l11 | c11 | k11 | a12 | l12 | c12 | k12 | a13 | l13 | c13 | k13 | a14 | l14 | c14 | k14 | a15 | l15 | c15 | k15 | a16 | l16 | c16 | k16 | a17 | l17 | c17 | k17 | l18 | c18 | k18 | mf18 | l19 | c19 | k19 | mf19 | l20 | c20 | k20 | mf20 | l21 | c21 | k21 | mf21 | l22 | c22 | k22 | mf22 | l23 | c23 | k23 | mf23 | l24 | c24 | k24 | mf24 | l25 | c25 | k25 | mf25 | l26 | c26 | k26 | mf26 | l27 | c27 | k27 | mf27 | l28 | c28 | k28 | mf28 | l29 | c29 | k29 | mf29 | l30 | c30 | k30 | mf30 | a31 | l31 | c31 | k31 | a32 | l32 | c32 | k32 | a33 | l33 | c33 | k33 | a34 | l34 | c34 | k34 | a35 | l35 | c35 | k35 | a36 | l36 | c36 | k36 | a37 | l37 | c37 | k37 | a38 | l38 | c38 | k38 | a39 | l39 | c39 | k39 | a40 | l40 | c40 | k40 | a41 | l41 | c41 | k41 | a42 | l42 | c42 | k42 | a43 | l43 | c43 | k43 | a44 | l44 | c44 | k44 | a45 | l45 | c45 | k45 | a46 | l46 | c46 | k46 | a47 | l47 | c47 | k47 | a48 | l48 | c48 | k48 | a49 | l49 | c49 | k49 | a50 | l50 | c50 | k50 | a51 | l51 | c51 | k51 | a52 | l52 | c52 | k52 | a53 | l53 | c53 | k53 | a54 | l54 | c54 | k54 | a55 | l55 | c55 | k55 | cl0_Same | cl1_Same | cl2_Same | cl3_Same | mk_Same | mc_Same | cl0_Like | cl1_Like | cl2_Like | cl3_Like | mk_Like | mc_Like | cl0_Near | cl1_Near | cl2_Near | cl3_Near | mk_Near | mc_Near | cl0_Other | cl1_Other | cl2_Other | cl3_Other | mk_Other | mc_Other | cl0_Former | cl1_Former | cl2_Former | cl3_Former | mk_Former | mc_Former | na_Same_field | na_Like_field | na_Near_field | na_Other_field | na_Former_field | na_Same_weight | na_Like_weight | na_Near_weight | na_Other_weight | na_Former_weight | ca0_Rule_init | ca1_Rule_init | ca2_Rule_init | l_FIELDS | l_PAIR_FIELDS | y_abs | y_all | y_any | y_bool | y_enumerate | y_int | y_isinstance | y_len | y_list | y_max | y_min | y_ord | y_range | y_set | y_sorted | y_str | y_tuple=>k_is)
