import PyProof.Rows.All
import Wide.All
import OpenK.AllK
import Wide.FinOn
import Lean
import PyProof.EqAt
import PyProof.EqKinds
import PyProof.TupleCall
import KE.KSortTup
import KE.KSortKey
import KE.KMinKey
import PySem.SetTable
import KE.KDictList
import PyProof.Rows.SeqMore
import PyProof.StrLawsIn
import PyProof.MeetsStr3
import PyProof.Rows.StrSplitMax
import KE.KLam
import KE.KDictLaws
import PyProof.Rows.CallKwBuiltin
import PyProof.ZipIter
import PyProof.Rows.ZipGen
import PyProof.Rows.StrWeight2
import PyProof.Rows.SetFrom
import KE.KTryMore
import PyProof.Rows.TopTwo
import PyProof.ExcBaseAll.ValueError
import KE.RegKIsAll
import KE.RegKTryMore
import PyProof.ExcAttrAll.ValueError
import PyProof.ExcInit
import KE.KDictSum
import PyProof.Rows.StrDouble
import OpenK.KCls
import PyProof.Rows.FStr
import PyProof.Rows.FStrParts
import PyProof.InstStoreFacts
import OpenK.KMake
import PyProof.Logic
import PyProof.Rows.StrJoinMade
import PyProof.ReprRoads
import PyProof.ReprLen
import PyProof.StrLawsRepr
import KE.KItemsList
import KE.KPairComp
import KE.KDictOf
import PyProof.Rows.SumAny
import PySem.Challenge.RW_folk_k41_papers_of_too_many
open Array renaming length_toList → Zi9, getElem?_eq_some_iff → Zj4, mem_toList_iff → Zl5, getElem?_toList → Zqz, find?_toList → Zrk, append_assoc → Zrl
open Bool renaming and_eq_true → Zhq, false_ne_true → Zhx, eq_iff_iff → Zh8, not_eq_true' → Zin, not_eq_false' → Zjj, true_and → Zkm, false_eq_true → Zlf, and_true → Zlg, and_false → Zlt, or_eq_true → Zmo, not_false → Zn0, false_and → Zn1, false_or → Zol, not_true → Zqm, or_eq_false_iff → Zrc, and_assoc → Zs5, or_true → Zuh
open Classical renaming choose_spec → Zpz, typeDecidableEq → Zwb
open Decidable renaming byContradiction → Zoy
open False renaming elim → Zjc
open ForInStep renaming yield → Zkb
open Iff renaming rfl → Zqy
open Int renaming le_refl → Zlb, emod_nonneg → Znr, zero_add → Zo2, emod_lt_of_pos → Zr6, toNat_natCast → Zsn, ofNat → Zs2, le_of_eq → Zu4, add_zero → Zu5, mul_one → Zvm
open List renaming getD_eq_getElem?_getD → Zg0, getElem?_eq_getElem → Zg1, length_map → Zg2, mem_singleton → Zg3, range → Zg4, getElem?_eq_some_iff → Zg7, getElem?_map → Zg8, mem_append_right → Zg9, mem_of_getElem? → Zhb, mem_cons_of_mem → Zhd, mem_append → Zhe, length_append → Zhg, mem_filter → Zhh, map_cons → Zhi, map_append → Zhj, mem_map → Zhk, mem_cons_self → Zhl, mem_cons → Zhp, mem_append_left → Zhu, mem_range → Zhv, size_toArray → Zhw, take_add_one → Zh0, map_map → Zh5, map_congr_left → Zia, take_length → Zig, cons_lt_cons_iff → Zii, find?_cons → Zij, append_nil → Zik, getElem?_append_right → Zil, length_take → Zim, getElem?_eq_none → Zio, getElem?_append_left → Zip, getElem?_set_self → Ziq, all_eq_true → Zir, length_filter_le → Ziu, Nodup → Ziv, idxOf_lt_length_iff → Ziz, getElem?_range → Zi1, lookup_cons → Zi3, getElem_idxOf → Zi4, nodup_cons → Zi5, filter_nil → Zi6, mem_map_of_mem → Zjb, length_range → Zjd, filter_cons_of_pos → Zjg, filter_cons_of_neg → Zjh, getElem?_set_ne → Zjk, length_cons → Zjo, nodup_append → Zjs, foldl_append → Zjt, filter_append → Zjw, any_eq_true → Zjx, not_mem_nil → Zj8, getElem_mem → Zj9, pairwise_iff_getElem → Zkc, ext_getElem? → Zkg, filter_sublist → Zkj, any_cons → Zkk, all_cons → Zkl, range_succ → Zkr, foldl_cons → Zks, lt_irrefl → Zk3, getElem_map → Zk6, filter_eq_self → Zk8, map_nil → Zla, getElem?_replicate → Zle, filter_congr → Zln, mem_iff_getElem? → Zlv, length_singleton → Zlw, length_replicate → Zlx, length_drop → Zl1, filter_cons → Zl2, cons_append → Zl3, map_id → Zmi, lookup → Zmj, length_pos_iff → Zmk, idxOf_cons → Zml, getElem_of_mem → Zmm, zip_cons_cons → Zmw, map_singleton → Zmx, pairwise_map → Zm4, find?_range_eq_some → Zm5, append_assoc → Zm6, foldr_cons → Znk, filter_map → Znl, replicate → Znx, nodup_nil → Zny, filterMap_cons → Zn3, mem_filterMap → Zoh, getElem?_drop → Zoi, reverse_cons → Zot, nodup_range → Zo0, getElem_inj → Zo1, dropLast_concat_getLast → Zpd, of_mem_zip → Zph, not_lt → Zpi, nil_append → Zpj, forIn_cons → Zpk, filter → Zpl, all_append → Zpm, nodup_iff_pairwise_ne → Zpx, getLast?_eq_getElem? → Zp4, drop_eq_getElem_cons → Zp5, getLast?_eq_getLast → Zqf, find?_range_eq_none → Zqg, eq_of_mem_replicate → Zqh, length_eq_zero_iff → Zql, not_of_lt_findIdx → Zqv, filter_eq_nil_iff → Zqw, singleton_append → Zq2, eq_nil_or_concat → Zq3, reverse_reverse → Zra, mem_of_mem_take → Zrb, lt_of_le_of_lt → Zri, length → Zrj, ne_nil_of_mem → Zrv, getElem_range → Zrw, take_sublist → Zr3, idxOf_append → Zr4, all_eq_false → Zr5, length_set → Zss, length_nil → Zst, set → Ztg, map → Zth, lt_trans → Zti, set_set → Zt8, all_nil → Zt9
open List.Nodup renaming sublist → Zk4
open List.Pairwise renaming sublist → Zua, nil → Zub, imp_of_mem → Zuc
open List.Sublist renaming map → Zns
open List.cons renaming injEq → Zoo
open MonadExcept renaming tryCatch → Znb
open Nat renaming le_refl → Zha, lt_of_lt_of_le → Zhn, ne_of_lt → Zht, le_trans → Zh1, lt_irrefl → Zh6, zero_le → Zih, not_lt_zero → Zi2, lt_trans → Zka, le_of_lt → Zkw, lt_trichotomy → Zky, pow_le_pow_right → Zma, le_succ → Zmp, le_antisymm → Zmq, lt_succ_iff_lt_or_eq → Zna, ne_of_gt → Zno, lt_or_ge → Znp, le_of_eq → Znq, lt_succ_of_lt → Zow, lt_succ_self → Zpc, max_le → Zqk, add_le_add_right → Zrh, min_eq_right → Zsr, min_eq_left → Zs1, mul_le_mul → Ztf, succ_mul → Zu2, sub_self → Zu3, le_zero → Zvl
open Ne renaming symm → Zif
open Option renaming isSome_iff_exists → Ziy, map_eq_some_iff → Zjz, getD_some → Zm9, map_some → Zne, isSome_map → Zog, getD_none → Zru, none → Zte
open Option.some renaming inj → Zit
open Or renaming inl → Zko, inr → Ztd
open PUnit renaming unit → Zp3
open Prod renaming snd → Zv8, ext → Zv9
open Prod.mk renaming injEq → Zly
open PyProof.Rows renaming callWith_type1 → Zja, seqObj → Zli, envOfC → Zlj, boot_isinstance → Zlr, get?_update_seq → Zn6, AllBare → Zob, step_dedup → Zoc, boot_list → Zo8, IntsAre → Zqx, subscriptTail → Zro, subscriptTail_builtinR → Zry, boot_max → Zs8, boot_all → Zs9, boot_abs → Zta, boot_range → Ztv, Subscript_ → Ztz, callWith_builtin1 → Zu1, joinParts_cons → Zvq, boot_min → Zv2
open PyProof.Rows.Boot renaming zip → Zsm
open PySem renaming wpAny_bind → Zgz, Shared → Zg5, wpAny_pure → Zhc, sizeLine_eq → Zhm, Spec → Zhr, wpAny → Zhs, Program → Zhz, model → Zh2, Around → Zh3, Builtin → Zib, starEach → Zic, wpAny_mono → Zid, NameKind → Zie, wpAny_loadPart' → Zis, PassesOwn → Ziw, World → Zix, wpAny_truthy_bool → Zje, wpAny_holding → Zjp, FuncData → Zjq, mem_of_lookup → Zjr, mainGlobals → Zju, wpAny_tryCatch → Zjv, compareOp → Zjy, sysModules → Zj2, codeAny_builtin → Zj5, wpAny_Call_Name_kw → Zkd, plainId_quiet → Zke, PyData → Zkf, wpAny_dictEntries → Zkn, wpAny_letGo → Zkp, Builtin → Zkv, tupleKind_room_in1 → Zkx, wpAny_passesOwn → Zk0, tupleKind → Zk1, wpAny_newObj_type → Zk5, codeAny_call_builtin → Zk9, wpAny_field → Zlh, call_meetsIn → Zlk, wpAny_updateSeq → Zlo, wpAny_setField_rec → Zlp, wpAny_execs_nil → Zlq, attributeBase → Zls, wpAny_loadPart_at → Zl6, wpAny_seqItems → Zl7, wpAny_typeNameOfWhole_itemiter → Zmc, noteFrame → Zmd, bootBuiltins → Zme, backTo → Zmf, DictEntry → Zmh, wpAny_standAt → Zms, boot_len → Zmt, bindArgs → Zmu, behindInMarks → Zmv, wpAny_call → Zmy, sliceBounds → Zmz, richCompare → Zm0, keywordEach → Zm1, wpAny_pyIter_list → Znf, foldedSetIterable → Zng, codeAny → Znm, cLine → Znn, wpAny_isOneOf_itemiter → Znu, Model → Znw, swapsWith → Zn4, letOwnedTupleGo → Zn5, codeAny_mono → Zn7, Wakes → Zn8, Fin → Zoa, closureFor → Zod, assignEach → Zoe, IsItemIter → Zoj, wpAny_setField → Zoq, wpAny_attempt → Zo4, setFlight → Zo5, seqItems? → Zo6, pyNext → Zo7, binaryOp → Zo9, backToKw → Zpa, typeIs_int → Zpo, richCompare_gives → Zpp, isInstance → Zpq, builtinsNs → Zpr, Keyword → Zpy, BindsTo → Zp0, ExcBaseFacts → Zp8, wpAny_execs_cons → Zqa, wpAny_call_entry → Zqb, SetTable → Zqj, wpAny_specialOf → Zqo, wpAny_of_eq → Zqp, wpAny_dictEpoch → Zqq, valueAt → Zqr, subscripted → Zqs, excClassObj → Zqt, callerA → Zqu, Arguments → Zq1, recursionLimit → Zq5, evalArgs_none → Zq8, call_meets → Zrd, wpAny_callSpecial?_slot → Zrm, wpAny_Call_method0_late → Zrn, standAt → Zrp, holding → Zrq, getItem → Zrr, call → Zrs, IsItemIterOut → Zrx, wpAny_notOrdered_dict → Zsg, wpAny_isTrue_Compare1 → Zsh, updateSeq → Zsi, rawInt → Zsj, assign → Zsk, wpAny_newFunctionEnv → Zso, unbindBehindTheSuite → Zsp, wpAny_isSubtype_exc → Zsv, atKey → Zsw, CmpOp → Zs4, wpAny_evalAll_cons → Zs6, cellOf → Zs7, GenState → Ztk, wpAny_pyIter_enum → Ztl, wpAny_evalAll_nil → Ztm, wpAny_assign_Name → Ztn, wpAny_Name → Zto, wpAny_Call_method → Ztp, wpAny_Assign_Name → Ztq, typeLookup → Ztr, typeIs_str → Zts, slot_list_getitem → Ztt, entryOfKey → Ztu, bindL → Ztw, bindC → Ztx, wpAny_pyIter_zip → Zui, wpAny_isInstance → Zuj, wpAny_Dict_empty → Zuk, checkBuiltinCall → Zul, callGetattribute → Zum, raiseStmt → Zvf, getAttrByItsOwn → Zvg, cellsFrom → Zvh, Walks → Zvi, Result → Zvj, wpAny_loadPart → Zvo, wpAny_Compare1 → Zvp, firstArgMember → Zvr, boundAndCalled → Zvs, wpAny_newList → Zvx, evalPart_none → Zvy, comprehension → Zvz, compEnvC → Zv0, call_list_seq → Zv1, ReadsAll → Zv5, Reads → Zv6
open PySem.Around renaming under_plainId → Zjf, under → Zqn, frames_deeper → Zq0
open PySem.Builtin.Builtins renaming bindParams → Zkh
open PySem.Builtin.Dict renaming entriesForEmpty → Znz, updateFrom → Zou, mergeDict → Zoz, showsAll → Zo3, quietEq → Zpf, selfAndRest → Zva, readDirectly → Zvb, pendingCount → Zvc, noArgs → Zvd, merge → Zve
open PySem.Builtin.Dict_items renaming pairFromOwner → Zm3, ownsTuple → Znd, ownedTupleIsFree → Zsc, ownedTupleFields → Zsd, newIterator → Zse, dictOf → Zsf
open PySem.Builtin.List renaming listTooLong → Zmb
open PySem.Builtin.ObjectAttr renaming getOf → Zr9, find → Zsa, dataDescriptor? → Zsb
open PySem.Builtin.Range renaming rangeSize → Zkz, small → Zpe
open PySem.Builtin.Tuple renaming tupleHashOf → Zuf, tupleCompareSizes → Zug
open PySem.Calls renaming callWith_builtin → Zj1, evalArgs_plain → Zl4, spliced_cons → Zmr, spliced_nil → Zop, Name_function_global → Zpn
open PySem.Challenge renaming rw_folk_k41_papers_of_too_many → Zlu, pw_folk_k41_papers_of_too_many → Zsy
open PySem.Code renaming quiet_builtin → Zok, isFrame → Zq4, frames → Zu9
open PySem.DictEntry renaming refKey → Zwa
open PySem.Draws renaming list → Zu8
open PySem.EntryCells renaming newEntry → Zp9
open PySem.EqMixed renaming ne_str_int → Zt0, ne_str_bool → Zt1, ne_int_str → Zt2, ne_bool_str → Zt3, eq_str_int → Zt4, eq_str_bool → Zt5, eq_int_str → Zt6, eq_bool_str → Zt7
open PySem.EqNone renaming ne_str_none → Zun, ne_none_str → Zuo, ne_none_none → Zup, ne_none_int → Zuq, ne_none_bool → Zur, ne_int_none → Zus, ne_bool_none → Zut, eq_str_none → Zuu, eq_none_str → Zuv, eq_none_none → Zuw, eq_none_int → Zux, eq_none_bool → Zuy, eq_int_none → Zuz, eq_bool_none → Zu0
open PySem.F renaming plainAttrs_list → Zh7, slot_list_append → Zi0, type_list_append → Zi7, excBase_ValueError → Zjl, plain_min_loop → Zjm, plain_max_loop → Zjn, slot_dict_get → Zj3, slot_dict_itemiterator_next → Zk2, entry_dict_get → Zld, type_list_index → Zlz, slot_list_index → Zl0, plainAttrs_dict → Zm2, entry_min_loop → Zm7, entry_max_loop → Zm8, attr_ValueError → Znc, slot_dict_items_iter → Zos, store_ValueError → Zpg, slot_dict_items → Zpu, args_dict_get_3 → Zpv, args_dict_get_2 → Zpw, type_dict_get → Zqc, slot_tuple_lt → Zqd, slot_dict_len → Zqe, slot_list_pop → Zqi, slot_list_extend → Zsu, plainAttrs_dict → Zs3, type_list_pop → Zud, entry_bexc_ga → Zue, args_bexc_ga → Zu7
open PySem.Heap renaming get?_push_of_some → Zg6, lt_size → Zhf, get?_push_size → Zho, get?_update_self → Zkt, FlyingW → Zku, get?_update_other → Zlm, get?_update_ne → Zmn, get?_none_of_le → Znt, SameBut → Zox, size_push → Zp6, MadeExcOf → Zp7, get?_push_at → Zr7, HeldW → Zr8
open PySem.Heap.DictOf renaming new → Zvn
open PySem.Heap.IsSliceOf renaming new → Ztj
open PySem.Heap.SameBut renaming update → Zji, refl → Zu6
open PySem.IsL renaming update → Zv7
open PySem.NameKind renaming free → Zh9, cell → Zk7
open PySem.Obj renaming mapSeq → Zj0, mapFields → Zmg, data_mapDictKeys → Zrg
open PySem.Paired renaming length → Zp2, snoc → Ztc
open PySem.PassesOwn renaming never → Zhy
open PySem.PyData renaming eqv → Zkq, canLay0 → Zll, eqvAll → Zn2, canLayAll0 → Zrf, depthAll → Zr2, strOk → Zsz, depth → Zs0
open PySem.Sem renaming wp → Zv4
open PySem.SeqAt renaming list_indexAt → Zvk
open PySem.SeqAt.EqAt renaming str_str → Zvt, str_int → Zvu, int_str → Zvv, int_int → Zvw
open PySem.Shared renaming TypeIs → Zsq
open PySem.Str renaming ofString → Zlc, empty → Zon
open PySem.Value renaming ref → Zh4, int → Zj6, none → Zl8, bool → Zl9, type → Zom, str → Zpb, float → Zq6, bytes → Zq7, isStrOf → Zsx, isInt → Zty
open PySem.Value.ref renaming inj → Zv3
open PySem.W renaming Frag → Zgy, fnOf → Zi8, keepIn → Zj7, findIn → Zki, kitOne → Zni, codeIn → Znj, callWith_K → Znv, methodObj → Zn9, isFn → Zof, OpenLaw → Zov, cellsFrom_some → Zp1, specialIn → Zq9, instObj → Zrt, lookIn → Zrz, kitAny → Zr0, exmOne → Zr1, WalkO → Zsl
open PySem.Walks renaming list → Znh
open PySem.WalksT renaming enumerateD → Zre, zip2 → Ztb
open Sum renaming inr → Zps, inl → Zpt
open True renaming intro → Zor
set_option Elab.async false
set_option linter.all false
set_option maxRecDepth 100000
set_option maxHeartbeats 8000000
set_option genSizeOf false
set_option bootstrap.genMatcherCode false
noncomputable section
namespace L2
open PySem PySem.Spec PyProof.Rows
noncomputable abbrev Key:=Sum Int Str
noncomputable def zr8 : Key->Value->Bool
 | .inl k,v=>Zty k v
 | .inr x,v=>Zsx x v
noncomputable def keyH (w : Zix) : Key->Int
 | .inl k=>hashInt k
 | .inr x=>hashStr w x
theorem zbx : ∀ {k : Key} {v : Value},zr8 k v = true->(∃ i t,k = Zpt i/\v = Zj6 i t) \/ (∃ x t,k = Zps x/\v = Zpb x t)
 | .inl i,v,h=>by
  obtain ⟨t,e⟩:=Value.isInt_shape (k:=i) (v:=v) h
  exact .inl ⟨i,t,rfl,e⟩
 | .inr x,v,h=>by
  obtain ⟨t,e⟩:=Value.isStrOf_shape (x:=x) (v:=v) h
  exact .inr ⟨x,t,rfl,e⟩
theorem zuc (i : Int) (t : Tok) : zr8 (.inl i) (.int i t) = true:=by simp [zr8,Zty]
theorem zum (x : Str) (t : Tok) : zr8 (.inr x) (.str x t) = true:=by simp [zr8,Zsx]
theorem yd3 (a b : Int) : decide ((Zpt a : Key) = Zpt b) = (a == b):=by
 by_cases e : a = b
 ·subst e; simp
 ·have h : ¬ (Zpt a : Key) = Zpt b:=fun q=>e (Sum.inl.inj q)
  rw [decide_eq_false h]
  exact (beq_eq_false_iff_ne.mpr e).symm
theorem yep (a b : Str) : decide ((Zps a : Key) = Zps b) = decide (a = b):=by
 by_cases e : a = b
 ·subst e; simp
 ·have h : ¬ (Zps a : Key) = Zps b:=fun q=>e (Sum.inr.inj q)
  rw [decide_eq_false h,decide_eq_false e]
theorem yd6 (a : Int) (b : Str) : decide ((Zpt a : Key) = Zps b) = false:=decide_eq_false (fun q=>nomatch q)
theorem yeh (a : Str) (b : Int) : decide ((Zps a : Key) = Zpt b) = false:=decide_eq_false (fun q=>nomatch q)
noncomputable def za1 (prog : Zhz) (w : Zix) : PySem.KeyKind prog w Key where
 is:=zr8
 hash:=keyH w
 inj:=fun v a b ha hb=>by
  rcases zbx ha with ⟨i,t,rfl,rfl⟩ | ⟨x,t,rfl,rfl⟩
  ·rcases zbx hb with ⟨j,u,rfl,e⟩ | ⟨y,u,rfl,e⟩
   ·injection e with e1 _; rw [e1]
   ·exact nomatch e
  ·rcases zbx hb with ⟨j,u,rfl,e⟩ | ⟨y,u,rfl,e⟩
   ·exact nomatch e
   ·injection e with e1 _; rw [e1]
 byValue:=fun k v h=>by
  rcases zbx h with ⟨i,t,rfl,rfl⟩ | ⟨x,t,rfl,rfl⟩ <;> rfl
 pyHash:=fun hv h=>by
  rcases zbx hv with ⟨i,t,rfl,rfl⟩ | ⟨x,t,rfl,rfl⟩
  ·exact wpAny_pyHash_int h
  ·exact wpAny_pyHash_str h
 eqBool:=fun hu hv h=>by
  rcases zbx hu with ⟨i,t,rfl,rfl⟩ | ⟨x,t,rfl,rfl⟩
  ·rcases zbx hv with ⟨j,u,rfl,rfl⟩ | ⟨y,u,rfl,rfl⟩
   ·rw [yd3] at h; exact wpAny_eqBool_int h
   ·rw [yd6] at h; exact Zvv i t y u _ _ _ _ h
  ·rcases zbx hv with ⟨j,u,rfl,rfl⟩ | ⟨y,u,rfl,rfl⟩
   ·rw [yeh] at h; exact Zvu x t j u _ _ _ _ h
   ·rw [yep] at h; exact wpAny_eqBool_str h
 «strs»:=fun k x t v h=>by
  rcases zbx h with ⟨i,u,rfl,e⟩ | ⟨y,u,rfl,e⟩
  ·exact nomatch e
  ·injection e with e1 _
   subst e1
   cases v <;> rfl
theorem zpp (prog : Zhz) (w : Zix) (i : Int) (t : Tok) : (za1 prog w).is (.inl i) (.int i t) = true:=zuc i t
theorem zpk (prog : Zhz) (w : Zix) (x : Str) (t : Tok) : (za1 prog w).is (.inr x) (.str x t) = true:=zum x t
inductive V where
 | non | bl (b : Bool) | int (i : Int) | str (x : Str) | byt (b : Array UInt8) | flt (b : UInt64) | ref (a : Addr) | ty (n : String)
 deriving DecidableEq
noncomputable def RelV : V->Value->Prop
 | .non,u=>u = Zl8
 | .bl b,u=>u = Zl9 b
 | .int i,u=>∃ t,u = Zj6 i t
 | .str x,u=>∃ t,u = Zpb x t
 | .byt b,u=>∃ t,u = Zq7 b t
 | .flt b,u=>∃ t,u = Zq6 b t
 | .ref a,u=>u = Zh4 a
 | .ty n,u=>u = Zom n
noncomputable abbrev Vals : List V->List Value->Prop:=Paired RelV
theorem Vals.length {xs : List V} {us : List Value} (r : Vals xs us) : xs.length = us.length:=Zp2 r
theorem Vals.get : ∀ {xs : List V} {us : List Value} {i : Nat} {x : V},Vals xs us->xs[i]? = some x -> ∃ u,us[i]? = some u/\RelV x u
 | _,_,_,_,.nil,e=>by simp at e
 | _,_,0,_,.cons r _,e=>by simp at e; subst e; exact ⟨_,rfl,r⟩
 | _,_,i + 1,x,.cons _ t,e=>by
  obtain ⟨u,h1,h2⟩:=Vals.get (i:=i) (x:=x) t (by simpa using e)
  exact ⟨u,by simpa using h1,h2⟩
theorem Vals.append : ∀ {xs ys : List V} {us ws : List Value},Vals xs us->Vals ys ws->Vals (xs++ys) (us++ws)
 | _,_,_,_,.nil,s=>s
 | _,_,_,_,.cons r t,s=>.cons r (Vals.append t s)
theorem Vals.take : ∀ {xs : List V} {us : List Value} (n : Nat),Vals xs us->Vals (xs.take n) (us.take n)
 | _,_,0,_=>.nil
 | _,_,_ + 1,.nil=>.nil
 | _,_,n + 1,.cons r t=>.cons r (Vals.take n t)
theorem Vals.drop : ∀ {xs : List V} {us : List Value} (n : Nat),Vals xs us->Vals (xs.drop n) (us.drop n)
 | _,_,0,r=>r
 | _,_,_ + 1,.nil=>.nil
 | _,_,n + 1,.cons _ t=>Vals.drop n t
noncomputable def RelO : Option V->Option Value->Prop
 | some v,some u=>RelV v u
 | none,none=>True
 | _,_=>False
noncomputable def KV {κ : Type} : List (κ × V)->List (κ × Value)->Prop:=Paired fun (p : κ × V) (q : κ × Value)=>p.1 = q.1/\RelV p.2 q.2
noncomputable def kV : Key->V
 | .inl i=>.int i
 | .inr x=>.str x
inductive HO where
 /-- a list -/
 | lst (xs : List V)
 /-- a tuple (never changes) -/
 | tup (xs : List V)
 /-- a dict whose keys are ints and texts; one whose keys are tuples of ints and texts (the empty one is both) -/
 | dK (kvs : List (Key × V)) | dT (kvs : List (List Key × V))
 /-- a set of ints: its members,its size -/
 | set (S : Int->Bool) (n : Nat)
 /-- an instance of the class at C,its dict at dx,its attributes -/
 | ins (C dx : Addr) (fs : List (Str × V))
 /-- the dict of the instance at x -/
 | own (x : Addr)
 /-- the dict of an exception -/
 | xd (fs : List (Str × V))
 /-- a bound method,f of x -/
 | met (f x : Addr)
 /-- a range object lo,lo + 1,.. below hi -/
 | rng (lo hi : Int)
 /-- a thing that is known to the object (the script; a dict while a loop walks it): read,never written while it is so -/
 | frz (o : Obj) (u : HO)
 /-- a code object's table -/
 | tbl (ps : Array Value)
 /-- any other thing,by what is true of its one object (a def of one's own: SetO a S n:=HO.ext fun h=>..) -/
 | ext (φ : Heap->Prop)
 | tab (ps : Array Value) (pos : Pos) (q : Str)
noncomputable abbrev Hp:=Addr->Option HO
noncomputable def upd (H : Hp) (a : Addr) (o : HO) : Hp:=fun b=>if b = a then some o else H b
theorem zaj {H : Hp} {a : Addr} {o : HO} : upd H a o a = some o:=by unfold upd; rw [if_pos rfl]
theorem zam {H : Hp} {a b : Addr} {o : HO} (h : b≠a) : upd H a o b = H b:=by unfold upd; rw [if_neg h]
theorem zyb {H : Hp} {a b : Addr} {o u : HO} (h : H a = some o) (h' : H b = some u) (d : o≠u) : a≠b:=by
 intro e; subst e; rw [h] at h'; exact d (Zit h')
theorem zat {H : Hp} {a b : Addr} {o : HO} (h : H a = some o) (h' : H b = none) : a≠b:=by
 intro e; subst e; rw [h] at h'; cases h'
section
variable (P : Zhz) (w : Zix)
noncomputable def zc9 (H : Hp) (h : Heap) (a : Addr) : HO->Prop
 | .lst xs=>xs.length <= sizeLine /\ ∃ (its : List Value) (n : Nat),Vals xs its/\h.get? a = some { cls:=.type "list", data:=.seq its.toArray n }
 | .tup xs=>xs.length <= sizeLine /\ ∃ its : List Value,Vals xs its/\IsTup h a its.toArray
 | .dK kvs=>kvs.length <= sizeLine/\(a == Zj2) = false /\ ∃ vs,KV kvs vs/\h.DictOf (za1 P w) a vs
 | .dT kvs=>kvs.length <= sizeLine/\(a == Zj2) = false /\ ∃ xs : List (List Key × Addr × Value),
   Paired (fun (p : List Key × V) (q : List Key × Addr × Value)=>p.1 = q.1/\H q.2.1 = some (.tup (p.1.map kV))/\RelV p.2 q.2.2) kvs xs /\
   ∃ o es ep,h.get? a = some o/\o.ExactDict/\o.data = .dict es ep/\es.toList = xs.map (Ztu (Zk1 (za1 P w)))/\(xs.map (·.1)).Nodup
 | .set S n=>h.SetOf (intKind P w) a S n
 | .ins C dx fs=>H dx = some (.own a)/\fs.length <= 1000/\dx≠a/\h.get? a = some (Zrt C dx) /\
   ∃ mA,h.Ns1 dx mA/\(∀ f,RelO (fs.lookup f) (mA f))/\PySem.Within mA (fs.map (·.1))
 | .own _=>∃ o,h.get? a = some o
 | .xd fs=>∃ mA,h.Ns1 a mA /\ ∀ f,RelO (fs.lookup f) (mA f)
 | .rng lo hi=>∃ t u v,h.get? a = some { cls:=.type "range", data:=.fields #[.int lo t,.int hi u,.int 1 v] }
 | .frz o u=>h.get? a = some o/\zc9 H h a u
 | .tbl ps=>h.get? a = some { cls:=.none,data:=.fields ps }
 | .met f x=>h.get? a = some (Zn9 (.ref f) (.ref x))
 | .ext φ=>φ h/\(∃ o,h.get? a = some o) /\ ∀ h1 h2 : Heap,φ h1->(∀ o,h1.get? a = some o->h2.get? a = some o)->φ h2
 | .tab ps pos q=>∃ more : Array Value,h.get? a = some { cls:=.none,data:=.fields (ps++more) }/\TriplesOk (ps++more).toList/\(codeAmong pos (ps++more).toList = none \/ ∃ c' oc vs t,codeAmong pos (ps++more).toList = some (.ref c')/\H c' = some (.frz oc (.own a))/\oc.data = .fields vs/\vs[1]? = some (.str q t))
noncomputable def HOk (H : Hp) (h : Heap) : Prop:=∀ a o,H a = some o->zc9 P w H h a o
end
section
variable {P : Zhz} {w : Zix} {H H' : Hp} {h h' : Heap} {a : Addr} {o : HO}
theorem zc9.lt (x : zc9 P w H h a o) : a < h.objs.size:=by
 cases o with
 | lst xs=>obtain ⟨_,_,_,_,e⟩:=x; exact Zhf e
 | tup xs=>obtain ⟨_,_,_,p⟩:=x; exact p.lt
 | dK kvs=>obtain ⟨_,_,_,_,o,_,_,e,_⟩:=x; exact Zhf e
 | dT kvs=>obtain ⟨_,_,_,_,o,_,_,e,_⟩:=x; exact Zhf e
 | set S n=>obtain ⟨o,_,_,_,e,_⟩:=x; exact Zhf e
 | ins C dx fs=>obtain ⟨_,_,_,e,_⟩:=x; exact Zhf e
 | own y=>obtain ⟨_,e⟩:=x; exact Zhf e
 | xd fs=>obtain ⟨_,⟨_,_,_,e,_⟩,_⟩:=x; exact Zhf e
 | rng lo hi=>obtain ⟨_,_,_,e⟩:=x; exact Zhf e
 | frz ob u=>obtain ⟨e,_⟩:=x; exact Zhf e
 | tbl ps=>exact Zhf (show h.get? a = some _ from x)
 | met f y=>exact Zhf (show h.get? a = some _ from x)
 | ext φ=>obtain ⟨_,⟨_,e⟩,_⟩:=x; exact Zhf e
 | tab ps pos q=>obtain ⟨_,e,_⟩:=x; exact Zhf e
theorem Paired.mapP {α β : Type} {F G : α->β->Prop} : ∀ {l₁ : List α} {l₂ : List β},Paired F l₁ l₂->(∀ a b,F a b->G a b)->Paired G l₁ l₂
 | _,_,.nil,_=>.nil
 | _,_,.cons r t,f=>.cons (f _ _ r) (Paired.mapP t f)
theorem zc9.stay (x : zc9 P w H h a o) (k : ∀ b u,(b = a \/ H b = some (.own a))->h.get? b = some u->h'.get? b = some u)
  (ho : ∀ b,H b = some (.own a)->H' b = some (.own a)) (ht : ∀ b xs,H b = some (.tup xs)->H' b = some (.tup xs))
  (hf : ∀ b o u,H b = some (.frz o u)->H' b = some (.frz o u):=by first | exact fun _ _ _ q=>q | exact fun c _ _ q=>(zam (zat q (by assumption))).trans q | exact fun c _ _ r=>(zam (fun z=>by rw [<- z,r] at mu; exact mu)).trans r) : zc9 P w H' h' a o:=by
 induction o with
 | lst xs=>obtain ⟨z,its,n,r,e⟩:=x; exact ⟨z,its,n,r,k _ _ (.inl rfl) e⟩
 | tup xs=>obtain ⟨z,its,r,ob,e,c⟩:=x; exact ⟨z,its,r,ob,k _ _ (.inl rfl) e,c⟩
 | dK kvs=>obtain ⟨z,y,vs,r,ob,es,ep,e,c⟩:=x; exact ⟨z,y,vs,r,ob,es,ep,k _ _ (.inl rfl) e,c⟩
 | dT kvs =>
  obtain ⟨z,y,xs,r,ob,es,ep,e,c⟩:=x
  exact ⟨z,y,xs,Paired.mapP r fun p q z=>⟨z.1,ht _ _ z.2.1,z.2.2⟩,ob,es,ep,k _ _ (.inl rfl) e,c⟩
 | set S n=>obtain ⟨ob,es,ep,t,e,c⟩:=x; exact ⟨ob,es,ep,t,k _ _ (.inl rfl) e,c⟩
 | ins C dx fs =>
  obtain ⟨d,z,ne,e,mA,⟨od,es,ep,e2,c⟩,r⟩:=x
  exact ⟨ho _ d,z,ne,k _ _ (.inl rfl) e,mA,⟨od,es,ep,k _ _ (.inr d) e2,c⟩,r⟩
 | own y=>obtain ⟨ob,e⟩:=x; exact ⟨ob,k _ _ (.inl rfl) e⟩
 | xd fs=>obtain ⟨mA,⟨od,es,ep,e,c⟩,r⟩:=x; exact ⟨mA,⟨od,es,ep,k _ _ (.inl rfl) e,c⟩,r⟩
 | rng lo hi=>obtain ⟨t,u,v,e⟩:=x; exact ⟨t,u,v,k _ _ (.inl rfl) e⟩
 | frz ob u ih=>obtain ⟨e,q⟩:=x; exact ⟨k _ _ (.inl rfl) e,ih q⟩
 | tbl ps =>
  have e : h.get? a = some { cls:=.none,data:=.fields ps }:=x
  show h'.get? a = some { cls:=.none,data:=.fields ps }
  exact k a _ (.inl rfl) e
 | met f y =>
  have e : h.get? a = some (Zn9 (.ref f) (.ref y)):=x
  show h'.get? a = some (Zn9 (.ref f) (.ref y))
  exact k a _ (.inl rfl) e
 | ext φ=>obtain ⟨p,⟨o,e⟩,st⟩:=x; exact ⟨st _ _ p fun o q=>k _ _ (.inl rfl) q,⟨o,k _ _ (.inl rfl) e⟩,st⟩
 | tab ps pos q =>
  obtain ⟨m,e,t,r⟩:=x
  exact ⟨m,k _ _ (.inl rfl) e,t,r.imp id fun ⟨c',oc,vs,t2,e1,e2,q1,q2⟩=>⟨c',oc,vs,t2,e1,hf _ _ _ e2,q1,q2⟩⟩
theorem HOk.lt (x : HOk P w H h) (e : H a = some o) : a < h.objs.size:=(x a o e).lt
theorem HOk.fresh (x : HOk P w H h) (e : h.objs.size <= a) : H a = none:=by
 cases q : H a with
 | none=>rfl
 | some u=>exact absurd (Zhn (x.lt q) e) (Zh6 _)
theorem HOk.kept (x : HOk P w H h) (k : ∀ b u,h.get? b = some u->h'.get? b = some u) : HOk P w H h':=fun a o e =>
 (x a o e).stay (fun b u _ q=>k b u q) (fun _ q=>q) fun _ _ q=>q
theorem HOk.laid (x : HOk P w H h) (k : ∀ b u,h.get? b = some u->h'.get? b = some u) (hp : h.objs.size <= a) (new : zc9 P w (upd H a o) h' a o) : HOk P w (upd H a o) h':=fun b u e=>by
 have hn:=x.fresh hp
 by_cases hb : b = a
 ·subst hb; rw [zaj] at e; cases e; exact new
 ·rw [zam hb] at e
  exact (x b u e).stay (fun c v _ q=>k c v q) (fun c q=>by rw [zam (zat q hn)]; exact q) fun c xs q=>by rw [zam (zat q hn)]; exact q
end
noncomputable def Rd (H : Hp) (a : Addr) (u : HO) : Prop:=H a = some u \/ ∃ o,H a = some (.frz o u)
theorem Rd.ok {P : Zhz} {w : Zix} {H : Hp} {h : Heap} {a : Addr} {u : HO} (r : Rd H a u) (x : HOk P w H h) : zc9 P w H h a u:=by
 rcases r with r | ⟨o,r⟩
 ·exact x a u r
 ·obtain ⟨_,q⟩:=x a _ r
  exact q
noncomputable def Mut : Option HO->Prop
 | some (.lst _)=>True
 | some (.dK _)=>True
 | some (.dT _)=>True
 | some (.set _ _)=>True
 | some (.ins _ _ _)=>True
 | some (.ext _)=>True
 | _=>False
section
variable {P : Zhz} {w : Zix} {H : Hp} {h h' : Heap} {x e : Addr} {o' : HO}
theorem HOk.write (ok : HOk P w H h) (mu : Mut (H x)) (he : e = x \/ H e = some (.own x)) (k : ∀ b u,b≠e->h.get? b = some u->h'.get? b = some u) (heo : ∃ u,h'.get? e = some u)
  (new : zc9 P w (upd H x o') h' x o') : HOk P w (upd H x o') h':=fun b u q=>by
 have nown : ∀ c y,H c = some (.own y)->c≠x:=fun c y r z=>by subst z; rw [r] at mu; exact mu
 have ntup : ∀ c xs,H c = some (.tup xs)->c≠x:=fun c xs r z=>by subst z; rw [r] at mu; exact mu
 by_cases hb : b = x
 ·subst hb; rw [zaj] at q; cases q; exact new
 ·rw [zam hb] at q
  by_cases hbe : b = e
  ·have q' : H b = some (.own x):=by
    rcases he with z | z
    ·exact absurd (hbe.trans z) hb
    ·rw [hbe]; exact z
   rw [q] at q'; cases q'
   obtain ⟨v,hv⟩:=heo
   exact ⟨v,by rw [hbe]; exact hv⟩
  ·refine (ok b u q).stay (fun c v hc r=>k c v ?_ r) (fun c r=>by rw [zam (nown c b r)]; exact r) fun c xs r=>by rw [zam (ntup c xs r)]; exact r
   rcases hc with rfl | hc
   ·exact hbe
   ·rintro rfl
    rcases he with z | z
    ·exact nown c b hc z
    ·rw [hc] at z; cases z; exact hb rfl
end
structure Un (fs ex : List Addr) (H H' : Hp) (h h' : Heap) : Prop where
 keep : ∀ b o,h.get? b = some o->H b = none->b ∉ fs->b ∉ ex->h'.get? b = some o
 slot : ∀ b o,h.get? b = some o->H b = none->b∈fs->b ∉ ex -> ∃ sl,h'.get? b = some { o with slots:=sl }
 free : ∀ b o,h.get? b = some o->H b = none->b ∉ ex->H' b = none
 there : ∀ b o,h.get? b = some o->b ∉ ex -> ∃ o',h'.get? b = some o'
 tups : ∀ b xs,H b = some (.tup xs)->H' b = some (.tup xs)
 frzs : ∀ b o u,H b = some (.frz o u)->H' b = some (.frz o u)
 tbls : ∀ b ps,H b = some (.tbl ps) -> ∃ more,H' b = some (.tbl (ps++more))
section
variable {fs fs' ex ex' : List Addr} {H H1 H2 : Hp} {h h1 h2 h' : Heap} {a x e : Addr} {o : HO}
theorem Un.any (u : Un fs ex H H1 h h1) {b : Addr} {ob : Obj} (q : h.get? b = some ob) (n : H b = none) (hx : b ∉ ex) : ∃ sl,h1.get? b = some { ob with slots:=sl }:=by
 by_cases hb : b∈fs
 ·exact u.slot b ob q n hb hx
 ·exact ⟨ob.slots,u.keep b ob q n hb hx⟩
theorem Un.kept (k : ∀ b u,h.get? b = some u->h'.get? b = some u) : Un fs ex H H h h' :=
 ⟨fun b ob q _ _ _=>k b ob q,fun b ob q _ _ _=>⟨ob.slots,k b ob q⟩,fun _ _ _ n _=>n,fun b ob q _=>⟨ob,k b ob q⟩,fun _ _ q=>q,fun _ _ _ q=>q,fun _ ps q=>⟨#[],by rw [q]; simp⟩⟩
theorem Un.refl : Un fs ex H H h h:=Un.kept fun _ _ q=>q
theorem Un.laid (k : ∀ b u,h.get? b = some u->h'.get? b = some u) (hp : h.objs.size <= a) (hn : H a = none) : Un fs ex H (upd H a o) h h' where
 keep:=fun b u q _ _ _=>k b u q
 slot:=fun b u q _ _ _=>⟨u.slots,k b u q⟩
 free:=fun b u q n _=>by rw [zam (Zht (Zhn (Zhf q) hp))]; exact n
 there:=fun b u q _=>⟨u,k b u q⟩
 tups:=fun b xs q=>by rw [zam (zat q hn)]; exact q
 frzs:=fun b u xs q=>by rw [zam (zat q hn)]; exact q
 tbls:=fun b ps q=>⟨#[],by rw [zam (zat q hn),q]; simp⟩
theorem Un.write (mu : Mut (H x)) (he : e = x \/ H e = some (.own x)) (k : ∀ b u,b≠e->h.get? b = some u->h'.get? b = some u) (heo : ∃ u,h'.get? e = some u) : Un fs ex H (upd H x o) h h':=by
 have hx : ∀ b,H b = none->b≠x:=fun b n z=>by subst z; rw [n] at mu; exact mu
 have hb : ∀ b,H b = none->b≠e:=fun b n z=>by
  subst z
  rcases he with r | r
  ·exact hx b n r
  ·rw [n] at r; cases r
 have hm : ∀ b u,H b = some u -> ¬ Mut (some u)->b≠x:=fun b u q nm z=>by subst z; rw [q] at mu; exact nm mu
 refine ⟨fun b u q n _ _=>k b u (hb b n) q,fun b u q n _ _=>⟨u.slots,k b u (hb b n) q⟩,fun b u q n _=>by rw [zam (hx b n)]; exact n,fun b u q _=>?_,
  fun b xs q=>by rw [zam (hm b _ q fun z=>z)]; exact q,fun b u xs q=>by rw [zam (hm b _ q fun z=>z)]; exact q,fun b ps q=>⟨#[],by rw [zam (hm b _ q fun z=>z),q]; simp⟩⟩
 by_cases hbe : b = e
 ·subst hbe; exact heo
 ·exact ⟨u,k b u hbe q⟩
end
noncomputable def trk (h : Heap) (H : Hp) : List Addr:=(Zg4 h.objs.size).filter fun a=>(H a).isSome
noncomputable def hidT (h : Heap) (H : Hp) : Heap:=PySem.W.hideAll h (trk h H)
theorem zth (h : Heap) (H : Hp) : (hidT h H).objs.size = h.objs.size:=PySem.W.hideAll_size _ _
theorem zjl {h : Heap} {H : Hp} {b : Addr} {o : Obj} (e : h.get? b = some o) (n : H b = none) : (hidT h H).get? b = some o :=
 PySem.W.hideAll_get _ e fun hm=>by
  have q : (H b).isSome = true:=(Zhh.mp hm).2
  rw [n] at q; simp at q
theorem yb8 {h : Heap} {H : Hp} {b : Addr} {o : Obj} (e : (hidT h H).get? b = some o) : h.get? b = some o/\H b = none:=by
 have e' : h.get? b = some o:=PySem.W.of_hideAll (trk h H) e
 refine ⟨e',?_⟩
 cases q : H b with
 | none=>rfl
 | some x =>
  have hm : b∈trk h H:=Zhh.mpr ⟨Zhv.mpr (Zhf e'),by simp [q]⟩
  have z : (hidT h H).get? b = none:=PySem.W.hideAll_none (trk h H) hm
  rw [z] at e; cases e
noncomputable def ycg (g h : Heap) (L : Addr) : List (Addr × Obj):=(Zg4 h.objs.size).filterMap fun a=>if a = L \/ (g.get? a).isSome = true then none else (h.get? a).map fun o=>(a,o)
noncomputable def rest (g h : Heap) (L d : Addr) : List (Addr × Obj):=(ycg g h L).filter fun p=>decide (p.1≠d)
structure Mod (K : Zgy) (mg : Str->Option Value) (base : Heap) : Prop where
 kin : K.In base
 glob : base.Ns Zju mg
 blt : ∃ mb,base.Ns Zpr mb /\ ∀ x : Str,x ≠ "__name__" -> mb x = Zme x
 nolimit : base.NoLimit
structure Cx where
 prog : Zhz
 w : Zix
 K : Zgy
 mg : Str->Option Value
 base : Heap
 A : Zh3
 N : List Str
 s₀ : Zg5
 H₀ : Hp
 env : Env
 outer : List Env
 stack : List Env
 ex : List Addr
 fn : Str->Bool
 calm : Bool
 pn : List (Addr × Obj)
 xe : Value->Zg5->Prop
noncomputable def frs (l : List Env) : List Addr:=l.filterMap (·.frame)
noncomputable abbrev Cx.fs (X : Cx) : List Addr:=frs X.outer
noncomputable def Vis (sc : Scope) (x : Str) : Prop:=sc.names.lookup x = some .local \/ sc.names.lookup x = some .cell \/ sc.names.lookup x = some .free
noncomputable def Loc (sc : Scope) (x : Str) : Prop:=sc.names.lookup x = some .local \/ sc.names.lookup x = some .cell
noncomputable def Look (env : Env) (h : Heap) (m : Str->Option Value) (x : Str) (u : Value) : Prop :=
 (env.kindOf x = some .local/\m x = some u) \/ ((env.kindOf x = some .cell \/ env.kindOf x = some .free) /\ ∃ c,env.cells.lookup x = some c/\h.IsCell c (some u))
structure Cx.Ok (X : Cx) : Prop where
 mod : Mod X.K X.mg X.base
 kind : X.env.scope.kind = .function
 glob : X.env.globals = Zju
 blt : X.env.builtins = Zpr
 above : X.s₀.heap.objs.size <= X.env.locals
 inj : ∀ x y c,X.env.cells.lookup x = some c->X.env.cells.lookup y = some c->x = y
 has : ∀ x,(X.env.kindOf x = some .cell \/ X.env.kindOf x = some .free) -> ∃ c,X.env.cells.lookup x = some c
 cab : ∀ x c,X.fn x = true->X.env.cells.lookup x = some c->X.s₀.heap.objs.size <= c
 hd : X.calm = true->X.A.handled = none
 frames : X.A.frames = some X.stack
 stk : X.stack = X.outer \/ (X.stack = X.env::X.outer/\X.env.frame = some X.env.locals)
 exf : ∀ b∈X.ex,b≠X.env.locals /\ ∀ x c,X.env.cells.lookup x = some c->c≠b
 bs : ∀ b o,X.base.get? b = some o->X.s₀.heap.get? b = some o/\X.H₀ b = none
 bsz : X.base.objs.size <= X.s₀.heap.objs.size
 noex : ∀ b o,X.base.get? b = some o->b ∉ X.ex
 exfs : ∀ b∈X.ex,b ∉ X.fs
 funs : X.s₀.heap.FunFrames X.base X.outer
 frf : ∀ b∈X.fs,X.H₀ b = none
structure Inv (X : Cx) (pins : List (Addr × Obj)) (σ : List (Option V)) (H : Hp) (s : Zg5) : Prop where
 ok : X.Ok
 os : s.os = X.s₀.os
 bare : Zob s.gens
 base : Un X.fs X.ex X.H₀ H X.s₀.heap s.heap
 loc : ∃ m,s.heap.Ns X.env.locals m /\ ∀ (i : Nat) (x : Str) (v : V),X.N[i]? = some x->σ[i]? = some (some v)->Vis X.env.scope x -> ∃ u,RelV v u/\Look X.env s.heap m x u
 cell : ∀ x c,X.env.cells.lookup x = some c -> ∃ v,s.heap.IsCell c v
 free : H X.env.locals = none
 freeC : ∀ x c,X.env.cells.lookup x = some c->H c = none
 pin : ∀ p∈X.pn++pins,s.heap.get? p.1 = some p.2/\H p.1 = none/\p.1≠X.env.locals/\p.1 ∉ X.fs /\ ∀ v,p.2.data ≠ .cell v
 hok : HOk X.prog X.w H s.heap
 len : σ.length = X.N.length
section
variable {X : Cx} {pins : List (Addr × Obj)} {σ : List (Option V)} {H H' : Hp} {s : Zg5} {h' : Heap}
theorem Cx.Ok.nofr (ok : X.Ok) {b : Addr} {o : Obj} (e : X.base.get? b = some o) : b ∉ X.fs:=fun hb=>by
 have:=(ok.funs.mem hb).1
 rw [e] at this; cases this
theorem Inv.bs (I : Inv X pins σ H s) : ∀ b o,X.base.get? b = some o->s.heap.get? b = some o/\H b = none:=fun b o e =>
 ⟨I.base.keep b o (I.ok.bs b o e).1 (I.ok.bs b o e).2 (I.ok.nofr e) (I.ok.noex b o e),I.base.free b o (I.ok.bs b o e).1 (I.ok.bs b o e).2 (I.ok.noex b o e)⟩
theorem Inv.bk (I : Inv X pins σ H s) : ∀ b o,X.base.get? b = some o->s.heap.get? b = some o:=fun b o e=>(I.bs b o e).1
theorem Inv.mod (I : Inv X pins σ H s) : Mod X.K X.mg X.base:=I.ok.mod
theorem Inv.kIn (I : Inv X pins σ H s) : X.K.In s.heap:=I.ok.mod.kin.keeps I.bk
theorem Inv.nolimit (I : Inv X pins σ H s) : s.heap.NoLimit:=I.ok.mod.nolimit.keeps I.bk
theorem Inv.fr (I : Inv X pins σ H s) : ∃ m,Fr X.base X.env.locals s.heap m :=
 let ⟨m,hn,_⟩:=I.loc
 ⟨m,hn,I.bk,Zh1 I.ok.bsz I.ok.above⟩
theorem Inv.lt (I : Inv X pins σ H s) : X.env.locals < s.heap.objs.size:=let ⟨_,hn,_⟩:=I.loc; hn.lt
theorem Inv.sz (I : Inv X pins σ H s) : X.s₀.heap.objs.size <= s.heap.objs.size:=Zh1 I.ok.above (Zkw I.lt)
theorem Inv.nofs (I : Inv X pins σ H s) {a : Addr} (h : s.heap.objs.size <= a) : a ∉ X.fs:=fun hb=>by
 obtain ⟨_,o,ho,_⟩:=I.ok.funs.mem hb
 exact absurd (Zhn (Zhf ho) (Zh1 I.sz h)) (Zh6 _)
theorem Inv.cne (I : Inv X pins σ H s) : ∀ x c,X.env.cells.lookup x = some c->c≠X.env.locals:=fun x c e z=>by
 obtain ⟨v,o,ho,hd⟩:=I.cell x c e
 obtain ⟨m,⟨o',es,ep,ho',hd',_⟩,_⟩:=I.loc
 rw [z,ho'] at ho; cases ho; rw [hd'] at hd; cases hd
theorem Inv.funs (I : Inv X pins σ H s) : s.heap.FunFrames X.base X.outer:=by
 have all : ∀ (l : List Env),(∀ b∈frs l,b∈X.fs)->X.s₀.heap.FunFrames X.base l->s.heap.FunFrames X.base l:=by
  intro l
  induction l with
  | nil=>intro _ _; trivial
  | cons env r ih =>
   intro hs hl
   obtain ⟨hk,⟨L,o,hf,hn,ho,hd⟩,hr⟩:=hl
   have hL : L∈X.fs:=hs L (by unfold frs; rw [Zn3,hf]; exact Zhl)
   obtain ⟨sl,e⟩:=I.base.slot L o ho (I.ok.frf L hL) hL fun z=>I.ok.exfs L z hL
   exact ⟨hk,⟨L,_,hf,hn,e,hd⟩,ih (fun b hb=>hs b (by unfold frs; rw [Zn3,hf]; exact Zhd _ hb)) hr⟩
 exact all X.outer (fun _ hb=>hb) I.ok.funs
theorem Inv.stack (I : Inv X pins σ H s) : s.heap.FunFrames X.base X.stack:=by
 rcases I.ok.stk with e | ⟨e,hf⟩
 ·rw [e]; exact I.funs
 ·rw [e]
  obtain ⟨m,hn,_⟩:=I.loc
  refine .cons (by rw [I.ok.kind]; decide) hf hn ?_ I.funs
  exact Znt (Zh1 I.ok.bsz I.ok.above)
theorem Inv.stkSub (I : Inv X pins σ H s) : ∀ b∈frs X.stack,b∈X.env.locals::X.fs:=fun b hb=>by
 rcases I.ok.stk with e | ⟨e,hf⟩
 ·rw [e] at hb; exact Zhd _ hb
 ·rw [e] at hb
  unfold frs at hb
  rw [Zn3,hf] at hb
  exact hb
theorem Inv.stkFree (I : Inv X pins σ H s) : ∀ b∈frs X.stack,H b = none:=fun b hb=>by
 rcases Zhp.mp (I.stkSub b hb) with e | hb
 ·rw [e]; exact I.free
 ·obtain ⟨_,o,ho,_⟩:=I.ok.funs.mem hb
  exact I.base.free b o ho (I.ok.frf b hb) fun z=>I.ok.exfs b z hb
theorem Inv.step {g' : Array Ztk} {t' : Nat} {d' : Drawn} {ch : List Addr} (I : Inv X pins σ H s)
  (hch : ∀ b∈ch,(b∈X.ex \/ X.s₀.heap.objs.size <= b)/\b≠X.env.locals/\(∀ x c,X.env.cells.lookup x = some c->c≠b) /\ ∀ p∈X.pn++pins,p.1≠b)
  (keep : ∀ b o,b≠X.env.locals->b ∉ X.fs->b ∉ ch->s.heap.get? b = some o->H b = none->h'.get? b = some o)
  (slot : ∀ b o,b≠X.env.locals->b∈X.fs->b ∉ ch->s.heap.get? b = some o->H b = none -> ∃ sl,h'.get? b = some { o with slots:=sl }) (free : ∀ b o,b ∉ ch->s.heap.get? b = some o->H b = none->H' b = none)
  (there : ∀ b o,b ∉ ch->s.heap.get? b = some o -> ∃ o',h'.get? b = some o')
  (tups : ∀ b xs,H b = some (.tup xs)->H' b = some (.tup xs)) (frzs : ∀ b o u,H b = some (.frz o u)->H' b = some (.frz o u)) (tbls : ∀ b ps,H b = some (.tbl ps) -> ∃ more,H' b = some (.tbl (ps++more)))
  (ns : ∀ m,s.heap.Ns X.env.locals m->h'.Ns X.env.locals m) (hok : HOk X.prog X.w H' h') (hg : Zob g') :
  Inv X pins σ H' { s with heap:=h',gens:=g',drawn:=d',toks:=t' }:=by
 have neL : ∀ b o,X.s₀.heap.get? b = some o->b≠X.env.locals:=fun b o e=>Zht (Zhn (Zhf e) I.ok.above)
 have neC : ∀ b o,X.s₀.heap.get? b = some o->b ∉ X.ex->b ∉ ch:=fun b o e hx hb=>by
  rcases (hch b hb).1 with z | z
  ·exact hx z
  ·exact absurd (Zhn (Zhf e) z) (Zh6 _)
 have cellK : ∀ x c,X.env.cells.lookup x = some c -> ∀ v,s.heap.IsCell c v->h'.IsCell c v:=fun x c e v ⟨o,ho,hd⟩=>by
  have nch : c ∉ ch:=fun z=>(hch c z).2.2.1 x c e rfl
  by_cases hc : c∈X.fs
  ·obtain ⟨sl,q⟩:=slot c o (I.cne x c e) hc nch ho (I.freeC x c e)
   exact ⟨_,q,hd⟩
  ·exact ⟨o,keep c o (I.cne x c e) hc nch ho (I.freeC x c e),hd⟩
 refine ⟨I.ok,I.os,hg,⟨fun b o e n hb hx=>?_,fun b o e n hb hx=>?_,fun b o e n hx=>?_,fun b o e hx=>?_,fun b xs e=>tups b xs (I.base.tups b xs e),fun b o xs e=>frzs b o xs (I.base.frzs b o xs e),fun b ps e=>?_⟩,?_,fun x c e=>?_,?_,fun x c e=>?_,fun p hp=>?_,hok,I.len⟩
 ·exact keep b o (neL b o e) hb (neC b o e hx) (I.base.keep b o e n hb hx) (I.base.free b o e n hx)
 ·obtain ⟨sl,e1⟩:=I.base.slot b o e n hb hx
  obtain ⟨sl',e2⟩:=slot b _ (neL b o e) hb (neC b o e hx) e1 (I.base.free b o e n hx)
  exact ⟨sl',e2⟩
 ·obtain ⟨o',e1⟩:=I.base.there b o e hx
  exact free b o' (neC b o e hx) e1 (I.base.free b o e n hx)
 ·obtain ⟨o',e1⟩:=I.base.there b o e hx
  exact there b o' (neC b o e hx) e1
 ·obtain ⟨m1,e1⟩:=I.base.tbls b ps e
  obtain ⟨m2,e2⟩:=tbls b _ e1
  exact ⟨m1++m2,by rw [e2,Zrl]⟩
 ·obtain ⟨m,hn,hl⟩:=I.loc
  refine ⟨m,ns m hn,fun i x v e1 e2 e3=>?_⟩
  obtain ⟨u,r,l⟩:=hl i x v e1 e2 e3
  refine ⟨u,r,?_⟩
  rcases l with l | ⟨k,c,e,z⟩
  ·exact .inl l
  ·exact .inr ⟨k,c,e,cellK x c e _ z⟩
 ·obtain ⟨v,z⟩:=I.cell x c e
  exact ⟨v,cellK x c e v z⟩
 ·obtain ⟨m,⟨o,_,_,ho,_⟩,_⟩:=I.loc
  exact free _ o (fun z=>(hch _ z).2.1 rfl) ho I.free
 ·obtain ⟨v,o,ho,hd⟩:=I.cell x c e
  exact free c o (fun z=>(hch c z).2.2.1 x c e rfl) ho (I.freeC x c e)
 ·obtain ⟨e,n,ne,nf,d⟩:=I.pin p hp
  have nch : p.1 ∉ ch:=fun z=>(hch p.1 z).2.2.2 p hp rfl
  exact ⟨keep p.1 p.2 ne nf nch e n,free p.1 p.2 nch e n,ne,nf,d⟩
theorem Inv.un {t' : Nat} (I : Inv X pins σ H s) (u : Un X.fs [] H H' s.heap h') (hok : HOk X.prog X.w H' h') : Inv X pins σ H' { s with heap:=h',toks:=t' }:=by
 obtain ⟨m,⟨o,es,ep,ho,r⟩,_⟩:=id I.loc
 obtain ⟨sl,hL⟩:=u.any ho I.free (by simp)
 exact I.step (g':=s.gens) (d':=s.drawn) (ch:=[]) (fun _ z=>nomatch z) (fun b o _ hb _ e n=>u.keep b o e n hb (by simp)) (fun b o _ hb _ e n=>u.slot b o e n hb (by simp)) (fun b o _ e n=>u.free b o e n (by simp)) (fun b o _ e=>u.there b o e (by simp)) u.tups u.frzs u.tbls (fun m' hm=>by
  obtain ⟨o',es',ep',ho',r'⟩:=hm
  rw [ho] at ho'; cases ho'
  exact ⟨_,es',ep',hL,r'⟩) hok I.bare
theorem Inv.call {g' : Array Ztk} {t' : Nat} {d' : Drawn} {ch : List Addr} (I : Inv X pins σ H s) (u : Un (frs X.stack) ch H H' s.heap h') (hok : HOk X.prog X.w H' h') (hg : Zob g')
  (hch : ∀ b∈ch,(b∈X.ex \/ X.s₀.heap.objs.size <= b)/\b≠X.env.locals/\(∀ x c,X.env.cells.lookup x = some c->c≠b) /\ ∀ p∈X.pn++pins,p.1≠b) :
  Inv X pins σ H' { s with heap:=h',gens:=g',drawn:=d',toks:=t' }:=by
 obtain ⟨m,⟨o,es,ep,ho,r⟩,_⟩:=id I.loc
 obtain ⟨sl,hL⟩:=u.any ho I.free fun z=>(hch _ z).2.1 rfl
 exact I.step (ch:=ch) hch (fun b o hL hb hc e n=>u.keep b o e n (fun z=>(Zhp.mp (I.stkSub b z)).elim hL hb) hc) (fun b o _ _ hc e n=>u.any e n hc) (fun b o hc e n=>u.free b o e n hc) (fun b o hc e=>u.there b o e hc) u.tups u.frzs u.tbls (fun m' hm=>by
  obtain ⟨o',es',ep',ho',r'⟩:=hm
  rw [ho] at ho'; cases ho'
  exact ⟨_,es',ep',hL,r'⟩) hok hg
theorem Inv.turned {t' : Nat} {it : Addr} (I : Inv X pins σ H s) (k : ∀ b o,b≠it->s.heap.get? b = some o->h'.get? b = some o) (hn : H it = none) (hL : it≠X.env.locals)
  (h1 : it∈X.ex \/ X.s₀.heap.objs.size <= it) (h2 : ∀ x c,X.env.cells.lookup x = some c->c≠it) (h3 : ∀ p∈X.pn++pins,p.1≠it) : Inv X pins σ H { s with heap:=h',toks:=t' }:=by
 have nit : ∀ b u,H b = some u->b≠it:=fun b u e z=>by rw [z,hn] at e; cases e
 refine I.step (g':=s.gens) (d':=s.drawn) (ch:=[it]) (fun b hb=>?_) (fun b o _ _ hc e _=>k b o (fun z=>hc (by simp [z])) e) (fun b o _ _ hc e _=>⟨o.slots,k b o (fun z=>hc (by simp [z])) e⟩) (fun _ _ _ _ n=>n)
  (fun b o hc e=>⟨o,k b o (fun z=>hc (by simp [z])) e⟩) (fun _ _ e=>e) (fun _ _ _ e=>e) (fun b ps e=>⟨#[],by rw [e]; simp⟩) (fun m hm=>?_) (fun b u e=>?_) I.bare
 ·have e : b = it:=by simpa using hb
  subst e
  exact ⟨h1,hL,h2,h3⟩
 ·obtain ⟨o,es,ep,ho,r⟩:=hm
  exact ⟨o,es,ep,k _ o (Zif hL) ho,r⟩
 ·refine (I.hok b u e).stay (fun c v hc q=>k c v ?_ q) (fun _ q=>q) fun _ _ q=>q
  rcases hc with z | z
  ·rw [z]; exact nit b u e
  ·exact nit c _ z
theorem Inv.tok (I : Inv X pins σ H s) (t : Nat) : Inv X pins σ H { s with toks:=t }:=I.un (h':=s.heap) (t':=t) Un.refl I.hok
theorem Inv.kept {t' : Nat} (I : Inv X pins σ H s) (k : ∀ b u,s.heap.get? b = some u->h'.get? b = some u) : Inv X pins σ H { s with heap:=h',toks:=t' }:=I.un (Un.kept k) (I.hok.kept k)
theorem Inv.laid {a : Addr} {o : HO} {t' : Nat} (I : Inv X pins σ H s) (k : ∀ b u,s.heap.get? b = some u->h'.get? b = some u) (hp : s.heap.objs.size <= a) (new : zc9 X.prog X.w (upd H a o) h' a o) :
  Inv X pins σ (upd H a o) { s with heap:=h',toks:=t' }:=I.un (Un.laid k hp (I.hok.fresh hp)) (I.hok.laid k hp new)
theorem Inv.write {x e : Addr} {o : HO} {t' : Nat} (I : Inv X pins σ H s) (mu : Mut (H x)) (he : e = x \/ H e = some (.own x)) (k : ∀ b u,b≠e->s.heap.get? b = some u->h'.get? b = some u) (heo : ∃ u,h'.get? e = some u)
  (new : zc9 X.prog X.w (upd H x o) h' x o) : Inv X pins σ (upd H x o) { s with heap:=h',toks:=t' }:=I.un (Un.write mu he k heo) (I.hok.write mu he k heo new)
theorem Inv.weak {σ' : List (Option V)} (I : Inv X pins σ H s) (hl : σ'.length = σ.length) (w : ∀ (i : Nat) v,σ'[i]? = some (some v)->σ[i]? = some (some v)) : Inv X pins σ' H s :=
 ⟨I.ok,I.os,I.bare,I.base,let ⟨m,hn,hl'⟩:=I.loc; ⟨m,hn,fun i x v e1 e2 e3=>hl' i x v e1 (w i v e2) e3⟩,I.cell,I.free,I.freeC,I.pin,I.hok,hl.trans I.len⟩
theorem Inv.pins_of {pins' : List (Addr × Obj)} (I : Inv X pins σ H s) (h : ∀ p∈pins',s.heap.get? p.1 = some p.2/\H p.1 = none/\p.1≠X.env.locals/\p.1 ∉ X.fs /\ ∀ v,p.2.data ≠ .cell v) : Inv X pins' σ H s :=
 ⟨I.ok,I.os,I.bare,I.base,I.loc,I.cell,I.free,I.freeC,fun p hp=>(Zhe.mp hp).elim (fun z=>I.pin p (Zhu _ z)) (h p),I.hok,I.len⟩
theorem zmn {N : List Str} (hN : N.Nodup) {i j : Nat} {x : Str} (a : N[i]? = some x) (b : N[j]? = some x) : i = j:=by
 obtain ⟨h1,e1⟩:=Zg7.mp a
 obtain ⟨h2,e2⟩:=Zg7.mp b
 exact (Zo1 hN).mp (e1.trans e2.symm)
theorem znh {M : Znw} {A : Zh3} {E : Value->Zg5->Prop} {i : Nat} {x : Str} {v : V} {u : Value} {Q : Unit->Zg5->Prop} (I : Inv X pins σ H s) (hN : X.N.Nodup) (hi : X.N[i]? = some x) (hx : Loc X.env.scope x) (r : RelV v u)
  (h : ∀ s',Inv X pins (σ.set i (some v)) H s'->(∃ a,Zox a s.heap s'.heap/\(a = X.env.locals \/ X.env.cells.lookup x = some a))->Q () s') (hf : X.fn x = true \/ X.env.scope.names.lookup x = some .local:=by first | exact .inl rfl | exact .inr rfl | assumption) : Zhs M A (storeName X.env x u) Q E s:=by
 obtain ⟨m,hn,hl⟩:=id I.loc
 have hcls : (X.env.scope.kind == .class || (X.env.scope.kind == .module && X.env.locals != X.env.globals)) = false:=by rw [I.ok.kind]; rfl
 have hiσ : i < σ.length:=by rw [I.len]; exact (Zg7.mp hi).1
 have cne:=I.cne
 have tracked : ∀ {a : Addr} {h' : Heap},(∃ o,s.heap.get? a = some o/\H a = none)->Zox a s.heap h'->HOk X.prog X.w H h':=fun {a h'} ha hs b ob e=>by
  obtain ⟨_,_,hfree⟩:=ha
  refine (I.hok b ob e).stay (fun c w' hc q=>(hs.2 c ?_).trans q) (fun _ q=>q) fun _ _ q=>q
  rintro rfl
  rcases hc with rfl | hc
  ·rw [hfree] at e; cases e
  ·rw [hfree] at hc; cases hc
 rcases hx with hk | hk
 ·refine wpAny_storeName_local hk hn (fun h' hn' hs=>?_) hcls
  obtain ⟨oL,_,_,hoL,_⟩:=id hn
  refine h _ ⟨I.ok,I.os,I.bare,⟨fun b o e n hb hx=>?_,fun b o e n hb hx=>?_,I.base.free,fun b o e hx=>?_,I.base.tups,I.base.frzs,I.base.tbls⟩,⟨_,hn',fun j y v' e1 e2 e3=>?_⟩,fun y c e=>?_,I.free,I.freeC,fun p hp=>?_,tracked ⟨oL,hoL,I.free⟩ hs,by simpa using I.len⟩ ⟨_,hs,.inl rfl⟩
  ·exact (hs.2 b (Zht (Zhn (Zhf e) I.ok.above))).trans (I.base.keep b o e n hb hx)
  ·obtain ⟨sl,e1⟩:=I.base.slot b o e n hb hx
   exact ⟨sl,(hs.2 b (Zht (Zhn (Zhf e) I.ok.above))).trans e1⟩
  ·obtain ⟨o',e1⟩:=I.base.there b o e hx
   exact ⟨o',(hs.2 b (Zht (Zhn (Zhf e) I.ok.above))).trans e1⟩
  ·by_cases hj : j = i
   ·subst hj
    rw [hi] at e1; cases e1
    rw [Ziq hiσ] at e2
    cases e2
    exact ⟨u,r,.inl ⟨hk,by simp⟩⟩
   ·rw [Zjk (Zif hj)] at e2
    obtain ⟨u',r',q⟩:=hl j y v' e1 e2 e3
    refine ⟨u',r',?_⟩
    rcases q with ⟨k,e⟩ | ⟨k,c,e,z⟩
    ·refine .inl ⟨k,?_⟩
     have : y≠x:=fun e=>hj (zmn hN e1 (e ▸ hi))
     simp [this,e]
    ·exact .inr ⟨k,c,e,z.sameBut hs (cne y c e)⟩
  ·obtain ⟨w',z⟩:=I.cell y c e
   exact ⟨w',z.sameBut hs (cne y c e)⟩
  ·obtain ⟨e,n,ne,nf,d⟩:=I.pin p hp
   exact ⟨(hs.2 p.1 ne).trans e,n,ne,nf,d⟩
 ·have hfn : X.fn x = true:=by
   rcases hf with z | z
   ·exact z
   ·rw [z] at hk; cases hk
  obtain ⟨c,hc⟩:=I.ok.has x (.inl hk)
  obtain ⟨w',z⟩:=I.cell x c hc
  refine wpAny_storeName_cell I.ok.kind hk hc z (fun h' hc' hs=>?_)
  obtain ⟨oc,hoc,hocd⟩:=id z
  refine h { s with heap:=h' } ⟨I.ok,I.os,I.bare,⟨fun b o e n hb hx=>?_,fun b o e n hb hx=>?_,I.base.free,fun b o e hx=>?_,I.base.tups,I.base.frzs,I.base.tbls⟩,⟨m,hn.sameBut hs (Zif (cne x c hc)),fun j y v' e1 e2 e3=>?_⟩,fun y c' e=>?_,I.free,I.freeC,fun p hp=>?_,tracked ⟨oc,hoc,I.freeC x c hc⟩ hs,by simpa using I.len⟩ ⟨c,hs,.inr hc⟩
  ·exact (hs.2 b (Zht (Zhn (Zhf e) (I.ok.cab x c hfn hc)))).trans (I.base.keep b o e n hb hx)
  ·obtain ⟨sl,e1⟩:=I.base.slot b o e n hb hx
   exact ⟨sl,(hs.2 b (Zht (Zhn (Zhf e) (I.ok.cab x c hfn hc)))).trans e1⟩
  ·obtain ⟨o',e1⟩:=I.base.there b o e hx
   exact ⟨o',(hs.2 b (Zht (Zhn (Zhf e) (I.ok.cab x c hfn hc)))).trans e1⟩
  ·by_cases hj : j = i
   ·subst hj
    rw [hi] at e1; cases e1
    rw [Ziq hiσ] at e2
    cases e2
    exact ⟨u,r,.inr ⟨.inl hk,c,hc,hc'⟩⟩
   ·rw [Zjk (Zif hj)] at e2
    obtain ⟨u',r',q⟩:=hl j y v' e1 e2 e3
    refine ⟨u',r',?_⟩
    rcases q with q | ⟨k,c',e,z'⟩
    ·exact .inl q
    ·refine .inr ⟨k,c',e,z'.sameBut hs ?_⟩
     rintro rfl
     exact hj (zmn hN e1 (I.ok.inj _ _ _ e hc ▸ hi))
  ·by_cases hcc : c' = c
   ·subst hcc; exact ⟨_,hc'⟩
   ·obtain ⟨w2,z2⟩:=I.cell y c' e
    exact ⟨w2,z2.sameBut hs hcc⟩
  ·obtain ⟨e,n,ne,nf,d⟩:=I.pin p hp
   refine ⟨(hs.2 p.1 ?_).trans e,n,ne,nf,d⟩
   intro q
   rw [q,hoc] at e
   have q' : oc = p.2:=Zit e
   exact d w' (by rw [<- q']; exact hocd)
theorem zhx {M : Znw} {A : Zh3} {E : Value->Zg5->Prop} {i : Nat} {x : Str} {v : V} {u : Value} {Q : Unit->Zg5->Prop} (I : Inv X pins σ H s) (hN : X.N.Nodup) (hi : X.N[i]? = some x) (hx : Loc X.env.scope x) (r : RelV v u)
  (h : ∀ s',Inv X pins (σ.set i (some v)) H s'->Q () s') (hf : X.fn x = true \/ X.env.scope.names.lookup x = some .local:=by first | exact .inl rfl | exact .inr rfl | assumption) : Zhs M A (storeName X.env x u) Q E s :=
 znh I hN hi hx r (fun s' I' _=>h s' I') hf
theorem Inv.call' {s' : Zg5} {ch : List Addr} (I : Inv X pins σ H s) (ho : s'.os = s.os) (u : Un (frs X.stack) ch H H' s.heap s'.heap) (hok : HOk X.prog X.w H' s'.heap) (hg : Zob s'.gens)
  (hch : ∀ b∈ch,(b∈X.ex \/ X.s₀.heap.objs.size <= b)/\b≠X.env.locals/\(∀ x c,X.env.cells.lookup x = some c->c≠b) /\ ∀ p∈X.pn++pins,p.1≠b) : Inv X pins σ H' s':=by
 obtain ⟨h',g',d',t',o'⟩:=s'
 have e : o' = s.os:=ho
 subst e
 exact I.call (g':=g') (t':=t') (d':=d') u hok hg hch
end
noncomputable abbrev XK:=Value->Option Addr->Hp->Prop
noncomputable abbrev St:=List (Option V)
noncomputable abbrev VK:=V->Hp->Prop
noncomputable abbrev TE:=St->Hp->VK->Prop
noncomputable abbrev TT:=St->Hp->(Bool->Hp->Prop)->Prop
noncomputable abbrev TA:=St->Hp->(List V->Hp->Prop)->Prop
structure Ends where
 nx : St->Hp->Prop
 rt : VK
 bk : St->Hp->Prop:=fun _ _=>False
 ct : St->Hp->Prop:=fun _ _=>False
noncomputable abbrev TS:=Ends->St->Hp->Prop
noncomputable def EP (X : Cx) (pins : List (Addr × Obj)) (σ : St) (Q : VK) (u : Value) (s' : Zg5) : Prop:=∃ v H',Inv X pins σ H' s'/\RelV v u/\Q v H'
noncomputable def TP (X : Cx) (pins : List (Addr × Obj)) (σ : St) (Q : Bool->Hp->Prop) (b : Bool) (s' : Zg5) : Prop:=∃ H',Inv X pins σ H' s'/\Q b H'
noncomputable def AP (X : Cx) (pins : List (Addr × Obj)) (σ : St) (Q : List V->Hp->Prop) (us : List Value) (s' : Zg5) : Prop:=∃ vs H',Inv X pins σ H' s'/\Vals vs us/\Q vs H'
noncomputable def SP (X : Cx) (pins : List (Addr × Obj)) (D : Ends) (f : Flow) (s' : Zg5) : Prop :=
 match f with
 | .next=>∃ σ' H',Inv X pins σ' H' s'/\D.nx σ' H'
 | .brk=>∃ σ' H',Inv X pins σ' H' s'/\D.bk σ' H'
 | .cont=>∃ σ' H',Inv X pins σ' H' s'/\D.ct σ' H'
 | .ret u=>∃ v σ' H',Inv X pins σ' H' s'/\RelV v u/\D.rt v H'
noncomputable def PE (X : Cx) (e : Expr) (t : TE) : Prop :=
 ∀ (pins : List (Addr × Obj)) (s : Zg5) (σ : St) (H : Hp) (Q : VK),Inv X pins σ H s->t σ H Q->Zhs (Zh2 X.prog X.w) X.A (eval e X.env) (EP X pins σ Q) X.xe s
noncomputable def PT (X : Cx) (e : Expr) (t : TT) : Prop :=
 ∀ (pins : List (Addr × Obj)) (s : Zg5) (σ : St) (H : Hp) (Q : Bool->Hp->Prop),Inv X pins σ H s->t σ H Q->Zhs (Zh2 X.prog X.w) X.A (isTrue e X.env (eval e X.env)) (TP X pins σ Q) X.xe s
noncomputable def PW (X : Cx) (e : Expr) (t : TT) : Prop :=
 ∀ (whole : Sem Value) (pins : List (Addr × Obj)) (s : Zg5) (σ : St) (H : Hp) (Q : Bool->Hp->Prop),Inv X pins σ H s->t σ H Q->Zhs (Zh2 X.prog X.w) X.A (isTrue e X.env whole) (TP X pins σ Q) X.xe s
theorem PW.pt {X : Cx} {e : Expr} {t : TT} (h : PW X e t) : PT X e t:=h _
noncomputable def PA (X : Cx) (es : List Expr) (t : TA) : Prop :=
 ∀ (pos : Pos) (pins : List (Addr × Obj)) (s : Zg5) (σ : St) (H : Hp) (Q : List V->Hp->Prop),Inv X pins σ H s->t σ H Q->Zhs (Zh2 X.prog X.w) X.A (spliced (Zmf pos (Zic es X.env))) (AP X pins σ Q) X.xe s
noncomputable def PS (X : Cx) (st : Stmt) (t : TS) : Prop :=
 ∀ (pins : List (Addr × Obj)) (s : Zg5) (σ : St) (H : Hp) (D : Ends),Inv X pins σ H s->t D σ H->Zhs (Zh2 X.prog X.w) X.A (exec st X.env) (SP X pins D) X.xe s
noncomputable def PSs (X : Cx) (st : List Stmt) (t : TS) : Prop :=
 ∀ (pins : List (Addr × Obj)) (s : Zg5) (σ : St) (H : Hp) (D : Ends),Inv X pins σ H s->t D σ H->Zhs (Zh2 X.prog X.w) X.A (execs st X.env) (SP X pins D) X.xe s
theorem thn {α : Type} {t : Sem α} {Q Q' : α->Zg5->Prop} {M : Znw} {A : Zh3} {E : Value->Zg5->Prop} {s : Zg5} (h : Zhs M A t Q E s) (hQ : ∀ a s,Q a s->Q' a s) : Zhs M A t Q' E s:=Zid h hQ fun _ _ x=>x
section
variable {X : Cx}
noncomputable def tVar (i : Nat) : TE:=fun σ H Q=>∃ v,σ[i]? = some (some v)/\Q v H
noncomputable def tC (v : V) : TE:=fun _ H Q=>Q v H
theorem yfe {i : Nat} {x : Str} {pos : Pos} (hN : X.N[i]? = some x) (hv : Vis X.env.scope x) (hd : (x == ("__debug__" : Str)) = false:=by decide) (hcd : (x == ("__classdict__" : Str)) = false:=by decide) : PE X (.Name x pos) (tVar i):=by
 intro pins s σ H Q I h
 obtain ⟨v,e,h⟩:=h
 obtain ⟨m,hn,hl⟩:=I.loc
 obtain ⟨u,r,l⟩:=hl i x v hN e hv
 have fin : EP X pins σ Q u s:=⟨v,H,I,r,h⟩
 rcases l with ⟨hk,hm⟩ | ⟨hk,c,hc,hcell⟩
 ·exact Zto (wpAny_loadName_local I.ok.kind hk hn hm fin) hd
 ·rcases hk with hk | hk
  ·exact Zto (wpAny_loadName_cell I.ok.kind hk hc hcell fin) hd
  ·exact Zto (wpAny_loadName_free I.ok.kind hk hc hcell fin hcd) hd
theorem zal {i j pos} : PE X (.Constant (.int i) j pos) (tC (.int i)):=fun _ _ _ H _ I h=>wpAny_Constant_int ⟨.int i,H,I.tok _,⟨_,rfl⟩,h⟩
theorem zi1 {b j pos} : PE X (.Constant (.bool b) j pos) (tC (.bl b)):=fun _ _ _ H _ I h=>Constant_bool ⟨.bl b,H,I,rfl,h⟩
theorem zqk {j pos} : PE X (.Constant .none j pos) (tC .non):=fun _ _ _ H _ I h=>Constant_none ⟨.non,H,I,rfl,h⟩
theorem zjx {x j pos} : PE X (.Constant (.str x) j pos) (tC (.str x)):=fun _ _ _ H _ I h=>Calls.Constant_str ⟨.str x,H,I.tok _,⟨_,rfl⟩,h⟩
noncomputable def Gl (X : Cx) (x : Str) : Prop:=X.env.kindOf x = some .globalImplicit
theorem zkp {E : Value->Zg5->Prop} {pins : List (Addr × Obj)} {s : Zg5} {σ : St} {H : Hp} {x : Str} {u : Value} {pos : Pos} {Q : Value->Zg5->Prop} (I : Inv X pins σ H s) (hg : Gl X x) (hm : X.mg x = some u) (h : Q u s)
  (hd : (x == ("__debug__" : Str)) = false:=by decide) : Zhs (Zh2 X.prog X.w) X.A (eval (.Name x pos) X.env) Q E s :=
 Zpn I.ok.kind hg (Calls.loadGlobal_global (by rw [I.ok.glob]; exact I.mod.glob.keeps I.bk) hm h) hd
theorem zg7 {E : Value->Zg5->Prop} {pins : List (Addr × Obj)} {s : Zg5} {σ : St} {H : Hp} {x : Str} {u : Value} {pos : Pos} {Q : Value->Zg5->Prop} (I : Inv X pins σ H s) (hg : Gl X x) (hm : X.mg x = none) (hv : Zme x = some u) (h : Q u s)
  (hn : x ≠ "__name__" := by decide) (hd : (x == ("__debug__" : Str)) = false:=by decide) : Zhs (Zh2 X.prog X.w) X.A (eval (.Name x pos) X.env) Q E s:=by
 obtain ⟨mb,h1,h2⟩:=I.mod.blt
 exact Zpn I.ok.kind hg (Calls.loadGlobal_builtin (by rw [I.ok.glob]; exact I.mod.glob.keeps I.bk) hm (by rw [I.ok.blt]; exact h1.keeps I.bk) ((h2 x hn).trans hv) h) hd
theorem zcu {x : Str} {v : V} {u : Value} {pos : Pos} (hg : Gl X x) (hm : X.mg x = some u) (r : RelV v u) (hd : (x == ("__debug__" : Str)) = false:=by decide) : PE X (.Name x pos) (tC v) :=
 fun _ _ _ H _ I h=>zkp I hg hm ⟨v,H,I,r,h⟩ hd
theorem zl7 {x : Str} {v : V} {u : Value} {pos : Pos} (hg : Gl X x) (hm : X.mg x = none) (hv : Zme x = some u) (r : RelV v u) (hn : x ≠ "__name__" := by decide) (hd : (x == ("__debug__" : Str)) = false:=by decide) : PE X (.Name x pos) (tC v) :=
 fun _ _ _ H _ I h=>zg7 I hg hm hv ⟨v,H,I,r,h⟩ hn hd
variable {a b : Expr} {ta tb : TE} {pos : Pos}
noncomputable def PC (X : Cx) (op : Zs4) (a b : Expr) (t : TE) : Prop :=
 ∀ (pins : List (Addr × Obj)) (s : Zg5) (σ : St) (H : Hp) (Q : VK),Inv X pins σ H s->t σ H Q ->
  Zhs (Zh2 X.prog X.w) X.A (eval a X.env) (fun v s₁=>Zhs (Zh2 X.prog X.w) X.A (eval b X.env) (fun u s₂=>Zhs (Zh2 X.prog X.w) X.A (Zjy op v u) (EP X pins σ Q) X.xe s₂) X.xe s₁) X.xe s
noncomputable def tB (t : TE) : TT:=fun σ H Q=>t σ H fun x H1=>∃ c,x = .bl c/\Q c H1
theorem zz3 {op : Zs4} {t : TE} (h : PC X op a b t) (h1 : Zmv op b = false:=by first | exact nobehind _ (by decide) (by decide) | rfl) : PE X (.Compare a [op] [b] pos) t:=fun pins s σ H Q I hw=>Zvp (h pins s σ H Q I hw) h1
theorem zkw {op : Zs4} {t : TE} (h : PC X op a b t) (h1 : Zmv op b = false:=by first | exact nobehind _ (by decide) (by decide) | rfl) : PT X (.Compare a [op] [b] pos) (tB t):=by
 intro pins s σ H Q I hw
 refine Zsh (thn (h pins s σ H _ I hw) fun v s1 h1=>thn h1 fun u s2 h2=>thn h2 fun c s3 hz9=>?_) h1
 obtain ⟨x,H1,I1,r1,q1⟩:=hz9
 obtain ⟨d,rfl,q⟩:=q1
 cases r1
 exact Zje ⟨H1,I1,q⟩
theorem zen {e : Expr} {t : TE} (h : PE X e t) (he : ∀ whole,isTrue e X.env whole = (do let v <- whole; Zrp e.pos; Zrq [v] (truthy v)):=by intro _; rfl) : PT X e (tB t):=by
 intro pins s σ H Q I hw
 refine isTrue_plain (thn (h pins s σ H _ I hw) fun v s1 hz9=>?_) (he _)
 obtain ⟨x,H1,I1,r1,q1⟩:=hz9
 obtain ⟨d,rfl,q⟩:=q1
 cases r1
 exact Zje ⟨H1,I1,q⟩
variable {tA tB' : TT} {rest : List Expr}
noncomputable def tAnd (t u : TT) : TT:=fun σ H Q=>t σ H fun c H1=>if c = true then u σ H1 Q else Q false H1
noncomputable def tOr (t u : TT) : TT:=fun σ H Q=>t σ H fun c H1=>if c = true then Q true H1 else u σ H1 Q
noncomputable def tNot (t : TT) : TT:=fun σ H Q=>t σ H fun c H1=>Q (!c) H1
theorem zio (ha : PT X a tA) : PW X (.BoolOp .And [a] pos) tA:=by
 intro wh pins s σ H Q I h
 refine isTrue_and (thn (ha pins s σ H Q I h) fun c s1 e=>?_)
 cases c with
 | true=>exact isTrue_and_nil e
 | false=>exact e
theorem zlm (ha : PT X a tA) : PW X (.BoolOp .Or [a] pos) tA:=by
 intro wh pins s σ H Q I h
 refine isTrue_or (thn (ha pins s σ H Q I h) fun c s1 e=>?_)
 cases c with
 | false=>exact isTrue_or_nil e
 | true=>exact e
theorem zlq (ha : PT X a tA) (hb : PW X (.BoolOp .And (b::rest) pos) tB') : PW X (.BoolOp .And (a::b::rest) pos) (tAnd tA tB'):=by
 intro wh pins s σ H Q I h
 refine isTrue_and (thn (ha pins s σ H _ I h) fun c s1 hz9=>?_)
 obtain ⟨H1,I1,q1⟩:=hz9
 cases c with
 | true=>exact hb wh pins s1 σ H1 Q I1 q1
 | false=>exact ⟨H1,I1,q1⟩
theorem zoc (ha : PT X a tA) (hb : PW X (.BoolOp .Or (b::rest) pos) tB') : PW X (.BoolOp .Or (a::b::rest) pos) (tOr tA tB'):=by
 intro wh pins s σ H Q I h
 refine isTrue_or (thn (ha pins s σ H _ I h) fun c s1 hz9=>?_)
 obtain ⟨H1,I1,q1⟩:=hz9
 cases c with
 | true=>exact ⟨H1,I1,q1⟩
 | false=>exact hb wh pins s1 σ H1 Q I1 q1
theorem zg9 (ha : PT X a tA) : PT X (.UnaryOp .Not a pos) (tNot tA):=by
 intro pins s σ H Q I h
 exact isTrue_not (ha pins s σ H (fun c H1=>Q (!c) H1) I h)
noncomputable def ydx (ta tb : TE) : TE:=fun σ H Q=>ta σ H fun x H1=>∃ c,x = .bl c/\if c = true then tb σ H1 Q else Q (.bl false) H1
noncomputable def tOrV (ta tb : TE) : TE:=fun σ H Q=>ta σ H fun x H1=>∃ c,x = .bl c/\if c = true then Q (.bl true) H1 else tb σ H1 Q
noncomputable def ydr (ta : TE) : TE:=fun σ H Q=>ta σ H fun x H1=>∃ c,x = .bl c/\Q (.bl (!c)) H1
theorem zg4 {op} {t : TE} (h : PE X a t) : PE X (.BoolOp op [a] pos) t:=fun pins s σ H Q I hw=>BoolOp_one (h pins s σ H Q I hw)
theorem zfq (ha : PE X a ta) (hb : PE X (.BoolOp .And (b::rest) pos) tb) : PE X (.BoolOp .And (a::b::rest) pos) (ydx ta tb):=by
 intro pins s σ H Q I h
 refine BoolOp_and (thn (ha pins s σ H _ I h) fun v s1 hz9=>?_)
 obtain ⟨x,H1,I1,r1,q1⟩:=hz9
 obtain ⟨c,rfl,q1⟩:=q1
 cases r1
 refine Zje ?_
 cases c with
 | true=>exact hb pins s1 σ H1 Q I1 q1
 | false=>exact ⟨.bl false,H1,I1,rfl,q1⟩
theorem yfx (ha : PE X a ta) (hb : PE X (.BoolOp .Or (b::rest) pos) tb) : PE X (.BoolOp .Or (a::b::rest) pos) (tOrV ta tb):=by
 intro pins s σ H Q I h
 refine BoolOp_or (thn (ha pins s σ H _ I h) fun v s1 hz9=>?_)
 obtain ⟨x,H1,I1,r1,q1⟩:=hz9
 obtain ⟨c,rfl,q1⟩:=q1
 cases r1
 refine Zje ?_
 cases c with
 | false=>exact hb pins s1 σ H1 Q I1 q1
 | true=>exact ⟨.bl true,H1,I1,rfl,q1⟩
theorem yfv (ha : PE X a ta) : PE X (.UnaryOp .Not a pos) (ydr ta):=by
 intro pins s σ H Q I h
 refine UnaryOp_ (thn (ha pins s σ H _ I h) fun v s1 hz9=>?_)
 obtain ⟨x,H1,I1,r1,q1⟩:=hz9
 obtain ⟨c,rfl,q1⟩:=q1
 cases r1
 exact not_of (Zje ⟨.bl (!c),H1,I1,rfl,q1⟩)
noncomputable def tIf (t : TT) (ta tb : TE) : TE:=fun σ H Q=>t σ H fun c H1=>if c = true then ta σ H1 Q else tb σ H1 Q
theorem zri {c : Expr} (hc : PT X c tA) (ha : PE X a ta) (hb : PE X b tb) : PE X (.IfExp c a b pos) (tIf tA ta tb):=by
 intro pins s σ H Q I h
 refine wpAny_IfExp (thn (hc pins s σ H _ I h) fun d s1 hz9=>?_)
 obtain ⟨H1,I1,q1⟩:=hz9
 cases d with
 | true=>exact ha pins s1 σ H1 Q I1 q1
 | false=>exact hb pins s1 σ H1 Q I1 q1
end
noncomputable def SqL (K : Zgy) (H : Hp) (a : Addr) (xs : List V) : Prop :=
 Rd H a (.lst xs) \/
  ∃ (o : Obj) (its : Array Value) (n : Nat),K.lookup a = some o/\o.cls = .type "list" /\ o.dict = none/\o.data = .seq its n/\its.size <= sizeLine/\Vals xs its.toList
noncomputable def SqT (K : Zgy) (H : Hp) (a : Addr) (xs : List V) : Prop :=
 Rd H a (.tup xs) \/
  ∃ (o : Obj) (its : Array Value) (n : Nat),K.lookup a = some o/\o.cls = .type "tuple" /\ o.data = .seq its n/\its.size <= sizeLine/\Vals xs its.toList
noncomputable def absV : Value->Option V
 | .none=>some .non
 | .bool b=>some (.bl b)
 | .int i _=>some (.int i)
 | .str x _=>some (.str x)
 | .bytes b _=>some (.byt b)
 | .float b _=>some (.flt b)
 | .ref a=>some (.ref a)
 | .type n=>some (.ty n)
 | _=>none
theorem RelV.abs {x : V} {u : Value} (r : RelV x u) : absV u = some x:=by
 cases x with
 | non=>cases r; rfl
 | bl _=>cases r; rfl
 | int _=>obtain ⟨t,rfl⟩:=r; rfl
 | str _=>obtain ⟨t,rfl⟩:=r; rfl
 | byt _=>obtain ⟨t,rfl⟩:=r; rfl
 | flt _=>obtain ⟨t,rfl⟩:=r; rfl
 | ref _=>cases r; rfl
 | ty _=>cases r; rfl
theorem RelV.inj {x y : V} {u : Value} (r : RelV x u) (q : RelV y u) : x = y:=Zit (r.abs.symm.trans q.abs)
theorem Vals.inj : ∀ {xs ys : List V} {us : List Value},Vals xs us->Vals ys us->xs = ys
 | _,_,_,.nil,.nil=>rfl
 | _,_,_,.cons r t,.cons r' t'=>by rw [r.inj r',Vals.inj t t']
section
variable {X : Cx} {pins : List (Addr × Obj)} {σ : St} {H : Hp} {s : Zg5} {a : Addr} {xs ys : List V}
theorem SqL.of {K : Zgy} (h : H a = some (.lst xs)) : SqL K H a xs:=.inl (.inl h)
theorem SqT.of {K : Zgy} (h : H a = some (.tup xs)) : SqT K H a xs:=.inl (.inl h)
theorem Inv.list (I : Inv X pins σ H s) (h : SqL X.K H a xs) : ∃ its : List Value,Vals xs its/\PlainL s.heap a its.toArray/\xs.length <= sizeLine:=by
 rcases h with h | ⟨o,its,n,hk,hc,hd,hs,hz,r⟩
 ·obtain ⟨z,its,n,r,e⟩:=h.ok I.hok
  exact ⟨its,r,⟨_,n,e,rfl,rfl,rfl⟩,z⟩
 ·refine ⟨its.toList,r,⟨o,n,I.kIn a o hk,hc,hd,by simpa using hs⟩,?_⟩
  have e:=r.length
  simp only [Zi9] at e
  omega
theorem Inv.tuple (I : Inv X pins σ H s) (h : SqT X.K H a xs) : ∃ its : List Value,Vals xs its/\IsTup s.heap a its.toArray/\xs.length <= sizeLine:=by
 rcases h with h | ⟨o,its,n,hk,hc,hs,hz,r⟩
 ·obtain ⟨z,its,r,p⟩:=h.ok I.hok
  exact ⟨its,r,p,z⟩
 ·refine ⟨its.toList,r,⟨o,I.kIn a o hk,hc,n,by simpa using hs⟩,?_⟩
  have e:=r.length
  simp only [Zi9] at e
  omega
theorem Inv.list_inj (I : Inv X pins σ H s) (h : SqL X.K H a xs) (h' : SqL X.K H a ys) : xs = ys:=by
 obtain ⟨its,r,⟨o,n,e,_,_,d⟩,_⟩:=I.list h
 obtain ⟨its',r',⟨o',n',e',_,_,d'⟩,_⟩:=I.list h'
 rw [e] at e'; cases e'
 rw [d] at d'
 injection d' with d1 _
 have : its = its':=by simpa using congrArg Array.toList d1
 subst this
 exact r.inj r'
end
noncomputable abbrev Cx.wish (X : Cx) (E : Value->Zg5->Prop) : Cx:={ X with xe:=E }
noncomputable abbrev Cx.nox (X : Cx) : Cx:=X.wish fun _ _=>False
theorem Cx.Ok.wish {X : Cx} (ok : X.Ok) (E : Value->Zg5->Prop) : (X.wish E).Ok :=
 ⟨ok.mod,ok.kind,ok.glob,ok.blt,ok.above,ok.inj,ok.has,ok.cab,ok.hd,ok.frames,ok.stk,ok.exf,ok.bs,ok.bsz,ok.noex,ok.exfs,ok.funs,ok.frf⟩
theorem Cx.Ok.unwish {X : Cx} {E : Value->Zg5->Prop} (ok : (X.wish E).Ok) : X.Ok :=
 ⟨ok.mod,ok.kind,ok.glob,ok.blt,ok.above,ok.inj,ok.has,ok.cab,ok.hd,ok.frames,ok.stk,ok.exf,ok.bs,ok.bsz,ok.noex,ok.exfs,ok.funs,ok.frf⟩
section
variable {X : Cx} {pins : List (Addr × Obj)} {σ : St} {H : Hp} {s : Zg5} {E : Value->Zg5->Prop}
theorem Inv.wish (I : Inv X pins σ H s) (E : Value->Zg5->Prop) : Inv (X.wish E) pins σ H s:=⟨I.ok.wish E,I.os,I.bare,I.base,I.loc,I.cell,I.free,I.freeC,I.pin,I.hok,I.len⟩
theorem Inv.unwish (I : Inv (X.wish E) pins σ H s) : Inv X pins σ H s:=⟨I.ok.unwish,I.os,I.bare,I.base,I.loc,I.cell,I.free,I.freeC,I.pin,I.hok,I.len⟩
theorem SP.unwish {D : Ends} {f : Flow} {s' : Zg5} (h : SP (X.wish E) pins D f s') : SP X pins D f s':=by
 cases f with
 | next=>obtain ⟨σ',H',I,q⟩:=h; exact ⟨σ',H',I.unwish,q⟩
 | brk=>obtain ⟨σ',H',I,q⟩:=h; exact ⟨σ',H',I.unwish,q⟩
 | cont=>obtain ⟨σ',H',I,q⟩:=h; exact ⟨σ',H',I.unwish,q⟩
 | ret u=>obtain ⟨v,σ',H',I,r,q⟩:=h; exact ⟨v,σ',H',I.unwish,r,q⟩
theorem PE.nox {e : Expr} {t : TE} (h : PE X.nox e t) : PE X e t:=fun pins s σ H Q I hw =>
 Zid (h pins s σ H Q (I.wish _) hw) (fun _ _ ⟨v,H',I',r,q⟩=>⟨v,H',I'.unwish,r,q⟩) fun _ _ z=>Zjc z
theorem PT.nox {e : Expr} {t : TT} (h : PT X.nox e t) : PT X e t:=fun pins s σ H Q I hw =>
 Zid (h pins s σ H Q (I.wish _) hw) (fun _ _ ⟨H',I',q⟩=>⟨H',I'.unwish,q⟩) fun _ _ z=>Zjc z
theorem PSs.nox {st : List Stmt} {t : TS} (h : PSs X.nox st t) : PSs X st t:=fun pins s σ H D I hw =>
 Zid (h pins s σ H D (I.wish _) hw) (fun _ _ q=>q.unwish) fun _ _ z=>Zjc z
end
section
variable {X : Cx} {st : Stmt} {rest : List Stmt} {t u : TS} {e : Expr} {te : TE} {pos : Pos}
noncomputable def ydz : TS:=fun D σ H=>D.nx σ H
noncomputable def tSeq (t u : TS) : TS:=fun D σ H=>t { D with nx:=u D } σ H
theorem za0 : PSs X [] ydz:=fun _ _ σ H _ I h=>Zlq ⟨σ,H,I,h⟩
theorem zad (h1 : PS X st t) (h2 : PSs X rest u) : PSs X (st::rest) (tSeq t u):=by
 intro pins s σ H D I h
 refine Zqa (thn (h1 pins s σ H { D with nx:=u D } I h) fun f s1 q=>?_)
 cases f with
 | next =>
  obtain ⟨σ',H',I',q⟩:=q
  exact h2 pins s1 σ' H' D I' q
 | ret v=>exact q
 | brk=>exact q
 | cont=>exact q
theorem zah (h1 : PS X st t) : PSs X [st] t:=by
 intro pins s σ H D I h
 refine Zqa (thn (h1 pins s σ H D I h) fun f s1 q=>?_)
 cases f with
 | next=>exact Zlq q
 | ret v=>exact q
 | brk=>exact q
 | cont=>exact q
theorem Inv.quiet {pins : List (Addr × Obj)} {σ : St} {H : Hp} {s : Zg5} (I : Inv X pins σ H s) : interactive X.env = false:=by simp [interactive,I.ok.kind]
noncomputable def zuj (te : TE) : TS:=fun D σ H=>te σ H fun _ H1=>D.nx σ H1
theorem zdy (he : PE X e te) (hs : Zn4 e none pos.line X.env = pure false:=by rfl) : PS X (.Expr e pos) (zuj te):=by
 intro pins s σ H D I h
 exact wpAny_Expr_any (thn (he pins s σ H _ I h) fun v s1 ⟨x,H1,I1,r1,q1⟩=>⟨σ,H1,I1,q1⟩) I.quiet hs
noncomputable def tRet (te : TE) : TS:=fun D σ H=>te σ H D.rt
theorem zav (he : PE X e te) : PS X (.Return (some e) pos) (tRet te):=by
 intro pins s σ H D I h
 exact wpAny_Return_some (thn (he pins s σ H _ I h) fun v s1 ⟨x,H1,I1,r1,q1⟩=>⟨x,σ,H1,I1,r1,q1⟩)
noncomputable def tIfS (c : TT) (t u : TS) : TS:=fun D σ H=>c σ H fun b H1=>if b = true then t D σ H1 else u D σ H1
theorem zcf {c : Expr} {a b : List Stmt} {tc : TT} (hc : PT X c tc) (ha : PSs X a t) (hb : PSs X b u) : PS X (.If c a b pos) (tIfS tc t u):=by
 intro pins s σ H D I h
 refine wpAny_If (thn (hc pins s σ H _ I h) fun d s1 hz9=>?_)
 obtain ⟨H1,I1,q1⟩:=hz9
 cases d with
 | true=>exact ha pins s1 σ H1 D I1 q1
 | false=>exact hb pins s1 σ H1 D I1 q1
noncomputable def ydp : TS:=fun _ _ _=>False
theorem zxc : PS X st ydp:=fun _ _ _ _ _ _ h=>h.elim
end
noncomputable abbrev TG:=V->St->Hp->(St->Hp->Prop)->Prop
noncomputable abbrev TGs:=List V->St->Hp->(St->Hp->Prop)->Prop
noncomputable def PG (X : Cx) (target : Expr) (t : TG) : Prop :=
 ∀ (pins : List (Addr × Obj)) (s : Zg5) (σ : St) (H : Hp) (v : V) (u : Value) (Q : St->Hp->Prop),Inv X pins σ H s->RelV v u->t v σ H Q ->
  Zhs (Zh2 X.prog X.w) X.A (Zsk target X.env u) (fun _ s'=>∃ σ' H',Inv X pins σ' H' s'/\Q σ' H') X.xe s
noncomputable def PGs (X : Cx) (ts : List Expr) (t : TGs) : Prop :=
 ∀ (pins : List (Addr × Obj)) (s : Zg5) (σ : St) (H : Hp) (vs : List V) (us : List Value) (Q : St->Hp->Prop),Inv X pins σ H s->Vals vs us->t vs σ H Q ->
  Zhs (Zh2 X.prog X.w) X.A (assignInOrder ((Zoe ts X.env).map (·.2)) us) (fun _ s'=>∃ σ' H',Inv X pins σ' H' s'/\Q σ' H') X.xe s
section
variable {X : Cx} {pos : Pos}
noncomputable def zfp (i : Nat) : TG:=fun v σ H Q=>Q (σ.set i (some v)) H
theorem zbk {i : Nat} {x : Str} (hN : X.N.Nodup) (hi : X.N[i]? = some x) (hx : Loc X.env.scope x) (hf : X.fn x = true \/ X.env.scope.names.lookup x = some .local:=by first | exact .inl rfl | exact .inr rfl | assumption) : PG X (.Name x pos) (zfp i):=by
 intro pins s σ H v u Q I r h
 exact Ztn (zhx I hN hi hx r (fun s' I'=>⟨_,H,I',h⟩) hf)
noncomputable def gNil : TGs:=fun vs σ H Q=>vs = []/\Q σ H
noncomputable def ycd (t : TG) (u : TGs) : TGs:=fun vs σ H Q=>∃ v r,vs = v::r/\t v σ H fun σ' H'=>u r σ' H' Q
theorem zb5 : PGs X [] gNil:=by
 intro pins s σ H vs us Q I r h
 obtain ⟨e,h⟩:=h
 subst e
 cases r
 exact assignInOrder_nil ⟨σ,H,I,h⟩
theorem zar {e : Expr} {es : List Expr} {t : TG} {u : TGs} (h1 : PG X e t) (h2 : PGs X es u)
  (hs : (Zoe (e::es) X.env).map (·.2) = Zsk e X.env::(Zoe es X.env).map (·.2):=by rfl) : PGs X (e::es) (ycd t u):=by
 intro pins s σ H vs us Q I r h
 obtain ⟨v,vr,e1,h⟩:=h
 subst e1
 cases r with
 | cons r rr =>
  rw [hs]
  refine assignInOrder_cons (thn (h1 pins s σ H _ _ _ I r h) fun _ s1 hz9=>?_)
  obtain ⟨σ1,H1,I1,q1⟩:=hz9
  exact h2 pins s1 σ1 H1 _ _ Q I1 rr q1
noncomputable def gTup (K : Zgy) (n : Nat) (t : TGs) : TG:=fun v σ H Q=>∃ a xs,v = .ref a/\SqT K H a xs/\xs.length = n/\t xs σ H Q
theorem zdc {es : List Expr} {k : Nat} {t : TGs} {n : Nat} (hc : X.calm = true) (h : PGs X es t)
  (hn : (Zoe es X.env).length = n:=by rfl) (hst : (Zoe es X.env).findIdx? (·.1) = none:=by rfl) : PG X (.Tuple es k pos) (gTup X.K n t):=by
 intro pins s σ H v u Q I r hw
 obtain ⟨a,xs,e1,hq,hl,hw⟩:=hw
 subst e1
 cases r
 obtain ⟨its,rv,ht,hz⟩:=I.tuple hq
 refine assign_Tuple_tuple (I.ok.hd hc) ht (by simp [hn,<- hl,rv.length]) hst fun h' hx=>?_
 have I1 : Inv X pins σ H { s with heap:=h' }:=I.kept (t':=s.toks) fun b o e=>hx b o (Zht (Zhf e)) e
 exact h pins _ σ H xs _ Q I1 (by simpa using rv) hw
noncomputable def tAsg (te : TE) (g : TG) : TS:=fun D σ H=>te σ H fun x H1=>g x σ H1 D.nx
theorem zzx {tg e : Expr} {te : TE} {g : TG} (he : PE X e te) (hg : PG X tg g) (hs : swapsWithSole [tg] e pos.line X.env = pure false:=by rfl) (hw : swappedStores [tg] e X.env = pure none:=by rfl)
  (h1 : (Zoe [tg] X.env).map (·.2) = [Zsk tg X.env]:=by rfl) : PS X (.Assign [tg] e pos) (tAsg te g):=by
 intro pins s σ H D I h
 refine wpAny_Assign_stores (thn (he pins s σ H _ I h) fun v s1 hz9=>?_) hs hw
 obtain ⟨x,H1,I1,r1,q1⟩:=hz9
 rw [h1]
 exact thn (hg pins s1 σ H1 x v _ I1 r1 q1) fun _ s2 q=>q
theorem zwu {i : Nat} {x : Str} {e : Expr} {te : TE} {pos' : Pos} (hN : X.N.Nodup) (hi : X.N[i]? = some x) (hx : Loc X.env.scope x) (he : PE X e te) (hs : Zn4 e (some (.Name x pos')) pos.line X.env = pure false:=by rfl) (hf : X.fn x = true \/ X.env.scope.names.lookup x = some .local:=by first | exact .inl rfl | exact .inr rfl | assumption) :
  PS X (.Assign [.Name x pos'] e pos) (tAsg te (zfp i)):=by
 intro pins s σ H D I h
 refine Ztq (thn (he pins s σ H _ I h) fun v s1 hz9=>?_) hs
 obtain ⟨y,H1,I1,r1,q1⟩:=hz9
 exact zhx I1 hN hi hx r1 (fun s2 I2=>⟨_,H1,I2,q1⟩) hf
end
section
variable {X : Cx} {pos : Pos}
noncomputable def zzq (c : TT) (tb : TS) : TS:=fun D σ H=>∃ W : Nat->St->Hp->Prop,(∃ m,W m σ H) /\ ∀ m σ H,W m σ H ->
 c σ H fun b H1=>if b = true then ∃ N : St->Hp->Prop,(∀ σ' H',N σ' H' -> ∃ m',m' < m/\W m' σ' H')/\tb { D with nx:=N,ct:=N,bk:=D.nx } σ H1 else D.nx σ H1
theorem zq3 {c : Expr} {body : List Stmt} {tc : TT} {tb : TS} (hp : Ziw (Zh2 X.prog X.w) X.A X.env X.xe) (hc : PT X c tc) (hb : PSs X body tb) : PS X (.While c body [] pos) (zzq tc tb):=by
 intro pins s σ H D I h
 obtain ⟨W,⟨m0,w0⟩,turn⟩:=h
 refine wpAny_While (codeAny_whileLoop (fun n s'=>∃ σ' H',Inv X pins σ' H' s'/\W n σ' H') ?_ m0 ⟨σ,H,I,w0⟩)
 rintro n s1 ⟨σ1,H1,I1,w1⟩
 refine Zk0 hp (thn (hc pins s1 σ1 H1 _ I1 (turn n σ1 H1 w1)) fun b s2 hz9=>?_)
 obtain ⟨H2,I2,q2⟩:=hz9
 cases b with
 | true =>
  obtain ⟨N,hN,q2⟩:=q2
  rw [if_pos rfl]
  refine Zk0 hp (thn (hb pins s2 σ1 H2 _ I2 q2) fun f s3 q3=>?_)
  cases f with
  | next =>
   obtain ⟨σ3,H3,I3,n3⟩:=q3
   obtain ⟨m',hm,w3⟩:=hN σ3 H3 n3
   exact ⟨m',hm,σ3,H3,I3,w3⟩
  | cont =>
   obtain ⟨σ3,H3,I3,n3⟩:=q3
   obtain ⟨m',hm,w3⟩:=hN σ3 H3 n3
   exact ⟨m',hm,σ3,H3,I3,w3⟩
  | brk=>exact q3
  | ret v=>exact q3
 | false =>
  rw [if_neg Zhx]
  exact Zlq ⟨σ1,H2,I2,q2⟩
end
structure It where
 go : Nat->Hp->Prop
 yld : Nat->Hp->V->Hp->Prop
 stop : Nat->Hp->Prop
noncomputable def FpOk (X : Cx) (pins : List (Addr × Obj)) (H : Hp) (b : Addr) : Prop :=
 H b = none/\b≠X.env.locals/\b ∉ X.fs/\(b∈X.ex \/ X.s₀.heap.objs.size <= b)/\(∀ x c,X.env.cells.lookup x = some c->c≠b) /\ ∀ p∈X.pn++pins,p.1≠b
theorem Inv.fpOk {X : Cx} {pins : List (Addr × Obj)} {σ : St} {H H' : Hp} {s : Zg5} {b : Addr} (I : Inv X pins σ H s) (hb : s.heap.objs.size <= b) (hn : H' b = none) : FpOk X pins H' b:=by
 refine ⟨hn,Zno (Zhn I.lt hb),I.nofs hb,.inr (Zh1 I.sz hb),fun x c e z=>?_,fun p hp z=>?_⟩
 ·obtain ⟨v,q⟩:=I.cell x c e
  exact absurd (Zhn q.lt (by rw [z]; exact hb)) (Zh6 _)
 ·exact absurd (Zhn (Zhf (I.pin p hp).1) (by rw [z]; exact hb)) (Zh6 _)
structure Turn (P : Zhz) (w : Zix) (K : Zgy) (tg : Expr) (J : It) (fp : List Addr) (it : Addr) (tn : Nat->Heap->Prop) : Prop where
 mem : it∈fp
 obj : ∀ i h,tn i h -> ∀ b∈fp,∃ o,h.get? b = some o /\ ∀ v,o.data ≠ .cell v
 keep : ∀ i h h',tn i h->(∀ b∈fp,∀ o,h.get? b = some o->h'.get? b = some o)->tn i h'
 item : ∀ (X : Cx),X.prog = P->X.w = w->X.K = K->X.calm = true -> ∀ (i : Nat) (pins : List (Addr × Obj)) (s : Zg5) (σ : St) (H : Hp) (E : Value->Zg5->Prop),Inv X pins σ H s->(∀ b∈fp,FpOk X pins H b)->tn i s.heap->J.go i H ->
  Zhs (Zh2 P w) X.A (Zo7 (.ref it)) (fun r s1=>∃ u,r = some u /\
   Zhs (Zh2 P w) X.A (Zn5 tg (.ref it) u) (fun _ s2=>∃ x H',Inv X pins σ H' s2/\RelV x u/\J.yld i H x H'/\tn (i + 1) s2.heap /\ ∀ b∈fp,H' b = none) E s1) E s
 done : ∀ (X : Cx),X.prog = P->X.w = w->X.K = K->X.calm = true -> ∀ (i : Nat) (pins : List (Addr × Obj)) (s : Zg5) (σ : St) (H : Hp) (E : Value->Zg5->Prop),Inv X pins σ H s->(∀ b∈fp,FpOk X pins H b)->tn i s.heap->J.stop i H ->
  Zhs (Zh2 P w) X.A (Zo7 (.ref it)) (fun r s1=>r = none/\Inv X pins σ H s1) E s
 self : ∀ (A : Zh3) (i : Nat) (s : Zg5) (Q : Value->Zg5->Prop) (E : Value->Zg5->Prop),tn i s.heap->Q (.ref it) s->Zhs (Zh2 P w) A (pyIter (.ref it)) Q E s
noncomputable abbrev TI:=St->Hp->(It->Hp->Prop)->Prop
noncomputable def PIE (X : Cx) (pins : List (Addr × Obj)) (σ : St) (tg : Expr) (R : It->Hp->Prop) (itv : Value) (s2 : Zg5) : Prop :=
 ∃ (it : Addr) (fp : List Addr) (tn : Nat->Heap->Prop) (J : It) (H' : Hp),itv = .ref it/\Inv X pins σ H' s2/\Turn X.prog X.w X.K tg J fp it tn/\tn 0 s2.heap/\(∀ b∈fp,FpOk X pins H' b)/\R J H'
noncomputable def PI (X : Cx) (tg iter : Expr) (wi : TI) : Prop :=
 ∀ (pins : List (Addr × Obj)) (s : Zg5) (σ : St) (H : Hp) (R : It->Hp->Prop),Inv X pins σ H s->wi σ H R ->
  Zhs (Zh2 X.prog X.w) X.A (eval iter X.env) (fun v s1=>Zhs (Zh2 X.prog X.w) X.A (pyIter v) (PIE X pins σ tg R) X.xe s1) X.xe s
theorem yeo {M : Znw} {A : Zh3} {E : Value -> Zg5 -> Prop} {s : Zg5} {tg : Expr} {it : Addr} {u : Value} {o : Obj} {n : String} {vs : Array Value} {Q : Unit -> Zg5 -> Prop} (ho : s.heap.get? it = some o) (hc : o.cls = .type n) (hd : o.data = .fields vs)
    (hn : ["enumerate", "zip", "dict_itemiterator", "dict_reverseitemiterator", "odict_iterator", "itertools.zip_longest", "itertools.pairwise"].contains n = false) (hQ : Q () s) : Zhs M A (Zn5 tg (.ref it) u) Q E s:=by
  unfold Zn5
  cases tg <;> first
    | exact Zhc hQ
    | (cases u <;> first
        | exact Zhc hQ
        | (refine Zgz (wpAny_load ho ?_)
           rw [hc,hd]
           show Zhs M A (if (["enumerate", "zip", "dict_itemiterator", "dict_reverseitemiterator", "odict_iterator", "itertools.zip_longest", "itertools.pairwise"].contains n && vs[0]? == some (Zsj _)) = true then _ else _) Q E s
           rw [if_neg (by intro h; rw [hn,Zn1] at h; cases h)]
           exact Zhc hQ))
noncomputable def Itl (K : Zgy) (a : Addr) : It :=
 ⟨fun i H=>∃ xs x,SqL K H a xs/\xs[i]? = some x,fun i H x H'=>H' = H /\ ∀ xs,SqL K H a xs->xs[i]? = some x,fun i H=>∃ xs,SqL K H a xs/\xs.length <= i⟩
noncomputable def Itr (lo : Int) (n : Nat) : It:=⟨fun i _=>i < n,fun i H x H'=>H' = H/\x = .int (lo + i),fun i _=>n <= i⟩
theorem zw3 {P : Zhz} {w : Zix} {K : Zgy} {tg : Expr} (a it : Addr) : Turn P w K tg (Itl K a) [it] it (fun i h=>h.IsListIter it a i) where
 mem:=by simp
 obj:=fun i h st b hb=>by
  have e : b = it:=by simpa using hb
  subst e
  obtain ⟨o,e,c,d⟩:=st
  exact ⟨o,e,fun v z=>by rw [d] at z; cases z⟩
 keep:=fun i h h' st k=>st.at fun o e=>k it (by simp) o e
 item:=by
  intro X hP hw hK hc i pins s σ H E I hf st hg
  subst hP hw hK
  obtain ⟨xs,x,hq,hx⟩:=hg
  obtain ⟨its,rv,p,hz⟩:=I.list hq
  obtain ⟨u,hu,ru⟩:=rv.get hx
  obtain ⟨f0,f1,f2,f3,f4,f5⟩:=hf it (by simp)
  refine wpAny_pyNext_list_item st p.isList (x:=u) (by simpa using hu) fun h' st' sb=>?_
  have I1 : Inv X pins σ H { s with heap:=h' }:=I.turned (t':=s.toks) (fun b o hb e=>(sb.2 b hb).trans e) f0 f1 f3 f4 f5
  obtain ⟨o,e,c,d⟩:=id st'
  exact ⟨u,rfl,yeo (s:={ s with heap:=h' }) e c d (by decide) ⟨x,H,I1,ru,⟨rfl,fun ys hy=>by rw [I.list_inj hy hq]; exact hx⟩,st',fun b hb=>(hf b hb).1⟩⟩
 done:=by
  intro X hP hw hK hc i pins s σ H E I hf st hg
  subst hP hw hK
  obtain ⟨xs,hq,hx⟩:=hg
  obtain ⟨its,rv,p,hz⟩:=I.list hq
  obtain ⟨f0,f1,f2,f3,f4,f5⟩:=hf it (by simp)
  have hl:=rv.length
  exact wpAny_pyNext_list_end (I.ok.hd hc) st p.isList (by simp; omega) fun h' eb=>⟨rfl,I.turned (t':=s.toks) (fun b o hb e=>eb b o hb e) f0 f1 f3 f4 f5⟩
 self:=fun _ _ _ _ _ st h=>wpAny_pyIter_listiter st h
theorem zr4 {P : Zhz} {w : Zix} {K : Zgy} {tg : Expr} (it : Addr) (lo : Int) (n : Nat) : Turn P w K tg (Itr lo n) [it] it (fun i h=>IsRangeIter h it (lo + (i : Nat) * 1) ((n : Int) - (i : Nat)) 1) where
 mem:=by simp
 obj:=fun i h st b hb=>by
  have e : b = it:=by simpa using hb
  subst e
  exact ⟨_,st,fun v z=>by
   have z' : Data.fields _ = Data.cell v:=z
   cases z'⟩
 keep:=fun i h h' st k=>k it (by simp) _ st
 item:=by
  intro X hP hw hK hc i pins s σ H E I hf st hg
  subst hP hw hK
  obtain ⟨f0,f1,f2,f3,f4,f5⟩:=hf it (by simp)
  have W:=Walks.range (prog:=X.prog) (w:=X.w) (I.ok.hd hc) it lo 1 n
  refine W.item i s _ _ hg st fun v h' tk hv st' kk=>?_
  obtain ⟨t,rfl⟩:=hv
  have I1 : Inv X pins σ H { s with heap:=h',toks:=tk }:=I.turned (fun b o hb e=>kk b o (by simpa using hb) e) f0 f1 f3 f4 f5
  refine ⟨_,rfl,yeo (s:={ s with heap:=h',toks:=tk }) (n:="range_iterator") st' rfl rfl (by decide) ⟨.int (lo + i),H,I1,⟨t,?_⟩,⟨rfl,rfl⟩,st',fun b hb=>(hf b hb).1⟩⟩
  rw [Zvm]
 done:=by
  intro X hP hw hK hc i pins s σ H E I hf st hg
  subst hP hw hK
  obtain ⟨f0,f1,f2,f3,f4,f5⟩:=hf it (by simp)
  exact wpAny_pyNext_range_end (I.ok.hd hc) st (by have : n <= i:=hg; omega) fun h' eb=>⟨rfl,I.turned (t':=s.toks) (fun b o hb e=>eb b o hb e) f0 f1 f3 f4 f5⟩
 self:=fun _ _ _ _ _ st h=>wpAny_pyIter_rangeiter st h
section
variable {X : Cx} {tg : Expr}
noncomputable def zvb (K : Zgy) (tl : TE) : TI:=fun σ H R=>tl σ H fun x H1=>∃ a,x = .ref a/\(∃ xs,SqL K H1 a xs)/\R (Itl K a) H1
theorem zbb {l : Expr} {tl : TE} (hl : PE X l tl) : PI X tg l (zvb X.K tl):=by
 intro pins s σ H R I h
 refine thn (hl pins s σ H _ I h) fun v s1 hz9=>?_
 obtain ⟨x,H1,I1,r1,q1⟩:=hz9
 obtain ⟨a,e,⟨xs,hq⟩,q⟩:=q1
 subst e
 cases r1
 obtain ⟨its,rv,p,hz⟩:=I1.list hq
 refine Znf p.isList ?_
 refine ⟨s1.heap.objs.size,[s1.heap.objs.size],_,_,H1,rfl,I1.kept (t':=s1.toks) fun b o e=>Zg6 _ e,zw3 a _,⟨_,Zho _ rfl,rfl,rfl⟩,fun b hb=>?_,q⟩
 have e : b = s1.heap.objs.size:=by simpa using hb
 subst e
 exact I1.fpOk (Zha _) (I1.hok.fresh (Zha _))
theorem zrm {pins : List (Addr × Obj)} {σ : St} {H : Hp} {s : Zg5} {R : It->Hp->Prop} {E : Value->Zg5->Prop} {lo hi : Int} {t u v : Tok} {tk : Nat} (I : Inv X pins σ H s) (h1 : -(2 ^ 62) <= lo) (h2 : lo < 2 ^ 62) (h3 : -(2 ^ 62) <= hi) (h4 : hi < 2 ^ 62)
  (q : R (Itr lo (hi - lo).toNat) H) : Zhs (Zh2 X.prog X.w) X.A (pyIter (.ref s.heap.objs.size)) (PIE X pins σ tg R) E { s with heap:=s.heap.push { cls:=.type "range", data:=.fields #[.int lo t,.int hi u,.int 1 v] },toks:=tk }:=by
 refine wpAny_pyIter_range (IsRange.new ..) (small_one h1 h2 h3 h4) ?_
 have I1 : Inv X pins σ H { s with heap:=s.heap.push { cls:=.type "range", data:=.fields #[.int lo t,.int hi u,.int 1 v] },toks:=tk }:=I.kept fun b o e=>Zg6 _ e
 refine ⟨(s.heap.push { cls:=.type "range", data:=.fields #[.int lo t,.int hi u,.int 1 v] }).objs.size,[(s.heap.push { cls:=.type "range", data:=.fields #[.int lo t,.int hi u,.int 1 v] }).objs.size],_,_,H,rfl,
  I1.kept (t':=tk) fun b o e=>Zg6 _ e,zr4 _ lo (hi - lo).toNat,?_,fun b hb=>?_,q⟩
 ·have e1 : lo + ((0 : Nat) : Int) * 1 = lo:=by simp
  have e2 : (((hi - lo).toNat : Nat) : Int) - ((0 : Nat) : Int) = Zkz lo hi 1:=by rw [rangeSize_one]; split <;> omega
  show IsRangeIter _ _ (lo + ((0 : Nat) : Int) * 1) ((((hi - lo).toNat : Nat) : Int) - ((0 : Nat) : Int)) 1
  rw [e1,e2]
  exact Zho _ rfl
 ·have e : b = (s.heap.push { cls:=.type "range", data:=.fields #[.int lo t,.int hi u,.int 1 v] }).objs.size:=by simpa using hb
  subst e
  exact I1.fpOk (Zha _) (I1.hok.fresh (Zha _))
noncomputable def yfo (ta : TA) : TI:=fun σ H R=>ta σ H fun vs H1=>∃ j : Int,vs = [.int j] /\ -(2 ^ 62) <= j/\j < 2 ^ 62/\R (Itr 0 j.toNat) H1
noncomputable def ydv (ta : TA) : TI:=fun σ H R=>ta σ H fun vs H1=>∃ i j : Int,vs = [.int i,.int j]/\(-(2 ^ 62) <= i/\i < 2 ^ 62 /\ -(2 ^ 62) <= j/\j < 2 ^ 62)/\R (Itr i (j - i).toNat) H1
theorem zgh {a : Expr} {ta : TA} {p pos : Pos} (hg : Gl X "range") (hm : X.mg "range" = none) (ha : PA X [a] ta) (hs : Zic [a] X.env = [(false,eval a X.env)]:=by rfl) : PI X tg (.Call (.Name "range" p) [a] [] pos) (yfo ta):=by
 intro pins s σ H R I h
 refine Call_ (zg7 I hg hm Ztv (Zja (thn (ha pos pins s σ H _ I h) fun us s1 hz9=>?_) hs rfl))
 obtain ⟨vs,H1,I1,r1,q1⟩:=hz9
 obtain ⟨j,e,q1,q2,q⟩:=q1
 subst e
 cases r1 with
 | cons r rr =>
  cases rr
  obtain ⟨t,rfl⟩:=r
  exact call_range_1 (zrm I1 (by omega) (by omega) q1 q2 (by simpa using q))
theorem zuw {a b : Expr} {ta : TA} {p pos : Pos} (hg : Gl X "range") (hm : X.mg "range" = none) (ha : PA X [a,b] ta) (hs : Zic [a,b] X.env = [(false,eval a X.env),(false,eval b X.env)]:=by rfl) (hs2 : Zic [b] X.env = [(false,eval b X.env)]:=by rfl) :
  PI X tg (.Call (.Name "range" p) [a,b] [] pos) (ydv ta):=by
 intro pins s σ H R I h
 refine Call_ (zg7 I hg hm Ztv (Zja (thn (ha pos pins s σ H _ I h) fun us s1 hz9=>?_) (by rw [hs,hs2]) (by rw [hs2]; rfl)))
 obtain ⟨vs,H1,I1,r1,q1⟩:=hz9
 obtain ⟨i,j,e,⟨q1,q2,q3,q4⟩,q⟩:=q1
 subst e
 cases r1 with
 | cons r rr =>
  cases rr with
  | cons r' rr =>
   cases rr
   obtain ⟨t,rfl⟩:=r
   obtain ⟨t',rfl⟩:=r'
   exact call_range_2 (zrm I1 q1 q2 q3 q4 q)
noncomputable def tFor (wi : TI) (g : TG) (tb : TS) : TS:=fun D σ H=>wi σ H fun J H1=>∃ W : Nat->Nat->St->Hp->Prop,(∃ m,W 0 m σ H1) /\ ∀ i m σ H,W i m σ H ->
 (J.stop i H/\D.nx σ H) \/ (J.go i H /\ ∃ N : St->Hp->Prop,(∀ σ' H',N σ' H' -> ∃ m',m' < m/\W (i + 1) m' σ' H') /\ ∀ x H',J.yld i H x H'->g x σ H' fun σ2 H2=>tb { D with nx:=N,ct:=N,bk:=D.nx } σ2 H2)
noncomputable def zn9 (fp : List Addr) (h : Heap) : List (Addr × Obj):=fp.filterMap fun b=>(h.get? b).map fun o=>(b,o)
theorem zgm {fp : List Addr} {h : Heap} {b : Addr} {o : Obj} (hb : b∈fp) (e : h.get? b = some o) : (b,o)∈zn9 fp h:=Zoh.mpr ⟨b,hb,by rw [e]; rfl⟩
theorem zvy {fp : List Addr} {h : Heap} {p : Addr × Obj} (hp : p∈zn9 fp h) : p.1∈fp/\h.get? p.1 = some p.2:=by
 obtain ⟨b,hb,e⟩:=Zoh.mp hp
 cases q : h.get? b with
 | none=>rw [q] at e; cases e
 | some o =>
  rw [q] at e
  have e' : (b,o) = p:=Zit e
  subst e'
  exact ⟨hb,q⟩
theorem Inv.pinned {pins : List (Addr × Obj)} {σ : St} {H : Hp} {s : Zg5} {fp : List Addr} (I : Inv X pins σ H s) (hf : ∀ b∈fp,FpOk X pins H b) (ho : ∀ b∈fp,∃ o,s.heap.get? b = some o /\ ∀ v,o.data ≠ .cell v) : Inv X (pins++zn9 fp s.heap) σ H s :=
 I.pins_of fun p hp=>(Zhe.mp hp).elim (fun z=>I.pin p (Zg9 _ z)) fun z=>by
  obtain ⟨hb,e⟩:=zvy z
  obtain ⟨f0,f1,f2,_⟩:=hf p.1 hb
  obtain ⟨o,e',d⟩:=ho p.1 hb
  rw [e] at e'; cases e'
  exact ⟨e,f0,f1,f2,d⟩
theorem Inv.unpinned {pins pl : List (Addr × Obj)} {σ : St} {H : Hp} {s : Zg5} (I : Inv X (pins++pl) σ H s) : Inv X pins σ H s:=I.pins_of fun p hp=>I.pin p (Zg9 _ (Zhu _ hp))
theorem zb6 {iter : Expr} {body : List Stmt} {wi : TI} {g : TG} {tb : TS} {pos : Pos} (hp : Ziw (Zh2 X.prog X.w) X.A X.env X.xe) (hc : X.calm = true) (hi : PI X tg iter wi) (hg : PG X tg g) (hb : PSs X body tb)
  (hs : ∀ x,Zng iter X.env x = pure x:=by intro _; rfl) : PS X (.For tg iter body [] pos) (tFor wi g tb):=by
 intro pins s σ H D I h
 refine wpAny_For (thn (hi pins s σ H _ I h) fun v s1 h1=>thn h1 fun itv s2 h2=>?_) hs
 obtain ⟨it,fp,tn,J,H2,e,I2,T,st2,f2,W,⟨m0,w0⟩,turn⟩:=h2
 subst e
 -- what stays true of the iterator's objects through the loop
 have stat : ∀ {H' : Hp},(∀ b∈fp,H' b = none) -> ∀ b∈fp,FpOk X pins H' b:=fun hn b hb=>⟨hn b hb,(f2 b hb).2⟩
 refine codeAny_forLoop_any (fun n s'=>∃ i σ' H',Inv X pins σ' H' s'/\tn i s'.heap/\(∀ b∈fp,H' b = none)/\W i n σ' H') ?_ m0 ⟨0,σ,H2,I2,st2,fun b hb=>(f2 b hb).1,w0⟩
 rintro n s3 ⟨i,σ3,H3,I3,st3,fr3,w3⟩
 rcases turn i n σ3 H3 w3 with ⟨stop,qn⟩ | ⟨go,N,hN,step⟩
 ·refine Zk0 hp (thn (T.done X rfl rfl rfl hc i pins s3 σ3 H3 X.xe I3 (stat fr3) st3 stop) fun r s4 hz9=>?_)
  obtain ⟨hr,I4⟩:=hz9
  subst hr
  exact Zlq ⟨σ3,H3,I4,qn⟩
 ·refine Zk0 hp (thn (T.item X rfl rfl rfl hc i pins s3 σ3 H3 X.xe I3 (stat fr3) st3 go) fun r s4 hz9=>?_)
  obtain ⟨u,hr,h4⟩:=hz9
  subst hr
  refine Zk0 hp (thn h4 fun _ s5 hz9=>?_)
  obtain ⟨x,H5,I5,r5,y5,st5,fr5⟩:=hz9
  have I5':=I5.pinned (stat fr5) (T.obj _ _ st5)
  refine Zk0 hp (thn (hg _ s5 σ3 H5 x u _ I5' r5 (step x H5 y5)) fun _ s6 hz9=>?_)
  obtain ⟨σ6,H6,I6,q6⟩:=hz9
  refine Zk0 hp (thn (hb _ s6 σ6 H6 _ I6 q6) fun f s7 q7=>?_)
  have again : ∀ {σ7 : St} {H7 : Hp},Inv X (pins++zn9 fp s5.heap) σ7 H7 s7->N σ7 H7 -> ∃ m,m < n /\ ∃ i σ' H',Inv X pins σ' H' s7/\tn i s7.heap/\(∀ b∈fp,H' b = none)/\W i m σ' H':=fun {σ7 H7} I7 n7=>by
   obtain ⟨m',hm,w7⟩:=hN σ7 H7 n7
   refine ⟨m',hm,i + 1,σ7,H7,I7.unpinned,T.keep _ _ _ st5 fun b hb o e=>(I7.pin (b,o) (Zg9 _ (Zg9 _ (zgm hb e)))).1,fun b hb=>?_,w7⟩
   obtain ⟨o,e,d⟩:=T.obj _ _ st5 b hb
   exact (I7.pin (b,o) (Zg9 _ (Zg9 _ (zgm hb e)))).2.1
  cases f with
  | next=>obtain ⟨σ7,H7,I7,n7⟩:=q7; exact again I7 n7
  | cont=>obtain ⟨σ7,H7,I7,n7⟩:=q7; exact again I7 n7
  | brk=>obtain ⟨σ7,H7,I7,q7⟩:=q7; exact ⟨σ7,H7,I7.unpinned,q7⟩
  | ret v=>obtain ⟨x7,σ7,H7,I7,r7,q7⟩:=q7; exact ⟨x7,σ7,H7,I7.unpinned,r7,q7⟩
end
noncomputable abbrev R2:=V->V->Hp->VK->Prop
noncomputable def OpR (X : Cx) (f : Value->Value->Sem Value) (r : R2) : Prop :=
 ∀ (pins : List (Addr × Obj)) (s : Zg5) (σ : St) (H : Hp) (x y : V) (v u : Value) (Q : VK),Inv X pins σ H s->RelV x v->RelV y u->r x y H Q ->
  Zhs (Zh2 X.prog X.w) X.A (f v u) (EP X pins σ Q) X.xe s
noncomputable def UnR (X : Cx) (f : Value->Sem Value) (r : V->Hp->VK->Prop) : Prop :=
 ∀ (pins : List (Addr × Obj)) (s : Zg5) (σ : St) (H : Hp) (x : V) (v : Value) (Q : VK),Inv X pins σ H s->RelV x v->r x H Q ->
  Zhs (Zh2 X.prog X.w) X.A (f v) (EP X pins σ Q) X.xe s
noncomputable def zcy (X : Cx) (f : Value) (r : List V->Hp->VK->Prop) : Prop :=
 ∀ (pins : List (Addr × Obj)) (s : Zg5) (σ : St) (H : Hp) (xs : List V) (us : List Value) (Q : VK),Inv X pins σ H s->Vals xs us->r xs H Q ->
  Zhs (Zh2 X.prog X.w) X.A (call f us) (EP X pins σ Q) X.xe s
noncomputable def tOp (r : R2) (ta tb : TE) : TE:=fun σ H Q=>ta σ H fun x H1=>tb σ H1 fun y H2=>r x y H2 Q
noncomputable def tUn (r : V->Hp->VK->Prop) (ta : TE) : TE:=fun σ H Q=>ta σ H fun x H1=>r x H1 Q
noncomputable def rI (C : Int->Int->Prop) (g : Int->Int->V) : R2:=fun x y H Q=>∃ i j,x = .int i/\y = .int j/\C i j/\Q (g i j) H
noncomputable def rI0 (g : Int->Int->V) : R2:=fun x y H Q=>∃ i j,x = .int i/\y = .int j/\Q (g i j) H
noncomputable def rU (g : Int->V) : V->Hp->VK->Prop:=fun x H Q=>∃ i,x = .int i/\Q (g i) H
section
variable {X : Cx} {a b c : Expr} {ta tb tc : TE} {pos : Pos}
theorem binT (ha : PE X a ta) (hb : PE X b tb) {pins : List (Addr × Obj)} {s : Zg5} {σ : St} {H : Hp} {R : V->V->Hp->Prop} (I : Inv X pins σ H s)
  (h : ta σ H fun x H1=>tb σ H1 fun y H2=>R x y H2) {Q : Value->Zg5->Prop} {f : Value->Value->Sem Value}
  (hf : ∀ v u s2 x y H2,Inv X pins σ H2 s2->RelV x v->RelV y u->R x y H2->Zhs (Zh2 X.prog X.w) X.A (f v u) Q X.xe s2) :
  Zhs (Zh2 X.prog X.w) X.A (eval a X.env) (fun v s₁=>Zhs (Zh2 X.prog X.w) X.A (eval b X.env) (fun u s₂=>Zhs (Zh2 X.prog X.w) X.A (f v u) Q X.xe s₂) X.xe s₁) X.xe s:=by
 refine thn (ha pins s σ H _ I h) fun v s1 hz9=>?_
 obtain ⟨x,H1,I1,r1,q1⟩:=hz9
 refine thn (hb pins s1 σ H1 _ I1 q1) fun u s2 hz9=>?_
 obtain ⟨y,H2,I2,r2,q2⟩:=hz9
 exact hf v u s2 x y H2 I2 r1 r2 q2
theorem zby {op : Operator} {r : R2} (ho : OpR X (Zo9 op) r) (ha : PE X a ta) (hb : PE X b tb) : PE X (.BinOp a op b pos) (tOp r ta tb):=by
 intro pins s σ H Q I h
 exact wpAny_BinOp (binT ha hb I h fun v u s2 x y H2 I2 rx ry q=>ho pins s2 σ H2 x y v u Q I2 rx ry q)
theorem zru {op : UnaryOp} {r : V->Hp->VK->Prop} (ho : UnR X (unaryOp op) r) (ha : PE X a ta) : PE X (.UnaryOp op a pos) (tUn r ta):=by
 intro pins s σ H Q I h
 exact UnaryOp_ (thn (ha pins s σ H _ I h) fun v s1 ⟨x,H1,I1,r1,q1⟩=>ho pins s1 σ H1 x v Q I1 r1 q1)
theorem opI {f : Value->Value->Sem Value} {C : Int->Int->Prop} {g : Int->Int->Int}
  (rule : ∀ (i j : Int) (t u : Tok) (s : Zg5) (Q : Value->Zg5->Prop) (E : Value->Zg5->Prop),C i j->Q (.int (g i j) s.toks) { s with toks:=s.toks + 1 }->Zhs (Zh2 X.prog X.w) X.A (f (.int i t) (.int j u)) Q E s) :
  OpR X f (rI C fun i j=>.int (g i j)):=by
 intro pins s σ H x y v u Q I rx ry h
 obtain ⟨i,j,rfl,rfl,hc,q⟩:=h
 obtain ⟨t,rfl⟩:=rx
 obtain ⟨t',rfl⟩:=ry
 exact rule i j t t' s _ _ hc ⟨.int (g i j),H,I.tok _,⟨_,rfl⟩,q⟩
theorem opI0 {f : Value->Value->Sem Value} {g : Int->Int->Int}
  (rule : ∀ (i j : Int) (t u : Tok) (s : Zg5) (Q : Value->Zg5->Prop) (E : Value->Zg5->Prop),Q (.int (g i j) s.toks) { s with toks:=s.toks + 1 }->Zhs (Zh2 X.prog X.w) X.A (f (.int i t) (.int j u)) Q E s) :
  OpR X f (rI0 fun i j=>.int (g i j)):=by
 intro pins s σ H x y v u Q I rx ry h
 obtain ⟨i,j,rfl,rfl,q⟩:=h
 obtain ⟨t,rfl⟩:=rx
 obtain ⟨t',rfl⟩:=ry
 exact rule i j t t' s _ _ ⟨.int (g i j),H,I.tok _,⟨_,rfl⟩,q⟩
theorem opB0 {f : Value->Value->Sem Value} {g : Int->Int->Bool}
  (rule : ∀ (i j : Int) (t u : Tok) (s : Zg5) (Q : Value->Zg5->Prop) (E : Value->Zg5->Prop),Q (.bool (g i j)) s->Zhs (Zh2 X.prog X.w) X.A (f (.int i t) (.int j u)) Q E s) :
  OpR X f (rI0 fun i j=>.bl (g i j)):=by
 intro pins s σ H x y v u Q I rx ry h
 obtain ⟨i,j,rfl,rfl,q⟩:=h
 obtain ⟨t,rfl⟩:=rx
 obtain ⟨t',rfl⟩:=ry
 exact rule i j t t' s _ _ ⟨.bl (g i j),H,I,rfl,q⟩
noncomputable def CDiv (i j : Int) : Prop:=0 < j/\j < 1073741824
noncomputable def CPow (i j : Int) : Prop:=0 <= j/\j <= 1000000/\i.natAbs < 2 ^ 64
theorem zd7 : OpR X (Zo9 .Add) (rI0 fun i j=>.int (i + j)):=opI0 fun _ _ _ _ _ _ _ q=>add_int q
theorem yet : OpR X (Zo9 .Sub) (rI0 fun i j=>.int (i - j)):=opI0 fun _ _ _ _ _ _ _ q=>sub_int q
theorem zkk : OpR X (Zo9 .FloorDiv) (rI CDiv fun i j=>.int (i / j)):=opI fun i j _ _ _ _ _ hc q=>by
 have h1 : (0 : Int) < j:=hc.1
 have h2 : j < 1073741824:=hc.2
 exact floordiv_int (by omega) (by rw [Int.fdiv_eq_ediv_of_nonneg i (by omega)]; exact q) (.inl (PyProof.noPylong_small (by omega)))
theorem zg1 : OpR X (Zo9 .Mod) (rI (fun _ j=>0 < j) fun i j=>.int (i % j)):=opI fun i j _ _ _ _ _ hc q=>by
 have h1 : (0 : Int) < j:=hc
 exact mod_int' (by omega) (by rw [Int.fmod_eq_emod_of_nonneg i (by omega)]; exact q)
theorem zz8 : OpR X (Zo9 .Pow) (rI CPow fun i j=>.int (i ^ j.toNat)):=opI fun _ _ _ _ _ _ _ hc q=>pow_int_small hc.1 hc.2.1 hc.2.2 q
theorem unI {f : Value->Sem Value} {g : Int->Int}
  (rule : ∀ (i : Int) (t : Tok) (s : Zg5) (Q : Value->Zg5->Prop) (E : Value->Zg5->Prop),Q (.int (g i) s.toks) { s with toks:=s.toks + 1 }->Zhs (Zh2 X.prog X.w) X.A (f (.int i t)) Q E s) :
  UnR X f (rU fun i=>.int (g i)):=by
 intro pins s σ H x v Q I rx h
 obtain ⟨i,rfl,q⟩:=h
 obtain ⟨t,rfl⟩:=rx
 exact rule i t s _ _ ⟨.int (g i),H,I.tok _,⟨_,rfl⟩,q⟩
theorem zlf : UnR X (unaryOp .USub) (rU fun i=>.int (-i)):=unI fun _ _ _ _ _ q=>neg_int q
end
noncomputable def scal : V->V->Bool
 | .non,.non=>true | .non,.int _=>true | .int _,.non=>true | .non,.bl _=>true | .bl _,.non=>true | .non,.str _=>true | .str _,.non=>true
 | .int _,.int _=>true | .bl _,.bl _=>true | .str _,.str _=>true | .byt _,.byt _=>true
 | .int _,.str _=>true | .str _,.int _=>true | .bl _,.str _=>true | .str _,.bl _=>true
 | _,_=>false
noncomputable def rEq : R2:=fun x y H Q=>scal x y = true/\Q (.bl (decide (x = y))) H
noncomputable def rNe : R2:=fun x y H Q=>scal x y = true/\Q (.bl (!decide (x = y))) H
theorem zw9 {i j : Int} : decide (V.int i = V.int j) = (i == j):=by
 rw [Zh8]
 simp
theorem zz1 {i j : Bool} : decide (V.bl i = V.bl j) = (i == j):=by
 rw [Zh8]
 simp
theorem ztm {i j : Str} : decide (V.str i = V.str j) = (i == j):=by
 rw [Zh8]
 simp
theorem zvz {i j : Array UInt8} : decide (V.byt i = V.byt j) = (i.toList == j.toList):=by
 rw [Zh8]
 cases i
 cases j
 simp
section
variable {X : Cx} {a b c : Expr} {ta tb tc : TE} {pos : Pos}
theorem za9 {pins : List (Addr × Obj)} {σ : St} {H : Hp} {s : Zg5} {Q : VK} {k k' : Bool} (I : Inv X pins σ H s) (q : Q (.bl k) H) (e : k = k') : EP X pins σ Q (.bool k') s:=by
 subst e
 exact ⟨.bl k,H,I,rfl,q⟩
theorem zet : OpR X (Zjy .Eq) rEq:=by
 intro pins s σ H x y v u Q I rx ry h
 obtain ⟨hs,q⟩:=h
 cases x with
 | non =>
  cases rx
  cases y with
  | non=>cases ry; exact Zuw (za9 I q (by simp))
  | bl j=>cases ry; exact Zuy (za9 I q (by simp))
  | int j=>obtain ⟨t',rfl⟩:=ry; exact Zux (za9 I q (by simp))
  | str j=>obtain ⟨t',rfl⟩:=ry; exact Zuv (za9 I q (by simp))
  | _=>exact absurd (show false = true from hs) Zhx
 | bl i =>
  cases rx
  cases y with
  | non=>cases ry; exact Zu0 (za9 I q (by simp))
  | bl j=>cases ry; exact eq_bool (za9 I q zz1)
  | str j=>obtain ⟨t',rfl⟩:=ry; exact Zt7 (za9 I q (by simp))
  | _=>exact absurd (show false = true from hs) Zhx
 | int i =>
  obtain ⟨t,rfl⟩:=rx
  cases y with
  | non=>cases ry; exact Zuz (za9 I q (by simp))
  | int j=>obtain ⟨t',rfl⟩:=ry; exact eq_int (za9 I q zw9)
  | str j=>obtain ⟨t',rfl⟩:=ry; exact Zt6 (za9 I q (by simp))
  | _=>exact absurd (show false = true from hs) Zhx
 | str i =>
  obtain ⟨t,rfl⟩:=rx
  cases y with
  | non=>cases ry; exact Zuu (za9 I q (by simp))
  | bl j=>cases ry; exact Zt5 (za9 I q (by simp))
  | int j=>obtain ⟨t',rfl⟩:=ry; exact Zt4 (za9 I q (by simp))
  | str j=>obtain ⟨t',rfl⟩:=ry; exact eq_str (za9 I q ztm)
  | _=>exact absurd (show false = true from hs) Zhx
 | byt i =>
  obtain ⟨t,rfl⟩:=rx
  cases y with
  | byt j=>obtain ⟨t',rfl⟩:=ry; exact PySem.W.eq_bytes (za9 I q zvz)
  | _=>exact absurd (show false = true from hs) Zhx
 | _=>cases y <;> exact absurd (show false = true from hs) Zhx
theorem zsk : OpR X (Zjy .NotEq) rNe:=by
 intro pins s σ H x y v u Q I rx ry h
 obtain ⟨hs,q⟩:=h
 cases x with
 | non =>
  cases rx
  cases y with
  | non=>cases ry; exact Zup (za9 I q (by simp))
  | bl j=>cases ry; exact Zur (za9 I q (by simp))
  | int j=>obtain ⟨t',rfl⟩:=ry; exact Zuq (za9 I q (by simp))
  | str j=>obtain ⟨t',rfl⟩:=ry; exact Zuo (za9 I q (by simp))
  | _=>exact absurd (show false = true from hs) Zhx
 | bl i =>
  cases rx
  cases y with
  | non=>cases ry; exact Zut (za9 I q (by simp))
  | bl j=>cases ry; exact ne_bool (za9 I q (congrArg not zz1))
  | str j=>obtain ⟨t',rfl⟩:=ry; exact Zt3 (za9 I q (by simp))
  | _=>exact absurd (show false = true from hs) Zhx
 | int i =>
  obtain ⟨t,rfl⟩:=rx
  cases y with
  | non=>cases ry; exact Zus (za9 I q (by simp))
  | int j=>obtain ⟨t',rfl⟩:=ry; exact ne_int (za9 I q (congrArg not zw9))
  | str j=>obtain ⟨t',rfl⟩:=ry; exact Zt2 (za9 I q (by simp))
  | _=>exact absurd (show false = true from hs) Zhx
 | str i =>
  obtain ⟨t,rfl⟩:=rx
  cases y with
  | non=>cases ry; exact Zun (za9 I q (by simp))
  | bl j=>cases ry; exact Zt1 (za9 I q (by simp))
  | int j=>obtain ⟨t',rfl⟩:=ry; exact Zt0 (za9 I q (by simp))
  | str j=>obtain ⟨t',rfl⟩:=ry; exact ne_str (za9 I q (congrArg not ztm))
  | _=>exact absurd (show false = true from hs) Zhx
 | byt i =>
  obtain ⟨t,rfl⟩:=rx
  cases y with
  | byt j=>obtain ⟨t',rfl⟩:=ry; exact PySem.W.ne_bytes (za9 I q (congrArg not zvz))
  | _=>exact absurd (show false = true from hs) Zhx
 | _=>cases y <;> exact absurd (show false = true from hs) Zhx
theorem zoa : OpR X (Zjy .Lt) (rI0 fun i j=>.bl (decide (i < j))):=opB0 fun _ _ _ _ _ _ _ q=>lt_int q
theorem zr5 : OpR X (Zjy .LtE) (rI0 fun i j=>.bl (decide (i <= j))):=opB0 fun _ _ _ _ _ _ _ q=>le_int q
theorem zoj : OpR X (Zjy .Gt) (rI0 fun i j=>.bl (decide (j < i))):=opB0 fun _ _ _ _ _ _ _ q=>gt_int q
theorem ycw : OpR X (Zjy .GtE) (rI0 fun i j=>.bl (decide (j <= i))):=opB0 fun _ _ _ _ _ _ _ q=>ge_int q
theorem zue : OpR X (Zjy .IsNot) (fun x y H Q=>y = .non/\Q (.bl (!decide (x = .non))) H):=by
 intro pins s σ H x y v u Q I rx ry h
 obtain ⟨rfl,q⟩:=h
 cases ry
 refine isnot_none_gen (za9 I q ?_)
 cases x <;> first
  | (cases rx; rfl)
  | (obtain ⟨t,rfl⟩:=rx; rfl)
theorem zau (b : Expr) {op : Zs4} (h : op ≠ .In:=by decide) (h2 : op ≠ .NotIn:=by decide) : Zmv op b = false:=by
 have e1 : (op == CmpOp.In) = false:=by cases op <;> first | rfl | exact absurd rfl h
 have e2 : (op == CmpOp.NotIn) = false:=by cases op <;> first | rfl | exact absurd rfl h2
 cases b <;> simp [Zmv,e1,e2]
theorem zbe {op : Zs4} {r : R2} (ho : OpR X (Zjy op) r) (ha : PE X a ta) (hb : PE X b tb) (hm : Zmv op b = false) : PE X (.Compare a [op] [b] pos) (tOp r ta tb):=by
 intro pins s σ H Q I h
 exact Zvp (binT ha hb I h fun v u s2 x y H2 I2 rx ry q=>ho pins s2 σ H2 x y v u Q I2 rx ry q) hm
noncomputable def ydy (t : TE) : TT:=fun σ H Q=>t σ H fun x H'=>∃ k,x = .bl k/\Q k H'
theorem zax {op : Zs4} {r : R2} (ho : OpR X (Zjy op) r) (ha : PE X a ta) (hb : PE X b tb) (hm : Zmv op b = false) : PT X (.Compare a [op] [b] pos) (ydy (tOp r ta tb)):=by
 intro pins s σ H Q I h
 refine Zsh (thn (ha pins s σ H _ I h) fun v s1 ⟨x,H1,I1,r1,q1⟩=>thn (hb pins s1 σ H1 _ I1 q1) fun u s2 ⟨y,H2,I2,r2,q2⟩ =>
  thn (ho pins s2 σ H2 x y v u _ I2 r1 r2 q2) fun c s3 ⟨z,H3,I3,r3,k,e,q3⟩=>?_) hm
 subst e
 cases r3
 exact Zje ⟨H3,I3,q3⟩
noncomputable def zz2 (r r' : R2) (ta tb tc : TE) : TE:=fun σ H Q=>ta σ H fun x H1=>tb σ H1 fun y H2=>r x y H2 fun z H3=>∃ k,z = .bl k /\
 (if k = true then tc σ H3 fun w' H4=>r' y w' H4 Q else Q (.bl false) H3)
theorem zyp {op op' : Zs4} {r r' : R2} (ho : OpR X (Zjy op) r) (ho' : OpR X (Zjy op') r') (ha : PE X a ta) (hb : PE X b tb) (hc : PE X c tc)
  (hm : lastMarks [op,op'] [b,c] = false:=by with_unfolding_all rfl) : PE X (.Compare a [op,op'] [b,c] pos) (zz2 r r' ta tb tc):=by
 intro pins s σ H Q I h
 refine Compare_chain (thn (ha pins s σ H _ I h) fun v s1 ⟨x,H1,I1,r1,q1⟩=>chain_link (thn (hb pins s1 σ H1 _ I1 q1) fun u s2 ⟨y,H2,I2,r2,q2⟩ =>
  thn (ho pins s2 σ H2 x y v u _ I2 r1 r2 q2) fun d s3 ⟨z,H3,I3,r3,k,e,q3⟩=>?_)) hm
 subst e
 cases r3
 refine Zje ?_
 cases k with
 | false=>exact ite_ff ⟨.bl false,H3,I3,rfl,q3⟩
 | true=>exact ite_tt (chain_last (thn (hc pins s3 σ H3 _ I3 q3) fun w' s4 ⟨z',H4,I4,r4,q4⟩=>ho' pins s4 σ H4 y z' u w' Q I4 r2 r4 q4))
theorem zvw : (sizeLine : Nat) < 2 ^ 63:=by rw [Zhm]; decide
theorem zfs {x : V} {us : List Value} (r : Vals [x] us) : ∃ u,us = [u]/\RelV x u:=by
 cases r with
 | cons r1 r2=>cases r2; exact ⟨_,rfl,r1⟩
theorem zk7 {x y : V} {us : List Value} (r : Vals [x,y] us) : ∃ u w',us = [u,w']/\RelV x u/\RelV y w':=by
 cases r with
 | cons r1 r2 =>
  cases r2 with
  | cons r3 r4=>cases r4; exact ⟨_,_,rfl,r1,r3⟩
theorem zjf : zcy X (.builtin "abs") (fun xs H Q=>∃ i,xs = [.int i]/\Q (.int (if i < 0 then -i else i)) H):=by
 intro pins s σ H xs us Q I r h
 obtain ⟨i,rfl,q⟩:=h
 obtain ⟨u,rfl,t,rfl⟩:=zfs r
 exact call_abs_int fun u tk=>⟨.int (if i < 0 then -i else i),H,I.tok _,⟨_,rfl⟩,q⟩
theorem zn8 (hc : X.calm = true) : zcy X (.builtin "max") (fun xs H Q=>∃ i j,xs = [.int i,.int j]/\Q (.int (if j > i then j else i)) H):=by
 intro pins s σ H xs us Q I r h
 obtain ⟨i,j,rfl,q⟩:=h
 obtain ⟨u,w',rfl,⟨t,rfl⟩,⟨t',rfl⟩⟩:=zk7 r
 refine max_two_ints (I.ok.hd hc) fun h' tk k=>⟨_,H,I.kept k,?_,q⟩
 by_cases hj : j > i
 ·rw [if_pos hj,if_pos hj]; exact ⟨_,rfl⟩
 ·rw [if_neg hj,if_neg hj]; exact ⟨_,rfl⟩
theorem zns (hc : X.calm = true) : zcy X (.builtin "min") (fun xs H Q=>∃ i j,xs = [.int i,.int j]/\Q (.int (if j < i then j else i)) H):=by
 intro pins s σ H xs us Q I r h
 obtain ⟨i,j,rfl,q⟩:=h
 obtain ⟨u,w',rfl,⟨t,rfl⟩,⟨t',rfl⟩⟩:=zk7 r
 refine min_two_ints (I.ok.hd hc) fun h' tk k=>⟨_,H,I.kept k,?_,q⟩
 by_cases hj : j < i
 ·rw [if_pos hj,if_pos hj]; exact ⟨_,rfl⟩
 ·rw [if_neg hj,if_neg hj]; exact ⟨_,rfl⟩
end
structure ObjM (h : Heap) (x dx C : Addr) (mA : Str->Option Value) : Prop where
 obj : h.get? x = some (Zrt C dx)
 ns : h.Ns1 dx mA
 ne : dx≠x
theorem zur {h : Heap} {dx : Addr} {mA : Str->Option Value} (n : h.Ns1 dx mA) : ∃ od,h.get? dx = some od /\ ∀ name,Zrz name od = some (mA name):=by
 obtain ⟨o,es,ep,ho,hd,hk,_,hm⟩:=n
 refine ⟨o,ho,fun name=>?_⟩
 have e:=hm name
 unfold nsFind findBy at e
 rw [<- Zrk] at e
 unfold Zrz
 rw [hd]
 dsimp only
 split
 ·rename_i y q
  rw [q] at e
  exact congrArg some e
 ·rename_i q
  rw [q] at e
  have a : es.toList.any (·.refKey) = false:=by
   rw [List.any_eq_false]
   intro y hy
   obtain ⟨z,t,hkey⟩:=hk y (Zl5.mp hy)
   simp [Zwa,hkey]
  have a' : ¬ es.toList.any (·.refKey) = true:=by rw [a]; exact Zhx
  rw [if_neg a']
  exact congrArg some e
section
variable {prog : Zhz} {w : Zix} {A : Zh3} {E : Value->Zg5->Prop} {s : Zg5} {K : Zgy} {x dx C f : Addr} {mA : Str->Option Value} {name : Str} {v : Value}
end
theorem RelO.some_of {v : V} {o : Option Value} (r : RelO (some v) o) : ∃ u,o = some u/\RelV v u:=by
 cases o with
 | none=>exact (show False from r).elim
 | some u=>exact ⟨u,rfl,r⟩
theorem zu2 {v : V} {u : Value} (r : RelV v u) : PySem.W.handedIn u = true:=by
 cases v with
 | non=>cases (show u = Zl8 from r); rfl
 | bl b=>cases (show u = Zl9 b from r); rfl
 | int i=>obtain ⟨t,e⟩:=(show ∃ t,u = Zj6 i t from r); cases e; rfl
 | str x=>obtain ⟨t,e⟩:=(show ∃ t,u = Zpb x t from r); cases e; rfl
 | byt b=>obtain ⟨t,e⟩:=(show ∃ t,u = Zq7 b t from r); cases e; rfl
 | flt b=>obtain ⟨t,e⟩:=(show ∃ t,u = Zq6 b t from r); cases e; rfl
 | ref a=>cases (show u = Zh4 a from r); rfl
 | ty n=>cases (show u = Zom n from r); rfl
structure Cls (K : Zgy) (C : Addr) : Prop where
 pg : PySem.W.plainGet K C Zon = true
 hd : PySem.W.hasDictIn K C = true
 po : PySem.W.plainOver K C = true
 sa : Zki K (.ref C) "__setattr__" = some (some (.builtin "object.__setattr__"))
noncomputable def zqr (K : Zgy) (C : Addr) (f : Str) : Prop:=Zki K (.ref C) f = some none
structure Con (K : Zgy) (C : Addr) (f : Str) (v : V) (u : Value) : Prop where
 at_ : Zki K (.ref C) f = some (some u)
 rel : RelV v u
 get : Zq9 K u "__get__" = some none
 cp : PySem.W.copiedNames.contains f = false
structure Meth (K : Zgy) (C : Addr) (m : Str) (f : Addr) : Prop where
 at_ : Zki K (.ref C) m = some (some (.ref f))
 fn : Zof K (.ref f) = true
 kp : Zj7 K (.ref f) = true
section
variable {X : Cx} {pins : List (Addr × Obj)} {σ : St} {H : Hp} {s : Zg5} {a C dx : Addr} {fs : List (Str × V)} {f : Str} {v : V} {A : Zh3} {E : Value->Zg5->Prop}
theorem ybw {prog : Zhz} {w : Zix} {env : Env} {e : Expr} {f : Str} {pos : Pos} {s : Zg5} {Q : Value->Zg5->Prop} (hb : Zls e f env (eval e env) = eval e env)
  (h : Zhs (Zh2 prog w) A (eval e env) (fun o s₁=>Zhs (Zh2 prog w) A (getAttr o f true) Q E s₁) E s) : Zhs (Zh2 prog w) A (eval (.Attribute e f pos) env) Q E s :=
 Attribute_any_ h (by rw [arm_eval_Attribute,hb])
end
section
variable {X : Cx} {pins : List (Addr × Obj)} {σ : St} {H : Hp} {s : Zg5} {A : Zh3} {E : Value->Zg5->Prop} {Q : Value->Zg5->Prop} {c : Value} {b : Bool}
inductive TyOf (K : Zgy) (H : Hp) : V->Value->Prop where
 | non : TyOf K H .non (.type "NoneType")
 | bl (x : Bool) : TyOf K H (.bl x) (.type "bool")
 | int (i : Int) : TyOf K H (.int i) (.type "int")
 | str (x : Str) : TyOf K H (.str x) (.type "str")
 | flt (x : UInt64) : TyOf K H (.flt x) (.type "float")
 | lst {a : Addr} {xs : List V} (e : H a = some (.lst xs)) : TyOf K H (.ref a) (.type "list")
 | frz {a : Addr} {o : Obj} {xs : List V} (e : H a = some (.frz o (.lst xs))) : TyOf K H (.ref a) (.type "list")
 | tup {a : Addr} {xs : List V} (e : H a = some (.tup xs)) : TyOf K H (.ref a) (.type "tuple")
 | dK {a : Addr} {kvs : List (Key × V)} (e : H a = some (.dK kvs)) : TyOf K H (.ref a) (.type "dict")
 | dT {a : Addr} {kvs : List (List Key × V)} (e : H a = some (.dT kvs)) : TyOf K H (.ref a) (.type "dict")
 | ins {a C dx : Addr} {fs : List (Str × V)} (e : H a = some (.ins C dx fs)) (cl : Cls K C) (ha : Zki K (.ref C) "__class__" = some (some (.builtin "object.__class__")))
   (hn : Zq9 K (.builtin "object.__class__") "__get__" = some (some (.builtin "getset_descriptor.__get__"))) (htk : PySem.W.takesIn K (.builtin "object.__class__") = some true)
   (hm : PySem.W.mroIn K C (.type "object") = some true) : TyOf K H (.ref a) (.ref C)
end
structure Room (k : Nat) (A : Zh3) : Prop where
 hd : A.handled = none
 dp : A.depth + 3 * k + 5 < Zq5
 un : A.units + 16 * k + 200 < Znn
 gd : A.guards = some []
theorem Room.mono {j k : Nat} {A : Zh3} (r : Room k A) (h : j <= k) : Room j A:=⟨r.hd,by have:=r.dp; omega,by have:=r.un; omega,r.gd⟩
theorem Room.deeper {k : Nat} {A : Zh3} (r : Room (k + 1) A) (env : Env) : Room k (A.deeper env) :=
 ⟨r.hd,by have:=r.dp; show A.depth + 1 + 3 * k + 5 < _; omega,by have:=r.un; show A.units + 3 + 16 * k + 200 < _; omega,r.gd⟩
theorem Room.in1 {k : Nat} {A : Zh3} (r : Room (k + 1) A) : Room k A.in1 :=
 ⟨r.hd,by have:=r.dp; show A.depth + 3 * k + 5 < _; omega,by have:=r.un; show A.units + 1 + 16 * k + 200 < _; omega,r.gd⟩
theorem zs0 {A : Zh3} {C : Addr} {us : List Value} {kw : List (Str × Value)} : (A.under (.builtin "type.__call__" ⟨.ref C::us,kw⟩)).depth = A.depth + 1:=by
 first | rfl | simp [Zqn,Code.weight,Code.isCreation,Code.isGuard,Code.isCaller,Zu9,Zq4,guardIds]
theorem zso {A : Zh3} {C : Addr} {us : List Value} {kw : List (Str × Value)} : (A.under (.builtin "type.__call__" ⟨.ref C::us,kw⟩)).units = A.units + 1:=by
 first | rfl | simp [Zqn,Code.cUnits,Zu9,Zq4]
theorem Room.make {k : Nat} {A : Zh3} (r : Room (k + 1) A) (C : Addr) (us : List Value) (kw : List (Str × Value)) : Room k (A.under (.builtin "type.__call__" ⟨.ref C::us,kw⟩)) :=
 ⟨r.hd,by have:=r.dp; rw [zs0]; omega,by have:=r.un; rw [zso]; omega,r.gd⟩
theorem Room.depth {k : Nat} {A : Zh3} (r : Room k A) : A.depth < Zq5:=by have:=r.dp; omega
theorem Room.units {k : Nat} {A : Zh3} (r : Room k A) : A.units + 64 < Znn:=by have:=r.un; omega
noncomputable def tNil : TA:=fun _ H Q=>Q [] H
noncomputable def za3 (ta : TE) (tr : TA) : TA:=fun σ H Q=>ta σ H fun x H1=>tr σ H1 fun xs H2=>Q (x::xs) H2
section
variable {X : Cx} {e : Expr} {es : List Expr} {te : TE} {t : TA} {pos : Pos}
theorem zae : PA X [] tNil:=fun _ _ _ _ H Q I h=>Zop ⟨[],H,I,.nil,h⟩
theorem zab (ha : PE X e te) (hr : PA X es t) (hs : Zic (e::es) X.env = (false,eval e X.env)::Zic es X.env:=by rfl) : PA X (e::es) (za3 te t):=by
 intro pos pins s σ H Q I h
 rw [hs]
 show Zhs _ _ (spliced ((false,eval e X.env)::Zmf pos (Zic es X.env))) _ _ s
 refine Zmr (thn (ha pins s σ H _ I h) fun u s1 hz9=>?_)
 obtain ⟨x,H1,I1,r1,q1⟩:=hz9
 refine thn (hr pos pins s1 σ H1 _ I1 q1) fun us s2 hz9=>?_
 obtain ⟨xs,H2,I2,r2,q2⟩:=hz9
 exact ⟨x::xs,H2,I2,.cons r1 r2,q2⟩
noncomputable def tTup (t : TA) : TE:=fun σ H Q=>t σ H fun xs H1=>xs.length <= sizeLine /\ ∀ p,H1 p = none->Q (.ref p) (upd H1 p (.tup xs))
noncomputable def tLst (t : TA) : TE:=fun σ H Q=>t σ H fun xs H1=>xs.length <= sizeLine /\ ∀ p,H1 p = none->Q (.ref p) (upd H1 p (.lst xs))
theorem zbc {x1} (h : PA X es t) : PE X (.Tuple es x1 pos) (tTup t):=by
 intro pins s σ H Q I hq
 refine wpAny_Tuple_spliced (thn (h pos pins s σ H _ I hq) fun us s1 ⟨xs,H1,I1,r,z,q⟩=>⟨by rw [<- r.length]; exact z,?_⟩)
 have hf : H1 s1.heap.objs.size = none:=I1.hok.fresh (Zha _)
 refine ⟨.ref s1.heap.objs.size,upd H1 s1.heap.objs.size (.tup xs),I1.laid (t':=s1.toks) (fun b u e=>Zg6 _ e) (Zha _) ?_,rfl,q _ hf⟩
 exact ⟨z,us,r,⟨_,Zho _ rfl,rfl,_,rfl⟩⟩
theorem zbn (h : PA X es t) : PE X (.List es pos) (tLst t):=by
 intro pins s σ H Q I hq
 refine wpAny_List_spliced (thn (h pos pins s σ H _ I hq) fun us s1 ⟨xs,H1,I1,r,z,q⟩=>⟨by rw [<- r.length]; exact z,?_⟩)
 have hf : H1 s1.heap.objs.size = none:=I1.hok.fresh (Zha _)
 refine ⟨.ref s1.heap.objs.size,upd H1 s1.heap.objs.size (.lst xs),I1.laid (t':=s1.toks) (fun b u e=>Zg6 _ e) (Zha _) ?_,rfl,q _ hf⟩
 exact ⟨z,us,0,r,Zho _ rfl⟩
end
noncomputable abbrev Sp:=List V->Hp->VK->XK->Prop
noncomputable abbrev CXT:=List Env->Hp->Zg5->XK->Value->Zg5->Prop
structure Env0 (P : Zhz) (w : Zix) (K : Zgy) (mg : Str->Option Value) (base : Heap) (A : Zh3) (outer : List Env) (s : Zg5) (H : Hp) : Prop where
 frames : A.frames = some outer
 mod : Mod K mg base
 bs : ∀ b o,base.get? b = some o->s.heap.get? b = some o/\H b = none
 bsz : base.objs.size <= s.heap.objs.size
 funs : s.heap.FunFrames base outer
 frf : ∀ b∈frs outer,H b = none
 hok : HOk P w H s.heap
 bare : Zob s.gens
noncomputable def CE (outer : List Env) (P : Zhz) (w : Zix) (H : Hp) (s : Zg5) (Q : VK) (u : Value) (s' : Zg5) : Prop :=
 ∃ v H',s'.os = s.os/\Zob s'.gens/\Un (frs outer) [] H H' s.heap s'.heap/\HOk P w H' s'.heap/\RelV v u/\Q v H'
noncomputable def CR (CX : CXT) (outer : List Env) (P : Zhz) (w : Zix) (H : Hp) (s : Zg5) (Q : VK) (E : XK) (r : Zvj) (s' : Zg5) : Prop :=
 match r with
 | .ok (.ret u)=>CE outer P w H s Q u s'
 | .ok _=>False
 | .error e=>CX outer H s E e s'
structure FnOk (P : Zhz) (w : Zix) (K : Zgy) (mg : Str->Option Value) (base : Heap) (CX : CXT) (k : Nat) (f : Addr) (fd : Zjq) (ps : List Str) (sp : Sp) : Prop where
 len : ∀ vs H Q E,sp vs H Q E->vs.length = ps.length
 run : ∀ (A : Zh3) (outer : List Env) (s : Zg5) (H : Hp) (args : Args) (us : List Value) (vs : List V) (Q : VK) (E : XK),Room k A->Env0 P w K mg base A outer s H->Zp0 s fd args (ps.zip us)->Vals vs us->sp vs H Q E ->
  Znm (Zh2 P w) A (.call (.ref f) args) (CR CX outer P w H s Q E) s
theorem Env0.make {P : Zhz} {w : Zix} {K : Zgy} {mg : Str->Option Value} {base : Heap} {A : Zh3} {outer : List Env} {s : Zg5} {H : Hp} (e : Env0 P w K mg base A outer s H) (C : Addr) (us : List Value) (kw : List (Str × Value)) :
  Env0 P w K mg base (A.under (.builtin "type.__call__" ⟨.ref C::us,kw⟩)) outer s H:=⟨by first | exact e.frames | (simpa [Zqn,Code.envs,Zq4,pushEnvs] using e.frames),e.mod,e.bs,e.bsz,e.funs,e.frf,e.hok,e.bare⟩
section
variable {X : Cx} {pins : List (Addr × Obj)} {σ : St} {H : Hp} {s s' : Zg5}
theorem Inv.env0 (I : Inv X pins σ H s) : Env0 X.prog X.w X.K X.mg X.base X.A X.stack s H :=
 ⟨I.ok.frames,I.ok.mod,I.bs,Zh1 I.ok.bsz I.sz,I.stack,I.stkFree,I.hok,I.bare⟩
theorem Inv.after {Q : VK} {u : Value} (I : Inv X pins σ H s) (h : CE X.stack X.prog X.w H s Q u s') : EP X pins σ Q u s':=by
 obtain ⟨v,H',os,bare,un,hok,r,q⟩:=h
 obtain ⟨hh,g,d,t,os'⟩:=s'
 obtain rfl : os' = s.os:=os
 exact ⟨v,H',I.call (h':=hh) (g':=g) (d':=d) (t':=t) (ch:=[]) un hok bare (fun b z=>absurd z (by simp)),r,q⟩
end
noncomputable def zgw (sp : Sp) (dvs : List V) (E : XK) (t : TA) : TE:=fun σ H Q=>t σ H fun vs H1=>sp (vs++dvs) H1 Q E
noncomputable def zk6 (K : Zgy) (fd : Zjq) (ps : List Str) (ds : List Value) : Prop :=
 ∀ (s : Zg5) (us : List Value),K.In s.heap->(us++ds).length = ps.length->Zp0 s fd ⟨us,[]⟩ (ps.zip (us++ds))
theorem zk6.all {K : Zgy} {fd : Zjq} {ps : List Str} (h : ∀ us : List Value,us.length = ps.length->Zmu fd ⟨us,[]⟩ = pure (ps.zip us)) : zk6 K fd ps []:=fun s us _ hl=>by
 rw [Zik] at hl ⊢
 exact .of_eq (h us hl)
noncomputable def zqe (CX : CXT) (X : Cx) (E : XK) : Prop:=∀ (pins : List (Addr × Obj)) (σ : St) (H : Hp) (s : Zg5) (e : Value) (s' : Zg5),Inv X pins σ H s->CX X.stack H s E e s'->X.xe e s'
section
variable {X : Cx} {CX : CXT} {k : Nat} {f C : Addr} {fd : Zjq} {ps : List Str} {sp : Sp} {dvs : List V} {ds : List Value} {E : XK} {x m : Str} {p pos apos : Pos} {e o : Expr} {es : List Expr} {ta : TE} {t : TA}
theorem yd9 {pins : List (Addr × Obj)} {σ : St} {H : Hp} {s : Zg5} {Q : VK} {us : List Value} {vs : List V} (F : FnOk X.prog X.w X.K X.mg X.base CX k f fd ps sp) (hr : Room k X.A) (hb : zk6 X.K fd ps ds) (hd : Vals dvs ds) (hx : zqe CX X E)
  (I : Inv X pins σ H s) (r : Vals vs us) (h : sp (vs++dvs) H Q E) : Zhs (Zh2 X.prog X.w) X.A (call (.ref f) us) (EP X pins σ Q) X.xe s:=by
 have r2 : Vals (vs++dvs) (us++ds):=r.append hd
 have hl : (us++ds).length = ps.length:=by rw [<- r2.length]; exact F.len _ _ _ _ h
 refine Zmy (Zn7 (F.run X.A X.stack s H ⟨us,[]⟩ (us++ds) (vs++dvs) Q E hr I.env0 (hb s us I.kIn hl) r2 h) fun r s' hq=>?_)
 cases r with
 | error e=>exact hx pins σ H s e s' I hq
 | ok fl =>
  cases fl with
  | ret u=>exact I.after hq
  | next=>exact Zjc hq
  | brk=>exact Zjc hq
  | cont=>exact Zjc hq
theorem yb0 (F : FnOk X.prog X.w X.K X.mg X.base CX k f fd ps sp) (hr : Room k X.A) (hg : Gl X x) (hm : X.mg x = some (.ref f)) (hk : Zj7 X.K (.ref f) = true) (hb : zk6 X.K fd ps ds) (hd : Vals dvs ds) (hx : zqe CX X E)
  (ha : PA X (e::es) t) (hdb : (x == ("__debug__" : Str)) = false:=by decide) (he : Zic (e::es) X.env = (false,eval e X.env)::Zic es X.env:=by rfl) (hpl : (Zmf pos (Zic es X.env)).any (·.1) = false:=by rfl) :
  PE X (.Call (.Name x p) (e::es) [] pos) (zgw sp dvs E t):=by
 intro pins s σ H Q I h
 refine Zkd (zkp I hg hm ?_ hdb)
 refine Znv (h₀:=X.base) I.ok.mod.kin hk (thn (ha pos pins s σ H _ I h) fun us s1 ⟨vs,H1,I1,r,q⟩=>⟨I1.kIn,?_⟩) he hpl
 exact yd9 F hr hb hd hx I1 r q
structure Mk (K : Zgy) (C f : Addr) : Prop where
 makes : PySem.W.makesIn K C = true
 init : Zki K (.ref C) "__init__" = some (some (.ref f))
 fn : Zof K (.ref f) = true
 kp : Zj7 K (.ref C) = true
end
noncomputable def PK (X : Cx) (kws : List Zpy) (t : TA) : Prop :=
 ∀ (pos : Pos) (pins : List (Addr × Obj)) (s : Zg5) (σ : St) (H : Hp) (Q : List V->Hp->Prop),Inv X pins σ H s->t σ H Q->Zhs (Zh2 X.prog X.w) X.A (evalAll ((Zpa pos (Zm1 kws X.env)).map (·.2))) (AP X pins σ Q) X.xe s
section
variable {X : Cx} {CX : CXT} {k : Nat} {f C : Addr} {fd : Zjq} {ps ks : List Str} {sp : Sp} {E : XK} {x m : Str} {p pos apos kpos : Pos} {e o : Expr} {es : List Expr} {kws : List Zpy} {te ta : TE} {t tk : TA} {nm : Option Str}
theorem yec : PK X [] tNil:=fun _ _ _ _ H Q I h=>Ztm ⟨[],H,I,.nil,h⟩
theorem ycr (ha : PE X e te) (hr : PK X kws t) : PK X (⟨nm,e,kpos⟩::kws) (za3 te t):=by
 intro pos pins s σ H Q I h
 show Zhs _ _ (evalAll ((do let v <- eval e X.env; Zrp pos; pure v)::(Zpa pos (Zm1 kws X.env)).map (·.2))) _ _ s
 refine Zs6 (Zgz (thn (ha pins s σ H _ I h) fun u s1 ⟨x,H1,I1,r1,q1⟩=>Zgz (Zms (Zhc ?_))))
 refine thn (hr pos pins s1 σ H1 _ I1 q1) fun us s2 hz9=>?_
 obtain ⟨xs,H2,I2,r2,q2⟩:=hz9
 exact ⟨x::xs,H2,I2,.cons r1 r2,q2⟩
structure KBinds (K : Zgy) (fd : Zjq) (ps ks : List Str) (g : List Value->List Value->List Value) (gV : List V->List V->List V) : Prop where
 to : ∀ (s : Zg5) (us ws : List Value),K.In s.heap->(g us ws).length = ps.length->Zp0 s fd ⟨us,ks.zip ws⟩ (ps.zip (g us ws))
 rel : ∀ {vs : List V} {us : List Value} {zs : List V} {ws : List Value},Vals vs us->Vals zs ws->Vals (gV vs zs) (g us ws)
variable {g : List Value->List Value->List Value} {gV : List V->List V->List V}
end
structure FnScope (N P : List Str) (sc : Scope) : Prop where
 kind : sc.kind = .function
 co : sc.isCoroutine = false
 gen : sc.isGenerator = false
 nd : N.Nodup
 pre : N.take P.length = P
 par : ∀ x∈P,sc.names.lookup x = some .local \/ sc.names.lookup x = some .cell
 nofree : ∀ y∈sc.names,y.2 ≠ .free
theorem znq {kindOf : Str->Option Zie} {x : Str} : ∀ {binds : List (Str × Value)} {m : Str->Option Value},(∀ v,(x,v) ∉ binds)->Ztw kindOf binds m x = m x
 | [],_,_=>rfl
 | (n,v)::r,m,h=>by
  unfold Ztw
  rw [znq fun w hw=>h w (Zhd _ hw)]
  split
  ·have : x≠n:=by rintro rfl; exact h v Zhl
   simp [this]
  ·rfl
theorem zn2 {kindOf : Str->Option Zie} {x : Str} : ∀ {binds : List (Str × Value)} {m : Str->Option Value},(∀ v,(x,v) ∉ binds)->Ztx kindOf binds m x = m x
 | [],_,_=>rfl
 | (n,v)::r,m,h=>by
  unfold Ztx
  rw [zn2 fun w hw=>h w (Zhd _ hw)]
  split
  ·rfl
  ·have : x≠n:=by rintro rfl; exact h v Zhl
   simp [this]
theorem zog {kindOf : Str->Option Zie} {x : Str} {v : Value} : ∀ {P : List Str} {vs : List Value} {i : Nat} {m : Str->Option Value},P.Nodup->P[i]? = some x->vs[i]? = some v->kindOf x = some .local ->
  Ztw kindOf (P.zip vs) m x = some v
 | [],_,_,_,_,h,_,_=>by simp at h
 | _::_,[],_,_,_,_,h,_=>by simp at h
 | p::P,w::vs,0,m,nd,h1,h2,hk=>by
  simp at h1 h2; subst h1; subst h2
  show Ztw kindOf ((p,w)::P.zip vs) m p = _
  unfold Ztw
  rw [znq fun v hv=>(Zi5.mp nd).1 (Zph hv).1,if_pos hk]
  simp
 | p::P,w::vs,i + 1,m,nd,h1,h2,hk=>by
  show Ztw kindOf ((p,w)::P.zip vs) m x = _
  unfold Ztw
  exact zog (i:=i) (Zi5.mp nd).2 (by simpa using h1) (by simpa using h2) hk
theorem zoq {kindOf : Str->Option Zie} {x : Str} {v : Value} : ∀ {P : List Str} {vs : List Value} {i : Nat} {m : Str->Option Value},P.Nodup->P[i]? = some x->vs[i]? = some v->kindOf x≠some .local ->
  Ztx kindOf (P.zip vs) m x = some v
 | [],_,_,_,_,h,_,_=>by simp at h
 | _::_,[],_,_,_,_,h,_=>by simp at h
 | p::P,w::vs,0,m,nd,h1,h2,hk=>by
  simp at h1 h2; subst h1; subst h2
  show Ztx kindOf ((p,w)::P.zip vs) m p = _
  unfold Ztx
  rw [zn2 fun v hv=>(Zi5.mp nd).1 (Zph hv).1,if_neg hk]
  simp
 | p::P,w::vs,i + 1,m,nd,h1,h2,hk=>by
  show Ztx kindOf ((p,w)::P.zip vs) m x = _
  unfold Ztx
  exact zoq (i:=i) (Zi5.mp nd).2 (by simpa using h1) (by simpa using h2) hk
noncomputable def zei (N : List Str) (vs : List V) : St:=vs.map some++Znx (N.length - vs.length) none
noncomputable def cxOf (CX : CXT) (P : Zhz) (w : Zix) (K : Zgy) (mg : Str->Option Value) (base : Heap) (N : List Str) (qual : Str) (scope : Scope) (f : Addr) (cd : Value) (A : Zh3) (outer : List Env) (s : Zg5) (H : Hp) (E : XK) : Cx where
 prog:=P
 w:=w
 K:=K
 mg:=mg
 base:=base
 A:=A.deeper (Zlj qual scope s.heap.objs.size f cd)
 N:=N
 s₀:=s
 H₀:=H
 env:=Zlj qual scope s.heap.objs.size f cd
 outer:=outer
 stack:=Zlj qual scope s.heap.objs.size f cd::outer
 ex:=[]
 calm:=true
 fn:=fun _=>true
 pn:=[]
 xe:=fun e s'=>Zhs (Zh2 P w) (A.deeper (Zlj qual scope s.heap.objs.size f cd)) (leaving (Zlj qual scope s.heap.objs.size f cd) e) (fun _ s''=>CX outer H s E e s'') (fun e' s''=>CX outer H s E e' s'') s'
theorem zp8 {sc : Scope} {n : Nat} {x : Str} (h : sc.names.lookup x = some .cell) : ∃ c,(Zvh n sc.names []).lookup x = some c:=by
 have q:=Zp1 sc.names n [] (.inl h)
 exact Ziy.mp q
theorem zug {CX : CXT} {P : Zhz} {w : Zix} {K : Zgy} {mg : Str->Option Value} {base : Heap} {N ps : List Str} {qual : Str} {scope : Scope} {f : Addr} {cd : Value} {A : Zh3} {outer : List Env} {s s1 : Zg5} {H : Hp} {E : XK} {us : List Value} {vs : List V}
  (S : FnScope N ps scope) (hd : A.handled = none) (e0 : Env0 P w K mg base A outer s H) (hl : vs.length = ps.length) (r : Vals vs us)
  (x : InCallC s s.heap.objs.size (Ztw (Zlj qual scope s.heap.objs.size f cd).kindOf (ps.zip us) fun _=>none) (Zvh (s.heap.objs.size + 1) scope.names []) (Ztx (Zlj qual scope s.heap.objs.size f cd).kindOf (ps.zip us) fun _=>none) s1) :
  Inv (cxOf CX P w K mg base N qual scope f cd A outer s H E) [] (zei N vs) H s1:=by
 have hpl : ps.length <= N.length:=by have:=congrArg Zrj S.pre; rw [Zim] at this; omega
 obtain ⟨h1,tk,rfl,hk⟩:=x.done
 have noA : ∀ b : Addr,b ∉ (cxOf CX P w K mg base N qual scope f cd A outer s H E).ex:=fun b z=>absurd (show b∈([] : List Addr) from z) (by simp)
 refine ⟨⟨e0.mod,S.kind,rfl,rfl,Zha _,fun y z c h1 h2=>?_,fun y hy=>?_,fun y c _ h=>?_,fun _=>hd,Zq0 e0.frames,.inr ⟨rfl,rfl⟩,fun b z=>absurd z (noA b),e0.bs,e0.bsz,fun b _ _=>noA b,fun b z=>absurd z (noA b),e0.funs,e0.frf⟩,
  rfl,e0.bare,Un.kept hk,⟨_,x.toInCall.ns,fun i y v h1 h2 h3=>?_⟩,fun y c h=>⟨_,x.cell y c h⟩,e0.hok.fresh (Zha _),fun y c h=>?_,fun p hp=>absurd (show p∈([] : List (Addr × Obj)) from hp) (by simp),e0.hok.kept hk,?_⟩
 ·exact name_of_addr x.apart (Zjr h1) (Zjr h2)
 ·have hy : scope.names.lookup y = some .cell \/ scope.names.lookup y = some .free:=hy
  rcases hy with hy | hy
  ·exact zp8 hy
  ·exact absurd rfl (S.nofree _ (Zjr hy))
 ·exact Zkw (x.above y c (Zjr h))
 ·have hi : i < vs.length:=by
   unfold zei at h2
   by_cases hi : i < vs.length
   ·exact hi
   ·rw [Zil (by simpa using hi)] at h2
    rw [Zle] at h2
    split at h2 <;> cases h2
  have ha : vs[i]? = some v:=by
   unfold zei at h2
   rw [Zip (by simpa using hi),Zg8] at h2
   cases e : vs[i]? with
   | none=>rw [e] at h2; cases h2
   | some a=>rw [e] at h2; cases h2; rfl
  obtain ⟨u,hu,rv⟩:=r.get ha
  have hp : ps[i]? = some y:=by
   rw [<- S.pre,List.getElem?_take_of_lt (by omega)]; exact h1
  have ndP : ps.Nodup:=by rw [<- S.pre]; exact S.nd.sublist (Zr3 _ _)
  refine ⟨u,rv,?_⟩
  rcases S.par y (Zhb hp) with k | k
  ·exact .inl ⟨k,zog ndP hp hu k⟩
  ·obtain ⟨c,e⟩:=zp8 (n:=s.heap.objs.size + 1) k
   refine .inr ⟨.inl k,c,e,?_⟩
   have q:=x.cell y c e
   rw [zoq ndP hp hu (by show scope.names.lookup y≠_; rw [k]; decide)] at q
   exact q
 ·exact e0.hok.fresh (Zkw (x.above y c (Zjr h)))
 ·unfold zei
  show _ = N.length
  rw [Zhg,Zg2,Zlx]
  omega
theorem yde {CX : CXT} {P : Zhz} {w : Zix} {K : Zgy} {mg : Str->Option Value} {base : Heap} {k : Nat} {f : Addr} {name qual : Str} {params : Zq1} {body : List Stmt} {scope : Scope} {dV kV doc pm cdv ct oc : Value} {an od : Option Addr}
  {osl : Array (Option Value)} {N ps : List Str} {sp : Sp} (lk : K.lookup f = some ⟨oc,od,.func (Zi8 name qual params body scope dV kV doc pm an cdv ct),osl⟩) (hcd : Znj K cdv qual = true) (S : FnScope N ps scope)
  (len : ∀ vs H Q E,sp vs H Q E->vs.length = ps.length)
  (hbody : ∀ (A : Zh3) (outer : List Env) (s : Zg5) (H : Hp) (vs : List V) (Q : VK) (E : XK),Room k (A.deeper (Zlj qual scope s.heap.objs.size f cdv))->sp vs H Q E ->
   ∃ t,PSs (cxOf CX P w K mg base N qual scope f cdv A outer s H E) body t/\t { nx:=fun _ H'=>Q .non H',rt:=Q } (zei N vs) H) :
  FnOk P w K mg base CX (k + 1) f (Zi8 name qual params body scope dV kV doc pm an cdv ct) ps sp:=by
 refine ⟨len,fun A outer s H args us vs Q E hr e0 hb r hsp=>?_⟩
 have hl:=len _ _ _ _ hsp
 have KX : K.In s.heap:=e0.mod.kin.keeps fun b o e=>(e0.bs b o e).1
 have lim : s.heap.NoLimit:=e0.mod.nolimit.keeps fun b o e=>(e0.bs b o e).1
 have hkind : ∀ y∈ps.zip us,scope.names.lookup y.1 = some .local \/ (scope.names.lookup y.1 = some .cell/\((Zvh (s.heap.objs.size + 1) scope.names []).lookup y.1).isSome = true):=fun ⟨n,v⟩ hy=>by
  rcases S.par n (Zph hy).1 with q | q
  ·exact .inl q
  ·exact .inr ⟨q,Zp1 _ _ _ (.inl q)⟩
 refine codeAny_call_function hr.depth (KX _ _ lk) rfl S.co S.gen rfl (PySem.W.codeRec_of KX hcd) (hb _ _ _ _ ?_)
 refine wpAny_newFunctionEnv_cells S.kind hkind fun env he s1 x=>?_
 subst he
 refine ⟨lim.keeps x.toInCall.keep,codeAny_func ?_⟩
 obtain ⟨t,ht,hq⟩:=hbody A outer s H vs Q E (hr.deeper _) hsp
 have I : Inv (cxOf CX P w K mg base N qual scope f cdv A outer s H E) [] (zei N vs) H s1:=zug S hr.hd e0 hl r x
 refine Zid (ht [] s1 (zei N vs) H _ I hq) (fun fl s' hs=>?_) fun e s' hs=>hs
 have fin : ∀ {σ' : St} {H' : Hp} {v : V} {u : Value},Inv (cxOf CX P w K mg base N qual scope f cdv A outer s H E) [] σ' H' s'->RelV v u->Q v H'->CE outer P w H s Q u s' :=
  fun {σ' H' v u} J rv q=>⟨v,H',J.os,J.bare,J.base,J.hok,rv,q⟩
 cases fl with
 | ret u =>
  obtain ⟨v,σ',H',J,rv,q⟩:=hs
  exact fin J rv q
 | next =>
  obtain ⟨σ',H',J,q⟩:=hs
  exact fin (v:=V.non) (u:=Zl8) J rfl q
 | brk =>
  obtain ⟨_,_,_,q⟩:=hs
  exact Zjc q
 | cont =>
  obtain ⟨_,_,_,q⟩:=hs
  exact Zjc q
section
variable {X : Cx} {x : Str} {p pos : Pos} {e : Expr} {es : List Expr} {t : TA} {id T : String} {r : List V->Hp->VK->Prop}
noncomputable def tCB (r : List V->Hp->VK->Prop) (t : TA) : TE:=fun σ H Q=>t σ H fun vs H1=>r vs H1 Q
theorem zaw (hc : zcy X (.builtin id) r) (hg : Gl X x) (hm : X.mg x = none) (hv : Zme x = some (.builtin id)) (ha : PA X (e::es) t) (hn : x ≠ "__name__" := by decide) (hdb : (x == ("__debug__" : Str)) = false:=by decide)
  (he : Zic (e::es) X.env = (false,eval e X.env)::Zic es X.env:=by rfl) (hpl : (Zmf pos (Zic es X.env)).any (·.1) = false:=by rfl) : PE X (.Call (.Name x p) (e::es) [] pos) (tCB r t):=by
 intro pins s σ H Q I h
 refine Zkd (zg7 I hg hm hv ?_ hn hdb)
 exact Zu1 (thn (ha pos pins s σ H _ I h) fun us s1 ⟨vs,H1,I1,r1,q1⟩=>hc pins s1 σ H1 vs us Q I1 r1 q1) he hpl
theorem zdr (hc : zcy X (.type T) r) (hg : Gl X x) (hm : X.mg x = none) (hv : Zme x = some (.type T)) (ha : PA X (e::es) t) (hn : x ≠ "__name__" := by decide) (hdb : (x == ("__debug__" : Str)) = false:=by decide)
  (he : Zic (e::es) X.env = (false,eval e X.env)::Zic es X.env:=by rfl) (hpl : (Zmf pos (Zic es X.env)).any (·.1) = false:=by rfl) : PE X (.Call (.Name x p) (e::es) [] pos) (tCB r t):=by
 intro pins s σ H Q I h
 refine Zkd (zg7 I hg hm hv ?_ hn hdb)
 exact Zja (thn (ha pos pins s σ H _ I h) fun us s1 ⟨vs,H1,I1,r1,q1⟩=>hc pins s1 σ H1 vs us Q I1 r1 q1) he hpl
end
end L2
namespace HT
open PySem PyProof.Rows
section
open PySem.SeqAt
open PySem.AutoSeq1 (wpAny_loadPart')
open PySem.MeetsSeq PySem.MeetsSeq2 PySem.MeetsSeq3
end
section
variable {prog : Zhz} {w : Zix} {A : Zh3} {E : Value->Zg5->Prop} {s : Zg5}
noncomputable def sIx (n d : Nat) : Option Int->Nat
 | none=>d
 | some v=>if v < 0 then (v + (n : Int)).toNat else min v.toNat n
end
end HT
namespace L2
open PySem PySem.Spec PyProof.Rows
noncomputable abbrev TO:=St->Hp->(Option Int->Hp->Prop)->Prop
noncomputable def PO (X : Cx) (e : Option Expr) (t : TO) : Prop :=
 ∀ (pins : List (Addr × Obj)) (s : Zg5) (σ : St) (H : Hp) (Q : Option Int->Hp->Prop),Inv X pins σ H s->t σ H Q ->
  Zhs (Zh2 X.prog X.w) X.A (evalPart e X.env) (fun u s'=>∃ o H',Inv X pins σ H' s'/\IsPart u o/\Q o H') X.xe s
noncomputable def zwm : TO:=fun _ H Q=>Q none H
noncomputable def yez (t : TE) : TO:=fun σ H Q=>t σ H fun x H1=>∃ i,x = .int i/\Q (some i) H1
theorem zsr {ns : List Int} : ∀ {us : List Value},Vals (ns.map V.int) us->Zqx us ns:=by
 induction ns with
 | nil=>intro us r; rw [Zla] at r; cases r; exact .nil
 | cons n ns ih =>
  intro us r
  rw [Zhi] at r
  cases r with
  | cons r1 r2 =>
   obtain ⟨t,e⟩:=r1
   subst e
   exact .cons n t (ih r2)
section
variable {X : Cx} {e : Expr} {te : TE} {lo hi : Option Expr} {tl th : TO} {pos p2 : Pos}
theorem ycx : PO X none zwm:=by
 intro pins s σ H Q I h
 rw [Zvy]
 exact Zhc ⟨none,H,I,.none,h⟩
theorem yaw (h : PE X e te) : PO X (some e) (yez te):=by
 intro pins s σ H Q I hw
 rw [evalPart_some]
 refine thn (h pins s σ H _ I hw) fun u s1 hz9=>?_
 obtain ⟨x,H1,I1,r1,q1⟩:=hz9
 obtain ⟨i,rfl,q⟩:=q1
 obtain ⟨t,rfl⟩:=r1
 exact ⟨some i,H1,I1,.int i t,q⟩
noncomputable def SlR (X : Cx) (r : V->Option Int->Option Int->Hp->VK->Prop) : Prop :=
 ∀ (pins : List (Addr × Obj)) (s : Zg5) (σ : St) (H : Hp) (x : V) (v vl vu : Value) (lo hi : Option Int) (sl : Addr) (Q : VK),Inv X pins σ H s->RelV x v->s.heap.IsSliceOf sl vl vu .none->IsPart vl lo->IsPart vu hi->r x lo hi H Q ->
  ∃ T id,Ztr (.type T) "__getitem__" = pure (some (.builtin id))/\s.TypeIs v T/\Zhs (Zh2 X.prog X.w) X.A (Zrr v (.ref sl)) (EP X pins σ Q) X.xe s
noncomputable def tSl (r : V->Option Int->Option Int->Hp->VK->Prop) (te : TE) (tl th : TO) : TE:=fun σ H Q=>te σ H fun x H1=>tl σ H1 fun l H2=>th σ H2 fun u H3=>r x l u H3 Q
theorem zx1 {r : V->Option Int->Option Int->Hp->VK->Prop} (hr : SlR X r) (he : PE X e te) (hl : PO X lo tl) (hu : PO X hi th) : PE X (.Subscript e (.Slice lo hi none p2) pos) (tSl r te tl th):=by
 intro pins s σ H Q I h
 refine Ztz (thn (he pins s σ H _ I h) fun v s1 hz9=>?_)
 obtain ⟨x,H1,I1,r1,q1⟩:=hz9
 refine wpAny_Slice (thn (hl pins s1 σ H1 _ I1 q1) fun vl s2 ⟨l,H2,I2,pl,q2⟩=>thn (hu pins s2 σ H2 _ I2 q2) fun vu s3 hz9=>?_)
 obtain ⟨u,H3,I3,pu,q3⟩:=hz9
 rw [Zvy]
 refine Zhc ?_
 have I4 : Inv X pins σ H3 { s3 with heap:=s3.heap.push { cls:=.type "slice", data:=.fields #[vl,vu,.none] } }:=I3.kept (t':=s3.toks) fun b ob q=>Zg6 _ q
 obtain ⟨T,id,hT,ht,hg⟩:=hr pins { s3 with heap:=s3.heap.push { cls:=.type "slice", data:=.fields #[vl,vu,.none] } } σ H3 x v vl vu l u s3.heap.objs.size Q I4 r1 (Ztj ..) pl pu q3
 show Zhs (Zh2 X.prog X.w) X.A (Zro e (.Slice lo hi none p2) v (.ref s3.heap.objs.size)) (EP X pins σ Q) X.xe { s3 with heap:=s3.heap.push { cls:=.type "slice", data:=.fields #[vl,vu,.none] } }
 exact tail_any (ops:=[.ref s3.heap.objs.size,v]) ht hT hg (by with_unfolding_all rfl)
noncomputable def cutV (xs : List V) (lo hi : Option Int) : List V:=(xs.drop (HT.sIx xs.length 0 lo)).take (HT.sIx xs.length xs.length hi - HT.sIx xs.length 0 lo)
theorem zov (xs : List V) (lo hi : Option Int) : (cutV xs lo hi).length <= xs.length:=by
 unfold cutV
 rw [Zim,Zl1]
 omega
end
noncomputable def ixN (n : Nat) (i : Int) : Option Nat:=if 0 <= i then (if i < n then some i.toNat else none) else if -(n : Int) <= i then some (i + n).toNat else none
noncomputable def atI {α : Type} (xs : List α) (i : Int) : Option α:=(ixN xs.length i).bind fun j=>xs[j]?
theorem ybc {n : Nat} {i : Int} {j : Nat} (h : ixN n i = some j) : seqIndex? i n = some j/\j < n /\ -(n : Int) <= i/\i < n:=by
 unfold ixN at h
 by_cases h0 : 0 <= i
 ·rw [if_pos h0] at h
  by_cases h1 : i < n
  ·rw [if_pos h1] at h
   have e : i.toNat = j:=Zit h
   exact ⟨by rw [seqIndex_of h0 h1,e],by omega,by omega,h1⟩
  ·rw [if_neg h1] at h; cases h
 ·rw [if_neg h0] at h
  by_cases h1 : -(n : Int) <= i
  ·rw [if_pos h1] at h
   have e : (i + n).toNat = j:=Zit h
   exact ⟨by rw [seqIndex_neg (by omega) h1,e],by omega,h1,by omega⟩
  ·rw [if_neg h1] at h; cases h
theorem zv4 {α : Type} {xs : List α} {i : Int} {v : α} (h : atI xs i = some v) : ∃ j,seqIndex? i xs.length = some j/\xs[j]? = some v/\j < xs.length /\ -(xs.length : Int) <= i/\i < xs.length:=by
 unfold atI at h
 cases e : ixN xs.length i with
 | none=>rw [e] at h; cases h
 | some j =>
  rw [e] at h
  obtain ⟨h1,h2,h3,h4⟩:=ybc e
  exact ⟨j,h1,h,h2,h3,h4⟩
theorem zpo {α : Type} {xs : List α} {j : Nat} {v : α} (h : xs[j]? = some v) : atI xs (j : Int) = some v:=by
 have hj : j < xs.length:=(Zg7.mp h).1
 have e : ixN xs.length (j : Int) = some j:=by
  unfold ixN
  rw [if_pos (by omega),if_pos (by omega)]; simp
 unfold atI; rw [e]; exact h
noncomputable def yb9 (b : Expr) : Prop:=∀ o i,Zqs b false o i = operate [o,i] (Zrr o i)
noncomputable def IxR (X : Cx) (r : R2) : Prop :=
 ∀ (value slice : Expr) (pins : List (Addr × Obj)) (s : Zg5) (σ : St) (H : Hp) (x y : V) (v u : Value) (Q : VK),Inv X pins σ H s->RelV x v->RelV y u->r x y H Q ->
  Zqs slice false v u = operate [v,u] (Zrr v u)->Zhs (Zh2 X.prog X.w) X.A (Zro value slice v u) (EP X pins σ Q) X.xe s
noncomputable def MtR (X : Cx) (id : String) (r : V->List V->Hp->VK->Prop) : Prop :=
 ∀ (pins : List (Addr × Obj)) (s : Zg5) (σ : St) (H : Hp) (x : V) (xs : List V) (v : Value) (us : List Value) (Q : VK),Inv X pins σ H s->RelV x v->Vals xs us->r x xs H Q ->
  Zhs (Zh2 X.prog X.w) X.A (call (.builtin id) (v::us)) (EP X pins σ Q) X.xe s
section
variable {X : Cx} {a b : Expr} {ta tb : TE} {pos : Pos}
theorem zbs {r : R2} (hr : IxR X r) (ha : PE X a ta) (hb : PE X b tb) (hs : yb9 b) : PE X (.Subscript a b pos) (tOp r ta tb):=by
 intro pins s σ H Q I h
 exact Ztz (binT ha hb I h fun v u s2 x y H2 I2 rx ry q=>hr a b pins s2 σ H2 x y v u Q I2 rx ry q (hs _ _))
noncomputable def rIxL (K : Zgy) : R2:=fun x y H Q=>∃ p xs i v,x = .ref p/\y = .int i/\SqL K H p xs/\atI xs i = some v/\Q v H
noncomputable def rIxT (K : Zgy) : R2:=fun x y H Q=>∃ p xs i v,x = .ref p/\y = .int i/\SqT K H p xs/\atI xs i = some v/\Q v H
theorem zcv : IxR X (rIxL X.K):=by
 intro value slice pins s σ H x y v u Q I rx ry h hs
 obtain ⟨p,xs,i,z,rfl,rfl,hq,he,q⟩:=h
 cases rx
 obtain ⟨t,rfl⟩:=ry
 obtain ⟨its,r,pl,hz⟩:=I.list hq
 obtain ⟨j,h1,h2,h3,h4,h5⟩:=zv4 he
 obtain ⟨w,ew,rw'⟩:=r.get h2
 have hl:=r.length
 have hn:=zvw
 have fin : EP X pins σ Q w s:=⟨z,H,I,rw',q⟩
 by_cases h0 : 0 <= i
 ·have hj : i.toNat = j:=by
   rw [seqIndex_of h0 h5] at h1
   exact Zit h1
  exact item_listR pl.isList h0 (by omega) (by rw [hj]; simpa using ew) fin hs
 ·have hj : (i + (its.toArray.size : Int)).toNat = j:=by
   rw [seqIndex_neg (by omega) h4] at h1
   rw [Zhw,<- hl]
   exact Zit h1
  exact Zry (x:=w) pl.isList.typeIs slot_list_getitem.lookup
   (wpAny_getItem_list_neg (Q:=fun r s'=>r = w/\EP X pins σ Q r s') pl.isList (by omega) (by rw [Zhw] <;> omega) (by omega) (by rw [hj]; simpa using ew) ⟨rfl,fin⟩) hs
theorem zbz : IxR X (rIxT X.K):=by
 intro value slice pins s σ H x y v u Q I rx ry h hs
 obtain ⟨p,xs,i,z,rfl,rfl,hq,he,q⟩:=h
 cases rx
 obtain ⟨t,rfl⟩:=ry
 obtain ⟨its,r,pl,hz⟩:=I.tuple hq
 obtain ⟨j,h1,h2,h3,h4,h5⟩:=zv4 he
 obtain ⟨w,ew,rw'⟩:=r.get h2
 have hl:=r.length
 have hn:=zvw
 have fin : EP X pins σ Q w s:=⟨z,H,I,rw',q⟩
 exact Zry (x:=w) pl.typeIs slot_tuple_getitem.lookup
  (getItem_tuple (j:=j) (Q:=fun r s'=>r = w/\EP X pins σ Q r s') pl (by omega) (by omega) (by rw [Zhw,<- hl]; exact h1) (by simpa using ew) ⟨rfl,fin⟩) hs
theorem znb (lo hi : Option Int) (n : Nat) : (Zmz lo hi none n).1 = ((HT.sIx n 0 lo : Nat) : Int)/\(Zmz lo hi none n).2.1 = ((HT.sIx n n hi : Nat) : Int)/\(Zmz lo hi none n).2.2 = 1:=by
 refine ⟨?_,?_,rfl⟩
 ·cases lo with
  | none=>simp [Zmz,HT.sIx]
  | some i =>
   simp only [Zmz,HT.sIx,Zru,show (1 : Int) > 0 by decide,if_true]
   by_cases h : i < 0
   ·simp only [h,if_true] <;> omega
   ·simp only [h,if_false] <;> omega
 ·cases hi with
  | none=>simp [Zmz,HT.sIx]
  | some i =>
   simp only [Zmz,HT.sIx,Zru,show (1 : Int) > 0 by decide,if_true]
   by_cases h : i < 0
   ·simp only [h,if_true] <;> omega
   ·simp only [h,if_false] <;> omega
theorem zmq (its : List Value) (lo hi : Option Int) : slicePick its.toArray lo hi none = ((its.drop (HT.sIx its.length 0 lo)).take (HT.sIx its.length its.length hi - HT.sIx its.length 0 lo)).toArray:=by
 obtain ⟨h1,h2,h3⟩:=znb lo hi its.toArray.size
 unfold slicePick
 rw [h1,h2,h3]
 simp only [sliceRange_one,pick_run,Zhw] <;> rfl
noncomputable def rSlL (K : Zgy) : V->Option Int->Option Int->Hp->VK->Prop:=fun x lo hi H Q=>∃ a xs,x = .ref a/\SqL K H a xs /\ ∀ p,H p = none->Q (.ref p) (upd H p (.lst (cutV xs lo hi)))
theorem ya0 : SlR X (rSlL X.K):=by
 intro pins s σ H x v vl vu lo hi sl Q I rx hs pl pu h
 obtain ⟨a,xs,rfl,hx,q⟩:=h
 cases rx
 obtain ⟨its,r,ht,hz⟩:=I.list hx
 have hlen:=r.length
 refine ⟨"list", _,slot_list_getitem.lookup,ht.isList.typeIs,?_⟩
 refine wpAny_getItem_list_slice ht.isList hs pl pu .none (by simp) ?_ (by rw [Zhw] <;> omega)
 rw [zmq,<- hlen]
 refine ⟨.ref s.heap.objs.size,_,I.laid (t':=s.toks) (o:=.lst (cutV xs lo hi)) (fun b ob q=>Zg6 _ q) (Zha _) ?_,rfl,q _ (I.hok.fresh (Zha _))⟩
 exact ⟨Zh1 (zov xs lo hi) hz,_,0,(r.drop (HT.sIx xs.length 0 lo)).take (HT.sIx xs.length xs.length hi - HT.sIx xs.length 0 lo),Zho _ rfl⟩
theorem zbg : zcy X (.builtin "len") (fun xs H Q=>∃ p ys,xs = [.ref p]/\(SqL X.K H p ys \/ SqT X.K H p ys)/\Q (.int ys.length) H):=by
 intro pins s σ H xs us Q I r h
 obtain ⟨p,ys,rfl,hq,q⟩:=h
 obtain ⟨u,rfl,rx⟩:=zfs r
 cases rx
 have hn:=zvw
 rcases hq with hq | hq
 ·obtain ⟨its,r',pl,hz⟩:=I.list hq
  have hlen:=r'.length
  exact Calls.call_len_list pl.isList (by simp only [Zhw] <;> omega) ⟨.int ys.length,H,I.tok _,⟨s.toks + 1,by rw [Zhw,hlen]⟩,q⟩
 ·obtain ⟨its,r',pl,hz⟩:=I.tuple hq
  have hlen:=r'.length
  exact len_tuple pl (by simp only [Zhw] <;> omega) ⟨.int ys.length,H,I.tok _,⟨s.toks + 1,by rw [Zhw,hlen]⟩,q⟩
theorem zem : zcy X (.type "list") (fun xs H Q=>∃ p ys,xs = [.ref p]/\(SqL X.K H p ys \/ SqT X.K H p ys) /\ ∀ l,H l = none->Q (.ref l) (upd H l (.lst ys))):=by
 intro pins s σ H xs us Q I r h
 obtain ⟨p,ys,rfl,hq,q⟩:=h
 obtain ⟨u,rfl,rx⟩:=zfs r
 cases rx
 have fin : ∀ (its : List Value),Vals ys its->ys.length <= sizeLine -> ∀ (h' : Heap) (c' : Nat),(∀ b o',s.heap.get? b = some o'->h'.get? b = some o') ->
   h'.get? s.heap.objs.size = some { cls:=.type "list", dict:=none,data:=.seq its.toArray c',slots:=#[] }->EP X pins σ Q (.ref s.heap.objs.size) { s with heap:=h' }:=fun its r' hz h' c' kp e =>
  ⟨.ref s.heap.objs.size,_,I.laid (t':=s.toks) kp (Zha _) (show zc9 X.prog X.w _ h' _ (.lst ys) from ⟨hz,its,c',r',e⟩),rfl,q _ (I.hok.fresh (Zha _))⟩
 rcases hq with hq | hq
 ·obtain ⟨its,r',pl,hz⟩:=I.list hq
  have hlen:=r'.length
  obtain ⟨o,ho,hc,n,hd⟩:=pl.isList
  exact Zv1 p (.inl rfl) ho hc hd (fun h' c' kp e=>fin its r' hz h' c' kp e) (by simp only [Zhw] <;> omega)
 ·obtain ⟨its,r',pl,hz⟩:=I.tuple hq
  have hlen:=r'.length
  obtain ⟨o,ho,hc,n,hd⟩:=pl
  exact Zv1 p (.inr rfl) ho hc hd (fun h' c' kp e=>fin its r' hz h' c' kp e) (by simp only [Zhw] <;> omega)
noncomputable def tyV (K : Zgy) (T : String) (x : V) (H : Hp) : Prop:=match x with
 | .str _=>T = "str"
 | .int _=>T = "int"
 | .ref p=>(T = "list" /\ ∃ xs,SqL K H p xs) \/ (T = "tuple" /\ ∃ o,K.lookup p = some o/\o.cls = .type "tuple" /\ o.dict = none) \/
   (T = "dict" /\ ((∃ kvs,H p = some (.dK kvs)) \/ ∃ kvs,H p = some (.dT kvs))) \/ (T = "set" /\ ∃ S n,H p = some (.set S n))
 | _=>False
theorem zz7 {pins : List (Addr × Obj)} {σ : St} {H : Hp} {s : Zg5} {T : String} {x : V} {v : Value} (I : Inv X pins σ H s) (r : RelV x v) (ty : tyV X.K T x H) :
  s.TypeIs v T /\ ∀ a,v = .ref a -> ∃ ob,s.heap.get? a = some ob/\ob.dict = none:=by
 cases x with
 | str z =>
  obtain ⟨t,rfl⟩:=r
  cases (show T = "str" from ty)
  exact ⟨Zts s z t,fun _ e=>nomatch e⟩
 | int i =>
  obtain ⟨t,rfl⟩:=r
  cases (show T = "int" from ty)
  exact ⟨Zpo s i t,fun _ e=>nomatch e⟩
 | ref p =>
  cases r
  rcases ty with ⟨rfl,xs,hq⟩ | ⟨rfl,o,hk,hc,hd⟩ | ⟨rfl,hk⟩ | ⟨rfl,S,n,hk⟩
  ·obtain ⟨its,_,pl,_⟩:=I.list hq
   refine ⟨pl.isList.typeIs,fun a e=>?_⟩
   cases e
   obtain ⟨o,n,e,c,hd,_⟩:=pl
   exact ⟨o,e,hd⟩
  ·refine ⟨⟨o,I.kIn p o hk,hc⟩,fun a e=>?_⟩
   cases e
   exact ⟨o,I.kIn _ o hk,hd⟩
  ·have z : ∃ o,s.heap.get? p = some o/\o.ExactDict:=by
    rcases hk with ⟨kvs,hk⟩ | ⟨kvs,hk⟩
    ·obtain ⟨_,_,_,_,o,_,_,e,ex,_⟩:=I.hok p _ hk
     exact ⟨o,e,ex⟩
    ·obtain ⟨_,_,_,_,o,_,_,e,ex,_⟩:=I.hok p _ hk
     exact ⟨o,e,ex⟩
   obtain ⟨o,e,ex⟩:=z
   refine ⟨⟨o,e,ex.1⟩,fun a e2=>?_⟩
   cases e2
   exact ⟨o,e,ex.2.1⟩
  ·obtain ⟨o,_,_,_,e,ex,_⟩:=I.hok p _ hk
   refine ⟨⟨o,e,ex.1⟩,fun a e2=>?_⟩
   cases e2
   exact ⟨o,e,ex.2.1⟩
 | _=>exact Zjc ty
noncomputable def tBM0 (K : Zgy) (T : String) (r : V->List V->Hp->VK->Prop) (to : TE) : TE:=fun σ H Q=>to σ H fun x H1=>tyV K T x H1/\r x [] H1 Q
noncomputable def tBM (K : Zgy) (T : String) (r : V->List V->Hp->VK->Prop) (to : TE) (t : TA) : TE:=fun σ H Q=>to σ H fun x H1=>tyV K T x H1/\t σ H1 fun xs H2=>r x xs H2 Q
variable {o e : Expr} {es : List Expr} {to : TE} {t : TA} {name : Str} {apos cpos : Pos} {T id : String} {r : V->List V->Hp->VK->Prop}
theorem zun (pa : PlainAttrs T) (slot : Slot T name id) (hty : typeOf (.builtin id) = pure (.type "method_descriptor")) (hm : MtR X id r) (ho : PE X o to)
  (hbase : Zls o name X.env (eval o X.env) = eval o X.env:=by rfl) (hline : (apos.endLine == cpos.line) = true:=by rfl) : PE X (.Call (.Attribute o name apos) [] [] cpos) (tBM0 X.K T r to):=by
 intro pins s σ H Q I h
 refine Zrn hbase hline (thn (ho pins s σ H _ I h) fun v s1 hz9=>?_)
 obtain ⟨x,H1,I1,r1,ty,q1⟩:=hz9
 obtain ⟨h1,h2⟩:=zz7 I1 r1 ty
 exact ⟨T,id,pa,slot,hty,h1,h2,Zj1 rfl (Zq8 (hm pins s1 σ H1 x [] v [] Q I1 r1 .nil q1))⟩
theorem zf6 (pa : PlainAttrs T) (slot : Slot T name id) (hty : typeOf (.builtin id) = pure (.type "method_descriptor")) (hm : MtR X id r) (ho : PE X o to) (ha : PA X (e::es) t)
  (hbase : Zls o name X.env (eval o X.env) = eval o X.env:=by rfl)
  (hfew : ((Zmf cpos (Zic (e::es) X.env)).all (fun x=>!x.1) && (Zpa cpos (Zm1 [] X.env)).all (fun x=>x.1.isSome)
   && decide ((e::es).length + ([] : List Zpy).length + (if ([] : List Zpy).isEmpty then 0 else 1) < 30)) = true:=by rfl)
  (hline : (apos.endLine == cpos.line) = true:=by rfl) (hs : Zic (e::es) X.env = (false,eval e X.env)::Zic es X.env:=by rfl) (hplain : (Zmf cpos (Zic es X.env)).any (·.1) = false:=by rfl) :
  PE X (.Call (.Attribute o name apos) (e::es) [] cpos) (tBM X.K T r to t):=by
 intro pins s σ H Q I h
 refine wpAny_Call_method_late hbase hfew hline rfl (thn (ho pins s σ H _ I h) fun v s1 hz9=>?_)
 obtain ⟨x,H1,I1,r1,ty,q1⟩:=hz9
 obtain ⟨h1,h2⟩:=zz7 I1 r1 ty
 refine ⟨T,id,pa,slot,hty,h1,h2,?_⟩
 have hA:=ha cpos pins s1 σ H1 _ I1 q1
 rw [hs] at hA ⊢
 refine Zj1 (by show (false || (Zmf cpos (Zic es X.env)).any (·.1)) = false; rw [hplain] <;> rfl) (Zl4 ?_)
 refine thn hA fun us s2 hz9=>?_
 obtain ⟨vs,H2,I2,r2,q2⟩:=hz9
 exact hm pins s2 σ H2 x vs v us Q I2 r1 r2 q2
end
noncomputable def MtM (X : Cx) (id : String) (r : V->List V->Hp->VK->Prop) : Prop :=
 ∀ (pins : List (Addr × Obj)) (s : Zg5) (σ : St) (H : Hp) (x : V) (xs : List V) (v : Value) (us : List Value) (Q : VK),Inv X pins σ H s->RelV x v->Vals xs us->r x xs H Q ->
  Zhs (Zh2 X.prog X.w) X.A (call (.builtin id) (v::us)) (EP X pins σ Q) X.xe s
theorem Vals.one : ∀ {x : V} {us : List Value},Vals [x] us -> ∃ u,us = [u]/\RelV x u
 | _,_,.cons r .nil=>⟨_,rfl,r⟩
theorem Vals.zero : ∀ {us : List Value},Vals [] us->us = []
 | _,.nil=>rfl
theorem Vals.dropLast {xs : List V} {us : List Value} (h : Vals xs us) : Vals xs.dropLast us.dropLast:=by
 induction h with
 | nil=>exact .nil
 | cons r t ih =>
  cases t with
  | nil=>exact .nil
  | cons q t'=>exact .cons r ih
theorem zsj {α : Type} (l : List α) : l.eraseIdx (l.length - 1) = l.dropLast:=by
 induction l with
 | nil=>rfl
 | cons a r ih =>
  cases r with
  | nil=>rfl
  | cons b r =>
   have e : (a::b::r).length - 1 = ((b::r).length - 1) + 1:=by
    have h1 : (a::b::r).length = r.length + 2:=rfl
    have h2 : (b::r).length = r.length + 1:=rfl
    omega
   rw [e,List.eraseIdx_cons_succ,ih]
   all_goals rfl
section
variable {X : Cx} {pins : List (Addr × Obj)} {σ : St} {H : Hp} {s : Zg5} {l b : Addr} {xs ys zs : List V}
theorem Inv.lset {its its' : List Value} {n : Nat} {f : Array Value->Array Value} {t' : Nat} (I : Inv X pins σ H s) (hH : H l = some (.lst xs))
  (e : s.heap.get? l = some { cls:=.type "list", data:=.seq its.toArray n }) (hf : f its.toArray = its'.toArray) (hv : Vals ys its') (hz : ys.length <= sizeLine) :
  Inv X pins σ (upd H l (.lst ys)) { s with heap:=s.heap.update l (Zj0 f),toks:=t' }:=by
 have q:=Zv7 e f
 rw [hf] at q
 refine I.write (x:=l) (e:=l) (by rw [hH]; exact trivial) (.inl rfl) (fun b' u hb hu=>(Zlm s.heap (Zj0 f) (Zif hb)).trans hu) ⟨_,q⟩ ?_
 exact ⟨hz,its',_,hv,q⟩
theorem Inv.lnew {its : List Value} {t' : Nat} (I : Inv X pins σ H s) (hv : Vals ys its) (hz : ys.length <= sizeLine) :
  Inv X pins σ (upd H s.heap.objs.size (.lst ys)) { s with heap:=s.heap.push { cls:=.type "list", data:=.seq its.toArray },toks:=t' } :=
 I.laid (fun _ _ q=>Zg6 _ q) (Zha _) ⟨hz,its,0,hv,Zho _ rfl⟩
theorem Inv.fresh (I : Inv X pins σ H s) : H s.heap.objs.size = none:=I.hok.fresh (Zha _)
theorem Inv.lstM (I : Inv X pins σ H s) (hH : H l = some (.lst xs)) : xs.length <= sizeLine /\ ∃ (its : List Value) (n : Nat),Vals xs its/\xs.length = its.length/\s.heap.get? l = some { cls:=.type "list", data:=.seq its.toArray n }:=by
 obtain ⟨z,its,n,r,e⟩:=I.hok l _ hH
 exact ⟨z,its,n,r,r.length,e⟩
theorem zxs {n : Nat} (h : n <= sizeLine) : Zmb n = false:=by
 unfold Zmb
 exact decide_eq_false (by omega)
end
section
variable {X : Cx}
noncomputable def zpd : V->List V->Hp->VK->Prop:=fun x vs H Q=>∃ l xs y,x = .ref l/\vs = [y]/\H l = some (.lst xs)/\xs.length < sizeLine/\Q .non (upd H l (.lst (xs++[y])))
theorem zcd : MtM X "list.append" zpd:=by
 intro pins s σ H x vs v us Q I rx rv h
 obtain ⟨l,xs,y,rfl,rfl,hH,hz,q⟩:=h
 cases rx
 obtain ⟨u,rfl,ru⟩:=rv.one
 obtain ⟨z,its,n,r,hl,e⟩:=I.lstM hH
 refine Zrd Zi0 ⟨_,e,rfl⟩ F.entry_list_append (F.args_list_append_2 _ _) (PySem.list_append l its.toArray n u (by rw [Zhw]; omega)) ⟨e,?_⟩
 refine ⟨.non,_,I.lset (its':=its++[u]) hH e (by simp) (r.append (.cons ru .nil)) ?_,rfl,q⟩
 rw [Zhg,Zlw]
 omega
noncomputable def zwt : V->List V->Hp->VK->Prop:=fun x vs H Q=>∃ l b xs zs,x = .ref l/\vs = [.ref b]/\H l = some (.lst xs)/\H b = some (.lst zs)/\xs.length + zs.length <= sizeLine/\Q .non (upd H l (.lst (xs++zs)))
theorem ztq : MtM X "list.extend" zwt:=by
 intro pins s σ H x vs v us Q I rx rv h
 obtain ⟨l,b,xs,zs,rfl,rfl,hH,hB,hz,q⟩:=h
 cases rx
 obtain ⟨u,rfl,ru⟩:=rv.one
 cases ru
 obtain ⟨z,its,n,r,hl,e⟩:=I.lstM hH
 obtain ⟨z2,its2,n2,r2,hl2,e2⟩:=I.lstM hB
 have hsz : its.toArray.size + its2.toArray.size <= sizeLine:=by rw [Zhw,Zhw]; omega
 have hlong : ¬ (!its.toArray.isEmpty && Zmb (its.toArray.size + its2.toArray.size)) = true:=by
  rw [zxs hsz,Zlt]
  exact Zhx
 refine Zrd Zsu ⟨_,e,rfl⟩ F.entry_list_extend (F.args_list_extend_2 _ _)
  (AutoSeq1.list_extend_list_list_0 l its.toArray n b its2.toArray n2 hlong (by rw [Zhw]; omega) (by omega)) ⟨e,e2,?_⟩
 refine ⟨.non,_,I.lset (its':=its++its2) hH e (by simp) (r.append r2) ?_,rfl,q⟩
 rw [Zhg]
 omega
noncomputable def rPop : V->List V->Hp->VK->Prop:=fun x vs H Q=>∃ l xs y,x = .ref l/\vs = []/\H l = some (.lst xs)/\xs[xs.length - 1]? = some y/\Q y (upd H l (.lst xs.dropLast))
theorem zzy : MtM X "list.pop" rPop:=by
 intro pins s σ H x vs v us Q I rx rv h
 obtain ⟨l,xs,y,rfl,rfl,hH,hy,q⟩:=h
 cases rx
 have hus:=rv.zero
 subst hus
 obtain ⟨z,its,n,r,hl,e⟩:=I.lstM hH
 obtain ⟨u,hu,ru⟩:=r.get hy
 have hy' : its.toArray[its.toArray.size - 1]? = some u:=by
  show its.toArray[its.length - 1]? = some u
  rw [<- Zqz,<- hl]
  exact hu
 refine Zrd Zqi ⟨_,e,rfl⟩ F.entry_list_pop (F.args_list_pop_1 _) (MeetsSeq.list_pop_last l its.toArray n u hy' (by rw [Zhw]; omega)) ⟨e,?_⟩
 refine ⟨y,_,I.lset (its':=its.dropLast) hH e ?_ r.dropLast ?_,ru,q⟩
 ·show its.toArray.eraseIdxIfInBounds (its.toArray.size - 1) = its.dropLast.toArray
  rw [Zhw,List.eraseIdxIfInBounds_toArray,zsj]
 ·rw [List.length_dropLast]
  omega
end
end L2
namespace Att
open PySem PySem.W PySem.Calls PyProof.Rows
theorem zkz {P : Params} {h : Heap} : ∀ (ns : List Int) (vs : List Value),WellAll P h vs (ns.map WData.int)->Zqx vs ns:=by
 intro ns
 induction ns with
 | nil =>
  intro vs w
  rw [Zla] at w
  cases w
  exact .nil
 | cons n ns ih =>
  intro vs w
  rw [Zhi] at w
  cases w with
  | cons a b =>
   cases a
   exact .cons _ _ (ih _ b)
theorem zuz {l : OpenLaw} {n : Nat} (hn : l.most = some n) {P : Params} {h : Heap} {args : List WData} {vals : List Value}
  (hpre : l.row.toRowW.claim.pre args = true) (hwl : WellAll P h vals args) :
  ∃ a vs ns,vals = [Zh4 a]/\args = [WData.list (ns.map WData.int)]/\h.get? a = some { cls:=.type "list", data:=.seq vs.toArray }/\Zqx vs ns/\ns.length <= n:=by
 have hsh : WShape.hasAll [] args [.list .int] = true:=(pre_splitW hpre).1
 have hc : l.pre.holds [] { args:=args } = true:=(pre_splitW hpre).2
 obtain ⟨d,r,rfl,h1,h2⟩:=hasAllW_cons hsh
 obtain rfl:=hasAllW_nil h2
 obtain ⟨xs,rfl,h3⟩:=hasW_list h1
 obtain ⟨ns,rfl⟩:=items_int h3
 have hlen : ns.length <= n:=by
  unfold OpenLaw.pre at hc
  have h4 : (WTm.not (.lt (.lit (.int (n : Int))) (.len (.arg 0)))).holds [] { args:=[.list (ns.map .int)] } = true:=by
   have h4:=(holds_andW hc).1
   rw [hn] at h4
   exact h4
  have h5:=condW_of h4 (w_not (w_lt w_lit (w_len_list (w_arg rfl))))
  rw [Zg2] at h5
  refine Nat.le_of_not_lt fun q=>?_
  have q' : (n : Int) < ((ns.length : Nat) : Int):=by omega
  first
   | (rw [decide_eq_true q'] at h5; exact absurd h5 (by decide))
   | (simp at h5; omega)
 cases hwl with
 | cons w1 w2 =>
  cases w2
  cases w1 with
  | list ho hall=>exact ⟨_,_,ns,rfl,rfl,ho,zkz ns _ hall,hlen⟩
theorem zwb (l : OpenLaw) (args : List WData) : l.row.toRowW.claim.post args (.bool true) args = true :=
 postW_of (r:=l.row.toRowW) (X:=(true == true))
  (show WShape.has [] (.bool true) .bool = true by first | rfl | decide | simp [WShape.has,WShape.arms,WShape.armsAll])
  (show (WTm.eq .res (.lit (.bool true))).value [] { args:=args,res:=some (.bool true),after:=args } = some (.bool (true == true)) from w_eq_bool (w_res rfl) w_lit) rfl
theorem attach_call {l : OpenLaw} {n : Nat} {q : Zhz} {loose : List Str} {XP : (Str->Option Value)->Heap->Prop} {YP : Zix->Heap->Prop} {d : DefRec}
  (hn : l.most = some n) (hdf : d.params.defaults = [])
  (call : ∀ (w : Zix) (s₀ s₁ : Zg5) (mg mb : Str->Option Value) (fa : Addr) (o : Obj) (pm cd doc : Value) (a : Addr) (vs : List Value) (ns : List Int),
   Ground q loose [] XP w s₀ mg mb s₁.heap->YP w s₁.heap ->
   s₁.heap.get? fa = some o->o.data = .func (docDef d.name d.params d.body d.scope pm cd doc)->s₁.heap.CodeRec cd d.name->mg d.name = some (.ref fa) ->
   s₁.heap.get? a = some { cls:=.type "list", data:=.seq vs.toArray }->Zqx vs ns->ns.length <= n->s₁.gens = #[] ->
   Znm (Zh2 l.prog w) Zqu (.call (.ref fa) ⟨[.ref a],[]⟩) (fun r s'=>r = .ok (.ret (.bool true))/\OldK s₁.heap s'.heap/\s'.os = s₁.os/\Zob s'.gens) s₁) :
  WalkO q loose XP YP l.row.toRowW d [] (fun f vs=>Zrs f vs):=by
 intro w s₀ s₁ mg mb G Y fa o pm cd doc dV kV ho hd hcd hD hmg hg args vals as hpre hlay hrd hwl hlo
 obtain rfl : dV = .none:=Dflts.none hD hdf
 obtain rfl : kV = .none:=Dflts.noKw hD
 obtain ⟨a,vs,ns,rfl,rfl,hobj,hints,hlen⟩:=zuz hn hpre hwl
 refine enter_call (Zn7 (call w s₀ s₁ mg mb fa o pm cd doc a vs ns G Y ho (fd_plain hd) hcd hmg hobj hints hlen hg) fun r s' hq=>?_)
 obtain ⟨rfl,h2,h3,h4⟩:=hq
 exact ⟨.inl ⟨.bool true,.bool true,[],rfl,fun _=>rfl,.bool true,zwb l _,fun _=>⟨Zub,fun _ hm=>(nomatch hm)⟩⟩,h2,h3,h4⟩
section
variable {prog : Zhz} {w : Zix} {A : Zh3} {E : Value->Zg5->Prop} {s : Zg5} {K : Frag}
end
end Att
namespace L2
open PySem PySem.Spec PyProof.Rows
theorem zom : ∀ {vs : List Value} {ns : List Int},Zqx vs ns->Vals (ns.map V.int) vs
 | _,_,.nil=>.nil
 | _,_,.cons n t h=>.cons ⟨t,rfl⟩ (zom h)
noncomputable def zdf (s : Stmt) : Zq1:=match s with
 | .FunctionDef _ a _ _ _ _ _ _ _ _=>a
 | _=>{ posonlyargs:=[],args:=[],vararg:=none,kwonlyargs:=[],kw_defaults:=[],kwarg:=none,defaults:=[] }
noncomputable def zbf (s : Stmt) : List Stmt:=match s with
 | .FunctionDef _ _ b _ _ _ _ _ _ _=>b
 | _=>[]
noncomputable def zag (s : Stmt) : Scope:=match s with
 | .FunctionDef _ _ _ _ _ _ sc _ _ _=>sc
 | _=>{ kind:=.function,names:=[],isGenerator:=false,isCoroutine:=false }
noncomputable abbrev CX0 : CXT:=fun _ _ _ _ _ _=>False
noncomputable abbrev E0 : XK:=fun _ _ _=>False
theorem yef {X : Cx} : zqe CX0 X E0:=fun _ _ _ _ _ _ _ h=>h.elim
structure Fun (K : Zgy) (x qual : Str) (st : Stmt) (f : Addr) (fd : Zjq) : Prop where
 ex : ∃ (oc : Value) (od : Option Addr) (kV doc pm : Value) (an : Option Addr) (cdv ct : Value) (osl : Array (Option Value)),
  fd = Zi8 x qual (zdf st) (zbf st) (zag st) .none kV doc pm an cdv ct/\K.lookup f = some ⟨oc,od,.func fd,osl⟩/\Znj K cdv qual = true
 kp : Zj7 K (.ref f) = true
section
variable {P : Zhz} {w : Zix} {K : Zgy} {mg : Str->Option Value} {base : Heap}
theorem Fun.ok {x qual : Str} {st : Stmt} {f : Addr} {fd : Zjq} {N ps : List Str} {k : Nat} {sp : Sp} (F : Fun K x qual st f fd) (S : FnScope N ps (zag st)) (len : ∀ vs H Q E,sp vs H Q E->vs.length = ps.length)
  (hbody : ∀ (cdv : Value) (A : Zh3) (outer : List Env) (s : Zg5) (H : Hp) (vs : List V) (Q : VK) (E : XK),Room k (A.deeper (Zlj qual (zag st) s.heap.objs.size f cdv))->sp vs H Q E ->
   ∃ t,PSs (cxOf CX0 P w K mg base N qual (zag st) f cdv A outer s H E).nox (zbf st) t/\t { nx:=fun _ H'=>Q .non H',rt:=Q } (zei N vs) H) : FnOk P w K mg base CX0 (k + 1) f fd ps sp:=by
 obtain ⟨oc,od,kV,doc,pm,an,cdv,ct,osl,rfl,lk,hcd⟩:=F.ex
 refine yde lk hcd S len fun A outer s H vs Q E hr hsp=>?_
 obtain ⟨t,h,q⟩:=hbody cdv A outer s H vs Q E hr hsp
 exact ⟨t,h.nox,q⟩
theorem Fun.binds {x qual : Str} {st : Stmt} {f : Addr} {fd : Zjq} {ps : List Str} (F : Fun K x qual st f fd)
  (h : ∀ (kV doc pm : Value) (an : Option Addr) (cdv ct : Value) (us : List Value),us.length = ps.length->Zmu (Zi8 x qual (zdf st) (zbf st) (zag st) .none kV doc pm an cdv ct) ⟨us,[]⟩ = pure (ps.zip us)) : zk6 K fd ps []:=by
 obtain ⟨oc,od,kV,doc,pm,an,cdv,ct,osl,rfl,lk,hcd⟩:=F.ex
 exact .all (h kV doc pm an cdv ct)
theorem fun_mk {x qual : Str} {st : Stmt} {f : Addr} {oc : Value} {od an : Option Addr} {osl : Array (Option Value)} {kV doc pm cdv ct : Value} (l : K.lookup f = some ⟨oc,od,.func (Zi8 x qual (zdf st) (zbf st) (zag st) .none kV doc pm an cdv ct),osl⟩)
  (c : Znj K cdv qual = true) (k : Zj7 K (.ref f) = true) : Fun K x qual st f (Zi8 x qual (zdf st) (zbf st) (zag st) .none kV doc pm an cdv ct):=⟨⟨oc,od,kV,doc,pm,an,cdv,ct,osl,rfl,l,c⟩,k⟩
end
theorem zbw {A : Zh3} {k : Nat} (hr : Room k A) : A.units + 1 < Znn:=Nat.lt_of_le_of_lt (Nat.add_le_add_left (by decide : 1 <= 64) _) hr.units
section
variable {X : Cx}
theorem pv (i : Nat) {x : Str} {pos : Pos} (hN : X.N[i]? = some x:=by rfl) (hv : Vis X.env.scope x:=by first | exact Zko rfl | exact Ztd (Zko rfl) | exact Ztd (Ztd rfl)) (hd : (x == ("__debug__" : Str)) = false:=by decide)
  (hcd : (x == ("__classdict__" : Str)) = false:=by decide) : PE X (.Name x pos) (tVar i):=yfe hN hv hd hcd
end
theorem iteF {A B : Prop} (h : B) : if false = true then A else B:=by
 rw [if_neg Zhx]
 exact h
theorem iteT {A B : Prop} (h : A) : if true = true then A else B:=by
 rw [if_pos rfl]
 exact h
noncomputable def Same (H H' : Hp) : Prop:=∀ b o,H b = some o->H' b = some o
theorem Same.refl (H : Hp) : Same H H:=fun _ _ h=>h
theorem Same.trans {H H1 H2 : Hp} (a : Same H H1) (b : Same H1 H2) : Same H H2:=fun c o h=>b c o (a c o h)
theorem Same.free {H H' : Hp} (e : Same H H') {l : Addr} (h : H' l = Zte) : H l = Zte:=by
 cases q : H l with
 | none=>rfl
 | some o =>
  rw [e l o q] at h
  cases h
theorem Same.seq {K : Zgy} {H H' : Hp} {a : Addr} {xs : List V} (e : Same H H') (h : SqL K H a xs) : SqL K H' a xs:=by
 rcases h with (h | ⟨o,h⟩) | h
 ·exact .inl (.inl (e _ _ h))
 ·exact .inl (.inr ⟨o,e _ _ h⟩)
 ·exact .inr h
end L2
namespace L2
open PySem PySem.Spec PyProof.Rows PySem.Builtin PySem.Builtin.Str
noncomputable def T (l : List Nat) : Str:=⟨l.toArray⟩
theorem yer (l : List Nat) : (T l).cps.toList = l:=by simp [T]
theorem ztw {a b : List Nat} : T a = T b ↔ a = b:=by
 constructor
 ·intro h
  have:=congrArg (fun x : Str=>x.cps.toList) h
  simpa [T] using this
 ·rintro rfl; rfl
theorem zxq (a b : List Nat) : decide ((V.str (T a)) = V.str (T b)) = decide (a = b):=by
 by_cases h : a = b
 ·subst h; simp
 ·rw [decide_eq_false h,decide_eq_false]
  intro q; injection q with q; exact h (ztw.mp q)
end L2
namespace L2
open PySem PySem.Spec PyProof.Rows
noncomputable def clos (cells : List (Str × Addr)) : List (Str × Zie)->List (Str × Addr)->List (Str × Addr)
 | [],acc=>acc
 | (n,k)::r,acc=>if k == .free then (match cells.lookup n with | some c=>clos cells r ((n,c)::acc) | none=>clos cells r acc) else clos cells r acc
theorem zjp {cells : List (Str × Addr)} : ∀ (names : List (Str × Zie)) (acc : List (Str × Addr)),(∀ x c,acc.lookup x = some c->cells.lookup x = some c) -> ∀ x c,(clos cells names acc).lookup x = some c->cells.lookup x = some c
 | [],_,h=>h
 | (n,k)::r,acc,h=>by
  intro x c
  unfold clos
  split
  ·cases e : cells.lookup n with
   | none=>exact zjp r acc h x c
   | some d =>
    refine zjp r _ (fun y z hy=>?_) x c
    rw [Zi3] at hy
    cases q : y == n with
    | true =>
     rw [q] at hy
     have : y = n:=by simpa using q
     subst this
     simpa [e] using hy
    | false=>rw [q] at hy; exact h y z hy
  ·exact zjp r acc h x c
theorem zje {cells : List (Str × Addr)} : ∀ (names : List (Str × Zie)) (acc : List (Str × Addr)) (x : Str),(acc.lookup x).isSome = true->((clos cells names acc).lookup x).isSome = true
 | [],_,_,h=>h
 | (n,k)::r,acc,x,h=>by
  unfold clos
  split
  ·cases e : cells.lookup n with
   | none=>exact zje r acc x h
   | some d =>
    refine zje r _ x ?_
    rw [Zi3]
    cases q : x == n with
    | true=>rfl
    | false=>exact h
  ·exact zje r acc x h
theorem zjo {cells : List (Str × Addr)} : ∀ (names : List (Str × Zie)) (acc : List (Str × Addr)) (x : Str),(x,Zh9)∈names->(cells.lookup x).isSome = true->((clos cells names acc).lookup x).isSome = true
 | (n,k)::r,acc,x,hm,hs=>by
  unfold clos
  rcases Zhp.mp hm with e | hm
  ·cases e
   simp only [beq_self_eq_true,if_true]
   obtain ⟨c,hc⟩:=Ziy.mp hs
   rw [hc]
   refine zje r _ _ ?_
   simp [Zi3]
  ·split
   ·cases e : cells.lookup n with
    | none=>exact zjo r acc x hm hs
    | some d=>exact zjo r _ x hm hs
   ·exact zjo r acc x hm hs
theorem zr3 {scope : Scope} {env : Env} (h : ∀ x,(x,Zh9)∈scope.names->(env.cells.lookup x).isSome = true) : Zod scope env = pure (clos env.cells scope.names []):=by
 have gen : ∀ (names : List (Str × Zie)) (acc : List (Str × Addr)),(∀ x,(x,Zh9)∈names->(env.cells.lookup x).isSome = true) ->
   (forIn names acc (fun (p : Str × Zie) (r : List (Str × Addr))=>(if p.2 == Zh9 then (do let c <- Zs7 env p.1; pure (Zkb ((p.1,c)::r))) else pure (Zkb r) : Sem (ForInStep (List (Str × Addr)))))) = pure (clos env.cells names acc):=by
  intro names
  induction names with
  | nil=>intro acc _; rfl
  | cons p r ih =>
   obtain ⟨n,k⟩:=p
   intro acc hh
   rw [Zpk]
   unfold clos
   cases hk : k == Zh9 with
   | false =>
    simp only [hk,Zlf,if_false]
    exact ih acc fun x hx=>hh x (Zhd _ hx)
   | true =>
    have hk' : k = .free:=by simpa using hk
    subst hk'
    obtain ⟨c,hc⟩:=Ziy.mp (hh n Zhl)
    have e : Zs7 env n = pure c:=by unfold Zs7; rw [hc]
    simp only [beq_self_eq_true,if_true,e,hc]
    exact ih _ fun x hx=>hh x (Zhd _ hx)
 exact (congrArg (fun (m : Sem (List (Str × Addr)))=>m >>= fun cs=>pure cs) (gen scope.names [] h)).trans rfl
noncomputable def lcS (nt : Nat) (cs : List Nat) (σ : St) : St:=Znx nt none++cs.map fun i=>(σ[i]?).getD none
noncomputable def lcCx (X : Cx) (N' : List Str) (scope : Scope) (s : Zg5) (H : Hp) (C : Addr) (fp : List Addr) : Cx :=
 { X with N:=N',s₀:=s,H₀:=H,env:=Zv0 scope (clos X.env.cells scope.names []) C X.env,outer:=X.stack,stack:=X.stack,ex:=fp,fn:=fun _=>false,pn:=[],xe:=fun _ _=>False }
noncomputable def lcOk (Nx : List Str) (sc scope : Scope) (N' : List Str) (nt : Nat) (cs : List Nat) : Bool :=
 decide (scope.kind = .function) && (scope.names.all fun p=>match p.2 with
  | .cell=>false
  | .local=>decide (scope.names.lookup p.1 = some .local)
  | .free=>decide (sc.names.lookup p.1 = some .cell) || decide (sc.names.lookup p.1 = some .free)
  | _=>true) && decide (N'.length = nt + cs.length) && (((N'.drop nt).zip cs).all fun p=>decide (Nx[p.2]? = some p.1) && decide (scope.names.lookup p.1 = some .free) && (decide (sc.names.lookup p.1 = some .cell) || decide (sc.names.lookup p.1 = some .free)))
structure LcOk (X : Cx) (scope : Scope) (N' : List Str) (nt : Nat) (cs : List Nat) : Prop where
 kind : scope.kind = .function
 nocell : ∀ y∈scope.names,y.2 ≠ .cell
 loc : ∀ y∈scope.names,y.2 = .local->scope.names.lookup y.1 = some .local
 fr : ∀ x,(x,Zh9)∈scope.names->X.env.kindOf x = some .cell \/ X.env.kindOf x = some .free
 len : N'.length = nt + cs.length
 cap : ∀ j i,cs[j]? = some i -> ∃ x,N'[nt + j]? = some x/\X.N[i]? = some x/\scope.names.lookup x = some .free/\Vis X.env.scope x/\X.env.kindOf x≠some .local
theorem LcOk.of {X : Cx} {scope : Scope} {N' : List Str} {nt : Nat} {cs : List Nat} {Nx : List Str} {sc : Scope} (hN : X.N = Nx) (hs : X.env.scope = sc) (h : lcOk Nx sc scope N' nt cs = true) : LcOk X scope N' nt cs:=by
 subst hN hs
 unfold lcOk at h
 simp only [Zhq,decide_eq_true_eq,Zir] at h
 obtain ⟨⟨⟨h1,h2⟩,h3⟩,h4⟩:=h
 refine ⟨h1,fun y hy e=>?_,fun y hy e=>?_,fun x hx=>?_,h3,fun j i e=>?_⟩
 ·have:=h2 y hy; rw [e] at this; exact Zhx this
 ·have:=h2 y hy; rw [e] at this; exact of_decide_eq_true this
 ·have:=h2 _ hx
  simp only [Zmo,decide_eq_true_eq] at this
  exact this
 ·have hj : j < cs.length:=(Zg7.mp e).1
  have hd : (N'.drop nt).length = cs.length:=by rw [Zl1,h3]; lia
  have hx : (N'.drop nt)[j]? = some ((N'.drop nt)[j]'(by lia)):=by simp [hd,hj]
  generalize (N'.drop nt)[j]'(by lia) = x at hx
  have hz : (x,i)∈(N'.drop nt).zip cs:=by
   refine Zhb (i:=j) ?_
   rw [List.getElem?_zip_eq_some]
   exact ⟨hx,e⟩
  have q:=h4 _ hz
  simp only [Zhq,Zmo,decide_eq_true_eq] at q
  refine ⟨x,by rw [Zoi] at hx; exact hx,q.1.1,q.1.2,?_,fun z=>?_⟩
  ·exact q.2.elim (fun z=>.inr (.inl z)) fun z=>.inr (.inr z)
  ·have z' : X.env.scope.names.lookup x = some .local:=z
   rcases q.2 with y | y <;> · rw [z'] at y; cases y
theorem zit {env : Env} : ∀ {names : List (Str × Zie)} {x : Str},names.lookup x = some .free ->
  (names.map fun (n,k)=>if (k == Zh9 && env.scope.kind == .function && env.kindOf n == some .cell) then (n,Zk7) else (n,k)).lookup x = some .cell \/
  (names.map fun (n,k)=>if (k == Zh9 && env.scope.kind == .function && env.kindOf n == some .cell) then (n,Zk7) else (n,k)).lookup x = some .free
 | [],_,h=>by simp at h
 | (n,k)::r,x,h=>by
  have ih:=@zit env r x
  show Zmj x ((if (k == Zh9 && env.scope.kind == .function && env.kindOf n == some .cell) = true then (n,Zk7) else (n,k))::_) = _ \/ Zmj x ((if (k == Zh9 && env.scope.kind == .function && env.kindOf n == some .cell) = true then (n,Zk7) else (n,k))::_) = _
  cases hx : x == n with
  | true =>
   simp only [Zi3,hx] at h
   cases h
   by_cases hc : (Zh9 == Zh9 && env.scope.kind == .function && env.kindOf n == some .cell) = true
   ·rw [if_pos hc]; left; simp only [Zi3,hx]
   ·rw [if_neg hc]; right; simp only [Zi3,hx]
  | false =>
   simp only [Zi3,hx] at h
   by_cases hc : (k == Zh9 && env.scope.kind == .function && env.kindOf n == some .cell) = true
   ·rw [if_pos hc]; simp only [Zi3,hx]; exact ih h
   ·rw [if_neg hc]; simp only [Zi3,hx]; exact ih h
theorem zf4 {env : Env} : ∀ {names : List (Str × Zie)} {x : Str} {q : Zie},(∀ y∈names,y.2 ≠ .cell)->(q = .cell \/ q = .free) ->
  (names.map fun (n,k)=>if (k == Zh9 && env.scope.kind == .function && env.kindOf n == some .cell) then (n,Zk7) else (n,k)).lookup x = some q->(x,Zh9)∈names
 | [],_,_,_,_,h=>by simp at h
 | (n,k)::r,x,q,hn,hq,h=>by
  have ih:=@zf4 env r x q (fun y hy=>hn y (Zhd _ hy)) hq
  have h' : Zmj x ((if (k == Zh9 && env.scope.kind == .function && env.kindOf n == some .cell) = true then (n,Zk7) else (n,k))::(r.map fun (n,k)=>if (k == Zh9 && env.scope.kind == .function && env.kindOf n == some .cell) then (n,Zk7) else (n,k))) = some q:=h
  cases hx : x == n with
  | true =>
   have e : x = n:=by simpa using hx
   subst e
   by_cases hc : (k == Zh9 && env.scope.kind == .function && env.kindOf x == some .cell) = true
   ·simp only [Zhq,beq_iff_eq] at hc
    rw [hc.1.1]; exact Zhl
   ·rw [if_neg hc] at h'
    simp only [Zi3,beq_self_eq_true] at h'
    cases h'
    rcases hq with rfl | rfl
    ·exact absurd rfl (hn (x,.cell) Zhl)
    ·exact Zhl
  | false =>
   refine Zhd _ (ih ?_)
   by_cases hc : (k == Zh9 && env.scope.kind == .function && env.kindOf n == some .cell) = true
   ·rw [if_pos hc] at h'; simp only [Zi3,hx] at h'; exact h'
   ·rw [if_neg hc] at h'; simp only [Zi3,hx] at h'; exact h'
section
variable {X : Cx} {pins : List (Addr × Obj)} {σ : St} {H : Hp} {s s' : Zg5} {scope : Scope} {N' : List Str} {nt : Nat} {cs : List Nat} {C : Addr} {fp : List Addr} {h' : Heap} {t' : Nat}
theorem zxk (I : Inv X pins σ H s) (L : LcOk X scope N' nt cs) (hf : ∀ b∈fp,FpOk X pins H b) (hC : s.heap.objs.size <= C) (k : ∀ b u,s.heap.get? b = some u->h'.get? b = some u) (hns : h'.Ns C fun _=>none) (fpo : ∀ b∈fp,b < s.heap.objs.size) :
  Inv (lcCx X N' scope s H C fp) [] (lcS nt cs σ) H { s with heap:=h',toks:=t' }:=by
 have hfree : H C = none:=I.hok.fresh hC
 have csub : ∀ x c,(clos X.env.cells scope.names []).lookup x = some c->X.env.cells.lookup x = some c:=zjp _ _ fun x c h=>by simp at h
 have chas : ∀ x,(x,Zh9)∈scope.names->((clos X.env.cells scope.names []).lookup x).isSome = true:=fun x hx=>by
  refine zjo _ _ x hx ?_
  obtain ⟨c,e⟩:=I.ok.has x (L.fr x hx)
  rw [e]; rfl
 have I4 : Inv X pins σ H { s with heap:=h',toks:=t' }:=I.kept k
 refine ⟨⟨I.ok.mod,L.kind,I.ok.glob,I.ok.blt,hC,fun x y c h1 h2=>I.ok.inj x y c (csub x c h1) (csub y c h2),fun x hx=>?_,fun x c hx=>(nomatch hx),I.ok.hd,I.ok.frames,.inl rfl,fun b hb=>⟨?_,fun x c e=>?_⟩,I.bs,Zh1 I.ok.bsz I.sz,fun b o e hb=>?_,fun b hb=>?_,I.stack,I.stkFree⟩,
  rfl,I.bare,Un.kept k,⟨_,hns,fun i x v e1 e2 e3=>?_⟩,fun x c e=>?_,hfree,fun x c e=>I.freeC x c (csub x c e),fun p hp=>absurd (show p∈([] : List (Addr × Obj)) from hp) (by simp),I4.hok,?_⟩
 ·have hx' : (x,Zh9)∈scope.names:=by
   rcases hx with hx | hx
   ·exact zf4 (env:=X.env) L.nocell (.inl rfl) hx
   ·exact zf4 (env:=X.env) L.nocell (.inr rfl) hx
  exact Ziy.mp (chas x hx')
 ·exact Zht (Zhn (fpo b hb) hC)
 ·exact (hf b hb).2.2.2.2.1 x c (csub x c e)
 ·obtain ⟨f0,f1,f2,f3,_⟩:=hf b hb
  rcases f3 with z | z
  ·exact I.ok.noex b o e z
  ·exact absurd (Zhn (Zhf e) (Zh1 I.ok.bsz z)) (Zh6 _)
 ·obtain ⟨f0,f1,f2,f3,_⟩:=hf b hb
  intro z
  rcases Zhp.mp (I.stkSub b z) with q | q
  ·exact f1 q
  ·exact f2 q
 ·-- a captured name
  have e2' : (lcS nt cs σ)[i]? = some (some v):=e2
  unfold lcS at e2'
  by_cases hi : i < nt
  ·rw [Zip (by simpa using hi),Zle] at e2'
   split at e2' <;> cases e2'
  ·rw [Zil (by simpa using hi),Zlx,Zg8] at e2'
   cases ej : cs[i - nt]? with
   | none=>rw [ej] at e2'; cases e2'
   | some j =>
    rw [ej] at e2'
    have e2'' : (σ[j]?).getD none = some v:=Zit e2'
    have hσ : σ[j]? = some (some v):=by
     cases q : σ[j]? with
     | none=>rw [q] at e2''; cases e2''
     | some z=>rw [q] at e2''; exact congrArg some e2''
    obtain ⟨y,y1,y2,y3,y4,y5⟩:=L.cap _ _ ej
    have hxy : x = y:=by
     have e1' : N'[i]? = some x:=e1
     rw [show nt + (i - nt) = i by lia,e1'] at y1
     exact Zit y1
    subst hxy
    obtain ⟨m,hn,hl⟩:=I4.loc
    obtain ⟨u,r,l⟩:=hl j x v y2 hσ y4
    refine ⟨u,r,.inr ⟨zit (env:=X.env) y3,?_⟩⟩
    rcases l with ⟨l,_⟩ | ⟨_,c,hc,hcell⟩
    ·exact absurd l y5
    ·refine ⟨c,?_,hcell⟩
     obtain ⟨d,hd⟩:=Ziy.mp (chas x (Zjr y3))
     have:=csub x d hd
     rw [hc] at this
     cases this
     exact hd
 ·exact I4.cell x c (csub x c e)
 ·show (lcS nt cs σ).length = N'.length
  unfold lcS
  rw [L.len]; simp
theorem zys {σ2 : St} {H2 : Hp} (I : Inv X pins σ H s) (hf : ∀ b∈fp,FpOk X pins H b) (J : Inv (lcCx X N' scope s H C fp) [] σ2 H2 s') : Inv X pins σ H2 s' :=
 I.call' (ch:=fp) J.os J.base J.hok J.bare fun b hb=>by
  obtain ⟨f0,f1,f2,f3,f4,f5⟩:=hf b hb
  exact ⟨f3,f1,f4,f5⟩
end
noncomputable def PIfs (X : Cx) (ifs : List Expr) (t : TT) : Prop :=
 ∀ (pins : List (Addr × Obj)) (s : Zg5) (σ : St) (H : Hp) (Q : Bool->Hp->Prop),Inv X pins σ H s->t σ H Q ->
  Zhs (Zh2 X.prog X.w) X.A (forIn ifs true fun c r=>if r = true then do let ok <- isTrue c X.env (eval c X.env); pure (Zkb ok) else pure (Zkb r)) (TP X pins σ Q) X.xe s
noncomputable def zwo : TT:=fun _ H Q=>Q true H
theorem zgi {X : Cx} : PIfs X [] zwo:=fun _ _ _ H _ I h=>wpAny_tests_nil ⟨H,I,h⟩
theorem zgt {X : Cx} {c : Expr} {t : TT} (h : PT X c t) : PIfs X [c] t:=fun pins s σ H Q I hq=>wpAny_tests_one (h pins s σ H Q I hq)
noncomputable def LCG (nt : Nat) (cs : List Nat) (g : TG) (tt : TT) (te : TE) (σ : St) (Q : VK) (J : It) (H1 : Hp) : Prop:=∀ l,H1 l = none -> ∃ W : Nat->Nat->Hp->Prop,(∃ m,W 0 m (upd H1 l (.lst []))) /\ ∀ i m H2,W i m H2 ->
 (J.stop i H2/\Q (.ref l) H2) \/ (J.go i H2 /\ ∃ N : Hp->Prop,(∀ H',N H' -> ∃ m',m' < m/\W (i + 1) m' H') /\ ∀ x H3,J.yld i H2 x H3->g x (lcS nt cs σ) H3 fun σ2 H4 =>
  (σ2.length = nt + cs.length/\σ2.drop nt = (lcS nt cs σ).drop nt)/\tt σ2 H4 fun b H5=>if b = true then te σ2 H5 fun y H6=>∃ xs,H6 l = some (.lst xs)/\xs.length < sizeLine/\N (upd H6 l (.lst (xs++[y]))) else N H5)
noncomputable def tLC (nt : Nat) (cs : List Nat) (wi : TI) (g : TG) (tt : TT) (te : TE) : TE:=fun σ H Q=>wi σ H fun J H1=>LCG nt cs g tt te σ Q J H1
theorem ybt {prog : Zhz} {w : Zix} {A : Zh3} {R : Zvj -> Zg5 -> Prop} {s : Zg5} {elt target iter : Expr} {ifs : List Expr} {scope : Scope} {pos : Pos} {it acc : Value} {env : Env} (I : Nat -> Zg5 -> Prop)
  (turn : ∀ n s,I n s->Zhs (Zh2 prog w) A (Zo7 it) (fun r s₁=>match r with
   | none=>R (.ok .next) s₁
   | some v=>Zhs (Zh2 prog w) A (Zn5 target it v) (fun _ s₁'=>Zhs (Zh2 prog w) A (Zsk target env v) (fun _ s₂ =>
     Zhs (Zh2 prog w) A (forIn ifs true fun c r=>if r = true then do let ok <- isTrue c env (eval c env); pure (Zkb ok) else pure (Zkb r)) (fun ok s₃ =>
      if ok = true then Zhs (Zh2 prog w) A (eval elt env) (fun x s₄ =>
       Zhs (Zh2 prog w) A (call (.builtin "list.append") [acc,x]) (fun _ s₅=>∃ m,m < n/\I m s₅) (fun _ _=>False) s₄) (fun _ _=>False) s₃
      else ∃ m,m < n/\I m s₃) (fun _ _=>False) s₂) (fun _ _=>False) s₁') (fun _ _=>False) s₁) (fun _ _=>False) s)
  (n : Nat) (h : I n s) : Znm (Zh2 prog w) A (.compLoop (.ListComp elt [⟨target,iter,ifs,0⟩] scope pos) 0 it acc env) R s:=by
 refine codeAny_loop rfl I (fun n s hI=>?_) n h
 show Zhs _ A ((compTurn (.ListComp elt [⟨target,iter,ifs,0⟩] scope pos) 0 it acc env).onRaise (fun x=>do Zmd x env; theTreesLotGoes x)) _ _ s
 refine wpAny_noted ?_
 rw [compTurn_list]
 refine Zgz (Zms (Zgz (Zid (turn n s hI) (fun r s₁ h₁=>?_) fun _ _ h'=>h'.elim)))
 cases r with
 | none=>exact Zhc h₁
 | some v =>
  refine Zgz (Zid h₁ (fun _ s₁' h₁'=>?_) fun _ _ h'=>h'.elim)
  refine Zgz (Zid h₁' (fun _ s₂ h₂=>Zgz (Zid h₂ (fun ok s₃ h₃=>?_) fun _ _ h'=>h'.elim)) fun _ _ h'=>h'.elim)
  cases ok with
  | false=>exact Zhc ⟨rfl,h₃⟩
  | true =>
   exact Zgz (Zgz (Zid h₃ (fun x s₄ h₄=>Zgz (Zid h₄ (fun _ s₅ h₅=>Zhc (Zhc ⟨rfl,h₅⟩)) fun _ _ h'=>h'.elim)) fun _ _ h'=>h'.elim))
section
variable {X : Cx} {elt target iter : Expr} {ifs : List Expr} {scope : Scope} {pos : Pos} {N' : List Str} {nt : Nat} {cs : List Nat} {wi : TI} {g : TG} {tt : TT} {te : TE}
theorem zty {use : Option (Value->Sem Unit)} {QQ : Value->Zg5->Prop} {p2 : Pos} (hc : X.calm = true) (L : LcOk X scope N' nt cs) (hi : PI X target iter wi)
  (hg : ∀ s H C fp,PG (lcCx X N' scope s H C fp) target g) (ht : ∀ s H C fp,PIfs (lcCx X N' scope s H C fp) ifs tt) (he : ∀ s H C fp,PE (lcCx X N' scope s H C fp) elt te)
  {pins : List (Addr × Obj)} {s : Zg5} {σ : St} {H : Hp} {Q : VK} (I : Inv X pins σ H s) (h : tLC nt cs wi g tt te σ H Q)
  (fin : ∀ (l : Addr) (H' : Hp) (s' : Zg5) (C : Addr),Inv X pins σ H' s'->FpOk X pins H' C->(∃ m,s'.heap.Ns C m)->Q (.ref l) H'->compPost (Zh2 X.prog X.w) X.A X.xe use QQ (.ref l) C (.ok .next) s')
  (hs : ∀ x,Zng iter X.env x = pure x:=by intro _; rfl) :
  Zhs (Zh2 X.prog X.w) X.A (Zvz (.ListComp elt [⟨target,iter,ifs,0⟩] scope pos) scope X.env p2 (newList []) false (eval iter X.env) use) QQ X.xe s:=by
 have hcl : Zod scope X.env = pure (clos X.env.cells scope.names []):=zr3 fun x hx=>by
  obtain ⟨c,e⟩:=I.ok.has x (L.fr x hx)
  rw [e]; rfl
 refine wpAny_comprehension_free (env:=X.env) rfl hs hcl L.kind L.loc (thn (hi pins s σ H _ I h) fun v s1 h1=>thn h1 fun itv s2 h2=>?_)
 obtain ⟨it,fp,tn,J,H1,e,I2,T,st2,f2,R⟩:=h2
 subst e
 refine Zk5 ?_
 have hv : Vals [] ([] : List Value):=.nil
 have I3:=I2.lnew (t':=s2.toks) hv (Zih _)
 have hfr : H1 s2.heap.objs.size = none:=I2.fresh
 have ne3 : ∀ b∈fp,b≠s2.heap.objs.size:=fun b hb z=>by
  obtain ⟨o,e,_⟩:=T.obj _ _ st2 b hb
  have:=Zhf e
  rw [z] at this
  exact Zh6 _ this
 have f3 : ∀ b∈fp,FpOk X pins (upd H1 s2.heap.objs.size (.lst [])) b:=fun b hb=>⟨by rw [zam (ne3 b hb)]; exact (f2 b hb).1,(f2 b hb).2⟩
 obtain ⟨W,⟨m0,w0⟩,turn⟩:=R _ hfr
 refine Zso L.nocell (by intro y hy; simp at hy) (fun h4 hns hsb=>?_) L.kind
 dsimp only at hns hsb ⊢
 generalize hH3 : s2.heap.push { cls:=.type "list", dict:=none,data:=.seq ([] : List Value).toArray } = h3 at hns hsb I3 ⊢
 have hsz3 : h3.objs.size = s2.heap.objs.size + 1:=by rw [<- hH3,Zp6]
 have up4 : ∀ b u,h3.get? b = some u->h4.get? b = some u:=fun b u e=>hsb.extBut b u (Zht (Zhf e)) (Zg6 _ e)
 have fpo : ∀ b∈fp,b < h3.objs.size:=fun b hb=>by
  obtain ⟨o,e,_⟩:=T.obj _ _ st2 b hb
  exact Zhn (Zhf e) (by rw [hsz3]; exact Zmp _)
 have up3 : ∀ b u,s2.heap.get? b = some u->h3.get? b = some u:=fun b u e=>hH3 ▸ Zg6 _ e
 have J4 : Inv (lcCx X N' scope { s2 with heap:=h3 } (upd H1 s2.heap.objs.size (.lst [])) h3.objs.size fp) [] (lcS nt cs σ) (upd H1 s2.heap.objs.size (.lst [])) { s2 with heap:=h4,toks:=s2.toks + ([] : List (Str × Value)).length } :=
  zxk (t':=s2.toks + ([] : List (Str × Value)).length) I3 L f3 (Zha _) up4 (by simpa using hns) fpo
 have st4 : tn 0 h4:=T.keep _ _ _ st2 fun b hb o e=>up4 b o (up3 b o e)
 generalize hs3 : ({ s2 with heap:=h3 } : Zg5) = s3 at I3 J4
 generalize hX' : lcCx X N' scope s3 (upd H1 s2.heap.objs.size (.lst [])) h3.objs.size fp = X' at J4
 have hg' : PG X' target g:=hX' ▸ hg _ _ _ _
 have ht' : PIfs X' ifs tt:=hX' ▸ ht _ _ _ _
 have he' : PE X' elt te:=hX' ▸ he _ _ _ _
 have stat : ∀ {H' : Hp},(∀ b∈fp,H' b = none) -> ∀ b∈fp,FpOk X' [] H' b:=fun hn b hb=>by
  subst hX'
  refine ⟨hn b hb,Zht (fpo b hb),J4.ok.exfs b hb,.inl hb,(J4.ok.exf b hb).2,fun p hp=>absurd (show p∈([] : List (Addr × Obj)) from hp) (by simp)⟩
 have loop : Znm (Zh2 X.prog X.w) X.A (.compLoop (.ListComp elt [⟨target, iter, ifs, 0⟩] scope pos) 0 (.ref it) (.ref s2.heap.objs.size) (Zv0 scope (clos X.env.cells scope.names []) h3.objs.size X.env))
   (compPost (Zh2 X.prog X.w) X.A X.xe use QQ (.ref s2.heap.objs.size) h3.objs.size) { s2 with heap:=h4,toks:=s2.toks + ([] : List (Str × Value)).length }:=by
  have eA : X'.A = X.A:=by subst hX'; rfl
  have eP : X'.prog = X.prog:=by subst hX'; rfl
  have eW : X'.w = X.w:=by subst hX'; rfl
  have eK : X'.K = X.K:=by subst hX'; rfl
  have eC : X'.calm = true:=by subst hX'; exact hc
  have eE : X'.env = Zv0 scope (clos X.env.cells scope.names []) h3.objs.size X.env:=by subst hX'; rfl
  have eX : X'.xe = fun _ _=>False:=by subst hX'; rfl
  refine ybt (fun n s'=>∃ i H',Inv X' [] (lcS nt cs σ) H' s'/\tn i s'.heap/\(∀ b∈fp,H' b = none)/\W i n H') ?_ m0 ⟨0,_,J4,st4,fun b hb=>(f3 b hb).1,w0⟩
  rintro n s5 ⟨i,H5,J5,st5,fr5,w5⟩
  rcases turn i n H5 w5 with ⟨stop,qn⟩ | ⟨go,N,hN,step⟩
  ·have d:=T.done X' eP eW eK eC i [] s5 (lcS nt cs σ) H5 (fun _ _=>False) J5 (stat fr5) st5 stop
   rw [eA] at d
   refine thn d fun r s6 hz9=>?_
   obtain ⟨hr,J6⟩:=hz9
   subst hr
   have I6 : Inv X pins σ H5 s6:=by subst hX'; subst hs3; exact zys I3 f3 J6
   refine fin _ H5 s6 h3.objs.size I6 ?_ ?_ qn
   ·have hn : H5 h3.objs.size = none:=by subst hX'; exact J6.free
    subst hs3
    exact I3.fpOk (Zha _) hn
   ·obtain ⟨m,hm,_⟩:=J6.loc
    subst hX'
    exact ⟨m,hm⟩
  ·have d:=T.item X' eP eW eK eC i [] s5 (lcS nt cs σ) H5 (fun _ _=>False) J5 (stat fr5) st5 go
   rw [eA] at d
   refine thn d fun r s6 hz9=>?_
   obtain ⟨u,hr,h6⟩:=hz9
   subst hr
   refine thn h6 fun _ s7 hz9=>?_
   obtain ⟨x,H7,J7,r7,y7,st7,fr7⟩:=hz9
   have J7':=J7.pinned (stat fr7) (T.obj _ _ st7)
   have a:=hg' _ s7 (lcS nt cs σ) H7 x u _ J7' r7 (step x H7 y7)
   rw [eA,eP,eW,eE,eX] at a
   refine thn a fun _ s8 ⟨σ8,H8,J8,⟨e8,d8⟩,q8⟩=>?_
   have b:=ht' _ s8 σ8 H8 _ J8 q8
   rw [eA,eP,eW,eE,eX] at b
   have again : ∀ {s9 : Zg5} {H9 : Hp},Inv X' ([]++zn9 fp s7.heap) σ8 H9 s9->N H9 -> ∃ m,m < n /\ ∃ i H',Inv X' [] (lcS nt cs σ) H' s9/\tn i s9.heap/\(∀ b∈fp,H' b = none)/\W i m H':=fun {s9 H9} J9 n9=>by
    obtain ⟨m',hm,w9⟩:=hN H9 n9
    refine ⟨m',hm,i + 1,H9,?_,T.keep _ _ _ st7 fun b hb o e=>(J9.pin (b,o) (Zg9 _ (Zg9 _ (zgm hb e)))).1,fun b hb=>?_,w9⟩
    ·refine J9.unpinned.weak ?_ fun j v ej=>?_
     ·rw [e8]; unfold lcS; simp
     ·by_cases hj : j < nt
      ·unfold lcS at ej
       rw [Zip (by simpa using hj),Zle] at ej
       split at ej <;> cases ej
      ·have z:=congrArg (fun l : St=>l[j - nt]?) d8
       simp only [Zoi] at z
       rw [show nt + (j - nt) = j by omega] at z
       rw [z]; exact ej
    ·obtain ⟨o,e,_⟩:=T.obj _ _ st7 b hb
     exact (J9.pin (b,o) (Zg9 _ (Zg9 _ (zgm hb e)))).2.1
   refine thn b fun ok s9 hz9=>?_
   obtain ⟨H9,J9,q9⟩:=hz9
   cases ok with
   | false =>
    rw [if_neg Zhx] at q9 ⊢
    exact again J9 q9
   | true =>
    rw [if_pos rfl] at q9 ⊢
    have c:=he' _ s9 σ8 H9 _ J9 q9
    rw [eA,eP,eW,eE,eX] at c
    refine thn c fun y sA hz9=>?_
    obtain ⟨vy,HA,JA,ry,xs,hl,hz,nA⟩:=hz9
    have ap:=zcd (X:=X') _ sA σ8 HA (.ref s2.heap.objs.size) [vy] (.ref s2.heap.objs.size) [y] (fun _ H'=>N H') JA rfl (.cons ry .nil) ⟨_,xs,vy,rfl,rfl,hl,hz,nA⟩
    rw [eA,eP,eW,eX] at ap
    refine thn ap fun _ sB hz9=>?_
    obtain ⟨_,HB,JB,_,nB⟩:=hz9
    exact again JB nB
 exact codeAny_compStart_list loop (T.self X.A 0 _ _ _ st4 loop)
theorem znk (hc : X.calm = true) (L : LcOk X scope N' nt cs) (hi : PI X target iter wi)
  (hg : ∀ s H C fp,PG (lcCx X N' scope s H C fp) target g) (ht : ∀ s H C fp,PIfs (lcCx X N' scope s H C fp) ifs tt) (he : ∀ s H C fp,PE (lcCx X N' scope s H C fp) elt te)
  (hs : ∀ x,Zng iter X.env x = pure x:=by intro _; rfl) : PE X (.ListComp elt [⟨target,iter,ifs,0⟩] scope pos) (tLC nt cs wi g tt te):=by
 intro pins s σ H Q I h
 rw [eval_ListComp]
 refine zty (use:=none) hc L hi hg ht he I h (fun l H' s' C I' f ⟨m,hm⟩ q=>⟨m,hm,fun h' hs'=>?_⟩) hs
 obtain ⟨f0,f1,f2,f3,f4,f5⟩:=f
 exact ⟨.ref l,H',I'.turned (t':=s'.toks) (fun b o hb e=>hs'.extBut b o hb e) f0 f1 f3 f4 f5,rfl,q⟩
theorem zjg {i : Nat} {y : Str} {py spos : Pos} (hN : X.N.Nodup) (hy : X.N[i]? = some y) (hx : Loc X.env.scope y) (hc : X.calm = true) (L : LcOk X scope N' nt cs) (hi : PI X target iter wi)
  (hg : ∀ s H C fp,PG (lcCx X N' scope s H C fp) target g) (ht : ∀ s H C fp,PIfs (lcCx X N' scope s H C fp) ifs tt) (he : ∀ s H C fp,PE (lcCx X N' scope s H C fp) elt te)
  (hsw : Zn4 (.ListComp elt [⟨target,iter,ifs,0⟩] scope pos) (some (.Name y py)) spos.line X.env = pure true:=by rfl)
  (hs : ∀ x,Zng iter X.env x = pure x:=by intro _; rfl) (hf : X.fn y = true \/ X.env.scope.names.lookup y = some .local:=by first | exact .inl rfl | exact .inr rfl | assumption) :
  PS X (.Assign [.Name y py] (.ListComp elt [⟨target,iter,ifs,0⟩] scope pos) spos) (tAsg (tLC nt cs wi g tt te) (zfp i)):=by
 intro pins s σ H D I h
 rw [exec_Assign_Name_used _ _ _ _ hsw]
 refine Zgz (Zms (Zgz ?_))
 show Zhs _ X.A (do let _ <- Zvz (.ListComp elt [⟨target,iter,ifs,0⟩] scope pos) scope X.env _ (newList []) false (eval iter X.env) (some (Zsk (.Name y py) X.env))) _ _ s
 refine Zgz (thn (zty (QQ:=fun _ s'=>SP X pins D .next s') (use:=some (Zsk (.Name y py) X.env)) hc L hi hg ht he I h (fun l H' s' C I' f hm q=>?_) hs) (fun _ s' hq=>Zhc (Zhc hq)))
 show Zhs _ X.A (Zsk (.Name y py) X.env (.ref l)) _ _ _
 refine Ztn (znh I' hN hy hx (v:=.ref l) rfl (fun s2 I2 hz9=>?_) hf)
 obtain ⟨a,hsb,ha⟩:=hz9
 obtain ⟨m,hm⟩:=hm
 obtain ⟨f0,f1,f2,f3,f4,f5⟩:=f
 have hCa : C≠a:=by
  rcases ha with rfl | ha
  ·exact f1
  ·exact fun z=>f4 y a ha z.symm
 refine ⟨m,hm.sameBut hsb hCa,fun h' hs'=>?_⟩
 exact ⟨_,H',I2.turned (t':=s2.toks) (fun b o hb e=>hs'.extBut b o hb e) f0 f1 f3 f4 f5,q⟩
end
section
variable {X : Cx} {a b : Expr} {ta tb : TE} {pos : Pos}
theorem zi7 : zcy X (.builtin "isinstance") (fun xs H Q=>∃ x,xs = [.int x,.ty "int"]/\Q (.bl true) H):=by
 intro pins s σ H xs us Q I r h
 obtain ⟨x,rfl,q⟩:=h
 obtain ⟨u,v,rfl,⟨t,rfl⟩,rfl⟩:=zk7 r
 exact IsiPair.int_int ⟨.bl true,H,I,rfl,q⟩
theorem zfb : zcy X (.builtin "isinstance") (fun xs H Q=>∃ x,xs = [.int x,.ty "bool"]/\Q (.bl false) H):=by
 intro pins s σ H xs us Q I r h
 obtain ⟨x,rfl,q⟩:=h
 obtain ⟨u,v,rfl,⟨t,rfl⟩,rfl⟩:=zk7 r
 exact IsiPair.int_bool ⟨.bl false,H,I.tok _,rfl,q⟩
end
theorem SqL.same {K : Zgy} {H H' : Hp} {a : Addr} {xs : List V} (e : Same H H') (h : SqL K H a xs) : SqL K H' a xs:=e.seq h
theorem SqT.same {K : Zgy} {H H' : Hp} {a : Addr} {xs : List V} (e : Same H H') (h : SqT K H a xs) : SqT K H' a xs:=by
 rcases h with (h | ⟨o,h⟩) | h
 ·exact .inl (.inl (e _ _ h))
 ·exact .inl (.inr ⟨o,e _ _ h⟩)
 ·exact .inr h
theorem Same.upd {H : Hp} {l : Addr} {o : HO} (h : H l = none) : Same H (upd H l o):=fun b u e=>by rw [zam (zat e h)]; exact e
end L2
namespace L2
open PySem
end L2
namespace L2
open PySem PySem.Spec PyProof.Rows
section
variable {X : Cx} {pins : List (Addr × Obj)} {σ : St} {H : Hp} {s : Zg5} {h' : Heap} {t' : Nat} {wr : List Addr}
theorem Inv.turns (I : Inv X pins σ H s) (hf : ∀ b∈wr,FpOk X pins H b) (k : ∀ b o,b ∉ wr->s.heap.get? b = some o->h'.get? b = some o) : Inv X pins σ H { s with heap:=h',toks:=t' }:=by
 have nw : ∀ b u,H b = some u->b ∉ wr:=fun b u e z=>by have:=(hf b z).1; rw [e] at this; cases this
 have nL : X.env.locals ∉ wr:=fun z=>(hf _ z).2.1 rfl
 refine I.step (g':=s.gens) (d':=s.drawn) (ch:=wr) (fun b hb=>?_) (fun b o _ _ hc e _=>k b o hc e) (fun b o _ _ hc e _=>⟨o.slots,k b o hc e⟩) (fun _ _ _ _ n=>n)
  (fun b o hc e=>⟨o,k b o hc e⟩) (fun _ _ e=>e) (fun _ _ _ e=>e) (fun b ps e=>⟨#[],by rw [e]; simp⟩) (fun m hm=>?_) (fun b u e=>?_) I.bare
 ·obtain ⟨f0,f1,f2,f3,f4,f5⟩:=hf b hb
  exact ⟨f3,f1,f4,f5⟩
 ·obtain ⟨o,es,ep,ho,r⟩:=hm
  exact ⟨o,es,ep,k _ o nL ho,r⟩
 ·refine (I.hok b u e).stay (fun c v hc q=>k c v ?_ q) (fun _ q=>q) fun _ _ q=>q
  rcases hc with z | z
  ·rw [z]; exact nw b u e
  ·exact nw c _ z
theorem Inv.turnsT (I : Inv X pins σ H s) {T0 : Addr} {vs : List V} {vals : Array Value} (hf : ∀ b∈wr,FpOk X pins H b) (k : ∀ b o,b ∉ wr->s.heap.get? b = some o->h'.get? b = some o) (hT : s.heap.objs.size <= T0) (ht : h'.IsTuple T0 vals) (hv : Vals vs vals.toList)
  (hz : vs.length <= sizeLine) : Inv X pins σ (upd H T0 (.tup vs)) { s with heap:=h',toks:=t' }:=by
 have nw : ∀ b u,H b = some u->b ∉ wr:=fun b u e z=>by have:=(hf b z).1; rw [e] at this; cases this
 have nL : X.env.locals ∉ wr:=fun z=>(hf _ z).2.1 rfl
 have fresh : H T0 = none:=I.hok.fresh hT
 have ne : ∀ b o,s.heap.get? b = some o->b≠T0:=fun b o e=>Zht (Zhn (Zhf e) hT)
 refine I.step (g':=s.gens) (d':=s.drawn) (ch:=wr) (fun b hb=>?_) (fun b o _ _ hc e _=>k b o hc e) (fun b o _ _ hc e _=>⟨o.slots,k b o hc e⟩) (fun b o _ e n=>by rw [zam (ne b o e)]; exact n)
  (fun b o hc e=>⟨o,k b o hc e⟩) (fun b xs e=>by rw [zam (zat e fresh)]; exact e) (fun b o u e=>by rw [zam (zat e fresh)]; exact e) (fun b ps e=>⟨#[],by rw [zam (zat e fresh),e]; simp⟩) (fun m hm=>?_) (fun b u e=>?_) I.bare
 ·obtain ⟨f0,f1,f2,f3,f4,f5⟩:=hf b hb
  exact ⟨f3,f1,f4,f5⟩
 ·obtain ⟨o,es,ep,ho,r⟩:=hm
  exact ⟨o,es,ep,k _ o nL ho,r⟩
 ·by_cases hb : b = T0
  ·subst hb
   rw [zaj] at e
   cases e
   have ht2 : h'.IsTuple b vals.toList.toArray:=by simpa using ht
   exact ⟨hz,vals.toList,hv,ht2⟩
  ·rw [zam hb] at e
   refine (I.hok b u e).stay (fun c v hc q=>k c v ?_ q) (fun c q=>by rw [zam (zat q fresh)]; exact q) fun c xs q=>by rw [zam (zat q fresh)]; exact q
   rcases hc with z | z
   ·rw [z]; exact nw b u e
   ·exact nw c _ z
end
noncomputable def RngO (r : Addr) (a b c : Int) : HO:=.ext fun h=>∃ t u v,IsRange h r a b c t u v
section
variable {X : Cx} {pins : List (Addr × Obj)} {σ : St} {H : Hp} {s : Zg5}
theorem Inv.rng {a b c : Int} {t u v : Tok} {t' : Nat} (I : Inv X pins σ H s) : Inv X pins σ (upd H s.heap.objs.size (RngO s.heap.objs.size a b c)) { s with heap:=s.heap.push { cls:=.type "range", data:=.fields #[.int a t,.int b u,.int c v] },toks:=t' } :=
 I.laid (fun _ _ q=>Zg6 _ q) (Zha _) ⟨⟨t,u,v,Zho _ rfl⟩,⟨_,Zho _ rfl⟩,fun h1 h2 ⟨t1,u1,v1,z⟩ k=>⟨t1,u1,v1,k _ z⟩⟩
end
section
variable {X : Cx} {e1 e2 e3 : Expr} {ta : TA} {p pos : Pos} {tg : Expr}
noncomputable def ye8 (ta : TA) : TE:=fun σ H Q=>ta σ H fun vs H1=>∃ j : Int,vs = [.int j] /\ ∀ r,H1 r = none->Q (.ref r) (upd H1 r (RngO r 0 j 1))
theorem zs9 (hg : Gl X "range") (hm : X.mg "range" = none) (ha : PA X [e1] ta) (hs : Zic [e1] X.env = [(false,eval e1 X.env)]:=by rfl) : PE X (.Call (.Name "range" p) [e1] [] pos) (ye8 ta):=by
 intro pins s σ H Q I h
 refine Call_ (zg7 I hg hm Ztv (Zja (thn (ha pos pins s σ H _ I h) fun us s1 hz9=>?_) hs rfl))
 obtain ⟨vs,H1,I1,r1,q1⟩:=hz9
 obtain ⟨j,rfl,q⟩:=q1
 obtain ⟨u,rfl,ru⟩:=zfs r1
 obtain ⟨t,rfl⟩:=ru
 exact call_range_1 ⟨.ref s1.heap.objs.size,_,I1.rng,rfl,q _ I1.fresh⟩
theorem zmy (hc : X.calm = true) : zcy X (.type "list") (fun xs H Q=>∃ r a b c n,xs = [.ref r]/\H r = some (RngO r a b c)/\Zpe a b c = true/\Zkz a b c = ((n : Nat) : Int)/\n <= 1048576 /\ ∀ l,H l = none->Q (.ref l) (upd H l (.lst ((Zg4 n).map fun (i : Nat)=>.int (a + (i : Int) * c))))):=by
 intro pins s σ H xs us Q I r h
 obtain ⟨rr,a,b,c,n,rfl,hr,hsm,hn,hle,q⟩:=h
 obtain ⟨u,rfl,ru⟩:=zfs r
 cases ru
 obtain ⟨⟨t,u,v,hR⟩,_,_⟩:=I.hok rr _ hr
 refine call_list_range (I.ok.hd hc) hR hsm hn (Zh1 hle (by decide)) fun h' tk acc k hk hl hit=>?_
 have hv : Vals ((Zg4 n).map fun (i : Nat)=>V.int (a + (i : Int) * c)) acc.toList:=by
  obtain ⟨hsz,hit⟩:=hit
  have gen : ∀ (m : Nat) (l : List Value),l.length = m->(∀ (i : Nat) v,l[i]? = some v -> ∃ t,v = Zj6 (a + (i : Int) * c) t)->Vals ((Zg4 m).map fun (i : Nat)=>V.int (a + (i : Int) * c)) l:=by
   intro m
   induction m with
   | zero=>intro l hl _; have:=List.eq_nil_of_length_eq_zero hl; subst this; exact .nil
   | succ m ih =>
    intro l hl hi
    obtain ⟨l',x,rfl⟩ : ∃ l' x,l = l'++[x]:=by
     cases e : l.getLast? with
     | none=>have:=List.getLast?_eq_none_iff.mp e; subst this; cases hl
     | some x=>obtain ⟨l',e'⟩:=List.getLast?_eq_some_iff.mp e; exact ⟨l',x,e'⟩
    have hl' : l'.length = m:=by simpa using hl
    rw [Zkr,Zhj]
    refine Vals.append (ih l' hl' fun i v hv=>hi i v ?_) (.cons ?_ .nil)
    ·rw [Zip (Zg7.mp hv).1]; exact hv
    ·obtain ⟨t,e⟩:=hi m x (by rw [<- hl']; simp)
     exact ⟨t,e⟩
  exact gen n acc.toList (by simpa using hsz) fun i v hv=>by
   have : acc[i]? = some v:=by simpa using hv
   obtain ⟨t,e⟩:=hit i v this
   exact ⟨t,e⟩
 have hz : ((Zg4 n).map fun (i : Nat)=>V.int (a + (i : Int) * c)).length <= sizeLine:=by rw [Zg2,Zjd,Zhm]; lia
 exact ⟨.ref s.heap.objs.size,_,I.laid hk (Zha _) (show zc9 X.prog X.w _ _ _ (.lst _) from ⟨hz,acc.toList,k,hv,by simpa using hl⟩),rfl,q _ I.fresh⟩
end
end L2
namespace L2
open PySem
end L2
namespace L2
open PySem PySem.Spec PyProof.Rows
structure ZipAp (z TI TO i1 i2 : Addr) (fp1 fp2 : List Addr) : Prop where
 TIz : TI≠z
 TOz : TO≠z
 i1z : i1≠z
 i2z : i2≠z
 TITO : TI≠TO
 TIi1 : TI≠i1
 TIi2 : TI≠i2
 TOi1 : TO≠i1
 TOi2 : TO≠i2
 i12 : i1≠i2
 m1 : i1∈fp1
 m2 : i2∈fp2
 f1 : ∀ b∈fp1,b≠z/\b≠TO/\b≠i2
 f2 : ∀ b∈fp2,b≠z/\b≠TO/\b≠i1
end L2
namespace L2
open PySem
end L2
namespace L2
open PySem PySem.Spec PyProof.Rows
inductive D where
 | non | bl (b : Bool) | int (i : Int) | str (l : List Nat) | lst (xs : List D) | tup (xs : List D) | dct (ks vs : List D) | dctT (ks vs : List D) | ins (C : Addr) (ns : List Str) (vs : List D)
noncomputable instance : Inhabited D:=⟨.non⟩
noncomputable instance : DecidableEq D:=Zwb D
mutual
noncomputable def D.dep : D->Nat
 | .lst a=>D.deps a + 1
 | .tup a=>D.deps a + 1
 | _=>0
noncomputable def D.deps : List D->Nat
 | []=>0
 | a::x=>max a.dep (D.deps x)
end
mutual
noncomputable def D.nb : D->Bool
 | .bl _=>false
 | .dct _ _=>false
 | .dctT _ _=>false
 | .ins _ _ _=>false
 | .lst a=>D.nbs a
 | .tup a=>D.nbs a
 | _=>true
noncomputable def D.nbs : List D->Bool
 | []=>true
 | a::x=>a.nb && D.nbs x
end
noncomputable def D.isK : D->Bool
 | .int _=>true | .str _=>true | _=>false
noncomputable def D.key : D->Key
 | .int i=>.inl i | .str l=>.inr (T l) | _=>.inl 0
noncomputable def D.isT : D->Bool
 | .tup l=>l.all D.isK | _=>false
noncomputable def D.tkey : D->List Key
 | .tup l=>l.map D.key | _=>[]
noncomputable def D.isInt : D->Bool
 | .int _=>true
 | _=>false
noncomputable def zfo (ds : List D) : Bool:=ds.any D.isInt
section
variable (K : Zgy) (H : Hp)
mutual
noncomputable def Rep : D->V->Prop
 | .non,v=>v = .non
 | .bl b,v=>v = .bl b
 | .int i,v=>v = .int i
 | .str l,v=>v = .str (T l) /\ ∀ c∈l,c < 128
 | .lst ds,v=>∃ p xs,v = .ref p/\SqL K H p xs/\Reps ds xs
 | .tup ds,v=>∃ p xs,v = .ref p/\SqT K H p xs/\Reps ds xs/\(zfo ds = true->H p = some (.tup xs))
 | .dct ks vs,v=>∃ p kv,v = .ref p/\H p = some (.dK kv)/\Reps ks (kv.map fun q=>kV q.1)/\Reps vs (kv.map fun q=>q.2)
 | .dctT ks vs,v=>∃ p kv,v = .ref p/\(∃ o,H p = some (.frz o (.dT kv)))/\(ks.all D.isT = true/\(kv.map fun q=>q.1) = ks.map D.tkey)/\Reps vs (kv.map fun q=>q.2)
 | .ins C ns vs,v=>∃ x dx fs,v = .ref x/\H x = some (.ins C dx fs)/\H dx = some (.own x)/\fs.map (fun q=>q.1) = ns/\Reps vs (fs.map fun q=>q.2)
noncomputable def Reps : List D->List V->Prop
 | [],xs=>xs = []
 | d::ds,xs=>∃ x r,xs = x::r/\Rep d x/\Reps ds r
end
end
section
variable {K : Zgy} {H H' : Hp}
mutual
theorem Rep.mono (s : Same H H') : ∀ {d : D} {v : V},Rep K H d v->Rep K H' d v
 | .non,_,h=>by simpa [Rep] using h
 | .bl _,_,h=>by simpa [Rep] using h
 | .int _,_,h=>by simpa [Rep] using h
 | .str _,_,h=>by simpa [Rep] using h
 | .lst ds,_,h=>by
  rw [Rep] at h ⊢
  obtain ⟨p,xs,e,q,r⟩:=h
  exact ⟨p,xs,e,SqL.same s q,Reps.mono s r⟩
 | .tup ds,_,h=>by
  rw [Rep] at h ⊢
  obtain ⟨p,xs,e,q,r,t⟩:=h
  exact ⟨p,xs,e,SqT.same s q,Reps.mono s r,fun z=>s _ _ (t z)⟩
 | .dct ks vs,_,h=>by
  rw [Rep] at h ⊢
  obtain ⟨p,kv,e,q,r1,r2⟩:=h
  exact ⟨p,kv,e,s _ _ q,Reps.mono s r1,Reps.mono s r2⟩
 | .dctT ks vs,_,h=>by
  rw [Rep] at h ⊢
  obtain ⟨p,kv,e,⟨o,q⟩,r1,r2⟩:=h
  exact ⟨p,kv,e,⟨o,s _ _ q⟩,r1,Reps.mono s r2⟩
 | .ins C ns vs,_,h=>by
  rw [Rep] at h ⊢
  obtain ⟨x,dx,fs,e,q1,q2,hn,r⟩:=h
  exact ⟨x,dx,fs,e,s _ _ q1,s _ _ q2,hn,Reps.mono s r⟩
theorem Reps.mono (s : Same H H') : ∀ {ds : List D} {xs : List V},Reps K H ds xs->Reps K H' ds xs
 | [],_,h=>by simpa [Reps] using h
 | d::ds,_,h=>by
  rw [Reps] at h ⊢
  obtain ⟨x,r,e,a,b⟩:=h
  exact ⟨x,r,e,Rep.mono s a,Reps.mono s b⟩
end
theorem Reps.nil : Reps K H [] []:=by rw [Reps]
theorem Reps.cons {d : D} {ds : List D} {x : V} {xs : List V} (a : Rep K H d x) (b : Reps K H ds xs) : Reps K H (d::ds) (x::xs):=by rw [Reps]; exact ⟨x,xs,rfl,a,b⟩
theorem Reps.length : ∀ {ds : List D} {xs : List V},Reps K H ds xs->ds.length = xs.length
 | [],_,h=>by rw [Reps] at h; subst h; rfl
 | d::ds,_,h=>by
  rw [Reps] at h
  obtain ⟨x,r,rfl,_,b⟩:=h
  simp [b.length]
theorem Reps.get : ∀ {ds : List D} {xs : List V} {i : Nat} {x : V},Reps K H ds xs->xs[i]? = some x -> ∃ d,ds[i]? = some d/\Rep K H d x
 | [],_,_,_,h,e=>by rw [Reps] at h; subst h; simp at e
 | d::ds,_,0,_,h,e=>by
  rw [Reps] at h
  obtain ⟨y,r,rfl,a,_⟩:=h
  cases e
  exact ⟨d,rfl,a⟩
 | d::ds,_,i + 1,_,h,e=>by
  rw [Reps] at h
  obtain ⟨y,r,rfl,_,b⟩:=h
  exact Reps.get (i:=i) b e
theorem Reps.get' : ∀ {ds : List D} {xs : List V} {i : Nat} {d : D},Reps K H ds xs->ds[i]? = some d -> ∃ x,xs[i]? = some x/\Rep K H d x:=fun {ds xs i d} h e=>by
 have hl:=h.length
 have hi:=(Zg7.mp e).1
 obtain ⟨d',e',r⟩:=h.get (i:=i) (x:=xs[i]'(by lia)) (Zg1 _)
 rw [e] at e'; cases e'
 exact ⟨_,Zg1 _,r⟩
theorem Reps.append : ∀ {ds es : List D} {xs ys : List V},Reps K H ds xs->Reps K H es ys->Reps K H (ds++es) (xs++ys)
 | [],_,_,_,h,h2=>by rw [Reps] at h; subst h; exact h2
 | d::ds,_,_,_,h,h2=>by
  rw [Reps] at h
  obtain ⟨y,r,rfl,a,b⟩:=h
  exact Reps.cons a (Reps.append b h2)
theorem Reps.snoc {ds : List D} {xs : List V} {d : D} {x : V} (h : Reps K H ds xs) (a : Rep K H d x) : Reps K H (ds++[d]) (xs++[x]):=h.append (.cons a .nil)
theorem Reps.drop : ∀ (n : Nat) {ds : List D} {xs : List V},Reps K H ds xs->Reps K H (ds.drop n) (xs.drop n)
 | 0,_,_,h=>h
 | n + 1,[],_,h=>by rw [Reps] at h; subst h; exact Reps.nil
 | n + 1,d::ds,_,h=>by
  rw [Reps] at h
  obtain ⟨y,r,rfl,_,b⟩:=h
  exact Reps.drop n b
theorem Reps.take : ∀ (n : Nat) {ds : List D} {xs : List V},Reps K H ds xs->Reps K H (ds.take n) (xs.take n)
 | 0,_,_,h=>Reps.nil
 | n + 1,[],_,h=>by rw [Reps] at h; subst h; exact Reps.nil
 | n + 1,d::ds,_,h=>by
  rw [Reps] at h
  obtain ⟨y,r,rfl,a,b⟩:=h
  exact Reps.cons a (Reps.take n b)
theorem Rep.lst {ds : List D} {p : Addr} {xs : List V} (q : SqL K H p xs) (r : Reps K H ds xs) : Rep K H (.lst ds) (.ref p):=by rw [Rep]; exact ⟨p,xs,rfl,q,r⟩
theorem Rep.tup {ds : List D} {p : Addr} {xs : List V} (q : SqT K H p xs) (r : Reps K H ds xs) (t : zfo ds = true->H p = some (.tup xs)) : Rep K H (.tup ds) (.ref p):=by rw [Rep]; exact ⟨p,xs,rfl,q,r,t⟩
theorem Rep.tupN {ds : List D} {p : Addr} {xs : List V} (q : H p = some (.tup xs)) (r : Reps K H ds xs) : Rep K H (.tup ds) (.ref p):=Rep.tup (SqT.of q) r fun _=>q
theorem Rep.int {i : Int} : Rep K H (.int i) (.int i):=by rw [Rep]
theorem Rep.bl {b : Bool} : Rep K H (.bl b) (.bl b):=by rw [Rep]
theorem Rep.str {l : List Nat} (h : ∀ c∈l,c < 128) : Rep K H (.str l) (.str (T l)):=by rw [Rep]; exact ⟨rfl,h⟩
theorem Rep.non : Rep K H .non .non:=by rw [Rep]
theorem Rep.of_int {i : Int} {v : V} (h : Rep K H (.int i) v) : v = .int i:=by rw [Rep] at h; exact h
theorem Rep.of_bl {b : Bool} {v : V} (h : Rep K H (.bl b) v) : v = .bl b:=by rw [Rep] at h; exact h
theorem Rep.of_str {l : List Nat} {v : V} (h : Rep K H (.str l) v) : v = .str (T l):=by rw [Rep] at h; exact h.1
theorem Rep.asc {l : List Nat} {v : V} (h : Rep K H (.str l) v) : ∀ c∈l,c < 128:=by rw [Rep] at h; exact h.2
theorem Rep.of_non {v : V} (h : Rep K H .non v) : v = .non:=by rw [Rep] at h; exact h
theorem Rep.of_lst {ds : List D} {v : V} (h : Rep K H (.lst ds) v) : ∃ p xs,v = .ref p/\SqL K H p xs/\Reps K H ds xs:=by rw [Rep] at h; exact h
theorem Rep.of_tup {ds : List D} {v : V} (h : Rep K H (.tup ds) v) : ∃ p xs,v = .ref p/\SqT K H p xs/\Reps K H ds xs:=by rw [Rep] at h; obtain ⟨p,xs,e,q,r,_⟩:=h; exact ⟨p,xs,e,q,r⟩
theorem Rep.trk {ds : List D} {v : V} (h : Rep K H (.tup ds) v) (z : zfo ds = true) : ∃ p xs,v = .ref p/\H p = some (.tup xs)/\Reps K H ds xs:=by rw [Rep] at h; obtain ⟨p,xs,e,_,r,t⟩:=h; exact ⟨p,xs,e,t z,r⟩
theorem Rep.of_dct {ks vs : List D} {v : V} (h : Rep K H (.dct ks vs) v) : ∃ p kv,v = .ref p/\H p = some (.dK kv)/\Reps K H ks (kv.map fun q=>kV q.1)/\Reps K H vs (kv.map fun q=>q.2):=by rw [Rep] at h; exact h
theorem Rep.of_ins {C : Addr} {ns : List Str} {vs : List D} {v : V} (h : Rep K H (.ins C ns vs) v) : ∃ x dx fs,v = .ref x/\H x = some (.ins C dx fs)/\H dx = some (.own x)/\fs.map (fun q=>q.1) = ns/\Reps K H vs (fs.map fun q=>q.2):=by rw [Rep] at h; exact h
theorem Reps.ints {p : Addr} : ∀ (ns : List Int),Reps K H (ns.map D.int) (ns.map V.int)
 | []=>Reps.nil
 | n::ns=>Reps.cons Rep.int (Reps.ints (p:=p) ns)
end
noncomputable def NT : HO->Prop
 | .tup _=>False
 | _=>True
structure Ext (G H₀ F H : Hp) : Prop where
 gf : Same G F
 fh : Same F H
 hh : Same H₀ H
 no : ∀ b o,H₀ b = some o->NT o->F b = G b
theorem Ext.refl {G H : Hp} (s : Same G H) : Ext G H G H:=⟨Same.refl _,s,Same.refl _,fun _ _ _ _=>rfl⟩
theorem Ext.trans {G H F1 H1 F2 H2 : Hp} (a : Ext G H F1 H1) (b : Ext F1 H1 F2 H2) : Ext G H F2 H2 :=
 ⟨a.gf.trans b.gf,b.fh,a.hh.trans b.hh,fun c o e n=>(b.no c o (a.hh c o e) n).trans (a.no c o e n)⟩
theorem Ext.newF {G H₀ F H : Hp} (x : Ext G H₀ F H) {p : Addr} {o : HO} (hp : H p = none) : Ext G H₀ (upd F p o) (upd H p o):=by
 have fp : F p = none:=x.fh.free hp
 refine ⟨x.gf.trans (Same.upd fp),fun b u e=>?_,x.hh.trans (Same.upd hp),fun b u e n=>?_⟩
 ·by_cases hb : b = p
  ·subst hb; rw [zaj] at e ⊢; exact e
  ·rw [zam hb] at e ⊢; exact x.fh b u e
 ·have hb : b≠p:=fun z=>by subst z; have:=x.hh b u e; rw [hp] at this; cases this
  rw [zam hb]; exact x.no b u e n
theorem Ext.newO {G H₀ F H : Hp} (x : Ext G H₀ F H) {p : Addr} {o : HO} (hp : H p = none) : Ext G H₀ F (upd H p o) :=
 ⟨x.gf,x.fh.trans (Same.upd hp),x.hh.trans (Same.upd hp),x.no⟩
theorem Ext.write {G H₀ F H : Hp} (x : Ext G H₀ F H) {p : Addr} {o : HO} (fp : F p = none) (hp : H₀ p = none) : Ext G H₀ F (upd H p o) :=
 ⟨x.gf,fun b u e=>by rw [zam (zat e fp)]; exact x.fh b u e,fun b u e=>by rw [zam (zat e hp)]; exact x.hh b u e,x.no⟩
theorem Ext.freeze {G H₀ F H : Hp} (x : Ext G H₀ F H) {p : Addr} {o : HO} (fp : F p = none) (hp : H₀ p = none) (e : H p = some o) : Ext G H₀ (upd F p o) H:=by
 refine ⟨x.gf.trans (Same.upd fp),fun b u q=>?_,x.hh,fun b u q n=>?_⟩
 ·by_cases hb : b = p
  ·subst hb; rw [zaj] at q; cases q; exact e
  ·rw [zam hb] at q; exact x.fh b u q
 ·rw [zam (zat q hp)]; exact x.no b u q n
inductive Sl where
 | un | d (x : D) | o (p : Addr) (xs : List D) | oo (p : Addr) (qs : List (Addr × List D)) | g (v : V) (as : List Addr) (W : Hp->Hp->Prop)
noncomputable def Sl.ads : Sl->List Addr
 | .un=>[] | .d _=>[] | .o p _=>[p] | .oo p qs=>p::qs.map (·.1) | .g _ as _=>as
noncomputable def OwnL (K : Zgy) (H₀ F H : Hp) (p : Addr) (xs : List D) : Prop:=H₀ p = none/\F p = none /\ ∃ vs,H p = some (.lst vs)/\Reps K F xs vs
noncomputable def Stab (as : List Addr) (W : Hp->Hp->Prop) : Prop:=∀ F1 H1 F2 H2 : Hp,Same F1 F2->(∀ a∈as,H2 a = H1 a)->W F1 H1->W F2 H2
noncomputable def SlOk (K : Zgy) (H₀ F H : Hp) (ov : Option V) : Sl->Prop
 | .un=>True
 | .d x=>∃ v,ov = some v/\Rep K F x v
 | .o p xs=>ov = some (.ref p)/\OwnL K H₀ F H p xs
 | .oo p qs=>ov = some (.ref p)/\H₀ p = none/\F p = none/\H p = some (.lst (qs.map fun q=>V.ref q.1)) /\ ∀ q∈qs,OwnL K H₀ F H q.1 q.2
 | .g v as W=>ov = some v/\(∀ a∈as,H₀ a = none/\F a = none /\ ∃ o,H a = some o/\NT o)/\W F H/\Stab as W
structure Sat (K : Zgy) (G H₀ L F H : Hp) (σ : St) (ss : List Sl) : Prop where
 ext : Ext G H₀ F H
 fl : Same L F
 len : σ.length = ss.length
 ok : ∀ (i : Nat) s,ss[i]? = some s->SlOk K H₀ F H (σ.getD i none) s
 nd : ∀ (i : Nat) s,ss[i]? = some s->s.ads.Nodup
 ne : ∀ (i j : Nat) s s',i≠j->ss[i]? = some s->ss[j]? = some s' -> ∀ p∈s.ads,p ∉ s'.ads
section
variable {K : Zgy} {H₀ F H F' H' : Hp}
theorem OwnL.ext2 {p : Addr} {xs : List D} (h : OwnL K H₀ F H p xs) (e : Ext F H F' H') : OwnL K H₀ F' H' p xs:=by
 obtain ⟨h0,fp,vs,hp,r⟩:=h
 exact ⟨h0,(e.no p _ hp trivial).trans fp,vs,e.hh p _ hp,r.mono e.gf⟩
theorem SlOk.ext2 {ov : Option V} {s : Sl} (h : SlOk K H₀ F H ov s) (e : Ext F H F' H') : SlOk K H₀ F' H' ov s:=by
 cases s with
 | un=>trivial
 | d x=>obtain ⟨v,ev,r⟩:=h; exact ⟨v,ev,r.mono e.gf⟩
 | o p xs=>exact ⟨h.1,h.2.ext2 e⟩
 | oo p qs =>
  obtain ⟨ev,h0,fp,hp,hq⟩:=h
  exact ⟨ev,h0,(e.no p _ hp trivial).trans fp,e.hh p _ hp,fun q hm=>(hq q hm).ext2 e⟩
 | g v as W =>
  obtain ⟨ev,ha,hw,st⟩:=h
  refine ⟨ev,fun a hm=>?_,st _ _ _ _ e.gf (fun a hm=>?_) hw,st⟩
  ·obtain ⟨h0,fa,o,ho,nt⟩:=ha a hm
   exact ⟨h0,(e.no a _ ho nt).trans fa,o,e.hh a _ ho,nt⟩
  ·obtain ⟨h0,fa,o,ho,nt⟩:=ha a hm
   rw [e.hh a _ ho,ho]
theorem OwnL.updNe {p a : Addr} {o : HO} {xs : List D} (h : OwnL K H₀ F H p xs) (hn : p≠a) : OwnL K H₀ F (upd H a o) p xs:=by
 obtain ⟨h0,fp,vs,hp,r⟩:=h
 exact ⟨h0,fp,vs,by rw [zam hn]; exact hp,r⟩
theorem SlOk.updNe {ov : Option V} {s : Sl} {a : Addr} {o : HO} (h : SlOk K H₀ F H ov s) (hn : a ∉ s.ads) : SlOk K H₀ F (upd H a o) ov s:=by
 cases s with
 | un=>trivial
 | d x=>exact h
 | o p xs=>exact ⟨h.1,h.2.updNe fun z=>hn (by simp [Sl.ads,z])⟩
 | oo p qs =>
  obtain ⟨ev,h0,fp,hp,hq⟩:=h
  refine ⟨ev,h0,fp,by rw [zam fun z=>hn (by simp [Sl.ads,z])]; exact hp,fun q hm=>(hq q hm).updNe fun z=>hn ?_⟩
  rw [<- z]
  exact Zhd _ (Zjb hm)
 | g v as W =>
  obtain ⟨ev,ha,hw,st⟩:=h
  have hne : ∀ b∈as,b≠a:=fun b hm z=>hn (by rw [<- z]; exact hm)
  refine ⟨ev,fun b hm=>?_,st _ _ _ _ (Same.refl _) (fun b hm=>zam (hne b hm)) hw,st⟩
  obtain ⟨h0,fa,x,ho,nt⟩:=ha b hm
  exact ⟨h0,fa,x,by rw [zam (hne b hm)]; exact ho,nt⟩
theorem OwnL.frz {p a : Addr} {o : HO} {xs : List D} (h : OwnL K H₀ F H p xs) (fa : F a = none) (hn : p≠a) : OwnL K H₀ (upd F a o) H p xs:=by
 obtain ⟨h0,fp,vs,hp,r⟩:=h
 exact ⟨h0,by rw [zam hn]; exact fp,vs,hp,r.mono (Same.upd fa)⟩
theorem SlOk.frz {ov : Option V} {s : Sl} {a : Addr} {o : HO} (h : SlOk K H₀ F H ov s) (fa : F a = none) (hn : a ∉ s.ads) : SlOk K H₀ (upd F a o) H ov s:=by
 cases s with
 | un=>trivial
 | d x=>obtain ⟨v,ev,r⟩:=h; exact ⟨v,ev,r.mono (Same.upd fa)⟩
 | o p xs=>exact ⟨h.1,h.2.frz fa fun z=>hn (by simp [Sl.ads,z])⟩
 | oo p qs =>
  obtain ⟨ev,h0,fp,hp,hq⟩:=h
  refine ⟨ev,h0,by rw [zam fun z=>hn (by simp [Sl.ads,z])]; exact fp,hp,fun q hm=>(hq q hm).frz fa fun z=>hn ?_⟩
  rw [<- z]
  exact Zhd _ (Zjb hm)
 | g v as W =>
  obtain ⟨ev,ha,hw,st⟩:=h
  have hne : ∀ b∈as,b≠a:=fun b hm z=>hn (by rw [<- z]; exact hm)
  refine ⟨ev,fun b hm=>?_,st _ _ _ _ (Same.upd fa) (fun _ _=>rfl) hw,st⟩
  obtain ⟨h0,fb,x,ho,nt⟩:=ha b hm
  exact ⟨h0,by rw [zam (hne b hm)]; exact fb,x,ho,nt⟩
theorem SlOk.live {ov : Option V} {s : Sl} (h : SlOk K H₀ F H ov s) {p : Addr} (hp : p∈s.ads) : H p≠none:=by
 cases s with
 | un=>simp [Sl.ads] at hp
 | d x=>simp [Sl.ads] at hp
 | o q xs =>
  obtain ⟨_,_,_,vs,hq,_⟩:=h
  simp [Sl.ads] at hp; subst hp; rw [hq]; simp
 | oo q qs =>
  obtain ⟨ev,h0,fp,hq,hqs⟩:=h
  rcases Zhp.mp hp with rfl | hp
  ·rw [hq]; simp
  ·obtain ⟨r,hr,rfl⟩:=Zhk.mp hp
   obtain ⟨_,_,vs,hv,_⟩:=hqs r hr
   rw [hv]; simp
 | g v as W =>
  obtain ⟨ev,ha,hw,st⟩:=h
  obtain ⟨_,_,x,ho,_⟩:=ha p hp
  rw [ho]; simp
end
section
variable {K : Zgy} {G H₀ L F H F' H' : Hp} {σ : St} {ss : List Sl}
theorem Sat.ext2 (S : Sat K G H₀ L F H σ ss) (e : Ext F H F' H') : Sat K G H₀ L F' H' σ ss :=
 ⟨S.ext.trans e,S.fl.trans e.gf,S.len,fun i s hs=>(S.ok i s hs).ext2 e,S.nd,S.ne⟩
theorem Sat.get (S : Sat K G H₀ L F H σ ss) {i : Nat} {s : Sl} (hs : ss[i]? = some s) (hn : s ≠ .un) : ∃ v,σ[i]? = some (some v)/\SlOk K H₀ F H (some v) s:=by
 have hi : i < σ.length:=by rw [S.len]; exact (Zg7.mp hs).1
 have:=S.ok i s hs
 rw [Zg0,Zg1 hi] at this
 simp only [Zm9] at this
 cases hv : σ[i] with
 | none =>
  rw [hv] at this
  cases s with
  | un=>exact absurd rfl hn
  | d x=>obtain ⟨v,ev,_⟩:=this; cases ev
  | o p xs=>obtain ⟨ev,_⟩:=this; cases ev
  | oo p qs=>obtain ⟨ev,_⟩:=this; cases ev
  | g v as W=>obtain ⟨ev,_⟩:=this; cases ev
 | some v =>
  rw [hv] at this
  exact ⟨v,by rw [Zg1 hi,hv],this⟩
theorem Sat.getD (S : Sat K G H₀ L F H σ ss) {i : Nat} {x : D} (hs : ss[i]? = some (.d x)) : ∃ v,σ[i]? = some (some v)/\Rep K F x v:=by
 obtain ⟨v,e,w,ew,r⟩:=S.get hs (by intro z; cases z)
 cases ew
 exact ⟨v,e,r⟩
theorem Sat.getO (S : Sat K G H₀ L F H σ ss) {i : Nat} {p : Addr} {xs : List D} (hs : ss[i]? = some (.o p xs)) : σ[i]? = some (some (.ref p))/\OwnL K H₀ F H p xs:=by
 obtain ⟨v,e,ew,r⟩:=S.get hs (by intro z; cases z)
 cases ew
 exact ⟨e,r⟩
theorem za6 {σ : St} {i : Nat} {v : Option V} (h : i < σ.length) : (σ.set i v).getD i none = v:=by
 rw [Zg0,Ziq h]; rfl
theorem zbm {σ : St} {i j : Nat} {v : Option V} (h : i≠j) : (σ.set i v).getD j none = σ.getD j none:=by
 rw [Zg0,Zjk h,Zg0]
theorem zga {i j : Nat} {s t : Sl} (h : (ss.set i s)[j]? = some t) : (i = j/\t = s/\i < ss.length) \/ (i≠j/\ss[j]? = some t):=by
 by_cases hj : i = j
 ·subst hj
  have hi:=(Zg7.mp h).1
  rw [Zss] at hi
  rw [Ziq hi] at h
  exact .inl ⟨rfl,(Zit h).symm,hi⟩
 ·rw [Zjk hj] at h; exact .inr ⟨hj,h⟩
theorem Sat.put {σ' : St} (S : Sat K G H₀ L F H σ ss) {i : Nat} {s : Sl} (ex : Ext G H₀ F' H') (fl : Same L F') (hl : σ'.length = σ.length) (hσ : ∀ j,j≠i->σ'.getD j none = σ.getD j none) (hi : i < ss.length->SlOk K H₀ F' H' (σ'.getD i none) s)
  (nd : s.ads.Nodup) (dj : ∀ (j : Nat) s',j≠i->ss[j]? = some s' -> ∀ p∈s.ads,p ∉ s'.ads) (st : ∀ (j : Nat) s',j≠i->ss[j]? = some s'->SlOk K H₀ F' H' (σ.getD j none) s') : Sat K G H₀ L F' H' σ' (ss.set i s):=by
 refine ⟨ex,fl,by rw [Zss,hl,S.len],fun j t ht=>?_,fun j t ht=>?_,fun j k t u hjk ht hu=>?_⟩
 ·rcases zga ht with ⟨rfl,rfl,hlt⟩ | ⟨hj,ht⟩
  ·exact hi hlt
  ·rw [hσ j (Zif hj)]; exact st j t (Zif hj) ht
 ·rcases zga ht with ⟨rfl,rfl,_⟩ | ⟨hj,ht⟩
  ·exact nd
  ·exact S.nd j t ht
 ·rcases zga ht with ⟨rfl,rfl,_⟩ | ⟨hj,ht'⟩
  ·rcases zga hu with ⟨rfl,rfl,_⟩ | ⟨hk,hu'⟩
   ·exact absurd rfl hjk
   ·exact dj k u (Zif hk) hu'
  ·rcases zga hu with ⟨rfl,rfl,_⟩ | ⟨hk,hu'⟩
   ·exact fun p hp hp'=>dj j t (Zif hj) ht' p hp' hp
   ·exact S.ne j k t u hjk ht' hu'
theorem Sat.setD (S : Sat K G H₀ L F H σ ss) {i : Nat} {x : D} {v : V} (r : Rep K F x v) : Sat K G H₀ L F H (σ.set i (some v)) (ss.set i (.d x)) :=
 S.put S.ext S.fl (by simp) (fun j hj=>zbm (Zif hj)) (fun hi=>by rw [za6 (by rw [S.len]; exact hi)]; exact ⟨v,rfl,r⟩) (by simp [Sl.ads]) (fun _ _ _ _ p hp=>by simp [Sl.ads] at hp) fun j s' _ h=>S.ok j s' h
theorem Sat.setO (S : Sat K G H₀ L F H σ ss) {i : Nat} {xs : List D} {p : Addr} (r : OwnL K H₀ F H p xs) (hne : ∀ (j : Nat) s',j≠i->ss[j]? = some s'->p ∉ s'.ads) : Sat K G H₀ L F H (σ.set i (some (.ref p))) (ss.set i (.o p xs)) :=
 S.put S.ext S.fl (by simp) (fun j hj=>zbm (Zif hj)) (fun hi=>by rw [za6 (by rw [S.len]; exact hi)]; exact ⟨rfl,r⟩) (by simp [Sl.ads]) (fun j s' hj h q hq=>by simp [Sl.ads] at hq; subst hq; exact hne j s' hj h) fun j s' _ h=>S.ok j s' h
theorem Sat.write (S : Sat K G H₀ L F H σ ss) {i : Nat} {xs ys : List D} {p : Addr} {vs : List V} (hs : ss[i]? = some (.o p xs)) (r : Reps K F ys vs) : Sat K G H₀ L F (upd H p (.lst vs)) σ (ss.set i (.o p ys)):=by
 obtain ⟨e,h0,fp,ws,hp,_⟩:=S.getO hs
 have hget : σ.getD i none = some (.ref p):=by rw [Zg0,e]; rfl
 refine S.put (S.ext.write fp h0) S.fl rfl (fun _ _=>rfl) (fun _=>by rw [hget]; exact ⟨rfl,h0,fp,vs,zaj,r⟩) (by simp [Sl.ads]) (fun j s' hj h q hq=>?_) fun j s' hj h=>(S.ok j s' h).updNe (S.ne i j _ s' (Zif hj) hs h p (by simp [Sl.ads]))
 simp [Sl.ads] at hq; subst hq
 exact S.ne i j _ s' (Zif hj) hs h q (by simp [Sl.ads])
theorem Sat.freeze (S : Sat K G H₀ L F H σ ss) {i : Nat} {p : Addr} {xs : List D} (hs : ss[i]? = some (.o p xs)) : ∃ F',Sat K G H₀ L F' H σ (ss.set i (.d (.lst xs))):=by
 obtain ⟨e,h0,fp,vs,hp,r⟩:=S.getO hs
 have hget : σ.getD i none = some (.ref p):=by rw [Zg0,e]; rfl
 exact ⟨upd F p (.lst vs),S.put (S.ext.freeze fp h0 hp) (S.fl.trans (Same.upd fp)) rfl (fun _ _=>rfl) (fun _=>by rw [hget]; exact ⟨_,rfl,Rep.lst (SqL.of zaj) (r.mono (Same.upd fp))⟩) (by simp [Sl.ads]) (fun _ _ _ _ q hq=>by simp [Sl.ads] at hq)
  fun j s' hj h=>(S.ok j s' h).frz fp (S.ne i j _ s' (Zif hj) hs h p (by simp [Sl.ads]))⟩
theorem Sat.raise (S : Sat K G H₀ L F H σ ss) : Sat K G H₀ F F H σ ss:=⟨S.ext,Same.refl _,S.len,S.ok,S.nd,S.ne⟩
theorem Sat.lower {L' : Hp} (S : Sat K G H₀ L' F H σ ss) (h : Same L L') : Sat K G H₀ L F H σ ss:=⟨S.ext,h.trans S.fl,S.len,S.ok,S.nd,S.ne⟩
end
section
variable (K : Zgy) (G H₀ L : Hp) (ss : List Sl)
noncomputable def Ev (t : TE) (d : D) : Prop:=∀ F H σ Q,Sat K G H₀ L F H σ ss->(∀ v F' H',Ext F H F' H'->Rep K F' d v->Q v H')->t σ H Q
noncomputable def EvO (t : TE) (ds : List D) : Prop:=∀ F H σ Q,Sat K G H₀ L F H σ ss->(∀ p vs F' H',Ext F H F' H'->H p = none->F' p = none->H' p = some (.lst vs)->Reps K F' ds vs->Q (.ref p) H')->t σ H Q
noncomputable def EvL (t : TE) (ds : List D) : Prop:=∀ F H σ Q,Sat K G H₀ L F H σ ss->(∀ p vs F' H',Ext F H F' H'->SqL K H' p vs->Reps K F' ds vs->Q (.ref p) H')->t σ H Q
noncomputable def EvB (t : TE) (d : D) : Prop:=∀ F H σ Q,Sat K G H₀ L F H σ ss->(∀ v F' H',Ext F H F' H'->Rep K H' d v->Q v H')->t σ H Q
noncomputable def EvT (t : TT) (b : Bool) : Prop:=∀ F H σ (Q : Bool->Hp->Prop),Sat K G H₀ L F H σ ss->(∀ F' H',Ext F H F' H'->Q b H')->t σ H Q
noncomputable def EvA (t : TA) (ds : List D) : Prop:=∀ F H σ (Q : List V->Hp->Prop),Sat K G H₀ L F H σ ss->(∀ vs F' H',Ext F H F' H'->Reps K H' ds vs->Q vs H')->t σ H Q
noncomputable def EvAF (t : TA) (ds : List D) : Prop:=∀ F H σ (Q : List V->Hp->Prop),Sat K G H₀ L F H σ ss->(∀ vs F' H',Ext F H F' H'->Reps K F' ds vs->Q vs H')->t σ H Q
end
section
variable {K : Zgy} {G H₀ L : Hp} {ss : List Sl} {t ta tb : TE} {d d1 d2 : D} {ds es : List D}
theorem EvO.ev (h : EvO K G H₀ L ss t ds) : Ev K G H₀ L ss t (.lst ds):=fun F H σ Q S q=>h F H σ Q S fun p vs F' H' e hp fp hp' r=>q _ _ _ (e.freeze fp hp hp') (Rep.lst (SqL.of zaj) (r.mono (Same.upd fp)))
theorem EvO.l (h : EvO K G H₀ L ss t ds) : EvL K G H₀ L ss t ds:=fun F H σ Q S q=>h F H σ Q S fun p vs F' H' e hp fp hp' r=>q _ _ _ _ e (SqL.of hp') r
theorem Ev.l (h : Ev K G H₀ L ss t (.lst ds)) : EvL K G H₀ L ss t ds:=fun F H σ Q S q=>h F H σ Q S fun v F' H' e r=>by
 obtain ⟨p,xs,rfl,sq,rs⟩:=r.of_lst
 exact q _ _ _ _ e (SqL.same e.fh sq) rs
theorem Ev.b (h : Ev K G H₀ L ss t d) : EvB K G H₀ L ss t d:=fun F H σ Q S q=>h F H σ Q S fun v F' H' e r=>q _ _ _ e (r.mono e.fh)
theorem EvL.b (h : EvL K G H₀ L ss t ds) : EvB K G H₀ L ss t (.lst ds):=fun F H σ Q S q=>h F H σ Q S fun p vs F' H' e sq r=>q _ _ _ e (Rep.lst sq (r.mono e.fh))
theorem zac {i : Nat} (hs : ss[i]? = some (.d d)) : Ev K G H₀ L ss (tVar i) d:=fun F H σ Q S q=>by
 obtain ⟨v,e,r⟩:=S.getD hs
 exact ⟨v,e,q _ _ _ (Ext.refl S.ext.fh) r⟩
theorem zl5 {i : Nat} {p : Addr} (hs : ss[i]? = some (.o p ds)) : EvL K G H₀ L ss (tVar i) ds:=fun F H σ Q S q=>by
 obtain ⟨e,h0,fp,vs,hp,r⟩:=S.getO hs
 exact ⟨.ref p,e,q _ _ _ _ (Ext.refl S.ext.fh) (SqL.of hp) r⟩
theorem zak {i : Int} : Ev K G H₀ L ss (tC (.int i)) (.int i):=fun F H σ Q S q=>q _ _ _ (Ext.refl S.ext.fh) Rep.int
theorem zmg {b : Bool} : Ev K G H₀ L ss (tC (.bl b)) (.bl b):=fun F H σ Q S q=>q _ _ _ (Ext.refl S.ext.fh) Rep.bl
theorem zzs : Ev K G H₀ L ss (tC .non) .non:=fun F H σ Q S q=>q _ _ _ (Ext.refl S.ext.fh) Rep.non
theorem zgb {x : Str} {l : List Nat} (h : x = T l) (ha : ∀ c∈l,c < 128) : Ev K G H₀ L ss (tC (.str x)) (.str l):=fun F H σ Q S q=>by subst h; exact q _ _ _ (Ext.refl S.ext.fh) (Rep.str ha)
theorem zfm {r : R2} {w : V} (a : EvB K G H₀ L ss ta d1) (b : EvB K G H₀ L ss tb d2) (hr : ∀ H x y (Q : VK),Rep K H d1 x->Rep K H d2 y->Q w H->r x y H Q) (hw : ∀ F H x y,Rep K H d1 x->Rep K H d2 y->Rep K F d w) : Ev K G H₀ L ss (tOp r ta tb) d:=fun F H σ Q S q =>
 a F H σ _ S fun x F1 H1 e1 r1=>b F1 H1 σ _ (S.ext2 e1) fun y F2 H2 e2 r2=>hr H2 x y Q (r1.mono e2.hh) r2 (q _ _ _ (e1.trans e2) (hw _ _ _ _ (r1.mono e2.hh) r2))
theorem zd9 {i j : Int} (a : EvB K G H₀ L ss ta (.int i)) (b : EvB K G H₀ L ss tb (.int j)) : Ev K G H₀ L ss (tOp (rI0 fun i j=>.int (i + j)) ta tb) (.int (i + j)) :=
 zfm a b (fun H x y Q r1 r2 q=>⟨i,j,r1.of_int,r2.of_int,q⟩) fun _ _ _ _ _ _=>Rep.int
theorem yfb {i j : Int} (a : EvB K G H₀ L ss ta (.int i)) (b : EvB K G H₀ L ss tb (.int j)) : Ev K G H₀ L ss (tOp (rI0 fun i j=>.int (i - j)) ta tb) (.int (i - j)) :=
 zfm a b (fun H x y Q r1 r2 q=>⟨i,j,r1.of_int,r2.of_int,q⟩) fun _ _ _ _ _ _=>Rep.int
theorem zub {C : Int->Int->Prop} {g : Int->Int->Int} {i j : Int} (a : EvB K G H₀ L ss ta (.int i)) (b : EvB K G H₀ L ss tb (.int j)) (hC : C i j) : Ev K G H₀ L ss (tOp (rI C fun i j=>.int (g i j)) ta tb) (.int (g i j)) :=
 zfm a b (fun H x y Q r1 r2 q=>⟨i,j,r1.of_int,r2.of_int,hC,q⟩) fun _ _ _ _ _ _=>Rep.int
theorem zkj {g : Int->Int->Bool} {i j : Int} (a : EvB K G H₀ L ss ta (.int i)) (b : EvB K G H₀ L ss tb (.int j)) : Ev K G H₀ L ss (tOp (rI0 fun i j=>.bl (g i j)) ta tb) (.bl (g i j)) :=
 zfm a b (fun H x y Q r1 r2 q=>⟨i,j,r1.of_int,r2.of_int,q⟩) fun _ _ _ _ _ _=>Rep.bl
theorem ze8 {i j : Int} (a : EvB K G H₀ L ss ta (.int i)) (b : EvB K G H₀ L ss tb (.int j)) : Ev K G H₀ L ss (tOp rEq ta tb) (.bl (decide (i = j))) :=
 zfm (w:=.bl (decide (i = j))) a b (fun H x y Q r1 r2 q=>by rw [r1.of_int,r2.of_int]; exact ⟨rfl,by simpa using q⟩) fun _ _ _ _ _ _=>Rep.bl
theorem zw4 {i j : Int} (a : EvB K G H₀ L ss ta (.int i)) (b : EvB K G H₀ L ss tb (.int j)) : Ev K G H₀ L ss (tOp rNe ta tb) (.bl (!decide (i = j))) :=
 zfm (w:=.bl (!decide (i = j))) a b (fun H x y Q r1 r2 q=>by rw [r1.of_int,r2.of_int]; exact ⟨rfl,by simpa using q⟩) fun _ _ _ _ _ _=>Rep.bl
theorem zhn {l m : List Nat} (a : EvB K G H₀ L ss ta (.str l)) (b : EvB K G H₀ L ss tb (.str m)) : Ev K G H₀ L ss (tOp rEq ta tb) (.bl (decide (l = m))) :=
 zfm (w:=.bl (decide (l = m))) a b (fun H x y Q r1 r2 q=>by rw [r1.of_str,r2.of_str]; exact ⟨rfl,by rw [zxq]; exact q⟩) fun _ _ _ _ _ _=>Rep.bl
theorem zuv {l m : Bool} (a : EvB K G H₀ L ss ta (.bl l)) (b : EvB K G H₀ L ss tb (.bl m)) : Ev K G H₀ L ss (tOp rNe ta tb) (.bl (!decide (l = m))) :=
 zfm (w:=.bl (!decide (l = m))) a b (fun H x y Q r1 r2 q=>by rw [r1.of_bl,r2.of_bl]; exact ⟨rfl,by simpa using q⟩) fun _ _ _ _ _ _=>Rep.bl
theorem Reps.atI {H : Hp} {ds : List D} {vs : List V} {i : Int} {d : D} (r : Reps K H ds vs) (h : L2.atI ds i = some d) : ∃ v,L2.atI vs i = some v/\Rep K H d v:=by
 unfold L2.atI at h ⊢
 rw [r.length] at h
 cases hx : ixN vs.length i with
 | none=>rw [hx] at h; cases h
 | some j=>rw [hx] at h; exact r.get' h
theorem zho {i : Int} (a : EvL K G H₀ L ss ta ds) (b : EvB K G H₀ L ss tb (.int i)) (hc : atI ds i = some d) : Ev K G H₀ L ss (tOp (rIxL K) ta tb) d:=fun F H σ Q S q =>
 a F H σ _ S fun p vs F1 H1 e1 sq r1=>b F1 H1 σ _ (S.ext2 e1) fun y F2 H2 e2 r2=>by
  obtain ⟨v,hv,rv⟩:=r1.atI hc
  exact ⟨p,vs,i,v,rfl,r2.of_int,SqL.same e2.hh sq,hv,q _ _ _ (e1.trans e2) (rv.mono e2.gf)⟩
theorem zbd {i : Int} (a : Ev K G H₀ L ss ta (.tup ds)) (b : EvB K G H₀ L ss tb (.int i)) (hc : atI ds i = some d) : Ev K G H₀ L ss (tOp (rIxT K) ta tb) d:=fun F H σ Q S q =>
 a F H σ _ S fun x F1 H1 e1 r1=>b F1 H1 σ _ (S.ext2 e1) fun y F2 H2 e2 r2=>by
  obtain ⟨p,vs,rfl,sq,rs⟩:=r1.of_tup
  obtain ⟨v,hv,rv⟩:=rs.atI hc
  exact ⟨p,vs,i,v,rfl,r2.of_int,SqT.same (e1.fh.trans e2.hh) sq,hv,q _ _ _ (e1.trans e2) (rv.mono e2.gf)⟩
theorem zhb : EvA K G H₀ L ss tNil []:=fun F H σ Q S q=>q _ _ _ (Ext.refl S.ext.fh) Reps.nil
theorem zd1 {t : TA} (a : EvB K G H₀ L ss ta d) (b : EvA K G H₀ L ss t ds) : EvA K G H₀ L ss (za3 ta t) (d::ds):=fun F H σ Q S q =>
 a F H σ _ S fun x F1 H1 e1 r1=>b F1 H1 σ _ (S.ext2 e1) fun vs F2 H2 e2 r2=>q _ _ _ (e1.trans e2) (Reps.cons (r1.mono e2.hh) r2)
theorem zaf : EvAF K G H₀ L ss tNil []:=fun F H σ Q S q=>q _ _ _ (Ext.refl S.ext.fh) Reps.nil
theorem zaa {t : TA} (a : Ev K G H₀ L ss ta d) (b : EvAF K G H₀ L ss t ds) : EvAF K G H₀ L ss (za3 ta t) (d::ds):=fun F H σ Q S q =>
 a F H σ _ S fun x F1 H1 e1 r1=>b F1 H1 σ _ (S.ext2 e1) fun vs F2 H2 e2 r2=>q _ _ _ (e1.trans e2) (Reps.cons (r1.mono e2.gf) r2)
theorem zbo {t : TA} (a : EvAF K G H₀ L ss t ds) (hz : ds.length <= sizeLine) : Ev K G H₀ L ss (tTup t) (.tup ds):=fun F H σ Q S q =>
 a F H σ _ S fun vs F1 H1 e1 r1=>⟨by rw [<- r1.length]; exact hz,fun p hp=>q _ _ _ (e1.newF hp) (Rep.tupN (zaj) (r1.mono (Same.upd (e1.fh.free hp))))⟩
theorem za4 {t : TA} (a : EvAF K G H₀ L ss t ds) (hz : ds.length <= sizeLine) : EvO K G H₀ L ss (tLst t) ds:=fun F H σ Q S q =>
 a F H σ _ S fun vs F1 H1 e1 r1=>⟨by rw [<- r1.length]; exact hz,fun p hp=>q p vs F1 _ (e1.newO hp) (e1.hh.free hp) (e1.fh.free hp) zaj r1⟩
theorem zan {b : Bool} (a : Ev K G H₀ L ss t (.bl b)) : EvT K G H₀ L ss (ydy t) b:=fun F H σ Q S q=>a F H σ _ S fun v F' H' e r=>⟨b,r.of_bl,q _ _ e⟩
theorem zie {b : Bool} (a : Ev K G H₀ L ss t (.bl b)) : EvT K G H₀ L ss (tB t) b:=fun F H σ Q S q=>a F H σ _ S fun v F' H' e r=>⟨b,r.of_bl,q _ _ e⟩
theorem zev {u : TT} {b : Bool} (a : EvT K G H₀ L ss u b) : EvT K G H₀ L ss (tNot u) (!b):=fun F H σ Q S q=>a F H σ _ S fun F' H' e=>q _ _ e
theorem zif {u v : TT} {b c : Bool} (a : EvT K G H₀ L ss u b) (h : b = true->EvT K G H₀ L ss v c) : EvT K G H₀ L ss (tAnd u v) (b && c):=fun F H σ Q S q=>a F H σ _ S fun F' H' e=>by
 cases b with
 | false=>exact iteF (q _ _ e)
 | true=>exact iteT (h rfl _ _ _ _ (S.ext2 e) fun F'' H'' e'=>q _ _ (e.trans e'))
theorem ziy {u v : TT} {b c : Bool} (a : EvT K G H₀ L ss u b) (h : b = false->EvT K G H₀ L ss v c) : EvT K G H₀ L ss (tOr u v) (b || c):=fun F H σ Q S q=>a F H σ _ S fun F' H' e=>by
 cases b with
 | true=>exact iteT (q _ _ e)
 | false=>exact iteF (h rfl _ _ _ _ (S.ext2 e) fun F'' H'' e'=>q _ _ (e.trans e'))
theorem zgg {b c : Bool} (a : Ev K G H₀ L ss ta (.bl b)) (h : b = true->Ev K G H₀ L ss tb (.bl c)) : Ev K G H₀ L ss (ydx ta tb) (.bl (b && c)):=fun F H σ Q S q=>a F H σ _ S fun v F' H' e r=>by
 refine ⟨b,r.of_bl,?_⟩
 cases b with
 | false=>exact iteF (q _ _ _ e Rep.bl)
 | true=>exact iteT (h rfl _ _ _ _ (S.ext2 e) fun v F'' H'' e' r'=>q _ _ _ (e.trans e') r')
theorem yeb {b c : Bool} (a : Ev K G H₀ L ss ta (.bl b)) (h : b = false->Ev K G H₀ L ss tb (.bl c)) : Ev K G H₀ L ss (tOrV ta tb) (.bl (b || c)):=fun F H σ Q S q=>a F H σ _ S fun v F' H' e r=>by
 refine ⟨b,r.of_bl,?_⟩
 cases b with
 | true=>exact iteT (q _ _ _ e Rep.bl)
 | false=>exact iteF (h rfl _ _ _ _ (S.ext2 e) fun v F'' H'' e' r'=>q _ _ _ (e.trans e') r')
theorem yd1 {b : Bool} (a : Ev K G H₀ L ss ta (.bl b)) : Ev K G H₀ L ss (ydr ta) (.bl (!b)):=fun F H σ Q S q=>a F H σ _ S fun v F' H' e r=>⟨b,r.of_bl,q _ _ _ e Rep.bl⟩
theorem yfu {u : TT} {b : Bool} (a : EvT K G H₀ L ss u b) (h1 : b = true->Ev K G H₀ L ss ta d) (h2 : b = false->Ev K G H₀ L ss tb d) : Ev K G H₀ L ss (tIf u ta tb) d:=fun F H σ Q S q=>a F H σ _ S fun F' H' e=>by
 cases b with
 | true=>exact iteT (h1 rfl _ _ _ _ (S.ext2 e) fun v F'' H'' e' r'=>q _ _ _ (e.trans e') r')
 | false=>exact iteF (h2 rfl _ _ _ _ (S.ext2 e) fun v F'' H'' e' r'=>q _ _ _ (e.trans e') r')
end
noncomputable def SpD (K : Zgy) (pre : List D->Prop) (res : List D->D) : Sp:=fun vs H Q _=>∃ G ds,Same G H/\Reps K G ds vs/\pre ds /\ ∀ v G' H',Ext G H G' H'->Rep K G' (res ds) v->Q v H'
noncomputable def SpO (K : Zgy) (pre : List D->Prop) (res : List D->List D) : Sp:=fun vs H Q _=>∃ G ds,Same G H/\Reps K G ds vs/\pre ds /\ ∀ p ws G' H',Ext G H G' H'->H p = none->G' p = none->H' p = some (.lst ws)->Reps K G' (res ds) ws->Q (.ref p) H'
noncomputable def D.flat : D->Bool
 | .lst _=>false | .tup _=>false | .dct _ _=>false | .dctT _ _=>false | .ins _ _ _=>false | _=>true
theorem Rep.flat {K : Zgy} {H H' : Hp} {d : D} {v : V} (f : d.flat = true) (r : Rep K H d v) : Rep K H' d v:=by
 cases d with
 | lst _=>cases f
 | tup _=>cases f
 | dct _ _=>cases f
 | dctT _ _=>cases f
 | ins _ _ _=>cases f
 | non=>rw [r.of_non]; exact Rep.non
 | bl b=>rw [r.of_bl]; exact Rep.bl
 | int i=>rw [r.of_int]; exact Rep.int
 | str l=>rw [r.of_str]; exact Rep.str r.asc
section
variable {K : Zgy} {G H₀ L : Hp} {ss : List Sl} {t : TA} {ds : List D} {pre : List D->Prop} {E : XK}
theorem zcb {res : List D->D} (a : EvAF K G H₀ L ss t ds) (hp : pre ds) : Ev K G H₀ L ss (zgw (SpD K pre res) [] E t) (res ds):=fun F H σ Q S q =>
 a F H σ _ S fun vs F1 H1 e1 r1=>⟨F1,ds,e1.fh,by rw [Zik]; exact r1,hp,fun v G' H' e2 r=>q _ _ _ (e1.trans e2) r⟩
theorem zhm {res : List D->List D} (a : EvAF K G H₀ L ss t ds) (hp : pre ds) : EvO K G H₀ L ss (zgw (SpO K pre res) [] E t) (res ds):=fun F H σ Q S q =>
 a F H σ _ S fun vs F1 H1 e1 r1=>⟨F1,ds,e1.fh,by rw [Zik]; exact r1,hp,fun p ws G' H' e2 h1 h2 h3 r=>q _ _ _ _ (e1.trans e2) (e1.hh.free h1) h2 h3 r⟩
theorem zyu {res : List D->D} (a : EvA K G H₀ L ss t ds) (hp : pre ds) (hf : (res ds).flat = true) : Ev K G H₀ L ss (zgw (SpD K pre res) [] E t) (res ds):=fun F H σ Q S q =>
 a F H σ _ S fun vs F1 H1 e1 r1=>⟨H1,ds,Same.refl _,by rw [Zik]; exact r1,hp,fun v G' H' e2 r=>q v F1 H' (e1.trans ⟨Same.refl _,e1.fh.trans e2.hh,e2.hh,fun _ _ _ _=>rfl⟩) (r.flat hf)⟩
end
section
variable (K : Zgy) (G H₀ L : Hp)
noncomputable def Nx (P : St->Hp->Prop) (ss : List Sl) : Prop:=∀ F H σ,Sat K G H₀ L F H σ ss->P σ H
noncomputable def Go (E : Ends) (ss : List Sl) (t : TS) : Prop:=∀ F H σ,Sat K G H₀ L F H σ ss->t E σ H
noncomputable def Tg (g : TG) (d : D) (ss ss' : List Sl) : Prop:=∀ F H σ v (Q : St->Hp->Prop),Sat K G H₀ L F H σ ss->Rep K F d v->(∀ σ' , Sat K G H₀ L F H σ' ss'->Q σ' H)->g v σ H Q
noncomputable def Tgs (g : TGs) (ds : List D) (ss ss' : List Sl) : Prop:=∀ F H σ vs (Q : St->Hp->Prop),Sat K G H₀ L F H σ ss->Reps K F ds vs->(∀ σ' , Sat K G H₀ L F H σ' ss'->Q σ' H)->g vs σ H Q
noncomputable def At (I : List Sl->Prop) : St->Hp->Prop:=fun σ H=>∃ ss F,Sat K G H₀ L F H σ ss/\I ss
end
noncomputable def RtD (K : Zgy) (G H₀ : Hp) (rt : VK) (d : D) : Prop:=∀ v F H,Ext G H₀ F H->Rep K F d v->rt v H
noncomputable def RtO (K : Zgy) (G H₀ : Hp) (rt : VK) (ds : List D) : Prop:=∀ p vs F H,Ext G H₀ F H->H₀ p = none->F p = none->H p = some (.lst vs)->Reps K F ds vs->rt (.ref p) H
section
variable {K : Zgy} {G H₀ L : Hp} {ss ss' : List Sl} {E : Ends} {t u : TS} {te : TE} {d : D} {ds : List D} {P : St->Hp->Prop}
theorem zai (h : Go K G H₀ L { E with nx:=u E } ss t) : Go K G H₀ L E ss (tSeq t u):=h
theorem zay {i : Nat} (a : Ev K G H₀ L ss te d) (h : Nx K G H₀ L E.nx (ss.set i (.d d))) : Go K G H₀ L E ss (tAsg te (zfp i)):=fun F H σ S=>a F H σ _ S fun v F' H' e r=>h F' H' _ ((S.ext2 e).setD r)
theorem Sat.notin {F H : Hp} {σ : St} {p : Addr} (S : Sat K G H₀ L F H σ ss) (hp : H p = none) (j : Nat) (s : Sl) (h : ss[j]? = some s) : p ∉ s.ads:=fun z=>(S.ok j s h).live z hp
theorem Sat.newO {F H F' H' : Hp} {σ : St} {p : Addr} {vs : List V} {i : Nat} (S : Sat K G H₀ L F H σ ss) (e : Ext F H F' H') (hp : H p = none) (fp : F' p = none) (hp' : H' p = some (.lst vs)) (r : Reps K F' ds vs) : Sat K G H₀ L F' H' (σ.set i (some (.ref p))) (ss.set i (.o p ds)) :=
 (S.ext2 e).setO ⟨S.ext.hh.free hp,fp,vs,hp',r⟩ fun j s _ h=>S.notin hp j s h
theorem zc0 {i : Nat} (a : EvO K G H₀ L ss te ds) (h : ∀ p,Nx K G H₀ L E.nx (ss.set i (.o p ds))) : Go K G H₀ L E ss (tAsg te (zfp i)):=fun F H σ S=>a F H σ _ S fun p vs F' H' e hp fp hp' r=>h p F' H' _ (S.newO e hp fp hp' r)
theorem zbr {c : TT} {b : Bool} (a : EvT K G H₀ L ss c b) (h1 : b = true->Go K G H₀ L E ss t) (h2 : b = false->Go K G H₀ L E ss u) : Go K G H₀ L E ss (tIfS c t u):=fun F H σ S=>a F H σ _ S fun F' H' e=>by
 cases b with
 | true=>exact iteT (h1 rfl F' H' σ (S.ext2 e))
 | false=>exact iteF (h2 rfl F' H' σ (S.ext2 e))
theorem za2 (h : Nx K G H₀ L E.nx ss) : Go K G H₀ L E ss ydz:=h
theorem zaz (a : Ev K G H₀ L ss te d) (h : RtD K G H₀ E.rt d) : Go K G H₀ L E ss (tRet te):=fun F H σ S=>a F H σ _ S fun v F' H' e r=>h v F' H' (S.ext.trans e) r
theorem zkx (a : EvO K G H₀ L ss te ds) (h : RtO K G H₀ E.rt ds) : Go K G H₀ L E ss (tRet te):=fun F H σ S=>a F H σ _ S fun p vs F' H' e hp fp hp' r=>h p vs F' H' (S.ext.trans e) (S.ext.hh.free hp) fp hp' r
theorem yba {i : Nat} {p : Addr} (hs : ss[i]? = some (.o p ds)) (h : RtO K G H₀ E.rt ds) : Go K G H₀ L E ss (tRet (tVar i)):=fun F H σ S=>by
 obtain ⟨e,h0,fp,vs,hp,r⟩:=S.getO hs
 exact ⟨.ref p,e,h p vs F H S.ext h0 fp hp r⟩
theorem zc6 {i : Nat} {p : Addr} (hs : ss[i]? = some (.o p ds)) (h : Nx K G H₀ L P (ss.set i (.d (.lst ds)))) : Nx K G H₀ L P ss:=fun F H σ S=>by
 obtain ⟨F',S'⟩:=S.freeze hs
 exact h F' H σ S'
theorem zap (h : Go K G H₀ L E ss t) : Nx K G H₀ L (t E) ss:=h
theorem zsf {I : List Sl->Prop} (h : I ss) : Nx K G H₀ L (At K G H₀ L I) ss:=fun F H σ S=>⟨ss,F,S,h⟩
theorem zig (I : List Sl->Prop) (h1 : ∀ N : St->Hp->Prop,(∀ ss,I ss->Nx K G H₀ L N ss)->Go K G H₀ L { E with nx:=N } ss t) (h2 : ∀ ss,I ss->Go K G H₀ L E ss u) : Go K G H₀ L E ss (tSeq t u):=h1 _ h2
theorem zao {i : Nat} : Tg K G H₀ L (zfp i) d ss (ss.set i (.d d)):=fun F H σ v Q S r q=>q _ (S.setD r)
theorem zb4 : Tgs K G H₀ L gNil [] ss ss:=fun F H σ vs Q S r q=>by
 rw [Reps] at r
 exact ⟨r,q _ S⟩
theorem zaq {g : TG} {gs : TGs} {ss1 ss2 : List Sl} (a : Tg K G H₀ L g d ss ss1) (b : Tgs K G H₀ L gs ds ss1 ss2) : Tgs K G H₀ L (ycd g gs) (d::ds) ss ss2:=fun F H σ vs Q S r q=>by
 rw [Reps] at r
 obtain ⟨x,xs,rfl,r1,r2⟩:=r
 exact ⟨x,xs,rfl,a F H σ x _ S r1 fun σ' S'=>b F H σ' xs _ S' r2 q⟩
theorem zdd {g : TGs} {n : Nat} (hn : ds.length = n) (a : Tgs K G H₀ L g ds ss ss') : Tg K G H₀ L (gTup K n g) (.tup ds) ss ss':=fun F H σ v Q S r q=>by
 obtain ⟨p,xs,rfl,sq,rs⟩:=r.of_tup
 exact ⟨p,xs,rfl,SqT.same S.ext.fh sq,by rw [<- rs.length]; exact hn,a F H σ xs _ S rs q⟩
theorem zc5 {i : Nat} {p : Addr} {t1 : TE} (hs : ss[i]? = some (.o p ds)) (a : Ev K G H₀ L ss t1 d) (hz : ds.length < sizeLine) (h : Nx K G H₀ L E.nx (ss.set i (.o p (ds++[d])))) :
  Go K G H₀ L E ss (zuj (tBM K "list" zpd (tVar i) (za3 t1 tNil))):=fun F H σ S=>by
 obtain ⟨e,h0,fp,vs,hp,r⟩:=S.getO hs
 refine ⟨.ref p,e,.inl ⟨rfl,_,SqL.of hp⟩,a F H σ _ S fun v F' H' e' r'=>?_⟩
 have S':=S.ext2 e'
 obtain ⟨e2,h02,fp2,vs',hp2,r2⟩:=S'.getO hs
 exact ⟨p,vs',v,rfl,rfl,hp2,by rw [<- r2.length]; exact hz,h F' _ σ (S'.write hs (r2.snoc r'))⟩
theorem Rep.itl {F H : Hp} {p : Addr} (h : Same F H) (r : Rep K F (.lst ds) (.ref p)) : ∃ vs,SqL K H p vs/\Reps K F ds vs:=by
 obtain ⟨q,xs,e,sq,rs⟩:=r.of_lst
 cases e
 exact ⟨xs,SqL.same h sq,rs⟩
theorem zeq {tl : TE} {g : TG} {tb : TS} {α : Type} (enc : α->D) (xs : List α) (I : Nat->List Sl->Prop) (a : Ev K G H₀ L ss tl (.lst (xs.map enc))) (h0 : I 0 ss)
  (hs : ∀ L' k x ss,Same L L'->xs[k]? = some x->I k ss -> ∃ ss',Tg K G H₀ L' g (enc x) ss ss' /\ ∀ N,(∀ ss,I (k + 1) ss->Nx K G H₀ L' N ss)->Go K G H₀ L' { E with nx:=N,ct:=N,bk:=E.nx } ss' tb)
  (hd : ∀ ss,I xs.length ss->Nx K G H₀ L E.nx ss) : Go K G H₀ L E ss (tFor (zvb K tl) g tb):=fun F H σ S =>
 a F H σ _ S fun v F1 H1 e1 r1=>by
  obtain ⟨p,vs,rfl,sq,rs⟩:=r1.of_lst
  refine ⟨p,rfl,⟨vs,SqL.same e1.fh sq⟩,?_⟩
  refine ⟨fun i m σ' H'=>m = xs.length - i/\i <= xs.length/\At K G H₀ F1 (I i) σ' H',⟨_,rfl,Zih _,ss,F1,(S.ext2 e1).raise,h0⟩,?_⟩
  rintro i m σ' H' ⟨rfl,hi,ss1,F2,S2,h2⟩
  have rp : Rep K F2 (.lst (xs.map enc)) (.ref p):=r1.mono S2.fl
  obtain ⟨ws,sq2,rs2⟩:=rp.itl S2.ext.fh
  have hlen : ws.length = xs.length:=by rw [<- rs2.length,Zg2]
  by_cases hlt : i < xs.length
  ·refine .inr ⟨⟨ws,ws[i]'(by lia),sq2,Zg1 _⟩,fun σ'' H''=>At K G H₀ F1 (I (i + 1)) σ'' H'',fun σ'' H'' h=>⟨xs.length - (i + 1),by lia,rfl,hlt,h⟩,fun x H'' y=>?_⟩
   obtain ⟨rfl,y⟩:=y
   have hx:=y ws sq2
   obtain ⟨dx,hdx,rx⟩:=rs2.get hx
   rw [Zg8,Zg1 hlt] at hdx
   cases hdx
   obtain ⟨ss',tg,go⟩:=hs F1 i _ ss1 (S.fl.trans e1.gf) (Zg1 hlt) h2
   exact tg F2 _ σ' x _ S2 rx fun σ3 S3=>go _ (fun ss h=>zsf h) F2 _ σ3 S3
  ·have e : i = xs.length:=by lia
   subst e
   exact .inl ⟨⟨ws,sq2,by lia⟩,hd ss1 h2 F2 H' σ' (S2.lower (S.fl.trans e1.gf))⟩
theorem zjb {ta : TA} {j : Nat} {tb : TS} {n : Int} (I : Nat->List Sl->Prop) (a : EvA K G H₀ L ss ta [.int n]) (hb : -(2 ^ 62) <= n/\n < 2 ^ 62) (h0 : I 0 ss)
  (hs : ∀ (k : Nat) ss,(k : Int) < n->I k ss -> ∀ N,(∀ ss,I (k + 1) ss->Nx K G H₀ L N ss)->Go K G H₀ L { E with nx:=N,ct:=N,bk:=E.nx } (ss.set j (.d (.int (k : Int)))) tb)
  (hd : ∀ ss,I n.toNat ss->Nx K G H₀ L E.nx ss) {ti : TI} (hti : ∀ σ H R,(ta σ H fun vs H1=>∃ m : Int,vs = [.int m] /\ -(2 ^ 62) <= m/\m < 2 ^ 62/\R (Itr 0 m.toNat) H1)->ti σ H R) : Go K G H₀ L E ss (tFor ti (zfp j) tb):=fun F H σ S=>by
 refine hti σ H _ (a F H σ _ S fun vs F1 H1 e1 r1=>?_)
 rw [Reps] at r1
 obtain ⟨x,r,rfl,rx,r1⟩:=r1
 rw [Reps] at r1
 subst r1
 rw [rx.of_int]
 refine ⟨n,rfl,hb.1,hb.2,fun i m σ' H'=>m = n.toNat - i/\i <= n.toNat/\At K G H₀ L (I i) σ' H',⟨_,rfl,Zih _,ss,F1,S.ext2 e1,h0⟩,?_⟩
 rintro i m σ' H' ⟨rfl,hi,ss1,F2,S2,h2⟩
 by_cases hlt : i < n.toNat
 ·refine .inr ⟨hlt,fun σ'' H''=>At K G H₀ L (I (i + 1)) σ'' H'',fun σ'' H'' h=>⟨n.toNat - (i + 1),by lia,rfl,hlt,h⟩,fun x H'' y=>?_⟩
  obtain ⟨rfl,rfl⟩:=y
  refine hs i ss1 (by omega) h2 _ (fun ss h=>zsf h) F2 _ _ ?_
  have e : (0 : Int) + (i : Int) = (i : Int):=by lia
  rw [e]
  exact S2.setD Rep.int
 ·have e : i = n.toNat:=by lia
  subst e
  exact .inl ⟨Zha _,hd ss1 h2 F2 H' σ' S2⟩
end
mutual
noncomputable def D.toP : D->Zkf
 | .non=>.none
 | .bl b=>.bool b
 | .int i=>.int i
 | .str l=>.str (T l)
 | .lst a=>.list (D.toPs a)
 | .tup a=>.tuple (D.toPs a)
 | .dct _ _=>.none
 | .dctT _ _=>.none
 | .ins _ _ _=>.none
noncomputable def D.toPs : List D->List Zkf
 | []=>[]
 | a::x=>a.toP::D.toPs x
end
mutual
theorem D.toP_depth : ∀ d : D,d.toP.depth = d.dep
 | .non=>rfl
 | .bl _=>rfl
 | .int _=>rfl
 | .str _=>rfl
 | .lst a=>by simp [D.toP,Zs0,D.dep,D.toPs_depth a]
 | .tup a=>by simp [D.toP,Zs0,D.dep,D.toPs_depth a]
 | .dct _ _=>rfl
 | .dctT _ _=>rfl
 | .ins _ _ _=>rfl
theorem D.toPs_depth : ∀ a : List D,Zr2 (D.toPs a) = D.deps a
 | []=>rfl
 | d::a=>by simp [D.toPs,Zr2,D.deps,D.toP_depth d,D.toPs_depth a]
end
mutual
theorem D.eqv : ∀ d e : D,d.nb = true->e.nb = true->Zkq d.toP e.toP = decide (d = e)
 | .non,e,_,h2=>by cases e <;> simp [D.toP,Zkq,D.nb] at h2 ⊢
 | .bl _,_,h1,_=>by simp [D.nb] at h1
 | .dct _ _,_,h1,_=>by simp [D.nb] at h1
 | .dctT _ _,_,h1,_=>by simp [D.nb] at h1
 | .ins _ _ _,_,h1,_=>by simp [D.nb] at h1
 | .int i,e,_,h2=>by
  cases e <;> simp [D.toP,Zkq,D.nb] at h2 ⊢
  exact Bool.beq_eq_decide_eq _ _
 | .str l,e,_,h2=>by
  cases e <;> simp [D.toP,Zkq,D.nb] at h2 ⊢
  rename_i m
  rw [Zh8]; simp [ztw]
 | .lst a,e,h1,h2=>by
  cases e with
  | lst b =>
   simp only [D.nb] at h1 h2
   simp only [D.toP,Zkq,D.lst.injEq]
   exact D.eqvs a b h1 h2
  | _=>simp [D.toP,Zkq,D.nb] at h2 ⊢
 | .tup a,e,h1,h2=>by
  cases e with
  | tup b =>
   simp only [D.nb] at h1 h2
   simp only [D.toP,Zkq,D.tup.injEq]
   exact D.eqvs a b h1 h2
  | _=>simp [D.toP,Zkq,D.nb] at h2 ⊢
theorem D.eqvs : ∀ a b : List D,D.nbs a = true->D.nbs b = true->Zn2 (D.toPs a) (D.toPs b) = decide (a = b)
 | [],b,_,_=>by cases b <;> simp [D.toPs,Zn2]
 | d::a,b,h1,h2=>by
  cases b with
  | nil=>simp [D.toPs,Zn2]
  | cons e b =>
   simp only [D.nbs,Zhq] at h1 h2
   simp only [D.toPs,Zn2,D.eqv d e h1.1 h2.1,D.eqvs a b h1.2 h2.2,Zoo]
   by_cases x : d = e <;> by_cases y : a = b <;> simp [x,y]
end
section
variable {X : Cx} {pins : List (Addr × Obj)} {σ : St} {H : Hp} {s : Zg5}
theorem ybe {l : List Nat} (h : ∀ c∈l,c < 128) : Zsz (T l) = true:=by
 unfold Zsz T
 simp
 intro c hc
 have:=h c hc
 lia
mutual
theorem Inv.reads (I : Inv X pins σ H s) : ∀ {d : D} {v : V} {u : Value},d.nb = true->Rep X.K H d v->RelV v u->(∃ as,Zv6 s.heap u d.toP as)/\d.toP.canLay0 = true
 | .non,_,_,_,r,q=>by rw [r.of_non] at q; cases q; exact ⟨⟨_,Reads.none⟩,rfl⟩
 | .bl b,_,_,n,_,_=>by simp [D.nb] at n
 | .dct _ _,_,_,n,_,_=>by simp [D.nb] at n
 | .dctT _ _,_,_,n,_,_=>by simp [D.nb] at n
 | .ins _ _ _,_,_,n,_,_=>by simp [D.nb] at n
 | .int i,_,_,_,r,q=>by rw [r.of_int] at q; obtain ⟨t,rfl⟩:=q; exact ⟨⟨_,Reads.int i t⟩,rfl⟩
 | .str l,_,_,_,r,q=>by
  have ha:=r.asc
  rw [r.of_str] at q; obtain ⟨t,rfl⟩:=q
  exact ⟨⟨_,Reads.str _ t⟩,ybe ha⟩
 | .lst ds,_,_,nn,r,q=>by
  obtain ⟨p,xs,rfl,sq,rs⟩:=r.of_lst
  cases q
  obtain ⟨its,rv,⟨o,n,e,c,_,hd⟩,_⟩:=I.list sq
  obtain ⟨⟨as,ra⟩,hc⟩:=I.readsAll (by simpa [D.nb] using nn) rs rv
  exact ⟨⟨_,Reads.list e c hd (by simpa using ra)⟩,by simpa [D.toP,Zll] using hc⟩
 | .tup ds,_,_,nn,r,q=>by
  obtain ⟨p,xs,rfl,sq,rs⟩:=r.of_tup
  cases q
  obtain ⟨its,rv,⟨o,e,c,n,hd⟩,_⟩:=I.tuple sq
  obtain ⟨⟨as,ra⟩,hc⟩:=I.readsAll (by simpa [D.nb] using nn) rs rv
  exact ⟨⟨_,Reads.tuple e c hd (by simpa using ra)⟩,by simpa [D.toP,Zll] using hc⟩
theorem Inv.readsAll (I : Inv X pins σ H s) : ∀ {ds : List D} {vs : List V} {us : List Value},D.nbs ds = true->Reps X.K H ds vs->Vals vs us->(∃ as,Zv5 s.heap us (D.toPs ds) as)/\Zrf (D.toPs ds) = true
 | [],_,_,_,r,q=>by
  rw [Reps] at r; subst r
  cases q
  exact ⟨⟨_,ReadsAll.nil⟩,rfl⟩
 | d::ds,_,_,n,r,q=>by
  simp only [D.nbs,Zhq] at n
  rw [Reps] at r
  obtain ⟨x,xs,rfl,r1,r2⟩:=r
  cases q with
  | cons q1 q2 =>
   obtain ⟨⟨as,a⟩,hc⟩:=I.reads n.1 r1 q1
   obtain ⟨⟨bs,b⟩,hc2⟩:=I.readsAll n.2 r2 q2
   exact ⟨⟨_,ReadsAll.cons a b⟩,by simp [D.toPs,Zrf,hc,hc2]⟩
end
end
noncomputable def rEqD (K : Zgy) : R2:=fun x y H Q=>∃ d e,Rep K H d x/\Rep K H e y/\d.nb = true/\e.nb = true/\d.dep <= 60/\Q (.bl (decide (d = e))) H
noncomputable def rNeD (K : Zgy) : R2:=fun x y H Q=>∃ d e,Rep K H d x/\Rep K H e y/\d.nb = true/\e.nb = true/\d.dep <= 60/\Q (.bl (!decide (d = e))) H
section
variable {X : Cx}
theorem yfn (hu : X.A.units + 64 < Znn) : OpR X (Zjy .Eq) (rEqD X.K):=by
 intro pins s σ H x y v u Q I rx ry h
 obtain ⟨d,e,r1,r2,n1,n2,hd,q⟩:=h
 obtain ⟨⟨as,a⟩,c1⟩:=I.reads n1 r1 rx
 obtain ⟨⟨bs,b⟩,c2⟩:=I.reads n2 r2 ry
 have h1:=D.toP_depth d
 refine SeqAt.compareEq_reads a b c1 c2 (by lia) ?_
 rw [D.eqv d e n1 n2]
 exact ⟨.bl _,H,I,rfl,q⟩
theorem yfh (hu : X.A.units + 64 < Znn) : OpR X (Zjy .NotEq) (rNeD X.K):=by
 intro pins s σ H x y v u Q I rx ry h
 obtain ⟨d,e,r1,r2,n1,n2,hd,q⟩:=h
 obtain ⟨⟨as,a⟩,c1⟩:=I.reads n1 r1 rx
 obtain ⟨⟨bs,b⟩,c2⟩:=I.reads n2 r2 ry
 have h1:=D.toP_depth d
 refine SeqAt.compareNe_reads a b c1 c2 (by lia) ?_
 rw [D.eqv d e n1 n2]
 exact ⟨.bl _,H,I,rfl,q⟩
theorem zl0 (d : D) (hd : d.nb = true) : ∀ ds : List D,D.nbs ds = true->((D.toPs ds).any fun y=>Zkq y d.toP) = decide (d∈ds)
 | [],_=>by simp [D.toPs]
 | e::ds,h=>by
  simp only [D.nbs,Zhq] at h
  rw [D.toPs,Zkk,zl0 d hd ds h.2,D.eqv e d h.1 hd]
  by_cases x : e = d
  ·subst x; simp
  ·have : ¬ d = e:=fun z=>x z.symm
   simp [x,this]
noncomputable def rInD (K : Zgy) (neg : Bool) : R2:=fun x y H Q=>∃ d ds,Rep K H d x/\(Rep K H (.lst ds) y \/ Rep K H (.tup ds) y)/\d.nb = true/\D.nbs ds = true/\d.dep <= 60/\Q (.bl (if neg then !decide (d∈ds) else decide (d∈ds))) H
theorem zui (hu : X.A.units + 64 < Znn) : OpR X (Zjy .In) (rInD X.K false):=by
 intro pins s σ H x y v u Q I rx ry h
 obtain ⟨d,ds,r1,r2,n1,n2,hd,q⟩:=h
 obtain ⟨⟨as,a⟩,c1⟩:=I.reads n1 r1 rx
 have h1:=D.toP_depth d
 have fin : EP X pins σ Q (.bool ((D.toPs ds).any fun y=>Zkq y d.toP)) s:=by rw [zl0 d n1 ds n2]; exact ⟨.bl _,H,I,rfl,q⟩
 rcases r2 with r2 | r2
 ·obtain ⟨⟨bs,b⟩,c2⟩:=I.reads (by simpa [D.nb] using n2) r2 ry
  rw [D.toP] at b c2
  exact SeqAt.in_list_reads b a (by simpa [Zll] using c2) c1 (by lia) fin
 ·obtain ⟨⟨bs,b⟩,c2⟩:=I.reads (by simpa [D.nb] using n2) r2 ry
  rw [D.toP] at b c2
  exact SeqAt.in_tuple_reads b a (by simpa [Zll] using c2) c1 (by lia) fin
theorem zu8 (hu : X.A.units + 64 < Znn) : OpR X (Zjy .NotIn) (rInD X.K true):=by
 intro pins s σ H x y v u Q I rx ry h
 obtain ⟨d,ds,r1,r2,n1,n2,hd,q⟩:=h
 obtain ⟨⟨as,a⟩,c1⟩:=I.reads n1 r1 rx
 have h1:=D.toP_depth d
 have fin : EP X pins σ Q (.bool (!(D.toPs ds).any fun y=>Zkq y d.toP)) s:=by rw [zl0 d n1 ds n2]; exact ⟨.bl _,H,I,rfl,q⟩
 rcases r2 with r2 | r2
 ·obtain ⟨⟨bs,b⟩,c2⟩:=I.reads (by simpa [D.nb] using n2) r2 ry
  rw [D.toP] at b c2
  exact SeqAt.notIn_list_reads b a (by simpa [Zll] using c2) c1 (by lia) fin
 ·obtain ⟨⟨bs,b⟩,c2⟩:=I.reads (by simpa [D.nb] using n2) r2 ry
  rw [D.toP] at b c2
  exact SeqAt.notIn_tuple_reads b a (by simpa [Zll] using c2) c1 (by lia) fin
end
section
variable {K : Zgy} {G H₀ L : Hp} {ss : List Sl} {t ta tb : TE} {d d1 d2 : D} {ds es : List D}
theorem yes (a : EvB K G H₀ L ss ta d1) (b : EvB K G H₀ L ss tb d2) (n1 : d1.nb = true) (n2 : d2.nb = true) (hd : d1.dep <= 60) : Ev K G H₀ L ss (tOp (rEqD K) ta tb) (.bl (decide (d1 = d2))) :=
 zfm (w:=.bl (decide (d1 = d2))) a b (fun H x y Q r1 r2 q=>⟨d1,d2,r1,r2,n1,n2,hd,q⟩) fun _ _ _ _ _ _=>Rep.bl
theorem yea (a : EvB K G H₀ L ss ta d1) (b : EvB K G H₀ L ss tb d2) (n1 : d1.nb = true) (n2 : d2.nb = true) (hd : d1.dep <= 60) : Ev K G H₀ L ss (tOp (rNeD K) ta tb) (.bl (!decide (d1 = d2))) :=
 zfm (w:=.bl (!decide (d1 = d2))) a b (fun H x y Q r1 r2 q=>⟨d1,d2,r1,r2,n1,n2,hd,q⟩) fun _ _ _ _ _ _=>Rep.bl
theorem yfm (a : EvB K G H₀ L ss ta d) (b : EvB K G H₀ L ss tb (.lst ds)) (n1 : d.nb = true) (n2 : D.nbs ds = true) (hd : d.dep <= 60) : Ev K G H₀ L ss (tOp (rInD K false) ta tb) (.bl (decide (d∈ds))) :=
 zfm (w:=.bl (decide (d∈ds))) a b (fun H x y Q r1 r2 q=>⟨d,ds,r1,.inl r2,n1,n2,hd,q⟩) fun _ _ _ _ _ _=>Rep.bl
theorem zv1 (a : EvB K G H₀ L ss ta d) (b : EvB K G H₀ L ss tb (.lst ds)) (n1 : d.nb = true) (n2 : D.nbs ds = true) (hd : d.dep <= 60) : Ev K G H₀ L ss (tOp (rInD K true) ta tb) (.bl (!decide (d∈ds))) :=
 zfm (w:=.bl (!decide (d∈ds))) a b (fun H x y Q r1 r2 q=>⟨d,ds,r1,.inl r2,n1,n2,hd,q⟩) fun _ _ _ _ _ _=>Rep.bl
end
theorem D.nbs_map {α : Type} {enc : α->D} (h : ∀ x,(enc x).nb = true) : ∀ xs : List α,D.nbs (xs.map enc) = true
 | []=>rfl
 | x::xs=>by simp [D.nbs,h x,D.nbs_map h xs]
theorem D.deps_map {α : Type} {enc : α->D} {n : Nat} (h : ∀ x,(enc x).dep <= n) : ∀ xs : List α,D.deps (xs.map enc) <= n
 | []=>Zih _
 | x::xs=>by
  have h1:=h x
  have h2:=D.deps_map h xs
  simp only [Zhi,D.deps]; lia
theorem D.nb_lst {ds : List D} : (D.lst ds).nb = D.nbs ds:=by rw [D.nb]
theorem D.dep_lst {ds : List D} : (D.lst ds).dep = D.deps ds + 1:=by rw [D.dep]
noncomputable def ItOk (K : Zgy) (J : It) (F' H' : Hp) (n : Nat) (y : Nat->D) : Prop:=∀ F2 H2,Same F' F2->Same H' H2->Same F2 H2 ->
 (∀ i,i < n->J.go i H2 /\ ∀ x H3,J.yld i H2 x H3 -> ∃ F3,Ext F2 H2 F3 H3/\Rep K F3 (y i) x)/\J.stop n H2
noncomputable def EvI (K : Zgy) (G H₀ L : Hp) (ss : List Sl) (wi : TI) (n : Nat) (y : Nat->D) : Prop:=∀ F H σ R,Sat K G H₀ L F H σ ss->(∀ F' H' J,Ext F H F' H'->ItOk K J F' H' n y->R J H')->wi σ H R
section
variable {K : Zgy} {G H₀ L : Hp} {ss : List Sl}
theorem zqo {tl : TE} {ds : List D} (a : EvL K G H₀ L ss tl ds) : EvI K G H₀ L ss (zvb K tl) ds.length fun i=>ds.getD i .non:=fun F H σ R S q =>
 a F H σ _ S fun p vs F' H' e sq r=>⟨p,rfl,⟨vs,sq⟩,q F' H' _ e fun F2 H2 f1 h1 fh=>by
  have sq2:=SqL.same h1 sq
  have hl:=r.length
  refine ⟨fun i hi=>⟨⟨vs,vs[i]'(by lia),sq2,Zg1 _⟩,fun x H3 y=>?_⟩,⟨vs,sq2,by lia⟩⟩
  obtain ⟨rfl,y⟩:=y
  obtain ⟨d,hd,rd⟩:=r.get (y vs sq2)
  refine ⟨F2,Ext.refl fh,?_⟩
  show Rep K F2 (ds.getD i D.non) x
  rw [Zg0,hd]
  exact rd.mono f1⟩
noncomputable def lcSl (nt : Nat) (cs : List Nat) (ss : List Sl) : List Sl:=Znx nt .un++cs.map fun i=>ss.getD i .un
theorem Sat.lc {F H : Hp} {σ : St} {nt : Nat} {cs : List Nat} (S : Sat K G H₀ L F H σ ss) (hc : cs.Nodup) : Sat K G H₀ L F H (lcS nt cs σ) (lcSl nt cs ss):=by
 have cut : ∀ (i : Nat) s,(lcSl nt cs ss)[i]? = some s->s = .un \/ ∃ j,nt <= i/\cs[i - nt]? = some j/\ss[j]? = some s:=by
  intro i s h
  unfold lcSl at h
  by_cases hi : i < nt
  ·rw [Zip (by simpa using hi),Zle,if_pos hi] at h
   exact .inl (Zit h).symm
  ·rw [Zil (by simpa using hi),Zlx,Zg8] at h
   cases hj : cs[i - nt]? with
   | none=>rw [hj] at h; cases h
   | some j =>
    rw [hj] at h
    have h : ss.getD j .un = s:=Zit h
    rw [Zg0] at h
    cases hs : ss[j]? with
    | none=>rw [hs] at h; exact .inl h.symm
    | some s'=>rw [hs] at h; exact .inr ⟨j,by lia,rfl,by rw [hs]; exact congrArg some h⟩
 have val : ∀ (i j : Nat),nt <= i->cs[i - nt]? = some j->(lcS nt cs σ).getD i none = σ.getD j none:=by
  intro i j hi hj
  unfold lcS
  rw [Zg0,Zil (by simpa using hi),Zlx,Zg8,hj]
  simp [Zg0]
 refine ⟨S.ext,S.fl,by unfold lcS lcSl; simp,fun i s h=>?_,fun i s h=>?_,fun i j s s' hij h h' p hp=>?_⟩
 ·rcases cut i s h with rfl | ⟨j,hi,hj,hs⟩
  ·trivial
  ·rw [val i j hi hj]; exact S.ok j s hs
 ·rcases cut i s h with rfl | ⟨j,hi,hj,hs⟩
  ·simp [Sl.ads]
  ·exact S.nd j s hs
 ·rcases cut i s h with rfl | ⟨k,hi,hk,hs⟩
  ·simp [Sl.ads] at hp
  ·rcases cut j s' h' with rfl | ⟨m,hj,hm,hs'⟩
   ·simp [Sl.ads]
   ·have : k≠m:=fun z=>by
     subst z
     obtain ⟨l1,e1⟩:=Zg7.mp hk
     obtain ⟨l2,e2⟩:=Zg7.mp hm
     have:=(Zo1 hc).mp (e1.trans e2.symm)
     lia
    exact S.ne k m s s' this hs hs' p hp
noncomputable def GK (nt : Nat) (g : TG) : Prop:=∀ v σ H (Q Q' : St->Hp->Prop),(∀ σ' H',Q σ' H'->σ'.length = σ.length->σ'.drop nt = σ.drop nt->Q' σ' H')->g v σ H Q->g v σ H Q'
noncomputable def GKs (nt : Nat) (g : TGs) : Prop:=∀ v σ H (Q Q' : St->Hp->Prop),(∀ σ' H',Q σ' H'->σ'.length = σ.length->σ'.drop nt = σ.drop nt->Q' σ' H')->g v σ H Q->g v σ H Q'
theorem zbq {nt i : Nat} (h : i < nt) : GK nt (zfp i):=fun v σ H Q Q' f q=>f _ _ q (by simp) (by rw [List.drop_set_of_lt h])
theorem zil {nt : Nat} : GKs nt gNil:=fun v σ H Q Q' f q=>⟨q.1,f _ _ q.2 rfl rfl⟩
theorem zb7 {nt : Nat} {g : TG} {gs : TGs} (a : GK nt g) (b : GKs nt gs) : GKs nt (ycd g gs):=fun vs σ H Q Q' f q=>by
 obtain ⟨v,r,e,q⟩:=q
 exact ⟨v,r,e,a v σ H _ _ (fun σ' H' q1 l1 d1=>b r σ' H' Q Q' (fun σ'' H'' q2 l2 d2=>f _ _ q2 (l2.trans l1) (d2.trans d1)) q1) q⟩
theorem zlj {nt n : Nat} {gs : TGs} (b : GKs nt gs) : GK nt (gTup K n gs):=fun v σ H Q Q' f q=>by
 obtain ⟨a,xs,e,sq,hn,q⟩:=q
 exact ⟨a,xs,e,sq,hn,b xs σ H Q Q' f q⟩
theorem zkc {wi : TI} {g : TG} {tt : TT} {te : TE} {nt : Nat} {cs : List Nat} {n : Nat} {y : Nat->D} (p : Nat->Bool) (f : Nat->D) (a : EvI K G H₀ L ss wi n y) (hk : GK nt g) (hc : cs.Nodup) (hz : n < sizeLine)
  (hs : ∀ i,i < n -> ∃ ss',Tg K G H₀ L g (y i) (lcSl nt cs ss) ss'/\EvT K G H₀ L ss' tt (p i)/\(p i = true->Ev K G H₀ L ss' te (f i))) :
  EvO K G H₀ L ss (tLC nt cs wi g tt te) (((Zg4 n).filter p).map f):=fun F H σ Q S q =>
 a F H σ _ S fun F1 H1 J e1 it=>by
  intro l hl
  have S1:=S.ext2 e1
  refine ⟨fun i m H2=>m = n - i/\i <= n /\ ∃ F2 vs,Ext F1 H1 F2 H2/\F2 l = none/\H2 l = some (.lst vs)/\Reps K F2 (((Zg4 i).filter p).map f) vs/\vs.length <= i,
   ⟨n,by lia,Zih _,F1,[],(Ext.refl e1.fh).newO hl,e1.fh.free hl,zaj,Reps.nil,Zha _⟩,?_⟩
  rintro i m H2 ⟨rfl,hi,F2,vs,e2,fl,hl2,rs,hvs⟩
  obtain ⟨it1,it2⟩:=it F2 H2 e2.gf e2.hh e2.fh
  by_cases hlt : i < n
  ·obtain ⟨go,yl⟩:=it1 i hlt
   refine .inr ⟨go,fun H'=>∃ F2 vs,Ext F1 H1 F2 H'/\F2 l = none/\H' l = some (.lst vs)/\Reps K F2 (((Zg4 (i + 1)).filter p).map f) vs/\vs.length <= i + 1,fun H' h=>⟨n - (i + 1),by omega,rfl,hlt,h⟩,fun x H3 yx=>?_⟩
   obtain ⟨F3,e3,rx⟩:=yl x H3 yx
   obtain ⟨ss',tg,evt,ev⟩:=hs i hlt
   have S3:=((S1.ext2 e2).ext2 e3).lc (nt:=nt) hc
   have hl3 : H3 l = some (.lst vs):=e3.hh l _ hl2
   have fl3 : F3 l = none:=(e3.no l _ hl2 trivial).trans fl
   have base:=tg F3 H3 (lcS nt cs σ) x (fun σ2 H4=>H4 = H3/\Sat K G H₀ L F3 H3 σ2 ss') S3 rx fun σ' S'=>⟨rfl,S'⟩
   have fin : ∀ σ2,Sat K G H₀ L F3 H3 σ2 ss'->tt σ2 H3 fun b H5=>if b = true then te σ2 H5 fun y H6=>∃ xs,H6 l = some (.lst xs)/\xs.length < sizeLine/\(∃ F2 vs,Ext F1 H1 F2 (upd H6 l (.lst (xs++[y])))/\F2 l = none/\(upd H6 l (.lst (xs++[y]))) l = some (.lst vs)/\Reps K F2 (((Zg4 (i + 1)).filter p).map f) vs/\vs.length <= i + 1) else ∃ F2 vs,Ext F1 H1 F2 H5/\F2 l = none/\H5 l = some (.lst vs)/\Reps K F2 (((Zg4 (i + 1)).filter p).map f) vs/\vs.length <= i + 1:=fun σ2 S2=>by
    refine evt F3 H3 σ2 _ S2 fun F5 H5 e5=>?_
    have S5:=S2.ext2 e5
    have hl5 : H5 l = some (.lst vs):=e5.hh l _ hl3
    have fl5 : F5 l = none:=(e5.no l _ hl3 trivial).trans fl3
    have gf : Same F2 F5:=e3.gf.trans e5.gf
    cases hp : p i with
    | false =>
     refine iteF ⟨F5,vs,(e2.trans e3).trans e5,fl5,hl5,?_,by lia⟩
     rw [Zkr,Zjw,Zl2,hp]
     simpa using rs.mono gf
    | true =>
     refine iteT (ev hp F5 H5 σ2 _ S5 fun v F6 H6 e6 rv=>?_)
     have hl6 : H6 l = some (.lst vs):=e6.hh l _ hl5
     have fl6 : F6 l = none:=(e6.no l _ hl5 trivial).trans fl5
     refine ⟨vs,hl6,by lia,F6,vs++[v],(((e2.trans e3).trans e5).trans e6).write fl6 hl,fl6,zaj,?_,by simp; omega⟩
     rw [Zkr,Zjw,Zl2,hp,if_pos rfl,Zhj]
     exact (rs.mono (gf.trans e6.gf)).snoc rv
   refine hk x (lcS nt cs σ) H3 _ _ (fun σ2 H4 h l1 d1=>?_) base
   obtain ⟨rfl,S2⟩:=h
   exact ⟨⟨by rw [l1]; unfold lcS; simp,d1⟩,fin σ2 S2⟩
  ·have e : i = n:=by lia
   subst e
   exact .inl ⟨it2,q l vs F2 H2 (e1.trans e2) (e1.hh.free hl) fl hl2 rs⟩
end
end L2
namespace L2
open PySem PySem.W PyProof.Rows
section
variable (key : Nat->Int)
noncomputable def kk (p : Array Nat) (i : Nat) : Int:=key (p.getD i 0)
variable {key}
end
section
variable {prog : Zhz} {w : Zix} {A : Zh3} {E : Value->Zg5->Prop} {s : Zg5}
noncomputable def yf1 (h h' : Heap) : Prop:=∀ b o,h.get? b = some o->h'.get? b = some o
end
noncomputable def D.fo : D->List Int
 | .str l=>l.map Zs2
 | .int i=>[i]
 | _=>[]
inductive Ty where | s | i
noncomputable def Ty.ok : Ty->D->Bool
 | .s,.str _=>true
 | .i,.int _=>true
 | _,_=>false
theorem zyf (l m : List Nat) : l < m ↔ l.map Zs2 < m.map Zs2:=by
 induction l generalizing m with
 | nil=>cases m <;> simp
 | cons a l ih=>cases m with
  | nil=>simp
  | cons b m =>
   simp only [Zhi,Zii,ih m,Int.ofNat_eq_natCast]
   constructor
   ·rintro (h | ⟨h,x⟩)
    ·exact .inl (by lia)
    ·exact .inr ⟨by lia,x⟩
   ·rintro (h | ⟨h,x⟩)
    ·exact .inl (by lia)
    ·exact .inr ⟨by lia,x⟩
section
variable {prog : Zhz} {w : Zix} {A : Zh3} {E : Value->Zg5->Prop} {s : Zg5}
noncomputable def FV : D->Value->Prop
 | .str l,u=>∃ t,u = .str (T l) t
 | .int i,u=>∃ t,u = .int i t
 | _,_=>False
theorem zk1 {t : Ty} {d e : D} {u v : Value} (h1 : t.ok d = true) (h2 : t.ok e = true) (ru : FV d u) (rv : FV e v) {Q : Bool->Zg5->Prop} (q : Q (decide (d = e)) s) : Zhs (Zh2 prog w) A (eqBool u v) Q E s:=by
 cases t <;> cases d <;> simp [Ty.ok] at h1 <;> cases e <;> simp [Ty.ok] at h2
 ·obtain ⟨t,rfl⟩:=ru
  obtain ⟨t',rfl⟩:=rv
  refine Zvt _ _ _ _ prog w E Q ?_
  rename_i l m
  have : (T l == T m) = decide (D.str l = D.str m):=by
   rw [Zh8]; simp [ztw]
  rw [this]; exact q
 ·obtain ⟨t,rfl⟩:=ru
  obtain ⟨t',rfl⟩:=rv
  refine Zvw _ _ _ _ prog w E Q ?_
  rename_i i j
  have : (i == j) = decide (D.int i = D.int j):=by
   rw [Zh8]; simp
  rw [this]; exact q
inductive FVs : List D->List Value->Prop
 | nil : FVs [] []
 | cons {d ds u us} : FV d u->FVs ds us->FVs (d::ds) (u::us)
end
structure MI (R : Nat->Nat->Prop) (ua ub o : List Nat) (i j : Nat) : Prop where
 hi : i <= ua.length
 hj : j <= ub.length
 pw : o.Pairwise R
 pa : ∀ x∈o,∀ y∈ua.drop i,R x y
 pb : ∀ x∈o,∀ y∈ub.drop j,R x y
 pm : o.Perm (ua.take i++ub.take j)
noncomputable def Seg (key : Nat->Int) (p : Array Nat) (i j : Nat) : Prop:=∀ s t,i <= s->s <= t->t < j->kk key p s <= kk key p t
noncomputable def Runs (key : Nat->Int) (p : Array Nat) : List (Nat × Nat × Nat)->Nat->Nat->Prop
 | [],lo,hi=>lo = hi
 | r::l,lo,hi=>r.1 = lo/\0 < r.2.1/\Seg key p lo (lo + r.2.1)/\Runs key p l (lo + r.2.1) hi
section
variable {X : Cx} {pins : List (Addr × Obj)} {σ : St} {H : Hp} {s : Zg5}
noncomputable def Ty.tv : Ty->Value
 | .s=>.type "str"
 | .i=>.type "int"
end
end L2
namespace L2
open PySem PySem.W PySem.Spec PyProof.Rows
noncomputable def cutD (xs : List D) (lo hi : Option Int) : List D:=(xs.drop (HT.sIx xs.length 0 lo)).take (HT.sIx xs.length xs.length hi - HT.sIx xs.length 0 lo)
theorem Reps.cut {K : Zgy} {H : Hp} {ds : List D} {xs : List V} (lo hi : Option Int) (h : Reps K H ds xs) : Reps K H (cutD ds lo hi) (cutV xs lo hi):=by
 unfold cutD cutV
 rw [<- h.length]
 exact (h.drop _).take _
section
variable {K : Zgy} {G H₀ L : Hp} {ss : List Sl} {t ta tb : TE} {d : D} {ds : List D}
theorem zha (a : EvL K G H₀ L ss t ds) : Ev K G H₀ L ss (tCB (fun xs H Q=>∃ p ys,xs = [.ref p]/\(SqL K H p ys \/ SqT K H p ys)/\Q (.int ys.length) H) (za3 t tNil)) (.int ds.length):=fun F H σ Q S q =>
 a F H σ _ S fun p vs F' H' e sq r=>⟨p,vs,rfl,.inl sq,q _ _ _ e (by rw [<- r.length]; exact Rep.int)⟩
theorem zjk (a : EvL K G H₀ L ss t ds) : EvO K G H₀ L ss (tCB (fun xs H Q=>∃ p ys,xs = [.ref p]/\(SqL K H p ys \/ SqT K H p ys) /\ ∀ l,H l = none->Q (.ref l) (upd H l (.lst ys))) (za3 t tNil)) ds:=fun F H σ Q S q =>
 a F H σ _ S fun p vs F' H' e sq r=>⟨p,vs,rfl,.inl sq,fun l hl=>q l vs F' _ (e.newO hl) (e.hh.free hl) (e.fh.free hl) zaj r⟩
noncomputable def EvP (K : Zgy) (G H₀ L : Hp) (ss : List Sl) (t : TO) (o : Option Int) : Prop:=∀ F H σ (Q : Option Int->Hp->Prop),Sat K G H₀ L F H σ ss->(∀ F' H',Ext F H F' H'->Q o H')->t σ H Q
theorem ydu : EvP K G H₀ L ss zwm none:=fun F H σ Q S q=>q _ _ (Ext.refl S.ext.fh)
theorem zx6 {i : Int} (a : EvB K G H₀ L ss t (.int i)) : EvP K G H₀ L ss (yez t) (some i):=fun F H σ Q S q=>a F H σ _ S fun v F' H' e r=>⟨i,r.of_int,q _ _ e⟩
theorem ycu {tl th : TO} {lo hi : Option Int} (a : EvL K G H₀ L ss t ds) (b : EvP K G H₀ L ss tl lo) (c : EvP K G H₀ L ss th hi) : EvO K G H₀ L ss (tSl (rSlL K) t tl th) (cutD ds lo hi):=fun F H σ Q S q =>
 a F H σ _ S fun p vs F1 H1 e1 sq r=>b F1 H1 σ _ (S.ext2 e1) fun F2 H2 e2=>c F2 H2 σ _ ((S.ext2 e1).ext2 e2) fun F3 H3 e3 =>
  ⟨p,vs,rfl,SqL.same e3.hh (SqL.same e2.hh sq),fun l hl=>q l _ F3 _ (((e1.trans e2).trans e3).newO hl) (((e1.trans e2).trans e3).hh.free hl) (((e1.trans e2).trans e3).fh.free hl) zaj (((r.mono e2.gf).mono e3.gf).cut lo hi)⟩
end
noncomputable def rAll (K : Zgy) : List V->Hp->VK->Prop:=fun xs H Q=>∃ p,∃ bs : List Bool,xs = [.ref p]/\SqL K H p (bs.map V.bl)/\Q (.bl (bs.all id)) H
section
variable {X : Cx} {prog : Zhz} {w : Zix} {A : Zh3} {E : Value->Zg5->Prop} {s : Zg5}
theorem zxi {h' : Heap} {o : Obj} {k : Nat} (hk : ∀ b x,b ∉ [s.heap.objs.size]->(s.heap.push o).get? b = some x->h'.get? b = some x) : yf1 s.heap h':=fun b x e=>by
 refine hk b x (fun hm=>?_) (Zg6 _ e)
 have h1:=Zhf e
 rw [Zg3.mp hm] at h1
 exact Zh6 _ h1
theorem ztj : ∀ {bs : List Bool} {us : List Value},Vals (bs.map V.bl) us->us = bs.map Zl9
 | [],_,.nil=>rfl
 | b::bs,_,.cons r1 r2=>by rw [ztj r2]; cases r1; rfl
theorem zr9 : ∀ bs : List Bool,((Zg4 bs.length).all fun i=>(bs[i]?).getD true) = bs.all id:=fun bs=>by
 rw [Zh8,Zir,Zir]
 constructor
 ·intro h b hb
  obtain ⟨i,hi,e⟩:=Zmm hb
  have:=h i (Zhv.mpr hi)
  rw [Zg1 hi,Zm9,e] at this
  exact this
 ·intro h i hi
  have hi':=Zhv.mp hi
  rw [Zg1 hi',Zm9]
  exact h _ (Zj9 hi')
theorem zjd (hc : X.calm = true) : zcy X (.builtin "all") (rAll X.K):=by
 intro pins s σ H xs us Q I r h
 obtain ⟨p,bs,rfl,hq,q⟩:=h
 obtain ⟨u,rfl,ru⟩:=zfs r
 cases ru
 obtain ⟨its,rv,pl,_⟩:=I.list hq
 obtain rfl:=ztj rv
 have hl:=pl.isList
 have hlt : p < s.heap.objs.size:=by obtain ⟨_,e,_⟩:=hl; exact Zhf e
 refine call_all_walk (Znf hl ⟨s.heap.objs.size,[s.heap.objs.size,p],[s.heap.objs.size],(bs.map Zl9).toArray.size,_,_,fun i=>(bs[i]?).getD true,rfl,
  Znh (A:=X.A.in1) (I.ok.hd hc) _ p (Zht hlt) _,⟨⟨_,Zho _ rfl,rfl,rfl⟩,hl.push _⟩,fun i v s' Q' E' hP hQ=>?_,fun h' tk hk=>?_⟩)
 ·have hP' : (bs.map Zl9)[i]? = some v:=by simpa using hP
  rw [Zg8] at hP'
  cases hb : bs[i]? with
  | none=>rw [hb] at hP'; cases hP'
  | some b =>
   rw [hb] at hP'
   cases hP'
   simp only [hb,Zm9] at hQ
   exact Zje hQ
 ·have e : ((Zg4 (bs.map Zl9).toArray.size).all fun i=>(bs[i]?).getD true) = bs.all id:=by
   rw [Zhw,Zg2]; exact zr9 bs
  rw [e]
  exact ⟨.bl _,H,I.kept (zxi (k:=0) hk),rfl,q⟩
end
end L2
namespace L2
open PySem PySem.W PySem.Spec PyProof.Rows PySem.Calls
open PySem.MeetsSeq PySem.MeetsSeq2 PySem.MeetsSeq3
theorem zk4 {t : Ty} {d e : D} {u v : Value} (h1 : t.ok d = true) (h2 : t.ok e = true) (ru : FV d u) (rv : FV e v) {prog : Zhz} {w : Zix} {A : Zh3} {E : Value->Zg5->Prop} {s : Zg5} {Q : Value->Zg5->Prop} (q : Q (.bool (decide (d.fo < e.fo))) s) :
  Zhs (Zh2 prog w) A (Zm0 .Lt u v) Q E s:=by
 cases t <;> cases d <;> simp [Ty.ok] at h1 <;> cases e <;> simp [Ty.ok] at h2
 ·obtain ⟨t,rfl⟩:=ru
  obtain ⟨t',rfl⟩:=rv
  rename_i l m
  have ee : decide ((T l).cps.toList < (T m).cps.toList) = decide ((D.str l).fo < (D.str m).fo):=by
   rw [yer,yer,Zh8,decide_eq_true_eq,decide_eq_true_eq]
   exact zyf l m
  rw [<- ee] at q
  exact Zpp (op:=.Lt) (Zts _ _ _) (Zts _ _ _) F.slot_str_lt F.entry_str_lt (F.args_str_lt_2 _ _) (gives_str_lt _ _ _ _) (fun e=>nomatch e) q
 ·obtain ⟨t,rfl⟩:=ru
  obtain ⟨t',rfl⟩:=rv
  rename_i i j
  have ee : decide (i < j) = decide ((D.int i).fo < (D.int j).fo):=by
   rw [Zh8]
   simp [D.fo,Zii]
  rw [<- ee] at q
  exact Zpp (op:=.Lt) (Zpo _ _ _) (Zpo _ _ _) F.slot_int_lt F.entry_int_lt (F.args_int_lt_2 _ _) (gives_int_lt _ _ _ _) (fun e=>nomatch e) q
section
variable {K : Zgy} {G H₀ L : Hp} {ss : List Sl} {t ta tb : TE} {d : D} {ds es : List D}
theorem Reps.bools {H : Hp} : ∀ {bs : List Bool} {vs : List V},Reps K H (bs.map D.bl) vs->vs = bs.map V.bl
 | [],vs,h=>by rw [Zla,Reps] at h; exact h
 | b::bs,vs,h=>by
  rw [Zhi,Reps] at h
  obtain ⟨x,xs,rfl,h1,h2⟩:=h
  rw [h1.of_bl,h2.bools]; rfl
theorem ydl {bs : List Bool} (a : EvL K G H₀ L ss t (bs.map D.bl)) : Ev K G H₀ L ss (tCB (rAll K) (za3 t tNil)) (.bl (bs.all id)):=fun F H σ Q S q =>
 a F H σ _ S fun p vs F1 H1 e1 sq r1=>⟨p,bs,rfl,by rw [r1.bools] at sq; exact sq,q _ _ _ e1 Rep.bl⟩
end
end L2
namespace L2
open PySem PySem.W PyProof.Rows
section
variable {X : Cx} {pins pl : List (Addr × Obj)} {σ : St} {H : Hp} {s : Zg5} {h' : Heap} {t' : Nat}
theorem Inv.reset {b : Addr} {o o' : Obj} (I : Inv X (pins++(b,o)::pl) σ H s) (fb : FpOk X pins H b) (hne : ∀ q∈pl,q.1≠b) (hs : ∀ c u,c≠b->s.heap.get? c = some u->h'.get? c = some u) (hb : h'.get? b = some o') (hd : ∀ v,o'.data ≠ .cell v) :
  Inv X (pins++(b,o')::pl) σ H { s with heap:=h',toks:=t' }:=by
 obtain ⟨f0,f1,f2,f3,f4,f5⟩:=fb
 have I1 : Inv X pins σ H { s with heap:=h',toks:=t' }:=I.unpinned.turned hs f0 f1 f3 f4 f5
 refine I1.pins_of fun p hp=>?_
 rcases Zhe.mp hp with hp | hp
 ·exact I1.pin p (Zg9 _ hp)
 ·rcases Zhp.mp hp with rfl | hp
  ·exact ⟨hb,f0,f1,f2,hd⟩
  ·obtain ⟨e,n,ne,nf,d⟩:=I.pin p (Zg9 _ (Zg9 _ (Zhd _ hp)))
   exact ⟨hs _ _ (hne p hp) e,n,ne,nf,d⟩
variable {A' : Zh3} {a kS : Addr} {e1 : Nat} {us : List Value} {ks : List D} {f : Value} {J : Hp->Prop} {P : Zoa->Zg5->Prop} {E : Value->Zg5->Prop}
end
section
variable {X : Cx} {pins : List (Addr × Obj)} {σ : St} {H : Hp} {s : Zg5} {l I0 S : Addr} {xs : List V} {ks : List D} {q : Addr} {J : Hp->Prop} {R : Zvj->Zg5->Prop} {lt : Nat->Nat->Bool}
noncomputable def ItAt (o : Obj) (l : Addr) (j : Nat) : Prop:=o.cls = .type "list_iterator" /\ o.data = .fields #[.ref l,.int (j : Int) 0]
theorem zts (hh : X.A.handled = none) (hlI : l≠I0) (hSI : S≠I0) (fpS : ∀ H' : Hp,H' S = none->FpOk X pins H' S) (fpI : ∀ H' : Hp,H' I0 = none->FpOk X pins H' I0) (hJl : ∀ H',J H'->SqL X.K H' l xs) (hkl : ks.length = xs.length)
  (turn : ∀ (i : Nat) x u k H' s' pl,xs[i]? = some x->ks[i]? = some k->RelV x u->Inv X (pins++pl) σ H' s'->J H' ->
   Zhs (Zh2 X.prog X.w) X.A.in1 (call (.ref q) [u]) (fun v s''=>∃ y H'',Inv X (pins++pl) σ H'' s''/\J H''/\Same H' H''/\RelV y v/\Rep X.K H'' k y) (fun _ _=>False) s')
  (hlt : ∀ (i j : Nat) k k' H' s' pl y z u v (C : Value->Zg5->Prop),ks[i]? = some k->ks[j]? = some k'->Inv X (pins++pl) σ H' s'->Rep X.K H' k y->RelV y u->Rep X.K H' k' z->RelV z v->C (.bool (lt i j)) s' ->
   Zhs (Zh2 X.prog X.w) X.A.in1 (Zm0 .Lt u v) C (fun _ _=>False) s')
  (tr : ∀ a b c : Nat,lt a b = true->lt c b = false->lt a c = true) (asy : ∀ a b : Nat,lt a b = true->lt b a = false)
  (hR : ∀ (i : Nat) x v H' s',xs[i]? = some x->RelV x v->(∀ j,j < xs.length->lt j i = false/\(j < i->lt i j = true))->Inv X pins σ H' s'->J H'->R (.ok (.ret v)) s') :
  ∀ (r j i : Nat) (H : Hp) (s : Zg5) (xb y : V) (vb kb : Value) (kd : D) (c : Nat) (oI : Obj),xs.length - (j + 1) = r->j + 1 <= xs.length->Inv X (pins++[(S,Zli "list" #[vb,kb] c),(I0,oI)]) σ H s->J H->ItAt oI l (j + 1) ->
   xs[i]? = some xb->RelV xb vb->ks[i]? = some kd->RelV y kb->Rep X.K H kd y->i <= j->(∀ j',j' <= j->lt j' i = false/\(j' < i->lt i j' = true)) ->
   Znm (Zh2 X.prog X.w) X.A (.builtin "min.loop" ⟨[.ref I0,.ref q,.ref S],[]⟩) R s:=by
 have hname : (toString "min" ++ toString ".loop" : String) = "min.loop" := by decide
 intro r
 induction r with
 | zero =>
  intro j i H s xb y vb kb kd c oI hr hj I hJ hit hxb rxb hkd rkb rpb hij hbest
  have hin : j + 1 = xs.length:=by omega
  have nS:=I.pin (S,Zli "list" #[vb,kb] c) (Zg9 _ (Zg9 _ (.head _)))
  have nI:=I.pin (I0,oI) (Zg9 _ (Zg9 _ (.tail _ (.head _))))
  obtain ⟨us,rv,pl,hz⟩:=I.list (hJl H hJ)
  have hul:=rv.length
  have W:=Znh (prog:=X.prog) (w:=X.w) (A:=X.A.in1) hh I0 l hlI us.toArray
  have hsz : us.toArray.size = us.length:=Zhw ..
  refine Zj5 Zm7 ?_
  rw [Zjf Zjm _]
  show Zhs _ X.A.in1 (Zo6 (.ref S) >>= _) _ _ _
  refine Zgz (Zl7 nS.1 rfl ?_)
  show Zhs _ X.A.in1 (Znb (Zo7 (.ref I0)) _ >>= _) _ _ _
  refine Zgz (Zjv (W.done _ _ _ ⟨by rw [hsz,<- hul,<- hin]; exact ⟨oI,nI.1,hit.1,hit.2⟩,pl.isList⟩ fun h' tk' hk'=>?_))
  have hS':=hk' S _ (by simpa using hSI) nS.1
  have fI:=fpI H nI.2.1
  have fS:=fpS H nS.2.1
  have I1 : Inv X pins σ H { s with heap:=h',toks:=tk' }:=I.unpinned.turned (fun b o hb q=>hk' b o (by simpa using hb) q) fI.1 fI.2.1 fI.2.2.2.1 fI.2.2.2.2.1 fI.2.2.2.2.2
  have s1:=Zji h' S (Zj0 fun _=>(#[] : Array Value))
  show Zhs _ X.A.in1 (Zsi S (fun _=>#[]) >>= _) _ _ _
  refine Zgz ?_
  refine Zlo hS' rfl (Zgz (Zkp (Zhc ?_)))
  have I2 : Inv X pins σ H { s with heap:=h'.update S (Zj0 fun _=>(#[] : Array Value)),toks:=tk' }:=I1.turned (t':=tk') (fun b o hb q=>(s1.2 b hb).trans q) fS.1 fS.2.1 fS.2.2.2.1 fS.2.2.2.2.1 fS.2.2.2.2.2
  exact hR i xb vb H _ hxb rxb (fun j' hj'=>hbest j' (by omega)) I2 hJ
 | succ r ih =>
  intro j i H s xb y vb kb kd c oI hr hj I hJ hit hxb rxb hkd rkb rpb hij hbest
  have hlt2 : j + 1 < xs.length:=by omega
  have nS:=I.pin (S,Zli "list" #[vb,kb] c) (Zg9 _ (Zg9 _ (.head _)))
  have nI:=I.pin (I0,oI) (Zg9 _ (Zg9 _ (.tail _ (.head _))))
  obtain ⟨us,rv,pl,hz⟩:=I.list (hJl H hJ)
  have hul:=rv.length
  have W:=Znh (prog:=X.prog) (w:=X.w) (A:=X.A.in1) hh I0 l hlI us.toArray
  have hsz : us.toArray.size = us.length:=Zhw ..
  refine Zj5 Zm7 ?_
  rw [Zjf Zjm _]
  show Zhs _ X.A.in1 (Zo6 (.ref S) >>= _) _ _ _
  refine Zgz (Zl7 nS.1 rfl ?_)
  show Zhs _ X.A.in1 (Znb (Zo7 (.ref I0)) _ >>= _) _ _ _
  refine Zgz (Zjv (W.item (j + 1) _ _ _ (by rw [hsz]; omega) ⟨⟨oI,nI.1,hit.1,hit.2⟩,pl.isList⟩ fun v h' tk' hP hst' hk'=>?_))
  have hv : us[j + 1]? = some v:=by simpa using hP
  obtain ⟨oI',hoI',hoc,hod⟩:=id hst'.1
  obtain ⟨x,hx,rx⟩ : ∃ x,xs[j + 1]? = some x/\RelV x v:=by
   obtain ⟨u',hu',ru'⟩:=rv.get (Zg1 hlt2)
   rw [hv] at hu'; cases hu'
   exact ⟨_,Zg1 hlt2,ru'⟩
  obtain ⟨k,hk⟩ : ∃ k,ks[j + 1]? = some k:=⟨_,Zg1 (by omega)⟩
  have Ip : Inv X (pins++(I0,oI)::[(S,Zli "list" #[vb,kb] c)]) σ H s:=I.pins_of fun p hp=>I.pin p (Zg9 _ (by
   rcases Zhe.mp hp with hp | hp
   ·exact Zhu _ hp
   ·refine Zg9 _ ?_
    rcases Zhp.mp hp with rfl | hp
    ·exact .tail _ (.head _)
    ·rw [Zg3.mp hp]; exact .head _))
  have Iq : Inv X (pins++(I0,oI')::[(S,Zli "list" #[vb,kb] c)]) σ H { s with heap:=h',toks:=tk' }:=Ip.reset (fpI H nI.2.1) (fun q hq=>by rw [Zg3.mp hq]; exact hSI) (fun b o hb q=>hk' b o (by simpa using hb) q) hoI' (fun v z=>by rw [hod] at z; cases z)
  have I1 : Inv X (pins++[(S,Zli "list" #[vb,kb] c),(I0,oI')]) σ H { s with heap:=h',toks:=tk' }:=Iq.pins_of fun p hp=>Iq.pin p (Zg9 _ (by
   rcases Zhe.mp hp with hp | hp
   ·exact Zhu _ hp
   ·refine Zg9 _ ?_
    rcases Zhp.mp hp with rfl | hp
    ·exact .tail _ (.head _)
    ·rw [Zg3.mp hp]; exact .head _))
  show Zhs _ X.A.in1 (Znb (Zrq [v] (call (.ref q) [v])) _ >>= _) _ _ _
  refine Zgz (Zjv (Zjp (Zid (turn (j + 1) x v k H _ _ hx hk rx I1 hJ) (fun kv s2 he=>?_) fun _ _ hF=>hF.elim)))
  obtain ⟨y2,H2,I2,hJ2,hsame,ry2,rp2⟩:=he
  have nS2:=I2.pin (S,Zli "list" #[vb,kb] c) (Zg9 _ (Zg9 _ (.head _)))
  have nI2:=I2.pin (I0,oI') (Zg9 _ (Zg9 _ (.tail _ (.head _))))
  show Zhs _ X.A.in1 (Znb (Zrq [v,kv] (Zm0 .Lt kv kb >>= _)) _ >>= _) _ _ _
  refine Zgz (Zjv (Zjp (Zgz (Zid (hlt (j + 1) i k kd H2 s2 _ y2 y kv kb (fun z s3=>z = .bool (lt (j + 1) i)/\s3 = s2) hk hkd I2 rp2 ry2 (rpb.mono hsame) rkb ⟨rfl,rfl⟩) (fun z s3 hz=>?_) fun _ _ hF=>hF.elim))))
  obtain ⟨rfl,rfl⟩:=hz
  refine Zgz (Zjp (Zje ?_))
  refine Zgz (Zkp (Zhc ?_))
  by_cases hb' : lt (j + 1) i = true
  ·have s1:=Zji s3.heap S (Zj0 fun _=>#[v,kv])
   obtain ⟨c2,hc2⟩ : ∃ c2,(s3.heap.update S (Zj0 fun _=>#[v,kv])).get? S = some (Zli "list" #[v,kv] c2):=⟨_,Zn6 nS2.1 fun _=>#[v,kv]⟩
   simp only [hb',if_true]
   refine Zgz ?_
   refine Zlo nS2.1 rfl (Zgz (Zkp ?_))
   rw [hname]
   have I3 : Inv X (pins++[(S,Zli "list" #[v,kv] c2),(I0,oI')]) σ H2 { s3 with heap:=s3.heap.update S (Zj0 fun _=>#[v,kv]) }:=I2.reset (t':=s3.toks) (fpS H2 nS2.2.1) (fun q hq=>by rw [Zg3.mp hq]; exact Zif hSI) (fun c u hc q=>(s1.2 c hc).trans q) hc2 (fun v z=>by cases z)
   refine Zhc ⟨Zke Zjm _,ih (j + 1) (j + 1) H2 _ x y2 v kv k c2 oI' (by omega) hlt2 I3 hJ2 ⟨hoc,hod⟩ hx rx hk ry2 rp2 (Zha _) fun j' hj'=>?_⟩
   by_cases e : j' = j + 1
   ·subst e
    refine ⟨?_,fun h=>absurd h (Zh6 _)⟩
    cases hq : lt (j + 1) (j + 1) with
    | false=>rfl
    | true=>have:=asy _ _ hq; rw [hq] at this; cases this
   ·have h1:=tr (j + 1) i j' hb' (hbest j' (by omega)).1
    exact ⟨asy _ _ h1,fun _=>h1⟩
  ·have hb2 : lt (j + 1) i = false:=by simpa using hb'
   simp only [hb2,Zlf,if_false]
   refine Zgz (Zkp ?_)
   rw [hname]
   refine Zhc ⟨Zke Zjm _,ih (j + 1) i H2 _ xb y vb kb kd c oI' (by omega) hlt2 I2 hJ2 ⟨hoc,hod⟩ hxb rxb hkd rkb (rpb.mono hsame) (by omega) fun j' hj'=>?_⟩
   by_cases e : j' = j + 1
   ·subst e
    exact ⟨hb2,fun h=>absurd h (by omega)⟩
   ·exact hbest j' (by omega)
theorem ztx {QQ : Value->Zg5->Prop} {E : Value->Zg5->Prop} (hc : X.calm = true) (I : Inv X pins σ H s) (hJ : J H) (hJl : ∀ H',J H'->SqL X.K H' l xs) (hkl : ks.length = xs.length) (hne : 0 < xs.length)
  (turn : ∀ (i : Nat) x u k H' s' pl,xs[i]? = some x->ks[i]? = some k->RelV x u->Inv X (pins++pl) σ H' s'->J H' ->
   Zhs (Zh2 X.prog X.w) X.A.in1 (call (.ref q) [u]) (fun v s''=>∃ y H'',Inv X (pins++pl) σ H'' s''/\J H''/\Same H' H''/\RelV y v/\Rep X.K H'' k y) (fun _ _=>False) s')
  (hlt : ∀ (i j : Nat) k k' H' s' pl y z u v (C : Value->Zg5->Prop),ks[i]? = some k->ks[j]? = some k'->Inv X (pins++pl) σ H' s'->Rep X.K H' k y->RelV y u->Rep X.K H' k' z->RelV z v->C (.bool (lt i j)) s' ->
   Zhs (Zh2 X.prog X.w) X.A.in1 (Zm0 .Lt u v) C (fun _ _=>False) s')
  (tr : ∀ a b c : Nat,lt a b = true->lt c b = false->lt a c = true) (asy : ∀ a b : Nat,lt a b = true->lt b a = false)
  (hQ : ∀ (i : Nat) x v H' s',xs[i]? = some x->RelV x v->(∀ j,j < xs.length->lt j i = false/\(j < i->lt i j = true))->Inv X pins σ H' s'->J H'->QQ v s') :
  Zhs (Zh2 X.prog X.w) X.A (call (.builtin "min") [.ref l] [(Zlc "key", .ref q)]) QQ E s:=by
 have hname : (toString "min" ++ toString ".loop" : String) = "min.loop" := by decide
 have hh : X.A.handled = none:=I.ok.hd hc
 obtain ⟨us0,rv0,pl0,hz0⟩:=I.list (hJl H hJ)
 have hls:=pl0.isList
 obtain ⟨ol,hol,_⟩:=id hls
 have hll : l < s.heap.objs.size:=Zhf hol
 refine kmk_tree PySem.F.kind_min PySem.F.plain_min PySem.F.entry_min (kmk_min_key _ _) ?_
 show Zhs _ X.A.in1 (Zkh "min" ["key", "default"] 0 ⟨[],[(Zlc "key", .ref q)]⟩ >>= _) _ _ s
 refine Zgz (Zqp (show Zkh "min" ["key", "default"] 0 ⟨[],[(Zlc "key", .ref q)]⟩ = pure [some (.ref q),none] from rfl) ?_)
 refine Zgz (Zhc ?_)
 refine Zgz (Znf hls ?_)
 refine Zgz (Zvx ?_ (Zih _))
 rw [hname]
 have hS : (s.heap.push { cls:=.type "list_iterator", data:=.fields #[.ref l,.int 0 0] }).objs.size = s.heap.objs.size + 1:=size_push' ..
 have hlI : l≠s.heap.objs.size:=Zht hll
 have hSI : (s.heap.push { cls:=.type "list_iterator", data:=.fields #[.ref l,.int 0 0] }).objs.size≠s.heap.objs.size:=by rw [hS]; exact Zno (Zpc _)
 have fpI : ∀ H' : Hp,H' s.heap.objs.size = none->FpOk X pins H' s.heap.objs.size:=fun H' hn=>I.fpOk (Zha _) hn
 have fpS : ∀ H' : Hp,H' (s.heap.push { cls:=.type "list_iterator", data:=.fields #[.ref l,.int 0 0] }).objs.size = none->FpOk X pins H' (s.heap.push { cls:=.type "list_iterator", data:=.fields #[.ref l,.int 0 0] }).objs.size:=fun H' hn=>I.fpOk (by rw [hS]; exact Zmp _) hn
 have gI : ((s.heap.push { cls:=.type "list_iterator", data:=.fields #[.ref l,.int 0 0] }).push (Zli "list" #[] 0)).get? s.heap.objs.size = some { cls:=.type "list_iterator", data:=.fields #[.ref l,.int 0 0] } :=
  Zg6 _ (Zho _ rfl)
 have gS : ((s.heap.push { cls:=.type "list_iterator", data:=.fields #[.ref l,.int 0 0] }).push (Zli "list" #[] 0)).get? (s.heap.push { cls:=.type "list_iterator", data:=.fields #[.ref l,.int 0 0] }).objs.size = some (Zli "list" #[] 0):=Zho _ rfl
 have I1 : Inv X pins σ H { s with heap:=(s.heap.push { cls:=.type "list_iterator", data:=.fields #[.ref l,.int 0 0] }).push (Zli "list" #[] 0) }:=I.kept (t':=s.toks) fun b o e=>Zg6 _ (Zg6 _ e)
 generalize (s.heap.push { cls:=.type "list_iterator", data:=.fields #[.ref l,.int 0 0] }).objs.size = S at *
 refine Zhc ⟨Zke Zjm _,?_⟩
 have hIn : H s.heap.objs.size = none:=I.hok.fresh (Zha _)
 have hSn : H S = none:=I.hok.fresh (by rw [hS]; exact Zmp _)
 generalize s.heap.objs.size = I0 at *
 obtain ⟨us,rv,pl,hz⟩:=I1.list (hJl H hJ)
 have hul:=rv.length
 have W:=Znh (prog:=X.prog) (w:=X.w) (A:=X.A.in1) hh I0 l hlI us.toArray
 have hsz : us.toArray.size = us.length:=Zhw ..
 refine Zj5 Zm7 ?_
 rw [Zjf Zjm _]
 show Zhs _ X.A.in1 (Zo6 (.ref S) >>= _) _ _ _
 refine Zgz (Zl7 gS rfl ?_)
 show Zhs _ X.A.in1 (Znb (Zo7 (.ref I0)) _ >>= _) _ _ _
 refine Zgz (Zjv (W.item 0 _ _ _ (by rw [hsz]; omega) ⟨⟨_,gI,rfl,rfl⟩,pl.isList⟩ fun v h' tk' hP hst' hk'=>?_))
 have hv : us[0]? = some v:=by simpa using hP
 obtain ⟨oI',hoI',hoc,hod⟩:=id hst'.1
 obtain ⟨x,hx,rx⟩ : ∃ x,xs[0]? = some x/\RelV x v:=by
  obtain ⟨u',hu',ru'⟩:=rv.get (Zg1 hne)
  rw [hv] at hu'; cases hu'
  exact ⟨_,Zg1 hne,ru'⟩
 obtain ⟨k,hk⟩ : ∃ k,ks[0]? = some k:=⟨_,Zg1 (by omega)⟩
 have fI:=fpI H hIn
 have fS:=fpS H hSn
 have I2 : Inv X pins σ H { s with heap:=h',toks:=tk' }:=I1.turned (fun b o hb q=>hk' b o (by simpa using hb) q) fI.1 fI.2.1 fI.2.2.2.1 fI.2.2.2.2.1 fI.2.2.2.2.2
 have I3 : Inv X (pins++[(S,Zli "list" #[] 0),(I0,oI')]) σ H { s with heap:=h',toks:=tk' }:=I2.pins_of fun p hp=>by
  rcases Zhe.mp hp with hp | hp
  ·exact I2.pin p (Zg9 _ hp)
  ·rcases Zhp.mp hp with rfl | hp
   ·exact ⟨hk' S _ (by simpa using hSI) gS,fS.1,fS.2.1,fS.2.2.1,fun v z=>by cases z⟩
   ·rw [Zg3.mp hp]
    exact ⟨hoI',fI.1,fI.2.1,fI.2.2.1,fun v z=>by rw [hod] at z; cases z⟩
 show Zhs _ X.A.in1 (Znb (Zrq [v] (call (.ref q) [v])) _ >>= _) _ _ _
 refine Zgz (Zjv (Zjp (Zid (turn 0 x v k H _ _ hx hk rx I3 hJ) (fun kv s2 he=>?_) fun _ _ hF=>hF.elim)))
 obtain ⟨y2,H2,I4,hJ2,hsame,ry2,rp2⟩:=he
 have nS2:=I4.pin (S,Zli "list" #[] 0) (Zg9 _ (Zg9 _ (.head _)))
 have s1:=Zji s2.heap S (Zj0 fun _=>#[v,kv])
 obtain ⟨c2,hc2⟩ : ∃ c2,(s2.heap.update S (Zj0 fun _=>#[v,kv])).get? S = some (Zli "list" #[v,kv] c2):=⟨_,Zn6 nS2.1 fun _=>#[v,kv]⟩
 show Zhs _ X.A.in1 (Zsi S (fun _=>#[v,kv]) >>= _) _ _ _
 refine Zgz ?_
 refine Zlo nS2.1 rfl ?_
 rw [hname]
 have I5 : Inv X (pins++[(S,Zli "list" #[v,kv] c2),(I0,oI')]) σ H2 { s2 with heap:=s2.heap.update S (Zj0 fun _=>#[v,kv]) }:=I4.reset (t':=s2.toks) (fpS H2 nS2.2.1) (fun q hq=>by rw [Zg3.mp hq]; exact Zif hSI) (fun c u hc q=>(s1.2 c hc).trans q) hc2 (fun v z=>by cases z)
 refine Zhc ⟨Zke Zjm _,zts hh hlI hSI fpS fpI hJl hkl turn hlt tr asy (fun i x v H' s' h1 h2 h3 h4 h5=>hQ i x v H' s' h1 h2 h3 h4 h5) _ 0 0 H2 _ x y2 v kv k c2 oI' rfl hne I5 hJ2 ⟨hoc,hod⟩ hx rx hk ry2 rp2 (Zha _) fun j' hj'=>?_⟩
 have e : j' = 0:=by omega
 subst e
 refine ⟨?_,fun h=>absurd h (Zh6 _)⟩
 cases hq : lt 0 0 with
 | false=>rfl
 | true=>have:=asy _ _ hq; rw [hq] at this; cases this
end
end L2
namespace L2
open PySem PySem.W PySem.Spec PyProof.Rows PySem.Calls
open PySem.MeetsSeq PySem.MeetsSeq2 PySem.MeetsSeq3
open AutoSeq1 (wpAny_loadPart')
theorem zhh {x y : Int} {xs ys : List Int} : decide (x::xs < y::ys) = if x = y then decide (xs < ys) else decide (x < y):=by
 by_cases h : x = y
 ·subst h
  rw [if_pos rfl,Zh8]
  simp only [decide_eq_true_eq,Zii]
  exact ⟨fun h=>h.elim (fun z=>absurd z (Int.lt_irrefl _)) fun z=>z.2,fun h=>.inr ⟨trivial,h⟩⟩
 ·rw [if_neg h,Zh8]
  simp only [decide_eq_true_eq,Zii]
  exact ⟨fun z=>z.elim id fun z=>absurd z.1 h,fun z=>.inl z⟩
theorem zwd (x y : Int) : decide ((D.int x).fo < (D.int y).fo) = decide (x < y):=by
 rw [Zh8]
 simp [D.fo,Zii]
theorem yci (l b : Addr) (items items2 : Array Value) (n n2 : Nat) (dd dd2 : Option Addr) (sl sl2 : Array (Option Value)) (xs ys : List Int) (h1 : ∀ (i : Nat) (x : Int),xs[i]? = some x -> ∃ t,items[i]? = some (Zj6 x t)) (h2 : ∀ (i : Nat) (x : Int),ys[i]? = some x -> ∃ t,items2[i]? = some (Zj6 x t))
  (z1 : items.size = xs.length) (z2 : items2.size = ys.length) (hsz : xs.length = ys.length) (k : Nat) :
  ∀ i : Nat,xs.length - i = k->Meets (Zib.«list.__eq__.loop» ⟨[.ref l,.ref b,Zsj i,Zsj 0],[]⟩)
   (fun _ R s=>s.heap.get? l = some { cls:=.type "list", dict:=dd,data:=.seq items n,slots:=sl }/\s.heap.get? b = some { cls:=.type "list", dict:=dd2,data:=.seq items2 n2,slots:=sl2 } /\
    R (.ok (.ret (.bool (decide (xs.drop i < ys.drop i))))) s):=by
 induction k with
 | zero =>
  intro i hk prog w A R s h
  obtain ⟨hp,g,d,tk,os⟩:=s; obtain ⟨hl,hb,h⟩:=h
  wp_walk using Zis hl,Zis hb
  have hi1 : items[((i : Nat) : Int).toNat]? = none:=by simp; omega
  have hi2 : items2[((i : Nat) : Int).toNat]? = none:=by simp; omega
  have hd : xs.drop i = []:=by simp; omega
  have hd2 : ys.drop i = []:=by simp; omega
  rw [hd,hd2] at h
  rw [hi1,hi2]
  wp_walk using Zis hl,Zis hb
  show R (.ok (.ret (.bool (decide (items.size < items2.size))))) _
  rw [decide_eq_false (show ¬ items.size < items2.size by omega)]
  simpa using h
 | succ k ih =>
  intro i hk prog w A R s h
  obtain ⟨hp,g,d,tk,os⟩:=s; obtain ⟨hl,hb,h⟩:=h
  wp_walk using Zis hl,Zis hb
  have hlt : i < xs.length:=by omega
  have hlt2 : i < ys.length:=by omega
  obtain ⟨t1,e1⟩:=h1 i xs[i] (Zg1 hlt)
  obtain ⟨t2,e2⟩:=h2 i ys[i] (Zg1 hlt2)
  have hi1 : items[((i : Nat) : Int).toNat]? = some (.int xs[i] t1):=by simpa using e1
  have hi2 : items2[((i : Nat) : Int).toNat]? = some (.int ys[i] t2):=by simpa using e2
  have hc : ((i : Int) + 1) = ((i + 1 : Nat) : Int):=by push_cast; rfl
  rw [Zp5 hlt,Zp5 hlt2,zhh] at h
  rw [hi1,hi2]
  refine Zgz (zk1 (t:=.i) (d:=.int xs[i]) (e:=.int ys[i]) rfl rfl ⟨t1,rfl⟩ ⟨t2,rfl⟩ ?_)
  by_cases he : xs[i] = ys[i]
  ·rw [if_pos he] at h
   rw [decide_eq_true (show D.int xs[i] = D.int ys[i] by rw [he])]
   wp_walk
   rw [hc]
   exact ⟨Zke plain_eq_loop _,Zj5 entry_eq_loop (by
    rw [Zjf plain_eq_loop _]
    exact ih (i + 1) (by omega) prog w A R _ ⟨hl,hb,h⟩)⟩
  ·rw [if_neg he] at h
   rw [decide_eq_false (show ¬ D.int xs[i] = D.int ys[i] from fun z=>he (by injection z))]
   wp_walk using Zis hl,Zis hb
   rw [hi1,hi2]
   refine Zgz (zk4 (t:=.i) (d:=.int xs[i]) (e:=.int ys[i]) rfl rfl ⟨t1,rfl⟩ ⟨t2,rfl⟩ ?_)
   rw [zwd]
   wp_walk
   simpa using h
theorem yas (l b : Addr) (items items2 : Array Value) (n n2 : Nat) (dd dd2 : Option Addr) (sl sl2 : Array (Option Value)) (xs ys : List Int) (h1 : ∀ (i : Nat) (x : Int),xs[i]? = some x -> ∃ t,items[i]? = some (Zj6 x t)) (h2 : ∀ (i : Nat) (x : Int),ys[i]? = some x -> ∃ t,items2[i]? = some (Zj6 x t))
  (z1 : items.size = xs.length) (z2 : items2.size = ys.length) (hsz : xs.length = ys.length) :
  Meets (Zib.«list.__lt__» ⟨[.ref l,.ref b],[]⟩)
   (fun _ R s=>s.heap.get? l = some { cls:=.type "list", dict:=dd,data:=.seq items n,slots:=sl }/\s.heap.get? b = some { cls:=.type "list", dict:=dd2,data:=.seq items2 n2,slots:=sl2 } /\
    R (.ok (.ret (.bool (decide (xs < ys))))) s):=by
 intro prog w A R s h
 obtain ⟨hp,g,d,tk,os⟩:=s; obtain ⟨hl,hb,h⟩:=h
 have f3:=AutoSeq1.sub_list_list
 wp_walk using Zis hl,Zis hb
 exact ⟨Zke plain_eq_loop _,Zj5 entry_eq_loop (by
  rw [Zjf plain_eq_loop _]
  exact yci l b items items2 n n2 dd dd2 sl sl2 xs ys h1 h2 z1 z2 hsz _ 0 rfl prog w A R _ ⟨hl,hb,by simpa using h⟩)⟩
inductive LexC (prog : Zhz) (w : Zix) (A : Zh3) (s : Zg5) : List Value->List Value->Bool->Prop
 | nil : LexC prog w A s [] [] false
 | eq {u v : Value} {us vs : List Value} {r : Bool} (h : ∀ (E : Value->Zg5->Prop) (Q : Bool->Zg5->Prop),Q true s->Zhs (Zh2 prog w) A (eqBool u v) Q E s) (t : LexC prog w A s us vs r) : LexC prog w A s (u::us) (v::vs) r
 | ne {u v : Value} {us vs : List Value} {r : Bool} (h : ∀ (E : Value->Zg5->Prop) (Q : Bool->Zg5->Prop),Q false s->Zhs (Zh2 prog w) A (eqBool u v) Q E s) (g : ∀ (E : Value->Zg5->Prop) (Q : Value->Zg5->Prop),Q (.bool r) s->Zhs (Zh2 prog w) A (Zm0 .Lt u v) Q E s) : LexC prog w A s (u::us) (v::vs) r
theorem znt (prog : Zhz) (w : Zix) (l b : Addr) (items items2 : Array Value) (n n2 : Nat) (dd dd2 : Option Addr) (sl sl2 : Array (Option Value)) (hsz : items.size = items2.size) (r : Bool) :
  MeetsIn prog w (Zib.«tuple.__lt__» ⟨[.ref l,.ref b],[]⟩)
   (fun A R s=>s.heap.get? l = some { cls:=.type "tuple", dict:=dd,data:=.seq items n,slots:=sl }/\s.heap.get? b = some { cls:=.type "tuple", dict:=dd2,data:=.seq items2 n2,slots:=sl2 } /\
    LexC prog w A.in1 s items.toList items2.toList r/\R (.ok (.ret (.bool r))) s) :=
 .of_wp fun A R s h=>by
  obtain ⟨hp,g,d,tk,os⟩:=s; obtain ⟨hl,hb,hx,h⟩:=h
  have f2:=AutoSeq1.sub_tuple_tuple
  wp_walk using Zis hl,Zis hb,wpAny_forIn_list _ (fun rest b s'=>b.1 = none/\s' = ⟨hp,g,d,tk,os⟩ /\ ∃ (vs ws : List Value),rest = vs.zip ws/\LexC prog w A.in1 ⟨hp,g,d,tk,os⟩ vs ws r) _
  case turn =>
   rintro ⟨y,x⟩ rest b s' ⟨hb',rfl,vs,ws,hz,hc⟩
   cases hc with
   | nil=>cases hz
   | eq he ht =>
    rw [Zmw] at hz
    injection hz with hyx hrest
    injection hyx with hy hx
    subst hy hx
    refine Zgz (he _ _ ?_)
    wp_walk
    exact ⟨rfl,rfl,_,_,hrest,ht⟩
   | ne he hg =>
    rw [Zmw] at hz
    injection hz with hyx hrest
    injection hyx with hy hx
    subst hy hx
    refine Zgz (he _ _ ?_)
    refine Zgz (wpAny_rule ?_)
    refine Zgz (hg _ _ ?_)
    wp_walk
    exact ⟨_,rfl,by simpa using h⟩
  case fin =>
   rintro ⟨b1,b2⟩ s' ⟨hb',rfl,vs,ws,hz,hc⟩
   simp only at hb'
   subst hb'
   cases hc with
   | nil =>
    wp_walk
    exact ⟨_,rfl,by
     have hd : decide (items.size < items2.size) = false:=decide_eq_false (by omega)
     simpa [Zug,hd] using h⟩
   | eq he ht=>rw [Zmw] at hz; cases hz
   | ne he hg=>rw [Zmw] at hz; cases hz
  case h =>
   exact ⟨rfl,rfl,items.toList,items2.toList,rfl,hx⟩
end L2
namespace L2
open PySem PySem.W PySem.Spec PyProof.Rows
noncomputable def slots (n : Nat) (ds : List D) : List Sl:=ds.map Sl.d++Znx (n - ds.length) .un
section
variable {K : Zgy} {H : Hp} {vs : List V} {Q : VK} {X : XK} {N : List Str} {t : TS} {pre : List D->Prop}
theorem zcj {G : Hp} {ds : List D} (sm : Same G H) (r : Reps K G ds vs) (hN : vs.length <= N.length) : Sat K G H G G H (zei N vs) (slots N.length ds):=by
 have hl:=r.length
 have ads : ∀ (i : Nat) s,(slots N.length ds)[i]? = some s->s.ads = []:=fun i s hs=>by
  have hm:=Zhb hs
  unfold slots at hm
  rcases Zhe.mp hm with h | h
  ·obtain ⟨d,_,rfl⟩:=Zhk.mp h; rfl
  ·rw [Zqh h]; rfl
 refine ⟨Ext.refl sm,Same.refl _,?_,fun i s hs=>?_,fun i s hs=>by rw [ads i s hs]; exact Zny,fun i j s s' _ hs _ p hp=>by rw [ads i s hs] at hp; cases hp⟩
 ·unfold zei slots; simp; lia
 ·by_cases hi : i < ds.length
  ·have e : (slots N.length ds)[i]? = some (.d ds[i]):=by
    unfold slots
    rw [Zip (by simpa using hi),Zg8,Zg1 hi]; rfl
   rw [e] at hs
   cases hs
   obtain ⟨v,hv,rv⟩:=r.get' (Zg1 hi)
   refine ⟨v,?_,rv⟩
   unfold zei
   rw [Zg0,Zip (by simp; lia),Zg8,hv]; rfl
  ·have hm : s = .un:=by
    unfold slots at hs
    rw [Zil (by simp; lia)] at hs
    exact Zqh (Zhb hs)
   rw [hm]; trivial
theorem yd8 {res : List D->D} (h : SpD K pre res vs H Q X) (hN : vs.length <= N.length) (body : ∀ G ds,pre ds->RtD K G H Q (res ds)->Go K G H G { nx:=fun _ H'=>Q .non H',rt:=Q } (slots N.length ds) t) : t { nx:=fun _ H'=>Q .non H',rt:=Q } (zei N vs) H:=by
 obtain ⟨G,ds,sm,r,hp,q⟩:=h
 exact body G ds hp (fun v F H' e r=>q v F H' e r) G H _ (zcj sm r hN)
theorem yej {res : List D->List D} (h : SpO K pre res vs H Q X) (hN : vs.length <= N.length) (body : ∀ G ds,pre ds->RtO K G H Q (res ds)->Go K G H G { nx:=fun _ H'=>Q .non H',rt:=Q } (slots N.length ds) t) : t { nx:=fun _ H'=>Q .non H',rt:=Q } (zei N vs) H:=by
 obtain ⟨G,ds,sm,r,hp,q⟩:=h
 exact body G ds hp (fun p ws F H' e h1 h2 h3 r=>q p ws F H' e h1 h2 h3 r) G H _ (zcj sm r hN)
theorem zvk {res : List D->D} {n : Nat} (hpre : ∀ ds,pre ds->ds.length = n) (h : SpD K pre res vs H Q X) : vs.length = n:=by
 obtain ⟨G,ds,sm,r,hp,q⟩:=h
 rw [<- r.length]; exact hpre ds hp
theorem zvh {res : List D->List D} {n : Nat} (hpre : ∀ ds,pre ds->ds.length = n) (h : SpO K pre res vs H Q X) : vs.length = n:=by
 obtain ⟨G,ds,sm,r,hp,q⟩:=h
 rw [<- r.length]; exact hpre ds hp
end
section
variable {K : Zgy} {G H₀ L : Hp} {ss : List Sl} {t ta tb : TE} {d : D} {ds es : List D} {i j : Int}
theorem zgy (a : EvB K G H₀ L ss ta (.int i)) (b : EvB K G H₀ L ss tb (.int j)) (h : 0 < j) : Ev K G H₀ L ss (tOp (rI (fun _ j=>0 < j) fun i j=>.int (i % j)) ta tb) (.int (i % j)):=zub (C:=fun _ j=>0 < j) (g:=fun i j=>i % j) a b h
theorem zjz (a : EvB K G H₀ L ss ta (.int i)) (b : EvB K G H₀ L ss tb (.int j)) (h : CDiv i j) : Ev K G H₀ L ss (tOp (rI CDiv fun i j=>.int (i / j)) ta tb) (.int (i / j)):=zub (C:=CDiv) (g:=fun i j=>i / j) a b h
theorem zrt (a : EvB K G H₀ L ss ta (.int i)) (b : EvB K G H₀ L ss tb (.int j)) : Ev K G H₀ L ss (tOp (rI0 fun i j=>.bl (decide (i < j))) ta tb) (.bl (decide (i < j))):=zkj (g:=fun i j=>decide (i < j)) a b
end
theorem yfs (n d : Nat) {a : Int} (h : 0 <= a) : HT.sIx n d (some a) = min a.toNat n:=by
 show (if a < 0 then (a + (n : Int)).toNat else min a.toNat n) = _
 rw [if_neg (by lia)]
theorem zt0 (m : List D) {b : Int} (h : 0 <= b) : cutD m (some b) none = m.drop b.toNat:=by
 unfold cutD
 rw [yfs _ _ h,show HT.sIx m.length m.length none = m.length from rfl,List.take_of_length_le (by rw [Zl1]; lia)]
 by_cases hh : b.toNat <= m.length
 ·rw [Zs1 hh]
 ·rw [Zsr (by lia),List.drop_length,List.drop_eq_nil_of_le (by lia)]
theorem zxm {α β : Type} (xs : List α) (z : α) (p : α->Bool) (f : α->β) : ((Zg4 xs.length).filter fun i=>p (xs.getD i z)).map (fun i=>f (xs.getD i z)) = (xs.filter p).map f:=by
 have e : xs = (Zg4 xs.length).map fun i=>xs.getD i z:=by
  refine Zkg fun i=>?_
  rw [Zg8]
  by_cases hi : i < xs.length
  ·rw [Zi1 hi,Zg1 hi]; simp [Zg0,hi]
  ·rw [Zio (by lia),Zio (by simp; lia)]; rfl
 conv=>rhs; rw [e]
 rw [Znl,Zh5]
 rfl
section
variable {K : Zgy} {G H₀ L : Hp} {ss : List Sl}
theorem zhe {α : Type} (xs : List α) (enc : α->D) (p : α->Bool) (f : α->D) {tl : TE} {g : TG} {tt : TT} {te : TE} {nt : Nat} {cs : List Nat} (a : EvL K G H₀ L ss tl (xs.map enc)) (hk : GK nt g) (hc : cs.Nodup) (hz : xs.length < sizeLine)
  (hs : ∀ x∈xs,∃ ss',Tg K G H₀ L g (enc x) (lcSl nt cs ss) ss'/\EvT K G H₀ L ss' tt (p x)/\(p x = true->Ev K G H₀ L ss' te (f x))) :
  EvO K G H₀ L ss (tLC nt cs (zvb K tl) g tt te) ((xs.filter p).map f):=by
 cases xs with
 | nil =>
  have:=zkc (p:=fun _=>true) (f:=fun _=>.non) (tt:=tt) (te:=te) (zqo a) hk hc (by simpa using hz) (fun i hi=>by simp at hi)
  simpa using this
 | cons z zs =>
  have hl : ((z::zs).map enc).length = (z::zs).length:=by simp
  have:=zkc (p:=fun i=>p ((z::zs).getD i z)) (f:=fun i=>f ((z::zs).getD i z)) (tt:=tt) (te:=te) (zqo a) hk hc (by rw [hl]; exact hz) (fun i hi=>by
   rw [hl] at hi
   have hm : (z::zs).getD i z∈(z::zs):=by
    rw [Zg0,Zg1 hi]; exact Zj9 hi
   have e : ((z::zs).map enc).getD i .non = enc ((z::zs).getD i z):=by
    rw [Zg0,Zg8,Zg0,Zg1 hi]; rfl
   rw [e]
   exact hs _ hm)
  rw [hl,zxm] at this
  exact this
theorem zji : EvT K G H₀ L ss zwo true:=fun F H σ Q S q=>q _ _ (Ext.refl S.ext.fh)
theorem zp4 {α : Type} (xs : List α) (enc : α->D) (f : α->D) {tl : TE} {g : TG} {te : TE} {nt : Nat} {cs : List Nat} (a : EvL K G H₀ L ss tl (xs.map enc)) (hk : GK nt g) (hc : cs.Nodup) (hz : xs.length < sizeLine)
  (hs : ∀ x∈xs,∃ ss',Tg K G H₀ L g (enc x) (lcSl nt cs ss) ss'/\Ev K G H₀ L ss' te (f x)) :
  EvO K G H₀ L ss (tLC nt cs (zvb K tl) g zwo te) (xs.map f):=by
 have:=zhe xs enc (fun _=>true) f a hk hc hz (tt:=zwo) (te:=te) fun x hx=>by
  obtain ⟨ss',h1,h2⟩:=hs x hx
  exact ⟨ss',h1,zji,fun _=>h2⟩
 rw [show xs.filter (fun _=>true) = xs from Zk8.mpr (by simp)] at this
 exact this
theorem zma {α : Type} {xs : List α} {g : α->Bool} {t : TE} (b : EvL K G H₀ L ss t (xs.map fun x=>D.bl (g x))) : Ev K G H₀ L ss (tCB (rAll K) (za3 t tNil)) (.bl (xs.all g)):=by
 have:=ydl (K:=K) (G:=G) (H₀:=H₀) (L:=L) (ss:=ss) (t:=t) (bs:=xs.map g) (by rw [Zh5]; exact b)
 rw [List.all_map] at this
 exact this
end
theorem Reps.cat {K : Zgy} {H : Hp} : ∀ {ds es : List D} {xs ys : List V},Reps K H ds xs->Reps K H es ys->Reps K H (ds++es) (xs++ys)
 | [],es,xs,ys,h,k=>by rw [Reps] at h; subst h; exact k
 | d::ds,es,xs,ys,h,k=>by
  rw [Reps] at h
  obtain ⟨x,xs',rfl,h1,h2⟩:=h
  exact Reps.cons h1 (h2.cat k)
section
variable {K : Zgy} {G H₀ L : Hp} {ss : List Sl} {E : Ends} {ds es : List D}
theorem zs8 {i : Nat} {p : Addr} {t1 : TE} (hs : ss[i]? = some (.o p ds)) (a : EvO K G H₀ L ss t1 es) (hz : ds.length + es.length <= sizeLine) (h : Nx K G H₀ L E.nx (ss.set i (.o p (ds++es)))) :
  Go K G H₀ L E ss (zuj (tBM K "list" zwt (tVar i) (za3 t1 tNil))):=fun F H σ S=>by
 obtain ⟨e,h0,fp,vs,hp,r⟩:=S.getO hs
 refine ⟨.ref p,e,.inl ⟨rfl,_,SqL.of hp⟩,a F H σ _ S fun b zs F' H' e' hb fb hb' r'=>?_⟩
 have S':=S.ext2 e'
 obtain ⟨e2,h02,fp2,vs',hp2,r2⟩:=S'.getO hs
 exact ⟨p,b,vs',zs,rfl,rfl,hp2,hb',by rw [<- r2.length,<- r'.length]; exact hz,h F' _ σ (S'.write hs (r2.cat r'))⟩
end
end L2
namespace L2T
open PySem
structure TOk (t : Zqj) : Prop where
 pl : t.place.toList.Pairwise (· < ·)
 du : t.dummies.toList.Pairwise (· < ·)
 ple : ∀ j∈t.place.toList,j <= t.mask
 dle : ∀ j∈t.dummies.toList,j <= t.mask
 dis : ∀ j∈t.dummies.toList,j ∉ t.place.toList
 pow : ∃ k,t.mask + 1 = 2 ^ (k + 3)
 big : t.mask <= 8191
end L2T
namespace L2T
open PySem SetTable
noncomputable def advM (mask : Nat) (p : Probe) : Probe :=
 if p.more > 0 then { p with j:=p.j + 1,more:=p.more - 1 } else
 let (i,perturb):=leap mask p.i p.perturb
 { p with j:=i,more:=runEnd mask i - i,i,perturb }
noncomputable def stM (mask i perturb : Nat) : Probe:={ j:=i,more:=runEnd mask i - i,i,perturb,dummy:=none }
noncomputable def prM (mask : Nat) (h : Int) : Nat->Probe
 | 0=>stM mask (bits h % (mask + 1)) (bits h)
 | n + 1=>advM mask (prM mask h n)
noncomputable def posM (mask : Nat) (h : Int) (n : Nat) : Nat:=(prM mask h n).j
noncomputable def ygd (t : Zqj) (h : Int) (j : Nat) : Prop:=∃ n,posM t.mask h n = j /\ ∀ m,m < n->t.slot (posM t.mask h m) ≠ .empty
structure SOk {α : Type} (t : Zqj) (es : List (Int × α)) : Prop where
 ok : TOk t
 room : t.fill * 5 < t.mask * 3
 size : t.place.size = es.length
 reach : ∀ c∈t.place.toList.zip es,ygd t c.2.1 c.1
noncomputable def yf3 (mask : Nat) (owner : Array (Option Nat)) : List (Nat × Nat):=(Zg4 (mask + 1)).filterMap fun j=>(owner.getD j none).map (j,·)
structure LInv (mask : Nat) (hs : List Int) (owner : Array (Option Nat)) : Prop where
 size : owner.size = mask + 1
 perm : ((yf3 mask owner).map (·.2)).Perm (Zg4 hs.length)
 reach : ∀ j i,owner.getD j none = some i -> ∃ h,hs[i]? = some h /\ ∃ n,posM mask h n = j /\ ∀ q,q < n->owner.getD (posM mask h q) (some 0)≠none
end L2T
namespace L2
open PySem PySem.Spec PyProof.Rows L2T
inductive SK where
 | one (k : Key)
 | many (ks : List Key)
 deriving DecidableEq
noncomputable def SK.flat : SK->Bool
 | .one _=>true
 | .many _=>false
section
variable (prog : Zhz) (w : Zix)
noncomputable def SK.is (h : Heap) : SK->Value->Prop
 | .one k,v=>(za1 prog w).is k v = true
 | .many ks,v=>∃ a,v = .ref a/\IsTupleKey (za1 prog w) h ks a
noncomputable def SK.hash : SK->Int
 | .one k=>(za1 prog w).hash k
 | .many ks=>tupleKeyHash (za1 prog w) ks
inductive Es (h : Heap) : List SK->List (Int × Value)->Prop
 | nil : Es h [] []
 | cons {k : SK} {e : Int × Value} {ks : List SK} {es : List (Int × Value)} : e.1 = k.hash prog w->k.is prog w h e.2->Es h ks es->Es h (k::ks) (e::es)
noncomputable def led0 : Bool:=!w.params.followText "set-order"
structure SetO (h : Heap) (o : Obj) (ks : List SK) (es : Array (Int × Value)) (ep : Nat) (t : Zqj) : Prop where
 ex : o.ExactSet
 data : o.data = .set es ep t
 tab : SOk t es.toList
 ent : Es prog w h ks es.toList
 nod : ks.Nodup
 small : ks.length <= 1000
 led : t.led = led0 w
 kind : ∃ f,∀ k∈ks,k.flat = f
end
section
variable {prog : Zhz} {w : Zix} {A : Zh3} {E : Value->Zg5->Prop} {s : Zg5}
theorem zr2 {n : Nat} (h : n <= 1001) : n <= sizeLine:=by rw [Zhm]; lia
end
section
variable {prog : Zhz} {w : Zix} {A : Zh3} {E : Value->Zg5->Prop} {s : Zg5}
structure SetL (w : Zix) (o : Obj) (es : Array (Int × Value)) (ep : Nat) (t : Zqj) : Prop where
 data : o.data = .set es ep t
 tab : SOk t es.toList
 led : t.led = led0 w
end
section
variable {prog : Zhz} {w : Zix} {A : Zh3} {E : Value->Zg5->Prop} {s : Zg5}
structure Part (prog : Zhz) (w : Zix) (k0 : List SK) (items : Array Value) (i : Nat) (ks : List SK) (es : Array (Int × Value)) : Prop where
 mem : ∀ k,k∈ks ↔ ∃ j : Nat,j < i/\k0[j]? = some k
 len : ks.length <= i
 ent : ∀ e∈es.toList,∃ j : Nat,items[j]? = some e.2
end
section
variable {prog : Zhz} {w : Zix} {A : Zh3} {E : Value->Zg5->Prop} {s : Zg5}
structure Took (kb : List SK) (p : SK->Bool) (es0 : List (Int × Value)) (kd : List SK) (kr : List SK) (er : Array (Int × Value)) : Prop where
 mem : ∀ k,k∈kr ↔ k∈kb \/ (k∈kd/\p k = true)
 len : kr.length <= kb.length + kd.length
 ent : ∀ e∈er.toList,e∈es0
end
noncomputable def D.kk : D->Key
 | .int i=>.inl i
 | .str l=>.inr (T l)
 | _=>.inl 0
noncomputable def D.fl : D->Bool
 | .int _=>true
 | .str _=>true
 | _=>false
noncomputable def D.hk : Bool->D->Bool
 | true,d=>d.fl
 | false,.tup ds=>ds.all D.fl
 | false,_=>false
end L2
namespace L2
open PySem PySem.W PyProof.Rows L2T
noncomputable def zmm (K : Zgy) : R2:=fun x y H Q=>∃ l b xs zs,x = .ref l/\y = .ref b/\SqL K H l xs/\SqL K H b zs/\xs.length + zs.length <= sizeLine /\ ∀ p,H p = none->Q (.ref p) (upd H p (.lst (xs++zs)))
theorem zis {X : Cx} : OpR X (Zo9 .Add) (zmm X.K):=by
 intro pins s σ H x y v u Q I rx ry h
 obtain ⟨l,b,xs,zs,rfl,rfl,hl,hb,hz,q⟩:=h
 cases rx
 cases ry
 obtain ⟨its,r,pl,_⟩:=I.list hl
 obtain ⟨its2,r2,pl2,_⟩:=I.list hb
 have z1:=r.length
 have z2:=r2.length
 obtain ⟨⟨cls,dd,data,sl⟩,ho,hc,n,hd⟩:=pl.isList
 obtain ⟨⟨cls2,dd2,data2,sl2⟩,ho2,hc2,n2,hd2⟩:=pl2.isList
 dsimp only at hc hd hc2 hd2
 subst hc; subst hd; subst hc2; subst hd2
 refine concat_meets ⟨_,ho,rfl⟩ ⟨_,ho2,rfl⟩ noFill_list_add seq_list_add PySem.F.slot_list_add PySem.F.entry_list_add (PySem.F.args_list_add_2 _ _) (list_addW l b its.toArray its2.toArray n n2 dd dd2 sl sl2 (by simp; lia)) ⟨ho,ho2,?_⟩
 have ea : its.toArray++its2.toArray = (its++its2).toArray:=by simp
 rw [ea]
 exact ⟨.ref _,_,I.lnew (t':=s.toks) (r.append r2) (by rw [Zhg]; omega),rfl,q _ I.fresh⟩
section
variable {K : Zgy} {G H₀ L : Hp} {ss : List Sl} {ta tb : TE} {da db : List D}
theorem zkm (a : EvL K G H₀ L ss ta da) (b : EvL K G H₀ L ss tb db) (hz : da.length + db.length <= sizeLine) : EvO K G H₀ L ss (tOp (zmm K) ta tb) (da++db):=fun F H σ Q S q =>
 a F H σ _ S fun p vs F1 H1 e1 sq1 r1=>b F1 H1 σ _ (S.ext2 e1) fun p2 vs2 F2 H2 e2 sq2 r2=>by
  have l1:=r1.length
  have l2:=r2.length
  refine ⟨p,p2,vs,vs2,rfl,rfl,SqL.same e2.hh sq1,sq2,by lia,fun l hl=>?_⟩
  have e12:=e1.trans e2
  exact q l _ F2 _ (e12.newO hl) (e12.hh.free hl) (e12.fh.free hl) zaj ((r1.mono e2.gf).append r2)
theorem zgo {d : D} {v : V} (r : ∀ H,Rep K H d v) : Ev K G H₀ L ss (tC v) d:=fun F H σ Q S q=>q _ _ _ (Ext.refl S.ext.fh) (r _)
end
end L2
namespace L2
open PySem PySem.W PySem.Spec PyProof.Rows
end L2
namespace L2
open PySem PySem.W PyProof.Rows L2T
section
variable {K : Zgy} {G H₀ L : Hp} {ss : List Sl} {ta tb t : TE}
theorem zt1 {ta : TA} {n : Int} (a : EvA K G H₀ L ss ta [.int n]) (hb : -(2 ^ 62) <= n/\n < 2 ^ 62) : EvI K G H₀ L ss (yfo ta) n.toNat fun i=>.int (i : Int):=fun F H σ R S q =>
 a F H σ _ S fun vs F1 H1 e1 r1=>by
  rw [Reps] at r1
  obtain ⟨x,r,rfl,rx,r1⟩:=r1
  rw [Reps] at r1
  subst r1
  rw [rx.of_int]
  refine ⟨n,rfl,hb.1,hb.2,q F1 H1 _ e1 fun F2 H2 f1 h1 fh=>⟨fun i hi=>⟨hi,fun x H3 y=>?_⟩,Zha _⟩⟩
  obtain ⟨rfl,rfl⟩:=y
  refine ⟨F2,Ext.refl fh,?_⟩
  have e : (0 : Int) + (i : Int) = (i : Int):=by lia
  rw [e]
  exact Rep.int
theorem zv7 {i j : Int} (a : EvB K G H₀ L ss ta (.int i)) (b : EvB K G H₀ L ss tb (.int j)) : Ev K G H₀ L ss (tCB (fun xs H Q=>∃ i j,xs = [.int i,.int j]/\Q (.int (if j > i then j else i)) H) (za3 ta (za3 tb tNil))) (.int (if j > i then j else i)):=fun F H σ Q S q =>
 a F H σ _ S fun v F1 H1 e1 r1=>b F1 H1 σ _ (S.ext2 e1) fun v2 F2 H2 e2 r2=>by
  rw [r1.of_int,r2.of_int]
  exact ⟨i,j,rfl,q _ F2 H2 (e1.trans e2) Rep.int⟩
theorem zut {i j : Int} (a : EvB K G H₀ L ss ta (.int i)) (b : EvB K G H₀ L ss tb (.int j)) : Ev K G H₀ L ss (tCB (fun xs H Q=>∃ i j,xs = [.int i,.int j]/\Q (.int (if j < i then j else i)) H) (za3 ta (za3 tb tNil))) (.int (if j < i then j else i)):=fun F H σ Q S q =>
 a F H σ _ S fun v F1 H1 e1 r1=>b F1 H1 σ _ (S.ext2 e1) fun v2 F2 H2 e2 r2=>by
  rw [r1.of_int,r2.of_int]
  exact ⟨i,j,rfl,q _ F2 H2 (e1.trans e2) Rep.int⟩
theorem znr {i j : Int} (a : EvB K G H₀ L ss ta (.int i)) (b : EvB K G H₀ L ss tb (.int j)) : Ev K G H₀ L ss (tOp (rI0 fun i j=>.bl (decide (j < i))) ta tb) (.bl (decide (j < i))):=zkj (g:=fun i j=>decide (j < i)) a b
theorem zsp {i j : Int} (a : EvB K G H₀ L ss ta (.int i)) (b : EvB K G H₀ L ss tb (.int j)) : Ev K G H₀ L ss (tOp (rI0 fun i j=>.bl (decide (i <= j))) ta tb) (.bl (decide (i <= j))):=zkj (g:=fun i j=>decide (i <= j)) a b
theorem ycs {i j : Int} (a : EvB K G H₀ L ss ta (.int i)) (b : EvB K G H₀ L ss tb (.int j)) : Ev K G H₀ L ss (tOp (rI0 fun i j=>.bl (decide (j <= i))) ta tb) (.bl (decide (j <= i))):=zkj (g:=fun i j=>decide (j <= i)) a b
end
end L2
namespace L2
open PySem PySem.W PySem.Spec PyProof.Rows
noncomputable def SpRD (K : Zgy) (pre : List D->Prop) (R : List D->D->Prop) : Sp:=fun vs H Q _=>∃ G ds,Same G H/\Reps K G ds vs/\pre ds /\ ∀ r,R ds r -> ∀ v G' H',Ext G H G' H'->Rep K G' r v->Q v H'
section
variable {K : Zgy} {H : Hp} {vs : List V} {Q : VK} {X : XK} {N : List Str} {t : TS} {pre : List D->Prop} {R : List D->D->Prop}
theorem yco (h : SpRD K pre R vs H Q X) (hN : vs.length <= N.length) (body : ∀ G ds,pre ds->(∀ r,R ds r->RtD K G H Q r)->Go K G H G { nx:=fun _ H'=>Q .non H',rt:=Q } (slots N.length ds) t) : t { nx:=fun _ H'=>Q .non H',rt:=Q } (zei N vs) H:=by
 obtain ⟨G,ds,sm,r,hp,q⟩:=h
 exact body G ds hp (fun rs hR v F H' e r=>q rs hR v F H' e r) G H _ (zcj sm r hN)
theorem zp6 {n : Nat} (hpre : ∀ ds,pre ds->ds.length = n) (h : SpRD K pre R vs H Q X) : vs.length = n:=by
 obtain ⟨G,ds,sm,r,hp,q⟩:=h
 rw [<- r.length]; exact hpre ds hp
end
section
variable {K : Zgy} {G H₀ L : Hp} {ss : List Sl} {t : TA} {ds : List D} {pre : List D->Prop} {R : List D->D->Prop} {E : XK} {D0 : Ends} {ta tb te : TE} {i j : Int}
theorem zq8 {g : TG} (a : EvAF K G H₀ L ss t ds) (hp : pre ds) (h : ∀ r,R ds r -> ∃ ss',Tg K G H₀ L g r ss ss'/\Nx K G H₀ L D0.nx ss') : Go K G H₀ L D0 ss (tAsg (zgw (SpRD K pre R) [] E t) g):=fun F H σ S =>
 a F H σ _ S fun vs F1 H1 e1 r1=>⟨F1,ds,e1.fh,by rw [Zik]; exact r1,hp,fun r hR v G' H' e2 rr=>by
  obtain ⟨ss',tg,nx⟩:=h r hR
  exact tg _ H' σ _ _ (S.ext2 (e1.trans e2)) rr fun σ' S'=>nx _ H' σ' S'⟩
theorem ydm (a : EvB K G H₀ L ss te (.int i)) : Ev K G H₀ L ss (tCB (fun xs H Q=>∃ x,xs = [.int x,.ty "int"]/\Q (.bl true) H) (za3 te (za3 (tC (.ty "int")) tNil))) (.bl true):=fun F H σ Q S q =>
 a F H σ _ S fun v F1 H1 e1 r1=>⟨i,by rw [r1.of_int],q _ _ _ e1 Rep.bl⟩
theorem zul (a : EvB K G H₀ L ss te (.int i)) : Ev K G H₀ L ss (tCB (fun xs H Q=>∃ x,xs = [.int x,.ty "bool"]/\Q (.bl false) H) (za3 te (za3 (tC (.ty "bool")) tNil))) (.bl false):=fun F H σ Q S q =>
 a F H σ _ S fun v F1 H1 e1 r1=>⟨i,by rw [r1.of_int],q _ _ _ e1 Rep.bl⟩
theorem zmc (a : EvB K G H₀ L ss te (.int i)) : Ev K G H₀ L ss (tCB (fun xs H Q=>∃ i,xs = [.int i]/\Q (.int (if i < 0 then -i else i)) H) (za3 te tNil)) (.int (if i < 0 then -i else i)):=fun F H σ Q S q =>
 a F H σ _ S fun v F1 H1 e1 r1=>⟨i,by rw [r1.of_int],q _ _ _ e1 Rep.int⟩
theorem zlk (a : EvB K G H₀ L ss te (.int i)) : Ev K G H₀ L ss (tUn (rU fun i=>.int (-i)) te) (.int (-i)):=fun F H σ Q S q =>
 a F H σ _ S fun v F1 H1 e1 r1=>⟨i,by rw [r1.of_int],q _ _ _ e1 Rep.int⟩
theorem zz0 (a : EvB K G H₀ L ss ta (.int i)) (b : EvB K G H₀ L ss tb (.int j)) (h : CPow i j) : Ev K G H₀ L ss (tOp (rI CPow fun i j=>.int (i ^ j.toNat)) ta tb) (.int (i ^ j.toNat)):=zub (C:=CPow) (g:=fun i j=>i ^ j.toNat) a b h
theorem zuu {ta : TA} {x : Nat} {tb : TS} {m n : Int} (I : Nat->List Sl->Prop) (a : EvA K G H₀ L ss ta [.int m,.int n]) (hm : -(2 ^ 62) <= m/\m < 2 ^ 62) (hb : -(2 ^ 62) <= n/\n < 2 ^ 62) (h0 : I 0 ss)
  (hs : ∀ (k : Nat) ss,m + (k : Int) < n->I k ss -> ∀ N,(∀ ss,I (k + 1) ss->Nx K G H₀ L N ss)->Go K G H₀ L { D0 with nx:=N,ct:=N,bk:=D0.nx } (ss.set x (.d (.int (m + (k : Int))))) tb)
  (hd : ∀ ss,I (n - m).toNat ss->Nx K G H₀ L D0.nx ss) : Go K G H₀ L D0 ss (tFor (ydv ta) (zfp x) tb):=fun F H σ S=>by
 refine (a F H σ _ S fun vs F1 H1 e1 r1=>?_)
 rw [Reps] at r1
 obtain ⟨v1,r,rfl,rx,r1⟩:=r1
 rw [Reps] at r1
 obtain ⟨v2,r,rfl,rx2,r1⟩:=r1
 rw [Reps] at r1
 subst r1
 rw [rx.of_int,rx2.of_int]
 refine ⟨m,n,rfl,⟨hm.1,hm.2,hb.1,hb.2⟩,fun i k σ' H'=>k = (n - m).toNat - i/\i <= (n - m).toNat/\At K G H₀ L (I i) σ' H',⟨_,rfl,Zih _,ss,F1,S.ext2 e1,h0⟩,?_⟩
 rintro i k σ' H' ⟨rfl,hi,ss1,F2,S2,h2⟩
 by_cases hlt : i < (n - m).toNat
 ·refine .inr ⟨hlt,fun σ'' H''=>At K G H₀ L (I (i + 1)) σ'' H'',fun σ'' H'' h=>⟨(n - m).toNat - (i + 1),by omega,rfl,hlt,h⟩,fun x H'' y=>?_⟩
  obtain ⟨rfl,rfl⟩:=y
  exact hs i ss1 (by omega) h2 _ (fun ss h=>zsf h) F2 _ _ (S2.setD Rep.int)
 ·have e : i = (n - m).toNat:=by lia
  subst e
  exact .inl ⟨Zha _,hd ss1 h2 F2 H' σ' S2⟩
end
end L2
namespace L2
open PySem PySem.W PySem.Spec PyProof.Rows PySem.Builtin PySem.Builtin.Str PySem.StrLaws
end L2
namespace L2
open PySem PySem.W PySem.Spec PyProof.Rows PySem.Builtin PySem.Builtin.Str
end L2
namespace L2
open PySem PySem.W PySem.Spec PyProof.Rows
noncomputable def SpG {α : Type} (K : Zgy) (pre : α->List D->Prop) (res : α->D) : Sp:=fun vs H Q _=>∃ (G : Hp) (ds : List D) (x : α),Same G H/\Reps K G ds vs/\pre x ds /\ ∀ v G' H',Ext G H G' H'->Rep K G' (res x) v->Q v H'
section
variable {α : Type} {K : Zgy} {H : Hp} {vs : List V} {Q : VK} {X : XK} {N : List Str} {t : TS} {pre : α->List D->Prop} {res : α->D}
theorem yft (h : SpG K pre res vs H Q X) (hN : vs.length <= N.length) (body : ∀ G ds x,pre x ds->RtD K G H Q (res x)->Go K G H G { nx:=fun _ H'=>Q .non H',rt:=Q } (slots N.length ds) t) : t { nx:=fun _ H'=>Q .non H',rt:=Q } (zei N vs) H:=by
 obtain ⟨G,ds,x,sm,r,hp,q⟩:=h
 exact body G ds x hp (fun v F H' e r=>q v F H' e r) G H _ (zcj sm r hN)
theorem zvr {n : Nat} (hpre : ∀ x ds,pre x ds->ds.length = n) (h : SpG K pre res vs H Q X) : vs.length = n:=by
 obtain ⟨G,ds,x,sm,r,hp,q⟩:=h
 rw [<- r.length]; exact hpre x ds hp
end
section
variable {α : Type} {K : Zgy} {G H₀ L : Hp} {ss : List Sl} {ta tb tc te : TE} {t : TA} {ds : List D} {E : XK} {pre : α->List D->Prop} {res : α->D}
theorem za5 (x : α) (a : EvAF K G H₀ L ss t ds) (hp : pre x ds) : Ev K G H₀ L ss (zgw (SpG K pre res) [] E t) (res x):=fun F H σ Q S q =>
 a F H σ _ S fun vs F1 H1 e1 r1=>⟨F1,ds,x,e1.fh,by rw [Zik]; exact r1,hp,fun v G' H' e2 r=>q _ _ _ (e1.trans e2) r⟩
end
end L2
namespace L2
open PySem PySem.W PyProof.Rows
section
variable {X : Cx} {pins : List (Addr × Obj)} {σ : St} {H : Hp} {s : Zg5} {A' : Zh3}
theorem Inv.eqAt (I : Inv X pins σ H s) {d e : D} {x y : V} {u v : Value} (r1 : Rep X.K H d x) (rx : RelV x u) (r2 : Rep X.K H e y) (ry : RelV y v) (n1 : d.nb = true) (n2 : e.nb = true) (hd : d.dep <= 60) (hu : A'.units + 64 < Znn) : SeqAt.EqAt A' s u v (decide (d = e)):=by
 obtain ⟨⟨as,a⟩,c1⟩:=I.reads n1 r1 rx
 obtain ⟨⟨bs,b⟩,c2⟩:=I.reads n2 r2 ry
 have h1:=D.toP_depth d
 have:=SeqAt.eqAt_reads d.toP e.toP A' s u v as bs a b c1 c2 (by lia)
 rw [D.eqv d e n1 n2] at this
 exact this
noncomputable def D.hd : D->D
 | .tup (h::_)=>h
 | d=>d
end
end L2
namespace L2
open PySem PySem.W PySem.Spec PyProof.Rows PySem.Calls
noncomputable def keyD (a b : Int) (xs : List Int) : D:=.tup [.int a,.int b,.lst (xs.map .int)]
section
variable {X : Cx} {pins : List (Addr × Obj)} {σ : St} {H : Hp} {s : Zg5} {A' : Zh3}
theorem zpw {us : List Value} : ∀ {xs : List Int},Vals (xs.map V.int) us -> ∀ (i : Nat) (x : Int),xs[i]? = some x -> ∃ t,us.toArray[i]? = some (Zj6 x t):=fun {xs} r i x h=>by
 obtain ⟨u,hu,ru⟩:=r.get (i:=i) (x:=V.int x) (by rw [Zg8,h]; rfl)
 obtain ⟨t,rfl⟩:=ru
 exact ⟨t,by simpa using hu⟩
theorem zhu {F : Hp} : ∀ {ns : List Int} {vs : List V},Reps X.K F (ns.map D.int) vs->vs = ns.map V.int
 | [],vs,r=>by rw [Zla,Reps] at r; exact r
 | n::ns,vs,r=>by
  rw [Zhi,Reps] at r
  obtain ⟨v,ws,rfl,h1,h2⟩:=r
  rw [h1.of_int,zhu h2]; rfl
theorem zj9 : ∀ {xs ys : List Int},xs.map D.int = ys.map D.int->xs = ys
 | [],[],_=>rfl
 | [],_::_,h=>by simp at h
 | _::_,[],h=>by simp at h
 | x::xs,y::ys,h=>by
  rw [Zhi,Zhi] at h
  injection h with h1 h2
  injection h1 with h1
  rw [h1,zj9 h2]
theorem Inv.key (I : Inv X pins σ H s) {a b : Int} {xs : List Int} {y : V} {u : Value} (r : Rep X.K H (keyD a b xs) y) (ry : RelV y u) :
  ∃ p o its n t1 t2 q y3,u = .ref p/\s.heap.get? p = some o/\o.cls = .type "tuple" /\ o.data = .seq its n/\its.toList = [Zj6 a t1,Zj6 b t2,Zh4 q]/\Rep X.K H (.lst (xs.map .int)) y3/\RelV y3 (.ref q) /\
   ∃ ol us m,s.heap.get? q = some ol/\ol.cls = .type "list" /\ ol.data = .seq us m/\us.size = xs.length /\ ∀ (i : Nat) (x : Int),xs[i]? = some x -> ∃ t,us[i]? = some (Zj6 x t):=by
 obtain ⟨p,vs,rfl,sq,rs⟩:=r.of_tup
 cases ry
 obtain ⟨its,rv,⟨o,e,c,n,hd⟩,_⟩:=I.tuple sq
 rw [Reps] at rs
 obtain ⟨x1,vs,rfl,r1,rs⟩:=rs
 rw [Reps] at rs
 obtain ⟨x2,vs,rfl,r2,rs⟩:=rs
 rw [Reps] at rs
 obtain ⟨x3,vs,rfl,r3,rs⟩:=rs
 rw [Reps] at rs
 subst rs
 have e1:=r1.of_int
 have e2:=r2.of_int
 subst e1 e2
 obtain ⟨q,ws,rfl,sq3,rs3⟩:=id r3.of_lst
 have ew:=zhu rs3
 subst ew
 cases rv with
 | cons a1 rv=>cases rv with
  | cons a2 rv=>cases rv with
   | cons a3 rv =>
    cases rv
    obtain ⟨t1,rfl⟩:=a1
    obtain ⟨t2,rfl⟩:=a2
    cases a3
    obtain ⟨us,rv2,⟨ol,m,e3,c3,_,d3⟩,_⟩:=I.list sq3
    have hl:=rv2.length
    rw [Zg2] at hl
    exact ⟨p,o,_,n,t1,t2,q,.ref q,rfl,e,c,hd,rfl,r3,rfl,ol,us.toArray,m,e3,c3,d3,by simp [hl],zpw rv2⟩
theorem yfd (I : Inv X pins σ H s) {a b a' b' : Int} {xs ys : List Int} {y z : V} {u v : Value} {C : Value -> Zg5 -> Prop} {E : Value -> Zg5 -> Prop} (r1 : Rep X.K H (keyD a b xs) y) (ry : RelV y u) (r2 : Rep X.K H (keyD a' b' ys) z) (rz : RelV z v) (hl : xs.length = ys.length) (hu : A'.units + 70 < Znn)
  (hC : C (.bool (decide (a::b::xs < a'::b'::ys))) s) : Zhs (Zh2 X.prog X.w) A' (Zm0 .Lt u v) C E s:=by
 obtain ⟨p,⟨cls,dd,data,sl⟩,its,n,t1,t2,q,y3,rfl,ho,hc,hd,hits,r3,ry3,⟨clsl,ddl,datal,sll⟩,us,m,hq,hcl,hdl,hus,hui⟩:=I.key r1 ry
 obtain ⟨p',⟨cls',dd',data',sl'⟩,its',n',t1',t2',q',y3',rfl,ho',hc',hd',hits',r3',ry3',⟨clsl',ddl',datal',sll'⟩,us',m',hq',hcl',hdl',hus',hui'⟩:=I.key r2 rz
 simp only at hc hd hc' hd' hcl hdl hcl' hdl'
 subst hc hd hc' hd' hcl hdl hcl' hdl'
 have z1 : its.size = 3:=by rw [<- Zi9,hits]; rfl
 have z2 : its'.size = 3:=by rw [<- Zi9,hits']; rfl
 have hlex : LexC X.prog X.w A'.in1 s its.toList its'.toList (decide (a::b::xs < a'::b'::ys)):=by
  rw [hits,hits',zhh]
  by_cases ha : a = a'
  ·rw [if_pos ha,zhh]
   refine .eq (fun E Q hQ=>zk1 (t:=.i) (d:=.int a) (e:=.int a') rfl rfl ⟨t1,rfl⟩ ⟨t1',rfl⟩ (by rw [decide_eq_true (show D.int a = D.int a' by rw [ha])]; exact hQ)) ?_
   by_cases hb : b = b'
   ·rw [if_pos hb]
    refine .eq (fun E Q hQ=>zk1 (t:=.i) (d:=.int b) (e:=.int b') rfl rfl ⟨t2,rfl⟩ ⟨t2',rfl⟩ (by rw [decide_eq_true (show D.int b = D.int b' by rw [hb])]; exact hQ)) ?_
    have nb : ∀ zs : List Int,(D.lst (zs.map .int)).nb = true:=fun zs=>by rw [D.nb_lst]; exact D.nbs_map (fun _=>rfl) zs
    have dp : (D.lst (xs.map .int)).dep <= 60:=by rw [D.dep_lst]; have:=D.deps_map (enc:=D.int) (n:=0) (fun _=>Zha _) xs; omega
    have heq:=I.eqAt (A':=A'.in1) r3 ry3 r3' ry3' (nb xs) (nb ys) dp (by show A'.units + 1 + 64 < _; omega)
    by_cases hx : xs = ys
    ·subst hx
     rw [decide_eq_false (Zk3 _)]
     rw [decide_eq_true rfl] at heq
     exact .eq (fun E Q hQ=>heq _ _ _ _ hQ) .nil
    ·rw [decide_eq_false (fun z=>hx (by
      injection z with z
      exact zj9 z))] at heq
     refine .ne (fun E Q hQ=>heq _ _ _ _ hQ) fun E Q hQ=>?_
     exact richCompare_meets_room (op:=.Lt) ⟨_,hq,rfl⟩ ⟨_,hq',rfl⟩ PySem.F.slot_list_lt PySem.F.entry_list_lt (PySem.F.args_list_lt_2 _ _) (yas q q' us us' m m' ddl ddl' sll sll' xs ys hui hui' hus hus' hl) ⟨hq,hq',(fun z=>nomatch z),hQ⟩ (by show A'.units + 1 < _; omega)
   ·rw [if_neg hb]
    refine .ne (fun E Q hQ=>zk1 (t:=.i) (d:=.int b) (e:=.int b') rfl rfl ⟨t2,rfl⟩ ⟨t2',rfl⟩ (by rw [decide_eq_false (show ¬ D.int b = D.int b' from fun z=>hb (by injection z))]; exact hQ)) fun E Q hQ=>zk4 (t:=.i) (d:=.int b) (e:=.int b') rfl rfl ⟨t2,rfl⟩ ⟨t2',rfl⟩ (by rw [zwd]; exact hQ)
  ·rw [if_neg ha]
   refine .ne (fun E Q hQ=>zk1 (t:=.i) (d:=.int a) (e:=.int a') rfl rfl ⟨t1,rfl⟩ ⟨t1',rfl⟩ (by rw [decide_eq_false (show ¬ D.int a = D.int a' from fun z=>ha (by injection z))]; exact hQ)) fun E Q hQ=>zk4 (t:=.i) (d:=.int a) (e:=.int a') rfl rfl ⟨t1,rfl⟩ ⟨t1',rfl⟩ (by rw [zwd]; exact hQ)
 exact wpAny_richCompare_same_room ⟨_,ho,rfl⟩ ⟨_,ho',rfl⟩ Zqd (Zlk Zqd ⟨_,ho,rfl⟩ PySem.F.entry_tuple_lt (PySem.F.args_tuple_lt_2 _ _) (znt X.prog X.w p p' its its' n n' dd dd' sl sl' (by omega) _) ⟨ho,ho',hlex,(fun z=>nomatch z),hC⟩) (by omega)
end
noncomputable def zsn (X : Cx) (N : List Str) (qual : Str) (scope : Scope) (f c' : Addr) (cl : List (Str × Addr)) (A : Zh3) (s : Zg5) (H : Hp) : Cx where
 prog:=X.prog
 w:=X.w
 K:=X.K
 mg:=X.mg
 base:=X.base
 A:=A.deeper (envX qual scope s.heap.objs.size f (.ref c') cl)
 N:=N
 s₀:=s
 H₀:=H
 env:=envX qual scope s.heap.objs.size f (.ref c') cl
 outer:=X.stack
 stack:=envX qual scope s.heap.objs.size f (.ref c') cl::X.stack
 ex:=[]
 calm:=true
 fn:=fun _=>false
 pn:=[]
 xe:=fun _ _=>False
section
variable {X : Cx} {pins : List (Addr × Obj)} {σ : St} {H : Hp} {s : Zg5} {A' : Zh3}
theorem yc0 (I : Inv X pins σ H s) (hA : A'.frames = some X.stack) (hd : A'.handled = none) (hroom : A'.depth < Zq5) {f c' cc : Addr} {qual : Str} {params : Zq1} {body : Expr} {scope : Scope} {pm ctv : Value} {x y : Str} {u uy : Value} {v vy : V} {te : TE} {Q : VK}
  (ho : s.heap.get? f = some (kla_obj "<lambda>" qual params body scope [(y,cc)] pm c' ctv)) (hcd : s.heap.CodeRec (.ref c') qual) (hcc : X.env.cells.lookup y = some cc) (hcell : s.heap.IsCell cc (some uy)) (ry : RelV vy uy) (ru : RelV v u)
  (hbind : Zmu (kla_fn "<lambda>" qual params body scope [(y,cc)] pm (.ref c') ctv) ⟨[u],[]⟩ = pure [(x,u)]) (hx : scope.names.lookup x = some .local) (hy : scope.names.lookup y = some .free) (hnc : ∀ z∈scope.names,z.2 ≠ .cell) (hfr : ∀ z,scope.names.lookup z = some .free->z = y)
  (hco : scope.isCoroutine = false) (hgen : scope.isGenerator = false) (hk : scope.kind = .function)
  (he : PE (zsn X [x,y] qual scope f c' [(y,cc)] A' s H) body te) (h : te [some v,some vy] H Q) :
  Zhs (Zh2 X.prog X.w) A' (call (.ref f) [u]) (fun r s'=>CE X.stack X.prog X.w H s Q r s') (fun _ _=>False) s:=by
 have e0:=I.env0
 refine Zmy (kla_callFunE hroom ho rfl hco hgen rfl hcd ?_)
 rw [hbind]
 refine Zhc (Zso hnc (fun z hz=>by rw [Zg3.mp hz]; exact hx) (fun h₁ hns hsb=>⟨I.nolimit.fresh _ hsb,?_⟩) hk)
 show Znm _ _ (.expr body (envX qual scope s.heap.objs.size f (.ref c') [(y,cc)])) _ _
 have hk₁ : ∀ b o,s.heap.get? b = some o->h₁.get? b = some o:=fun b o e=>hsb.extBut b o (Zht (Zhf e)) (Zg6 _ e)
 have look1 : ∀ {z : Str} {c : Addr},([(y,cc)] : List (Str × Addr)).lookup z = some c->z = y/\c = cc:=fun {z c} e=>by
  by_cases hz : z = y
  ·subst hz; simp at e; exact ⟨rfl,e.symm⟩
  ·have : (z == y) = false:=by simpa using hz
   simp [Zmj,this] at e
 have noA : ∀ b : Addr,b ∉ (zsn X [x,y] qual scope f c' [(y,cc)] A' s H).ex:=fun b z=>absurd (show b∈([] : List Addr) from z) (by simp)
 have J : Inv (zsn X [x,y] qual scope f c' [(y,cc)] A' s H) [] [some v,some vy] H { s with heap:=h₁,toks:=s.toks + [(x,u)].length }:=by
  refine ⟨⟨e0.mod,hk,rfl,rfl,Zha _,fun z1 z2 c q1 q2=>?_,fun z hz=>?_,(fun z c q _=>by cases q),fun _=>hd,Zq0 hA,.inr ⟨rfl,rfl⟩,fun b z=>absurd z (noA b),e0.bs,e0.bsz,fun b _ _=>noA b,fun b z=>absurd z (noA b),e0.funs,e0.frf⟩,
   rfl,e0.bare,Un.kept hk₁,⟨_,hns,fun i z v' q1 q2 q3=>?_⟩,fun z c q=>?_,e0.hok.fresh (Zha _),fun z c q=>?_,fun p hp=>absurd (show p∈([] : List (Addr × Obj)) from hp) (by simp),e0.hok.kept hk₁,rfl⟩
  ·rw [(look1 q1).1,(look1 q2).1]
  ·have hz : scope.names.lookup z = some .cell \/ scope.names.lookup z = some .free:=hz
   rcases hz with hz | hz
   ·exact absurd rfl (hnc _ (Zjr hz))
   ·rw [hfr z hz]; exact ⟨cc,by simp [zsn]⟩
  ·match i,q1,q2 with
   | 0,q1,q2 =>
    cases q1; cases q2
    exact ⟨u,ru,.inl ⟨hx,by simp⟩⟩
   | 1,q1,q2 =>
    cases q1; cases q2
    obtain ⟨o,e1,e2⟩:=hcell
    exact ⟨uy,ry,.inr ⟨.inr hy,cc,by simp [zsn],⟨o,hk₁ _ _ e1,e2⟩⟩⟩
   | n + 2,q1,q2=>cases q2
  ·obtain ⟨rfl,rfl⟩:=look1 q
   obtain ⟨o,e1,e2⟩:=hcell
   exact ⟨_,⟨o,hk₁ _ _ e1,e2⟩⟩
  ·obtain ⟨rfl,rfl⟩:=look1 q
   exact I.freeC _ _ hcc
 exact kla_codeExpr (Zid (he [] _ _ _ _ J h) (fun r s' hs=>by
  obtain ⟨y',H',J',r',q'⟩:=hs
  exact ⟨y',H',J'.os,J'.bare,J'.base,J'.hok,r',q'⟩) fun _ _ z=>z.elim)
end
noncomputable def zsd (H : Hp) (c' P : Addr) (q : Str) : Prop:=∃ oc vs t,H c' = some (.frz oc (.own P))/\oc.data = .fields vs/\vs[1]? = some (.str q t)
theorem zsd.same {H H' : Hp} {c' P : Addr} {q : Str} (x : zsd H c' P q) (h : Same H H') : zsd H' c' P q:=by
 obtain ⟨oc,vs,t,a,b⟩:=x
 exact ⟨oc,vs,t,h _ _ a,b⟩
theorem zsd.rec {P : Zhz} {w : Zix} {H : Hp} {h : Heap} {c' T : Addr} {q : Str} (x : zsd H c' T q) (ok : HOk P w H h) : h.CodeRec (.ref c') q:=by
 obtain ⟨oc,vs,t,a,b,c⟩:=x
 exact ⟨c',oc,vs,t,rfl,(ok _ _ a).1,b,c⟩
section
variable {X : Cx} {pins : List (Addr × Obj)} {σ : St} {H : Hp} {s : Zg5} {A' : Zh3} {P c : Addr} {pos : Pos}
theorem zx7 {E : Value -> Zg5 -> Prop} {Q : Value -> Zg5 -> Prop} {params : Zq1} {body : Expr} {scope : Scope} {clos : List (Str × Addr)} (I : Inv X pins σ H s) (hT : H P = some (.tab #[] pos (X.env.qual ++ "<lambda>"))) (C : CodeHd X.base c P) (hb : X.base.BuiltinsAt X.mg P) (hcode : X.env.code = .ref c)
  (hdef : defaultsOf params X.env = ([],[])) (hcl : Zod scope X.env = pure clos)
  (h : ∀ f c' ctv H' s',Inv X (pins++[(f,kla_obj "<lambda>" (X.env.qual ++ "<lambda>") params body scope clos ((X.mg "__name__").getD .none) c' ctv)]) σ H' s'->Same H H'->zsd H' c' P (X.env.qual ++ "<lambda>")->Q (.ref f) s') :
  Zhs (Zh2 X.prog X.w) A' (eval (.Lambda params body scope pos) X.env) Q E s:=by
 have hns : s.heap.Ns Zju X.mg:=I.mod.glob.keeps I.bk
 have hgP : Zju≠P:=fun z=>by
  obtain ⟨o,es,ep,e,_⟩:=I.mod.glob
  rw [<- z,(I.bs _ _ e).2] at hT; cases hT
 have hLP : X.env.locals≠P:=fun z=>by rw [<- z,I.free] at hT; cases hT
 have hb' : s.heap.BuiltinsAt X.mg P:=by
  obtain ⟨bm,o,b1,b2,b3,b4,b5,b6⟩:=hb
  exact ⟨bm,o,b1,b2,b3,b4,I.bk _ _ b5,b6⟩
 have C':=C.keeps I.bk
 obtain ⟨more,hP,ht,hc⟩:=I.hok _ _ hT
 refine kla_eval hdef ?_
 have pin1 : ∀ {H' : Hp} {s' : Zg5} {o : Obj},Inv X pins σ H' { s' with heap:=s'.heap.push o }->(∀ v,o.data ≠ .cell v)->o.isFreed = false->s.heap.objs.size <= s'.heap.objs.size->H' s'.heap.objs.size = none->Inv X (pins++[(s'.heap.objs.size,o)]) σ H' { s' with heap:=s'.heap.push o }:=fun {H' s' o} J hd hfr hsz hn=>by
  refine J.pins_of fun p hp=>?_
  rcases Zhe.mp hp with hp | hp
  ·exact J.pin p (Zg9 _ hp)
  ·rw [Zg3.mp hp]
   have f:=I.fpOk (H':=H') hsz hn
   exact ⟨Zho _ hfr,f.1,f.2.1,f.2.2.1,hd⟩
 rcases hc with hc | ⟨c',oc,vs,t,hc,hf,d1,d2⟩
 ·refine kla_makeFunction hcl I.ok.glob hns hcode C' hP ht hc hgP hb' fun c' ctv h' tk hx hge hlt hrec htb => ?_
  obtain ⟨c2,oc,vs,t,e2,hoc,d1,d2⟩:=hrec
  cases e2
  have fc : H c' = none:=I.hok.fresh hge
  have ncP : c'≠P:=fun z=>by rw [<- z,fc] at hT; cases hT
  have sm : Same H (upd H c' (.frz oc (.own P))):=fun b o q=>by rw [zam (zat q fc)]; exact q
  have kp : ∀ (o2 : Obj) b o,b≠P->s.heap.get? b = some o->(h'.push o2).get? b = some o:=fun o2 b o hb e=>Zg6 _ (hx b o hb e)
  have hsz : s.heap.objs.size <= h'.objs.size:=Zh1 hge (Zkw hlt)
  have I2 : ∀ o2 : Obj,Inv X pins σ (upd H c' (.frz oc (.own P))) { s with heap:=h'.push o2,toks:=tk }:=fun o2=>by
   refine I.step (g':=s.gens) (d':=s.drawn) (ch:=[]) (fun _ z=>nomatch z) (fun b o _ _ _ e n=>kp o2 b o (fun z=>by rw [z,hT] at n; cases n) e) (fun b o _ _ _ e n=>⟨o.slots,kp o2 b o (fun z=>by rw [z,hT] at n; cases n) e⟩)
    (fun b o _ e n=>by rw [zam (Zht (Zhn (Zhf e) hge))]; exact n) (fun b o _ e=>?_) (fun b xs q=>sm _ _ q) (fun b o u q=>sm _ _ q) (fun b ps q=>⟨#[],by rw [sm _ _ q]; simp⟩) (fun m hm=>?_) (fun b u q=>?_) I.bare
   ·by_cases hb : b = P
    ·rw [hb]; exact ⟨_,Zg6 _ htb⟩
    ·exact ⟨o,kp o2 b o hb e⟩
   ·obtain ⟨o,es,ep,ho,r⟩:=hm
    exact ⟨o,es,ep,kp o2 _ o hLP ho,r⟩
   ·by_cases hb : b = c'
    ·subst hb
     rw [zaj] at q; cases q
     exact ⟨Zg6 _ hoc,_,Zg6 _ hoc⟩
    ·rw [zam hb] at q
     by_cases hp : b = P
     ·subst hp
      rw [hT] at q; cases q
      refine ⟨more ++ #[Zsj pos.line,Zsj pos.col,.ref c'],?_,?_,.inr ⟨c',oc,vs,t,?_,zaj,d1,d2⟩⟩
      ·have:=Zg6 o2 htb
       rw [Zrl] at this
       exact this
      ·have:=TriplesOk_snoc pos.line pos.col (.ref c') _ ht
       simpa using this
      ·have:=codeAmong_snoc (c:=.ref c') _ ht hc
       simpa using this
     ·refine (I.hok b u q).stay (fun d v hd r=>kp o2 d v (fun z=>?_) r) (fun d r=>sm _ _ r) (fun d xs r=>sm _ _ r) (fun d o u r=>sm _ _ r)
      rcases hd with hd | hd
      ·exact hp (hd.symm.trans z)
      ·rw [z,hT] at hd; cases hd
  refine h h'.objs.size c' ctv _ _ (pin1 (s':={ s with heap:=h',toks:=tk }) (I2 _) (fun v z=>by cases z) rfl hsz ?_) sm ⟨oc,vs,t,zaj,d1,d2⟩
  show upd H c' _ h'.objs.size = none
  rw [zam (Zno hlt)]
  exact I.hok.fresh hsz
 ·refine kla_makeFunctionHit hcl I.ok.glob hns hcode C' hP ht hc hb' fun ctv h' tk hk hsz=>?_
  exact h h'.objs.size c' ctv _ _ (pin1 (s':={ s with heap:=h',toks:=tk }) (I.kept (t':=tk) fun b o e=>Zg6 _ (hk b o e)) (fun v z=>by cases z) rfl hsz (I.hok.fresh hsz)) (Same.refl _) ⟨oc,vs,t,hf,d1,d2⟩
end
end L2
namespace L2
open PySem PySem.W PyProof.Rows PySem.Spec PySem.Calls
noncomputable def one (f : V->Hp->Prop) : List V->Hp->Prop
 | [v],H=>f v H
 | _,_=>False
theorem zwv {f : V->Hp->Prop} : ∀ {vs : List V} {H : Hp},one f vs H -> ∃ v,vs = [v]/\f v H
 | [v],_,h=>⟨v,rfl,h⟩
 | [],_,h=>h.elim
 | _::_::_,_,h=>h.elim
section
variable {prog : Zhz} {w : Zix} {A : Zh3} {R : Zvj->Zg5->Prop} {l I0 S : Addr} {vs : Array Value} {ns : List Int} {kw : List (Str × Value)}
theorem zzh (hh : A.handled = none) (hlI : l≠I0) (hSI : S≠I0) (hlS : l≠S) (hv : ∀ (i : Nat) (v : Value),vs[i]? = some v -> ∃ x t,ns[i]? = some x/\v = .int x t) (hsz : vs.size = ns.length) :
  ∀ (r j : Nat) (s : Zg5) (m : Int) (t : Tok) (c : Nat),ns.length - (j + 1) = r->j + 1 <= ns.length->s.heap.IsListIter I0 l (j + 1)->s.heap.IsList l vs->s.heap.get? S = some (Zli "list" #[.int m t,.int m t] c) ->
   m∈ns->(∀ n∈ns.take (j + 1),n <= m) ->
   (∀ (m' : Int) (t' : Tok) (h' : Heap) (tk : Nat),m'∈ns->(∀ n∈ns,n <= m')->(∀ b o,b≠I0->b≠S->s.heap.get? b = some o->h'.get? b = some o)->R (.ok (.ret (.int m' t'))) { s with heap:=h',toks:=tk }) ->
   Znm (Zh2 prog w) A (.builtin "max.loop" ⟨[.ref I0,.none,.ref S],kw⟩) R s:=by
 have hname : (toString "max" ++ toString ".loop" : String) = "max.loop" := by decide
 have W:=Znh (prog:=prog) (w:=w) (A:=A.in1) hh I0 l hlI vs
 intro r
 induction r with
 | zero =>
  intro j s m t c hr hj hit hl hS hm hb hR
  have hin : j + 1 = ns.length:=by omega
  refine Zj5 Zm8 ?_
  rw [Zjf Zjn _]
  show Zhs _ A.in1 (Zo6 (.ref S) >>= _) _ _ _
  refine Zgz (Zl7 hS rfl ?_)
  show Zhs _ A.in1 (Znb (Zo7 (.ref I0)) _ >>= _) _ _ _
  refine Zgz (Zjv (W.done _ _ _ ⟨by rw [hsz,<- hin]; exact hit,hl⟩ fun h' tk' hk'=>?_))
  have hS':=hk' S _ (by simpa using hSI) hS
  have s1:=Zji h' S (Zj0 fun _=>(#[] : Array Value))
  show Zhs _ A.in1 (Zsi S (fun _=>#[]) >>= _) _ _ _
  refine Zgz (Zlo hS' rfl (Zgz (Zkp (Zhc ?_))))
  exact hR m t _ tk' hm (fun n hn=>hb n (by rw [hin,Zig]; exact hn)) fun b o h1 h2 e=>(s1.2 b h2).trans (hk' b o (by simpa using h1) e)
 | succ r ih =>
  intro j s m t c hr hj hit hl hS hm hb hR
  have hlt2 : j + 1 < ns.length:=by omega
  refine Zj5 Zm8 ?_
  rw [Zjf Zjn _]
  show Zhs _ A.in1 (Zo6 (.ref S) >>= _) _ _ _
  refine Zgz (Zl7 hS rfl ?_)
  show Zhs _ A.in1 (Znb (Zo7 (.ref I0)) _ >>= _) _ _ _
  refine Zgz (Zjv (W.item (j + 1) _ _ _ (by rw [hsz]; omega) ⟨hit,hl⟩ fun v h' tk' hP hst' hk'=>?_))
  obtain ⟨x,t2,hx,rfl⟩:=hv (j + 1) v (by simpa using hP)
  have hS':=hk' S _ (by simpa using hSI) hS
  have tk1 : ns.take (j + 1 + 1) = ns.take (j + 1)++[x]:=by rw [Zh0,hx]; rfl
  show Zhs _ A.in1 (pure (Zj6 x t2) >>= _) _ _ _
  refine Zgz (Zhc ?_)
  show Zhs _ A.in1 (Znb (Zrq [.int x t2,.int x t2] (Zm0 .Gt (.int x t2) (.int m t) >>= _)) _ >>= _) _ _ _
  refine Zgz (Zjv (Zjp (Zgz (Zpp (op:=.Gt) (Zpo _ _ t2) (Zpo _ _ t) PySem.F.slot_int_gt PySem.F.entry_int_gt (PySem.F.args_int_gt_2 _ _) (gives_int_gt _ _ t2 t) (fun x=>nomatch x) ?_))))
  refine Zgz (Zjp (Zje ?_))
  refine Zgz (Zkp (Zhc ?_))
  by_cases hb' : x > m
  ·have s1:=Zji h' S (Zj0 fun _=>#[.int x t2,.int x t2])
   obtain ⟨c2,hc2⟩ : ∃ c2,(h'.update S (Zj0 fun _=>#[.int x t2,.int x t2])).get? S = some (Zli "list" #[.int x t2,.int x t2] c2):=⟨_,Zn6 hS' fun _=>#[.int x t2,.int x t2]⟩
   simp only [hb',decide_true,if_true]
   refine Zgz ?_
   refine Zlo hS' rfl (Zgz (Zkp ?_))
   rw [hname]
   refine Zhc ⟨Zke Zjn _,ih (j + 1) _ x t2 c2 (by omega) hlt2 ?_ ?_ hc2 (Zhb hx) (fun n hn=>?_) fun m' t' h'' tk q1 q2 q3=>?_⟩
   ·obtain ⟨o,e,q⟩:=hst'.1
    exact ⟨o,(s1.2 _ (Zif hSI)).trans e,q⟩
   ·obtain ⟨o,e,q⟩:=hst'.2
    exact ⟨o,(s1.2 _ hlS).trans e,q⟩
   ·rw [tk1] at hn
    rcases Zhe.mp hn with z | z
    ·exact Int.le_trans (hb n z) (Int.le_of_lt hb')
    ·rw [Zg3.mp z]; exact Zlb _
   ·exact hR m' t' h'' tk q1 q2 fun b o h1 h2 e=>q3 b o h1 h2 ((s1.2 b h2).trans (hk' b o (by simpa using h1) e))
  ·simp only [hb',decide_false,Zlf,if_false]
   refine Zgz (Zkp ?_)
   rw [hname]
   refine Zhc ⟨Zke Zjn _,ih (j + 1) _ m t c (by omega) hlt2 hst'.1 hst'.2 hS' hm (fun n hn=>?_) fun m' t' h'' tk q1 q2 q3=>?_⟩
   ·rw [tk1] at hn
    rcases Zhe.mp hn with z | z
    ·exact hb n z
    ·rw [Zg3.mp z]; omega
   ·exact hR m' t' h'' tk q1 q2 fun b o h1 h2 e=>q3 b o h1 h2 (hk' b o (by simpa using h1) e)
theorem zt4 {s : Zg5} {c : Nat} (hh : A.handled = none) (hlI : l≠I0) (hSI : S≠I0) (hlS : l≠S) (hv : ∀ (i : Nat) (v : Value),vs[i]? = some v -> ∃ x t,ns[i]? = some x/\v = .int x t) (hsz : vs.size = ns.length) (hit : s.heap.IsListIter I0 l 0) (hl : s.heap.IsList l vs) (hS : s.heap.get? S = some (Zli "list" #[] c))
  (hR : ∀ (m' : Int) (t' : Tok) (h' : Heap) (tk : Nat),m'∈ns->(∀ n∈ns,n <= m')->(∀ b o,b≠I0->b≠S->s.heap.get? b = some o->h'.get? b = some o)->R (.ok (.ret (.int m' t'))) { s with heap:=h',toks:=tk })
  (hD : ns = [] -> ∃ k d r,kw = (k,d)::r /\ ∀ (h' : Heap) (tk : Nat),(∀ b o,b≠I0->b≠S->s.heap.get? b = some o->h'.get? b = some o)->R (.ok (.ret d)) { s with heap:=h',toks:=tk }) :
  Znm (Zh2 prog w) A (.builtin "max.loop" ⟨[.ref I0,.none,.ref S],kw⟩) R s:=by
 have hname : (toString "max" ++ toString ".loop" : String) = "max.loop" := by decide
 have W:=Znh (prog:=prog) (w:=w) (A:=A.in1) hh I0 l hlI vs
 refine Zj5 Zm8 ?_
 rw [Zjf Zjn _]
 show Zhs _ A.in1 (Zo6 (.ref S) >>= _) _ _ _
 refine Zgz (Zl7 hS rfl ?_)
 show Zhs _ A.in1 (Znb (Zo7 (.ref I0)) _ >>= _) _ _ _
 by_cases hn : ns = []
 ·obtain ⟨k,d,r,rfl,hd⟩:=hD hn
  refine Zgz (Zjv (W.done _ _ _ ⟨by rw [hsz,hn]; exact hit,hl⟩ fun h' tk' hk'=>?_))
  show Zhs _ A.in1 (do rule _; ret d) _ _ _
  exact Zgz (wpAny_rule (Zhc (hd h' tk' fun b o h1 h2 e=>hk' b o (by simpa using h1) e)))
 ·have hpos : 0 < ns.length:=Zmk.mpr hn
  refine Zgz (Zjv (W.item 0 _ _ _ (by rw [hsz]; exact hpos) ⟨hit,hl⟩ fun v h' tk' hP hst' hk'=>?_))
  obtain ⟨x,t2,hx,rfl⟩:=hv 0 v (by simpa using hP)
  have hS':=hk' S _ (by simpa using hSI) hS
  show Zhs _ A.in1 (pure (Zj6 x t2) >>= _) _ _ _
  refine Zgz (Zhc ?_)
  have s1:=Zji h' S (Zj0 fun _=>#[.int x t2,.int x t2])
  obtain ⟨c2,hc2⟩ : ∃ c2,(h'.update S (Zj0 fun _=>#[.int x t2,.int x t2])).get? S = some (Zli "list" #[.int x t2,.int x t2] c2):=⟨_,Zn6 hS' fun _=>#[.int x t2,.int x t2]⟩
  show Zhs _ A.in1 (Zsi S (fun _=>#[.int x t2,.int x t2]) >>= _) _ _ _
  refine Zgz (Zlo hS' rfl ?_)
  rw [hname]
  refine Zhc ⟨Zke Zjn _,zzh hh hlI hSI hlS hv hsz _ 0 _ x t2 c2 rfl hpos ?_ ?_ hc2 (Zhb hx) (fun n hn=>?_) fun m' t' h'' tk q1 q2 q3=>?_⟩
  ·obtain ⟨o,e,q⟩:=hst'.1
   exact ⟨o,(s1.2 _ (Zif hSI)).trans e,q⟩
  ·obtain ⟨o,e,q⟩:=hst'.2
   exact ⟨o,(s1.2 _ hlS).trans e,q⟩
  ·rw [Zh0,hx] at hn
   have : n = x:=by simpa using hn
   rw [this]; exact Zlb _
  ·exact hR m' t' h'' tk q1 q2 fun b o h1 h2 e=>q3 b o h1 h2 ((s1.2 b h2).trans (hk' b o (by simpa using h1) e))
end
noncomputable def yb5 (K : Zgy) : List V->Hp->VK->Prop:=fun vs H Q=>∃ a ns,vs = [.ref a]/\SqL K H a (ns.map V.int)/\ns≠[] /\ ∀ m,m∈ns->(∀ n∈ns,n <= m)->Q (.int m) H
noncomputable def ydo (K : Zgy) (ta tk : TE) : TE:=fun σ H Q=>ta σ H fun v H1=>tk σ H1 fun dv H2=>∃ (a : Addr) (ns : List Int) (d : Int),v = .ref a/\dv = .int d/\SqL K H2 a (ns.map V.int)/\(∀ m,m∈ns->(∀ n∈ns,n <= m)->Q (.int m) H2)/\(ns = []->Q (.int d) H2)
section
variable {X : Cx} {pins : List (Addr × Obj)} {σ : St} {H : Hp} {s : Zg5}
theorem zvj {us : List Value} : ∀ {ns : List Int},Vals (ns.map V.int) us -> ∀ (i : Nat) (v : Value),us.toArray[i]? = some v -> ∃ x t,ns[i]? = some x/\v = .int x t:=fun {ns} r i v h=>by
 have hl:=r.length
 rw [Zg2] at hl
 have h' : us[i]? = some v:=by simpa using h
 have hi : i < ns.length:=by rw [hl]; exact (Zg7.mp h').1
 obtain ⟨u,hu,ru⟩:=r.get (i:=i) (x:=V.int ns[i]) (by rw [Zg8,Zg1 hi]; rfl)
 obtain ⟨t,rfl⟩:=ru
 rw [h'] at hu
 cases hu
 exact ⟨_,t,Zg1 hi,rfl⟩
theorem zve {A : Zh3} {l : Addr} {ns : List Int} {QQ : Value->Zg5->Prop} {E : Value->Zg5->Prop} {kw : List (Str × Value)} {dv : Option Value} (hh : A.handled = none) (I : Inv X pins σ H s) (sq : SqL X.K H l (ns.map V.int))
  (harg : argsOk "max" ⟨[.ref l],kw⟩) (hbp : Zkh "max" ["key", "default"] 0 ⟨[],kw⟩ = pure [none,dv])
  (hQ : ∀ m t s',m∈ns->(∀ n∈ns,n <= m)->Inv X pins σ H s'->QQ (.int m t) s') (hD : ns = [] -> ∃ d,dv = some d /\ ∀ s',Inv X pins σ H s'->QQ d s') :
  Zhs (Zh2 X.prog X.w) A (call (.builtin "max") [.ref l] kw) QQ E s:=by
 have hname : (toString "max" ++ toString ".loop" : String) = "max.loop" := by decide
 obtain ⟨us0,rv0,pl0,hz0⟩:=I.list sq
 have hls:=pl0.isList
 obtain ⟨ol,hol,_⟩:=id hls
 have hll : l < s.heap.objs.size:=Zhf hol
 refine kmk_tree PySem.F.kind_max PySem.F.plain_max PySem.F.entry_max harg ?_
 show Zhs _ A.in1 (Zkh "max" ["key", "default"] 0 ⟨[],kw⟩ >>= _) _ _ s
 refine Zgz (Zqp hbp ?_)
 refine Zgz (Zhc ?_)
 refine Zgz (Znf hls ?_)
 refine Zgz (Zvx ?_ (Zih _))
 rw [hname]
 have hS : (s.heap.push { cls:=.type "list_iterator", data:=.fields #[.ref l,.int 0 0] }).objs.size = s.heap.objs.size + 1:=size_push' ..
 have old : ∀ {h' : Heap},(∀ b o,b≠s.heap.objs.size->b≠(s.heap.push { cls:=.type "list_iterator", data:=.fields #[.ref l,.int 0 0] }).objs.size->((s.heap.push { cls:=.type "list_iterator", data:=.fields #[.ref l,.int 0 0] }).push (Zli "list" #[] 0)).get? b = some o->h'.get? b = some o) -> ∀ b o,s.heap.get? b = some o->h'.get? b = some o:=fun k b o e =>
  k b o (Zht (Zhf e)) (by rw [hS]; exact Zht (Zow (Zhf e))) (Zg6 _ (Zg6 _ e))
 have hl2:=rv0.length
 rw [Zg2] at hl2
 refine Zhc ⟨Zke Zjn _,zt4 (vs:=us0.toArray) (ns:=ns) (c:=0) hh (Zht hll) (by rw [hS]; exact Zno (Zpc _)) (by rw [hS]; exact Zht (Zow hll)) (zvj rv0) (by rw [Zhw,hl2]) ⟨_,Zg6 _ (Zho _ rfl),rfl,rfl⟩ ((hls.push _).push _) (Zho _ rfl) (fun m t h' tk q1 q2 q3=>?_) fun hn=>?_⟩
 ·exact hQ m t _ q1 q2 (I.kept (t':=tk) (old q3))
 ·obtain ⟨d,rfl,hd⟩:=hD hn
  exact ⟨"default", d,[],rfl,fun h' tk q3=>hd _ (I.kept (t':=tk) (old q3))⟩
theorem zwq (hc : X.calm = true) : zcy X (.builtin "max") (yb5 X.K):=by
 intro pins s σ H xs us Q I r h
 obtain ⟨a,ns,rfl,sq,hne,q⟩:=h
 obtain ⟨u,rfl,ru⟩:=zfs r
 cases ru
 exact zve (dv:=none) (I.ok.hd hc) I sq (PySem.F.args_max1 _) rfl (fun m t s' h1 h2 J=>⟨.int m,H,J,⟨t,rfl⟩,q m h1 h2⟩) fun z=>absurd z hne
theorem zy5 (a v : Value) : argsOk "max" ⟨[a],[(Zlc "default", v)]⟩:=by unfold argsOk; kernel_rfl
theorem zvu {e ke : Expr} {ta tk : TE} {p pos kp : Pos} (hc : X.calm = true) (hg : Gl X "max") (hm : X.mg "max" = none) (ha : PE X e ta) (hk : PE X ke tk) (hs : Zic [e] X.env = [(false,eval e X.env)]:=by rfl) : PE X (.Call (.Name "max" p) [e] [⟨some "default", ke,kp⟩] pos) (ydo X.K ta tk):=by
 intro pins s σ H Q I h
 refine Zkd (zg7 I hg hm Zs8 ?_)
 refine callWith_kw (rest:=[]) (thn (zab ha zae hs pos pins s σ H (one fun v H1=>tk σ H1 fun dv H2=>∃ (a : Addr) (ns : List Int) (d : Int),v = .ref a/\dv = .int d/\SqL X.K H2 a (ns.map V.int)/\(∀ m,m∈ns->(∀ n∈ns,n <= m)->Q (.int m) H2)/\(ns = []->Q (.int d) H2)) I (by exact h)) fun us s1 hz9=>?_) (by rw [hs]; rfl) (by rw [hs]; rfl)
 obtain ⟨vs,H1,I1,r1,q0⟩:=hz9
 obtain ⟨v,rfl,q1⟩:=zwv q0
 obtain ⟨u,rfl,ru⟩:=zfs r1
 refine thn (ycr hk yec pos pins s1 σ H1 (one fun dv H2=>∃ (a : Addr) (ns : List Int) (d : Int),v = .ref a/\dv = .int d/\SqL X.K H2 a (ns.map V.int)/\(∀ m,m∈ns->(∀ n∈ns,n <= m)->Q (.int m) H2)/\(ns = []->Q (.int d) H2)) I1 (by exact q1)) fun ws s2 hz9=>?_
 obtain ⟨zs,H2,I2,r2,q2⟩:=hz9
 obtain ⟨dv,rfl,a,ns,d,rfl,rfl,sq,f1,f2⟩:=zwv q2
 obtain ⟨w',rfl,t,rfl⟩:=zfs r2
 cases ru
 exact zve (dv:=some (.int d t)) (I2.ok.hd hc) I2 sq (zy5 _ _) rfl (fun m t s' h1 h2 J=>⟨.int m,H2,J,⟨t,rfl⟩,f1 m h1 h2⟩) fun z=>⟨_,rfl,fun s' J=>⟨.int d,H2,J,⟨t,rfl⟩,f2 z⟩⟩
end
end L2
namespace L2
open PySem PySem.W PySem.Spec PyProof.Rows PySem.Calls
noncomputable def kI (ks : List (Int × Int × List Int)) (i : Nat) : List Int:=match ks[i]? with
 | some k=>k.1::k.2.1::k.2.2
 | none=>[]
theorem zxe {ks : List (Int × Int × List Int)} {i : Nat} {k : Int × Int × List Int} (h : ks[i]? = some k) : kI ks i = k.1::k.2.1::k.2.2:=by unfold kI; rw [h]
theorem yau {a b c : List Int} (h : a < b) (h2 : ¬ c < b) : a < c:=by
 by_cases q : a < c
 ·exact q
 ·exact absurd (Zri (Zpi.mp q) h) h2
theorem zzj {a b : List Int} (h : a < b) : ¬ b < a:=fun q=>Zk3 _ (Zti h q)
noncomputable def yei (K : Zgy) (P : Addr) (pos : Pos) (q : Str) (i : Nat) (te ta : TE) : TE:=fun σ H Q=>ta σ H fun v H1=>∃ a xs vy ks n,v = .ref a/\SqL K H1 a xs/\σ[i]? = some (some vy)/\H1 P = some (.tab #[] pos q)/\0 < xs.length/\ks.length = xs.length/\(∀ k∈ks,k.2.2.length = n) /\
 (∀ (j : Nat) x k H',xs[j]? = some x->ks[j]? = some k->Same H1 H'->te [some x,some vy] H' (fun y H2=>Same H' H2/\Rep K H2 (keyD k.1 k.2.1 k.2.2) y)) /\
 (∀ (j : Nat) x H',xs[j]? = some x->(∀ m,m < xs.length -> ¬ kI ks m < kI ks j/\(m < j->kI ks j < kI ks m))->Same H1 H'->Q x H')
section
variable {X : Cx} {P c : Addr}
theorem zt7 {k : Nat} {e body : Expr} {ta te : TE} {x y q : Str} {i : Nat} {params : Zq1} {scope : Scope} {p pos lp kp : Pos} (hc : X.calm = true) (hr : Room (k + 2) X.A) (hg : Gl X "min") (hm : X.mg "min" = none) (ha : PE X e ta) (C : CodeHd X.base c P) (hb : X.base.BuiltinsAt X.mg P) (hcode : X.env.code = .ref c)
  (hq : X.env.qual ++ "<lambda>" = q) (hi : X.N[i]? = some y) (hky : X.env.scope.names.lookup y = some .cell)
  (hbind : ∀ (pm cv ctv u : Value) (cc : Addr),Zmu (kla_fn "<lambda>" q params body scope [(y,cc)] pm cv ctv) ⟨[u],[]⟩ = pure [(x,u)]) (hx : scope.names.lookup x = some .local) (hy : scope.names.lookup y = some .free) (hnc : ∀ z∈scope.names,z.2 ≠ .cell) (hfr : ∀ z,scope.names.lookup z = some .free->z = y)
  (hco : scope.isCoroutine = false) (hgen : scope.isGenerator = false) (hk : scope.kind = .function) (hdef : defaultsOf params X.env = ([],[]))
  (hcl : ∀ cc : Addr,X.env.cells.lookup y = some cc->Zod scope X.env = pure [(y,cc)])
  (he : ∀ f c' cc s H,Room k (X.A.in1.deeper (envX q scope s.heap.objs.size f (.ref c') [(y,cc)]))->PE (zsn X [x,y] q scope f c' [(y,cc)] X.A.in1 s H) body te)
  (hs : Zic [e] X.env = [(false,eval e X.env)]:=by rfl) : PE X (.Call (.Name "min" p) [e] [⟨some "key", .Lambda params body scope lp,kp⟩] pos) (yei X.K P lp q i te ta):=by
 intro pins s σ H Q I h
 subst hq
 refine Zkd (zg7 I hg hm Zv2 ?_)
 refine callWith_kw (rest:=[]) (thn (zab ha zae hs pos pins s σ H (one fun v H1=>∃ (a : Addr) (xs : List V) (vy : V) (ks : List (Int × Int × List Int)) (n : Nat),v = .ref a/\SqL X.K H1 a xs/\σ[i]? = some (some vy)/\H1 P = some (.tab #[] lp (X.env.qual ++ "<lambda>"))/\0 < xs.length/\ks.length = xs.length/\(∀ k∈ks,k.2.2.length = n) /\
  (∀ (j : Nat) x k H',xs[j]? = some x->ks[j]? = some k->Same H1 H'->te [some x,some vy] H' (fun y H2=>Same H' H2/\Rep X.K H2 (keyD k.1 k.2.1 k.2.2) y)) /\
  (∀ (j : Nat) x H',xs[j]? = some x->(∀ m,m < xs.length -> ¬ kI ks m < kI ks j/\(m < j->kI ks j < kI ks m))->Same H1 H'->Q x H')) I (by exact h)) fun us s1 ⟨vs,H1,I1,r1,q0⟩=>?_) (by rw [hs]; rfl) (by rw [hs]; rfl)
 obtain ⟨v,rfl,a,xs,vy,ks,n,rfl,sq,hσ,hT,hne,hkl,hkn,turn,fin⟩:=zwv q0
 obtain ⟨u,rfl,ru⟩:=zfs r1
 cases ru
 obtain ⟨cc,hcc⟩:=I1.ok.has y (.inl hky)
 have hA : X.A.in1.frames = some X.stack:=I1.ok.frames
 have hd : X.A.in1.handled = none:=I1.ok.hd hc
 show Zhs _ _ (evalAll ((do let v <- eval (.Lambda params body scope lp) X.env; Zrp pos; pure v)::(Zpa pos (Zm1 [] X.env)).map (·.2))) _ _ s1
 refine Zs6 (Zgz (zx7 I1 hT C hb hcode hdef (hcl cc hcc) fun f c' ctv H2 s2 J sm ck=>Zgz (Zms (Zhc (Ztm ?_)))))
 show Zhs _ _ (call (.builtin "min") [.ref a] [(Zlc "key", .ref f)]) _ _ s2
 refine ztx (J:=Same H2) (ks:=ks.map fun k=>keyD k.1 k.2.1 k.2.2) (lt:=fun i j=>decide (kI ks i < kI ks j)) hc J (Same.refl _) (fun H' z=>SqL.same z (SqL.same sm sq)) (by rw [Zg2]; exact hkl) hne ?_ ?_ (fun a b c h1 h2=>decide_eq_true (yau (of_decide_eq_true h1) (of_decide_eq_false h2))) (fun a b h1=>decide_eq_false (zzj (of_decide_eq_true h1))) ?_
 ·intro j x' u k H' s' pl hx' hk' ru I' hJ
  rw [Zg8] at hk'
  obtain ⟨k0,hk0,rfl⟩:=Zjz.mp hk'
  obtain ⟨uy,ry,hcell⟩ : ∃ uy,RelV vy uy/\s'.heap.IsCell cc (some uy):=by
   obtain ⟨m,_,hl⟩:=I'.loc
   obtain ⟨uy,ry,l⟩:=hl i y vy hi hσ (.inr (.inl hky))
   refine ⟨uy,ry,?_⟩
   rcases l with ⟨l,_⟩ | ⟨_,c2,e2,z⟩
   ·have l : X.env.scope.names.lookup y = some .local:=l
    rw [hky] at l; cases l
   ·rw [hcc] at e2; cases e2; exact z
  have ho:=(I'.pin _ (Zg9 _ (Zhu _ (Zg9 _ (.head _))))).1
  refine Zid (yc0 I' hA hd hr.in1.depth ho ((ck.same hJ).rec I'.hok) hcc hcell ry ru (hbind _ _ _ _ _) hx hy hnc hfr hco hgen hk (he _ _ _ _ _ (hr.in1.deeper _)) (turn j x' k0 H' hx' hk0 (sm.trans hJ))) (fun v s'' hz=>?_) fun _ _ z=>z
  obtain ⟨y',H'',os,bare,un,hok,r,z1,z2⟩:=hz
  exact ⟨y',H'',I'.call' (ch:=[]) os un hok bare (fun _ z=>nomatch z),hJ.trans z1,z1,r,z2⟩
 ·intro j m k k' H' s' pl y1 z1 u v C' hj hm' I' r1 rr1 r2 rr2 hC
  rw [Zg8] at hj hm'
  obtain ⟨k1,hk1,rfl⟩:=Zjz.mp hj
  obtain ⟨k2,hk2,rfl⟩:=Zjz.mp hm'
  rw [zxe hk1,zxe hk2] at hC
  refine yfd I' r1 rr1 r2 rr2 ?_ ?_ hC
  ·rw [hkn _ (Zhb hk1),hkn _ (Zhb hk2)]
  ·have:=hr.in1.un; omega
 ·intro j x' v H' s' hx' rx hb' I' hJ
  exact ⟨x',H',I'.unpinned,rx,fin j x' H' hx' (fun m hm'=>⟨of_decide_eq_false (hb' m hm').1,fun z=>of_decide_eq_true ((hb' m hm').2 z)⟩) (sm.trans hJ)⟩
end
end L2
namespace L2
open PySem PySem.W PySem.Spec PyProof.Rows
structure LamAt (base : Heap) (mg : Str->Option Value) (fl : Zjq) (T : Addr) : Prop where
 ex : ∃ c,fl.code = .ref c/\CodeHd base c T
 bt : base.BuiltinsAt mg T
theorem zok {P : Zhz} {w : Zix} {H : Hp} {h : Heap} {T : Addr} {pos : Pos} {q : Str} (e : h.get? T = some (tabObj #[])) : zc9 P w H h T (.tab #[] pos q):=⟨#[],e,trivial,.inl rfl⟩
theorem zu5 {P : Zhz} {w : Zix} {K : Zgy} {mg mb : Str->Option Value} {CX : CXT} {k : Nat} {fa a T c : Addr} {fd fl : Zjq} {x q : Str} {pos : Pos} {sp : Sp} {s₁ : Zg5} {vs : List Value} {ns : List Int}
  (KX : K.In s₁.heap) (hns : s₁.heap.Ns Zju mg) (hb : s₁.heap.Ns Zpr mb) (hbb : ∀ y : Str,y ≠ "__name__" -> mb y = Zme y) (hlim : s₁.heap.NoLimit) (hg : s₁.gens = #[])
  (ha : s₁.heap.get? a = some { cls:=.type "list", data:=.seq vs.toArray }) (hi : Zqx vs ns) (hl : ns.length <= sizeLine) (hr : Room k Zqu)
  (hfl : fl.code = .ref c) (hC : CodeHd s₁.heap c T) (hT : s₁.heap.get? T = some (tabObj #[])) (hno : noTabs K = true) (hB : s₁.heap.BuiltinsAt mg T)
  (F : ∀ base : Heap,K.In base->base.Ns Zju mg->LamAt base mg fl T->FnOk P w K mg base CX k fa fd [x] sp) (hbind : ∀ (s : Zg5) (u : Value),Zp0 s fd ⟨[u],[]⟩ [(x,u)])
  (hsp : ∀ H : Hp,SqL K H a (ns.map V.int)->H T = some (.tab #[] pos q)->sp [.ref a] H (fun v H'=>v = .bl true/\H' T = some (.tab #[] pos q)) fun _ _ _=>False)
  (hCX : ∀ H e s',CX [] H s₁ (fun _ _ _=>False) e s'->False) :
  Znm (Zh2 P w) Zqu (.call (.ref fa) ⟨[.ref a],[]⟩) (fun r s'=>r = .ok (.ret (.bool true))/\OldK s₁.heap s'.heap/\s'.os = s₁.os/\Zob s'.gens) s₁:=by
 have rv:=zom hi
 have lenV:=hi.length
 have hKT : K.lookup T = none:=by
  cases z : K.lookup T with
  | none=>rfl
  | some o =>
   have e:=KX T o z
   rw [hT] at e
   cases e
   exact absurd (Zir.mp hno _ (mem_of_lookupK z)) Zhx
 have haT : a≠T:=fun z=>by rw [z,hT] at ha; cases ha
 -- from a tracked part: the table,and perhaps the script
 have core : ∀ H : Hp, (∀ b u, H b = some u -> (b = T /\ u = .tab #[] pos q) \/ (b = a /\ K.lookup a = none /\ ∃ o xs, u = .frz o (.lst xs))) -> H T = some (.tab #[] pos q) -> SqL K H a (ns.map V.int) -> HOk P w H s₁.heap ->
   Znm (Zh2 P w) Zqu (.call (.ref fa) ⟨[.ref a],[]⟩) (fun r s'=>r = .ok (.ret (.bool true))/\OldK s₁.heap s'.heap/\s'.os = s₁.os/\Zob s'.gens) s₁:=by
  intro H hO hHT hS hok
  have out : ∀ {b : Addr} {o : Obj},s₁.heap.get? b = some o->(∀ its,o.data ≠ .fields its \/ o.cls ≠ .none)->(∀ its n,o.data ≠ .seq its n)->H b = none:=fun {b o} e h1 h2=>by
   cases z : H b with
   | none=>rfl
   | some u =>
    rcases hO b u z with ⟨rfl,_⟩ | ⟨rfl,_⟩
    ·rw [hT] at e; cases e
     exact (h1 #[]).elim (fun z=>absurd rfl z) fun z=>absurd rfl z
    ·rw [ha] at e; cases e
     exact absurd rfl (h2 _ _)
  have nsK : ∀ {b : Addr} {m : Str->Option Value},s₁.heap.Ns b m->(hidT s₁.heap H).Ns b m:=fun {b m} ⟨o,es,ep,e,d,r⟩=>⟨o,es,ep,zjl e (out e (fun _=>.inl (by rw [d]; nofun)) fun _ _=>by rw [d]; nofun),d,r⟩
  have hKb : K.In (hidT s₁.heap H):=fun b o e=>zjl (KX b o e) (by
   cases z : H b with
   | none=>rfl
   | some u =>
    rcases hO b u z with ⟨rfl,_⟩ | ⟨rfl,n,_⟩
    ·rw [hKT] at e; cases e
    ·rw [n] at e; cases e)
  have hM : Mod K mg (hidT s₁.heap H):=⟨hKb,nsK hns,⟨mb,nsK hb,hbb⟩,let ⟨mc,h1,h2⟩:=hlim; ⟨mc,nsK h1,h2⟩⟩
  have e0 : Env0 P w K mg (hidT s₁.heap H) Zqu [] s₁ H:=⟨rfl,hM,fun b o e=>yb8 e,Znq (zth _ _),trivial,fun b hb=>absurd (show b∈([] : List Addr) from hb) (by simp),hok,.of_eq hg⟩
  have hL : LamAt (hidT s₁.heap H) mg fl T:=by
   refine ⟨⟨c,hfl,?_⟩,?_⟩
   ·obtain ⟨o,vs',file,tf,flags,tg,inF,text,tt,e1,r1,r2,r⟩:=hC
    exact ⟨o,vs',file,tf,flags,tg,inF,text,tt,zjl e1 (out e1 (fun _=>.inr (by rw [r1]; nofun)) fun _ _=>by rw [r2]; nofun),r1,r2,r⟩
   ·obtain ⟨bm,o,a1,a2,a3,a4,e,r1,r2,r3⟩:=hB
    exact ⟨bm,o,a1,a2,a3,a4,zjl e (out e (fun _=>.inl (by rw [r3]; nofun)) fun _ _=>by rw [r3]; nofun),r1,r2,r3⟩
  refine Zn7 ((F _ hKb (nsK hns) hL).run Zqu [] s₁ H ⟨[.ref a],[]⟩ [.ref a] [.ref a] _ _ hr e0 (hbind s₁ (.ref a)) (.cons rfl .nil) (hsp H hS hHT)) fun r s' h=>?_
  cases r with
  | error e=>exact (hCX H e s' h).elim
  | ok fl =>
   cases fl with
   | next=>exact Zjc h
   | brk=>exact Zjc h
   | cont=>exact Zjc h
   | ret u =>
    obtain ⟨v,H',os,bare,un,hok',r',q1,q2⟩:=h
    subst q1
    obtain rfl : u = Zl9 true:=r'
    obtain ⟨more,hT',_⟩:=hok' T _ q2
    have step : ∀ b o,s₁.heap.get? b = some o->b≠T->s'.heap.get? b = some o:=fun b o e hb=>by
     cases z : H b with
     | none=>exact un.keep b o e z (by intro z; exact absurd (show b∈([] : List Addr) from z) (by simp)) (by simp)
     | some u =>
      rcases hO b u z with ⟨h1,_⟩ | ⟨_,_,ob,xs,rfl⟩
      ·exact absurd h1 hb
      ·have z2:=un.frzs b ob _ z
       obtain ⟨e1,_⟩:=hok b _ z
       obtain ⟨e2,_⟩:=hok' b _ z2
       rw [e] at e1; cases e1
       exact e2
    refine ⟨rfl,⟨fun b o e=>?_,fun b o e=>?_⟩,os,bare⟩
    ·by_cases hb : b = T
     ·subst hb
      rw [hT] at e; cases e
      exact .inr (.inl ⟨(hC.tab hT).isCodeTable,rfl,#[],more,rfl,hT'⟩)
     ·exact .inl (step b o e hb)
    ·by_cases hb : b = T
     ·subst hb
      exact ⟨_,hT'⟩
     ·exact ⟨o,step b o e hb⟩
 cases hk : K.lookup a with
 | some o =>
  have e:=KX a o hk
  rw [ha] at e
  cases e
  refine core (fun b=>if b = T then some (.tab #[] pos q) else none) (fun b u z=>?_) (if_pos rfl) (.inr ⟨_,vs.toArray,_,hk,rfl,rfl,rfl,by rw [Zhw,lenV]; exact hl,by simpa using rv⟩) fun b u z=>?_
  ·by_cases hb : b = T
   ·have z':=(if_pos hb).symm.trans z
    cases z'
    exact .inl ⟨hb,rfl⟩
   ·have z':=(if_neg hb).symm.trans z
    cases z'
  ·by_cases hb : b = T
   ·have z':=(if_pos hb).symm.trans z
    cases z'
    subst hb
    exact zok hT
   ·have z':=(if_neg hb).symm.trans z
    cases z'
 | none =>
  refine core (fun b=>if b = T then some (.tab #[] pos q) else if b = a then some (.frz { cls:=.type "list", data:=.seq vs.toArray } (.lst (ns.map V.int))) else none) (fun b u z=>?_) (if_pos rfl) (.inl (.inr ⟨{ cls:=.type "list", data:=.seq vs.toArray },(if_neg haT).trans (if_pos rfl)⟩)) fun b u z=>?_
  ·by_cases hb : b = T
   ·have z':=(if_pos hb).symm.trans z
    cases z'
    exact .inl ⟨hb,rfl⟩
   ·have z':=(if_neg hb).symm.trans z
    by_cases hb2 : b = a
    ·have z'':=(if_pos hb2).symm.trans z'
     cases z''
     exact .inr ⟨hb2,hk,_,_,rfl⟩
    ·have z'':=(if_neg hb2).symm.trans z'
     cases z''
  ·by_cases hb : b = T
   ·have z':=(if_pos hb).symm.trans z
    cases z'
    subst hb
    exact zok hT
   ·have z':=(if_neg hb).symm.trans z
    by_cases hb2 : b = a
    ·have z'':=(if_pos hb2).symm.trans z'
     cases z''
     subst hb2
     exact ⟨ha,by rw [Zg2]; exact hl,vs,_,rv,ha⟩
    ·have z'':=(if_neg hb2).symm.trans z'
     cases z''
theorem zms {h : Heap} {mg : Str->Option Value} {T : Addr} (hT : h.get? T = some (tabObj #[])) (hns : h.Ns Zju mg) (hB : ∃ bm ob,mg "__builtins__" = some (.ref bm)/\bm≠Zpr/\h.get? bm = some ob/\ob.cls = .type "module" /\ ob.dict = some Zpr/\ob.data = .plain) : h.BuiltinsAt mg T:=by
 obtain ⟨bm,ob,a1,a2,e,r1,r2,r3⟩:=hB
 refine ⟨bm,ob,a1,a2,fun z=>?_,fun z=>?_,e,r1,r2,r3⟩
 ·obtain ⟨o,es,ep,e2,d,_⟩:=hns
  rw [z,e2] at e; cases e
  rw [r3] at d; cases d
 ·rw [z,hT] at e; cases e
  cases r3
theorem walk_ofT {l : Zov} {n k : Nat} {q : Zhz} {loose : List Str} {XP : (Str->Option Value)->Heap->Prop} {YP : Zix->Heap->Prop} {d : DefRec} {K : Params->Zgy} {CX : CXT} {sp : Zgy->Addr->Sp} {x nm lq : Str} {pos : Pos}
  (hn : l.most = some n) (hn2 : n <= sizeLine) (hdf : d.params.defaults = []) (hr : Room k Zqu)
  (hY : ∀ (w : Zix) (h : Heap),YP w h->(K w.params).In h)
  (hrec : ((recsOf q).find? fun e=>e.name == nm).isSome = true) (hno : ∀ p,noTabs (K p) = true)
  (F : ∀ (w : Zix) (mg : Str->Option Value) (fa : Addr) (h : Heap),(K w.params).In h->h.Ns Zju mg->mg d.name = some (.ref fa) ->
   ∃ fd fl : Zjq,(∀ (s : Zg5) (u : Value),Zp0 s fd ⟨[u],[]⟩ [(x,u)])/\(∃ g oc od osl,mg nm = some (.ref g)/\(K w.params).lookup g = some ⟨oc,od,.func fl,osl⟩) /\
    ∀ (base : Heap) (T : Addr),(K w.params).In base->base.Ns Zju mg->LamAt base mg fl T->FnOk l.prog w (K w.params) mg base CX k fa fd [x] (sp (K w.params) T))
  (hsp : ∀ (K : Zgy) (H : Hp) (a T : Addr) (ns : List Int),ns.length <= n->SqL K H a (ns.map V.int)->H T = some (.tab #[] pos lq)->sp K T [.ref a] H (fun v H'=>v = .bl true/\H' T = some (.tab #[] pos lq)) fun _ _ _=>False)
  (hCX : ∀ (H : Hp) (s : Zg5) (e : Value) (s' : Zg5),CX [] H s (fun _ _ _=>False) e s'->False) :
  Zsl q loose XP YP l.row.toRowW d [] (fun f vs=>Zrs f vs):=by
 refine Att.attach_call hn hdf fun w s₀ s₁ mg mb fa o pm cd doc a vs ns G Y ho hd hcd hmg hobj hints hlen hg=>?_
 have KX:=hY w _ Y
 obtain ⟨fd,fl,hb,⟨g,oc,od,osl,hm,hlk⟩,hF⟩:=F w mg fa _ KX G.T.g hmg
 obtain ⟨e,he⟩:=Ziy.mp hrec
 have hen : e.name = nm:=beq_iff_eq.mp (List.find?_some (p:=fun e : DefRec=>e.name == nm) he)
 obtain ⟨a',o',fd',c,T,h1,h2,h3,h4,h5,h6⟩:=G.T.tab e (List.mem_of_find?_eq_some he)
 rw [hen,hm] at h1
 cases h1
 have e2:=KX _ _ hlk
 rw [h2] at e2
 cases e2
 have h3' : fl = fd':=by injection h3
 subst h3'
 have hC:=CodeHd.of h5 h6
 exact zu5 (pos:=pos) (q:=lq) KX G.T.g G.T.b G.T.builtins G.T.nolimit hg hobj hints (Zh1 hlen hn2) hr h4 hC h6.2 (hno _) (zms h6.2 G.T.g G.T.bmain) (fun base h1 h2 h3=>hF base T h1 h2 h3) hb (fun H hS hHT=>hsp _ H a T ns hlen hS hHT) fun H e s'=>hCX H s₁ e s'
theorem Fun.okC {P : Zhz} {w : Zix} {K : Zgy} {mg : Str->Option Value} {base : Heap} {x qual : Str} {st : Stmt} {f : Addr} {fd : Zjq} {N ps : List Str} {k : Nat} {sp : Sp} (F : Fun K x qual st f fd) (S : FnScope N ps (zag st)) (len : ∀ vs H Q E,sp vs H Q E->vs.length = ps.length)
  (hbody : ∀ (cdv : Value) (A : Zh3) (outer : List Env) (s : Zg5) (H : Hp) (vs : List V) (Q : VK) (E : XK),fd.code = cdv->Room k (A.deeper (Zlj qual (zag st) s.heap.objs.size f cdv))->sp vs H Q E ->
   ∃ t,PSs (cxOf CX0 P w K mg base N qual (zag st) f cdv A outer s H E).nox (zbf st) t/\t { nx:=fun _ H'=>Q .non H',rt:=Q } (zei N vs) H) : FnOk P w K mg base CX0 (k + 1) f fd ps sp:=by
 obtain ⟨oc,od,kV,doc,pm,an,cdv,ct,osl,rfl,lk,hcd⟩:=F.ex
 refine yde lk hcd S len fun A outer s H vs Q E hr hsp=>?_
 obtain ⟨t,h,q⟩:=hbody cdv A outer s H vs Q E rfl hr hsp
 exact ⟨t,h.nox,q⟩
theorem zxt {names : List (Str × Zie)} {y : Str} (hf : names.filter (fun n=>n.2 == .free) = [(y,.free)]) : ∀ z,names.lookup z = some .free->z = y:=fun z hz=>by
 have hm:=Zjr hz
 have : (z,Zh9)∈names.filter (fun n=>n.2 == .free):=Zhh.mpr ⟨hm,rfl⟩
 rw [hf] at this
 have:=Zg3.mp this
 injection this
theorem ydi {env : Env} {cc : Addr} : ∀ (names : List (Str × Zie)) (acc : List (Str × Addr)),(∀ x∈names,x.2 = .free->env.cells.lookup x.1 = some cc) ->
  (forIn (m:=Sem) names acc fun x r=>do
   let cs:=r
   if (x.2 == .free) = true then do
    let a <- Zs7 env x.1
    let cs:=(x.1,a)::cs
    pure Zp3
    pure (Zkb cs)
   else do
    pure Zp3
    pure (Zkb cs)) = pure (((names.filter fun n=>n.2 == .free).map fun n=>(n.1,cc)).reverse++acc):=by
 intro names
 induction names with
 | nil=>intro acc _; rfl
 | cons x names ih =>
  intro acc h
  rw [Zpk]
  have ih':=fun acc=>ih acc fun z hz=>h z (Zhd _ hz)
  cases hx : (x.2 == Zh9) with
  | true =>
   have:=h x Zhl (by simpa using hx)
   have hco : Zs7 env x.1 = pure cc:=by unfold Zs7; rw [this]
   simp only [hx,hco,if_true,Zl2,Zhi,Zot,Zm6,Zq2]
   simpa using ih' _
  | false =>
   simp only [hx,Zl2]
   simpa using ih' acc
theorem zy3 {scope : Scope} {env : Env} {y : Str} {cc : Addr} (hf : scope.names.filter (fun n=>n.2 == .free) = [(y,.free)]) (hc : env.cells.lookup y = some cc) : Zod scope env = pure [(y,cc)]:=by
 have h:=ydi (env:=env) (cc:=cc) scope.names [] fun x hx hk=>by
  have : x∈scope.names.filter (fun n=>n.2 == .free):=Zhh.mpr ⟨hx,by rw [hk]; rfl⟩
  rw [hf] at this
  rw [Zg3.mp this]; exact hc
 rw [hf] at h
 unfold Zod
 refine (bind_congr (fun _=>rfl)).trans ?_
 rotate_left
 exact (congrArg (· >>= fun r=>pure r) h).trans rfl
end L2
namespace L2
open PySem PySem.Spec PyProof.Rows
noncomputable abbrev HasT (H : Hp) (T : Addr) (pos : Pos) (q : Str) : Prop:=H T = some (.tab #[] pos q)
noncomputable def SpDT (K : Zgy) (T : Addr) (pos : Pos) (q : Str) (pre : List D->Prop) (res : List D->D) : Sp:=fun vs H Q _=>∃ G ds,Same G H/\HasT G T pos q/\Reps K G ds vs/\pre ds /\ ∀ v G' H',Ext G H G' H'->Rep K G' (res ds) v->Q v H'
noncomputable def RtPO (K : Zgy) (G H₀ : Hp) (rt : VK) (l : Int) (ds : List D) : Prop:=∀ a p vs F H,Ext G H₀ F H->H₀ p = none->F p = none->F a = some (.tup [.int l,.ref p])->H p = some (.lst vs)->Reps K F ds vs->rt (.ref a) H
noncomputable def SpPT (K : Zgy) (T : Addr) (pos : Pos) (q : Str) (pre : List D->Prop) (res : List D->Int × List D) : Sp:=fun vs H Q _=>∃ G ds,Same G H/\HasT G T pos q/\Reps K G ds vs/\pre ds/\RtPO K G H Q (res ds).1 (res ds).2
section
variable {K : Zgy} {G H₀ L : Hp} {ss : List Sl} {t : TA} {ta te tb : TE} {ds : List D} {d : D} {pre : List D->Prop} {E : XK} {T : Addr} {pos : Pos} {q : Str}
theorem zx2 {res : List D->D} (hT : HasT G T pos q) (a : EvAF K G H₀ L ss t ds) (hp : pre ds) : Ev K G H₀ L ss (zgw (SpDT K T pos q pre res) [] E t) (res ds):=fun F H σ Q S k =>
 a F H σ _ S fun vs F1 H1 e1 r1=>⟨F1,ds,e1.fh,(S.ext.trans e1).gf _ _ hT,by rw [Zik]; exact r1,hp,fun v G' H' e2 r=>k _ _ _ (e1.trans e2) r⟩
theorem zuf {res : List D->Int × List D} (hT : HasT G T pos q) (a : EvAF K G H₀ L ss t ds) (hp : pre ds) : Ev K G H₀ L ss (zgw (SpPT K T pos q pre res) [] E t) (.tup [.int (res ds).1,.lst (res ds).2]):=fun F H σ Q S k =>
 a F H σ _ S fun vs F1 H1 e1 r1=>⟨F1,ds,e1.fh,(S.ext.trans e1).gf _ _ hT,by rw [Zik]; exact r1,hp,fun a' p ws G' H' e2 h1 h2 h3 h4 r=>by
  have hne : a'≠p:=fun z=>by rw [z,h2] at h3; cases h3
  refine k (.ref a') (upd G' p (.lst ws)) H' (e1.trans (e2.freeze h2 h1 h4)) (Rep.tupN ?_ (Reps.cons Rep.int (Reps.cons (Rep.lst (SqL.of zaj) (r.mono (Same.upd h2))) Reps.nil)))
  rw [zam hne]; exact h3⟩
theorem ybz {vs : List V} {H : Hp} {Q : VK} {X : XK} {N : List Str} {ts : TS} {res : List D->D} (h : SpDT K T pos q pre res vs H Q X) (hN : vs.length <= N.length) (body : ∀ G ds,HasT G T pos q->pre ds->RtD K G H Q (res ds)->Go K G H G { nx:=fun _ H'=>Q .non H',rt:=Q } (slots N.length ds) ts) : ts { nx:=fun _ H'=>Q .non H',rt:=Q } (zei N vs) H:=by
 obtain ⟨G,ds,sm,hT,r,hp,q⟩:=h
 exact body G ds hT hp (fun v F H' e r=>q v F H' e r) G H _ (zcj sm r hN)
theorem ya5 {vs : List V} {H : Hp} {Q : VK} {X : XK} {N : List Str} {ts : TS} {res : List D->Int × List D} (h : SpPT K T pos q pre res vs H Q X) (hN : vs.length <= N.length) (body : ∀ G ds,HasT G T pos q->pre ds->RtPO K G H Q (res ds).1 (res ds).2->Go K G H G { nx:=fun _ H'=>Q .non H',rt:=Q } (slots N.length ds) ts) : ts { nx:=fun _ H'=>Q .non H',rt:=Q } (zei N vs) H:=by
 obtain ⟨G,ds,sm,hT,r,hp,q⟩:=h
 exact body G ds hT hp q G H _ (zcj sm r hN)
theorem zqm {vs : List V} {H : Hp} {Q : VK} {X : XK} {res : List D->D} {n : Nat} (hpre : ∀ ds,pre ds->ds.length = n) (h : SpDT K T pos q pre res vs H Q X) : vs.length = n:=by
 obtain ⟨G,ds,sm,hT,r,hp,q⟩:=h
 rw [<- r.length]; exact hpre ds hp
theorem zqc {vs : List V} {H : Hp} {Q : VK} {X : XK} {res : List D->Int × List D} {n : Nat} (hpre : ∀ ds,pre ds->ds.length = n) (h : SpPT K T pos q pre res vs H Q X) : vs.length = n:=by
 obtain ⟨G,ds,sm,hT,r,hp,q⟩:=h
 rw [<- r.length]; exact hpre ds hp
theorem zyy {Es : Ends} {i : Nat} {p : Addr} {l : Int} (hs : ss[i]? = some (.o p ds)) (a : Ev K G H₀ L ss ta (.int l)) (h : RtPO K G H₀ Es.rt l ds) : Go K G H₀ L Es ss (tRet (tTup (za3 ta (za3 (tVar i) tNil)))):=fun F H σ S =>
 a F H σ _ S fun v F1 H1 e1 r1=>by
  have e:=r1.of_int
  subst e
  obtain ⟨e2,h0,fp,vs,hp,r⟩:=(S.ext2 e1).getO hs
  refine ⟨_,e2,zr2 (by simp),fun x hx=>?_⟩
  have hne : p≠x:=fun z=>by rw [z,hx] at hp; cases hp
  exact h x p vs _ _ ((S.ext.trans e1).newF hx) h0 (by rw [zam hne]; exact fp) zaj (by rw [zam hne]; exact hp) (r.mono (Same.upd (e1.fh.free hx)))
theorem zew {F : Hp} : ∀ {ns : List Int} {vs : List V},Reps K F (ns.map D.int) vs->vs = ns.map V.int
 | [],vs,r=>by rw [Zla,Reps] at r; exact r
 | n::ns,vs,r=>by
  rw [Zhi,Reps] at r
  obtain ⟨v,ws,rfl,h1,h2⟩:=r
  rw [h1.of_int,zew h2]; rfl
theorem ycp {F H : Hp} {d1 d2 : D} {x y : V} (sm : Same F H) (r1 : Rep K F d1 x) (r2 : Rep K F d2 y) : Sat K F H F F H [some x,some y] [.d d1,.d d2]:=by
 have:=zcj (N:=["a", "b"]) sm (Reps.cons r1 (Reps.cons r2 Reps.nil)) (Zha _)
 exact this
theorem zwi {α : Type} {i : Nat} {dy : D} (enc : α->D) (xs : List α) (key : α->Int × Int × List Int) (n : Nat) (a : EvL K G H₀ L ss ta (xs.map enc)) (hi : ss[i]? = some (.d dy)) (hT : HasT G T pos q) (hne : xs≠[]) (hn : ∀ x∈xs,(key x).2.2.length = n)
  (he : ∀ F H,∀ x∈xs,Ev K F H F [.d (enc x),.d dy] te (keyD (key x).1 (key x).2.1 (key x).2.2))
  (hd : ∀ x∈xs,(∀ y∈xs,¬ ((key y).1::(key y).2.1::(key y).2.2) < ((key x).1::(key x).2.1::(key x).2.2))->enc x = d) : Ev K G H₀ L ss (yei K T pos q i te ta) d:=fun F H σ Q S k =>
 a F H σ _ S fun p vs F1 H1 e1 sq rs=>by
  obtain ⟨vy,hσ,ry⟩:=(S.ext2 e1).getD hi
  have hl : vs.length = xs.length:=by rw [<- rs.length,Zg2]
  have at_ : ∀ {j : Nat} {v : V},vs[j]? = some v -> ∃ x,xs[j]? = some x/\Rep K F1 (enc x) v:=fun {j v} hv=>by
   obtain ⟨d',hd',r⟩:=rs.get hv
   rw [Zg8] at hd'
   obtain ⟨x,hx,rfl⟩:=Zjz.mp hd'
   exact ⟨x,hx,r⟩
  refine ⟨p,vs,vy,xs.map key,n,rfl,sq,hσ,(S.ext.trans e1).fh _ _ ((S.ext.trans e1).gf _ _ hT),by rw [hl]; exact Zmk.mpr hne,by rw [Zg2,hl],fun z hz=>?_,fun j v z H' hv hz sm=>?_,fun j v H' hv hm sm=>?_⟩
  ·obtain ⟨x,hx,rfl⟩:=Zhk.mp hz
   exact hn x hx
  ·obtain ⟨x,hx,r⟩:=at_ hv
   rw [Zg8,hx] at hz
   cases hz
   exact he F1 H' x (Zhb hx) F1 H' _ _ (ycp (e1.fh.trans sm) r ry) fun y F2 H2 e2 r2=>⟨e2.hh,r2.mono e2.fh⟩
  ·obtain ⟨x,hx,r⟩:=at_ hv
   have e : enc x = d:=hd x (Zhb hx) fun y hy=>by
    obtain ⟨m,hm',hy'⟩:=Zmm hy
    have h1:=(hm m (by omega)).1
    rw [zxe (k:=key y) (by rw [Zg8,Zg1 hm',hy']; rfl),zxe (k:=key x) (by rw [Zg8,hx]; rfl)] at h1
    exact h1
   rw [e] at r
   exact k v F1 H' (e1.trans ⟨Same.refl _,e1.fh.trans sm,sm,fun _ _ _ _=>rfl⟩) r
theorem zrj {ns : List Int} {m m' : Int} (h1 : m∈ns) (h2 : ∀ n∈ns,n <= m) (h3 : m'∈ns) (h4 : ∀ n∈ns,n <= m') : m' = m:=Int.le_antisymm (h2 _ h3) (h4 _ h1)
theorem yc8 {ns : List Int} {m : Int} (a : EvL K G H₀ L ss ta (ns.map .int)) (hm : m∈ns) (hge : ∀ n∈ns,n <= m) : Ev K G H₀ L ss (tCB (yb5 K) (za3 ta tNil)) (.int m):=fun F H σ Q S k =>
 a F H σ _ S fun p vs F' H' e sq rs=>by
  have ev:=zew rs
  subst ev
  exact ⟨p,ns,rfl,sq,(fun z=>by rw [z] at hm; cases hm),fun m' h3 h4=>by rw [zrj hm hge h3 h4]; exact k _ _ _ e Rep.int⟩
theorem zs7 {ns : List Int} {m d0 : Int} (a : EvL K G H₀ L ss ta (ns.map .int)) (b : Ev K G H₀ L ss tb (.int d0)) (h : (ns = []/\m = d0) \/ (m∈ns /\ ∀ n∈ns,n <= m)) : Ev K G H₀ L ss (ydo K ta tb) (.int m):=fun F H σ Q S k =>
 a F H σ _ S fun p vs F' H' e sq rs=>by
  have ev:=zew rs
  subst ev
  refine b F' H' σ _ (S.ext2 e) fun v F2 H2 e2 r2=>?_
  refine ⟨p,ns,d0,rfl,r2.of_int,SqL.same e2.hh sq,fun m' h3 h4=>?_,fun hn=>?_⟩
  ·rcases h with ⟨rfl,_⟩ | ⟨h1,h2⟩
   ·cases h3
   ·rw [zrj h1 h2 h3 h4]; exact k _ _ _ (e.trans e2) Rep.int
  ·rcases h with ⟨_,rfl⟩ | ⟨h1,h2⟩
   ·exact k _ _ _ (e.trans e2) Rep.int
   ·rw [hn] at h1; cases h1
end
section
variable {κ : Type} [DecidableEq κ]
noncomputable def valV (kvs : List (κ × V)) (k : κ) : Option V:=(kvs.find? fun kv=>decide (kv.1 = k)).map (·.2)
noncomputable def putK (kvs : List (κ × V)) (k : κ) (v : V) : List (κ × V) :=
 if (kvs.any fun kv=>decide (kv.1 = k)) = true then kvs.map (fun kv=>if kv.1 = k then (kv.1,v) else kv) else kvs++[(k,v)]
theorem zmr {p : κ × V} {r : List (κ × V)} {k : κ} (e : p.1 = k) : valV (p::r) k = some p.2:=by simp [valV,Zij,e]
theorem zl4 {p : κ × V} {r : List (κ × V)} {k : κ} (e : ¬ p.1 = k) : valV (p::r) k = valV r k:=by simp [valV,Zij,e]
theorem zly (k : κ) : ∀ kvs : List (κ × V),(kvs.any fun kv=>decide (kv.1 = k)) = (valV kvs k).isSome
 | []=>rfl
 | p::r=>by
  rw [Zkk]
  by_cases e : p.1 = k
  ·simp only [zmr e,decide_eq_true e,Bool.true_or,Option.isSome_some]
  ·rw [zl4 e,decide_eq_false e,Zol]; exact zly k r
theorem zhg (kvs : List (κ × V)) (k : κ) (v : V) : (putK kvs k v).length <= kvs.length + 1:=by
 unfold putK
 split
 ·rw [Zg2]; omega
 ·rw [Zhg,Zjo,Zst]; omega
theorem zy8 {kvs : List (κ × V)} {k : κ} (v : V) (h : valV kvs k = none) : putK kvs k v = kvs++[(k,v)]:=by
 unfold putK
 rw [zly,h]
 exact if_neg (by decide)
theorem RelO.isSome_eq {o : Option V} {u : Option Value} (r : RelO o u) : o.isSome = u.isSome:=by
 cases o with
 | none=>cases u with
  | none=>rfl
  | some _=>exact (show False from r).elim
 | some _=>cases u with
  | none=>exact (show False from r).elim
  | some _=>rfl
theorem RelO.getD {o : Option V} {u : Option Value} {d : V} {d' : Value} (r : RelO o u) (rd : RelV d d') : RelV (o.getD d) (u.getD d'):=by
 cases o with
 | none=>cases u with
  | none=>exact rd
  | some _=>exact (show False from r).elim
 | some _=>cases u with
  | none=>exact (show False from r).elim
  | some _=>exact r
theorem KV.val {kvs : List (κ × V)} {vs : List (κ × Value)} (r : KV kvs vs) (k : κ) : RelO (valV kvs k) (Zqr vs k):=by
 unfold KV at r
 induction r with
 | nil=>exact Zor
 | @cons p q ps qs h t ih =>
  obtain ⟨h1,h2⟩:=h
  by_cases e : p.1 = k
  ·have e' : q.1 = k:=h1.symm.trans e
   have b : Zqr (q::qs) k = some q.2:=by simp [Zqr,Zij,e']
   rw [zmr e,b]; exact h2
  ·have e' : ¬ q.1 = k:=fun z=>e (h1.trans z)
   have b : Zqr (q::qs) k = Zqr qs k:=by simp [Zqr,Zij,e']
   rw [zl4 e,b]; exact ih
theorem KV.any {kvs : List (κ × V)} {vs : List (κ × Value)} (r : KV kvs vs) (k : κ) : (kvs.any fun kv=>decide (kv.1 = k)) = vs.any fun kv=>decide (kv.1 = k):=by
 unfold KV at r
 induction r with
 | nil=>rfl
 | cons h t ih=>rw [Zkk,Zkk,ih,h.1]
theorem KV.repl {kvs : List (κ × V)} {vs : List (κ × Value)} (r : KV kvs vs) (k : κ) {y : V} {u : Value} (ry : RelV y u) :
  KV (kvs.map fun kv=>if kv.1 = k then (kv.1,y) else kv) (vs.map fun kv=>if kv.1 = k then (kv.1,u) else kv):=by
 unfold KV at r ⊢
 induction r with
 | nil=>exact .nil
 | @cons p q ps qs h t ih =>
  rw [Zhi,Zhi]
  refine .cons ?_ ih
  obtain ⟨h1,h2⟩:=h
  by_cases e : p.1 = k
  ·rw [if_pos e,if_pos (h1.symm.trans e)]; exact ⟨h1,ry⟩
  ·rw [if_neg e,if_neg (fun z=>e (h1.trans z))]; exact ⟨h1,h2⟩
theorem KV.put {kvs : List (κ × V)} {vs : List (κ × Value)} (r : KV kvs vs) (k : κ) {y : V} {u : Value} (ry : RelV y u) : KV (putK kvs k y) (stored vs k u):=by
 unfold putK stored
 rw [r.any k]
 by_cases e : (vs.any fun kv=>decide (kv.1 = k)) = true
 ·rw [if_pos e,if_pos e]; exact r.repl k ry
 ·rw [if_neg e,if_neg e]; exact Ztc r ⟨rfl,ry⟩
theorem KV.length {kvs : List (κ × V)} {vs : List (κ × Value)} (r : KV kvs vs) : kvs.length = vs.length:=Zp2 r
end
theorem zof {P : Zhz} {w : Zix} {k : Key} {u : Value} (r : RelV (kV k) u) : (za1 P w).is k u = true:=by
 cases k with
 | inl i=>obtain ⟨t,e⟩:=(show ∃ t,u = Zj6 i t from r); subst e; exact zpp P w i t
 | inr x=>obtain ⟨t,e⟩:=(show ∃ t,u = Zpb x t from r); subst e; exact zpk P w x t
theorem znx {P : Zhz} {w : Zix} : ∀ {ks : List Key} {us : List Value},Vals (ks.map kV) us->ItemsAre (za1 P w) ks us
 | [],_,r=>by rw [Zla] at r; cases r; exact .nil
 | k::ks,_,r=>by
  rw [Zhi] at r
  cases r with
  | cons h t=>exact .cons (zof h) (znx t)
noncomputable abbrev KT (H : Hp) : List (List Key × V)->List (List Key × Addr × Value)->Prop:=Paired fun p q=>p.1 = q.1/\H q.2.1 = some (.tup (p.1.map kV))/\RelV p.2 q.2.2
theorem KT.val {H : Hp} {kvs : List (List Key × V)} {xs : List (List Key × Addr × Value)} (r : KT H kvs xs) (k : List Key) : RelO (valV kvs k) ((Zsw xs k).map (·.2)):=by
 induction r with
 | nil=>exact Zor
 | @cons p q ps qs h t ih =>
  obtain ⟨h1,_,h2⟩:=h
  by_cases e : p.1 = k
  ·have e' : q.1 = k:=h1.symm.trans e
   have b : Zsw (q::qs) k = some q.2:=by simp [Zsw,Zij,e']
   rw [zmr e,b]; exact h2
  ·have e' : ¬ q.1 = k:=fun z=>e (h1.trans z)
   have b : Zsw (q::qs) k = Zsw qs k:=by simp [Zsw,Zij,e']
   rw [zl4 e,b]; exact ih
theorem KT.repl {H : Hp} {kvs : List (List Key × V)} {xs : List (List Key × Addr × Value)} (r : KT H kvs xs) (k : List Key) {y : V} {u : Value} (ry : RelV y u) :
  KT H (kvs.map fun kv=>if kv.1 = k then (kv.1,y) else kv) (xs.map (putAt k u)):=by
 induction r with
 | nil=>exact .nil
 | @cons p q ps qs h t ih =>
  rw [Zhi,Zhi]
  refine .cons ?_ ih
  obtain ⟨h1,h2,h3⟩:=h
  unfold putAt
  by_cases e : p.1 = k
  ·rw [if_pos e,if_pos (h1.symm.trans e)]; exact ⟨h1,h2,ry⟩
  ·rw [if_neg e,if_neg (fun z=>e (h1.trans z))]; exact ⟨h1,h2,h3⟩
theorem KT.put {H : Hp} {kvs : List (List Key × V)} {xs : List (List Key × Addr × Value)} (r : KT H kvs xs) (k : List Key) {b : Addr} {y : V} {u : Value} (hb : H b = some (.tup (k.map kV))) (ry : RelV y u) :
  KT H (putK kvs k y) (storedH xs k b u):=by
 have e : (kvs.any fun kv=>decide (kv.1 = k)) = (Zsw xs k).isSome:=by
  rw [zly,(r.val k).isSome_eq,Zog]
 unfold putK storedH
 rw [e]
 by_cases q : (Zsw xs k).isSome = true
 ·rw [if_pos q,if_pos q]; exact r.repl k ry
 ·rw [if_neg q,if_neg q]; exact Ztc r ⟨rfl,hb,ry⟩
theorem KT.keeps {H H' : Hp} {kvs : List (List Key × V)} {xs : List (List Key × Addr × Value)} (r : KT H kvs xs) (ht : ∀ b ys,H b = some (.tup ys)->H' b = some (.tup ys)) : KT H' kvs xs :=
 Paired.mapP r fun _ _ z=>⟨z.1,ht _ _ z.2.1,z.2.2⟩
section
variable {P : Zhz} {w : Zix} {H : Hp} {h : Heap} {a : Addr}
theorem yen {u : HO} (ok : HOk P w H h) (e : Rd H a u) : zc9 P w H h a u:=e.ok ok
theorem zl2 {kvs : List (Key × V)} (ok : HOk P w H h) (e : Rd H a (.dK kvs)) : kvs.length <= sizeLine/\(a == Zj2) = false /\ ∃ vs,KV kvs vs/\h.DictOf (za1 P w) a vs :=
 show zc9 P w H h a (.dK kvs) from yen ok e
theorem zyt {kvs : List (Key × V)} (ok : HOk P w H h) (e : H a = some (.dK kvs)) : kvs.length <= sizeLine/\(a == Zj2) = false /\ ∃ vs,KV kvs vs/\h.DictOf (za1 P w) a vs:=zl2 ok (.inl e)
theorem zj4 {ks : List Key} (ok : HOk P w H h) (e : H a = some (.tup (ks.map kV))) : (Zk1 (za1 P w)).is h ks a:=by
 obtain ⟨_,its,r,o,h1,h2,n,h3⟩:=(show zc9 P w H h a (.tup (ks.map kV)) from ok a _ e)
 exact ⟨o,its.toArray,n,h1,h2,h3,by simpa using znx r⟩
theorem zm2 {kvs : List (List Key × V)} (ok : HOk P w H h) (e : Rd H a (.dT kvs)) : kvs.length <= sizeLine/\(a == Zj2) = false /\
  ∃ xs,KT H kvs xs/\h.DictOfH (Zk1 (za1 P w)) a xs:=by
 obtain ⟨z,y,xs,r,o,es,ep,h1,h2,h3,h4,h5⟩:=(show zc9 P w H h a (.dT kvs) from yen ok e)
 refine ⟨z,y,xs,r,o,es,ep,h1,h2,h3,h4,fun x hx=>?_,h5⟩
 have all : ∀ {l : List (List Key × V)} {m : List (List Key × Addr × Value)},KT H l m -> ∀ x∈m,(Zk1 (za1 P w)).is h x.1 x.2.1:=by
  intro l m q
  induction q with
  | nil=>intro x hx; exact nomatch hx
  | @cons p q ps qs hq t ih =>
   intro x hx
   rcases Zhp.mp hx with e | hx
   ·subst e
    exact zj4 ok (by rw [<- hq.1]; exact hq.2.1)
   ·exact ih x hx
 exact all r x hx
theorem yf4 {kvs : List (List Key × V)} (ok : HOk P w H h) (e : H a = some (.dT kvs)) : kvs.length <= sizeLine/\(a == Zj2) = false /\
  ∃ xs,KT H kvs xs/\h.DictOfH (Zk1 (za1 P w)) a xs:=zm2 ok (.inl e)
end
noncomputable def DGet (H : Hp) (a : Addr) (y : V) (r : Option V) : Prop :=
 (∃ kvs k,Rd H a (.dK kvs)/\y = kV k/\r = valV kvs k) \/ ∃ kvs k b,Rd H a (.dT kvs)/\y = .ref b/\H b = some (.tup (k.map kV))/\r = valV kvs k
noncomputable def DPut (H : Hp) (a : Addr) (y v : V) (H' : Hp) : Prop :=
 (∃ kvs k,H a = some (.dK kvs)/\y = kV k/\kvs.length < sizeLine/\H' = upd H a (.dK (putK kvs k v))) \/
 ∃ kvs k b,H a = some (.dT kvs)/\y = .ref b/\H b = some (.tup (k.map kV))/\kvs.length < sizeLine/\H' = upd H a (.dT (putK kvs k v))
theorem DGet.k {H : Hp} {a : Addr} {kvs : List (Key × V)} {k : Key} (e : H a = some (.dK kvs)) : DGet H a (kV k) (valV kvs k):=.inl ⟨kvs,k,.inl e,rfl,rfl⟩
theorem DGet.t {H : Hp} {a b : Addr} {kvs : List (List Key × V)} {k : List Key} (e : H a = some (.dT kvs)) (eb : H b = some (.tup (k.map kV))) : DGet H a (.ref b) (valV kvs k):=.inr ⟨kvs,k,b,.inl e,rfl,eb,rfl⟩
theorem DPut.k {H : Hp} {a : Addr} {kvs : List (Key × V)} {k : Key} {v : V} (e : H a = some (.dK kvs)) (hl : kvs.length < sizeLine) : DPut H a (kV k) v (upd H a (.dK (putK kvs k v))):=.inl ⟨kvs,k,e,rfl,hl,rfl⟩
theorem DPut.t {H : Hp} {a b : Addr} {kvs : List (List Key × V)} {k : List Key} {v : V} (e : H a = some (.dT kvs)) (eb : H b = some (.tup (k.map kV))) (hl : kvs.length < sizeLine) :
  DPut H a (.ref b) v (upd H a (.dT (putK kvs k v))):=.inr ⟨kvs,k,b,e,rfl,eb,hl,rfl⟩
section
variable {X : Cx} {pins : List (Addr × Obj)} {σ : St} {H : Hp} {s : Zg5} {a : Addr} {y v : V} {u r : Value} {o : Option V} {A : Zh3} {E : Value->Zg5->Prop}
theorem Inv.big (I : Inv X pins σ H s) : Zj2 < s.heap.objs.size:=by
 have h : Zju < s.heap.objs.size:=(I.mod.glob.keeps I.bk).lt
 exact Zka (by decide) h
theorem zvq {Q : Value->Zg5->Prop} (hu : A.units + 1 < Znn) (I : Inv X pins σ H s) (g : DGet H a y (some v)) (ry : RelV y u) (h : ∀ w' s',Inv X pins σ H s'->RelV v w'->Q w' s') :
  Zhs (Zh2 X.prog X.w) A (Zrr (.ref a) u) Q E s:=by
 rcases g with ⟨kvs,k,e,ey,l⟩ | ⟨kvs,k,b,e,ey,eb,l⟩
 ·subst ey
  obtain ⟨z,hd,vs,rel,dd⟩:=zl2 I.hok e
  obtain ⟨w',hw,rw'⟩:=RelO.some_of (v:=v) (o:=Zqr vs k) (by rw [l]; exact rel.val k)
  exact wpAny_getItem_of (zof ry) dd.mapOf hw (h w' _ (I.tok _) rw')
 ·subst ey
  cases (show u = Zh4 b from ry)
  obtain ⟨z,hd,xs,rel,dd⟩:=zm2 I.hok e
  obtain ⟨w',hw,rw'⟩:=RelO.some_of (v:=v) (o:=(Zsw xs k).map (·.2)) (by rw [l]; exact rel.val k)
  obtain ⟨p,hp,hp2⟩:=Zjz.mp hw
  refine wpAny_getItem_heap (Zkx hu) (zj4 I.hok eb) dd hp ?_
  rw [hp2]
  exact h w' _ (I.tok _) rw'
theorem Zgx {Q : Value->Zg5->Prop} (hu : A.units + 1 < Znn) (I : Inv X pins σ H s) (g : DGet H a y o) (ry : RelV y u) (h : ∀ s',Inv X pins σ H s'->Q (.bool o.isSome) s') :
  Zhs (Zh2 X.prog X.w) A (Zjy .In u (.ref a)) Q E s:=by
 rcases g with ⟨kvs,k,e,ey,l⟩ | ⟨kvs,k,b,e,ey,eb,l⟩
 ·subst ey
  obtain ⟨z,hd,vs,rel,dd⟩:=zl2 I.hok e
  refine wpAny_in_of (zof ry) hd dd.mapOf ?_
  rw [<- (rel.val k).isSome_eq,<- l]
  exact h _ (I.tok _)
 ·subst ey
  cases (show u = Zh4 b from ry)
  obtain ⟨z,hd,xs,rel,dd⟩:=zm2 I.hok e
  refine wpAny_in_heap (Zkx hu) (zj4 I.hok eb) hd dd ?_
  have q:=(rel.val k).isSome_eq
  rw [Zog] at q
  rw [<- q,<- l]
  exact h _ (I.tok _)
theorem yan {Q : Value->Zg5->Prop} (hu : A.units + 1 < Znn) (I : Inv X pins σ H s) (g : DGet H a y o) (ry : RelV y u) (h : ∀ s',Inv X pins σ H s'->Q (.bool (!o.isSome)) s') :
  Zhs (Zh2 X.prog X.w) A (Zjy .NotIn u (.ref a)) Q E s:=by
 rcases g with ⟨kvs,k,e,ey,l⟩ | ⟨kvs,k,b,e,ey,eb,l⟩
 ·subst ey
  obtain ⟨z,hd,vs,rel,dd⟩:=zl2 I.hok e
  refine wpAny_notIn_of (zof ry) hd dd.mapOf ?_
  rw [<- (rel.val k).isSome_eq,<- l]
  exact h _ (I.tok _)
 ·subst ey
  cases (show u = Zh4 b from ry)
  obtain ⟨z,hd,xs,rel,dd⟩:=zm2 I.hok e
  refine wpAny_notIn_heap (Zkx hu) (zj4 I.hok eb) hd dd ?_
  have q:=(rel.val k).isSome_eq
  rw [Zog] at q
  rw [<- q,<- l]
  exact h _ (I.tok _)
theorem zo7 {h' : Heap} {t' : Nat} {ob : HO} (I : Inv X pins σ H s) (mu : Mut (H a)) (hs : Zox a s.heap h') (he : ∃ q,h'.get? a = some q) (new : zc9 X.prog X.w (upd H a ob) h' a ob) :
  Inv X pins σ (upd H a ob) { s with heap:=h',toks:=t' } :=
 I.write (x:=a) (e:=a) mu (.inl rfl) (fun b q hb z=>(hs.2 b hb).trans z) he new
theorem yab {P : Zhz} {w : Zix} {H' : Hp} {h' : Heap} {kvs : List (Key × V)} {vs : List (Key × Value)} (z : kvs.length <= sizeLine) (hd : (a == Zj2) = false) (rel : KV kvs vs) (dd : h'.DictOf (za1 P w) a vs) :
  zc9 P w H' h' a (.dK kvs):=⟨z,hd,vs,rel,dd⟩
theorem zua {H' : Hp} {Q : Unit->Zg5->Prop} (hu : A.units + 1 < Znn) (I : Inv X pins σ H s) (g : DPut H a y v H') (ry : RelV y u) (rv : RelV v r) (h : ∀ s',Inv X pins σ H' s'->Q () s') :
  Zhs (Zh2 X.prog X.w) A (setItem (.ref a) u r) Q E s:=by
 rcases g with ⟨kvs,k,e,ey,l,eH⟩ | ⟨kvs,k,b,e,ey,eb,l,eH⟩
 ·subst ey eH
  obtain ⟨z,hd,vs,rel,dd⟩:=zyt I.hok e
  have hz : vs.length <= sizeLine:=by rw [<- rel.length]; exact z
  have hl : (putK kvs k v).length <= sizeLine:=by have:=zhg kvs k v; omega
  refine wpAny_setItem_pairs (hsz:=hz) (zof ry) dd fun h' dd' hs=>h _ ?_
  have he : ∃ q,h'.get? a = some q:=let ⟨q,_,_,hq,_⟩:=dd'; ⟨q,hq⟩
  exact zo7 I (by rw [e]; exact Zor) hs he (yab hl hd (rel.put k rv) dd')
 ·subst ey eH
  cases (show u = Zh4 b from ry)
  obtain ⟨z,hd,xs,rel,dd⟩:=yf4 I.hok e
  have hz : xs.length <= sizeLine:=by rw [<- Zp2 rel]; exact z
  have hl : (putK kvs k v).length <= sizeLine:=by have:=zhg kvs k v; omega
  refine wpAny_setItem_heap (hsz:=hz) (Zkx hu) (zj4 I.hok eb) dd fun h' dd' hs=>h _ ?_
  obtain ⟨q,es,ep,hq,h2,h3,h4,_,h5⟩:=dd'
  refine zo7 I (by rw [e]; exact Zor) hs ⟨q,hq⟩ ⟨hl,hd,_,(rel.put k eb rv).keeps fun c ys ec=>?_,q,es,ep,hq,h2,h3,h4,h5⟩
  rw [zam (zyb ec e (fun z=>nomatch z))]
  exact ec
end
section
variable {X : Cx} {pins : List (Addr × Obj)} {σ : St} {H : Hp} {s : Zg5} {a : Addr} {kvs : List (Key × V)} {k : Key} {u : Value} {A : Zh3} {E : Value->Zg5->Prop}
theorem yf5 {Q : Value->Zg5->Prop} (I : Inv X pins σ H s) (e : Rd H a (.dK kvs)) (h : ∀ t s',Inv X pins σ H s'->Q (.int kvs.length t) s') : Zhs (Zh2 X.prog X.w) A (call (.builtin "len") [.ref a]) Q E s:=by
 obtain ⟨z,hd,vs,rel,dd⟩:=zl2 I.hok e
 refine call_len_dict hd dd (by rw [<- rel.length]; rw [Zhm] at z; omega) ?_
 rw [<- rel.length]
 exact h _ _ (I.tok _)
end
noncomputable def NoSl (i : Expr) : Prop:=∀ ov iv,Zqs i false ov iv = operate [ov,iv] (Zrr ov iv)
theorem ycb {prog : Zhz} {w : Zix} {A : Zh3} {E : Value->Zg5->Prop} {s : Zg5} {env : Env} {value slice : Expr} {pos : Pos} {T id : String} {Q : Value->Zg5->Prop}
  (hl : Ztr (.type T) "__getitem__" = pure (some (.builtin id))) (hs : NoSl slice)
  (h : Zhs (Zh2 prog w) A (eval value env) (fun o s₁=>Zhs (Zh2 prog w) A (eval slice env) (fun i s₂=>s₂.TypeIs o T/\Zhs (Zh2 prog w) A (Zrr o i) Q E s₂) E s₁) E s) :
  Zhs (Zh2 prog w) A (eval (.Subscript value slice pos) env) Q E s:=by
 refine Ztz (Zid h (fun o s₁ h₁=>Zid h₁ (fun i s₂ h₂=>?_) fun _ _ x=>x) fun _ _ x=>x)
 obtain ⟨hT,h₂⟩:=h₂
 unfold Zro
 refine Zgz ?_
 rw [getitemInPython_of_ne hT.not_modules]
 refine Zgz (Zqo hT hl ?_)
 have fin : Zhs (Zh2 prog w) A (Zqs slice false o i) (fun r s₃=>Zhs (Zh2 prog w) A (letTemporaryGo value o r >>= fun _=>pure r) Q E s₃) E s₂:=by
  rw [hs o i]
  exact wpAny_operating (Zid h₂ (fun r s₃ h₃=>Zgz (wpAny_letTemporaryGo (Zhc h₃))) fun _ _ x=>x)
 first
  | exact Zhc (Zgz fin)
  | exact Zgz (Zhc (Zgz fin))
  | exact Zgz fin
theorem zpc {X : Cx} {pins : List (Addr × Obj)} {σ : St} {H : Hp} {s : Zg5} {a : Addr} {y : V} {o : Option V} (I : Inv X pins σ H s) (g : DGet H a y o) : s.TypeIs (.ref a) "dict" := by
 rcases g with ⟨kvs,k,e,_,_⟩ | ⟨kvs,k,b,e,_,_,_⟩
 ·obtain ⟨_,_,vs,_,dd⟩:=zl2 I.hok e
  exact dd.typeIs
 ·obtain ⟨_,_,xs,_,dd⟩:=zm2 I.hok e
  exact dd.typeIs
noncomputable def zvt (td ty : TE) : TE:=fun σ H Q=>td σ H fun x H1=>ty σ H1 fun y H2=>∃ a v,x = .ref a/\DGet H2 a y (some v)/\Q v H2
noncomputable def tDIn (ty td : TE) : TE:=fun σ H Q=>ty σ H fun y H1=>td σ H1 fun x H2=>∃ a o,x = .ref a/\DGet H2 a y o/\Q (.bl o.isSome) H2
noncomputable def zl6 (ty td : TE) : TE:=fun σ H Q=>ty σ H fun y H1=>td σ H1 fun x H2=>∃ a o,x = .ref a/\DGet H2 a y o/\Q (.bl (!o.isSome)) H2
noncomputable def ycl (td ty tv : TE) : TS:=fun D σ H=>tv σ H fun v H1=>td σ H1 fun x H2=>ty σ H2 fun y H3=>∃ a H4,x = .ref a/\DPut H3 a y v H4/\D.nx σ H4
section
variable {X : Cx} {o i e value : Expr} {pos pos' tpos : Pos} {td ty tv : TE}
theorem zdi (hu : X.A.units + 1 < Znn) (ho : PE X o td) (hi : PE X i ty) (hs : NoSl i) : PE X (.Subscript o i pos) (zvt td ty):=by
 intro pins s σ H Q I h
 refine ycb PySem.F.slot_dict_getitem.lookup hs (thn (ho pins s σ H _ I h) fun u s1 ⟨x,H1,I1,rx,q1⟩=>thn (hi pins s1 σ H1 _ I1 q1) fun iv s2 hz9=>?_)
 obtain ⟨y,H2,I2,ry,a,v,ex,g,q2⟩:=hz9
 subst ex
 obtain rfl : u = Zh4 a:=rx
 exact ⟨zpc I2 g,zvq hu I2 g ry fun w' s3 I3 rw'=>⟨v,H2,I3,rw',q2⟩⟩
theorem zp9 (hu : X.A.units + 1 < Znn) (hi : PE X i ty) (ho : PE X o td) : PC X .In i o (tDIn ty td):=by
 intro pins s σ H Q I h
 refine thn (hi pins s σ H _ I h) fun iv s1 ⟨y,H1,I1,ry,q1⟩=>thn (ho pins s1 σ H1 _ I1 q1) fun u s2 hz9=>?_
 obtain ⟨x,H2,I2,rx,a,ov,ex,g,q2⟩:=hz9
 subst ex
 obtain rfl : u = Zh4 a:=rx
 exact Zgx hu I2 g ry fun s3 I3=>⟨.bl ov.isSome,H2,I3,rfl,q2⟩
theorem zfz (hu : X.A.units + 1 < Znn) (hi : PE X i ty) (ho : PE X o td) : PC X .NotIn i o (zl6 ty td):=by
 intro pins s σ H Q I h
 refine thn (hi pins s σ H _ I h) fun iv s1 ⟨y,H1,I1,ry,q1⟩=>thn (ho pins s1 σ H1 _ I1 q1) fun u s2 hz9=>?_
 obtain ⟨x,H2,I2,rx,a,ov,ex,g,q2⟩:=hz9
 subst ex
 obtain rfl : u = Zh4 a:=rx
 exact yan hu I2 g ry fun s3 I3=>⟨.bl (!ov.isSome),H2,I3,rfl,q2⟩
theorem zfh (hu : X.A.units + 1 < Znn) (ho : PE X o td) (hi : PE X i ty) (hv : PE X value tv) (hs : Zn4 value (some (.Subscript o i pos')) pos.line X.env = pure false) :
  PS X (.Assign [.Subscript o i pos'] value pos) (ycl td ty tv):=by
 intro pins s σ H D I h
 refine wpAny_Assign_Subscript (thn (hv pins s σ H _ I h) fun r s1 ⟨v,H1,I1,rv,q1⟩=>thn (ho pins s1 σ H1 _ I1 q1) fun u s2 ⟨x,H2,I2,rx,q2⟩=>thn (hi pins s2 σ H2 _ I2 q2) fun iv s3 hz9=>?_) hs
 obtain ⟨y,H3,I3,ry,a,H4,ex,g,q3⟩:=hz9
 subst ex
 obtain rfl : u = Zh4 a:=rx
 exact zua hu I3 g ry rv fun s4 I4=>⟨σ,H4,I4,q3⟩
end
theorem zyj {P : Zhz} {w : Zix} {H : Hp} (h : Heap) (hb : Zj2 < h.objs.size) : zc9 P w H (h.push { cls:=.type "dict", data:=.dict #[] }) h.objs.size (.dK []) :=
 ⟨Zih _,beq_eq_false_iff_ne.mpr (Zif (Zht hb)),[],.nil,Zvn h⟩
theorem zyx {P : Zhz} {w : Zix} {H : Hp} (h : Heap) (hb : Zj2 < h.objs.size) : zc9 P w H (h.push { cls:=.type "dict", data:=.dict #[] }) h.objs.size (.dT []) :=
 ⟨Zih _,beq_eq_false_iff_ne.mpr (Zif (Zht hb)),[],.nil,_,#[],0,Zho _ rfl,⟨rfl,rfl,rfl⟩,rfl,rfl,Zny⟩
noncomputable def zvm : TE:=fun _ H Q=>∀ p,H p = none->Q (.ref p) (upd H p (.dK []))
noncomputable def zzz : TE:=fun _ H Q=>∀ p,H p = none->Q (.ref p) (upd H p (.dT []))
section
variable {X : Cx} {pos : Pos}
theorem zjj : PE X (.Dict [] [] pos) zvm:=fun pins s σ H Q I h =>
 Zuk ⟨.ref s.heap.objs.size,_,I.laid (a:=s.heap.objs.size) (o:=.dK []) (t':=s.toks) (fun _ _ q=>Zg6 _ q) (Zha _) (zyj s.heap I.big),rfl,h _ (I.hok.fresh (Zha _))⟩
theorem zjc : PE X (.Dict [] [] pos) zzz:=fun pins s σ H Q I h =>
 Zuk ⟨.ref s.heap.objs.size,_,I.laid (a:=s.heap.objs.size) (o:=.dT []) (t':=s.toks) (fun _ _ q=>Zg6 _ q) (Zha _) (zyx s.heap I.big),rfl,h _ (I.hok.fresh (Zha _))⟩
end
structure M1 (X : Cx) (o : Expr) (m : Str) (apos : Pos) (e : Expr) (cpos : Pos) : Prop where
 base : Zls o m X.env (eval o X.env) = eval o X.env
 few : ((Zmf cpos (Zic [e] X.env)).all (fun x=>!x.1) && (Zpa cpos (Zm1 [] X.env)).all (fun x=>x.1.isSome)
  && decide (([e] : List Expr).length + ([] : List Zpy).length + (if ([] : List Zpy).isEmpty then 0 else 1) < 30)) = true
 line : (apos.endLine == cpos.line) = true
 trees : Zmf cpos (Zic [e] X.env) = [(false,eval e X.env)]
structure M2 (X : Cx) (o : Expr) (m : Str) (apos : Pos) (e f : Expr) (cpos : Pos) : Prop where
 base : Zls o m X.env (eval o X.env) = eval o X.env
 few : ((Zmf cpos (Zic [e,f] X.env)).all (fun x=>!x.1) && (Zpa cpos (Zm1 [] X.env)).all (fun x=>x.1.isSome)
  && decide (([e,f] : List Expr).length + ([] : List Zpy).length + (if ([] : List Zpy).isEmpty then 0 else 1) < 30)) = true
 line : (apos.endLine == cpos.line) = true
 trees : Zmf cpos (Zic [e,f] X.env) = [(false,eval e X.env),(false,eval f X.env)]
noncomputable def IsD (H : Hp) (a : Addr) : Prop:=(∃ kvs,Rd H a (.dK kvs)) \/ ∃ kvs,Rd H a (.dT kvs)
theorem zw0 {X : Cx} {pins : List (Addr × Obj)} {σ : St} {H : Hp} {s : Zg5} {a : Addr} (I : Inv X pins σ H s) (d : IsD H a) :
  s.TypeIs (.ref a) "dict" /\ (∀ b,Zh4 a = .ref b -> ∃ ob,s.heap.get? b = some ob/\ob.dict = none)/\(a == Zj2) = false:=by
 rcases d with ⟨kvs,e⟩ | ⟨kvs,e⟩
 ·obtain ⟨_,hd,vs,_,dd⟩:=zl2 I.hok e
  refine ⟨dd.typeIs,fun b q=>?_,hd⟩
  cases q
  obtain ⟨ob,_,_,h1,h2,_⟩:=dd
  exact ⟨ob,h1,h2.2.1⟩
 ·obtain ⟨_,hd,xs,_,dd⟩:=zm2 I.hok e
  refine ⟨dd.typeIs,fun b q=>?_,hd⟩
  cases q
  obtain ⟨ob,_,_,h1,h2,_⟩:=dd
  exact ⟨ob,h1,h2.2.1⟩
section
variable {X : Cx} {pins : List (Addr × Obj)} {σ : St} {H : Hp} {s : Zg5} {a : Addr} {y d : V} {u r : Value} {o : Option V} {A : Zh3} {E : Value->Zg5->Prop}
theorem ye4 {Q : Value->Zg5->Prop} (hu : A.units + 1 < Znn) (I : Inv X pins σ H s) (g : DGet H a y o) (ry : RelV y u) (h : ∀ w' s',Inv X pins σ H s'->RelV (o.getD .non) w'->Q w' s') :
  Zhs (Zh2 X.prog X.w) A (call (.builtin "dict.get") [.ref a,u]) Q E s:=by
 rcases g with ⟨kvs,k,e,ey,l⟩ | ⟨kvs,k,b,e,ey,eb,l⟩
 ·subst ey
  obtain ⟨z,hd,vs,rel,dd⟩:=zl2 I.hok e
  refine Zlk Zj3 dd.typeIs Zld (Zpw _ _) (meets_dict_get (za1 X.prog X.w) a (zof ry) hd) ⟨_,dd.mapOf,h _ _ (I.tok _) ?_⟩
  rw [l]
  exact (rel.val k).getD rfl
 ·subst ey
  cases (show u = Zh4 b from ry)
  obtain ⟨z,hd,xs,rel,dd⟩:=zm2 I.hok e
  refine Zlk Zj3 dd.typeIs Zld (Zpw _ _) (meetsH_dict_get (Zk1 (za1 X.prog X.w)) a b hd) ⟨Zkx hu,k,xs,zj4 I.hok eb,dd,h _ _ (I.tok _) ?_⟩
  rw [l]
  exact (rel.val k).getD rfl
theorem yds {Q : Value->Zg5->Prop} (hu : A.units + 1 < Znn) (I : Inv X pins σ H s) (g : DGet H a y o) (ry : RelV y u) (rd : RelV d r) (h : ∀ w' s',Inv X pins σ H s'->RelV (o.getD d) w'->Q w' s') :
  Zhs (Zh2 X.prog X.w) A (call (.builtin "dict.get") [.ref a,u,r]) Q E s:=by
 rcases g with ⟨kvs,k,e,ey,l⟩ | ⟨kvs,k,b,e,ey,eb,l⟩
 ·subst ey
  obtain ⟨z,hd,vs,rel,dd⟩:=zl2 I.hok e
  refine Zlk Zj3 dd.typeIs Zld (Zpv _ _ _) (meets_dict_get_default (za1 X.prog X.w) a (zof ry) hd r) ⟨_,dd.mapOf,h _ _ (I.tok _) ?_⟩
  rw [l]
  exact (rel.val k).getD rd
 ·subst ey
  cases (show u = Zh4 b from ry)
  obtain ⟨z,hd,xs,rel,dd⟩:=zm2 I.hok e
  refine Zlk Zj3 dd.typeIs Zld (Zpv _ _ _) (meetsH_dict_get_default (Zk1 (za1 X.prog X.w)) a b hd r) ⟨Zkx hu,k,xs,zj4 I.hok eb,dd,h _ _ (I.tok _) ?_⟩
  rw [l]
  exact (rel.val k).getD rd
end
noncomputable def zrp (td ty : TE) : TE:=fun σ H Q=>td σ H fun x H1=>∃ a,x = .ref a/\IsD H1 a/\ty σ H1 fun y H2=>∃ o,DGet H2 a y o/\Q (o.getD .non) H2
noncomputable def zrk (td ty tx : TE) : TE:=fun σ H Q=>td σ H fun x H1=>∃ a,x = .ref a/\IsD H1 a/\ty σ H1 fun y H2=>tx σ H2 fun z H3=>∃ o,DGet H3 a y o/\Q (o.getD z) H3
section
variable {X : Cx} {o e f : Expr} {apos cpos : Pos} {td ty tx : TE}
theorem zjs (hu : X.A.units + 1 < Znn) (ho : PE X o td) (he : PE X e ty) (m : M1 X o "get" apos e cpos) : PE X (.Call (.Attribute o "get" apos) [e] [] cpos) (zrp td ty):=by
 intro pins s σ H Q I h
 refine Ztp m.base m.few m.line Zm2 Zj3 Zqc (thn (ho pins s σ H _ I h) fun u s1 hz9=>?_)
 obtain ⟨x,H1,I1,rx,a,ex,d,q1⟩:=hz9
 subst ex
 obtain rfl : u = Zh4 a:=rx
 obtain ⟨t1,t2,_⟩:=zw0 I1 d
 refine ⟨t1,t2,?_⟩
 rw [m.trees]
 refine Zj1 rfl (Zl4 (Zmr (thn (he pins s1 σ H1 _ I1 q1) fun iv s2 ⟨y,H2,I2,ry,ov,g,q2⟩=>Zop ?_)))
 exact ye4 hu I2 g ry fun w' s3 I3 rw'=>⟨_,H2,I3,rw',q2⟩
theorem zjr (hu : X.A.units + 1 < Znn) (ho : PE X o td) (he : PE X e ty) (hf : PE X f tx) (m : M2 X o "get" apos e f cpos) : PE X (.Call (.Attribute o "get" apos) [e,f] [] cpos) (zrk td ty tx):=by
 intro pins s σ H Q I h
 refine Ztp m.base m.few m.line Zm2 Zj3 Zqc (thn (ho pins s σ H _ I h) fun u s1 hz9=>?_)
 obtain ⟨x,H1,I1,rx,a,ex,d,q1⟩:=hz9
 subst ex
 obtain rfl : u = Zh4 a:=rx
 obtain ⟨t1,t2,_⟩:=zw0 I1 d
 refine ⟨t1,t2,?_⟩
 rw [m.trees]
 refine Zj1 rfl (Zl4 (Zmr (thn (he pins s1 σ H1 _ I1 q1) fun iv s2 ⟨y,H2,I2,ry,q2⟩ =>
  Zmr (thn (hf pins s2 σ H2 _ I2 q2) fun fv s3 ⟨z,H3,I3,rz,ov,g,q3⟩=>Zop ?_))))
 exact yds hu I3 g ry rz fun w' s4 I4 rw'=>⟨_,H3,I4,rw',q3⟩
end
end L2
namespace L2
open PySem PySem.W PySem.Spec PyProof.Rows
theorem zkl {a b : D} (ha : a.isK = true) (hb : b.isK = true) (h : a.key = b.key) : a = b:=by
 cases a <;> cases b <;> simp [D.isK,D.key] at * <;> first | exact h | exact ztw.mp h
theorem zij {K : Zgy} {H : Hp} {d : D} {v : V} (hk : d.isK = true) (r : Rep K H d v) : v = kV d.key:=by
 cases d <;> simp [D.isK] at hk
 ·exact r.of_int
 ·exact r.of_str
noncomputable abbrev DD:=List (D × D)
noncomputable def valD (kvs : DD) (k : D) : Option D:=(kvs.find? fun kv=>decide (kv.1 = k)).map (·.2)
noncomputable def putD (kvs : DD) (k d : D) : DD:=if (kvs.any fun kv=>decide (kv.1 = k)) = true then kvs.map (fun kv=>if kv.1 = k then (kv.1,d) else kv) else kvs++[(k,d)]
inductive Dks (K : Zgy) (F : Hp) : DD->List (Key × V)->Prop
 | nil : Dks K F [] []
 | cons {k d : D} {v : V} {kvs : DD} {xs : List (Key × V)} (hk : k.isK = true) (hr : Rep K F k (kV k.key)) (r : Rep K F d v) (t : Dks K F kvs xs) : Dks K F ((k,d)::kvs) ((k.key,v)::xs)
section
variable {K : Zgy} {F F' : Hp} {kvs : DD} {xs : List (Key × V)}
theorem Dks.mono (h : Dks K F kvs xs) (s : Same F F') : Dks K F' kvs xs:=by
 induction h with
 | nil=>exact .nil
 | cons hk hr r t ih=>exact .cons hk (hr.mono s) (r.mono s) ih
theorem Dks.length (h : Dks K F kvs xs) : kvs.length = xs.length:=by
 induction h with
 | nil=>rfl
 | cons hk hr r t ih=>simp [ih]
theorem zya {k : D} (hk : k.isK = true) : k.flat = true:=by cases k <;> simp [D.isK] at hk <;> rfl
theorem zvp {K : Zgy} {H F : Hp} {k : D} {v : V} (hk : k.isK = true) (r : Rep K H k v) : Rep K F k (kV k.key):=by
 rw [<- zij hk r]; exact r.flat (zya hk)
theorem Dks.val (h : Dks K F kvs xs) {k : D} (hk : k.isK = true) : (valD kvs k = none/\valV xs k.key = none) \/ ∃ d v,valD kvs k = some d/\valV xs k.key = some v/\Rep K F d v:=by
 induction h with
 | nil=>exact .inl ⟨rfl,rfl⟩
 | @cons k' d v kvs xs hk' hr' r t ih =>
  by_cases e : k' = k
  ·subst e
   exact .inr ⟨d,v,by simp [valD],by simp [valV],r⟩
  ·have e2 : k'.key≠k.key:=fun z=>e (zkl hk' hk z)
   have h1 : valD ((k',d)::kvs) k = valD kvs k:=by simp [valD,Zij,e]
   have h2 : valV ((k'.key,v)::xs) k.key = valV xs k.key:=by simp [valV,Zij,e2]
   rw [h1,h2]; exact ih
theorem Dks.any (h : Dks K F kvs xs) {k : D} (hk : k.isK = true) : (kvs.any fun kv=>decide (kv.1 = k)) = xs.any fun kv=>decide (kv.1 = k.key):=by
 induction h with
 | nil=>rfl
 | @cons k' d v kvs xs hk' hr' r t ih =>
  rw [Zkk,Zkk,ih]
  congr 1
  by_cases e : k' = k
  ·subst e; simp
  ·have e2 : k'.key≠k.key:=fun z=>e (zkl hk' hk z)
   rw [decide_eq_false e,decide_eq_false e2]
theorem Dks.snoc (h : Dks K F kvs xs) {k d : D} {v : V} (hk : k.isK = true) (hr : Rep K F k (kV k.key)) (r : Rep K F d v) : Dks K F (kvs++[(k,d)]) (xs++[(k.key,v)]):=by
 induction h with
 | nil=>exact .cons hk hr r .nil
 | cons hk' hr' r' t ih=>exact .cons hk' hr' r' ih
theorem Dks.put (h : Dks K F kvs xs) {k d : D} {v : V} (hk : k.isK = true) (hr : Rep K F k (kV k.key)) (r : Rep K F d v) : Dks K F (putD kvs k d) (putK xs k.key v):=by
 unfold putD putK
 rw [h.any hk]
 by_cases hc : (xs.any fun kv=>decide (kv.1 = k.key)) = true
 ·rw [if_pos hc,if_pos hc]
  clear hc
  induction h with
  | nil=>exact .nil
  | @cons k' d' v' kvs xs hk' hr' r' t ih =>
   rw [Zhi,Zhi]
   by_cases e : k' = k
   ·subst e; rw [if_pos rfl,if_pos rfl]; exact .cons hk' hr' r ih
   ·have e2 : k'.key≠k.key:=fun z=>e (zkl hk' hk z)
    rw [if_neg e,if_neg e2]; exact .cons hk' hr' r' ih
 ·rw [if_neg hc,if_neg hc]; exact h.snoc hk hr r
end
theorem zzc (kvs : DD) (k d : D) : (putD kvs k d).length <= kvs.length + 1:=by
 unfold putD; split <;> simp
noncomputable def dW (K : Zgy) (p : Addr) (kvs : DD) : Hp->Hp->Prop:=fun F H=>∃ xs,H p = some (.dK xs)/\Dks K F kvs xs
noncomputable def dsl (K : Zgy) (p : Addr) (kvs : DD) : Sl:=.g (.ref p) [p] (dW K p kvs)
theorem zo0 (K : Zgy) (p : Addr) (kvs : DD) : Stab [p] (dW K p kvs):=fun F1 H1 F2 H2 sf hh ⟨xs,h1,h2⟩=>⟨xs,by rw [hh p (by simp)]; exact h1,h2.mono sf⟩
section
variable {K : Zgy} {G H₀ L : Hp} {ss : List Sl} {i : Nat} {p : Addr} {kvs : DD} {E : Ends} {ty td tv tx : TE} {k d z : D}
theorem Sat.getM {F H : Hp} {σ : St} (S : Sat K G H₀ L F H σ ss) (hs : ss[i]? = some (dsl K p kvs)) : σ[i]? = some (some (.ref p))/\H₀ p = none/\F p = none /\ ∃ xs,H p = some (.dK xs)/\Dks K F kvs xs:=by
 obtain ⟨v,e,ew,ha,hw,st⟩:=S.get hs (by intro z; cases z)
 cases ew
 obtain ⟨h0,fp,_⟩:=ha p (by simp)
 exact ⟨e,h0,fp,hw⟩
theorem Sat.writeM {F H : Hp} {σ : St} {kvs' : DD} {xs : List (Key × V)} (S : Sat K G H₀ L F H σ ss) (hs : ss[i]? = some (dsl K p kvs)) (r : Dks K F kvs' xs) : Sat K G H₀ L F (upd H p (.dK xs)) σ (ss.set i (dsl K p kvs')):=by
 obtain ⟨e,h0,fp,ys,hp,_⟩:=S.getM hs
 have hget : σ.getD i none = some (.ref p):=by rw [Zg0,e]; rfl
 refine S.put (S.ext.write fp h0) S.fl rfl (fun _ _=>rfl) (fun _=>?_) (by simp [dsl,Sl.ads]) (fun j s' hj h q hq=>?_) fun j s' hj h=>(S.ok j s' h).updNe (S.ne i j _ s' (Zif hj) hs h p (by simp [dsl,Sl.ads]))
 ·rw [hget]
  exact ⟨rfl,fun a ha=>by rw [Zg3.mp ha]; exact ⟨h0,fp,_,zaj,trivial⟩,⟨xs,zaj,r⟩,zo0 K p kvs'⟩
 ·have : q = p:=by simpa [dsl,Sl.ads] using hq
  subst this
  exact S.ne i j _ s' (Zif hj) hs h q (by simp [dsl,Sl.ads])
theorem zo5 (h : ∀ p,Nx K G H₀ L E.nx (ss.set i (dsl K p []))) : Go K G H₀ L E ss (tAsg zvm (zfp i)):=fun F H σ S p hp=>by
 have e:=(Ext.refl S.ext.fh).newO (o:=.dK []) hp
 have S':=S.ext2 e
 refine h p F _ _ (S'.put S'.ext S'.fl (by simp) (fun j hj=>zbm (Zif hj)) (fun hi=>?_) (by simp [dsl,Sl.ads]) (fun j s' hj hs q hq=>?_) fun j s' hj hs=>S'.ok j s' hs)
 ·rw [za6 (by rw [S.len]; exact hi)]
  exact ⟨rfl,fun a ha=>by rw [Zg3.mp ha]; exact ⟨S.ext.hh.free hp,S.ext.fh.free hp,_,zaj,trivial⟩,⟨[],zaj,.nil⟩,zo0 K p []⟩
 ·have : q = p:=by simpa [dsl,Sl.ads] using hq
  subst this
  exact fun hin=>(S.ok j s' hs).live hin hp
theorem zec (hs : ss[i]? = some (dsl K p kvs)) (b : EvB K G H₀ L ss ty k) (hk : k.isK = true) (hv : valD kvs k = some d) : Ev K G H₀ L ss (zvt (tVar i) ty) d:=fun F H σ Q S q=>by
 obtain ⟨e,_⟩:=S.getM hs
 refine ⟨_,e,b F H σ _ S fun v F1 H1 e1 r1=>?_⟩
 obtain ⟨_,_,_,xs,hp,dk⟩:=(S.ext2 e1).getM hs
 rcases dk.val hk with ⟨h1,_⟩ | ⟨d',w,h1,h2,rw'⟩
 ·rw [h1] at hv; cases hv
 ·rw [h1] at hv; cases hv
  refine ⟨p,w,rfl,?_,q w F1 H1 e1 rw'⟩
  rw [zij hk r1,<- h2]
  exact DGet.k hp
theorem zro (hs : ss[i]? = some (dsl K p kvs)) (b : EvB K G H₀ L ss ty k) (hk : k.isK = true) : Ev K G H₀ L ss (tDIn ty (tVar i)) (.bl (valD kvs k).isSome):=fun F H σ Q S q =>
 b F H σ _ S fun v F1 H1 e1 r1=>by
  obtain ⟨e,_,_,xs,hp,dk⟩:=(S.ext2 e1).getM hs
  refine ⟨_,e,p,valV xs k.key,rfl,by rw [zij hk r1]; exact DGet.k hp,q _ F1 H1 e1 ?_⟩
  have : (valV xs k.key).isSome = (valD kvs k).isSome:=by
   rcases dk.val hk with ⟨h1,h2⟩ | ⟨d',w,h1,h2,_⟩ <;> rw [h1,h2] <;> rfl
  rw [this]; exact Rep.bl
theorem zm6 (hs : ss[i]? = some (dsl K p kvs)) (a : Ev K G H₀ L ss tv d) (b : EvB K G H₀ L ss ty k) (hk : k.isK = true) (hz : kvs.length < sizeLine) (h : Nx K G H₀ L E.nx (ss.set i (dsl K p (putD kvs k d)))) : Go K G H₀ L E ss (ycl (tVar i) ty tv):=fun F H σ S =>
 a F H σ _ S fun v F1 H1 e1 r1=>by
  have S1:=S.ext2 e1
  obtain ⟨e,_⟩:=S1.getM hs
  refine ⟨_,e,b F1 H1 σ _ S1 fun w F2 H2 e2 r2=>?_⟩
  have S2:=S1.ext2 e2
  obtain ⟨_,_,_,xs,hp,dk⟩:=S2.getM hs
  refine ⟨p,_,rfl,by rw [zij hk r2]; exact DPut.k (v:=v) hp (by rw [<- dk.length]; exact hz),h F2 _ σ (S2.writeM hs (dk.put hk (zvp hk r2) (r1.mono e2.gf)))⟩
end
end L2
namespace L2
open PySem PySem.Spec PyProof.Rows
section
variable {X : Cx}
noncomputable def ztk : V->List V->Hp->VK->Prop:=fun x vs H Q=>∃ a kvs k z,x = .ref a/\vs = [kV k,z]/\H a = some (.dK kvs)/\kvs.length < sizeLine/\(∀ v,valV kvs k = some v->Q v H)/\(valV kvs k = none->Q z (upd H a (.dK (putK kvs k z))))
theorem zm4 : MtR X "dict.setdefault" ztk:=by
 intro pins s σ H x xs v us Q I rx rs h
 obtain ⟨a,kvs,k,z,rfl,rfl,e,hl,q1,q2⟩:=h
 obtain rfl : v = Zh4 a:=rx
 obtain ⟨u1,u2,rfl,ry,rz⟩:=zk7 rs
 obtain ⟨hz,hd,vs,rel,dd⟩:=zyt I.hok e
 have hzz : vs.length <= sizeLine:=by rw [<- rel.length]; exact hz
 refine Zlk PySem.F.slot_dict_setdefault dd.typeIs PySem.F.entry_dict_setdefault (PySem.F.args_dict_setdefault_3 _ _ _) (kt_meets_setdefault (za1 X.prog X.w) a (zof ry) hd u2) ⟨vs,dd,hzz,fun v' hv=>?_,fun hn h' dd' hs=>?_⟩
 ·have r:=rel.val k
  rw [hv] at r
  cases hk : valV kvs k with
  | none=>rw [hk] at r; exact r.elim
  | some w'=>rw [hk] at r; exact ⟨w',H,I.tok _,r,q1 w' hk⟩
 ·have hk : valV kvs k = none:=by
   have r:=rel.val k
   rw [hn] at r
   cases hk : valV kvs k with
   | none=>rfl
   | some w'=>rw [hk] at r; exact r.elim
  have hl2 : (putK kvs k z).length <= sizeLine:=by have:=zhg kvs k z; lia
  have he : ∃ q,h'.get? a = some q:=let ⟨q,_,_,hq,_⟩:=dd'; ⟨q,hq⟩
  exact ⟨z,_,zo7 I (by rw [e]; exact Zor) hs he (yab hl2 hd (rel.put k rz) dd'),rz,q2 hk⟩
noncomputable def zzk (r d : Addr) : HO:=.ext fun h=>h.IsValuesView r d
noncomputable def zwk : V->List V->Hp->VK->Prop:=fun x vs H Q=>∃ d kvs,x = .ref d/\vs = []/\H d = some (.dK kvs) /\ ∀ r,H r = none->Q (.ref r) (upd H r (zzk r d))
theorem zwe : MtR X "dict.values" zwk:=by
 intro pins s σ H x xs v us Q I rx rs h
 obtain ⟨d,kvs,rfl,rfl,e,q⟩:=h
 obtain rfl : v = Zh4 d:=rx
 cases rs
 obtain ⟨hz,hd,vs,rel,dd⟩:=zyt I.hok e
 refine Zlk PySem.F.slot_dict_values dd.typeIs PySem.F.entry_dict_values (PySem.F.args_dict_values_1 _) (meets_dict_values (za1 X.prog X.w) d hd) ⟨⟨vs,dd⟩,?_⟩
 have I2 : Inv X pins σ (upd H s.heap.objs.size (zzk s.heap.objs.size d)) { s with heap:=s.heap.push { cls:=.type "dict_values", data:=.fields #[.ref d] } } :=
  I.laid (t':=s.toks) (fun _ _ q=>Zg6 _ q) (Zha _) ⟨⟨_,Zho _ rfl,rfl,rfl⟩,⟨_,Zho _ rfl⟩,fun h1 h2 ⟨o,ho,r⟩ k=>⟨o,k _ ho,r⟩⟩
 exact ⟨.ref s.heap.objs.size,_,I2,rfl,q _ I.fresh⟩
theorem KV.snds {κ : Type} [DecidableEq κ] {kvs : List (κ × V)} {vs : List (κ × Value)} (r : KV kvs vs) : Vals (kvs.map (·.2)) (vs.map (·.2)):=by
 induction r with
 | nil=>exact .nil
 | cons h t ih=>exact .cons h.2 ih
theorem zlb (hc : X.calm = true) : zcy X (.type "list") (fun xs H Q=>∃ r d kvs,xs = [.ref r]/\H r = some (zzk r d)/\H d = some (.dK kvs) /\ ∀ l,H l = none->Q (.ref l) (upd H l (.lst (kvs.map (·.2))))):=by
 intro pins s σ H xs us Q I rs h
 obtain ⟨r,d,kvs,rfl,hr,e,q⟩:=h
 obtain ⟨u,rfl,ru⟩:=zfs rs
 cases ru
 obtain ⟨hz,hd,vs,rel,dd⟩:=zyt I.hok e
 obtain ⟨ep,da⟩:=dd.dictAt
 obtain ⟨hv,_,_⟩:=I.hok r _ hr
 have hzz : vs.length <= sizeLine:=by rw [<- rel.length]; exact hz
 refine PySem.W.kdl_call (PySem.W.kdl_values (kvs:=vs) (d:=d) (r:=r) (ep:=ep)) (I.ok.hd hc) ⟨hv,da⟩ hzz fun h' tk acc c' hk hD hacc=>?_
 have hacc2 : acc.toList = vs.map (·.2):=PySem.W.kdl_vals_eq acc.toList (by rw [Zi9]; exact hacc.1) fun j v hj=>hacc.2 j v (by rw [<- Zqz]; exact hj)
 have hval : Vals (kvs.map (·.2)) acc.toList:=by rw [hacc2]; exact rel.snds
 exact ⟨.ref s.heap.objs.size,_,I.laid hk (Zha _) (show zc9 X.prog X.w _ _ _ (.lst _) from ⟨by rw [Zg2]; exact hz,acc.toList,c',hval,by simpa using hD⟩),rfl,q _ I.fresh⟩
end
end L2
namespace L2
open PySem PySem.W PySem.Spec PyProof.Rows
theorem SlOk.live2 {K : Zgy} {H₀ F H : Hp} {ov : Option V} {s : Sl} (h : SlOk K H₀ F H ov s) {p : Addr} (hp : p∈s.ads) : ∃ o,H p = some o/\NT o:=by
 cases s with
 | un=>simp [Sl.ads] at hp
 | d x=>simp [Sl.ads] at hp
 | o q xs =>
  obtain ⟨_,_,_,vs,hq,_⟩:=h
  simp [Sl.ads] at hp; subst hp; exact ⟨_,hq,trivial⟩
 | oo q qs =>
  obtain ⟨ev,h0,fp,hq,hqs⟩:=h
  rcases Zhp.mp hp with rfl | hp
  ·exact ⟨_,hq,trivial⟩
  ·obtain ⟨r,hr,rfl⟩:=Zhk.mp hp
   obtain ⟨_,_,vs,hv,_⟩:=hqs r hr
   exact ⟨_,hv,trivial⟩
 | g v as W =>
  obtain ⟨ev,ha,hw,st⟩:=h
  obtain ⟨_,_,x,ho⟩:=ha p hp
  exact ⟨x,ho⟩
noncomputable abbrev KQ:=List (D × Addr × List D)
noncomputable def dat (q : D × Addr × List D) : D × List D:=(q.1,q.2.2)
noncomputable def raw (q : D × Addr × List D) : Key × V:=(q.1.key,.ref q.2.1)
noncomputable def appD : List (D × List D)->D->D->List (D × List D)
 | [],k,d=>[(k,[d])]
 | kv::r,k,d=>if kv.1 = k then (kv.1,kv.2++[d])::r else kv::appD r k d
theorem zvv {kqs : KQ} {k : D} (hk : k.isK = true) (hks : ∀ q∈kqs,q.1.isK = true) : (valV (kqs.map raw) k.key = none /\ ∀ d,appD (kqs.map dat) k d = kqs.map dat++[(k,[d])]) \/
  ∃ j a ds,kqs[j]? = some (k,a,ds)/\valV (kqs.map raw) k.key = some (.ref a) /\ ∀ d,(kqs.set j (k,a,ds++[d])).map dat = appD (kqs.map dat) k d:=by
 induction kqs with
 | nil=>exact .inl ⟨rfl,fun _=>rfl⟩
 | cons q r ih =>
  obtain ⟨k',a',ds'⟩:=q
  by_cases e : k' = k
  ·subst e
   refine .inr ⟨0,a',ds',rfl,by simp [valV,raw],fun d=>?_⟩
   show (k',ds'++[d])::r.map dat = appD ((k',ds')::r.map dat) k' d
   rw [appD,if_pos rfl]
  ·have e2 : k'.key≠k.key:=fun z=>e (zkl (hks _ Zhl) hk z)
   have hv : valV (((k',a',ds')::r).map raw) k.key = valV (r.map raw) k.key:=by simp [valV,raw,Zij,e2]
   have ha : ∀ d,appD (((k',a',ds')::r).map dat) k d = (k',ds')::appD (r.map dat) k d:=fun d=>by
    show appD ((k',ds')::r.map dat) k d = _
    rw [appD,if_neg e]
   rw [hv]
   rcases ih fun q hq=>hks q (Zhd _ hq) with ⟨h1,h2⟩ | ⟨j,a,ds,h1,h2,h3⟩
   ·exact .inl ⟨h1,fun d=>by rw [ha,h2]; rfl⟩
   ·refine .inr ⟨j + 1,a,ds,h1,h2,fun d=>?_⟩
    rw [ha,<- h3]; rfl
noncomputable def lW (K : Zgy) (p : Addr) (kqs : KQ) : Hp->Hp->Prop:=fun F H=>H p = some (.dK (kqs.map raw)) /\ ∀ q∈kqs,q.1.isK = true/\Rep K F q.1 (kV q.1.key) /\ ∃ vs,H q.2.1 = some (.lst vs)/\Reps K F q.2.2 vs
noncomputable def dls (K : Zgy) (p : Addr) (kqs : KQ) : Sl:=.g (.ref p) (p::kqs.map (·.2.1)) (lW K p kqs)
theorem zpt (K : Zgy) (p : Addr) (kqs : KQ) : Stab (p::kqs.map (·.2.1)) (lW K p kqs):=fun F1 H1 F2 H2 sf hh ⟨h1,h2⟩ =>
 ⟨by rw [hh p (by simp)]; exact h1,fun q hq=>by
  obtain ⟨a,kr,vs,b,c⟩:=h2 q hq
  exact ⟨a,kr.mono sf,vs,by rw [hh q.2.1 (Zhd _ (Zjb hq))]; exact b,c.mono sf⟩⟩
section
variable {K : Zgy} {G H₀ L : Hp} {ss : List Sl} {i : Nat} {p : Addr} {kqs : KQ} {E : Ends} {tk tv : TE} {k d : D}
theorem Sat.getL {F H : Hp} {σ : St} (S : Sat K G H₀ L F H σ ss) (hs : ss[i]? = some (dls K p kqs)) : σ[i]? = some (some (.ref p))/\(∀ a∈p::kqs.map (·.2.1),H₀ a = none/\F a = none)/\lW K p kqs F H:=by
 obtain ⟨v,e,ew,ha,hw,st⟩:=S.get hs (by intro z; cases z)
 cases ew
 exact ⟨e,fun a h=>⟨(ha a h).1,(ha a h).2.1⟩,hw⟩
theorem zyr (h : ∀ p,Nx K G H₀ L E.nx (ss.set i (dls K p []))) : Go K G H₀ L E ss (tAsg zvm (zfp i)):=fun F H σ S p hp=>by
 have e:=(Ext.refl S.ext.fh).newO (o:=.dK []) hp
 have S':=S.ext2 e
 refine h p F _ _ (S'.put S'.ext S'.fl (by simp) (fun j hj=>zbm (Zif hj)) (fun hi=>?_) (by simp [dls,Sl.ads]) (fun j s' hj hs q hq=>?_) fun j s' hj hs=>S'.ok j s' hs)
 ·rw [za6 (by rw [S.len]; exact hi)]
  exact ⟨rfl,fun a ha=>by rw [Zg3.mp ha]; exact ⟨S.ext.hh.free hp,S.ext.fh.free hp,_,zaj,trivial⟩,⟨zaj,fun _ h=>by cases h⟩,zpt K p []⟩
 ·have : q = p:=by simpa [dls,Sl.ads] using hq
  subst this
  exact fun hin=>(S.ok j s' hs).live hin hp
theorem zyi {α : Type} {xs : List α} {i : Nat} {x : α} (h : xs[i]? = some x) : xs.set i x = xs:=by
 refine Zkg fun n=>?_
 by_cases hn : i = n
 ·subst hn; rw [Ziq (Zg7.mp h).1,h]
 ·rw [Zjk hn]
theorem Sat.appL {F H : Hp} {σ : St} (S : Sat K G H₀ L F H σ ss) {j : Nat} {a : Addr} {ds es : List D} {vs : List V} (hs : ss[i]? = some (dls K p kqs)) (hj : kqs[j]? = some (k,a,ds)) (r : Reps K F es vs) :
  Sat K G H₀ L F (upd H a (.lst vs)) σ (ss.set i (dls K p (kqs.set j (k,a,es)))):=by
 obtain ⟨e,hoff,hp,hq⟩:=S.getL hs
 have hget : σ.getD i none = some (.ref p):=by rw [Zg0,e]; rfl
 have hnd : (p::kqs.map (·.2.1)).Nodup:=S.nd i _ hs
 have hm:=Zhb hj
 have ham : a∈p::kqs.map (·.2.1):=Zhd _ (Zhk.mpr ⟨_,hm,rfl⟩)
 obtain ⟨a0,af⟩:=hoff a ham
 have hpa : p≠a:=fun z=>(Zi5.mp hnd).1 (z ▸ Zhk.mpr ⟨_,hm,rfl⟩)
 have mset : ∀ {β : Type} (f : D × Addr × List D->β),f (k,a,es) = f (k,a,ds)->(kqs.set j (k,a,es)).map f = kqs.map f:=fun {β} f hf=>by
  rw [List.map_set]
  refine Zkg fun n=>?_
  by_cases hn : j = n
  ·subst hn
   rw [Ziq (by rw [Zg2]; exact (Zg7.mp hj).1),Zg8,hj,hf]; rfl
  ·rw [Zjk hn]
 have hads : (dls K p (kqs.set j (k,a,es))).ads = p::kqs.map (·.2.1):=by show p::(kqs.set j (k,a,es)).map (·.2.1) = _; rw [mset (·.2.1) rfl]
 have hdup : ∀ n z,kqs[n]? = some z->n≠j->z.2.1≠a:=fun n z hn hnj hz=>by
  have h2 : (kqs.map (·.2.1)).Nodup:=(Zi5.mp hnd).2
  unfold Ziv at h2
  rw [Zkc] at h2
  have hnl:=(Zg7.mp hn)
  have hjl:=(Zg7.mp hj)
  have e1 : (kqs.map (·.2.1))[n]'(by simpa using hnl.1) = a:=by rw [Zk6,hnl.2]; exact hz
  have e2 : (kqs.map (·.2.1))[j]'(by simpa using hjl.1) = a:=by rw [Zk6,hjl.2]
  rcases Znp n j with c | c
  ·exact h2 n j (by simpa using hnl.1) (by simpa using hjl.1) c (e1.trans e2.symm)
  ·exact h2 j n (by simpa using hjl.1) (by simpa using hnl.1) (by lia) (e2.trans e1.symm)
 refine S.put (S.ext.write af a0) S.fl rfl (fun _ _=>rfl) (fun _=>?_) (by rw [hads]; exact hnd) (fun n s' hn h z hz=>?_) fun n s' hn h=>(S.ok n s' h).updNe (S.ne i n _ s' (Zif hn) hs h a ham)
 ·rw [hget]
  refine ⟨rfl,fun b hb=>?_,⟨by rw [zam hpa,mset raw rfl]; exact hp,fun z hz=>?_⟩,zpt _ _ _⟩
  ·have hb : b∈p::(kqs.set j (k,a,es)).map (·.2.1):=hb
   rw [mset (·.2.1) rfl] at hb
   obtain ⟨b0,bf⟩:=hoff b hb
   refine ⟨b0,bf,?_⟩
   by_cases hba : b = a
   ·subst hba; exact ⟨_,zaj,trivial⟩
   ·rw [zam hba]
    exact (S.ok i _ hs).live2 (p:=b) hb
  ·obtain ⟨n,hn⟩:=Zlv.mp hz
   by_cases hnj : j = n
   ·subst hnj
    rw [Ziq (Zg7.mp hj).1] at hn
    cases hn
    exact ⟨(hq _ hm).1,(hq _ hm).2.1,vs,zaj,r⟩
   ·rw [Zjk hnj] at hn
    obtain ⟨z1,kr,ws,z2,z3⟩:=hq z (Zhb hn)
    exact ⟨z1,kr,ws,by rw [zam (hdup n z hn (Zif hnj))]; exact z2,z3⟩
 ·have hz : z∈(dls K p (kqs.set j (k,a,es))).ads:=hz
  rw [hads] at hz
  exact S.ne i n _ s' (Zif hn) hs h z hz
theorem Sat.keyL {F H : Hp} {σ : St} (S : Sat K G H₀ L F H σ ss) {l : Addr} (hs : ss[i]? = some (dls K p kqs)) (hk : k.isK = true) (kr : Rep K F k (kV k.key)) (hl : H l = none) :
  Sat K G H₀ L F (upd (upd H l (.lst [])) p (.dK ((kqs++[(k,l,[])]).map raw))) σ (ss.set i (dls K p (kqs++[(k,l,[])]))):=by
 have S2:=S.ext2 ((Ext.refl S.ext.fh).newO (o:=.lst []) hl)
 obtain ⟨e,hoff,hp,hq⟩:=S2.getL hs
 have hget : σ.getD i none = some (.ref p):=by rw [Zg0,e]; rfl
 have hnd : (p::kqs.map (·.2.1)).Nodup:=S.nd i _ hs
 obtain ⟨p0,pf⟩:=hoff p Zhl
 have hnl : ∀ b∈p::kqs.map (·.2.1),b≠l:=fun b hb z=>(S.ok i _ hs).live (p:=b) hb (z ▸ hl)
 have hpl : p≠l:=hnl p Zhl
 have hads : (dls K p (kqs++[(k,l,[])])).ads = (p::kqs.map (·.2.1))++[l]:=by show p::Zth (fun q : D × Addr × List D=>q.2.1) (kqs++[(k,l,[])]) = _; rw [Zhj]; rfl
 refine S2.put (S2.ext.write pf p0) S2.fl rfl (fun _ _=>rfl) (fun _=>?_) ?_ (fun n s' hn h z hz=>?_) fun n s' hn h=>(S2.ok n s' h).updNe (S2.ne i n _ s' (Zif hn) hs h p Zhl)
 ·rw [hget]
  refine ⟨rfl,fun b hb=>?_,⟨zaj,fun z hz=>?_⟩,zpt _ _ _⟩
  ·have hb : b∈(dls K p (kqs++[(k,l,[])])).ads:=hb
   rw [hads] at hb
   rcases Zhe.mp hb with hb | hb
   ·obtain ⟨b0,bf⟩:=hoff b hb
    refine ⟨b0,bf,?_⟩
    by_cases hbp : b = p
    ·subst hbp; exact ⟨_,zaj,trivial⟩
    ·rw [zam hbp]
     exact (S2.ok i _ hs).live2 (p:=b) hb
   ·rw [Zg3.mp hb]
    exact ⟨S.ext.hh.free hl,S.ext.fh.free hl,HO.lst [],by rw [zam (Zif hpl)]; exact zaj,trivial⟩
  ·rcases Zhe.mp hz with hz | hz
   ·obtain ⟨z1,zr,ws,z2,z3⟩:=hq z hz
    have hzp : z.2.1≠p:=fun e=>(Zi5.mp hnd).1 (e ▸ Zjb hz)
    exact ⟨z1,zr,ws,by rw [zam hzp]; exact z2,z3⟩
   ·rw [Zg3.mp hz]
    exact ⟨hk,kr,[],by rw [zam (Zif hpl)]; exact zaj,Reps.nil⟩
 ·rw [hads]
  exact Zjs.mpr ⟨hnd,by simp,fun x hx y hy e=>by rw [Zg3.mp hy] at e; exact hnl x hx e⟩
 ·have hz : z∈(dls K p (kqs++[(k,l,[])])).ads:=hz
  rw [hads] at hz
  rcases Zhe.mp hz with hz | hz
  ·exact S.ne i n _ s' (Zif hn) hs h z hz
  ·rw [Zg3.mp hz]
   exact fun hin=>(S.ok n s' h).live hin hl
theorem ya8 (hs : ss[i]? = some (dls K p kqs)) (b : EvB K G H₀ L ss tk k) (hk : k.isK = true) (a : ∀ kqs',Ev K G H₀ L (ss.set i (dls K p kqs')) tv d) (hz : kqs.length < sizeLine) (hz2 : ∀ q∈kqs,q.2.2.length < sizeLine)
  (h : ∀ kqs',kqs'.map dat = appD (kqs.map dat) k d->Nx K G H₀ L E.nx (ss.set i (dls K p kqs'))) :
  Go K G H₀ L E ss (zuj (tBM K "list" zpd (tBM K "dict" ztk (tVar i) (za3 tk (za3 (tLst tNil) tNil))) (za3 tv tNil))):=fun F H σ S=>by
 obtain ⟨e,hoff,hp,hq⟩:=S.getL hs
 have hks : ∀ q∈kqs,q.1.isK = true:=fun q hm=>(hq q hm).1
 have hil : i < ss.length:=(Zg7.mp hs).1
 refine ⟨.ref p,e,.inr (.inr (.inl ⟨rfl,.inl ⟨_,hp⟩⟩)),b F H σ _ S fun v F1 H1 e1 r1=>⟨Zih _,fun l hl=>?_⟩⟩
 have S1:=S.ext2 e1
 have S2:=S1.ext2 ((Ext.refl S1.ext.fh).newO (o:=.lst []) hl)
 obtain ⟨_,_,hp2,hq2⟩:=S2.getL hs
 refine ⟨p,kqs.map raw,k.key,.ref l,rfl,by rw [zij hk r1],hp2,by rw [Zg2]; exact hz,fun v' hv'=>?_,fun hn=>?_⟩
 ·rcases zvv hk hks with ⟨h1,_⟩ | ⟨j,q,ds,h1,h2,h3⟩
  ·rw [h1] at hv'; cases hv'
  ·rw [h2] at hv'; cases hv'
   obtain ⟨_,_,ws,hw,_⟩:=hq2 _ (Zhb h1)
   have es : ss.set i (dls K p kqs) = ss:=zyi hs
   have S2' : Sat K G H₀ L F1 (upd H1 l (.lst [])) σ (ss.set i (dls K p kqs)):=by rw [es]; exact S2
   refine ⟨.inl ⟨rfl,_,SqL.of hw⟩,a kqs F1 _ σ _ S2' fun w F3 H3 e3 r3=>?_⟩
   have S3:=S2.ext2 e3
   obtain ⟨_,_,_,hq3⟩:=S3.getL hs
   obtain ⟨_,_,ws3,hw3,rs3⟩:=hq3 _ (Zhb h1)
   refine ⟨q,ws3,w,rfl,rfl,hw3,by rw [<- rs3.length]; exact hz2 _ (Zhb h1),h _ (h3 d) F3 _ σ (S3.appL hs h1 (rs3.snoc r3))⟩
 ·rcases zvv hk hks with ⟨h1,h2⟩ | ⟨j,q,ds,h1,h2,h3⟩
  ·have S4:=S1.keyL (k:=k) hs hk (zvp hk r1) hl
   have eput : putK (kqs.map raw) k.key (.ref l) = (kqs++[(k,l,[])]).map raw:=by rw [zy8 _ hn,Zhj]; rfl
   rw [eput]
   have hs4 : (ss.set i (dls K p (kqs++[(k,l,[])])))[i]? = some (dls K p (kqs++[(k,l,[])])):=Ziq hil
   obtain ⟨_,_,_,hq4⟩:=S4.getL hs4
   have hj : (kqs++[(k,l,([] : List D))])[kqs.length]? = some (k,l,[]):=by rw [Zil (Zha _),Zu3]; rfl
   obtain ⟨_,_,ws,hw,_⟩:=hq4 _ (Zhb hj)
   refine ⟨.inl ⟨rfl,_,SqL.of hw⟩,a _ F1 _ σ _ S4 fun w F3 H3 e3 r3=>?_⟩
   have S5:=S4.ext2 e3
   obtain ⟨_,_,_,hq5⟩:=S5.getL hs4
   obtain ⟨_,_,ws5,hw5,rs5⟩:=hq5 _ (Zhb hj)
   have S6:=S5.appL hs4 hj (rs5.snoc r3)
   rw [Zt8] at S6
   refine ⟨l,ws5,w,rfl,rfl,hw5,by rw [<- rs5.length]; show 0 < _; rw [Zhm]; decide,h _ ?_ F3 _ σ S6⟩
   rw [h2,List.set_append_right _ _ (Zha _),Zu3,Zhj]
   rfl
  ·rw [h2] at hn; cases hn
end
end L2
namespace L2
open PySem PySem.Spec PyProof.Rows
noncomputable def Ite (K : Zgy) (a : Addr) : It :=
 ⟨fun i H=>∃ xs x,SqL K H a xs/\xs[i]? = some x,fun i H x H'=>∃ T0 vs,x = .ref T0/\H T0 = none/\H' = upd H T0 (.tup vs) /\ ∀ xs,SqL K H a xs -> ∃ y,xs[i]? = some y/\vs = [.int i,y],fun i H=>∃ xs,SqL K H a xs/\xs.length = i⟩
theorem zsl {P : Zhz} {w : Zix} {K : Zgy} {elts : List Expr} {kk : Nat} {tp : Pos} (a it e : Addr) (hae : a≠e) (hai : a≠it) (hei : e≠it) :
  Turn P w K (.Tuple elts kk tp) (Ite K a) [e,it] e (fun i h=>(∃ old,IsEnum h e it i old)/\h.IsListIter it a i) where
 mem:=by simp
 obj:=fun i h st b hb=>by
  obtain ⟨⟨old,ho⟩,oi,hoi,_,hdi⟩:=st
  rcases Zhp.mp hb with rfl | hb
  ·exact ⟨_,ho,fun v z=>by cases z⟩
  ·rw [Zg3.mp hb]
   exact ⟨oi,hoi,fun v z=>by rw [hdi] at z; cases z⟩
 keep:=fun i h h' st k=>⟨let ⟨old,ho⟩:=st.1; ⟨old,k e (by simp) _ ho⟩,st.2.at fun o x=>k it (by simp) o x⟩
 item:=by
  intro X hP hw hK hc i pins s σ H E I hf st hg
  subst hP hw hK
  obtain ⟨xs,x,hq,hx⟩:=hg
  obtain ⟨its,rv,p,hz⟩:=I.list hq
  obtain ⟨u,hu,ru⟩:=rv.get hx
  have hil : i < its.length:=(Zg7.mp hu).1
  have W0:=Zre (A:=X.A) (Zu8 (prog:=X.prog) (w:=X.w) (A:=X.A.in1) (show X.A.in1.handled = none from I.ok.hd hc) it a hai its.toArray) e hei (by simp [hei,Zif hae]) (by simp)
  refine W0.item i s _ _ (by simpa using hil) ⟨st.1,st.2,p.isList⟩ fun T0 vals h1 tk hp hle ht mid kk=>?_
  obtain ⟨t,v,hv,rfl⟩:=hp
  have hv : its[i]? = some v:=by simpa using hv
  rw [hu] at hv; cases hv
  have fresh : H T0 = none:=I.hok.fresh hle
  have I1 : Inv X pins σ (upd H T0 (.tup [.int i,x])) { s with heap:=h1,toks:=tk }:=I.turnsT (wr:=[e,it]) hf kk hle ht (.cons ⟨t,rfl⟩ (.cons ru .nil)) (by rw [Zhm]; simp)
  refine ⟨.ref T0,rfl,W0.go elts _ tp i T0 _ _ _ mid fun h2 st2 k2=>?_⟩
  have hlt : ∀ b∈[e,it],b≠T0:=fun b hb z=>by
   obtain ⟨⟨old,ho⟩,oi,hoi,_,hdi⟩:=st
   rcases Zhp.mp hb with rfl | hb
   ·exact absurd (Zhn (Zhf ho) (z ▸ hle)) (Zh6 _)
   ·rw [Zg3.mp hb] at z
    exact absurd (Zhn (Zhf hoi) (z ▸ hle)) (Zh6 _)
  have hf1 : ∀ b∈[e,it],FpOk X pins (upd H T0 (.tup [.int i,x])) b:=fun b hb=>⟨by rw [zam (hlt b hb)]; exact (hf b hb).1,(hf b hb).2⟩
  exact ⟨.ref T0,_,I1.turns (t':=tk) hf1 k2,rfl,⟨T0,_,rfl,fresh,rfl,fun ys hy=>⟨x,by rw [I.list_inj hy hq]; exact hx,rfl⟩⟩,⟨st2.1,st2.2.1⟩,fun b hb=>by rw [zam (hlt b hb)]; exact (hf b hb).1⟩
 done:=by
  intro X hP hw hK hc i pins s σ H E I hf st hg
  subst hP hw hK
  obtain ⟨xs,hq,hx⟩:=hg
  obtain ⟨its,rv,p,hz⟩:=I.list hq
  have hl:=rv.length
  have hs : its.toArray.size = i:=by simp; lia
  have W0:=Zre (A:=X.A) (Zu8 (prog:=X.prog) (w:=X.w) (A:=X.A.in1) (show X.A.in1.handled = none from I.ok.hd hc) it a hai its.toArray) e hei (by simp [hei,Zif hae]) (by simp)
  rw [hs] at W0
  exact W0.done s _ _ ⟨st.1,st.2,p.isList⟩ fun h1 tk kk=>⟨rfl,I.turns (wr:=[e,it]) hf kk⟩
 self:=fun A i s Q E st h=>Ztl st.1.choose_spec h
section
variable {X : Cx} {e : Expr} {ta : TA} {elts : List Expr} {kk : Nat} {tp p pos : Pos}
noncomputable def iEnL (K : Zgy) (ta : TA) : TI:=fun σ H R=>ta σ H fun vs H1=>∃ a,vs = [.ref a]/\(∃ xs,SqL K H1 a xs)/\R (Ite K a) H1
theorem zf9 (hg : Gl X "enumerate") (hm : X.mg "enumerate" = none) (hA : PA X [e] ta) (hs : Zic [e] X.env = [(false,eval e X.env)]:=by rfl) :
  PI X (.Tuple elts kk tp) (.Call (.Name "enumerate" p) [e] [] pos) (iEnL X.K ta):=by
 intro pins s σ H R I h
 refine Call_ (zg7 I hg hm boot_enumerate (Zja (thn (hA pos pins s σ H _ I h) fun us s1 hz9=>?_) hs rfl))
 obtain ⟨vs,H1,I1,r1,q1⟩:=hz9
 obtain ⟨a,rfl,⟨xs,hq⟩,q⟩:=q1
 obtain ⟨u,rfl,ru⟩:=zfs r1
 cases ru
 obtain ⟨its,rv,p,hz⟩:=I1.list hq
 refine call_enumerate_list p.isList fun h1 hen hit hsz hk=>?_
 have I2 : Inv X pins σ H1 { s1 with heap:=h1 }:=I1.kept (t':=s1.toks) hk
 refine Ztl hen ?_
 have hlt : a < s1.heap.objs.size:=by obtain ⟨o,ho,_⟩:=p.isList; exact Zhf ho
 refine ⟨s1.heap.objs.size + 1,[s1.heap.objs.size + 1,s1.heap.objs.size],_,_,H1,rfl,I2,zsl a s1.heap.objs.size (s1.heap.objs.size + 1) (Zht (Zow hlt)) (Zht hlt) (Nat.succ_ne_self _),⟨⟨_,hen⟩,hit⟩,fun b hb=>?_,q⟩
 rcases Zhp.mp hb with rfl | hb
 ·exact I1.fpOk (Zmp _) (I1.hok.fresh (Zmp _))
 ·rw [Zg3.mp hb]
  exact I1.fpOk (Zha _) (I1.hok.fresh (Zha _))
noncomputable def zgf (K : Zgy) : V->List V->Hp->VK->Prop:=fun x vs H Q=>∃ (a : Addr) (ns : List Int) (k : Int),x = .ref a/\vs = [.int k]/\SqL K H a (ns.map .int)/\k∈ns/\Q (.int (ns.idxOf k : Nat)) H
theorem zqg : ∀ {ns : List Int} {its : List Value},Vals (ns.map V.int) its->Zqx its ns
 | [],_,h=>by cases h; exact .nil
 | n::ns,_,h=>by
  cases h with
  | cons a b =>
   obtain ⟨t,rfl⟩:=a
   exact .cons n t (zqg b)
theorem zh5 : MtR X "list.index" (zgf X.K):=by
 intro pins s σ H x xs v us Q I rx rs h
 obtain ⟨a,ns,k,rfl,rfl,hq,hk,q⟩:=h
 cases rx
 obtain ⟨u,rfl,ru⟩:=zfs rs
 obtain ⟨t,rfl⟩:=ru
 obtain ⟨its,rv,⟨o,n,ho,hc,hd,hdd⟩,hz⟩:=I.list hq
 obtain ⟨cls,dd,data,sl⟩:=o
 simp only at hc hd hdd
 subst hc hd hdd
 have hi:=zqg rv
 have hlen:=hi.length
 have hj : ns.idxOf k < ns.length:=Ziz.mpr hk
 rw [Zg2] at hz
 have hz2 : ns.length <= 16777216:=by rw [<- Zhm]; exact hz
 refine Zrd PySem.F.slot_list_index ⟨_,ho,rfl⟩ PySem.F.entry_list_index (PySem.F.args_list_index_2 _ _)
  (Zvk a its.toArray n _ sl (.int k t) (isInt k) (ns.idxOf k) (by simpa [hlen] using hj) (by lia) ?_ ?_) ⟨ho,fun y hy=>(eq_isInt k t hi y (by simpa using hy)).at _ _,⟨.int (ns.idxOf k : Nat),H,I.tok _,⟨_,rfl⟩,q⟩⟩
 ·show isInt k its[ns.idxOf k] = true
  rw [isInt_at k hi _ (by lia) hj]
  simpa using Zi4 hj
 ·intro j hjs hlt
  show isInt k its[j] = false
  rw [isInt_at k hi j (by simpa using hjs) (by lia)]
  exact ne_of_lt_idxOf hlt _
end
end L2
namespace L2
open PySem PySem.W PySem.Spec PyProof.Rows
section
variable {K : Zgy} {G H₀ L : Hp} {ss : List Sl} {i : Nat} {p : Addr} {kqs : KQ} {kvs : DD} {E : Ends} {tk tv : TE} {k d : D}
noncomputable def frzL (q : D × Addr × List D) : D × D:=(q.1,.lst q.2.2)
theorem Sat.freezeL {F H : Hp} {σ : St} (S : Sat K G H₀ L F H σ ss) (hs : ss[i]? = some (dls K p kqs)) : ∃ F',Sat K G H₀ L F' H σ (ss.set i (dsl K p (kqs.map frzL))):=by
 obtain ⟨e,hoff,hp,hq⟩:=S.getL hs
 have hget : σ.getD i none = some (.ref p):=by rw [Zg0,e]; rfl
 have hnd : (p::kqs.map (·.2.1)).Nodup:=S.nd i _ hs
 have off : ∀ b,b∈kqs.map (·.2.1)->H₀ b = none/\F b = none:=fun b hb=>hoff b (Zhd _ hb)
 let F' : Hp:=fun b=>if b∈kqs.map (·.2.1) then H b else F b
 have fin : ∀ b,b∈kqs.map (·.2.1)->F' b = H b:=fun b hb=>if_pos hb
 have fout : ∀ b,b ∉ kqs.map (·.2.1)->F' b = F b:=fun b hb=>if_neg hb
 have ff : Same F F':=fun b o h=>by
  have : b ∉ kqs.map (·.2.1):=fun hb=>by rw [(off b hb).2] at h; cases h
  rw [fout b this]; exact h
 have fh : Same F' H:=fun b o h=>by
  by_cases hb : b∈kqs.map (·.2.1)
  ·rw [fin b hb] at h; exact h
  ·rw [fout b hb] at h; exact S.ext.fh b o h
 have ex : Ext G H₀ F' H:=⟨S.ext.gf.trans ff,fh,S.ext.hh,fun b o h n=>by
  have : b ∉ kqs.map (·.2.1):=fun hb=>by rw [(off b hb).1] at h; cases h
  rw [fout b this]; exact S.ext.no b o h n⟩
 obtain ⟨p0,pf⟩:=hoff p Zhl
 refine ⟨F',S.put ex (S.fl.trans ff) rfl (fun _ _=>rfl) (fun _=>?_) (by simp [dsl,Sl.ads]) (fun j s' hj h q hq=>?_) fun j s' hj h=>?_⟩
 ·rw [hget]
  refine ⟨rfl,fun a ha=>by rw [Zg3.mp ha]; exact ⟨p0,by rw [fout p (Zi5.mp hnd).1]; exact pf,_,hp,trivial⟩,⟨_,hp,?_⟩,zo0 _ _ _⟩
  have key : ∀ zs : KQ,(∀ z∈zs,z∈kqs)->Dks K F' (zs.map frzL) (zs.map raw):=by
   intro zs
   induction zs with
   | nil=>intro _; exact .nil
   | cons z zs ih =>
    intro hz
    obtain ⟨z1,kr,vs,hv,r⟩:=hq z (hz z Zhl)
    exact .cons z1 (kr.mono ff) (Rep.lst (SqL.of ((fin z.2.1 (Zhk.mpr ⟨z,hz z Zhl,rfl⟩)).trans hv)) (r.mono ff)) (ih fun y hy=>hz y (Zhd _ hy))
  exact key kqs fun z h=>h
 ·have : q = p:=by simpa [dsl,Sl.ads] using hq
  subst this
  exact S.ne i j _ s' (Zif hj) hs h q Zhl
 ·have dis : ∀ b∈s'.ads,b ∉ kqs.map (·.2.1):=fun b hb hb2=>S.ne i j _ s' (Zif hj) hs h b (Zhd _ hb2) hb
  have own : ∀ {b : Addr} {xs : List D},b∈s'.ads->OwnL K H₀ F H b xs->OwnL K H₀ F' H b xs:=fun hb ⟨a1,a2,vs,a3,a4⟩=>⟨a1,by rw [fout _ (dis _ hb)]; exact a2,vs,a3,a4.mono ff⟩
  have ok:=S.ok j s' h
  cases s' with
  | un=>trivial
  | d x=>obtain ⟨v,ev,r⟩:=ok; exact ⟨v,ev,r.mono ff⟩
  | o b xs=>exact ⟨ok.1,own (by simp [Sl.ads]) ok.2⟩
  | oo b zs =>
   obtain ⟨a1,a2,a3,a4,a5⟩:=ok
   exact ⟨a1,a2,by rw [fout b (dis b (by simp [Sl.ads]))]; exact a3,a4,fun z hz=>own (by simp [Sl.ads]; exact .inr ⟨_,hz⟩) (a5 z hz)⟩
  | g v as W =>
   obtain ⟨a1,a2,a3,a4⟩:=ok
   refine ⟨a1,fun b hb=>?_,a4 _ _ _ _ ff (fun _ _=>rfl) a3,a4⟩
   obtain ⟨b1,b2,b3⟩:=a2 b hb
   exact ⟨b1,by rw [fout b (dis b hb)]; exact b2,b3⟩
theorem zsx {N : St->Hp->Prop} (hs : ss[i]? = some (dls K p kqs)) (h : Nx K G H₀ L N (ss.set i (dsl K p (kqs.map frzL)))) : Nx K G H₀ L N ss:=fun F H σ S=>by
 obtain ⟨F',S'⟩:=S.freezeL hs
 exact h F' H σ S'
theorem Dks.snds {F : Hp} {xs : List (Key × V)} (h : Dks K F kvs xs) : Reps K F (kvs.map (·.2)) (xs.map (·.2)):=by
 induction h with
 | nil=>exact Reps.nil
 | cons hk hr r t ih=>exact Reps.cons r ih
noncomputable def zol : List V->Hp->VK->Prop:=fun xs H Q=>∃ r d kvs,xs = [.ref r]/\H r = some (zzk r d)/\H d = some (.dK kvs) /\ ∀ l,H l = none->Q (.ref l) (upd H l (.lst (kvs.map (·.2))))
theorem zx5 (hs : ss[i]? = some (dsl K p kvs)) : EvO K G H₀ L ss (tCB zol (za3 (tBM0 K "dict" zwk (tVar i)) tNil)) (kvs.map (·.2)):=fun F H σ Q S q=>by
 obtain ⟨e,h0,fp,xs,hp,dk⟩:=S.getM hs
 refine ⟨.ref p,e,.inr (.inr (.inl ⟨rfl,.inl ⟨_,hp⟩⟩)),p,xs,rfl,rfl,hp,fun r hr=>?_⟩
 have hpr : p≠r:=fun z=>by rw [z,hr] at hp; cases hp
 refine ⟨r,p,xs,rfl,zaj,by rw [zam hpr]; exact hp,fun l hl=>?_⟩
 have hlr : l≠r:=fun z=>by rw [z,zaj] at hl; cases hl
 have hl0 : H l = none:=by rw [zam hlr] at hl; exact hl
 exact q l _ F _ ((Ext.newO ((Ext.refl S.ext.fh).newO hr) hl)) hl0 (S.ext.fh.free hl0) zaj dk.snds
noncomputable def zq1 : List V->Hp->VK->Prop:=fun xs H Q=>∃ r a b c n,xs = [.ref r]/\H r = some (RngO r a b c)/\Zpe a b c = true/\Zkz a b c = ((n : Nat) : Int)/\n <= 1048576 /\ ∀ l,H l = none->Q (.ref l) (upd H l (.lst ((Zg4 n).map fun (i : Nat)=>.int (a + (i : Int) * c))))
theorem zm8 {ta : TE} {n : Nat} (a : EvB K G H₀ L ss ta (.int n)) (hn : n <= 1048576) : EvO K G H₀ L ss (tCB zq1 (za3 (ye8 (za3 ta tNil)) tNil)) ((Zg4 n).map fun j : Nat=>.int j):=fun F H σ Q S q =>
 a F H σ _ S fun v F1 H1 e1 r1=>by
  rw [r1.of_int]
  refine ⟨n,rfl,fun r hr=>⟨r,0,n,1,n,rfl,zaj,?_,?_,hn,fun l hl=>?_⟩⟩
  ·exact small_one (by decide) (by decide) (by lia) (by lia)
  ·unfold Zkz
   rw [if_pos (by decide)]
   split <;> lia
  ·have hlr : l≠r:=fun z=>by rw [z,zaj] at hl; cases hl
   have hl0 : H1 l = none:=by rw [zam hlr] at hl; exact hl
   refine q l _ F1 _ ((e1.newO hr).newO hl) (e1.hh.free hl0) (e1.fh.free hl0) zaj ?_
   have e : ((Zg4 n).map fun i : Nat=>V.int ((0 : Int) + (i : Int) * 1)) = (Zg4 n).map fun i : Nat=>V.int (i : Int):=Zia fun i _=>by rw [Zvm,Zo2]
   rw [e]
   have:=Reps.ints (K:=K) (H:=F1) (p:=l) ((Zg4 n).map fun i : Nat=>(i : Int))
   rw [Zh5,Zh5] at this
   exact this
theorem zox {tl : TE} {g : TG} {tb : TS} {α : Type} (enc : α->D) (xs : List α) (I : Nat->List Sl->Prop) (a : Ev K G H₀ L ss tl (.lst (xs.map enc))) (h0 : I 0 ss)
  (hs : ∀ L' k x ss,Same L L'->xs[k]? = some x->I k ss -> ∃ ss',Tg K G H₀ L' g (.tup [.int k,enc x]) ss ss' /\ ∀ N,(∀ ss,I (k + 1) ss->Nx K G H₀ L' N ss)->Go K G H₀ L' { E with nx:=N,ct:=N,bk:=E.nx } ss' tb)
  (hd : ∀ ss,I xs.length ss->Nx K G H₀ L E.nx ss) : Go K G H₀ L E ss (tFor (iEnL K (za3 tl tNil)) g tb):=fun F H σ S =>
 a F H σ _ S fun v F1 H1 e1 r1=>by
  obtain ⟨p,vs,rfl,sq,rs⟩:=r1.of_lst
  refine ⟨p,rfl,⟨vs,SqL.same e1.fh sq⟩,?_⟩
  refine ⟨fun i m σ' H'=>m = xs.length - i/\i <= xs.length/\At K G H₀ F1 (I i) σ' H',⟨_,rfl,Zih _,ss,F1,(S.ext2 e1).raise,h0⟩,?_⟩
  rintro i m σ' H' ⟨rfl,hi,ss1,F2,S2,h2⟩
  have rp : Rep K F2 (.lst (xs.map enc)) (.ref p):=r1.mono S2.fl
  obtain ⟨ws,sq2,rs2⟩:=rp.itl S2.ext.fh
  have hlen : ws.length = xs.length:=by rw [<- rs2.length,Zg2]
  by_cases hlt : i < xs.length
  ·refine .inr ⟨⟨ws,ws[i]'(by lia),sq2,Zg1 _⟩,fun σ'' H''=>At K G H₀ F1 (I (i + 1)) σ'' H'',fun σ'' H'' h=>⟨xs.length - (i + 1),by lia,rfl,hlt,h⟩,fun x H'' y=>?_⟩
   obtain ⟨T0,us,rfl,hf,rfl,y⟩:=y
   obtain ⟨w,hx,rfl⟩:=y ws sq2
   obtain ⟨dx,hdx,rx⟩:=rs2.get hx
   rw [Zg8,Zg1 hlt] at hdx
   cases hdx
   obtain ⟨ss',tg,go⟩:=hs F1 i _ ss1 (S.fl.trans e1.gf) (Zg1 hlt) h2
   have e3 : Ext F2 H' (upd F2 T0 (.tup [.int i,w])) (upd H' T0 (.tup [.int i,w])):=(Ext.refl S2.ext.fh).newF hf
   have rt : Rep K (upd F2 T0 (.tup [.int i,w])) (.tup [.int i,enc xs[i]]) (.ref T0):=Rep.tupN (zaj) (Reps.cons Rep.int (Reps.cons (rx.mono e3.gf) Reps.nil))
   exact tg _ _ σ' _ _ (S2.ext2 e3) rt fun σ3 S3=>go _ (fun ss h=>zsf h) _ _ σ3 S3
  ·have e : i = xs.length:=by lia
   subst e
   exact .inl ⟨⟨ws,sq2,hlen⟩,hd ss1 h2 F2 H' σ' (S2.lower (S.fl.trans e1.gf))⟩
theorem zfv {F : Hp} : ∀ {ns : List Int} {vs : List V},Reps K F (ns.map D.int) vs->vs = ns.map V.int
 | [],vs,r=>by rw [Zla,Reps] at r; exact r
 | n::ns,vs,r=>by
  rw [Zhi,Reps] at r
  obtain ⟨x,r',rfl,r1,r2⟩:=r
  rw [r1.of_int,zfv r2]; rfl
theorem zxx {ta tb : TE} {ns : List Int} {k : Int} (a : EvL K G H₀ L ss ta (ns.map D.int)) (b : EvB K G H₀ L ss tb (.int k)) (hk : k∈ns) : Ev K G H₀ L ss (tBM K "list" (zgf K) ta (za3 tb tNil)) (.int (ns.idxOf k : Nat)):=fun F H σ Q S q =>
 a F H σ _ S fun p vs F1 H1 e1 sq r=>⟨.inl ⟨rfl,_,sq⟩,b F1 H1 σ _ (S.ext2 e1) fun v F2 H2 e2 r2=>by
  rw [r2.of_int]
  have hv : vs = ns.map V.int:=by
   exact zfv r
  subst hv
  exact ⟨p,ns,k,rfl,rfl,SqL.same e2.hh sq,hk,q _ _ _ (e1.trans e2) Rep.int⟩⟩
end
end L2
namespace L2
open PySem PySem.Spec PyProof.Rows
noncomputable def Itz (K : Zgy) (a b : Addr) : It :=
  ⟨fun i H=>∃ xs ys x y,SqL K H a xs/\SqL K H b ys/\xs[i]? = some x/\ys[i]? = some y,
   fun i H x H'=>∃ T0 vs,x = .ref T0/\H T0 = none/\H' = upd H T0 (.tup vs) /\ ∀ xs ys,SqL K H a xs->SqL K H b ys -> ∃ u v,xs[i]? = some u/\ys[i]? = some v/\vs = [u,v],
   fun i H=>∃ xs ys,SqL K H a xs/\SqL K H b ys/\min xs.length ys.length = i⟩
theorem zy0 {P : Zhz} {w : Zix} {K : Zgy} {elts : List Expr} {kk : Nat} {tp : Pos} (z TI TO i1 i2 a b : Addr) (D0 : ZipApart z TI TO i1 i2 a b) :
  Turn P w K (.Tuple elts kk tp) (Itz K a b) [z,TI,TO,i1,i2] z (fun i h=>IsZip h z TI TO .none/\IsPair h TI (.ref i1) (.ref i2)/\(∃ c d,IsPair h TO c d)/\h.IsListIter i1 a i/\h.IsListIter i2 b i) where
 mem:=by simp
 obj:=fun i h st c hc=>by
  obtain ⟨s1,s2,⟨c1,d1,s3⟩,⟨o4,s4,_,e4⟩,⟨o5,s5,_,e5⟩⟩:=st
  simp only [Zhp,Zj8,or_false] at hc
  rcases hc with rfl | rfl | rfl | rfl | rfl
  ·exact ⟨_,s1,fun v q=>by cases q⟩
  ·exact ⟨_,s2,fun v q=>by cases q⟩
  ·exact ⟨_,s3,fun v q=>by cases q⟩
  ·exact ⟨o4,s4,fun v q=>by rw [e4] at q; cases q⟩
  ·exact ⟨o5,s5,fun v q=>by rw [e5] at q; cases q⟩
 keep:=fun i h h' st k=>by
  obtain ⟨s1,s2,⟨c1,d1,s3⟩,s4,s5⟩:=st
  exact ⟨k z (by simp) _ s1,k TI (by simp) _ s2,⟨c1,d1,k TO (by simp) _ s3⟩,s4.at fun o x=>k i1 (by simp) o x,s5.at fun o x=>k i2 (by simp) o x⟩
 item:=by
  intro X hP hw hK hc i pins s σ H E I hf st hg
  subst hP hw hK
  obtain ⟨xs,ys,x,y,hq,hr,hx,hy⟩:=hg
  obtain ⟨its,rv,p,hz⟩:=I.list hq
  obtain ⟨jts,rv2,p2,hz2⟩:=I.list hr
  obtain ⟨u,hu,ru⟩:=rv.get hx
  obtain ⟨u2,hu2,ru2⟩:=rv2.get hy
  have hil : i < its.length:=(Zg7.mp hu).1
  have hil2 : i < jts.length:=(Zg7.mp hu2).1
  have W0:=Ztb (prog:=X.prog) (w:=X.w) (A:=X.A) (show X.A.handled = none from I.ok.hd hc) z TI TO i1 i2 a b D0 its.toArray jts.toArray
  obtain ⟨s1,s2,s3,s4,s5⟩:=st
  refine W0.item i s _ _ (by simp; lia) ⟨s1,s2,s3,s4,s5,p.isList,p2.isList⟩ fun T0 vals h1 tk hp hle ht mid kk=>?_
  obtain ⟨v,v2,hv,hv2,rfl⟩:=hp
  have hv : its[i]? = some v:=by simpa using hv
  have hv2 : jts[i]? = some v2:=by simpa using hv2
  rw [hu] at hv; cases hv
  rw [hu2] at hv2; cases hv2
  have fresh : H T0 = none:=I.hok.fresh hle
  have hfw : ∀ c∈[z,TO,i1,i2],FpOk X pins H c:=fun c hc=>hf c (by simp only [Zhp,Zj8,or_false] at hc ⊢; rcases hc with h | h | h | h <;> simp [h])
  have I1 : Inv X pins σ (upd H T0 (.tup [x,y])) { s with heap:=h1,toks:=tk }:=I.turnsT (wr:=[z,TO,i1,i2]) hfw kk hle ht (.cons ru (.cons ru2 .nil)) (by rw [Zhm]; simp)
  refine ⟨.ref T0,rfl,W0.go elts _ tp i T0 _ _ _ mid fun h2 st2 k2=>?_⟩
  have hlt : ∀ c∈[z,TI,TO,i1,i2],c≠T0:=fun c hc q=>by
   have old : ∃ o,s.heap.get? c = some o:=by
    obtain ⟨c1,d1,s3⟩:=s3
    obtain ⟨o4,s4,_⟩:=s4
    obtain ⟨o5,s5,_⟩:=s5
    simp only [Zhp,Zj8,or_false] at hc
    rcases hc with rfl | rfl | rfl | rfl | rfl
    ·exact ⟨_,s1⟩
    ·exact ⟨_,s2⟩
    ·exact ⟨_,s3⟩
    ·exact ⟨_,s4⟩
    ·exact ⟨_,s5⟩
   obtain ⟨o,ho⟩:=old
   exact absurd (Zhn (Zhf ho) (q ▸ hle)) (Zh6 _)
  have hf1 : ∀ c∈[z,TO,i1,i2],FpOk X pins (upd H T0 (.tup [x,y])) c:=fun c hc=>⟨by rw [zam (hlt c (by simp only [Zhp,Zj8,or_false] at hc ⊢; rcases hc with h | h | h | h <;> simp [h]))]; exact (hfw c hc).1,(hfw c hc).2⟩
  exact ⟨.ref T0,_,I1.turns (t':=tk) hf1 k2,rfl,⟨T0,_,rfl,fresh,rfl,fun ys1 ys2 g1 g2=>⟨x,y,by rw [I.list_inj g1 hq]; exact hx,by rw [I.list_inj g2 hr]; exact hy,rfl⟩⟩,⟨st2.1,st2.2.1,st2.2.2.1,st2.2.2.2.1,st2.2.2.2.2.1⟩,fun c hc=>by rw [zam (hlt c hc)]; exact (hf c hc).1⟩
 done:=by
  intro X hP hw hK hc i pins s σ H E I hf st hg
  subst hP hw hK
  obtain ⟨xs,ys,hq,hr,hx⟩:=hg
  obtain ⟨its,rv,p,hz⟩:=I.list hq
  obtain ⟨jts,rv2,p2,hz2⟩:=I.list hr
  have hl:=rv.length
  have hl2:=rv2.length
  have W0:=Ztb (prog:=X.prog) (w:=X.w) (A:=X.A) (show X.A.handled = none from I.ok.hd hc) z TI TO i1 i2 a b D0 its.toArray jts.toArray
  have hs : min its.toArray.size jts.toArray.size = i:=by simp; lia
  rw [hs] at W0
  obtain ⟨s1,s2,s3,s4,s5⟩:=st
  have hfw : ∀ c∈[z,TO,i1,i2],FpOk X pins H c:=fun c hc=>hf c (by simp only [Zhp,Zj8,or_false] at hc ⊢; rcases hc with h | h | h | h <;> simp [h])
  exact W0.done s _ _ ⟨s1,s2,s3,s4,s5,p.isList,p2.isList⟩ fun h1 tk kk=>⟨rfl,I.turns (wr:=[z,TO,i1,i2]) hfw kk⟩
 self:=fun A i s Q E st h=>Zui st.1 h
section
variable {X : Cx} {e : Expr} {ta : TA} {elts : List Expr} {kk : Nat} {tp p pos : Pos}
noncomputable def iZip (K : Zgy) (ta : TA) : TI:=fun σ H R=>ta σ H fun vs H1=>∃ a b,vs = [.ref a,.ref b]/\(∃ xs,SqL K H1 a xs)/\(∃ ys,SqL K H1 b ys)/\R (Itz K a b) H1
theorem zj8 {e2 : Expr} (hg : Gl X "zip") (hm : X.mg "zip" = none) (hA : PA X [e,e2] ta) (hs : Zic [e,e2] X.env = (false,eval e X.env)::Zic [e2] X.env:=by rfl) (hp : (Zmf pos (Zic [e2] X.env)).any (·.1) = false:=by rfl) :
  PI X (.Tuple elts kk tp) (.Call (.Name "zip" p) [e,e2] [] pos) (iZip X.K ta):=by
 intro pins s σ H R I h
 refine Call_ (zg7 I hg hm Zsm (Zja (thn (hA pos pins s σ H _ I h) fun us s1 hz9=>?_) hs hp))
 obtain ⟨vs,H1,I1,r1,q1⟩:=hz9
 obtain ⟨a,b,rfl,⟨xs,hq⟩,⟨ys,hr⟩,q⟩:=q1
 obtain ⟨u,u2,rfl,ru,ru2⟩:=zk7 r1
 cases ru
 cases ru2
 obtain ⟨its,rv,p,hz⟩:=I1.list hq
 obtain ⟨jts,rv2,p2,hz2⟩:=I1.list hr
 refine call_zip_2 p.isList p2.isList fun h1 hzp hTI hTO hi1 hi2 hsz hk=>?_
 have I2 : Inv X pins σ H1 { s1 with heap:=h1 }:=I1.kept (t':=s1.toks) hk
 refine Zui hzp ?_
 have hlt : a < s1.heap.objs.size:=by obtain ⟨o,ho,_⟩:=p.isList; exact Zhf ho
 have hlt2 : b < s1.heap.objs.size:=by obtain ⟨o,ho,_⟩:=p2.isList; exact Zhf ho
 have ap:=zipApart_new hlt hlt2
 refine ⟨s1.heap.objs.size + 4,[s1.heap.objs.size + 4,s1.heap.objs.size + 2,s1.heap.objs.size + 3,s1.heap.objs.size,s1.heap.objs.size + 1],_,_,H1,rfl,I2,zy0 _ _ _ _ _ a b ap,⟨hzp,hTI,⟨_,_,hTO⟩,hi1,hi2⟩,fun c hc=>?_,q⟩
 have hcs : s1.heap.objs.size <= c:=by
  simp only [Zhp,Zj8,or_false] at hc
  rcases hc with rfl | rfl | rfl | rfl | rfl <;> first | exact Zha _ | exact Nat.le_add_right _ _
 exact I1.fpOk hcs (I1.hok.fresh hcs)
end
open AutoSeq1 (wpAny_loadPart')
end L2
namespace L2
open PySem PySem.Spec PyProof.Rows PySem.Builtin PySem.Builtin.Str
section
variable {K : Zgy} {G H₀ L : Hp} {ss : List Sl} {ta tb tc t t1 t2 te : TE} {ds : List D} {E : Ends}
theorem yd2 {tl tm : TE} {g : TG} {tb : TS} {α β : Type} (enc : α->D) (enc2 : β->D) (xs : List α) (ys : List β) (I : Nat->List Sl->Prop) (a : Ev K G H₀ L ss tl (.lst (xs.map enc))) (b : Ev K G H₀ L ss tm (.lst (ys.map enc2))) (hxy : xs.length = ys.length) (h0 : I 0 ss)
  (hs : ∀ L' k x y ss,Same L L'->xs[k]? = some x->ys[k]? = some y->I k ss -> ∃ ss',Tg K G H₀ L' g (.tup [enc x,enc2 y]) ss ss' /\ ∀ N,(∀ ss,I (k + 1) ss->Nx K G H₀ L' N ss)->Go K G H₀ L' { E with nx:=N,ct:=N,bk:=E.nx } ss' tb)
  (hd : ∀ ss,I xs.length ss->Nx K G H₀ L E.nx ss) : Go K G H₀ L E ss (tFor (iZip K (za3 tl (za3 tm tNil))) g tb):=fun F H σ S =>
 a F H σ _ S fun v F0 H0 e0 r0=>b F0 H0 σ _ (S.ext2 e0) fun v2 F1 H1 e1 r2=>by
  have r1:=r0.mono e1.gf
  obtain ⟨p,vs,rfl,sq,rs⟩:=r1.of_lst
  obtain ⟨p2,vs2,rfl,sqb,rsb⟩:=r2.of_lst
  refine ⟨p,p2,rfl,⟨vs,SqL.same e1.fh sq⟩,⟨vs2,SqL.same e1.fh sqb⟩,?_⟩
  have S1:=(S.ext2 e0).ext2 e1
  have hLF : Same L F1:=(S.fl.trans e0.gf).trans e1.gf
  refine ⟨fun i m σ' H'=>m = xs.length - i/\i <= xs.length/\At K G H₀ F1 (I i) σ' H',⟨_,rfl,Zih _,ss,F1,S1.raise,h0⟩,?_⟩
  rintro i m σ' H' ⟨rfl,hi,ss1,F2,S2,h2⟩
  have rp : Rep K F2 (.lst (xs.map enc)) (.ref p):=r1.mono S2.fl
  have rp2 : Rep K F2 (.lst (ys.map enc2)) (.ref p2):=r2.mono S2.fl
  obtain ⟨ws,sq2,rs2⟩:=rp.itl S2.ext.fh
  obtain ⟨ws2,sq22,rs22⟩:=rp2.itl S2.ext.fh
  have hlen : ws.length = xs.length:=by rw [<- rs2.length,Zg2]
  have hlen2 : ws2.length = ys.length:=by rw [<- rs22.length,Zg2]
  by_cases hlt : i < xs.length
  ·refine .inr ⟨⟨ws,ws2,ws[i]'(by lia),ws2[i]'(by lia),sq2,sq22,Zg1 _,Zg1 _⟩,fun σ'' H''=>At K G H₀ F1 (I (i + 1)) σ'' H'',fun σ'' H'' h=>⟨xs.length - (i + 1),by lia,rfl,hlt,h⟩,fun x H'' y=>?_⟩
   obtain ⟨T0,us,rfl,hf,rfl,y⟩:=y
   obtain ⟨w,w2,hx,hx2,rfl⟩:=y ws ws2 sq2 sq22
   obtain ⟨dx,hdx,rx⟩:=rs2.get hx
   obtain ⟨dx2,hdx2,rx2⟩:=rs22.get hx2
   rw [Zg8,Zg1 hlt] at hdx
   rw [Zg8,Zg1 (by lia)] at hdx2
   cases hdx
   cases hdx2
   obtain ⟨ss',tg,go⟩:=hs F1 i _ _ ss1 hLF (Zg1 hlt) (Zg1 (by lia)) h2
   have e3 : Ext F2 H' (upd F2 T0 (.tup [w,w2])) (upd H' T0 (.tup [w,w2])):=(Ext.refl S2.ext.fh).newF hf
   have rt : Rep K (upd F2 T0 (.tup [w,w2])) (.tup [enc xs[i],enc2 (ys[i]'(by lia))]) (.ref T0):=Rep.tupN (zaj) (Reps.cons (rx.mono e3.gf) (Reps.cons (rx2.mono e3.gf) Reps.nil))
   exact tg _ _ σ' _ _ (S2.ext2 e3) rt fun σ3 S3=>go _ (fun ss h=>zsf h) _ _ σ3 S3
  ·have e : i = xs.length:=by lia
   subst e
   exact .inl ⟨⟨ws,ws2,sq2,sq22,by lia⟩,hd ss1 h2 F2 H' σ' (S2.lower hLF)⟩
end
noncomputable def SpGO {α : Type} (K : Zgy) (pre : α->List D->Prop) (res : α->List D) : Sp:=fun vs H Q _=>∃ (G : Hp) (ds : List D) (x : α),Same G H/\Reps K G ds vs/\pre x ds /\
 ∀ p ws G' H',Ext G H G' H'->H p = none->G' p = none->H' p = some (.lst ws)->Reps K G' (res x) ws->Q (.ref p) H'
section
variable {α : Type} {K : Zgy} {H : Hp} {vs : List V} {Q : VK} {X : XK} {N : List Str} {t : TS} {pre : α->List D->Prop} {res : α->List D}
theorem ya9 (h : SpGO K pre res vs H Q X) (hN : vs.length <= N.length) (body : ∀ G ds x,pre x ds->RtO K G H Q (res x)->Go K G H G { nx:=fun _ H'=>Q .non H',rt:=Q } (slots N.length ds) t) : t { nx:=fun _ H'=>Q .non H',rt:=Q } (zei N vs) H:=by
 obtain ⟨G,ds,x,sm,r,hp,q⟩:=h
 exact body G ds x hp (fun p ws F H' e h1 h2 h3 h4=>q p ws F H' e h1 h2 h3 h4) G H _ (zcj sm r hN)
theorem zra {n : Nat} (hpre : ∀ x ds,pre x ds->ds.length = n) (h : SpGO K pre res vs H Q X) : vs.length = n:=by
 obtain ⟨G,ds,x,sm,r,hp,q⟩:=h
 rw [<- r.length]; exact hpre x ds hp
end
section
variable {α : Type} {K : Zgy} {G H₀ L : Hp} {ss : List Sl} {t : TA} {ds : List D} {E : XK} {pre : α->List D->Prop} {res : α->List D}
theorem zgu (x : α) (a : EvAF K G H₀ L ss t ds) (hp : pre x ds) : EvO K G H₀ L ss (zgw (SpGO K pre res) [] E t) (res x):=fun F H σ Q S q =>
 a F H σ _ S fun vs F1 H1 e1 r1=>⟨F1,ds,x,e1.fh,by rw [Zik]; exact r1,hp,fun p ws G' H' e2 h1 h2 h3 r=>q _ _ _ _ (e1.trans e2) (e1.hh.free h1) h2 h3 r⟩
end
end L2
namespace L2
open PySem PySem.Spec PyProof.Rows
structure FX (K : Zgy) (mg : Str->Option Value) (n : Str) (s : Stmt) (ps : List Str) (f : Addr) (d : Zjq) : Prop where
 F : Fun K n n s f d
 B : zk6 K d ps []
 M : mg n = some (.ref f)
noncomputable def Bd (n : Str) (s : Stmt) (ps : List Str) : Prop:=∀ (kV doc pm : Value) (an : Option Addr) (cdv ct : Value) (us : List Value),us.length = ps.length->Zmu (Zi8 n n (zdf s) (zbf s) (zag s) .none kV doc pm an cdv ct) ⟨us,[]⟩ = pure (ps.zip us)
theorem fx_mk {K : Zgy} {h : Heap} {mg : Str->Option Value} {n : Str} {s : Stmt} {ps : List Str} {g : Addr} {oc kV doc pm cdv ct : Value} {od an : Option Addr} {osl : Array (Option Value)} (X : K.In h) (G : h.Ns Zju mg) (b : Bd n s ps) (a : PySem.W.nsIn K Zju n = some (some (.ref g)))
  (l : K.lookup g = some ⟨oc,od,.func (Zi8 n n (zdf s) (zbf s) (zag s) .none kV doc pm an cdv ct),osl⟩) (c : Znj K cdv n = true) (k : Zj7 K (.ref g) = true) : FX K mg n s ps g (Zi8 n n (zdf s) (zbf s) (zag s) .none kV doc pm an cdv ct) :=
 ⟨fun_mk l c k,(fun_mk l c k).binds b,PySem.W.mg_of X G a⟩
theorem FX.lk {K : Zgy} {mg : Str->Option Value} {n : Str} {s : Stmt} {ps : List Str} {f : Addr} {d : Zjq} (z : FX K mg n s ps f d) : ∃ g oc od osl,mg n = some (.ref g)/\K.lookup g = some ⟨oc,od,.func d,osl⟩ :=
 let ⟨oc,od,_,_,_,_,_,_,osl,_,l,_⟩:=z.F.ex; ⟨f,oc,od,osl,z.M,l⟩
theorem FX.bt {K : Zgy} {mg : Str->Option Value} {n x : Str} {s : Stmt} {f : Addr} {d : Zjq} (b : Bd n s [x]) (z : FX K mg n s [x] f d) (t : Zg5) (v : Value) : Zp0 t d ⟨[v],[]⟩ [(x,v)]:=by
 obtain ⟨oc,od,kV,dc,pm,an,cdv,ct,osl,rfl,l,_⟩:=z.F.ex
 exact .of_eq (b kV dc pm an cdv ct [v] rfl)
theorem zbu {N P : List Str} {sc : Scope} (h : (decide (sc.kind = .function) && (!sc.isCoroutine && (!sc.isGenerator && (decide N.Nodup && (decide (N.take P.length = P) && (P.all (fun x=>decide (sc.names.lookup x = some .local \/ sc.names.lookup x = some .cell)) && sc.names.all fun y=>decide (y.2 ≠ .free))))))) = true) : FnScope N P sc:=by
 simp only [Zhq,decide_eq_true_eq,Zin,Zir] at h
 exact ⟨h.1,h.2.1,h.2.2.1,h.2.2.2.1,h.2.2.2.2.1,h.2.2.2.2.2.1,h.2.2.2.2.2.2⟩
section
variable {X : Cx} {pos : Pos} {i : Nat} {x : Str}
theorem pgn (i : Nat) (hN : X.N.Nodup) (hi : X.N[i]? = some x:=by rfl) (hx : Loc X.env.scope x:=by exact Zko rfl) (hf : X.fn x = true \/ X.env.scope.names.lookup x = some .local:=by first | exact .inl rfl | exact .inr rfl | assumption) : PG X (.Name x pos) (zfp i):=zbk hN hi hx hf
theorem psn (i : Nat) {e : Expr} {te : TE} {pos' : Pos} (hN : X.N.Nodup) (he : PE X e te) (hi : X.N[i]? = some x:=by rfl) (hx : Loc X.env.scope x:=by exact Zko rfl) (hs : Zn4 e (some (.Name x pos')) pos.line X.env = pure false:=by rfl) (hf : X.fn x = true \/ X.env.scope.names.lookup x = some .local:=by first | exact .inl rfl | exact .inr rfl | assumption) : PS X (.Assign [.Name x pos'] e pos) (tAsg te (zfp i)):=zwu hN hi hx he hs hf
theorem pcX {k kk : Nat} {f : Addr} {fd : Zjq} {ps : List Str} {sp : Sp} {e : Expr} {es : List Expr} {t : TA} {p : Pos} {st : Stmt} (F : FnOk X.prog X.w X.K X.mg X.base CX0 k f fd ps sp) (hr : Room kk X.A) (z : FX X.K X.mg x st ps f fd) (ha : PA X (e::es) t) (hle : k <= kk:=by decide) (hg : Gl X x:=by rfl) (hdb : (x == ("__debug__" : Str)) = false:=by decide) (he : Zic (e::es) X.env = (false,eval e X.env)::Zic es X.env:=by rfl) (hpl : (Zmf pos (Zic es X.env)).any (·.1) = false:=by rfl) : PE X (.Call (.Name x p) (e::es) [] pos) (zgw sp [] E0 t) :=
 yb0 F (hr.mono hle) hg z.M z.F.kp z.B .nil yef ha hdb he hpl
end
section
variable {P : Zhz} {w : Zix} {K : Zgy} {mg : Str->Option Value} {base : Heap} {x qual : Str} {st : Stmt} {f : Addr} {fd : Zjq} {N ps : List Str} {k : Nat}
theorem zsb {sc : Scope} (S : FnScope N ps sc) : ps.length <= N.length:=by
 have:=congrArg Zrj S.pre
 rw [Zim] at this
 omega
theorem okD {pre : List D->Prop} {res : List D->D} (F : Fun K x qual st f fd) (S : FnScope N ps (zag st)) (hl : ∀ ds,pre ds->ds.length = ps.length)
  (hb : ∀ (cdv : Value) (A : Zh3) (outer : List Env) (s : Zg5) (H : Hp) (Q : VK) (E : XK),Room k (A.deeper (Zlj qual (zag st) s.heap.objs.size f cdv)) -> ∃ t,PSs (cxOf CX0 P w K mg base N qual (zag st) f cdv A outer s H E).nox (zbf st) t /\ ∀ G ds,pre ds->RtD K G H Q (res ds)->Go K G H G { nx:=fun _ H'=>Q .non H',rt:=Q } (slots N.length ds) t) : FnOk P w K mg base CX0 (k + 1) f fd ps (SpD K pre res) :=
 F.ok S (fun vs H Q E h=>zvk hl h) fun cdv A outer s H vs Q E hr h=>let ⟨t,p,b⟩:=hb cdv A outer s H Q E hr; ⟨t,p,yd8 h (by rw [zvk hl h]; exact zsb S) b⟩
theorem okO {pre : List D->Prop} {res : List D->List D} (F : Fun K x qual st f fd) (S : FnScope N ps (zag st)) (hl : ∀ ds,pre ds->ds.length = ps.length)
  (hb : ∀ (cdv : Value) (A : Zh3) (outer : List Env) (s : Zg5) (H : Hp) (Q : VK) (E : XK),Room k (A.deeper (Zlj qual (zag st) s.heap.objs.size f cdv)) -> ∃ t,PSs (cxOf CX0 P w K mg base N qual (zag st) f cdv A outer s H E).nox (zbf st) t /\ ∀ G ds,pre ds->RtO K G H Q (res ds)->Go K G H G { nx:=fun _ H'=>Q .non H',rt:=Q } (slots N.length ds) t) : FnOk P w K mg base CX0 (k + 1) f fd ps (SpO K pre res) :=
 F.ok S (fun vs H Q E h=>zvh hl h) fun cdv A outer s H vs Q E hr h=>let ⟨t,p,b⟩:=hb cdv A outer s H Q E hr; ⟨t,p,yej h (by rw [zvh hl h]; exact zsb S) b⟩
theorem okRD {pre : List D->Prop} {R : List D->D->Prop} (F : Fun K x qual st f fd) (S : FnScope N ps (zag st)) (hl : ∀ ds,pre ds->ds.length = ps.length)
  (hb : ∀ (cdv : Value) (A : Zh3) (outer : List Env) (s : Zg5) (H : Hp) (Q : VK) (E : XK),Room k (A.deeper (Zlj qual (zag st) s.heap.objs.size f cdv)) -> ∃ t,PSs (cxOf CX0 P w K mg base N qual (zag st) f cdv A outer s H E).nox (zbf st) t /\ ∀ G ds,pre ds->(∀ r,R ds r->RtD K G H Q r)->Go K G H G { nx:=fun _ H'=>Q .non H',rt:=Q } (slots N.length ds) t) : FnOk P w K mg base CX0 (k + 1) f fd ps (SpRD K pre R) :=
 F.ok S (fun vs H Q E h=>zp6 hl h) fun cdv A outer s H vs Q E hr h=>let ⟨t,p,b⟩:=hb cdv A outer s H Q E hr; ⟨t,p,yco h (by rw [zp6 hl h]; exact zsb S) b⟩
theorem okG {α : Type} {pre : α->List D->Prop} {res : α->D} (F : Fun K x qual st f fd) (S : FnScope N ps (zag st)) (hl : ∀ q ds,pre q ds->ds.length = ps.length)
  (hb : ∀ (cdv : Value) (A : Zh3) (outer : List Env) (s : Zg5) (H : Hp) (Q : VK) (E : XK),Room k (A.deeper (Zlj qual (zag st) s.heap.objs.size f cdv)) -> ∃ t,PSs (cxOf CX0 P w K mg base N qual (zag st) f cdv A outer s H E).nox (zbf st) t /\ ∀ G ds q,pre q ds->RtD K G H Q (res q)->Go K G H G { nx:=fun _ H'=>Q .non H',rt:=Q } (slots N.length ds) t) : FnOk P w K mg base CX0 (k + 1) f fd ps (SpG K pre res) :=
 F.ok S (fun vs H Q E h=>zvr hl h) fun cdv A outer s H vs Q E hr h=>let ⟨t,p,b⟩:=hb cdv A outer s H Q E hr; ⟨t,p,yft h (by rw [zvr hl h]; exact zsb S) b⟩
theorem okGO {α : Type} {pre : α->List D->Prop} {res : α->List D} (F : Fun K x qual st f fd) (S : FnScope N ps (zag st)) (hl : ∀ q ds,pre q ds->ds.length = ps.length)
  (hb : ∀ (cdv : Value) (A : Zh3) (outer : List Env) (s : Zg5) (H : Hp) (Q : VK) (E : XK),Room k (A.deeper (Zlj qual (zag st) s.heap.objs.size f cdv)) -> ∃ t,PSs (cxOf CX0 P w K mg base N qual (zag st) f cdv A outer s H E).nox (zbf st) t /\ ∀ G ds q,pre q ds->RtO K G H Q (res q)->Go K G H G { nx:=fun _ H'=>Q .non H',rt:=Q } (slots N.length ds) t) : FnOk P w K mg base CX0 (k + 1) f fd ps (SpGO K pre res) :=
 F.ok S (fun vs H Q E h=>zra hl h) fun cdv A outer s H vs Q E hr h=>let ⟨t,p,b⟩:=hb cdv A outer s H Q E hr; ⟨t,p,ya9 h (by rw [zra hl h]; exact zsb S) b⟩
theorem okPT {T : Addr} {pos : Pos} {lq : Str} {pre : List D->Prop} {res : List D->Int × List D} (F : Fun K x qual st f fd) (S : FnScope N ps (zag st)) (hl : ∀ ds,pre ds->ds.length = ps.length)
  (hb : ∀ (cdv : Value) (A : Zh3) (outer : List Env) (s : Zg5) (H : Hp) (Q : VK) (E : XK),Room k (A.deeper (Zlj qual (zag st) s.heap.objs.size f cdv)) -> ∃ t,PSs (cxOf CX0 P w K mg base N qual (zag st) f cdv A outer s H E).nox (zbf st) t /\ ∀ G ds,HasT G T pos lq->pre ds->RtPO K G H Q (res ds).1 (res ds).2->Go K G H G { nx:=fun _ H'=>Q .non H',rt:=Q } (slots N.length ds) t) : FnOk P w K mg base CX0 (k + 1) f fd ps (SpPT K T pos lq pre res) :=
 F.ok S (fun vs H Q E h=>zqc hl h) fun cdv A outer s H vs Q E hr h=>let ⟨t,p,b⟩:=hb cdv A outer s H Q E hr; ⟨t,p,ya5 h (by rw [zqc hl h]; exact zsb S) b⟩
end
noncomputable def metN (ns : List Int) : Nat:=(firstMet (fun i=>ns.getD i 0) ns.length).length
noncomputable def zye (K : Zgy) : List V->Hp->VK->Prop:=fun vs H Q=>∃ a ns,vs = [.ref a]/\SqL K H a (ns.map V.int)/\ns.length <= 1000 /\ ∀ r S,H r = none->Q (.ref r) (upd H r (.set S (metN ns)))
noncomputable def zyv : List V->Hp->VK->Prop:=fun vs H Q=>∃ a S n,vs = [.ref a]/\H a = some (.set S n)/\n <= 1000/\Q (.int n) H
theorem ye9 (ns : List Int) : metN ns <= ns.length:=firstMet_length_le _ _
section
variable {X : Cx}
theorem zww (hc : X.calm = true) : zcy X (.type "set") (zye X.K):=by
 intro pins s σ H vs us Q I r h
 obtain ⟨a,ns,rfl,hq,hl,q⟩:=h
 obtain ⟨u,rfl,ru⟩:=zfs r
 cases ru
 obtain ⟨its,rv,pl,_⟩:=I.list hq
 have l2:=rv.length
 rw [Zg2] at l2
 refine call_set_list (items:=its.toArray) (ns:=ns) (I.ok.hd hc) pl.isList (by simpa using zsr rv) (by simp [scanBound]; omega) fun h' tk S k=>?_
 have e3 : its.toArray.size = ns.length:=by rw [l2]; exact Zhw
 rw [e3] at S
 exact ⟨.ref s.heap.objs.size,_,I.laid (t':=tk) (o:=.set _ (metN ns)) (fun b u e=>k b u (Zhf e) e) (Zha _) S,rfl,q _ _ (I.hok.fresh (Zha _))⟩
theorem ztr : zcy X (.builtin "len") zyv:=by
 intro pins s σ H vs us Q I r h
 obtain ⟨a,S,n,rfl,ha,hl,q⟩:=h
 obtain ⟨u,rfl,ru⟩:=zfs r
 cases ru
 obtain ⟨o,es,ep,t,ho,hex,hd,_,_,_,hf,hn⟩:=show s.heap.SetOf (intKind X.prog X.w) a S n from I.hok a _ ha
 exact call_len_set ho hex hd hf (by omega) ⟨.int n,H,I.tok _,⟨_,by rw [hn]⟩,q⟩
end
theorem ybq {ns : List Int} : metN ns = ns.length ↔ ns.Nodup:=by
 unfold metN firstMet
 have e : (Zg4 ns.length).map (fun i=>ns.getD i 0) = ns:=by
  apply Zkg
  intro i
  rw [Zg8]
  by_cases h : i < ns.length
  ·rw [Zi1 h,Zne,Zg0,Zg1 h]; rfl
  ·rw [Zio (by simp; omega),Zio (by omega)]; rfl
 rw [e]
 have key : ∀ (ns σ : List Int),σ.Nodup->((ns.foldl Zoc σ).length = σ.length + ns.length ↔ (σ++ns).Nodup):=by
  intro ns
  induction ns with
  | nil=>intro σ h; simp [h]
  | cons n ns ih =>
   intro σ h
   rw [Zks]
   have hle:=foldl_step_dedup_length_le (Zoc σ n) ns
   by_cases hm : n∈σ
   ·have hs : Zoc σ n = σ:=by unfold Zoc; rw [if_pos]; simpa using hm
    rw [hs] at hle ⊢
    constructor
    ·intro z; simp only [Zjo] at z; omega
    ·intro z
     exact absurd rfl ((Zjs.mp z).2.2 n hm n Zhl)
   ·have hs : Zoc σ n = σ++[n]:=by unfold Zoc; rw [if_neg]; simpa using hm
    rw [hs]
    have:=ih (σ++[n]) (Zjs.mpr ⟨h,by simp,fun a ha b hb z=>hm (by rw [<- Zg3.mp hb,<- z]; exact ha)⟩)
    rw [Zm6,Zq2,Zhg,Zlw] at this
    rw [Zjo,<- this]
    omega
 have:=key ns [] Zny
 simpa using this
section
variable {K : Zgy} {G H₀ L : Hp} {ss : List Sl} {t : TE} {ns : List Int}
theorem zsh (a : EvL K G H₀ L ss t (ns.map .int)) (hl : ns.length <= 1000) : Ev K G H₀ L ss (tCB zyv (za3 (tCB (zye K) (za3 t tNil)) tNil)) (.int (metN ns)):=fun F H σ Q S q =>
 a F H σ _ S fun p vs F' H' e sq r=>by
  have hv:=zfv r
  subst hv
  exact ⟨p,ns,rfl,sq,hl,fun r0 S0 h0=>⟨r0,S0,_,rfl,zaj,Zh1 (ye9 ns) hl,q _ F' _ (e.newO h0) Rep.int⟩⟩
end
end L2
namespace L2
open PySem PySem.W PySem.Spec PyProof.Rows
section
variable {P : Zhz} {w : Zix} {fs : List Addr} {H H' : Hp} {h h2 h3 B : Heap}
theorem Un.fly (U : Un fs [] H H' h h2) (st2 : B.StaysIn h2) (st3 : B.StaysIn h3) (c1 : ∀ b o,h.get? b = some o->b ∉ fs -> ∃ o',B.get? b = some o') (up : h2.UpToSlots h3)
  (ff : ∀ b∈fs,∃ o,h2.get? b = some o /\ ∀ vs,o.data ≠ .fields vs) : Un fs [] H H' h h3 where
 keep:=fun b o e n hb hx=>by
  obtain ⟨o',q⟩:=c1 b o e hb
  have q1:=U.keep b o e n hb hx
  have q2:=st2 b o' q
  rw [q1] at q2; cases q2
  exact st3 b _ q
 slot:=fun b o e n hb hx=>by
  obtain ⟨sl,q⟩:=U.slot b o e n hb hx
  obtain ⟨o2,q2,nf⟩:=ff b hb
  rw [q] at q2; cases q2
  obtain ⟨sl',q3⟩:=up b _ q nf
  exact ⟨sl',q3⟩
 free:=U.free
 there:=fun b o e hx=>by
  by_cases hb : b∈fs
  ·obtain ⟨o2,q2,nf⟩:=ff b hb
   obtain ⟨sl,q3⟩:=up b _ q2 nf
   exact ⟨_,q3⟩
  ·obtain ⟨o',q⟩:=c1 b o e hb
   exact ⟨o',st3 b _ q⟩
 tups:=U.tups
 frzs:=U.frzs
 tbls:=U.tbls
theorem HOk.fly (hok : HOk P w H h2) (c2 : ∀ b u,H b = some u -> ∃ o',B.get? b = some o') (st2 : B.StaysIn h2) (st3 : B.StaysIn h3) : HOk P w H h3:=fun b u e=>by
 refine (hok b u e).stay (fun c v hc q=>?_) (fun _ q=>q) fun _ _ q=>q
 obtain ⟨o',q'⟩ : ∃ o',B.get? c = some o':=by
  rcases hc with rfl | hc
  ·exact c2 c _ e
  ·exact c2 c _ hc
 have:=st2 c o' q'
 rw [q] at this; cases this
 exact st3 c _ q'
end
section
variable {P : Zhz} {w : Zix} {K : Zgy} {mg : Str->Option Value} {base : Heap} {N : List Str} {qual : Str} {scope : Scope} {f : Addr} {cd : Value} {A : Zh3} {outer : List Env} {s : Zg5} {H : Hp} {E : XK}
noncomputable def vmro : List Value:=[.type "ValueError", .type "Exception", .type "BaseException", .type "object"]
theorem zc9.there {h : Heap} {a : Addr} {o : HO} (x : zc9 P w H h a o) : ∃ ob,h.get? a = some ob:=by
 cases o with
 | lst xs=>obtain ⟨_,_,_,_,e⟩:=x; exact ⟨_,e⟩
 | tup xs=>obtain ⟨_,_,_,ob,e,_⟩:=x; exact ⟨_,e⟩
 | dK kvs=>obtain ⟨_,_,_,_,o,_,_,e,_⟩:=x; exact ⟨_,e⟩
 | dT kvs=>obtain ⟨_,_,_,_,o,_,_,e,_⟩:=x; exact ⟨_,e⟩
 | set S n=>obtain ⟨o,_,_,_,e,_⟩:=x; exact ⟨_,e⟩
 | ins C dx fs=>obtain ⟨_,_,_,e,_⟩:=x; exact ⟨_,e⟩
 | own y=>obtain ⟨_,e⟩:=x; exact ⟨_,e⟩
 | xd fs=>obtain ⟨_,⟨_,_,_,e,_⟩,_⟩:=x; exact ⟨_,e⟩
 | rng lo hi=>obtain ⟨_,_,_,e⟩:=x; exact ⟨_,e⟩
 | frz ob u=>obtain ⟨e,_⟩:=x; exact ⟨_,e⟩
 | tbl ps=>exact ⟨_,x⟩
 | met f y=>exact ⟨_,x⟩
 | ext φ=>obtain ⟨_,e,_⟩:=x; exact e
 | tab ps pos q=>obtain ⟨_,e,_⟩:=x; exact ⟨_,e⟩
end
noncomputable abbrev Cx.inSuite (X : Cx) (x : Addr) : Cx:={ X with A:=X.A.mark (some (.ref x)),calm:=false,xe:=fun _ _=>False }
section
variable {X : Cx} {pins : List (Addr × Obj)} {σ : St} {H : Hp} {s : Zg5} {x : Addr}
theorem Inv.inSuite (I : Inv X pins σ H s) (x : Addr) : Inv (X.inSuite x) pins σ H s :=
 ⟨⟨I.ok.mod,I.ok.kind,I.ok.glob,I.ok.blt,I.ok.above,I.ok.inj,I.ok.has,I.ok.cab,(fun z=>by cases z),I.ok.frames,I.ok.stk,I.ok.exf,I.ok.bs,I.ok.bsz,I.ok.noex,I.ok.exfs,I.ok.funs,I.ok.frf⟩,I.os,I.bare,I.base,I.loc,I.cell,I.free,I.freeC,I.pin,I.hok,I.len⟩
theorem Inv.outSuite (ok : X.Ok) (I : Inv (X.inSuite x) pins σ H s) : Inv X pins σ H s:=⟨ok,I.os,I.bare,I.base,I.loc,I.cell,I.free,I.freeC,I.pin,I.hok,I.len⟩
theorem zus {M : Znw} {A : Zh3} {E : Value->Zg5->Prop} {i : Nat} {n : Str} {v : V} {Q : Unit->Zg5->Prop} (I : Inv X pins σ H s) (hN : X.N.Nodup) (hi : X.N[i]? = some n) (hx : X.env.scope.names.lookup n = some .local) (hv : σ[i]? = some (some v))
  (h : ∀ s',Inv X pins (σ.set i none) H s'->Q () s') : Zhs M A (unbindName X.env n) Q E s:=by
 obtain ⟨m,hn,hl⟩:=id I.loc
 have hcls : (X.env.scope.kind == .class || (X.env.scope.kind == .module && X.env.locals != X.env.globals)) = false:=by rw [I.ok.kind]; rfl
 obtain ⟨u,r,lk⟩:=hl i n v hi hv (.inl hx)
 have hm : m n = some u:=by
  rcases lk with ⟨_,e⟩ | ⟨k,_⟩
  ·exact e
  ·have k : X.env.scope.names.lookup n = some .cell \/ X.env.scope.names.lookup n = some .free:=k
   rw [hx] at k
   rcases k with k | k <;> cases k
 refine wpAny_unbindName_local hx hn hm hcls fun h' u' hn' hs=>?_
 obtain ⟨oL,_,_,hoL,_⟩:=id hn
 have cne:=I.cne
 have hiσ : i < σ.length:=by rw [I.len]; exact (Zg7.mp hi).1
 refine h _ ⟨I.ok,I.os,I.bare,⟨fun b o e n hb hx=>?_,fun b o e n hb hx=>?_,I.base.free,fun b o e hx=>?_,I.base.tups,I.base.frzs,I.base.tbls⟩,⟨_,hn',fun j y v' e1 e2 e3=>?_⟩,fun y c e=>?_,I.free,I.freeC,fun p hp=>?_,fun b ob e=>?_,by simpa using I.len⟩
 ·exact (hs.2 b (Zht (Zhn (Zhf e) I.ok.above))).trans (I.base.keep b o e n hb hx)
 ·obtain ⟨sl,e1⟩:=I.base.slot b o e n hb hx
  exact ⟨sl,(hs.2 b (Zht (Zhn (Zhf e) I.ok.above))).trans e1⟩
 ·obtain ⟨o',e1⟩:=I.base.there b o e hx
  exact ⟨o',(hs.2 b (Zht (Zhn (Zhf e) I.ok.above))).trans e1⟩
 ·by_cases hj : j = i
  ·subst hj
   rw [Ziq hiσ] at e2
   cases e2
  ·rw [Zjk (Zif hj)] at e2
   obtain ⟨u',r',q⟩:=hl j y v' e1 e2 e3
   refine ⟨u',r',?_⟩
   rcases q with ⟨k,e⟩ | ⟨k,c,e,z⟩
   ·refine .inl ⟨k,?_⟩
    have : y≠n:=fun e=>hj (zmn hN e1 (e ▸ hi))
    simp [this,e]
   ·exact .inr ⟨k,c,e,z.sameBut hs (cne y c e)⟩
 ·obtain ⟨w',z⟩:=I.cell y c e
  exact ⟨w',z.sameBut hs (cne y c e)⟩
 ·obtain ⟨e,n,ne,nf,d⟩:=I.pin p hp
  exact ⟨(hs.2 p.1 ne).trans e,n,ne,nf,d⟩
 ·refine (I.hok b ob e).stay (fun c w' hc q=>(hs.2 c ?_).trans q) (fun _ q=>q) fun _ _ q=>q
  rintro rfl
  rcases hc with rfl | hc
  ·rw [I.free] at e; cases e
  ·rw [I.free] at hc; cases hc
end
end L2
namespace L2
open PySem PySem.W PySem.Spec PyProof.Rows PySem.Calls Builtin Builtin.ObjectAttr Builtin.Getset_descriptor
structure XTell (K : Zgy) (C : Addr) : Prop where
 ga : findIn K (.ref C) "__getattribute__" = some (some (.builtin "BaseException.__getattribute__"))
 gt : findIn K (.ref C) "__getattr__" = some none
 mb : mroIn K C (.type "BaseException") = some true
 fc : findIn K (.ref C) "__class__" = some (some (.builtin "object.__class__"))
 sp : specialIn K (.builtin "object.__class__") "__get__" = some (some (.builtin "getset_descriptor.__get__"))
 tk : takesIn K (.builtin "object.__class__") = some true
 mo : mroIn K C (.type "object") = some true
 dc : hasDictIn K C = true
section
variable {K : Zgy} {x C : Addr}
noncomputable def XAt (x C : Addr) (h : Heap) : Prop:=∃ o,h.get? x = some o/\o.cls = .ref C
theorem XAt.ty {M : Znw} {h : Heap} (p : XAt x C h) : Looks M h (typeOf (.ref x)) (.ref C):=by
 obtain ⟨o,ho,hc⟩:=p
 rw [<- hc]; exact (Looks.ld ho).andThen .now
theorem ybv {M : Znw} {h : Heap} (X : K.In h) (T : XTell K C) : Looks M h (Zsa (.ref x) (.ref C) "__class__") (.bind (.builtin "getset_descriptor.__get__") (.builtin "object.__class__")) :=
 (looks_findIn X T.fc).andThen ((show Looks M h (Zr9 (some (.builtin "object.__class__"))) (some (.builtin "getset_descriptor.__get__")) from looks_specialIn X T.sp).andThen
  ((show Looks M h (Zsb (some (.builtin "object.__class__")) (some (.builtin "getset_descriptor.__get__"))) (some (_,_)) from (looks_takesIn (M:=M) X T.tk).andThen .now).andThen (Looks.tag .now)))
section
variable {prog : Zhz} {w : Zix} {A : Zh3} {s : Zg5}
theorem zzm {R : Zvj->Zg5->Prop} {tp : Value} (X : K.In s.heap) (T : XTell K C) (p : XAt x C s.heap) (h : R (.ok (.ret (.ref C))) s) : Znm (Zh2 prog w) A (.call (.builtin "getset_descriptor.__get__") ⟨[.builtin "object.__class__", .ref x,tp],[]⟩) R s:=by
 obtain ⟨hh,g,dr,t,os⟩:=s
 have L0:=p.ty (M:=Zh2 prog w); have L1:=looks_mroIn (M:=Zh2 prog w) X T.mo
 refine Zk9 KF.slot_gs.plain KF.entry_gs (KF.slot_gs.check _ _ _ _ _ _ _ _ KF.type_class (KF.args_gs _ _ _) (show Zhs _ _ _ _ _ _ from ?_))
 unfold Zib.«getset_descriptor.__get__» descrGet; rw [dga_obj]; refine Zgz (Zhc ?_); unfold descrGetter descrCheckInstance descrNameAndClass Zpq; simp only [KF.owner_class]
 repeat lk
 refine ⟨Zok _ (by decide +kernel),Zj5 KF.entry_class (show Zhs _ _ _ _ _ _ from ?_)⟩
 unfold Zib.«object.__class__» shownTypeOf; repeat lk
 exact h
theorem zud {E : Value->Zg5->Prop} {Q : Option Value->Zg5->Prop} (X : K.In s.heap) (T : XTell K C) (p : XAt x C s.heap) (q : Q (some (.ref C)) { s with toks:=s.toks + 1 }) :
  Zhs (Zh2 prog w) A (getAttr? (.ref x) "__class__") Q E s:=by
 obtain ⟨hh,g,d,t,os⟩:=s
 have L0:=p.ty (M:=Zh2 prog w); have L1:=looks_findIn (M:=Zh2 prog w) X T.ga; have L2:=looks_findIn (M:=Zh2 prog w) X T.gt
 have L3:=ybv (x:=x) (M:=Zh2 prog w) X T; have L4:=looks_mroIn (M:=Zh2 prog w) X T.mb
 have hbd:=Znc.ga.bind (.ref x)
 have hk : builtinKind "BaseException.__getattribute__" = some .slot:=by decide +kernel
 have hs : splitId "BaseException.__getattribute__" = some ("BaseException", "__getattribute__"):=by decide +kernel
 unfold getAttr? getAttrBy? getAttrBy; refine Zgz (wpAny_mkText (Zgz (Zo4 (Zjp (Zgz (L0.at (Zgz (L1.at ?_))))))))
 show Zhs _ _ (if (_ && _) then _ else _) _ _ _
 rw [if_neg (by rw [Zhq]; intro z; exact absurd z.2 (by decide +kernel))]
 unfold Zvg
 refine Zgz ((show Looks _ _ (hookBefore (.ref C)) none from L2).at (Zgz (Zo4 (Zjp ?_))))
 unfold Zum Zvs
 rw [if_neg (by intro z; cases z),hbd]
 refine Zgz (Zhc (Zmy ?_))
 refine Zk9 Znc.ga.plain Zue ?_
 have hao:=Zu7 (.ref x) (.str "__class__" t)
 simp only [Zul,hk,hs]; unfold Zpq
 repeat lk
 refine wpAny_run (zzm (x:=x) X T p ?_)
 repeat lk
 exact q
end
theorem zqu (T : XTell K C) : KitX K (.ref x) (.ref C) (XAt x C) where
 ty:=fun _ _ _ p=>p.ty
 it:=fun _ _ X _=>by
  obtain ⟨cd,hc,_⟩:=any_some T.dc
  unfold clsIn at hc; split at hc
  ·rename_i ho
   intro A' Q' E' s' k q
   unfold isType loadHead; exact Zgz (Zvo (k _ _ (X _ _ ho)) (Zhc q))
  ·cases hc
 ne:=fun h tp dd its n sl X htp=>by
  obtain ⟨cd,hc,_⟩:=any_some T.dc
  refine Bool.eq_false_iff.mpr fun q=>?_
  obtain rfl : C = tp:=Zv3 (beq_iff_eq.mp q)
  unfold clsIn at hc; split at hc
  ·rename_i ho
   have z:=(X _ _ ho).symm.trans htp; cases z
  ·cases hc
 ca:=fun X p k=>zud X T p k
end
end L2
namespace PySem
open Sem (wp)
section
variable {prog : Zhz} {w : Zix} {A : Zh3} {E : Value->Zg5->Prop} {h : Heap} {g : Array Ztk} {d : Drawn} {t : Nat} {os : OsState}
variable {nm q : Str} {C N : Addr} {bs bm bmB : List Value} {hdct : Bool} {sn : List Str} {sub : List Value} {ab : Bool} {col : Option Bool} {dd : Option Addr} {k0 k1 k2 k3 k5 : Option Value} {B Bn newId nid initId inN : String} {bmN : List Value}
theorem zj3 (Fn : Zp8 Bn newId inN bmN) (hBn : bmB.contains (.type Bn) = true) (F : Zp8 B nid initId bmB) (T : OwnTail h bmB bm) {mN : Str->Option Value} {rest : List Value} {fI : Addr} {oI : Obj} {Q : Fin->Zg5->Prop}
  (hC : h.get? C = some (Zqt nm q C N bs bm hdct sn sub ab col dd k0 k1 k2 k3 k5 newId)) (hn : h.Ns N mN) (hi : mN "__init__" = some (.ref fI)) (hfI : h.get? fI = some oI) (hfc : oI.cls = .type "function")
  (hq : ∀ h' e,h.objs.size <= e->Zp7 h h' e (.ref C) rest->Zhs (Zh2 prog w) A (call (.ref fI) (.ref e::rest)) (fun r s'=>r = .none/\Q (.done (.ret (.ref e))) s') E ⟨h',g,d,t,os⟩) (hrest : rest.length <= sizeLine) :
  Zhs (Zh2 prog w) A (Zib.«type.__call__» ⟨.ref C::rest,[]⟩) Q E ⟨h,g,d,t,os⟩:=by
 repeat (first | with_reducible refine Zl6 hC ?_ | with_reducible refine wpAny_madeBy_exc hC ?_ | wp_step)
 refine codeAny_call_builtin_code (Zok _ Fn.quiet) (wpAny_check_new_subU Fn hBn T hC ?_)
 refine codeAny_exc_new_subU Fn hBn F T hC ?_ hrest
 show Zhs _ _ _ _ _ _
 have k2 : ∀ b o,h.get? b = some o->((h.push { cls:=.type "tuple", data:=.seq rest.toArray }).push { cls:=.ref C,data:=.fields #[.ref h.objs.size,.none,.none,.none,.bool false,.none] }).get? b = some o:=fun b o e=>Zg6 _ (Zg6 _ e)
 have hC1:=k2 _ _ hC
 have hf1:=k2 _ _ hfI
 have hn1 : ((h.push { cls:=.type "tuple", data:=.seq rest.toArray }).push { cls:=.ref C,data:=.fields #[.ref h.objs.size,.none,.none,.none,.bool false,.none] }).Ns N mN:=let ⟨o,es,ep,e,r⟩:=hn; ⟨o,es,ep,k2 _ _ e,r⟩
 have hget : ((h.push { cls:=.type "tuple", data:=.seq rest.toArray }).push { cls:=.ref C,data:=.fields #[.ref h.objs.size,.none,.none,.none,.bool false,.none] }).get? (h.objs.size + 1) = some { cls:=.ref C,data:=.fields #[.ref h.objs.size,.none,.none,.none,.bool false,.none] }:=by heap_get
 have hcC : (Zh4 C::bm).contains (.ref C) = true:=by simp
 have T1:=T.keeps k2
 unfold Zpq
 repeat (first | with_reducible refine Zl6 hget ?_ | (with_reducible refine Zsv hC1 ?_; rw [hcC]) | wp_step)
 show Zhs _ _ (Ztr (.ref C) _) _ _ _
 refine wpAny_typeLookup_tail hC1 hn1 T1 F.mroIs F.init.lookup ?_
 rw [hi]
 refine Zjp (Zgz ?_)
 unfold bindSpecial
 refine Zgz (wpAny_typeOf (T:="function") ⟨_,hf1,hfc⟩ ?_)
 rw [if_pos (by decide)]
 refine Zhc (Zgz (Zid (hq _ (h.objs.size + 1) (Zmp _) ⟨k2,Znt (Zmp _),h.objs.size,hget,Znt (Zha _),?_⟩) (fun r s' hr=>?_) fun _ _ x=>x))
 ·exact Zg6 _ (Zr7 rfl rfl)
 ·obtain ⟨rfl,hQ⟩:=hr
  wp_walk
  exact hQ
theorem zs2 (Fn : Zp8 Bn newId inN bmN) (hBn : bmB.contains (.type Bn) = true) (F : Zp8 B nid initId bmB) (T : OwnTail h bmB bm) {mN : Str->Option Value} {rest : List Value} {fI : Addr} {oI : Obj} {Q : Value->Zg5->Prop}
  (hC : h.get? C = some (Zqt nm q C N bs bm hdct sn sub ab col dd k0 k1 k2 k3 k5 newId)) (hn : h.Ns N mN) (hi : mN "__init__" = some (.ref fI)) (hfI : h.get? fI = some oI) (hfc : oI.cls = .type "function")
  (hq : ∀ h' e,h.objs.size <= e->Zp7 h h' e (.ref C) rest->Zhs (Zh2 prog w) (A.under (.builtin "type.__call__" ⟨.ref C::rest,[]⟩)) (call (.ref fI) (.ref e::rest)) (fun r s'=>r = .none/\Q (.ref e) s') E ⟨h',g,d,t,os⟩) (hrest : rest.length <= sizeLine) :
  Zhs (Zh2 prog w) A (call (.ref C) rest) Q E ⟨h,g,d,t,os⟩:=by
 have f1:=tc_lookup
 have f2:=tc_bind (.ref C)
 have hT : (⟨h,g,d,t,os⟩ : Zg5).TypeIs (.ref C) "type" := ⟨_,hC,rfl⟩
 refine Zmy (codeAny_of_tree ?_)
 show Zhs _ _ (callAny (.ref C) _) _ _ _
 repeat (any_goals (first | assumption | with_reducible refine Zl6 hC ?_ | wp_step))
 refine ⟨rfl,?_⟩
 exact codeAny_call_builtin_at (Zok _ (by decide +kernel)) entry_typeCall (wpAny_check_type_call_sub hC (zj3 (hrest:=hrest) Fn hBn F T hC hn hi hfI hfc fun h' e hs hm=>hq h' e hs hm))
end
end PySem
namespace L2
open PySem PySem.W PySem.Spec PyProof.Rows
noncomputable def excInI (K : Zgy) (C : Addr) (bmB : List Value) (newId : String) (fI : Addr) : Bool:=match K.lookup C with
 | some ⟨.type "type", _,.cls cd,sl⟩=>(match cd.mro,sl.toList with
  | .ref C'::bm,[_,_,_,_,some (.builtin n),_]=>C' == C && n == newId && !cd.hasDel && tailIn K bmB bm && nsOkIn K cd.ns && nsIn K cd.ns "__init__" == some (some (.ref fI))
  | _,_=>false)
 | _=>false
noncomputable def zpa (K : Zgy) (C fI : Addr) : Prop:=excInI K C vmro "ValueError.__new__" fI = true
theorem yf6 {K : Zgy} {h : Heap} {N : Addr} {m : Str->Option Value} {n : Str} {v : Value} (X : K.In h) (G : h.Ns N m) (e : nsIn K N n = some (some v)) : m n = some v:=by
 obtain ⟨o,es,ep,ho,hd,_,hf⟩:=G
 unfold nsIn at e
 split at e
 ·rename_i c d es' n' sl q
  have:=X _ _ q
  rw [ho] at this
  cases this
  cases hd
  split at e
  ·rename_i en he
   cases e
   rw [<- hf]
   unfold nsFind findBy
   rw [<- Zrk,he]
   rfl
  ·split at e <;> cases e
 ·cases e
theorem zmv {K : Zgy} {h : Heap} {C fI : Addr} (X : K.In h) (q : zpa K C fI) : ∃ tl N nm q bs hdct sn sub ab col dd k0 k1 k2 k3 k5 mN,h.get? C = some (Zqt nm q C N bs tl hdct sn sub ab col dd k0 k1 k2 k3 k5 "ValueError.__new__")/\h.Ns N mN/\mN "__init__" = some (.ref fI)/\OwnTail h vmro tl:=by
 unfold zpa excInI at q
 split at q
 ·rename_i dd cd sl ho
  split at q
  ·rename_i C' bm k0 k1 k2 k3 n k5 hm hs
   simp only [Zhq,beq_iff_eq,Zin] at q
   obtain ⟨⟨⟨⟨⟨rfl,rfl⟩,hdel⟩,ht⟩,hok⟩,hni⟩:=q
   obtain ⟨nm,bs,mro,ns,qn,hd,sn,sub,ab,col,del⟩:=cd
   dsimp only at hm hdel hok hni
   subst hm hdel
   have hsl : sl = #[k0,k1,k2,k3,some (.builtin "ValueError.__new__"),k5]:=by
    obtain ⟨l⟩:=sl
    simp only at hs
    rw [hs]
   subst hsl
   exact ⟨bm,ns,nm,qn,bs,hd,sn,sub,ab,col,dd,k0,k1,k2,k3,k5,_,X _ _ ho,.of_isNs (isNs_of_in X hok),yf6 X (.of_isNs (isNs_of_in X hok)) hni,tail_of_in X ht⟩
  ·cases q
 ·cases q
noncomputable def zv2 (e C : Addr) (dd : Option Addr) (h : Heap) : Prop:=∃ t : Value,h.get? e = some { cls:=.ref C,dict:=dd,data:=.fields #[t,.none,.none,.none,.bool false,.none] }
noncomputable def ErrO (e C : Addr) (dd : Option Addr) : HO:=.ext (zv2 e C dd)
theorem zpq {P : Zhz} {w : Zix} {H : Hp} {h : Heap} {e C : Addr} {dd : Option Addr} (x : zv2 e C dd h) : zc9 P w H h e (ErrO e C dd) :=
 ⟨x,let ⟨_,q⟩:=x; ⟨_,q⟩,fun h1 h2 ⟨t,q⟩ k=>⟨t,k _ q⟩⟩
theorem Inv.errMade {X : Cx} {pins : List (Addr × Obj)} {σ : St} {H : Hp} {s : Zg5} {h' : Heap} {e C : Addr} {rest : List Value} (I : Inv X pins σ H s) (hs : s.heap.objs.size <= e) (m : Zp7 s.heap h' e (.ref C) rest) :
  Inv X pins σ (upd H e (ErrO e C none)) { s with heap:=h',toks:=s.toks }:=by
 obtain ⟨t,q,_,_⟩:=m.there
 exact I.laid (t':=s.toks) (fun b u z=>m.keeps b u z) hs (zpq ⟨.ref t,q⟩)
end L2
namespace L2
open PySem PySem.Spec PyProof.Rows
end L2
namespace L2
open PySem PySem.W PySem.Spec PyProof.Rows
structure CMeth (K : Zgy) (C : Addr) (m : Str) (f : Addr) : Prop where
 ga : specialIn K (.ref C) "__getattribute__" = some (some (.builtin "type.__getattribute__"))
 rd : readsIn K C (.type "type") = true
 fc : findCls K (.ref C) (.type "type") m = some (.val (.ref f))
 kp : keepIn K (.ref f) = true
section
variable {X : Cx} {a b : Str} {e : Expr} {te : TE} {k1 k2 : Nat} {p1 p2 p3 pos : Pos}
theorem zy2 {x : Str} {u : Value} (r : RelV (.str x) u) : ∃ t,u = .str x t:=r
theorem zxj {i : Int} {u : Value} (r : RelV (.int i) u) : ∃ t,u = .int i t:=r
end
structure CInitB (K : Zgy) (C : Addr) : Prop where
 ga : specialIn K (.ref C) "__getattribute__" = some (some (.builtin "type.__getattribute__"))
 rd : readsIn K C (.type "type") = true
 fc : findCls K (.ref C) (.type "type") "__init__" = some (.val (.builtin "ValueError.__init__"))
noncomputable def zqy (K : Zgy) (t : TA) : TE:=fun σ H Q=>t σ H fun vs H1=>∃ e C dd v,vs = [.ref e,v]/\H1 e = some (ErrO e C dd)/\(∃ fI,zpa K C fI)/\Q .non H1
section
variable {X : Cx} {B : Addr} {x : Str} {e1 e2 : Expr} {t : TA} {p apos pos : Pos}
theorem zsu {pl : Sem Bool} (hg : Gl X x) (hm : X.mg x = some (.ref B)) (M : CInitB X.K B) (ha : PA X [e1,e2] t)
  (hdb : (x == ("__debug__" : Str)) = false:=by decide) (hst : Zic [e1,e2] X.env = (false,eval e1 X.env)::Zic [e2] X.env:=by rfl) (hpl : (Zmf pos (Zic [e2] X.env)).any (·.1) = false:=by rfl)
  (ht : eval (.Call (.Attribute (.Name x p) "__init__" apos) [e1,e2] [] pos) X.env = (do
   let ov <- eval (.Name x p) X.env
   Zrp apos.atName
   let (f,first) <- Zrq [ov] (getMethod ov "__init__" pl)
   callWith pos f first (Zmf pos (Zic [e1,e2] X.env)) (Zpa pos (Zm1 [] X.env))):=by rfl) :
  PE X (.Call (.Attribute (.Name x p) "__init__" apos) [e1,e2] [] pos) (zqy X.K t):=by
 intro pins s σ H Q I h
 refine PySem.W.methodCall_KW (pl:=pl) (thn (zcu (v:=.ref B) hg hm rfl hdb pins s σ H (fun v H1=>v = .ref B/\H1 = H) I ⟨rfl,rfl⟩) fun u s1 hz9=>?_) ht
 obtain ⟨v,H1,I1,rx,ev,eh⟩:=hz9
 subst ev eh
 obtain rfl : u = Zh4 B:=rx
 refine method_cls I1.kIn M.ga (cls_value I1.kIn M.rd M.fc rfl ?_)
 have hA:=ha pos pins _ σ _ _ (I1.tok (s1.toks + 1)) h
 rw [hst] at hA ⊢
 refine Zj1 (by show (false || (Zmf pos (Zic [e2] X.env)).any (·.1)) = false; rw [hpl] <;> rfl) (Zl4 ?_)
 refine thn hA fun us s2 ⟨vs,H2,I2,r,e,C,dd,v,ev,he,⟨fI,hx⟩,q⟩=>?_
 subst ev
 obtain ⟨u1,u2,rfl,r1,r2⟩:=zk7 r
 cases r1
 obtain ⟨tl,Na,nm,q',bs,hdct,sn,sub,ab,col,ddc,k0,k1,k2,k3,k5,mN,hC,hN,hni,T⟩:=zmv I2.kIn hx
 obtain ⟨t0,ho⟩ : zv2 e C dd s2.heap:=(I2.hok e _ he).1
 obtain ⟨hh,g,d,tk,os⟩:=s2
 refine Zmy (Zk9 Zjl.init.plain Zjl.initEntry (wpAny_check_init_subU Zjl T hC ho rfl ?_))
 wp_walk
 have hk : ∀ b u,b≠e->hh.get? b = some u->((hh.push { cls:=.type "tuple", data:=.seq #[u2] }).update e (Zmg (·.setIfInBounds 0 (Zh4 hh.objs.size)))).get? b = some u:=fun b u hb z=>by
  rw [Zlm _ _ (Zif hb)]
  exact Zg6 _ z
 have hget : ((hh.push { cls:=.type "tuple", data:=.seq #[u2] }).update e (Zmg (·.setIfInBounds 0 (Zh4 hh.objs.size)))).get? e = some { cls:=.ref C,dict:=dd,data:=.fields #[.ref hh.objs.size,.none,.none,.none,.bool false,.none] }:=by
  rw [Zkt _ (Zg6 _ ho) rfl]
  rfl
 have J:=Inv.write (o:=ErrO e C dd) (t':=tk) I2 (by rw [he]; trivial) (.inl rfl) hk ⟨_,hget⟩ (zpq ⟨_,hget⟩)
 have eH : upd H2 e (ErrO e C dd) = H2:=by
  funext b
  by_cases hb : b = e
  ·subst hb; rw [zaj,he]
  ·rw [zam hb]
 rw [eH] at J
 cases t0 <;> first | exact Zkp (Zhc ⟨.non,H2,J,rfl,q⟩) | exact Zhc (Zhc ⟨.non,H2,J,rfl,q⟩)
end
end L2
namespace L2
open PySem PySem.W PySem.Spec PyProof.Rows PySem.Calls Builtin Builtin.ObjectAttr
noncomputable def yap : List Value->Bool
 | .ref _::r=>yap r
 | l=>l == vmro
structure XStore (K : Zgy) (C : Addr) (name : Str) : Prop where
 sa : findIn K (.ref C) "__setattr__" = some (some (.builtin "object.__setattr__"))
 nm : findIn K (.ref C) name = some none
 ob : mroIn K C (.type "object") = some true
 hd : hasDictIn K C = true
 tl : ((clsIn K C).any fun cd=>yap cd.mro) = true
theorem zqq (self : Value) : ∀ {l : List Value},yap l = true->refuseLoop self "__setattr__" l = pure ()
 | .ref c::r,e=>by rw [refuseLoop_ref]; exact zqq self e
 | [],e=>by cases e
 | .type n::r,e=>by rw [beq_iff_eq.mp (show ((Zom n::r) == vmro) = true from e)]; exact Zpg.passes self
 | .none::r,e=>by have:=beq_iff_eq.mp (show ((Zl8::r) == vmro) = true from e); cases this
 | .bool _::r,e=>by have:=beq_iff_eq.mp (show ((Zl9 _::r) == vmro) = true from e); cases this
 | .int _ _::r,e=>by have:=beq_iff_eq.mp (show ((Zj6 _ _::r) == vmro) = true from e); cases this
 | .float _ _::r,e=>by have:=beq_iff_eq.mp (show ((Zq6 _ _::r) == vmro) = true from e); cases this
 | .str _ _::r,e=>by have:=beq_iff_eq.mp (show ((Zpb _ _::r) == vmro) = true from e); cases this
 | .bytes _ _::r,e=>by have:=beq_iff_eq.mp (show ((Zq7 _ _::r) == vmro) = true from e); cases this
 | .builtin _::r,e=>by have:=beq_iff_eq.mp (show ((Value.builtin _::r) == vmro) = true from e); cases this
section
variable {prog : Zhz} {w : Zix} {A : Zh3} {E : Value->Zg5->Prop} {K : Zgy} {h : Heap} {g : Array Ztk} {d : Drawn} {t : Nat} {os : OsState} {e C : Addr} {oe : Obj} {name : Str} {v : Value}
theorem yc9 {Q : Unit->Zg5->Prop} (X : K.In h) (S : XStore K C name) (ho : h.get? e = some oe) (hc : oe.cls = .ref C) (hdn : oe.dict = none) (hnc : notCls oe = true) {vs : Array Value} (hdat : oe.data = .fields vs)
  (hq : ∀ h' tk,h'.get? e = some { oe with dict:=some h.objs.size }->h'.Ns1 h.objs.size (fun y=>if y = name then some v else none)->(∀ b o,b≠e->h.get? b = some o->h'.get? b = some o)->Q () ⟨h',g,d,tk,os⟩) :
  Zhs (Zh2 prog w) A (setAttr (.ref e) name v) Q E ⟨h,g,d,t,os⟩:=by
 have SF:=Zpg
 have I : InstAt h e oe C none:=⟨ho,hc,hnc,by rw [hdn]; trivial⟩
 obtain ⟨cd,hcl,htl⟩:=any_some S.tl
 obtain ⟨cd2,hcl2,hdd⟩:=any_some S.hd
 have e2 : cd = cd2:=Zit (hcl.symm.trans hcl2)
 subst e2
 refine set_plain (s:=⟨h,g,d,t,os⟩) X I S.sa ?_
 have sub : Looks (Zh2 prog w) h (Zpq (.ref e) (.type "object")) true:=I.type.andThen (looks_mroIn X S.ob)
 refine Zk9 SF.slot.plain SF.entry (@check_slot (Zh2 prog w) _ _ ⟨h,g,d,t + 1,os⟩ "object.__setattr__" "object" "__setattr__" (.ref e) [.str name t,v] [] _ SF.kind SF.split sub (SF.args (.ref e) (.str name t) v) ?_)
 have hm : Looks (Zh2 prog w) h (mroOf (.ref C)) cd.mro:=(looks_clsIn X hcl).andThen .now
 rw [osa_eq,refuse_eq]
 refine Zgz (Zgz (Looks.here (s:=⟨h,g,d,t + 1,os⟩) I.type (Zgz (Looks.here (s:=⟨h,g,d,t + 1,os⟩) hm ?_))))
 rw [zqq _ htl]
 refine Zhc (Zgz (Looks.here (s:=⟨h,g,d,t + 1,os⟩) I.type (Zgz (Looks.here (s:=⟨h,g,d,t + 1,os⟩) (looks_findIn X S.nm) (Zgz (Zhc ?_))))))
 show Zhs _ _ (storeInOwnDict (.ref e) (.ref C) (.str name t) name v false) _ _ _
 refine Zgz (Zhc (Zgz ?_))
 obtain ⟨oc,odi,oda,osl⟩:=oe
 dsimp only at hc hdn hdat hq
 subst hc hdn hdat
 refine Zgz (Zvo ho (Zgz (Looks.here (s:=⟨h,g,d,t + 1,os⟩) (looks_clsIn X hcl) ?_)))
 rw [hdd]
 rw [if_neg (by decide)]
 have ho1 : (h.push { cls:=.type "dict", data:=.dict #[] }).get? e = some (⟨.ref C,none,.fields vs,osl⟩ : Obj):=Zg6 _ ho
 have hes : e≠h.objs.size:=Zht (Zhf ho)
 show Zhs _ _ (alloc { cls:=.type "dict", data:=.dict #[] } >>= fun dx=>(update e fun o=>{ cls:=o.cls,dict:=some dx,data:=o.data,slots:=o.slots }) >>= fun _=>dictMade (.ref C) e dx) _ _ _
 refine Zgz (wpAny_alloc' ?_)
 refine Zgz (wpAny_update' ho1 ?_)
 refine Zhc ?_
 have hgd : ((h.push { cls:=.type "dict", data:=.dict #[] }).update e fun o=>{ cls:=o.cls,dict:=some h.objs.size,data:=o.data,slots:=o.slots }).get? h.objs.size = some { cls:=.type "dict", data:=.dict #[] }:=(Zmn _ _ _ _ hes.symm).trans (Zr7 rfl rfl)
 have hnd : ((h.push { cls:=.type "dict", data:=.dict #[] }).update e fun o=>{ cls:=o.cls,dict:=some h.objs.size,data:=o.data,slots:=o.slots }).Ns h.objs.size (fun _=>none):=⟨_,#[],_,hgd,rfl,fun _ z=>absurd z (by simp),fun _=>rfl⟩
 show Zhs _ _ (storeInDict h.objs.size (.str name t) name v) _ _ _
 unfold storeInDict newKeyGuard
 refine Zgz (Zhc (Zgz (wpAny_nsSet1 (Heap.Ns1.of_empty hnd) fun h' hn' hs=>?_)))
 obtain ⟨oD,esD,epD,hoD,hdD,hcD⟩:=hn'.count (Within.cons name v Within.nil)
 refine Zgz (wpAny_lookBehind hoD (by rw [hdD]; exact pastItsLine_dict (Zh1 hcD (by rw [Zjo,Zst,Zhm]; lia))) ?_)
 wp_walk
 refine hq h' _ ((hs.2 e hes).trans (Zkt _ ho1 rfl)) hn' fun b o hb z=>?_
 exact (hs.2 b (Zht (Zhf z))).trans ((Zmn _ _ _ _ hb).trans (Zg6 _ z))
end
noncomputable def zs6 (K : Zgy) (ta tv : TE) (f : Str) : TS:=fun D σ H=>tv σ H fun y H1=>ta σ H1 fun x H2=>∃ e C,x = .ref e/\H2 e = some (ErrO e C none)/\XStore K C f /\ ∀ dx,H2 dx = none->dx≠e->D.nx σ (upd (upd H2 e (ErrO e C (some dx))) dx (.xd [(f,y)]))
section
variable {X : Cx} {o value : Expr} {ta tv : TE} {f : Str} {pos' pos : Pos}
theorem zvn (ha : PE X o ta) (hv : PE X value tv) (hs : Zn4 value (some (.Attribute o f pos')) pos.line X.env = pure false) : PS X (.Assign [.Attribute o f pos'] value pos) (zs6 X.K ta tv f):=by
 intro pins s σ H D I h
 refine plainObj_wpAny_Assign_Attribute (thn (hv pins s σ H _ I h) fun u s1 ⟨y,H1,I1,ry,q⟩=>thn (ha pins s1 σ H1 _ I1 q) fun ov s2 hz9=>?_) hs
 obtain ⟨x,H2,I2,rx,e,C,ex,he,S,q2⟩:=hz9
 subst ex
 obtain rfl : ov = Zh4 e:=rx
 obtain ⟨t0,ho⟩ : zv2 e C none s2.heap:=(I2.hok e _ he).1
 obtain ⟨hh,g,d,tk,os⟩:=s2
 refine yc9 I2.kIn S ho rfl rfl rfl rfl fun h' tk' hget hns hk=>?_
 have hes : e≠hh.objs.size:=Zht (Zhf ho)
 have hmk : ∀ b u,b≠e->hh.get? b = some u->(hh.update e fun o=>{ cls:=o.cls,dict:=some hh.objs.size,data:=o.data,slots:=o.slots }).get? b = some u:=fun b u hb z=>(Zmn _ _ _ _ hb).trans z
 have hme : (hh.update e fun o=>{ cls:=o.cls,dict:=some hh.objs.size,data:=o.data,slots:=o.slots }).get? e = some { cls:=.ref C,dict:=some hh.objs.size,data:=.fields #[t0,.none,.none,.none,.bool false,.none] }:=Zkt _ ho rfl
 have I3:=Inv.write (o:=ErrO e C (some hh.objs.size)) (t':=tk') I2 (by rw [he]; trivial) (.inl rfl) hmk ⟨_,hme⟩ (zpq ⟨_,hme⟩)
 have hkk : ∀ b u,(hh.update e fun o=>{ cls:=o.cls,dict:=some hh.objs.size,data:=o.data,slots:=o.slots }).get? b = some u->h'.get? b = some u:=fun b u z=>by
  by_cases hb : b = e
  ·subst hb; rw [hme] at z; cases z; exact hget
  ·have z2:=(Zmn _ _ _ _ hb).symm.trans z
   exact hk b u hb z2
 have hsz : (hh.update e fun o=>{ cls:=o.cls,dict:=some hh.objs.size,data:=o.data,slots:=o.slots }).objs.size <= hh.objs.size:=by simp [Heap.update]
 have I4:=Inv.laid (a:=hh.objs.size) (o:=.xd [(f,y)]) (t':=tk') I3 hkk hsz ⟨_,hns,fun n=>?_⟩
 ·exact ⟨σ,_,I4,q2 _ (I2.hok.fresh (Zha _)) hes.symm⟩
 ·by_cases hn : n = f
  ·subst hn; simp [Zmj]; exact ry
  ·have : (n == f) = false:=by simpa using hn
   simp [Zmj,this,hn]; trivial
end
end L2
namespace L2
open PySem
noncomputable def RI (M : Znw) (Γ : _root_.PySem.Ctx) (p : Pos) (s : Zg5) (e : End) (s' : Zg5) : Sem Zoa->Prop
 | .pure (.done f)=>e = .ret (.ok f)/\s' = s
 | .raise x=>e = .ret (.error x)/\s' = s
 | .yield v g l k=>e = .susp v g l k Γ.code p []/\s' = s
 | .pure (.again c)=>_root_.PySem.Runs M (Γ.goto c) p (M.den c) [] s e s'
 | .rule _ k=>_root_.PySem.Runs M Γ p (k ()) [] s e s'
 | .at p' k=>_root_.PySem.Runs M Γ p' (k ()) [] s e s'
 | .load a _ k=>∃ o,s.heap.get? a = some o/\_root_.PySem.Runs M Γ p (k o) [] s e s'
 | .update a _ f k=>_root_.PySem.Runs M Γ p (k ()) [] { s with heap:=s.heap.update a f } e s'
 | .loadIfAlive a k=>_root_.PySem.Runs M Γ p (k (s.heap.get? a)) [] s e s'
 | .point _ k=>_root_.PySem.Runs M Γ p (k ()) [] s e s'
 | .alloc o k=>_root_.PySem.Runs M Γ p (k s.heap.objs.size) [] { s with heap:=s.heap.push o } e s'
 | .fresh k=>_root_.PySem.Runs M Γ p (k s.toks) [] { s with toks:=s.toks + 1 } e s'
 | .ask k=>_root_.PySem.Runs M Γ p (k ⟨M.prog,M.w.params⟩) [] s e s'
 | .choose src n k=>_root_.PySem.Runs M Γ p (k (M.w.draws src (s.drawn.get src) % n)) [] { s with drawn:=s.drawn.bump src } e s'
 | .os q _ k=>_root_.PySem.Runs M Γ p (k (Os.step s.os q).2) [] { s with os:=(Os.step s.os q).1 } e s'
 | .handled own k=>_root_.PySem.Runs M Γ p (k (if own then Γ.own else Γ.handled)) [] s e s'
 | .genState g k=>∃ st,s.gens[g]? = some st/\_root_.PySem.Runs M Γ p (k st.seen) [] s e s'
 | .stack k=>_root_.PySem.Runs M Γ p (k ((Γ.code,p)::Γ.below)) [] s e s'
 | .thread k=>_root_.PySem.Runs M Γ p (k 0) [] s e s'
 | .newGen c k=>_root_.PySem.Runs M Γ p (k s.gens.size) [] { s with gens:=s.gens.push (.fresh c) } e s'
 | .call c h g l k=>(∃ r s₁,_root_.PySem.Runs M (Γ.enter c h p) p (M.den c) [] s (.ret r) s₁/\_root_.PySem.Runs M Γ p (k r) [] s₁ e s') \/
   ∃ v g₀ l₀ k₀ c₀ p₀ fs,_root_.PySem.Runs M (Γ.enter c h p) p (M.den c) [] s (.susp v g₀ l₀ k₀ c₀ p₀ fs) s'/\e = .susp v g₀ l₀ k₀ c₀ p₀ (fs++[.ret k h g l Γ.code p []])
 | .resume g r _ k=>∃ res s₁,Zn8 M Γ p g r s res s₁/\_root_.PySem.Runs M Γ p (k res) [] s₁ e s'
 | _=>False
theorem zgp {M : Znw} {Γ : _root_.PySem.Ctx} {p : Pos} {g : Nat} {v : Value} {s s' : Zg5} {res : GenResult} {c : Code} (e1 : s.gens[g]? = some (.fresh c)) (hv : v ≠ .none) : Zn8 M Γ p g (.send v) s res s' ↔ res = .justStarted/\s' = s:=by
 unfold Zn8
 rw [e1]
 cases v with
 | none=>exact absurd rfl hv
 | _=>exact Zqy
theorem zcz {M : Znw} {Γ : _root_.PySem.Ctx} {p : Pos} {t : Sem Zoa} {s s' : Zg5} {e : End} (h : _root_.PySem.Runs M Γ p t [] s e s') : RI M Γ p s e s' t:=by
 cases h with
 | load e1 r=>exact ⟨_,e1,r⟩
 | genState e1 r=>exact ⟨_,e1,r⟩
 | call a b=>exact .inl ⟨_,_,a,b⟩
 | callSusp a=>exact .inr ⟨_,_,_,_,_,_,_,a,rfl⟩
 | done=>exact ⟨rfl,rfl⟩
 | raise=>exact ⟨rfl,rfl⟩
 | yield=>exact ⟨rfl,rfl⟩
 | resumeFresh e1 a q b=>exact ⟨_,_,by unfold Zn8; rw [e1]; exact ⟨_,_,a,q,rfl,rfl⟩,b⟩
 | resumeSuspended e1 a q b=>exact ⟨_,_,by unfold Zn8; rw [e1]; exact ⟨_,_,a,q,rfl,rfl⟩,b⟩
 | resumeJustStarted e1 n b=>exact ⟨_,_,(zgp e1 n).mpr ⟨rfl,rfl⟩,b⟩
 | resumeThrowFresh e1 b=>exact ⟨_,_,by unfold Zn8; rw [e1]; exact ⟨rfl,rfl⟩,b⟩
 | resumeRunning e1 b=>exact ⟨_,_,by unfold Zn8; rw [e1]; exact ⟨rfl,rfl⟩,b⟩
 | resumeFinished e1 b=>exact ⟨_,_,by unfold Zn8; rw [e1]; exact ⟨rfl,rfl⟩,b⟩
 | again _ r=>exact r
 | update _ r=>exact r
 | choose _ r=>exact r
 | rule r=>exact r
 | «at» r=>exact r
 | loadIfAlive r=>exact r
 | point r=>exact r
 | alloc r=>exact r
 | fresh r=>exact r
 | ask r=>exact r
 | os r=>exact r
 | handled r=>exact r
 | stack r=>exact r
 | thread r=>exact r
 | newGen r=>exact r
noncomputable def SG (M : Znw) (Γ : _root_.PySem.Ctx) (p : Pos) (t : Sem Zoa) (F : Frame) (fs : List Frame) (s : Zg5) (e : End) (s' : Zg5) : Prop :=
  (∃ k h' g l c₁ p₁ kp r s₁,F = .ret k h' g l c₁ p₁ kp/\_root_.PySem.Runs M (Γ.over (F::fs)) p t [] s (.ret r) s₁/\_root_.PySem.Runs M (Γ.goto c₁) p₁ (k r) fs s₁ e s') \/
  (∃ g k l c₁ p₁ r s₁,F = .gen g k l c₁ p₁/\_root_.PySem.Runs M (Γ.over (F::fs)) p t [] s (.ret r) s₁/\_root_.PySem.Runs M (Γ.goto c₁) p₁ (k (End.ret r).result) fs (s₁.setGen g .finished) e s') \/
  (∃ v g₀ l₀ k₀ c₀ p₀ fs₀,splitAtGen (F::fs) = none/\_root_.PySem.Runs M (Γ.over (F::fs)) p t [] s (.susp v g₀ l₀ k₀ c₀ p₀ fs₀) s'/\e = .susp v g₀ l₀ k₀ c₀ p₀ (fs₀++F::fs)) \/
  ∃ pre g k c₁ p₁ rest v g₀ l₀ k₀ c₀ p₀ fs₀ s₁,splitAtGen (F::fs) = some (pre,(g,k,c₁,p₁),rest)/\_root_.PySem.Runs M (Γ.over (F::fs)) p t [] s (.susp v g₀ l₀ k₀ c₀ p₀ fs₀) s₁/\_root_.PySem.Runs M (Γ.goto c₁) p₁ (k (.yielded v)) rest (s₁.setGen g (End.susp v g₀ l₀ k₀ c₀ p₀ (fs₀++pre)).genState) e s'
theorem zjq {M : Znw} {Γ : _root_.PySem.Ctx} {p : Pos} {t : Sem Zoa} {F : Frame} {fs : List Frame} {s s' : Zg5} {e : End} (h : _root_.PySem.Runs M Γ p t (F::fs) s e s') : SG M Γ p t F fs s e s':=by
 cases h with
 | segRet a b=>exact .inl ⟨_,_,_,_,_,_,_,_,_,rfl,a,b⟩
 | segGen a b=>exact .inr (.inl ⟨_,_,_,_,_,_,_,rfl,a,b⟩)
 | segSuspOut n a=>exact .inr (.inr (.inl ⟨_,_,_,_,_,_,_,n,a,rfl⟩))
 | segSuspGen n a _ b=>exact .inr (.inr (.inr ⟨_,_,_,_,_,_,_,_,_,_,_,_,_,_,n,a,b⟩))
theorem zl3 {M : Znw} {Γ : _root_.PySem.Ctx} {p : Pos} {t : Sem Zoa} {fs : List Frame} {s s' : Zg5} {e : End} (h : _root_.PySem.Runs M Γ p t fs s e s') :
  ∀ {e2 s2},_root_.PySem.Runs M Γ p t fs s e2 s2->e2 = e/\s2 = s':=by
 induction h with
 | done | raise | yield=>exact fun h2=>zcz h2
 | again _ _ ih | update _ _ ih | choose _ _ ih=>exact fun h2=>ih (zcz h2)
 | rule _ ih | «at» _ ih | loadIfAlive _ ih | point _ ih | alloc _ ih | fresh _ ih | ask _ ih | os _ ih | handled _ ih | stack _ ih | thread _ ih | newGen _ ih=>exact fun h2=>ih (zcz h2)
 | load e1 _ ih =>
  intro e2 s2 h2
  obtain ⟨o,e3,r⟩:=zcz h2
  cases e1.symm.trans e3
  exact ih r
 | genState e1 _ ih =>
  intro e2 s2 h2
  obtain ⟨o,e3,r⟩:=zcz h2
  cases e1.symm.trans e3
  exact ih r
 | call _ _ i1 i2 =>
  intro e2 s2 h2
  rcases zcz h2 with ⟨r,s1,a,b⟩ | ⟨v,g0,l0,k0,c0,p0,fs,a,_⟩
  ·obtain ⟨q,rfl⟩:=i1 a; cases q; exact i2 b
  ·cases (i1 a).1
 | callSusp _ i1 =>
  intro e2 s2 h2
  rcases zcz h2 with ⟨r,s1,a,b⟩ | ⟨v,g0,l0,k0,c0,p0,fs,a,e3⟩
  ·cases (i1 a).1
  ·obtain ⟨q,rfl⟩:=i1 a; cases q; exact ⟨e3,rfl⟩
 | resumeFresh e1 _ _ _ i1 i2 =>
  intro e2 s2 h2
  obtain ⟨res,s1,w,r⟩:=zcz h2
  unfold Zn8 at w
  rw [e1] at w
  obtain ⟨e3,s3,a,_,rfl,rfl⟩:=w
  obtain ⟨rfl,rfl⟩:=i1 a
  exact i2 r
 | resumeSuspended e1 _ _ _ i1 i2 =>
  intro e2 s2 h2
  obtain ⟨res,s1,w,r⟩:=zcz h2
  unfold Zn8 at w
  rw [e1] at w
  obtain ⟨e3,s3,a,_,rfl,rfl⟩:=w
  obtain ⟨rfl,rfl⟩:=i1 a
  exact i2 r
 | resumeJustStarted e1 n1 _ i1 =>
  intro e2 s2 h2
  obtain ⟨res,s1,w,r⟩:=zcz h2
  obtain ⟨rfl,rfl⟩:=(zgp e1 n1).mp w
  exact i1 r
 | resumeThrowFresh e1 _ i1 | resumeRunning e1 _ i1 | resumeFinished e1 _ i1 =>
  intro e2 s2 h2
  obtain ⟨res,s1,w,r⟩:=zcz h2
  unfold Zn8 at w
  rw [e1] at w
  obtain ⟨rfl,rfl⟩:=w
  exact i1 r
 | segRet _ _ i1 i2 =>
  intro e2 s2 h2
  rcases zjq h2 with ⟨k,h',g,l,c1,p1,kp,r,s1,q,a,b⟩ | ⟨g,k,l,c1,p1,r,s1,q,_⟩ | ⟨v,g0,l0,k0,c0,p0,f0,n,a,_⟩ | ⟨pre,g,k,c1,p1,rest,v,g0,l0,k0,c0,p0,f0,s1,n,a,_⟩
  ·cases q; obtain ⟨q,rfl⟩:=i1 a; cases q; exact i2 b
  ·cases q
  ·cases (i1 a).1
  ·cases (i1 a).1
 | segGen _ _ i1 i2 =>
  intro e2 s2 h2
  rcases zjq h2 with ⟨k,h',g,l,c1,p1,kp,r,s1,q,_⟩ | ⟨g,k,l,c1,p1,r,s1,q,a,b⟩ | ⟨v,g0,l0,k0,c0,p0,f0,n,a,_⟩ | ⟨pre,g,k,c1,p1,rest,v,g0,l0,k0,c0,p0,f0,s1,n,a,_⟩
  ·cases q
  ·cases q; obtain ⟨q,rfl⟩:=i1 a; cases q; exact i2 b
  ·cases (i1 a).1
  ·cases (i1 a).1
 | segSuspOut n1 _ i1 =>
  intro e2 s2 h2
  rcases zjq h2 with ⟨k,h',g,l,c1,p1,kp,r,s1,q,a,b⟩ | ⟨g,k,l,c1,p1,r,s1,q,a,b⟩ | ⟨v,g0,l0,k0,c0,p0,f0,n,a,e3⟩ | ⟨pre,g,k,c1,p1,rest,v,g0,l0,k0,c0,p0,f0,s1,n,a,_⟩
  ·cases (i1 a).1
  ·cases (i1 a).1
  ·obtain ⟨q,rfl⟩:=i1 a; cases q; exact ⟨e3,rfl⟩
  ·rw [n1] at n; cases n
 | segSuspGen n1 _ _ _ i1 i2 =>
  intro e2 s2 h2
  rcases zjq h2 with ⟨k,h',g,l,c1,p1,kp,r,s1,q,a,b⟩ | ⟨g,k,l,c1,p1,r,s1,q,a,b⟩ | ⟨v,g0,l0,k0,c0,p0,f0,n,a,e3⟩ | ⟨pre,g,k,c1,p1,rest,v,g0,l0,k0,c0,p0,f0,s1,n,a,b⟩
  ·cases (i1 a).1
  ·cases (i1 a).1
  ·rw [n1] at n; cases n
  ·rw [n1] at n; cases n; obtain ⟨q,rfl⟩:=i1 a; cases q; exact i2 b
theorem zvs {M : Znw} {Γ : _root_.PySem.Ctx} {p : Pos} {g : Nat} {r : Resume} {s s' s2 : Zg5} {res res2 : GenResult} (h : Zn8 M Γ p g r s res s') (h2 : Zn8 M Γ p g r s res2 s2) : res2 = res/\s2 = s':=by
 cases hg : s.gens[g]? with
 | none=>unfold Zn8 at h; rw [hg] at h; exact h.elim
 | some gs =>
  cases gs with
  | fresh c =>
   cases r with
   | send v =>
    by_cases hv : v = .none
    ·subst hv
     unfold Zn8 at h h2
     rw [hg] at h h2
     obtain ⟨e1,s1,h1,_,rfl,rfl⟩:=h
     obtain ⟨e3,s3,h3,_,rfl,rfl⟩:=h2
     obtain ⟨rfl,rfl⟩:=zl3 h1 h3
     exact ⟨rfl,rfl⟩
    ·obtain ⟨rfl,rfl⟩:=(zgp hg hv).mp h
     exact (zgp hg hv).mp h2
   | throw x =>
    unfold Zn8 at h h2
    rw [hg] at h h2
    obtain ⟨rfl,rfl⟩:=h; exact h2
  | suspended k0 _ c0 p0 fs _ =>
   unfold Zn8 at h h2
   rw [hg] at h h2
   obtain ⟨e1,s1,h1,_,rfl,rfl⟩:=h
   obtain ⟨e3,s3,h3,_,rfl,rfl⟩:=h2
   obtain ⟨rfl,rfl⟩:=zl3 h1 h3
   exact ⟨rfl,rfl⟩
  | running =>
   unfold Zn8 at h h2
   rw [hg] at h h2
   obtain ⟨rfl,rfl⟩:=h; exact h2
  | finished =>
   unfold Zn8 at h h2
   rw [hg] at h h2
   obtain ⟨rfl,rfl⟩:=h; exact h2
theorem ybr {α : Type} {M : Znw} {Γ : _root_.PySem.Ctx} {Q Q' : α->Pos->Zg5->Prop} {E E' : Value->Pos->Zg5->Prop} (t : Sem α) : ∀ (p : Pos) (s : Zg5),Zv4 M Γ t Q E p s->Zv4 M Γ t Q' E' p s ->
  Zv4 M Γ t (fun a p s=>Q a p s/\Q' a p s) (fun e p s=>E e p s/\E' e p s) p s:=by
 induction t with
 | pure x=>exact fun p s h h'=>⟨h,h'⟩
 | raise v=>exact fun p s h h'=>⟨h,h'⟩
 | unsupported | finish | yield | fork | await | register=>exact fun p s h h'=>h
 | rule _ k ih | «at» _ k ih | alloc _ k ih | loadIfAlive _ k ih | point _ k ih | ask k ih | os _ _ k ih | handled _ k ih | newGen _ k ih | stack k ih | thread k ih | fresh k ih=>exact fun p s h h'=>ih _ _ _ h h'
 | load a _ k ih | genState a k ih=>exact fun p s ⟨o,ho,h⟩ ⟨o',ho',h'⟩=>by rw [ho] at ho'; cases ho'; exact ⟨o,ho,ih _ _ _ h h'⟩
 | update a _ f k ih | choose _ _ k ih=>exact fun p s ⟨ha,h⟩ ⟨_,h'⟩=>⟨ha,ih _ _ _ h h'⟩
 | call c h g l k ih=>exact fun p s ⟨r,s1,h1,h2⟩ ⟨r',s1',h1',h2'⟩=>by obtain ⟨q,rfl⟩:=zl3 h1 h1'; cases q; exact ⟨_,_,h1,ih _ _ _ h2 h2'⟩
 | resume g r l k ih=>exact fun p s ⟨res,s1,hw,h⟩ ⟨res',s1',hw',h'⟩=>by obtain ⟨rfl,rfl⟩:=zvs hw hw'; exact ⟨_,_,hw,ih _ _ _ h h'⟩
theorem zey {α : Type} {t : Sem α} {Q Q' : α->Zg5->Prop} {M : Znw} {A : Zh3} {E E' : Value->Zg5->Prop} {s : Zg5} (h : Zhs M A t Q E s) (h' : Zhs M A t Q' E' s) : Zhs M A t (fun a s=>Q a s/\Q' a s) (fun e s=>E e s/\E' e s) s :=
 fun Γ p hΓ=>ybr t p s (h Γ p hΓ) (h' Γ p hΓ)
end L2
namespace L2
open PySem PySem.W PySem.Spec PyProof.Rows
noncomputable def fld2 (o : Obj) : Option Value:=match o.data with
 | .fields vs=>vs[2]?
 | _=>none
noncomputable def DK (h h' : Heap) : Prop:=∀ b o,h.get? b = some o -> ∃ o',h'.get? b = some o'/\o'.dict = o.dict/\fld2 o' = fld2 o
theorem DK.trans {h1 h2 h3 : Heap} (x : DK h1 h2) (y : DK h2 h3) : DK h1 h3:=fun b o e=>by
 obtain ⟨o1,e1,q1,r1⟩:=x b o e
 obtain ⟨o2,e2,q2,r2⟩:=y b o1 e1
 exact ⟨o2,e2,q2.trans q1,r2.trans r1⟩
theorem yax (h : Heap) (o : Obj) : DK h (h.push o):=fun b u e=>⟨u,Zg6 _ e,rfl,rfl⟩
theorem zle (g : Array Value->Array Value) (o : Obj) : (Zmg g o).dict = o.dict:=by
 obtain ⟨c,d,da,sl⟩:=o
 cases da <;> rfl
theorem zk5 {h : Heap} {a : Addr} {o : Obj} {vs : Array Value} (k : Nat) (v : Value) (ho : h.get? a = some o) (hd : o.data = .fields vs) (hk : k≠2) : DK h (h.update a (Zmg (·.setIfInBounds k v))):=fun b u e=>by
 by_cases hb : b = a
 ·subst hb
  rw [ho] at e; cases e
  have hg:=Obj.data_mapFields hd (·.setIfInBounds k v)
  refine ⟨_,Zkt (Zmg (·.setIfInBounds k v)) ho (Obj.isFreed_of_fields hg),zle _ o,?_⟩
  unfold fld2
  rw [hg,hd]
  show (vs.setIfInBounds k v)[2]? = vs[2]?
  exact Array.getElem?_setIfInBounds_ne hk
 ·exact ⟨u,(Zlm _ _ (Zif hb)).trans e,rfl,rfl⟩
section
variable {M : Znw} {A : Zh3} {E : Value->Zg5->Prop} {s : Zg5} {B : Heap} {env : Env} {outer : List Env} {L e : Addr}
theorem zq6 {oe : Obj} {vs : Array Value} {head : Value} {hn : Bool} (q1 : A.frames = some (env::outer)) (q2 : s.heap.FunFrames B (env::outer)) (q3 : env.frame = some L) (q4 : s.heap.get? e = some oe) (q5 : oe.data = .fields vs) (q6 : 1 < vs.size) :
  Zhs M A (do let a <- frameOf env; let pl <- entryPlaceOf L hn; let b <- Zp9 head a .none (Zsj L) .none pl; setField (.ref e) 1 b) (fun _ s'=>DK s.heap s'.heap) E s:=by
 have ne : e ∉ (env::outer).filterMap (·.frame):=fun z=>by
  obtain ⟨_,o,ho,nf⟩:=q2.mem z
  rw [q4] at ho; cases ho; exact nf vs q5
 refine Zgz (wpAny_frameOf_fun q1 q2 q3 fun g kk=>Zgz (wpAny_entryPlaceOf fun pl hp=>?_))
 unfold Zp9 newFields
 have k1 : DK s.heap g:=fun b o z=>by obtain ⟨sl,z2⟩:=kk.2.2 b o z; exact ⟨_,z2,rfl,rfl⟩
 have k2 : g.get? e = some oe:=(kk.2.1 e ne).trans q4
 exact Zgz (Zk5 (Zoq (Zg6 _ k2) q5 q6 (k1.trans ((yax _ _).trans (zk5 _ _ (Zg6 _ k2) q5 (by decide))))) (hp.sizeOk5 _ _ _ _ _))
theorem zzf {oe : Obj} {vs : Array Value} (q1 : A.frames = some (env::outer)) (q2 : s.heap.FunFrames B (env::outer)) (q3 : env.frame = some L) (q4 : s.heap.get? e = some oe) (q5 : oe.data = .fields vs) (q6 : vs[1]? = some .none) :
  Zhs M A (Zmd (.ref e) env) (fun _ s'=>DK s.heap s'.heap) E s:=by
 unfold Zmd
 simp only [q3]
 refine Zgz (Zlh q4 q5 q6 ?_)
 rw [if_neg (by decide)]
 exact zq6 q1 q2 q3 q4 q5 (Zj4.mp q6).1
theorem zzg {C a0 : Value} (q1 : A.frames = some (env::outer)) (q2 : s.heap.FunFrames B (env::outer)) (q3 : env.frame = some L) (q4 : s.heap.TracedW B e C a0) : Zhs M A (Zmd (.ref e) env) (fun _ s'=>DK s.heap s'.heap) E s:=by
 obtain ⟨oe,vs,T,oT,ts,he,⟨_,_⟩,hd,h1,hnT,hTe,hT,hdT,h3⟩:=q4
 unfold Zmd
 simp only [q3]
 refine Zgz (Zlh he hd h1 ?_)
 rw [if_pos (by simp)]
 refine Zgz (Zlh hT hdT h3 ?_)
 rw [if_neg (by simp [Zsj])]
 have k1:=zk5 3 Zl8 hT hdT (by decide)
 refine Zgz (Zoq hT hdT (Zj4.mp h3).1 ?_)
 have oth : ∀ b,b≠T->(s.heap.update T (Zmg (·.setIfInBounds 3 Zl8))).get? b = s.heap.get? b:=fun b hb=>Zlm _ _ (Zif hb)
 have nr : ∀ b o,s.heap.get? b = some o->(∀ vs,o.data ≠ .fields vs)->b≠T:=fun b o hb nf q=>by rw [q,hT] at hb; cases hb; exact nf ts hdT
 exact thn (zq6 q1 (q2.of_keeps fun b o hb nf=>⟨o,(oth b (nr b o hb nf)).trans hb,rfl⟩) q3 ((oth e (Zif hTe)).trans he) hd (Zj4.mp h1).1) fun _ _ k=>k1.trans k
theorem zv8 {C a0 fl : Value} (q4 : s.heap.TracedAtW B e C a0 fl) : Zhs M A (Zo5 (.ref e) none) (fun _ s'=>DK s.heap s'.heap) E s:=by
 obtain ⟨oe,vs,T,oT,ts,he,_,hd,h1,_,_,hT,hdT,h3⟩:=q4
 unfold Zo5
 refine Zgz (Zlh he hd h1 ?_)
 rw [if_pos (by simp)]
 exact Zoq hT hdT (Zj4.mp h3).1 (zk5 _ _ hT hdT (by decide))
end
end L2
namespace L2
open PySem PySem.W PyProof.Rows
theorem yad {X : Cx} {st : Stmt} {t : TS} (h : PS X.nox st t) : PS X st t:=fun pins s σ H D I hw =>
 Zid (h pins s σ H D (I.wish _) hw) (fun _ _ q=>q.unwish) fun _ _ z=>Zjc z
end L2
namespace L2
open PySem PySem.W PySem.Spec PyProof.Rows
noncomputable def ztl (c : Bool) (h : Heap) (e : Addr) (dd : Option Addr) : Prop:=∃ o,h.get? e = some o/\o.dict = dd/\(c = true->fld2 o = some .none)
theorem DK.is {c : Bool} {h h' : Heap} {e : Addr} {dd : Option Addr} (k : DK h h') (x : ztl c h e dd) : ztl c h' e dd:=by
 obtain ⟨o,e1,q,r⟩:=x
 obtain ⟨o',e2,q2,r2⟩:=k e o e1
 exact ⟨o',e2,q2.trans q,fun z=>r2.trans (r z)⟩
section
variable {M : Znw} {A : Zh3} {E : Value->Zg5->Prop} {s : Zg5} {B : Heap} {env : Env} {outer : List Env} {L e : Addr} {C a0 : Value} {Q : Unit->Zg5->Prop}
theorem zzd {h0 : Heap} {m : Sem Unit} (hm : Zhs M A m (fun _ s'=>(∃ fl,s'.heap.TracedAtW B e C a0 fl)/\DK h0 s'.heap) E s) : Zhs M A (m >>= fun _=>Zo5 (.ref e) none) (fun _ s'=>DK h0 s'.heap) E s :=
 Zgz (Zid hm (fun _ s1 ⟨⟨fl,t⟩,k⟩=>Zid (zv8 t) (fun _ _ k2=>k.trans k2) fun _ _ z=>z) fun _ _ z=>z)
theorem zmf {oe : Obj} {vs : Array Value} (q1 : A.frames = some (env::outer)) (q2 : s.heap.FunFrames B (env::outer)) (q3 : env.frame = some L) (q4 : s.heap.get? e = some oe) (qb : B.StaysIn s.heap) (qe : B.get? e = none) (q5 : oe.data = .fields vs) (q6 : vs[1]? = some .none)
  (q7 : vs[0]? = some a0) (h : ∀ h',Zku B outer e oe.cls a0 h'->s.heap.UpToSlots h'->DK s.heap h'->Q () { s with heap:=h' }) : Zhs M A (leaving env (.ref e)) Q E s:=by
 refine Zid (zey (wpAny_leaving_firstW (Q:=fun _ s'=>∃ h',s' = { s with heap:=h' }/\Heap.LeftW B (env::outer) e oe.cls a0 s.heap h') (E:=E) q1 q2 q3 q4 qb qe q5 q6 q7 fun h' a=>⟨h',rfl,a⟩) (zzd (E:=E) (C:=oe.cls) (a0:=a0) (B:=B) (m:=Zmd (.ref e) env)
  (Zid (zey (Q:=fun _ s'=>∃ fl,s'.heap.TracedAtW B e oe.cls a0 fl) (E:=E) ?_ (zzf (E:=E) q1 q2 q3 q4 q5 q6)) (fun _ _ z=>z) fun _ _ z=>z.1))) (fun _ s' z=>?_) fun _ _ z=>z.1
 ·unfold Zmd
  simp only [q3]
  refine Zgz (Zlh q4 q5 q6 ?_)
  rw [if_neg (by decide)]
  exact wpAny_entryW q1 q2 q3 q4 qb qe q5 (Zj4.mp q6).1 q7 fun h' n=>⟨_,n.2.2.1⟩
 ·obtain ⟨⟨h',rfl,k1,⟨_,_,k2⟩,k3,k4⟩,k⟩:=z
  exact h h' ⟨k1,qe,k2,k3⟩ k4 k
theorem ztb (q1 : A.frames = some (env::outer)) (q3 : env.frame = some L) (fl : Zku B (env::outer) e C a0 s.heap) (h : ∀ h',Zr8 B (env::outer) e C a0 L h'->s.heap.UpToSlots h'->DK s.heap h'->Q () { s with heap:=h' }) :
  Zhs M A (Zmd (.ref e) env) Q E s:=by
 refine Zid (zey (wpAny_looks_onW (Q:=fun _ s'=>∃ h',s' = { s with heap:=h' }/\Zr8 B (env::outer) e C a0 L h'/\s.heap.UpToSlots h') (E:=E) q1 q3 fl fun h' a b=>⟨h',rfl,a,b⟩) (zzg (E:=E) q1 fl.2.2.1 q3 fl.2.2.2)) (fun _ s' z=>?_) fun _ _ z=>z.1
 obtain ⟨⟨h',rfl,a,b⟩,k⟩:=z
 exact h h' a b k
theorem yfi {l : List Env} (hh : Zr8 B l e C a0 L s.heap) (h : ∀ h',Zku B l e C a0 h'->s.heap.UpToSlots h'->DK s.heap h'->Q () { s with heap:=h' }) : Zhs M A (Zo5 (.ref e) none) Q E s:=by
 refine Zid (zey (wpAny_landsW (Q:=fun _ s'=>∃ h',s' = { s with heap:=h' }/\Zku B l e C a0 h'/\s.heap.UpToSlots h') (E:=E) hh fun h' a b=>⟨h',rfl,a,b⟩) (zv8 (E:=E) hh.2.2.2)) (fun _ s' z=>?_) fun _ _ z=>z.1
 obtain ⟨⟨h',rfl,a,b⟩,k⟩:=z
 exact h h' a b k
end
noncomputable def CXB (c : Bool) (P : Zhz) (w : Zix) : CXT:=fun outer H s E e s'=>∃ (x C : Addr) (a0 : Value) (B : Heap) (H' : Hp) (dd : Option Addr),e = .ref x/\s'.os = s.os/\Zob s'.gens/\Un (frs outer) [] H H' s.heap s'.heap/\HOk P w H' s'.heap /\
 Zku B outer x (.ref C) a0 s'.heap/\(∀ b o,s.heap.get? b = some o->b ∉ frs outer -> ∃ o',B.get? b = some o')/\(∀ b u,H' b = some u -> ∃ o',B.get? b = some o')/\s.heap.get? x = none/\H' x = none/\ztl c s'.heap x dd/\E (.ref C) dd H'
noncomputable abbrev CX2:=CXB false
noncomputable def del (H : Hp) (e : Addr) : Hp:=fun b=>if b = e then none else H b
theorem zjm {H : Hp} {e : Addr} : del H e e = none:=by unfold del; rw [if_pos rfl]
theorem zhp {H : Hp} {e b : Addr} (h : b≠e) : del H e b = H b:=by unfold del; rw [if_neg h]
theorem zrr {H : Hp} {e b : Addr} {u : HO} (h : del H e b = some u) : b≠e/\H b = some u:=by
 by_cases hb : b = e
 ·rw [hb,zjm] at h; cases h
 ·rw [zhp hb] at h; exact ⟨hb,h⟩
section
variable {c : Bool} {P : Zhz} {w : Zix} {K : Zgy} {mg : Str->Option Value} {base : Heap} {N : List Str} {qual : Str} {scope : Scope} {f : Addr} {cd : Value} {A : Zh3} {outer : List Env} {s : Zg5} {H : Hp} {E : XK}
theorem Un.del {fs : List Addr} {H H1 : Hp} {h h2 : Heap} {e : Addr} (U : Un fs [] H H1 h h2) (he : H e = none) : Un fs [] H (L2.del H1 e) h h2 where
 keep:=U.keep
 slot:=U.slot
 free:=fun b o q n hx=>by
  by_cases hb : b = e
  ·rw [hb]; exact zjm
  ·rw [zhp hb]; exact U.free b o q n hx
 there:=U.there
 tups:=fun b xs q=>by rw [zhp (zat q he)]; exact U.tups b xs q
 frzs:=fun b o u q=>by rw [zhp (zat q he)]; exact U.frzs b o u q
 tbls:=fun b ps q=>by obtain ⟨m,z⟩:=U.tbls b ps q; exact ⟨m,by rw [zhp (zat q he)]; exact z⟩
theorem HOk.del {H : Hp} {h : Heap} {e : Addr} {φ : Heap->Prop} (hok : HOk P w H h) (he : H e = some (.ext φ)) : HOk P w (L2.del H e) h:=fun b u q=>by
 obtain ⟨hb,q⟩:=zrr q
 refine (hok b u q).stay (fun _ _ _ z=>z) (fun c z=>?_) (fun c xs z=>?_) fun c o u z=>by rw [zhp (zyb z he (by intro z; cases z))]; exact z
 ·rw [zhp (zyb z he (by intro z; cases z))]; exact z
 ·rw [zhp (zyb z he (by intro z; cases z))]; exact z
end
noncomputable def zza (h : Heap) (C : Addr) (bm : List Value) : Prop:=∃ nm q N bs hdct sn sub ab col dd k0 k1 k2 k3 k5 newId,h.get? C = some (Zqt nm q C N bs bm hdct sn sub ab col dd k0 k1 k2 k3 k5 newId)
section
variable {M : Znw} {A : Zh3} {E : Value->Zg5->Prop} {env : Env}
theorem zsv {s : Zg5} {x : Sem Value} {Q : Flow->Zg5->Prop} (hh : A.handled = none)
  (h : Zhs M A x (fun v s1=>∃ e t de C bm,v = .ref e/\zza s1.heap C bm/\bm.contains (.type "BaseException") = true /\
   s1.heap.get? e = some { cls:=.ref C,dict:=de,data:=.fields #[t,.none,.none,.none,.bool false,.none] }/\E (.ref e) s1) E s) :
  Zhs M A (Zvf env (some x) none) Q E s:=by
 unfold Zvf
 refine Zgz (Zid h (fun v s1 h1=>?_) fun _ _ x=>x)
 obtain ⟨e,t,de,C,bm,rfl,⟨_,_,_,_,_,_,_,_,_,_,_,_,_,_,_,_,hC⟩,hb,he,hE⟩:=h1
 have hB : (Zh4 C::bm).contains (.type "BaseException") = true:=by rw [List.contains_cons,hb,Zuh]
 obtain ⟨hp,g,d,tk,os⟩:=s1
 repeat (first | with_reducible refine Zl6 he ?_ | with_reducible refine Zl6 hC ?_ | (with_reducible refine Zsv hC ?_; rw [hB]) | wp_step)
 exact wpAny_raiseNew_none hh hE
end
noncomputable def ztc (K : Zgy) (E : XK) (H₀ : Hp) (te : TE) : TS:=fun _ σ H=>te σ H fun v H1=>∃ e C dd,v = .ref e/\H1 e = some (ErrO e C dd)/\H₀ e = none/\(∃ fI,zpa K C fI)/\E (.ref C) dd (del H1 e)
section
variable {c : Bool} {P : Zhz} {w : Zix} {K : Zgy} {mg : Str->Option Value} {base : Heap} {N : List Str} {qual : Str} {scope : Scope} {f : Addr} {cd : Value} {A : Zh3} {outer : List Env} {s : Zg5} {H : Hp} {E : XK}
theorem yb4 {pins : List (Addr × Obj)} {σ : St} {H2 : Hp} {s2 : Zg5} {e C : Addr} {dd : Option Addr} {oe : Obj} {vs : Array Value} {φ : Heap->Prop} {a0 : Value} (I2 : Inv (cxOf (CXB c P w) P w K mg base N qual scope f cd A outer s H E) pins σ H2 s2) (he : H2 e = some (.ext φ)) (hn : H e = none)
  (ho : s2.heap.get? e = some oe) (hc : oe.cls = .ref C) (hd : oe.dict = dd) (hv : oe.data = .fields vs) (h1 : vs[1]? = some .none) (h0 : vs[0]? = some a0) (h2 : c = true->vs[2]? = some .none) (q : E (.ref C) dd (del H2 e)) :
  (cxOf (CXB c P w) P w K mg base N qual scope f cd A outer s H E).xe (.ref e) s2:=by
 have thr : ∀ b o,s.heap.get? b = some o -> ∃ o1,s2.heap.get? b = some o1:=fun b o e=>I2.base.there b o e (fun z=>nomatch z)
 have stk : s2.heap.FunFrames base (Zlj qual scope s.heap.objs.size f cd::outer):=I2.stack
 have nx : s.heap.get? e = none:=by
  cases z : s.heap.get? e with
  | none=>rfl
  | some o =>
   have:=I2.base.free e o z hn (fun z=>nomatch z)
   rw [he] at this; cases this
 generalize hfr : (Zlj qual scope s.heap.objs.size f cd::outer).filterMap (·.frame) = fr
 have hin : ∀ env∈(Zlj qual scope s.heap.objs.size f cd::outer),∀ b,env.frame = some b->b∈e::fr:=fun env hz b hb=>Zhd _ (by rw [<- hfr]; exact Zoh.mpr ⟨env,hz,hb⟩)
 have hfs : frs (Zlj qual scope s.heap.objs.size f cd::outer) = fr:=hfr
 generalize hB : hideAll s2.heap (e::fr) = B
 have bst : B.StaysIn s2.heap:=fun b o e=>by rw [<- hB] at e; exact of_hideAll _ e
 have bget : ∀ b o,s2.heap.get? b = some o->b ∉ e::fr->B.get? b = some o:=fun b o e hb=>by rw [<- hB]; exact hideAll_get _ e hb
 have bff : s2.heap.FunFrames B (Zlj qual scope s.heap.objs.size f cd::outer):=by rw [<- hB]; exact funFrames_hide stk hin
 have be : B.get? e = none:=by rw [<- hB]; exact hideAll_none _ (Zhl ..)
 have c1 : ∀ b o,s.heap.get? b = some o->b ∉ frs outer -> ∃ o',B.get? b = some o':=fun b o z hb=>by
  obtain ⟨o1,e1⟩:=thr b o z
  refine ⟨o1,bget b o1 e1 fun k=>?_⟩
  rcases Zhp.mp k with k | k
  ·rw [k,nx] at z; cases z
  ·have k : b∈s.heap.objs.size::frs outer:=by rw [<- hfs] at k; exact k
   rcases Zhp.mp k with k | k
   ·exact absurd (Zhf z) (by rw [k]; exact Zh6 _)
   ·exact hb k
 have tin : ∀ b u,del H2 e b = some u -> ∃ o',B.get? b = some o':=fun b u z=>by
  obtain ⟨hb,z⟩:=zrr z
  obtain ⟨o,ho⟩ : ∃ o,s2.heap.get? b = some o:=(I2.hok b u z).there
  refine ⟨o,bget b o ho fun k=>?_⟩
  rcases Zhp.mp k with k | k
  ·exact hb k
  ·have:=I2.stkFree b (by rw [<- hfs] at k; exact k)
   rw [z] at this; cases this
 refine zmf I2.ok.frames bff rfl ho bst be hv h1 h0 fun h3 fl3 up dk=>?_
 rw [hc] at fl3
 refine ⟨e,C,a0,B,del H2 e,dd,rfl,I2.os,I2.bare,?_,(I2.hok.del he).fly tin bst fl3.1,fl3,c1,tin,nx,zjm,dk.is ⟨oe,ho,hd,fun z=>by unfold fld2; rw [hv]; exact h2 z⟩,q⟩
 exact Un.fly (B:=B) (I2.base.del hn) bst fl3.1 c1 up fun b hb=>(stk.mem (b:=b) (Zhd _ hb)).2
theorem zt5 {x : Expr} {te : TE} {pos : Pos} (hp : PE (cxOf (CXB c P w) P w K mg base N qual scope f cd A outer s H E) x te) : PS (cxOf (CXB c P w) P w K mg base N qual scope f cd A outer s H E) (.Raise (some x) none pos) (ztc K E H te):=by
 intro pins s1 σ H1 D I h
 have W:=hp pins s1 σ H1 _ I h
 show Zhs _ _ (do Zrp pos; Zvf _ (some (do let v <- eval x _; Zrp pos; pure v)) none) _ _ s1
 refine Zgz (Zms (zsv (I.ok.hd rfl) (Zgz (thn W fun v s2 ⟨u,H2,I2,ru,e,C,dd,eu,he,hn,⟨fI,hx⟩,q⟩=>Zgz (Zms (Zhc ?_))))))
 subst eu
 obtain rfl : v = Zh4 e:=ru
 obtain ⟨tl,Na,nm,q',bs,hdct,sn,sub,ab,col,dc,k0,k1,k2,k3,k5,mN,hC,hN,hni,T⟩:=zmv I2.kIn hx
 obtain ⟨t0,ho⟩ : zv2 e C dd s2.heap:=(I2.hok e _ he).1
 exact ⟨e,t0,dd,C,tl,rfl,⟨_,_,_,_,_,_,_,_,_,_,_,_,_,_,_,_,hC⟩,T.hasType Zjl.hasBase,ho,yb4 I2 he hn ho rfl rfl rfl rfl rfl (fun _=>rfl) q⟩
end
noncomputable def zwf (C : Addr) (sp : Sp) (E : XK) (t : TA) : TE:=fun σ H Q=>t σ H fun vs H1=>∀ e,H1 e = none->sp (.ref e::vs) (upd H1 e (ErrO e C none)) (fun v H2=>v = .non/\Q (.ref e) H2) E
structure XMk (K : Zgy) (C f : Addr) : Prop where
 cls : zpa K C f
 fn : Zof K (.ref f) = true
 kp : Zj7 K (.ref C) = true
section
variable {X : Cx} {CX : CXT} {k : Nat} {f C : Addr} {fd : Zjq} {ps : List Str} {sp : Sp} {E : XK} {x : Str} {p pos : Pos} {e : Expr} {es : List Expr} {t : TA}
theorem zte (M : XMk X.K C f) (F : FnOk X.prog X.w X.K X.mg X.base CX k f fd ps sp) (hr : Room (k + 1) X.A) (hg : Gl X x) (hm : X.mg x = some (.ref C)) (hb : zk6 X.K fd ps []) (hx : zqe CX X E)
  (ha : PA X (e::es) t) (hsz : ps.length <= 100) (hdb : (x == ("__debug__" : Str)) = false:=by decide) (he : Zic (e::es) X.env = (false,eval e X.env)::Zic es X.env:=by rfl) (hpl : (Zmf pos (Zic es X.env)).any (·.1) = false:=by rfl) :
  PE X (.Call (.Name x p) (e::es) [] pos) (zwf C sp E t):=by
 intro pins s σ H Q I h
 refine Zkd (zkp I hg hm ?_ hdb)
 refine Znv (h₀:=X.base) I.ok.mod.kin M.kp (thn (ha pos pins s σ H _ I h) fun us s1 ⟨vs,H1,I1,r,q⟩=>⟨I1.kIn,?_⟩) he hpl
 obtain ⟨tl,Na,nm,q',bs,hdct,sn,sub,ab,col,dc,k0,k1,k2,k3,k5,mN,hC,hN,hni,T⟩:=zmv I1.kIn M.cls
 obtain ⟨oI,hoI,hcI⟩:=Zjz.mp (beq_iff_eq.mp M.fn)
 obtain ⟨hh,g,d,tk,os⟩:=s1
 refine zs2 Zjl (by decide) Zjl T hC hN hni (I1.kIn f oI hoI) hcI (fun h' e' hs hmd=>?_) ?_
 ·have I2:=Inv.errMade (s:=⟨hh,g,d,tk,os⟩) (C:=C) I1 hs hmd
  have hq:=q e' (I1.hok.fresh hs)
  have r2 : Vals (V.ref e'::vs) (Zh4 e'::us):=.cons rfl r
  have hl : (Zh4 e'::us++[]).length = ps.length:=by
   have z:=r2.length
   rw [F.len _ _ _ _ hq] at z
   rw [Zik]; exact z.symm
  have hb':=hb ⟨h',g,d,tk,os⟩ (Zh4 e'::us) I2.kIn hl
  rw [Zik] at hb'
  refine Zmy (Zn7 (F.run _ X.stack _ _ ⟨Zh4 e'::us,[]⟩ (Zh4 e'::us) _ _ E (hr.make C us []) (I2.env0.make C us []) hb' r2 hq) fun r s' hq'=>?_)
  cases r with
  | error e=>exact hx pins σ _ _ e s' I2 hq'
  | ok fl =>
   cases fl with
   | ret u =>
    obtain ⟨v,H',I3,rv,ev,q3⟩:=I2.after hq'
    subst ev
    exact ⟨rv,⟨V.ref e',H',I3,rfl,q3⟩⟩
   | next=>exact Zjc hq'
   | brk=>exact Zjc hq'
   | cont=>exact Zjc hq'
 ·have z:=q hh.objs.size (I1.hok.fresh (Zha _))
  have z2:=F.len _ _ _ _ z
  have z3 : vs.length + 1 = ps.length:=z2
  have z4:=r.length
  rw [Zhm,Zpj]; lia
end
theorem zmw {M : Znw} {A : Zh3} {E : Value->Zg5->Prop} {s : Zg5} {B : Heap} {l : List Env} {e : Addr} {C a0 : Value} {Q : Unit->Zg5->Prop} (fl : Zku B l e C a0 s.heap)
  (h : ∀ h',Zku B l e C a0 h'->s.heap.UpToSlots h'->DK s.heap h'->Q () { s with heap:=h' }) : Zhs M A (Zo5 (.ref e) none) Q E s:=by
 refine Zid (zey (lands_againW (Q:=fun _ s'=>∃ h',s' = { s with heap:=h' }/\Zku B l e C a0 h'/\s.heap.UpToSlots h') (E:=E) fl fun h' a b=>⟨h',rfl,a,b⟩) (zv8 (E:=E) fl.2.2.2.at)) (fun _ s' z=>?_) fun _ _ z=>z.1
 obtain ⟨⟨h',rfl,a,b⟩,k⟩:=z
 exact h h' a b k
noncomputable def zlc (x C : Addr) (dd : Option Addr) : HO:=.ext fun h=>∃ o,h.get? x = some o/\o.cls = .ref C/\o.dict = dd/\notCls o = true
section
variable {X : Cx} {pins : List (Addr × Obj)} {σ : St} {H : Hp} {s : Zg5} {x : Addr}
theorem Inv.adoptX2 {C : Addr} {dd : Option Addr} (I : Inv X pins σ H s) (hn : H x = none) (h0 : X.s₀.heap.get? x = none) (hL : x≠X.env.locals) (hc : ∀ y c,X.env.cells.lookup y = some c->c≠x) (hp : ∀ p∈X.pn++pins,p.1≠x)
  (ho : ∃ o,s.heap.get? x = some o/\o.cls = .ref C/\o.dict = dd/\notCls o = true) : Inv X pins σ (upd H x (zlc x C dd)) s:=by
 refine ⟨I.ok,I.os,I.bare,⟨I.base.keep,I.base.slot,fun b o e n hx=>?_,I.base.there,fun b xs e=>?_,fun b o u e=>?_,fun b ps e=>?_⟩,I.loc,I.cell,?_,fun y c e=>?_,fun p hq=>?_,fun b u e=>?_,I.len⟩
 ·have : b≠x:=fun z=>by rw [z,h0] at e; cases e
  rw [zam this]; exact I.base.free b o e n hx
 ·have:=I.base.tups b xs e
  rw [zam (zat this hn)]; exact this
 ·have:=I.base.frzs b o u e
  rw [zam (zat this hn)]; exact this
 ·obtain ⟨more,this⟩:=I.base.tbls b ps e
  exact ⟨more,by rw [zam (zat this hn)]; exact this⟩
 ·rw [zam (Zif hL)]; exact I.free
 ·rw [zam (hc y c e)]; exact I.freeC y c e
 ·obtain ⟨e,n,ne,nf,d⟩:=I.pin p hq
  exact ⟨e,by rw [zam (hp p hq)]; exact n,ne,nf,d⟩
 ·by_cases hb : b = x
  ·subst hb
   rw [zaj] at e
   cases e
   obtain ⟨o,h1,h2⟩:=ho
   exact ⟨⟨o,h1,h2⟩,⟨o,h1⟩,fun h1 h2 ⟨o,ho,r⟩ k=>⟨o,k o ho,r⟩⟩
  ·rw [zam hb] at e
   exact (I.hok b u e).stay (fun _ _ _ q=>q) (fun c q=>by rw [zam (zat q hn)]; exact q) fun c xs q=>by rw [zam (zat q hn)]; exact q
theorem zy9 {c : Bool} {CF : Addr} {cn n : Str} {np hp : Pos} {i : Nat} {b₀ : Stmt} {suite : List Stmt} {ts : TS} {D : Ends} {H1 : Hp} {s1 s2 : Zg5} {ev : Value} (I1 : Inv X pins σ H1 s1)
  (hgc : Gl X cn) (hmc : X.mg cn = some (.ref CF)) (hN : X.N.Nodup) (hi : X.N[i]? = some n) (hx : X.env.scope.names.lookup n = some .local) (hs : ∀ x,PSs (X.inSuite x) (b₀::suite) ts) (hst : X.stack = X.env::X.outer/\X.env.frame = some X.env.locals/\X.ex = [])
  (hq : CXB c X.prog X.w X.stack H1 s1 (fun cls dd H2=>∃ C,cls = .ref C/\exmOne X.K (.ref C) (.ref CF) = some true /\ ∀ x,H2 x = none ->
   ts { nx:=fun σ' H'=>∃ v,σ'[i]? = some (some v)/\D.nx (σ'.set i none) H',rt:=fun _ _=>False } (σ.set i (some (.ref x))) (upd H2 x (zlc x C dd))) ev s2) (hdc : (cn == ("__debug__" : Str)) = false) :
  Zhs (Zh2 X.prog X.w) X.A (Zmd ev X.env) (fun _ s3=>Zhs (Zh2 X.prog X.w) X.A (Zo5 ev none) (fun _ s4=>Zhs (Zh2 X.prog X.w) X.A (handleBy ev X.env [.ExceptHandler (some (.Name cn np)) (some n) (b₀::suite) hp]) (SP X pins D) X.xe s4) X.xe s3) X.xe s2:=by
 obtain ⟨x,C,a0,B,H2,dd,rfl,os,bare,U,hok,fl,c1,c2,nx,hxn,di,C',eC,hex,q2⟩:=hq
 cases eC
 have fl0 : Zku B (X.env::X.outer) x (.ref C) a0 s2.heap:=by rw [<- hst.1]; exact fl
 have hfr : X.A.frames = some (X.env::X.outer):=by rw [<- hst.1]; exact I1.ok.frames
 have ff : ∀ b∈frs X.stack,∃ o,s2.heap.get? b = some o /\ ∀ vs,o.data ≠ .fields vs:=fun b hb=>(fl.2.2.1.mem (b:=b) hb).2
 show Zhs _ _ (Zmd (.ref x) X.env) _ _ s2
 refine ztb hfr hst.2.1 fl0 fun h3 held up3 dk3=>?_
 refine yfi (s:={ s2 with heap:=h3 }) held fun h4 fl4 up4 dk4=>?_
 have inv : ∀ {h' : Heap},B.StaysIn h'->s2.heap.UpToSlots h'->Inv X pins σ H2 { s2 with heap:=h' }:=fun {h'} st up =>
  I1.call' (s':={ s2 with heap:=h' }) (ch:=[]) os (U.fly fl.1 st c1 up ff) (hok.fly c2 fl.1 st) bare (fun b z=>nomatch z)
 have I4:=inv fl4.1 (up3.trans up4)
 obtain ⟨ob4,hob4,hcl4⟩:=fl4.there
 refine wpAny_handleBy_cons (codeAny_handlers_test (zkp (X:=X.inSuite x) (I4.inSuite x) hgc hmc ?_ hdc)) (by intro q; cases q)
 have LT : Looks (Zh2 X.prog X.w) h4 (typeOf (.ref x)) (.ref C):=by rw [<- hcl4]; exact (Looks.ld hob4).andThen .now
 refine Looks.here (s:={ s2 with heap:=h4 }) (exm_one (M:=Zh2 X.prog X.w) I4.kIn LT hex) ?_
 refine codeAny_handlers_suite_as ?_
 refine zmw (s:={ s2 with heap:=h4 }) fl4 fun h5 fl5 up5 dk5=>?_
 have I5:=inv fl5.1 ((up3.trans up4).trans up5)
 have h0 : X.s₀.heap.get? x = none:=by
  cases z : X.s₀.heap.get? x with
  | none=>rfl
  | some o =>
   obtain ⟨o',e'⟩:=I1.base.there x o z (by rw [hst.2.2]; exact fun z=>nomatch z)
   rw [nx] at e'; cases e'
 have I6 : Inv X pins σ (upd H2 x (zlc x C dd)) { s2 with heap:=h5 }:=by
  refine I5.adoptX2 hxn h0 ?_ ?_ ?_ ?_
  ·obtain ⟨m,⟨o,_,_,ho,_⟩,_⟩:=I1.loc
   exact fun z=>by rw [z,ho] at nx; cases nx
  ·intro y c e z
   obtain ⟨v,o,ho,_⟩:=I1.cell y c e
   rw [z,nx] at ho; cases ho
  ·intro p' hp' z
   have:=(I1.pin p' hp').1
   rw [z,nx] at this; cases this
  ·obtain ⟨_,_,_,o,vs5,_,_,_,ho,⟨hc,_⟩,hd5,_⟩:=fl5
   obtain ⟨o',ho',hd',_⟩:=((dk3.trans dk4).trans dk5).is di
   have ho : h5.get? x = some o:=ho
   rw [ho] at ho'; cases ho'
   exact ⟨o,ho,hc,hd',by unfold notCls; rw [hd5]⟩
 refine zhx (X:=X.inSuite x) (i:=i) (v:=.ref x) (I6.inSuite x) hN hi (.inl hx) rfl (fun s7 I7=>?_) (.inr hx)
 refine Zid (hs x pins s7 (σ.set i (some (.ref x))) _ _ I7 (q2 x hxn)) (fun f' s8 h8=>?_) fun _ _ z=>z.elim
 cases f' with
 | next =>
  obtain ⟨σ8,H8,I8,v8,hv8,q8⟩:=h8
  have I8:=I8.outSuite I1.ok
  show Zhs _ _ (do bindName X.env n .none; Zsp X.env n hp) _ _ s8
  refine Zgz (wpAny_bindName (zhx (i:=i) (v:=.non) I8 hN hi (.inl hx) rfl (fun s9 I9=>?_) (.inr hx)))
  have hl8 : i < σ8.length:=(Zg7.mp hv8).1
  unfold Zsp
  refine wpAny_onRaise (zus (i:=i) (v:=.non) I9 hN hi hx (Ziq hl8) fun s10 I10=>?_)
  rw [Zt8] at I10
  exact ⟨_,H8,I10,q8⟩
 | ret u=>obtain ⟨_,_,_,_,_,z⟩:=h8; exact z.elim
 | brk=>obtain ⟨_,_,_,z⟩:=h8; exact z.elim
 | cont=>obtain ⟨_,_,_,z⟩:=h8; exact z.elim
end
theorem xat2 {x C : Addr} {dd : Option Addr} {h : Heap} (p : ∃ o,h.get? x = some o/\o.cls = .ref C/\o.dict = dd/\notCls o = true) : XAt x C h:=let ⟨o,a,b,_⟩:=p; ⟨o,a,b⟩
noncomputable def zyo (K : Zgy) : List V->Hp->VK->Prop:=fun xs H Q=>∃ x C dd c b,H x = some (zlc x C dd)/\XTell K C/\((∃ D,xs = [.ref x,.ref D]/\c = Zh4 D) \/ (∃ T,xs = [.ref x,.ty T]/\c = Zom T))/\kitOne K (.ref C) c = some b/\Q (.bl b) H
section
open PySem.Calls Builtin Builtin.ObjectAttr
variable {X : Cx}
theorem znn : zcy X (.builtin "isinstance") (zyo X.K):=by
 intro pins s σ H xs us Q I r h
 obtain ⟨x,C,dd,c,b,hx,T,hc,hk,q⟩:=h
 have hp : XAt x C s.heap:=xat2 (I.hok x _ hx).1
 obtain ⟨u,v,rfl,hu,hv⟩ : ∃ u v,us = [u,v]/\u = .ref x/\v = c:=by
  rcases hc with ⟨D,rfl,rfl⟩ | ⟨T',rfl,rfl⟩
  ·obtain ⟨u,v,rfl,ru,rv⟩:=zk7 r
   exact ⟨u,v,rfl,ru,rv⟩
  ·obtain ⟨u,v,rfl,ru,rv⟩:=zk7 r
   exact ⟨u,v,rfl,ru,rv⟩
 subst hu hv
 exact kia_one (zqu T) I.kIn hp hk (by intro z; cases z) fun tk=>⟨.bl b,H,I.tok _,rfl,q⟩
theorem yct {prog : Zhz} {w : Zix} {A : Zh3} {E : Value->Zg5->Prop} {s : Zg5} {K : Zgy} {x C dx : Addr} {mA : Str->Option Value} {name : Str} {v : Value} {ex : Bool} {Q : Value->Zg5->Prop} (X : K.In s.heap) (T : XTell K C) (ha : findIn K (.ref C) name = some none)
  (p : ∃ o,s.heap.get? x = some o/\o.cls = .ref C/\o.dict = some dx/\notCls o = true) (n : s.heap.Ns1 dx mA) (hv : mA name = some v) (hv' : handedIn v = true) (q : Q v { s with toks:=s.toks + 1 }) : Zhs (Zh2 prog w) A (getAttr (.ref x) name ex) Q E s:=by
 obtain ⟨hh,g,d,t,os⟩:=s
 obtain ⟨od,hod,hl⟩:=zur n
 obtain ⟨o,ho,hc,hd,hn⟩:=id p
 have J : InstAt hh x o C (some od):=⟨ho,hc,hn,by rw [hd]; exact hod⟩
 have L0:=(xat2 p).ty (M:=Zh2 prog w); have L1:=looks_findIn (M:=Zh2 prog w) X T.ga; have L2:=looks_findIn (M:=Zh2 prog w) X T.gt
 have L3:=looks_find (M:=Zh2 prog w) X J (findObj_own T.dc ha rfl (by rw [hl,hv])); have L4:=looks_mroIn (M:=Zh2 prog w) X T.mb
 have hbd:=Znc.ga.bind (.ref x)
 have hk : builtinKind "BaseException.__getattribute__" = some .slot:=by decide +kernel
 have hs : splitId "BaseException.__getattribute__" = some ("BaseException", "__getattribute__"):=by decide +kernel
 unfold getAttr getAttrBy; refine Zgz (wpAny_mkText (Zjp (Zgz (L0.at (Zgz (L1.at ?_))))))
 show Zhs _ _ (if (_ && _) then _ else _) _ _ _
 rw [if_neg (by rw [Zhq]; intro z; exact absurd z.2 (by decide +kernel))]
 unfold Zvg
 refine Zgz ((show Looks _ _ (hookBefore (.ref C)) none from L2).at (Zgz (Zo4 (Zjp ?_))))
 unfold Zum Zvs
 rw [if_neg (by intro z; rw [Zhq] at z; exact absurd z.2 (by decide +kernel)),hbd]
 refine Zgz (Zhc (Zmy ?_))
 refine Zk9 Znc.ga.plain Zue ?_
 have hao:=Zu7 (.ref x) (.str name t)
 simp only [Zul,hk,hs]; unfold Zpq
 repeat lk
 exact handed_on hv' q
noncomputable def zvi (K : Zgy) (te : TE) (f : Str) : TE:=fun σ H Q=>te σ H fun v H1=>∃ x C dx fs u,v = .ref x/\H1 x = some (zlc x C (some dx))/\H1 dx = some (.xd fs)/\XTell K C/\zqr K C f/\fs.lookup f = some u/\Q u H1
theorem znm {e : Expr} {te : TE} {f : Str} {pos : Pos} (he : PE X e te) (hb : Zls e f X.env (eval e X.env) = eval e X.env) : PE X (.Attribute e f pos) (zvi X.K te f):=by
 intro pins s σ H Q I h
 refine ybw hb (thn (he pins s σ H _ I h) fun u s1 hz9=>?_)
 obtain ⟨v,H1,I1,rv,x,C,dx,fs,y,ev,hx,hd,T,n,l,q⟩:=hz9
 subst ev
 obtain rfl : u = Zh4 x:=rv
 obtain ⟨mA,ns,r⟩:=I1.hok dx _ hd
 obtain ⟨z,hz,rz⟩:=RelO.some_of (v:=y) (o:=mA f) (by rw [<- l]; exact r f)
 exact yct I1.kIn T n (I1.hok x _ hx).1 ns hz (zu2 rz) ⟨y,H1,I1.tok _,rz,q⟩
end
end L2
namespace L2
open PySem PySem.W PyProof.Rows
noncomputable def zti (C : Addr) (f : Str) : Sp:=fun vs H Q _=>∃ (e : Addr) (n : Int),vs = [.ref e,.int n]/\0 <= n/\n < 1000000/\H e = some (ErrO e C none) /\ ∀ dx,H dx = none->dx≠e->Q .non (upd (upd H e (ErrO e C (some dx))) dx (.xd [(f,.int n)]))
noncomputable def RtX2 (K : Zgy) (G H₀ : Hp) (E : XK) (C : Addr) (f : Str) (d : D) : Prop:=∀ dx v F H',Ext G H₀ F H'->F dx = some (.xd [(f,v)])->Rep K F d v->E (.ref C) (some dx) H'
noncomputable def xsl2 (K : Zgy) (x C dx : Addr) (f : Str) (d : D) : Sl:=.g (.ref x) [] fun F _=>F x = some (zlc x C (some dx)) /\ ∃ v,F dx = some (.xd [(f,v)])/\Rep K F d v
theorem zvc (K : Zgy) (x C dx : Addr) (f : Str) (d : D) : Stab [] fun F _=>F x = some (zlc x C (some dx)) /\ ∃ v,F dx = some (.xd [(f,v)])/\Rep K F d v :=
 fun F1 H1 F2 H2 sf _ ⟨a,v,b,c⟩=>⟨sf _ _ a,v,sf _ _ b,c.mono sf⟩
section
variable {K : Zgy} {G H₀ L : Hp} {ss : List Sl} {ta tb te : TE} {t : TA} {ds : List D} {D0 : Ends} {E E' : XK} {C fI : Addr} {f : Str} {pre bad : List D->Prop} {res err : List D->D}
theorem zu6 {n : Int} (M : zpa K C fI) (a : EvAF K G H₀ L ss t [.int n]) (hn0 : 0 <= n) (hn : n < 1000000) (h : RtX2 K G H₀ E C f (.int n)) : Go K G H₀ L D0 ss (ztc K E H₀ (zwf C (zti C f) E' t)):=fun F H σ S =>
 a F H σ _ S fun vs F1 H1 e1 r1=>by
  rw [Reps] at r1
  obtain ⟨v1,r,rfl,rv1,r1⟩:=r1
  rw [Reps] at r1
  subst r1
  rw [rv1.of_int]
  intro e he
  refine ⟨e,n,rfl,hn0,hn,zaj,fun dx hdx hne=>⟨rfl,e,C,some dx,rfl,?_,?_,⟨fI,M⟩,?_⟩⟩
  ·rw [zam (Zif hne),zaj]
  ·exact (S.ext.trans e1).hh.free he
  ·have hd1 : H1 dx = none:=by rw [zam hne] at hdx; exact hdx
   have eH : del (upd (upd (upd H1 e (ErrO e C none)) e (ErrO e C (some dx))) dx (.xd [(f,.int n)])) e = upd H1 dx (.xd [(f,.int n)]):=by
    funext b
    by_cases hb : b = e
    ·rw [hb,zjm,zam (Zif hne),he]
    ·rw [zhp hb]
     by_cases hc : b = dx
     ·rw [hc,zaj,zaj]
     ·rw [zam hc,zam hc,zam hb,zam hb]
   rw [eH]
   exact h dx (.int n) _ _ ((S.ext.trans e1).newF (o:=.xd [(f,.int n)]) hd1) zaj Rep.int
theorem zxa {j : Nat} {x dx : Addr} {d : D} {c : Value} {cv : V} {b : Bool} (hs : ss[j]? = some (xsl2 K x C dx f d)) (T : XTell K C) (hc : (∃ D,cv = .ref D/\c = Zh4 D) \/ (∃ T,cv = .ty T/\c = Zom T)) (hk : kitOne K (.ref C) c = some b) :
  Ev K G H₀ L ss (tCB (zyo K) (za3 (tVar j) (za3 (tC cv) tNil))) (.bl b):=fun F H σ Q S q=>by
 obtain ⟨v,e,ew,ha,hw,st⟩:=S.get hs (by intro z; cases z)
 cases ew
 refine ⟨_,e,x,C,_,c,b,S.ext.fh _ _ hw.1,T,?_,hk,q _ _ _ (Ext.refl S.ext.fh) Rep.bl⟩
 rcases hc with ⟨D,rfl,rfl⟩ | ⟨T',rfl,rfl⟩
 ·exact .inl ⟨D,rfl,rfl⟩
 ·exact .inr ⟨T',rfl,rfl⟩
theorem zn6 {j : Nat} {x dx : Addr} {d : D} (hs : ss[j]? = some (xsl2 K x C dx f d)) (T : XTell K C) (n : zqr K C f) : Ev K G H₀ L ss (zvi K (tVar j) f) d:=fun F H σ Q S q=>by
 obtain ⟨v,e,ew,ha,⟨hx,y,hd,ry⟩,st⟩:=S.get hs (by intro z; cases z)
 cases ew
 exact ⟨_,e,x,C,dx,[(f,y)],y,rfl,S.ext.fh _ _ hx,S.ext.fh _ _ hd,T,n,by simp [Zmj],q _ _ _ (Ext.refl S.ext.fh) ry⟩
end
section
variable {P : Zhz} {w : Zix} {K : Zgy} {mg : Str->Option Value} {base : Heap}
theorem Fun.okX2 {c : Bool} {x qual : Str} {st : Stmt} {f : Addr} {fd : Zjq} {N ps : List Str} {k : Nat} {sp : Sp} (F : Fun K x qual st f fd) (S : FnScope N ps (zag st)) (len : ∀ vs H Q E,sp vs H Q E->vs.length = ps.length)
  (hbody : ∀ (cdv : Value) (A : Zh3) (outer : List Env) (s : Zg5) (H : Hp) (vs : List V) (Q : VK) (E : XK),Room k (A.deeper (Zlj qual (zag st) s.heap.objs.size f cdv))->sp vs H Q E ->
   ∃ t,PSs (cxOf (CXB c P w) P w K mg base N qual (zag st) f cdv A outer s H E) (zbf st) t/\t { nx:=fun _ H'=>Q .non H',rt:=Q } (zei N vs) H) : FnOk P w K mg base (CXB c P w) (k + 1) f fd ps sp:=by
 obtain ⟨oc,od,kV,doc,pm,an,cdv,ct,osl,rfl,lk,hcd⟩:=F.ex
 exact yde lk hcd S len fun A outer s H vs Q E hr hsp=>hbody cdv A outer s H vs Q E hr hsp
end
end L2
namespace L2
open PySem PySem.W PySem.Spec PyProof.Rows
section
variable {X : Cx}
noncomputable def ybx (K : Zgy) : List V->Hp->VK->Prop:=fun xs H Q=>∃ (x C : Addr) (dd : Option Addr) (tp : Addr) (cs : List Addr) (b : Bool),xs = [.ref x,.ref tp]/\H x = some (zlc x C dd)/\XTell K C/\H tp = some (.tup (cs.map V.ref))/\kitAny K (.ref C) (cs.map Zh4) = some b/\Q (.bl b) H
theorem zlp : ∀ {cs : List Addr} {us : List Value},Vals (cs.map V.ref) us->us = cs.map Zh4
 | [],us,r=>by cases r; rfl
 | c::cs,us,r=>by
  cases r with
  | cons a b =>
   rw [zlp b]
   obtain rfl:=(show _ = Zh4 c from a)
   rfl
theorem zuh : zcy X (.builtin "isinstance") (ybx X.K):=by
 intro pins s σ H xs us Q I r h
 obtain ⟨x,C,dd,tp,cs,b,rfl,hx,T,ht,hk,q⟩:=h
 have hp : XAt x C s.heap:=xat2 (I.hok x _ hx).1
 obtain ⟨u,v,rfl,ru,rv⟩:=zk7 r
 cases ru
 cases rv
 obtain ⟨_,its,rs,⟨oc,od,oda,osl⟩,ho,hc,n,hd⟩:=I.hok tp _ ht
 dsimp only at hc hd
 subst hc hd
 have e:=zlp rs
 subst e
 exact kia_tup (zqu T) I.kIn hp ho hk (by intro z; cases z) fun tk=>⟨.bl b,H,I.tok _,rfl,q⟩
end
section
variable {K : Zgy} {G H₀ L : Hp} {ss : List Sl} {t : TA} {ds : List D} {D0 : Ends} {C : Addr} {f : Str} {pre bad : List D->Prop} {res : List D->D} {errR : List D->D->Prop}
theorem yaq {j : Nat} {x dx tt : Addr} {d : D} {cs : List Addr} {b : Bool} {tc : TA} (hs : ss[j]? = some (xsl2 K x C dx f d)) (T : XTell K C) (hc : ∀ σ H Q,Q (cs.map V.ref) H->tc σ H Q) (hz : cs.length <= 1000) (hk : kitAny K (.ref C) (cs.map Zh4) = some b) :
  Ev K G H₀ L ss (tCB (ybx K) (za3 (tVar j) (za3 (tTup tc) tNil))) (.bl b):=fun F H σ Q S q=>by
 obtain ⟨v,e,ew,ha,hw,st⟩:=S.get hs (by intro z; cases z)
 cases ew
 refine ⟨_,e,hc _ _ _ ⟨by rw [Zg2,Zhm]; lia,fun p hp=>?_⟩⟩
 have x1:=(Ext.refl S.ext.fh).newF (o:=.tup (cs.map V.ref)) hp
 exact ⟨x,C,_,p,cs,b,rfl,by rw [zam (zat (S.ext.fh _ _ hw.1) hp)]; exact S.ext.fh _ _ hw.1,T,zaj,hk,q _ _ _ x1 Rep.bl⟩
end
noncomputable def zqj (K : Zgy) (sp : Sp) (ta : TA) (j i : Nat) (CF : Addr) (ts : TS) : TS:=fun D σ H=>ta σ H fun vs H1=>sp vs H1 (fun v H2=>D.nx (σ.set j (some v)) H2) (fun cls dd H2=>∃ C,cls = .ref C/\exmOne K (.ref C) (.ref CF) = some true /\ ∀ x,H2 x = none ->
 ts { nx:=fun σ' H'=>∃ v,σ'[i]? = some (some v)/\D.nx (σ'.set i none) H',rt:=fun _ _=>False } (σ.set i (some (.ref x))) (upd H2 x (zlc x C dd)))
section
variable {X : Cx}
theorem zsm {c : Bool} {k j : Nat} {f CF : Addr} {fd : Zjq} {ps : List Str} {sp : Sp} {fn cn n y : Str} {p pos yp ap np hp tp : Pos} {e : Expr} {es : List Expr} {ta : TA} {i : Nat} {b₀ : Stmt} {suite : List Stmt} {ts : TS}
  (F : FnOk X.prog X.w X.K X.mg X.base (CXB c X.prog X.w) k f fd ps sp) (hr : Room k X.A) (hg : Gl X fn) (hm : X.mg fn = some (.ref f)) (hk : Zj7 X.K (.ref f) = true) (hb : zk6 X.K fd ps []) (ha : PA X.nox (e::es) ta)
  (hj : X.N[j]? = some y) (hy : X.env.scope.names.lookup y = some .local)
  (hgc : Gl X cn) (hmc : X.mg cn = some (.ref CF)) (hN : X.N.Nodup) (hi : X.N[i]? = some n) (hx : X.env.scope.names.lookup n = some .local) (hs : ∀ x,PSs (X.inSuite x) (b₀::suite) ts) (hst : X.stack = X.env::X.outer/\X.env.frame = some X.env.locals/\X.ex = [])
  (hdb : (fn == ("__debug__" : Str)) = false:=by decide) (hdc : (cn == ("__debug__" : Str)) = false:=by decide) (he : Zic (e::es) X.env = (false,eval e X.env)::Zic es X.env:=by rfl) (hpl : (Zmf pos (Zic es X.env)).any (·.1) = false:=by rfl)
  (hsw : Zn4 (.Call (.Name fn p) (e::es) [] pos) (some (.Name y yp)) ap.line X.env = pure false:=by rfl) :
  PS X (.Try [.Assign [.Name y yp] (.Call (.Name fn p) (e::es) [] pos) ap] [.ExceptHandler (some (.Name cn np)) (some n) (b₀::suite) hp] [] [] tp) (zqj X.K sp ta j i CF ts):=by
 intro pins s σ H D I h
 refine wpAny_Try_except (Zqa (Ztq (Zkd (zkp I hg hm ?_ hdb)) hsw))
 refine Znv (h₀:=X.base) I.ok.mod.kin hk (Zid (ha pos pins s σ H _ (I.wish _) h) (fun us s1 ⟨vs,H1,I1,r,q⟩=>⟨I1.unwish.kIn,?_⟩) fun _ _ z=>z.elim) he hpl
 have I1:=I1.unwish
 have hl : (us++[]).length = ps.length:=by rw [Zik,<- r.length]; exact F.len _ _ _ _ q
 have hb':=hb s1 us I1.kIn hl
 rw [Zik] at hb'
 refine Zmy (Zn7 (F.run X.A X.stack s1 H1 ⟨us,[]⟩ us vs _ _ hr I1.env0 hb' r q) fun r s2 hq=>?_)
 cases r with
 | ok fl =>
  cases fl with
  | ret u =>
   obtain ⟨v,H2,I2,rv,q2⟩:=I1.after hq
   exact zhx I2 hN hj (.inl hy) rv (fun s3 I3=>Zlq (Zlq ⟨_,H2,I3,q2⟩)) (.inr hy)
  | next=>exact Zjc hq
  | brk=>exact Zjc hq
  | cont=>exact Zjc hq
 | error ev=>exact zy9 I1 hgc hmc hN hi hx hs hst hq hdc
end
section
variable {K : Zgy} {G H₀ L : Hp} {ss : List Sl} {t : TA} {ds : List D} {D0 : Ends} {C : Addr} {f : Str} {pre bad : List D->Prop} {res : List D->D} {errR : List D->D->Prop}
theorem zwl {i : Nat} {x dx : Addr} {d : D} {N : St->Hp->Prop} (hs : ss[i]? = some (xsl2 K x C dx f d)) (h : Nx K G H₀ L N (ss.set i .un)) : Nx K G H₀ L (fun σ' H'=>∃ v,σ'[i]? = some (some v)/\N (σ'.set i none) H') ss:=fun F H σ S=>by
 obtain ⟨v,e,_⟩:=S.get hs (by intro z; cases z)
 refine ⟨v,e,h F H _ (S.put S.ext S.fl (by simp) (fun j hj=>zbm (Zif hj)) (fun _=>trivial) (by simp [Sl.ads]) (fun _ _ _ _ p hp=>by simp [Sl.ads] at hp) fun j s' _ h=>S.ok j s' h)⟩
end
structure ITell (K : Zgy) (C : Addr) : Prop where
 ha : findIn K (.ref C) "__class__" = some (some (.builtin "object.__class__"))
 hn : specialIn K (.builtin "object.__class__") "__get__" = some (some (.builtin "getset_descriptor.__get__"))
 tk : takesIn K (.builtin "object.__class__") = some true
 hm : mroIn K C (.type "object") = some true
noncomputable abbrev QS:=List (Addr × List D)
section
variable {K : Zgy} {G H₀ L : Hp} {ss : List Sl} {i : Nat} {p : Addr} {kqs : KQ} {kvs : DD} {qs : QS} {E : Ends} {D0 : XK} {t : TA} {te ta td : TE} {d : D} {ds : List D} {dss : List (List D)} {pre : List D->Prop} {res : List D->List (List D)}
mutual
noncomputable def D.nm : D->Bool
 | .lst _=>false
 | .dct ks vs=>D.nms ks && D.nms vs
 | .dctT _ _=>false
 | .ins _ _ _=>false
 | .tup a=>D.nms a
 | _=>true
noncomputable def D.nms : List D->Bool
 | []=>true
 | a::x=>a.nm && D.nms x
end
noncomputable def cut (F : Hp) (as : List Addr) : Hp:=fun b=>if b∈as then none else F b
end
noncomputable def ybi : R2:=fun x y H Q=>y = .non/\Q (.bl (!decide (x = .non))) H
theorem zpg {K : Zgy} {H : Hp} {d : D} {x : V} (r : Rep K H d x) : (x = .non) ↔ d = .non:=by
 cases d with
 | non=>exact ⟨fun _=>rfl,fun _=>r.of_non⟩
 | bl b=>rw [r.of_bl]; exact ⟨fun h=>(by cases h),fun h=>(by cases h)⟩
 | int b=>rw [r.of_int]; exact ⟨fun h=>(by cases h),fun h=>(by cases h)⟩
 | str b=>rw [r.of_str]; exact ⟨fun h=>(by cases h),fun h=>(by cases h)⟩
 | lst b=>obtain ⟨p,xs,rfl,_⟩:=r.of_lst; exact ⟨fun h=>(by cases h),fun h=>(by cases h)⟩
 | tup b=>obtain ⟨p,xs,rfl,_⟩:=r.of_tup; exact ⟨fun h=>(by cases h),fun h=>(by cases h)⟩
 | dct a b=>obtain ⟨p,xs,rfl,_⟩:=r.of_dct; exact ⟨fun h=>(by cases h),fun h=>(by cases h)⟩
 | dctT a b=>rw [Rep] at r; obtain ⟨p,xs,rfl,_⟩:=r; exact ⟨fun h=>(by cases h),fun h=>(by cases h)⟩
 | ins a b c=>obtain ⟨p,dx,fs,rfl,_⟩:=r.of_ins; exact ⟨fun h=>(by cases h),fun h=>(by cases h)⟩
section
variable {K : Zgy} {G H₀ L : Hp} {ss : List Sl} {i : Nat} {E : Ends} {te tk tv : TE} {k d : D} {c : TT} {tb : TS}
theorem zwg (a : EvB K G H₀ L ss te d) : Ev K G H₀ L ss (tOp ybi te (tC .non)) (.bl (!decide (d = .non))):=fun F H σ Q S q =>
 a F H σ _ S fun x F1 H1 e1 r1=>⟨rfl,by
  rw [decide_eq_decide.mpr (zpg r1)]
  exact q _ _ _ e1 Rep.bl⟩
theorem zqa (I : Nat->List Sl->Prop) (m0 : Nat) (h0 : I m0 ss)
  (hs : ∀ m ss,I m ss -> ∃ b,EvT K G H₀ L ss c b/\(b = true -> ∀ N : St->Hp->Prop,(∀ m' ss,m' < m->I m' ss->Nx K G H₀ L N ss)->Go K G H₀ L { E with nx:=N,ct:=N,bk:=E.nx } ss tb)/\(b = false->Nx K G H₀ L E.nx ss)) : Go K G H₀ L E ss (zzq c tb):=fun F H σ S =>
 ⟨fun m σ' H'=>At K G H₀ L (I m) σ' H',⟨m0,ss,F,S,h0⟩,fun m σ' H' ⟨ss1,F1,S1,h1⟩=>by
  obtain ⟨b,ev,ht,hf⟩:=hs m ss1 h1
  refine ev F1 H' σ' _ S1 fun F2 H2 e2=>?_
  cases b with
  | true =>
   rw [if_pos rfl]
   exact ⟨fun σ'' H''=>∃ m',m' < m/\At K G H₀ L (I m') σ'' H'',fun σ'' H'' h=>h,ht rfl _ (fun m' ss hm hI=>fun F3 H3 σ3 S3=>⟨m',hm,ss,F3,S3,hI⟩) F2 H2 σ' (S1.ext2 e2)⟩
  | false =>
   rw [if_neg Zhx]
   exact hf rfl F2 H2 σ' (S1.ext2 e2)⟩
end
noncomputable def ydk (b : Str) (te : TE) : TE:=fun σ H Q=>te σ H fun x H1=>∃ i : Int,x = .int i/\i.natAbs.log2 < 1920/\(Zon++(toString i : Str)).length <= sizeLine/\(Zon++(toString i : Str)++b).length <= sizeLine/\Q (.str (Zon++(toString i : Str)++b)) H1
theorem zu9 {X : Cx} {b : Str} {e : Expr} {te : TE} {k2 : Nat} {p2 p3 pos : Pos} (he : PE X e te) : PE X (.JoinedStr [.FormattedValue e (-1) none p2,.Constant (.str b) k2 p3] pos) (ydk b te):=by
 intro pins s σ H Q I h
 refine JoinedStr_many (Zvq (FormattedValue_plain ?_))
 refine Zid (he pins s σ H _ I h) (fun u s2 ⟨x,H2,I2,r2,i,ex,hd,z1,z2,q⟩=>?_) fun _ _ z=>z
 subst ex
 obtain ⟨t2,rfl⟩:=zxj r2
 refine formatField_int_small hd ⟨z1,joinParts_consE (Zvq ?_)⟩
 refine Zid (zjx (x:=b) pins _ σ H2 (fun v H1=>v = .str b/\H1 = H2) (I2.tok _) ⟨rfl,rfl⟩) (fun u s3 ⟨v,H3,I3,rv,ev,eh⟩=>?_) fun _ _ z=>z
 subst ev eh
 obtain ⟨t3,rfl⟩:=zy2 rv
 exact ⟨z2,joinParts_nilE (joinParts_nil ⟨.str (Zon++(toString i : Str)++b),H3,I3.tok _,⟨_,rfl⟩,q⟩ z2)⟩
theorem zsq {K : Zgy} {C fI : Addr} {f b x y : Str} {vs : List V} {H : Hp} {Q : VK} {E : XK} (M : zpa K C fI) (S : XStore K C f) (hb : b.length <= 1000) (h : zti C f vs H Q E) :
  tSeq (zuj (zqy K (za3 (tVar 0) (za3 (ydk b (tVar 1)) tNil)))) (zs6 K (tVar 0) (tVar 1) f) { nx:=fun _ H'=>Q .non H',rt:=Q } (zei [x,y] vs) H:=by
 obtain ⟨e,n,rfl,hn0,hn,he,q⟩:=h
 have hl : ((toString n : String) : Str).length <= 6:=toString_length_le hn0 (by decide) (by omega)
 have app : ∀ u v : Str,(u++v).length = u.length + v.length:=fun u v=>Str.length_append u v
 have he0 : (Zon).length = 0:=rfl
 refine ⟨.ref e,rfl,.int n,rfl,n,rfl,?_,by rw [app,Zhm]; omega,by rw [app,app,Zhm]; omega,e,C,none,_,rfl,he,⟨fI,M⟩,.int n,rfl,.ref e,rfl,e,C,rfl,he,S,fun dx h1 h2=>q dx h1 h2⟩
 have h3 : n.natAbs < 2 ^ 1920:=Zhn (show n.natAbs < 2 ^ 20 by omega) (Zma (by decide) (by decide))
 by_cases hz : n.natAbs = 0
 ·rw [hz]; decide
 ·exact (Nat.log2_lt hz).mpr h3
noncomputable def SpXT (K : Zgy) (T : Addr) (pos : Pos) (q : Str) (C : Addr) (f : Str) (pre bad : List D->Prop) (res err : List D->D) : Sp:=fun vs H Q E=>∃ G ds,Same G H/\HasT G T pos q/\Reps K G ds vs/\pre ds /\
 (¬ bad ds -> ∀ v G' H',Ext G H G' H'->Rep K G' (res ds) v->Q v H')/\(bad ds -> ∀ dx v G' H',Ext G H G' H'->G' dx = some (.xd [(f,v)])->Rep K G' (err ds) v->E (.ref C) (some dx) H')
section
variable {K : Zgy} {G H₀ L : Hp} {ss : List Sl} {ta tb te tk t1 : TE} {t : TA} {ds : List D} {d : D} {D0 : Ends} {C : Addr} {f : Str} {pre bad : List D->Prop} {res err : List D->D} {T : Addr} {pos : Pos} {q : Str} {i j : Nat}
theorem zqb {vs : List V} {H : Hp} {Q : VK} {E : XK} {n : Nat} (hpre : ∀ ds,pre ds->ds.length = n) (h : SpXT K T pos q C f pre bad res err vs H Q E) : vs.length = n:=by
 obtain ⟨G,ds,sm,hT,r,hp,q⟩:=h
 rw [<- r.length]; exact hpre ds hp
theorem ycq {vs : List V} {H : Hp} {Q : VK} {E : XK} {N : List Str} {ts : TS} (h : SpXT K T pos q C f pre bad res err vs H Q E) (hN : vs.length <= N.length) (body : ∀ G ds,HasT G T pos q->pre ds->(¬ bad ds->RtD K G H Q (res ds))->(bad ds->RtX2 K G H E C f (err ds))->Go K G H G { nx:=fun _ H'=>Q .non H',rt:=Q } (slots N.length ds) ts) :
  ts { nx:=fun _ H'=>Q .non H',rt:=Q } (zei N vs) H:=by
 obtain ⟨G,ds,sm,hT,r,hp,q1,q2⟩:=h
 exact body G ds hT hp (fun nb v F H' e h4=>q1 nb v F H' e h4) (fun b dx v F H' e h1 h2=>q2 b dx v F H' e h1 h2) G H _ (zcj sm r hN)
theorem zs1 {CF : Addr} {ts : TS} (hT : HasT G T pos q) (a : EvAF K G H₀ L ss t ds) (hp : pre ds) (h1 : ¬ bad ds->Nx K G H₀ L D0.nx (ss.set j (.d (res ds)))) (hex : exmOne K (.ref C) (.ref CF) = some true) (hil : i < ss.length)
  (h : bad ds -> ∀ x dx,Go K G H₀ L { nx:=fun σ' H'=>∃ v,σ'[i]? = some (some v)/\D0.nx (σ'.set i none) H',rt:=fun _ _=>False } (ss.set i (xsl2 K x C dx f (err ds))) ts) : Go K G H₀ L D0 ss (zqj K (SpXT K T pos q C f pre bad res err) t j i CF ts):=fun F H σ S =>
 a F H σ _ S fun vs F1 H1 e1 r1=>by
  refine ⟨F1,ds,e1.fh,(S.ext.trans e1).gf _ _ hT,r1,hp,fun nb v F2 H2 e2 rv=>?_,fun hbad dx v F2 H2 e2 hdx rv=>⟨C,rfl,hex,fun x hx=>?_⟩⟩
  ·have S2:=S.ext2 (e1.trans e2)
   exact h1 nb _ _ _ (S2.put S2.ext S2.fl (by simp) (fun j hj=>zbm (Zif hj)) (fun hj=>by rw [za6 (by rw [S.len]; exact hj)]; exact ⟨v,rfl,rv⟩) (by simp [Sl.ads]) (fun _ _ _ _ p hp=>by simp [Sl.ads] at hp) fun j s' _ h=>S2.ok j s' h)
  ·have S2:=S.ext2 (e1.trans e2)
   have e:=(Ext.refl S2.ext.fh).newF (o:=zlc x C (some dx)) hx
   have S4:=S2.ext2 e
   have fx : F2 x = none:=S2.ext.fh.free hx
   refine h hbad x dx _ _ _ (S4.put S4.ext S4.fl (by simp) (fun k hk=>zbm (Zif hk)) (fun hk=>?_) (by simp [xsl2,Sl.ads]) (fun k s' hk hs q hq=>by simp [xsl2,Sl.ads] at hq) fun k s' hk hs=>S4.ok k s' hs)
   rw [za6 (by rw [S2.len]; exact hk)]
   exact ⟨rfl,(fun a ha=>absurd ha Zj8),⟨zaj,v,by rw [zam (zat hdx fx)]; exact hdx,rv.mono e.gf⟩,zvc K x C dx f _⟩
theorem ybs {x dx : Addr} (hs : ss[i]? = some (xsl2 K x C dx f d)) (h : Nx K G H₀ L D0.nx (ss.set j (xsl2 K x C dx f d))) : Go K G H₀ L D0 ss (tAsg (tVar i) (zfp j)):=fun F H σ S=>by
 obtain ⟨v,e,ew,ha,hw,st⟩:=S.get hs (by intro z; cases z)
 cases ew
 refine ⟨_,e,h F H _ (S.put S.ext S.fl (by simp) (fun k hk=>zbm (Zif hk)) (fun hk=>?_) (by simp [xsl2,Sl.ads]) (fun k s' hk hs q hq=>by simp [xsl2,Sl.ads] at hq) fun k s' hk hs=>S.ok k s' hs)⟩
 rw [za6 (by rw [S.len]; exact hk)]
 exact ⟨rfl,(fun a ha=>absurd ha Zj8),hw,st⟩
end
end L2
namespace L2
open PySem PySem.Spec PyProof.Rows
noncomputable def yam : R2:=fun x y H Q=>∃ i j,x = .bl i/\y = .bl j/\Q (.bl (!(i == j))) H
section
variable {X : Cx}
theorem yc5 : OpR X (Zjy .IsNot) yam:=by
 intro pins s σ H x y v u Q I rx ry h
 obtain ⟨i,j,rfl,rfl,q⟩:=h
 cases rx
 cases ry
 refine wpAny_isNot_plain rfl (za9 I q ?_)
 cases i <;> cases j <;> rfl
end
section
variable {K : Zgy} {G H₀ L : Hp} {ss : List Sl} {ta tb : TE} {i : Nat} {C : Addr} {f : Str} {d : D}
theorem ybl {l m : Bool} (a : EvB K G H₀ L ss ta (.bl l)) (b : EvB K G H₀ L ss tb (.bl m)) : Ev K G H₀ L ss (tOp yam ta tb) (.bl (!(l == m))):=fun F H σ Q S q =>
 a F H σ _ S fun v F1 H1 e1 r1=>b F1 H1 σ _ (S.ext2 e1) fun v2 F2 H2 e2 r2=>by
  rw [r1.of_bl,r2.of_bl]
  exact ⟨l,m,rfl,rfl,q _ F2 H2 (e1.trans e2) Rep.bl⟩
end
end L2
namespace L2
open PySem PySem.W PyProof.Rows
end L2
namespace L2
open PySem PySem.W PySem.Spec PyProof.Rows
noncomputable def zqs (r d : Addr) : HO:=.ext fun h=>h.IsItemsView r d
section
variable {X : Cx} {pins : List (Addr × Obj)} {σ : St} {H : Hp} {s : Zg5} {A' : Zh3}
noncomputable def prD (q : D × D) : D:=.tup [q.1,q.2]
end
structure DE (h : Heap) (d : Addr) (es : Array Zmh) (ep : Nat) : Prop where
 ob : ∃ o,h.get? d = some o/\o.ExactDict/\o.data = .dict es ep
theorem DE.typeIs {s : Zg5} {d : Addr} {es : Array Zmh} {ep : Nat} (x : DE s.heap d es ep) : s.TypeIs (.ref d) "dict" := let ⟨o,ho,hc,_⟩:=x.ob; ⟨o,ho,hc.1⟩
theorem DE.at {h h' : Heap} {d : Addr} {es : Array Zmh} {ep : Nat} (x : DE h d es ep) (k : ∀ o,h.get? d = some o->h'.get? d = some o) : DE h' d es ep:=let ⟨o,ho,r⟩:=x.ob; ⟨o,k o ho,r⟩
section
variable {prog : Zhz} {w : Zix} {A : Zh3} {E : Value->Zg5->Prop} {s : Zg5} {d v it : Addr} {es : Array Zmh} {ep i : Nat}
theorem yce {Q : Value->Zg5->Prop} (hd : (d == Zj2) = false) (x : DE s.heap d es ep) (h : Q (.ref s.heap.objs.size) { s with heap:=s.heap.push { cls:=.type "dict_items", data:=.fields #[.ref d] } }) :
  Zhs (Zh2 prog w) A (call (.builtin "dict.items") [.ref d]) Q E s:=by
 refine Zqb Zpu x.typeIs PySem.F.entry_dict_items ?_ (PySem.F.args_dict_items_1 _)
 unfold Zib.«dict.items» Zvd
 refine Zgz (Zgz (Zsg x.typeIs (Zhc ?_)))
 unfold Zo3
 simp only [hd,Zlf,if_false]
 exact Zgz (Zhc (Zgz (Zk5 (Zhc ⟨_,rfl,h⟩))))
theorem yc6 {Q : Value->Zg5->Prop} (hv : s.heap.IsItemsView v d) (x : DE s.heap d es ep)
  (h : ∀ h1,Zoj h1 s.heap.objs.size d 0 es.size ep .none .none->(∀ b o,s.heap.get? b = some o->h1.get? b = some o)->h1.objs.size = s.heap.objs.size + 1->Q (.ref s.heap.objs.size) { s with heap:=h1 }) :
  Zhs (Zh2 prog w) A (pyIter (.ref v)) Q E s:=by
 obtain ⟨o,ho,hc,hdat⟩:=id x.ob
 obtain ⟨y,hy,_,hyd⟩:=id hv
 refine wpAny_pyIter_slot hv.typeIs Zos (Zqb Zos hv.typeIs PySem.F.entry_dict_items_iter ?_ (PySem.F.args_dict_items_iter_1 _))
 unfold Zib.«dict_items.__iter__» Zsf Zse
 refine Zgz (Zhc (Zgz (Zgz (Zlh hy hyd (i:=0) (x:=.ref d) rfl (Zhc (Zgz (Zgz (Zkn ho hdat (Zgz (Zqq ho hdat ?_))))))))))
 have e1 : Znd "dict_itemiterator" = true:=by decide
 rw [e1]
 refine Zk5 (Zhc ⟨_,rfl, "dict_itemiterator", _,⟨_,Zho _ rfl,rfl⟩,Zk2.lookup,?_⟩) (by simp [sizeOk,Zsd,Zhm])
 refine h _ ?_ (fun b u e=>Zg6 _ e) (Zp6 ..)
 exact Zho _ rfl
theorem zj5 : Znd "dict_itemiterator" = true:=by decide
theorem wno {α : Type} {c : Prop} [Decidable c] {m1 m2 : Sem α} {Q : α->Zg5->Prop} (hc : ¬ c) (h : Zhs (Zh2 prog w) A m2 Q E s) : Zhs (Zh2 prog w) A (if c then m1 else m2) Q E s:=by rw [if_neg hc]; exact h
theorem ydc {Q : Value->Zg5->Prop} {ok ov key val : Value} {n : Nat} (st : Zoj s.heap it d i n ep ok ov)
  (h : ∀ h1,Zrx h1 it d i n ep key val s.heap.objs.size->h1.get? s.heap.objs.size = some { cls:=.type "tuple", data:=.seq #[key,val] }->h1.objs.size = s.heap.objs.size + 1 ->
   (∀ b o,b≠it->s.heap.get? b = some o->h1.get? b = some o)->Q (.ref s.heap.objs.size) { s with heap:=h1 }) :
  Zhs (Zh2 prog w) A (Zm3 (.ref it) 6 key val) Q E s:=by
 obtain ⟨hp,g,dr,tk,os⟩:=s
 have lt : it < hp.objs.size:=Zhf st
 unfold Zm3 Zsc
 refine Zgz (wpAny_newTuple ?_)
 have a1 : Zoj (hp.push { cls:=.type "tuple", data:=.seq #[key,val] }) it d i n ep ok ov:=Zg6 _ st
 have t1 : (hp.push { cls:=.type "tuple", data:=.seq #[key,val] }).get? hp.objs.size = some { cls:=.type "tuple", data:=.seq #[key,val] }:=Zho _ rfl
 have k1 : ∀ b o,b≠it->hp.get? b = some o->(hp.push { cls:=.type "tuple", data:=.seq #[key,val] }).get? b = some o:=fun b o _ e=>Zg6 _ e
 have z1 : (hp.push { cls:=.type "tuple", data:=.seq #[key,val] }).objs.size = hp.objs.size + 1:=Zp6 ..
 show Zhs _ _ _ _ _ ⟨hp.push { cls:=.type "tuple", data:=.seq #[key,val] },g,dr,tk,os⟩
 revert a1 t1 k1 z1
 generalize hp.push { cls:=.type "tuple", data:=.seq #[key,val] } = q1
 intro a1 t1 k1 z1
 refine Zgz (Zgz (Zlh a1 rfl (i:=0) (x:=.none) rfl (Zhc ?_)))
 rw [if_pos rfl]
 refine Zgz (Zlh a1 rfl (i:=6) (x:=ok) rfl (Zgz (Zlh a1 rfl (i:=7) (x:=ov) rfl ?_)))
 refine Zgz (Zlp a1 (by simp) fun q2 a2 b2=>Zgz (Zlp a2 (by simp) fun q3 a3 b3=>Zgz (Zlp a3 (by simp) fun q4 a4 b4=>Zgz (Zlp a4 (by simp) fun q5 a5 b5=>Zgz (Zkp (Zhc ?_))))))
 have kk : ∀ b o,b≠it->q1.get? b = some o->q5.get? b = some o:=fun b o hb e=>b5.extBut b o hb (b4.extBut b o hb (b3.extBut b o hb (b2.extBut b o hb e)))
 exact h q5 a5 (kk _ _ (Zno lt) t1) (by rw [b5.1,b4.1,b3.1,b2.1]; exact z1) fun b o hb e=>kk b o hb (k1 b o hb e)
theorem zux {Q : Option Value->Zg5->Prop} {ok ov : Value} (st : Zoj s.heap it d i es.size ep ok ov) (x : DE s.heap d es ep)
  (hyes : ∀ e,es[i]? = some e -> ∀ h1,Zrx h1 it d (i + 1) es.size ep e.key e.val s.heap.objs.size->h1.get? s.heap.objs.size = some { cls:=.type "tuple", data:=.seq #[e.key,e.val] }->h1.objs.size = s.heap.objs.size + 1 ->
   (∀ b o,b≠it->s.heap.get? b = some o->h1.get? b = some o)->Q (some (.ref s.heap.objs.size)) { s with heap:=h1 })
  (hh : es[i]? = none->A.handled = none) (hno : es[i]? = none -> ∀ h1,Heap.ExtBut it s.heap h1->Q none { s with heap:=h1 }) :
  Zhs (Zh2 prog w) A (Zo7 (.ref it)) Q E s:=by
 obtain ⟨hp,g,dr,tk,os⟩:=s
 obtain ⟨o,ho,hc,hdat⟩:=id x.ob
 have ty : Zsq ⟨hp,g,dr,tk,os⟩ (.ref it) "dict_itemiterator" := ⟨_,st,rfl⟩
 unfold Zo7
 refine Zgz (Zo4 (Zrm (name:=Zlc "__next__") ty Zk2 (Zqb Zk2 ty PySem.F.entry_dict_itemiterator_next ?_ (PySem.F.args_dict_itemiterator_next_1 _))))
 refine Zgz (Zhc (Zgz (Zgz (Zgz (Zmc ty (Zhc (Zgz (wpAny_fieldsOf st rfl ?_))))))))
 rw [zj5]
 refine wno (show ¬ (Zh4 d == Zl8) = true from Zhx) (Zgz (Zhc (Zgz (Zkn ho hdat (wno (by simp) (Zgz (Zhc (Zgz (Zqq ho hdat (wno (by simp) (Zhc ?_)))))))))))
 have ni : ¬ ((i : Int) < 0):=by omega
 cases he : es[i]? with
 | some e =>
  simp only [if_neg ni,Zsn,he]
  refine Zgz (Zgz (Zmc ty (Zhc (Zgz (Znu ty ?_)))))
  refine Zgz (Zlp st (by rw [zj5]; simp) fun q1 a1 b1=>?_)
  have a1 : Zoj q1 it d (i + 1) es.size ep ok ov:=a1
  have ty1 : Zsq ⟨q1,g,dr,tk,os⟩ (.ref it) "dict_itemiterator" := ⟨_,a1,rfl⟩
  refine Zgz (Zjp (Zgz (Znu ty1 (Zgz (Znu ty1 ?_)))))
  have z1 : q1.objs.size = hp.objs.size:=b1.1
  refine ydc a1 fun q2 o2 t2 z2 k2=>Zhc ⟨_,rfl,Zhc ?_⟩
  have o2 : Zrx q2 it d (i + 1) es.size ep e.key e.val q1.objs.size:=o2
  rw [show Shared.heap ⟨q1,g,dr,tk,os⟩ = q1 from rfl,z1] at *
  exact hyes e he q2 o2 t2 z2 fun b u hb e=>k2 b u hb (b1.extBut b u hb e)
 | none =>
  simp only [if_neg ni,Zsn,he]
  refine Zgz (Zgz (Zmc ty (Zhc ?_)))
  refine Zgz (Zoq st rfl (by rw [zj5]; simp) (Zgz ?_))
  simp only [newExc,newTuple]
  refine Zgz (Zk5 (Zgz (m:=Zvr _ _) (Zqp (a:=Zl8) (by first | rfl | (simp only [Zvr]; rfl)) (Zk5 ?_ (by size_fits)))) (by size_fits))
  simp only [raiseNew]
  refine Zgz (wpAny_handled ?_)
  rw [show A.in1.handled = none from hh he]
  refine Zgz (Zhc (wpAny_throw ?_))
  refine Zgz (Zuj (b:=true) (T:="StopIteration") ⟨_,Zho _ rfl,rfl⟩ isSubtype_stop (Zhc ?_))
  exact (hno he _ (((Zji ..).extBut.push _).push _))
end
noncomputable def ItM (d : Addr) (o : Obj) (kvs : List (List Key × V)) : It :=
  ⟨fun i H=>i < kvs.length/\H d = some (.frz o (.dT kvs)),
   fun i H x H'=>∃ T0 b k v,x = .ref T0/\kvs[i]? = some (k,v)/\H T0 = none/\H b = some (.tup (k.map kV))/\H' = upd H T0 (.tup [.ref b,v]),
   fun i H=>kvs.length <= i/\H d = some (.frz o (.dT kvs))⟩
theorem Paired.get {α β : Type} {R : α->β->Prop} : ∀ {l₁ : List α} {l₂ : List β},Paired R l₁ l₂ -> ∀ (i : Nat) (a : α),l₁[i]? = some a -> ∃ b,l₂[i]? = some b/\R a b
 | _,_,.nil,i,a,h=>by simp at h
 | _,_,.cons r t,0,a,h=>by simp at h; subst h; exact ⟨_,rfl,r⟩
 | _,_,.cons r t,i + 1,a,h=>by simpa using Paired.get t i a (by simpa using h)
theorem Paired.len {α β : Type} {R : α->β->Prop} : ∀ {l₁ : List α} {l₂ : List β},Paired R l₁ l₂->l₁.length = l₂.length
 | _,_,.nil=>rfl
 | _,_,.cons r t=>by simp [Paired.len t]
section
variable {X : Cx} {pins : List (Addr × Obj)} {σ : St} {H : Hp} {s : Zg5} {d it : Addr} {o : Obj} {kvs : List (List Key × V)} {es : Array Zmh} {ep i : Nat}
theorem Inv.deM (I : Inv X pins σ H s) (e : H d = some (.frz o (.dT kvs))) (ho : o.data = .dict es ep) : DE s.heap d es ep/\es.size = kvs.length /\
  ∀ (i : Nat) k v,kvs[i]? = some (k,v) -> ∃ b u en,es[i]? = some en/\en.key = .ref b/\en.val = u/\H b = some (.tup (k.map kV))/\RelV v u:=by
 obtain ⟨h0,z,y,xs,r,o',es',ep',h1,h2,h3,h4,h5⟩:=I.hok d _ e
 rw [h0] at h1
 cases h1
 rw [ho] at h3
 cases h3
 have hl:=Paired.len r
 have hz : es.size = xs.length:=by rw [<- Zi9,h4,Zg2]
 refine ⟨⟨o,h0,h2,ho⟩,by omega,fun i k v hk=>?_⟩
 obtain ⟨⟨k',b,u⟩,hb,e1,e2,e3⟩:=Paired.get r i _ hk
 have e1 : k = k':=e1
 subst e1
 have : es.toList[i]? = some (Ztu (Zk1 (za1 X.prog X.w)) (k,b,u)):=by rw [h4,Zg8,hb]; rfl
 exact ⟨b,u,_,by simpa using this,rfl,rfl,e2,e3⟩
theorem zpn {P : Zhz} {w : Zix} {K : Zgy} {elts : List Expr} {kk : Nat} {tp : Pos} (d it : Addr) (o : Obj) (kvs : List (List Key × V)) (es : Array Zmh) (ep : Nat) (ho : o.data = .dict es ep) (hz : es.size = kvs.length) :
  Turn P w K (.Tuple elts kk tp) (ItM d o kvs) [it] it (fun i h=>∃ ok ov,Zoj h it d i es.size ep ok ov) where
 mem:=by simp
 obj:=fun i h st b hb=>by
  obtain ⟨ok,ov,st⟩:=st
  rw [Zg3.mp hb]
  exact ⟨_,st,fun v z=>by cases z⟩
 keep:=fun i h h' st k=>let ⟨ok,ov,e⟩:=st; ⟨ok,ov,k it (by simp) _ e⟩
 item:=by
  intro X hP hw hK hc i pins s σ H E I hf st hg
  subst hP hw hK
  obtain ⟨hi,e⟩:=hg
  obtain ⟨ok,ov,st⟩:=st
  obtain ⟨de,_,at'⟩:=I.deM e ho
  obtain ⟨k,v,hkv⟩ : ∃ k v,kvs[i]? = some (k,v):=⟨kvs[i].1,kvs[i].2,by rw [Zg1 hi]⟩
  obtain ⟨b,u,en,h1,h2,h3,h4,h5⟩:=at' i k v hkv
  have hne:=fun c (hc : c∈[it])=>(show c = it by simpa using hc)
  refine zux st de (fun en' he h' out ht hsz kk=>?_) (fun z=>by rw [h1] at z; cases z) fun z=>by rw [h1] at z; cases z
  rw [h1] at he
  cases he
  have hT0 : H s.heap.objs.size = none:=I.hok.fresh (Zha _)
  rw [h2,h3] at ht
  have I1 : Inv X pins σ (upd H s.heap.objs.size (.tup [.ref b,v])) { s with heap:=h' }:=I.turnsT (t':=s.toks) (wr:=[it]) hf (fun c oc hc e=>kk c oc (fun z=>hc (by simp [z])) e) (Zha _) ⟨_,ht,rfl,_,rfl⟩ (.cons rfl (.cons h5 .nil)) (by rw [Zhm]; simp)
  have hitlt : it≠s.heap.objs.size:=Zht (Zhf st)
  refine ⟨_,rfl,wpAny_letOwnedTupleGo_items out fun h2' st2 sb=>?_⟩
  have hf1 : ∀ c∈[it],FpOk X pins (upd H s.heap.objs.size (.tup [.ref b,v])) c:=fun c hc=>⟨by rw [hne c hc,zam hitlt,<- hne c hc]; exact (hf c hc).1,(hf c hc).2⟩
  exact ⟨.ref s.heap.objs.size,_,I1.turns (t':=s.toks) (wr:=[it]) hf1 (fun c oc hc e=>sb.extBut c oc (fun z=>hc (by simp [z])) e),rfl,⟨_,b,k,v,rfl,hkv,hT0,h4,rfl⟩,⟨_,_,st2⟩,fun c hc=>by rw [hne c hc,zam hitlt,<- hne c hc]; exact (hf c hc).1⟩
 done:=by
  intro X hP hw hK hc i pins s σ H E I hf st hg
  subst hP hw hK
  obtain ⟨hi,e⟩:=hg
  obtain ⟨ok,ov,st⟩:=st
  obtain ⟨de,_,_⟩:=I.deM e ho
  have hno : es[i]? = none:=Array.getElem?_eq_none (by omega)
  exact zux st de (fun en he=>by rw [hno] at he; cases he) (fun _=>I.ok.hd hc) fun _ h1 eb=>⟨rfl,I.turns (t':=s.toks) (wr:=[it]) hf fun c oc hc e=>eb c oc (fun z=>hc (by simp [z])) e⟩
 self:=fun A i s Q E st h=>by
  obtain ⟨ok,ov,st⟩:=st
  exact PySem.W.kcp_self st h
noncomputable def zwx : V->List V->Hp->VK->Prop:=fun x vs H Q=>∃ d o kvs,x = .ref d/\vs = []/\H d = some (.frz o (.dT kvs)) /\ ∀ r,H r = none->Q (.ref r) (upd H r (zqs r d))
theorem ztn : MtR X "dict.items" zwx:=by
 intro pins s σ H x xs v us Q I rx rs h
 obtain ⟨d,o,kvs,rfl,rfl,e,q⟩:=h
 obtain rfl : v = Zh4 d:=rx
 cases rs
 obtain ⟨h0,z,y,xs,r,o',es',ep',h1,h2,h3,h4,h5⟩:=I.hok d _ e
 refine yce (es:=es') (ep:=ep') y ⟨_,h1,h2,h3⟩ ?_
 have I2 : Inv X pins σ (upd H s.heap.objs.size (zqs s.heap.objs.size d)) { s with heap:=s.heap.push { cls:=.type "dict_items", data:=.fields #[.ref d] } } :=
  I.laid (t':=s.toks) (fun _ _ q=>Zg6 _ q) (Zha _) ⟨⟨_,Zho _ rfl,rfl,rfl⟩,⟨_,Zho _ rfl⟩,fun h1 h2 ⟨o,ho,r⟩ k=>⟨o,k _ ho,r⟩⟩
 exact ⟨.ref s.heap.objs.size,_,I2,rfl,q _ I.fresh⟩
noncomputable def tItM (td : TE) : TE:=fun σ H Q=>td σ H fun x H1=>zwx x [] H1 Q
theorem znd {o : Expr} {apos cpos : Pos} {td : TE} (ho : PE X o td) (hbase : Zls o "items" X.env (eval o X.env) = eval o X.env:=by rfl) (hline : (apos.endLine == cpos.line) = true:=by rfl) : PE X (.Call (.Attribute o "items" apos) [] [] cpos) (tItM td):=by
 intro pins s σ H Q I h
 refine Zrn hbase hline (thn (ho pins s σ H _ I h) fun v s1 hz9=>?_)
 obtain ⟨x,H1,I1,r1,q1⟩:=hz9
 obtain ⟨d,o,kvs,ex,_,hd,_⟩:=id q1
 subst ex
 obtain rfl : v = Zh4 d:=r1
 obtain ⟨h1,h2,_⟩:=zw0 I1 (.inr ⟨kvs,.inr ⟨o,hd⟩⟩)
 exact ⟨"dict", "dict.items", Zm2,Zpu,PySem.F.type_dict_items,h1,h2,Zj1 rfl (Zq8 (ztn pins s1 σ H1 (.ref d) [] _ [] Q I1 rfl .nil q1))⟩
noncomputable def iItM (te : TE) : TI:=fun σ H R=>te σ H fun v H1=>∃ r d o kvs,v = .ref r/\H1 r = some (zqs r d)/\H1 d = some (.frz o (.dT kvs))/\R (ItM d o kvs) H1
theorem zno {e : Expr} {te : TE} {elts : List Expr} {kk : Nat} {tp : Pos} (hE : PE X e te) : PI X (.Tuple elts kk tp) e (iItM te):=by
 intro pins s σ H R I h
 refine thn (hE pins s σ H _ I h) fun u s1 hz9=>?_
 obtain ⟨x,H1,I1,r1,q1⟩:=hz9
 obtain ⟨r,d,o,kvs,rfl,hr,hd,q⟩:=q1
 obtain rfl : u = Zh4 r:=r1
 obtain ⟨hv,_,_⟩:=I1.hok r _ hr
 obtain ⟨h0,z,y,xs,rl,o',es,ep,h1,h2,h3,h4,h5⟩:=I1.hok d _ hd
 rw [h0] at h1
 cases h1
 obtain ⟨de,hz,_⟩:=I1.deM hd h3
 refine yc6 hv de fun g1 st k hsz=>?_
 exact ⟨s1.heap.objs.size,[s1.heap.objs.size],_,_,H1,rfl,I1.kept (t':=s1.toks) k,zpn d _ o kvs es ep h3 hz,⟨_,_,st⟩,fun b hb=>by rw [Zg3.mp hb]; exact I1.fpOk (Zha _) (I1.hok.fresh (Zha _)),q⟩
noncomputable def sFrz (t : TS) : TS:=fun D σ H=>∃ a kvs,H a = some (.dT kvs) /\ ∀ o,t D σ (upd H a (.frz o (.dT kvs)))
theorem Inv.frzT (I : Inv X pins σ H s) (e : H d = some (.dT kvs)) : ∃ o,Inv X pins σ (upd H d (.frz o (.dT kvs))) s:=by
 have ok:=I.hok d _ e
 obtain ⟨z,y,xs,r,o,es,ep,h1,h2⟩:=id ok
 have mu : Mut (H d):=by rw [e]; trivial
 refine ⟨o,I.write (t':=s.toks) (h':=s.heap) mu (.inl rfl) (fun _ _ _ q=>q) ⟨o,h1⟩ ⟨h1,?_⟩⟩
 have nt : ∀ b ys,H b = some (.tup ys)->b≠d:=fun b ys q z=>by rw [z,e] at q; cases q
 exact ⟨z,y,xs,Paired.mapP r fun p q w=>⟨w.1,by rw [zam (nt _ _ w.2.1)]; exact w.2.1,w.2.2⟩,o,es,ep,h1,h2⟩
theorem zrq {st : Stmt} {t : TS} (h : PS X st t) : PS X st (sFrz t):=fun pins s σ H D I ⟨a,kvs,e,q⟩=>by
 obtain ⟨o,I'⟩:=I.frzT e
 exact h pins s σ _ D I' (q o)
end
theorem zqd : ∀ {a b : List D},a.all D.isK = true->b.all D.isK = true->a.map D.key = b.map D.key->a = b
 | [],[],_,_,_=>rfl
 | [],_::_,_,_,h=>by cases h
 | _::_,[],_,_,h=>by cases h
 | x::a,y::b,ha,hb,h=>by
  rw [Zkl,Zhq] at ha hb
  rw [Zhi,Zhi] at h
  injection h with h1 h2
  rw [zkl ha.1 hb.1 h1,zqd ha.2 hb.2 h2]
theorem zmi {a b : D} (ha : a.isT = true) (hb : b.isT = true) (h : a.tkey = b.tkey) : a = b:=by
 cases a <;> simp only [D.isT] at ha <;> try (cases ha; done)
 cases b <;> simp only [D.isT] at hb <;> try (cases hb; done)
 rw [zqd ha hb h]
theorem znw {K : Zgy} {H : Hp} : ∀ {l : List D} {vs : List V},l.all D.isK = true->Reps K H l vs->vs = (l.map D.key).map kV
 | [],vs,_,r=>by rw [Reps] at r; subst r; rfl
 | d::l,vs,h,r=>by
  rw [Zkl,Zhq] at h
  rw [Reps] at r
  obtain ⟨v,r',rfl,rv,r⟩:=r
  rw [Zhi,Zhi,zij h.1 rv,znw h.2 r]
inductive Dkt (K : Zgy) (F : Hp) : DD->List (List Key × V)->Prop
 | nil : Dkt K F [] []
 | cons {k d : D} {v : V} {kvs : DD} {xs : List (List Key × V)} (hk : k.isT = true) (r : Rep K F d v) (t : Dkt K F kvs xs) : Dkt K F ((k,d)::kvs) ((k.tkey,v)::xs)
section
variable {K : Zgy} {F F' : Hp} {kvs : DD} {xs : List (List Key × V)}
theorem Dkt.mono (h : Dkt K F kvs xs) (s : Same F F') : Dkt K F' kvs xs:=by
 induction h with
 | nil=>exact .nil
 | cons hk r t ih=>exact .cons hk (r.mono s) ih
theorem Dkt.length (h : Dkt K F kvs xs) : kvs.length = xs.length:=by
 induction h with
 | nil=>rfl
 | cons hk r t ih=>simp [ih]
theorem Dkt.val (h : Dkt K F kvs xs) {k : D} (hk : k.isT = true) : (valD kvs k = none/\valV xs k.tkey = none) \/ ∃ d v,valD kvs k = some d/\valV xs k.tkey = some v/\Rep K F d v:=by
 induction h with
 | nil=>exact .inl ⟨rfl,rfl⟩
 | @cons k' d v kvs xs hk' r t ih =>
  by_cases e : k' = k
  ·subst e
   exact .inr ⟨d,v,by simp [valD],by simp [valV],r⟩
  ·have e2 : k'.tkey≠k.tkey:=fun z=>e (zmi hk' hk z)
   have h1 : valD ((k',d)::kvs) k = valD kvs k:=by simp [valD,Zij,e]
   have h2 : valV ((k'.tkey,v)::xs) k.tkey = valV xs k.tkey:=by simp [valV,Zij,e2]
   rw [h1,h2]; exact ih
theorem Dkt.any (h : Dkt K F kvs xs) {k : D} (hk : k.isT = true) : (kvs.any fun kv=>decide (kv.1 = k)) = xs.any fun kv=>decide (kv.1 = k.tkey):=by
 induction h with
 | nil=>rfl
 | @cons k' d v kvs xs hk' r t ih =>
  rw [Zkk,Zkk,ih]
  congr 1
  by_cases e : k' = k
  ·subst e; simp
  ·have e2 : k'.tkey≠k.tkey:=fun z=>e (zmi hk' hk z)
   rw [decide_eq_false e,decide_eq_false e2]
theorem Dkt.snoc (h : Dkt K F kvs xs) {k d : D} {v : V} (hk : k.isT = true) (r : Rep K F d v) : Dkt K F (kvs++[(k,d)]) (xs++[(k.tkey,v)]):=by
 induction h with
 | nil=>exact .cons hk r .nil
 | cons hk' r' t ih=>exact .cons hk' r' ih
theorem Dkt.put (h : Dkt K F kvs xs) {k d : D} {v : V} (hk : k.isT = true) (r : Rep K F d v) : Dkt K F (putD kvs k d) (putK xs k.tkey v):=by
 unfold putD putK
 rw [h.any hk]
 by_cases hc : (xs.any fun kv=>decide (kv.1 = k.tkey)) = true
 ·rw [if_pos hc,if_pos hc]
  clear hc
  induction h with
  | nil=>exact .nil
  | @cons k' d' v' kvs xs hk' r' t ih =>
   rw [Zhi,Zhi]
   by_cases e : k' = k
   ·subst e; rw [if_pos rfl,if_pos rfl]; exact .cons hk' r ih
   ·have e2 : k'.tkey≠k.tkey:=fun z=>e (zmi hk' hk z)
    rw [if_neg e,if_neg e2]; exact .cons hk' r' ih
 ·rw [if_neg hc,if_neg hc]; exact h.snoc hk r
end
noncomputable def dWT (K : Zgy) (p : Addr) (kvs : DD) : Hp->Hp->Prop:=fun F H=>∃ xs,H p = some (.dT xs)/\Dkt K F kvs xs
noncomputable def dslT (K : Zgy) (p : Addr) (kvs : DD) : Sl:=.g (.ref p) [p] (dWT K p kvs)
theorem zm7 (K : Zgy) (p : Addr) (kvs : DD) : Stab [p] (dWT K p kvs):=fun F1 H1 F2 H2 sf hh ⟨xs,h1,h2⟩=>⟨xs,by rw [hh p (by simp)]; exact h1,h2.mono sf⟩
section
variable {K : Zgy} {G H₀ L : Hp} {ss : List Sl} {i j : Nat} {p b : Addr} {kvs : DD} {E : Ends} {ty td tv tx : TE} {t : TA} {k d z : D} {ds : List D}
theorem Sat.getMT {F H : Hp} {σ : St} (S : Sat K G H₀ L F H σ ss) (hs : ss[i]? = some (dslT K p kvs)) : σ[i]? = some (some (.ref p))/\H₀ p = none/\F p = none /\ ∃ xs,H p = some (.dT xs)/\Dkt K F kvs xs:=by
 obtain ⟨v,e,ew,ha,hw,st⟩:=S.get hs (by intro z; cases z)
 cases ew
 obtain ⟨h0,fp,_⟩:=ha p (by simp)
 exact ⟨e,h0,fp,hw⟩
theorem Sat.writeMT {F H : Hp} {σ : St} {kvs' : DD} {xs : List (List Key × V)} (S : Sat K G H₀ L F H σ ss) (hs : ss[i]? = some (dslT K p kvs)) (r : Dkt K F kvs' xs) : Sat K G H₀ L F (upd H p (.dT xs)) σ (ss.set i (dslT K p kvs')):=by
 obtain ⟨e,h0,fp,ys,hp,_⟩:=S.getMT hs
 have hget : σ.getD i none = some (.ref p):=by rw [Zg0,e]; rfl
 refine S.put (S.ext.write fp h0) S.fl rfl (fun _ _=>rfl) (fun _=>?_) (by simp [dslT,Sl.ads]) (fun j s' hj h q hq=>?_) fun j s' hj h=>(S.ok j s' h).updNe (S.ne i j _ s' (Zif hj) hs h p (by simp [dslT,Sl.ads]))
 ·rw [hget]
  exact ⟨rfl,fun a ha=>by rw [Zg3.mp ha]; exact ⟨h0,fp,_,zaj,trivial⟩,⟨xs,zaj,r⟩,zm7 K p kvs'⟩
 ·have : q = p:=by simpa [dslT,Sl.ads] using hq
  subst this
  exact S.ne i j _ s' (Zif hj) hs h q (by simp [dslT,Sl.ads])
theorem zi9 (h : ∀ p,Nx K G H₀ L E.nx (ss.set i (dslT K p []))) : Go K G H₀ L E ss (tAsg zzz (zfp i)):=fun F H σ S p hp=>by
 have e:=(Ext.refl S.ext.fh).newO (o:=.dT []) hp
 have S':=S.ext2 e
 refine h p F _ _ (S'.put S'.ext S'.fl (by simp) (fun j hj=>zbm (Zif hj)) (fun hi=>?_) (by simp [dslT,Sl.ads]) (fun j s' hj hs q hq=>?_) fun j s' hj hs=>S'.ok j s' hs)
 ·rw [za6 (by rw [S.len]; exact hi)]
  exact ⟨rfl,fun a ha=>by rw [Zg3.mp ha]; exact ⟨S.ext.hh.free hp,S.ext.fh.free hp,_,zaj,trivial⟩,⟨[],zaj,.nil⟩,zm7 K p []⟩
 ·have : q = p:=by simpa [dslT,Sl.ads] using hq
  subst this
  exact fun hin=>(S.ok j s' hs).live hin hp
end
end L2
namespace L2
open PySem PySem.Spec PyProof.Rows
theorem yew {X : Cx} {pins : List (Addr × Obj)} {σ : St} {H : Hp} {s : Zg5} {a : Addr} {kvs : List (List Key × V)} {A : Zh3} {E : Value->Zg5->Prop} {Q : Value->Zg5->Prop} (I : Inv X pins σ H s) (e : Rd H a (.dT kvs)) (h : ∀ t s',Inv X pins σ H s'->Q (.int kvs.length t) s') : Zhs (Zh2 X.prog X.w) A (call (.builtin "len") [.ref a]) Q E s:=by
 obtain ⟨z,hd,xs,rel,dd⟩:=zm2 I.hok e
 have hT:=dd.typeIs
 have hl : xs.length = kvs.length:=rel.length.symm
 refine Calls.call_function_entry kind_len plain_len entry_len (args_len1 _) ?_
 unfold Zib.«len»
 refine Zgz (m:=oneArg "len" _) (Zhc ?_)
 refine Zgz (m:=callSpecial? (.ref a) (Zlc "__len__")) (Zrm (name:=Zlc "__len__") hT Zqe
  (Zlk (S:=fun _ R s=>∃ o es ep,s.heap.get? a = some o/\o.data = .dict es ep/\es.size = kvs.length/\R (.ok (.ret (.int kvs.length s.toks))) { s with toks:=s.toks + 1 }) Zqe hT PySem.F.entry_dict_len (PySem.F.args_dict_len_1 _) (.of_wp fun A R s ⟨o,es,ep,ho,hdat,hsz,h⟩=>?_) ?_))
 ·show Zhs _ _ (dictSize a >>= _) _ _ s
  unfold dictSize
  refine Zgz (Zgz (Zkn ho hdat (Zhc ?_)))
  show Zhs _ _ (Zvc a >>= _) _ _ s
  refine Zgz (wpAny_pendingCount_other hd ?_)
  refine wpAny_ret_mkInt ?_
  rw [Nat.add_zero,hsz]; exact h
 ·obtain ⟨o,es,ep,ho,hc,hdat,he,hk,hn⟩:=id dd
  refine ⟨o,es,ep,ho,hdat,by rw [<- Zi9,he,Zg2,hl],?_⟩
  show Zhs _ _ _ _ _ { s with toks:=s.toks + 1 }
  refine Zgz (Zjp (Zhc ?_))
  refine Zgz (Zkp ?_)
  show Zhs _ _ (if ((kvs.length : Nat) : Int) < 0 then _ else _) _ _ _
  rw [if_neg (by omega)]
  show Zhs _ _ (if ((kvs.length : Nat) : Int) ≥ 2 ^ 63 then _ else _) _ _ _
  rw [if_neg (by rw [Zhm] at z; omega)]
  exact Zgz (wpAny_mkInt (Zhc ⟨_,rfl,h _ _ (I.tok _)⟩))
noncomputable def yb3 : List V->Hp->VK->Prop:=fun xs H Q=>∃ a n,xs = [V.ref a]/\((∃ kvs,H a = some (.dK kvs)/\n = kvs.length) \/ ∃ kvs,H a = some (.dT kvs)/\n = kvs.length)/\Q (.int (n : Nat)) H
theorem zvd {X : Cx} : zcy X (.builtin "len") yb3:=by
 intro pins s σ H xs us Q I r h
 obtain ⟨a,n,rfl,ha,q⟩:=h
 obtain ⟨u,rfl,ru⟩:=zfs r
 cases ru
 rcases ha with ⟨kvs,ha,rfl⟩ | ⟨kvs,ha,rfl⟩
 ·exact yf5 I (.inl ha) fun t s' I'=>⟨.int kvs.length,H,I',⟨t,rfl⟩,q⟩
 ·exact yew I (.inl ha) fun t s' I'=>⟨.int kvs.length,H,I',⟨t,rfl⟩,q⟩
section
variable {K : Zgy} {G H₀ L : Hp} {ss : List Sl} {i j : Nat} {p b : Addr} {kvs : DD} {E : Ends} {ty td tv tx : TE} {t : TA} {k d z : D} {ds : List D}
theorem ziv {F H : Hp} {v : V} (r : Rep K F (.tup ds) v) (hk : ds.all D.isK = true) (hi : zfo ds = true) (fh : Same F H) : ∃ b,v = .ref b/\H b = some (.tup ((D.tup ds).tkey.map kV)):=by
 obtain ⟨b,vs,rfl,hb,rs⟩:=r.trk hi
 exact ⟨b,rfl,by rw [fh _ _ hb,znw hk rs]; rfl⟩
theorem zx0 (hs : ss[i]? = some (dslT K p kvs)) (b : Ev K G H₀ L ss ty (.tup ds)) (hk : ds.all D.isK = true) (hi : zfo ds = true) (hv : valD kvs (.tup ds) = some d) : Ev K G H₀ L ss (zvt (tVar i) ty) d:=fun F H σ Q S q=>by
 obtain ⟨e,_⟩:=S.getMT hs
 refine ⟨_,e,b F H σ _ S fun v F1 H1 e1 r1=>?_⟩
 have S1:=S.ext2 e1
 obtain ⟨_,_,_,xs,hp,dk⟩:=S1.getMT hs
 obtain ⟨b',rfl,hb⟩:=ziv r1 hk hi S1.ext.fh
 rcases dk.val (k:=.tup ds) hk with ⟨h1,_⟩ | ⟨d',w,h1,h2,rw'⟩
 ·rw [h1] at hv; cases hv
 ·rw [h1] at hv; cases hv
  refine ⟨p,w,rfl,?_,q w F1 H1 e1 rw'⟩
  rw [<- h2]
  exact DGet.t hp hb
theorem zr0 (hs : ss[i]? = some (dslT K p kvs)) (b : Ev K G H₀ L ss ty (.tup ds)) (hk : ds.all D.isK = true) (hi : zfo ds = true) : Ev K G H₀ L ss (zl6 ty (tVar i)) (.bl (!(valD kvs (.tup ds)).isSome)):=fun F H σ Q S q =>
 b F H σ _ S fun v F1 H1 e1 r1=>by
  have S1:=S.ext2 e1
  obtain ⟨e,_,_,xs,hp,dk⟩:=S1.getMT hs
  obtain ⟨b',rfl,hb⟩:=ziv r1 hk hi S1.ext.fh
  refine ⟨_,e,p,valV xs (D.tup ds).tkey,rfl,DGet.t hp hb,q _ F1 H1 e1 ?_⟩
  have : (valV xs (D.tup ds).tkey).isSome = (valD kvs (.tup ds)).isSome:=by
   rcases dk.val (k:=.tup ds) hk with ⟨h1,h2⟩ | ⟨d',w,h1,h2,_⟩ <;> rw [h1,h2] <;> rfl
  rw [this]; exact Rep.bl
theorem zia (hs : ss[i]? = some (dslT K p kvs)) (a : Ev K G H₀ L ss tv d) (b : Ev K G H₀ L ss ty (.tup ds)) (hk : ds.all D.isK = true) (hi : zfo ds = true) (hz : kvs.length < sizeLine) (h : Nx K G H₀ L E.nx (ss.set i (dslT K p (putD kvs (.tup ds) d)))) : Go K G H₀ L E ss (ycl (tVar i) ty tv):=fun F H σ S =>
 a F H σ _ S fun v F1 H1 e1 r1=>by
  have S1:=S.ext2 e1
  obtain ⟨e,_⟩:=S1.getMT hs
  refine ⟨_,e,b F1 H1 σ _ S1 fun y F2 H2 e2 r2=>?_⟩
  have S2:=S1.ext2 e2
  obtain ⟨_,_,_,xs,hp,dk⟩:=S2.getMT hs
  obtain ⟨b',rfl,hb⟩:=ziv r2 hk hi S2.ext.fh
  exact ⟨p,_,rfl,DPut.t (k:=(D.tup ds).tkey) (v:=v) hp hb (by rw [<- dk.length]; exact hz),h F2 _ σ (S2.writeMT hs (dk.put hk (r1.mono e2.gf)))⟩
theorem yak (hs : ss[i]? = some (dslT K p kvs)) : Ev K G H₀ L ss (tCB yb3 (za3 (tVar i) tNil)) (.int kvs.length):=fun F H σ Q S q=>by
 obtain ⟨e,_,_,xs,hp,dk⟩:=S.getMT hs
 exact ⟨_,e,p,xs.length,rfl,.inr ⟨xs,hp,rfl⟩,q _ F H (Ext.refl S.ext.fh) (by rw [dk.length]; exact Rep.int)⟩
end
end L2
namespace L2
open PySem PySem.W PySem.Spec PyProof.Rows
noncomputable def D.dicT (kvs : DD) : D:=.dctT (kvs.map (·.1)) (kvs.map (·.2))
theorem yaa {K : Zgy} {F : Hp} : ∀ {kvs : DD} {kv : List (List Key × V)},(kvs.map (·.1)).all D.isT = true->(kv.map fun q=>q.1) = (kvs.map (·.1)).map D.tkey->Reps K F (kvs.map (·.2)) (kv.map fun q=>q.2)->Dkt K F kvs kv
 | [],[],_,_,_=>.nil
 | [],_::_,_,h,_=>by simp at h
 | _::_,[],_,h,_=>by simp at h
 | (k,d)::kvs,(q,v)::kv,ha,h,r=>by
  rw [Zhi,Zkl,Zhq] at ha
  simp only [Zhi,Zoo] at h
  rw [Zhi,Zhi,Reps] at r
  obtain ⟨x,r',e,rv,rr⟩:=r
  cases e
  obtain ⟨h1,h2⟩:=h
  have h1 : q = k.tkey:=h1
  subst h1
  exact .cons ha.1 rv (yaa ha.2 h2 rr)
theorem Dkt.parts {K : Zgy} {F : Hp} {kvs : DD} {xs : List (List Key × V)} (h : Dkt K F kvs xs) : (kvs.map (·.1)).all D.isT = true/\(xs.map fun q=>q.1) = (kvs.map (·.1)).map D.tkey/\Reps K F (kvs.map (·.2)) (xs.map fun q=>q.2):=by
 induction h with
 | nil=>exact ⟨rfl,rfl,Reps.nil⟩
 | cons hk r t ih=>exact ⟨by rw [Zhi,Zkl,hk,ih.1]; rfl,by simp only [Zhi]; rw [ih.2.1],Reps.cons r ih.2.2⟩
theorem Rep.of_dicT {K : Zgy} {F : Hp} {kvs : DD} {v : V} (r : Rep K F (D.dicT kvs) v) : ∃ p o xs,v = .ref p/\F p = some (.frz o (.dT xs))/\Dkt K F kvs xs:=by
 unfold D.dicT at r
 rw [Rep] at r
 obtain ⟨p,kv,e,⟨o,q⟩,⟨h1,h2⟩,r2⟩:=r
 exact ⟨p,o,kv,e,q,yaa h1 h2 r2⟩
theorem Rep.dicT {K : Zgy} {F : Hp} {kvs : DD} {p : Addr} {o : Obj} {xs : List (List Key × V)} (q : F p = some (.frz o (.dT xs))) (dk : Dkt K F kvs xs) : Rep K F (D.dicT kvs) (.ref p):=by
 obtain ⟨h1,h2,h3⟩:=dk.parts
 unfold D.dicT
 rw [Rep]
 exact ⟨p,xs,rfl,⟨o,q⟩,⟨h1,h2⟩,h3⟩
theorem DGet.tf {H : Hp} {a b : Addr} {o : Obj} {kvs : List (List Key × V)} {k : List Key} (e : H a = some (.frz o (.dT kvs))) (eb : H b = some (.tup (k.map kV))) : DGet H a (.ref b) (valV kvs k):=.inr ⟨kvs,k,b,.inr ⟨o,e⟩,rfl,eb,rfl⟩
noncomputable def ItF (K : Zgy) (J : It) (F' : Hp) (n : Nat) (y : Nat->D) : Prop:=∀ F2 H2,Same F' F2->Same F2 H2 ->
 (∀ i,i < n->J.go i H2 /\ ∀ x H3,J.yld i H2 x H3 -> ∃ F3,Ext F2 H2 F3 H3/\Rep K F3 (y i) x)/\J.stop n H2
noncomputable def EvF (K : Zgy) (G H₀ L : Hp) (ss : List Sl) (wi : TI) (n : Nat) (y : Nat->D) : Prop:=∀ F H σ R,Sat K G H₀ L F H σ ss->(∀ F' H' J,Ext F H F' H'->ItF K J F' n y->R J H')->wi σ H R
section
variable {K : Zgy} {G H₀ L : Hp} {ss : List Sl} {i j : Nat} {p b : Addr} {kvs : DD} {E : Ends} {ty td tv tx : TE} {t : TS} {k d z : D} {ds : List D} {wi : TI} {n : Nat} {y : Nat->D}
theorem EvF.evi (a : EvF K G H₀ L ss wi n y) : EvI K G H₀ L ss wi n y:=fun F H σ R S q=>a F H σ R S fun F' H' J e it=>q F' H' J e fun F2 H2 f1 h1 fh=>it F2 H2 f1 fh
theorem yah {g : TG} {tb : TS} (I : Nat->List Sl->Prop) (a : EvF K G H₀ L ss wi n y) (h0 : I 0 ss)
  (hs : ∀ L' k ss,Same L L'->k < n->I k ss -> ∃ ss',Tg K G H₀ L' g (y k) ss ss' /\ ∀ N,(∀ ss,I (k + 1) ss->Nx K G H₀ L' N ss)->Go K G H₀ L' { E with nx:=N,ct:=N,bk:=E.nx } ss' tb)
  (hd : ∀ ss,I n ss->Nx K G H₀ L E.nx ss) : Go K G H₀ L E ss (tFor wi g tb):=fun F H σ S =>
 a F H σ _ S fun F1 H1 J e1 it=>by
  refine ⟨fun i m σ' H'=>m = n - i/\i <= n/\At K G H₀ F1 (I i) σ' H',⟨_,rfl,Zih _,ss,F1,(S.ext2 e1).raise,h0⟩,?_⟩
  rintro i m σ' H' ⟨rfl,hi,ss1,F2,S2,h2⟩
  obtain ⟨it1,it2⟩:=it F2 H' S2.fl S2.ext.fh
  by_cases hlt : i < n
  ·obtain ⟨go,yl⟩:=it1 i hlt
   refine .inr ⟨go,fun σ'' H''=>At K G H₀ F1 (I (i + 1)) σ'' H'',fun σ'' H'' h=>⟨n - (i + 1),by omega,rfl,hlt,h⟩,fun x H'' yx=>?_⟩
   obtain ⟨F3,e3,rx⟩:=yl x H'' yx
   obtain ⟨ss',tg,go⟩:=hs F1 i ss1 (S.fl.trans e1.gf) hlt h2
   exact tg F3 _ σ' x _ (S2.ext2 e3) rx fun σ3 S3=>go _ (fun ss h=>zsf h) F3 _ σ3 S3
  ·have e : i = n:=by omega
   subst e
   exact .inl ⟨it2,hd ss1 h2 F2 H' σ' (S2.lower (S.fl.trans e1.gf))⟩
theorem zqv (hs : ss[i]? = some (dslT K p kvs)) (h : Go K G H₀ L E (ss.set i (.d (D.dicT kvs))) t) : Go K G H₀ L E ss (sFrz t):=fun F H σ S=>by
 obtain ⟨e,h0,fp,xs,hp,dk⟩:=S.getMT hs
 have hget : σ.getD i none = some (.ref p):=by rw [Zg0,e]; rfl
 refine ⟨p,xs,hp,fun o=>h (upd F p (.frz o (.dT xs))) _ σ ?_⟩
 have hn : ∀ j s',j≠i->ss[j]? = some s'->p ∉ s'.ads:=fun j s' hj h=>S.ne i j _ s' (Zif hj) hs h p (by simp [dslT,Sl.ads])
 exact S.put ((S.ext.write fp h0).freeze fp h0 zaj) (S.fl.trans (Same.upd fp)) rfl (fun _ _=>rfl) (fun _=>by rw [hget]; exact ⟨_,rfl,Rep.dicT zaj (dk.mono (Same.upd fp))⟩) (by simp [Sl.ads]) (fun _ _ _ _ q hq=>by simp [Sl.ads] at hq)
  fun j s' hj h=>((S.ok j s' h).updNe (hn j s' hj h)).frz fp (hn j s' hj h)
theorem Dkt.at {F : Hp} {kvs : DD} {xs : List (List Key × V)} (h : Dkt K F kvs xs) : ∀ {i : Nat} {k : List Key} {v : V},xs[i]? = some (k,v) -> ∃ kd d,kvs[i]? = some (kd,d)/\k = kd.tkey/\Rep K F d v:=by
 induction h with
 | nil=>intro i k v h; simp at h
 | @cons k d v kvs xs hk r t ih =>
  intro i k' v' hi
  cases i with
  | zero=>simp at hi; exact ⟨k,d,rfl,hi.1.symm,hi.2 ▸ r⟩
  | succ i=>simpa using ih (by simpa using hi)
theorem zy1 {F : Hp} {xs : List (List Key × V)} (dk : Dkt K F kvs xs) (hk : ds.all D.isK = true) : (valV xs (D.tup ds).tkey).isSome = (valD kvs (.tup ds)).isSome:=by
 rcases dk.val (k:=.tup ds) hk with ⟨h1,h2⟩ | ⟨d',w,h1,h2,_⟩ <;> rw [h1,h2] <;> rfl
theorem zuq (a : Ev K G H₀ L ss td (D.dicT kvs)) (b : Ev K G H₀ L ss ty (.tup ds)) (hk : ds.all D.isK = true) (hi : zfo ds = true) (hv : valD kvs (.tup ds) = some d) : Ev K G H₀ L ss (zvt td ty) d:=fun F H σ Q S q =>
 a F H σ _ S fun x F1 H1 e1 r1=>b F1 H1 σ _ (S.ext2 e1) fun v F2 H2 e2 r2=>by
  obtain ⟨p,o,xs,rfl,hp,dk⟩:=r1.of_dicT
  obtain ⟨b',rfl,hb⟩:=ziv r2 hk hi e2.fh
  rcases (dk.mono e2.gf).val (k:=.tup ds) hk with ⟨h1,_⟩ | ⟨d',w,h1,h2,rw'⟩
  ·rw [h1] at hv; cases hv
  ·rw [h1] at hv; cases hv
   refine ⟨p,w,rfl,?_,q w F2 H2 (e1.trans e2) rw'⟩
   rw [<- h2]
   exact DGet.tf (e2.fh _ _ (e2.gf _ _ hp)) hb
theorem zpl (a : Ev K G H₀ L ss td (D.dicT kvs)) (b : Ev K G H₀ L ss ty (.tup ds)) (hk : ds.all D.isK = true) (hi : zfo ds = true) : Ev K G H₀ L ss (zl6 ty td) (.bl (!(valD kvs (.tup ds)).isSome)):=fun F H σ Q S q =>
 b F H σ _ S fun v F1 H1 e1 r1=>a F1 H1 σ _ (S.ext2 e1) fun x F2 H2 e2 r2=>by
  obtain ⟨p,o,xs,rfl,hp,dk⟩:=r2.of_dicT
  obtain ⟨b',rfl,hb⟩:=ziv (r1.mono e2.gf) hk hi e2.fh
  refine ⟨p,valV xs (D.tup ds).tkey,rfl,DGet.tf (e2.fh _ _ hp) hb,q _ F2 H2 (e1.trans e2) ?_⟩
  rw [zy1 dk hk]; exact Rep.bl
theorem zsa (a : Ev K G H₀ L ss td (D.dicT kvs)) (b : Ev K G H₀ L ss ty (.tup ds)) (c : Ev K G H₀ L ss tx z) (hk : ds.all D.isK = true) (hi : zfo ds = true) : Ev K G H₀ L ss (zrk td ty tx) ((valD kvs (.tup ds)).getD z):=fun F H σ Q S q =>
 a F H σ _ S fun x F1 H1 e1 r1=>by
  obtain ⟨p,o,xs,rfl,hp,dk⟩:=r1.of_dicT
  refine ⟨p,rfl,.inr ⟨xs,.inr ⟨o,e1.fh _ _ hp⟩⟩,b F1 H1 σ _ (S.ext2 e1) fun v F2 H2 e2 r2=>c F2 H2 σ _ ((S.ext2 e1).ext2 e2) fun w F3 H3 e3 r3=>?_⟩
  obtain ⟨b',rfl,hb⟩:=ziv (r2.mono e3.gf) hk hi e3.fh
  refine ⟨valV xs (D.tup ds).tkey,DGet.tf (e3.fh _ _ (e3.gf _ _ (e2.gf _ _ hp))) hb,q _ F3 H3 ((e1.trans e2).trans e3) ?_⟩
  rcases (dk.mono (e2.gf.trans e3.gf)).val (k:=.tup ds) hk with ⟨h1,h2⟩ | ⟨d',u,h1,h2,ru⟩ <;> rw [h1,h2]
  ·exact r3
  ·exact ru
theorem zli (a : Ev K G H₀ L ss td (D.dicT kvs)) (b : Ev K G H₀ L ss ty (.tup ds)) (hk : ds.all D.isK = true) (hi : zfo ds = true) : Ev K G H₀ L ss (zrp td ty) ((valD kvs (.tup ds)).getD .non):=fun F H σ Q S q =>
 a F H σ _ S fun x F1 H1 e1 r1=>by
  obtain ⟨p,o,xs,rfl,hp,dk⟩:=r1.of_dicT
  refine ⟨p,rfl,.inr ⟨xs,.inr ⟨o,e1.fh _ _ hp⟩⟩,b F1 H1 σ _ (S.ext2 e1) fun v F2 H2 e2 r2=>?_⟩
  obtain ⟨b',rfl,hb⟩:=ziv r2 hk hi e2.fh
  refine ⟨valV xs (D.tup ds).tkey,DGet.tf (e2.fh _ _ (e2.gf _ _ hp)) hb,q _ F2 H2 (e1.trans e2) ?_⟩
  rcases (dk.mono e2.gf).val (k:=.tup ds) hk with ⟨h1,h2⟩ | ⟨d',u,h1,h2,ru⟩ <;> rw [h1,h2]
  ·exact Rep.non
  ·exact ru
theorem zt8 (hs : ss[i]? = some (dslT K p kvs)) (b : Ev K G H₀ L ss ty (.tup ds)) (c : Ev K G H₀ L ss tx z) (hk : ds.all D.isK = true) (hi : zfo ds = true) : Ev K G H₀ L ss (zrk (tVar i) ty tx) ((valD kvs (.tup ds)).getD z):=fun F H σ Q S q=>by
 obtain ⟨e,_,_,xs0,hp0,_⟩:=S.getMT hs
 refine ⟨_,e,p,rfl,.inr ⟨xs0,.inl hp0⟩,b F H σ _ S fun v F2 H2 e2 r2=>c F2 H2 σ _ (S.ext2 e2) fun w F3 H3 e3 r3=>?_⟩
 obtain ⟨_,_,_,xs,hp,dk⟩:=((S.ext2 e2).ext2 e3).getMT hs
 obtain ⟨b',rfl,hb⟩:=ziv (r2.mono e3.gf) hk hi e3.fh
 refine ⟨valV xs (D.tup ds).tkey,DGet.t hp hb,q _ F3 H3 (e2.trans e3) ?_⟩
 rcases dk.val (k:=.tup ds) hk with ⟨h1,h2⟩ | ⟨d',u,h1,h2,ru⟩ <;> rw [h1,h2]
 ·exact r3
 ·exact ru
theorem zni {F : Hp} : ∀ {es : List D},(∀ d∈es,d.isInt = true)->Reps K F es ((es.map D.key).map kV)
 | [],_=>Reps.nil
 | d::es,h=>by
  have h1:=h d Zhl
  cases d <;> simp [D.isInt] at h1
  exact Reps.cons Rep.int (zni fun e he=>h e (Zhd _ he))
theorem Ext.holdT {G H₀ F H : Hp} (x : Ext G H₀ F H) {b : Addr} {xs : List V} (hb : H b = some (.tup xs)) (h0 : ∀ o,H₀ b = some o->H₀ b = some (.tup xs)) : Ext G H₀ (upd F b (.tup xs)) H:=by
 have sm : Same F (upd F b (.tup xs)):=fun c o e=>by
  by_cases hc : c = b
  ·subst hc; rw [zaj]; have:=x.fh c o e; rw [hb] at this; exact this
  ·rw [zam hc]; exact e
 refine ⟨x.gf.trans sm,fun c o e=>?_,x.hh,fun c o e nt=>?_⟩
 ·by_cases hc : c = b
  ·subst hc; rw [zaj] at e; cases e; exact hb
  ·rw [zam hc] at e; exact x.fh c o e
 ·have hc : c≠b:=fun z=>by subst z; have:=h0 o e; rw [e] at this; cases this; exact nt
  rw [zam hc]; exact x.no c o e nt
theorem zon (a : Ev K G H₀ L ss td (D.dicT kvs)) (hk : ∀ q∈kvs,∃ es,q.1 = .tup es /\ ∀ d∈es,d.isInt = true) : EvF K G H₀ L ss (iItM (tItM td)) kvs.length fun i=>prD (kvs.getD i (.non,.non)):=fun F H σ R S q =>
 a F H σ _ S fun v F1 H1 e1 r1=>by
  obtain ⟨p,o,xs,rfl,hp,dk⟩:=r1.of_dicT
  refine ⟨p,o,xs,rfl,rfl,e1.fh _ _ hp,fun r hr=>?_⟩
  have e2:=e1.newO (o:=zqs r p) hr
  have hpr : p≠r:=fun z=>by rw [<- z,e1.fh _ _ hp] at hr; cases hr
  refine ⟨r,p,o,xs,rfl,zaj,by rw [zam hpr]; exact e1.fh _ _ hp,q F1 _ _ e2 fun F2 H2 f1 fh=>?_⟩
  have hp2 : H2 p = some (.frz o (.dT xs)):=fh _ _ (f1 _ _ hp)
  have hl:=dk.length
  refine ⟨fun i hi=>⟨⟨by omega,hp2⟩,fun x H3 yx=>?_⟩,⟨by omega,hp2⟩⟩
  obtain ⟨T0,b,k,v,rfl,hkv,hT,hb,rfl⟩:=yx
  obtain ⟨kd,dv,hkd,hkt,rv⟩:=dk.at hkv
  obtain ⟨es,he,hint⟩:=hk (kd,dv) (Zhb hkd)
  have he : kd = .tup es:=he
  subst he
  have e3 : Ext F2 H2 (upd F2 b (.tup (k.map kV))) H2:=(Ext.refl fh).holdT hb fun _ _=>hb
  have hTb : T0≠b:=fun z=>by rw [<- z,hT] at hb; cases hb
  have e4:=e3.newF (o:=.tup [.ref b,v]) hT
  refine ⟨_,e4,?_⟩
  show Rep K _ (prD (kvs.getD i (.non,.non))) _
  rw [Zg0,hkd]
  refine Rep.tupN zaj (Reps.cons (Rep.tupN (xs:=k.map kV) (by rw [zam (Zif hTb)]; exact zaj) ?_) (Reps.cons (rv.mono (f1.trans e4.gf)) Reps.nil))
  rw [hkt]
  exact zni hint
end
section
variable {X : Cx}
theorem zrl {H : Hp} : ∀ {kvs : List (List Key × V)} {xs : List (List Key × Addr × Value)},KT H kvs xs -> ∀ (i : Nat) x,xs[i]? = some x -> ∃ q,kvs[i]? = some q/\H x.2.1 = some (.tup (q.1.map kV))
 | _,_,.nil,i,x,h=>by simp at h
 | _,_,.cons r t,0,x,h=>by simp at h; subst h; exact ⟨_,rfl,r.2.1⟩
 | _,_,.cons r t,i + 1,x,h=>by simpa using zrl t i x (by simpa using h)
end
section
variable {K : Zgy} {G H₀ L : Hp} {ss : List Sl} {i j : Nat} {p b : Addr} {kvs : DD} {E : Ends} {ty td tv tx ta tb te : TE} {t : TS} {k d z : D} {ds es : List D} {wi : TI} {n : Nat} {y : Nat->D}
theorem znp (hs : ss[i]? = some (.o p (ds++[d]))) (hij : i≠j) (h : Nx K G H₀ L E.nx ((ss.set i (.o p ds)).set j (.d d))) : Go K G H₀ L E ss (tAsg (tBM0 K "list" rPop (tVar i)) (zfp j)):=fun F H σ S=>by
 obtain ⟨e,h0,fp,vs,hp,r⟩:=S.getO hs
 have hl:=r.length
 rw [Zhg,Zlw] at hl
 have hne : vs≠[]:=fun z=>by rw [z] at hl; simp at hl
 have rr : Reps K F ds vs.dropLast:=by
  have:=r.take ds.length
  rw [List.take_left,show vs.take ds.length = vs.dropLast by rw [List.dropLast_eq_take]; congr 1; omega] at this
  exact this
 have rd : Rep K F d (vs.getLast hne):=by
  obtain ⟨x,hx,rx⟩:=r.get' (i:=ds.length) (d:=d) (by simp)
  rw [show ds.length = vs.length - 1 by omega,<- Zp4,Zqf hne] at hx
  cases hx
  exact rx
 refine ⟨.ref p,e,.inl ⟨rfl,_,SqL.of hp⟩,p,vs,vs.getLast hne,rfl,rfl,hp,by rw [<- Zp4,Zqf hne],?_⟩
 exact h F _ _ ((S.write hs rr).setD rd)
theorem zu7 {l : List Nat} (a : Ev K G H₀ L ss ta d) (hd : d = .non \/ ∃ m,d = .str m) (b : EvB K G H₀ L ss tb (.str l)) : Ev K G H₀ L ss (tOp rEq ta tb) (.bl (decide (d = .str l))):=fun F H σ Q S q =>
 a F H σ _ S fun v F1 H1 e1 r1=>b F1 H1 σ _ (S.ext2 e1) fun v2 F2 H2 e2 r2=>by
  rw [r2.of_str]
  rcases hd with rfl | ⟨m,rfl⟩
  ·rw [r1.of_non]
   refine ⟨rfl,q _ F2 H2 (e1.trans e2) ?_⟩
   rw [decide_eq_false (by intro z; cases z),decide_eq_false (by intro z; cases z)]
   exact Rep.bl
  ·rw [r1.of_str]
   refine ⟨rfl,q _ F2 H2 (e1.trans e2) ?_⟩
   by_cases hml : m = l
   ·subst hml; rw [decide_eq_true rfl,decide_eq_true rfl]; exact Rep.bl
   ·rw [decide_eq_false (p:=D.str m = D.str l) (by intro z; injection z with z; exact hml z),decide_eq_false (by intro z; injection z with z; exact hml (ztw.mp z))]; exact Rep.bl
theorem zrz {i j k : Int} {tc : TE} (a : EvB K G H₀ L ss ta (.int i)) (b : EvB K G H₀ L ss tb (.int j)) (c : EvB K G H₀ L ss tc (.int k)) : Ev K G H₀ L ss (zz2 (rI0 fun i j=>.bl (decide (i <= j))) (rI0 fun i j=>.bl (decide (i < j))) ta tb tc) (.bl (decide (i <= j) && decide (j < k))):=fun F H σ Q S q =>
 a F H σ _ S fun v F1 H1 e1 r1=>b F1 H1 σ _ (S.ext2 e1) fun v2 F2 H2 e2 r2=>by
  rw [r1.of_int,r2.of_int]
  refine ⟨i,j,rfl,rfl,_,rfl,?_⟩
  by_cases h : i <= j
  ·rw [if_pos (decide_eq_true h)]
   refine c F2 H2 σ _ ((S.ext2 e1).ext2 e2) fun v3 F3 H3 e3 r3=>?_
   rw [r3.of_int]
   refine ⟨j,k,rfl,rfl,q _ F3 H3 ((e1.trans e2).trans e3) ?_⟩
   rw [decide_eq_true h,Zkm]; exact Rep.bl
  ·rw [if_neg (by rw [decide_eq_false h]; decide)]
   refine q _ F2 H2 (e1.trans e2) ?_
   rw [decide_eq_false h,Zn1]; exact Rep.bl
theorem yc7 (a : Ev K G H₀ L ss ta (.lst ds)) (b : Ev K G H₀ L ss tb (.lst es)) : EvF K G H₀ L ss (iZip K (za3 ta (za3 tb tNil))) (min ds.length es.length) fun i=>.tup [ds.getD i .non,es.getD i .non]:=fun F H σ R S q =>
 a F H σ _ S fun v F0 H0 e0 r0=>b F0 H0 σ _ (S.ext2 e0) fun v2 F1 H1 e1 r2=>by
  have r1:=r0.mono e1.gf
  obtain ⟨p,vs,rfl,sq,rs⟩:=r1.of_lst
  obtain ⟨p2,vs2,rfl,sqb,rsb⟩:=r2.of_lst
  refine ⟨p,p2,rfl,⟨vs,SqL.same e1.fh sq⟩,⟨vs2,SqL.same e1.fh sqb⟩,q F1 H1 _ (e0.trans e1) fun F2 H2 f1 fh=>?_⟩
  obtain ⟨ws,sq2,rs2⟩:=(r1.mono f1).itl fh
  obtain ⟨ws2,sq22,rs22⟩:=(r2.mono f1).itl fh
  have l1:=rs2.length
  have l2:=rs22.length
  refine ⟨fun i hi=>⟨⟨ws,ws2,ws[i]'(by omega),ws2[i]'(by omega),sq2,sq22,Zg1 _,Zg1 _⟩,fun x H3 y=>?_⟩,⟨ws,ws2,sq2,sq22,by omega⟩⟩
  obtain ⟨T0,us,rfl,hf,rfl,y⟩:=y
  obtain ⟨w,w2,hx,hx2,rfl⟩:=y ws ws2 sq2 sq22
  obtain ⟨dx,hdx,rx⟩:=rs2.get hx
  obtain ⟨dx2,hdx2,rx2⟩:=rs22.get hx2
  have e3 : Ext F2 H2 (upd F2 T0 (.tup [w,w2])) (upd H2 T0 (.tup [w,w2])):=(Ext.refl fh).newF hf
  refine ⟨_,e3,?_⟩
  show Rep K _ (.tup [ds.getD i .non,es.getD i .non]) _
  rw [Zg0,Zg0,hdx,hdx2]
  exact Rep.tupN zaj (Reps.cons (rx.mono e3.gf) (Reps.cons (rx2.mono e3.gf) Reps.nil))
end
section
variable {prog : Zhz} {w : Zix} {A : Zh3} {E : Value->Zg5->Prop} {s : Zg5}
theorem zwc {α : Type} {f : α->PUnit->Sem (ForInStep PUnit)} : ∀ {l : List α} {Q : PUnit->Zg5->Prop},(∀ e∈l,∀ R : ForInStep PUnit->Zg5->Prop,R (.yield ⟨⟩) s->Zhs (Zh2 prog w) A (f e ⟨⟩) R E s)->Q ⟨⟩ s->Zhs (Zh2 prog w) A (forIn l Zp3 f) Q E s
 | [],Q,_,q=>by rw [List.forIn_nil]; exact Zhc q
 | a::l,Q,h,q=>by
  rw [Zpk]
  exact Zgz (h a Zhl _ (zwc (fun e he=>h e (Zhd _ he)) q))
theorem zp2 {a : Addr} {Q : Bool->Zg5->Prop} (ht : s.TypeIs (.ref a) "tuple") (h : Q false s) : Zhs (Zh2 prog w) A (Zpf (.ref a)) Q E s:=by
 unfold Zpf
 exact Zgz (Zqo ht PySem.F.slot_tuple_eq.lookup (Zhc h))
variable {o : Addr} {es : Array Zmh} {ep : Nat}
theorem zsz {id : String} {Q : Array Zmh->Zg5->Prop} (x : DE s.heap o es ep) (hk : ∀ e∈es,∃ a,e.key = .ref a/\s.TypeIs (.ref a) "tuple") (hd : ∀ e∈es,(es.filter (·.hash == e.hash)).size <= 1) (h : Q es s) :
  Zhs (Zh2 prog w) A (Znz id o) Q E s:=by
 obtain ⟨ob,ho,hc,hdat⟩:=x.ob
 unfold Znz
 refine Zgz (Zkn ho hdat (Zgz ?_))
 rw [<- Array.forIn_toList]
 refine zwc (fun e he R hR=>?_) (Zhc h)
 have he:=Zl5.mp he
 obtain ⟨a,ea,ta⟩:=hk e he
 rw [ea]
 refine Zgz (zp2 ta ?_)
 have h1:=hd e he
 have n1 : ¬ ((es.filter (·.hash == e.hash)).size > 1):=by omega
 simp only [Zn0,if_true,if_neg n1]
 exact Zhc hR
theorem zxd {id : String} {d : Addr} {ep0 : Nat} {Q : Unit->Zg5->Prop} (hdo : d≠o) (hoS : (o == Zj2) = false) (y : DE s.heap d #[] ep0) (x : DE s.heap o es ep) (hk : ∀ e∈es,∃ a,e.key = .ref a/\s.TypeIs (.ref a) "tuple") (hd : ∀ e∈es,(es.filter (·.hash == e.hash)).size <= 1) (hz : es.size <= sizeLine)
  (h : ∀ h' ep',DE h' d es ep'->Zox d s.heap h'->Q () { s with heap:=h' }) : Zhs (Zh2 prog w) A (Zoz id d o) Q E s:=by
 obtain ⟨ob,ho,hc,hdat⟩:=x.ob
 obtain ⟨od,hod,hcd,hdd⟩:=y.ob
 unfold Zoz
 have n1 : ¬ (d == o) = true:=fun z=>hdo (eq_of_beq z)
 have n2 : ¬ (o == Zj2) = true:=by rw [hoS]; exact Zhx
 refine wno n1 (Zgz (m:=Zo3 o) (wno n2 (Zhc (Zgz (Zkn ho hdat ?_)))))
 by_cases he : es = #[]
 ·subst he
  refine wno (by simp) (Zgz (Zqq ho hdat (Zgz (Zkn ho hdat (Zgz ?_)))))
  refine Zqp (a:=Zp3) (by simp) (Zhc ?_)
  exact h s.heap ep0 y (Zu6 _ _)
 ·have hpos : 0 < es.size:=Nat.pos_of_ne_zero fun z=>he (Array.size_eq_zero_iff.mp z)
  have hfew : (decide (es.size <= 8) && es.all fun e=>(keyPart e.key).isSome) = false:=by
   rw [Bool.and_eq_false_iff]
   refine .inr ?_
   rw [Array.all_eq_false]
   refine ⟨0,hpos,?_⟩
   obtain ⟨a,ea,_⟩:=hk es[0] (Array.getElem_mem hpos)
   rw [ea]; simp [keyPart]
  simp only [hfew,Zn0,if_true]
  refine Zgz (Zkn hod hdd ?_)
  rw [if_pos (show (#[] : Array Zmh).isEmpty = true from rfl)]
  refine Zgz (zsz x hk hd ?_)
  have hne : (!es.isEmpty) = true:=by
   cases hb : es.isEmpty with
   | false=>rfl
   | true=>exact absurd (Array.isEmpty_iff.mp hb) he
  rw [if_pos hne]
  refine Zgz (wpAny_updateDictKeysTo hod hdd (Zhc (h _ (ep0 + 1) ⟨_,Zkt _ hod (Obj.isFreed_of_dict (Zrg hdd _)),hcd.mapDictKeys _,Zrg hdd _⟩ (Zji ..))) (by omega))
theorem ybj {Q : Value->Zg5->Prop} (hoS : (o == Zj2) = false) (x : DE s.heap o es ep) (hk : ∀ e∈es,∃ a,e.key = .ref a/\s.TypeIs (.ref a) "tuple") (hd : ∀ e∈es,(es.filter (·.hash == e.hash)).size <= 1) (hz : es.size <= sizeLine)
  (h : ∀ h' ep',DE h' s.heap.objs.size es ep'->(∀ b u,s.heap.get? b = some u->h'.get? b = some u)->Q (.ref s.heap.objs.size) { s with heap:=h' }) : Zhs (Zh2 prog w) A (call (.type "dict") [.ref o]) Q E s:=by
 refine callType_codes (Q₁:=fun obj s₁=>obj = .ref s.heap.objs.size/\s₁ = { s with heap:=s.heap.push { cls:=.type "dict", data:=.dict #[] } }) F.kt_called_dict (F.kt_typeCall_dict_1 _) F.entry_dict_init (kt_code_dict_new _ ⟨rfl,rfl⟩) ?_
 rintro obj s₁ ⟨rfl,rfl⟩
 have y : DE (s.heap.push { cls:=.type "dict", data:=.dict #[] }) s.heap.objs.size #[] 0:=⟨_,Zho _ rfl,⟨rfl,rfl,rfl⟩,rfl⟩
 have k0 : ∀ b u,s.heap.get? b = some u->(s.heap.push { cls:=.type "dict", data:=.dict #[] }).get? b = some u:=fun b u e=>Zg6 _ e
 have x' : DE (s.heap.push { cls:=.type "dict", data:=.dict #[] }) o es ep:=x.at fun u e=>k0 o u e
 have hlt : s.heap.objs.size≠o:=by
  obtain ⟨ob,ho,_⟩:=x.ob
  exact fun z=>absurd (Zhf ho) (by rw [z]; exact Zh6 _)
 refine ⟨DE.typeIs (s:={ s with heap:=s.heap.push { cls:=.type "dict", data:=.dict #[] } }) y,F.args_dict_init_2 _ _,?_⟩
 unfold Zib.«dict.__init__» Zva
 refine Zgz (Zgz (Zsg (DE.typeIs (s:={ s with heap:=s.heap.push { cls:=.type "dict", data:=.dict #[] } }) y) (Zhc ?_)))
 show Zhs _ _ (Zou "dict.__init__" s.heap.objs.size (.ref o) [] .none) _ _ _
 unfold Zou
 have tx:=DE.typeIs (s:={ s with heap:=s.heap.push { cls:=.type "dict", data:=.dict #[] } }) x'
 refine Zgz (wpAny_typeOf tx (wno (by decide) (Zgz ?_)))
 unfold Zve Zvb
 refine Zgz (Zgz (Zuj tx isSubtype_dict_dict ?_))
 simp only [Zqm,Zlf,if_false]
 refine Zgz (Zqo tx PySem.F.slot_dict_iter.lookup (Zhc ?_))
 rw [if_pos (by decide)]
 refine Zgz (Zhc ?_)
 refine zxd (s:={ s with heap:=s.heap.push { cls:=.type "dict", data:=.dict #[] } }) hlt hoS y x' (fun e he=>?_) hd hz fun h' ep' z sb=>?_
 ·obtain ⟨a,ea,ta⟩:=hk e he
  exact ⟨a,ea,by obtain ⟨u,hu,hc⟩:=ta; exact ⟨u,k0 a u hu,hc⟩⟩
 ·exact Zgz (Zhc (Zhc ⟨rfl,h h' ep' z fun b u e=>(sb.2 b (Zht (Zhf e))).trans (k0 b u e)⟩))
end
theorem yat : Zme "dict" = some (.type "dict"):=by decide +kernel
noncomputable def th2 (i j : Int) : Int:=reduceHash (Zuf [hashInt i,hashInt j])
theorem yby : ((Zg4 64).map fun n=>th2 (n / 8 : Nat) (n % 8 : Nat)).Nodup:=by decide +kernel
theorem ybh {a b c d : Nat} (ha : a < 8) (hb : b < 8) (hc : c < 8) (hd : d < 8) (h : th2 a b = th2 c d) : a = c/\b = d:=by
 have key:=yby
 have e1 : ((Zg4 64).map fun n=>th2 (n / 8 : Nat) (n % 8 : Nat))[8 * a + b]? = some (th2 a b):=by
  rw [Zg8,Zi1 (by omega)]
  simp only [Zne,show (8 * a + b) / 8 = a by omega,show (8 * a + b) % 8 = b by omega]
 have e2 : ((Zg4 64).map fun n=>th2 (n / 8 : Nat) (n % 8 : Nat))[8 * c + d]? = some (th2 c d):=by
  rw [Zg8,Zi1 (by omega)]
  simp only [Zne,show (8 * c + d) / 8 = c by omega,show (8 * c + d) % 8 = d by omega]
 obtain ⟨l1,f1⟩:=Zg7.mp e1
 obtain ⟨l2,f2⟩:=Zg7.mp e2
 have:=(Zo1 key).mp (f1.trans (h.trans f2.symm))
 omega
noncomputable def zzr (k : List Key) : Prop:=∃ a b : Nat,a < 8/\b < 8/\k = [.inl a,.inl b]
noncomputable def zu0 : List V->Hp->VK->Prop:=fun xs H Q=>∃ d kvs,xs = [.ref d]/\Rd H d (.dT kvs)/\(∀ q∈kvs,zzr q.1) /\ ∀ p,H p = none->Q (.ref p) (upd H p (.dT kvs))
theorem zr6 {α : Type} {f : α->Int} {l : List α} (h : (l.map f).Nodup) {e : α} (he : e∈l) : (l.filter fun x=>f x == f e).length <= 1:=by
 induction l with
 | nil=>cases he
 | cons a l ih =>
  rw [Zhi,Zi5] at h
  rw [Zl2]
  rcases Zhp.mp he with z | z
  ·subst z
   rw [if_pos (by simp),Zjo]
   have : l.filter (fun x=>f x == f e) = []:=Zqw.mpr fun x hx z=>h.1 (Zhk.mpr ⟨x,hx,by simpa using z⟩)
   rw [this]; simp
  ·have : ¬ (f a == f e) = true:=fun z'=>h.1 (Zhk.mpr ⟨e,z,(by simpa using z' : f a = f e).symm⟩)
   rw [if_neg this]
   exact ih h.2 z
theorem zrx {X : Cx} : zcy X (.type "dict") zu0:=by
 intro pins s σ H xs us Q I r h
 obtain ⟨d,kvs,rfl,e,hsm,q⟩:=h
 obtain ⟨u,rfl,ru⟩:=zfs r
 cases ru
 obtain ⟨hz,hd,zs,rel,o,es,ep,h1,h2,h3,h4,h5⟩:=e.ok I.hok
 have lz : kvs.length = zs.length:=rel.length
 have hsz : es.size = zs.length:=by rw [<- Zi9,h4,Zg2]
 have hkey : ∀ z∈zs,zzr z.1/\H z.2.1 = some (.tup (z.1.map kV)):=fun z hz1=>by
  obtain ⟨i,hi⟩:=Zlv.mp hz1
  obtain ⟨q',hq',hq2⟩:=zrl rel i z hi
  have hlt:=(Zg7.mp hq').1
  obtain ⟨z',hz',e1,e2,_⟩:=Paired.get rel i q' hq'
  rw [hi] at hz'; cases hz'
  have e1 : q'.1 = z.1:=e1
  rw [<- e1]
  exact ⟨hsm q' (Zhb hq'),hq2⟩
 have hnd : (zs.map fun z=>(Zk1 (za1 X.prog X.w)).hash z.1).Nodup:=by
  rw [Zpx,Zm4] at h5
  rw [Zpx,Zm4]
  refine Zuc (fun {x y} hx hy hne hh=>hne ?_) h5
  obtain ⟨⟨a,b,ha,hb,ex⟩,_⟩:=hkey x hx
  obtain ⟨⟨c,d',hc,hd',ey⟩,_⟩:=hkey y hy
  rw [ex,ey] at hh
  obtain ⟨z1,z2⟩:=ybh ha hb hc hd' hh
  rw [ex,ey,z1,z2]
 refine ybj (es:=es) (ep:=ep) hd ⟨o,h1,h2,h3⟩ (fun en he=>?_) (fun en he=>?_) (by omega) fun h' ep' y k=>?_
 ·have he : en∈es.toList:=Zl5.mpr he
  rw [h4] at he
  obtain ⟨z,hz1,rfl⟩:=Zhk.mp he
  refine ⟨z.2.1,rfl,?_⟩
  obtain ⟨_,its,_,ob,ho,hc,_⟩:=(show zc9 X.prog X.w H s.heap z.2.1 (.tup _) from I.hok _ _ (hkey z hz1).2)
  exact ⟨ob,ho,hc⟩
 ·have he : en∈es.toList:=Zl5.mpr he
  rw [h4] at he
  obtain ⟨z,hz1,rfl⟩:=Zhk.mp he
  have e0 : (es.filter fun x=>x.hash == (Ztu (Zk1 (za1 X.prog X.w)) z).hash).size = (zs.filter fun x=>(Zk1 (za1 X.prog X.w)).hash x.1 == (Zk1 (za1 X.prog X.w)).hash z.1).length:=by
   rw [<- Zi9,Array.toList_filter,h4,Znl,Zg2]; rfl
  rw [e0]
  exact zr6 (f:=fun x : List Key × Addr × Value=>(Zk1 (za1 X.prog X.w)).hash x.1) hnd hz1
 ·have hf : H s.heap.objs.size = none:=I.fresh
  have nt : ∀ b ys,H b = some (.tup ys)->b≠s.heap.objs.size:=fun b ys q z=>by rw [z,hf] at q; cases q
  obtain ⟨oy,hy1,hy2,hy3⟩:=y.ob
  refine ⟨.ref s.heap.objs.size,_,I.laid (t':=s.toks) k (Zha _) (show zc9 X.prog X.w _ _ _ (.dT kvs) from ⟨hz,beq_eq_false_iff_ne.mpr (Zif (Zht I.big)),zs,Paired.mapP rel fun p q w=>⟨w.1,by rw [zam (nt _ _ w.2.1)]; exact w.2.1,w.2.2⟩,oy,es,ep',hy1,hy2,hy3,h4,h5⟩),rfl,q _ hf⟩
section
variable {K : Zgy} {G H₀ L : Hp} {ss : List Sl} {i j : Nat} {p b : Addr} {kvs : DD} {E : Ends} {td : TE}
theorem zyn (a : Ev K G H₀ L ss td (D.dicT kvs)) (hk : ∀ q∈kvs,∃ a b : Nat,a < 8/\b < 8/\q.1 = .tup [.int a,.int b]) (h : ∀ p,Nx K G H₀ L E.nx (ss.set i (dslT K p kvs))) : Go K G H₀ L E ss (tAsg (tCB zu0 (za3 td tNil)) (zfp i)):=fun F H σ S =>
 a F H σ _ S fun v F1 H1 e1 r1=>by
  obtain ⟨d,o,xs,rfl,hd,dk⟩:=r1.of_dicT
  refine ⟨d,xs,rfl,.inr ⟨o,e1.fh _ _ hd⟩,fun q hq=>?_,fun p hp=>?_⟩
  ·obtain ⟨n,hn⟩:=Zlv.mp hq
   obtain ⟨kd,dv,h1,h2,_⟩:=dk.at (k:=q.1) (v:=q.2) hn
   obtain ⟨a,b,ha,hb,e⟩:=hk _ (Zhb h1)
   have e : kd = .tup [.int a,.int b]:=e
   exact ⟨a,b,ha,hb,by rw [h2,e]; rfl⟩
  ·have e:=e1.newO (o:=.dT xs) hp
   have S':=S.ext2 e
   refine h p F1 _ _ (S'.put S'.ext S'.fl (by simp) (fun j hj=>zbm (Zif hj)) (fun hi=>?_) (by simp [dslT,Sl.ads]) (fun j s' hj hs q hq=>?_) fun j s' hj hs=>S'.ok j s' hs)
   ·rw [za6 (by rw [S.len]; exact hi)]
    exact ⟨rfl,fun a ha=>by rw [Zg3.mp ha]; exact ⟨S.ext.hh.free (e1.hh.free hp),e1.fh.free hp,_,zaj,trivial⟩,⟨xs,zaj,dk⟩,zm7 K p kvs⟩
   ·have : q = p:=by simpa [dslT,Sl.ads] using hq
    subst this
    exact fun hin=>(S.ok j s' hs).live hin (e1.hh.free hp)
end
end L2
namespace L2
theorem zh0 {α : Type} {P : List α->Prop} (h0 : P []) (hs : ∀ xs x,P xs->P (xs++[x])) (xs : List α) : P xs:=by
 have : ∀ ys : List α,P ys.reverse:=by
  intro ys
  induction ys with
  | nil=>exact h0
  | cons y ys ih=>rw [Zot]; exact hs _ _ ih
 have:=this xs.reverse
 rwa [Zra] at this
section
variable {α β γ : Type} [DecidableEq α] [DecidableEq β] [DecidableEq γ] {f : α->β} {g : α->γ} {xs : List α} {x : α}
noncomputable def zix (f : α->β) (acc : List α) (x : α) : List α:=if (acc.any fun y=>decide (f y = f x)) = true then acc else acc++[x]
noncomputable def ze6 (f : α->β) (xs : List α) : List α:=xs.foldl (zix f) []
theorem zdh : ze6 f (xs++[x]) = zix f (ze6 f xs) x:=by unfold ze6; rw [Zjt]; rfl
theorem zkt (v : β) : (∃ y∈ze6 f xs,f y = v) ↔ ∃ y∈xs,f y = v:=by
 induction xs using zh0 with
 | h0=>simp [ze6]
 | hs xs x ih =>
  rw [zdh]
  unfold zix
  split
  ·rename_i h
   rw [Zjx] at h
   obtain ⟨y,hy,e⟩:=h
   have e:=of_decide_eq_true e
   rw [ih]
   constructor
   ·rintro ⟨z,hz,ez⟩; exact ⟨z,Zhu _ hz,ez⟩
   ·rintro ⟨z,hz,ez⟩
    rcases Zhe.mp hz with hz | hz
    ·exact ⟨z,hz,ez⟩
    ·rw [Zg3.mp hz] at ez
     exact ih.mp ⟨y,hy,e.trans ez⟩
  ·constructor
   ·rintro ⟨z,hz,ez⟩
    rcases Zhe.mp hz with hz | hz
    ·obtain ⟨w,hw,ew⟩:=ih.mp ⟨z,hz,ez⟩
     exact ⟨w,Zhu _ hw,ew⟩
    ·exact ⟨z,Zg9 _ hz,ez⟩
   ·rintro ⟨z,hz,ez⟩
    rcases Zhe.mp hz with hz | hz
    ·obtain ⟨w,hw,ew⟩:=ih.mpr ⟨z,hz,ez⟩
     exact ⟨w,Zhu _ hw,ew⟩
    ·exact ⟨z,Zg9 _ hz,ez⟩
theorem zh6 {y : α} : y∈ze6 f xs->y∈xs:=by
 induction xs using zh0 with
 | h0=>exact fun h=>h
 | hs xs x ih =>
  rw [zdh]
  unfold zix
  split
  ·exact fun h=>Zhu _ (ih h)
  ·intro h
   rcases Zhe.mp h with h | h
   ·exact Zhu _ (ih h)
   ·exact Zg9 _ h
theorem zq0 : ((ze6 f xs).map f).Nodup:=by
 induction xs using zh0 with
 | h0=>exact Zny
 | hs xs x ih =>
  rw [zdh]
  unfold zix
  split
  ·exact ih
  ·rename_i h
   rw [Zhj]
   refine Zjs.mpr ⟨ih,by simp,fun a ha b hb e=>h ?_⟩
   obtain ⟨y,hy,ey⟩:=Zhk.mp ha
   have hb : b = f x:=by simpa using hb
   rw [Zjx]
   exact ⟨y,hy,decide_eq_true (ey.trans (e.trans hb))⟩
noncomputable def zbi (f : α->β) (xs : List α) : List (List α):=(ze6 f xs).map fun h=>xs.filter fun t=>decide (f t = f h)
noncomputable def ye0 (xs : List α) (f : α->β) (g : α->γ) : Prop:=∀ a∈xs,∀ b∈xs,(f a = f b ↔ g a = g b)
theorem zpy (h : ye0 xs f g) : ze6 f xs = ze6 g xs:=by
 induction xs using zh0 with
 | h0=>rfl
 | hs xs x ih =>
  rw [zdh,zdh,ih fun a ha b hb=>h a (Zhu _ ha) b (Zhu _ hb)]
  unfold zix
  have : ((ze6 g xs).any fun y=>decide (f y = f x)) = (ze6 g xs).any fun y=>decide (g y = g x):=by
   rw [Zh8,Zjx,Zjx]
   simp only [decide_eq_true_eq]
   constructor
   ·rintro ⟨y,hy,e⟩; exact ⟨y,hy,(h y (Zhu _ (zh6 hy)) x (by simp)).mp e⟩
   ·rintro ⟨y,hy,e⟩; exact ⟨y,hy,(h y (Zhu _ (zh6 hy)) x (by simp)).mpr e⟩
  rw [this]
theorem zn3 (h : ye0 xs f g) : zbi f xs = zbi g xs:=by
 unfold zbi
 rw [zpy h]
 refine Zia fun y hy=>Zln fun t ht=>?_
 rw [Zh8,decide_eq_true_eq,decide_eq_true_eq]
 exact h t ht y (zh6 hy)
theorem zlr : (zbi f xs).length <= xs.length:=by
 unfold zbi
 rw [Zg2]
 induction xs using zh0 with
 | h0=>exact Zha _
 | hs xs x ih =>
  rw [zdh]
  unfold zix
  split <;> simp <;> omega
noncomputable def zn5 (k l : β) (f : α->β) : α->β:=fun t=>if f t = l then k else f t
theorem zxn {k l : β} {x y a b : α} (h : (k = f x/\l = f y) \/ (k = f y/\l = f x)) : zn5 k l f a = zn5 k l f b ↔ f a = f b \/ ((f a = f x \/ f a = f y)/\(f b = f x \/ f b = f y)):=by
 unfold zn5
 rcases h with ⟨rfl,rfl⟩ | ⟨rfl,rfl⟩
 ·by_cases h1 : f a = f y <;> by_cases h2 : f b = f y <;> simp [h1,h2]
  ·constructor
   ·intro e; exact .inr e.symm
   ·rintro (e | e)
    ·exact absurd e.symm h2
    ·exact e.symm
  ·intro e e2; exact e.trans e2.symm
 ·by_cases h1 : f a = f x <;> by_cases h2 : f b = f x <;> simp [h1,h2]
  ·constructor
   ·intro e; exact .inr e.symm
   ·rintro (e | e)
    ·exact absurd e.symm h2
    ·exact e.symm
  ·intro e e2; exact e.trans e2.symm
variable {enc : α->D} {encB : β->D}
noncomputable def dA (enc : α->D) (encB : β->D) (xs : List α) (f : α->β) : DD:=xs.map fun t=>(enc t,encB (f t))
theorem zed (hi : ∀ a b,enc a = enc b->a = b) (h : x∈xs) : valD (dA enc encB xs f) (enc x) = some (encB (f x)):=by
 induction xs with
 | nil=>cases h
 | cons y ys ih =>
  by_cases e : y = x
  ·subst e; simp [valD,dA]
  ·have e2 : enc y≠enc x:=fun z=>e (hi _ _ z)
   have : valD (dA enc encB (y::ys) f) (enc x) = valD (dA enc encB ys f) (enc x):=by simp [valD,dA,Zij,e2]
   rw [this]
   rcases Zhp.mp h with z | z
   ·exact absurd z.symm e
   ·exact ih z
theorem zmx (hi : ∀ a b,enc a = enc b->a = b) (h : x ∉ xs) : valD (dA enc encB xs f) (enc x) = none:=by
 induction xs with
 | nil=>rfl
 | cons y ys ih =>
  have e2 : enc y≠enc x:=fun z=>h (by rw [hi _ _ z]; exact Zhl)
  have : valD (dA enc encB (y::ys) f) (enc x) = valD (dA enc encB ys f) (enc x):=by simp [valD,dA,Zij,e2]
  rw [this]
  exact ih fun z=>h (Zhd _ z)
theorem zzu (hi : ∀ a b,enc a = enc b->a = b) : ((dA enc encB xs f).any fun kv=>decide (kv.1 = enc x)) = true ↔ x∈xs:=by
 rw [Zjx]
 constructor
 ·rintro ⟨kv,hkv,e⟩
  obtain ⟨y,hy,rfl⟩:=Zhk.mp hkv
  rw [<- hi _ _ (of_decide_eq_true e)]; exact hy
 ·intro h; exact ⟨_,Zhk.mpr ⟨x,h,rfl⟩,by simp⟩
theorem ybg (hi : ∀ a b,enc a = enc b->a = b) (h : x∈xs) (v : β) : putD (dA enc encB xs f) (enc x) (encB v) = dA enc encB xs (fun u=>if u = x then v else f u):=by
 unfold putD
 rw [if_pos ((zzu hi).mpr h)]
 unfold dA
 rw [Zh5]
 refine Zia fun u _=>?_
 show (if enc u = enc x then (enc u,encB v) else (enc u,encB (f u))) = (enc u,encB (if u = x then v else f u))
 by_cases e : u = x
 ·rw [if_pos (by rw [e]),if_pos e]
 ·rw [if_neg fun z=>e (hi _ _ z),if_neg e]
theorem zgk (hi : ∀ a b,enc a = enc b->a = b) (h : x ∉ xs) : putD (dA enc encB xs f) (enc x) (encB (f x)) = dA enc encB (xs++[x]) f:=by
 unfold putD
 rw [if_neg fun z=>h ((zzu hi).mp z)]
 unfold dA
 rw [Zhj]
 rfl
theorem zy6 {g : α->β} (h : ∀ a∈xs,f a = g a) : dA enc encB xs f = dA enc encB xs g:=by
 unfold dA
 exact Zia fun a ha=>by rw [h a ha]
noncomputable def grpD (enc : α->D) (encB : β->D) (f : α->β) (xs : List α) : List (D × List D):=(ze6 f xs).map fun h=>(encB (f h),(xs.filter fun t=>decide (f t = f h)).map enc)
theorem zw8 (hi : ∀ a b,encB a = encB b->a = b) {F : α->List D} {d : D} : ∀ {hs : List α},(hs.map f).Nodup->(∃ h∈hs,f h = f x)->appD (hs.map fun h=>(encB (f h),F h)) (encB (f x)) d = hs.map fun h=>(encB (f h),if f h = f x then F h++[d] else F h)
 | [],_,h=>by obtain ⟨_,h,_⟩:=h; cases h
 | y::ys,hn,h=>by
  rw [Zhi,Zhi,appD]
  rw [Zhi,Zi5] at hn
  by_cases e : f y = f x
  ·rw [if_pos (by show encB (f y) = encB (f x); rw [e]),if_pos e]
   congr 1
   refine Zia fun z hz=>?_
   have : f z≠f x:=fun w=>hn.1 (by rw [e,<- w]; exact Zjb hz)
   rw [if_neg this]
  ·rw [if_neg (fun z=>e (hi _ _ z)),if_neg e]
   congr 1
   refine zw8 hi hn.2 ?_
   obtain ⟨z,hz,ez⟩:=h
   rcases Zhp.mp hz with rfl | hz
   ·exact absurd ez e
   ·exact ⟨z,hz,ez⟩
theorem zrn (hi : ∀ a b,encB a = encB b->a = b) {F : α->List D} {d : D} : ∀ {hs : List α},(∀ h∈hs,f h≠f x)->appD (hs.map fun h=>(encB (f h),F h)) (encB (f x)) d = (hs.map fun h=>(encB (f h),F h))++[(encB (f x),[d])]
 | [],_=>rfl
 | y::ys,h=>by
  rw [Zhi,appD,if_neg (fun z=>h y Zhl (hi _ _ z)),zrn hi fun z hz=>h z (Zhd _ hz)]
  rfl
theorem zzb (hi : ∀ a b,encB a = encB b->a = b) : appD (grpD enc encB f xs) (encB (f x)) (enc x) = grpD enc encB f (xs++[x]):=by
 unfold grpD
 rw [zdh]
 unfold zix
 have ef : ∀ h,((xs++[x]).filter fun t=>decide (f t = f h)).map enc = if f h = f x then (xs.filter fun t=>decide (f t = f h)).map enc++[enc x] else (xs.filter fun t=>decide (f t = f h)).map enc:=fun h=>by
  rw [Zjw]
  by_cases e : f h = f x
  ·rw [if_pos e,Zjg (by simp [e]),Zi6,Zhj]; rfl
  ·rw [if_neg e,Zjh (by simp; exact fun z=>e z.symm),Zi6,Zik]
 split
 ·rename_i h
  rw [Zjx] at h
  obtain ⟨y,hy,e⟩:=h
  rw [zw8 hi zq0 ⟨y,hy,of_decide_eq_true e⟩]
  exact Zia fun h _=>by rw [ef]
 ·rename_i h
  have hno : ∀ y∈ze6 f xs,f y≠f x:=fun y hy e=>h (by rw [Zjx]; exact ⟨y,hy,decide_eq_true e⟩)
  rw [zrn hi hno,Zhj]
  congr 1
  ·exact Zia fun h hh=>by rw [ef,if_neg (hno h hh)]
  ·rw [Zmx,ef,if_pos rfl]
   have : (xs.filter fun t=>decide (f t = f x)) = []:=by
    rw [Zqw]
    intro t ht e
    obtain ⟨z,hz,ez⟩:=(zkt (f:=f) (xs:=xs) (f x)).mpr ⟨t,ht,of_decide_eq_true e⟩
    exact hno z hz ez
   rw [this]; rfl
theorem zup : ((grpD enc encB f xs).map fun q=>D.lst q.2) = (zbi f xs).map fun p=>D.lst (p.map enc):=by
 unfold grpD zbi
 rw [Zh5,Zh5]
 rfl
theorem zxp : (grpD enc encB f xs).length <= xs.length:=by
 have:=zlr (f:=f) (xs:=xs)
 unfold zbi at this
 unfold grpD
 simpa using this
theorem zwa {q : D × List D} (h : q∈grpD enc encB f xs) : q.2.length <= xs.length:=by
 unfold grpD at h
 obtain ⟨y,_,rfl⟩:=Zhk.mp h
 rw [Zg2]
 exact Ziu ..
end
end L2
namespace L2
open PySem PySem.W PyProof.Rows PySem.Spec PySem.Calls
end L2
namespace L2
open PySem PySem.Spec PyProof.Rows
end L2
namespace L2
open PySem PySem.W PyProof.Rows PySem.Spec PySem.Calls
end L2
namespace L2
open PySem PySem.Spec PyProof.Rows PySem.Calls
end L2
namespace L2
open PySem PySem.W PySem.Spec PyProof.Rows
end L2
namespace L2
theorem zg2 {α : Type} {P : List α->Prop} (h0 : P []) (hs : ∀ xs x,P xs->P (xs++[x])) (xs : List α) : P xs:=by
 have : ∀ ys : List α,P ys.reverse:=by
  intro ys
  induction ys with
  | nil=>exact h0
  | cons y ys ih=>rw [Zot]; exact hs _ _ ih
 have:=this xs.reverse
 rwa [Zra] at this
section
variable {β γ : Type} [DecidableEq β] [DecidableEq γ]
noncomputable def ddS (acc : List β) (x : β) : List β:=if x∈acc then acc else acc++[x]
noncomputable def dd (ls : List β) : List β:=ls.foldl ddS []
theorem zlv (ls : List β) (x : β) : dd (ls++[x]) = ddS (dd ls) x:=by unfold dd; rw [Zjt]; rfl
theorem zef {x : β} (ls : List β) : x∈dd ls ↔ x∈ls:=by
 induction ls using zg2 generalizing x with
 | h0=>exact Zqy
 | hs ls y ih =>
  rw [zlv]
  unfold ddS
  by_cases h : y∈dd ls
  ·rw [if_pos h,ih,Zhe,Zg3]
   exact ⟨.inl,fun z=>z.elim id fun e=>e ▸ ih.mp h⟩
  ·rw [if_neg h,Zhe,Zhe,ih]
theorem zgx {ls : List β} {x : β} (h : x∈ls) : dd (ls++[x]) = dd ls:=by rw [zlv]; exact if_pos ((zef ls).mpr h)
theorem zd6 {ls : List β} {x : β} (h : x ∉ ls) : dd (ls++[x]) = dd ls++[x]:=by rw [zlv]; exact if_neg fun z=>h ((zef ls).mp z)
theorem zm0 {ls : List β} {x y : β} (h : x∈ls) : (ls++[y]).idxOf x = ls.idxOf x:=by rw [Zr4,if_pos h]
theorem ziz {ls : List β} {x : β} (h : x ∉ ls) : ls.idxOf x = ls.length:=List.idxOf_eq_length h
theorem zf1 {ls : List β} {x : β} (h : x∈ls) : ls.idxOf x < ls.length:=Ziz.mpr h
theorem zyz {ls : List β} {x : β} : ls.idxOf x <= ls.length:=List.idxOf_le_length
theorem znz {ls : List β} {x y : β} (h : x ∉ ls) : (ls++[y]).idxOf x = if y = x then ls.length else ls.length + 1:=by
 rw [Zr4,if_neg h]
 by_cases e : y = x
 ·subst e; rw [if_pos rfl]; simp
 ·rw [if_neg e]
  have : [y].idxOf x = 1:=by
   rw [ziz (by simp; exact fun z=>e z.symm)]; rfl
  omega
theorem zot {ls : List β} {x : β} : (ls++[x]).idxOf x = ls.idxOf x:=by
 by_cases h : x∈ls
 ·exact zm0 h
 ·rw [znz h,if_pos rfl,ziz h]
noncomputable def numF (ls : List β) : List Nat:=ls.map fun x=>(dd ls).idxOf x
theorem zfc (ls : List β) (x : β) : numF (ls++[x]) = numF ls++[(dd ls).idxOf x]:=by
 unfold numF
 rw [Zhj,Zmx]
 congr 1
 ·refine Zia fun y hy=>?_
  by_cases h : x∈ls
  ·rw [zgx h]
  ·rw [zd6 h,zm0 ((zef ls).mpr hy)]
 ·by_cases h : x∈ls
  ·rw [zgx h]
  ·rw [zd6 h,zot]
theorem zl8 (ls : List β) : (numF ls).length = ls.length:=by unfold numF; rw [Zg2]
noncomputable def fstF (ls : List β) : List Nat:=ls.map fun x=>ls.idxOf x
theorem zer (ls : List β) : (fstF ls).length = ls.length:=by unfold fstF; rw [Zg2]
theorem zkq (ls : List β) (x : β) : fstF (ls++[x]) = fstF ls++[ls.idxOf x]:=by
 unfold fstF
 rw [Zhj,Zmx,zot]
 congr 1
 exact Zia fun y hy=>zm0 hy
noncomputable def cntF (F : List Nat) (k : Nat) : Nat:=((Zg4 k).filter fun j=>decide (F[j]? = some j)).length
theorem zh8 (F : List Nat) (k : Nat) : cntF F (k + 1) = cntF F k + if F[k]? = some k then 1 else 0:=by
 unfold cntF
 rw [Zkr,Zjw,Zhg]
 by_cases h : F[k]? = some k
 ·rw [if_pos h]; simp [h]
 ·rw [if_neg h]; simp [h]
theorem zja {F : List Nat} {y k : Nat} (h : k <= F.length) : cntF (F++[y]) k = cntF F k:=by
 unfold cntF
 congr 1
 refine Zln fun j hj=>?_
 have : j < F.length:=Zhn (Zhv.mp hj) h
 rw [Zip this]
theorem zxr (F : List Nat) {k k' : Nat} (h : k <= k') : cntF F k <= cntF F k':=by
 induction k' with
 | zero=>rw [Zvl.mp h]; exact Zha _
 | succ n ih =>
  rw [zh8]
  rcases Znp n k with c | c
  ·have : k = n + 1:=by omega
   subst this
   rw [zh8]; exact Zha _
  ·have:=ih c; omega
theorem zzp {F : List Nat} {k k' : Nat} (hk : F[k]? = some k) (h : k < k') : cntF F k < cntF F k':=by
 have h1:=zh8 F k
 rw [if_pos hk] at h1
 have:=zxr F (show k + 1 <= k' from h)
 omega
theorem ztg (ls : List β) : ∀ x,(dd ls).idxOf x = cntF (fstF ls) (ls.idxOf x):=by
 induction ls using zg2 with
 | h0=>intro x; rfl
 | hs ls z ih =>
  intro x
  have fl:=zer ls
  rw [zkq]
  by_cases hx : x∈ls
  ·rw [zm0 hx,zja (by rw [fl]; exact zyz),<- ih]
   by_cases hz : z∈ls
   ·rw [zgx hz]
   ·rw [zd6 hz,zm0 ((zef ls).mpr hx)]
  ·have h0:=ih x
   rw [ziz hx] at h0
   have hxd : x ∉ dd ls:=fun q=>hx ((zef ls).mp q)
   by_cases hz : z∈ls
   ·have hzx : z≠x:=fun e=>hx (e ▸ hz)
    rw [zgx hz,znz hx,if_neg hzx,zh8,zja (by rw [fl]; exact Zha _),h0]
    have : (fstF ls++[ls.idxOf z])[ls.length]? = some (ls.idxOf z):=by rw [<- fl,Zil (Zha _)]; simp
    rw [this,if_neg]
    ·rfl
    ·intro e; injection e with e; have:=zf1 hz; omega
   ·rw [zd6 hz,znz hxd,znz hx]
    have hl : (dd ls).length = cntF (fstF ls) ls.length:=by rw [<- h0,ziz hxd]
    by_cases e : z = x
    ·rw [if_pos e,if_pos e,zja (by rw [fl]; exact Zha _),hl]
    ·rw [if_neg e,if_neg e,zh8,zja (by rw [fl]; exact Zha _),hl]
     have : (fstF ls++[ls.idxOf z])[ls.length]? = some (ls.idxOf z):=by rw [<- fl,Zil (Zha _)]; simp
     rw [this,ziz hz,if_pos rfl]
theorem zo9 : ∀ {a b : List Nat} {x y : Nat},a.length = b.length->(a++[x] < b++[y] ↔ a < b \/ (a = b/\x < y))
 | [],[],x,y,_=>by
  rw [Zpj,Zpj,Zii]
  exact ⟨fun z=>.inr ⟨rfl,z.elim id fun q=>absurd q.2 (Zk3 _)⟩,fun z=>z.elim (fun q=>absurd q (Zk3 _)) fun q=>.inl q.2⟩
 | [],_::_,_,_,h=>by simp at h
 | _::_,[],_,_,h=>by simp at h
 | c::a,d::b,x,y,h=>by
  have ih:=zo9 (a:=a) (b:=b) (x:=x) (y:=y) (by simpa using h)
  rw [Zl3,Zl3,Zii,Zii,ih]
  constructor
  ·rintro (k | ⟨rfl,k | ⟨rfl,k⟩⟩)
   ·exact .inl (.inl k)
   ·exact .inl (.inr ⟨rfl,k⟩)
   ·exact .inr ⟨rfl,k⟩
  ·rintro ((k | ⟨rfl,k⟩) | ⟨e,k⟩)
   ·exact .inl k
   ·exact .inr ⟨rfl,.inl k⟩
   ·injection e with e1 e2
    exact .inr ⟨e1,.inr ⟨e2,k⟩⟩
theorem zwr {α : Type} {a b : List α} {x y : α} : a++[x] = b++[y] ↔ a = b/\x = y:=by
 constructor
 ·intro h
  have:=List.append_inj' h rfl
  exact ⟨this.1,by simpa using this.2⟩
 ·rintro ⟨rfl,rfl⟩; rfl
theorem zqx {ls : List β} {x : β} : ls.idxOf x = ls.length \/ (fstF ls)[ls.idxOf x]? = some (ls.idxOf x):=by
 by_cases h : x∈ls
 ·refine .inr ?_
  unfold fstF
  rw [Zg8,Zg1 (zf1 h),Zne,Zi4]
 ·exact .inl (ziz h)
theorem zos (n : Nat) : ∀ (ls : List β) (ms : List γ),ls.length = n->ms.length = n->((numF ls < numF ms ↔ fstF ls < fstF ms)/\(numF ls = numF ms ↔ fstF ls = fstF ms)):=by
 induction n with
 | zero =>
  intro ls ms h1 h2
  rw [Zql.mp h1,Zql.mp h2]
  exact ⟨Zqy,Zqy⟩
 | succ n ih =>
  intro ls ms h1 h2
  rcases Zq3 ls with rfl | ⟨ls,x,rfl⟩
  ·simp at h1
  rcases Zq3 ms with rfl | ⟨ms,y,rfl⟩
  ·simp at h2
  simp only [List.concat_eq_append] at h1 h2 ⊢
  rw [Zhg] at h1 h2
  have h1 : ls.length = n:=by simpa using h1
  have h2 : ms.length = n:=by simpa using h2
  obtain ⟨i1,i2⟩:=ih ls ms h1 h2
  have key : fstF ls = fstF ms->(((dd ls).idxOf x < (dd ms).idxOf y ↔ ls.idxOf x < ms.idxOf y)/\((dd ls).idxOf x = (dd ms).idxOf y ↔ ls.idxOf x = ms.idxOf y)):=fun e=>by
   rw [ztg,ztg,e]
   have g1:=zqx (ls:=ls) (x:=x)
   have g2:=zqx (ls:=ms) (x:=y)
   rw [e] at g1
   have b1:=zyz (ls:=ls) (x:=x)
   have b2:=zyz (ls:=ms) (x:=y)
   rcases Zky (ls.idxOf x) (ms.idxOf y) with c | c | c
   ·have:=zzp (g1.resolve_left (by omega)) c
    exact ⟨⟨fun _=>c,fun _=>this⟩,⟨fun z=>by omega,fun z=>by omega⟩⟩
   ·rw [c]; exact ⟨⟨fun z=>absurd z (Zh6 _),fun z=>absurd z (Zh6 _)⟩,⟨fun _=>rfl,fun _=>rfl⟩⟩
   ·have:=zzp (g2.resolve_left (by omega)) c
    exact ⟨⟨fun z=>by omega,fun z=>by omega⟩,⟨fun z=>by omega,fun z=>by omega⟩⟩
  rw [zfc,zfc,zkq,zkq,zo9 (by rw [zl8,zl8,h1,h2]),zo9 (by rw [zer,zer,h1,h2]),zwr,zwr,i1,i2]
  constructor
  ·constructor
   ·rintro (z | ⟨z1,z2⟩)
    ·exact .inl z
    ·exact .inr ⟨z1,(key z1).1.mp z2⟩
   ·rintro (z | ⟨z1,z2⟩)
    ·exact .inl z
    ·exact .inr ⟨z1,(key z1).1.mpr z2⟩
  ·constructor
   ·rintro ⟨z1,z2⟩; exact ⟨z1,(key z1).2.mp z2⟩
   ·rintro ⟨z1,z2⟩; exact ⟨z1,(key z1).2.mpr z2⟩
noncomputable def ngF (g : List Nat) : Nat:=g.foldl (fun a x=>max a (x + 1)) 0
theorem zii (g : List Nat) (x : Nat) : ngF (g++[x]) = max (ngF g) (x + 1):=by unfold ngF; rw [Zjt]; rfl
theorem zj1 (ls : List β) : ngF (numF ls) = (dd ls).length:=by
 induction ls using zg2 with
 | h0=>rfl
 | hs ls x ih =>
  rw [zfc,zii,ih]
  by_cases h : x∈ls
  ·rw [zgx h]
   have:=zf1 ((zef (x:=x) ls).mpr h)
   omega
  ·rw [zd6 h,ziz fun z=>h ((zef ls).mp z),Zhg]
   simp
noncomputable def rgs : Nat->List (List Nat)
 | 0=>[[]]
 | n + 1=>(rgs n).flatMap fun g=>(Zg4 (ngF g + 1)).map fun x=>g++[x]
theorem zhc {n : Nat} {g : List Nat} : g∈rgs (n + 1) ↔ ∃ g'∈rgs n,∃ x,x <= ngF g'/\g = g'++[x]:=by
 rw [rgs,List.mem_flatMap]
 constructor
 ·rintro ⟨g',h1,h2⟩
  obtain ⟨x,hx,rfl⟩:=Zhk.mp h2
  exact ⟨g',h1,x,by have:=Zhv.mp hx; omega,rfl⟩
 ·rintro ⟨g',h1,x,hx,rfl⟩
  exact ⟨g',h1,Zhk.mpr ⟨x,Zhv.mpr (by omega),rfl⟩⟩
theorem zhf {n : Nat} : ∀ {g : List Nat},g∈rgs n->g.length = n:=by
 induction n with
 | zero=>intro g h; rw [rgs] at h; rw [Zg3.mp h]; rfl
 | succ n ih =>
  intro g h
  obtain ⟨g',h1,x,_,rfl⟩:=zhc.mp h
  rw [Zhg,ih h1]; rfl
theorem zpb (ls : List β) : numF ls∈rgs ls.length:=by
 induction ls using zg2 with
 | h0=>exact Zg3.mpr rfl
 | hs ls x ih =>
  rw [zfc,Zhg]
  exact zhc.mpr ⟨_,ih,_,by rw [zj1]; exact zyz,rfl⟩
theorem zxg (k : Nat) : ∀ x,x <= k->(Zg4 k).idxOf x = x:=by
 induction k with
 | zero=>intro x h; rw [Zvl.mp h]; rfl
 | succ k ih =>
  intro x h
  rw [Zkr]
  rcases Znp x k with c | c
  ·rw [zm0 (Zhv.mpr c),ih x (by omega)]
  ·rw [znz (fun z=>by have:=Zhv.mp z; omega),Zjd]
   by_cases e : k = x
   ·rw [if_pos e]; exact e
   ·rw [if_neg e]; omega
theorem zz6 {n : Nat} : ∀ {g : List Nat},g∈rgs n->dd g = Zg4 (ngF g):=by
 induction n with
 | zero=>intro g h; rw [rgs] at h; rw [Zg3.mp h]; rfl
 | succ n ih =>
  intro g h
  obtain ⟨g',h1,x,hx,rfl⟩:=zhc.mp h
  have e:=ih h1
  have hm : x∈g' ↔ x < ngF g':=by rw [<- zef g',e,Zhv]
  rw [zii]
  rcases Znp x (ngF g') with c | c
  ·rw [zgx (hm.mpr c),e]; congr 1; omega
  ·have : x = ngF g':=by omega
   rw [zd6 (fun z=>by have:=hm.mp z; omega),e,this]
   rw [show max (ngF g') (ngF g' + 1) = ngF g' + 1 by omega,Zkr]
theorem zpv {n : Nat} : ∀ {g : List Nat},g∈rgs n->numF g = g:=by
 induction n with
 | zero=>intro g h; rw [rgs] at h; rw [Zg3.mp h]; rfl
 | succ n ih =>
  intro g h
  obtain ⟨g',h1,x,hx,rfl⟩:=zhc.mp h
  rw [zfc,ih h1,zz6 h1,zxg _ _ hx]
theorem zrs (ls : List β) {i j : Nat} {x y : β} (hi : ls[i]? = some x) (hj : ls[j]? = some y) : (numF ls).getD i 0 = (numF ls).getD j 0 ↔ x = y:=by
 have e : ∀ {k : Nat} {z : β},ls[k]? = some z->(numF ls).getD k 0 = (dd ls).idxOf z:=fun {k z} h=>by
  unfold numF
  rw [Zg0,Zg8,h]; rfl
 rw [e hi,e hj]
 constructor
 ·intro h
  have hx : x∈dd ls:=(zef ls).mpr (Zhb hi)
  have h1:=Zi4 (zf1 hx)
  have hy : y∈dd ls:=(zef ls).mpr (Zhb hj)
  have h2:=Zi4 (zf1 hy)
  rw [<- h1,<- h2]
  exact getElem_congr rfl h _
 ·rintro rfl; rfl
theorem zlu {α : Type} (xs : List α) (f : α->β) (g : α->γ) : (∀ a∈xs,∀ b∈xs,(f a = f b ↔ g a = g b))->numF (xs.map f) = numF (xs.map g):=by
 intro h
 refine (zos _ _ _ (Zg2 _) (Zg2 _)).2.mpr ?_
 unfold fstF
 rw [Zh5,Zh5]
 refine Zia fun a ha=>?_
 show (xs.map f).idxOf (f a) = (xs.map g).idxOf (g a)
 have : ∀ ys : List α,(∀ b∈ys,(f b = f a ↔ g b = g a))->(ys.map f).idxOf (f a) = (ys.map g).idxOf (g a):=by
  intro ys
  induction ys with
  | nil=>intro _; rfl
  | cons y ys ih =>
   intro hy
   rw [Zhi,Zhi,Zml,Zml,ih fun b hb=>hy b (Zhd _ hb)]
   have : (f y == f a) = (g y == g a):=by rw [Zh8,beq_iff_eq,beq_iff_eq]; exact hy y Zhl
   rw [this]
 exact this xs fun b hb=>h b hb a ha
theorem yff (φ : β->γ) (ls : List β) : (dd (ls.map φ)).length <= (dd ls).length/\((dd (ls.map φ)).length = (dd ls).length -> ∀ x∈ls,∀ y∈ls,φ x = φ y->x = y):=by
 induction ls using zg2 with
 | h0=>exact ⟨Zha _,fun _ x hx=>by simp at hx⟩
 | hs ls z ih =>
  obtain ⟨i1,i2⟩:=ih
  rw [Zhj,Zmx]
  by_cases hz : z∈ls
  ·rw [zgx hz,zgx (Zjb hz)]
   refine ⟨i1,fun e x hx y hy=>?_⟩
   have : ∀ {u : β},u∈ls++[z]->u∈ls:=fun {u} hu=>by
    rcases Zhe.mp hu with q | q
    ·exact q
    ·rw [Zg3.mp q]; exact hz
   exact i2 e x (this hx) y (this hy)
  ·rw [zd6 hz,Zhg]
   by_cases hm : φ z∈ls.map φ
   ·rw [zgx hm]
    refine ⟨by omega,fun e=>?_⟩
    have : [z].length = 1:=rfl
    omega
   ·rw [zd6 hm,Zhg]
    refine ⟨Zrh i1 _,fun e x hx y hy hxy=>?_⟩
    have e' : (dd (ls.map φ)).length = (dd ls).length:=by
     have h1 : [φ z].length = 1:=rfl
     have h2 : [z].length = 1:=rfl
     omega
    rcases Zhe.mp hx with q | q <;> rcases Zhe.mp hy with r | r
    ·exact i2 e' x q y r hxy
    ·rw [Zg3.mp r] at hxy ⊢
     exact absurd (hxy ▸ Zjb q) hm
    ·rw [Zg3.mp q] at hxy ⊢
     exact absurd (hxy ▸ Zjb r) hm
    ·rw [Zg3.mp q,Zg3.mp r]
theorem zyd (π : β->Bool) (ls : List β) : (dd ls).length = (dd (ls.filter π)).length + (dd (ls.filter fun x=>!π x)).length:=by
 induction ls using zg2 with
 | h0=>rfl
 | hs ls z ih =>
  rw [Zjw,Zjw]
  cases hp : π z with
  | true =>
   rw [Zjg hp,Zi6,Zjh (by simp [hp]),Zi6,Zik]
   by_cases hz : z∈ls
   ·rw [zgx hz,zgx (Zhh.mpr ⟨hz,hp⟩),ih]
   ·rw [zd6 hz,zd6 (fun q=>hz (Zhh.mp q).1),Zhg,Zhg,ih]
    omega
  | false =>
   rw [Zjh (by simp [hp]),Zi6,Zik,Zjg (by simp [hp]),Zi6]
   by_cases hz : z∈ls
   ·rw [zgx hz,zgx (Zhh.mpr ⟨hz,by simp [hp]⟩),ih]
   ·rw [zd6 hz,zd6 (fun q=>hz (Zhh.mp q).1),Zhg,Zhg,ih]
    omega
noncomputable def ixo (ls : List β) (x : β) : Nat:=ls.idxOf x
theorem yeg {ls : List β} {x y : β} (h : x∈ls) : ixo (ls++[y]) x = ixo ls x:=zm0 h
theorem zq9 {ls : List β} {x : β} : ixo (ls++[x]) x = ixo ls x:=zot
theorem yav {ls : List β} {x : β} (h : x ∉ ls) : ixo ls x = ls.length:=ziz h
theorem zst (ls : List β) (x : β) : numF (ls++[x]) = numF ls++[ixo (dd ls) x]:=zfc ls x
end
end L2
namespace L2
noncomputable abbrev Apt:=Nat × Nat
noncomputable abbrev Pr:=Nat × Nat × Int
noncomputable def absI (w : Int) : Int:=if w < 0 then -w else w
theorem zuy (w : Int) : 0 <= absI w:=by unfold absI; split <;> omega
section
variable {β γ : Type} [DecidableEq β] [DecidableEq γ]
noncomputable def zdb (f : Nat->β) (p : Pr) : Int:=if decide (f p.1 = f p.2.1) = decide (0 < p.2.2) then 0 else absI p.2.2
theorem zyl (f : Nat->β) (p : Pr) : 0 <= zdb f p:=by unfold zdb; split; exact Zlb _; exact zuy _
theorem zfg {f : Nat->β} {g : Nat->γ} {p : Pr} (h : f p.1 = f p.2.1 ↔ g p.1 = g p.2.1) : zdb f p = zdb g p:=by
 unfold zdb
 have : decide (f p.1 = f p.2.1) = decide (g p.1 = g p.2.1):=by rw [Zh8,decide_eq_true_eq,decide_eq_true_eq]; exact h
 rw [this]
noncomputable def sumI : List Int->Int
 | []=>0
 | x::xs=>x + sumI xs
noncomputable def zr1 (f : Nat->β) (ps : List Pr) : Int:=sumI (ps.map (zdb f))
theorem zz5 {α : Type} {f g : α->Int} : ∀ {ps : List α},(∀ p∈ps,f p <= g p)->sumI (ps.map f) <= sumI (ps.map g)
 | [],_=>Zlb _
 | p::ps,h=>by
  have h1:=h p Zhl
  have h2:=zz5 fun q hq=>h q (Zhd _ hq)
  show f p + sumI _ <= g p + sumI _
  omega
theorem zea {α : Type} {f g : α->Int} {ps : List α} (h : ∀ p∈ps,f p = g p) : sumI (ps.map f) = sumI (ps.map g):=by rw [Zia h]
theorem zhr {α : Type} (f : α->Int) (π : α->Bool) : ∀ ps : List α,sumI (ps.map f) = sumI ((ps.filter π).map f) + sumI ((ps.filter fun p=>!π p).map f)
 | []=>rfl
 | p::ps=>by
  have ih:=zhr f π ps
  show f p + sumI (ps.map f) = _
  cases hp : π p with
  | true =>
   rw [Zjg hp,Zjh (by simp [hp])]
   show _ = f p + sumI _ + _
   omega
  | false =>
   rw [Zjh (by simp [hp]),Zjg (by simp [hp])]
   show _ = _ + (f p + sumI _)
   omega
end
noncomputable def atG (g : List Nat) (i : Nat) : Nat:=g.getD i 0
noncomputable def toI (g : List Nat) : List Int:=g.map fun n : Nat=>(n : Int)
noncomputable def zbl (ps : List Pr) (g : List Nat) : Int:=zr1 (atG g) ps
noncomputable def keyG (ps : List Pr) (g : List Nat) : List Int:=zbl ps g::(1 - (ngF g : Int))::toI g
noncomputable def zi4 (as : List Apt) (g : List Nat) : Prop:=∀ a∈as,atG g a.1≠atG g a.2
noncomputable instance (as : List Apt) (g : List Nat) : Decidable (zi4 as g):=by unfold zi4; infer_instance
theorem zzw : ∀ {g h : List Nat},toI g < toI h ↔ g < h
 | [],[]=>by unfold toI; simp
 | [],_::_=>by unfold toI; simp
 | _::_,[]=>by unfold toI; simp
 | x::g,y::h=>by
  have ih:=zzw (g:=g) (h:=h)
  unfold toI at ih ⊢
  rw [Zhi,Zhi,Zii,Zii,ih]
  constructor
  ·rintro (z | ⟨z,q⟩)
   ·exact .inl (by omega)
   ·exact .inr ⟨by omega,q⟩
  ·rintro (z | ⟨z,q⟩)
   ·exact .inl (by omega)
   ·exact .inr ⟨by omega,q⟩
theorem zou {ps qs : List Pr} {g h : List Nat} : keyG ps g < keyG qs h ↔ zbl ps g < zbl qs h \/ (zbl ps g = zbl qs h/\(ngF h < ngF g \/ (ngF g = ngF h/\g < h))):=by
 unfold keyG
 rw [Zii,Zii,zzw]
 constructor
 ·rintro (z | ⟨z,q | ⟨q,r⟩⟩)
  ·exact .inl z
  ·exact .inr ⟨z,.inl (by omega)⟩
  ·exact .inr ⟨z,.inr ⟨by omega,r⟩⟩
 ·rintro (z | ⟨z,q | ⟨q,r⟩⟩)
  ·exact .inl z
  ·exact .inr ⟨z,.inl (by omega)⟩
  ·exact .inr ⟨z,.inr ⟨by omega,r⟩⟩
theorem zzl {ps : List Pr} {g h : List Nat} (h1 : ¬ keyG ps g < keyG ps h) (h2 : ¬ keyG ps h < keyG ps g) : g = h:=by
 have e : keyG ps g = keyG ps h:=List.le_antisymm (Zpi.mp h2) (Zpi.mp h1)
 unfold keyG at e
 injection e with _ e
 injection e with _ e
 unfold toI at e
 have:=congrArg (Zth Int.toNat) e
 rw [Zh5,Zh5] at this
 exact (Zmi g).symm.trans (this.trans (Zmi h))
noncomputable def inB (B : List Nat) (i j : Nat) : Bool:=decide (i∈B) && decide (j∈B)
noncomputable def inP (B : List Nat) (ps : List Pr) : List Pr:=(ps.filter fun p=>inB B p.1 p.2.1).map fun p=>(B.idxOf p.1,B.idxOf p.2.1,p.2.2)
noncomputable def inA (B : List Nat) (as : List Apt) : List Apt:=(as.filter fun a=>inB B a.1 a.2).map fun a=>(B.idxOf a.1,B.idxOf a.2)
theorem zx8 {β γ : Type} [DecidableEq β] [DecidableEq γ] {f : Nat->β} {g : Nat->γ} {ps : List Pr} (h : ∀ p∈ps,(f p.1 = f p.2.1 ↔ g p.1 = g p.2.1)) : zr1 f ps = zr1 g ps:=zea fun p hp=>zfg (h p hp)
section
variable {β γ : Type} [DecidableEq β] [DecidableEq γ]
theorem zmp {m : Nat} {f : Nat->β} {ps : List Pr} (h : ∀ p∈ps,p.1 < m/\p.2.1 < m) : zbl ps (numF ((Zg4 m).map f)) = zr1 f ps:=by
 refine zx8 fun p hp=>?_
 obtain ⟨h1,h2⟩:=h p hp
 exact zrs _ (by rw [Zg8,Zi1 h1]; rfl) (by rw [Zg8,Zi1 h2]; rfl)
theorem zph {B : List Nat} {b : Nat} (h : b∈B) : B[B.idxOf b]? = some b:=by
 rw [Zg1 (zf1 h),Zi4]
theorem zt3 {B : List Nat} {f : Nat->β} {ps : List Pr} : zbl (inP B ps) (numF (B.map f)) = zr1 f (ps.filter fun p=>inB B p.1 p.2.1):=by
 unfold zbl zr1 inP
 rw [Zh5]
 refine zea fun p hp=>?_
 obtain ⟨_,hb⟩:=Zhh.mp hp
 obtain ⟨h1,h2⟩ : p.1∈B/\p.2.1∈B:=by simpa [inB] using hb
 have:=zrs (B.map f) (i:=B.idxOf p.1) (j:=B.idxOf p.2.1) (by rw [Zg8,zph h1]; rfl) (by rw [Zg8,zph h2]; rfl)
 show zdb (atG (numF (B.map f))) (B.idxOf p.1,B.idxOf p.2.1,p.2.2) = zdb f p
 unfold zdb
 have e : decide (atG (numF (B.map f)) (B.idxOf p.1) = atG (numF (B.map f)) (B.idxOf p.2.1)) = decide (f p.1 = f p.2.1):=by rw [Zh8,decide_eq_true_eq,decide_eq_true_eq]; exact this
 show (if decide (atG (numF (B.map f)) (B.idxOf p.1) = atG (numF (B.map f)) (B.idxOf p.2.1)) = _ then _ else _) = _
 rw [e]
theorem zv9 {m : Nat} {ps : List Pr} {as : List Apt} {place : Nat->Nat} {h : List Nat} (hh : h∈rgs m) (hk : zi4 as h) (hin : ∀ p∈ps,p.1 < m/\p.2.1 < m) (hl : ∀ p∈ps,0 < p.2.2->place p.1 = place p.2.1 \/ (p.1,p.2.1)∈as) :
  ¬ keyG ps h < keyG ps (numF ((Zg4 m).map fun b=>(place b,atG h b))):=by
 have hlen:=zhf hh
 have e1 : (Zg4 m).map (atG h) = h:=by
  refine Zkg fun i=>?_
  rw [Zg8]
  by_cases hi : i < m
  ·rw [Zi1 hi]
   show some (atG h i) = _
   unfold atG
   rw [Zg0,Zg1 (by omega)]; rfl
  ·rw [Zio (by simp; omega),Zio (by omega)]; rfl
 have e2 : ((Zg4 m).map fun b=>(place b,atG h b)).map Zv8 = h:=by rw [Zh5]; exact e1
 obtain ⟨d1,d2⟩:=yff (Zv8 : Nat × Nat->Nat) ((Zg4 m).map fun b=>(place b,atG h b))
 rw [e2] at d1 d2
 have hn : ngF h = (dd h).length:=by have:=zj1 h; rw [zpv hh] at this; exact this
 have hL : zbl ps (numF ((Zg4 m).map fun b=>(place b,atG h b))) <= zbl ps h:=by
  rw [zmp hin]
  unfold zbl
  refine zz5 fun p hp=>?_
  by_cases hq : place p.1 = place p.2.1
  ·refine Zu4 (zfg ?_)
   rw [Zly]
   exact ⟨fun z=>z.2,fun z=>⟨hq,z⟩⟩
  ·have hne : ¬ ((place p.1,atG h p.1) = (place p.2.1,atG h p.2.1)):=fun z=>hq (by injection z)
   rcases Int.lt_or_le 0 p.2.2 with c | c
   ·have:=hk _ ((hl p hp c).resolve_left hq)
    refine Zu4 (zfg ⟨fun z=>absurd z hne,fun z=>absurd z this⟩)
   ·have : zdb (fun b=>(place b,atG h b)) p = 0:=by
     unfold zdb
     rw [decide_eq_false hne,decide_eq_false (by omega),if_pos rfl]
    rw [this]; exact zyl _ _
 rw [zou,zj1,hn]
 rintro (z | ⟨z,q | ⟨q,r⟩⟩)
 ·omega
 ·omega
 ·have inj:=d2 q
  have : numF ((Zg4 m).map fun b=>(place b,atG h b)) = numF ((Zg4 m).map (atG h)):=zlu _ _ _ fun a ha b hb=>by
   rw [Zly]
   refine ⟨fun z=>z.2,fun z=>?_⟩
   have:=inj (place a,atG h a) (Zhk.mpr ⟨a,ha,rfl⟩) (place b,atG h b) (Zhk.mpr ⟨b,hb,rfl⟩) z
   rw [Zly] at this
   exact this
  rw [this,e1,zpv hh] at r
  exact Zk3 _ r
theorem yar {m : Nat} {ps : List Pr} {B : List Nat} {π : Nat->Bool} {f : Nat->β} {g : Nat->γ} (hin : ∀ p∈ps,p.1 < m/\p.2.1 < m) (hB : B = (Zg4 m).filter π) (hout : ∀ a < m,∀ b < m,π a = false->π b = false->(f a = f b ↔ g a = g b))
  (hf : ∀ a < m,∀ b < m,π a = true->π b = false->f a≠f b) (hg : ∀ a < m,∀ b < m,π a = true->π b = false->g a≠g b) (hle : ¬ keyG (inP B ps) (numF (B.map f)) < keyG (inP B ps) (numF (B.map g))) :
  ¬ keyG ps (numF ((Zg4 m).map f)) < keyG ps (numF ((Zg4 m).map g)):=by
 have memB : ∀ {b : Nat},b < m->(b∈B ↔ π b = true):=fun {b} hb=>by
  rw [hB,Zhh,Zhv]; exact ⟨fun z=>z.2,fun z=>⟨hb,z⟩⟩
 have hs:=zhr (zdb f) (fun p : Pr=>inB B p.1 p.2.1) ps
 have hs2:=zhr (zdb g) (fun p : Pr=>inB B p.1 p.2.1) ps
 have ho : sumI ((ps.filter fun p=>!inB B p.1 p.2.1).map (zdb f)) = sumI ((ps.filter fun p=>!inB B p.1 p.2.1).map (zdb g)):=zea fun p hp=>zfg (by
  obtain ⟨h1,h2⟩:=Zhh.mp hp
  obtain ⟨b1,b2⟩:=hin p h1
  have h2 : ¬ (p.1∈B/\p.2.1∈B):=fun z=>by rw [show inB B p.1 p.2.1 = true by unfold inB; rw [decide_eq_true z.1,decide_eq_true z.2]; rfl] at h2; cases h2
  rw [memB b1,memB b2] at h2
  cases c1 : π p.1 with
  | true =>
   have c2 : π p.2.1 = false:=by cases c : π p.2.1 with
    | true=>exact absurd ⟨c1,c⟩ h2
    | false=>rfl
   exact ⟨fun z=>absurd z (hf _ b1 _ b2 c1 c2),fun z=>absurd z (hg _ b1 _ b2 c1 c2)⟩
  | false =>
   cases c2 : π p.2.1 with
   | true=>exact ⟨fun z=>absurd z.symm (hf _ b2 _ b1 c2 c1),fun z=>absurd z.symm (hg _ b2 _ b1 c2 c1)⟩
   | false=>exact hout _ b1 _ b2 c1 c2)
 have l1 : zbl ps (numF ((Zg4 m).map f)) = zbl (inP B ps) (numF (B.map f)) + sumI ((ps.filter fun p=>!inB B p.1 p.2.1).map (zdb f)):=by rw [zmp hin,zt3]; exact hs
 have l2 : zbl ps (numF ((Zg4 m).map g)) = zbl (inP B ps) (numF (B.map g)) + sumI ((ps.filter fun p=>!inB B p.1 p.2.1).map (zdb f)):=by rw [zmp hin,zt3,ho]; exact hs2
 have cut : ∀ {δ : Type} [DecidableEq δ] {u : Nat->δ},(∀ a < m,∀ b < m,π a = true->π b = false->u a≠u b)->(dd ((Zg4 m).map u)).length = (dd (B.map u)).length + (dd (((Zg4 m).filter fun b=>!π b).map u)).length:=fun {δ _ u} hu=>by
  have:=zyd (fun x=>decide (x∈B.map u)) ((Zg4 m).map u)
  rw [Znl,Znl] at this
  have q1 : (Zg4 m).filter ((fun x=>decide (x∈B.map u)) ∘ u) = B:=by
   rw [hB]
   refine Zln fun b hb=>?_
   have hb:=Zhv.mp hb
   show decide (u b∈((Zg4 m).filter π).map u) = π b
   cases c : π b with
   | true=>exact decide_eq_true (Zhk.mpr ⟨b,Zhh.mpr ⟨Zhv.mpr hb,c⟩,rfl⟩)
   | false =>
    refine decide_eq_false fun z=>?_
    obtain ⟨a,ha,e⟩:=Zhk.mp z
    obtain ⟨h1,h2⟩:=Zhh.mp ha
    exact hu a (Zhv.mp h1) b hb h2 c e
  have q2 : (Zg4 m).filter ((fun x=>!decide (x∈B.map u)) ∘ u) = (Zg4 m).filter fun b=>!π b:=by
   refine Zln fun b hb=>?_
   have hb:=Zhv.mp hb
   show (!decide (u b∈B.map u)) = !π b
   congr 1
   cases c : π b with
   | true=>exact decide_eq_true (Zhk.mpr ⟨b,(memB hb).mpr c,rfl⟩)
   | false =>
    refine decide_eq_false fun z=>?_
    obtain ⟨a,ha,e⟩:=Zhk.mp z
    have ha':=ha
    rw [hB] at ha'
    obtain ⟨h1,h2⟩:=Zhh.mp ha'
    exact hu a (Zhv.mp h1) b hb h2 c e
  rw [q1,q2] at this
  exact this
 have n1:=cut hf
 have n2:=cut hg
 have n3 : (dd (((Zg4 m).filter fun b=>!π b).map f)).length = (dd (((Zg4 m).filter fun b=>!π b).map g)).length:=by
  rw [<- zj1,<- zj1]
  refine congrArg ngF (zlu _ _ _ fun a ha b hb=>?_)
  obtain ⟨a1,a2⟩:=Zhh.mp ha
  obtain ⟨b1,b2⟩:=Zhh.mp hb
  exact hout a (Zhv.mp a1) b (Zhv.mp b1) (by simpa using a2) (by simpa using b2)
 rw [zou,zj1,zj1] at hle ⊢
 rw [l1,l2,n1,n2,n3]
 rintro (z | ⟨z,q | ⟨q,r⟩⟩)
 ·exact hle (.inl (by omega))
 ·exact hle (.inr ⟨by omega,.inl (by omega)⟩)
 ·refine hle (.inr ⟨by omega,.inr ⟨by omega,?_⟩⟩)
  -- the first place where they differ lies in the part
  have lm : ∀ {δ : Type} (u : Nat->δ),((Zg4 m).map u).length = m:=fun u=>by simp
  have r':=(zos m _ _ (lm f) (lm g)).1.mp r
  refine (zos B.length _ _ (Zg2 _) (Zg2 _)).1.mpr ?_
  have glo : ∀ {δ : Type} [DecidableEq δ] (u : Nat->δ) (b : Nat),b < m -> ∀ k,((Zg4 m).map u).idxOf (u b) = k ↔ k < m/\u k = u b /\ ∀ c < k,u c≠u b:=fun {δ _} u b hb k=>by
   have hm : u b∈(Zg4 m).map u:=Zhk.mpr ⟨b,Zhv.mpr hb,rfl⟩
   have hlt:=zf1 hm
   rw [lm] at hlt
   have hget:=Zi4 (zf1 hm)
   rw [Zk6,Zrw] at hget
   have hmin : ∀ c < ((Zg4 m).map u).idxOf (u b),u c≠u b:=fun c hc z=>by
    have h1 : ((Zg4 m).map u)[c]'(by rw [lm]; omega) = u b:=by rw [Zk6,Zrw]; exact z
    have h2:=Zqv (p:=(· == u b)) (xs:=(Zg4 m).map u) (i:=c) hc
    rw [h1] at h2
    simp at h2
   constructor
   ·rintro rfl
    exact ⟨hlt,hget,hmin⟩
   ·rintro ⟨k1,k2,k3⟩
    rcases Zky (((Zg4 m).map u).idxOf (u b)) k with c | c | c
    ·exact absurd hget (k3 _ c)
    ·exact c
    ·exact absurd k2 (hmin _ c)
  have asc : B.Pairwise (· < ·):=by rw [hB]; exact Zua Zkj List.pairwise_lt_range
  have bm : ∀ {t : Nat} (h : t < B.length),B[t] < m:=fun {t} h=>by
   have : B[t]∈(Zg4 m).filter π:=hB ▸ Zj9 h
   exact Zhv.mp (Zhh.mp this).1
  have bπ : ∀ {t : Nat} (h : t < B.length),π B[t] = true:=fun {t} h=>(memB (bm h)).mp (Zj9 h)
  have mono : ∀ {s t : Nat} (h1 : s < B.length) (h2 : t < B.length),(B[s] < B[t] ↔ s < t):=fun {s t} h1 h2=>by
   rw [Zkc] at asc
   rcases Zky s t with c | c | c
   ·exact ⟨fun _=>c,fun _=>asc _ _ h1 h2 c⟩
   ·subst c; exact ⟨fun z=>absurd z (Zh6 _),fun z=>absurd z (Zh6 _)⟩
   ·have:=asc _ _ h2 h1 c
    exact ⟨fun z=>by omega,fun z=>by omega⟩
  -- a first within the part
  have loc : ∀ {δ : Type} [DecidableEq δ] (u : Nat->δ),(∀ a < m,∀ b < m,π a = true->π b = false->u a≠u b) -> ∀ t (h : t < B.length),∃ s,∃ hs : s < B.length,(B.map u).idxOf (u B[t]) = s/\((Zg4 m).map u).idxOf (u B[t]) = B[s]:=fun {δ _} u hu t ht=>by
   have hm : u B[t]∈B.map u:=Zhk.mpr ⟨_,Zj9 ht,rfl⟩
   have hlt:=zf1 hm
   rw [Zg2] at hlt
   refine ⟨_,hlt,rfl,(glo u _ (bm ht) _).mpr ⟨bm hlt,?_,fun c hc z=>?_⟩⟩
   ·have hget:=Zi4 (zf1 hm)
    rw [Zk6] at hget
    exact hget
   ·have hcm : c < m:=Zka hc (bm hlt)
    have hcB : c∈B:=(memB hcm).mpr (by
     cases q : π c with
     | true=>rfl
     | false=>exact absurd z.symm (hu _ (bm ht) _ hcm (bπ ht) q))
    obtain ⟨s,hs,rfl⟩:=Zmm hcB
    have hst : s < (B.map u).idxOf (u B[t]):=(mono hs hlt).mp hc
    have h2:=Zqv (p:=(· == u B[t])) (xs:=B.map u) (i:=s) hst
    rw [Zk6,z] at h2
    simp at h2
  rw [List.lt_iff_exists] at r' ⊢
  rcases r' with ⟨_,z⟩ | ⟨b,hb1,hb2,heq,hlt⟩
  ·rw [zer,zer,lm,lm] at z; omega
  ·refine .inr ?_
   rw [zer,lm] at hb1
   have ga : ∀ {δ : Type} [DecidableEq δ] (u : Nat->δ) (c : Nat) (h : c < (fstF ((Zg4 m).map u)).length),(fstF ((Zg4 m).map u))[c] = ((Zg4 m).map u).idxOf (u c):=fun {δ _} u c h=>by
    simp [fstF]
   have gb : ∀ {δ : Type} [DecidableEq δ] (u : Nat->δ) (c : Nat) (h : c < (fstF (B.map u)).length) (hc : c < B.length),(fstF (B.map u))[c] = (B.map u).idxOf (u B[c]):=fun {δ _} u c h hc=>by
    simp [fstF]
   rw [ga,ga] at hlt
   have heq' : ∀ c < b,((Zg4 m).map f).idxOf (f c) = ((Zg4 m).map g).idxOf (g c):=fun c hc=>by
    have:=heq c hc
    rw [ga,ga] at this
    exact this
   have hbB : π b = true:=by
    cases q : π b with
    | true=>rfl
    | false =>
     refine absurd hlt (Nat.not_lt.mpr (Znq ?_))
     symm
     refine (glo f b hb1 _).mpr ?_
     obtain ⟨k1,k2,k3⟩:=(glo g b hb1 _).mp rfl
     have πk : ∀ c,c < m->g c = g b->π c = false:=fun c hc z=>by
      cases w : π c with
      | false=>rfl
      | true=>exact absurd z (hg c hc b hb1 w q)
     refine ⟨k1,(hout _ k1 _ hb1 (πk _ k1 k2) q).mpr k2,fun c hc z=>?_⟩
     have hcm:=Zka hc k1
     have : π c = false:=by
      cases w : π c with
      | false=>rfl
      | true=>exact absurd z (hf c hcm b hb1 w q)
     exact k3 c hc ((hout _ hcm _ hb1 this q).mp z)
   obtain ⟨t,ht,rfl⟩:=Zmm ((memB hb1).mpr hbB)
   refine ⟨t,by rw [zer,Zg2]; exact ht,by rw [zer,Zg2]; exact ht,fun s hs=>?_,?_⟩
   ·have hsl : s < B.length:=Zka hs ht
    rw [gb f s _ hsl,gb g s _ hsl]
    obtain ⟨s1,p1,q1,w1⟩:=loc f hf s hsl
    obtain ⟨s2,p2,q2,w2⟩:=loc g hg s hsl
    have:=heq' B[s] ((mono hsl ht).mpr hs)
    rw [w1,w2] at this
    rw [q1,q2]
    rcases Zky s1 s2 with c | c | c
    ·have:=(mono p1 p2).mpr c; omega
    ·exact c
    ·have:=(mono p2 p1).mpr c; omega
   ·rw [gb f t _ ht,gb g t _ ht]
    obtain ⟨s1,p1,q1,w1⟩:=loc f hf t ht
    obtain ⟨s2,p2,q2,w2⟩:=loc g hg t ht
    rw [w1,w2] at hlt
    rw [q1,q2]
    exact (mono p1 p2).mp hlt
noncomputable def labG (place : Nat->Nat) (B : Nat->List Nat) (Gs : Nat->List Nat) (b : Nat) : Nat × Nat:=(place b,atG (Gs (place b)) ((B (place b)).idxOf b))
noncomputable def yga (m : Nat) (place : Nat->Nat) (B : Nat->List Nat) (Gs : Nat->List Nat) : List Nat:=numF ((Zg4 m).map (labG place B Gs))
structure BestOf (n : Nat) (ps : List Pr) (as : List Apt) (g : List Nat) : Prop where
 rg : g∈rgs n
 kp : zi4 as g
 le : ∀ h∈rgs n,zi4 as h -> ¬ keyG ps h < keyG ps g
theorem BestOf.uniq {n : Nat} {ps : List Pr} {as : List Apt} {g h : List Nat} (a : BestOf n ps as g) (b : BestOf n ps as h) : g = h:=zzl (b.le _ a.rg a.kp) (a.le _ b.rg b.kp)
theorem zql {n : Nat} {f : Nat->β} {as : List Apt} (ha : ∀ a∈as,a.1 < n/\a.2 < n) (h : ∀ a∈as,f a.1≠f a.2) : zi4 as (numF ((Zg4 n).map f)):=fun a hm=>by
 obtain ⟨h1,h2⟩:=ha a hm
 refine fun z=>h a hm ?_
 exact (zrs ((Zg4 n).map f) (by rw [Zg8,Zi1 h1]; rfl) (by rw [Zg8,Zi1 h2]; rfl)).mp z
theorem zzo {B : List Nat} (hn : B.Nodup) {i : Nat} (h : i < B.length) : B.idxOf B[i] = i:=by
 have hl:=zf1 (Zj9 h)
 have h1:=Zi4 hl
 unfold Ziv at hn
 rw [Zkc] at hn
 rcases Zky (B.idxOf B[i]) i with c | c | c
 ·exact absurd h1 (hn _ _ hl h c)
 ·exact c
 ·exact absurd h1.symm (hn _ _ h hl c)
theorem ycc {B : List Nat} {g : List Nat} (hn : B.Nodup) (hl : g.length = B.length) : B.map (fun b=>atG g (B.idxOf b)) = g:=by
 refine Zkg fun i=>?_
 rw [Zg8]
 by_cases hi : i < B.length
 ·rw [Zg1 hi]
  show some (atG g (B.idxOf B[i])) = _
  rw [zzo hn hi]
  unfold atG
  rw [Zg0,Zg1 (by omega)]; rfl
 ·rw [Zio (by omega),Zio (by omega)]; rfl
theorem zrw {m n : Nat} {ps : List Pr} {as : List Apt} {place : Nat -> Nat} {B : Nat -> List Nat} {Gs : Nat -> List Nat} (hin : ∀ p ∈ ps, p.1 < m /\ p.2.1 < m) (ha : ∀ a ∈ as, a.1 < m /\ a.2 < m) (hl : ∀ p ∈ ps, 0 < p.2.2 -> place p.1 = place p.2.1 \/ (p.1, p.2.1) ∈ as)
  (hp : ∀ b < m,place b < n) (hB : ∀ k < n,B k = (Zg4 m).filter fun b=>decide (place b = k)) (hG : ∀ k < n,BestOf (B k).length (inP (B k) ps) (inA (B k) as) (Gs k)) : BestOf m ps as (yga m place B Gs):=by
 have hnd : ∀ k < n,(B k).Nodup:=fun k hk=>by rw [hB k hk]; exact Zk4 Zkj Zo0
 have hmem : ∀ k < n,∀ b < m,(b∈B k ↔ place b = k):=fun k hk b hb=>by
  rw [hB k hk,Zhh,Zhv,decide_eq_true_eq]; exact ⟨fun z=>z.2,fun z=>⟨hb,z⟩⟩
 refine ⟨?_,?_,fun h hh hk=>?_⟩
 ·have:=zpb ((Zg4 m).map (labG place B Gs))
  rw [Zg2,Zjd] at this
  exact this
 ·refine zql ha fun a hm z=>?_
  obtain ⟨h1,h2⟩:=ha a hm
  unfold labG at z
  rw [Zly] at z
  obtain ⟨z1,z2⟩:=z
  rw [<- z1] at z2
  have hk:=hp a.1 h1
  have b1:=(hmem _ hk _ h1).mpr rfl
  have b2:=(hmem _ hk _ h2).mpr z1.symm
  exact (hG _ hk).kp ((B (place a.1)).idxOf a.1,(B (place a.1)).idxOf a.2) (Zhk.mpr ⟨a,Zhh.mpr ⟨hm,by unfold inB; rw [decide_eq_true b1,decide_eq_true b2]; rfl⟩,rfl⟩) z2
 ·-- part after part takes its best grouping
  let fk : Nat->Nat->Nat × Nat:=fun k b=>if place b < k then labG place B Gs b else (place b,atG h b)
  have step : ∀ k, k <= n -> ¬ keyG ps h < keyG ps (numF ((Zg4 m).map (fk k))) := by
   intro k
   induction k with
   | zero =>
    intro _
    have : (Zg4 m).map (fk 0) = (Zg4 m).map fun b=>(place b,atG h b):=Zia fun b _=>if_neg (Zi2 _)
    rw [this]
    exact zv9 hh hk hin hl
   | succ k ih =>
    intro hkn
    have hkn' : k < n:=hkn
    have h1:=ih (Zkw hkn)
    have f0 : ∀ b,place b≠k->fk (k + 1) b = fk k b:=fun b hb=>by
     show (if place b < k + 1 then _ else _) = if place b < k then _ else _
     by_cases c : place b < k
     ·rw [if_pos c,if_pos (by omega)]
     ·rw [if_neg c,if_neg (by omega)]
    have fst1 : ∀ j b,(fk j b).1 = place b:=fun j b=>by
     show (if place b < j then labG place B Gs b else (place b,atG h b)).1 = _
     split <;> rfl
    have sep : ∀ j,∀ a < m,∀ b < m,decide (place a = k) = true->decide (place b = k) = false->fk j a≠fk j b:=fun j a _ b _ c1 c2 z=>by
     have:=congrArg Prod.fst z
     rw [fst1,fst1] at this
     rw [decide_eq_true_eq] at c1
     rw [decide_eq_false_iff_not] at c2
     omega
    have h2 : ¬ keyG ps (numF ((Zg4 m).map (fk k))) < keyG ps (numF ((Zg4 m).map (fk (k + 1)))):=by
     refine yar (B:=B k) (π:=fun b=>decide (place b = k)) hin (hB k hkn') (fun a _ b _ c1 c2=>?_) (sep k) (sep (k + 1)) ?_
     ·rw [decide_eq_false_iff_not] at c1 c2
      rw [f0 a c1,f0 b c2]
     ·have hb : ∀ b∈B k,place b = k:=fun b hb=>by
       rw [hB k hkn'] at hb
       exact of_decide_eq_true (Zhh.mp hb).2
      have e1 : numF ((B k).map (fk k)) = numF ((B k).map (atG h)):=zlu _ _ _ fun a ha b hb'=>by
       show (if place a < k then _ else _) = (if place b < k then _ else _) ↔ _
       rw [if_neg (by rw [hb a ha]; omega),if_neg (by rw [hb b hb']; omega),hb a ha,hb b hb',Zly]
       exact ⟨fun z=>z.2,fun z=>⟨rfl,z⟩⟩
      have e2 : numF ((B k).map (fk (k + 1))) = Gs k:=by
       have : numF ((B k).map (fk (k + 1))) = numF ((B k).map fun b=>atG (Gs k) ((B k).idxOf b)):=zlu _ _ _ fun a ha b hb'=>by
        show (if place a < k + 1 then _ else _) = (if place b < k + 1 then _ else _) ↔ _
        rw [if_pos (by rw [hb a ha]; omega),if_pos (by rw [hb b hb']; omega)]
        unfold labG
        rw [hb a ha,hb b hb',Zly]
        exact ⟨fun z=>z.2,fun z=>⟨rfl,z⟩⟩
       rw [this,ycc (hnd k hkn') (zhf (hG k hkn').rg),zpv (hG k hkn').rg]
      rw [e1,e2]
      have hr:=zpb ((B k).map (atG h))
      rw [Zg2] at hr
      refine (hG k hkn').le _ hr fun a hm=>?_
      obtain ⟨c,hc,rfl⟩:=Zhk.mp hm
      obtain ⟨hc1,hc2⟩:=Zhh.mp hc
      obtain ⟨b1,b2⟩ : c.1∈B k/\c.2∈B k:=by
       unfold inB at hc2
       rw [Zhq,decide_eq_true_eq,decide_eq_true_eq] at hc2
       exact hc2
      intro z
      exact hk c hc1 ((zrs ((B k).map (atG h)) (by rw [Zg8,zph b1]; rfl) (by rw [Zg8,zph b2]; rfl)).mp z)
    exact fun z=>h2 (Zri (Zpi.mp h1) z)
  have:=step n (Zha _)
  have e : (Zg4 m).map (fk n) = (Zg4 m).map (labG place B Gs):=Zia fun b hb=>if_pos (hp b (Zhv.mp hb))
  rw [e] at this
  exact this
end
end L2
namespace L2
theorem zz9 {α : Type} (key : α->List Int) : ∀ {xs : List α},xs≠[] -> ∃ x∈xs,∀ y∈xs,¬ key y < key x
 | [],h=>absurd rfl h
 | [x],_=>⟨x,Zhl,fun y hy=>by rw [Zg3.mp hy]; exact Zk3 _⟩
 | x::y::r,_=>by
  obtain ⟨z,hz,hm⟩:=zz9 key (xs:=y::r) (List.cons_ne_nil _ _)
  by_cases c : key x < key z
  ·refine ⟨x,Zhl,fun u hu=>?_⟩
   rcases Zhp.mp hu with rfl | hu
   ·exact Zk3 _
   ·exact fun q=>hm u hu (Zti q c)
  ·refine ⟨z,Zhd _ hz,fun u hu=>?_⟩
   rcases Zhp.mp hu with rfl | hu
   ·exact c
   ·exact hm u hu
theorem zqh (n : Nat) : numF (Zg4 n)∈rgs n:=by
 have:=zpb (Zg4 n)
 rw [Zjd] at this
 exact this
theorem zq2 {n : Nat} {as : List Apt} (h : ∀ a∈as,a.1 < n/\a.2 < n/\a.1≠a.2) : zi4 as (numF (Zg4 n)):=by
 have:=zql (n:=n) (f:=id) (as:=as) (fun a ha=>⟨(h a ha).1,(h a ha).2.1⟩) fun a ha=>(h a ha).2.2
 rw [Zmi] at this
 exact this
theorem yck {n : Nat} (ps : List Pr) {as : List Apt} (h : ∀ a∈as,a.1 < n/\a.2 < n/\a.1≠a.2) : ∃ g,BestOf n ps as g:=by
 have hm : numF (Zg4 n)∈(rgs n).filter fun g=>decide (zi4 as g):=Zhh.mpr ⟨zqh n,decide_eq_true (zq2 h)⟩
 obtain ⟨g,hg,hl⟩:=zz9 (keyG ps) (Zrv hm)
 obtain ⟨g1,g2⟩:=Zhh.mp hg
 exact ⟨g,g1,of_decide_eq_true g2,fun h h1 h2=>hl h (Zhh.mpr ⟨h1,decide_eq_true h2⟩)⟩
open Classical in
noncomputable def bestP (n : Nat) (ps : List Pr) (as : List Apt) : List Nat:=if h : ∃ g,BestOf n ps as g then choose h else []
theorem zqf {n : Nat} {ps : List Pr} {as : List Apt} (h : ∀ a∈as,a.1 < n/\a.2 < n/\a.1≠a.2) : BestOf n ps as (bestP n ps as):=by
 have hx:=yck ps h
 unfold bestP
 rw [dif_pos hx]
 exact Zpz hx
theorem zyw {n : Nat} {ps : List Pr} {as : List Apt} {g : List Nat} (h : BestOf n ps as g) : bestP n ps as = g:=by
 have hx : ∃ g,BestOf n ps as g:=⟨g,h⟩
 have : BestOf n ps as (bestP n ps as):=by
  unfold bestP
  rw [dif_pos hx]
  exact Zpz hx
 exact this.uniq h
noncomputable def ztf (n : Nat) (ps : List Pr) (as : List Apt) : Prop:=(∀ p∈ps,p.1 < n/\p.2.1 < n) /\ ∀ a∈as,a.1 < n/\a.2 < n/\a.1≠a.2
theorem ye2 {B : List Nat} {i j : Nat} (hi : i∈B) (hj : j∈B) (h : B.idxOf i = B.idxOf j) : i = j:=by
 have h1:=zph hi
 rw [h,zph hj] at h1
 injection h1 with h1
 exact h1.symm
theorem zwy {B : List Nat} {i j : Nat} : inB B i j = true ↔ i∈B/\j∈B:=by
 unfold inB
 rw [Zhq,decide_eq_true_eq,decide_eq_true_eq]
theorem zpf {m : Nat} {ps : List Pr} {as : List Apt} (h : ztf m ps as) (B : List Nat) : ztf B.length (inP B ps) (inA B as):=by
 refine ⟨fun p hp=>?_,fun a ha=>?_⟩
 ·obtain ⟨q,hq,rfl⟩:=Zhk.mp hp
  obtain ⟨b1,b2⟩:=zwy.mp (Zhh.mp hq).2
  exact ⟨zf1 b1,zf1 b2⟩
 ·obtain ⟨q,hq,rfl⟩:=Zhk.mp ha
  obtain ⟨q1,q2⟩:=Zhh.mp hq
  obtain ⟨b1,b2⟩:=zwy.mp q2
  exact ⟨zf1 b1,zf1 b2,fun z=>(h.2 q q1).2.2 (ye2 b1 b2 z)⟩
section
variable {f : Nat->Nat} {m : Nat}
noncomputable def plc (f : Nat->Nat) (m b : Nat) : Nat:=((ze6 f (Zg4 m)).map f).idxOf (f b)
noncomputable def prt (f : Nat->Nat) (m k : Nat) : List Nat:=(zbi f (Zg4 m)).getD k []
theorem zzv {b : Nat} (h : b < m) : plc f m b < (zbi f (Zg4 m)).length:=by
 have : f b∈(ze6 f (Zg4 m)).map f:=by
  obtain ⟨y,hy,e⟩:=(zkt (f:=f) (xs:=Zg4 m) (f b)).mpr ⟨b,Zhv.mpr h,rfl⟩
  exact Zhk.mpr ⟨y,hy,e⟩
 have:=zf1 this
 unfold zbi
 rw [Zg2] at this ⊢
 exact this
theorem ybu {b k : Nat} (hb : b < m) {y : Nat} (hy : (ze6 f (Zg4 m))[k]? = some y) : f b = f y ↔ plc f m b = k:=by
 have hnd:=zq0 (f:=f) (xs:=Zg4 m)
 have hyk : ((ze6 f (Zg4 m)).map f)[k]? = some (f y):=by rw [Zg8,hy]; rfl
 have hk:=(Zg7.mp hyk)
 unfold plc
 constructor
 ·intro e
  rw [e,<- hk.2]
  exact zzo hnd hk.1
 ·intro e
  have hm : f b∈(ze6 f (Zg4 m)).map f:=by
   obtain ⟨z,hz,e⟩:=(zkt (f:=f) (xs:=Zg4 m) (f b)).mpr ⟨b,Zhv.mpr hb,rfl⟩
   exact Zhk.mpr ⟨z,hz,e⟩
  have:=Zi4 (zf1 hm)
  rw [<- this,<- hk.2]
  exact getElem_congr rfl e _
theorem ztz {k : Nat} (h : k < (zbi f (Zg4 m)).length) : prt f m k = (Zg4 m).filter fun b=>decide (plc f m b = k):=by
 have h' : k < (ze6 f (Zg4 m)).length:=by unfold zbi at h; rw [Zg2] at h; exact h
 unfold prt zbi
 rw [Zg0,Zg8,Zg1 h']
 show (Zg4 m).filter _ = _
 refine Zln fun b hb=>?_
 rw [Zh8,decide_eq_true_eq,decide_eq_true_eq]
 exact ybu (Zhv.mp hb) (Zg1 h')
theorem ycn {k b : Nat} (hk : k < (zbi f (Zg4 m)).length) : b∈prt f m k ↔ b < m/\plc f m b = k:=by
 rw [ztz hk,Zhh,Zhv,decide_eq_true_eq]
theorem yfw {k : Nat} (hk : k < (zbi f (Zg4 m)).length) : (prt f m k).Nodup:=by
 rw [ztz hk]; exact Zk4 Zkj Zo0
noncomputable def grsM (f : Nat->Nat) (m : Nat) (ps : List Pr) (as : List Apt) (k : Nat) : List Nat:=bestP (prt f m k).length (inP (prt f m k) ps) (inA (prt f m k) as)
noncomputable def labM (f : Nat->Nat) (m : Nat) (ps : List Pr) (as : List Apt) : Nat->Nat × Nat:=labG (plc f m) (prt f m) (grsM f m ps as)
noncomputable def znc (f : Nat->Nat) (m : Nat) (ps : List Pr) (as : List Apt) : List Nat:=numF ((Zg4 m).map (labM f m ps as))
theorem zxy {ps : List Pr} {as : List Apt} (hg : ztf m ps as) (hl : ∀ p∈ps,0 < p.2.2->f p.1 = f p.2.1 \/ (p.1,p.2.1)∈as) : BestOf m ps as (znc f m ps as) :=
 zrw (n:=(zbi f (Zg4 m)).length) (B:=prt f m) (Gs:=grsM f m ps as) hg.1 (fun a ha=>⟨(hg.2 a ha).1,(hg.2 a ha).2.1⟩) (fun p hp hw=>(hl p hp hw).imp (fun e=>by unfold plc; rw [e]) id) (fun b hb=>zzv hb) (fun k hk=>ztz hk) fun k hk=>zqf (zpf hg _).2
end
end L2
namespace L2
open PySem PySem.Spec PyProof.Rows
theorem zrd (kvs : DD) (k d k' : D) : valD (putD kvs k d) k' = if k' = k then some d else valD kvs k':=by
 have hm : ∀ {kvs : DD},¬ k' = k->(kvs.map fun kv=>if kv.1 = k then (kv.1,d) else kv).find? (fun kv=>decide (kv.1 = k')) = kvs.find? fun kv=>decide (kv.1 = k'):=fun {kvs} hk=>by
  induction kvs with
  | nil=>rfl
  | cons q kvs ih =>
   rw [Zhi,Zij,Zij,ih]
   by_cases c : q.1 = k
   ·rw [if_pos c]
    have : ¬ q.1 = k':=fun z=>hk (z.symm.trans c)
    rw [decide_eq_false this]
   ·rw [if_neg c]
 unfold valD putD
 by_cases h : (kvs.any fun kv=>decide (kv.1 = k)) = true
 ·rw [if_pos h]
  by_cases hk : k' = k
  ·subst hk
   rw [if_pos rfl]
   clear hm
   induction kvs with
   | nil=>cases h
   | cons q kvs ih =>
    rw [Zhi,Zij]
    by_cases c : q.1 = k'
    ·rw [if_pos c,decide_eq_true c]; rfl
    ·rw [if_neg c,decide_eq_false c]
     rw [Zkk,decide_eq_false c,Zol] at h
     exact ih h
  ·rw [if_neg hk,hm hk]
 ·rw [if_neg h,List.find?_append]
  by_cases hk : k' = k
  ·subst hk
   rw [if_pos rfl]
   have : kvs.find? (fun kv=>decide (kv.1 = k')) = none:=by
    rw [List.find?_eq_none]
    intro x hx z
    exact h (Zjx.mpr ⟨x,hx,z⟩)
   rw [this]
   simp
  ·rw [if_neg hk]
   cases kvs.find? fun kv=>decide (kv.1 = k') with
   | some q=>rfl
   | none=>simp [Zif hk]
end L2
namespace My
open PySem L2 PyProof.Rows
noncomputable def top (i : Nat) : Stmt:=Zsy.main.body.getD i (.Pass ⟨0,0,0,0⟩)
noncomputable abbrev zgq : Stmt:=top 31
noncomputable abbrev ze1 : List Str:=["value"]
theorem zo3 : FnScope ["value"] ze1 (zag zgq):=zbu (by decide +kernel)
noncomputable abbrev zgs : Stmt:=top 32
noncomputable abbrev zfd : List Str:=["value", "many"]
theorem zp0 : FnScope ["value", "many"] zfd (zag zgs):=zbu (by decide +kernel)
noncomputable abbrev zh4 : Stmt:=top 33
noncomputable abbrev zf7 : List Str:=["one", "other"]
theorem zs4 : FnScope ["one", "other"] zf7 (zag zh4):=zbu (by decide +kernel)
noncomputable abbrev zfx : Stmt:=top 34
noncomputable abbrev zft : List Str:=["ring", "many"]
theorem zrv : FnScope ["ring", "many"] zft (zag zfx):=zbu (by decide +kernel)
noncomputable abbrev ze0 : Stmt:=top 35
noncomputable abbrev zfe : List Str:=["ring"]
theorem zpi : FnScope ["ring"] zfe (zag ze0):=zbu (by decide +kernel)
noncomputable abbrev zju : Stmt:=top 36
noncomputable abbrev zhz : List Str:=["ring"]
theorem zwz : FnScope ["ring"] zhz (zag zju):=zbu (by decide +kernel)
noncomputable abbrev ze2 : Stmt:=top 37
noncomputable abbrev ze7 : List Str:=["ring", "many", "decided"]
theorem zkh : FnScope ["ring", "many", "decided", "all_held"] ze7 (zag ze2):=zbu (by decide +kernel)
noncomputable abbrev zds : Stmt:=top 38
noncomputable abbrev zdo : List Str:=["ring", "decided"]
theorem zlw : FnScope ["ring", "decided"] zdo (zag zds):=zbu (by decide +kernel)
noncomputable abbrev zfl : Stmt:=top 39
noncomputable abbrev zee : List Str:=["ring", "many", "weights", "decided"]
theorem zfu : FnScope ["ring", "many", "weights", "decided", "link", "gap"] zee (zag zfl):=zbu (by decide +kernel)
noncomputable abbrev zdl : Stmt:=top 40
noncomputable abbrev zcl : List Str:=["weights", "decided"]
theorem zbp : FnScope ["weights", "decided", "loss", "pair", "choice", "weight"] zcl (zag zdl):=zbu (by decide +kernel)
noncomputable abbrev zdt : Stmt:=top 41
noncomputable abbrev zdq : List Str:=["rings", "many", "weights", "decided", "least"]
theorem zbh : FnScope ["rings", "many", "weights", "decided", "least", "shown", "used", "ring", "amount", "pair", "within"] zdq (zag zdt):=zbu (by decide +kernel)
noncomputable abbrev zep : Stmt:=top 42
noncomputable abbrev zdw : List Str:=["paper", "many", "decided"]
theorem zfj : FnScope ["paper", "many", "decided", "i", "j"] zdw (zag zep):=zbu (by decide +kernel)
noncomputable abbrev zd2 : Stmt:=top 43
noncomputable abbrev zc3 : List Str:=["decided", "pair", "choice"]
theorem zgz : FnScope ["decided", "pair", "choice", "more"] zc3 (zag zd2):=zbu (by decide +kernel)
noncomputable abbrev zc1 : Stmt:=top 44
noncomputable abbrev zb8 : List Str:=["aparts"]
theorem zdz : FnScope ["aparts", "decided", "pair"] zb8 (zag zc1):=zbu (by decide +kernel)
noncomputable abbrev zc4 : Stmt:=top 45
noncomputable abbrev zca : List Str:=["pairs"]
theorem zb0 : FnScope ["pairs", "weights", "i", "j", "weight"] zca (zag zc4):=zbu (by decide +kernel)
noncomputable abbrev zgj : Stmt:=top 46
noncomputable abbrev zex : List Str:=["paper", "many", "pairs", "aparts", "least"]
theorem zcw : FnScope ["paper", "many", "pairs", "aparts", "least", "weights", "ahead", "here", "paper_here", "decided", "pair"] zex (zag zgj):=zbu (by decide +kernel)
noncomputable abbrev zjh : Stmt:=top 1
noncomputable abbrev zh7 : List Str:=["things", "links"]
theorem zco : FnScope ["things", "links", "first", "thing", "one", "other", "kept", "lost", "lists"] zh7 (zag zjh):=zbu (by decide +kernel)
noncomputable abbrev zkv : Stmt:=top 3
noncomputable abbrev zjy : List Str:=["aparts", "grouping"]
theorem zyc : FnScope ["aparts", "grouping"] zjy (zag zkv):=zbu (by decide +kernel)
noncomputable abbrev zib : Stmt:=top 4
noncomputable abbrev zfr : List Str:=["pairs", "grouping"]
theorem zdg : FnScope ["pairs", "grouping", "loss", "i", "j", "weight", "is_held"] zfr (zag zib):=zbu (by decide +kernel)
noncomputable abbrev zfa : Stmt:=top 5
noncomputable abbrev zez : List Str:=["many", "pairs", "aparts"]
theorem zks : FnScope ["many", "pairs", "aparts", "links"] zez (zag zfa):=zbu (by decide +kernel)
noncomputable abbrev ze3 : Stmt:=top 6
noncomputable abbrev zgd : List Str:=["part", "pairs", "aparts"]
theorem zd5 : FnScope ["part", "pairs", "aparts", "numbers", "number", "block", "inner_pairs", "inner_aparts"] zgd (zag ze3):=zbu (by decide +kernel)
noncomputable abbrev zdm : Stmt:=top 15
noncomputable abbrev zcr : List Str:=["many"]
theorem zba : FnScope ["many", "groupings", "block", "longer", "grouping", "group"] zcr (zag zdm):=zbu (by decide +kernel)
noncomputable abbrev zcm : Stmt:=top 16
noncomputable abbrev zcn : List Str:=["case"]
theorem zfw : FnScope ["case", "kept"] zcn (zag zcm):=zbu (by decide +kernel)
noncomputable abbrev zc7 : Stmt:=top 17
noncomputable abbrev zce : List Str:=["labels"]
theorem zcs : FnScope ["labels", "numbers", "grouping", "label"] zce (zag zc7):=zbu (by decide +kernel)
noncomputable abbrev zf8 : Stmt:=top 18
noncomputable abbrev zf3 : List Str:=["many", "pairs", "aparts"]
theorem zb3 : FnScope ["many", "pairs", "aparts", "parts", "part", "labels", "place", "groups", "block", "group", "grouping"] zf3 (zag zf8):=zbu (by decide +kernel)
noncomputable abbrev zci : Stmt:=top 20
noncomputable abbrev zck : List Str:=["case", "grouping"]
theorem zko : FnScope ["case", "grouping"] zck (zag zci):=zbu (by decide +kernel)
noncomputable abbrev zeo : Stmt:=top 21
noncomputable abbrev zdp : List Str:=["case", "grouping", "i", "j"]
theorem zhy : FnScope ["case", "grouping", "i", "j", "was_asked"] zdp (zag zeo):=zbu (by decide +kernel)
noncomputable abbrev zdk : Stmt:=top 22
noncomputable abbrev zcq : List Str:=["grouping", "i", "j"]
theorem zcc : FnScope ["grouping", "i", "j", "first", "other", "ahead", "behind"] zcq (zag zdk):=zbu (by decide +kernel)
noncomputable abbrev zej : Stmt:=top 23
noncomputable abbrev zdu : List Str:=["case", "grouping"]
theorem zcg : FnScope ["case", "grouping", "rings", "i", "j", "weight", "is_lost"] zdu (zag zej):=zbu (by decide +kernel)
noncomputable abbrev zdj : Stmt:=top 24
noncomputable abbrev za7 : List Str:=["case", "grouping", "least"]
theorem zka : FnScope ["case", "grouping", "least"] za7 (zag zdj):=zbu (by decide +kernel)
noncomputable abbrev zel : Stmt:=top 25
noncomputable abbrev zb9 : List Str:=["case", "grouping", "group", "least"]
theorem zd3 : FnScope ["case", "grouping", "group", "least", "block", "member", "number"] zb9 (zag zel):=zbu (by decide +kernel)
noncomputable abbrev zdn : Stmt:=top 26
noncomputable abbrev za8 : List Str:=["case", "grouping", "group", "least"]
theorem zc2 : FnScope ["case", "grouping", "group", "least", "first", "block", "parted"] za8 (zag zdn):=zbu (by decide +kernel)
noncomputable abbrev zgl : Stmt:=top 27
noncomputable abbrev ze5 : List Str:=["many", "pairs", "aparts"]
theorem zj6 : FnScope ["many", "pairs", "aparts", "least"] ze5 (zag zgl):=zbu (by decide +kernel)
noncomputable def yf8 (i j : Nat) : Stmt:=match top i with
 | .ClassDef _ _ _ b _ _ _ _ _ _ _=>b.getD j (.Pass ⟨0,0,0,0⟩)
 | s=>s
noncomputable abbrev Zac : Stmt:=yf8 11 0
noncomputable abbrev zk8 : List Str:=["self", "count"]
theorem zkr : FnScope ["self", "count"] zk8 (zag Zac):=zbu (by decide +kernel)
noncomputable abbrev zd4 : Stmt:=top 48
noncomputable abbrev zda : List Str:=["_law_script", "_law_k"]
theorem zk9 : FnScope ["_law_script", "_law_k"] zda (zag zd4):=zbu (by decide +kernel)
noncomputable abbrev zh1 : Stmt:=top 49
noncomputable abbrev zfy : List Str:=["_law_script", "_law_many"]
theorem zde : FnScope ["_law_script", "_law_many", "_law_pairs", "_law_aparts", "_law_k", "_law_cell", "_law_weight"] zfy (zag zh1):=zbu (by decide +kernel)
noncomputable abbrev zh2 : Stmt:=top 50
noncomputable abbrev zgc : List Str:=["_law_script"]
theorem zb2 : FnScope ["_law_script", "_law_pairs", "_law_aparts", "_law_k", "_law_i", "_law_j", "_law_cell", "_law_weight"] zgc (zag zh2):=zbu (by decide +kernel)
noncomputable abbrev zgn : Stmt:=top 51
noncomputable abbrev ze9 : List Str:=["_law_paper"]
theorem zeg : FnScope ["_law_paper", "_law_size_here", "_law_left", "_law_one"] ze9 (zag zgn):=zbu (by decide +kernel)
noncomputable abbrev zvl : Stmt:=top 52
noncomputable abbrev zt9 : List Str:=["_law_script"]
theorem zf2 : FnScope ["_law_script", "_law_many", "_law_pairs", "_law_aparts", "_law_told", "_law_paper", "e", "_law_lost"] zt9 (zag zvl):=zbu (by decide +kernel)
set_option genInjectivity false in
set_option genSizeOf false in
structure Ad where
 (Zal Zbl Zb4 Zdj Zaa Zci Zce Zdo Zdr Zcn Zd4 Zcp Zbu Zb8 Za8 Zbn Zbt Zbd Zaq Zau Zcv Zdy Zec Zdl Zck Zdd Za7 Zaz Zat Zdg Za4 Zbs Za2 Zbv Zag Zao Zaf Zcx Zah Zbb Zds Zdh Zch Ze7 : Addr)
 (Zgp Zej Zfv : Value)
 (Zcl Zcs Zdk Zde Zco Zd0 Zcj Zbw Zb9 Zax Zbp Zbq Zbe Zav Zas Zcr Zd6 Zeb Zdi Zcf Zda Zay Zab Zar Zdm Za3 Zbo Za6 Zbr Zae Zan Zad Zc0 Zai Zbc Zdn Zdp Zcz Ze1 : Zjq)
structure Tx (K : Zgy) (mg : Str->Option Value) (ad0 : Ad) : Prop where
 Zc7 : mg "FolkError" = some (.ref ad0.Zal)
 Zer : mg "NoPair" = some (.ref ad0.Zbl)
 Zff : mg "NoRow" = some (.ref ad0.Zb4)
 Zfz : mg "Odds" = some (.ref ad0.Zdj)
 Zd9 : mg "TooMany" = some (.ref ad0.Zaa)
 Zcm : XMk K ad0.Zaa ad0.Zah
 Zbm : XTell K ad0.Zaa
 Zcb : XStore K ad0.Zaa "count"
 Zd1 : CInitB K ad0.Zal
 Zbg : Zr1 K (.ref ad0.Zaa) (.ref ad0.Zal) = some true
 Za9 : Zni K (.ref ad0.Zaa) (.type "ValueError") = some true
 Zb6 : Zni K (.ref ad0.Zaa) (.ref ad0.Zaa) = some true
 Zba : zqr K ad0.Zaa "count"
 Zee : Zr0 K (.ref ad0.Zaa) [.ref ad0.Zdj,.ref ad0.Zbl,.ref ad0.Zb4] = some false
 Zel : mg "HELD" = some ad0.Zgp
 Zfx : RelV (.str (T [104,101,108,100])) ad0.Zgp
 Zca : mg "MOST_BLOCKS" = some ad0.Zej
 Zeh : RelV (.int 7) ad0.Zej
 Zcc : mg "PARTED" = some ad0.Zfv
 Zd2 : RelV (.str (T [112,97,114,116,101,100])) ad0.Zfv
 Zcw : FX K mg "is_whole" zgq ze1 ad0.Zci ad0.Zcl
 Zb3 : FX K mg "is_block" zgs zfd ad0.Zce ad0.Zcs
 Zdc : FX K mg "pair_of" zh4 zf7 ad0.Zdo ad0.Zdk
 Zdb : FX K mg "is_ring" zfx zft ad0.Zdr ad0.Zde
 Zb1 : FX K mg "links_of" ze0 zfe ad0.Zcn ad0.Zco
 Zc3 : FX K mg "gap_of" zju zhz ad0.Zd4 ad0.Zd0
 Zdv : FX K mg "is_never" ze2 ze7 ad0.Zcp ad0.Zcj
 Zbk : FX K mg "open_pairs" zds zdo ad0.Zbu ad0.Zbw
 Zc8 : FX K mg "is_losing" zfl zee ad0.Zb8 ad0.Zb9
 Zb5 : FX K mg "decided_loss" zdl zcl ad0.Za8 ad0.Zax
 Zct : FX K mg "rings_show" zdt zdq ad0.Zbn ad0.Zbp
 Zcy : FX K mg "may_decide" zep zdw ad0.Zbt ad0.Zbq
 Zbf : FX K mg "with_choice" zd2 zc3 ad0.Zbd ad0.Zbe
 Zbh : FX K mg "first_decided" zc1 zb8 ad0.Zaq ad0.Zav
 Zbj : FX K mg "first_weights" zc4 zca ad0.Zau ad0.Zas
 Zdx : FX K mg "is_shown" zgj zex ad0.Zcv ad0.Zcr
 Zeg : FX K mg "joined" zjh zh7 ad0.Zdy ad0.Zd6
 Zeo : FX K mg "keeps" zkv zjy ad0.Zec ad0.Zeb
 Zcd : FX K mg "loss_of" zib zfr ad0.Zdl ad0.Zdi
 Zdw : FX K mg "parts_of" zfa zez ad0.Zck ad0.Zcf
 Zd7 : FX K mg "case_of" ze3 zgd ad0.Zdd ad0.Zda
 Zb2 : FX K mg "groupings_of" zdm zcr ad0.Za7 ad0.Zay
 Za1 : FX K mg "best_in_part" zcm zcn ad0.Zaz ad0.Zab
 Zbi : FX K mg "numbered_anew" zc7 zce ad0.Zat ad0.Zar
 Zc9 : FX K mg "best_of" zf8 zf3 ad0.Zdg ad0.Zdm
 Za0 : FX K mg "placed_pairs" zci zck ad0.Za4 ad0.Za3
 Zcq : FX K mg "is_decided" zeo zdp ad0.Zbs ad0.Zbo
 Zbz : FX K mg "ring_through" zdk zcq ad0.Za2 ad0.Za6
 Zcu : FX K mg "lost_rings" zej zdu ad0.Zbv ad0.Zbr
 Zam : FX K mg "placed_paper" zdj za7 ad0.Zag ad0.Zae
 Zcg : FX K mg "held_paper" zel zb9 ad0.Zao ad0.Zan
 Zaw : FX K mg "asking_paper" zdn za8 ad0.Zaf ad0.Zad
 Zbx : FX K mg "paper_of" zgl ze5 ad0.Zcx ad0.Zc0
 Zc2 : Fun K "__init__" "TooMany.__init__" Zac ad0.Zah ad0.Zai
 Zc5 : zk6 K ad0.Zai ["self", "count"] []
 Zak : FX K mg "_law_cell_at" zd4 zda ad0.Zbb ad0.Zbc
 Zd8 : FX K mg "_law_row" zh1 zfy ad0.Zds ad0.Zdn
 Zea : FX K mg "_law_six" zh2 zgc ad0.Zdh ad0.Zdp
 Zdt : FX K mg "_law_size" zgn ze9 ad0.Zch ad0.Zcz
 Ze6 : FX K mg "law" zvl zt9 ad0.Ze7 ad0.Ze1
 Zdz : mg "ValueError" = none
 Zeq : mg "abs" = none
 Zep : mg "all" = none
 Ze3 : mg "bool" = none
 Zfr : mg "dict" = none
 Zb7 : mg "enumerate" = none
 Zgb : mg "int" = none
 Zaj : mg "isinstance" = none
 Zb0 : mg "len" = none
 Zdf : mg "list" = none
 Zed : mg "max" = none
 Zez : mg "min" = none
 Zby : mg "range" = none
 Zgi : mg "set" = none
 Zfp : mg "zip" = none
section
variable {P : Zhz} {w : Zix} {K : Zgy} {mg : Str->Option Value} {base : Heap} {ad0 : Ad}
noncomputable def zor (ds : List D) : Prop:=∃ (ns : List Int) (k : Int),ds = [.lst (ns.map .int),.int k]/\0 <= k
noncomputable def zf5 : List D->D
 | [.lst xs,.int k]=>xs.getD k.toNat (.int 0)
 | _=>.non
theorem zeu (Z : Tx K mg ad0) : FnOk P w K mg base CX0 1 ad0.Zbb ad0.Zbc zda (SpD K zor zf5):=by
 refine okD Z.Zak.F zk9 (by rintro ds ⟨ns,k,rfl,_⟩; rfl) fun cdv A outer s H Q E hr=>⟨_,(zad (zcf (zax zoa (pv 1) (zaw zbg (by rfl) Z.Zb0 Zmt (zab (pv 0) zae)) (zau _)) (zah (zav (zbs (show IxR _ (rIxL K) from zcv) (pv 0) (pv 1) (fun _ _=>rfl)))) za0)
   (zah (zav zal))),fun G ds hp rt=>?_⟩
 obtain ⟨ns,k,rfl,hk⟩:=hp
 have ll : (ns.map D.int).length = ns.length:=by simp
 refine zai (zbr (zan (zkj (g:=fun i j=>decide (i < j)) (zac rfl).b (zha (zac rfl).l).b)) (fun hb=>?_) (fun hb=>?_))
 ·simp only [decide_eq_true_eq] at hb
  have hk2 : k.toNat < ns.length:=by omega
  refine zaz (zho (d:=.int (ns.getD k.toNat 0)) (zac rfl).l (zac rfl).b ?_) ?_
  ·have:=zpo (xs:=ns.map D.int) (j:=k.toNat) (v:=D.int (ns.getD k.toNat 0)) (by rw [Zg8,Zg0]; simp [hk2])
   rw [show ((k.toNat : Nat) : Int) = k by omega] at this
   exact this
  ·have e : zf5 [D.lst (ns.map D.int),D.int k] = .int (ns.getD k.toNat 0):=by
    simp [zf5,Zg0,Zg8,hk2]
   rw [e] at rt; exact rt
 ·simp only [decide_eq_false_iff_not] at hb
  have e : zf5 [D.lst (ns.map D.int),D.int k] = .int 0:=by
   simp [zf5,Zg0,Zg8,show ns[k.toNat]? = none from Zio (by omega)]
  rw [e] at rt
  refine za2 ?_
  ((try dsimp only); refine zap ?_)
  exact zaz zak rt
theorem small {n : Nat} (h : n <= 1000) : n <= sizeLine:=by rw [Zhm]; omega
noncomputable def encA (a : Apt) : D:=.tup [.int a.1,.int a.2]
noncomputable def encP (p : Pr) : D:=.tup [.int p.1,.int p.2.1,.int p.2.2]
noncomputable def unI : D->Int
 | .int i=>i
 | _=>0
noncomputable def unA : D->Apt
 | .tup [.int i,.int j]=>(i.toNat,j.toNat)
 | _=>(0,0)
noncomputable def unP : D->Pr
 | .tup [.int i,.int j,.int w]=>(i.toNat,j.toNat,w)
 | _=>(0,0,0)
theorem zv3 (gs : List Int) : (gs.map D.int).map unI = gs:=by rw [Zh5]; exact Zmi gs
theorem zfk (as : List Apt) : (as.map encA).map unA = as:=by rw [Zh5]; exact Zmi as
theorem zir (ps : List Pr) : (ps.map encP).map unP = ps:=by rw [Zh5]; exact Zmi ps
noncomputable def zht (as : List Apt) (gs : List Int) : Bool:=as.all fun a=>!decide (gs.getD a.1 0 = gs.getD a.2 0)
noncomputable def zdx (gs : List Int) (p : Pr) : Int:=if !decide (decide (gs.getD p.1 0 = gs.getD p.2.1 0) = decide (0 < p.2.2)) then absI p.2.2 else 0
noncomputable def ya6 (gs : List Int) (p : Pr) : Int:=if decide (decide (gs.getD p.1 0 = gs.getD p.2.1 0) = decide (p.2.2 < 0)) then absI p.2.2 else 0
noncomputable def sumL (f : Pr->Int) (ps : List Pr) : Int:=ps.foldl (fun a p=>a + f p) 0
theorem zvx (f : Pr->Int) (ps : List Pr) (p : Pr) : sumL f (ps++[p]) = sumL f ps + f p:=by unfold sumL; rw [Zjt]; rfl
noncomputable def yfk (ds : List D) : Prop:=∃ (as : List Apt) (gs : List Int),ds = [.lst (as.map encA),.lst (gs.map .int)]/\(∀ a∈as,a.1 < gs.length/\a.2 < gs.length)/\as.length <= 1000
noncomputable def yca : List D->D
 | [.lst as,.lst gs]=>.bl (zht (as.map unA) (gs.map unI))
 | _=>.non
theorem znl (as : List Apt) (gs : List Int) : yca [.lst (as.map encA),.lst (gs.map .int)] = .bl (zht as gs):=by
 show D.bl (zht ((as.map encA).map unA) ((gs.map D.int).map unI)) = _
 rw [zfk,zv3]
noncomputable def zxw (ds : List D) : Prop:=∃ (ps : List Pr) (gs : List Int),ds = [.lst (ps.map encP),.lst (gs.map .int)]/\(∀ p∈ps,p.1 < gs.length/\p.2.1 < gs.length)/\ps.length <= 1000
noncomputable def zke : List D->D
 | [.lst ps,.lst gs]=>.int (sumL (zdx (gs.map unI)) (ps.map unP))
 | _=>.non
noncomputable def ygc : List D->D
 | [.lst ps,.lst gs]=>.int (sumL (ya6 (gs.map unI)) (ps.map unP))
 | _=>.non
theorem zfi (ps : List Pr) (gs : List Int) : zke [.lst (ps.map encP),.lst (gs.map .int)] = .int (sumL (zdx gs) ps):=by
 show D.int (sumL (zdx ((gs.map D.int).map unI)) ((ps.map encP).map unP)) = _
 rw [zir,zv3]
theorem zu1 {gs : List Int} {i : Nat} (h : i < gs.length) : atI (gs.map D.int) (i : Int) = some (.int (gs.getD i 0)) :=
 zpo (by rw [Zg8,Zg0]; simp [h])
theorem zxf (Z : Tx K mg ad0) : FnOk P w K mg base CX0 1 ad0.Zec ad0.Zeb zjy (SpD K yfk yca):=by
 refine okD Z.Zeo.F zyc (by rintro ds ⟨c,d,rfl,_⟩; rfl) fun cdv A outer s H Q E hr=>⟨_,(zah (zav (zaw (zjd rfl) (by rfl) Z.Zep Zs9 (zab (znk rfl (LcOk.of (Nx:=(["aparts", "grouping"] : List Str)) (sc:=zag zkv) (N':=(["i", "j", "grouping"] : List Str)) (nt:=2) (cs:=[1]) rfl rfl (by decide +kernel)) (zbb (pv 0)) (fun _ _ _ _=>(show PG _ _ (gTup K 2 _) from zdc rfl (zar (zbk (i:=0) (show Ziv (["i", "j", "grouping"] : List Str) by decide +kernel) rfl (Zko rfl)) (zar (zbk (i:=1) (show Ziv (["i", "j", "grouping"] : List Str) by decide +kernel) rfl (Zko rfl)) zb5)))) (fun _ _ _ _=>zgi) (fun _ _ _ _=>(zbe zsk (zbs (show IxR _ (rIxL K) from zcv) (pv 2) (pv 0) (fun _ _=>rfl)) (zbs (show IxR _ (rIxL K) from zcv) (pv 2) (pv 1) (fun _ _=>rfl)) (zau _)))) zae)))),fun G ds hp rt=>?_⟩
 obtain ⟨as,gs,rfl,hb,hl⟩:=hp
 rw [znl] at rt
 exact zaz (zma (xs:=as) (g:=fun a=>!decide (gs.getD a.1 0 = gs.getD a.2 0)) (EvO.l (zp4 as encA _ (zac rfl).l (zlj (zb7 (zbq (by decide)) (zb7 (zbq (by decide)) zil))) (by decide) (by rw [Zhm]; omega) fun a ha=>⟨_,zdd rfl (zaq zao (zaq zao zb4)),zw4 (zho (zac rfl).l (zac rfl).b (zu1 (hb a ha).1)).b (zho (zac rfl).l (zac rfl).b (zu1 (hb a ha).2)).b⟩))) rt
theorem zic (Z : Tx K mg ad0) : FnOk P w K mg base CX0 1 ad0.Zdl ad0.Zdi zfr (SpD K zxw zke):=by
 refine okD Z.Zcd.F zdg (by rintro ds ⟨c,d,rfl,_⟩; rfl) fun cdv A outer s H Q E hr=>⟨_,(zad (psn 2 zdg.nd zal)
   (zad (zb6 Zhy rfl (zbb (pv 0)) (zdc rfl (zar (pgn 3 zdg.nd) (zar (pgn 4 zdg.nd) (zar (pgn 5 zdg.nd) zb5)))) (zad (psn 6 zdg.nd (zbe zet (zbs (show IxR _ (rIxL K) from zcv) (pv 1) (pv 3) (fun _ _=>rfl)) (zbs (show IxR _ (rIxL K) from zcv) (pv 1) (pv 4) (fun _ _=>rfl)) (zau _)))
   (zah (zcf (zax zsk (pv 6) (zbe zoj (pv 5) zal (zau _)) (zau _)) (zah (psn 2 zdg.nd (zby zd7 (pv 2) (zaw zjf (by rfl) Z.Zeq Zta (zab (pv 5) zae))))) za0))))
   (zah (zav (pv 2))))),fun G ds hp rt=>?_⟩
 obtain ⟨ps,gs,rfl,hb,hl⟩:=hp
 rw [zfi] at rt
 refine zai (zay zak ?_)
 ((try dsimp only); refine zap ?_)
 refine zai (zeq encP ps (fun k ss=>∃ v3 v4 v5 v6 : Sl,ss = [.d (.lst (ps.map encP)),.d (.lst (gs.map .int)),.d (.int (sumL (zdx gs) (ps.take k))),v3,v4,v5,v6]) (zac rfl) ⟨.un,.un,.un,.un,rfl⟩ ?_ ?_)
 ·rintro L' k p ss hL hk ⟨v3,v4,v5,v6,rfl⟩
  refine ⟨_,zdd rfl (zaq zao (zaq zao (zaq zao zb4))),fun N hN=>?_⟩
  have hp : p∈ps:=Zhb hk
  have hs : sumL (zdx gs) (ps.take (k + 1)) = sumL (zdx gs) (ps.take k) + zdx gs p:=by rw [Zh0,hk]; exact zvx ..
  refine zai (zay (ze8 (zho (zac rfl).l (zac rfl).b (zu1 (hb p hp).1)).b (zho (zac rfl).l (zac rfl).b (zu1 (hb p hp).2)).b) ?_)
  ((try dsimp only); refine zap ?_)
  refine zbr (zan (zuv (zac rfl).b (znr (zac rfl).b zak.b).b)) (fun hq=>?_) (fun hq=>?_)
  ·refine zay (zd9 (zac rfl).b (zmc (zac rfl).b).b) (hN _ ⟨.d (.int p.1),.d (.int p.2.1),.d (.int p.2.2),.d (.bl (decide (gs.getD p.1 0 = gs.getD p.2.1 0))),?_⟩)
   rw [hs]; unfold zdx
   rw [if_pos hq]; rfl
  ·refine za2 (hN _ ⟨.d (.int p.1),.d (.int p.2.1),.d (.int p.2.2),.d (.bl (decide (gs.getD p.1 0 = gs.getD p.2.1 0))),?_⟩)
   rw [hs]; unfold zdx
   rw [if_neg (by rw [hq]; decide),Zu5]
   first | done | rfl
 ·rintro ss ⟨v3,v4,v5,v6,rfl⟩
  ((try dsimp only); refine zap ?_)
  rw [Zig]
  exact zaz (zac rfl) rt
noncomputable def encN (n : Nat) : D:=.int n
theorem zbt (a b : Nat) (h : encN a = encN b) : a = b:=by unfold encN at h; injection h with h; omega
noncomputable def unN : D->Nat
 | .int i=>i.toNat
 | _=>0
theorem zim (xs : List Nat) : (xs.map encN).map unN = xs:=by rw [Zh5]; exact Zmi xs
noncomputable def kp (i j : Nat) : Nat:=if j < i then j else i
noncomputable def lo (i j : Nat) : Nat:=if j > i then j else i
theorem ye5 (i j : Nat) : (if (j : Int) < (i : Int) then (j : Int) else (i : Int)) = ((kp i j : Nat) : Int):=by unfold kp; split <;> split <;> omega
theorem yfj (i j : Nat) : (if (j : Int) > (i : Int) then (j : Int) else (i : Int)) = ((lo i j : Nat) : Int):=by unfold lo; split <;> split <;> omega
noncomputable def ufS (f : Nat->Nat) (l : Apt) : Nat->Nat:=zn5 (kp (f l.1) (f l.2)) (lo (f l.1) (f l.2)) f
noncomputable def ufF (ls : List Apt) : Nat->Nat:=ls.foldl ufS id
theorem zq5 (ls : List Apt) (l : Apt) : ufF (ls++[l]) = ufS (ufF ls) l:=by unfold ufF; rw [Zjt]; rfl
theorem yf7 (i j : Nat) : (kp i j = i/\lo i j = j) \/ (kp i j = j/\lo i j = i):=by unfold kp lo; split <;> split <;> omega
theorem zin {α : Type} {xs : List α} (h : xs.Nodup) {k : Nat} {x : α} (hk : xs[k]? = some x) : x ∉ xs.take k:=fun hm=>by
 obtain ⟨j,hj⟩:=Zlv.mp hm
 have hjk : j < k:=by
  have:=(Zg7.mp hj).1
  rw [Zim] at this; omega
 rw [List.getElem?_take,if_pos hjk] at hj
 have h1:=(Zg7.mp hj)
 have h2:=(Zg7.mp hk)
 unfold Ziv at h
 rw [Zkc] at h
 exact h j k h1.1 h2.1 hjk (h1.2.trans h2.2.symm)
noncomputable def zg0 (xs : List Nat) (ls : List Apt) : List D:=(zbi (ufF ls) xs).map fun p=>.lst (p.map encN)
noncomputable def preJ (ds : List D) : Prop:=∃ (xs : List Nat) (ls : List Apt),ds = [.lst (xs.map encN),.lst (ls.map encA)]/\xs.Nodup/\(∀ l∈ls,l.1∈xs/\l.2∈xs)/\xs.length <= 1000
noncomputable def resJ : List D->List D
 | [.lst xs,.lst ls]=>zg0 (xs.map unN) (ls.map unA)
 | _=>[]
theorem zrb (xs : List Nat) (ls : List Apt) : resJ [.lst (xs.map encN),.lst (ls.map encA)] = zg0 xs ls:=by
 show zg0 ((xs.map encN).map unN) ((ls.map encA).map unA) = _
 rw [zim,zfk]
theorem zt2 (Z : Tx K mg ad0) : FnOk P w K mg base CX0 1 ad0.Zdy ad0.Zd6 zh7 (SpO K preJ resJ) := by
 refine okO Z.Zeg.F zco (by rintro ds ⟨c,d,rfl,_⟩; rfl) fun cdv A outer s H Q E hr=>⟨_,(zad (psn 2 zco.nd zjj)
   (zad (zb6 Zhy rfl (zbb (pv 0)) (pgn 3 zco.nd) (zah (zfh (zbw hr) (pv 2) (pv 3) (pv 3) rfl)))
   (zad (zb6 Zhy rfl (zbb (pv 1)) (zdc rfl (zar (pgn 4 zco.nd) (zar (pgn 5 zco.nd) zb5))) (zad (psn 6 zco.nd (zaw (zns rfl) (by rfl) Z.Zez Zv2 (zab (zdi (zbw hr) (pv 2) (pv 4) (fun _ _=>rfl)) (zab (zdi (zbw hr) (pv 2) (pv 5) (fun _ _=>rfl)) zae))))
   (zad (psn 7 zco.nd (zaw (zn8 rfl) (by rfl) Z.Zed Zs8 (zab (zdi (zbw hr) (pv 2) (pv 4) (fun _ _=>rfl)) (zab (zdi (zbw hr) (pv 2) (pv 5) (fun _ _=>rfl)) zae))))
   (zah (zb6 Zhy rfl (zbb (pv 0)) (pgn 3 zco.nd) (zah (zcf (zax zet (zdi (zbw hr) (pv 2) (pv 3) (fun _ _=>rfl)) (pv 7) (zau _)) (zah (zfh (zbw hr) (pv 2) (pv 3) (pv 6) rfl)) za0)))))))
   (zad (psn 8 zco.nd zjj)
   (zad (zb6 Zhy rfl (zbb (pv 0)) (pgn 3 zco.nd) (zah (zdy (zf6 Zh7 Zi0 Zi7 zcd (zf6 Zs3 F.slot_dict_setdefault F.type_dict_setdefault zm4 (pv 8) (zab (zdi (zbw hr) (pv 2) (pv 3) (fun _ _=>rfl)) (zab (zbn zae) zae))) (zab (pv 3) zae)))))
   (zah (zav (zdr (show zcy _ _ zol from zlb rfl) (by rfl) Z.Zdf Zo8 (zab (zun Zs3 F.slot_dict_values F.type_dict_values zwe (pv 8)) zae))))))))),fun G ds hp rt=>?_⟩
 obtain ⟨xs,ls,rfl,hnd,hls,hxl⟩:=hp
 rw [zrb] at rt
 have hz : ∀ {n : Nat},n <= 1000->n < sizeLine:=fun h=>by rw [Zhm]; omega
 have dl : ∀ (ys : List Nat) (f : Nat->Nat),(dA encN encN ys f).length = ys.length:=fun ys f=>by unfold dA; rw [Zg2]
 refine zai (zo5 fun p=>?_)
 ((try dsimp only); refine zap ?_)
 refine zai (zeq encN xs (fun k ss=>∃ v3 : Sl,ss = [.d (.lst (xs.map encN)),.d (.lst (ls.map encA)),dsl K p (dA encN encN (xs.take k) id),v3,.un,.un,.un,.un,.un]) (zac rfl) ⟨.un,rfl⟩ ?_ ?_)
 ·rintro L' k x ss hL hk ⟨v3,rfl⟩
  refine ⟨_,zao,fun N hN=>?_⟩
  refine zm6 (i:=2) (d:=encN x) (k:=encN x) rfl (zac rfl) (zac rfl).b rfl (hz (by rw [dl,Zim]; omega)) (hN _ ⟨.d (encN x),?_⟩)
  have e : putD (dA encN encN (xs.take k) id) (encN x) (encN x) = dA encN encN (xs.take (k + 1)) id:=by
   rw [Zh0,hk]
   exact zgk (f:=id) zbt (zin hnd hk)
  rw [e]; rfl
 rintro ss ⟨v3,rfl⟩
 rw [Zig]
 ((try dsimp only); refine zap ?_)
 refine zai (zeq encA ls (fun k ss=>∃ (f : Nat->Nat) (v3 v4 v5 v6 v7 : Sl),ss = [.d (.lst (xs.map encN)),.d (.lst (ls.map encA)),dsl K p (dA encN encN xs f),v3,v4,v5,v6,v7,.un] /\ ∀ t∈xs,f t = ufF (ls.take k) t) (zac rfl) ⟨id,_,_,_,_,_,rfl,fun _ _=>rfl⟩ ?_ ?_)
 ·rintro L' k l ss hL hk ⟨f,v3,v4,v5,v6,v7,rfl,hf⟩
  refine ⟨_,zdd rfl (zaq zao (zaq zao zb4)),fun N hN=>?_⟩
  obtain ⟨h1,h2⟩:=hls l (Zhb hk)
  refine zai (zay (d:=encN (kp (f l.1) (f l.2))) (by unfold encN; rw [<- ye5]; exact zut (zec (k:=encN l.1) (d:=encN (f l.1)) rfl (zac rfl).b rfl (zed zbt h1)).b (zec (k:=encN l.2) (d:=encN (f l.2)) rfl (zac rfl).b rfl (zed zbt h2)).b) ?_)
  ((try dsimp only); refine zap ?_)
  refine zai (zay (d:=encN (lo (f l.1) (f l.2))) (by unfold encN; rw [<- yfj]; exact zv7 (zec (k:=encN l.1) (d:=encN (f l.1)) rfl (zac rfl).b rfl (zed zbt h1)).b (zec (k:=encN l.2) (d:=encN (f l.2)) rfl (zac rfl).b rfl (zed zbt h2)).b) ?_)
  ((try dsimp only); refine zap ?_)
  generalize hkk : kp (f l.1) (f l.2) = kk
  generalize hll : lo (f l.1) (f l.2) = ll
  refine zeq encN xs (fun q ss=>∃ (g : Nat->Nat) (v3 : Sl),ss = [.d (.lst (xs.map encN)),.d (.lst (ls.map encA)),dsl K p (dA encN encN xs g),v3,.d (encN l.1),.d (encN l.2),.d (encN kk),.d (encN ll),.un]/\(∀ t∈xs.take q,g t = zn5 kk ll f t) /\ ∀ t,t ∉ xs.take q->g t = f t) (zac rfl) ⟨f,_,rfl,(fun t ht=>by simp at ht),fun _ _=>rfl⟩ ?_ ?_
  ·rintro L2 q x ss hL2 hq ⟨g,v3,rfl,hg1,hg2⟩
   refine ⟨_,zao,fun N2 hN2=>?_⟩
   have hx : x∈xs:=Zhb hq
   have hxn:=zin hnd hq
   have ext : xs.take (q + 1) = xs.take q++[x]:=by rw [Zh0,hq]; rfl
   have egx : g x = f x:=hg2 x hxn
   refine zbr (zan (ze8 (i:=(g x : Nat)) (j:=(ll : Nat)) (zec (k:=encN x) (d:=encN (g x)) rfl (zac rfl).b rfl (zed zbt hx)).b (zac rfl).b)) (fun hb=>?_) (fun hb=>?_)
   ·have hb : g x = ll:=by have:=of_decide_eq_true hb; omega
    refine zm6 (i:=2) (d:=encN kk) (k:=encN x) rfl (zac rfl) (zac rfl).b rfl (hz (by rw [dl]; omega)) (hN2 _ ⟨fun u=>if u = x then kk else g u,_,by rw [ybg zbt hx]; rfl,fun t ht=>?_,fun t ht=>?_⟩)
    ·rw [ext] at ht
     show (if t = x then kk else g t) = _
     rcases Zhe.mp ht with ht | ht
     ·rw [if_neg (fun z : t = x=>hxn (z ▸ ht))]; exact hg1 t ht
     ·rw [Zg3.mp ht,if_pos rfl]
      unfold zn5
      rw [if_pos (egx.symm.trans hb)]
    ·rw [ext] at ht
     have h3 : t≠x:=fun z=>ht (by rw [z]; simp)
     show (if t = x then kk else g t) = _
     rw [if_neg h3]
     exact hg2 t fun z=>ht (Zhu _ z)
   ·have hb : g x≠ll:=by have:=of_decide_eq_false hb; omega
    refine za2 (hN2 _ ⟨g,_,rfl,fun t ht=>?_,fun t ht=>?_⟩)
    ·rw [ext] at ht
     rcases Zhe.mp ht with ht | ht
     ·exact hg1 t ht
     ·rw [Zg3.mp ht]
      unfold zn5
      rw [if_neg (by rw [<- egx]; exact hb),egx]
    ·rw [ext] at ht
     exact hg2 t fun z=>ht (Zhu _ z)
  ·rintro ss ⟨g,v3,rfl,hg1,hg2⟩
   rw [Zig] at hg1
   refine hN _ ⟨g,_,_,_,_,_,rfl,fun t ht=>?_⟩
   have e : ls.take (k + 1) = ls.take k++[l]:=by rw [Zh0,hk]; rfl
   rw [hg1 t ht,e,zq5]
   unfold ufS
   rw [<- hf l.1 h1,<- hf l.2 h2,hkk,hll]
   unfold zn5
   rw [hf t ht]
 rintro ss ⟨f,v3,v4,v5,v6,v7,rfl,hf⟩
 rw [Zig] at hf
 ((try dsimp only); refine zap ?_)
 refine zai (zyr fun p2=>?_)
 ((try dsimp only); refine zap ?_)
 refine zai (zeq encN xs (fun k ss=>∃ (kqs : KQ) (v3 : Sl),ss = [.d (.lst (xs.map encN)),.d (.lst (ls.map encA)),dsl K p (dA encN encN xs f),v3,v4,v5,v6,v7,dls K p2 kqs]/\kqs.map dat = grpD encN encN f (xs.take k)) (zac rfl) ⟨[],_,rfl,rfl⟩ ?_ ?_)
 ·rintro L' k x ss hL hk ⟨kqs,v3,rfl,hq⟩
  refine ⟨_,zao,fun N hN=>?_⟩
  have hx : x∈xs:=Zhb hk
  have hlen : kqs.length <= xs.length:=by
   have h1:=congrArg Zrj hq
   rw [Zg2] at h1
   have h2:=zxp (enc:=encN) (encB:=encN) (f:=f) (xs:=xs.take k)
   rw [Zim] at h2
   omega
  refine ya8 (i:=8) (k:=encN (f x)) (d:=encN x) rfl (zec (k:=encN x) (d:=encN (f x)) rfl (zac rfl).b rfl (zed zbt hx)).b rfl (fun kqs'=>zac rfl) (hz (by omega)) (fun z hzm=>hz ?_) fun kqs' he=>hN _ ⟨kqs',_,rfl,?_⟩
  ·have : dat z∈grpD encN encN f (xs.take k):=by rw [<- hq]; exact Zjb hzm
   have:=zwa this
   rw [Zim] at this
   have e : (dat z).2 = z.2.2:=rfl
   rw [e] at this
   omega
  ·rw [he,hq,Zh0,hk]
   exact zzb zbt
 rintro ss ⟨kqs,v3,rfl,hq⟩
 rw [Zig] at hq
 refine zsx (i:=8) rfl ?_
 ((try dsimp only); refine zap ?_)
 have e : (kqs.map frzL).map (·.2) = zg0 xs ls:=by
  have h1 : (kqs.map frzL).map (·.2) = (kqs.map dat).map fun q=>D.lst q.2:=by rw [Zh5,Zh5]; rfl
  rw [h1,hq,zup]
  unfold zg0
  rw [zn3 (g:=ufF ls) fun a ha b hb=>by rw [hf a ha,hf b hb]]
 refine zkx (zx5 (i:=8) rfl) ?_
 rw [e]; exact rt
noncomputable def zd0 (m : Nat) (ps : List Pr) (as : List Apt) : Prop:=(∀ p∈ps,p.1 < p.2.1/\p.2.1 < m/\p.2.2≠0) /\ ∀ a∈as,a.1 < a.2/\a.2 < m
noncomputable def zxl (as : List Apt) (p : Pr) : Bool:=decide (0 < p.2.2) && !decide (encA (p.1,p.2.1)∈as.map encA)
noncomputable def zd8 (ps : List Pr) (as : List Apt) : List Apt:=(ps.filter (zxl as)).map fun p=>(p.1,p.2.1)
theorem zps (a : Apt) : (encA a).nb = true:=rfl
noncomputable def preP (ds : List D) : Prop:=∃ (m : Nat) (ps : List Pr) (as : List Apt),ds = [.int m,.lst (ps.map encP),.lst (as.map encA)]/\m <= 100/\ps.length <= 1000/\as.length <= 1000/\zd0 m ps as
noncomputable def resP : List D->List D
 | [.int m,.lst ps,.lst as]=>zg0 (Zg4 m.toNat) (zd8 (ps.map unP) (as.map unA))
 | _=>[]
theorem zp7 (m : Nat) (ps : List Pr) (as : List Apt) : resP [.int m,.lst (ps.map encP),.lst (as.map encA)] = zg0 (Zg4 m) (zd8 ps as):=by
 show zg0 (Zg4 (m : Int).toNat) (zd8 ((ps.map encP).map unP) ((as.map encA).map unA)) = _
 rw [zir,zfk]; rfl
theorem zx9 {m : Nat} {ps : List Pr} {as : List Apt} (hg : zd0 m ps as) : ∀ l∈zd8 ps as,l.1∈Zg4 m/\l.2∈Zg4 m:=fun l hl=>by
 obtain ⟨p,hp,rfl⟩:=Zhk.mp hl
 have:=hg.1 p (Zhh.mp hp).1
 exact ⟨Zhv.mpr (Zka this.1 this.2.1),Zhv.mpr this.2.1⟩
theorem zpr (Z : Tx K mg ad0) : FnOk P w K mg base CX0 2 ad0.Zck ad0.Zcf zez (SpO K preP resP):=by
 have Zgu:=zt2 (P:=P) (w:=w) (base:=base) Z
 refine okO Z.Zdw.F zks (by rintro ds ⟨c,d,e,rfl,_⟩; rfl) fun cdv A outer s H Q E hr=>⟨_,(zad (zjg (i:=3) zks.nd rfl (Zko rfl) rfl (LcOk.of (Nx:=(["many", "pairs", "aparts", "links"] : List Str)) (sc:=zag zfa) (N':=(["i", "j", "weight", "aparts"] : List Str)) (nt:=3) (cs:=[2]) rfl rfl (by decide +kernel)) (zbb (pv 1)) (fun _ _ _ _=>(show PG _ _ (gTup K 3 _) from zdc rfl (zar (zbk (i:=0) (show Ziv (["i", "j", "weight", "aparts"] : List Str) by decide +kernel) rfl (Zko rfl)) (zar (zbk (i:=1) (show Ziv (["i", "j", "weight", "aparts"] : List Str) by decide +kernel) rfl (Zko rfl)) (zar (zbk (i:=2) (show Ziv (["i", "j", "weight", "aparts"] : List Str) by decide +kernel) rfl (Zko rfl)) zb5))))) (fun _ _ _ _=>(zgt (PW.pt (zlq (zax zoj (pv 2) zal (zau _)) (zio (zax (show OpR _ _ (rInD K true) from zu8 hr.units) (zbc (zab (pv 0) (zab (pv 1) zae))) (pv 3) (by with_unfolding_all rfl))))))) (fun _ _ _ _=>(zbc (zab (pv 0) (zab (pv 1) zae)))))
   (zah (zav (pcX Zgu hr Z.Zeg (zab (zdr (show zcy _ _ zq1 from zmy rfl) (by rfl) Z.Zdf Zo8 (zab (zs9 (by rfl) Z.Zby (zab (pv 0) zae)) zae)) (zab (pv 3) zae)))))),fun G ds hp rt=>?_⟩
 obtain ⟨m,ps,as,rfl,hm,hpl,hal,hg⟩:=hp
 rw [zp7] at rt
 have e1 : (ps.filter (zxl as)).map (fun p=>encA (p.1,p.2.1)) = (zd8 ps as).map encA:=by unfold zd8; rw [Zh5]; rfl
 refine zai (zc0 (ds:=(zd8 ps as).map encA) (by
  rw [<- e1]
  exact zhe ps encP (zxl as) (fun p=>encA (p.1,p.2.1)) (zac rfl).l (zlj (zb7 (zbq (by decide)) (zb7 (zbq (by decide)) (zb7 (zbq (by decide)) zil)))) (by decide) (by rw [Zhm]; omega) fun p hp=>⟨_,zdd rfl (zaq zao (zaq zao (zaq zao zb4))),
   zif (zan (znr (zac rfl).b zak.b)) fun _=>zan (zv1 (d:=encA (p.1,p.2.1)) (Ev.b (zbo (zaa (zac rfl) (zaa (zac rfl) zaf)) (small (by simp)))) (zac rfl).b rfl (D.nbs_map zps as) (by show 1 <= 60; decide)),
   fun _=>zbo (zaa (zac rfl) (zaa (zac rfl) zaf)) (small (by simp))⟩) fun p=>zc6 (i:=3) rfl ?_)
 ((try dsimp only); refine zap ?_)
 have:=zrb (Zg4 m) (zd8 ps as)
 refine zkx (ds:=zg0 (Zg4 m) (zd8 ps as)) (by
  rw [<- this]
  exact zhm (pre:=preJ) (res:=resJ) (zaa (EvO.ev (zm8 (n:=m) (zac rfl).b (by omega))) (zaa (zac rfl) zaf)) ⟨Zg4 m,zd8 ps as,rfl,Zo0,zx9 hg,by simp; omega⟩) rt
noncomputable def idxP (part : List Nat) (p : Pr) : D:=.tup [.int (part.idxOf p.1 : Nat),.int (part.idxOf p.2.1 : Nat),.int p.2.2]
noncomputable def idxA (part : List Nat) (a : Apt) : D:=.tup [.int (part.idxOf a.1 : Nat),.int (part.idxOf a.2 : Nat)]
noncomputable def zoy (part : List Nat) (ps : List Pr) (as : List Apt) : D:=.tup [.int part.length,.lst ((ps.filter fun p=>decide (p.1∈part) && decide (p.2.1∈part)).map (idxP part)),.lst ((as.filter fun a=>decide (a.1∈part) && decide (a.2∈part)).map (idxA part))]
noncomputable def preC (ds : List D) : Prop:=∃ (part : List Nat) (ps : List Pr) (as : List Apt),ds = [.lst (part.map encN),.lst (ps.map encP),.lst (as.map encA)]/\part.Nodup/\part.length <= 100/\ps.length <= 1000/\as.length <= 1000
noncomputable def resC : List D->D
 | [.lst part,.lst ps,.lst as]=>zoy (part.map unN) (ps.map unP) (as.map unA)
 | _=>.non
theorem zqi (part : List Nat) (ps : List Pr) (as : List Apt) : resC [.lst (part.map encN),.lst (ps.map encP),.lst (as.map encA)] = zoy part ps as:=by
 show zoy ((part.map encN).map unN) ((ps.map encP).map unP) ((as.map encA).map unA) = _
 rw [zim,zir,zfk]
theorem zuo {part : List Nat} (h : part.Nodup) {k x : Nat} (hk : part[k]? = some x) : part.idxOf x = k:=by
 have hm : x∈part:=Zhb hk
 have hl:=Ziz.mpr hm
 have h1:=Zi4 hl
 obtain ⟨h2,h3⟩:=Zg7.mp hk
 unfold Ziv at h
 rw [Zkc] at h
 rcases Zky (part.idxOf x) k with c | c | c
 ·exact absurd (h1.trans h3.symm) (h _ _ hl h2 c)
 ·exact c
 ·exact absurd (h3.trans h1.symm) (h _ _ h2 hl c)
theorem zlx (part : List Nat) (f : Nat->Nat) (i : Nat) : (valD (dA encN encN part f) (encN i)).isSome = decide (i∈part):=by
 by_cases h : i∈part
 ·rw [zed zbt h,decide_eq_true h]; rfl
 ·rw [zmx zbt h,decide_eq_false h]; rfl
theorem zsi (Z : Tx K mg ad0) : FnOk P w K mg base CX0 1 ad0.Zdd ad0.Zda zgd (SpD K preC resC):=by
 refine okD Z.Zd7.F zd5 (by rintro ds ⟨c,d,e,rfl,_⟩; rfl) fun cdv A outer s H Q E hr=>⟨_,(zad (zwu (i:=3) zd5.nd rfl (Ztd rfl) zjj)
   (zad (zb6 Zhy rfl (zf9 (by rfl) Z.Zb7 (zab (pv 0) zae)) (zdc rfl (zar (pgn 4 zd5.nd) (zar (pgn 5 zd5.nd) zb5))) (zah (zfh (zbw hr) (pv 3) (pv 5) (pv 4) rfl)))
   (zad (zjg (i:=6) zd5.nd rfl (Zko rfl) rfl (LcOk.of (Nx:=(["part", "pairs", "aparts", "numbers", "number", "block", "inner_pairs", "inner_aparts"] : List Str)) (sc:=zag ze3) (N':=(["i", "j", "weight", "numbers"] : List Str)) (nt:=3) (cs:=[3]) rfl rfl (by decide +kernel)) (zbb (pv 1)) (fun _ _ _ _=>(show PG _ _ (gTup K 3 _) from zdc rfl (zar (zbk (i:=0) (show Ziv (["i", "j", "weight", "numbers"] : List Str) by decide +kernel) rfl (Zko rfl)) (zar (zbk (i:=1) (show Ziv (["i", "j", "weight", "numbers"] : List Str) by decide +kernel) rfl (Zko rfl)) (zar (zbk (i:=2) (show Ziv (["i", "j", "weight", "numbers"] : List Str) by decide +kernel) rfl (Zko rfl)) zb5))))) (fun _ _ _ _=>(zgt (PW.pt (zlq (zkw (zp9 (zbw hr) (pv 0) (pv 3)) (by with_unfolding_all rfl)) (zio (zkw (zp9 (zbw hr) (pv 1) (pv 3)) (by with_unfolding_all rfl))))))) (fun _ _ _ _=>(zbc (zab (zdi (zbw hr) (pv 3) (pv 0) (fun _ _=>rfl)) (zab (zdi (zbw hr) (pv 3) (pv 1) (fun _ _=>rfl)) (zab (pv 2) zae))))))
   (zad (zjg (i:=7) zd5.nd rfl (Zko rfl) rfl (LcOk.of (Nx:=(["part", "pairs", "aparts", "numbers", "number", "block", "inner_pairs", "inner_aparts"] : List Str)) (sc:=zag ze3) (N':=(["i", "j", "numbers"] : List Str)) (nt:=2) (cs:=[3]) rfl rfl (by decide +kernel)) (zbb (pv 2)) (fun _ _ _ _=>(show PG _ _ (gTup K 2 _) from zdc rfl (zar (zbk (i:=0) (show Ziv (["i", "j", "numbers"] : List Str) by decide +kernel) rfl (Zko rfl)) (zar (zbk (i:=1) (show Ziv (["i", "j", "numbers"] : List Str) by decide +kernel) rfl (Zko rfl)) zb5)))) (fun _ _ _ _=>(zgt (PW.pt (zlq (zkw (zp9 (zbw hr) (pv 0) (pv 2)) (by with_unfolding_all rfl)) (zio (zkw (zp9 (zbw hr) (pv 1) (pv 2)) (by with_unfolding_all rfl))))))) (fun _ _ _ _=>(zbc (zab (zdi (zbw hr) (pv 2) (pv 0) (fun _ _=>rfl)) (zab (zdi (zbw hr) (pv 2) (pv 1) (fun _ _=>rfl)) zae)))))
   (zah (zav (zbc (zab (zaw zbg (by rfl) Z.Zb0 Zmt (zab (pv 0) zae)) (zab (pv 6) (zab (pv 7) zae)))))))))),fun G ds hp rt=>?_⟩
 obtain ⟨part,ps,as,rfl,hnd,hl,hpl,hal⟩:=hp
 rw [zqi] at rt
 refine zai (zo5 fun p=>?_)
 ((try dsimp only); refine zap ?_)
 refine zai (zox encN part (fun k ss=>∃ v4 v5 : Sl,ss = [.d (.lst (part.map encN)),.d (.lst (ps.map encP)),.d (.lst (as.map encA)),dsl K p (dA encN encN (part.take k) part.idxOf),v4,v5,.un,.un]) (zac rfl) ⟨.un,.un,rfl⟩ ?_ ?_)
 ·rintro L' k x ss hL hk ⟨v4,v5,rfl⟩
  refine ⟨_,zdd rfl (zaq zao (zaq zao zb4)),fun N hN=>?_⟩
  refine zm6 (i:=3) (d:=encN k) (k:=encN x) rfl (zac rfl) (zac rfl).b rfl (by rw [Zhm]; unfold dA; rw [Zg2,Zim]; omega) (hN _ ⟨.d (encN k),.d (encN x),?_⟩)
  have e : putD (dA encN encN (part.take k) part.idxOf) (encN x) (encN k) = dA encN encN (part.take (k + 1)) part.idxOf:=by
   rw [Zh0,hk,<- zuo hnd hk]
   exact zgk (f:=part.idxOf) zbt (by rw [zuo hnd hk]; exact zin hnd hk)
  rw [e]; rfl
 rintro ss ⟨v4,v5,rfl⟩
 rw [Zig]
 ((try dsimp only); refine zap ?_)
 have g1 : ∀ i : Nat,i∈part->valD (dA encN encN part part.idxOf) (encN i) = some (encN (part.idxOf i)):=fun i h=>zed zbt h
 refine zai (zc0 (ds:=(ps.filter fun p=>decide (p.1∈part) && decide (p.2.1∈part)).map (idxP part)) (zhe ps encP (fun p=>decide (p.1∈part) && decide (p.2.1∈part)) (idxP part) (zac rfl).l (zlj (zb7 (zbq (by decide)) (zb7 (zbq (by decide)) (zb7 (zbq (by decide)) zil)))) (by decide) (by rw [Zhm]; omega) fun q hq=>⟨_,zdd rfl (zaq zao (zaq zao (zaq zao zb4))),
   zif (by rw [<- zlx part part.idxOf]; exact zie (zro (k:=encN q.1) rfl (zac rfl).b rfl)) fun _=>(by rw [<- zlx part part.idxOf]; exact zie (zro (k:=encN q.2.1) rfl (zac rfl).b rfl)),fun hb=>by
    rw [Zhq,decide_eq_true_eq,decide_eq_true_eq] at hb
    exact zbo (zaa (zec (k:=encN q.1) rfl (zac rfl).b rfl (g1 _ hb.1)) (zaa (zec (k:=encN q.2.1) rfl (zac rfl).b rfl (g1 _ hb.2)) (zaa (zac rfl) zaf))) (small (by simp))⟩)
  fun p6=>zc6 (i:=6) rfl ?_)
 ((try dsimp only); refine zap ?_)
 refine zai (zc0 (ds:=(as.filter fun a=>decide (a.1∈part) && decide (a.2∈part)).map (idxA part)) (zhe as encA (fun a=>decide (a.1∈part) && decide (a.2∈part)) (idxA part) (zac rfl).l (zlj (zb7 (zbq (by decide)) (zb7 (zbq (by decide)) zil))) (by decide) (by rw [Zhm]; omega) fun q hq=>⟨_,zdd rfl (zaq zao (zaq zao zb4)),
   zif (by rw [<- zlx part part.idxOf]; exact zie (zro (k:=encN q.1) rfl (zac rfl).b rfl)) fun _=>(by rw [<- zlx part part.idxOf]; exact zie (zro (k:=encN q.2) rfl (zac rfl).b rfl)),fun hb=>by
    rw [Zhq,decide_eq_true_eq,decide_eq_true_eq] at hb
    exact zbo (zaa (zec (k:=encN q.1) rfl (zac rfl).b rfl (g1 _ hb.1)) (zaa (zec (k:=encN q.2) rfl (zac rfl).b rfl (g1 _ hb.2)) zaf)) (small (by simp))⟩)
  fun p7=>zc6 (i:=7) rfl ?_)
 ((try dsimp only); refine zap ?_)
 refine zaz (d:=zoy part ps as) ?_ rt
 have ll : ((part.map encN).length : Int) = part.length:=by rw [Zg2]
 unfold zoy
 rw [<- ll]
 exact zbo (zaa (zha (zac rfl).l) (zaa (zac rfl) (zaa (zac rfl) zaf))) (small (by simp))
noncomputable def encG (g : List Nat) : D:=.lst (g.map encN)
theorem zbv (g : List Nat) : g.map encN = (toI g).map D.int:=by unfold toI; rw [Zh5]; rfl
theorem ybn (g : List Nat) : (toI g = []/\(ngF g : Int) - 1 = -1) \/ ((ngF g : Int) - 1∈toI g /\ ∀ n∈toI g,n <= (ngF g : Int) - 1):=by
 have mm : ∀ {g : List Nat} {x : Nat},(x : Int)∈toI g ↔ x∈g:=fun {g x}=>by
  unfold toI
  rw [Zhk]
  exact ⟨fun ⟨y,hy,e⟩=>by have : y = x:=(by omega); exact this ▸ hy,fun h=>⟨x,h,rfl⟩⟩
 have all : ∀ {g : List Nat},(∀ x∈g,x + 1 <= ngF g)/\(g≠[] -> ∃ x∈g,ngF g = x + 1):=fun {g}=>by
  induction g using zg2 with
  | h0=>exact ⟨fun x hx=>by simp at hx,fun z=>absurd rfl z⟩
  | hs g y ih =>
   rw [zii]
   refine ⟨fun x hx=>?_,fun _=>?_⟩
   ·rcases Zhe.mp hx with h | h
    ·have:=ih.1 x h; omega
    ·rw [Zg3.mp h]; omega
   ·by_cases c : ngF g <= y + 1
    ·exact ⟨y,by simp,by omega⟩
    ·have hne : g≠[]:=fun z=>c (by rw [z]; show 0 <= y + 1; omega)
     obtain ⟨x,hx,e⟩:=ih.2 hne
     exact ⟨x,Zhu _ hx,by omega⟩
 by_cases h : g = []
 ·subst h; exact .inl ⟨rfl,rfl⟩
 ·obtain ⟨x,hx,e⟩:=all.2 h
  refine .inr ⟨?_,fun n hn=>?_⟩
  ·rw [show (ngF g : Int) - 1 = (x : Int) by omega]; exact mm.mpr hx
  ·obtain ⟨y,hy,rfl⟩:=Zhk.mp hn
   have:=all.1 y hy
   omega
noncomputable def extG (gs : List (List Nat)) : List (List Nat):=gs.flatMap fun g=>(Zg4 (ngF g + 1)).map fun x=>g++[x]
theorem zxb (gs : List (List Nat)) (g : List Nat) : extG (gs++[g]) = extG gs++(Zg4 (ngF g + 1)).map fun x=>g++[x]:=by
 unfold extG; rw [List.flatMap_append]; simp
theorem zw5 : ∀ {gs : List (List Nat)},(∀ g∈gs,ngF g <= 7)->(extG gs).length <= 8 * gs.length
 | [],_=>Zha _
 | g::gs,h=>by
  have ih:=zw5 fun x hx=>h x (Zhd _ hx)
  have h1:=h g Zhl
  show ((Zg4 (ngF g + 1)).map _++extG gs).length <= _
  rw [Zhg,Zg2,Zjd,Zjo]
  omega
theorem zg6 {n : Nat} : ∀ {g : List Nat},g∈rgs n->ngF g <= n:=by
 induction n with
 | zero=>intro g h; rw [rgs] at h; rw [Zg3.mp h]; exact Zha _
 | succ n ih =>
  intro g h
  obtain ⟨g',h1,x,hx,rfl⟩:=zhc.mp h
  have:=ih h1
  rw [zii]; omega
theorem zt6 : ∀ n ≤ 7,(rgs n).length <= 1000:=by decide +kernel
noncomputable def yed (ds : List D) : Prop:=∃ n : Nat,ds = [.int n]/\n <= 7
noncomputable def ye7 : List D->D
 | [.int n]=>.lst ((rgs n.toNat).map encG)
 | _=>.non
theorem zj2 (Z : Tx K mg ad0) : FnOk P w K mg base CX0 1 ad0.Za7 ad0.Zay zcr (SpD K yed ye7):=by
 refine okD Z.Zb2.F zba (by rintro ds ⟨c,rfl,_⟩; rfl) fun cdv A outer s H Q E hr=>⟨_,(zad (psn 1 zba.nd (zbn (zab (zbn zae) zae)))
   (zad (zb6 Zhy rfl (zgh (by rfl) Z.Zby (zab (pv 0) zae)) (pgn 2 zba.nd) (zad (psn 3 zba.nd (zbn zae))
   (zad (zb6 Zhy rfl (zbb (pv 1)) (pgn 4 zba.nd) (zah (zb6 Zhy rfl (zgh (by rfl) Z.Zby (zab (zby zd7 (zvu rfl (by rfl) Z.Zed (pv 4) (zru zlf zal)) zal) zae)) (pgn 5 zba.nd) (zah (zdy (zf6 Zh7 Zi0 Zi7 zcd (pv 3) (zab (zby (show OpR _ _ (zmm K) from zis) (pv 4) (zbn (zab (pv 5) zae))) zae)))))))
   (zah (psn 1 zba.nd (pv 3))))))
   (zah (zav (pv 1))))),fun G ds hp rt=>?_⟩
 obtain ⟨n,rfl,hn⟩:=hp
 refine zai (zay (d:=.lst ((rgs 0).map encG)) (EvO.ev (za4 (zaa (EvO.ev (za4 zaf (small (by decide)))) zaf) (small (by decide)))) ?_)
 ((try dsimp only); refine zap ?_)
 refine zai (zjb (n:=(n : Int)) (fun k ss=>∃ v2 v3 v4 v5 : Sl,ss = [.d (.int n),.d (.lst ((rgs k).map encG)),v2,v3,v4,v5]) (zd1 (zac rfl).b zhb) ⟨by omega,by omega⟩ ⟨.un,.un,.un,.un,rfl⟩ ?_ ?_ (fun _ _ _ h=>h))
 ·rintro k ss hk ⟨v2,v3,v4,v5,rfl⟩ N hN
  refine zai (zc0 (za4 zaf (small (by decide))) fun p=>?_)
  ((try dsimp only); refine zap ?_)
  refine zai (zeq encG (rgs k) (fun j ss=>∃ v4 v5 : Sl,ss = [.d (.int n),.d (.lst ((rgs k).map encG)),.d (.int k),.o p ((extG ((rgs k).take j)).map encG),v4,v5]) (zac rfl) ⟨v4,v5,rfl⟩ ?_ ?_)
  ·rintro L' j g ss hL hj ⟨v4,v5,rfl⟩
   refine ⟨_,zao,fun N2 hN2=>?_⟩
   have hg : g∈rgs k:=Zhb hj
   have hgl:=zhf hg
   have et : extG ((rgs k).take (j + 1)) = extG ((rgs k).take j)++(Zg4 (ngF g + 1)).map fun x=>g++[x]:=by rw [Zh0,hj]; exact zxb _ _
   have hb1 : (extG ((rgs k).take j)).length <= 8 * 1000:=by
    have h1:=zw5 (gs:=(rgs k).take j) fun x hx=>by have:=zg6 (Zrb hx); omega
    have h2:=zt6 k (by omega)
    have h3 : ((rgs k).take j).length <= (rgs k).length:=by rw [Zim]; omega
    omega
   have hb2:=zg6 hg
   refine zjb (n:=(ngF g : Int) - 1 + 2) (fun t ss=>∃ v5 : Sl,ss = [.d (.int n),.d (.lst ((rgs k).map encG)),.d (.int k),.o p ((extG ((rgs k).take j)++(Zg4 t).map fun x=>g++[x]).map encG),.d (encG g),v5]) (zd1 (zd9 (zs7 (ns:=toI g) (d0:=-1) (by rw [<- zbv]; exact Ev.l (zac rfl)) (zlk zak.b) (ybn g)).b zak.b).b zhb) ⟨by omega,by omega⟩ ⟨v5,by simp⟩ ?_ ?_ (fun _ _ _ h=>h)
   ·rintro t ss ht ⟨v5,rfl⟩ N3 hN3
    have ea : encG (g++[t]) = .lst (g.map encN++[encN t]):=by unfold encG; rw [Zhj]; rfl
    refine zc5 (d:=encG (g++[t])) rfl (by rw [ea]; exact EvO.ev (zkm (da:=g.map encN) (db:=[encN t]) (Ev.l (zac rfl)) (EvO.l (za4 (zaa (zac rfl) zaf) (small (by simp)))) (small (by rw [Zg2,hgl]; show k + 1 <= 1000; omega)))) (by rw [Zg2,Zhg,Zg2,Zjd,Zhm]; omega) (hN3 _ ⟨.d (.int t),?_⟩)
    have e5 : (extG ((rgs k).take j)++(Zg4 (t + 1)).map fun x=>g++[x]).map encG = (extG ((rgs k).take j)++(Zg4 t).map fun x=>g++[x]).map encG++[encG (g++[t])]:=by rw [Zkr,Zhj (f:=fun x=>g++[x]),<- Zm6,Zhj (f:=encG) (l₂:=Zth (fun x=>g++[x]) [t])]; rfl
    rw [e5]; rfl
   ·rintro ss ⟨v5,rfl⟩
    rw [show ((ngF g : Int) - 1 + 2).toNat = ngF g + 1 by omega,<- et]
    exact hN2 _ ⟨_,_,rfl⟩
  ·rintro ss ⟨v4,v5,rfl⟩
   rw [Zig]
   refine zc6 (i:=3) rfl ?_
   ((try dsimp only); refine zap ?_)
   exact zay (zac rfl) (hN _ ⟨_,_,_,_,rfl⟩)
 ·rintro ss ⟨v2,v3,v4,v5,rfl⟩
  ((try dsimp only); refine zap ?_)
  exact zaz (zac rfl) rt
theorem zki (g : List Nat) (i : Nat) : (toI g).getD i 0 = ((atG g i : Nat) : Int):=by
 unfold toI atG
 rw [Zg0,Zg8,Zg0]
 cases g[i]? <;> rfl
theorem zkb {as : List Apt} {g : List Nat} : zht as (toI g) = true ↔ zi4 as g:=by
 unfold zht zi4
 rw [Zir]
 refine ⟨fun h a ha z=>?_,fun h a ha=>?_⟩
 ·have:=h a ha
  rw [zki,zki,z] at this
  simp at this
 ·rw [zki,zki,decide_eq_false (fun z=>h a ha (by omega))]; rfl
theorem zzi (g : List Nat) (p : Pr) : zdx (toI g) p = zdb (atG g) p:=by
 unfold zdx zdb
 rw [zki,zki]
 have e : decide (((atG g p.1 : Nat) : Int) = ((atG g p.2.1 : Nat) : Int)) = decide (atG g p.1 = atG g p.2.1):=by rw [Zh8,decide_eq_true_eq,decide_eq_true_eq]; omega
 rw [e]
 by_cases c : decide (atG g p.1 = atG g p.2.1) = decide (0 < p.2.2)
 ·rw [if_pos c,decide_eq_true c]; rfl
 ·rw [if_neg c,decide_eq_false c]; rfl
theorem zxo (f : Pr->Int) (ps : List Pr) : sumL f ps = sumI (ps.map f):=by
 have : ∀ (ps : List Pr) (z : Int),ps.foldl (fun a p=>a + f p) z = z + sumI (ps.map f):=by
  intro ps
  induction ps with
  | nil=>intro z; show z = z + 0; omega
  | cons p ps ih=>intro z; show ps.foldl _ (z + f p) = z + (f p + sumI (ps.map f)); rw [ih]; omega
 have h:=this ps 0
 unfold sumL
 omega
theorem zmb (ps : List Pr) (g : List Nat) : sumL (zdx (toI g)) ps = zbl ps g:=by
 rw [zxo]
 exact zea fun p _=>zzi g p
noncomputable def zry (n : Nat) (ps : List Pr) (as : List Apt) : D:=.tup [.int n,.lst (ps.map encP),.lst (as.map encA)]
noncomputable def preB (ds : List D) : Prop:=∃ (n : Nat) (ps : List Pr) (as : List Apt),ds = [zry n ps as]/\1 <= n/\n <= 7/\ps.length <= 1000/\as.length <= 1000/\ztf n ps as
noncomputable def resB : List D->D
 | [.tup [.int n,.lst ps,.lst as]]=>encG (bestP n.toNat (ps.map unP) (as.map unA))
 | _=>.non
theorem zq7 (n : Nat) (ps : List Pr) (as : List Apt) : resB [zry n ps as] = encG (bestP n ps as):=by
 show encG (bestP (n : Int).toNat ((ps.map encP).map unP) ((as.map encA).map unA)) = _
 rw [zir,zfk]; rfl
noncomputable def lamP : Pos:=⟨69,25,69,96⟩
noncomputable abbrev lamQ : Str := "best_in_part.<locals>.<lambda>"
theorem zkg {T0 : Addr} (Z : Tx K mg ad0) (Y : LamAt base mg ad0.Zab T0) : FnOk P w K mg base CX0 4 ad0.Zaz ad0.Zab zcn (SpDT K T0 lamP lamQ preB resB):=by
 have Zgw:=zxf (P:=P) (w:=w) (base:=base) Z
 have Zdq:=zic (P:=P) (w:=w) (base:=base) Z
 have Zfd:=zj2 (P:=P) (w:=w) (base:=base) Z
 obtain ⟨c0,hc0,hC1⟩:=Y.ex
 refine Z.Za1.F.okC zfw (fun vs H Q E h=>zqm (n:=1) (by rintro ds ⟨a,b,c,rfl,_⟩; rfl) h) (fun cdv A outer s H vs Q E hcd hr h=>?_)
 have hC0 : cdv = .ref c0:=hcd.symm.trans hc0
 refine ⟨_,(zad (zjg (i:=1) zfw.nd rfl (Zko rfl) rfl (LcOk.of (Nx:=(["case", "kept"] : List Str)) (sc:=zag zcm) (N':=(["grouping", "case"] : List Str)) (nt:=1) (cs:=[0]) rfl rfl (by decide +kernel)) (zbb (pcX Zfd hr Z.Zb2 (zab (zbs (show IxR _ (rIxT K) from zbz) (pv 0) zal (fun _ _=>rfl)) zae))) (fun _ _ _ _=>(zbk (i:=0) (show Ziv (["grouping", "case"] : List Str) by decide +kernel) rfl (Zko rfl))) (fun _ _ _ _=>(zgt (zen (pcX Zgw hr Z.Zeo (zab (zbs (show IxR _ (rIxT K) from zbz) (pv 1) zal (fun _ _=>rfl)) (zab (pv 0) zae)))))) (fun _ _ _ _=>(pv 0)))
   (zah (zav (zt7 (x:="grouping") (y:="case") (i:=0) (q:="best_in_part.<locals>.<lambda>") rfl hr (by rfl) Z.Zez (pv 1) hC1 Y.bt hC0 rfl rfl (by rfl) (fun _ _ _ _ _=>rfl) (by rfl) (by rfl) (by decide +kernel) (zxt (by rfl)) rfl rfl rfl rfl (fun cc hcc=>zy3 (by rfl) hcc) (fun _ _ _ _ _ hr=>(zbc (zab (pcX Zdq hr Z.Zcd (zab (zbs (show IxR _ (rIxT K) from zbz) (pv 1) zal (fun _ _=>rfl)) (zab (pv 0) zae))) (zab (zru zlf (zaw (show zcy _ _ (yb5 K) from zwq rfl) (by rfl) Z.Zed Zs8 (zab (pv 0) zae))) (zab (pv 0) zae))))))))),?_⟩
 refine ybz h (by rw [zqm (n:=1) (by rintro ds ⟨a,b,c,rfl,_⟩; rfl) h]; decide) fun G ds hT hp rt=>?_
 obtain ⟨n,ps,as,rfl,hn1,hn7,hpl,hal,hg⟩:=hp
 rw [zq7] at rt
 have fl:=zt6 n hn7
 have lenI : ∀ {g : List Nat},g∈rgs n->(toI g).length = n:=fun h=>by unfold toI; rw [Zg2,zhf h]
 refine zai (zc0 (ds:=((rgs n).filter fun g=>zht as (toI g)).map encG) (zhe (rgs n) encG (fun g=>zht as (toI g)) encG (Ev.l (zcb (pre:=yed) (res:=ye7) (zaa (zbd (d:=.int n) (zac rfl) zak.b rfl) zaf) ⟨n,rfl,hn7⟩)) (zbq (by decide)) (by decide) (by rw [Zhm]; omega) fun g hgm=>⟨_,zao,?_,fun _=>zac rfl⟩) fun p=>?_)
 ·have e:=znl as (toI g)
  rw [<- zbv] at e
  refine zie (by rw [<- e]; exact zcb (pre:=yfk) (res:=yca) (zaa (zbd (zac rfl) zak.b rfl) (zaa (zac rfl) zaf)) ⟨as,toI g,by rw [<- zbv],fun a ha=>by rw [lenI hgm]; exact ⟨(hg.2 a ha).1,(hg.2 a ha).2.1⟩,hal⟩)
 ((try dsimp only); refine zap ?_)
 have mem : ∀ {g : List Nat},g∈(rgs n).filter (fun g=>zht as (toI g))->g∈rgs n/\zi4 as g:=fun h=>⟨(Zhh.mp h).1,zkb.mp (Zhh.mp h).2⟩
 have kk : ∀ g : List Nat,zbl ps g::(-((ngF g : Int) - 1))::toI g = keyG ps g:=fun g=>by unfold keyG; rw [show -((ngF g : Int) - 1) = 1 - (ngF g : Int) by omega]
 refine zaz (zwi encG ((rgs n).filter fun g=>zht as (toI g)) (fun g=>(zbl ps g,-((ngF g : Int) - 1),toI g)) n (zl5 rfl) rfl hT ?_ (fun g hgm=>lenI (mem hgm).1) (fun F H g hgm=>?_) (fun g hgm hmin=>?_)) rt
 ·exact Zrv (Zhh.mpr ⟨zqh n,zkb.mpr (zq2 hg.2)⟩)
 ·obtain ⟨h1,h2⟩:=mem hgm
  have e:=zfi ps (toI g)
  rw [<- zbv,zmb] at e
  have hmx : (ngF g : Int) - 1∈toI g /\ ∀ n∈toI g,n <= (ngF g : Int) - 1:=by
   rcases ybn g with ⟨z,_⟩ | z
   ·have:=lenI h1
    rw [z] at this
    simp at this; omega
   ·exact z
  refine zbo (zaa (by rw [<- e]; exact zcb (pre:=zxw) (res:=zke) (zaa (zbd (zac rfl) zak.b rfl) (zaa (zac rfl) zaf)) ⟨ps,toI g,by rw [<- zbv],fun p hp=>by rw [lenI h1]; exact hg.1 p hp,hpl⟩) (zaa (zlk (yc8 (ns:=toI g) (by rw [<- zbv]; exact Ev.l (zac rfl)) hmx.1 hmx.2).b) (zaa (by rw [<- zbv]; exact zac rfl) zaf))) (small (by simp))
 ·obtain ⟨h1,h2⟩:=mem hgm
  congr 1
  refine (zyw ⟨h1,h2,fun h hh hk=>?_⟩).symm
  have:=hmin h (Zhh.mpr ⟨hh,zkb.mpr hk⟩)
  rw [kk,kk] at this
  exact this
theorem zct (a b : Apt) (h : encA a = encA b) : a = b:=by
 unfold encA at h
 injection h with h
 injection h with h1 h
 injection h with h2 _
 injection h1 with h1
 injection h2 with h2
 exact Zv9 (by omega) (by omega)
noncomputable def ydt (ds : List D) : Prop:=∃ ls : List Apt,ds = [.lst (ls.map encA)]/\ls.length <= 1000
noncomputable def zyk : List D->List D
 | [.lst ls]=>(numF (ls.map unA)).map encN
 | _=>[]
theorem yfa {β : Type} [DecidableEq β] (ls : List β) : (dd ls).length <= ls.length:=by
 induction ls using zg2 with
 | h0=>exact Zha _
 | hs ls x ih =>
  rw [Zhg]
  by_cases h : x∈ls
  ·rw [zgx h]; omega
  ·rw [zd6 h,Zhg]; exact Zrh ih _
theorem zi3 (Z : Tx K mg ad0) : FnOk P w K mg base CX0 1 ad0.Zat ad0.Zar zce (SpO K ydt zyk):=by
 refine okO Z.Zbi.F zcs (by rintro ds ⟨c,rfl,_⟩; rfl) fun cdv A outer s H Q E hr=>⟨_,(zad (psn 1 zcs.nd zjc)
   (zad (psn 2 zcs.nd (zbn zae))
   (zad (zb6 Zhy rfl (zbb (pv 0)) (pgn 3 zcs.nd) (zad (zcf (zkw (zfz (zbw hr) (pv 3) (pv 1)) (by with_unfolding_all rfl)) (zah (zfh (zbw hr) (pv 1) (pv 3) (zaw (show zcy _ _ yb3 from zvd) (by rfl) Z.Zb0 Zmt (zab (pv 1) zae)) rfl)) za0)
   (zah (zdy (zf6 Zh7 Zi0 Zi7 zcd (pv 2) (zab (zdi (zbw hr) (pv 1) (pv 3) (fun _ _=>rfl)) zae))))))
   (zah (zav (pv 2)))))),fun G ds hp rt=>?_⟩
 obtain ⟨ls,rfl,hl⟩:=hp
 have e0 : zyk [.lst (ls.map encA)] = (numF ls).map encN:=by show (numF ((ls.map encA).map unA)).map encN = _; rw [zfk]
 rw [e0] at rt
 let kv (l : List Apt) : DD:=dA encA encN (dd l) (ixo (dd l))
 have kvl : ∀ l : List Apt,(kv l).length = (dd l).length:=fun l=>by show (dA _ _ _ _).length = _; unfold dA; rw [Zg2]
 refine zai (zi9 fun p=>?_)
 ((try dsimp only); refine zap ?_)
 refine zai (zc0 (za4 zaf (small (by decide))) fun q=>?_)
 ((try dsimp only); refine zap ?_)
 refine zai (zeq encA ls (fun k ss=>∃ v3 : Sl,ss = [.d (.lst (ls.map encA)),dslT K p (kv (ls.take k)),.o q ((numF (ls.take k)).map encN),v3]) (zac rfl) ⟨.un,rfl⟩ ?_ ?_)
 ·rintro L' k x ss hL hk ⟨v3,rfl⟩
  refine ⟨_,zao,fun N hN=>?_⟩
  have et : ls.take (k + 1) = ls.take k++[x]:=by rw [Zh0,hk]; rfl
  have ltk : (ls.take k).length <= 1000:=by rw [Zim]; omega
  generalize ls.take k = lk at et ltk
  have hz : (kv lk).length < sizeLine:=by rw [kvl,Zhm]; have:=yfa lk; omega
  have vx : (valD (kv lk) (encA x)).isSome = decide (x∈lk):=by
   by_cases h : x∈lk
   ·rw [show valD (kv lk) (encA x) = _ from zed zct ((zef lk).mpr h),decide_eq_true h]; rfl
   ·rw [show valD (kv lk) (encA x) = _ from zmx zct (fun z=>h ((zef lk).mp z)),decide_eq_false h]; rfl
  refine zig (fun ss=>ss = [.d (.lst (ls.map encA)),dslT K p (kv (lk++[x])),.o q ((numF lk).map encN),.d (encA x)]) (fun N' hN'=>zbr (b:=!decide (x∈lk)) (by rw [<- vx]; exact zie (zr0 (ds:=[.int x.1,.int x.2]) rfl (zac rfl) rfl rfl)) (fun hb=>?_) (fun hb=>?_)) ?_
  ·have h : x ∉ lk:=by simpa using hb
   have hd : x ∉ dd lk:=fun z=>h ((zef lk).mp z)
   refine zia (ds:=[.int x.1,.int x.2]) rfl (yak rfl) (zac rfl) rfl rfl hz (hN' _ ?_)
   have e : putD (kv lk) (encA x) (.int (kv lk).length) = kv (lk++[x]):=by
    show putD (dA encA encN (dd lk) (ixo (dd lk))) (encA x) (encN (kv lk).length) = dA encA encN (dd (lk++[x])) (ixo (dd (lk++[x])))
    rw [zd6 h,kvl]
    have e1 : dA encA encN (dd lk) (ixo (dd lk)) = dA encA encN (dd lk) (ixo (dd lk++[x])):=zy6 fun y hy=>(yeg hy).symm
    rw [e1]
    have e2 : (dd lk).length = ixo (dd lk++[x]) x:=by rw [zq9,yav hd]
    rw [e2]
    exact zgk (f:=(ixo (dd lk++[x]))) zct hd
   rw [<- e]; rfl
  ·have h : x∈lk:=by simpa using hb
   refine za2 (hN' _ ?_)
   have e : kv lk = kv (lk++[x]):=by show dA _ _ (dd lk) (ixo (dd lk)) = dA _ _ (dd (lk++[x])) (ixo (dd (lk++[x]))); rw [zgx h]
   rw [e]; rfl
  ·rintro ss rfl
   have hm : x∈dd (lk++[x]):=(zef _).mpr (by simp)
   refine zc5 (d:=encN (ixo (dd (lk++[x])) x)) rfl (zx0 (ds:=[.int x.1,.int x.2]) rfl (zac rfl) rfl rfl (zed zct hm)) (by rw [Zg2,zl8,Zhm]; omega) (hN _ ⟨.d (encA x),?_⟩)
   rw [et,zst,Zhj]
   have : ixo (dd (lk++[x])) x = ixo (dd lk) x:=by
    by_cases h : x∈lk
    ·rw [zgx h]
    ·rw [zd6 h,zq9]
   rw [this]; rfl
 ·rintro ss ⟨v3,rfl⟩
  rw [Zig]
  ((try dsimp only); refine zap ?_)
  exact yba rfl rt
theorem ya2 (ls : List Apt) : ∀ l∈ls,ufF ls l.1 = ufF ls l.2:=by
 induction ls using zg2 with
 | h0=>intro l h; simp at h
 | hs ls z ih =>
  intro l hl
  rw [zq5]
  unfold ufS
  rw [zxn (x:=z.1) (y:=z.2) (yf7 _ _)]
  rcases Zhe.mp hl with h | h
  ·exact .inl (ih l h)
  ·rw [Zg3.mp h]
   exact .inr ⟨.inl rfl,.inr rfl⟩
theorem zxu (part : List Nat) (ps : List Pr) (as : List Apt) : zoy part ps as = zry part.length (inP part ps) (inA part as):=by
 unfold zoy zry inP inA inB
 rw [Zh5,Zh5]; rfl
theorem zwn {m : Nat} {ps : List Pr} {as : List Apt} (h : zd0 m ps as) : ztf m ps as:=⟨fun p hp=>by have:=h.1 p hp; exact ⟨Zka this.1 this.2.1,this.2.1⟩,fun a ha=>by have:=h.2 a ha; exact ⟨Zka this.1 this.2,this.2,Zht this.1⟩⟩
noncomputable def zdv (m : Nat) (ps : List Pr) (as : List Apt) : List Nat:=znc (ufF (zd8 ps as)) m ps as
theorem zrc {m : Nat} {ps : List Pr} {as : List Apt} (h : zd0 m ps as) : BestOf m ps as (zdv m ps as):=by
 refine zxy (zwn h) fun p hp hw=>?_
 by_cases c : (p.1,p.2.1)∈as
 ·exact .inr c
 ·refine .inl (ya2 _ (p.1,p.2.1) (Zhk.mpr ⟨p,Zhh.mpr ⟨hp,?_⟩,rfl⟩))
  unfold zxl
  rw [decide_eq_true hw,decide_eq_false fun z=>?_]; rfl
  obtain ⟨a,ha,e⟩:=Zhk.mp z
  exact c (zct _ _ e ▸ ha)
noncomputable def fewP (m : Nat) (ps : List Pr) (as : List Apt) : Prop:=∀ p∈zbi (ufF (zd8 ps as)) (Zg4 m),p.length <= 7
noncomputable def yao (ds : List D) : Prop:=∃ (m : Nat) (ps : List Pr) (as : List Apt),ds = [.int m,.lst (ps.map encP),.lst (as.map encA)]/\m <= 100/\ps.length <= 1000/\as.length <= 1000/\zd0 m ps as/\fewP m ps as
noncomputable def zy7 : List D->Int × List D
 | [.int m,.lst ps,.lst as]=>(zbl (ps.map unP) (zdv m.toNat (ps.map unP) (as.map unA)),(zdv m.toNat (ps.map unP) (as.map unA)).map encN)
 | _=>(0,[])
theorem znj (m : Nat) (ps : List Pr) (as : List Apt) : zy7 [.int m,.lst (ps.map encP),.lst (as.map encA)] = (zbl ps (zdv m ps as),(zdv m ps as).map encN):=by
 show (zbl ((ps.map encP).map unP) (zdv (m : Int).toNat ((ps.map encP).map unP) ((as.map encA).map unA)),(zdv (m : Int).toNat ((ps.map encP).map unP) ((as.map encA).map unA)).map encN) = _
 rw [zir,zfk]; rfl
theorem zln {T0 : Addr} (Z : Tx K mg ad0) (Y : LamAt base mg ad0.Zab T0) : FnOk P w K mg base CX0 5 ad0.Zdg ad0.Zdm zf3 (SpPT K T0 lamP lamQ yao zy7):=by
 have Zgk:=zpr (P:=P) (w:=w) (base:=base) Z
 have Zgr:=zsi (P:=P) (w:=w) (base:=base) Z
 have Zfh:=zkg (P:=P) (w:=w) (base:=base) Z Y
 have Ze2:=zi3 (P:=P) (w:=w) (base:=base) Z
 have Zdq:=zic (P:=P) (w:=w) (base:=base) Z
 refine okPT Z.Zc9.F zb3 (by rintro ds ⟨c,d,e,rfl,_⟩; rfl) fun cdv A outer s H Q E hr=>⟨_,(zad (psn 3 zb3.nd (pcX Zgk hr Z.Zdw (zab (pv 0) (zab (pv 1) (zab (pv 2) zae)))))
   (zad (zb6 Zhy rfl (zbb (pv 3)) (pgn 4 zb3.nd) (zah (zcf (zax zoj (zaw zbg (by rfl) Z.Zb0 Zmt (zab (pv 4) zae)) (zcu (by rfl) Z.Zca Z.Zeh) (zau _)) (zah zxc) za0)))
   (zad (zwu (i:=5) zb3.nd rfl (Ztd rfl) zjj)
   (zad (zb6 Zhy rfl (zf9 (by rfl) Z.Zb7 (zab (pv 3) zae)) (zdc rfl (zar (pgn 6 zb3.nd) (zar (pgn 4 zb3.nd) zb5))) (zad (psn 7 zb3.nd (pcX Zfh hr Z.Za1 (zab (pcX Zgr hr Z.Zd7 (zab (pv 4) (zab (pv 1) (zab (pv 2) zae)))) zae)))
   (zah (zb6 Zhy rfl (zj8 (by rfl) Z.Zfp (zab (pv 4) (zab (pv 7) zae))) (zdc rfl (zar (pgn 8 zb3.nd) (zar (pgn 9 zb3.nd) zb5))) (zah (zfh (zbw hr) (pv 5) (pv 8) (zbc (zab (pv 6) (zab (pv 9) zae))) rfl))))))
   (zad (psn 10 zb3.nd (pcX Ze2 hr Z.Zbi (zab (znk rfl (LcOk.of (Nx:=(["many", "pairs", "aparts", "parts", "part", "labels", "place", "groups", "block", "group", "grouping"] : List Str)) (sc:=zag zf8) (N':=(["block", "labels"] : List Str)) (nt:=1) (cs:=[5]) rfl rfl (by decide +kernel)) (zgh (by rfl) Z.Zby (zab (pv 0) zae)) (fun _ _ _ _=>(zbk (i:=0) (show Ziv (["block", "labels"] : List Str) by decide +kernel) rfl (Zko rfl))) (fun _ _ _ _=>zgi) (fun _ _ _ _=>(zdi (zbw hr) (pv 1) (pv 0) (fun _ _=>rfl)))) zae)))
   (zah (zav (zbc (zab (pcX Zdq hr Z.Zcd (zab (pv 1) (zab (pv 10) zae))) (zab (pv 10) zae)))))))))),fun G ds hT hp rt=>?_⟩
 obtain ⟨m,ps,as,rfl,hm,hpl,hal,hg,h7⟩:=hp
 rw [znj] at rt
 have hgB:=zwn hg
 obtain ⟨f,hf⟩ : ∃ f,f = ufF (zd8 ps as):=⟨_,rfl⟩
 have eP : resP [.int m,.lst (ps.map encP),.lst (as.map encA)] = (zbi f (Zg4 m)).map encG:=by rw [zp7]; unfold zg0; rw [<- hf]; rfl
 have h7 : ∀ p∈zbi f (Zg4 m),p.length <= 7:=by rw [hf]; exact h7
 have eb : zdv m ps as = znc f m ps as:=by rw [hf]; rfl
 rw [eb] at rt
 have hpl2 : (zbi f (Zg4 m)).length <= 100:=by have:=zlr (f:=f) (xs:=Zg4 m); rw [Zjd] at this; omega
 have pk : ∀ (k : Nat) part,(zbi f (Zg4 m))[k]? = some part->k < (zbi f (Zg4 m)).length/\part = prt f m k/\part.length <= 7:=fun k part h=>by
  refine ⟨(Zg7.mp h).1,?_,h7 part (Zhb h)⟩
  unfold prt
  rw [Zg0,h]; rfl
 have pP : preP [.int m,.lst (ps.map encP),.lst (as.map encA)]:=⟨m,ps,as,rfl,hm,hpl,hal,hg⟩
 refine zai (zay (d:=.lst ((zbi f (Zg4 m)).map encG)) (EvO.ev (by rw [<- eP]; exact zhm (pre:=preP) (res:=resP) (zaa (zac rfl) (zaa (zac rfl) (zaa (zac rfl) zaf))) pP)) ?_)
 ((try dsimp only); refine zap ?_)
 generalize hpts : zbi f (Zg4 m) = pts at *
 refine zai (zeq encG pts (fun k ss=>∃ v4 : Sl,ss = [.d (.int m),.d (.lst (ps.map encP)),.d (.lst (as.map encA)),.d (.lst (pts.map encG)),v4,.un,.un,.un,.un,.un,.un]) (zac rfl) ⟨.un,rfl⟩ ?_ ?_)
 ·rintro L' k part ss hL hk ⟨v4,rfl⟩
  refine ⟨_,zao,fun N hN=>?_⟩
  have h1:=(pk k part hk).2.2
  have e : decide (((part.map encN).length : Int) > 7) = false:=decide_eq_false (by rw [Zg2]; omega)
  exact zbr (b:=false) (by rw [<- e]; exact zan (znr (zha (Ev.l (zac rfl))).b zak.b)) (fun hb=>by cases hb) (fun _=>za2 (hN _ ⟨_,rfl⟩))
 rintro ss ⟨v4,rfl⟩
 ((try dsimp only); refine zap ?_)
 refine zai (zo5 fun p=>?_)
 ((try dsimp only); refine zap ?_)
 let lab:=labM f m ps as
 refine zai (zox encG pts (fun k ss=>∃ (kvs : DD) (v4 v6 v7 v8 v9 : Sl),ss = [.d (.int m),.d (.lst (ps.map encP)),.d (.lst (as.map encA)),.d (.lst (pts.map encG)),v4,dsl K p kvs,v6,v7,v8,v9,.un]/\(∀ b < m,plc f m b < k->valD kvs (encN b) = some (encA (lab b)))/\kvs.length <= 7 * k) (zac rfl) ⟨[],v4,.un,.un,.un,.un,rfl,fun b _ h=>absurd h (Zi2 _),Zha _⟩ ?_ ?_)
 ·rintro L' k part ss hL hk ⟨kvs,v4,v6,v7,v8,v9,rfl,hv,hl⟩
  refine ⟨_,zdd rfl (zaq zao (zaq zao zb4)),fun N hN=>?_⟩
  obtain ⟨hkl,ep,hp7⟩:=pk k part hk
  have hnd : part.Nodup:=by rw [ep]; exact yfw (by rw [hpts]; exact hkl)
  have hmem : ∀ {b : Nat},b∈part ↔ b < m/\plc f m b = k:=fun {b}=>by rw [ep]; exact ycn (by rw [hpts]; exact hkl)
  have hp1 : 1 <= part.length:=by
   have hm1 : part∈zbi f (Zg4 m):=by rw [hpts]; exact Zhb hk
   unfold zbi at hm1
   obtain ⟨y,hy,e⟩:=Zhk.mp hm1
   have : y∈part:=by rw [<- e]; exact Zhh.mpr ⟨zh6 hy,decide_eq_true rfl⟩
   exact List.length_pos_of_mem this
  have eC:=zqi part ps as
  rw [zxu] at eC
  have eB:=zq7 part.length (inP part ps) (inA part as)
  have pC : preC [.lst (part.map encN),.lst (ps.map encP),.lst (as.map encA)]:=⟨part,ps,as,rfl,hnd,by omega,hpl,hal⟩
  have pB : preB [zry part.length (inP part ps) (inA part as)]:=⟨_,_,_,rfl,hp1,hp7,by unfold inP; rw [Zg2]; exact Zh1 (Ziu _ _) hpl,by unfold inA; rw [Zg2]; exact Zh1 (Ziu _ _) hal,zpf hgB part⟩
  have hgl : (bestP part.length (inP part ps) (inA part as)).length = part.length:=zhf (zqf (zpf hgB _).2).rg
  have hgr : grsM f m ps as k = bestP part.length (inP part ps) (inA part as):=by unfold grsM; rw [<- ep]
  refine zai (zay (d:=encG (bestP part.length (inP part ps) (inA part as))) (by rw [<- eB]; exact zx2 hT (zaa (by rw [<- eC]; exact zcb (pre:=preC) (res:=resC) (zaa (zac rfl) (zaa (zac rfl) (zaa (zac rfl) zaf))) pC) zaf) pB) ?_)
  ((try dsimp only); refine zap ?_)
  generalize bestP part.length (inP part ps) (inA part as) = gs at *
  refine yd2 encN encN part gs (fun t ss=>∃ (kvs : DD) (v8 v9 : Sl),ss = [.d (.int m),.d (.lst (ps.map encP)),.d (.lst (as.map encA)),.d (.lst (pts.map encG)),.d (encG part),dsl K p kvs,.d (.int k),.d (encG gs),v8,v9,.un]/\(∀ b < m,plc f m b < k->valD kvs (encN b) = some (encA (lab b)))/\(∀ b∈part.take t,valD kvs (encN b) = some (encA (lab b)))/\kvs.length <= 7 * k + t) (zac rfl) (zac rfl) hgl.symm ⟨kvs,v8,v9,rfl,hv,fun b hb=>by simp at hb,hl⟩ ?_ ?_
  ·rintro L2 t x y ss hL2 hx hy ⟨kvs,v8,v9,rfl,hv,hv2,hl⟩
   refine ⟨_,zdd rfl (zaq zao (zaq zao zb4)),fun N2 hN2=>?_⟩
   have hxm:=hmem.mp (Zhb hx)
   have ht:=(Zg7.mp hx).1
   have hlab : encA (lab x) = .tup [.int k,.int y]:=by
    show encA (labG (plc f m) (prt f m) (grsM f m ps as) x) = _
    unfold labG
    rw [hxm.2,hgr,<- ep,zuo hnd hx]
    unfold atG encA
    rw [Zg0,hy]; rfl
   refine zm6 (i:=5) (d:=.tup [.int k,.int y]) (k:=encN x) rfl (zbo (zaa (zac rfl) (zaa (zac rfl) zaf)) (small (by simp))) (zac rfl).b rfl (by rw [Zhm]; omega) (hN2 _ ⟨putD kvs (encN x) (.tup [.int k,.int y]),.d (encN x),.d (encN y),rfl,fun b hb hpb=>?_,fun b hb=>?_,?_⟩)
   ·rw [zrd,if_neg fun z=>by have:=zbt _ _ z; subst this; omega]
    exact hv b hb hpb
   ·rw [zrd]
    by_cases c : encN b = encN x
    ·rw [if_pos c,zbt _ _ c,hlab]
    ·rw [if_neg c]
     rw [Zh0,hx] at hb
     rcases Zhe.mp hb with h | h
     ·exact hv2 b h
     ·exact absurd (by rw [show b = x by simpa using h]) c
   ·have:=zzc kvs (encN x) (.tup [.int k,.int y]); omega
  ·rintro ss ⟨kvs,v8,v9,rfl,hv,hv2,hl⟩
   rw [Zig] at hv2
   refine hN _ ⟨kvs,_,_,_,v8,v9,rfl,fun b hb hpb=>?_,by omega⟩
   by_cases c : plc f m b < k
   ·exact hv b hb c
   ·exact hv2 b (hmem.mpr ⟨hb,by omega⟩)
 rintro ss ⟨kvs,v4,v6,v7,v8,v9,rfl,hv,hl⟩
 ((try dsimp only); refine zap ?_)
 have hv : ∀ b < m,valD kvs (encN b) = some (encA (lab b)):=fun b hb=>hv b hb (by have:=zzv (f:=f) hb; rw [hpts] at this; exact this)
 have eN : zyk [.lst (((Zg4 m).map lab).map encA)] = (znc f m ps as).map encN:=by
  show (numF ((((Zg4 m).map lab).map encA).map unA)).map encN = _
  rw [zfk]; rfl
 refine zai (zc0 (ds:=(znc f m ps as).map encN) (by
  rw [<- eN]
  refine zhm (pre:=ydt) (res:=zyk) (zaa (EvO.ev ?_) zaf) ⟨(Zg4 m).map lab,rfl,by rw [Zg2,Zjd]; omega⟩
  have:=zkc (K:=K) (G:=G) (H₀:=H) (L:=G) (ss:=[.d (.int m),.d (.lst (ps.map encP)),.d (.lst (as.map encA)),.d (.lst (pts.map encG)),v4,dsl K p kvs,v6,v7,v8,v9,.un]) (n:=((m : Nat) : Int).toNat) (tt:=zwo) (te:=zvt (tVar 1) (tVar 0)) (g:=zfp 0) (nt:=1) (cs:=[5]) (fun _=>true) (fun b=>encA (lab b)) (zt1 (n:=m) (zd1 (zac (i:=0) rfl).b zhb) ⟨by omega,by omega⟩) (zbq (by decide)) (by decide) (by rw [Zhm]; omega) fun b hb=>⟨_,zao,zji,fun _=>zec (i:=1) (k:=encN b) rfl (zac rfl).b rfl (hv b (by omega))⟩
  rw [Zk8.mpr fun _ _=>rfl,show ((m : Nat) : Int).toNat = m from rfl] at this
  rw [Zh5]
  exact this) fun q=>?_)
 ((try dsimp only); refine zap ?_)
 have hbl : (znc f m ps as).length = m:=by rw [<- eb]; exact zhf (zrc hg).rg
 have eL:=zfi ps (toI (znc f m ps as))
 rw [<- zbv,zmb] at eL
 exact zyy rfl (by
  rw [<- eL]
  exact zyu (pre:=zxw) (res:=zke) (zd1 (zac rfl).b (zd1 (zl5 rfl).b zhb)) ⟨ps,toI (znc f m ps as),by rw [<- zbv],fun p hp=>by unfold toI; rw [Zg2,hbl]; exact hgB.1 p hp,hpl⟩ (by rw [eL]; rfl)) rt
noncomputable def prF (a b : Nat) : Apt:=(min a b,max a b)
noncomputable def zbj (r : List Nat) : List Apt:=(Zg4 (r.length - 1)).map fun k=>prF (r.getD k 0) (r.getD (k + 1) 0)
noncomputable def gapR (r : List Nat) : Apt:=prF (r.getD 0 0) (r.getD (r.length - 1) 0)
noncomputable def zcx (r : List Nat) : Bool:=decide (3 <= r.length) && decide r.Nodup
noncomputable abbrev dAp {β : Type} (encB : β->D) (ks : List Apt) (f : Apt->β) : DD:=dA encA encB ks f
theorem valA {β : Type} [DecidableEq β] (encB : β->D) (ks : List Apt) (f : Apt->β) (a : Apt) : valD (dAp encB ks f) (encA a) = if a∈ks then some (encB (f a)) else none:=by
 by_cases h : a∈ks
 ·rw [if_pos h]; exact zed zct h
 ·rw [if_neg h]; exact zmx zct h
theorem yf2 {β : Type} [DecidableEq β] (encB : β->D) (ks : List Apt) (f : Apt->β) (a : Apt) : (valD (dAp encB ks f) (encA a)).isSome = decide (a∈ks):=by
 rw [valA]
 by_cases h : a∈ks
 ·rw [if_pos h,decide_eq_true h]; rfl
 ·rw [if_neg h,decide_eq_false h]; rfl
noncomputable def wtF (ks : List Apt) (f : Apt->Int) (a : Apt) : Int:=if a∈ks then f a else 0
theorem getA (ks : List Apt) (f : Apt->Int) (a : Apt) : (valD (dAp .int ks f) (encA a)).getD (.int 0) = .int (wtF ks f a):=by
 rw [valA]; unfold wtF
 by_cases h : a∈ks
 ·rw [if_pos h,if_pos h]; rfl
 ·rw [if_neg h,if_neg h]; rfl
theorem yfg {β : Type} (encB : β->D) (ks : List Apt) (f : Apt->β) : ∀ q∈dAp encB ks f,∃ es,q.1 = .tup es /\ ∀ d∈es,d.isInt = true:=fun q hq=>by
 obtain ⟨a,_,rfl⟩:=Zhk.mp hq
 exact ⟨_,rfl,fun d hd=>by simp at hd; rcases hd with rfl | rfl <;> rfl⟩
theorem lenA {β : Type} (encB : β->D) (ks : List Apt) (f : Apt->β) : (dAp encB ks f).length = ks.length:=by unfold dAp dA; rw [Zg2]
theorem atA {β : Type} (encB : β->D) (ks : List Apt) (f : Apt->β) {k : Nat} {a : Apt} (h : ks[k]? = some a) : (dAp encB ks f).getD k (.non,.non) = (encA a,encB (f a)):=by
 unfold dAp dA; rw [Zg0,Zg8,h]; rfl
noncomputable abbrev zih : List Nat:=[104,101,108,100]
noncomputable abbrev zff : List Nat:=[112,97,114,116,101,100]
noncomputable def encC (b : Bool) : D:=.str (if b then zih else zff)
theorem zjw (Z : Tx K mg ad0) : FnOk P w K mg base CX0 1 ad0.Zci ad0.Zcl ze1 (SpD K (fun ds=>∃ i : Int,ds = [.int i]) fun _=>.bl true):=by
 refine okD Z.Zcw.F zo3 (by rintro ds ⟨i,rfl⟩; rfl) fun cdv A outer s H Q E hr=>⟨_,(zah (zav (zfq (zaw zi7 (by rfl) Z.Zaj Zlr (zab (pv 0) (zab (zl7 (v:=.ty "int") (by rfl) Z.Zgb boot_int rfl) zae))) (zg4 (yfv (zaw zfb (by rfl) Z.Zaj Zlr (zab (pv 0) (zab (zl7 (v:=.ty "bool") (by rfl) Z.Ze3 boot_bool rfl) zae)))))))),fun G ds hp rt=>?_⟩
 obtain ⟨i,rfl⟩:=hp
 exact zaz (d:=.bl true) (zgg (ydm (zac rfl).b) fun _=>yd1 (zul (zac rfl).b)) rt
noncomputable def zrf (ds : List D) : Prop:=∃ k m : Nat,ds = [encN k,encN m]
noncomputable def zna : List D->D
 | [k,m]=>.bl (decide (unN k < unN m))
 | _=>.non
theorem zkd (Z : Tx K mg ad0) : FnOk P w K mg base CX0 2 ad0.Zce ad0.Zcs zfd (SpD K zrf zna):=by
 have Zef:=zjw (P:=P) (w:=w) (base:=base) Z
 refine okD Z.Zb3.F zp0 (by rintro ds ⟨i,m,rfl⟩; rfl) fun cdv A outer s H Q E hr=>⟨_,(zah (zav (zfq (pcX Zef hr Z.Zcw (zab (pv 0) zae)) (zg4 (zyp zr5 zoa zal (pv 0) (pv 1)))))),fun G ds hp rt=>?_⟩
 obtain ⟨k,m,rfl⟩:=hp
 have e : zna [encN k,encN m] = .bl (true && (decide ((0 : Int) <= (k : Nat)) && decide (((k : Nat) : Int) < (m : Nat)))):=by
  show D.bl (decide (k < m)) = _
  rw [decide_eq_true (show (0 : Int) <= (k : Nat) by omega),Zkm,Zkm]
  congr 1
  exact decide_eq_decide.mpr (by omega)
 rw [e] at rt
 exact zaz (zgg (zcb (pre:=fun ds=>∃ i : Int,ds = [.int i]) (res:=fun _=>.bl true) (zaa (zac rfl) zaf) ⟨k,rfl⟩) fun _=>zrz zak.b (zac (d:=.int (k : Nat)) rfl).b (zac (d:=.int (m : Nat)) rfl).b) rt
noncomputable def zo4 (ds : List D) : Prop:=∃ a b : Nat,ds = [encN a,encN b]
noncomputable def zo1 : List D->D
 | [a,b]=>encA (prF (unN a) (unN b))
 | _=>.non
theorem ycj {G H₀ L : Hp} {ss : List Sl} {ta tb tc td : TE} {a b : Nat} (e1 : Ev K G H₀ L ss ta (.int (if (b : Int) < (a : Nat) then (b : Int) else (a : Nat)))) (e2 : Ev K G H₀ L ss tb (.int (if (b : Int) > (a : Nat) then (b : Int) else (a : Nat)))) : Ev K G H₀ L ss (tTup (za3 ta (za3 tb tNil))) (encA (prF a b)):=by
 have h1 : (if (b : Int) < (a : Nat) then (b : Int) else (a : Nat)) = ((min a b : Nat) : Int):=by split <;> omega
 have h2 : (if (b : Int) > (a : Nat) then (b : Int) else (a : Nat)) = ((max a b : Nat) : Int):=by split <;> omega
 rw [h1] at e1
 rw [h2] at e2
 exact zbo (zaa e1 (zaa e2 zaf)) (small (by simp))
theorem zll (Z : Tx K mg ad0) : FnOk P w K mg base CX0 1 ad0.Zdo ad0.Zdk zf7 (SpD K zo4 zo1):=by
 refine okD Z.Zdc.F zs4 (by rintro ds ⟨i,m,rfl⟩; rfl) fun cdv A outer s H Q E hr=>⟨_,(zah (zav (zbc (zab (zaw (zns rfl) (by rfl) Z.Zez Zv2 (zab (pv 0) (zab (pv 1) zae))) (zab (zaw (zn8 rfl) (by rfl) Z.Zed Zs8 (zab (pv 0) (zab (pv 1) zae))) zae))))),fun G ds hp rt=>?_⟩
 obtain ⟨a,b,rfl⟩:=hp
 exact zaz (d:=encA (prF a b)) (ycj (tc:=tC .non) (td:=tC .non) (zut (zac (d:=.int (a : Nat)) rfl).b (zac (d:=.int (b : Nat)) rfl).b) (zv7 (zac (d:=.int (a : Nat)) rfl).b (zac (d:=.int (b : Nat)) rfl).b)) rt
theorem yf9 {r : List Nat} : metN (toI r) = r.length ↔ r.Nodup:=by
 have : (toI r).length = r.length:=by unfold toI; rw [Zg2]
 rw [<- this,ybq]
 unfold toI
 exact ⟨fun h=>(Zm4.mp h).imp fun h z=>h (by rw [z]),fun h=>Zm4.mpr (h.imp fun h z=>h (by omega))⟩
theorem yay {G H₀ L : Hp} {ss : List Sl} {i : Nat} {r : List Nat} (h : ss[i]? = some (.d (.lst (r.map encN)))) (hl : r.length <= 1000) : Ev K G H₀ L ss (tCB zyv (za3 (tCB (zye K) (za3 (tVar i) tNil)) tNil)) (.int (metN (toI r))) :=
 zsh (ns:=toI r) (by rw [<- zbv]; exact (zac h).l) (by unfold toI; rw [Zg2]; exact hl)
noncomputable def zpj (ds : List D) : Prop:=∃ (r : List Nat) (m : Nat),ds = [.lst (r.map encN),encN m]/\r.length <= 1000
noncomputable def zkf : List D->D
 | [.lst r,m]=>.bl (zcx (r.map unN) && (r.map unN).all fun k=>decide (k < unN m))
 | _=>.non
theorem zlh (Z : Tx K mg ad0) : FnOk P w K mg base CX0 3 ad0.Zdr ad0.Zde zft (SpD K zpj zkf):=by
 have Zdu:=zkd (P:=P) (w:=w) (base:=base) Z
 refine okD Z.Zdb.F zrv (by rintro ds ⟨i,m,rfl,_⟩; rfl) fun cdv A outer s H Q E hr=>⟨_,(zah (zav (zfq (zbe ycw (zaw zbg (by rfl) Z.Zb0 Zmt (zab (pv 0) zae)) zal (zau _)) (zfq (zbe zet (zaw (show zcy _ _ zyv from ztr) (by rfl) Z.Zb0 Zmt (zab (zdr (show zcy _ _ (zye K) from zww rfl) (by rfl) Z.Zgi boot_set (zab (pv 0) zae)) zae)) (zaw zbg (by rfl) Z.Zb0 Zmt (zab (pv 0) zae)) (zau _)) (zg4 (zaw (zjd rfl) (by rfl) Z.Zep Zs9 (zab (znk rfl (LcOk.of (Nx:=(["ring", "many"] : List Str)) (sc:=zag zfx) (N':=(["block", "many"] : List Str)) (nt:=1) (cs:=[1]) rfl rfl (by decide +kernel)) (zbb (pv 0)) (fun _ _ _ _=>(zbk (i:=0) (show Ziv (["block", "many"] : List Str) by decide +kernel) rfl (Zko rfl))) (fun _ _ _ _=>zgi) (fun _ _ _ _=>(pcX Zdu hr Z.Zb3 (zab (pv 0) (zab (pv 1) zae))))) zae))))))),fun G ds hp rt=>?_⟩
 obtain ⟨r,m,rfl,hl⟩:=hp
 have ll : ((r.map encN).length : Int) = r.length:=by rw [Zg2]
 have e : zkf [.lst (r.map encN),encN m] = .bl (decide (((r.map encN).length : Int) ≥ 3) && (decide (((metN (toI r) : Nat) : Int) = ((r.map encN).length : Int)) && r.all fun k=>decide (k < m))):=by
  show D.bl (zcx ((r.map encN).map unN) && ((r.map encN).map unN).all fun k=>decide (k < m)) = _
  rw [zim]
  unfold zcx
  rw [Zs5]
  congr 2
  ·exact decide_eq_decide.mpr (by rw [ll]; omega)
  ·congr 1
   refine decide_eq_decide.mpr ?_
   rw [<- yf9 (r:=r),Zg2]
   omega
 rw [e] at rt
 refine zaz (zgg (ycs (zha (zac rfl).l).b zak.b) fun _=>zgg (ze8 (yay rfl hl).b (zha (zac rfl).l).b) fun _=>zma (xs:=r) (g:=fun k=>decide (k < m)) (EvO.l (zp4 r encN (fun k=>.bl (decide (k < m))) (zac rfl).l (zbq (by decide)) (by decide) (by rw [Zhm]; omega) fun k hk=>⟨_,zao,?_⟩))) rt
 exact zcb (pre:=zrf) (res:=zna) (zaa (zac rfl) (zaa (zac rfl) zaf)) ⟨k,m,rfl⟩
noncomputable def zxz (ds : List D) : Prop:=∃ (r : List Nat),ds = [.lst (r.map encN)]/\r.length <= 1000
noncomputable def zp5 : List D->List D
 | [.lst r]=>(zbj (r.map unN)).map encA
 | _=>[]
theorem zhl (r : List Nat) : zp5 [.lst (r.map encN)] = (zbj r).map encA:=by show (zbj ((r.map encN).map unN)).map encA = _; rw [zim]
theorem getN (r : List Nat) (k : Nat) (h : k < r.length) : (r.map encN).getD k .non = encN (r.getD k 0):=by
 rw [Zg0,Zg0,Zg8,Zg1 h]; rfl
theorem zhj (Z : Tx K mg ad0) : FnOk P w K mg base CX0 2 ad0.Zcn ad0.Zco zfe (SpO K zxz zp5):=by
 have Zen:=zll (P:=P) (w:=w) (base:=base) Z
 refine okO Z.Zb1.F zpi (by rintro ds ⟨i,rfl,_⟩; rfl) fun cdv A outer s H Q E hr=>⟨_,(zah (zav (znk rfl (LcOk.of (Nx:=(["ring"] : List Str)) (sc:=zag ze0) (N':=(["one", "other"] : List Str)) (nt:=2) (cs:=[]) rfl rfl (by decide +kernel)) (zj8 (by rfl) Z.Zfp (zab (pv 0) (zab (zx1 ya0 (pv 0) (yaw zal) ycx) zae))) (fun _ _ _ _=>(show PG _ _ (gTup K 2 _) from zdc rfl (zar (zbk (i:=0) (show Ziv (["one", "other"] : List Str) by decide +kernel) rfl (Zko rfl)) (zar (zbk (i:=1) (show Ziv (["one", "other"] : List Str) by decide +kernel) rfl (Zko rfl)) zb5)))) (fun _ _ _ _=>zgi) (fun _ _ _ _=>(pcX Zen hr Z.Zdc (zab (pv 0) (zab (pv 1) zae))))))),fun G ds hp rt=>?_⟩
 obtain ⟨r,rfl,hl⟩:=hp
 rw [zhl] at rt
 have hsl : cutD (r.map encN) (some 1) none = (r.drop 1).map encN:=by rw [zt0 _ (by decide),List.map_drop]; rfl
 have e : (zbj r).map encA = ((Zg4 (min (r.map encN).length ((r.drop 1).map encN).length)).filter fun _=>true).map fun k=>encA (prF (r.getD k 0) (r.getD (k + 1) 0)):=by
  unfold zbj
  rw [Zh5,Zk8.mpr (fun _ _=>rfl),Zg2,Zg2,Zl1,show min r.length (r.length - 1) = r.length - 1 by omega]
  rfl
 rw [e] at rt
 refine zkx (zkc (fun _=>true) (fun k=>encA (prF (r.getD k 0) (r.getD (k + 1) 0))) (EvF.evi (yc7 (ds:=r.map encN) (es:=(r.drop 1).map encN) (zac rfl) (EvO.ev (by rw [<- hsl]; exact ycu (zac rfl).l (zx6 zak.b) ydu)))) (zlj (zb7 (zbq (by decide)) (zb7 (zbq (by decide)) zil))) (by decide) (by rw [Zhm]; simp; omega) fun k hk=>?_) rt
 rw [Zg2,Zg2,Zl1] at hk
 have h1:=getN r k (by omega)
 have h2 : ((r.drop 1).map encN).getD k .non = encN (r.getD (k + 1) 0):=by
  rw [Zg0,Zg0,Zg8,Zoi,Nat.add_comm 1 k,Zg1 (by omega)]; rfl
 rw [h1,h2]
 exact ⟨_,zdd rfl (zaq zao (zaq zao zb4)),zji,fun _=>zcb (pre:=zo4) (res:=zo1) (zaa (zac rfl) (zaa (zac rfl) zaf)) ⟨_,_,rfl⟩⟩
noncomputable def zqz (ds : List D) : Prop:=∃ (r : List Nat),ds = [.lst (r.map encN)]/\r≠[]
noncomputable def zoo : List D->D
 | [.lst r]=>encA (gapR (r.map unN))
 | _=>.non
theorem zid (r : List Nat) : zoo [.lst (r.map encN)] = encA (gapR r):=by show encA (gapR ((r.map encN).map unN)) = _; rw [zim]
theorem yc3 {α : Type} {xs : List α} {v : α} (h : xs[xs.length - 1]? = some v) (hn : xs≠[]) : atI xs (-1) = some v:=by
 have hl : 0 < xs.length:=Zmk.mpr hn
 have h2 : ixN xs.length (-1) = some (xs.length - 1):=by
  unfold ixN
  split <;> rename_i z <;> first | omega | skip
  all_goals (split <;> first | omega | (congr 1; omega))
 unfold atI
 rw [h2]; exact h
theorem zj0 (Z : Tx K mg ad0) : FnOk P w K mg base CX0 2 ad0.Zd4 ad0.Zd0 zhz (SpD K zqz zoo):=by
 have Zen:=zll (P:=P) (w:=w) (base:=base) Z
 refine okD Z.Zc3.F zwz (by rintro ds ⟨i,rfl,_⟩; rfl) fun cdv A outer s H Q E hr=>⟨_,(zah (zav (pcX Zen hr Z.Zdc (zab (zbs (show IxR _ (rIxL K) from zcv) (pv 0) zal (fun _ _=>rfl)) (zab (zbs (show IxR _ (rIxL K) from zcv) (pv 0) (zru zlf zal) (fun _ _=>rfl)) zae))))),fun G ds hp rt=>?_⟩
 obtain ⟨r,rfl,hn⟩:=hp
 have hl : 0 < r.length:=Zmk.mpr hn
 rw [zid] at rt
 have h0 : atI (r.map encN) 0 = some (encN (r.getD 0 0)):=zpo (j:=0) (by rw [Zg8,Zg0,Zg1 hl]; rfl)
 have h1 : atI (r.map encN) (-1) = some (encN (r.getD (r.length - 1) 0)):=yc3 (by rw [Zg2,Zg8,Zg0,Zg1 (by omega)]; rfl) (by simpa using hn)
 exact zaz (zcb (pre:=zo4) (res:=zo1) (zaa (zho (zac rfl).l zak.b h0) (zaa (zho (zac rfl).l (zlk (i:=1) zak.b).b h1) zaf)) ⟨_,_,rfl⟩) rt
noncomputable abbrev Dec:=List Apt × (Apt->Bool)
noncomputable abbrev Wts:=List Apt × (Apt->Int)
noncomputable def decD (x : Dec) : D:=D.dicT (dAp encC x.1 x.2)
noncomputable def wtsD (y : Wts) : D:=D.dicT (dAp .int y.1 y.2)
noncomputable def zch (x : Dec) (a : Apt) : Bool:=decide (a∈x.1) && x.2 a
noncomputable def zc8 (x : Dec) (a : Apt) : Bool:=decide (a∈x.1) && !x.2 a
theorem ybd (x : Dec) (a : Apt) : decide ((valD (dAp encC x.1 x.2) (encA a)).getD .non = .str zff) = zc8 x a:=by
 unfold zc8
 rw [valA]
 by_cases h : a∈x.1
 ·rw [if_pos h,decide_eq_true h,Zkm]
  show decide (encC (x.2 a) = .str zff) = _
  cases x.2 a
  ·exact decide_eq_true rfl
  ·exact decide_eq_false (by intro z; injection z with z; exact absurd z (by decide))
 ·rw [if_neg h,decide_eq_false h,Zn1]
  exact decide_eq_false (by intro z; cases z)
theorem getC (x : Dec) (a : Apt) : (valD (dAp encC x.1 x.2) (encA a)).getD .non = .non \/ ∃ m,(valD (dAp encC x.1 x.2) (encA a)).getD .non = .str m:=by
 rw [valA]
 by_cases h : a∈x.1
 ·rw [if_pos h]; exact .inr ⟨_,rfl⟩
 ·rw [if_neg h]; exact .inl rfl
section
variable {G H₀ L : Hp} {ss : List Sl} {td ty : TE} {a : Apt}
theorem zp3 (x : Dec) (e1 : Ev K G H₀ L ss td (decD x)) (e2 : Ev K G H₀ L ss ty (encA a)) : Ev K G H₀ L ss (tOp rEq (zrp td ty) (tC (.str (T zff)))) (.bl (zc8 x a)):=by
 rw [<- ybd]
 exact zu7 (zli e1 e2 rfl rfl) (getC x a) (zgo (d:=.str zff) fun H=>Rep.str (by decide)).b
theorem zh3 (x : Dec) (e1 : Ev K G H₀ L ss td (decD x)) (e2 : Ev K G H₀ L ss ty (encA a)) : Ev K G H₀ L ss (zl6 ty td) (.bl (!decide (a∈x.1))):=by
 rw [<- yf2 encC x.1 x.2]
 exact zpl e1 e2 rfl rfl
theorem ybk (y : Wts) (e1 : Ev K G H₀ L ss td (wtsD y)) (e2 : Ev K G H₀ L ss ty (encA a)) : Ev K G H₀ L ss (zrk td ty (tC (.int 0))) (.int (wtF y.1 y.2 a)):=by
 rw [<- getA]
 exact zsa e1 e2 zak rfl rfl
end
theorem zng {G H₀ L : Hp} {ss : List Sl} {i : Nat} {r : List Nat} {E : XK} (h : ss[i]? = some (.d (.lst (r.map encN)))) (hl : r.length <= 1000) : EvO K G H₀ L ss (zgw (SpO K zxz zp5) [] E (za3 (tVar i) tNil)) ((zbj r).map encA):=by
 rw [<- zhl]
 exact zhm (pre:=zxz) (res:=zp5) (zaa (zac h) zaf) ⟨r,rfl,hl⟩
theorem yaf {G H₀ L : Hp} {ss : List Sl} {i : Nat} {r : List Nat} {E : XK} (h : ss[i]? = some (.d (.lst (r.map encN)))) (hn : r≠[]) : Ev K G H₀ L ss (zgw (SpD K zqz zoo) [] E (za3 (tVar i) tNil)) (encA (gapR r)):=by
 rw [<- zid]
 exact zcb (pre:=zqz) (res:=zoo) (zaa (zac h) zaf) ⟨r,rfl,hn⟩
noncomputable def zb1 (r : List Nat) (x : Dec) : List Apt:=(zbj r++[gapR r]).filter fun a=>!decide (a∈x.1)
noncomputable def ydb (q : List Nat × Dec) (ds : List D) : Prop:=ds = [.lst (q.1.map encN),decD q.2]/\q.1≠[]/\q.1.length <= 1000
noncomputable def ya7 (q : List Nat × Dec) : List D:=(zb1 q.1 q.2).map encA
theorem zhw (r : List Nat) : (zbj r).length = r.length - 1:=by unfold zbj; rw [Zg2,Zjd]
theorem zhq (Z : Tx K mg ad0) : FnOk P w K mg base CX0 3 ad0.Zbu ad0.Zbw zdo (SpGO K ydb ya7):=by
 have Zc1:=zhj (P:=P) (w:=w) (base:=base) Z
 have Zd5:=zj0 (P:=P) (w:=w) (base:=base) Z
 refine okGO Z.Zbk.F zlw (by rintro q ds ⟨rfl,_⟩; rfl) fun cdv A outer s H Q E hr=>⟨_,(zah (zav (znk rfl (LcOk.of (Nx:=(["ring", "decided"] : List Str)) (sc:=zag zds) (N':=(["pair", "decided"] : List Str)) (nt:=1) (cs:=[1]) rfl rfl (by decide +kernel)) (zbb (zby (show OpR _ _ (zmm K) from zis) (pcX Zc1 hr Z.Zb1 (zab (pv 0) zae)) (zbn (zab (pcX Zd5 hr Z.Zc3 (zab (pv 0) zae)) zae)))) (fun _ _ _ _=>(zbk (i:=0) (show Ziv (["pair", "decided"] : List Str) by decide +kernel) rfl (Zko rfl))) (fun _ _ _ _=>(zgt (zkw (zfz (zbw hr) (pv 0) (pv 1)) (by with_unfolding_all rfl)))) (fun _ _ _ _=>(pv 0))))),fun G ds q hp rt=>?_⟩
 obtain ⟨r,x⟩:=q
 obtain ⟨rfl,hn,hl⟩:=hp
 have hl : r.length <= 1000:=hl
 have e : (zbj r++[gapR r]).map encA = zp5 [.lst (r.map encN)]++[encA (gapR r)]:=by rw [zhl,Zhj]; rfl
 have hll : (zp5 [.lst (r.map encN)]).length + 1 <= 1001:=by rw [zhl,Zg2,zhw]; omega
 refine zkx (zhe (zbj r++[gapR r]) encA (fun a=>!decide (a∈x.1)) encA (by
   rw [e]
   refine EvO.l (zkm (EvO.l (zhm (pre:=zxz) (res:=zp5) (zaa (zac rfl) zaf) ⟨r,rfl,hl⟩)) (EvO.l (za4 (zaa ?_ zaf) (small (by simp)))) (by rw [Zhm,Zlw]; omega))
   rw [<- zid]
   exact zcb (pre:=zqz) (res:=zoo) (zaa (zac rfl) zaf) ⟨r,rfl,hn⟩) (zbq (by decide)) (by decide) (by rw [Zhm,Zhg,zhw]; simp; omega)
  fun a ha=>⟨_,zao,zie (zh3 x (zac rfl) (zac rfl)),fun _=>zac rfl⟩) rt
noncomputable def zg5 (x : Dec) (y : Wts) (a : Apt) : Bool:=!(zc8 x a || (!decide (a∈x.1) && decide (wtF y.1 y.2 a <= 0)))
noncomputable def zwh (x : Dec) (y : Wts) (a : Apt) : Bool:=zc8 x a || (!decide (a∈x.1) && decide (wtF y.1 y.2 a < 0))
noncomputable def ze4 (r : List Nat) (m : Nat) (y : Wts) (x : Dec) : Bool:=(zcx r && r.all fun k=>decide (k < m)) && (!decide (zb1 r x = []) && ((zbj r).all (zg5 x y) && zwh x y (gapR r)))
noncomputable def yel (q : List Nat × Nat × Wts × Dec) (ds : List D) : Prop:=ds = [.lst (q.1.map encN),encN q.2.1,wtsD q.2.2.1,decD q.2.2.2]/\q.1.length <= 1000
noncomputable def ydq (q : List Nat × Nat × Wts × Dec) : D:=.bl (ze4 q.1 q.2.1 q.2.2.1 q.2.2.2)
theorem zk0 (r : List Nat) (m : Nat) : zkf [.lst (r.map encN),encN m] = .bl (zcx r && r.all fun k=>decide (k < m)):=by
 show D.bl (zcx ((r.map encN).map unN) && ((r.map encN).map unN).all fun k=>decide (k < m)) = _
 rw [zim]
theorem yb2 {l : List Apt} : decide (D.lst (l.map encA) = .lst []) = decide (l = []):=decide_eq_decide.mpr (by cases l <;> simp)
theorem nbsA (l : List Apt) : (D.lst (l.map encA)).nb = true:=D.nbs_map zps l
theorem depA (l : List Apt) : (D.lst (l.map encA)).dep <= 60:=by
 show D.deps (l.map encA) + 1 <= 60
 have : D.deps (l.map encA) <= 1:=by
  induction l with
  | nil=>exact Zih _
  | cons a l ih=>exact Zqk.mpr ⟨Zha 1,ih⟩
 omega
theorem zn1 (Z : Tx K mg ad0) : FnOk P w K mg base CX0 4 ad0.Zb8 ad0.Zb9 zee (SpG K yel ydq):=by
 have Zem:=zlh (P:=P) (w:=w) (base:=base) Z
 have Zd3:=zhq (P:=P) (w:=w) (base:=base) Z
 have Zc1:=zhj (P:=P) (w:=w) (base:=base) Z
 have Zd5:=zj0 (P:=P) (w:=w) (base:=base) Z
 refine okG Z.Zc8.F zfu (by rintro q ds ⟨rfl,_⟩; rfl) fun cdv A outer s H Q E hr=>⟨_,(zad (zcf (PW.pt (zoc (zg9 (zen (pcX Zem hr Z.Zdb (zab (pv 0) (zab (pv 1) zae))))) (zlm (zax (show OpR _ _ (rEqD K) from yfn hr.units) (pcX Zd3 hr Z.Zbk (zab (pv 0) (zab (pv 3) zae))) (zbn zae) (zau _))))) (zah (zav zi1)) za0)
   (zad (zb6 Zhy rfl (zbb (pcX Zc1 hr Z.Zb1 (zab (pv 0) zae))) (pgn 4 zfu.nd) (zah (zcf (PW.pt (zoc (zax zet (zjs (zbw hr) (pv 3) (pv 4) ⟨by rfl,by rfl,by rfl,by rfl⟩) (zcu (by rfl) Z.Zcc Z.Zd2) (zau _)) (zlm (PW.pt (zlq (zkw (zfz (zbw hr) (pv 4) (pv 3)) (by with_unfolding_all rfl)) (zio (zax zr5 (zjr (zbw hr) (pv 2) (pv 4) zal ⟨by rfl,by rfl,by rfl,by rfl⟩) zal (zau _)))))))) (zah (zav zi1)) za0)))
   (zad (psn 5 zfu.nd (pcX Zd5 hr Z.Zc3 (zab (pv 0) zae)))
   (zah (zav (yfx (zbe zet (zjs (zbw hr) (pv 3) (pv 5) ⟨by rfl,by rfl,by rfl,by rfl⟩) (zcu (by rfl) Z.Zcc Z.Zd2) (zau _)) (zg4 (zfq (zz3 (zfz (zbw hr) (pv 5) (pv 3)) (by with_unfolding_all rfl)) (zg4 (zbe zoa (zjr (zbw hr) (pv 2) (pv 5) zal ⟨by rfl,by rfl,by rfl,by rfl⟩) zal (zau _))))))))))),fun G ds q hp rt=>?_⟩
 obtain ⟨r,m,y,x⟩:=q
 obtain ⟨rfl,hl⟩:=hp
 have hl : r.length <= 1000:=hl
 have rt : RtD K G H Q (.bl (ze4 r m y x)):=rt
 have ring : ∀ {ss' : List Sl} {L : Hp} {E},ss'[0]? = some (.d (.lst (r.map encN)))->ss'[1]? = some (.d (encN m))->Ev K G H L ss' (zgw (SpD K zpj zkf) [] E (za3 (tVar 0) (za3 (tVar 1) tNil))) (.bl (zcx r && r.all fun k=>decide (k < m))):=fun {ss' L E} h0 h1=>by
  rw [<- zk0]
  exact zcb (zaa (zac h0) (zaa (zac h1) zaf)) ⟨r,m,rfl,hl⟩
 have rne : (zcx r && r.all fun k=>decide (k < m)) = true->r≠[]:=fun h z=>by
  subst z; simp [zcx] at h
 refine zai (zbr (ziy (c:=decide (zb1 r x = [])) (zev (zan (ring rfl rfl))) fun hb=>zan (by
  rw [Zjj] at hb
  rw [<- yb2]
  exact yes (EvO.ev (zgu (pre:=ydb) (res:=ya7) (r,x) (zaa (zac rfl) (zaa (zac rfl) zaf)) ⟨rfl,rne hb,hl⟩)).b (EvO.ev (za4 zaf (small (by simp)))).b (nbsA _) rfl (depA _))) (fun hb=>?_) (fun hb=>?_))
 ·refine zaz zmg ?_
  have : ze4 r m y x = false:=by
   unfold ze4
   rw [Zmo,Zin,decide_eq_true_eq] at hb
   rcases hb with hb | hb
   ·rw [hb]; rfl
   ·rw [decide_eq_true hb]; simp
  rw [this] at rt; exact rt
 rw [Zrc,Zjj,decide_eq_false_iff_not] at hb
 obtain ⟨hr1,ho⟩:=hb
 have hrn:=rne hr1
 have e0 : ze4 r m y x = ((zbj r).all (zg5 x y) && zwh x y (gapR r)):=by
  unfold ze4; rw [hr1,decide_eq_false ho]; simp
 rw [e0] at rt
 refine zai (zeq encA (zbj r) (fun k ss=>(∀ a∈(zbj r).take k,zg5 x y a = true) /\ ∃ v4,ss = [.d (.lst (r.map encN)),.d (encN m),.d (wtsD y),.d (decD x),v4,.un]) (EvO.ev (zng rfl hl)) ⟨by simp,.un,rfl⟩ ?_ ?_)
 ·rintro L' k a ss hL hk ⟨hall,v4,rfl⟩
  refine ⟨_,zao,fun N hN=>?_⟩
  refine zbr (ziy (zan (zp3 x (zac rfl) (zac rfl))) fun _=>zif (zie (zh3 x (zac rfl) (zac rfl))) fun _=>zan (zsp (ybk y (zac rfl) (zac rfl)).b zak.b)) (fun hb=>?_) (fun hb=>?_)
  ·refine zaz zmg ?_
   have : (zbj r).all (zg5 x y) = false:=by
    rw [Zr5]
    exact ⟨a,Zhb hk,by unfold zg5; rw [hb]; simp⟩
   rw [this] at rt; exact rt
  ·refine za2 (hN _ ⟨fun b hb'=>?_,.d (encA a),rfl⟩)
   rw [Zh0,hk] at hb'
   rcases Zhe.mp hb' with h | h
   ·exact hall b h
   ·rw [show b = a by simpa using h]; unfold zg5; rw [hb]; rfl
 rintro ss ⟨hall,v4,rfl⟩
 rw [Zig] at hall
 rw [Zir.mpr hall,Zkm] at rt
 ((try dsimp only); refine zap ?_)
 refine zai (zay (yaf rfl hrn) ?_)
 ((try dsimp only); refine zap ?_)
 exact zaz (yeb (zp3 x (zac rfl) (zac rfl)) fun _=>zgg (zh3 x (zac rfl) (zac rfl)) fun _=>zrt (ybk y (zac rfl) (zac rfl)).b zak.b) rt
noncomputable def sumA (f : Apt->Int) (as : List Apt) : Int:=as.foldl (fun s a=>s + f a) 0
theorem zv5 (f : Apt->Int) (as : List Apt) (a : Apt) : sumA f (as++[a]) = sumA f as + f a:=by unfold sumA; rw [Zjt]; rfl
noncomputable def zhd (y : Wts) (x : Dec) (a : Apt) : Int:=if (!decide (x.2 a = decide (wtF y.1 y.2 a > 0))) = true then absI (wtF y.1 y.2 a) else 0
noncomputable def zla (y : Wts) (x : Dec) : Int:=sumA (zhd y x) x.1
noncomputable def yek (q : Wts × Dec) (ds : List D) : Prop:=ds = [wtsD q.1,decD q.2]
noncomputable def yfq (q : Wts × Dec) : D:=.int (zla q.1 q.2)
theorem ybb (b : Bool) : decide ((if b then zih else zff) = zih) = b:=by cases b <;> decide
theorem zj7 (Z : Tx K mg ad0) : FnOk P w K mg base CX0 1 ad0.Za8 ad0.Zax zcl (SpG K yek yfq):=by
 refine okG Z.Zb5.F zbp (by rintro q ds rfl; rfl) fun cdv A outer s H Q E hr=>⟨_,(zad (psn 2 zbp.nd zal)
   (zad (zb6 Zhy rfl (zno (znd (pv 1))) (zdc rfl (zar (pgn 3 zbp.nd) (zar (pgn 4 zbp.nd) zb5))) (zad (psn 5 zbp.nd (zjr (zbw hr) (pv 0) (pv 3) zal ⟨by rfl,by rfl,by rfl,by rfl⟩))
   (zah (zcf (zax zsk (zbe zet (pv 4) (zcu (by rfl) Z.Zel Z.Zfx) (zau _)) (zbe zoj (pv 5) zal (zau _)) (zau _)) (zah (psn 2 zbp.nd (zby zd7 (pv 2) (zaw zjf (by rfl) Z.Zeq Zta (zab (pv 5) zae))))) za0))))
   (zah (zav (pv 2))))),fun G ds q hp rt=>?_⟩
 obtain ⟨y,x⟩:=q
 obtain rfl:=hp
 have rt : RtD K G H Q (.int (zla y x)):=rt
 refine zai (zay zak ?_)
 ((try dsimp only); refine zap ?_)
 refine zai (yah (fun k ss=>∃ v3 v4 v5,ss = [.d (wtsD y),.d (decD x),.d (.int (sumA (zhd y x) (x.1.take k))),v3,v4,v5]) (zon (kvs:=dAp encC x.1 x.2) (zac rfl) (yfg _ _ _)) ⟨.un,.un,.un,rfl⟩ ?_ ?_)
 ·rintro L' k ss hL hk ⟨v3,v4,v5,rfl⟩
  rw [lenA] at hk
  have hka:=Zg1 hk
  generalize x.1[k] = a at hka
  rw [atA encC x.1 x.2 hka]
  refine ⟨_,zdd (ds:=[encA a,encC (x.2 a)]) rfl (zaq zao (zaq zao zb4)),fun N hN=>?_⟩
  have hs : sumA (zhd y x) (x.1.take (k + 1)) = sumA (zhd y x) (x.1.take k) + zhd y x a:=by rw [Zh0,hka]; exact zv5 ..
  refine zai (zay (ybk (a:=a) y (zac rfl) (zac rfl)) ?_)
  ((try dsimp only); refine zap ?_)
  refine zbr (b:=!decide (x.2 a = decide (wtF y.1 y.2 a > 0))) (zan (by
   have h1 : Ev K G H L' ([.d (wtsD y),.d (decD x),.d (.int (sumA (zhd y x) (x.1.take k))),.d (encA a),.d (encC (x.2 a)),.d (.int (wtF y.1 y.2 a))] : List Sl) (tOp rEq (tVar 4) (tC (.str (T zih)))) (.bl (x.2 a)):=by
    have:=zhn (K:=K) (G:=G) (H₀:=H) (L:=L') (ss:=([.d (wtsD y),.d (decD x),.d (.int (sumA (zhd y x) (x.1.take k))),.d (encA a),.d (encC (x.2 a)),.d (.int (wtF y.1 y.2 a))] : List Sl)) (l:=if x.2 a then zih else zff) (m:=zih) (ta:=tVar 4) (tb:=tC (.str (T zih))) (zac rfl).b (zgo (d:=.str zih) fun H=>Rep.str (by decide)).b
    rw [ybb] at this; exact this
   exact zuv h1.b (znr (zac rfl).b zak.b).b)) (fun hq=>?_) (fun hq=>?_)
  ·refine zay (zd9 (zac rfl).b (zmc (zac rfl).b).b) (hN _ ⟨.d (encA a),.d (encC (x.2 a)),.d (.int (wtF y.1 y.2 a)),?_⟩)
   have e0 : zhd y x a = absI (wtF y.1 y.2 a):=by unfold zhd; rw [if_pos hq]
   rw [hs,e0]; rfl
  ·refine za2 (hN _ ⟨.d (encA a),.d (encC (x.2 a)),.d (.int (wtF y.1 y.2 a)),?_⟩)
   have e0 : zhd y x a = 0:=by unfold zhd; rw [if_neg (by rw [hq]; decide)]
   rw [hs,e0,Zu5]; rfl
 rintro ss ⟨v3,v4,v5,rfl⟩
 rw [lenA,Zig]
 ((try dsimp only); refine zap ?_)
 exact zaz (zac rfl) rt
noncomputable abbrev Usd:=List Apt × (Apt->Int)
noncomputable def addU (v : Int) (u : Usd) (a : Apt) : Usd:=(if a∈u.1 then u.1 else u.1++[a],fun b=>if b = a then wtF u.1 u.2 a + v else u.2 b)
theorem yc4 {β : Type} [DecidableEq β] (encB : β->D) (ks : List Apt) (f : Apt->β) {a : Apt} (h : a∈ks) (v : β) : putD (dAp encB ks f) (encA a) (encB v) = dAp encB ks (fun b=>if b = a then v else f b):=by
 unfold putD
 have : ((dAp encB ks f).any fun kv=>decide (kv.1 = encA a)) = true:=by
  rw [Zjx]
  exact ⟨(encA a,encB (f a)),Zhk.mpr ⟨a,h,rfl⟩,by simp⟩
 rw [if_pos this]
 unfold dAp dA
 rw [Zh5]
 refine Zia fun b hb=>?_
 show (if encA b = encA a then (encA b,encB v) else (encA b,encB (f b))) = _
 by_cases hba : b = a
 ·subst hba; simp
 ·rw [if_neg (fun z=>hba (zct _ _ z))]
  show _ = (encA b,encB (if b = a then v else f b))
  rw [if_neg hba]
theorem ztt {β : Type} [DecidableEq β] (encB : β->D) (ks : List Apt) (f : Apt->β) (a : Apt) (v : β) : putD (dAp encB ks f) (encA a) (encB v) = dAp encB (if a∈ks then ks else ks++[a]) (fun b=>if b = a then v else f b):=by
 by_cases h : a∈ks
 ·rw [if_pos h]; exact yc4 encB ks f h v
 ·rw [if_neg h]
  have e : dAp encB ks f = dAp encB ks (fun b=>if b = a then v else f b):=by
   unfold dAp dA
   refine Zia fun b hb=>?_
   show _ = (encA b,encB (if b = a then v else f b))
   rw [if_neg (fun z=>h (by rw [<- z]; exact hb))]
  rw [e]
  have:=zgk (enc:=encA) (encB:=encB) (f:=fun b=>if b = a then v else f b) (x:=a) (xs:=ks) zct h
  rw [if_pos rfl] at this
  exact this
noncomputable abbrev Row:=List Nat × Int
noncomputable def zcp (q : Row) : D:=.tup [.lst (q.1.map encN),.int q.2]
noncomputable def useR (x : Dec) (rows : List Row) : Usd:=rows.foldl (fun u q=>(zb1 q.1 x).foldl (addU q.2) u) ([],fun _=>0)
noncomputable def sumR (rows : List Row) : Int:=rows.foldl (fun s q=>s + q.2) 0
theorem znv (x : Dec) (rows : List Row) (q : Row) : useR x (rows++[q]) = (zb1 q.1 x).foldl (addU q.2) (useR x rows):=by unfold useR; rw [Zjt]; rfl
theorem zw1 (rows : List Row) (q : Row) : sumR (rows++[q]) = sumR rows + q.2:=by unfold sumR; rw [Zjt]; rfl
noncomputable def zod (m : Nat) (y : Wts) (x : Dec) (q : Row) : Bool:=decide (1 <= q.2) && ze4 q.1 m y x
noncomputable def zmu (rows : List Row) (m : Nat) (y : Wts) (x : Dec) (least : Int) : Bool:=rows.all (zod m y x) && (((useR x rows).1.all fun a=>decide ((useR x rows).2 a <= absI (wtF y.1 y.2 a))) && decide (zla y x + sumR rows ≥ least))
theorem zoh (v : Int) : ∀ (as : List Apt) (u : Usd) (b : Apt),b∈(as.foldl (addU v) u).1 ↔ b∈u.1 \/ b∈as
 | [],u,b=>by simp
 | a::as,u,b=>by
  rw [Zks,zoh v as]
  have : b∈(addU v u a).1 ↔ b∈u.1 \/ b = a:=by
   unfold addU
   by_cases h : a∈u.1
   ·rw [if_pos h]
    exact ⟨.inl,fun z=>z.elim id fun z=>by rw [z]; exact h⟩
   ·rw [if_neg h]; simp
  rw [this,Zhp,or_assoc]
theorem zw6 (x : Dec) : ∀ (rows : List Row) (b : Apt),b∈(useR x rows).1 ↔ ∃ q∈rows,b∈zb1 q.1 x:=by
 have : ∀ (rows : List Row) (u : Usd) (b : Apt),b∈(rows.foldl (fun u q=>(zb1 q.1 x).foldl (addU q.2) u) u).1 ↔ b∈u.1 \/ ∃ q∈rows,b∈zb1 q.1 x:=by
  intro rows
  induction rows with
  | nil=>intro u b; simp
  | cons q rows ih =>
   intro u b
   rw [Zks,ih,zoh]
   simp only [Zhp,exists_eq_or_imp,or_assoc]
 intro rows b
 unfold useR
 rw [this]
 simp
theorem zmj (v : Int) : ∀ (as : List Apt) (u : Usd),(as.foldl (addU v) u).1.length <= u.1.length + as.length
 | [],u=>by simp
 | a::as,u=>by
  rw [Zks]
  have h:=zmj v as (addU v u a)
  have h2 : (addU v u a).1.length <= u.1.length + 1:=by unfold addU; dsimp only; split <;> simp
  rw [Zjo]
  omega
theorem zq4 (r : List Nat) (x : Dec) : (zb1 r x).length <= r.length - 1 + 1:=by
 unfold zb1
 refine Zh1 (Ziu _ _) ?_
 rw [Zhg,zhw]; simp
theorem zu4 {r : List Nat} {m : Nat} {y : Wts} {x : Dec} (h : ze4 r m y x = true) {a : Apt} (ha : a∈zb1 r x) : a∈y.1:=by
 unfold ze4 at h
 simp only [Zhq] at h
 obtain ⟨_,_,hl,hg⟩:=h
 unfold zb1 at ha
 obtain ⟨hm,hn⟩:=Zhh.mp ha
 have hnp : zc8 x a = false:=by unfold zc8; rw [Zin] at hn; rw [hn]; rfl
 have hw : wtF y.1 y.2 a≠0:=by
  rcases Zhe.mp hm with hm | hm
  ·have:=Zir.mp hl a hm
   unfold zg5 at this
   rw [hnp,hn] at this
   simp at this
   omega
  ·have ea : a = gapR r:=by simpa using hm
   subst ea
   unfold zwh at hg
   rw [hnp,hn] at hg
   simp at hg
   omega
 unfold wtF at hw
 split at hw
 ·assumption
 ·exact absurd rfl hw
noncomputable def yd0 (q : List Row × Nat × Wts × Dec × Int) (ds : List D) : Prop:=ds = [.lst (q.1.map zcp),encN q.2.1,wtsD q.2.2.1,decD q.2.2.2.1,.int q.2.2.2.2]/\q.1.length <= 100 /\ ∀ r∈q.1,r.1.length <= 100
noncomputable def yeq (q : List Row × Nat × Wts × Dec × Int) : D:=.bl (zmu q.1 q.2.1 q.2.2.1 q.2.2.2.1 q.2.2.2.2)
theorem zx4 {α : Type} {l : List α} {k : Nat} {a b : α} (hk : l[k]? = some a) (h : b∈l.take (k + 1)) : b∈l.take k \/ b = a:=by
 rw [Zh0,hk] at h
 rcases Zhe.mp h with h | h
 ·exact .inl h
 ·exact .inr (by simpa using h)
theorem ztp (x : Dec) : ∀ (rows : List Row),(∀ q∈rows,q.1.length <= 100)->(useR x rows).1.length <= rows.length * 101:=by
 intro rows
 have : ∀ (rows : List Row) (u : Usd),(∀ q∈rows,q.1.length <= 100)->(rows.foldl (fun u q=>(zb1 q.1 x).foldl (addU q.2) u) u).1.length <= u.1.length + rows.length * 101:=by
  intro rows
  induction rows with
  | nil=>intro u _; simp
  | cons q rows ih =>
   intro u h
   rw [Zks]
   have h1:=ih ((zb1 q.1 x).foldl (addU q.2) u) fun r hr=>h r (Zhd _ hr)
   have h2:=zmj q.2 (zb1 q.1 x) u
   have h3:=zq4 q.1 x
   have h4:=h q Zhl
   rw [Zjo]
   omega
 intro h
 have:=this rows ([],fun _=>0) h
 unfold useR
 simpa using this
theorem zme (Z : Tx K mg ad0) : FnOk P w K mg base CX0 5 ad0.Zbn ad0.Zbp zdq (SpG K yd0 yeq) := by
 have Zef:=zjw (P:=P) (w:=w) (base:=base) Z
 have Zfi:=zj7 (P:=P) (w:=w) (base:=base) Z
 have Zf2:=zn1 (P:=P) (w:=w) (base:=base) Z
 have Zd3:=zhq (P:=P) (w:=w) (base:=base) Z
 refine okG Z.Zct.F zbh (by rintro q ds ⟨rfl,_⟩; rfl) fun cdv A outer s H Q E hr=>⟨_,(zad (psn 5 zbh.nd (pcX Zfi hr Z.Zb5 (zab (pv 2) (zab (pv 3) zae))))
   (zad (psn 6 zbh.nd zjc)
   (zad (zb6 Zhy rfl (zbb (pv 0)) (zdc rfl (zar (pgn 7 zbh.nd) (zar (pgn 8 zbh.nd) zb5))) (zad (zcf (PW.pt (zoc (zg9 (zen (pcX Zef hr Z.Zcw (zab (pv 8) zae)))) (zoc (zax zoa (pv 8) zal (zau _)) (zlm (zg9 (zen (pcX Zf2 hr Z.Zc8 (zab (pv 7) (zab (pv 1) (zab (pv 2) (zab (pv 3) zae))))))))))) (zah (zav zi1)) za0)
   (zad (psn 5 zbh.nd (zby zd7 (pv 5) (pv 8)))
   (zah (zb6 Zhy rfl (zbb (pcX Zd3 hr Z.Zbk (zab (pv 7) (zab (pv 3) zae)))) (pgn 9 zbh.nd) (zah (zfh (zbw hr) (pv 6) (pv 9) (zby zd7 (zjr (zbw hr) (pv 6) (pv 9) zal ⟨by rfl,by rfl,by rfl,by rfl⟩) (pv 8)) rfl)))))))
   (zad (zrq (psn 10 zbh.nd (zaw (zjd rfl) (by rfl) Z.Zep Zs9 (zab (znk rfl (LcOk.of (Nx:=(["rings", "many", "weights", "decided", "least", "shown", "used", "ring", "amount", "pair", "within"] : List Str)) (sc:=zag zdt) (N':=(["pair", "amount", "weights"] : List Str)) (nt:=2) (cs:=[2]) rfl rfl (by decide +kernel)) (zno (znd (pv 6))) (fun _ _ _ _=>(show PG _ _ (gTup K 2 _) from zdc rfl (zar (zbk (i:=0) (show Ziv (["pair", "amount", "weights"] : List Str) by decide +kernel) rfl (Zko rfl)) (zar (zbk (i:=1) (show Ziv (["pair", "amount", "weights"] : List Str) by decide +kernel) rfl (Zko rfl)) zb5)))) (fun _ _ _ _=>zgi) (fun _ _ _ _=>(zbe zr5 (pv 1) (zaw zjf (by rfl) Z.Zeq Zta (zab (zdi (zbw hr) (pv 2) (pv 0) (fun _ _=>rfl)) zae)) (zau _)))) zae))))
   (zah (zav (zfq (pv 10) (zg4 (zbe ycw (pv 5) (pv 4) (zau _)))))))))),fun G ds q hp rt=>?_⟩
 obtain ⟨rows,m,y,x,least⟩:=q
 obtain ⟨rfl,hl,hrl⟩:=hp
 have hl : rows.length <= 100:=hl
 have hrl : ∀ r∈rows,r.1.length <= 100:=hrl
 have rt : RtD K G H Q (.bl (zmu rows m y x least)):=rt
 refine zai (zay (d:=.int (zla y x)) (za5 (pre:=yek) (res:=yfq) (y,x) (zaa (zac rfl) (zaa (zac rfl) zaf)) rfl) ?_)
 ((try dsimp only); refine zap ?_)
 refine zai (zi9 fun p=>?_)
 ((try dsimp only); refine zap ?_)
 refine zai (zeq zcp rows (fun k ss=>(∀ q∈rows.take k,zod m y x q = true) /\ ∃ v7 v8 v9,ss = [.d (.lst (rows.map zcp)),.d (encN m),.d (wtsD y),.d (decD x),.d (.int least),.d (.int (zla y x + sumR (rows.take k))),dslT K p (dAp .int (useR x (rows.take k)).1 (useR x (rows.take k)).2),v7,v8,v9,.un]) (zac rfl) ⟨by simp,.un,.un,.un,by simp [sumR,useR,dA]; rfl⟩ ?_ ?_)
 ·rintro L' k q ss hL hk ⟨hall,v7,v8,v9,rfl⟩
  obtain ⟨r,am⟩:=q
  have hq : (r,am)∈rows:=Zhb hk
  have hr1 : r.length <= 100:=hrl _ hq
  have hkl : k < rows.length:=(Zg7.mp hk).1
  have hul : (useR x (rows.take k)).1.length <= 10100:=by
   have:=ztp x (rows.take k) fun q hq=>hrl q (Zrb hq)
   rw [Zim] at this
   omega
  have hol:=zq4 r x
  have ht : rows.take (k + 1) = rows.take k++[(r,am)]:=by rw [Zh0,hk]; rfl
  refine ⟨_,zdd (ds:=[.lst (r.map encN),.int am]) rfl (zaq zao (zaq zao zb4)),fun N hN=>?_⟩
  refine zai (zbr (b:=!true || (decide (am < 1) || !ze4 r m y x)) (ziy (zev (zan (zcb (pre:=fun ds=>∃ i : Int,ds = [.int i]) (res:=fun _=>.bl true) (zaa (zac rfl) zaf) ⟨am,rfl⟩))) fun _=>ziy (zan (zrt (zac rfl).b zak.b)) fun _=>zev (zan (za5 (pre:=yel) (res:=ydq) (r,m,y,x) (zaa (zac rfl) (zaa (zac rfl) (zaa (zac rfl) (zaa (zac rfl) zaf)))) ⟨rfl,(by show r.length <= 1000; omega)⟩))) (fun hb=>?_) (fun hb=>?_))
  ·refine zaz zmg ?_
   have : zmu rows m y x least = false:=by
    have : rows.all (zod m y x) = false:=by
     rw [Zr5]
     refine ⟨_,hq,?_⟩
     unfold zod
     simp only [Zqm,Zol,Zmo,decide_eq_true_eq,Zin] at hb
     rcases hb with hb | hb
     ·rw [decide_eq_false (by show ¬ 1 <= am; omega)]; simp
     ·show ¬ (decide (1 <= am) && ze4 r m y x) = true
      rw [hb]; simp
    unfold zmu; rw [this]; rfl
   rw [this] at rt; exact rt
  simp only [Zqm,Zol,Zrc,decide_eq_false_iff_not,Zjj] at hb
  obtain ⟨hb1,hb2⟩:=hb
  have hrow : zod m y x (r,am) = true:=by
   show (decide (1 <= am) && ze4 r m y x) = true
   rw [decide_eq_true (by omega),hb2]; rfl
  have hrn : r≠[]:=fun z=>by subst z; simp [ze4,zcx] at hb2
  ((try dsimp only); refine zap ?_)
  refine zai (zay (zd9 (zac rfl).b (zac rfl).b) ?_)
  ((try dsimp only); refine zap ?_)
  refine zeq encA (zb1 r x) (fun j ss=>∃ v9,ss = [.d (.lst (rows.map zcp)),.d (encN m),.d (wtsD y),.d (decD x),.d (.int least),.d (.int (zla y x + sumR (rows.take k) + am)),dslT K p (dAp .int (((zb1 r x).take j).foldl (addU am) (useR x (rows.take k))).1 (((zb1 r x).take j).foldl (addU am) (useR x (rows.take k))).2),.d (.lst (r.map encN)),.d (.int am),v9,.un]) (EvO.ev (zgu (pre:=ydb) (res:=ya7) (r,x) (zaa (zac rfl) (zaa (zac rfl) zaf)) ⟨rfl,hrn,(by show r.length <= 1000; omega)⟩)) ⟨v9,by simp⟩ ?_ ?_
  ·rintro L2 j a ss hL2 hj ⟨v9,rfl⟩
   refine ⟨_,zao,fun N2 hN2=>?_⟩
   have hjl : j < (zb1 r x).length:=(Zg7.mp hj).1
   have hl2:=zmj am ((zb1 r x).take j) (useR x (rows.take k))
   rw [Zim] at hl2
   refine zia (d:=.int (wtF (((zb1 r x).take j).foldl (addU am) (useR x (rows.take k))).1 (((zb1 r x).take j).foldl (addU am) (useR x (rows.take k))).2 a + am)) rfl (zd9 (by rw [<- getA]; exact (zt8 rfl (zac rfl) zak rfl rfl).b) (zac rfl).b) (zac rfl) rfl rfl (by rw [Zhm,lenA]; omega) (hN2 _ ⟨.d (encA a),?_⟩)
   have et : (zb1 r x).take (j + 1) = (zb1 r x).take j++[a]:=by rw [Zh0,hj]; rfl
   rw [et,Zjt]
   have:=ztt D.int (((zb1 r x).take j).foldl (addU am) (useR x (rows.take k))).1 (((zb1 r x).take j).foldl (addU am) (useR x (rows.take k))).2 a (wtF (((zb1 r x).take j).foldl (addU am) (useR x (rows.take k))).1 (((zb1 r x).take j).foldl (addU am) (useR x (rows.take k))).2 a + am)
   show Ztg _ _ (dslT K p (putD _ (encA a) (.int _))) = _
   rw [this]; rfl
  ·rintro ss ⟨v9,rfl⟩
   refine hN _ ⟨fun b hb=>?_,.d (.lst (r.map encN)),.d (.int am),v9,?_⟩
   ·rcases zx4 hk hb with h | h
    ·exact hall b h
    ·rw [h]; exact hrow
   ·rw [Zig,ht,znv,zw1,Int.add_assoc]
 rintro ss ⟨hall,v7,v8,v9,rfl⟩
 rw [Zig] at hall ⊢
 ((try dsimp only); refine zap ?_)
 have hall2 : rows.all (zod m y x) = true:=Zir.mpr hall
 have e0 : zmu rows m y x least = (((useR x rows).1.all fun a=>decide ((useR x rows).2 a <= absI (wtF y.1 y.2 a))) && decide (zla y x + sumR rows ≥ least)):=by unfold zmu; rw [hall2,Zkm]
 rw [e0] at rt
 have hul : (useR x rows).1.length <= 10100:=by
  have:=ztp x rows hrl
  omega
 refine zai (zqv (i:=6) rfl (zay (d:=.bl ((useR x rows).1.all fun a=>decide ((useR x rows).2 a <= absI (wtF y.1 y.2 a)))) (zma (xs:=(useR x rows).1) (EvO.l ?_)) ?_))
 ·have e1 : (useR x rows).1.map (fun a=>D.bl (decide ((useR x rows).2 a <= absI (wtF y.1 y.2 a)))) = ((Zg4 (dAp .int (useR x rows).1 (useR x rows).2).length).filter fun _=>true).map fun k=>D.bl (decide ((useR x rows).2 ((useR x rows).1.getD k (0,0)) <= absI (wtF y.1 y.2 ((useR x rows).1.getD k (0,0))))):=by
   rw [Zk8.mpr (fun _ _=>rfl),lenA]
   refine Zkg fun i=>?_
   rw [Zg8,Zg8]
   by_cases hi : i < (useR x rows).1.length
   ·rw [Zi1 hi,Zg1 hi]
    simp [Zg0,hi]
   ·rw [Zio (by omega),Zio (by simpa using hi)]; rfl
  rw [e1]
  refine zkc (fun _=>true) (fun k=>D.bl (decide ((useR x rows).2 ((useR x rows).1.getD k (0,0)) <= absI (wtF y.1 y.2 ((useR x rows).1.getD k (0,0)))))) (EvF.evi (zon (kvs:=dAp .int (useR x rows).1 (useR x rows).2) (zac rfl) (yfg _ _ _))) (zlj (zb7 (zbq (by decide)) (zb7 (zbq (by decide)) zil))) (by decide) (by rw [Zhm,lenA]; omega) fun k hk=>?_
  rw [lenA] at hk
  have hka:=Zg1 hk
  have hget : (useR x rows).1.getD k (0,0) = (useR x rows).1[k]:=by rw [Zg0,hka]; rfl
  rw [hget]
  have hmem : (useR x rows).1[k]∈(useR x rows).1:=Zj9 hk
  generalize (useR x rows).1[k] = a at hka hmem
  rw [atA _ _ _ hka]
  obtain ⟨q,hq,hao⟩:=(zw6 x rows a).mp hmem
  have hrq:=hall q hq
  have hay : a∈y.1:=by
   unfold zod at hrq
   rw [Zhq] at hrq
   exact zu4 hrq.2 hao
  refine ⟨_,zdd (ds:=[encA a,.int ((useR x rows).2 a)]) rfl (zaq zao (zaq zao zb4)),zji,fun _=>?_⟩
  have hw : wtF y.1 y.2 a = y.2 a:=if_pos hay
  rw [hw]
  exact zsp (zac rfl).b (zmc (zuq (kvs:=dAp .int y.1 y.2) (zac rfl) (zac (d:=encA a) rfl) rfl rfl (by rw [show D.tup [.int a.1,.int a.2] = encA a from rfl,valA,if_pos hay])).b).b
 ((try dsimp only); refine zap ?_)
 exact zaz (zgg (zac rfl) fun _=>ycs (zac rfl).b (zac rfl).b) rt
noncomputable def yfy (as : List Apt) (ds : List D) : Prop:=ds = [.lst (as.map encA)]/\as.Nodup/\as.length <= 1000
noncomputable def decP (as : List Apt) : Dec:=(as,fun _=>false)
theorem zre {α : Type} {l : List α} (h : l.Nodup) {k : Nat} {a : α} (hk : l[k]? = some a) : a ∉ l.take k:=fun hm=>by
 have hl:=(Zg7.mp hk).1
 have : (l.take (k + 1)).Nodup:=h.sublist (Zr3 _ _)
 rw [Zh0,hk] at this
 exact (Zjs.mp this).2.2 a hm a (by simp) rfl
theorem zi5 (Z : Tx K mg ad0) : FnOk P w K mg base CX0 1 ad0.Zaq ad0.Zav zb8 (SpG K yfy fun as=>decD (decP as)):=by
 refine okG Z.Zbh.F zdz (by rintro q ds ⟨rfl,_⟩; rfl) fun cdv A outer s H Q E hr=>⟨_,(zad (psn 1 zdz.nd zjc)
   (zad (zb6 Zhy rfl (zbb (pv 0)) (pgn 2 zdz.nd) (zah (zfh (zbw hr) (pv 1) (pv 2) (zcu (by rfl) Z.Zcc Z.Zd2) rfl)))
   (zah (zrq (zav (pv 1)))))),fun G ds as hp rt=>?_⟩
 obtain ⟨rfl,hn,hl⟩:=hp
 refine zai (zi9 fun p=>?_)
 ((try dsimp only); refine zap ?_)
 refine zai (zeq encA as (fun k ss=>∃ v2,ss = [.d (.lst (as.map encA)),dslT K p (dAp encC (as.take k) (fun _=>false)),v2]) (zac rfl) ⟨.un,rfl⟩ ?_ ?_)
 ·rintro L' k a ss hL hk ⟨v2,rfl⟩
  refine ⟨_,zao,fun N hN=>?_⟩
  refine zia (d:=encC false) rfl (zgo (d:=.str zff) fun H=>Rep.str (by decide)) (zac rfl) rfl rfl (by rw [Zhm,lenA,Zim]; omega) (hN _ ⟨.d (encA a),?_⟩)
  have e : putD (dAp encC (as.take k) fun _=>false) (encA a) (encC false) = dAp encC (as.take (k + 1)) fun _=>false:=by
   rw [Zh0,hk]
   exact zgk (f:=fun _=>false) zct (zre hn hk)
  show Ztg _ _ (dslT K p (putD _ (encA a) _)) = _
  rw [e]; rfl
 rintro ss ⟨v2,rfl⟩
 rw [Zig]
 ((try dsimp only); refine zap ?_)
 exact zqv (i:=1) rfl (zaz (zac rfl) rt)
noncomputable def keyP (p : Pr) : Apt:=(p.1,p.2.1)
noncomputable def wOf (ps : List Pr) (a : Apt) : Int:=((ps.find? fun p=>decide (keyP p = a)).map (·.2.2)).getD 0
noncomputable def wtsP (ps : List Pr) : Wts:=(ps.map keyP,wOf ps)
noncomputable def yd7 (ps : List Pr) (ds : List D) : Prop:=ds = [.lst (ps.map encP)]/\(ps.map keyP).Nodup/\ps.length <= 1000
theorem zwp : ∀ {ps : List Pr},(ps.map keyP).Nodup -> ∀ {p : Pr},p∈ps->wOf ps (keyP p) = p.2.2
 | q::ps,hn,p,hp=>by
  rw [Zhi,Zi5] at hn
  unfold wOf
  rw [Zij]
  rcases Zhp.mp hp with h | h
  ·subst h; rw [decide_eq_true rfl]; rfl
  ·have : ¬ keyP q = keyP p:=fun z=>hn.1 (by rw [z]; exact Zhk.mpr ⟨p,h,rfl⟩)
   rw [decide_eq_false this]
   exact zwp hn.2 h
theorem zi8 (Z : Tx K mg ad0) : FnOk P w K mg base CX0 1 ad0.Zau ad0.Zas zca (SpG K yd7 fun ps=>wtsD (wtsP ps)):=by
 refine okG Z.Zbj.F zb0 (by rintro q ds ⟨rfl,_⟩; rfl) fun cdv A outer s H Q E hr=>⟨_,(zad (psn 1 zb0.nd zjc)
   (zad (zb6 Zhy rfl (zbb (pv 0)) (zdc rfl (zar (pgn 2 zb0.nd) (zar (pgn 3 zb0.nd) (zar (pgn 4 zb0.nd) zb5)))) (zah (zfh (zbw hr) (pv 1) (zbc (zab (pv 2) (zab (pv 3) zae))) (pv 4) rfl)))
   (zah (zrq (zav (pv 1)))))),fun G ds ps hp rt=>?_⟩
 obtain ⟨rfl,hn,hl⟩:=hp
 refine zai (zi9 fun p=>?_)
 ((try dsimp only); refine zap ?_)
 refine zai (zeq encP ps (fun k ss=>∃ v2 v3 v4,ss = [.d (.lst (ps.map encP)),dslT K p (dAp .int ((ps.take k).map keyP) (wOf ps)),v2,v3,v4]) (zac rfl) ⟨.un,.un,.un,rfl⟩ ?_ ?_)
 ·rintro L' k q ss hL hk ⟨v2,v3,v4,rfl⟩
  refine ⟨_,zdd rfl (zaq zao (zaq zao (zaq zao zb4))),fun N hN=>?_⟩
  refine zia (ds:=[.int q.1,.int q.2.1]) (d:=.int q.2.2) rfl (zac rfl) (zbo (zaa (zac rfl) (zaa (zac rfl) zaf)) (small (by simp))) rfl rfl (by rw [Zhm,lenA,Zg2,Zim]; omega) (hN _ ⟨.d (.int q.1),.d (.int q.2.1),.d (.int q.2.2),?_⟩)
  have hq:=Zhb hk
  have hnt : keyP q ∉ (ps.take k).map keyP:=by
   rw [List.map_take]
   exact zre hn (by rw [Zg8,hk]; rfl)
  have e : putD (dAp .int ((ps.take k).map keyP) (wOf ps)) (encA (keyP q)) (.int q.2.2) = dAp .int ((ps.take (k + 1)).map keyP) (wOf ps):=by
   rw [Zh0,hk,Zhj,<- zwp hn hq]
   exact zgk (f:=wOf ps) zct hnt
  show Ztg _ _ (dslT K p (putD _ (encA (keyP q)) _)) = _
  rw [e]; rfl
 rintro ss ⟨v2,v3,v4,rfl⟩
 rw [Zig]
 ((try dsimp only); refine zap ?_)
 exact zqv (i:=1) rfl (zaz (zac rfl) rt)
theorem yda (x : Dec) (a : Apt) : decide ((valD (dAp encC x.1 x.2) (encA a)).getD .non = .str zih) = zch x a:=by
 unfold zch
 rw [valA]
 by_cases h : a∈x.1
 ·rw [if_pos h,decide_eq_true h,Zkm]
  show decide (encC (x.2 a) = .str zih) = _
  cases x.2 a
  ·exact decide_eq_false (by intro z; injection z with z; exact absurd z (by decide))
  ·exact decide_eq_true rfl
 ·rw [if_neg h,decide_eq_false h,Zn1]
  exact decide_eq_false (by intro z; cases z)
theorem ydd {G H₀ L : Hp} {ss : List Sl} {td ty : TE} {a : Apt} (x : Dec) (e1 : Ev K G H₀ L ss td (decD x)) (e2 : Ev K G H₀ L ss ty (encA a)) : Ev K G H₀ L ss (tOp rEq (zrp td ty) (tC (.str (T zih)))) (.bl (zch x a)):=by
 rw [<- yda]
 exact zu7 (zli e1 e2 rfl rfl) (getC x a) (zgo (d:=.str zih) fun H=>Rep.str (by decide)).b
noncomputable def zh9 (r : List Nat) (m : Nat) (x : Dec) : Bool:=(zcx r && r.all fun k=>decide (k < m)) && ((zbj r).all (zch x) && zc8 x (gapR r))
noncomputable def ydn (q : List Nat × Nat × Dec) (ds : List D) : Prop:=ds = [.lst (q.1.map encN),encN q.2.1,decD q.2.2]/\q.1.length <= 1000
noncomputable def yf0 (q : List Nat × Nat × Dec) : D:=.bl (zh9 q.1 q.2.1 q.2.2)
theorem zpe (Z : Tx K mg ad0) : FnOk P w K mg base CX0 4 ad0.Zcp ad0.Zcj ze7 (SpG K ydn yf0):=by
 have Zem:=zlh (P:=P) (w:=w) (base:=base) Z
 have Zc1:=zhj (P:=P) (w:=w) (base:=base) Z
 have Zd5:=zj0 (P:=P) (w:=w) (base:=base) Z
 refine okG Z.Zdv.F zkh (by rintro q ds ⟨rfl,_⟩; rfl) fun cdv A outer s H Q E hr=>⟨_,(zad (zcf (zg9 (zen (pcX Zem hr Z.Zdb (zab (pv 0) (zab (pv 1) zae))))) (zah (zav zi1)) za0)
   (zad (psn 3 zkh.nd (zaw (zjd rfl) (by rfl) Z.Zep Zs9 (zab (znk rfl (LcOk.of (Nx:=(["ring", "many", "decided", "all_held"] : List Str)) (sc:=zag ze2) (N':=(["link", "decided"] : List Str)) (nt:=1) (cs:=[2]) rfl rfl (by decide +kernel)) (zbb (pcX Zc1 hr Z.Zb1 (zab (pv 0) zae))) (fun _ _ _ _=>(zbk (i:=0) (show Ziv (["link", "decided"] : List Str) by decide +kernel) rfl (Zko rfl))) (fun _ _ _ _=>zgi) (fun _ _ _ _=>(zbe zet (zjs (zbw hr) (pv 1) (pv 0) ⟨by rfl,by rfl,by rfl,by rfl⟩) (zcu (by rfl) Z.Zel Z.Zfx) (zau _)))) zae)))
   (zah (zav (zfq (pv 3) (zg4 (zbe zet (zjs (zbw hr) (pv 2) (pcX Zd5 hr Z.Zc3 (zab (pv 0) zae)) ⟨by rfl,by rfl,by rfl,by rfl⟩) (zcu (by rfl) Z.Zcc Z.Zd2) (zau _)))))))),fun G ds q hp rt=>?_⟩
 obtain ⟨r,m,x⟩:=q
 obtain ⟨rfl,hl⟩:=hp
 have hl : r.length <= 1000:=hl
 have rt : RtD K G H Q (.bl (zh9 r m x)):=rt
 have ring : ∀ {ss' : List Sl} {L : Hp} {E},ss'[0]? = some (.d (.lst (r.map encN)))->ss'[1]? = some (.d (encN m))->Ev K G H L ss' (zgw (SpD K zpj zkf) [] E (za3 (tVar 0) (za3 (tVar 1) tNil))) (.bl (zcx r && r.all fun k=>decide (k < m))):=fun {ss' L E} h0 h1=>by
  rw [<- zk0]
  exact zcb (zaa (zac h0) (zaa (zac h1) zaf)) ⟨r,m,rfl,hl⟩
 refine zai (zbr (zev (zan (ring rfl rfl))) (fun hb=>?_) (fun hb=>?_))
 ·rw [Zin] at hb
  refine zaz zmg ?_
  have : zh9 r m x = false:=by unfold zh9; rw [hb]; rfl
  rw [this] at rt; exact rt
 rw [Zjj] at hb
 have hrn : r≠[]:=fun z=>by subst z; simp [zcx] at hb
 have e0 : zh9 r m x = ((zbj r).all (zch x) && zc8 x (gapR r)):=by unfold zh9; rw [hb,Zkm]
 rw [e0] at rt
 ((try dsimp only); refine zap ?_)
 refine zai (zay (d:=.bl ((zbj r).all (zch x))) (zma (xs:=zbj r) (g:=zch x) (EvO.l (zp4 (zbj r) encA (fun a=>.bl (zch x a)) (EvO.l (zng rfl hl)) (zbq (by decide)) (by decide) (by rw [Zhm,zhw]; omega) fun a ha=>⟨_,zao,ydd x (zac rfl) (zac rfl)⟩))) ?_)
 ((try dsimp only); refine zap ?_)
 exact zaz (zgg (zac rfl) fun _=>zp3 x (zac rfl) (yaf rfl hrn)) rt
inductive Pap where
 | nev (r : List Nat) | rin (rows : List Row) | cas (i j : Nat) (a b : Pap)
noncomputable abbrev zfn : List Nat:=[114,105,110,103,115]
noncomputable abbrev zes : List Nat:=[99,97,115,101]
noncomputable abbrev zg8 : List Nat:=[110,101,118,101,114]
noncomputable def zas : Pap->D
 | .nev r=>.tup [.str zg8,.lst (r.map encN)]
 | .rin rows=>.tup [.str zfn,.lst (rows.map zcp)]
 | .cas i j a b=>.tup [.str zes,encN i,encN j,zas a,zas b]
noncomputable def zy4 : Pap->Prop
 | .nev r=>r.length <= 100
 | .rin rows=>rows.length <= 100 /\ ∀ q∈rows,q.1.length <= 100
 | .cas i j a b=>i < 8/\j < 8/\zy4 a/\zy4 b
noncomputable def putX (x : Dec) (a : Apt) (b : Bool) : Dec:=(x.1++[a],fun c=>if c = a then b else x.2 c)
noncomputable def mayD (i j m : Nat) (x : Dec) : Bool:=decide (i < m) && (decide (j < m) && (decide (i < j) && !decide ((i,j)∈x.1)))
noncomputable def zeh (m : Nat) (y : Wts) (least : Int) : Pap->Dec->Bool
 | .nev r,x=>zh9 r m x
 | .rin rows,x=>zmu rows m y x least
 | .cas i j a b,x=>mayD i j m x && (zeh m y least a (putX x (i,j) true) && zeh m y least b (putX x (i,j) false))
noncomputable def zu3 (x : Dec) : Prop:=x.1.Nodup/\x.1.length <= 1000 /\ ∀ a∈x.1,a.1 < 8/\a.2 < 8
noncomputable def yfr (q : Nat × Nat × Pap × Pap × Nat × Dec) (ds : List D) : Prop:=ds = [zas (.cas q.1 q.2.1 q.2.2.1 q.2.2.2.1),encN q.2.2.2.2.1,decD q.2.2.2.2.2]
noncomputable def ye3 (q : Nat × Nat × Pap × Pap × Nat × Dec) : D:=.bl (mayD q.1 q.2.1 q.2.2.2.2.1 q.2.2.2.2.2)
theorem zm9 (Z : Tx K mg ad0) : FnOk P w K mg base CX0 3 ad0.Zbt ad0.Zbq zdw (SpG K yfr ye3):=by
 have Zdu:=zkd (P:=P) (w:=w) (base:=base) Z
 refine okG Z.Zcy.F zfj (by rintro q ds rfl; rfl) fun cdv A outer s H Q E hr=>⟨_,(zad (psn 3 zfj.nd (zbs (show IxR _ (rIxT K) from zbz) (pv 0) zal (fun _ _=>rfl)))
   (zad (psn 4 zfj.nd (zbs (show IxR _ (rIxT K) from zbz) (pv 0) zal (fun _ _=>rfl)))
   (zah (zav (zfq (pcX Zdu hr Z.Zb3 (zab (pv 3) (zab (pv 1) zae))) (zfq (pcX Zdu hr Z.Zb3 (zab (pv 4) (zab (pv 1) zae))) (zfq (zbe zoa (pv 3) (pv 4) (zau _)) (zg4 (zz3 (zfz (zbw hr) (zbc (zab (pv 3) (zab (pv 4) zae))) (pv 2)) (by with_unfolding_all rfl)))))))))),fun G ds q hp rt=>?_⟩
 obtain ⟨i,j,a,b,m,x⟩:=q
 obtain rfl:=hp
 have rt : RtD K G H Q (.bl (mayD i j m x)):=rt
 refine zai (zay (d:=encN i) (zbd (ds:=[.str zes,encN i,encN j,zas a,zas b]) (zac rfl) zak.b rfl) ?_)
 ((try dsimp only); refine zap ?_)
 refine zai (zay (d:=encN j) (zbd (ds:=[.str zes,encN i,encN j,zas a,zas b]) (zac rfl) zak.b rfl) ?_)
 ((try dsimp only); refine zap ?_)
 have hij : decide (i < j) = decide (((i : Nat) : Int) < ((j : Nat) : Int)):=decide_eq_decide.mpr (by omega)
 unfold mayD at rt
 rw [hij] at rt
 exact zaz (zgg (zcb (pre:=zrf) (res:=zna) (zaa (zac rfl) (zaa (zac rfl) zaf)) ⟨i,m,rfl⟩) fun _=>zgg (zcb (pre:=zrf) (res:=zna) (zaa (zac rfl) (zaa (zac rfl) zaf)) ⟨j,m,rfl⟩) fun _=>zgg (zrt (zac (d:=.int (i : Nat)) rfl).b (zac (d:=.int (j : Nat)) rfl).b) fun _=>zh3 (a:=(i,j)) x (zac rfl) (zbo (ds:=[.int (i : Nat),.int (j : Nat)]) (zaa (zac rfl) (zaa (zac rfl) zaf)) (small (by simp)))) rt
noncomputable def yc1 (q : Dec × Apt × Bool) (ds : List D) : Prop:=ds = [decD q.1,encA q.2.1,encC q.2.2]/\zu3 q.1/\q.2.1 ∉ q.1.1
theorem ya3 (x : Dec) {a : Apt} (h : a ∉ x.1) (b : Bool) {β : Type} [DecidableEq β] (encB : Bool->D) : putD (dAp encB x.1 x.2) (encA a) (encB b) = dAp encB (putX x a b).1 (putX x a b).2:=by
 rw [ztt,if_neg h]; rfl
theorem zsg {β : Type} (encB : β->D) {ks : List Apt} (f : Apt->β) (h : ∀ a∈ks,a.1 < 8/\a.2 < 8) : ∀ q∈dAp encB ks f,∃ a b : Nat,a < 8/\b < 8/\q.1 = .tup [.int a,.int b]:=fun q hq=>by
 obtain ⟨a,ha,rfl⟩:=Zhk.mp hq
 exact ⟨a.1,a.2,(h a ha).1,(h a ha).2,rfl⟩
theorem zld (Z : Tx K mg ad0) : FnOk P w K mg base CX0 1 ad0.Zbd ad0.Zbe zc3 (SpG K yc1 fun q=>decD (putX q.1 q.2.1 q.2.2)):=by
 refine okG Z.Zbf.F zgz (by rintro q ds ⟨rfl,_⟩; rfl) fun cdv A outer s H Q E hr=>⟨_,(zad (psn 3 zgz.nd (zdr (show zcy _ _ zu0 from zrx) (by rfl) Z.Zfr yat (zab (pv 0) zae)))
   (zad (zfh (zbw hr) (pv 3) (pv 1) (pv 2) rfl)
   (zah (zrq (zav (pv 3)))))),fun G ds q hp rt=>?_⟩
 obtain ⟨x,a,b⟩:=q
 obtain ⟨rfl,⟨hn,hl,hs⟩,ha⟩:=hp
 refine zai (zyn (kvs:=dAp encC x.1 x.2) (zac rfl) (zsg encC x.2 hs) fun p=>?_)
 ((try dsimp only); refine zap ?_)
 refine zai (zia (i:=3) (d:=encC b) rfl (zac rfl) (zac (d:=encA a) rfl) rfl rfl (by rw [Zhm,lenA]; have hl : x.1.length <= 1000:=hl; omega) ?_)
 have hd : dslT K p (putD (dAp encC x.1 x.2) (.tup [.int a.1,.int a.2]) (encC b)) = dslT K p (dAp encC (putX x a b).1 (putX x a b).2):=by
  rw [show D.tup [.int a.1,.int a.2] = encA a from rfl,ya3 (β:=Bool) x ha b encC]
 rw [hd]
 ((try dsimp only); refine zap ?_)
 exact zqv (i:=3) rfl (zaz (zac rfl) rt)
noncomputable def Pap.sz : Pap->Nat
 | .nev _=>1 | .rin _=>1 | .cas _ _ a b=>a.sz + b.sz + 1
noncomputable def Pap.dp : Pap->Nat
 | .nev _=>0 | .rin _=>0 | .cas _ _ a b=>max a.dp b.dp + 1
theorem ycf : ∀ p : Pap,p.sz + 1 <= 2 ^ (p.dp + 1)
 | .nev _=>by simp [Pap.sz,Pap.dp]
 | .rin _=>by simp [Pap.sz,Pap.dp]
 | .cas _ _ a b=>by
  have h1:=ycf a
  have h2:=ycf b
  have h3 : 2 ^ (a.dp + 1) <= 2 ^ (max a.dp b.dp + 1):=Zma (by decide) (by omega)
  have h4 : 2 ^ (b.dp + 1) <= 2 ^ (max a.dp b.dp + 1):=Zma (by decide) (by omega)
  have h5 : 2 ^ (max a.dp b.dp + 1 + 1) = 2 ^ (max a.dp b.dp + 1) * 2:=Nat.pow_succ ..
  simp only [Pap.sz,Pap.dp]
  omega
noncomputable abbrev Itm:=Pap × Dec
noncomputable def zls (t : Itm) : D:=.tup [zas t.1,decD t.2]
noncomputable def stSz (st : List Itm) : Nat:=st.foldr (fun t n=>t.1.sz + n) 0
theorem zf0 (st : List Itm) (t : Itm) : stSz (st++[t]) = stSz st + t.1.sz:=by
 induction st with
 | nil=>simp [stSz]
 | cons a st ih=>simp only [stSz,Zl3,Znk] at ih ⊢; omega
theorem zml (p : Pap) : 1 <= p.sz:=by cases p <;> simp [Pap.sz]
theorem yfc (st : List Itm) : st.length <= stSz st:=by
 induction st with
 | nil=>simp [stSz]
 | cons a st ih =>
  have:=zml a.1
  simp only [stSz,Znk,Zjo] at ih ⊢
  omega
noncomputable def Fits (t : Itm) : Prop:=zy4 t.1/\zu3 t.2/\t.2.1.length + t.1.dp <= 1000
theorem zzt {x : Dec} {i j : Nat} (h : zu3 x) (hn : (i,j) ∉ x.1) (hi : i < 8) (hj : j < 8) (hl : x.1.length < 1000) (b : Bool) : zu3 (putX x (i,j) b):=by
 obtain ⟨h1,h2,h3⟩:=h
 refine ⟨Zjs.mpr ⟨h1,by simp,fun c hc d hd z=>hn (by rw [<- show d = (i,j) by simpa using hd,<- z]; exact hc)⟩,by show (x.1++[(i,j)]).length <= 1000; simp; omega,fun a ha=>?_⟩
 rcases Zhe.mp ha with z | z
 ·exact h3 a z
 ·rw [show a = (i,j) by simpa using z]; exact ⟨hi,hj⟩
noncomputable def ydw (q : Pap × Nat × List Pr × List Apt × Int) (ds : List D) : Prop:=ds = [zas q.1,encN q.2.1,.lst (q.2.2.1.map encP),.lst (q.2.2.2.1.map encA),.int q.2.2.2.2]/\(Fits (q.1,decP q.2.2.2.1)/\q.1.sz <= 10000000)/\(q.2.2.1.map keyP).Nodup/\q.2.2.1.length <= 1000
noncomputable def ye1 (q : Pap × Nat × List Pr × List Apt × Int) : D:=.bl (zeh q.2.1 (wtsP q.2.2.1) q.2.2.2.2 q.1 (decP q.2.2.2.1))
theorem zo2 (Z : Tx K mg ad0) : FnOk P w K mg base CX0 6 ad0.Zcv ad0.Zcr zex (SpG K ydw ye1):=by
 have Zex:=zi8 (P:=P) (w:=w) (base:=base) Z
 have Ze9:=zi5 (P:=P) (w:=w) (base:=base) Z
 have Zfy:=zme (P:=P) (w:=w) (base:=base) Z
 have Zga:=zpe (P:=P) (w:=w) (base:=base) Z
 have Zfu:=zm9 (P:=P) (w:=w) (base:=base) Z
 have Zei:=zld (P:=P) (w:=w) (base:=base) Z
 refine okG Z.Zdx.F zcw (by rintro q ds ⟨rfl,_⟩; rfl) fun cdv A outer s H Q E hr=>⟨_,(zad (psn 5 zcw.nd (pcX Zex hr Z.Zbj (zab (pv 2) zae)))
   (zad (psn 6 zcw.nd (zbn (zab (zbc (zab (pv 0) (zab (pcX Ze9 hr Z.Zbh (zab (pv 3) zae)) zae))) zae)))
   (zad (zq3 Zhy (zax zoj (zaw zbg (by rfl) Z.Zb0 Zmt (zab (pv 6) zae)) zal (zau _)) (zad (psn 7 zcw.nd (zun Zh7 Zqi Zud zzy (pv 6)))
   (zad (psn 8 zcw.nd (zbs (show IxR _ (rIxT K) from zbz) (pv 7) zal (fun _ _=>rfl)))
   (zad (psn 9 zcw.nd (zbs (show IxR _ (rIxT K) from zbz) (pv 7) zal (fun _ _=>rfl)))
   (zah (zcf (zax zet (zbs (show IxR _ (rIxT K) from zbz) (pv 8) zal (fun _ _=>rfl)) zjx (zau _)) (zad (zcf (zg9 (zen (pcX Zfu hr Z.Zcy (zab (pv 8) (zab (pv 1) (zab (pv 9) zae)))))) (zah (zav zi1)) za0)
   (zad (psn 10 zcw.nd (zbc (zab (zbs (show IxR _ (rIxT K) from zbz) (pv 8) zal (fun _ _=>rfl)) (zab (zbs (show IxR _ (rIxT K) from zbz) (pv 8) zal (fun _ _=>rfl)) zae))))
   (zad (zdy (zf6 Zh7 Zi0 Zi7 zcd (pv 6) (zab (zbc (zab (zbs (show IxR _ (rIxT K) from zbz) (pv 8) zal (fun _ _=>rfl)) (zab (pcX Zei hr Z.Zbf (zab (pv 9) (zab (pv 10) (zab (zcu (by rfl) Z.Zel Z.Zfx) zae)))) zae))) zae)))
   (zah (zdy (zf6 Zh7 Zi0 Zi7 zcd (pv 6) (zab (zbc (zab (zbs (show IxR _ (rIxT K) from zbz) (pv 8) zal (fun _ _=>rfl)) (zab (pcX Zei hr Z.Zbf (zab (pv 9) (zab (pv 10) (zab (zcu (by rfl) Z.Zcc Z.Zd2) zae)))) zae))) zae))))))) (zah (zcf (zax zet (zbs (show IxR _ (rIxT K) from zbz) (pv 8) zal (fun _ _=>rfl)) zjx (zau _)) (zah (zcf (zg9 (zen (pcX Zfy hr Z.Zct (zab (zbs (show IxR _ (rIxT K) from zbz) (pv 8) zal (fun _ _=>rfl)) (zab (pv 1) (zab (pv 5) (zab (pv 9) (zab (pv 4) zae)))))))) (zah (zav zi1)) za0)) (zah (zcf (zg9 (zen (pcX Zga hr Z.Zdv (zab (zbs (show IxR _ (rIxT K) from zbz) (pv 8) zal (fun _ _=>rfl)) (zab (pv 1) (zab (pv 9) zae)))))) (zah (zav zi1)) za0))))))))))
   (zah (zav zi1))))),fun G ds q hp rt=>?_⟩
 obtain ⟨pp,m,ps,as,least⟩:=q
 obtain ⟨rfl,⟨hfit,hsz0⟩,hpn,hpl⟩:=hp
 have hsz0 : pp.sz <= 10000000:=hsz0
 have hfit : Fits (pp,decP as):=hfit
 have han : as.Nodup:=hfit.2.1.1
 have hal : as.length <= 1000:=hfit.2.1.2.1
 have rt : RtD K G H Q (.bl (zeh m (wtsP ps) least pp (decP as))):=rt
 refine zai (zay (za5 (pre:=yd7) (res:=fun ps=>wtsD (wtsP ps)) ps (zaa (zac rfl) zaf) ⟨rfl,hpn,hpl⟩) ?_)
 ((try dsimp only); refine zap ?_)
 refine zai (zc0 (ds:=[zls (pp,decP as)]) (za4 (zaa (zbo (ds:=[zas pp,decD (decP as)]) (zaa (zac rfl) (zaa (za5 (pre:=yfy) (res:=fun as=>decD (decP as)) as (zaa (zac rfl) zaf) ⟨rfl,han,hal⟩) zaf)) (small (by simp))) zaf) (small (by simp))) fun p=>?_)
 ((try dsimp only); refine zap ?_)
 generalize wtsP ps = y at rt
 refine zai (zqa (fun n ss=>∃ (st : List Itm) (v7 v8 v9 v10 : Sl),n = stSz st/\(∀ t∈st,Fits t)/\zeh m y least pp (decP as) = st.all (fun t=>zeh m y least t.1 t.2)/\stSz st <= 10000000/\ss = [.d (zas pp),.d (encN m),.d (.lst (ps.map encP)),.d (.lst (as.map encA)),.d (.int least),.d (wtsD y),.o p (st.map zls),v7,v8,v9,v10]) (stSz [(pp,decP as)]) ⟨[(pp,decP as)],.un,.un,.un,.un,rfl,fun t ht=>by rw [show t = (pp,decP as) by simpa using ht]; exact hfit,by simp,by show pp.sz + 0 <= 10000000; omega,rfl⟩ ?_)
 rintro n ss ⟨st,v7,v8,v9,v10,rfl,hst,heq,hbd,rfl⟩
 refine ⟨_,zan (znr (zha (zl5 rfl)).b zak.b),fun hb N hN=>?_,fun hb=>?_⟩
 ·have hne : st≠[]:=fun z=>by subst z; simp at hb
  obtain ⟨st',t,rfl⟩ : ∃ st' t,st = st'++[t]:=⟨st.dropLast,st.getLast hne,(Zpd hne).symm⟩
  have hft:=hst t (by simp)
  have hst' : ∀ t∈st',Fits t:=fun t ht=>hst t (Zhu _ ht)
  rw [Zpm,Zkl,Zt9,Zlg] at heq
  rw [zf0] at hN hbd
  have hl1:=yfc st'
  rw [Zhj]
  obtain ⟨pq,x⟩:=t
  have hsz:=zml pq
  have hbd : stSz st' + pq.sz <= 10000000:=hbd
  refine zai (znp (ds:=st'.map zls) (d:=zls (pq,x)) rfl (by decide) ?_)
  ((try dsimp only); refine zap ?_)
  refine zai (zay (d:=zas pq) (zbd (ds:=[zas pq,decD x]) (zac rfl) zak.b rfl) ?_)
  ((try dsimp only); refine zap ?_)
  refine zai (zay (d:=decD x) (zbd (ds:=[zas pq,decD x]) (zac rfl) zak.b rfl) ?_)
  ((try dsimp only); refine zap ?_)
  cases pq with
  | rin rows =>
   refine zbr (b:=false) (zan (zhn (l:=zfn) (m:=zes) (zbd (ds:=[.str zfn,.lst (rows.map zcp)]) (zac rfl) zak.b rfl).b (zgb rfl (by decide)).b)) (fun h=>by cases h) fun _=>?_
   refine zbr (b:=true) (zan (zhn (l:=zfn) (m:=zfn) (zbd (ds:=[.str zfn,.lst (rows.map zcp)]) (zac rfl) zak.b rfl).b (zgb rfl (by decide)).b)) (fun _=>?_) fun h=>by cases h
   refine zbr (zev (zan (za5 (pre:=yd0) (res:=yeq) (rows,m,y,x,least) (zaa (zbd (ds:=[.str zfn,.lst (rows.map zcp)]) (zac rfl) zak.b rfl) (zaa (zac rfl) (zaa (zac rfl) (zaa (zac rfl) (zaa (zac rfl) zaf))))) ⟨rfl,hft.1.1,hft.1.2⟩))) (fun hb=>?_) (fun hb=>?_)
   ·rw [Zin] at hb
    have hb : zeh m y least (.rin rows) x = false:=hb
    refine zaz zmg ?_
    rw [heq,hb,Zlt] at rt; exact rt
   ·rw [Zjj] at hb
    have hb : zeh m y least (.rin rows) x = true:=hb
    rw [hb,Zlg] at heq
    exact za2 (hN _ _ (by simp [Pap.sz]) ⟨st',.d (zls (.rin rows,x)),.d (zas (.rin rows)),.d (decD x),v10,rfl,hst',heq,by omega,rfl⟩)
  | nev r =>
   refine zbr (b:=false) (zan (zhn (l:=zg8) (m:=zes) (zbd (ds:=[.str zg8,.lst (r.map encN)]) (zac rfl) zak.b rfl).b (zgb rfl (by decide)).b)) (fun h=>by cases h) fun _=>?_
   refine zbr (b:=false) (zan (zhn (l:=zg8) (m:=zfn) (zbd (ds:=[.str zg8,.lst (r.map encN)]) (zac rfl) zak.b rfl).b (zgb rfl (by decide)).b)) (fun h=>by cases h) fun _=>?_
   refine zbr (zev (zan (za5 (pre:=ydn) (res:=yf0) (r,m,x) (zaa (zbd (ds:=[.str zg8,.lst (r.map encN)]) (zac rfl) zak.b rfl) (zaa (zac rfl) (zaa (zac rfl) zaf))) ⟨rfl,Zh1 hft.1 (by decide)⟩))) (fun hb=>?_) (fun hb=>?_)
   ·rw [Zin] at hb
    have hb : zeh m y least (.nev r) x = false:=hb
    refine zaz zmg ?_
    rw [heq,hb,Zlt] at rt; exact rt
   ·rw [Zjj] at hb
    have hb : zeh m y least (.nev r) x = true:=hb
    rw [hb,Zlg] at heq
    exact za2 (hN _ _ (by simp [Pap.sz]) ⟨st',.d (zls (.nev r,x)),.d (zas (.nev r)),.d (decD x),v10,rfl,hst',heq,by omega,rfl⟩)
  | cas i j a b =>
   obtain ⟨⟨hi,hj,ha,hb'⟩,hdo,hln⟩:=hft
   have hln : x.1.length + (max a.dp b.dp + 1) <= 1000:=hln
   have hdo : zu3 x:=hdo
   have hbd : stSz st' + (a.sz + b.sz + 1) <= 10000000:=hbd
   refine zbr (b:=true) (zan (zhn (l:=zes) (m:=zes) (zbd (ds:=[.str zes,encN i,encN j,zas a,zas b]) (zac rfl) zak.b rfl).b (zgb rfl (by decide)).b)) (fun _=>?_) fun h=>by cases h
   refine zai (zbr (zev (zan (za5 (pre:=yfr) (res:=ye3) (i,j,a,b,m,x) (zaa (zac rfl) (zaa (zac rfl) (zaa (zac rfl) zaf))) rfl))) (fun hb=>?_) (fun hb=>?_))
   ·rw [Zin] at hb
    have hb : mayD i j m x = false:=hb
    refine zaz zmg ?_
    have : zeh m y least (.cas i j a b) x = false:=by unfold zeh; rw [hb]; rfl
    rw [heq,this,Zlt] at rt; exact rt
   rw [Zjj] at hb
   have hb : mayD i j m x = true:=hb
   have hnx : (i,j) ∉ x.1:=by unfold mayD at hb; simp at hb; exact hb.2.2.2
   ((try dsimp only); refine zap ?_)
   refine zai (zay (d:=encA (i,j)) (zbo (ds:=[.int (i : Nat),.int (j : Nat)]) (zaa (zbd (ds:=[.str zes,encN i,encN j,zas a,zas b]) (zac rfl) zak.b rfl) (zaa (zbd (ds:=[.str zes,encN i,encN j,zas a,zas b]) (zac rfl) zak.b rfl) zaf)) (small (by simp))) ?_)
   ((try dsimp only); refine zap ?_)
   refine zai (zc5 (d:=zls (a,putX x (i,j) true)) rfl (zbo (ds:=[zas a,decD (putX x (i,j) true)]) (zaa (zbd (ds:=[.str zes,encN i,encN j,zas a,zas b]) (zac rfl) zak.b rfl) (zaa (za5 (pre:=yc1) (res:=fun q=>decD (putX q.1 q.2.1 q.2.2)) (x,(i,j),true) (zaa (zac rfl) (zaa (zac rfl) (zaa (zgo (d:=.str zih) fun H=>Rep.str (by decide)) zaf))) ⟨rfl,hdo,hnx⟩) zaf)) (small (by simp))) (by rw [Zhm,Zg2]; omega) ?_)
   ((try dsimp only); refine zap ?_)
   refine zc5 (d:=zls (b,putX x (i,j) false)) rfl (zbo (ds:=[zas b,decD (putX x (i,j) false)]) (zaa (zbd (ds:=[.str zes,encN i,encN j,zas a,zas b]) (zac rfl) zak.b rfl) (zaa (za5 (pre:=yc1) (res:=fun q=>decD (putX q.1 q.2.1 q.2.2)) (x,(i,j),false) (zaa (zac rfl) (zaa (zac rfl) (zaa (zgo (d:=.str zff) fun H=>Rep.str (by decide)) zaf))) ⟨rfl,hdo,hnx⟩) zaf)) (small (by simp))) (by rw [Zhm]; simp; omega) (hN (stSz (st'++[(a,putX x (i,j) true)]++[(b,putX x (i,j) false)])) _ ?_ ⟨st'++[(a,putX x (i,j) true)]++[(b,putX x (i,j) false)],.d (zls (.cas i j a b,x)),.d (zas (.cas i j a b)),.d (decD x),.d (encA (i,j)),rfl,fun t ht=>?_,?_,?_,?_⟩)
   ·rw [zf0,zf0]; show stSz st' + a.sz + b.sz < stSz st' + (a.sz + b.sz + 1); omega
   ·have hle : (putX x (i,j) true).1.length = x.1.length + 1:=by simp [putX]
    rcases Zhe.mp ht with z | z
    ·rcases Zhe.mp z with z | z
     ·exact hst' t z
     ·rw [show t = (a,putX x (i,j) true) by simpa using z]
      exact ⟨ha,zzt hdo hnx hi hj (by omega) true,by show (x.1++[(i,j)]).length + a.dp <= 1000; simp; omega⟩
    ·rw [show t = (b,putX x (i,j) false) by simpa using z]
     exact ⟨hb',zzt hdo hnx hi hj (by omega) false,by show (x.1++[(i,j)]).length + b.dp <= 1000; simp; omega⟩
   ·rw [heq,Zpm,Zpm,Zkl,Zkl,Zt9,Zlg,Zlg]
    show (_ && (mayD i j m x && _)) = _
    rw [hb,Zkm,<- Zs5]
   ·rw [zf0,zf0]; show stSz st' + a.sz + b.sz <= 10000000; omega
   ·rw [Zhj,Zhj]; rfl
 ·have hst0 : st = []:=by
   cases st with
   | nil=>rfl
   | cons t st=>simp at hb
  subst hst0
  have heq : zeh m y least pp (decP as) = true:=heq
  ((try dsimp only); refine zap ?_)
  refine zaz zmg ?_
  rw [heq] at rt; exact rt
noncomputable def plPs (ps : List Pr) (n : Nat) : List Pr:=ps.filter fun p=>decide (p.2.1 < n)
theorem yb1 (g : List Nat) (k : Nat) : (toI g).idxOf (k : Int) = g.idxOf k:=by
 unfold toI
 induction g with
 | nil=>rfl
 | cons a g ih =>
  rw [Zhi,Zml,Zml,ih]
  by_cases h : a = k
  ·subst h; simp
  ·rw [show ((a : Int) == (k : Int)) = false by rw [beq_eq_false_iff_ne]; omega,show (a == k) = false by simpa using h]
theorem ybo {g : List Nat} {k : Nat} : (k : Int)∈toI g ↔ k∈g:=by
 unfold toI
 rw [Zhk]
 exact ⟨fun ⟨a,ha,e⟩=>by rw [<- show a = k by omega]; exact ha,fun h=>⟨k,h,rfl⟩⟩
theorem zhs {g : List Nat} {i : Nat} (h : i < g.length) : atG g i∈g:=by
 unfold atG
 rw [Zg0,Zg1 h]; exact Zj9 h
section
variable {G H₀ L : Hp} {ss : List Sl} {ta tb : TE} {g : List Nat} {i k : Nat}
theorem zpm (a : Ev K G H₀ L ss ta (encG g)) (b : Ev K G H₀ L ss tb (encN i)) (h : i < g.length) : Ev K G H₀ L ss (tOp (rIxL K) ta tb) (encN (atG g i)):=by
 unfold encG at a
 rw [zbv] at a
 have:=zu1 (gs:=toI g) (i:=i) (by unfold toI; rw [Zg2]; exact h)
 rw [zki] at this
 exact zho a.l b.b this
theorem znf (a : Ev K G H₀ L ss ta (encG g)) (b : Ev K G H₀ L ss tb (encN k)) (h : k∈g) : Ev K G H₀ L ss (tBM K "list" (zgf K) ta (za3 tb tNil)) (encN (g.idxOf k)):=by
 unfold encG at a
 rw [zbv] at a
 have:=zxx (K:=K) a.l b.b (ybo.mpr h)
 rw [yb1] at this
 exact this
theorem zp1 (a : Ev K G H₀ L ss ta (encG g)) : Ev K G H₀ L ss (tCB (fun xs H Q=>∃ p ys,xs = [.ref p]/\(SqL K H p ys \/ SqT K H p ys)/\Q (.int ys.length) H) (za3 ta tNil)) (encN g.length):=by
 have:=zha (K:=K) (Ev.l a)
 rw [Zg2] at this
 exact this
theorem zvo {as : List Apt} {a : Apt} (e1 : Ev K G H₀ L ss ta (encA a)) (e2 : Ev K G H₀ L ss tb (.lst (as.map encA))) : Ev K G H₀ L ss (tOp (rInD K false) ta tb) (.bl (decide (a∈as))):=by
 have : decide (encA a∈as.map encA) = decide (a∈as):=decide_eq_decide.mpr ⟨fun h=>by obtain ⟨b,hb,e⟩:=Zhk.mp h; rw [<- zct _ _ e]; exact hb,fun h=>Zhk.mpr ⟨a,h,rfl⟩⟩
 rw [<- this]
 exact yfm e1.b e2.b rfl (D.nbs_map zps as) (by show 1 <= 60; decide)
end
noncomputable abbrev Cas:=Nat × List Pr × List Apt
noncomputable def zoi (c : Cas) : D:=zry c.1 c.2.1 c.2.2
noncomputable def ycz (q : Cas × List Nat) (ds : List D) : Prop:=ds = [zoi q.1,encG q.2]/\q.1.2.1.length <= 1000
theorem zge (Z : Tx K mg ad0) : FnOk P w K mg base CX0 1 ad0.Za4 ad0.Za3 zck (SpGO K ycz fun q=>(plPs q.1.2.1 q.2.length).map encP):=by
 refine okGO Z.Za0.F zko (by rintro q ds ⟨rfl,_⟩; rfl) fun cdv A outer s H Q E hr=>⟨_,(zah (zav (znk rfl (LcOk.of (Nx:=(["case", "grouping"] : List Str)) (sc:=zag zci) (N':=(["pair", "grouping"] : List Str)) (nt:=1) (cs:=[1]) rfl rfl (by decide +kernel)) (zbb (zbs (show IxR _ (rIxT K) from zbz) (pv 0) zal (fun _ _=>rfl))) (fun _ _ _ _=>(zbk (i:=0) (show Ziv (["pair", "grouping"] : List Str) by decide +kernel) rfl (Zko rfl))) (fun _ _ _ _=>(zgt (zax zoa (zbs (show IxR _ (rIxT K) from zbz) (pv 0) zal (fun _ _=>rfl)) (zaw (show zcy _ _ (fun xs H Q=>∃ p ys,xs = [.ref p]/\(SqL K H p ys \/ SqT K H p ys)/\Q (.int ys.length) H) from zbg) (by rfl) Z.Zb0 Zmt (zab (pv 1) zae)) (zau _)))) (fun _ _ _ _=>(pv 0))))),fun G ds q hp rt=>?_⟩
 obtain ⟨⟨m,ps,as⟩,g⟩:=q
 obtain ⟨rfl,hl⟩:=hp
 have hl : ps.length <= 1000:=hl
 refine zkx (ds:=(plPs ps g.length).map encP) (zhe ps encP (fun p=>decide (p.2.1 < g.length)) encP (Ev.l (zbd (ds:=[.int m,.lst (ps.map encP),.lst (as.map encA)]) (zac rfl) zak.b rfl)) (zbq (by decide)) (by decide) (by rw [Zhm]; omega) fun p hp=>⟨_,zao,?_,fun _=>zac rfl⟩) rt
 have e : decide (p.2.1 < g.length) = decide (((p.2.1 : Nat) : Int) < ((g.length : Nat) : Int)):=decide_eq_decide.mpr (by omega)
 rw [e]
 exact zan (zrt (zbd (ds:=[.int (p.1 : Nat),.int (p.2.1 : Nat),.int p.2.2]) (zac (d:=encP p) rfl) zak.b rfl).b (zp1 (zac rfl)).b)
noncomputable def dcdG (as : List Apt) (g : List Nat) (i j : Nat) : Bool:=(decide (g.idxOf (atG g i) = i) && decide (atG g i <= atG g j)) || decide ((i,j)∈as)
noncomputable def yd4 (q : Cas × List Nat × Nat × Nat) (ds : List D) : Prop:=ds = [zoi q.1,encG q.2.1,encN q.2.2.1,encN q.2.2.2]/\q.2.2.1 < q.2.1.length/\q.2.2.2 < q.2.1.length
theorem zmh (Z : Tx K mg ad0) : FnOk P w K mg base CX0 1 ad0.Zbs ad0.Zbo zdp (SpG K yd4 fun q=>.bl (dcdG q.1.2.2 q.2.1 q.2.2.1 q.2.2.2)):=by
 refine okG Z.Zcq.F zhy (by rintro q ds ⟨rfl,_⟩; rfl) fun cdv A outer s H Q E hr=>⟨_,(zad (psn 4 zhy.nd (zfq (zbe zet (zf6 Zh7 Zl0 Zlz (show MtR _ _ (zgf K) from zh5) (pv 1) (zab (zbs (show IxR _ (rIxL K) from zcv) (pv 1) (pv 2) (fun _ _=>rfl)) zae)) (pv 2) (zau _)) (zg4 (zbe zr5 (zbs (show IxR _ (rIxL K) from zcv) (pv 1) (pv 2) (fun _ _=>rfl)) (zbs (show IxR _ (rIxL K) from zcv) (pv 1) (pv 3) (fun _ _=>rfl)) (zau _)))))
   (zah (zav (yfx (pv 4) (zg4 (zbe (show OpR _ _ (rInD K false) from zui hr.units) (zbc (zab (pv 2) (zab (pv 3) zae))) (zbs (show IxR _ (rIxT K) from zbz) (pv 0) zal (fun _ _=>rfl)) (by with_unfolding_all rfl))))))),fun G ds q hp rt=>?_⟩
 obtain ⟨⟨m,ps,as⟩,g,i,j⟩:=q
 obtain ⟨rfl,hi,hj⟩:=hp
 have hi : i < g.length:=hi
 have hj : j < g.length:=hj
 have e1 : decide (((g.idxOf (atG g i) : Nat) : Int) = ((i : Nat) : Int)) = decide (g.idxOf (atG g i) = i):=decide_eq_decide.mpr (by omega)
 have e2 : decide (((atG g i : Nat) : Int) <= ((atG g j : Nat) : Int)) = decide (atG g i <= atG g j):=decide_eq_decide.mpr (by omega)
 refine zai (zay (d:=.bl (decide (g.idxOf (atG g i) = i) && decide (atG g i <= atG g j))) (by
  rw [<- e1,<- e2]
  exact zgg (ze8 (znf (zac rfl) (zpm (zac rfl) (zac rfl) hi) (zhs hi)).b (zac rfl).b) fun _=>zsp (zpm (zac rfl) (zac rfl) hi).b (zpm (zac rfl) (zac rfl) hj).b) ?_)
 ((try dsimp only); refine zap ?_)
 exact zaz (yeb (zac rfl) fun _=>zvo (a:=(i,j)) (zbo (ds:=[.int (i : Nat),.int (j : Nat)]) (zaa (zac rfl) (zaa (zac rfl) zaf)) (small (by simp))) (zbd (ds:=[.int m,.lst (ps.map encP),.lst (as.map encA)]) (zac rfl) zak.b rfl)) rt
noncomputable def zgv (g : List Nat) (i j : Nat) : List Nat:=if g.idxOf (atG g i) = g.idxOf (atG g j) then [i,g.idxOf (atG g i),j] else (if g.idxOf (atG g i) = i then [] else [g.idxOf (atG g i)])++[i,j]++(if g.idxOf (atG g j) = j then [] else [g.idxOf (atG g j)])
noncomputable def yey (q : List Nat × Nat × Nat) (ds : List D) : Prop:=ds = [encG q.1,encN q.2.1,encN q.2.2]/\q.2.1 < q.1.length/\q.2.2 < q.1.length
theorem eqN (a b : Nat) : decide (((a : Nat) : Int) = ((b : Nat) : Int)) = decide (a = b):=decide_eq_decide.mpr (by omega)
theorem zkn (Z : Tx K mg ad0) : FnOk P w K mg base CX0 1 ad0.Za2 ad0.Za6 zcq (SpG K yey fun q=>.lst ((zgv q.1 q.2.1 q.2.2).map encN)):=by
 refine okG Z.Zbz.F zcc (by rintro q ds ⟨rfl,_⟩; rfl) fun cdv A outer s H Q E hr=>⟨_,(zad (psn 3 zcc.nd (zf6 Zh7 Zl0 Zlz (show MtR _ _ (zgf K) from zh5) (pv 0) (zab (zbs (show IxR _ (rIxL K) from zcv) (pv 0) (pv 1) (fun _ _=>rfl)) zae)))
   (zad (psn 4 zcc.nd (zf6 Zh7 Zl0 Zlz (show MtR _ _ (zgf K) from zh5) (pv 0) (zab (zbs (show IxR _ (rIxL K) from zcv) (pv 0) (pv 2) (fun _ _=>rfl)) zae)))
   (zad (zcf (zax zet (pv 3) (pv 4) (zau _)) (zah (zav (zbn (zab (pv 1) (zab (pv 3) (zab (pv 2) zae)))))) za0)
   (zad (psn 5 zcc.nd (zri (zax zet (pv 3) (pv 1) (zau _)) (zbn zae) (zbn (zab (pv 3) zae))))
   (zad (psn 6 zcc.nd (zri (zax zet (pv 4) (pv 2) (zau _)) (zbn zae) (zbn (zab (pv 4) zae))))
   (zah (zav (zby (show OpR _ _ (zmm K) from zis) (zby (show OpR _ _ (zmm K) from zis) (pv 5) (zbn (zab (pv 1) (zab (pv 2) zae)))) (pv 6))))))))),fun G ds q hp rt=>?_⟩
 obtain ⟨g,i,j⟩:=q
 obtain ⟨rfl,hi,hj⟩:=hp
 have hi : i < g.length:=hi
 have hj : j < g.length:=hj
 have rt : RtD K G H Q (.lst ((zgv g i j).map encN)):=rt
 unfold zgv at rt
 refine zai (zay (znf (zac rfl) (zpm (zac rfl) (zac rfl) hi) (zhs hi)) ?_)
 ((try dsimp only); refine zap ?_)
 refine zai (zay (znf (zac rfl) (zpm (zac rfl) (zac rfl) hj) (zhs hj)) ?_)
 ((try dsimp only); refine zap ?_)
 generalize g.idxOf (atG g i) = f at rt
 generalize g.idxOf (atG g j) = o at rt
 refine zai (zbr (b:=decide (f = o)) (zan (by rw [<- eqN]; exact ze8 (zac rfl).b (zac rfl).b)) (fun hb=>?_) (fun hb=>?_))
 ·rw [if_pos (of_decide_eq_true hb)] at rt
  exact zaz (d:=.lst [encN i,encN f,encN j]) (EvO.ev (za4 (zaa (zac rfl) (zaa (zac rfl) (zaa (zac rfl) zaf))) (small (by simp)))) rt
 rw [if_neg (of_decide_eq_false hb)] at rt
 refine za2 ?_
 ((try dsimp only); refine zap ?_)
 refine zai (zay (d:=.lst ((if f = i then [] else [f]).map encN)) (yfu (b:=decide (f = i)) (zan (by rw [<- eqN]; exact ze8 (zac rfl).b (zac rfl).b)) (fun hb=>by rw [if_pos (of_decide_eq_true hb)]; exact EvO.ev (za4 zaf (small (by simp)))) fun hb=>by rw [if_neg (of_decide_eq_false hb)]; exact EvO.ev (za4 (zaa (zac rfl) zaf) (small (by simp)))) ?_)
 ((try dsimp only); refine zap ?_)
 refine zai (zay (d:=.lst ((if o = j then [] else [o]).map encN)) (yfu (b:=decide (o = j)) (zan (by rw [<- eqN]; exact ze8 (zac rfl).b (zac rfl).b)) (fun hb=>by rw [if_pos (of_decide_eq_true hb)]; exact EvO.ev (za4 zaf (small (by simp)))) fun hb=>by rw [if_neg (of_decide_eq_false hb)]; exact EvO.ev (za4 (zaa (zac rfl) zaf) (small (by simp)))) ?_)
 ((try dsimp only); refine zap ?_)
 have l1 : (if f = i then [] else [f]).length <= 1:=by split <;> simp
 have l2 : (if o = j then [] else [o]).length <= 1:=by split <;> simp
 rw [Zhj,Zhj] at rt
 exact zaz (d:=.lst ((if f = i then [] else [f]).map encN++[encN i,encN j]++(if o = j then [] else [o]).map encN)) (EvO.ev (zkm (EvO.l (zkm (zac rfl).l (EvO.l (za4 (ds:=[encN i,encN j]) (zaa (zac rfl) (zaa (zac rfl) zaf)) (small (by simp)))) (by rw [Zhm,Zg2]; simp; omega))) (zac rfl).l (by rw [Zhm,Zhg,Zg2,Zg2]; simp; omega))) rt
noncomputable def zm3 (g : List Nat) (p : Pr) : Bool:=!decide (decide (atG g p.1 = atG g p.2.1) = decide (0 < p.2.2))
noncomputable def selG (as : List Apt) (g : List Nat) (p : Pr) : Bool:=zm3 g p && !dcdG as g p.1 p.2.1
noncomputable def rowG (g : List Nat) (p : Pr) : Row:=(zgv g p.1 p.2.1,absI p.2.2)
noncomputable def zi2 (ps : List Pr) (as : List Apt) (g : List Nat) : List Row:=((plPs ps g.length).filter (selG as g)).map (rowG g)
noncomputable def ye6 (q : Cas × List Nat) (ds : List D) : Prop:=ds = [zoi q.1,encG q.2]/\q.1.2.1.length <= 1000 /\ ∀ p∈q.1.2.1,p.1 < p.2.1
theorem zmz (Z : Tx K mg ad0) : FnOk P w K mg base CX0 2 ad0.Zbv ad0.Zbr zdu (SpG K ye6 fun q=>.lst ((zi2 q.1.2.1 q.1.2.2 q.2).map zcp)):=by
 have Zc6:=zge (P:=P) (w:=w) (base:=base) Z
 have Zft:=zmh (P:=P) (w:=w) (base:=base) Z
 have Zfc:=zkn (P:=P) (w:=w) (base:=base) Z
 refine okG Z.Zcu.F zcg (by rintro q ds ⟨rfl,_⟩; rfl) fun cdv A outer s H Q E hr=>⟨_,(zad (psn 2 zcg.nd (zbn zae))
   (zad (zb6 Zhy rfl (zbb (pcX Zc6 hr Z.Za0 (zab (pv 0) (zab (pv 1) zae)))) (zdc rfl (zar (pgn 3 zcg.nd) (zar (pgn 4 zcg.nd) (zar (pgn 5 zcg.nd) zb5)))) (zad (psn 6 zcg.nd (zbe zsk (zbe zet (zbs (show IxR _ (rIxL K) from zcv) (pv 1) (pv 3) (fun _ _=>rfl)) (zbs (show IxR _ (rIxL K) from zcv) (pv 1) (pv 4) (fun _ _=>rfl)) (zau _)) (zbe zoj (pv 5) zal (zau _)) (zau _)))
   (zah (zcf (PW.pt (zlq (zen (pv 6)) (zio (zg9 (zen (pcX Zft hr Z.Zcq (zab (pv 0) (zab (pv 1) (zab (pv 3) (zab (pv 4) zae)))))))))) (zah (zdy (zf6 Zh7 Zi0 Zi7 zcd (pv 2) (zab (zbc (zab (pcX Zfc hr Z.Zbz (zab (pv 1) (zab (pv 3) (zab (pv 4) zae)))) (zab (zaw zjf (by rfl) Z.Zeq Zta (zab (pv 5) zae)) zae))) zae)))) za0))))
   (zah (zav (pv 2))))),fun G ds q hp rt=>?_⟩
 obtain ⟨⟨m,ps,as⟩,g⟩:=q
 obtain ⟨rfl,hl,hlt⟩:=hp
 have hl : ps.length <= 1000:=hl
 have rt : RtD K G H Q (.lst ((zi2 ps as g).map zcp)):=rt
 have hpl : (plPs ps g.length).length <= 1000:=Zh1 (Ziu _ _) hl
 refine zai (zc0 (ds:=[]) (za4 zaf (small (by simp))) fun p2=>?_)
 ((try dsimp only); refine zap ?_)
 refine zai (zeq encP (plPs ps g.length) (fun k ss=>∃ v3 v4 v5 v6 : Sl,ss = [.d (zoi (m,ps,as)),.d (encG g),.o p2 (((((plPs ps g.length).take k).filter (selG as g)).map (rowG g)).map zcp),v3,v4,v5,v6]) (EvO.ev (zgu (pre:=ycz) (res:=fun q=>(plPs q.1.2.1 q.2.length).map encP) ((m,ps,as),g) (zaa (zac rfl) (zaa (zac rfl) zaf)) ⟨rfl,hl⟩)) ⟨.un,.un,.un,.un,rfl⟩ ?_ ?_)
 ·rintro L' k p ss hL hk ⟨v3,v4,v5,v6,rfl⟩
  refine ⟨_,zdd (ds:=[.int (p.1 : Nat),.int (p.2.1 : Nat),.int p.2.2]) rfl (zaq zao (zaq zao (zaq zao zb4))),fun N hN=>?_⟩
  have hpm:=Zhh.mp (Zhb hk)
  have hj : p.2.1 < g.length:=of_decide_eq_true hpm.2
  have hi : p.1 < g.length:=Zka (hlt p hpm.1) hj
  have et : (plPs ps g.length).take (k + 1) = (plPs ps g.length).take k++[p]:=by rw [Zh0,hk]; rfl
  refine zai (zay (d:=.bl (zm3 g p)) (by
   unfold zm3
   rw [<- eqN]
   exact zuv (ze8 (zpm (zac rfl) (zac rfl) hi).b (zpm (zac rfl) (zac rfl) hj).b).b (znr (zac rfl).b zak.b).b) ?_)
  ((try dsimp only); refine zap ?_)
  refine zbr (b:=selG as g p) (zif (zie (zac rfl)) fun _=>zev (zan (za5 (pre:=yd4) (res:=fun q=>.bl (dcdG q.1.2.2 q.2.1 q.2.2.1 q.2.2.2)) ((m,ps,as),g,p.1,p.2.1) (zaa (zac rfl) (zaa (zac rfl) (zaa (zac rfl) (zaa (zac rfl) zaf)))) ⟨rfl,hi,hj⟩))) (fun hb=>?_) (fun hb=>?_)
  ·have hln : ((((plPs ps g.length).take k).filter (selG as g)).map (rowG g)).length <= 1000:=by
    rw [Zg2]
    have h1:=Ziu (selG as g) ((plPs ps g.length).take k)
    have h2:=List.length_take_le k (plPs ps g.length)
    have h3 : ((plPs ps g.length).take k).length <= (plPs ps g.length).length:=by rw [Zim]; omega
    omega
   refine zc5 (d:=zcp (rowG g p)) rfl (zbo (ds:=[.lst ((zgv g p.1 p.2.1).map encN),.int (absI p.2.2)]) (zaa (za5 (pre:=yey) (res:=fun q=>.lst ((zgv q.1 q.2.1 q.2.2).map encN)) (g,p.1,p.2.1) (zaa (zac rfl) (zaa (zac rfl) (zaa (zac rfl) zaf))) ⟨rfl,hi,hj⟩) (zaa (zmc (zac rfl).b) zaf)) (small (by simp))) (by rw [Zhm,Zg2]; omega) (hN _ ⟨.d (.int (p.1 : Nat)),.d (.int (p.2.1 : Nat)),.d (.int p.2.2),.d (.bl (zm3 g p)),?_⟩)
   rw [et,Zjw,Zjg hb,Zi6,Zhj,Zhj]; rfl
  ·refine za2 (hN _ ⟨.d (.int (p.1 : Nat)),.d (.int (p.2.1 : Nat)),.d (.int p.2.2),.d (.bl (zm3 g p)),?_⟩)
   rw [et,Zjw,Zjh (by rw [hb]; decide),Zi6,Zik]; rfl
 rintro ss ⟨v3,v4,v5,v6,rfl⟩
 rw [Zig]
 refine zc6 (i:=2) rfl ?_
 ((try dsimp only); refine zap ?_)
 exact zaz (zac rfl) rt
noncomputable def zi6 (as : List Apt) (g : List Nat) (k : Nat) : Option Nat:=(Zg4 g.length).find? fun i=>decide (atG g i = k) && decide ((i,g.length)∈as)
noncomputable def papS (ps : List Pr) (as : List Apt) (least : Int) : Nat->(List Nat->Pap) × (List Nat->Nat->Pap) × (List Nat->Nat->Pap)
 | 0=>(fun _=>.nev [],fun _ _=>.nev [],fun _ _=>.nev [])
 | n + 1=>(fun g=>if zbl (plPs ps g.length) g ≥ least then .rin (zi2 ps as g) else (papS ps as least n).2.2 g 0,
   fun g k=>if (zi6 as g k).isSome then .nev [(zi6 as g k).getD 0,g.idxOf k,g.length] else (papS ps as least n).1 (g++[k]),
   fun g k=>if ngF g <= k then (papS ps as least n).1 (g++[k]) else if (g.idxOf k,g.length)∈as then (papS ps as least n).2.2 g (k + 1) else .cas (g.idxOf k) g.length ((papS ps as least n).2.1 g k) ((papS ps as least n).2.2 g (k + 1)))
noncomputable def EnvC (c : Cas) (least : Int) : Prop:=c.1 <= 7/\c.2.1.length <= 1000/\zd0 c.1 c.2.1 c.2.2 /\ ∀ h∈rgs c.1,zi4 c.2.2 h->least <= zbl c.2.1 h
noncomputable def Stp (c : Cas) (g : List Nat) : Prop:=g∈rgs g.length/\g.length <= c.1 /\ ∀ a∈c.2.2,a.2 < g.length->atG g a.1≠atG g a.2
theorem ziu {g : List Nat} (h : g∈rgs g.length) {k : Nat} : k∈g ↔ k < ngF g:=by
 rw [<- zef g,zz6 h,Zhv]
theorem zzn {g : List Nat} (h : g∈rgs g.length) {i : Nat} (hi : i < g.length) : atG g i < ngF g:=(ziu h).mp (zhs hi)
theorem zek {g : List Nat} {i k : Nat} (h : i < g.length) : atG (g++[k]) i = atG g i:=by
 unfold atG; rw [Zg0,Zg0,Zip h]
theorem zk3 {g : List Nat} {k : Nat} : atG (g++[k]) g.length = k:=by
 unfold atG; rw [Zg0,Zil (Zha _)]; simp
theorem zto {c : Cas} {least : Int} {g : List Nat} {k : Nat} (he : EnvC c least) (h : Stp c g) (hl : g.length < c.1) (hk : k <= ngF g) (hn : ∀ i < g.length,atG g i = k->(i,g.length) ∉ c.2.2) : Stp c (g++[k]):=by
 refine ⟨by rw [Zhg]; exact zhc.mpr ⟨g,h.1,k,hk,rfl⟩,by rw [Zhg]; exact hl,fun a ha hlt=>?_⟩
 have h1:=(he.2.2.1.2 a ha).1
 rw [Zhg] at hlt
 have hlt : a.2 < g.length + 1:=hlt
 rw [zek (by omega)]
 by_cases e : a.2 = g.length
 ·rw [e,zk3]
  exact fun z=>hn a.1 (by omega) z (by rw [<- e]; exact ha)
 ·rw [zek (by omega)]; exact h.2.2 a ha (by omega)
theorem zm5 {c : Cas} {least : Int} {g : List Nat} (he : EnvC c least) (h : Stp c g) (hl : g.length < c.1) : Stp c (g++[ngF g]) :=
 zto he h hl (Zha _) fun i hi z=>absurd (zzn h.1 hi) (by omega)
theorem zn4 {as : List Apt} {g : List Nat} {k : Nat} (h : (zi6 as g k).isSome = false) : ∀ i < g.length,atG g i = k->(i,g.length) ∉ as:=fun i hi e z=>by
 have h0 : zi6 as g k = none:=by cases hx : zi6 as g k with
  | none=>rfl
  | some _=>rw [hx] at h; cases h
 have:=Zqg.mp h0 i hi
 rw [decide_eq_true e,decide_eq_true z] at this
 cases this
theorem zjn {c : Cas} {least : Int} {g : List Nat} {k : Nat} (he : EnvC c least) (h : Stp c g) (hl : g.length < c.1) (hk : k < ngF g) (hn : (zi6 c.2.2 g k).isSome = false) : Stp c (g++[k]) :=
 zto he h hl (Zkw hk) (zn4 hn)
theorem yeu {c : Cas} (hg : zd0 c.1 c.2.1 c.2.2) : plPs c.2.1 c.1 = c.2.1:=Zk8.mpr fun p hp=>decide_eq_true (hg.1 p hp).2.1
theorem zjv {c : Cas} {least : Int} {g : List Nat} (he : EnvC c least) (h : Stp c g) (hb : ¬ zbl (plPs c.2.1 g.length) g ≥ least) : g.length < c.1:=by
 rcases Znp g.length c.1 with z | z
 ·exact z
 ·exfalso
  have e : g.length = c.1:=Zmq h.2.1 z
  rw [e,yeu he.2.2.1] at hb
  exact hb (he.2.2.2 g (by rw [<- e]; exact h.1) fun a ha=>h.2.2 a ha (by rw [e]; exact (he.2.2.1.2 a ha).2))
theorem zgr {m l : Nat} (h : l < m) : (m - l) * (m + 3) = (m - (l + 1)) * (m + 3) + (m + 3):=by
 rw [show m - l = m - (l + 1) + 1 by omega,Zu2]
noncomputable abbrev PQ:=Cas × List Nat × Nat × Int × Nat
noncomputable def zpx (n : Nat) (q : PQ) (ds : List D) : Prop:=ds = [zoi q.1,encG q.2.1,.int q.2.2.2.1]/\EnvC q.1 q.2.2.2.1/\Stp q.1 q.2.1/\(q.1.1 - q.2.1.length) * (q.1.1 + 3) + 1 <= q.2.2.2.2/\q.2.2.2.2 < n
noncomputable def zyq (n : Nat) (q : PQ) (ds : List D) : Prop:=ds = [zoi q.1,encG q.2.1,encN q.2.2.1,.int q.2.2.2.1]/\EnvC q.1 q.2.2.2.1/\Stp q.1 q.2.1/\(q.1.1 - q.2.1.length) * (q.1.1 + 3) <= q.2.2.2.2 + q.2.2.1 + 1/\q.2.2.2.2 < n/\q.2.1.length < q.1.1/\q.2.2.1 < ngF q.2.1
noncomputable def zs3 (n : Nat) (q : PQ) (ds : List D) : Prop:=ds = [zoi q.1,encG q.2.1,encN q.2.2.1,.int q.2.2.2.1]/\EnvC q.1 q.2.2.2.1/\Stp q.1 q.2.1/\(q.1.1 - q.2.1.length) * (q.1.1 + 3) <= q.2.2.2.2 + q.2.2.1/\q.2.2.2.2 < n/\q.2.1.length < q.1.1/\q.2.2.1 <= ngF q.2.1
noncomputable def zn0 (q : PQ) : D:=zas ((papS q.1.2.1 q.1.2.2 q.2.2.2.1 q.2.2.2.2).1 q.2.1)
noncomputable def zxv (q : PQ) : D:=zas ((papS q.1.2.1 q.1.2.2 q.2.2.2.1 q.2.2.2.2).2.1 q.2.1 q.2.2.1)
noncomputable def zsw (q : PQ) : D:=zas ((papS q.1.2.1 q.1.2.2 q.2.2.2.1 q.2.2.2.2).2.2 q.2.1 q.2.2.1)
theorem ztd {G H₀ L : Hp} {ss : List Sl} {ta tb : TE} {g : List Nat} {k : Nat} (a : Ev K G H₀ L ss ta (encG g)) (b : Ev K G H₀ L ss tb (encN k)) (h : g.length <= 100) : Ev K G H₀ L ss (tOp (zmm K) ta (tLst (za3 tb tNil))) (encG (g++[k])):=by
 unfold encG at *
 rw [Zhj]
 exact EvO.ev (zkm a.l (EvO.l (za4 (ds:=[encN k]) (zaa b zaf) (small (by simp)))) (by rw [Zhm,Zg2]; simp; omega))
theorem zo6 (Z : Tx K mg ad0) {n : Nat} (Zc4 : FnOk P w K mg base CX0 (n + 3) ad0.Zaf ad0.Zad za8 (SpG K (zs3 n) zsw)) : FnOk P w K mg base CX0 (n + 4) ad0.Zag ad0.Zae za7 (SpG K (zpx (n + 1)) zn0):=by
 have Zdq:=zic (P:=P) (w:=w) (base:=base) Z
 have Zc6:=zge (P:=P) (w:=w) (base:=base) Z
 have Zfw:=zmz (P:=P) (w:=w) (base:=base) Z
 refine okG (k:=n + 3) Z.Zam.F zka (by rintro q ds ⟨rfl,_⟩; rfl) fun cdv A outer s H Q E hr=>⟨_,(zad (zcf (zax ycw (pcX (hle:=by omega) Zdq hr Z.Zcd (zab (pcX (hle:=by omega) Zc6 hr Z.Za0 (zab (pv 0) (zab (pv 1) zae))) (zab (pv 1) zae))) (pv 2) (zau _)) (zah (zav (zbc (zab zjx (zab (pcX (hle:=by omega) Zfw hr Z.Zcu (zab (pv 0) (zab (pv 1) zae))) zae))))) za0)
   (zah (zav (pcX (hle:=by omega) Zc4 hr Z.Zaw (zab (pv 0) (zab (pv 1) (zab zal (zab (pv 2) zae)))))))),fun G ds q hp rt=>?_⟩
 obtain ⟨⟨m,ps,as⟩,g,k,least,f⟩:=q
 obtain ⟨rfl,he,hs,hf,hfn⟩:=hp
 have hf : (m - g.length) * (m + 3) + 1 <= f:=hf
 have hfn : f < n + 1:=hfn
 obtain ⟨f,rfl⟩ : ∃ f',f = f' + 1:=⟨f - 1,by omega⟩
 have hpl : ps.length <= 1000:=he.2.1
 have hgl : g.length <= 7:=Zh1 hs.2.1 he.1
 have rt : RtD K G H Q (zas (if zbl (plPs ps g.length) g ≥ least then .rin (zi2 ps as g) else (papS ps as least f).2.2 g 0)):=rt
 have eL:=zfi (plPs ps g.length) (toI g)
 rw [<- zbv,zmb] at eL
 have hin : ∀ p∈plPs ps g.length,p.1 < g.length/\p.2.1 < g.length:=fun p hp=>by
  have h1:=Zhh.mp hp
  have h2 : p.2.1 < g.length:=of_decide_eq_true h1.2
  exact ⟨Zka (he.2.2.1.1 p h1.1).1 h2,h2⟩
 refine zai (zbr (b:=decide (zbl (plPs ps g.length) g ≥ least)) (zan (ycs (i:=zbl (plPs ps g.length) g) (Ev.b (by
  rw [<- eL]
  exact zcb (pre:=zxw) (res:=zke) (zaa (EvO.ev (zgu (pre:=ycz) (res:=fun q=>(plPs q.1.2.1 q.2.length).map encP) ((m,ps,as),g) (zaa (zac rfl) (zaa (zac rfl) zaf)) ⟨rfl,hpl⟩)) (zaa (zac rfl) zaf)) ⟨plPs ps g.length,toI g,by rw [<- zbv],fun p hp=>by unfold toI; rw [Zg2]; exact hin p hp,Zh1 (Ziu _ _) hpl⟩)) (zac rfl).b)) (fun hb=>?_) (fun hb=>?_))
 ·rw [if_pos (of_decide_eq_true hb)] at rt
  exact zaz (zbo (ds:=[.str zfn,.lst ((zi2 ps as g).map zcp)]) (zaa (zgb rfl (by decide)) (zaa (za5 (pre:=ye6) (res:=fun q=>.lst ((zi2 q.1.2.1 q.1.2.2 q.2).map zcp)) ((m,ps,as),g) (zaa (zac rfl) (zaa (zac rfl) zaf)) ⟨rfl,hpl,fun p hp=>(he.2.2.1.1 p hp).1⟩) zaf)) (small (by simp))) rt
 have hb:=of_decide_eq_false hb
 rw [if_neg hb] at rt
 have hlm : g.length < m:=zjv he hs hb
 refine za2 ?_
 ((try dsimp only); refine zap ?_)
 exact zaz (za5 (pre:=zs3 n) (res:=zsw) ((m,ps,as),g,0,least,f) (zaa (zac rfl) (zaa (zac rfl) (zaa zak (zaa (zac rfl) zaf)))) ⟨rfl,he,hs,by show (m - g.length) * (m + 3) <= f + 0; omega,by show f < n; omega,hlm,Zih _⟩) rt
theorem zuk (Z : Tx K mg ad0) {n : Nat} (Za5 : FnOk P w K mg base CX0 (n + 3) ad0.Zag ad0.Zae za7 (SpG K (zpx n) zn0)) : FnOk P w K mg base CX0 (n + 4) ad0.Zao ad0.Zan zb9 (SpG K (zyq (n + 1)) zxv):=by
 refine okG (k:=n + 3) Z.Zcg.F zd3 (by rintro q ds ⟨rfl,_⟩; rfl) fun cdv A outer s H Q E hr=>⟨_,(zad (psn 4 zd3.nd (zaw zbg (by rfl) Z.Zb0 Zmt (zab (pv 1) zae)))
   (zad (zb6 Zhy rfl (zf9 (by rfl) Z.Zb7 (zab (pv 1) zae)) (zdc rfl (zar (pgn 5 zd3.nd) (zar (pgn 6 zd3.nd) zb5))) (zah (zcf (PW.pt (zlq (zax zet (pv 6) (pv 2) (zau _)) (zio (zax (show OpR _ _ (rInD K false) from zui hr.units) (zbc (zab (pv 5) (zab (pv 4) zae))) (zbs (show IxR _ (rIxT K) from zbz) (pv 0) zal (fun _ _=>rfl)) (by with_unfolding_all rfl))))) (zah (zav (zbc (zab zjx (zab (zbn (zab (pv 5) (zab (zf6 Zh7 Zl0 Zlz (show MtR _ _ (zgf K) from zh5) (pv 1) (zab (pv 2) zae)) (zab (pv 4) zae)))) zae))))) za0)))
   (zah (zav (pcX (hle:=by omega) Za5 hr Z.Zam (zab (pv 0) (zab (zby (show OpR _ _ (zmm K) from zis) (pv 1) (zbn (zab (pv 2) zae))) (zab (pv 3) zae)))))))),fun G ds q hp rt=>?_⟩
 obtain ⟨⟨m,ps,as⟩,g,k,least,f⟩:=q
 obtain ⟨rfl,he,hs,hf,hfn,hlm,hk⟩:=hp
 have hf : (m - g.length) * (m + 3) <= f + k + 1:=hf
 have hlm : g.length < m:=hlm
 have hk : k < ngF g:=hk
 have hm7 : m <= 7:=he.1
 have hng : ngF g <= g.length:=zg6 hs.1
 have hms:=zgr hlm
 have hfn : f < n + 1:=hfn
 have hgl : g.length <= 7:=Zh1 hs.2.1 he.1
 obtain ⟨f,rfl⟩ : ∃ f',f = f' + 1:=⟨f - 1,by omega⟩
 have rt : RtD K G H Q (zas (if (zi6 as g k).isSome then .nev [(zi6 as g k).getD 0,g.idxOf k,g.length] else (papS ps as least f).1 (g++[k]))):=rt
 refine zai (zay (zp1 (zac rfl)) ?_)
 ((try dsimp only); refine zap ?_)
 refine zai (zox encN g (fun t ss=>∃ v5 v6 : Sl,ss = [.d (zoi (m,ps,as)),.d (encG g),.d (encN k),.d (.int least),.d (encN g.length),v5,v6] /\ ∀ i < t,(decide (atG g i = k) && decide ((i,g.length)∈as)) = false) (zac rfl) ⟨.un,.un,rfl,fun i hi=>absurd hi (Zi2 _)⟩ ?_ ?_)
 ·rintro L' t x ss hL ht ⟨v5,v6,rfl,hno⟩
  refine ⟨_,zdd (ds:=[.int (t : Nat),encN x]) rfl (zaq zao (zaq zao zb4)),fun N hN=>?_⟩
  have hx : atG g t = x:=by unfold atG; rw [Zg0,ht]; rfl
  refine zbr (b:=decide (atG g t = k) && decide ((t,g.length)∈as)) (zif (zan (by rw [hx,<- eqN]; exact ze8 (zac rfl).b (zac rfl).b)) fun _=>zan (zvo (a:=(t,g.length)) (zbo (ds:=[.int (t : Nat),.int (g.length : Nat)]) (zaa (zac rfl) (zaa (zac rfl) zaf)) (small (by simp))) (zbd (ds:=[.int m,.lst (ps.map encP),.lst (as.map encA)]) (zac rfl) zak.b rfl))) (fun hb=>?_) (fun hb=>?_)
  ·have hX : zi6 as g k = some t:=Zm5.mpr ⟨hb,Zhv.mpr (Zg7.mp ht).1,fun j hj=>by rw [hno j hj]; rfl⟩
   rw [hX] at rt
   exact zaz (zbo (ds:=[.str zg8,.lst [encN t,encN (g.idxOf k),encN g.length]]) (zaa (zgb rfl (by decide)) (zaa (EvO.ev (za4 (zaa (zac rfl) (zaa (znf (zac rfl) (zac rfl) ((ziu hs.1).mpr hk)) (zaa (zac rfl) zaf))) (small (by simp)))) zaf)) (small (by simp))) rt
  ·refine za2 (hN _ ⟨_,_,rfl,fun i hi=>?_⟩)
   rcases Zna.mp hi with z | z
   ·exact hno i z
   ·rw [z]; exact hb
 rintro ss ⟨v5,v6,rfl,hno⟩
 ((try dsimp only); refine zap ?_)
 have hX : zi6 as g k = none:=Zqg.mpr fun i hi=>by rw [hno i hi]; rfl
 have hsn : Stp (m,ps,as) (g++[k]):=zjn he hs hlm hk (by show (zi6 as g k).isSome = false; rw [hX]; rfl)
 rw [hX] at rt
 exact zaz (za5 (pre:=zpx n) (res:=zn0) ((m,ps,as),g++[k],0,least,f) (zaa (zac rfl) (zaa (ztd (zac rfl) (zac rfl) (show g.length <= 100 by omega)) (zaa (zac rfl) zaf))) ⟨rfl,he,hsn,by show (m - (g++[k]).length) * (m + 3) + 1 <= f; rw [Zhg]; show (m - (g.length + 1)) * (m + 3) + 1 <= f; omega,by show f < n; omega⟩) rt
theorem zpu (Z : Tx K mg ad0) {n : Nat} (Za5 : FnOk P w K mg base CX0 (n + 3) ad0.Zag ad0.Zae za7 (SpG K (zpx n) zn0)) (Zfq : FnOk P w K mg base CX0 (n + 3) ad0.Zao ad0.Zan zb9 (SpG K (zyq n) zxv)) (Zc4 : FnOk P w K mg base CX0 (n + 3) ad0.Zaf ad0.Zad za8 (SpG K (zs3 n) zsw)) : FnOk P w K mg base CX0 (n + 4) ad0.Zaf ad0.Zad za8 (SpG K (zs3 (n + 1)) zsw):=by
 refine okG (k:=n + 3) Z.Zaw.F zc2 (by rintro q ds ⟨rfl,_⟩; rfl) fun cdv A outer s H Q E hr=>⟨_,(zad (zcf (zax zoj (pv 2) (zvu rfl (by rfl) Z.Zed (pv 1) (zru zlf zal)) (zau _)) (zah (zav (pcX (hle:=by omega) Za5 hr Z.Zam (zab (pv 0) (zab (zby (show OpR _ _ (zmm K) from zis) (pv 1) (zbn (zab (pv 2) zae))) (zab (pv 3) zae)))))) za0)
   (zad (psn 4 zc2.nd (zf6 Zh7 Zl0 Zlz (show MtR _ _ (zgf K) from zh5) (pv 1) (zab (pv 2) zae)))
   (zad (psn 5 zc2.nd (zaw zbg (by rfl) Z.Zb0 Zmt (zab (pv 1) zae)))
   (zad (psn 6 zc2.nd (pcX (hle:=by omega) Zc4 hr Z.Zaw (zab (pv 0) (zab (pv 1) (zab (zby zd7 (pv 2) zal) (zab (pv 3) zae))))))
   (zad (zcf (zax (show OpR _ _ (rInD K false) from zui hr.units) (zbc (zab (pv 4) (zab (pv 5) zae))) (zbs (show IxR _ (rIxT K) from zbz) (pv 0) zal (fun _ _=>rfl)) (by with_unfolding_all rfl)) (zah (zav (pv 6))) za0)
   (zah (zav (zbc (zab zjx (zab (pv 4) (zab (pv 5) (zab (pcX (hle:=by omega) Zfq hr Z.Zcg (zab (pv 0) (zab (pv 1) (zab (pv 2) (zab (pv 3) zae))))) (zab (pv 6) zae))))))))))))),fun G ds q hp rt=>?_⟩
 obtain ⟨⟨m,ps,as⟩,g,k,least,f⟩:=q
 obtain ⟨rfl,he,hs,hf,hfn,hlm,hk⟩:=hp
 have hf : (m - g.length) * (m + 3) <= f + k:=hf
 have hlm : g.length < m:=hlm
 have hk : k <= ngF g:=hk
 have hm7 : m <= 7:=he.1
 have hng : ngF g <= g.length:=zg6 hs.1
 have hms:=zgr hlm
 have hfn : f < n + 1:=hfn
 have hgl : g.length <= 7:=Zh1 hs.2.1 he.1
 obtain ⟨f,rfl⟩ : ∃ f',f = f' + 1:=⟨f - 1,by omega⟩
 have rt : RtD K G H Q (zas (if ngF g <= k then (papS ps as least f).1 (g++[k]) else if (g.idxOf k,g.length)∈as then (papS ps as least f).2.2 g (k + 1) else .cas (g.idxOf k) g.length ((papS ps as least f).2.1 g k) ((papS ps as least f).2.2 g (k + 1)))):=rt
 have eN : decide ((ngF g : Int) - 1 < ((k : Nat) : Int)) = decide (ngF g <= k):=decide_eq_decide.mpr (by omega)
 refine zai (zbr (b:=decide (ngF g <= k)) (zan (by
  rw [<- eN]
  exact znr (zac rfl).b (zs7 (ns:=toI g) (d0:=-1) (by rw [<- zbv]; exact Ev.l (zac rfl)) (zlk zak.b) (ybn g)).b)) (fun hb=>?_) (fun hb=>?_))
 ·have hb:=of_decide_eq_true hb
  rw [if_pos hb] at rt
  have ek : k = ngF g:=Zmq hk hb
  have hsn : Stp (m,ps,as) (g++[k]):=by rw [ek]; exact zm5 he hs hlm
  exact zaz (za5 (pre:=zpx n) (res:=zn0) ((m,ps,as),g++[k],0,least,f) (zaa (zac rfl) (zaa (ztd (zac rfl) (zac rfl) (show g.length <= 100 by omega)) (zaa (zac rfl) zaf))) ⟨rfl,he,hsn,by show (m - (g++[k]).length) * (m + 3) + 1 <= f; rw [Zhg]; show (m - (g.length + 1)) * (m + 3) + 1 <= f; omega,by show f < n; omega⟩) rt
 have hb:=of_decide_eq_false hb
 rw [if_neg hb] at rt
 refine za2 ?_
 ((try dsimp only); refine zap ?_)
 have hkm : k∈g:=(ziu hs.1).mpr (show k < ngF g by omega)
 refine zai (zay (znf (zac rfl) (zac rfl) hkm) ?_)
 ((try dsimp only); refine zap ?_)
 refine zai (zay (zp1 (zac rfl)) ?_)
 ((try dsimp only); refine zap ?_)
 refine zai (zay (za5 (pre:=zs3 n) (res:=zsw) ((m,ps,as),g,k + 1,least,f) (zaa (zac rfl) (zaa (zac rfl) (zaa (zd9 (i:=(k : Nat)) (j:=1) (zac rfl).b zak.b) (zaa (zac rfl) zaf)))) ⟨rfl,he,hs,by show (m - g.length) * (m + 3) <= f + (k + 1); omega,by show f < n; omega,hlm,by show k + 1 <= ngF g; omega⟩) ?_)
 ((try dsimp only); refine zap ?_)
 refine zai (zbr (b:=decide ((g.idxOf k,g.length)∈as)) (zan (zvo (a:=(g.idxOf k,g.length)) (zbo (ds:=[.int (g.idxOf k : Nat),.int (g.length : Nat)]) (zaa (zac rfl) (zaa (zac rfl) zaf)) (small (by simp))) (zbd (ds:=[.int m,.lst (ps.map encP),.lst (as.map encA)]) (zac rfl) zak.b rfl))) (fun hb=>?_) (fun hb=>?_))
 ·rw [if_pos (of_decide_eq_true hb)] at rt
  exact zaz (zac rfl) rt
 rw [if_neg (of_decide_eq_false hb)] at rt
 refine za2 ?_
 ((try dsimp only); refine zap ?_)
 exact zaz (zbo (ds:=[.str zes,encN (g.idxOf k),encN g.length,zas ((papS ps as least f).2.1 g k),zas ((papS ps as least f).2.2 g (k + 1))]) (zaa (zgb rfl (by decide)) (zaa (zac rfl) (zaa (zac rfl) (zaa (za5 (pre:=zyq n) (res:=zxv) ((m,ps,as),g,k,least,f) (zaa (zac rfl) (zaa (zac rfl) (zaa (zac rfl) (zaa (zac rfl) zaf)))) ⟨rfl,he,hs,by show (m - g.length) * (m + 3) <= f + k + 1; omega,by show f < n; omega,hlm,by show k < ngF g; omega⟩) (zaa (zac rfl) zaf))))) (small (by simp))) rt
theorem zne (Z : Tx K mg ad0) : ∀ n : Nat,FnOk P w K mg base CX0 (n + 3) ad0.Zag ad0.Zae za7 (SpG K (zpx n) zn0)/\FnOk P w K mg base CX0 (n + 3) ad0.Zao ad0.Zan zb9 (SpG K (zyq n) zxv)/\FnOk P w K mg base CX0 (n + 3) ad0.Zaf ad0.Zad za8 (SpG K (zs3 n) zsw)
 | 0=>⟨⟨fun vs H Q E h=>by obtain ⟨_,_,q,_,_,h,_⟩:=h; exact absurd h.2.2.2.2 (Zi2 _),fun A outer s H args us vs Q E _ _ _ _ h=>by obtain ⟨_,_,q,_,_,h,_⟩:=h; exact absurd h.2.2.2.2 (Zi2 _)⟩,⟨fun vs H Q E h=>by obtain ⟨_,_,q,_,_,h,_⟩:=h; exact absurd h.2.2.2.2.1 (Zi2 _),fun A outer s H args us vs Q E _ _ _ _ h=>by obtain ⟨_,_,q,_,_,h,_⟩:=h; exact absurd h.2.2.2.2.1 (Zi2 _)⟩,⟨fun vs H Q E h=>by obtain ⟨_,_,q,_,_,h,_⟩:=h; exact absurd h.2.2.2.2.1 (Zi2 _),fun A outer s H args us vs Q E _ _ _ _ h=>by obtain ⟨_,_,q,_,_,h,_⟩:=h; exact absurd h.2.2.2.2.1 (Zi2 _)⟩⟩
 | n + 1=>let ⟨h1,h2,h3⟩:=zne Z n; ⟨zo6 Z h3,zuk Z h1,zpu Z h1 h2 h3⟩
noncomputable def ycm (m : Nat) : Pap->Prop
 | .nev r=>∀ k∈r,k < m
 | .rin rows=>∀ q∈rows,∀ k∈q.1,k < m
 | .cas i j a b=>i < m/\j < m/\ycm m a/\ycm m b
theorem yex {g : List Nat} {i j m : Nat} (hi : i < g.length) (hj : j < g.length) (hm : g.length <= m) : (∀ k∈zgv g i j,k < m)/\(zgv g i j).length <= 4:=by
 have h1 : g.idxOf (atG g i) < g.length:=Ziz.mpr (zhs hi)
 have h2 : g.idxOf (atG g j) < g.length:=Ziz.mpr (zhs hj)
 unfold zgv
 split
 ·simp; omega
 ·split <;> split <;> simp <;> omega
theorem yc2 {ps : List Pr} {as : List Apt} {g : List Nat} {m : Nat} (hlt : ∀ p∈ps,p.1 < p.2.1) (hm : g.length <= m) : ∀ q∈zi2 ps as g,(∀ k∈q.1,k < m)/\q.1.length <= 4:=fun q hq=>by
 obtain ⟨p,hp,rfl⟩:=Zhk.mp hq
 have h1:=Zhh.mp (Zhh.mp hp).1
 have hj : p.2.1 < g.length:=of_decide_eq_true h1.2
 exact yex (Zka (hlt p h1.1) hj) hj hm
noncomputable def Rd : Nat->Nat->Nat
 | 0,_=>0
 | d + 1,l=>l + Rd d (l + 1)
noncomputable def PapR (n : Nat) : Pap->Prop
 | .nev r=>r.length <= 100
 | .rin rows=>rows.length <= n /\ ∀ q∈rows,q.1.length <= 100
 | .cas i j a b=>i < 8/\j < 8/\PapR n a/\PapR n b
theorem PapR.ok {n : Nat} (hn : n <= 100) : ∀ {p : Pap},PapR n p->zy4 p
 | .nev _,h=>h
 | .rin _,h=>⟨Zh1 h.1 hn,h.2⟩
 | .cas _ _ _ _,h=>⟨h.1,h.2.1,h.2.2.1.ok hn,h.2.2.2.ok hn⟩
noncomputable def PB (m b n : Nat) (p : Pap) : Prop:=PapR n p/\ycm m p/\p.dp <= b
theorem PB.mono {m b b' n : Nat} {p : Pap} (h : PB m b n p) (hb : b <= b') : PB m b' n p:=⟨h.1,h.2.1,Zh1 h.2.2 hb⟩
theorem zv0 {c : Cas} {least : Int} (he : EnvC c least) : ∀ n : Nat,
  (∀ g,Stp c g->PB c.1 (Rd (c.1 - g.length) g.length) c.2.1.length ((papS c.2.1 c.2.2 least n).1 g)) /\
  (∀ g k,Stp c g->g.length < c.1->k < ngF g->PB c.1 (Rd (c.1 - (g.length + 1)) (g.length + 1)) c.2.1.length ((papS c.2.1 c.2.2 least n).2.1 g k)) /\
  (∀ g k,Stp c g->g.length < c.1->k <= ngF g->PB c.1 (ngF g - k + Rd (c.1 - (g.length + 1)) (g.length + 1)) c.2.1.length ((papS c.2.1 c.2.2 least n).2.2 g k))
 | 0=>by
  have : ∀ b,PB c.1 b c.2.1.length (.nev []):=fun b=>⟨Zih _,fun k hk=>(by cases hk),Zih _⟩
  exact ⟨fun g _=>this _,fun g k _ _ _=>this _,fun g k _ _ _=>this _⟩
 | n + 1=>by
  obtain ⟨h1,h2,h3⟩:=zv0 he n
  have hm7:=he.1
  have len1 : ∀ (g : List Nat) (k : Nat),(g++[k]).length = g.length + 1:=fun g k=>by simp
  refine ⟨fun g hs=>?_,fun g k hs hlm hk=>?_,fun g k hs hlm hk=>?_⟩
  ·show PB _ _ _ (if _ then _ else _)
   split
   ·have hr:=yc2 (as:=c.2.2) (fun p hp=>(he.2.2.1.1 p hp).1) hs.2.1
    refine ⟨⟨?_,fun q hq=>Zh1 (hr q hq).2 (by decide)⟩,fun q hq=>(hr q hq).1,Zih _⟩
    unfold zi2 plPs
    rw [Zg2]
    exact Zh1 (Ziu _ _) (Ziu _ _)
   ·rename_i hb
    have hlm:=zjv he hs hb
    refine (h3 g 0 hs hlm (Zih _)).mono ?_
    have hng:=zg6 hs.1
    rw [show c.1 - g.length = c.1 - (g.length + 1) + 1 by omega,Rd]
    omega
  ·show PB _ _ _ (if _ then _ else _)
   have hik : g.idxOf k < g.length:=Ziz.mpr ((ziu hs.1).mpr hk)
   split
   ·rename_i hb
    obtain ⟨i,hi⟩:=Ziy.mp hb
    have hil:=Zhv.mp (Zm5.mp hi).2.1
    refine ⟨by show 3 <= 100; decide,?_,Zih _⟩
    rw [hi]
    show ∀ z∈[i,g.idxOf k,g.length],z < c.1
    simp; omega
   ·rename_i hb
    have:=h1 (g++[k]) (zjn he hs hlm hk (by simpa using hb))
    rw [len1] at this
    exact this
  ·have hng:=zg6 hs.1
   show PB _ _ _ (if _ then _ else if _ then _ else _)
   split
   ·rename_i hb
    have ek : k = ngF g:=Zmq hk hb
    have:=h1 (g++[k]) (by rw [ek]; exact zm5 he hs hlm)
    rw [len1] at this
    exact this.mono (by omega)
   ·have hkl : k < ngF g:=by omega
    have hik : g.idxOf k < g.length:=Ziz.mpr ((ziu hs.1).mpr hkl)
    have p3:=h3 g (k + 1) hs hlm hkl
    split
    ·exact p3.mono (by omega)
    ·have p2:=h2 g k hs hlm hkl
     refine ⟨⟨by omega,by omega,p2.1,p3.1⟩,⟨by omega,hlm,p2.2.1,p3.2.1⟩,?_⟩
     have d2:=p2.2.2
     have d3:=p3.2.2
     show max _ _ + 1 <= _
     omega
noncomputable def papO (m : Nat) (ps : List Pr) (as : List Apt) : Pap:=(papS ps as (zbl ps (zdv m ps as)) 71).1 []
theorem zjt {m : Nat} {ps : List Pr} {as : List Apt} (hm : m <= 7) (hl : ps.length <= 1000) (hg : zd0 m ps as) : EnvC (m,ps,as) (zbl ps (zdv m ps as)):=by
 refine ⟨hm,hl,hg,fun h hh hk=>?_⟩
 have:=(zrc hg).le h hh hk
 rw [zou] at this
 exact Int.not_lt.mp fun z=>this (.inl z)
theorem zlt (c : Cas) : Stp c []:=⟨by show []∈[[]]; simp,Zih _,fun a _ h=>absurd h (Zi2 _)⟩
theorem ygb : ∀ m,m <= 7->Rd m 0 <= 21:=by decide
theorem ydg {m n : Nat} {ps : List Pr} {as : List Apt} (hm : m <= 7) (hl : ps.length <= 100) (hg : zd0 m ps as) : PB m 21 ps.length ((papS ps as (zbl ps (zdv m ps as)) n).1 []) :=
 ((zv0 (c:=(m,ps,as)) (zjt hm (by omega) hg) n).1 [] (zlt _)).mono (ygb m hm)
theorem ya1 {m : Nat} {ps : List Pr} {as : List Apt} (hm : m <= 7) (hl : ps.length <= 100) (hg : zd0 m ps as) : PB m 21 ps.length (papO m ps as):=by
 unfold papO
 exact ydg hm hl hg
theorem yem {m : Nat} (h : m <= 7) (ps : List Pr) (as : List Apt) : fewP m ps as:=fun p hp=>by
 unfold zbi at hp
 obtain ⟨y,_,rfl⟩:=Zhk.mp hp
 have:=Ziu (fun t=>decide (ufF (zd8 ps as) t = ufF (zd8 ps as) y)) (Zg4 m)
 rw [Zjd] at this
 omega
noncomputable def ygf (ds : List D) : Prop:=∃ (m : Nat) (ps : List Pr) (as : List Apt),ds = [.int m,.lst (ps.map encP),.lst (as.map encA)]/\m <= 7/\ps.length <= 100/\as.length <= 100/\zd0 m ps as
noncomputable def zym : List D->D
 | [.int m,.lst ps,.lst as]=>zas (papO m.toNat (ps.map unP) (as.map unA))
 | _=>.non
theorem zop (m : Nat) (ps : List Pr) (as : List Apt) : zym [.int m,.lst (ps.map encP),.lst (as.map encA)] = zas (papO m ps as):=by
 show zas (papO (m : Int).toNat ((ps.map encP).map unP) ((as.map encA).map unA)) = _
 rw [zir,zfk]; rfl
theorem zqt {T0 : Addr} {G H₀ L : Hp} {ss : List Sl} {t : TA} {E : XK} {m : Nat} {ps : List Pr} {as : List Apt} (hT : HasT G T0 lamP lamQ) (a : EvAF K G H₀ L ss t [.int m,.lst (ps.map encP),.lst (as.map encA)]) (hm : m <= 7) (hl : ps.length <= 100) (hl2 : as.length <= 100) (hg : zd0 m ps as) : Ev K G H₀ L ss (zgw (SpPT K T0 lamP lamQ yao zy7) [] E t) (.tup [.int (zbl ps (zdv m ps as)),encG (zdv m ps as)]):=by
 have:=zuf (K:=K) (H₀:=H₀) (L:=L) (E:=E) (pre:=yao) (res:=zy7) hT a ⟨m,ps,as,rfl,by omega,by omega,by omega,hg,yem hm ps as⟩
 rw [znj] at this
 exact this
theorem ych (m n : Nat) (ps : List Pr) (as : List Apt) (z : Int) : zas ((papS ps as z n).1 []) = zn0 ((m,ps,as),[],0,z,n):=rfl
noncomputable def lsF (y : Wts) (f : Nat->Nat) (a : Apt) : Int:=if decide (f a.1 = f a.2) = decide (0 < wtF y.1 y.2 a) then 0 else absI (wtF y.1 y.2 a)
noncomputable def Agr (x : Dec) (f : Nat->Nat) : Prop:=∀ a∈x.1,x.2 a = decide (f a.1 = f a.2)
theorem ybp (f : Apt->Int) (l : List Apt) : sumA f l = sumI (l.map f):=by
 unfold sumA
 have : ∀ (l : List Apt) (z : Int),l.foldl (fun s a=>s + f a) z = z + sumI (l.map f):=by
  intro l
  induction l with
  | nil=>intro z; simp [sumI]
  | cons a l ih=>intro z; rw [Zks,ih,Zhi,sumI]; omega
 rw [this,Zo2]
theorem zmd : ∀ (a b : List Int),sumI (a++b) = sumI a + sumI b
 | [],b=>by simp [sumI]
 | x::a,b=>by rw [Zl3,sumI,sumI,zmd a b]; omega
theorem zvg {f : Apt->Int} (h : ∀ a,0 <= f a) : ∀ l : List Apt,0 <= sumI (l.map f)
 | []=>Zlb _
 | a::l=>by have:=zvg h l; have:=h a; rw [Zhi,sumI]; omega
theorem zl1 {f : Apt->Int} (h : ∀ a,0 <= f a) : ∀ (l1 l2 : List Apt),l1.Nodup->(∀ a∈l1,f a≠0->a∈l2)->sumI (l1.map f) <= sumI (l2.map f)
 | [],l2,_,_=>zvg h l2
 | a::l1,l2,hn,hi=>by
  have hn:=Zi5.mp hn
  rw [Zhi,sumI]
  by_cases h0 : f a = 0
  ·have:=zl1 h l1 l2 hn.2 fun b hb=>hi b (Zhd _ hb)
   omega
  ·obtain ⟨s,t,rfl⟩:=List.append_of_mem (hi a Zhl h0)
   have:=zl1 h l1 (s++t) hn.2 fun b hb hb0=>by
    have hm:=hi b (Zhd _ hb) hb0
    have hne : b≠a:=fun z=>hn.1 (by rw [<- z]; exact hb)
    rcases Zhe.mp hm with z | z
    ·exact Zhu _ z
    ·rcases Zhp.mp z with z | z
     ·exact absurd z hne
     ·exact Zg9 _ z
   rw [Zhj,zmd] at this
   rw [Zhj,Zhi,zmd,sumI]
   omega
noncomputable def usL (y : Wts) (f : Nat->Nat) (u : Usd) (a : Apt) : Int:=if lsF y f a = absI (wtF y.1 y.2 a) then u.2 a else 0
noncomputable def fstG (g : List Nat) (i : Nat) : Prop:=g.idxOf (atG g i) = i
noncomputable def zv6 (g : List Nat) (a : Apt) : Prop:=a.1 < a.2/\a.2 < g.length/\fstG g a.1/\atG g a.1 <= atG g a.2
noncomputable def zoe (g : List Nat) (k : Nat) (a : Apt) : Prop:=a.2 = g.length/\a.1 < g.length/\fstG g a.1/\atG g a.1 < k
noncomputable def zik (g : List Nat) (a : Apt) : Bool:=decide (a.2 < g.length) && decide (atG g a.1 = atG g a.2)
noncomputable def AskD (as : List Apt) (g : List Nat) (k : Nat) (x : Dec) : Prop:=x.1.Nodup/\(∀ a,a∈x.1 ↔ a∈as \/ zv6 g a \/ zoe g k a) /\ ∀ a∈x.1,x.2 a = zik g a
noncomputable def Dcd (as : List Apt) (g : List Nat) (x : Dec) : Prop:=x.1.Nodup/\(∀ a,a∈x.1 ↔ a∈as \/ zv6 g a) /\ ∀ a∈x.1,x.2 a = zik g a
theorem ycy {as : List Apt} {g : List Nat} {x : Dec} (h : Dcd as g x) : AskD as g 0 x :=
 ⟨h.1,fun a=>(h.2.1 a).trans ⟨fun z=>z.elim .inl fun y=>.inr (.inl y),fun z=>z.elim .inl fun y=>y.elim .inr fun w=>absurd w.2.2.2 (Zi2 _)⟩,h.2.2⟩
theorem zi0 {g : List Nat} {k : Nat} (h : k∈g) : g.idxOf k < g.length:=Ziz.mpr h
theorem ziw {g : List Nat} {k : Nat} (h : k∈g) : atG g (g.idxOf k) = k:=by
 unfold atG
 rw [Zg0,zph h]; rfl
theorem zky {g : List Nat} {k : Nat} (h : k∈g) : fstG g (g.idxOf k):=by unfold fstG; rw [ziw h]
theorem zwj : ∀ {g : List Nat} {i x : Nat},g[i]? = some x->g.idxOf x <= i
 | a::g,0,x,h=>by rw [show a = x by simpa using h,List.idxOf_cons_self]; exact Zha _
 | a::g,i + 1,x,h=>by
  have:=zwj (g:=g) (i:=i) (x:=x) (by simpa using h)
  rw [Zml]
  cases a == x
  ·exact Nat.succ_le_succ this
  ·exact Zih _
theorem zws {g : List Nat} {i : Nat} (h : i < g.length) : g.idxOf (atG g i) <= i:=zwj (by unfold atG; rw [Zg0,Zg1 h]; rfl)
theorem zlz {g : List Nat} {i k : Nat} (h : i < g.length) : fstG (g++[k]) i ↔ fstG g i:=by
 unfold fstG
 rw [zek h,zm0 (zhs h)]
theorem zrh {n : Nat} : ∀ {g : List Nat} {i j : Nat},g∈rgs n->i < j->j < g.length->fstG g j->atG g i < atG g j:=by
 induction n with
 | zero=>intro g i j h _ hj; rw [rgs] at h; rw [Zg3.mp h] at hj; cases hj
 | succ n ih =>
  intro g i j h hij hj hf
  obtain ⟨g',h1,y,hy,rfl⟩:=zhc.mp h
  have hl:=zhf h1
  rw [Zhg] at hj
  have hj : j < g'.length + 1:=hj
  rw [zek (by omega)]
  by_cases e : j = g'.length
  ·subst e
   rw [zk3]
   have hg : g'∈rgs g'.length:=by rw [hl]; exact h1
   have hny : y ∉ g':=fun z=>by
    have : (g'++[y]).idxOf (atG (g'++[y]) g'.length) = g'.length:=hf
    rw [zk3,zm0 z] at this
    have:=zi0 z
    omega
   have h2:=zzn hg (show i < g'.length by omega)
   have h3 : ¬ y < ngF g':=fun z=>hny ((ziu hg).mpr z)
   omega
  ·rw [zek (by omega)]
   exact ih h1 hij (by omega) ((zlz (by omega)).mp hf)
theorem zqw {as : List Apt} {g : List Nat} {x : Dec} (h : Dcd as g x) {i j : Nat} (hij : i < j) (hj : j < g.length) : dcdG as g i j = true ↔ (i,j)∈x.1:=by
 unfold dcdG
 rw [Zmo,Zhq,decide_eq_true_eq,decide_eq_true_eq,decide_eq_true_eq,h.2.1]
 exact ⟨fun z=>z.elim (fun y=>.inr ⟨hij,hj,y.1,y.2⟩) .inl,fun z=>z.elim .inr fun y=>.inl ⟨y.2.2.1,y.2.2.2⟩⟩
theorem zm1 {as : List Apt} {g : List Nat} {x : Dec} (h : Dcd as g x) {f i : Nat} (hf : f < i) (hi : i < g.length) (hff : fstG g f) (he : atG g f = atG g i) : zch x (f,i) = true:=by
 have hm : (f,i)∈x.1:=(h.2.1 _).mpr (.inr ⟨hf,hi,hff,Znq he⟩)
 unfold zch
 rw [decide_eq_true hm,h.2.2 _ hm]
 unfold zik
 rw [decide_eq_true hi,decide_eq_true he]; rfl
theorem zeb {x : Dec} {y : Wts} {a : Apt} (h : zch x a = true) : zg5 x y a = true/\a∈x.1:=by
 unfold zch at h
 rw [Zhq,decide_eq_true_eq] at h
 unfold zg5 zc8
 rw [decide_eq_true h.1,h.2]
 exact ⟨rfl,h.1⟩
theorem zg3 {a b : Nat} (h : a < b) : prF a b = (a,b):=by unfold prF; rw [Zs1 (by omega),Nat.max_eq_right (by omega)]
theorem zn7 {a b : Nat} (h : b < a) : prF a b = (b,a):=by unfold prF; rw [Zsr (by omega),Nat.max_eq_left (by omega)]
theorem zhk {x : Dec} {b : Apt} {l : List Apt} (h : b∈x.1) : (b::l).filter (fun b=>!decide (b∈x.1)) = l.filter fun b=>!decide (b∈x.1):=Zjh (by rw [decide_eq_true h]; decide)
theorem zmt {x : Dec} {b : Apt} {l : List Apt} (h : b ∉ x.1) : (b::l).filter (fun b=>!decide (b∈x.1)) = b::l.filter fun b=>!decide (b∈x.1):=Zjg (by rw [decide_eq_false h]; rfl)
theorem zqn (a b c : Nat) : zbj [a,b,c] = [prF a b,prF b c]:=rfl
theorem zhv {r : List Nat} {m : Nat} {y : Wts} {x : Dec} {a : Apt} (hr : zcx r = true) (hm : ∀ k∈r,k < m) (hnx : a ∉ x.1)
  (hl : ∀ b∈zbj r,zch x b = true \/ (b = a/\0 < wtF y.1 y.2 a)) (hg : zc8 x (gapR r) = true \/ (gapR r = a/\wtF y.1 y.2 a < 0)) (hin : (zbj r++[gapR r]).filter (fun b=>!decide (b∈x.1)) = [a]) : ze4 r m y x = true/\zb1 r x = [a]:=by
 refine ⟨?_,hin⟩
 unfold ze4
 rw [hr,Zir.mpr fun k hk=>decide_eq_true (hm k hk)]
 have ho : zb1 r x≠[]:=by unfold zb1; rw [hin]; simp
 rw [decide_eq_false ho,Zir.mpr fun b hb=>?_]
 ·show zwh x y (gapR r) = true
  unfold zwh
  rcases hg with z | ⟨z,w⟩
  ·rw [z]; rfl
  ·rw [z,decide_eq_false hnx,decide_eq_true w,Zn0,Zlg,Zuh]
 ·rcases hl b hb with z | ⟨z,w⟩
  ·exact (zeb z).1
  ·rw [z]
   unfold zg5 zc8
   rw [decide_eq_false hnx,decide_eq_false (show ¬ wtF y.1 y.2 a <= 0 by omega)]; rfl
theorem ybf {as : List Apt} {g : List Nat} {x : Dec} (h : Dcd as g x) {f o : Nat} (hg : g∈rgs g.length) (hf : f < g.length) (ho : o < g.length) (hff : fstG g f) (hfo : fstG g o) (hne : atG g f≠atG g o) : zc8 x (prF f o) = true:=by
 have key : ∀ f o,f < o->o < g.length->fstG g f->fstG g o->zc8 x (f,o) = true:=fun f o hlt ho hff hfo=>by
  have hlt2:=zrh hg hlt ho hfo
  have hm : (f,o)∈x.1:=(h.2.1 _).mpr (.inr ⟨hlt,ho,hff,Zkw hlt2⟩)
  unfold zc8
  rw [decide_eq_true hm,h.2.2 _ hm]
  unfold zik
  rw [decide_eq_false (show ¬ atG g (f,o).1 = atG g (f,o).2 from Zht hlt2),Zlt]; rfl
 rcases Nat.lt_or_gt_of_ne (fun z=>hne (by rw [z]) : f≠o) with z | z
 ·rw [zg3 z]; exact key f o z ho hff hfo
 ·rw [zn7 z]; exact key o f z hf hfo hff
theorem zmo {x : Dec} {a : Apt} (h : zc8 x a = true) : a∈x.1:=by unfold zc8 at h; rw [Zhq,decide_eq_true_eq] at h; exact h.1
theorem ya4 {as : List Apt} {g : List Nat} {x : Dec} {m : Nat} {y : Wts} {i j : Nat} (h : Dcd as g x) (hg : g∈rgs g.length) (hm : g.length <= m) (hij : i < j) (hj : j < g.length) (hnx : (i,j) ∉ x.1)
  (hw : (atG g i = atG g j/\wtF y.1 y.2 (i,j) < 0) \/ (atG g i≠atG g j/\0 < wtF y.1 y.2 (i,j))) : ze4 (zgv g i j) m y x = true/\zb1 (zgv g i j) x = [(i,j)]:=by
 have hi : i < g.length:=Zka hij hj
 have hin:=(yex hi hj hm).1
 have mi:=zhs hi
 have mj:=zhs hj
 have lf:=zws hi
 have lo:=zws hj
 have af:=ziw mi
 have ao:=ziw mj
 have ff:=zky mi
 have fo:=zky mj
 have lfg:=zi0 mi
 have log:=zi0 mj
 unfold zgv at hin ⊢
 by_cases hs : atG g i = atG g j
 ·have hwn : wtF y.1 y.2 (i,j) < 0:=by rcases hw with z | z; exact z.2; exact absurd hs z.1
  rw [<- hs] at hin ⊢
  rw [if_pos rfl] at hin ⊢
  have hne : g.idxOf (atG g i)≠i:=fun z=>hnx ((h.2.1 _).mpr (.inr ⟨hij,hj,z,Znq hs⟩))
  generalize g.idxOf (atG g i) = f at *
  have h1 : zch x (f,i) = true:=zm1 h (by omega) hi ff af
  have h2 : zch x (f,j) = true:=zm1 h (by omega) hj ff (af.trans hs)
  have eL : zbj [i,f,j] = [(f,i),(f,j)]:=by rw [zqn,zn7 (by omega),zg3 (by omega)]
  have eG : gapR [i,f,j] = (i,j):=zg3 hij
  refine zhv (by unfold zcx; rw [decide_eq_true (by simp),decide_eq_true (by simp; omega)]; rfl) hin hnx (fun b hb=>.inl ?_) (.inr ⟨eG,hwn⟩) ?_
  ·rw [eL] at hb
   rcases Zhp.mp hb with z | z
   ·rw [z]; exact h1
   ·rw [Zg3.mp z]; exact h2
  ·rw [eL,eG]
   show Zpl _ [(f,i),(f,j),(i,j)] = _
   rw [zhk (zeb (y:=y) h1).2,zhk (zeb (y:=y) h2).2,zmt hnx,Zi6]
 ·have hwp : 0 < wtF y.1 y.2 (i,j):=by rcases hw with z | z; exact absurd z.1 hs; exact z.2
  have hfo : g.idxOf (atG g i)≠g.idxOf (atG g j):=fun z=>hs (by rw [<- af,<- ao,z])
  rw [if_neg hfo] at hin ⊢
  have hpt:=ybf h hg lfg log ff fo (by rw [af,ao]; exact hs)
  have hboth : ¬ (g.idxOf (atG g i) = i/\g.idxOf (atG g j) = j):=fun z=>hnx ((h.2.1 _).mpr (.inr ⟨hij,hj,z.1,Zkw (zrh hg hij hj z.2)⟩))
  have hfj : g.idxOf (atG g i)≠j:=fun z=>hs (by rw [<- af,z])
  have hoi : g.idxOf (atG g j)≠i:=fun z=>hs (by rw [<- ao,z])
  have heldf : g.idxOf (atG g i)≠i->zch x (g.idxOf (atG g i),i) = true:=fun hn=>zm1 h (by omega) hi ff af
  have heldo : g.idxOf (atG g j)≠j->zch x (g.idxOf (atG g j),j) = true:=fun hn=>zm1 h (by omega) hj fo ao
  generalize g.idxOf (atG g i) = f at *
  generalize g.idxOf (atG g j) = o at *
  by_cases c1 : f = i
  ·have c2 : o≠j:=fun z=>hboth ⟨c1,z⟩
   rw [if_pos c1,if_neg c2] at hin ⊢
   subst c1
   have h2:=heldo c2
   show ze4 [f,j,o] m y x = true/\zb1 [f,j,o] x = _
   have eL : zbj [f,j,o] = [(f,j),(o,j)]:=by rw [zqn,zg3 hij,zn7 (by omega)]
   have eG : gapR [f,j,o] = prF f o:=rfl
   refine zhv (by unfold zcx; rw [decide_eq_true (by simp),decide_eq_true (by simp; omega)]; rfl) hin hnx (fun b hb=>?_) (.inl (by rw [eG]; exact hpt)) ?_
   ·rw [eL] at hb
    rcases Zhp.mp hb with z | z
    ·exact .inr ⟨z,hwp⟩
    ·rw [Zg3.mp z]; exact .inl h2
   ·rw [eL,eG]
    show Zpl _ [(f,j),(o,j),prF f o] = _
    rw [zmt hnx,zhk (zeb (y:=y) h2).2,zhk (zmo hpt),Zi6]
  ·have h1:=heldf c1
   by_cases c2 : o = j
   ·rw [if_neg c1,if_pos c2] at hin ⊢
    subst c2
    show ze4 [f,i,o] m y x = true/\zb1 [f,i,o] x = _
    have eL : zbj [f,i,o] = [(f,i),(i,o)]:=by rw [zqn,zg3 (by omega),zg3 hij]
    have eG : gapR [f,i,o] = prF f o:=rfl
    refine zhv (by unfold zcx; rw [decide_eq_true (by simp),decide_eq_true (by simp; omega)]; rfl) hin hnx (fun b hb=>?_) (.inl (by rw [eG]; exact hpt)) ?_
    ·rw [eL] at hb
     rcases Zhp.mp hb with z | z
     ·rw [z]; exact .inl h1
     ·exact .inr ⟨Zg3.mp z,hwp⟩
    ·rw [eL,eG]
     show Zpl _ [(f,i),(i,o),prF f o] = _
     rw [zhk (zeb (y:=y) h1).2,zmt hnx,zhk (zmo hpt),Zi6]
   ·have h2:=heldo c2
    rw [if_neg c1,if_neg c2] at hin ⊢
    show ze4 [f,i,j,o] m y x = true/\zb1 [f,i,j,o] x = _
    have eL : zbj [f,i,j,o] = [(f,i),(i,j),(o,j)]:=by
     show [prF f i,prF i j,prF j o] = _
     rw [zg3 (by omega),zg3 hij,zn7 (by omega)]
    have eG : gapR [f,i,j,o] = prF f o:=rfl
    refine zhv (by unfold zcx; rw [decide_eq_true (by simp),decide_eq_true (by simp; omega)]; rfl) hin hnx (fun b hb=>?_) (.inl (by rw [eG]; exact hpt)) ?_
    ·rw [eL] at hb
     rcases Zhp.mp hb with z | z
     ·rw [z]; exact .inl h1
     ·rcases Zhp.mp z with z | z
      ·exact .inr ⟨z,hwp⟩
      ·rw [Zg3.mp z]; exact .inl h2
    ·rw [eL,eG]
     show Zpl _ [(f,i),(i,j),(o,j),prF f o] = _
     rw [zhk (zeb (y:=y) h1).2,zmt hnx,zhk (zeb (y:=y) h2).2,zhk (zmo hpt),Zi6]
theorem zvf {ps : List Pr} (hpn : (ps.map keyP).Nodup) {p : Pr} (hp : p∈ps) : wtF (wtsP ps).1 (wtsP ps).2 (keyP p) = p.2.2:=(if_pos (Zhk.mpr ⟨p,hp,rfl⟩)).trans (zwp hpn hp)
theorem zyg {x : Dec} {g : List Nat} : ∀ L : List Pr,(L.map keyP).Nodup->(∀ p∈L,zb1 (zgv g p.1 p.2.1) x = [keyP p]) ->
  (useR x (L.map (rowG g))).1 = L.map keyP /\ ∀ p∈L,(useR x (L.map (rowG g))).2 (keyP p) = absI p.2.2:=fun L=>by
 induction L using zg2 with
 | h0=>exact fun _ _=>⟨rfl,fun p hp=>by cases hp⟩
 | hs L q ih =>
  intro hn ho
  rw [Zhj] at hn
  obtain ⟨n1,n2,n3⟩:=Zjs.mp hn
  obtain ⟨i1,i2⟩:=ih n1 fun p hp=>ho p (Zhu _ hp)
  have hq : keyP q ∉ L.map keyP:=fun z=>n3 _ z _ (Zg3.mpr rfl) rfl
  have e : useR x ((L++[q]).map (rowG g)) = addU (absI q.2.2) (useR x (L.map (rowG g))) (keyP q):=by
   rw [Zhj,Zhi,Zla,znv]
   show (zb1 (zgv g q.1 q.2.1) x).foldl _ _ = _
   rw [ho q (by simp)]; rfl
  have hk : keyP q ∉ (useR x (L.map (rowG g))).1:=by rw [i1]; exact hq
  rw [e]
  refine ⟨?_,fun p hp=>?_⟩
  ·show (if _ then _ else _) = _
   rw [if_neg hk,i1,Zhj]; rfl
  ·show (if keyP p = keyP q then _ else _) = _
   rcases Zhe.mp hp with z | z
   ·rw [if_neg fun w=>hq (by rw [<- w]; exact Zhk.mpr ⟨p,z,rfl⟩)]; exact i2 p z
   ·rw [Zg3.mp z,if_pos rfl,show wtF _ _ (keyP q) = 0 from if_neg hk,Zo2]
theorem ydf (rows : List Row) : sumR rows = sumI (rows.map (·.2)):=by
 unfold sumR
 have : ∀ (l : List Row) (z : Int),l.foldl (fun s q=>s + q.2) z = z + sumI (l.map (·.2)):=by
  intro l
  induction l with
  | nil=>intro z; simp [sumI]
  | cons a l ih=>intro z; rw [Zks,ih,Zhi,sumI]; omega
 rw [this,Zo2]
theorem zze {w : Int} (h : w≠0) : 1 <= absI w:=by unfold absI; split <;> omega
theorem ydh {c : Cas} {g : List Nat} {x : Dec} {least : Int} (hc : zd0 c.1 c.2.1 c.2.2) (hs : Stp c g) (hd : Dcd c.2.2 g x) (hpn : (c.2.1.map keyP).Nodup) (hl : zbl (plPs c.2.1 g.length) g ≥ least) : zmu (zi2 c.2.1 c.2.2 g) c.1 (wtsP c.2.1) x least = true:=by
 obtain ⟨m,ps,as⟩:=c
 have hpl : ∀ p∈plPs ps g.length,p∈ps/\p.1 < p.2.1/\p.2.1 < g.length/\p.2.2≠0:=fun p hp=>by
  have h1:=Zhh.mp hp
  have h2:=hc.1 p h1.1
  exact ⟨h1.1,h2.1,of_decide_eq_true h1.2,h2.2.2⟩
 have hkn : ((plPs ps g.length).map keyP).Nodup:=by
  unfold plPs
  exact Zk4 (Zns _ Zkj) hpn
 have hsel : ∀ p∈(plPs ps g.length).filter (selG as g),p∈plPs ps g.length/\zm3 g p = true/\keyP p ∉ x.1:=fun p hp=>by
  have h1:=Zhh.mp hp
  have h2:=h1.2
  unfold selG at h2
  rw [Zhq,Zin] at h2
  obtain ⟨_,q1,q2,_⟩:=hpl p h1.1
  exact ⟨h1.1,h2.1,fun z=>by have:=(zqw hd q1 q2).mpr z; rw [h2.2] at this; cases this⟩
 have hring : ∀ p∈(plPs ps g.length).filter (selG as g),ze4 (zgv g p.1 p.2.1) m (wtsP ps) x = true/\zb1 (zgv g p.1 p.2.1) x = [keyP p]:=fun p hp=>by
  obtain ⟨h1,h2,h3⟩:=hsel p hp
  obtain ⟨q0,q1,q2,q3⟩:=hpl p h1
  refine ya4 hd hs.1 hs.2.1 q1 q2 h3 ?_
  have hw : wtF (wtsP ps).1 (wtsP ps).2 (p.1,p.2.1) = p.2.2:=zvf hpn q0
  rw [hw]
  unfold zm3 at h2
  rw [Zin,decide_eq_false_iff_not] at h2
  by_cases hsm : atG g p.1 = atG g p.2.1
  ·rw [decide_eq_true hsm] at h2
   exact .inl ⟨hsm,by have : ¬ 0 < p.2.2:=fun z=>h2 (decide_eq_true z).symm; omega⟩
  ·rw [decide_eq_false hsm] at h2
   exact .inr ⟨hsm,Zoy fun z=>h2 (decide_eq_false z).symm⟩
 have hLn : (((plPs ps g.length).filter (selG as g)).map keyP).Nodup:=Zk4 (Zns _ Zkj) hkn
 obtain ⟨u1,u2⟩:=zyg (x:=x) (g:=g) _ hLn fun p hp=>(hring p hp).2
 unfold zmu
 rw [Zhq,Zhq,decide_eq_true_eq]
 refine ⟨Zir.mpr fun q hq=>?_,Zir.mpr fun a ha=>decide_eq_true ?_,?_⟩
 ·obtain ⟨p,hp,rfl⟩:=Zhk.mp hq
  unfold zod
  rw [Zhq,decide_eq_true_eq]
  exact ⟨zze (hpl p (hsel p hp).1).2.2.2,(hring p hp).1⟩
 ·have ha : a∈(useR x (((plPs ps g.length).filter (selG as g)).map (rowG g))).1:=ha
  rw [u1] at ha
  obtain ⟨p,hp,rfl⟩:=Zhk.mp ha
  show (useR x (((plPs ps g.length).filter (selG as g)).map (rowG g))).2 (keyP p) <= _
  rw [u2 p hp,zvf hpn (hpl p (hsel p hp).1).1]
  exact Zlb _
 ·have hsp:=zhr (zdb (atG g)) (selG as g) (plPs ps g.length)
  have e1 : sumR (zi2 ps as g) = sumI (((plPs ps g.length).filter (selG as g)).map (zdb (atG g))):=by
   rw [ydf]
   unfold zi2
   rw [Zh5]
   refine zea fun p hp=>?_
   have h2:=(hsel p hp).2.1
   unfold zm3 at h2
   rw [Zin,decide_eq_false_iff_not] at h2
   show absI p.2.2 = zdb (atG g) p
   unfold zdb
   rw [if_neg h2]
  let F : Apt->Int:=fun a=>if a∈x.1 then zhd (wtsP ps) x a else 0
  have hF : ∀ a,0 <= F a:=fun a=>by
   show 0 <= if a∈x.1 then zhd (wtsP ps) x a else 0
   split
   ·unfold zhd; split; exact zuy _; exact Zlb _
   ·exact Zlb _
  have e2 : zla (wtsP ps) x = sumI (x.1.map F):=by
   unfold zla
   rw [ybp]
   exact zea fun a ha=>(if_pos ha).symm
  have e3 : sumI (((plPs ps g.length).filter fun p=>!selG as g p).map (zdb (atG g))) = sumI ((((plPs ps g.length).filter fun p=>!selG as g p).map keyP).map F):=by
   rw [Zh5]
   refine zea fun p hp=>?_
   have h1:=Zhh.mp hp
   obtain ⟨q0,q1,q2,q3⟩:=hpl p h1.1
   show zdb (atG g) p = if keyP p∈x.1 then _ else _
   split
   ·rename_i hx
    unfold zdb zhd
    rw [zvf hpn q0,hd.2.2 _ hx]
    have : zik g (keyP p) = decide (atG g p.1 = atG g p.2.1):=by
     unfold zik
     rw [decide_eq_true (show (keyP p).2 < g.length from q2)]; rfl
    rw [this]
    by_cases hh : decide (atG g p.1 = atG g p.2.1) = decide (0 < p.2.2)
    ·rw [if_pos hh,if_neg (by rw [decide_eq_true (show decide (atG g p.1 = atG g p.2.1) = decide (p.2.2 > 0) from hh)]; decide)]
    ·rw [if_neg hh,if_pos (by rw [decide_eq_false (show ¬ decide (atG g p.1 = atG g p.2.1) = decide (p.2.2 > 0) from hh)]; decide)]
   ·rename_i hx
    have h2:=h1.2
    unfold selG at h2
    have h3 : dcdG as g p.1 p.2.1 = false:=by
     cases h : dcdG as g p.1 p.2.1 with
     | false=>rfl
     | true=>exact absurd ((zqw hd q1 q2).mp h) hx
    rw [h3,Zn0,Zlg,Zin] at h2
    unfold zm3 at h2
    rw [Zjj,decide_eq_true_eq] at h2
    unfold zdb
    rw [if_pos h2]
  have hle:=zl1 hF (((plPs ps g.length).filter fun p=>!selG as g p).map keyP) x.1 (Zk4 (Zns _ Zkj) hkn) fun a _ h=>Zoy fun z=>h (if_neg z)
  have hl2 : least <= sumI ((plPs ps g.length).map (zdb (atG g))):=hl
  show least <= zla (wtsP ps) x + sumR (zi2 ps as g)
  rw [e1,e2]
  rw [hsp,e3] at hl2
  omega
theorem zlo {g : List Nat} {k : Nat} {a : Apt} : zv6 (g++[k]) a ↔ zv6 g a \/ (a.2 = g.length/\a.1 < g.length/\fstG g a.1/\atG g a.1 <= k):=by
 unfold zv6
 rw [Zhg]
 show a.1 < a.2/\a.2 < g.length + 1/\_ ↔ _
 constructor
 ·rintro ⟨h1,h2,h3,h4⟩
  have h5 : a.1 < g.length:=by omega
  rw [zlz h5] at h3
  rw [zek h5] at h4
  by_cases e : a.2 = g.length
  ·rw [e,zk3] at h4
   exact .inr ⟨e,h5,h3,h4⟩
  ·rw [zek (by omega)] at h4
   exact .inl ⟨h1,by omega,h3,h4⟩
 ·rintro (⟨h1,h2,h3,h4⟩ | ⟨h1,h2,h3,h4⟩)
  ·exact ⟨h1,by omega,(zlz (by omega)).mpr h3,by rw [zek (by omega),zek h2]; exact h4⟩
  ·exact ⟨by omega,by omega,(zlz h2).mpr h3,by rw [zek h2,h1,zk3]; exact h4⟩
theorem znu {g : List Nat} {k : Nat} {a : Apt} (h : a.1 < a.2) (hk : a.2 = g.length->atG g a.1≠k) : zik (g++[k]) a = zik g a:=by
 unfold zik
 rw [Zhg]
 show (decide (a.2 < g.length + 1) && _) = _
 by_cases h1 : a.2 < g.length
 ·rw [zek (by omega),zek h1,decide_eq_true h1,decide_eq_true (show a.2 < g.length + 1 by omega)]
 ·rw [decide_eq_false h1]
  by_cases h2 : a.2 = g.length
  ·rw [h2,zk3,zek (by omega),decide_eq_false (hk h2),Zlt]; rfl
  ·rw [decide_eq_false (show ¬ a.2 < g.length + 1 by omega)]; rfl
theorem zqp {as : List Apt} {m : Nat} {ps : List Pr} {g : List Nat} {k : Nat} {x : Dec} (hc : zd0 m ps as) (h : AskD as g k x) : ∀ a∈x.1,a.1 < a.2:=fun a ha=>by
 rcases (h.2.1 a).mp ha with z | z | z
 ·exact (hc.2 a z).1
 ·exact z.1
 ·have:=z.1; have:=z.2.1; omega
theorem yal {as : List Apt} {m : Nat} {ps : List Pr} {g : List Nat} {x : Dec} (hc : zd0 m ps as) (hg : g∈rgs g.length) (h : AskD as g (ngF g) x) : Dcd as (g++[ngF g]) x:=by
 refine ⟨h.1,fun a=>?_,fun a ha=>?_⟩
 ·rw [h.2.1,zlo]
  refine or_congr Zqy (or_congr Zqy ?_)
  unfold zoe
  exact ⟨fun z=>⟨z.1,z.2.1,z.2.2.1,Zkw z.2.2.2⟩,fun z=>⟨z.1,z.2.1,z.2.2.1,zzn hg z.2.1⟩⟩
 ·rw [h.2.2 a ha,znu (zqp hc h a ha) fun e=>Zht (zzn hg (by have:=zqp hc h a ha; omega))]
theorem ztu {g : List Nat} {k : Nat} {a : Apt} (h1 : a.2 = g.length) (h3 : fstG g a.1) (h4 : atG g a.1 = k) : a = (g.idxOf k,g.length):=by
 unfold fstG at h3
 rw [h4] at h3
 exact Zv9 h3.symm h1
theorem yee {as : List Apt} {g : List Nat} {k : Nat} {x : Dec} (h : AskD as g k x) (hin : (g.idxOf k,g.length)∈as) : AskD as g (k + 1) x:=by
 refine ⟨h.1,fun a=>?_,h.2.2⟩
 rw [h.2.1]
 unfold zoe
 constructor
 ·rintro (z | z | ⟨z1,z2,z3,z4⟩)
  ·exact .inl z
  ·exact .inr (.inl z)
  ·exact .inr (.inr ⟨z1,z2,z3,by omega⟩)
 ·rintro (z | z | ⟨z1,z2,z3,z4⟩)
  ·exact .inl z
  ·exact .inr (.inl z)
  ·rcases Zna.mp z4 with w | w
   ·exact .inr (.inr ⟨z1,z2,z3,w⟩)
   ·exact .inl (by rw [ztu z1 z3 w]; exact hin)
theorem zoz {as : List Apt} {g : List Nat} {k : Nat} {x : Dec} (h : AskD as g k x) (hk : k∈g) (hn : (g.idxOf k,g.length) ∉ as) : (g.idxOf k,g.length) ∉ x.1:=fun z=>by
 rcases (h.2.1 _).mp z with y | y | y
 ·exact hn y
 ·exact absurd y.2.1 (Zh6 _)
 ·have h4 : atG g (g.idxOf k) < k:=y.2.2.2
  rw [ziw hk] at h4
  exact absurd h4 (Zh6 _)
theorem zhi {x : Dec} {a b : Apt} {c : Bool} : b∈(putX x a c).1 ↔ b∈x.1 \/ b = a:=by
 show b∈x.1++[a] ↔ _
 rw [Zhe,Zg3]
theorem zs5 {x : Dec} {a : Apt} {c : Bool} (h : x.1.Nodup) (hn : a ∉ x.1) : (putX x a c).1.Nodup:=Zjs.mpr ⟨h,by simp,fun b hb d hd z=>hn (by rw [<- Zg3.mp hd,<- z]; exact hb)⟩
theorem yb7 {as : List Apt} {g : List Nat} {k : Nat} {x : Dec} (h : AskD as g k x) (hk : k∈g) (hn : (g.idxOf k,g.length) ∉ as) : AskD as g (k + 1) (putX x (g.idxOf k,g.length) false):=by
 have ho:=zoz h hk hn
 refine ⟨zs5 h.1 ho,fun a=>?_,fun a ha=>?_⟩
 ·rw [zhi,h.2.1]
  unfold zoe
  constructor
  ·rintro ((z | z | ⟨z1,z2,z3,z4⟩) | z)
   ·exact .inl z
   ·exact .inr (.inl z)
   ·exact .inr (.inr ⟨z1,z2,z3,by omega⟩)
   ·rw [z]; exact .inr (.inr ⟨rfl,zi0 hk,zky hk,by show atG g (g.idxOf k) < k + 1; rw [ziw hk]; omega⟩)
  ·rintro (z | z | ⟨z1,z2,z3,z4⟩)
   ·exact .inl (.inl z)
   ·exact .inl (.inr (.inl z))
   ·rcases Zna.mp z4 with w | w
    ·exact .inl (.inr (.inr ⟨z1,z2,z3,w⟩))
    ·exact .inr (ztu z1 z3 w)
 ·show (if a = _ then false else x.2 a) = _
  split
  ·rename_i e
   rw [e]
   unfold zik
   rw [decide_eq_false (Zh6 _)]; rfl
  ·rename_i e
   exact h.2.2 a ((zhi.mp ha).resolve_right e)
theorem zxh {as : List Apt} {m : Nat} {ps : List Pr} {g : List Nat} {k : Nat} {x : Dec} (hc : zd0 m ps as) (h : AskD as g k x) (hk : k∈g) (hn : (g.idxOf k,g.length) ∉ as) (hh : ∀ i < g.length,atG g i = k->(i,g.length) ∉ as) : Dcd as (g++[k]) (putX x (g.idxOf k,g.length) true):=by
 have ho:=zoz h hk hn
 refine ⟨zs5 h.1 ho,fun a=>?_,fun a ha=>?_⟩
 ·rw [zhi,h.2.1,zlo]
  unfold zoe
  constructor
  ·rintro ((z | z | ⟨z1,z2,z3,z4⟩) | z)
   ·exact .inl z
   ·exact .inr (.inl z)
   ·exact .inr (.inr ⟨z1,z2,z3,by omega⟩)
   ·rw [z]; exact .inr (.inr ⟨rfl,zi0 hk,zky hk,by show atG g (g.idxOf k) <= k; rw [ziw hk]; exact Zha _⟩)
  ·rintro (z | z | ⟨z1,z2,z3,z4⟩)
   ·exact .inl (.inl z)
   ·exact .inl (.inr (.inl z))
   ·rcases Nat.lt_or_eq_of_le z4 with w | w
    ·exact .inl (.inr (.inr ⟨z1,z2,z3,w⟩))
    ·exact .inr (ztu z1 z3 w)
 ·show (if a = _ then true else x.2 a) = _
  split
  ·rename_i e
   rw [e]
   unfold zik
   rw [Zhg,decide_eq_true (show (g.idxOf k,g.length).2 < g.length + [k].length from Zpc _)]
   show true = (true && decide (atG (g++[k]) (g.idxOf k) = atG (g++[k]) g.length))
   rw [zek (zi0 hk),zk3,ziw hk,decide_eq_true rfl]; rfl
  ·rename_i e
   have ha:=(zhi.mp ha).resolve_right e
   rw [h.2.2 a ha,znu (zqp hc h a ha) fun e2 z=>?_]
   rcases (h.2.1 a).mp ha with w | w | w
   ·refine hh a.1 (by have:=zqp hc h a ha; omega) z ?_
    rw [<- e2]; exact w
   ·exact absurd e2 (Zht w.2.1)
   ·exact absurd z (Zht w.2.2.2)
theorem zx3 {as : List Apt} {g : List Nat} {k i m : Nat} {x : Dec} (h : AskD as g k x) (hm : g.length < m) (hk : k∈g) (hn : (g.idxOf k,g.length) ∉ as) (hi : i < g.length) (hik : atG g i = k) (hia : (i,g.length)∈as) : zh9 [i,g.idxOf k,g.length] m (putX x (g.idxOf k,g.length) true) = true:=by
 have hne : g.idxOf k≠i:=fun z=>hn (by rw [z]; exact hia)
 have hle : g.idxOf k <= i:=by rw [<- hik]; exact zws hi
 have hlt:=zi0 hk
 have hat:=ziw hk
 have hf:=zky hk
 generalize g.idxOf k = f at *
 unfold zh9
 have eL : zbj [i,f,g.length] = [(f,i),(f,g.length)]:=by rw [zqn,zn7 (by omega),zg3 (by omega)]
 have eG : gapR [i,f,g.length] = (i,g.length):=zg3 hi
 have hr : zcx [i,f,g.length] = true:=by unfold zcx; rw [decide_eq_true (by simp),decide_eq_true (by simp; omega)]; rfl
 have hfi : (f,i)∈x.1:=(h.2.1 _).mpr (.inr (.inl ⟨by show f < i; omega,hi,hf,Znq (hat.trans hik.symm)⟩))
 have h1 : zch (putX x (f,g.length) true) (f,i) = true:=by
  unfold zch
  rw [decide_eq_true (zhi.mpr (.inl hfi)),show (putX x (f,g.length) true).2 (f,i) = x.2 (f,i) from if_neg (fun z=>by injection z with _ z; omega),h.2.2 _ hfi]
  unfold zik
  rw [decide_eq_true (show (f,i).2 < g.length from hi),decide_eq_true (show atG g (f,i).1 = atG g (f,i).2 from hat.trans hik.symm)]; rfl
 have h2 : zch (putX x (f,g.length) true) (f,g.length) = true:=by
  unfold zch
  rw [decide_eq_true (zhi.mpr (.inr rfl)),show (putX x (f,g.length) true).2 (f,g.length) = true from if_pos rfl]; rfl
 have hig : (i,g.length)∈x.1:=(h.2.1 _).mpr (.inl hia)
 have h3 : zc8 (putX x (f,g.length) true) (i,g.length) = true:=by
  unfold zc8
  rw [decide_eq_true (zhi.mpr (.inl hig)),show (putX x (f,g.length) true).2 (i,g.length) = x.2 (i,g.length) from if_neg (fun z=>by injection z with z _; omega),h.2.2 _ hig]
  unfold zik
  rw [decide_eq_false (Zh6 _)]; rfl
 rw [hr,eL,eG,h3,Zir.mpr fun z hz=>decide_eq_true (show z < m by simp at hz; omega)]
 show (List.all [(f,i),(f,g.length)] (zch _) && true) = true
 rw [Zkl,Zkl,h1,h2]; rfl
theorem yev {as : List Apt} {g : List Nat} {k m : Nat} {x : Dec} (h : AskD as g k x) (hm : g.length < m) (hk : k∈g) (hn : (g.idxOf k,g.length) ∉ as) : mayD (g.idxOf k) g.length m x = true:=by
 have hlt:=zi0 hk
 unfold mayD
 rw [decide_eq_true (show g.idxOf k < m by omega),decide_eq_true hm,decide_eq_true hlt,decide_eq_false (zoz h hk hn)]; rfl
theorem zny {c : Cas} {least : Int} (he : EnvC c least) (hpn : (c.2.1.map keyP).Nodup) : ∀ n : Nat,
  (∀ g x,Stp c g->Dcd c.2.2 g x->(c.1 - g.length) * (c.1 + 3) + 1 <= n->zeh c.1 (wtsP c.2.1) least ((papS c.2.1 c.2.2 least n).1 g) x = true) /\
  (∀ g k x,Stp c g->g.length < c.1->k < ngF g->(g.idxOf k,g.length) ∉ c.2.2->AskD c.2.2 g k x->(c.1 - g.length) * (c.1 + 3) <= n + k + 1->zeh c.1 (wtsP c.2.1) least ((papS c.2.1 c.2.2 least n).2.1 g k) (putX x (g.idxOf k,g.length) true) = true) /\
  (∀ g k x,Stp c g->g.length < c.1->k <= ngF g->AskD c.2.2 g k x->(c.1 - g.length) * (c.1 + 3) <= n + k->zeh c.1 (wtsP c.2.1) least ((papS c.2.1 c.2.2 least n).2.2 g k) x = true)
 | 0=>by
  refine ⟨fun g x _ _ h=>absurd h (by omega),fun g k x hs hlm hk _ _ h=>?_,fun g k x hs hlm hk _ h=>?_⟩
  ·have:=zg6 hs.1; have:=zgr hlm; omega
  ·have:=zg6 hs.1; have:=zgr hlm; omega
 | n + 1=>by
  obtain ⟨h1,h2,h3⟩:=zny he hpn n
  have hc:=he.2.2.1
  have len1 : ∀ (g : List Nat) (k : Nat),(g++[k]).length = g.length + 1:=fun g k=>by simp
  refine ⟨fun g x hs hd hf=>?_,fun g k x hs hlm hk hn hd hf=>?_,fun g k x hs hlm hk hd hf=>?_⟩
  ·show zeh _ _ _ (if _ then _ else _) _ = true
   split
   ·rename_i hb
    exact ydh hc hs hd hpn hb
   ·rename_i hb
    exact h3 g 0 x hs (zjv he hs hb) (Zih _) (ycy hd) (by omega)
  ·have hkm:=(ziu hs.1).mpr hk
   have hng:=zg6 hs.1
   have hms:=zgr hlm
   show zeh _ _ _ (if _ then _ else _) _ = true
   split
   ·rename_i hb
    obtain ⟨i,hi⟩:=Ziy.mp hb
    obtain ⟨p1,p2,_⟩:=Zm5.mp hi
    rw [Zhq,decide_eq_true_eq,decide_eq_true_eq] at p1
    rw [hi]
    exact zx3 hd hlm hkm hn (Zhv.mp p2) p1.1 p1.2
   ·rename_i hb
    have hb : (zi6 c.2.2 g k).isSome = false:=by simpa using hb
    exact h1 (g++[k]) _ (zjn he hs hlm hk hb) (zxh hc hd hkm hn (zn4 hb)) (by rw [len1]; omega)
  ·have hng:=zg6 hs.1
   have hms:=zgr hlm
   show zeh _ _ _ (if _ then _ else if _ then _ else _) _ = true
   split
   ·rename_i hb
    have ek : k = ngF g:=Zmq hk hb
    subst ek
    exact h1 (g++[ngF g]) x (zm5 he hs hlm) (yal hc hs.1 hd) (by rw [len1]; omega)
   ·have hkl : k < ngF g:=by omega
    have hkm:=(ziu hs.1).mpr hkl
    split
    ·rename_i hin
     exact h3 g (k + 1) x hs hlm hkl (yee hd hin) (by omega)
    ·rename_i hin
     show (mayD _ _ _ _ && (_ && _)) = true
     rw [yev hd hlm hkm hin,h2 g k x hs hlm hkl hin hd (by omega),h3 g (k + 1) _ hs hlm hkl (yb7 hd hkm hin) (by omega)]; rfl
theorem ycv {as : List Apt} (h : as.Nodup) : Dcd as [] (decP as):=⟨h,fun a=>⟨.inl,fun z=>z.elim id fun y=>absurd y.2.1 (Zi2 _)⟩,fun a _=>by show false = (decide (a.2 < 0) && _); rw [decide_eq_false (Zi2 _)]; rfl⟩
theorem zva {m n : Nat} {ps : List Pr} {as : List Apt} (hm : m <= 7) (hl : ps.length <= 1000) (hg : zd0 m ps as) (hpn : (ps.map keyP).Nodup) (han : as.Nodup) (hn : 71 <= n) : zeh m (wtsP ps) (zbl ps (zdv m ps as)) ((papS ps as (zbl ps (zdv m ps as)) n).1 []) (decP as) = true:=by
 refine (zny (c:=(m,ps,as)) (zjt hm hl hg) hpn n).1 [] _ (zlt _) (ycv han) ?_
 show (m - 0) * (m + 3) + 1 <= n
 have h1 : (m - 0) * (m + 3) <= 7 * 10:=Ztf (by omega) (by omega)
 omega
noncomputable def Tz : Nat->Nat->Nat
 | 0,_=>1
 | d + 1,g=>g * (1 + Tz d g) + Tz d (g + 1)
theorem zlg : ∀ d g,1 <= Tz d g
 | 0,_=>Zha _
 | d + 1,g=>by rw [Tz]; have:=zlg d (g + 1); omega
theorem zta {c : Cas} {least : Int} (he : EnvC c least) : ∀ n : Nat,
  (∀ g,Stp c g->((papS c.2.1 c.2.2 least n).1 g).sz <= Tz (c.1 - g.length) (ngF g)) /\
  (∀ g k,Stp c g->g.length < c.1->k < ngF g->((papS c.2.1 c.2.2 least n).2.1 g k).sz <= Tz (c.1 - (g.length + 1)) (ngF g)) /\
  (∀ g k,Stp c g->g.length < c.1->k <= ngF g->((papS c.2.1 c.2.2 least n).2.2 g k).sz <= (ngF g - k) * (1 + Tz (c.1 - (g.length + 1)) (ngF g)) + Tz (c.1 - (g.length + 1)) (ngF g + 1))
 | 0=>⟨fun g _=>zlg _ _,fun g k _ _ _=>zlg _ _,fun g k _ _ _=>Zh1 (zlg _ _) (Nat.le_add_left _ _)⟩
 | n + 1=>by
  obtain ⟨h1,h2,h3⟩:=zta he n
  have len1 : ∀ (g : List Nat) (k : Nat),(g++[k]).length = g.length + 1:=fun g k=>by simp
  refine ⟨fun g hs=>?_,fun g k hs hlm hk=>?_,fun g k hs hlm hk=>?_⟩
  ·show (if _ then _ else _ : Pap).sz <= _
   split
   ·exact zlg _ _
   ·rename_i hb
    have hlm:=zjv he hs hb
    have:=h3 g 0 hs hlm (Zih _)
    rw [show c.1 - g.length = c.1 - (g.length + 1) + 1 by omega,Tz]
    exact this
  ·show (if _ then _ else _ : Pap).sz <= _
   split
   ·exact zlg _ _
   ·rename_i hb
    have:=h1 (g++[k]) (zjn he hs hlm hk (by simpa using hb))
    rw [len1,zii,show max (ngF g) (k + 1) = ngF g by omega] at this
    exact this
  ·show (if _ then _ else if _ then _ else _ : Pap).sz <= _
   split
   ·rename_i hb
    have ek : k = ngF g:=Zmq hk hb
    subst ek
    have:=h1 (g++[ngF g]) (zm5 he hs hlm)
    rw [len1,zii,show max (ngF g) (ngF g + 1) = ngF g + 1 by omega] at this
    omega
   ·have hkl : k < ngF g:=by omega
    have p3:=h3 g (k + 1) hs hlm hkl
    have em : (ngF g - k) * (1 + Tz (c.1 - (g.length + 1)) (ngF g)) = (ngF g - (k + 1)) * (1 + Tz (c.1 - (g.length + 1)) (ngF g)) + (1 + Tz (c.1 - (g.length + 1)) (ngF g)):=by rw [show ngF g - k = ngF g - (k + 1) + 1 by omega,Zu2]
    rw [em]
    split
    ·omega
    ·have p2:=h2 g k hs hlm hkl
     show ((papS c.2.1 c.2.2 least n).2.1 g k).sz + ((papS c.2.1 c.2.2 least n).2.2 g (k + 1)).sz + 1 <= _
     omega
theorem yge : ∀ m,m <= 7->Tz m 0 <= 40000:=by decide
theorem yaj {m n : Nat} {ps : List Pr} {as : List Apt} (hm : m <= 7) (hl : ps.length <= 1000) (hg : zd0 m ps as) : ((papS ps as (zbl ps (zdv m ps as)) n).1 []).sz <= 40000 :=
 Zh1 ((zta (c:=(m,ps,as)) (zjt hm hl hg) n).1 [] (zlt _)) (yge m hm)
noncomputable def kyP (p : Pr) : Apt:=(p.1,p.2.1)
noncomputable def Bef (k q : Nat) (as : List Apt) : Prop:=as.Nodup /\ ∀ a∈as,a.1 < k \/ (a.1 = k/\a.2 < k + 1 + q)
theorem Bef.put {k q : Nat} {as : List Apt} (h : Bef k q as) : Bef k (q + 1) (as++[(k,k + 1 + q)]):=by
 refine ⟨Zjs.mpr ⟨h.1,by simp,fun b hb c hc z=>?_⟩,fun a ha=>?_⟩
 ·rw [show c = (k,k + 1 + q) by simpa using hc] at z
  subst z
  rcases h.2 _ hb with z | z
  ·exact absurd z (Zh6 _)
  ·exact absurd z.2 (Zh6 _)
 ·rcases Zhe.mp ha with z | z
  ·exact (h.2 a z).imp id fun y=>⟨y.1,by omega⟩
  ·rw [show a = (k,k + 1 + q) by simpa using z]; exact .inr ⟨rfl,by show k + 1 + q < k + 1 + (q + 1); omega⟩
theorem Bef.mono {k q : Nat} {as : List Apt} (h : Bef k q as) : Bef k (q + 1) as:=⟨h.1,fun a ha=>(h.2 a ha).imp id fun y=>⟨y.1,by omega⟩⟩
theorem Bef.next {k q : Nat} {as : List Apt} (h : Bef k q as) : Bef (k + 1) 0 as:=⟨h.1,fun a ha=>.inl (by rcases h.2 a ha with y | y <;> omega)⟩
theorem depL {α : Type} (enc : α->D) (n : Nat) (h : ∀ a,(enc a).dep <= n) (l : List α) : (D.lst (l.map enc)).dep <= n + 1:=by
 show D.deps (l.map enc) + 1 <= n + 1
 have : D.deps (l.map enc) <= n:=by
  induction l with
  | nil=>exact Zih _
  | cons a l ih=>exact Zqk.mpr ⟨h a,ih⟩
 omega
theorem ybm {α : Type} (enc : α->D) (l : List α) : decide (D.lst (l.map enc) = .lst []) = decide (l = []):=decide_eq_decide.mpr (by cases l <;> simp)
theorem ztv (q : Row) : (zcp q).nb = true:=by
 show D.nbs [.lst (q.1.map encN),.int q.2] = true
 have : (D.lst (q.1.map encN)).nb = true:=D.nbs_map (fun _=>rfl) q.1
 unfold D.nbs
 rw [this]; rfl
theorem zr7 (q : Row) : (zcp q).dep <= 2:=by
 have : (D.lst (q.1.map encN)).dep <= 0 + 1:=depL encN 0 (fun _=>Zha _) q.1
 show D.deps [.lst (q.1.map encN),.int q.2] + 1 <= 2
 have h2 : D.deps [.lst (q.1.map encN),.int q.2] <= 1:=Zqk.mpr ⟨this,by simp [D.deps,D.dep]⟩
 omega
noncomputable def cellF (ns : List Int) (k : Int) : Int:=ns.getD k.toNat 0
theorem zo8 (ns : List Int) (k : Int) : zf5 [.lst (ns.map .int),.int k] = .int (cellF ns k):=by
 show (ns.map D.int).getD k.toNat (.int 0) = _
 unfold cellF
 rw [Zg0,Zg0,Zg8]
 cases ns[k.toNat]? <;> rfl
theorem zl9 {G H₀ L : Hp} {ss : List Sl} {i : Nat} {tk : TE} {E : XK} {ns : List Int} {k : Int} (h : ss[i]? = some (.d (.lst (ns.map .int)))) (e : Ev K G H₀ L ss tk (.int k)) (hk : 0 <= k) : Ev K G H₀ L ss (zgw (SpD K zor zf5) [] E (za3 (tVar i) (za3 tk tNil))) (.int (cellF ns k)):=by
 rw [<- zo8]
 exact zcb (pre:=zor) (res:=zf5) (zaa (zac h) (zaa e zaf)) ⟨ns,k,rfl,hk⟩
theorem zk2 : ∀ p : Pap,(zas p).nb = true
 | .nev r=>by
  have : (D.lst (r.map encN)).nb = true:=D.nbs_map (fun _=>rfl) r
  show D.nbs [.str zg8,.lst (r.map encN)] = true
  simp only [D.nbs,this]; rfl
 | .rin rows=>by
  have : (D.lst (rows.map zcp)).nb = true:=D.nbs_map ztv rows
  show D.nbs [.str zfn,.lst (rows.map zcp)] = true
  simp only [D.nbs,this]; rfl
 | .cas i j a b=>by
  show D.nbs [.str zes,encN i,encN j,zas a,zas b] = true
  simp only [D.nbs,zk2 a,zk2 b]; rfl
theorem ziq : ∀ p : Pap,(zas p).dep <= p.dp + 4
 | .nev r=>by
  have:=depL encN 0 (fun _=>Zha _) r
  show max 0 (max (D.lst (r.map encN)).dep 0) + 1 <= 0 + 4
  omega
 | .rin rows=>by
  have:=depL zcp 2 zr7 rows
  show max 0 (max (D.lst (rows.map zcp)).dep 0) + 1 <= 0 + 4
  omega
 | .cas i j a b=>by
  have h1:=ziq a
  have h2:=ziq b
  show max 0 (max 0 (max 0 (max (zas a).dep (max (zas b).dep 0)))) + 1 <= max a.dp b.dp + 1 + 4
  omega
theorem zsy {st : List Pap} (h : ∀ p∈st,p.dp <= 30) : (D.lst (st.map zas)).dep <= 60:=by
 show D.deps (st.map zas) + 1 <= 60
 have : D.deps (st.map zas) <= 34:=by
  induction st with
  | nil=>exact Zih _
  | cons a st ih=>exact Zqk.mpr ⟨Zh1 (ziq a) (by have:=h a Zhl; omega),ih fun p hp=>h p (Zhd _ hp)⟩
 omega
noncomputable def stS (st : List Pap) : Nat:=st.foldr (fun p n=>p.sz + n) 0
theorem zmk (st : List Pap) (p : Pap) : stS (st++[p]) = stS st + p.sz:=by
 induction st with
 | nil=>simp [stS]
 | cons a st ih=>simp only [stS,Zl3,Znk] at ih ⊢; omega
theorem zw7 (st : List Pap) : st.length <= stS st:=by
 induction st with
 | nil=>simp [stS]
 | cons a st ih =>
  have:=zml a
  simp only [stS,Znk,Zjo] at ih ⊢
  omega
noncomputable def yfl (p : Pap) (ds : List D) : Prop:=ds = [zas p]/\p.sz <= 1000000/\p.dp <= 30
theorem zow (Z : Tx K mg ad0) : FnOk P w K mg base CX0 1 ad0.Zch ad0.Zcz ze9 (SpG K yfl fun p=>.int (p.sz : Nat)):=by
 refine okG Z.Zdt.F zeg (by rintro q ds ⟨rfl,_⟩; rfl) fun cdv A outer s H Q E hr=>⟨_,(zad (psn 1 zeg.nd zal)
   (zad (psn 2 zeg.nd (zbn (zab (pv 0) zae)))
   (zad (zq3 Zhy (zax (show OpR _ _ (rNeD K) from yfh hr.units) (pv 2) (zbn zae) (zau _)) (zad (psn 3 zeg.nd (zun Zh7 Zqi Zud zzy (pv 2)))
   (zad (psn 1 zeg.nd (zby zd7 (pv 1) zal))
   (zah (zcf (zax zet (zbs (show IxR _ (rIxT K) from zbz) (pv 3) zal (fun _ _=>rfl)) zjx (zau _)) (zah (zdy (zf6 Zh7 Zsu F.type_list_extend ztq (pv 2) (zab (zbn (zab (zbs (show IxR _ (rIxT K) from zbz) (pv 3) zal (fun _ _=>rfl)) (zab (zbs (show IxR _ (rIxT K) from zbz) (pv 3) zal (fun _ _=>rfl)) zae))) zae)))) za0)))))
   (zah (zav (pv 1)))))),fun G ds q hp rt=>?_⟩
 obtain ⟨rfl,hsz,hdp⟩:=hp
 refine zai (zay zak ?_)
 ((try dsimp only); refine zap ?_)
 refine zai (zc0 (ds:=[zas q]) (za4 (zaa (zac rfl) zaf) (small (by simp))) fun p=>?_)
 ((try dsimp only); refine zap ?_)
 refine zai (zqa (fun n ss=>∃ (st : List Pap) (z : Nat) (v3 : Sl),n = stS st/\z + stS st = q.sz/\(∀ p∈st,p.dp <= 30)/\ss = [.d (zas q),.d (.int (z : Nat)),.o p (st.map zas),v3]) (stS [q]) ⟨[q],0,.un,rfl,by simp [stS],fun p hp=>by rw [Zg3.mp hp]; exact hdp,rfl⟩ ?_)
 rintro n ss ⟨st,z,v3,rfl,hz,hd30,rfl⟩
 have hbl:=zw7 st
 refine ⟨!decide (st = []),zan (by
  rw [<- ybm zas]
  exact yea (zl5 rfl).b (EvO.ev (za4 zaf (small (by simp)))).b (D.nbs_map zk2 st) rfl (zsy hd30)),fun hb N hN=>?_,fun hb=>?_⟩
 ·rw [Zin,decide_eq_false_iff_not] at hb
  obtain ⟨st',t,rfl⟩ : ∃ st' t,st = st'++[t]:=⟨st.dropLast,st.getLast hb,(Zpd hb).symm⟩
  rw [zmk] at hN hz
  have hd3 : ∀ p∈st',p.dp <= 30:=fun p hp=>hd30 p (Zhu _ hp)
  have hdt:=hd30 t (by simp)
  have hpos:=zml t
  rw [Zhj]
  have hl1:=zw7 st'
  refine zai (znp (ds:=st'.map zas) (d:=zas t) rfl (by decide) ?_)
  ((try dsimp only); refine zap ?_)
  refine zai (zay (d:=.int ((z + 1 : Nat) : Int)) (zd9 (i:=(z : Nat)) (j:=1) (zac rfl).b zak.b) ?_)
  ((try dsimp only); refine zap ?_)
  cases t with
  | nev r =>
   refine zbr (b:=false) (zan (zhn (l:=zg8) (m:=zes) (zbd (ds:=[.str zg8,.lst (r.map encN)]) (zac rfl) zak.b rfl).b (zgb rfl (by decide)).b)) (fun h=>by cases h) fun _=>?_
   exact za2 (hN _ _ (by simp [Pap.sz]) ⟨st',z + 1,.d (zas (.nev r)),rfl,by have : (Pap.nev r).sz = 1:=rfl; omega,hd3,rfl⟩)
  | rin rows =>
   refine zbr (b:=false) (zan (zhn (l:=zfn) (m:=zes) (zbd (ds:=[.str zfn,.lst (rows.map zcp)]) (zac rfl) zak.b rfl).b (zgb rfl (by decide)).b)) (fun h=>by cases h) fun _=>?_
   exact za2 (hN _ _ (by simp [Pap.sz]) ⟨st',z + 1,.d (zas (.rin rows)),rfl,by have : (Pap.rin rows).sz = 1:=rfl; omega,hd3,rfl⟩)
  | cas i j a b =>
   have ec : (Pap.cas i j a b).sz = a.sz + b.sz + 1:=rfl
   have eS : stS (st'++[a]++[b]) = stS st' + a.sz + b.sz:=by rw [zmk,zmk]
   refine zbr (b:=true) (zan (zhn (l:=zes) (m:=zes) (zbd (ds:=[.str zes,encN i,encN j,zas a,zas b]) (zac rfl) zak.b rfl).b (zgb rfl (by decide)).b)) (fun _=>?_) fun h=>by cases h
   refine zs8 (es:=[zas a,zas b]) rfl (za4 (zaa (zbd (ds:=[.str zes,encN i,encN j,zas a,zas b]) (zac rfl) zak.b rfl) (zaa (zbd (ds:=[.str zes,encN i,encN j,zas a,zas b]) (zac rfl) zak.b rfl) zaf)) (small (by simp))) (by rw [Zhm,Zg2]; simp; omega) (hN (stS (st'++[a]++[b])) _ (by rw [eS,ec]; omega) ⟨st'++[a]++[b],z + 1,.d (zas (.cas i j a b)),rfl,by rw [eS]; omega,fun p hp=>?_,?_⟩)
   ·have hdt : max a.dp b.dp + 1 <= 30:=hdt
    rcases Zhe.mp hp with w | w
    ·rcases Zhe.mp w with w | w
     ·exact hd3 p w
     ·rw [Zg3.mp w]; omega
    ·rw [Zg3.mp w]; omega
   ·rw [Zhj,Zhj,Zm6]; rfl
 ·rw [Zjj,decide_eq_true_eq] at hb
  subst hb
  have hz : z = q.sz:=by simpa [stS] using hz
  ((try dsimp only); refine zap ?_)
  rw [hz]
  exact zaz (zac rfl) rt
noncomputable def zrg (m : Nat) (ps : List Pr) (as : List Apt) : Prop:=zd0 m ps as/\(ps.map kyP).Nodup/\as.Nodup/\ps.length <= 40/\as.length <= 40
noncomputable def rowW (c : Int) : Int:=if c % 8 < 3 then -(1 + c / 8 % (10 : Int) ^ (30 : Int).toNat) else 1 + c / 8 % (10 : Int) ^ (30 : Int).toNat
theorem yai (c : Int) : rowW c≠0:=by
 have:=Znr (c / 8) (show (10 : Int) ^ (30 : Int).toNat≠0 by decide)
 unfold rowW; split <;> omega
noncomputable def yag (ds : List D) : Prop:=∃ (ns : List Int) (m : Nat),ds = [.lst (ns.map .int),.int m]/\1 <= m/\m <= 20
noncomputable def yac (ds : List D) (r : D) : Prop:=∀ (ns : List Int) (m : Nat),ds = [.lst (ns.map .int),.int m] -> ∃ ps as,r = .tup [.lst (ps.map encP),.lst (as.map encA)]/\zrg m ps as
theorem zse (Z : Tx K mg ad0) : FnOk P w K mg base CX0 2 ad0.Zds ad0.Zdn zfy (SpRD K yag yac):=by
 have Zap:=zeu (P:=P) (w:=w) (base:=base) Z
 refine okRD Z.Zd8.F zde (by rintro ds ⟨c,d,rfl,_⟩; rfl) fun cdv A outer s H Q E hr=>⟨_,(zad (psn 2 zde.nd (zbn zae))
   (zad (psn 3 zde.nd (zbn zae))
   (zad (zb6 Zhy rfl (zgh (by rfl) Z.Zby (zab (zby yet (pv 1) zal) zae)) (pgn 4 zde.nd) (zad (psn 5 zde.nd (pcX Zap hr Z.Zak (zab (pv 0) (zab (zby zd7 zal (pv 4)) zae))))
   (zad (psn 6 zde.nd (zby zd7 zal (zby zg1 (zby zkk (pv 5) zal) (zby zz8 zal zal))))
   (zad (zcf (zax zoa (zby zg1 (pv 5) zal) zal (zau _)) (zah (psn 6 zde.nd (zru zlf (pv 6)))) za0)
   (zad (zcf (zax zsk (zby zg1 (pv 5) zal) zal (zau _)) (zah (zdy (zf6 Zh7 Zi0 Zi7 zcd (pv 2) (zab (zbc (zab (pv 4) (zab (zby zd7 (pv 4) zal) (zab (pv 6) zae)))) zae)))) za0)
   (zah (zcf (zax zet (zby zg1 (zby zkk (pv 5) zal) zal) zal (zau _)) (zah (zdy (zf6 Zh7 Zi0 Zi7 zcd (pv 3) (zab (zbc (zab (pv 4) (zab (zby zd7 (pv 4) zal) zae))) zae)))) za0)))))))
   (zah (zav (zbc (zab (pv 2) (zab (pv 3) zae)))))))),fun G ds hp rt=>?_⟩
 obtain ⟨ns,m,rfl,hm1,hm20⟩:=hp
 refine zai (zc0 (za4 zaf (small (by decide))) fun pp=>?_)
 ((try dsimp only); refine zap ?_)
 refine zai (zc0 (za4 zaf (small (by decide))) fun pa=>?_)
 ((try dsimp only); refine zap ?_)
 refine zai (zjb (n:=(m : Int) - 1) (fun k ss=>∃ (ps : List Pr) (as : List Apt) (v4 v5 v6 : Sl),ss = [.d (.lst (ns.map .int)),.d (.int m),.o pp (ps.map encP),.o pa (as.map encA),v4,v5,v6]/\zd0 m ps as/\ps.length <= k/\as.length <= k/\Bef k 0 (ps.map kyP)/\Bef k 0 as) (zd1 (yfb (zac rfl).b zak.b).b zhb) ⟨by omega,by omega⟩ ⟨[],[],.un,.un,.un,rfl,⟨by simp,by simp⟩,by simp,by simp,⟨by simp,by simp⟩,by simp,by simp⟩ ?_ ?_ (fun _ _ _ h=>h))
 ·rintro k ss hk ⟨ps,as,v4,v5,v6,rfl,hg,hpl,hal,hB1,hB2⟩ N hN
  have ek : (k : Int) + 1 = ((k + 1 : Nat) : Int):=by omega
  refine zai (zay (zl9 (k:=1 + (k : Int)) rfl (zd9 zak.b (zac rfl).b) (by omega)) ?_)
  ((try dsimp only); refine zap ?_)
  generalize cellF ns (1 + (k : Int)) = c
  refine zai (zay (zd9 zak.b (zgy (zjz (zac rfl).b zak.b ⟨by decide,by decide⟩).b (zz0 zak.b zak.b ⟨by decide,by decide,by decide⟩).b (by decide)).b) ?_)
  ((try dsimp only); refine zap ?_)
  refine zig (fun ss=>ss = [.d (.lst (ns.map .int)),.d (.int m),.o pp (ps.map encP),.o pa (as.map encA),.d (.int k),.d (.int c),.d (.int (rowW c))]) (fun N' hN'=>zbr (zan (zrt (zgy (zac rfl).b zak.b (by decide)).b zak.b)) (fun hb=>zay (zlk (zac rfl).b) (hN' _ ?_)) (fun hb=>za2 (hN' _ ?_))) ?_
  ·unfold rowW; rw [if_pos (of_decide_eq_true hb)]; rfl
  ·unfold rowW; rw [if_neg (of_decide_eq_false hb)]; rfl
  rintro ss rfl
  refine zig (fun ss=>∃ ps1 : List Pr,ss = [.d (.lst (ns.map .int)),.d (.int m),.o pp (ps1.map encP),.o pa (as.map encA),.d (.int k),.d (.int c),.d (.int (rowW c))]/\zd0 m ps1 as/\ps1.length <= k + 1/\Bef (k + 1) 0 (ps1.map kyP)) (fun N' hN'=>zbr (zan (zw4 (zgy (zac rfl).b zak.b (by decide)).b zak.b)) (fun hb=>?_) (fun hb=>za2 (hN' _ ⟨ps,rfl,hg,by omega,hB1.next⟩))) ?_
  ·refine zc5 (d:=encP (k,k + 1,rowW c)) rfl (zbo (zaa (zac rfl) (zaa (by show Ev _ _ _ _ _ _ (.int ((k + 1 : Nat) : Int)); rw [<- ek]; exact zd9 (zac rfl).b zak.b) (zaa (zac rfl) zaf))) (small (by simp))) (by rw [Zg2,Zhm]; omega) (hN' _ ⟨ps++[(k,k + 1,rowW c)],by rw [Zhj]; rfl,⟨fun p hp=>?_,hg.2⟩,by simp; omega,by rw [Zhj]; exact hB1.put.next⟩)
   rcases Zhe.mp hp with z | z
   ·exact hg.1 p z
   ·rw [Zg3.mp z]; exact ⟨by show k < k + 1; omega,by show k + 1 < m; omega,yai c⟩
  ·rintro ss ⟨ps1,rfl,hg1,hpl1,hB3⟩
   refine zbr (zan (ze8 (zgy (zjz (zac rfl).b zak.b ⟨by decide,by decide⟩).b zak.b (by decide)).b zak.b)) (fun hb=>?_) (fun hb=>za2 (hN _ ⟨ps1,as,_,_,_,rfl,hg1,hpl1,by omega,hB3,hB2.next⟩))
   refine zc5 (d:=encA (k,k + 1)) rfl (zbo (zaa (zac rfl) (zaa (by show Ev _ _ _ _ _ _ (.int ((k + 1 : Nat) : Int)); rw [<- ek]; exact zd9 (zac rfl).b zak.b) zaf)) (small (by simp))) (by rw [Zg2,Zhm]; omega) (hN _ ⟨ps1,as++[(k,k + 1)],_,_,_,by rw [Zhj]; rfl,⟨hg1.1,fun a ha=>?_⟩,hpl1,by simp; omega,hB3,hB2.put.next⟩)
   rcases Zhe.mp ha with z | z
   ·exact hg1.2 a z
   ·rw [Zg3.mp z]; exact ⟨by show k < k + 1; omega,by show k + 1 < m; omega⟩
 ·rintro ss ⟨ps,as,v4,v5,v6,rfl,hg,hpl,hal,hB1,hB2⟩
  refine zc6 (i:=2) rfl (zc6 (i:=3) rfl ?_)
  ((try dsimp only); refine zap ?_)
  refine zaz (zbo (zaa (zac rfl) (zaa (zac rfl) zaf)) (small (by simp))) (rt _ fun ns' m' he=>?_)
  simp only [Zoo,D.int.injEq,and_true] at he
  obtain ⟨_,e⟩:=he
  have : m' = m:=by omega
  subst this
  exact ⟨ps,as,rfl,hg,hB1.1,hB2.1,by omega,by omega⟩
noncomputable def sixM (c : Int) : Int:=([3,60,(10 : Int) ^ (30 : Int).toNat] : List Int).getD (c / 15 % 3).toNat 3
noncomputable def sixW (c0 c : Int) : Int:=if c % 8 < 4 then -(1 + c / 72 % sixM c0) else 1 + c / 72 % sixM c0
theorem zw2 (c : Int) : 0 < sixM c/\atI (([3,60,(10 : Int) ^ (30 : Int).toNat] : List Int).map D.int) (c / 15 % 3) = some (.int (sixM c)):=by
 have h0:=Znr (c / 15) (show (3 : Int)≠0 by decide)
 have h1:=Zr6 (c / 15) (show (0 : Int) < 3 by decide)
 unfold sixM
 rcases (show c / 15 % 3 = 0 \/ c / 15 % 3 = 1 \/ c / 15 % 3 = 2 by omega) with z | z | z <;> rw [z]
 ·exact ⟨by decide,rfl⟩
 ·exact ⟨by decide,rfl⟩
 ·exact ⟨by decide,rfl⟩
theorem yb6 (c0 c : Int) : sixW c0 c≠0:=by
 have h:=(zw2 c0).1
 have:=Znr (c / 72) (show sixM c0≠0 by omega)
 unfold sixW; split <;> omega
noncomputable def yae (ds : List D) : Prop:=∃ (ns : List Int),ds = [.lst (ns.map .int)]
noncomputable def zz4 (_ : List D) (r : D) : Prop:=∃ ps as,r = .tup [.lst (ps.map encP),.lst (as.map encA)]/\zrg 6 ps as
theorem zss (Z : Tx K mg ad0) : FnOk P w K mg base CX0 2 ad0.Zdh ad0.Zdp zgc (SpRD K yae zz4):=by
 have Zap:=zeu (P:=P) (w:=w) (base:=base) Z
 refine okRD Z.Zea.F zb2 (by rintro ds ⟨c,rfl⟩; rfl) fun cdv A outer s H Q E hr=>⟨_,(zad (psn 1 zb2.nd (zbn zae))
   (zad (psn 2 zb2.nd (zbn zae))
   (zad (psn 3 zb2.nd zal)
   (zad (zb6 Zhy rfl (zgh (by rfl) Z.Zby (zab zal zae)) (pgn 4 zb2.nd) (zah (zb6 Zhy rfl (zuw (by rfl) Z.Zby (zab (zby zd7 (pv 4) zal) (zab zal zae))) (pgn 5 zb2.nd) (zad (psn 3 zb2.nd (zby zd7 (pv 3) zal))
   (zad (psn 6 zb2.nd (pcX Zap hr Z.Zak (zab (pv 0) (zab (pv 3) zae))))
   (zad (psn 7 zb2.nd (zby zd7 zal (zby zg1 (zby zkk (pv 6) zal) (zbs (show IxR _ (rIxL K) from zcv) (zbn (zab zal (zab zal (zab (zby zz8 zal zal) zae)))) (zby zg1 (zby zkk (pcX Zap hr Z.Zak (zab (pv 0) (zab zal zae))) zal) zal) (fun _ _=>rfl)))))
   (zad (zcf (zax zoa (zby zg1 (pv 6) zal) zal (zau _)) (zah (psn 7 zb2.nd (zru zlf (pv 7)))) za0)
   (zad (zcf (zax zsk (zby zg1 (pv 6) zal) zal (zau _)) (zah (zdy (zf6 Zh7 Zi0 Zi7 zcd (pv 1) (zab (zbc (zab (pv 4) (zab (pv 5) (zab (pv 7) zae)))) zae)))) za0)
   (zah (zcf (zax zet (zby zg1 (zby zkk (pv 6) zal) zal) zal (zau _)) (zah (zdy (zf6 Zh7 Zi0 Zi7 zcd (pv 2) (zab (zbc (zab (pv 4) (zab (pv 5) zae))) zae)))) za0))))))))))
   (zah (zav (zbc (zab (pv 1) (zab (pv 2) zae))))))))),fun G ds hp rt=>?_⟩
 obtain ⟨ns,rfl⟩:=hp
 refine zai (zc0 (za4 zaf (small (by decide))) fun pp=>?_)
 ((try dsimp only); refine zap ?_)
 refine zai (zc0 (za4 zaf (small (by decide))) fun pa=>?_)
 ((try dsimp only); refine zap ?_)
 refine zai (zay zak ?_)
 ((try dsimp only); refine zap ?_)
 refine zai (zjb (n:=6) (fun k ss=>∃ (at' : Int) (ps : List Pr) (as : List Apt) (v4 v5 v6 v7 : Sl),ss = [.d (.lst (ns.map .int)),.o pp (ps.map encP),.o pa (as.map encA),.d (.int at'),v4,v5,v6,v7]/\0 <= at'/\ps.length <= 6 * k/\as.length <= 6 * k/\zd0 6 ps as/\Bef k 0 (ps.map kyP)/\Bef k 0 as) (zd1 zak.b zhb) ⟨by omega,by omega⟩ ⟨0,[],[],.un,.un,.un,.un,rfl,Zlb _,by simp,by simp,⟨by simp,by simp⟩,⟨by simp,by simp⟩,by simp,by simp⟩ ?_ ?_ (fun _ _ _ h=>h))
 ·rintro k ss hk ⟨at1,ps,as,v4,v5,v6,v7,rfl,h0,hpl,hal,hg,hB1,hB2⟩ N hN
  refine zuu (m:=(k : Int) + 1) (n:=6) (fun q ss=>∃ (at' : Int) (ps : List Pr) (as : List Apt) (v5 v6 v7 : Sl),ss = [.d (.lst (ns.map .int)),.o pp (ps.map encP),.o pa (as.map encA),.d (.int at'),.d (.int k),v5,v6,v7]/\0 <= at'/\ps.length <= 6 * k + q/\as.length <= 6 * k + q/\zd0 6 ps as/\Bef k q (ps.map kyP)/\Bef k q as) (zd1 (zd9 (zac rfl).b zak.b).b (zd1 zak.b zhb)) ⟨by omega,by omega⟩ ⟨by omega,by omega⟩ ⟨at1,ps,as,v5,v6,v7,rfl,h0,hpl,hal,hg,hB1,hB2⟩ ?_ ?_
  ·rintro q ss hq ⟨at2,ps,as,v5,v6,v7,rfl,h0,hpl,hal,hg,hB1,hB2⟩ N2 hN2
   have ej : (k : Int) + 1 + (q : Int) = ((k + 1 + q : Nat) : Int):=by omega
   rw [ej]
   refine zai (zay (zd9 (zac rfl).b zak.b) ?_)
   ((try dsimp only); refine zap ?_)
   refine zai (zay (zl9 (k:=at2 + 1) rfl (zac rfl) (by omega)) ?_)
   ((try dsimp only); refine zap ?_)
   generalize cellF ns (at2 + 1) = c
   obtain ⟨hM,hat⟩:=zw2 (cellF ns 0)
   refine zai (zay (d:=.int (1 + c / 72 % sixM (cellF ns 0))) (zd9 zak.b (zgy (zjz (zac rfl).b zak.b ⟨by decide,by decide⟩).b (zho (ds:=([3,60,(10 : Int) ^ (30 : Int).toNat] : List Int).map D.int) (EvO.l (za4 (zaa zak (zaa zak (zaa (zz0 zak.b zak.b ⟨by decide,by decide,by decide⟩) zaf))) (small (by simp)))) (zgy (zjz (zl9 rfl zak (by decide)).b zak.b ⟨by decide,by decide⟩).b zak.b (by decide)).b hat).b hM).b) ?_)
   ((try dsimp only); refine zap ?_)
   generalize hw0 : cellF ns 0 = c0
   refine zig (fun ss=>ss = [.d (.lst (ns.map .int)),.o pp (ps.map encP),.o pa (as.map encA),.d (.int (at2 + 1)),.d (.int k),.d (.int ((k + 1 + q : Nat) : Int)),.d (.int c),.d (.int (sixW c0 c))]) (fun N' hN'=>zbr (zan (zrt (zgy (zac rfl).b zak.b (by decide)).b zak.b)) (fun hb=>zay (zlk (zac rfl).b) (hN' _ ?_)) (fun hb=>za2 (hN' _ ?_))) ?_
   ·unfold sixW; rw [if_pos (of_decide_eq_true hb)]; rfl
   ·unfold sixW; rw [if_neg (of_decide_eq_false hb)]; rfl
   rintro ss rfl
   refine zig (fun ss=>∃ ps1 : List Pr,ss = [.d (.lst (ns.map .int)),.o pp (ps1.map encP),.o pa (as.map encA),.d (.int (at2 + 1)),.d (.int k),.d (.int ((k + 1 + q : Nat) : Int)),.d (.int c),.d (.int (sixW c0 c))]/\ps1.length <= 6 * k + (q + 1)/\zd0 6 ps1 as/\Bef k (q + 1) (ps1.map kyP)) (fun N' hN'=>zbr (zan (zw4 (zgy (zac rfl).b zak.b (by decide)).b zak.b)) (fun hb=>?_) (fun hb=>za2 (hN' _ ⟨ps,rfl,by omega,hg,hB1.mono⟩))) ?_
   ·refine zc5 (d:=encP (k,k + 1 + q,sixW c0 c)) rfl (zbo (zaa (zac rfl) (zaa (zac rfl) (zaa (zac rfl) zaf))) (small (by simp))) (by rw [Zg2,Zhm]; omega) (hN' _ ⟨ps++[(k,k + 1 + q,sixW c0 c)],by rw [Zhj]; rfl,by simp; omega,⟨fun p hp=>?_,hg.2⟩,by rw [Zhj]; exact hB1.put⟩)
    rcases Zhe.mp hp with z | z
    ·exact hg.1 p z
    ·rw [Zg3.mp z]; exact ⟨by show k < k + 1 + q; omega,by show k + 1 + q < 6; omega,yb6 c0 c⟩
   ·rintro ss ⟨ps1,rfl,hpl1,hg1,hB3⟩
    refine zbr (zan (ze8 (zgy (zjz (zac rfl).b zak.b ⟨by decide,by decide⟩).b zak.b (by decide)).b zak.b)) (fun hb=>?_) (fun hb=>za2 (hN2 _ ⟨at2 + 1,ps1,as,_,_,_,rfl,by omega,hpl1,by omega,hg1,hB3,hB2.mono⟩))
    refine zc5 (d:=encA (k,k + 1 + q)) rfl (zbo (zaa (zac rfl) (zaa (zac rfl) zaf)) (small (by simp))) (by rw [Zg2,Zhm]; omega) (hN2 _ ⟨at2 + 1,ps1,as++[(k,k + 1 + q)],_,_,_,by rw [Zhj]; rfl,by omega,hpl1,by simp; omega,⟨hg1.1,fun a ha=>?_⟩,hB3,hB2.put⟩)
    rcases Zhe.mp ha with z | z
    ·exact hg1.2 a z
    ·rw [Zg3.mp z]; exact ⟨by show k < k + 1 + q; omega,by show k + 1 + q < 6; omega⟩
  ·rintro ss ⟨at2,ps,as,v5,v6,v7,rfl,h0,hpl,hal,hg,hB1,hB2⟩
   exact hN _ ⟨at2,ps,as,_,v5,v6,v7,rfl,h0,by omega,by omega,hg,hB1.next,hB2.next⟩
 ·rintro ss ⟨at1,ps,as,v4,v5,v6,v7,rfl,h0,hpl,hal,hg,hB1,hB2⟩
  have hpl : ps.length <= 36:=hpl
  have hal : as.length <= 36:=hal
  refine zc6 (i:=1) rfl (zc6 (i:=2) rfl ?_)
  ((try dsimp only); refine zap ?_)
  exact zaz (zbo (zaa (zac rfl) (zaa (zac rfl) zaf)) (small (by simp))) (rt _ ⟨ps,as,rfl,hg,hB1.1,hB2.1,by omega,by omega⟩)
noncomputable def ydj (ds : List D) : Prop:=∃ (m : Nat) (ps : List Pr) (as : List Apt),ds = [.int m,.lst (ps.map encP),.lst (as.map encA)]/\m <= 100/\ps.length <= 100/\as.length <= 100/\zd0 m ps as
noncomputable def yd5 : List D->Prop
 | .int m::_=>7 < m
 | _=>False
noncomputable def yfp : List D->D
 | d::_=>d
 | _=>.non
theorem zku (Z : Tx K mg ad0) : FnOk P w K mg base CX0 1 ad0.Zah ad0.Zai ["self", "count"] (zti ad0.Zaa "count"):=by
 refine Z.Zc2.ok zkr (fun vs H Q E h=>by obtain ⟨e,n,rfl,_⟩:=h; rfl) (fun cdv A outer s H vs Q E hr h=>⟨_,(zad (zdy (zsu (by rfl) Z.Zc7 Z.Zd1 (zab (pv 0) (zab (zu9 (pv 1)) zae))))
   (zah (zvn (pv 0) (pv 1) (by rfl)))),?_⟩)
 exact zsq Z.Zcm.cls Z.Zcb (by decide +kernel) h
theorem zpz {T0 : Addr} (Z : Tx K mg ad0) (Y : LamAt base mg ad0.Zab T0) : FnOk P w K mg base (CX2 P w) 76 ad0.Zcx ad0.Zc0 ze5 (SpXT K T0 lamP lamQ ad0.Zaa "count" ydj yd5 zym yfp):=by
 have Zfb:=zku (P:=P) (w:=w) (base:=base) Z
 have Zek:=zln (P:=P) (w:=w) (base:=base) Z Y
 have Za5:=(zne (P:=P) (w:=w) (base:=base) Z 72).1
 refine Z.Zbx.F.okX2 zj6 (fun vs H Q E h=>zqb (n:=3) (by rintro ds ⟨c,d,e,rfl,_⟩; rfl) h) (fun cdv A outer s H vs Q E hr h=>⟨_,(zad (zcf (PT.nox (zax zoj (pv 0) (zcu (by rfl) Z.Zca Z.Zeh) (zau _))) (zah (zt5 (zte Z.Zcm Zfb (hr.mono (by decide)) (by rfl) Z.Zd9 Z.Zc5 yef (zab (PE.nox (pv 0)) zae) (by decide)))) za0)
   (zad (yad (psn 3 zj6.nd (zbs (show IxR _ (rIxT K) from zbz) (pcX Zek hr Z.Zc9 (zab (pv 0) (zab (pv 1) (zab (pv 2) zae)))) zal (fun _ _=>rfl))))
   (zah (yad (zav (pcX Za5 hr Z.Zam (zab (zbc (zab (pv 0) (zab (pv 1) (zab (pv 2) zae)))) (zab (zbn zae) (zab (pv 3) zae))))))))),?_⟩)
 refine ycq h (by rw [zqb (n:=3) (by rintro ds ⟨c,d,e,rfl,_⟩; rfl) h]; decide) fun G ds hT hp rt rx=>?_
 obtain ⟨m,ps,as,rfl,hm,hpl,hal,hg⟩:=hp
 have rt : ¬ (7 : Int) < (m : Int)->RtD K G H Q (zym [.int m,.lst (ps.map encP),.lst (as.map encA)]):=rt
 have rx : (7 : Int) < (m : Int)->RtX2 K G H E ad0.Zaa "count" (.int m):=rx
 refine zai (zbr (zan (znr (zac rfl).b zak.b)) (fun hb=>?_) (fun hb=>?_))
 ·exact zu6 (n:=(m : Int)) Z.Zcm.cls (zaa (zac rfl) zaf) (by omega) (by omega) (rx (of_decide_eq_true hb))
 have hm7 : m <= 7:=by have:=of_decide_eq_false hb; omega
 have rt:=rt (of_decide_eq_false hb)
 rw [zop,papO,ych m 71] at rt
 refine za2 ?_
 ((try dsimp only); refine zap ?_)
 refine zai (zay (d:=.int (zbl ps (zdv m ps as))) (zbd (ds:=[.int (zbl ps (zdv m ps as)),encG (zdv m ps as)]) (zqt hT (zaa (zac rfl) (zaa (zac rfl) (zaa (zac rfl) zaf))) hm7 hpl hal hg) zak.b rfl) ?_)
 ((try dsimp only); refine zap ?_)
 have hf : (m - 0) * (m + 3) + 1 <= 71:=by
  have h1 : (m - 0) * (m + 3) <= 7 * 10:=Ztf (by omega) (by omega)
  omega
 exact zaz (za5 (pre:=zpx 72) (res:=zn0) ((m,ps,as),[],0,zbl ps (zdv m ps as),71) (zaa (zbo (ds:=[.int m,.lst (ps.map encP),.lst (as.map encA)]) (zaa (zac rfl) (zaa (zac rfl) (zaa (zac rfl) zaf))) (small (by simp))) (zaa (EvO.ev (za4 (ds:=[]) zaf (small (by simp)))) (zaa (zac rfl) zaf))) ⟨rfl,zjt hm7 (by omega) hg,zlt _,hf,by show 71 < 72; decide⟩) rt
noncomputable def zyh (K : Zgy) (T0 : Addr) : Sp:=fun vs H Q _=>∃ (a : Addr) (ns : List Int),vs = [.ref a]/\SqL K H a (ns.map V.int)/\ns.length <= 63/\HasT H T0 lamP lamQ /\ ∀ H',Same H H'->Q (.bl true) H'
theorem zob {K : Zgy} {H : Hp} : ∀ ns : List Int,Reps K H (ns.map D.int) (ns.map V.int)
 | []=>Reps.nil
 | n::ns=>Reps.cons Rep.int (zob ns)
theorem yaz {m n : Nat} {p : Pap} {as : List Apt} (hm : m <= 7) (hn : n <= 100) (h : PB m 21 n p) (ha : as.Nodup) (hl : as.length <= 100) (hg : ∀ a∈as,a.1 < a.2/\a.2 < m) : Fits (p,decP as)/\p.sz <= 10000000:=by
 have hd:=h.2.2
 refine ⟨⟨h.1.ok hn,⟨ha,by show as.length <= 1000; omega,fun a hm'=>by have:=hg a hm'; omega⟩,by show as.length + p.dp <= 1000; omega⟩,?_⟩
 have h1:=ycf p
 have h2 : 2 ^ (p.dp + 1) <= 2 ^ 22:=Zma (by decide) (by omega)
 have h3 : (2 : Nat) ^ 22 = 4194304:=by decide
 omega
theorem zsc {m : Nat} {ps : List Pr} {as : List Apt} (hm : m <= 7) (h : zrg m ps as) : zeh m (wtsP ps) (zbl ps (zdv m ps as)) (papO m ps as) (decP as) = true/\(papO m ps as).sz <= 40000:=by
 have hl:=h.2.2.2.1
 unfold papO
 exact ⟨zva hm (by omega) h.1 h.2.1 h.2.2.1 (Zha _),yaj hm (by omega) h.1⟩
theorem yfz {T0 : Addr} (Z : Tx K mg ad0) (Y : LamAt base mg ad0.Zab T0) : FnOk P w K mg base CX0 90 ad0.Ze7 ad0.Ze1 zt9 (zyh K T0):=by
 have Zap:=zeu (P:=P) (w:=w) (base:=base) Z
 have Zgq:=zse (P:=P) (w:=w) (base:=base) Z
 have Zgs:=zss (P:=P) (w:=w) (base:=base) Z
 have Zgh:=zow (P:=P) (w:=w) (base:=base) Z
 have Zgf:=zo2 (P:=P) (w:=w) (base:=base) Z
 have Zek:=zln (P:=P) (w:=w) (base:=base) Z Y
 have Zf9:=zpz (P:=P) (w:=w) (base:=base) Z Y
 refine Z.Ze6.F.ok zf2 (fun vs H Q E h=>by obtain ⟨a,ns,rfl,_⟩:=h; rfl) (fun cdv A outer s H vs Q E hr h=>⟨_,(zad (psn 1 zf2.nd (zby zd7 zal (zby zg1 (pcX Zap hr Z.Zak (zab (pv 0) (zab zal zae))) zal)))
   (zad (zzx (pcX Zgq hr Z.Zd8 (zab (pv 0) (zab (pv 1) zae))) (zdc rfl (zar (pgn 2 zf2.nd) (zar (pgn 3 zf2.nd) zb5))))
   (zad (zcf (zax zet (pv 1) zal (zau _)) (zah (zzx (pcX Zgs hr Z.Zea (zab (pv 0) zae)) (zdc rfl (zar (pgn 2 zf2.nd) (zar (pgn 3 zf2.nd) zb5))))) za0)
   (zad (psn 4 zf2.nd zqk)
   (zad (psn 5 zf2.nd zqk)
   (zad (zsm (j:=5) Zf9 (hr.mono (by decide)) (by rfl) Z.Zbx.M Z.Zbx.F.kp Z.Zbx.B (zab (pv 1) (zab (zdr zem (by rfl) Z.Zdf Zo8 (zab (pv 2) zae)) (zab (zdr zem (by rfl) Z.Zdf Zo8 (zab (pv 3) zae)) zae))) rfl rfl (by rfl) Z.Zc7 zf2.nd (i:=6) rfl rfl (fun x9=>(zah (psn 4 zf2.nd (pv (X:=Cx.inSuite (cxOf CX0 P w K mg base (["_law_script", "_law_many", "_law_pairs", "_law_aparts", "_law_told", "_law_paper", "e", "_law_lost"] : List Str) "law" (zag zvl) ad0.Ze7 cdv A outer s H E).nox x9) 6)))) ⟨rfl,rfl,rfl⟩)
   (zad (zcf (zax zr5 (pv 1) zal (zau _)) (zad (psn 7 zf2.nd (zbs (show IxR _ (rIxT K) from zbz) (pcX Zek hr Z.Zc9 (zab (pv 1) (zab (zdr zem (by rfl) Z.Zdf Zo8 (zab (pv 2) zae)) (zab (zdr zem (by rfl) Z.Zdf Zo8 (zab (pv 3) zae)) zae)))) zal (fun _ _=>rfl)))
   (zad (zcf (PW.pt (zoc (zax (show OpR _ _ ybi from zue) (pv 4) zqk (zau _)) (zlm (zax (show OpR _ _ yam from yc5) (pcX Zgf hr Z.Zdx (zab (pv 5) (zab (pv 1) (zab (pv 2) (zab (pv 3) (zab (pv 7) zae)))))) zi1 (zau _))))) (zah (zav zi1)) za0)
   (zah (zav (zbe zr5 (pcX Zgh hr Z.Zdt (zab (pv 5) zae)) zal (zau _)))))) za0)
   (zad (zcf (PW.pt (zoc (zg9 (zen (zaw (show zcy _ _ (zyo K) from znn) (by rfl) Z.Zaj Zlr (zab (pv 4) (zab (zcu (v:=.ref ad0.Zaa) (by rfl) Z.Zd9 rfl) zae))))) (zoc (zg9 (zen (zaw (show zcy _ _ (zyo K) from znn) (by rfl) Z.Zaj Zlr (zab (pv 4) (zab (zl7 (v:=.ty "ValueError") (by rfl) Z.Zdz PyProof.Rows.Boot.«ValueError» rfl) zae))))) (zlm (zax (show OpR _ _ ybi from zue) (pv 5) zqk (zau _)))))) (zah (zav zi1)) za0)
   (zad (zcf (PW.pt (zoc (zen (zaw (show zcy _ _ (ybx K) from zuh) (by rfl) Z.Zaj Zlr (zab (pv 4) (zab (zbc (zab (zcu (v:=.ref ad0.Zdj) (by rfl) Z.Zfz rfl) (zab (zcu (v:=.ref ad0.Zbl) (by rfl) Z.Zer rfl) (zab (zcu (v:=.ref ad0.Zb4) (by rfl) Z.Zff rfl) zae)))) zae)))) (zlm (zen (zaw zfb (by rfl) Z.Zaj Zlr (zab (znm (pv 4) (by rfl)) (zab (zl7 (v:=.ty "bool") (by rfl) Z.Ze3 boot_bool rfl) zae))))))) (zah (zav zi1)) za0)
   (zah (zav (zbe zet (znm (pv 4) (by rfl)) (pv 1) (zau _))))))))))))),?_⟩)
 obtain ⟨a,ns,rfl,sq,hl,hT,hQ⟩:=h
 have r0 : Reps K H [.lst (ns.map .int)] [.ref a]:=Reps.cons (Rep.lst sq (zob ns)) Reps.nil
 have rt : RtD K H H Q (.bl true):=fun v F H' e r=>by rw [r.of_bl]; exact hQ H' e.hh
 refine (?_ : Go K H H H _ (slots 8 [.lst (ns.map .int)]) _) H H _ (zcj (Same.refl H) r0 (by simp))
 have m0:=Znr (cellF ns 0) (show (15 : Int)≠0 by decide)
 have m1:=Zr6 (cellF ns 0) (show (0 : Int) < 15 by decide)
 refine zai (zay (zd9 zak.b (zgy (zl9 rfl zak (by decide)).b zak.b (by decide)).b) ?_)
 obtain ⟨m,em⟩ : ∃ m : Nat,6 + cellF ns 0 % 15 = (m : Int):=⟨(6 + cellF ns 0 % 15).toNat,by omega⟩
 rw [em]
 have h6 : 6 <= m:=by omega
 have h20 : m <= 20:=by omega
 ((try dsimp only); refine zap ?_)
 refine zai (zq8 (pre:=yag) (R:=yac) (ds:=[.lst (ns.map .int),.int m]) (zaa (zac rfl) (zaa (zac rfl) zaf)) ⟨ns,m,rfl,by omega,h20⟩ fun r hR=>?_)
 obtain ⟨ps0,as0,rfl,hc0⟩:=hR ns m rfl
 refine ⟨_,zdd rfl (zaq zao (zaq zao zb4)),?_⟩
 ((try dsimp only); refine zap ?_)
 refine zig (fun ss=>∃ (ps : List Pr) (as : List Apt),zrg m ps as/\ss = [.d (.lst (ns.map .int)),.d (.int m),.d (.lst (ps.map encP)),.d (.lst (as.map encA)),.un,.un,.un,.un]) (fun N hN=>zbr (zan (ze8 (zac rfl).b zak.b)) (fun hb=>?_) (fun _=>za2 (hN _ ⟨ps0,as0,hc0,rfl⟩))) ?_
 ·have e6 : m = 6:=by have:=of_decide_eq_true hb; omega
  refine zq8 (pre:=yae) (R:=zz4) (ds:=[.lst (ns.map .int)]) (zaa (zac rfl) zaf) ⟨ns,rfl⟩ fun r hR=>?_
  obtain ⟨ps,as,rfl,hc⟩:=hR
  exact ⟨_,zdd rfl (zaq zao (zaq zao zb4)),hN _ ⟨ps,as,by rw [e6]; exact hc,rfl⟩⟩
 rintro ss ⟨ps,as,hc,rfl⟩
 have hg:=hc.1
 have hpn : (ps.map keyP).Nodup:=hc.2.1
 have han:=hc.2.2.1
 have hpl:=hc.2.2.2.1
 have hal:=hc.2.2.2.2
 refine zai (zay zzs ?_)
 ((try dsimp only); refine zap ?_)
 refine zai (zay zzs ?_)
 ((try dsimp only); refine zap ?_)
 refine zai (zs1 (i:=6) (j:=5) (f:="count") (pre:=ydj) (bad:=yd5) (res:=zym) (err:=yfp) hT (zaa (zac rfl) (zaa (EvO.ev (zjk (zac rfl).l)) (zaa (EvO.ev (zjk (zac rfl).l)) zaf))) ⟨m,ps,as,rfl,by omega,by omega,by omega,hg⟩ (fun nb=>?_) Z.Zbg (by show 6 < 8; decide) fun hbad x dx=>?_)
 ·have hm7 : m <= 7:=by have : ¬ (7 : Int) < (m : Int):=nb; omega
  rw [zop]
  have hO:=ya1 hm7 (show ps.length <= 100 by omega) hg
  obtain ⟨hsh,hsz⟩:=zsc hm7 hc
  generalize papO m ps as = p at hO hsh hsz
  ((try dsimp only); refine zap ?_)
  refine zai (zbr (b:=true) (zan (by
   have e : decide ((m : Int) <= 7) = true:=decide_eq_true (by omega)
   rw [<- e]
   exact zsp (zac rfl).b zak.b)) (fun _=>?_) fun hb=>by cases hb)
  refine zai (zay (d:=.int (zbl ps (zdv m ps as))) (zbd (ds:=[.int (zbl ps (zdv m ps as)),encG (zdv m ps as)]) (zqt hT (zaa (zac rfl) (zaa (EvO.ev (zjk (zac rfl).l)) (zaa (EvO.ev (zjk (zac rfl).l)) zaf))) hm7 (by omega) (by omega) hg) zak.b rfl) ?_)
  ((try dsimp only); refine zap ?_)
  obtain ⟨hfit,hsz2⟩:=yaz hm7 (by omega) hO han (by omega) hg.2
  refine zai (zbr (b:=(!decide (D.non = .non)) || !(zeh m (wtsP ps) (zbl ps (zdv m ps as)) p (decP as) == true)) (ziy (zan (zwg (zac rfl).b)) fun _=>zan (ybl (za5 (pre:=ydw) (res:=ye1) (p,m,ps,as,zbl ps (zdv m ps as)) (zaa (zac rfl) (zaa (zac rfl) (zaa (zac rfl) (zaa (zac rfl) (zaa (zac rfl) zaf))))) ⟨rfl,⟨hfit,hsz2⟩,hpn,by show ps.length <= 1000; omega⟩).b zmg.b)) (fun hb=>?_) (fun _=>?_))
  ·rw [hsh,decide_eq_true rfl] at hb; cases hb
  refine za2 ?_
  ((try dsimp only); refine zap ?_)
  refine zaz (d:=.bl (decide ((p.sz : Int) <= 40000))) (zsp (za5 (pre:=yfl) (res:=fun p=>.int (p.sz : Nat)) p (zaa (zac rfl) zaf) ⟨rfl,by omega,by have:=hO.2.2; omega⟩).b zak.b) ?_
  rw [decide_eq_true (show (p.sz : Int) <= 40000 by omega)]
  exact rt
 ·have hm7 : (7 : Int) < (m : Int):=hbad
  refine ybs (i:=6) (j:=4) rfl (zwl (i:=6) rfl ?_)
  ((try dsimp only); refine zap ?_)
  refine zai (zbr (b:=false) (zan (by
   have e : decide ((m : Int) <= 7) = false:=decide_eq_false (by omega)
   rw [<- e]
   exact zsp (zac rfl).b zak.b)) (fun hb=>by cases hb) fun _=>?_)
  refine za2 ?_
  ((try dsimp only); refine zap ?_)
  refine zai (zbr (b:=!true || (!true || !decide (D.non = .non))) (ziy (zev (zie (zxa (j:=4) rfl Z.Zbm (.inl ⟨_,rfl,rfl⟩) Z.Zb6))) fun _=>ziy (zev (zie (zxa (j:=4) rfl Z.Zbm (.inr ⟨_,rfl,rfl⟩) Z.Za9))) fun _=>zan (zwg (zac rfl).b)) (fun hb=>by rw [decide_eq_true rfl] at hb; cases hb) (fun _=>?_))
  refine za2 ?_
  ((try dsimp only); refine zap ?_)
  refine zai (zbr (b:=false || false) (ziy (zie (yaq (j:=4) (cs:=[ad0.Zdj,ad0.Zbl,ad0.Zb4]) (tt:=ad0.Zb4) rfl Z.Zbm (fun σ H Q q=>q) (by show 3 <= 1000; decide) Z.Zee)) fun _=>zie (zul (zn6 (j:=4) rfl Z.Zbm Z.Zba).b)) (fun hb=>by cases hb) (fun _=>?_))
  refine za2 ?_
  ((try dsimp only); refine zap ?_)
  refine zaz (d:=.bl (decide ((m : Int) = (m : Int)))) (ze8 (zn6 (j:=4) rfl Z.Zbm Z.Zba).b (zac rfl).b) ?_
  rw [decide_eq_true rfl]
  exact rt
end
theorem lb1 {n : Str} {s : Stmt} {ps : List Str} (hp : ps.length = 1) (h : ∀ (kV doc pm : Value) (an : Option Addr) (cdv ct a0 : Value),Zmu (Zi8 n n (zdf s) (zbf s) (zag s) .none kV doc pm an cdv ct) ⟨[a0],[]⟩ = pure (ps.zip [a0])) : Bd n s ps:=fun kV doc pm an cdv ct us hl=>match us,hl.trans hp with
 | [a0],_=>h kV doc pm an cdv ct a0
theorem lb2 {n : Str} {s : Stmt} {ps : List Str} (hp : ps.length = 2) (h : ∀ (kV doc pm : Value) (an : Option Addr) (cdv ct a0 a1 : Value),Zmu (Zi8 n n (zdf s) (zbf s) (zag s) .none kV doc pm an cdv ct) ⟨[a0,a1],[]⟩ = pure (ps.zip [a0,a1])) : Bd n s ps:=fun kV doc pm an cdv ct us hl=>match us,hl.trans hp with
 | [a0,a1],_=>h kV doc pm an cdv ct a0 a1
theorem lb3 {n : Str} {s : Stmt} {ps : List Str} (hp : ps.length = 3) (h : ∀ (kV doc pm : Value) (an : Option Addr) (cdv ct a0 a1 a2 : Value),Zmu (Zi8 n n (zdf s) (zbf s) (zag s) .none kV doc pm an cdv ct) ⟨[a0,a1,a2],[]⟩ = pure (ps.zip [a0,a1,a2])) : Bd n s ps:=fun kV doc pm an cdv ct us hl=>match us,hl.trans hp with
 | [a0,a1,a2],_=>h kV doc pm an cdv ct a0 a1 a2
theorem lb4 {n : Str} {s : Stmt} {ps : List Str} (hp : ps.length = 4) (h : ∀ (kV doc pm : Value) (an : Option Addr) (cdv ct a0 a1 a2 a3 : Value),Zmu (Zi8 n n (zdf s) (zbf s) (zag s) .none kV doc pm an cdv ct) ⟨[a0,a1,a2,a3],[]⟩ = pure (ps.zip [a0,a1,a2,a3])) : Bd n s ps:=fun kV doc pm an cdv ct us hl=>match us,hl.trans hp with
 | [a0,a1,a2,a3],_=>h kV doc pm an cdv ct a0 a1 a2 a3
theorem lb5 {n : Str} {s : Stmt} {ps : List Str} (hp : ps.length = 5) (h : ∀ (kV doc pm : Value) (an : Option Addr) (cdv ct a0 a1 a2 a3 a4 : Value),Zmu (Zi8 n n (zdf s) (zbf s) (zag s) .none kV doc pm an cdv ct) ⟨[a0,a1,a2,a3,a4],[]⟩ = pure (ps.zip [a0,a1,a2,a3,a4])) : Bd n s ps:=fun kV doc pm an cdv ct us hl=>match us,hl.trans hp with
 | [a0,a1,a2,a3,a4],_=>h kV doc pm an cdv ct a0 a1 a2 a3 a4
theorem Zf4 : Bd "is_whole" zgq ze1:=lb1 rfl fun _ _ _ _ _ _ _=>rfl
theorem Zf5 : Bd "is_block" zgs zfd:=lb2 rfl fun _ _ _ _ _ _ _ _=>rfl
theorem Zgd : Bd "pair_of" zh4 zf7:=lb2 rfl fun _ _ _ _ _ _ _ _=>rfl
theorem Zgl : Bd "is_ring" zfx zft:=lb2 rfl fun _ _ _ _ _ _ _ _=>rfl
theorem Zf3 : Bd "links_of" ze0 zfe:=lb1 rfl fun _ _ _ _ _ _ _=>rfl
theorem Zgt : Bd "gap_of" zju zhz:=lb1 rfl fun _ _ _ _ _ _ _=>rfl
theorem Zf0 : Bd "is_never" ze2 ze7:=lb3 rfl fun _ _ _ _ _ _ _ _ _=>rfl
theorem Zfj : Bd "open_pairs" zds zdo:=lb2 rfl fun _ _ _ _ _ _ _ _=>rfl
theorem Zfs : Bd "is_losing" zfl zee:=lb4 rfl fun _ _ _ _ _ _ _ _ _ _=>rfl
theorem Ze4 : Bd "decided_loss" zdl zcl:=lb2 rfl fun _ _ _ _ _ _ _ _=>rfl
theorem Zfl : Bd "rings_show" zdt zdq:=lb5 rfl fun _ _ _ _ _ _ _ _ _ _ _=>rfl
theorem Zfm : Bd "may_decide" zep zdw:=lb3 rfl fun _ _ _ _ _ _ _ _ _=>rfl
theorem Zfe : Bd "with_choice" zd2 zc3:=lb3 rfl fun _ _ _ _ _ _ _ _ _=>rfl
theorem Zet : Bd "first_decided" zc1 zb8:=lb1 rfl fun _ _ _ _ _ _ _=>rfl
theorem Zeu : Bd "first_weights" zc4 zca:=lb1 rfl fun _ _ _ _ _ _ _=>rfl
theorem Zf8 : Bd "is_shown" zgj zex:=lb5 rfl fun _ _ _ _ _ _ _ _ _ _ _=>rfl
theorem Zgn : Bd "joined" zjh zh7:=lb2 rfl fun _ _ _ _ _ _ _ _=>rfl
theorem Zgv : Bd "keeps" zkv zjy:=lb2 rfl fun _ _ _ _ _ _ _ _=>rfl
theorem Zgm : Bd "loss_of" zib zfr:=lb2 rfl fun _ _ _ _ _ _ _ _=>rfl
theorem Zf6 : Bd "parts_of" zfa zez:=lb3 rfl fun _ _ _ _ _ _ _ _ _=>rfl
theorem Zgg : Bd "case_of" ze3 zgd:=lb3 rfl fun _ _ _ _ _ _ _ _ _=>rfl
theorem Ze8 : Bd "groupings_of" zdm zcr:=lb1 rfl fun _ _ _ _ _ _ _=>rfl
theorem Zev : Bd "best_in_part" zcm zcn:=lb1 rfl fun _ _ _ _ _ _ _=>rfl
theorem Zes : Bd "numbered_anew" zc7 zce:=lb1 rfl fun _ _ _ _ _ _ _=>rfl
theorem Zgc : Bd "best_of" zf8 zf3:=lb3 rfl fun _ _ _ _ _ _ _ _ _=>rfl
theorem Zey : Bd "placed_pairs" zci zck:=lb2 rfl fun _ _ _ _ _ _ _ _=>rfl
theorem Zfo : Bd "is_decided" zeo zdp:=lb4 rfl fun _ _ _ _ _ _ _ _ _ _=>rfl
theorem Zew : Bd "ring_through" zdk zcq:=lb3 rfl fun _ _ _ _ _ _ _ _ _=>rfl
theorem Zfn : Bd "lost_rings" zej zdu:=lb2 rfl fun _ _ _ _ _ _ _ _=>rfl
theorem Ze5 : Bd "placed_paper" zdj za7:=lb3 rfl fun _ _ _ _ _ _ _ _ _=>rfl
theorem Zfk : Bd "held_paper" zel zb9:=lb4 rfl fun _ _ _ _ _ _ _ _ _ _=>rfl
theorem Zfa : Bd "asking_paper" zdn za8:=lb4 rfl fun _ _ _ _ _ _ _ _ _ _=>rfl
theorem Zf1 : Bd "paper_of" zgl ze5:=lb3 rfl fun _ _ _ _ _ _ _ _ _=>rfl
theorem Ze0 (kV doc pm : Value) (an : Option Addr) (cdv ct : Value) (us : List Value) (hl : us.length = (["self", "count"] : List Str).length) : Zmu (Zi8 "__init__" "TooMany.__init__" (zdf Zac) (zbf Zac) (zag Zac) .none kV doc pm an cdv ct) ⟨us,[]⟩ = pure ((["self", "count"] : List Str).zip us):=match us,hl with
 | [_,_],_=>rfl
theorem Zfg : Bd "_law_cell_at" zd4 zda:=lb2 rfl fun _ _ _ _ _ _ _ _=>rfl
theorem Zgj : Bd "_law_row" zh1 zfy:=lb2 rfl fun _ _ _ _ _ _ _ _=>rfl
theorem Zge : Bd "_law_six" zh2 zgc:=lb1 rfl fun _ _ _ _ _ _ _=>rfl
theorem Zf7 : Bd "_law_size" zgn ze9:=lb1 rfl fun _ _ _ _ _ _ _=>rfl
theorem Zgo : Bd "law" zvl zt9:=lb1 rfl fun _ _ _ _ _ _ _=>rfl
theorem all_mk {l : Zov} {w : Zix} {K : Zgy} {mg : Str->Option Value} {fa Zal Zbl Zb4 Zdj Zaa Zci Zce Zdo Zdr Zcn Zd4 Zcp Zbu Zb8 Za8 Zbn Zbt Zbd Zaq Zau Zcv Zdy Zec Zdl Zck Zdd Za7 Zaz Zat Zdg Za4 Zbs Za2 Zbv Zag Zao Zaf Zcx Zah Zbb Zds Zdh Zch Ze7 : Addr} {t_HELD t_MOST_BLOCKS t_PARTED : Tok} {Zcl Zcs Zdk Zde Zco Zd0 Zcj Zbw Zb9 Zax Zbp Zbq Zbe Zav Zas Zcr Zd6 Zeb Zdi Zcf Zda Zay Zab Zar Zdm Za3 Zbo Za6 Zbr Zae Zan Zad Zc0 Zai Zbc Zdn Zdp Zcz Ze1 : Zjq} (hfa : mg "law" = some (.ref fa)) (Zc7 : mg "FolkError" = some (.ref Zal)) (Zer : mg "NoPair" = some (.ref Zbl)) (Zff : mg "NoRow" = some (.ref Zb4)) (Zfz : mg "Odds" = some (.ref Zdj)) (Zd9 : mg "TooMany" = some (.ref Zaa)) (Zcm : XMk K Zaa Zah) (Zbm : XTell K Zaa) (Zcb : XStore K Zaa "count") (Zd1 : CInitB K Zal) (Zbg : Zr1 K (.ref Zaa) (.ref Zal) = some true) (Za9 : Zni K (.ref Zaa) (.type "ValueError") = some true) (Zb6 : Zni K (.ref Zaa) (.ref Zaa) = some true) (Zba : zqr K Zaa "count") (Zee : Zr0 K (.ref Zaa) [.ref Zdj,.ref Zbl,.ref Zb4] = some false) (Zel : mg "HELD" = some (.str (T [104,101,108,100]) t_HELD)) (Zca : mg "MOST_BLOCKS" = some (.int 7 t_MOST_BLOCKS)) (Zcc : mg "PARTED" = some (.str (T [112,97,114,116,101,100]) t_PARTED)) (Zcw : FX K mg "is_whole" zgq ze1 Zci Zcl) (Zb3 : FX K mg "is_block" zgs zfd Zce Zcs) (Zdc : FX K mg "pair_of" zh4 zf7 Zdo Zdk) (Zdb : FX K mg "is_ring" zfx zft Zdr Zde) (Zb1 : FX K mg "links_of" ze0 zfe Zcn Zco) (Zc3 : FX K mg "gap_of" zju zhz Zd4 Zd0) (Zdv : FX K mg "is_never" ze2 ze7 Zcp Zcj) (Zbk : FX K mg "open_pairs" zds zdo Zbu Zbw) (Zc8 : FX K mg "is_losing" zfl zee Zb8 Zb9) (Zb5 : FX K mg "decided_loss" zdl zcl Za8 Zax) (Zct : FX K mg "rings_show" zdt zdq Zbn Zbp) (Zcy : FX K mg "may_decide" zep zdw Zbt Zbq) (Zbf : FX K mg "with_choice" zd2 zc3 Zbd Zbe) (Zbh : FX K mg "first_decided" zc1 zb8 Zaq Zav) (Zbj : FX K mg "first_weights" zc4 zca Zau Zas) (Zdx : FX K mg "is_shown" zgj zex Zcv Zcr) (Zeg : FX K mg "joined" zjh zh7 Zdy Zd6) (Zeo : FX K mg "keeps" zkv zjy Zec Zeb) (Zcd : FX K mg "loss_of" zib zfr Zdl Zdi) (Zdw : FX K mg "parts_of" zfa zez Zck Zcf) (Zd7 : FX K mg "case_of" ze3 zgd Zdd Zda) (Zb2 : FX K mg "groupings_of" zdm zcr Za7 Zay) (Za1 : FX K mg "best_in_part" zcm zcn Zaz Zab) (Zbi : FX K mg "numbered_anew" zc7 zce Zat Zar) (Zc9 : FX K mg "best_of" zf8 zf3 Zdg Zdm) (Za0 : FX K mg "placed_pairs" zci zck Za4 Za3) (Zcq : FX K mg "is_decided" zeo zdp Zbs Zbo) (Zbz : FX K mg "ring_through" zdk zcq Za2 Za6) (Zcu : FX K mg "lost_rings" zej zdu Zbv Zbr) (Zam : FX K mg "placed_paper" zdj za7 Zag Zae) (Zcg : FX K mg "held_paper" zel zb9 Zao Zan) (Zaw : FX K mg "asking_paper" zdn za8 Zaf Zad) (Zbx : FX K mg "paper_of" zgl ze5 Zcx Zc0) (Zc2 : Fun K "__init__" "TooMany.__init__" Zac Zah Zai) (Zc5 : zk6 K Zai ["self", "count"] []) (Zak : FX K mg "_law_cell_at" zd4 zda Zbb Zbc) (Zd8 : FX K mg "_law_row" zh1 zfy Zds Zdn) (Zea : FX K mg "_law_six" zh2 zgc Zdh Zdp) (Zdt : FX K mg "_law_size" zgn ze9 Zch Zcz) (Ze6 : FX K mg "law" zvl zt9 Ze7 Ze1) (Zdz : mg "ValueError" = none) (Zeq : mg "abs" = none) (Zep : mg "all" = none) (Ze3 : mg "bool" = none) (Zfr : mg "dict" = none) (Zb7 : mg "enumerate" = none) (Zgb : mg "int" = none) (Zaj : mg "isinstance" = none) (Zb0 : mg "len" = none) (Zdf : mg "list" = none) (Zed : mg "max" = none) (Zez : mg "min" = none) (Zby : mg "range" = none) (Zgi : mg "set" = none) (Zfp : mg "zip" = none) :
  ∃ fd fl : Zjq,(∀ (s : Zg5) (v : Value),Zp0 s fd ⟨[v],[]⟩ [("_law_script", v)])/\(∃ g oc od osl,mg "best_in_part" = some (.ref g)/\K.lookup g = some ⟨oc,od,.func fl,osl⟩) /\ ∀ (base : Heap) (T0 : Addr),K.In base->base.Ns Zju mg->LamAt base mg fl T0->FnOk l.prog w K mg base CX0 90 fa fd ["_law_script"] (zyh K T0):=by
 have e:=hfa.symm.trans Ze6.M
 cases e
 exact ⟨_,_,Ze6.bt Zgo,Za1.lk,fun base T0 _ _ Y=>yfz (ad0:=⟨Zal,Zbl,Zb4,Zdj,Zaa,Zci,Zce,Zdo,Zdr,Zcn,Zd4,Zcp,Zbu,Zb8,Za8,Zbn,Zbt,Zbd,Zaq,Zau,Zcv,Zdy,Zec,Zdl,Zck,Zdd,Za7,Zaz,Zat,Zdg,Za4,Zbs,Za2,Zbv,Zag,Zao,Zaf,Zcx,Zah,Zbb,Zds,Zdh,Zch,_,_,_,_,Zcl,Zcs,Zdk,Zde,Zco,Zd0,Zcj,Zbw,Zb9,Zax,Zbp,Zbq,Zbe,Zav,Zas,Zcr,Zd6,Zeb,Zdi,Zcf,Zda,Zay,Zab,Zar,Zdm,Za3,Zbo,Za6,Zbr,Zae,Zan,Zad,Zc0,Zai,Zbc,Zdn,Zdp,Zcz,Ze1⟩) ⟨Zc7,Zer,Zff,Zfz,Zd9,Zcm,Zbm,Zcb,Zd1,Zbg,Za9,Zb6,Zba,Zee,Zel,⟨_,rfl⟩,Zca,⟨_,rfl⟩,Zcc,⟨_,rfl⟩,Zcw,Zb3,Zdc,Zdb,Zb1,Zc3,Zdv,Zbk,Zc8,Zb5,Zct,Zcy,Zbf,Zbh,Zbj,Zdx,Zeg,Zeo,Zcd,Zdw,Zd7,Zb2,Za1,Zbi,Zc9,Za0,Zcq,Zbz,Zcu,Zam,Zcg,Zaw,Zbx,Zc2,Zc5,Zak,Zd8,Zea,Zdt,Ze6,Zdz,Zeq,Zep,Ze3,Zfr,Zb7,Zgb,Zaj,Zb0,Zdf,Zed,Zez,Zby,Zgi,Zfp⟩ Y⟩
theorem xm_mk {K : Zgy} {q g : Addr} (_ : Zki K (.ref q) "__init__" = some (some (.ref g))) (xi : L2.excInI K q L2.vmro "ValueError.__new__" g = true) (mf : Zof K (.ref g) = true) (mc : Zj7 K (.ref q) = true) : L2.XMk K q g:=⟨xi,mf,mc⟩
theorem walk {l : Zov} {q : Zhz} {loose : List Str} {XP : (Str->Option Value)->Heap->Prop} {YP : Zix->Heap->Prop} {d : DefRec} {K : Params->Zgy} (hn : l.most = some 63) (hdf : d.params.defaults = [])
  (hY : ∀ (w : Zix) (h : Heap),YP w h->(K w.params).In h) (hrec : ((recsOf q).find? fun e=>e.name == ("best_in_part" : Str)).isSome = true) (hno : ∀ p,PySem.W.noTabs (K p) = true)
  (F : ∀ (w : Zix) (mg : Str->Option Value) (fa : Addr) (h : Heap),(K w.params).In h->h.Ns Zju mg->mg d.name = some (.ref fa) ->
   ∃ fd fl : Zjq,(∀ (s : Zg5) (u : Value),Zp0 s fd ⟨[u],[]⟩ [("_law_script", u)])/\(∃ g oc od osl,mg "best_in_part" = some (.ref g)/\(K w.params).lookup g = some ⟨oc,od,.func fl,osl⟩) /\ ∀ (base : Heap) (T0 : Addr),(K w.params).In base->base.Ns Zju mg->LamAt base mg fl T0->FnOk l.prog w (K w.params) mg base CX0 90 fa fd ["_law_script"] (zyh (K w.params) T0)) :
  Zsl q loose XP YP l.row.toRowW d [] (fun f vs=>Zrs f vs) :=
 L2.walk_ofT (n:=63) (k:=90) (x:="_law_script") (nm:="best_in_part") (pos:=lamP) (lq:=lamQ) (CX:=CX0) (sp:=zyh) hn (by decide) hdf ⟨rfl,by decide,by decide,rfl⟩ hY hrec hno F (fun _ _ a T ns hl hS hT=>⟨a,ns,rfl,hS,hl,hT,fun _ sm=>⟨rfl,sm _ _ hT⟩⟩) fun _ _ _ _ z=>z
end My
namespace PySem.W.Fast
noncomputable def tw8679631392975375581 : Unit:=()
noncomputable def tw13307007476809543510 : Unit:=()
noncomputable def tw7528696391528652174 : Unit:=()
noncomputable def tw6563784467411813975 : Unit:=()
noncomputable def tw15853342090043880334 : Unit:=()
noncomputable def tw12598748636472146421 : Unit:=()
noncomputable def tw17927961079767723902 : Unit:=()
noncomputable def tw11474082901703422614 : Unit:=()
noncomputable def tw9761502511947143265 : Unit:=()
noncomputable def tw13875364649670038359 : Unit:=()
noncomputable def tw10488955183577707162 : Unit:=()
noncomputable def tw12512475936641671651 : Unit:=()
noncomputable def tw1955143366717344595 : Unit:=()
noncomputable def tw10310978971647773408 : Unit:=()
noncomputable def tw7768205411341139420 : Unit:=()
noncomputable def tw8901098662134380913 : Unit:=()
noncomputable def tw8776189469642152246 : Unit:=()
noncomputable def tw15926589280627658831 : Unit:=()
noncomputable def tw15038009263571768104 : Unit:=()
noncomputable def tw10672903146534360921 : Unit:=()
noncomputable def tw5743543265624373811 : Unit:=()
noncomputable def tw17742647970631548426 : Unit:=()
noncomputable def tw16565817997849775232 : Unit:=()
noncomputable def tw10412212016129789922 : Unit:=()
noncomputable def tw18293749787733178094 : Unit:=()
noncomputable def tw18028567963165245548 : Unit:=()
noncomputable def tw4642241340029716184 : Unit:=()
noncomputable def tw18094935471319085871 : Unit:=()
noncomputable def tw14419597585012261662 : Unit:=()
noncomputable def tw18330512398423329058 : Unit:=()
noncomputable def tw5870463973118516614 : Unit:=()
noncomputable def tw16234485295957642035 : Unit:=()
noncomputable def tw16481840793703200184 : Unit:=()
noncomputable def tw13852727064153899159 : Unit:=()
noncomputable def tw11291165548745366908 : Unit:=()
noncomputable def tw3280915937971410742 : Unit:=()
noncomputable def tw17915931383642676814 : Unit:=()
noncomputable def tw13989774352383900753 : Unit:=()
noncomputable def tw5309580803815505839 : Unit:=()
noncomputable def tw12549873362204167258 : Unit:=()
noncomputable def tw8087993490001216296 : Unit:=()
noncomputable def tw17237064664987809679 : Unit:=()
noncomputable def tw109743578937434049 : Unit:=()
noncomputable def tw7895993046753162955 : Unit:=()
noncomputable def tw2145203945740382103 : Unit:=()
end PySem.W.Fast
open PySem PySem.W PyProof.Rows
set_option maxRecDepth 100000 in
set_option maxHeartbeats 0 in
theorem PySem.Challenge.cw_folk_k41_papers_of_too_many_holds : PySem.Challenge.rw_folk_k41_papers_of_too_many.Holds := by
 w_on; o_law; k_head; (case hw=>w_witness2)
 k_fill
 refine My.walk (l:=Zlu) rfl rfl (fun w h Y=>PySem.W.km_in_of Y) rfl (fun p=>by kernel_rfl) ?F
 case F =>
  intro w mg fa h KX G hmg
  refine' My.all_mk hmg (mg_of KX G ?a_FolkError) (mg_of KX G ?a_NoPair) (mg_of KX G ?a_NoRow) (mg_of KX G ?a_Odds) (mg_of KX G ?a_TooMany) (My.xm_mk ?me_TooMany_init ?xi_TooMany ?mf33 ?mc_TooMany) ⟨?t0_TooMany,?t1_TooMany,?t2_TooMany,?t3_TooMany,?t4_TooMany,?t5_TooMany,?t6_TooMany,?t7_TooMany⟩ ⟨?xs0_TooMany,?xs1_TooMany,?xs2_TooMany,?xs3_TooMany,?xi4_TooMany⟩ ⟨?cb0_FolkError,?cb1_FolkError,?cb2_FolkError⟩ (?h_TooMany_FolkError) (?i_TooMany_ValueError) (?i_TooMany_TooMany) ((show Zki _ _ _ = some none from ?na_TooMany_count)) (?ia_TooMany) (mg_of KX G ?a_HELD) (mg_of KX G ?a_MOST_BLOCKS) (mg_of KX G ?a_PARTED) (L2.fx_mk KX G My.Zf4 ?a0 ?l0 ?c0 ?k0) (L2.fx_mk KX G My.Zf5 ?a1 ?l1 ?c1 ?k1) (L2.fx_mk KX G My.Zgd ?a2 ?l2 ?c2 ?k2) (L2.fx_mk KX G My.Zgl ?a3 ?l3 ?c3 ?k3) (L2.fx_mk KX G My.Zf3 ?a4 ?l4 ?c4 ?k4) (L2.fx_mk KX G My.Zgt ?a5 ?l5 ?c5 ?k5) (L2.fx_mk KX G My.Zf0 ?a6 ?l6 ?c6 ?k6) (L2.fx_mk KX G My.Zfj ?a7 ?l7 ?c7 ?k7) (L2.fx_mk KX G My.Zfs ?a8 ?l8 ?c8 ?k8) (L2.fx_mk KX G My.Ze4 ?a9 ?l9 ?c9 ?k9) (L2.fx_mk KX G My.Zfl ?a10 ?l10 ?c10 ?k10) (L2.fx_mk KX G My.Zfm ?a11 ?l11 ?c11 ?k11) (L2.fx_mk KX G My.Zfe ?a12 ?l12 ?c12 ?k12) (L2.fx_mk KX G My.Zet ?a13 ?l13 ?c13 ?k13) (L2.fx_mk KX G My.Zeu ?a14 ?l14 ?c14 ?k14) (L2.fx_mk KX G My.Zf8 ?a15 ?l15 ?c15 ?k15) (L2.fx_mk KX G My.Zgn ?a16 ?l16 ?c16 ?k16) (L2.fx_mk KX G My.Zgv ?a17 ?l17 ?c17 ?k17) (L2.fx_mk KX G My.Zgm ?a18 ?l18 ?c18 ?k18) (L2.fx_mk KX G My.Zf6 ?a19 ?l19 ?c19 ?k19) (L2.fx_mk KX G My.Zgg ?a20 ?l20 ?c20 ?k20) (L2.fx_mk KX G My.Ze8 ?a21 ?l21 ?c21 ?k21) (L2.fx_mk KX G My.Zev ?a22 ?l22 ?c22 ?k22) (L2.fx_mk KX G My.Zes ?a23 ?l23 ?c23 ?k23) (L2.fx_mk KX G My.Zgc ?a24 ?l24 ?c24 ?k24) (L2.fx_mk KX G My.Zey ?a25 ?l25 ?c25 ?k25) (L2.fx_mk KX G My.Zfo ?a26 ?l26 ?c26 ?k26) (L2.fx_mk KX G My.Zew ?a27 ?l27 ?c27 ?k27) (L2.fx_mk KX G My.Zfn ?a28 ?l28 ?c28 ?k28) (L2.fx_mk KX G My.Ze5 ?a29 ?l29 ?c29 ?k29) (L2.fx_mk KX G My.Zfk ?a30 ?l30 ?c30 ?k30) (L2.fx_mk KX G My.Zfa ?a31 ?l31 ?c31 ?k31) (L2.fx_mk KX G My.Zf1 ?a32 ?l32 ?c32 ?k32) (L2.fun_mk (st:=My.Zac) ?l33 ?c33 ?k33) ((L2.fun_mk (st:=My.Zac) ?l33 ?c33 ?k33).binds My.Ze0) (L2.fx_mk KX G My.Zfg ?a34 ?l34 ?c34 ?k34) (L2.fx_mk KX G My.Zgj ?a35 ?l35 ?c35 ?k35) (L2.fx_mk KX G My.Zge ?a36 ?l36 ?c36 ?k36) (L2.fx_mk KX G My.Zf7 ?a37 ?l37 ?c37 ?k37) (L2.fx_mk KX G My.Zgo ?a38 ?l38 ?c38 ?k38) (mg_none_of KX G ?y_ValueError) (mg_none_of KX G ?y_abs) (mg_none_of KX G ?y_all) (mg_none_of KX G ?y_bool) (mg_none_of KX G ?y_dict) (mg_none_of KX G ?y_enumerate) (mg_none_of KX G ?y_int) (mg_none_of KX G ?y_isinstance) (mg_none_of KX G ?y_len) (mg_none_of KX G ?y_list) (mg_none_of KX G ?y_max) (mg_none_of KX G ?y_min) (mg_none_of KX G ?y_range) (mg_none_of KX G ?y_set) (mg_none_of KX G ?y_zip)
  (case a_FolkError | a_NoPair | a_NoRow | a_Odds | a_TooMany | me_TooMany_init | a_HELD | a_MOST_BLOCKS | a_PARTED | a0 | l0 | c0 | k0 | a1 | l1 | c1 | k1 | a2 | l2 | c2 | k2 | a3 | l3 | c3 | k3 | a4 | l4 | c4 | k4 | a5 | l5 | c5 | k5 | a6 | l6 | c6 | k6 | a7 | l7 | c7 | k7 | a8 | l8 | c8 | k8 | a9 | l9 | c9 | k9 | a10 | l10 | c10 | k10 | a11 | l11 | c11 | k11 | a12 | l12 | c12 | k12 | a13 | l13 | c13 | k13 | a14 | l14 | c14 | k14 | a15 | l15 | c15 | k15 | a16 | l16 | c16 | k16 | a17 | l17 | c17 | k17 | a18 | l18 | c18 | k18 | a19 | l19 | c19 | k19 | a20 | l20 | c20 | k20 | a21 | l21 | c21 | k21 | a22 | l22 | c22 | k22 | a23 | l23 | c23 | k23 | a24 | l24 | c24 | k24 | a25 | l25 | c25 | k25 | a26 | l26 | c26 | k26 | a27 | l27 | c27 | k27 | a28 | l28 | c28 | k28 | a29 | l29 | c29 | k29 | a30 | l30 | c30 | k30 | a31 | l31 | c31 | k31 | a32 | l32 | c32 | k32 | l33 | c33 | k33 | mf33 | a34 | l34 | c34 | k34 | a35 | l35 | c35 | k35 | a36 | l36 | c36 | k36 | a37 | l37 | c37 | k37 | a38 | l38 | c38 | k38=>k_is)
  (case xi_TooMany=>kernel_rfl)
  (case mc_TooMany | t0_TooMany | t1_TooMany | t2_TooMany | t3_TooMany | t4_TooMany | t5_TooMany | t6_TooMany | t7_TooMany | xs0_TooMany | xs1_TooMany | xs2_TooMany | xs3_TooMany=>k_is)
  (case xi4_TooMany=>kernel_rfl)
  (case cb0_FolkError | cb1_FolkError | cb2_FolkError=>k_is)
  (case h_TooMany_FolkError=>kts_exm)
  (case i_TooMany_ValueError | i_TooMany_TooMany=>kit_is)
  (case na_TooMany_count=>k_is)
  (case ia_TooMany=>kit_is)
  (case y_ValueError | y_abs | y_all | y_bool | y_dict | y_enumerate | y_int | y_isinstance | y_len | y_list | y_max | y_min | y_range | y_set | y_zip=>k_is)
